import PyProof.Rows.All
import Wide.All
import OpenK.AllK
import Wide.FinOn
import Lean
import PyProof.EqAt
import PyProof.EqKinds
import PyProof.TupleCall
import PyProof.ExcArgsOwn
import KE.KTryMore
import PyProof.NsDelKeeps
import PyProof.ConsumeWalk
import PyProof.ZipIter
import PyProof.WalksEnum
import PyProof.EnumMake
import PyProof.NeKinds
import PyProof.CompMap
import PyProof.DictWalks
import KE.KLam
import KE.KRevIter
import PyProof.ListRange
import PyProof.AttrMissHeap
import KE.KDictOf
import PySem.Challenge.RW_oneleash_k33_free_by_fields
section
set_option Elab.async false
set_option linter.all false
set_option maxRecDepth 100000
namespace L2
open PySem PySem.Spec PyProof.Rows
abbrev Key:=Sum Int Str
def jR:Key->Value->Bool
 | .inl k,v=>Value.isInt k v
 | .inr x,v=>Value.isStrOf x v
def xg(w:World):Key->Int
 | .inl k=>hashInt k
 | .inr x=>hashStr w x
theorem bP:∀{k:Key} {v:Value},jR k v=true->(∃i t,k=Sum.inl i∧v=Value.int i t)∨(∃x t,k=Sum.inr x∧v=Value.str x t)
 | .inl i,v,h=>by
  obtain⟨t,e⟩:=Value.isInt_shape (k:=i) (v:=v) h;exact .inl ⟨i,t,rfl,e⟩
 | .inr x,v,h=>by
  obtain⟨t,e⟩:=Value.isStrOf_shape (x:=x) (v:=v) h;exact .inr ⟨x,t,rfl,e⟩
theorem pN(i:Int)(t:Tok):jR (.inl i) (.int i t)=true:=by simp[jR,Value.isInt]
theorem pM(x:Str)(t:Tok):jR (.inr x) (.str x t)=true:=by simp[jR,Value.isStrOf]
theorem vn(a b:Int):decide ((Sum.inl a:Key)=Sum.inl b)=(a == b):=by
 by_cases e:a=b
 ·subst e;simp
 ·have h:¬(Sum.inl a:Key)=Sum.inl b:=fun q=>e (Sum.inl.inj q)
  rw[decide_eq_false h];exact(beq_eq_false_iff_ne.mpr e).symm
theorem vj(a b:Str):decide ((Sum.inr a:Key)=Sum.inr b)=decide (a=b):=by
 by_cases e:a=b
 ·subst e;simp
 ·have h:¬(Sum.inr a:Key)=Sum.inr b:=fun q=>e (Sum.inr.inj q)
  rw[decide_eq_false h,decide_eq_false e]
theorem vm(a:Int)(b:Str):decide ((Sum.inl a:Key)=Sum.inr b)=false:=decide_eq_false (fun q=>nomatch q)
theorem vk(a:Str)(b:Int):decide ((Sum.inr a:Key)=Sum.inl b)=false:=decide_eq_false (fun q=>nomatch q)
def cg(prog:Program)(w:World):PySem.KeyKind prog w Key where
 is:=jR
 hash:=xg w
 inj:=fun v a b ha hb=>by
  rcases bP ha with⟨i,t,rfl,rfl⟩|⟨x,t,rfl,rfl⟩
  ·rcases bP hb with⟨j,u,rfl,e⟩|⟨y,u,rfl,e⟩
   ·injection e with e1 _;rw[e1]
   ·exact nomatch e
  ·rcases bP hb with⟨j,u,rfl,e⟩|⟨y,u,rfl,e⟩
   ·exact nomatch e
   ·injection e with e1 _;rw[e1]
 byValue:=fun k v h=>by
  rcases bP h with⟨i,t,rfl,rfl⟩|⟨x,t,rfl,rfl⟩ <;> rfl
 pyHash:=fun hv h=>by
  rcases bP hv with⟨i,t,rfl,rfl⟩|⟨x,t,rfl,rfl⟩
  ·exact wpAny_pyHash_int h
  ·exact wpAny_pyHash_str h
 eqBool:=fun hu hv h=>by
  rcases bP hu with⟨i,t,rfl,rfl⟩|⟨x,t,rfl,rfl⟩
  ·rcases bP hv with⟨j,u,rfl,rfl⟩|⟨y,u,rfl,rfl⟩
   ·rw[vn]at h;exact wpAny_eqBool_int h
   ·rw[vm]at h;exact SeqAt.EqAt.int_str i t y u _ _ _ _ h
  ·rcases bP hv with⟨j,u,rfl,rfl⟩|⟨y,u,rfl,rfl⟩
   ·rw[vk]at h;exact SeqAt.EqAt.str_int x t j u _ _ _ _ h
   ·rw[vj]at h;exact wpAny_eqBool_str h
 «strs»:=fun k x t v h=>by
  rcases bP h with⟨i,u,rfl,e⟩|⟨y,u,rfl,e⟩
  ·exact nomatch e
  ·injection e with e1 _
   subst e1;cases v <;> rfl
theorem lR(prog:Program)(w:World)(i:Int)(t:Tok):(cg prog w).is (.inl i) (.int i t)=true:=pN i t
theorem lQ(prog:Program)(w:World)(x:Str)(t:Tok):(cg prog w).is (.inr x) (.str x t)=true:=pM x t
end L2
namespace L2
open PySem PySem.Spec PyProof.Rows
inductive V where
 | non|bl (b:Bool)|int (i:Int)|str (x:Str)|byt (b:Array UInt8)|flt (b:UInt64)|ref (a:Addr)|ty (n:String)
 deriving DecidableEq
def aS:V->Value->Prop
 | .non,u=>u=Value.none
 | .bl b,u=>u=Value.bool b
 | .int i,u=>∃t,u=Value.int i t
 | .str x,u=>∃t,u=Value.str x t
 | .byt b,u=>∃t,u=Value.bytes b t
 | .flt b,u=>∃t,u=Value.float b t
 | .ref a,u=>u=Value.ref a
 | .ty n,u=>u=Value.type n
abbrev aP:List V->List Value->Prop:=Paired aS
theorem aP.length{xs:List V}{us:List Value}(r:aP xs us):xs.length=us.length:=Paired.length r
theorem aP.get:∀{xs:List V} {us:List Value} {i:Nat} {x:V},aP xs us->xs[i]? = some x->∃u,us[i]? = some u∧aS x u
 | _,_,_,_,.nil,e=>by simp at e
 | _,_,0,_,.cons r _,e=>by simp at e;subst e;exact⟨_,rfl,r⟩
 | _,_,i+1,x,.cons _ t,e=>by
  obtain⟨u,h1,h2⟩:=aP.get (i:=i) (x:=x) t (by simpa using e);exact⟨u,by simpa using h1,h2⟩
theorem aP.set{x:V}{u:Value}(r:aS x u):∀{xs:List V} {us:List Value} (i:Nat),aP xs us->aP (xs.set i x) (us.set i u)
 | _,_,_,.nil=>.nil
 | _,_,0,.cons _ t=>.cons r t
 | _,_,i+1,.cons q t=>.cons q (aP.set r i t)
theorem aP.append:∀{xs ys:List V} {us ws:List Value},aP xs us->aP ys ws->aP (xs++ys) (us++ws)
 | _,_,_,_,.nil,s=>s
 | _,_,_,_,.cons r t,s=>.cons r (aP.append t s)
theorem aP.take:∀{xs:List V} {us:List Value} (n:Nat),aP xs us->aP (xs.take n) (us.take n)
 | _,_,0,_=>.nil
 | _,_,_+1,.nil=>.nil
 | _,_,n+1,.cons r t=>.cons r (aP.take n t)
theorem aP.drop:∀{xs:List V} {us:List Value} (n:Nat),aP xs us->aP (xs.drop n) (us.drop n)
 | _,_,0,r=>r
 | _,_,_+1,.nil=>.nil
 | _,_,n+1,.cons _ t=>aP.drop n t
def gS:Option V->Option Value->Prop
 | some v,some u=>aS v u
 | none,none=>True
 | _,_=>False
def KV{κ:Type}:List (κ×V)->List (κ×Value)->Prop:=Paired fun (p:κ×V) (q:κ×Value)=>p.1=q.1∧aS p.2 q.2
def kV:Key->V
 | .inl i=>.int i
 | .inr x=>.str x
inductive HO where
 /-- a list -/
 | lst (xs:List V)
 /-- a tuple (never changes) -/
 | tup (xs:List V)
 /-- a dict whose keys are ints and texts;one whose keys are tuples of ints and texts (the empty one is both) -/
 | dK (kvs:List (Key×V))|dT (kvs:List (List Key×V))
 /-- a set of ints: its members,its size -/
 | set (S:Int->Bool) (n:Nat)
 /-- an instance of the class at C,its dict at dx,its attributes -/
 | ins (C dx:Addr) (fs:List (Str×V))
 /-- the dict of the instance at x -/
 | own (x:Addr)
 /-- the dict of an exception -/
 | xd (fs:List (Str×V))
 /-- a bound method,f of x -/
 | met (f x:Addr)
 /-- a range object lo,lo+1,.. uE hi -/
 | rng (lo hi:Int)
 /-- a thing that is known to the object (the script;a dict while a loop walks it): read,never written while it is so -/
 | frz (o:Obj) (u:HO)
 /-- a code object's table -/
 | tbl (ps:Array Value)
 /-- any other thing,by what is true of its one object (a def of one's own: SetO a S n:=HO.ext fun h=>..) -/
 | ext (φ:Heap->Prop)
abbrev Hp:=Addr->Option HO
def upd(H:Hp)(a:Addr)(o:HO):Hp:=fun b=>if b=a then some o else H b
theorem upd_same{H:Hp}{a:Addr}{o:HO}:upd H a o a=some o:=by unfold upd;rw[if_pos rfl]
theorem aM{H:Hp}{a b:Addr}{o:HO}(h:b≠a):upd H a o b=H b:=by unfold upd;rw[if_neg h]
theorem oo{H:Hp}{a b:Addr}{o u:HO}(h:H a=some o)(h':H b=some u)(d:o≠u):a≠b:=by
 intro e;subst e;rw[h]at h';exact d (Option.some.inj h')
theorem aV{H:Hp}{a b:Addr}{o:HO}(h:H a=some o)(h':H b=none):a≠b:=by
 intro e;subst e;rw[h]at h';cases h'
section
variable (P:Program) (w:World)
def bI(H:Hp)(h:Heap)(a:Addr):HO->Prop
 | .lst xs=>xs.length≤sizeLine∧∃(its:List Value) (n:Nat),aP xs its∧h.get? a=some { cls:=.type "list",data:=.seq its.toArray n }
 | .tup xs=>xs.length≤sizeLine∧∃its:List Value,aP xs its∧IsTup h a its.toArray
 | .dK kvs=>kvs.length≤sizeLine∧(a == sysModules)=false∧∃vs,KV kvs vs∧h.DictOf (cg P w) a vs
 | .dT kvs=>kvs.length≤sizeLine∧(a == sysModules)=false∧∃xs:List (List Key×Addr×Value),
   Paired (fun (p:List Key×V) (q:List Key×Addr×Value)=>p.1=q.1∧H q.2.1=some (.tup (p.1.map kV))∧aS p.2 q.2.2) kvs xs ∧
   ∃o es ep,h.get? a=some o∧o.ExactDict∧o.data = .dict es ep∧es.toList=xs.map (entryOfKey (tupleKind (cg P w)))∧(xs.map (·.1)).Nodup
 | .set S n=>h.SetOf (intKind P w) a S n
 | .ins C dx fs=>H dx=some (.own a)∧fs.length≤1000∧dx≠a∧h.get? a=some (W.instObj C dx) ∧
   ∃mA,h.Ns1 dx mA∧(∀f,gS (fs.lookup f) (mA f))∧PySem.Within mA (fs.map (·.1))
 | .own _=>∃o,h.get? a=some o
 | .xd fs=>∃mA,h.Ns1 a mA∧∀f,gS (fs.lookup f) (mA f)
 | .rng lo hi=>∃t u v,h.get? a=some { cls:=.type "range",data:=.fields #[.int lo t,.int hi u,.int 1 v] }
 | .frz o u=>h.get? a=some o∧bI H h a u
 | .tbl ps=>h.get? a=some { cls:=.none,data:=.fields ps }
 | .met f x=>h.get? a=some (W.methodObj (.ref f) (.ref x))
 | .ext φ=>φ h∧(∃o,h.get? a=some o)∧∀h1 h2:Heap,φ h1->(∀o,h1.get? a=some o->h2.get? a=some o)->φ h2
def HOk(H:Hp)(h:Heap):Prop:=∀a o,H a=some o->bI P w H h a o
end
section
variable {P:Program} {w:World} {H H':Hp} {h h':Heap} {a:Addr} {o:HO}
theorem bI.lt(x:bI P w H h a o):a<h.objs.size:=by
 cases o with
 | lst xs=>obtain⟨_,_,_,_,e⟩:=x;exact Heap.lt_size e
 | tup xs=>obtain⟨_,_,_,p⟩:=x;exact p.lt
 | dK kvs=>obtain⟨_,_,_,_,o,_,_,e,_⟩:=x;exact Heap.lt_size e
 | dT kvs=>obtain⟨_,_,_,_,o,_,_,e,_⟩:=x;exact Heap.lt_size e
 | set S n=>obtain⟨o,_,_,_,e,_⟩:=x;exact Heap.lt_size e
 | ins C dx fs=>obtain⟨_,_,_,e,_⟩:=x;exact Heap.lt_size e
 | own y=>obtain⟨_,e⟩:=x;exact Heap.lt_size e
 | xd fs=>obtain⟨_,⟨_,_,_,e,_⟩,_⟩:=x;exact Heap.lt_size e
 | rng lo hi=>obtain⟨_,_,_,e⟩:=x;exact Heap.lt_size e
 | frz ob u=>obtain⟨e,_⟩:=x;exact Heap.lt_size e
 | tbl ps=>exact Heap.lt_size (show h.get? a=some _ from x)
 | met f y=>exact Heap.lt_size (show h.get? a=some _ from x)
 | ext φ=>obtain⟨_,⟨_,e⟩,_⟩:=x;exact Heap.lt_size e
theorem Paired.mapP{α β:Type}{F G:α->β->Prop}:∀{l₁:List α} {l₂:List β},Paired F l₁ l₂->(∀a b,F a b->G a b)->Paired G l₁ l₂
 | _,_,.nil,_=>.nil
 | _,_,.cons r t,f=>.cons (f _ _ r) (Paired.mapP t f)
theorem bI.stay(x:bI P w H h a o)(k:∀b u,(b=a∨H b=some (.own a))->h.get? b=some u->h'.get? b=some u)
  (ho:∀b,H b=some (.own a)->H' b=some (.own a)) (ht:∀b xs,H b=some (.tup xs)->H' b=some (.tup xs)):bI P w H' h' a o:=by
 induction o with
 | lst xs=>obtain⟨z,its,n,r,e⟩:=x;exact⟨z,its,n,r,k _ _ (.inl rfl) e⟩
 | tup xs=>obtain⟨z,its,r,ob,e,c⟩:=x;exact⟨z,its,r,ob,k _ _ (.inl rfl) e,c⟩
 | dK kvs=>obtain⟨z,y,vs,r,ob,es,ep,e,c⟩:=x;exact⟨z,y,vs,r,ob,es,ep,k _ _ (.inl rfl) e,c⟩
 | dT kvs =>
  obtain⟨z,y,xs,r,ob,es,ep,e,c⟩:=x;exact⟨z,y,xs,Paired.mapP r fun p q z=>⟨z.1,ht _ _ z.2.1,z.2.2⟩,ob,es,ep,k _ _ (.inl rfl) e,c⟩
 | set S n=>obtain⟨ob,es,ep,t,e,c⟩:=x;exact⟨ob,es,ep,t,k _ _ (.inl rfl) e,c⟩
 | ins C dx fs =>
  obtain⟨d,z,ne,e,mA,⟨od,es,ep,e2,c⟩,r⟩:=x;exact⟨ho _ d,z,ne,k _ _ (.inl rfl) e,mA,⟨od,es,ep,k _ _ (.inr d) e2,c⟩,r⟩
 | own y=>obtain⟨ob,e⟩:=x;exact⟨ob,k _ _ (.inl rfl) e⟩
 | xd fs=>obtain⟨mA,⟨od,es,ep,e,c⟩,r⟩:=x;exact⟨mA,⟨od,es,ep,k _ _ (.inl rfl) e,c⟩,r⟩
 | rng lo hi=>obtain⟨t,u,v,e⟩:=x;exact⟨t,u,v,k _ _ (.inl rfl) e⟩
 | frz ob u ih=>obtain⟨e,q⟩:=x;exact⟨k _ _ (.inl rfl) e,ih q⟩
 | tbl ps =>
  have e:h.get? a=some { cls:=.none,data:=.fields ps }:=x;show h'.get? a=some { cls:=.none,data:=.fields ps };exact k a _ (.inl rfl) e
 | met f y =>
  have e:h.get? a=some (W.methodObj (.ref f) (.ref y)):=x;show h'.get? a=some (W.methodObj (.ref f) (.ref y));exact k a _ (.inl rfl) e
 | ext φ=>obtain⟨p,⟨o,e⟩,st⟩:=x;exact⟨st _ _ p fun o q=>k _ _ (.inl rfl) q,⟨o,k _ _ (.inl rfl) e⟩,st⟩
theorem HOk.lt(x:HOk P w H h)(e:H a=some o):a<h.objs.size:=(x a o e).lt
theorem HOk.fresh(x:HOk P w H h)(e:h.objs.size≤a):H a=none:=by
 cases q:H a with
 | none=>rfl
 | some u=>exact absurd (Nat.lt_of_lt_of_le (x.lt q) e) (Nat.lt_irrefl _)
theorem HOk.kept(x:HOk P w H h)(k:∀b u,h.get? b=some u->h'.get? b=some u):HOk P w H h':=fun a o e =>
 (x a o e).stay (fun b u _ q=>k b u q) (fun _ q=>q) fun _ _ q=>q
theorem HOk.laid(x:HOk P w H h)(k:∀b u,h.get? b=some u->h'.get? b=some u)(hp:h.objs.size≤a)(new:bI P w (upd H a o) h' a o):HOk P w (upd H a o) h':=fun b u e=>by
 have hn:=x.fresh hp
 by_cases hb:b=a
 ·subst hb;rw[upd_same]at e;cases e;exact new
 ·rw[aM hb]at e
  exact(x b u e).stay (fun c v _ q=>k c v q) (fun c q=>by rw[aM (aV q hn)];exact q) fun c xs q=>by rw[aM (aV q hn)];exact q
end
def Rd(H:Hp)(a:Addr)(u:HO):Prop:=H a=some u∨∃o,H a=some (.frz o u)
theorem Rd.ok{P:Program}{w:World}{H:Hp}{h:Heap}{a:Addr}{u:HO}(r:Rd H a u)(x:HOk P w H h):bI P w H h a u:=by
 rcases r with r|⟨o,r⟩
 ·exact x a u r
 ·obtain⟨_,q⟩:=x a _ r
  exact q
def Mut:Option HO->Prop
 | some (.lst _)=>True
 | some (.dK _)=>True
 | some (.dT _)=>True
 | some (.set _ _)=>True
 | some (.ins _ _ _)=>True
 | some (.ext _)=>True
 | _=>False
section
variable {P:Program} {w:World} {H:Hp} {h h':Heap} {x e:Addr} {o':HO}
theorem HOk.write(ok:HOk P w H h)(mu:Mut (H x))(he:e=x∨H e=some (.own x))(k:∀b u,b≠e->h.get? b=some u->h'.get? b=some u)(heo:∃u,h'.get? e=some u)
  (new:bI P w (upd H x o') h' x o'):HOk P w (upd H x o') h':=fun b u q=>by
 have nown:∀c y,H c=some (.own y)->c≠x:=fun c y r z=>by subst z;rw[r]at mu;exact mu
 have ntup:∀c xs,H c=some (.tup xs)->c≠x:=fun c xs r z=>by subst z;rw[r]at mu;exact mu
 by_cases hb:b=x
 ·subst hb;rw[upd_same]at q;cases q;exact new
 ·rw[aM hb]at q
  by_cases hbe:b=e
  ·have q':H b=some (.own x):=by
    rcases he with z|z
    ·exact absurd (hbe.trans z) hb
    ·rw[hbe];exact z
   rw[q]at q';cases q';obtain⟨v,hv⟩:=heo;exact⟨v,by rw[hbe];exact hv⟩
  ·refine(ok b u q).stay (fun c v hc r=>k c v ?_ r) (fun c r=>by rw[aM (nown c b r)];exact r) fun c xs r=>by rw[aM (ntup c xs r)];exact r
   rcases hc with rfl|hc
   ·exact hbe
   ·rintro rfl
    rcases he with z|z
    ·exact nown c b hc z
    ·rw[hc]at z;cases z;exact hb rfl
end
structure Un(fs ex:List Addr)(H H':Hp)(h h':Heap):Prop where
 keep:∀b o,h.get? b=some o->H b=none->b∉fs->b∉ex->h'.get? b=some o
 slot:∀b o,h.get? b=some o->H b=none->b∈fs->b∉ex->∃sl,h'.get? b=some { o with slots:=sl }
 free:∀b o,h.get? b=some o->H b=none->b∉ex->H' b=none
 there:∀b o,h.get? b=some o->b∉ex->∃o',h'.get? b=some o'
 tups:∀b xs,H b=some (.tup xs)->H' b=some (.tup xs)
 frzs:∀b o u,H b=some (.frz o u)->H' b=some (.frz o u)
 tbls:∀b ps,H b=some (.tbl ps)->∃more,H' b=some (.tbl (ps++more))
section
variable {fs fs' ex ex':List Addr} {H H1 H2:Hp} {h h1 h2 h':Heap} {a x e:Addr} {o:HO}
theorem Un.any(u:Un fs ex H H1 h h1){b:Addr}{ob:Obj}(q:h.get? b=some ob)(n:H b=none)(hx:b∉ex):∃sl,h1.get? b=some { ob with slots:=sl }:=by
 by_cases hb:b∈fs
 ·exact u.slot b ob q n hb hx
 ·exact⟨ob.slots,u.keep b ob q n hb hx⟩
theorem Un.kept(k:∀b u,h.get? b=some u->h'.get? b=some u):Un fs ex H H h h' :=
 ⟨fun b ob q _ _ _=>k b ob q,fun b ob q _ _ _=>⟨ob.slots,k b ob q⟩,fun _ _ _ n _=>n,fun b ob q _=>⟨ob,k b ob q⟩,fun _ _ q=>q,fun _ _ _ q=>q,fun _ ps q=>⟨#[],by rw[q];simp⟩⟩
theorem Un.refl:Un fs ex H H h h:=Un.kept fun _ _ q=>q
theorem Un.laid(k:∀b u,h.get? b=some u->h'.get? b=some u)(hp:h.objs.size≤a)(hn:H a=none):Un fs ex H (upd H a o) h h' where
 keep:=fun b u q _ _ _=>k b u q
 slot:=fun b u q _ _ _=>⟨u.slots,k b u q⟩
 free:=fun b u q n _=>by rw[aM (Nat.ne_of_lt (Nat.lt_of_lt_of_le (Heap.lt_size q) hp))];exact n
 there:=fun b u q _=>⟨u,k b u q⟩
 tups:=fun b xs q=>by rw[aM (aV q hn)];exact q
 frzs:=fun b u xs q=>by rw[aM (aV q hn)];exact q
 tbls:=fun b ps q=>⟨#[],by rw[aM (aV q hn),q];simp⟩
theorem Un.write(mu:Mut (H x))(he:e=x∨H e=some (.own x))(k:∀b u,b≠e->h.get? b=some u->h'.get? b=some u)(heo:∃u,h'.get? e=some u):Un fs ex H (upd H x o) h h':=by
 have hx:∀b,H b=none->b≠x:=fun b n z=>by subst z;rw[n]at mu;exact mu
 have hb:∀b,H b=none->b≠e:=fun b n z=>by
  subst z;rcases he with r|r
  ·exact hx b n r
  ·rw[n]at r;cases r
 have hm:∀b u,H b=some u->¬Mut (some u)->b≠x:=fun b u q nm z=>by subst z;rw[q]at mu;exact nm mu
 refine⟨fun b u q n _ _=>k b u (hb b n) q,fun b u q n _ _=>⟨u.slots,k b u (hb b n) q⟩,fun b u q n _=>by rw[aM (hx b n)];exact n,fun b u q _=>?_,
  fun b xs q=>by rw[aM (hm b _ q fun z=>z)];exact q,fun b u xs q=>by rw[aM (hm b _ q fun z=>z)];exact q,fun b ps q=>⟨#[],by rw[aM (hm b _ q fun z=>z),q];simp⟩⟩
 by_cases hbe:b=e
 ·subst hbe;exact heo
 ·exact⟨u,k b u hbe q⟩
end
def trk(h:Heap)(H:Hp):List Addr:=(List.range h.objs.size).filter fun a=>(H a).isSome
def kJ(h:Heap)(H:Hp):Heap:=W.hideAll h (trk h H)
theorem pQ(h:Heap)(H:Hp):(kJ h H).objs.size=h.objs.size:=W.hideAll_size _ _
theorem rm{h:Heap}{H:Hp}{b:Addr}{o:Obj}(e:h.get? b=some o)(n:H b=none):(kJ h H).get? b=some o :=
 W.hideAll_get _ e fun hm=>by
  have q:(H b).isSome=true:=(List.mem_filter.mp hm).2;rw[n]at q;simp at q
theorem sW{h:Heap}{H:Hp}{b:Addr}{o:Obj}(e:(kJ h H).get? b=some o):h.get? b=some o∧H b=none:=by
 have e':h.get? b=some o:=W.of_hideAll (trk h H) e;refine⟨e',?_⟩;cases q:H b with
 | none=>rfl
 | some x =>
  have hm:b∈trk h H:=List.mem_filter.mpr ⟨List.mem_range.mpr (Heap.lt_size e'),by simp[q]⟩;have z:(kJ h H).get? b=none:=W.hideAll_none (trk h H) hm;rw[z]at e;cases e
end L2
namespace L2
open PySem PySem.Spec PyProof.Rows
structure Mod(K:W.Frag)(mg:Str->Option Value)(base:Heap):Prop where
 kin:K.In base
 glob:base.Ns mainGlobals mg
 blt:∃mb,base.Ns builtinsNs mb∧∀x:Str,x≠"__name__"->mb x=bootBuiltins x
 nolimit:base.NoLimit
structure Cx where
 prog:Program
 w:World
 K:W.Frag
 mg:Str->Option Value
 base:Heap
 A:Around
 N:List Str
 s₀:Shared
 H₀:Hp
 env:Env
 outer:List Env
 stack:List Env
 ex:List Addr
 fn:Str->Bool
 calm:Bool
 pn:List (Addr×Obj)
 xe:Value->Shared->Prop
def frs(l:List Env):List Addr:=l.filterMap (·.frame)
abbrev Cx.fs(X:Cx):List Addr:=frs X.outer
def Vis(sc:Scope)(x:Str):Prop:=sc.names.lookup x=some .local∨sc.names.lookup x=some .cell∨sc.names.lookup x=some .free
def Loc(sc:Scope)(x:Str):Prop:=sc.names.lookup x=some .local∨sc.names.lookup x=some .cell
def xn(env:Env)(h:Heap)(m:Str->Option Value)(x:Str)(u:Value):Prop :=
 (env.kindOf x=some .local∧m x=some u)∨((env.kindOf x=some .cell∨env.kindOf x=some .free)∧∃c,env.cells.lookup x=some c∧h.IsCell c (some u))
structure Cx.Ok(X:Cx):Prop where
 mod:Mod X.K X.mg X.base
 kind:X.env.scope.kind = .function
 glob:X.env.globals=mainGlobals
 blt:X.env.builtins=builtinsNs
 above:X.s₀.heap.objs.size≤X.env.locals
 inj:∀x y c,X.env.cells.lookup x=some c->X.env.cells.lookup y=some c->x=y
 has:∀x,(X.env.kindOf x=some .cell∨X.env.kindOf x=some .free)->∃c,X.env.cells.lookup x=some c
 cab:∀x c,X.fn x=true->X.env.cells.lookup x=some c->X.s₀.heap.objs.size≤c
 hd:X.calm=true->X.A.handled=none
 frames:X.A.frames=some X.stack
 stk:X.stack=X.outer∨(X.stack=X.env::X.outer∧X.env.frame=some X.env.locals)
 exf:∀b∈X.ex,b≠X.env.locals∧∀x c,X.env.cells.lookup x=some c->c≠b
 bs:∀b o,X.base.get? b=some o->X.s₀.heap.get? b=some o∧X.H₀ b=none
 bsz:X.base.objs.size≤X.s₀.heap.objs.size
 noex:∀b o,X.base.get? b=some o->b∉X.ex
 exfs:∀b∈X.ex,b∉X.fs
 funs:X.s₀.heap.FunFrames X.base X.outer
 frf:∀b∈X.fs,X.H₀ b=none
structure xq(X:Cx)(pins:List (Addr×Obj))(σ:List (Option V))(H:Hp)(s:Shared):Prop where
 ok:X.Ok
 os:s.os=X.s₀.os
 bare:AllBare s.gens
 base:Un X.fs X.ex X.H₀ H X.s₀.heap s.heap
 loc:∃m,s.heap.Ns X.env.locals m∧∀(i:Nat) (x:Str) (v:V),X.N[i]? = some x->σ[i]? = some (some v)->Vis X.env.scope x->∃u,aS v u∧xn X.env s.heap m x u
 cell:∀x c,X.env.cells.lookup x=some c->∃v,s.heap.IsCell c v
 free:H X.env.locals=none
 freeC:∀x c,X.env.cells.lookup x=some c->H c=none
 pin:∀p∈X.pn++pins,s.heap.get? p.1=some p.2∧H p.1=none∧p.1≠X.env.locals∧p.1∉X.fs∧∀v,p.2.data≠.cell v
 hok:HOk X.prog X.w H s.heap
 len:σ.length=X.N.length
section
variable {X:Cx} {pins:List (Addr×Obj)} {σ:List (Option V)} {H H':Hp} {s:Shared} {h':Heap}
theorem Cx.Ok.nofr(ok:X.Ok){b:Addr}{o:Obj}(e:X.base.get? b=some o):b∉X.fs:=fun hb=>by
 have:=(ok.funs.mem hb).1;rw[e]at this;cases this
theorem xq.bs(I:xq X pins σ H s):∀b o,X.base.get? b=some o->s.heap.get? b=some o∧H b=none:=fun b o e =>
 ⟨I.base.keep b o (I.ok.bs b o e).1 (I.ok.bs b o e).2 (I.ok.nofr e) (I.ok.noex b o e),I.base.free b o (I.ok.bs b o e).1 (I.ok.bs b o e).2 (I.ok.noex b o e)⟩
theorem xq.bk(I:xq X pins σ H s):∀b o,X.base.get? b=some o->s.heap.get? b=some o:=fun b o e=>(I.bs b o e).1
theorem xq.mod(I:xq X pins σ H s):Mod X.K X.mg X.base:=I.ok.mod
theorem xq.kIn(I:xq X pins σ H s):X.K.In s.heap:=I.ok.mod.kin.keeps I.bk
theorem xq.lt(I:xq X pins σ H s):X.env.locals<s.heap.objs.size:=let ⟨_,hn,_⟩:=I.loc;hn.lt
theorem xq.sz(I:xq X pins σ H s):X.s₀.heap.objs.size≤s.heap.objs.size:=Nat.le_trans I.ok.above (Nat.le_of_lt I.lt)
theorem xq.nofs(I:xq X pins σ H s){a:Addr}(h:s.heap.objs.size≤a):a∉X.fs:=fun hb=>by
 obtain⟨_,o,ho,_⟩:=I.ok.funs.mem hb;exact absurd (Nat.lt_of_lt_of_le (Heap.lt_size ho) (Nat.le_trans I.sz h)) (Nat.lt_irrefl _)
theorem xq.cne(I:xq X pins σ H s):∀x c,X.env.cells.lookup x=some c->c≠X.env.locals:=fun x c e z=>by
 obtain⟨v,o,ho,hd⟩:=I.cell x c e;obtain⟨m,⟨o',es,ep,ho',hd',_⟩,_⟩:=I.loc;rw[z,ho']at ho;cases ho;rw[hd']at hd;cases hd
theorem xq.funs(I:xq X pins σ H s):s.heap.FunFrames X.base X.outer:=by
 have all:∀(l:List Env),(∀b∈frs l,b∈X.fs)->X.s₀.heap.FunFrames X.base l->s.heap.FunFrames X.base l:=by
  intro l
  induction l with
  | nil=>intro _ _;trivial
  | cons env r ih =>
   intro hs hl;obtain⟨hk,⟨L,o,hf,hn,ho,hd⟩,hr⟩:=hl;have hL:L∈X.fs:=hs L (by unfold frs;rw[List.filterMap_cons,hf];exact List.mem_cons_self);obtain⟨sl,e⟩:=I.base.slot L o ho (I.ok.frf L hL) hL fun z=>I.ok.exfs L z hL;exact⟨hk,⟨L,_,hf,hn,e,hd⟩,ih (fun b hb=>hs b (by unfold frs;rw[List.filterMap_cons,hf];exact List.mem_cons_of_mem _ hb)) hr⟩
 exact all X.outer (fun _ hb=>hb) I.ok.funs
theorem xq.stack(I:xq X pins σ H s):s.heap.FunFrames X.base X.stack:=by
 rcases I.ok.stk with e|⟨e,hf⟩
 ·rw[e];exact I.funs
 ·rw[e]
  obtain⟨m,hn,_⟩:=I.loc;refine .cons (by rw[I.ok.kind];decide) hf hn ?_ I.funs;exact Heap.get?_none_of_le (Nat.le_trans I.ok.bsz I.ok.above)
theorem xq.stkSub(I:xq X pins σ H s):∀b∈frs X.stack,b∈X.env.locals::X.fs:=fun b hb=>by
 rcases I.ok.stk with e|⟨e,hf⟩
 ·rw[e]at hb;exact List.mem_cons_of_mem _ hb
 ·rw[e]at hb
  unfold frs at hb;rw[List.filterMap_cons,hf]at hb;exact hb
theorem xq.stkFree(I:xq X pins σ H s):∀b∈frs X.stack,H b=none:=fun b hb=>by
 rcases List.mem_cons.mp (I.stkSub b hb) with e|hb
 ·rw[e];exact I.free
 ·obtain⟨_,o,ho,_⟩:=I.ok.funs.mem hb
  exact I.base.free b o ho (I.ok.frf b hb) fun z=>I.ok.exfs b z hb
theorem xq.step{g':Array GenState}{t':Nat}{d':Drawn}{ch:List Addr}(I:xq X pins σ H s)
  (hch:∀b∈ch,(b∈X.ex∨X.s₀.heap.objs.size≤b)∧b≠X.env.locals∧(∀x c,X.env.cells.lookup x=some c->c≠b)∧∀p∈X.pn++pins,p.1≠b)
  (keep:∀b o,b≠X.env.locals->b∉X.fs->b∉ch->s.heap.get? b=some o->H b=none->h'.get? b=some o)
  (slot:∀b o,b≠X.env.locals->b∈X.fs->b∉ch->s.heap.get? b=some o->H b=none->∃sl,h'.get? b=some { o with slots:=sl }) (free:∀b o,b∉ch->s.heap.get? b=some o->H b=none->H' b=none)
  (there:∀b o,b∉ch->s.heap.get? b=some o->∃o',h'.get? b=some o')
  (tups:∀b xs,H b=some (.tup xs)->H' b=some (.tup xs)) (frzs:∀b o u,H b=some (.frz o u)->H' b=some (.frz o u)) (tbls:∀b ps,H b=some (.tbl ps)->∃more,H' b=some (.tbl (ps++more)))
  (ns:∀m,s.heap.Ns X.env.locals m->h'.Ns X.env.locals m) (hok:HOk X.prog X.w H' h') (hg:AllBare g') :
  xq X pins σ H' { s with heap:=h',gens:=g',drawn:=d',toks:=t' }:=by
 have neL:∀b o,X.s₀.heap.get? b=some o->b≠X.env.locals:=fun b o e=>Nat.ne_of_lt (Nat.lt_of_lt_of_le (Heap.lt_size e) I.ok.above);have neC:∀b o,X.s₀.heap.get? b=some o->b∉X.ex->b∉ch:=fun b o e hx hb=>by
  rcases(hch b hb).1 with z|z
  ·exact hx z
  ·exact absurd (Nat.lt_of_lt_of_le (Heap.lt_size e) z) (Nat.lt_irrefl _)
 have cellK:∀x c,X.env.cells.lookup x=some c->∀v,s.heap.IsCell c v->h'.IsCell c v:=fun x c e v ⟨o,ho,hd⟩=>by
  have nch:c∉ch:=fun z=>(hch c z).2.2.1 x c e rfl
  by_cases hc:c∈X.fs
  ·obtain⟨sl,q⟩:=slot c o (I.cne x c e) hc nch ho (I.freeC x c e)
   exact⟨_,q,hd⟩
  ·exact⟨o,keep c o (I.cne x c e) hc nch ho (I.freeC x c e),hd⟩
 refine⟨I.ok,I.os,hg,⟨fun b o e n hb hx=>?_,fun b o e n hb hx=>?_,fun b o e n hx=>?_,fun b o e hx=>?_,fun b xs e=>tups b xs (I.base.tups b xs e),fun b o xs e=>frzs b o xs (I.base.frzs b o xs e),fun b ps e=>?_⟩,?_,fun x c e=>?_,?_,fun x c e=>?_,fun p hp=>?_,hok,I.len⟩
 ·exact keep b o (neL b o e) hb (neC b o e hx) (I.base.keep b o e n hb hx) (I.base.free b o e n hx)
 ·obtain⟨sl,e1⟩:=I.base.slot b o e n hb hx
  obtain⟨sl',e2⟩:=slot b _ (neL b o e) hb (neC b o e hx) e1 (I.base.free b o e n hx);exact⟨sl',e2⟩
 ·obtain⟨o',e1⟩:=I.base.there b o e hx
  exact free b o' (neC b o e hx) e1 (I.base.free b o e n hx)
 ·obtain⟨o',e1⟩:=I.base.there b o e hx
  exact there b o' (neC b o e hx) e1
 ·obtain⟨m1,e1⟩:=I.base.tbls b ps e
  obtain⟨m2,e2⟩:=tbls b _ e1;exact⟨m1++m2,by rw[e2,Array.append_assoc]⟩
 ·obtain⟨m,hn,hl⟩:=I.loc
  refine⟨m,ns m hn,fun i x v e1 e2 e3=>?_⟩;obtain⟨u,r,l⟩:=hl i x v e1 e2 e3;refine⟨u,r,?_⟩;rcases l with l|⟨k,c,e,z⟩
  ·exact .inl l
  ·exact .inr ⟨k,c,e,cellK x c e _ z⟩
 ·obtain⟨v,z⟩:=I.cell x c e
  exact⟨v,cellK x c e v z⟩
 ·obtain⟨m,⟨o,_,_,ho,_⟩,_⟩:=I.loc
  exact free _ o (fun z=>(hch _ z).2.1 rfl) ho I.free
 ·obtain⟨v,o,ho,hd⟩:=I.cell x c e
  exact free c o (fun z=>(hch c z).2.2.1 x c e rfl) ho (I.freeC x c e)
 ·obtain⟨e,n,ne,nf,d⟩:=I.pin p hp
  have nch:p.1∉ch:=fun z=>(hch p.1 z).2.2.2 p hp rfl;exact⟨keep p.1 p.2 ne nf nch e n,free p.1 p.2 nch e n,ne,nf,d⟩
theorem xq.un{t':Nat}(I:xq X pins σ H s)(u:Un X.fs [] H H' s.heap h')(hok:HOk X.prog X.w H' h'):xq X pins σ H' { s with heap:=h',toks:=t' }:=by
 obtain⟨m,⟨o,es,ep,ho,r⟩,_⟩:=id I.loc;obtain⟨sl,hL⟩:=u.any ho I.free (by simp);exact I.step (g':=s.gens) (d':=s.drawn) (ch:=[]) (fun _ z=>nomatch z) (fun b o _ hb _ e n=>u.keep b o e n hb (by simp)) (fun b o _ hb _ e n=>u.slot b o e n hb (by simp)) (fun b o _ e n=>u.free b o e n (by simp)) (fun b o _ e=>u.there b o e (by simp)) u.tups u.frzs u.tbls (fun m' hm=>by
  obtain⟨o',es',ep',ho',r'⟩:=hm;rw[ho]at ho';cases ho';exact⟨_,es',ep',hL,r'⟩) hok I.bare
theorem xq.call{g':Array GenState}{t':Nat}{d':Drawn}{ch:List Addr}(I:xq X pins σ H s)(u:Un (frs X.stack) ch H H' s.heap h')(hok:HOk X.prog X.w H' h')(hg:AllBare g')
  (hch:∀b∈ch,(b∈X.ex∨X.s₀.heap.objs.size≤b)∧b≠X.env.locals∧(∀x c,X.env.cells.lookup x=some c->c≠b)∧∀p∈X.pn++pins,p.1≠b) :
  xq X pins σ H' { s with heap:=h',gens:=g',drawn:=d',toks:=t' }:=by
 obtain⟨m,⟨o,es,ep,ho,r⟩,_⟩:=id I.loc;obtain⟨sl,hL⟩:=u.any ho I.free fun z=>(hch _ z).2.1 rfl;exact I.step (ch:=ch) hch (fun b o hL hb hc e n=>u.keep b o e n (fun z=>(List.mem_cons.mp (I.stkSub b z)).elim hL hb) hc) (fun b o _ _ hc e n=>u.any e n hc) (fun b o hc e n=>u.free b o e n hc) (fun b o hc e=>u.there b o e hc) u.tups u.frzs u.tbls (fun m' hm=>by
  obtain⟨o',es',ep',ho',r'⟩:=hm;rw[ho]at ho';cases ho';exact⟨_,es',ep',hL,r'⟩) hok hg
theorem xq.turned{t':Nat}{it:Addr}(I:xq X pins σ H s)(k:∀b o,b≠it->s.heap.get? b=some o->h'.get? b=some o)(hn:H it=none)(hL:it≠X.env.locals)
  (h1:it∈X.ex∨X.s₀.heap.objs.size≤it) (h2:∀x c,X.env.cells.lookup x=some c->c≠it) (h3:∀p∈X.pn++pins,p.1≠it):xq X pins σ H { s with heap:=h',toks:=t' }:=by
 have nit:∀b u,H b=some u->b≠it:=fun b u e z=>by rw[z,hn]at e;cases e
 refine I.step (g':=s.gens) (d':=s.drawn) (ch:=[it]) (fun b hb=>?_) (fun b o _ _ hc e _=>k b o (fun z=>hc (by simp[z])) e) (fun b o _ _ hc e _=>⟨o.slots,k b o (fun z=>hc (by simp[z])) e⟩) (fun _ _ _ _ n=>n)
  (fun b o hc e=>⟨o,k b o (fun z=>hc (by simp[z])) e⟩) (fun _ _ e=>e) (fun _ _ _ e=>e) (fun b ps e=>⟨#[],by rw[e];simp⟩) (fun m hm=>?_) (fun b u e=>?_) I.bare
 ·have e:b=it:=by simpa using hb
  subst e;exact⟨h1,hL,h2,h3⟩
 ·obtain⟨o,es,ep,ho,r⟩:=hm
  exact⟨o,es,ep,k _ o (Ne.symm hL) ho,r⟩
 ·refine(I.hok b u e).stay (fun c v hc q=>k c v ?_ q) (fun _ q=>q) fun _ _ q=>q
  rcases hc with z|z
  ·rw[z];exact nit b u e
  ·exact nit c _ z
theorem xq.tok(I:xq X pins σ H s)(t:Nat):xq X pins σ H { s with toks:=t }:=I.un (h':=s.heap) (t':=t) Un.refl I.hok
theorem xq.kept{t':Nat}(I:xq X pins σ H s)(k:∀b u,s.heap.get? b=some u->h'.get? b=some u):xq X pins σ H { s with heap:=h',toks:=t' }:=I.un (Un.kept k) (I.hok.kept k)
theorem xq.laid{a:Addr}{o:HO}{t':Nat}(I:xq X pins σ H s)(k:∀b u,s.heap.get? b=some u->h'.get? b=some u)(hp:s.heap.objs.size≤a)(new:bI X.prog X.w (upd H a o) h' a o) :
  xq X pins σ (upd H a o) { s with heap:=h',toks:=t' }:=I.un (Un.laid k hp (I.hok.fresh hp)) (I.hok.laid k hp new)
theorem xq.write{x e:Addr}{o:HO}{t':Nat}(I:xq X pins σ H s)(mu:Mut (H x))(he:e=x∨H e=some (.own x))(k:∀b u,b≠e->s.heap.get? b=some u->h'.get? b=some u)(heo:∃u,h'.get? e=some u)
  (new:bI X.prog X.w (upd H x o) h' x o):xq X pins σ (upd H x o) { s with heap:=h',toks:=t' }:=I.un (Un.write mu he k heo) (I.hok.write mu he k heo new)
theorem xq.pins_of{pins':List (Addr×Obj)}(I:xq X pins σ H s)(h:∀p∈pins',s.heap.get? p.1=some p.2∧H p.1=none∧p.1≠X.env.locals∧p.1∉X.fs∧∀v,p.2.data≠.cell v):xq X pins' σ H s :=
 ⟨I.ok,I.os,I.bare,I.base,I.loc,I.cell,I.free,I.freeC,fun p hp=>(List.mem_append.mp hp).elim (fun z=>I.pin p (List.mem_append_left _ z)) (h p),I.hok,I.len⟩
theorem lO{N:List Str}(hN:N.Nodup){i j:Nat}{x:Str}(a:N[i]? = some x)(b:N[j]? = some x):i=j:=by
 obtain⟨h1,e1⟩:=List.getElem?_eq_some_iff.mp a;obtain⟨h2,e2⟩:=List.getElem?_eq_some_iff.mp b;exact(List.getElem_inj hN).mp (e1.trans e2.symm)
theorem gG{M:Model}{A:Around}{E:Value->Shared->Prop}{i:Nat}{x:Str}{v:V}{u:Value}{Q:Unit->Shared->Prop}(I:xq X pins σ H s)(hN:X.N.Nodup)(hi:X.N[i]? = some x)(hx:Loc X.env.scope x)(r:aS v u)
  (h:∀s',xq X pins (σ.set i (some v)) H s'->(∃a,Heap.SameBut a s.heap s'.heap∧(a=X.env.locals∨X.env.cells.lookup x=some a))->Q () s') (hf:X.fn x=true∨X.env.scope.names.lookup x=some .local:=by first|exact .inl rfl|exact .inr rfl|assumption):wpAny M A (storeName X.env x u) Q E s:=by
 obtain⟨m,hn,hl⟩:=id I.loc;have hcls:(X.env.scope.kind == .class || (X.env.scope.kind == .module && X.env.locals != X.env.globals))=false:=by rw[I.ok.kind];rfl
 have hiσ:i<σ.length:=by rw[I.len];exact(List.getElem?_eq_some_iff.mp hi).1
 have cne:=I.cne;have tracked:∀{a:Addr} {h':Heap},(∃o,s.heap.get? a=some o∧H a=none)->Heap.SameBut a s.heap h'->HOk X.prog X.w H h':=fun {a h'} ha hs b ob e=>by
  obtain⟨_,_,hfree⟩:=ha;refine(I.hok b ob e).stay (fun c w' hc q=>(hs.2 c ?_).trans q) (fun _ q=>q) fun _ _ q=>q;rintro rfl;rcases hc with rfl|hc
  ·rw[hfree]at e;cases e
  ·rw[hfree]at hc;cases hc
 rcases hx with hk|hk
 ·refine wpAny_storeName_local hk hn (fun h' hn' hs=>?_) hcls
  obtain⟨oL,_,_,hoL,_⟩:=id hn;refine h _ ⟨I.ok,I.os,I.bare,⟨fun b o e n hb hx=>?_,fun b o e n hb hx=>?_,I.base.free,fun b o e hx=>?_,I.base.tups,I.base.frzs,I.base.tbls⟩,⟨_,hn',fun j y v' e1 e2 e3=>?_⟩,fun y c e=>?_,I.free,I.freeC,fun p hp=>?_,tracked ⟨oL,hoL,I.free⟩ hs,by simpa using I.len⟩ ⟨_,hs,.inl rfl⟩
  ·exact(hs.2 b (Nat.ne_of_lt (Nat.lt_of_lt_of_le (Heap.lt_size e) I.ok.above))).trans (I.base.keep b o e n hb hx)
  ·obtain⟨sl,e1⟩:=I.base.slot b o e n hb hx
   exact⟨sl,(hs.2 b (Nat.ne_of_lt (Nat.lt_of_lt_of_le (Heap.lt_size e) I.ok.above))).trans e1⟩
  ·obtain⟨o',e1⟩:=I.base.there b o e hx
   exact⟨o',(hs.2 b (Nat.ne_of_lt (Nat.lt_of_lt_of_le (Heap.lt_size e) I.ok.above))).trans e1⟩
  ·by_cases hj:j=i
   ·subst hj
    rw[hi]at e1;cases e1;rw[List.getElem?_set_self hiσ]at e2;cases e2;exact⟨u,r,.inl ⟨hk,by simp⟩⟩
   ·rw[List.getElem?_set_ne (Ne.symm hj)]at e2
    obtain⟨u',r',q⟩:=hl j y v' e1 e2 e3;refine⟨u',r',?_⟩;rcases q with⟨k,e⟩|⟨k,c,e,z⟩
    ·refine .inl ⟨k,?_⟩
     have:y≠x:=fun e=>hj (lO hN e1 (e▸hi));simp[this,e]
    ·exact .inr ⟨k,c,e,z.sameBut hs (cne y c e)⟩
  ·obtain⟨w',z⟩:=I.cell y c e
   exact⟨w',z.sameBut hs (cne y c e)⟩
  ·obtain⟨e,n,ne,nf,d⟩:=I.pin p hp
   exact⟨(hs.2 p.1 ne).trans e,n,ne,nf,d⟩
 ·have hfn:X.fn x=true:=by
   rcases hf with z|z
   ·exact z
   ·rw[z]at hk;cases hk
  obtain⟨c,hc⟩:=I.ok.has x (.inl hk);obtain⟨w',z⟩:=I.cell x c hc;refine wpAny_storeName_cell I.ok.kind hk hc z (fun h' hc' hs=>?_);obtain⟨oc,hoc,hocd⟩:=id z;refine h { s with heap:=h' } ⟨I.ok,I.os,I.bare,⟨fun b o e n hb hx=>?_,fun b o e n hb hx=>?_,I.base.free,fun b o e hx=>?_,I.base.tups,I.base.frzs,I.base.tbls⟩,⟨m,hn.sameBut hs (Ne.symm (cne x c hc)),fun j y v' e1 e2 e3=>?_⟩,fun y c' e=>?_,I.free,I.freeC,fun p hp=>?_,tracked ⟨oc,hoc,I.freeC x c hc⟩ hs,by simpa using I.len⟩ ⟨c,hs,.inr hc⟩
  ·exact(hs.2 b (Nat.ne_of_lt (Nat.lt_of_lt_of_le (Heap.lt_size e) (I.ok.cab x c hfn hc)))).trans (I.base.keep b o e n hb hx)
  ·obtain⟨sl,e1⟩:=I.base.slot b o e n hb hx
   exact⟨sl,(hs.2 b (Nat.ne_of_lt (Nat.lt_of_lt_of_le (Heap.lt_size e) (I.ok.cab x c hfn hc)))).trans e1⟩
  ·obtain⟨o',e1⟩:=I.base.there b o e hx
   exact⟨o',(hs.2 b (Nat.ne_of_lt (Nat.lt_of_lt_of_le (Heap.lt_size e) (I.ok.cab x c hfn hc)))).trans e1⟩
  ·by_cases hj:j=i
   ·subst hj
    rw[hi]at e1;cases e1;rw[List.getElem?_set_self hiσ]at e2;cases e2;exact⟨u,r,.inr ⟨.inl hk,c,hc,hc'⟩⟩
   ·rw[List.getElem?_set_ne (Ne.symm hj)]at e2
    obtain⟨u',r',q⟩:=hl j y v' e1 e2 e3;refine⟨u',r',?_⟩;rcases q with q|⟨k,c',e,z'⟩
    ·exact .inl q
    ·refine .inr ⟨k,c',e,z'.sameBut hs ?_⟩
     rintro rfl;exact hj (lO hN e1 (I.ok.inj _ _ _ e hc▸hi))
  ·by_cases hcc:c'=c
   ·subst hcc;exact⟨_,hc'⟩
   ·obtain⟨w2,z2⟩:=I.cell y c' e
    exact⟨w2,z2.sameBut hs hcc⟩
  ·obtain⟨e,n,ne,nf,d⟩:=I.pin p hp
   refine⟨(hs.2 p.1 ?_).trans e,n,ne,nf,d⟩;intro q;rw[q,hoc]at e;have q':oc=p.2:=Option.some.inj e;exact d w' (by rw[<- q'];exact hocd)
theorem iF{M:Model}{A:Around}{E:Value->Shared->Prop}{i:Nat}{x:Str}{v:V}{u:Value}{Q:Unit->Shared->Prop}(I:xq X pins σ H s)(hN:X.N.Nodup)(hi:X.N[i]? = some x)(hx:Loc X.env.scope x)(r:aS v u)
  (h:∀s',xq X pins (σ.set i (some v)) H s'->Q () s') (hf:X.fn x=true∨X.env.scope.names.lookup x=some .local:=by first|exact .inl rfl|exact .inr rfl|assumption):wpAny M A (storeName X.env x u) Q E s :=
 gG I hN hi hx r (fun s' I' _=>h s' I') hf
theorem xq.call'{s':Shared}{ch:List Addr}(I:xq X pins σ H s)(ho:s'.os=s.os)(u:Un (frs X.stack) ch H H' s.heap s'.heap)(hok:HOk X.prog X.w H' s'.heap)(hg:AllBare s'.gens)
  (hch:∀b∈ch,(b∈X.ex∨X.s₀.heap.objs.size≤b)∧b≠X.env.locals∧(∀x c,X.env.cells.lookup x=some c->c≠b)∧∀p∈X.pn++pins,p.1≠b):xq X pins σ H' s':=by
 obtain⟨h',g',d',t',o'⟩:=s';have e:o'=s.os:=ho;subst e;exact I.call (g':=g') (t':=t') (d':=d') u hok hg hch
end
abbrev XK:=Value->Option Addr->Hp->Prop
abbrev St:=List (Option V)
abbrev VK:=V->Hp->Prop
abbrev TE:=St->Hp->VK->Prop
abbrev TT:=St->Hp->(Bool->Hp->Prop)->Prop
abbrev TA:=St->Hp->(List V->Hp->Prop)->Prop
structure AT where
 nx:St->Hp->Prop
 rt:VK
 bk:St->Hp->Prop:=fun _ _=>False
 ct:St->Hp->Prop:=fun _ _=>False
abbrev TS:=AT->St->Hp->Prop
def EP(X:Cx)(pins:List (Addr×Obj))(σ:St)(Q:VK)(u:Value)(s':Shared):Prop:=∃v H',xq X pins σ H' s'∧aS v u∧Q v H'
def TP(X:Cx)(pins:List (Addr×Obj))(σ:St)(Q:Bool->Hp->Prop)(b:Bool)(s':Shared):Prop:=∃H',xq X pins σ H' s'∧Q b H'
def AP(X:Cx)(pins:List (Addr×Obj))(σ:St)(Q:List V->Hp->Prop)(us:List Value)(s':Shared):Prop:=∃vs H',xq X pins σ H' s'∧aP vs us∧Q vs H'
def SP(X:Cx)(pins:List (Addr×Obj))(D:AT)(f:Flow)(s':Shared):Prop :=
 match f with
 | .next=>∃σ' H',xq X pins σ' H' s'∧D.nx σ' H'
 | .brk=>∃σ' H',xq X pins σ' H' s'∧D.bk σ' H'
 | .cont=>∃σ' H',xq X pins σ' H' s'∧D.ct σ' H'
 | .ret u=>∃v σ' H',xq X pins σ' H' s'∧aS v u∧D.rt v H'
def PE(X:Cx)(e:Expr)(t:TE):Prop :=
 ∀(pins:List (Addr×Obj)) (s:Shared) (σ:St) (H:Hp) (Q:VK),xq X pins σ H s->t σ H Q->wpAny (model X.prog X.w) X.A (eval e X.env) (EP X pins σ Q) X.xe s
def PT(X:Cx)(e:Expr)(t:TT):Prop :=
 ∀(pins:List (Addr×Obj)) (s:Shared) (σ:St) (H:Hp) (Q:Bool->Hp->Prop),xq X pins σ H s->t σ H Q->wpAny (model X.prog X.w) X.A (isTrue e X.env (eval e X.env)) (TP X pins σ Q) X.xe s
def PW(X:Cx)(e:Expr)(t:TT):Prop :=
 ∀(whole:Sem Value) (pins:List (Addr×Obj)) (s:Shared) (σ:St) (H:Hp) (Q:Bool->Hp->Prop),xq X pins σ H s->t σ H Q->wpAny (model X.prog X.w) X.A (isTrue e X.env whole) (TP X pins σ Q) X.xe s
theorem PW.pt{X:Cx}{e:Expr}{t:TT}(h:PW X e t):PT X e t:=h _
def PA(X:Cx)(es:List Expr)(t:TA):Prop :=
 ∀(pos:Pos) (pins:List (Addr×Obj)) (s:Shared) (σ:St) (H:Hp) (Q:List V->Hp->Prop),xq X pins σ H s->t σ H Q->wpAny (model X.prog X.w) X.A (spliced (backTo pos (starEach es X.env))) (AP X pins σ Q) X.xe s
def PS(X:Cx)(st:Stmt)(t:TS):Prop :=
 ∀(pins:List (Addr×Obj)) (s:Shared) (σ:St) (H:Hp) (D:AT),xq X pins σ H s->t D σ H->wpAny (model X.prog X.w) X.A (exec st X.env) (SP X pins D) X.xe s
def PSs(X:Cx)(st:List Stmt)(t:TS):Prop :=
 ∀(pins:List (Addr×Obj)) (s:Shared) (σ:St) (H:Hp) (D:AT),xq X pins σ H s->t D σ H->wpAny (model X.prog X.w) X.A (execs st X.env) (SP X pins D) X.xe s
theorem thn{α:Type}{t:Sem α}{Q Q':α->Shared->Prop}{M:Model}{A:Around}{E:Value->Shared->Prop}{s:Shared}(h:wpAny M A t Q E s)(hQ:∀a s,Q a s->Q' a s):wpAny M A t Q' E s:=wpAny_mono h hQ fun _ _ x=>x
end L2
namespace L2
open PySem PySem.Spec PyProof.Rows
section
variable {X:Cx}
inductive BV (i:Nat) (σ:St) (H:Hp) (Q:VK):Prop
 | mk (v:V) (e:σ[i]? = some (some v)) (q:Q v H):BV i σ H Q
def tC(v:V):TE:=fun _ H Q=>Q v H
theorem qJ{i:Nat}{x:Str}{pos:Pos}(hN:X.N[i]? = some x)(hv:Vis X.env.scope x)(hd:(x == ("__debug__" : Str))=false:=by decide)(hcd:(x == ("__classdict__" : Str))=false:=by decide):PE X (.Name x pos) (BV i):=by
 intro pins s σ H Q I h;obtain⟨v,e,h⟩:=h;obtain⟨m,hn,hl⟩:=I.loc;obtain⟨u,r,l⟩:=hl i x v hN e hv;have fin:EP X pins σ Q u s:=⟨v,H,I,r,h⟩;rcases l with⟨hk,hm⟩|⟨hk,c,hc,hcell⟩
 ·exact wpAny_Name (wpAny_loadName_local I.ok.kind hk hn hm fin) hd
 ·rcases hk with hk|hk
  ·exact wpAny_Name (wpAny_loadName_cell I.ok.kind hk hc hcell fin) hd
  ·exact wpAny_Name (wpAny_loadName_free I.ok.kind hk hc hcell fin hcd) hd
theorem ad{i j pos}:PE X (.Constant (.int i) j pos) (tC (.int i)):=fun _ _ _ H _ I h=>wpAny_Constant_int ⟨.int i,H,I.tok _,⟨_,rfl⟩,h⟩
theorem fD{b j pos}:PE X (.Constant (.bool b) j pos) (tC (.bl b)):=fun _ _ _ H _ I h=>Constant_bool ⟨.bl b,H,I,rfl,h⟩
theorem da{j pos}:PE X (.Constant .none j pos) (tC .non):=fun _ _ _ H _ I h=>Constant_none ⟨.non,H,I,rfl,h⟩
theorem eO{x j pos}:PE X (.Constant (.str x) j pos) (tC (.str x)):=fun _ _ _ H _ I h=>Calls.Constant_str ⟨.str x,H,I.tok _,⟨_,rfl⟩,h⟩
def Gl(X:Cx)(x:Str):Prop:=X.env.kindOf x=some .globalImplicit
theorem gs{E:Value->Shared->Prop}{pins:List (Addr×Obj)}{s:Shared}{σ:St}{H:Hp}{x:Str}{u:Value}{pos:Pos}{Q:Value->Shared->Prop}(I:xq X pins σ H s)(hg:Gl X x)(hm:X.mg x=some u)(h:Q u s)
  (hd:(x == ("__debug__" : Str))=false:=by decide):wpAny (model X.prog X.w) X.A (eval (.Name x pos) X.env) Q E s :=
 Calls.Name_function_global I.ok.kind hg (Calls.loadGlobal_global (by rw[I.ok.glob];exact I.mod.glob.keeps I.bk) hm h) hd
theorem fI{E:Value->Shared->Prop}{pins:List (Addr×Obj)}{s:Shared}{σ:St}{H:Hp}{x:Str}{u:Value}{pos:Pos}{Q:Value->Shared->Prop}(I:xq X pins σ H s)(hg:Gl X x)(hm:X.mg x=none)(hv:bootBuiltins x=some u)(h:Q u s)
  (hn:x≠"__name__":=by decide) (hd:(x == ("__debug__" : Str))=false:=by decide):wpAny (model X.prog X.w) X.A (eval (.Name x pos) X.env) Q E s:=by
 obtain⟨mb,h1,h2⟩:=I.mod.blt;exact Calls.Name_function_global I.ok.kind hg (Calls.loadGlobal_builtin (by rw[I.ok.glob];exact I.mod.glob.keeps I.bk) hm (by rw[I.ok.blt];exact h1.keeps I.bk) ((h2 x hn).trans hv) h) hd
theorem bw{x:Str}{v:V}{u:Value}{pos:Pos}(hg:Gl X x)(hm:X.mg x=some u)(r:aS v u)(hd:(x == ("__debug__" : Str))=false:=by decide):PE X (.Name x pos) (tC v) :=
 fun _ _ _ H _ I h=>gs I hg hm ⟨v,H,I,r,h⟩ hd
theorem sP{x:Str}{v:V}{u:Value}{pos:Pos}(hg:Gl X x)(hm:X.mg x=none)(hv:bootBuiltins x=some u)(r:aS v u)(hn:x≠"__name__":=by decide)(hd:(x == ("__debug__" : Str))=false:=by decide):PE X (.Name x pos) (tC v) :=
 fun _ _ _ H _ I h=>fI I hg hm hv ⟨v,H,I,r,h⟩ hn hd
variable {a b:Expr} {ta tb:TE} {pos:Pos}
def PC(X:Cx)(op:CmpOp)(a b:Expr)(t:TE):Prop :=
 ∀(pins:List (Addr×Obj)) (s:Shared) (σ:St) (H:Hp) (Q:VK),xq X pins σ H s->t σ H Q ->
  wpAny (model X.prog X.w) X.A (eval a X.env) (fun v s₁=>wpAny (model X.prog X.w) X.A (eval b X.env) (fun u s₂=>wpAny (model X.prog X.w) X.A (compareOp op v u) (EP X pins σ Q) X.xe s₂) X.xe s₁) X.xe s
def tB(t:TE):TT:=fun σ H Q=>t σ H fun x H1=>∃c,x = .bl c∧Q c H1
theorem km{op:CmpOp}{t:TE}(h:PC X op a b t)(h1:behindInMarks op b=false:=by first|exact nobehind _ (by decide) (by decide)|rfl):PT X (.Compare a [op] [b] pos) (tB t):=by
 intro pins s σ H Q I hw;refine wpAny_isTrue_Compare1 (thn (h pins s σ H _ I hw) fun v s1 h1=>thn h1 fun u s2 h2=>thn h2 fun c s3 ⟨x,H1,I1,r1,q1⟩=>?_) h1;obtain⟨d,rfl,q⟩:=q1;cases r1;exact wpAny_truthy_bool ⟨H1,I1,q⟩
theorem cz{e:Expr}{t:TE}(h:PE X e t)(he:∀whole,isTrue e X.env whole=(do let v <- whole;standAt e.pos;holding [v] (truthy v)):=by intro _;rfl):PT X e (tB t):=by
 intro pins s σ H Q I hw;refine isTrue_plain (thn (h pins s σ H _ I hw) fun v s1 ⟨x,H1,I1,r1,q1⟩=>?_) (he _);obtain⟨d,rfl,q⟩:=q1;cases r1;exact wpAny_truthy_bool ⟨H1,I1,q⟩
variable {tA tB':TT} {rest:List Expr}
def xa(t u:TT):TT:=fun σ H Q=>t σ H fun c H1=>if c=true then u σ H1 Q else Q false H1
def tOr(t u:TT):TT:=fun σ H Q=>t σ H fun c H1=>if c=true then Q true H1 else u σ H1 Q
def wV(t:TT):TT:=fun σ H Q=>t σ H fun c H1=>Q (!c) H1
theorem dN(ha:PT X a tA):PW X (.BoolOp .And [a] pos) tA:=by
 intro wh pins s σ H Q I h;refine isTrue_and (thn (ha pins s σ H Q I h) fun c s1 e=>?_);cases c with
 | true=>exact isTrue_and_nil e
 | false=>exact e
theorem eG(ha:PT X a tA):PW X (.BoolOp .Or [a] pos) tA:=by
 intro wh pins s σ H Q I h;refine isTrue_or (thn (ha pins s σ H Q I h) fun c s1 e=>?_);cases c with
 | false=>exact isTrue_or_nil e
 | true=>exact e
theorem eI(ha:PT X a tA)(hb:PW X (.BoolOp .And (b::rest) pos) tB'):PW X (.BoolOp .And (a::b::rest) pos) (xa tA tB'):=by
 intro wh pins s σ H Q I h;refine isTrue_and (thn (ha pins s σ H _ I h) fun c s1 ⟨H1,I1,q1⟩=>?_);cases c with
 | true=>exact hb wh pins s1 σ H1 Q I1 q1
 | false=>exact⟨H1,I1,q1⟩
theorem ga(ha:PT X a tA)(hb:PW X (.BoolOp .Or (b::rest) pos) tB'):PW X (.BoolOp .Or (a::b::rest) pos) (tOr tA tB'):=by
 intro wh pins s σ H Q I h;refine isTrue_or (thn (ha pins s σ H _ I h) fun c s1 ⟨H1,I1,q1⟩=>?_);cases c with
 | true=>exact⟨H1,I1,q1⟩
 | false=>exact hb wh pins s1 σ H1 Q I1 q1
theorem fG(ha:PT X a tA):PT X (.UnaryOp .Not a pos) (wV tA):=by
 intro pins s σ H Q I h;exact isTrue_not (ha pins s σ H (fun c H1=>Q (!c) H1) I h)
def v4(ta tb:TE):TE:=fun σ H Q=>ta σ H fun x H1=>∃c,x = .bl c∧if c=true then tb σ H1 Q else Q (.bl false) H1
def wU(ta tb:TE):TE:=fun σ H Q=>ta σ H fun x H1=>∃c,x = .bl c∧if c=true then Q (.bl true) H1 else tb σ H1 Q
def vV(ta:TE):TE:=fun σ H Q=>ta σ H fun x H1=>∃c,x = .bl c∧Q (.bl (!c)) H1
theorem fH{op}{t:TE}(h:PE X a t):PE X (.BoolOp op [a] pos) t:=fun pins s σ H Q I hw=>BoolOp_one (h pins s σ H Q I hw)
theorem iO(ha:PE X a ta)(hb:PE X (.BoolOp .And (b::rest) pos) tb):PE X (.BoolOp .And (a::b::rest) pos) (v4 ta tb):=by
 intro pins s σ H Q I h;refine BoolOp_and (thn (ha pins s σ H _ I h) fun v s1 ⟨x,H1,I1,r1,q1⟩=>?_);obtain⟨c,rfl,q1⟩:=q1;cases r1;refine wpAny_truthy_bool ?_;cases c with
 | true=>exact hb pins s1 σ H1 Q I1 q1
 | false=>exact⟨.bl false,H1,I1,rfl,q1⟩
theorem ut(ha:PE X a ta)(hb:PE X (.BoolOp .Or (b::rest) pos) tb):PE X (.BoolOp .Or (a::b::rest) pos) (wU ta tb):=by
 intro pins s σ H Q I h;refine BoolOp_or (thn (ha pins s σ H _ I h) fun v s1 ⟨x,H1,I1,r1,q1⟩=>?_);obtain⟨c,rfl,q1⟩:=q1;cases r1;refine wpAny_truthy_bool ?_;cases c with
 | false=>exact hb pins s1 σ H1 Q I1 q1
 | true=>exact⟨.bl true,H1,I1,rfl,q1⟩
theorem qK(ha:PE X a ta):PE X (.UnaryOp .Not a pos) (vV ta):=by
 intro pins s σ H Q I h;refine UnaryOp_ (thn (ha pins s σ H _ I h) fun v s1 ⟨x,H1,I1,r1,q1⟩=>?_);obtain⟨c,rfl,q1⟩:=q1;cases r1;exact not_of (wpAny_truthy_bool ⟨.bl (!c),H1,I1,rfl,q1⟩)
def tIf(t:TT)(ta tb:TE):TE:=fun σ H Q=>t σ H fun c H1=>if c=true then ta σ H1 Q else tb σ H1 Q
theorem gj{c:Expr}(hc:PT X c tA)(ha:PE X a ta)(hb:PE X b tb):PE X (.IfExp c a b pos) (tIf tA ta tb):=by
 intro pins s σ H Q I h;refine wpAny_IfExp (thn (hc pins s σ H _ I h) fun d s1 ⟨H1,I1,q1⟩=>?_);cases d with
 | true=>exact ha pins s1 σ H1 Q I1 q1
 | false=>exact hb pins s1 σ H1 Q I1 q1
end
end L2
namespace L2
open PySem PySem.Spec PyProof.Rows
def SqL(K:W.Frag)(H:Hp)(a:Addr)(xs:List V):Prop :=
 Rd H a (.lst xs) ∨
  ∃(o:Obj) (its:Array Value) (n:Nat),K.lookup a=some o∧o.cls = .type "list"∧o.dict=none∧o.data = .seq its n∧its.size≤sizeLine∧aP xs its.toList
def SqT(K:W.Frag)(H:Hp)(a:Addr)(xs:List V):Prop :=
 Rd H a (.tup xs) ∨
  ∃(o:Obj) (its:Array Value) (n:Nat),K.lookup a=some o∧o.cls = .type "tuple"∧o.data = .seq its n∧its.size≤sizeLine∧aP xs its.toList
def xm:Value->Option V
 | .none=>some .non
 | .bool b=>some (.bl b)
 | .int i _=>some (.int i)
 | .str x _=>some (.str x)
 | .bytes b _=>some (.byt b)
 | .float b _=>some (.flt b)
 | .ref a=>some (.ref a)
 | .type n=>some (.ty n)
 | _=>none
theorem aS.abs{x:V}{u:Value}(r:aS x u):xm u=some x:=by
 cases x with
 | non=>cases r;rfl
 | bl _=>cases r;rfl
 | int _=>obtain⟨t,rfl⟩:=r;rfl
 | str _=>obtain⟨t,rfl⟩:=r;rfl
 | byt _=>obtain⟨t,rfl⟩:=r;rfl
 | flt _=>obtain⟨t,rfl⟩:=r;rfl
 | ref _=>cases r;rfl
 | ty _=>cases r;rfl
theorem aS.inj{x y:V}{u:Value}(r:aS x u)(q:aS y u):x=y:=Option.some.inj (r.abs.symm.trans q.abs)
theorem aP.inj:∀{xs ys:List V} {us:List Value},aP xs us->aP ys us->xs=ys
 | _,_,_,.nil,.nil=>rfl
 | _,_,_,.cons r t,.cons r' t'=>by rw[r.inj r',aP.inj t t']
section
variable {X:Cx} {pins:List (Addr×Obj)} {σ:St} {H:Hp} {s:Shared} {a:Addr} {xs ys:List V}
theorem SqL.of{K:W.Frag}(h:H a=some (.lst xs)):SqL K H a xs:=.inl (.inl h)
theorem SqT.of{K:W.Frag}(h:H a=some (.tup xs)):SqT K H a xs:=.inl (.inl h)
theorem xq.list(I:xq X pins σ H s)(h:SqL X.K H a xs):∃its:List Value,aP xs its∧PlainL s.heap a its.toArray∧xs.length≤sizeLine:=by
 rcases h with h|⟨o,its,n,hk,hc,hd,hs,hz,r⟩
 ·obtain⟨z,its,n,r,e⟩:=h.ok I.hok
  exact⟨its,r,⟨_,n,e,rfl,rfl,rfl⟩,z⟩
 ·refine⟨its.toList,r,⟨o,n,I.kIn a o hk,hc,hd,by simpa using hs⟩,?_⟩
  have e:=r.length;simp only[Array.length_toList]at e;omega
theorem xq.tuple(I:xq X pins σ H s)(h:SqT X.K H a xs):∃its:List Value,aP xs its∧IsTup s.heap a its.toArray∧xs.length≤sizeLine:=by
 rcases h with h|⟨o,its,n,hk,hc,hs,hz,r⟩
 ·obtain⟨z,its,r,p⟩:=h.ok I.hok
  exact⟨its,r,p,z⟩
 ·refine⟨its.toList,r,⟨o,I.kIn a o hk,hc,n,by simpa using hs⟩,?_⟩
  have e:=r.length;simp only[Array.length_toList]at e;omega
theorem xq.list_inj(I:xq X pins σ H s)(h:SqL X.K H a xs)(h':SqL X.K H a ys):xs=ys:=by
 obtain⟨its,r,⟨o,n,e,_,_,d⟩,_⟩:=I.list h;obtain⟨its',r',⟨o',n',e',_,_,d'⟩,_⟩:=I.list h';rw[e]at e';cases e';rw[d]at d';injection d' with d1 _
 have:its=its':=by simpa using congrArg Array.toList d1
 subst this;exact r.inj r'
theorem xq.tuple_inj(I:xq X pins σ H s)(h:SqT X.K H a xs)(h':SqT X.K H a ys):xs=ys:=by
 obtain⟨its,r,⟨o,e,_,n,d⟩,_⟩:=I.tuple h;obtain⟨its',r',⟨o',e',_,n',d'⟩,_⟩:=I.tuple h';rw[e]at e';cases e';rw[d]at d';injection d' with d1 _
 have:its=its':=by simpa using congrArg Array.toList d1
 subst this;exact r.inj r'
end
abbrev Cx.wish(X:Cx)(E:Value->Shared->Prop):Cx:={ X with xe:=E }
abbrev Cx.nox(X:Cx):Cx:=X.wish fun _ _=>False
theorem Cx.Ok.wish{X:Cx}(ok:X.Ok)(E:Value->Shared->Prop):(X.wish E).Ok :=
 ⟨ok.mod,ok.kind,ok.glob,ok.blt,ok.above,ok.inj,ok.has,ok.cab,ok.hd,ok.frames,ok.stk,ok.exf,ok.bs,ok.bsz,ok.noex,ok.exfs,ok.funs,ok.frf⟩
theorem Cx.Ok.unwish{X:Cx}{E:Value->Shared->Prop}(ok:(X.wish E).Ok):X.Ok :=
 ⟨ok.mod,ok.kind,ok.glob,ok.blt,ok.above,ok.inj,ok.has,ok.cab,ok.hd,ok.frames,ok.stk,ok.exf,ok.bs,ok.bsz,ok.noex,ok.exfs,ok.funs,ok.frf⟩
section
variable {X:Cx} {pins:List (Addr×Obj)} {σ:St} {H:Hp} {s:Shared} {E:Value->Shared->Prop}
theorem xq.wish(I:xq X pins σ H s)(E:Value->Shared->Prop):xq (X.wish E) pins σ H s:=⟨I.ok.wish E,I.os,I.bare,I.base,I.loc,I.cell,I.free,I.freeC,I.pin,I.hok,I.len⟩
theorem xq.unwish(I:xq (X.wish E) pins σ H s):xq X pins σ H s:=⟨I.ok.unwish,I.os,I.bare,I.base,I.loc,I.cell,I.free,I.freeC,I.pin,I.hok,I.len⟩
theorem SP.unwish{D:AT}{f:Flow}{s':Shared}(h:SP (X.wish E) pins D f s'):SP X pins D f s':=by
 cases f with
 | next=>obtain⟨σ',H',I,q⟩:=h;exact⟨σ',H',I.unwish,q⟩
 | brk=>obtain⟨σ',H',I,q⟩:=h;exact⟨σ',H',I.unwish,q⟩
 | cont=>obtain⟨σ',H',I,q⟩:=h;exact⟨σ',H',I.unwish,q⟩
 | ret u=>obtain⟨v,σ',H',I,r,q⟩:=h;exact⟨v,σ',H',I.unwish,r,q⟩
theorem PSs.nox{st:List Stmt}{t:TS}(h:PSs X.nox st t):PSs X st t:=fun pins s σ H D I hw =>
 wpAny_mono (h pins s σ H D (I.wish _) hw) (fun _ _ q=>q.unwish) fun _ _ z=>False.elim z
end
section
variable {X:Cx} {st:Stmt} {rest:List Stmt} {t u:TS} {e:Expr} {te:TE} {pos:Pos}
def vW:TS:=fun D σ H=>D.nx σ H
def wT(t u:TS):TS:=fun D σ H=>t { D with nx:=u D } σ H
theorem aF:PSs X [] vW:=fun _ _ σ H _ I h=>wpAny_execs_nil ⟨σ,H,I,h⟩
theorem ag(h1:PS X st t)(h2:PSs X rest u):PSs X (st::rest) (wT t u):=by
 intro pins s σ H D I h;refine wpAny_execs_cons (thn (h1 pins s σ H { D with nx:=u D } I h) fun f s1 q=>?_);cases f with
 | next =>
  obtain⟨σ',H',I',q⟩:=q;exact h2 pins s1 σ' H' D I' q
 | ret v=>exact q
 | brk=>exact q
 | cont=>exact q
theorem ao(h1:PS X st t):PSs X [st] t:=by
 intro pins s σ H D I h;refine wpAny_execs_cons (thn (h1 pins s σ H D I h) fun f s1 q=>?_);cases f with
 | next=>exact wpAny_execs_nil q
 | ret v=>exact q
 | brk=>exact q
 | cont=>exact q
theorem xq.quiet{pins:List (Addr×Obj)}{σ:St}{H:Hp}{s:Shared}(I:xq X pins σ H s):interactive X.env=false:=by simp[interactive,I.ok.kind]
def vZ(te:TE):TS:=fun D σ H=>te σ H fun _ H1=>D.nx σ H1
theorem bJ(he:PE X e te)(hs:swapsWith e none pos.line X.env=pure false:=by rfl):PS X (.Expr e pos) (vZ te):=by
 intro pins s σ H D I h;exact wpAny_Expr_any (thn (he pins s σ H _ I h) fun v s1 ⟨x,H1,I1,r1,q1⟩=>⟨σ,H1,I1,q1⟩) I.quiet hs
def vT(te:TE):TS:=fun D σ H=>te σ H D.rt
theorem aB(he:PE X e te):PS X (.Return (some e) pos) (vT te):=by
 intro pins s σ H D I h;exact wpAny_Return_some (thn (he pins s σ H _ I h) fun v s1 ⟨x,H1,I1,r1,q1⟩=>⟨x,σ,H1,I1,r1,q1⟩)
def wX(c:TT)(t u:TS):TS:=fun D σ H=>c σ H fun b H1=>if b=true then t D σ H1 else u D σ H1
theorem aQ{c:Expr}{a b:List Stmt}{tc:TT}(hc:PT X c tc)(ha:PSs X a t)(hb:PSs X b u):PS X (.If c a b pos) (wX tc t u):=by
 intro pins s σ H D I h;refine wpAny_If (thn (hc pins s σ H _ I h) fun d s1 ⟨H1,I1,q1⟩=>?_);cases d with
 | true=>exact ha pins s1 σ H1 D I1 q1
 | false=>exact hb pins s1 σ H1 D I1 q1
end
abbrev TG:=V->St->Hp->(St->Hp->Prop)->Prop
abbrev TGs:=List V->St->Hp->(St->Hp->Prop)->Prop
def PG(X:Cx)(target:Expr)(t:TG):Prop :=
 ∀(pins:List (Addr×Obj)) (s:Shared) (σ:St) (H:Hp) (v:V) (u:Value) (Q:St->Hp->Prop),xq X pins σ H s->aS v u->t v σ H Q ->
  wpAny (model X.prog X.w) X.A (assign target X.env u) (fun _ s'=>∃σ' H',xq X pins σ' H' s'∧Q σ' H') X.xe s
def PGs(X:Cx)(ts:List Expr)(t:TGs):Prop :=
 ∀(pins:List (Addr×Obj)) (s:Shared) (σ:St) (H:Hp) (vs:List V) (us:List Value) (Q:St->Hp->Prop),xq X pins σ H s->aP vs us->t vs σ H Q ->
  wpAny (model X.prog X.w) X.A (assignInOrder ((assignEach ts X.env).map (·.2)) us) (fun _ s'=>∃σ' H',xq X pins σ' H' s'∧Q σ' H') X.xe s
abbrev vL:=V->V->V->Hp->(Hp->Prop)->Prop
def vM(X:Cx)(t:vL):Prop :=
 ∀(pins:List (Addr×Obj)) (s:Shared) (σ:St) (H:Hp) (o i v:V) (ov iv u:Value) (Q:Hp->Prop),xq X pins σ H s->aS o ov->aS i iv->aS v u->t o i v H Q ->
  wpAny (model X.prog X.w) X.A (setItem ov iv u) (fun _ s'=>∃H',xq X pins σ H' s'∧Q H') X.xe s
abbrev TIp:=V->V->Hp->VK->Prop
def PIp(X:Cx)(op:Operator)(t:TIp):Prop :=
 ∀(pins:List (Addr×Obj)) (s:Shared) (σ:St) (H:Hp) (x y:V) (v u:Value) (Q:VK),xq X pins σ H s->aS x v->aS y u->t x y H Q ->
  wpAny (model X.prog X.w) X.A (inplaceOp op v u) (EP X pins σ Q) X.xe s
section
variable {X:Cx} {pos:Pos}
def i8(i:Nat):TG:=fun v σ H Q=>Q (σ.set i (some v)) H
theorem aY{i:Nat}{x:Str}(hN:X.N.Nodup)(hi:X.N[i]? = some x)(hx:Loc X.env.scope x)(hf:X.fn x=true∨X.env.scope.names.lookup x=some .local:=by first|exact .inl rfl|exact .inr rfl|assumption):PG X (.Name x pos) (i8 i):=by
 intro pins s σ H v u Q I r h;exact wpAny_assign_Name (iF I hN hi hx r (fun s' I'=>⟨_,H,I',h⟩) hf)
inductive Dj (vs:List V) (σ:St) (H:Hp) (Q:St->Hp->Prop):Prop
 | mk (e:vs = []) (q:Q σ H):Dj vs σ H Q
inductive CI (t:TG) (u:TGs) (vs:List V) (σ:St) (H:Hp) (Q:St->Hp->Prop):Prop
 | mk (v:V) (r:List V) (e:vs=v::r) (q:t v σ H fun σ' H'=>u r σ' H' Q):CI t u vs σ H Q
theorem fh:PGs X [] Dj:=by
 intro pins s σ H vs us Q I r h;obtain⟨e,h⟩:=h;subst e;cases r;exact assignInOrder_nil ⟨σ,H,I,h⟩
theorem cr{e:Expr}{es:List Expr}{t:TG}{u:TGs}(h1:PG X e t)(h2:PGs X es u)
  (hs:(assignEach (e::es) X.env).map (·.2)=assign e X.env::(assignEach es X.env).map (·.2):=by rfl):PGs X (e::es) (CI t u):=by
 intro pins s σ H vs us Q I r h;obtain⟨v,vr,e1,h⟩:=h;subst e1;cases r with
 | cons r rr =>
  rw[hs];refine assignInOrder_cons (thn (h1 pins s σ H _ _ _ I r h) fun _ s1 ⟨σ1,H1,I1,q1⟩=>?_);exact h2 pins s1 σ1 H1 _ _ Q I1 rr q1
inductive Di (K:W.Frag) (n:Nat) (t:TGs) (v:V) (σ:St) (H:Hp) (Q:St->Hp->Prop):Prop
 | mk (a:Addr) (xs:List V) (e:v = .ref a) (s:SqT K H a xs) (l:xs.length=n) (q:t xs σ H Q):Di K n t v σ H Q
theorem gJ{es:List Expr}{k:Nat}{t:TGs}{n:Nat}(hc:X.calm=true)(h:PGs X es t)
  (hn:(assignEach es X.env).length=n:=by rfl) (hst:(assignEach es X.env).findIdx? (·.1)=none:=by rfl):PG X (.Tuple es k pos) (Di X.K n t):=by
 intro pins s σ H v u Q I r hw;obtain⟨a,xs,e1,hq,hl,hw⟩:=hw;subst e1;cases r;obtain⟨its,rv,ht,hz⟩:=I.tuple hq;refine assign_Tuple_tuple (I.ok.hd hc) ht (by simp[hn,<- hl,rv.length]) hst fun h' hx=>?_;have I1:xq X pins σ H { s with heap:=h' }:=I.kept (t':=s.toks) fun b o e=>hx b o (Nat.ne_of_lt (Heap.lt_size e)) e
 exact h pins _ σ H xs _ Q I1 (by simpa using rv) hw
def xk(to ti:TE)(t:vL):TG:=fun v σ H Q=>to σ H fun o H1=>ti σ H1 fun i H2=>t o i v H2 fun H3=>Q σ H3
theorem uZ{o i:Expr}{to ti:TE}{t:vL}(ho:PE X o to)(hi:PE X i ti)(hs:vM X t)
  (ha:∀v,assign (.Subscript o i pos) X.env v=(do
   let ov <- holding [v] (eval o X.env)
   let iv <- holding [v,ov] (eval i X.env)
   standAt pos
   holding [v,ov,iv] (setItem ov iv v)
   release [v,ov,iv] []):=by intro _;rfl):PG X (.Subscript o i pos) (xk to ti t):=by
 intro pins s σ H v u Q I r h;rw[ha];refine wpAny_bind (wpAny_holding (thn (ho pins s σ H _ I h) fun ov s1 ⟨x,H1,I1,r1,q1⟩=>?_));refine wpAny_bind (wpAny_holding (thn (hi pins s1 σ H1 _ I1 q1) fun iv s2 ⟨y,H2,I2,r2,q2⟩=>?_));refine wpAny_bind (wpAny_standAt (wpAny_bind (wpAny_holding (thn (hs pins s2 σ H2 x y v ov iv u _ I2 r1 r2 r q2) fun _ s3 ⟨H3,I3,q3⟩=>?_))));exact wpAny_release ⟨σ,H3,I3,q3⟩
def qv(te:TE)(g:TG):TS:=fun D σ H=>te σ H fun x H1=>g x σ H1 D.nx
theorem uW{tg e:Expr}{te:TE}{g:TG}(he:PE X e te)(hg:PG X tg g)(hs:swapsWithSole [tg] e pos.line X.env=pure false:=by rfl)(hw:swappedStores [tg] e X.env=pure none:=by rfl)
  (h1:(assignEach [tg] X.env).map (·.2) = [assign tg X.env]:=by rfl):PS X (.Assign [tg] e pos) (qv te g):=by
 intro pins s σ H D I h;refine wpAny_Assign_stores (thn (he pins s σ H _ I h) fun v s1 ⟨x,H1,I1,r1,q1⟩=>?_) hs hw;rw[h1];exact thn (hg pins s1 σ H1 x v _ I1 r1 q1) fun _ s2 q=>q
theorem ax{i:Nat}{x:Str}{e:Expr}{te:TE}{pos':Pos}(hN:X.N.Nodup)(hi:X.N[i]? = some x)(hx:Loc X.env.scope x)(he:PE X e te)(hs:swapsWith e (some (.Name x pos')) pos.line X.env=pure false:=by rfl)(hf:X.fn x=true∨X.env.scope.names.lookup x=some .local:=by first|exact .inl rfl|exact .inr rfl|assumption) :
  PS X (.Assign [.Name x pos'] e pos) (qv te (i8 i)):=by
 intro pins s σ H D I h;refine wpAny_Assign_Name (thn (he pins s σ H _ I h) fun v s1 ⟨y,H1,I1,r1,q1⟩=>?_) hs;exact iF I1 hN hi hx r1 (fun s2 I2=>⟨_,H1,I2,q1⟩) hf
def w9(i:Nat)(te:TE)(ti:TIp):TS:=fun D σ H=>∃x,σ[i]? = some (some x)∧te σ H fun y H1=>ti x y H1 fun z H2=>D.nx (σ.set i (some z)) H2
theorem mW{i:Nat}{x:Str}{e:Expr}{te:TE}{op:Operator}{ti:TIp}{pos':Pos}(hN:X.N.Nodup)(hi:X.N[i]? = some x)(hx:Loc X.env.scope x)(he:PE X e te)(ho:PIp X op ti)(hf:X.fn x=true∨X.env.scope.names.lookup x=some .local:=by first|exact .inl rfl|exact .inr rfl|assumption) :
  PS X (.AugAssign (.Name x pos') op e pos) (w9 i te ti):=by
 intro pins s σ H D I h;obtain⟨v,e1,h⟩:=h;obtain⟨m,hn,hl⟩:=I.loc;have vis:Vis X.env.scope x:=by rcases hx with k|k;exact .inl k;exact .inr (.inl k)
 obtain⟨u,r,l⟩:=hl i x v hi e1 vis;refine wpAny_AugAssign_Name ?_;have go:wpAny (model X.prog X.w) X.A (eval e X.env) (fun w s₂=>wpAny (model X.prog X.w) X.A (inplaceOp op u w) (fun r s₃=>wpAny (model X.prog X.w) X.A (storeName X.env x r) (fun _=>SP X pins D .next) X.xe s₃) X.xe s₂) X.xe s:=by
  refine thn (he pins s σ H _ I h) fun w s1 ⟨y,H1,I1,r1,q1⟩=>?_;refine thn (ho pins s1 σ H1 v y u w _ I1 r r1 q1) fun z s2 ⟨zv,H2,I2,r2,q2⟩=>?_;exact iF I2 hN hi hx r2 (fun s3 I3=>⟨_,H2,I3,q2⟩) hf
 rcases l with⟨hk,hm⟩|⟨hk,c,hc,hcell⟩
 ·exact wpAny_loadName_local I.ok.kind hk hn hm go
 ·rcases hk with hk|hk
  ·exact wpAny_loadName_cell I.ok.kind hk hc hcell go
  ·rcases hx with k|k
   ·have:X.env.scope.names.lookup x=some .free:=hk
    rw[k]at this;cases this
   ·have:X.env.scope.names.lookup x=some .free:=hk
    rw[k]at this;cases this
def ipI(f:Int->Int->Int):TIp:=fun x y H Q=>∃i j,x = .int i∧y = .int j∧Q (.int (f i j)) H
theorem vo:PIp X .Add (ipI fun i j=>i+j):=by
 intro pins s σ H x y v u Q I r1 r2 h;obtain⟨i,j,e1,e2,q⟩:=h;subst e1;subst e2;obtain⟨t,rfl⟩:=r1;obtain⟨t',rfl⟩:=r2;exact iadd_int ⟨.int _,H,I.tok _,⟨_,rfl⟩,q⟩
end
section
variable {X:Cx} {pos:Pos}
def qr(c:TT)(tb:TS):TS:=fun D σ H=>∃W:Nat->St->Hp->Prop,(∃m,W m σ H)∧∀m σ H,W m σ H ->
 c σ H fun b H1=>if b=true then ∃N:St->Hp->Prop,(∀σ' H',N σ' H'->∃m',m'<m∧W m' σ' H')∧tb { D with nx:=N,ct:=N,bk:=D.nx } σ H1 else D.nx σ H1
theorem dw{c:Expr}{body:List Stmt}{tc:TT}{tb:TS}(hp:PassesOwn (model X.prog X.w) X.A X.env X.xe)(hc:PT X c tc)(hb:PSs X body tb):PS X (.While c body [] pos) (qr tc tb):=by
 intro pins s σ H D I h;obtain⟨W,⟨m0,w0⟩,turn⟩:=h;refine wpAny_While (codeAny_whileLoop (fun n s'=>∃σ' H',xq X pins σ' H' s'∧W n σ' H') ?_ m0 ⟨σ,H,I,w0⟩);rintro n s1 ⟨σ1,H1,I1,w1⟩;refine wpAny_passesOwn hp (thn (hc pins s1 σ1 H1 _ I1 (turn n σ1 H1 w1)) fun b s2 ⟨H2,I2,q2⟩=>?_);cases b with
 | true =>
  obtain⟨N,hN,q2⟩:=q2;rw[if_pos rfl];refine wpAny_passesOwn hp (thn (hb pins s2 σ1 H2 _ I2 q2) fun f s3 q3=>?_);cases f with
  | next =>
   obtain⟨σ3,H3,I3,n3⟩:=q3;obtain⟨m',hm,w3⟩:=hN σ3 H3 n3;exact⟨m',hm,σ3,H3,I3,w3⟩
  | cont =>
   obtain⟨σ3,H3,I3,n3⟩:=q3;obtain⟨m',hm,w3⟩:=hN σ3 H3 n3;exact⟨m',hm,σ3,H3,I3,w3⟩
  | brk=>exact q3
  | ret v=>exact q3
 | false =>
  rw[if_neg Bool.false_ne_true];exact wpAny_execs_nil ⟨σ1,H2,I2,q2⟩
end
structure It where
 go:Nat->Hp->Prop
 yld:Nat->Hp->V->Hp->Prop
 stop:Nat->Hp->Prop
def eE(X:Cx)(pins:List (Addr×Obj))(H:Hp)(b:Addr):Prop :=
 H b=none∧b≠X.env.locals∧b∉X.fs∧(b∈X.ex∨X.s₀.heap.objs.size≤b)∧(∀x c,X.env.cells.lookup x=some c->c≠b)∧∀p∈X.pn++pins,p.1≠b
theorem xq.fpOk{X:Cx}{pins:List (Addr×Obj)}{σ:St}{H H':Hp}{s:Shared}{b:Addr}(I:xq X pins σ H s)(hb:s.heap.objs.size≤b)(hn:H' b=none):eE X pins H' b:=by
 refine⟨hn,Nat.ne_of_gt (Nat.lt_of_lt_of_le I.lt hb),I.nofs hb,.inr (Nat.le_trans I.sz hb),fun x c e z=>?_,fun p hp z=>?_⟩
 ·obtain⟨v,q⟩:=I.cell x c e
  exact absurd (Nat.lt_of_lt_of_le q.lt (by rw[z];exact hb)) (Nat.lt_irrefl _)
 ·exact absurd (Nat.lt_of_lt_of_le (Heap.lt_size (I.pin p hp).1) (by rw[z];exact hb)) (Nat.lt_irrefl _)
structure Bf(P:Program)(w:World)(K:W.Frag)(tg:Expr)(J:It)(fp:List Addr)(it:Addr)(tn:Nat->Heap->Prop):Prop where
 mem:it∈fp
 obj:∀i h,tn i h->∀b∈fp,∃o,h.get? b=some o∧∀v,o.data≠.cell v
 keep:∀i h h',tn i h->(∀b∈fp,∀o,h.get? b=some o->h'.get? b=some o)->tn i h'
 item:∀(X:Cx),X.prog=P->X.w=w->X.K=K->X.calm=true->∀(i:Nat) (pins:List (Addr×Obj)) (s:Shared) (σ:St) (H:Hp) (E:Value->Shared->Prop),xq X pins σ H s->(∀b∈fp,eE X pins H b)->tn i s.heap->J.go i H ->
  wpAny (model P w) X.A (pyNext (.ref it)) (fun r s1=>∃u,r=some u ∧
   wpAny (model P w) X.A (letOwnedTupleGo tg (.ref it) u) (fun _ s2=>∃x H',xq X pins σ H' s2∧aS x u∧J.yld i H x H'∧tn (i+1) s2.heap∧∀b∈fp,H' b=none) E s1) E s
 done:∀(X:Cx),X.prog=P->X.w=w->X.K=K->X.calm=true->∀(i:Nat) (pins:List (Addr×Obj)) (s:Shared) (σ:St) (H:Hp) (E:Value->Shared->Prop),xq X pins σ H s->(∀b∈fp,eE X pins H b)->tn i s.heap->J.stop i H ->
  wpAny (model P w) X.A (pyNext (.ref it)) (fun r s1=>r=none∧xq X pins σ H s1) E s
 self:∀(A:Around) (i:Nat) (s:Shared) (Q:Value->Shared->Prop) (E:Value->Shared->Prop),tn i s.heap->Q (.ref it) s->wpAny (model P w) A (pyIter (.ref it)) Q E s
abbrev TI:=St->Hp->(It->Hp->Prop)->Prop
def PIE(X:Cx)(pins:List (Addr×Obj))(σ:St)(tg:Expr)(R:It->Hp->Prop)(itv:Value)(s2:Shared):Prop :=
 ∃(it:Addr) (fp:List Addr) (tn:Nat->Heap->Prop) (J:It) (H':Hp),itv = .ref it∧xq X pins σ H' s2∧Bf X.prog X.w X.K tg J fp it tn∧tn 0 s2.heap∧(∀b∈fp,eE X pins H' b)∧R J H'
def PI(X:Cx)(tg iter:Expr)(wi:TI):Prop :=
 ∀(pins:List (Addr×Obj)) (s:Shared) (σ:St) (H:Hp) (R:It->Hp->Prop),xq X pins σ H s->wi σ H R ->
  wpAny (model X.prog X.w) X.A (eval iter X.env) (fun v s1=>wpAny (model X.prog X.w) X.A (pyIter v) (PIE X pins σ tg R) X.xe s1) X.xe s
theorem l3{M:Model}{A:Around}{E:Value->Shared->Prop}{s:Shared}{tg:Expr}{it:Addr}{u:Value}{o:Obj}{n:String}{vs:Array Value}{Q:Unit->Shared->Prop}(ho:s.heap.get? it=some o)(hc:o.cls = .type n)(hd:o.data = .fields vs)
    (hn:["enumerate","zip","dict_itemiterator","dict_reverseitemiterator","odict_iterator","itertools.zip_longest","itertools.pairwise"].contains n=false) (hQ:Q () s):wpAny M A (letOwnedTupleGo tg (.ref it) u) Q E s:=by
  unfold letOwnedTupleGo;cases tg <;> first
    | exact wpAny_pure hQ
    | (cases u <;> first
        | exact wpAny_pure hQ
        | (refine wpAny_bind (wpAny_load ho ?_)
           rw[hc,hd];show wpAny M A (if (["enumerate","zip","dict_itemiterator","dict_reverseitemiterator","odict_iterator","itertools.zip_longest","itertools.pairwise"].contains n && vs[0]? == some (rawInt _))=true then _ else _) Q E s
           rw[if_neg (by intro h;rw[hn,Bool.false_and]at h;cases h)];exact wpAny_pure hQ))
def Itl(K:W.Frag)(a:Addr):It :=
 ⟨fun i H=>∃xs x,SqL K H a xs∧xs[i]? = some x,fun i H x H'=>H'=H∧∀xs,SqL K H a xs->xs[i]? = some x,fun i H=>∃xs,SqL K H a xs∧xs.length≤i⟩
def Itt(K:W.Frag)(a:Addr):It :=
 ⟨fun i H=>∃xs x,SqT K H a xs∧xs[i]? = some x,fun i H x H'=>H'=H∧∀xs,SqT K H a xs->xs[i]? = some x,fun i H=>∃xs,SqT K H a xs∧xs.length≤i⟩
def Itr(lo:Int)(n:Nat):It:=⟨fun i _=>i<n,fun i H x H'=>H'=H∧x = .int (lo+i),fun i _=>n≤i⟩
theorem oU{P:Program}{w:World}{K:W.Frag}{tg:Expr}(a it:Addr):Bf P w K tg (Itl K a) [it] it (fun i h=>h.IsListIter it a i) where
 mem:=by simp
 obj:=fun i h st b hb=>by
  have e:b=it:=by simpa using hb
  subst e;obtain⟨o,e,c,d⟩:=st;exact⟨o,e,fun v z=>by rw[d]at z;cases z⟩
 keep:=fun i h h' st k=>st.at fun o e=>k it (by simp) o e
 item:=by
  intro X hP hw hK hc i pins s σ H E I hf st hg;subst hP hw hK;obtain⟨xs,x,hq,hx⟩:=hg;obtain⟨its,rv,p,hz⟩:=I.list hq;obtain⟨u,hu,ru⟩:=rv.get hx;obtain⟨f0,f1,f2,f3,f4,f5⟩:=hf it (by simp);refine wpAny_pyNext_list_item st p.isList (x:=u) (by simpa using hu) fun h' st' sb=>?_;have I1:xq X pins σ H { s with heap:=h' }:=I.turned (t':=s.toks) (fun b o hb e=>(sb.2 b hb).trans e) f0 f1 f3 f4 f5;obtain⟨o,e,c,d⟩:=id st';exact⟨u,rfl,l3 (s:={ s with heap:=h' }) e c d (by decide) ⟨x,H,I1,ru,⟨rfl,fun ys hy=>by rw[I.list_inj hy hq];exact hx⟩,st',fun b hb=>(hf b hb).1⟩⟩
 done:=by
  intro X hP hw hK hc i pins s σ H E I hf st hg;subst hP hw hK;obtain⟨xs,hq,hx⟩:=hg;obtain⟨its,rv,p,hz⟩:=I.list hq;obtain⟨f0,f1,f2,f3,f4,f5⟩:=hf it (by simp);have hl:=rv.length;exact wpAny_pyNext_list_end (I.ok.hd hc) st p.isList (by simp;omega) fun h' eb=>⟨rfl,I.turned (t':=s.toks) (fun b o hb e=>eb b o hb e) f0 f1 f3 f4 f5⟩
 self:=fun _ _ _ _ _ st h=>wpAny_pyIter_listiter st h
theorem mL{P:Program}{w:World}{K:W.Frag}{tg:Expr}(a it:Addr):Bf P w K tg (Itt K a) [it] it (fun i h=>h.IsTupleIter it a i) where
 mem:=by simp
 obj:=fun i h st b hb=>by
  have e:b=it:=by simpa using hb
  subst e;obtain⟨o,e,c,d⟩:=st;exact⟨o,e,fun v z=>by rw[d]at z;cases z⟩
 keep:=fun i h h' st k=>st.at fun o e=>k it (by simp) o e
 item:=by
  intro X hP hw hK hc i pins s σ H E I hf st hg;subst hP hw hK;obtain⟨xs,x,hq,hx⟩:=hg;obtain⟨its,rv,p,hz⟩:=I.tuple hq;obtain⟨u,hu,ru⟩:=rv.get hx;obtain⟨f0,f1,f2,f3,f4,f5⟩:=hf it (by simp);refine wpAny_pyNext_tuple_item st (show s.heap.IsTuple a its.toArray from p) (x:=u) (by simpa using hu) fun h' st' sb=>?_;have I1:xq X pins σ H { s with heap:=h' }:=I.turned (t':=s.toks) (fun b o hb e=>(sb.2 b hb).trans e) f0 f1 f3 f4 f5;obtain⟨o,e,c,d⟩:=id st';exact⟨u,rfl,l3 (s:={ s with heap:=h' }) e c d (by decide) ⟨x,H,I1,ru,⟨rfl,fun ys hy=>by rw[I.tuple_inj hy hq];exact hx⟩,st',fun b hb=>(hf b hb).1⟩⟩
 done:=by
  intro X hP hw hK hc i pins s σ H E I hf st hg;subst hP hw hK;obtain⟨xs,hq,hx⟩:=hg;obtain⟨its,rv,p,hz⟩:=I.tuple hq;obtain⟨f0,f1,f2,f3,f4,f5⟩:=hf it (by simp);have hl:=rv.length;exact wpAny_pyNext_tuple_end (I.ok.hd hc) st (show s.heap.IsTuple a its.toArray from p) (by simp;omega) fun h' eb=>⟨rfl,I.turned (t':=s.toks) (fun b o hb e=>eb b o hb e) f0 f1 f3 f4 f5⟩
 self:=fun _ _ _ _ _ st h=>wpAny_pyIter_tupleiter st h
theorem mM{P:Program}{w:World}{K:W.Frag}{tg:Expr}(it:Addr)(lo:Int)(n:Nat):Bf P w K tg (Itr lo n) [it] it (fun i h=>IsRangeIter h it (lo+(i:Nat)*1) ((n:Int) - (i:Nat)) 1) where
 mem:=by simp
 obj:=fun i h st b hb=>by
  have e:b=it:=by simpa using hb
  subst e;exact⟨_,st,fun v z=>by
   have z':Data.fields _=Data.cell v:=z;cases z'⟩
 keep:=fun i h h' st k=>k it (by simp) _ st
 item:=by
  intro X hP hw hK hc i pins s σ H E I hf st hg;subst hP hw hK;obtain⟨f0,f1,f2,f3,f4,f5⟩:=hf it (by simp);have W:=Walks.range (prog:=X.prog) (w:=X.w) (I.ok.hd hc) it lo 1 n;refine W.item i s _ _ hg st fun v h' tk hv st' kk=>?_;obtain⟨t,rfl⟩:=hv;have I1:xq X pins σ H { s with heap:=h',toks:=tk }:=I.turned (fun b o hb e=>kk b o (by simpa using hb) e) f0 f1 f3 f4 f5;refine⟨_,rfl,l3 (s:={ s with heap:=h',toks:=tk }) (n:="range_iterator") st' rfl rfl (by decide) ⟨.int (lo+i),H,I1,⟨t,?_⟩,⟨rfl,rfl⟩,st',fun b hb=>(hf b hb).1⟩⟩;rw[Int.mul_one]
 done:=by
  intro X hP hw hK hc i pins s σ H E I hf st hg;subst hP hw hK;obtain⟨f0,f1,f2,f3,f4,f5⟩:=hf it (by simp);exact wpAny_pyNext_range_end (I.ok.hd hc) st (by have:n≤i:=hg;omega) fun h' eb=>⟨rfl,I.turned (t':=s.toks) (fun b o hb e=>eb b o hb e) f0 f1 f3 f4 f5⟩
 self:=fun _ _ _ _ _ st h=>wpAny_pyIter_rangeiter st h
end L2
namespace L2
open PySem PySem.Spec PyProof.Rows
section
variable {X:Cx} {tg:Expr}
def wA(K:W.Frag)(tl:TE):TI:=fun σ H R=>tl σ H fun x H1=>∃a,x = .ref a∧(∃xs,SqL K H1 a xs)∧R (Itl K a) H1
def xh(K:W.Frag)(tl:TE):TI:=fun σ H R=>tl σ H fun x H1=>∃a,x = .ref a∧(∃xs,SqT K H1 a xs)∧R (Itt K a) H1
theorem cP{l:Expr}{tl:TE}(hl:PE X l tl):PI X tg l (wA X.K tl):=by
 intro pins s σ H R I h;refine thn (hl pins s σ H _ I h) fun v s1 ⟨x,H1,I1,r1,q1⟩=>?_;obtain⟨a,e,⟨xs,hq⟩,q⟩:=q1;subst e;cases r1;obtain⟨its,rv,p,hz⟩:=I1.list hq;refine wpAny_pyIter_list p.isList ?_;refine⟨s1.heap.objs.size,[s1.heap.objs.size],_,_,H1,rfl,I1.kept (t':=s1.toks) fun b o e=>Heap.get?_push_of_some _ e,oU a _,⟨_,Heap.get?_push_size _ rfl,rfl,rfl⟩,fun b hb=>?_,q⟩;have e:b=s1.heap.objs.size:=by simpa using hb
 subst e;exact I1.fpOk (Nat.le_refl _) (I1.hok.fresh (Nat.le_refl _))
theorem uX{l:Expr}{tl:TE}(hl:PE X l tl):PI X tg l (xh X.K tl):=by
 intro pins s σ H R I h;refine thn (hl pins s σ H _ I h) fun v s1 ⟨x,H1,I1,r1,q1⟩=>?_;obtain⟨a,e,⟨xs,hq⟩,q⟩:=q1;subst e;cases r1;obtain⟨its,rv,p,hz⟩:=I1.tuple hq;refine wpAny_pyIter_tuple (show s1.heap.IsTuple a its.toArray from p) ?_;refine⟨s1.heap.objs.size,[s1.heap.objs.size],_,_,H1,rfl,I1.kept (t':=s1.toks) fun b o e=>Heap.get?_push_of_some _ e,mL a _,⟨_,Heap.get?_push_size _ rfl,rfl,rfl⟩,fun b hb=>?_,q⟩;have e:b=s1.heap.objs.size:=by simpa using hb
 subst e;exact I1.fpOk (Nat.le_refl _) (I1.hok.fresh (Nat.le_refl _))
theorem lz{pins:List (Addr×Obj)}{σ:St}{H:Hp}{s:Shared}{R:It->Hp->Prop}{E:Value->Shared->Prop}{lo hi:Int}{t u v:Tok}{tk:Nat}(I:xq X pins σ H s)(h1:-(2^62)≤lo)(h2:lo<2^62)(h3:-(2^62)≤hi)(h4:hi<2^62)
  (q:R (Itr lo (hi - lo).toNat) H):wpAny (model X.prog X.w) X.A (pyIter (.ref s.heap.objs.size)) (PIE X pins σ tg R) E { s with heap:=s.heap.push { cls:=.type "range",data:=.fields #[.int lo t,.int hi u,.int 1 v] },toks:=tk }:=by
 refine wpAny_pyIter_range (IsRange.new ..) (small_one h1 h2 h3 h4) ?_;have I1:xq X pins σ H { s with heap:=s.heap.push { cls:=.type "range",data:=.fields #[.int lo t,.int hi u,.int 1 v] },toks:=tk }:=I.kept fun b o e=>Heap.get?_push_of_some _ e;refine⟨(s.heap.push { cls:=.type "range",data:=.fields #[.int lo t,.int hi u,.int 1 v] }).objs.size,[(s.heap.push { cls:=.type "range",data:=.fields #[.int lo t,.int hi u,.int 1 v] }).objs.size],_,_,H,rfl,
  I1.kept (t':=tk) fun b o e=>Heap.get?_push_of_some _ e,mM _ lo (hi - lo).toNat,?_,fun b hb=>?_,q⟩
 ·have e1:lo+((0:Nat):Int)*1=lo:=by simp
  have e2:(((hi - lo).toNat:Nat):Int) - ((0:Nat):Int)=Builtin.Range.rangeSize lo hi 1:=by rw[rangeSize_one];split <;> omega
  show IsRangeIter _ _ (lo+((0:Nat):Int)*1) ((((hi - lo).toNat:Nat):Int) - ((0:Nat):Int)) 1;rw[e1,e2];exact Heap.get?_push_size _ rfl
 ·have e:b=(s.heap.push { cls:=.type "range",data:=.fields #[.int lo t,.int hi u,.int 1 v] }).objs.size:=by simpa using hb
  subst e;exact I1.fpOk (Nat.le_refl _) (I1.hok.fresh (Nat.le_refl _))
def wz(ta:TA):TI:=fun σ H R=>ta σ H fun vs H1=>∃j:Int,vs = [.int j]∧-(2^62)≤j∧j<2^62∧R (Itr 0 j.toNat) H1
def wy(ta:TA):TI:=fun σ H R=>ta σ H fun vs H1=>∃i j:Int,vs = [.int i,.int j]∧(-(2^62)≤i∧i<2^62∧-(2^62)≤j∧j<2^62)∧R (Itr i (j - i).toNat) H1
theorem fg{a:Expr}{ta:TA}{p pos:Pos}(hg:Gl X "range")(hm:X.mg "range" = none)(ha:PA X [a] ta)(hs:starEach [a] X.env = [(false,eval a X.env)]:=by rfl):PI X tg (.Call (.Name "range" p) [a] [] pos) (wz ta):=by
 intro pins s σ H R I h;refine Call_ (fI I hg hm boot_range (PyProof.Rows.callWith_type1 (thn (ha pos pins s σ H _ I h) fun us s1 ⟨vs,H1,I1,r1,q1⟩=>?_) hs rfl));obtain⟨j,e,q1,q2,q⟩:=q1;subst e;cases r1 with
 | cons r rr =>
  cases rr;obtain⟨t,rfl⟩:=r;exact call_range_1 (lz I1 (by omega) (by omega) q1 q2 (by simpa using q))
theorem o7{a b:Expr}{ta:TA}{p pos:Pos}(hg:Gl X "range")(hm:X.mg "range" = none)(ha:PA X [a,b] ta)(hs:starEach [a,b] X.env = [(false,eval a X.env),(false,eval b X.env)]:=by rfl)(hs2:starEach [b] X.env = [(false,eval b X.env)]:=by rfl) :
  PI X tg (.Call (.Name "range" p) [a,b] [] pos) (wy ta):=by
 intro pins s σ H R I h;refine Call_ (fI I hg hm boot_range (PyProof.Rows.callWith_type1 (thn (ha pos pins s σ H _ I h) fun us s1 ⟨vs,H1,I1,r1,q1⟩=>?_) (by rw[hs,hs2]) (by rw[hs2];rfl)));obtain⟨i,j,e,⟨q1,q2,q3,q4⟩,q⟩:=q1;subst e;cases r1 with
 | cons r rr =>
  cases rr with
  | cons r' rr =>
   cases rr;obtain⟨t,rfl⟩:=r;obtain⟨t',rfl⟩:=r';exact call_range_2 (lz I1 q1 q2 q3 q4 q)
def wZ(wi:TI)(g:TG)(tb:TS):TS:=fun D σ H=>wi σ H fun J H1=>∃W:Nat->Nat->St->Hp->Prop,(∃m,W 0 m σ H1)∧∀i m σ H,W i m σ H ->
 (J.stop i H∧D.nx σ H)∨(J.go i H∧∃N:St->Hp->Prop,(∀σ' H',N σ' H'->∃m',m'<m∧W (i+1) m' σ' H')∧∀x H',J.yld i H x H'->g x σ H' fun σ2 H2=>tb { D with nx:=N,ct:=N,bk:=D.nx } σ2 H2)
def iM(fp:List Addr)(h:Heap):List (Addr×Obj):=fp.filterMap fun b=>(h.get? b).map fun o=>(b,o)
theorem db{fp:List Addr}{h:Heap}{b:Addr}{o:Obj}(hb:b∈fp)(e:h.get? b=some o):(b,o)∈iM fp h:=List.mem_filterMap.mpr ⟨b,hb,by rw[e];rfl⟩
theorem pF{fp:List Addr}{h:Heap}{p:Addr×Obj}(hp:p∈iM fp h):p.1∈fp∧h.get? p.1=some p.2:=by
 obtain⟨b,hb,e⟩:=List.mem_filterMap.mp hp;cases q:h.get? b with
 | none=>rw[q]at e;cases e
 | some o =>
  rw[q]at e;have e':(b,o)=p:=Option.some.inj e;subst e';exact⟨hb,q⟩
theorem xq.pinned{pins:List (Addr×Obj)}{σ:St}{H:Hp}{s:Shared}{fp:List Addr}(I:xq X pins σ H s)(hf:∀b∈fp,eE X pins H b)(ho:∀b∈fp,∃o,s.heap.get? b=some o∧∀v,o.data≠.cell v):xq X (pins++iM fp s.heap) σ H s :=
 I.pins_of fun p hp=>(List.mem_append.mp hp).elim (fun z=>I.pin p (List.mem_append_right _ z)) fun z=>by
  obtain⟨hb,e⟩:=pF z;obtain⟨f0,f1,f2,_⟩:=hf p.1 hb;obtain⟨o,e',d⟩:=ho p.1 hb;rw[e]at e';cases e';exact⟨e,f0,f1,f2,d⟩
theorem xq.unpinned{pins pl:List (Addr×Obj)}{σ:St}{H:Hp}{s:Shared}(I:xq X (pins++pl) σ H s):xq X pins σ H s:=I.pins_of fun p hp=>I.pin p (List.mem_append_right _ (List.mem_append_left _ hp))
theorem cI{iter:Expr}{body:List Stmt}{wi:TI}{g:TG}{tb:TS}{pos:Pos}(hp:PassesOwn (model X.prog X.w) X.A X.env X.xe)(hc:X.calm=true)(hi:PI X tg iter wi)(hg:PG X tg g)(hb:PSs X body tb)
  (hs:∀x,foldedSetIterable iter X.env x=pure x:=by intro _;rfl):PS X (.For tg iter body [] pos) (wZ wi g tb):=by
 intro pins s σ H D I h;refine wpAny_For (thn (hi pins s σ H _ I h) fun v s1 h1=>thn h1 fun itv s2 h2=>?_) hs;obtain⟨it,fp,tn,J,H2,e,I2,T,st2,f2,W,⟨m0,w0⟩,turn⟩:=h2;subst e;have stat:∀{H':Hp},(∀b∈fp,H' b=none)->∀b∈fp,eE X pins H' b:=fun hn b hb=>⟨hn b hb,(f2 b hb).2⟩;refine codeAny_forLoop_any (fun n s'=>∃i σ' H',xq X pins σ' H' s'∧tn i s'.heap∧(∀b∈fp,H' b=none)∧W i n σ' H') ?_ m0 ⟨0,σ,H2,I2,st2,fun b hb=>(f2 b hb).1,w0⟩;rintro n s3 ⟨i,σ3,H3,I3,st3,fr3,w3⟩;rcases turn i n σ3 H3 w3 with⟨stop,qn⟩|⟨go,N,hN,step⟩
 ·refine wpAny_passesOwn hp (thn (T.done X rfl rfl rfl hc i pins s3 σ3 H3 X.xe I3 (stat fr3) st3 stop) fun r s4 ⟨hr,I4⟩=>?_)
  subst hr;exact wpAny_execs_nil ⟨σ3,H3,I4,qn⟩
 ·refine wpAny_passesOwn hp (thn (T.item X rfl rfl rfl hc i pins s3 σ3 H3 X.xe I3 (stat fr3) st3 go) fun r s4 ⟨u,hr,h4⟩=>?_)
  subst hr;refine wpAny_passesOwn hp (thn h4 fun _ s5 ⟨x,H5,I5,r5,y5,st5,fr5⟩=>?_);have I5':=I5.pinned (stat fr5) (T.obj _ _ st5);refine wpAny_passesOwn hp (thn (hg _ s5 σ3 H5 x u _ I5' r5 (step x H5 y5)) fun _ s6 ⟨σ6,H6,I6,q6⟩=>?_);refine wpAny_passesOwn hp (thn (hb _ s6 σ6 H6 _ I6 q6) fun f s7 q7=>?_);have again:∀{σ7:St} {H7:Hp},xq X (pins++iM fp s5.heap) σ7 H7 s7->N σ7 H7->∃m,m<n∧∃i σ' H',xq X pins σ' H' s7∧tn i s7.heap∧(∀b∈fp,H' b=none)∧W i m σ' H':=fun {σ7 H7} I7 n7=>by
   obtain⟨m',hm,w7⟩:=hN σ7 H7 n7;refine⟨m',hm,i+1,σ7,H7,I7.unpinned,T.keep _ _ _ st5 fun b hb o e=>(I7.pin (b,o) (List.mem_append_right _ (List.mem_append_right _ (db hb e)))).1,fun b hb=>?_,w7⟩;obtain⟨o,e,d⟩:=T.obj _ _ st5 b hb;exact(I7.pin (b,o) (List.mem_append_right _ (List.mem_append_right _ (db hb e)))).2.1
  cases f with
  | next=>obtain⟨σ7,H7,I7,n7⟩:=q7;exact again I7 n7
  | cont=>obtain⟨σ7,H7,I7,n7⟩:=q7;exact again I7 n7
  | brk=>obtain⟨σ7,H7,I7,q7⟩:=q7;exact⟨σ7,H7,I7.unpinned,q7⟩
  | ret v=>obtain⟨x7,σ7,H7,I7,r7,q7⟩:=q7;exact⟨x7,σ7,H7,I7.unpinned,r7,q7⟩
end
theorem d0{K:W.Frag}{a:Addr}{xs:List V}{g:TG}{tb:TS}{D:AT}{σ:St}{H:Hp}(Pv:Nat->St->Hp->Prop)(h0:Pv 0 σ H)(hl:∀i σ H,i≤xs.length->Pv i σ H->SqL K H a xs)
  (hs:∀i x σ H,xs[i]? = some x->Pv i σ H->g x σ H fun σ2 H2=>tb { D with nx:=Pv (i+1),ct:=Pv (i+1),bk:=D.nx } σ2 H2) (hd:∀σ H,Pv xs.length σ H->D.nx σ H) :
  ∃W:Nat->Nat->St->Hp->Prop,(∃m,W 0 m σ H)∧∀i m σ H,W i m σ H ->
   ((Itl K a).stop i H∧D.nx σ H)∨((Itl K a).go i H∧∃N:St->Hp->Prop,(∀σ' H',N σ' H'->∃m',m'<m∧W (i+1) m' σ' H')∧∀x H',(Itl K a).yld i H x H'->g x σ H' fun σ2 H2=>tb { D with nx:=N,ct:=N,bk:=D.nx } σ2 H2):=by
 refine⟨fun i m σ H=>m=xs.length - i∧i≤xs.length∧Pv i σ H,⟨xs.length,by simp,Nat.zero_le _,h0⟩,?_⟩;rintro i m σ H ⟨rfl,hi,p⟩;have q:=hl i σ H hi p
 by_cases hlt:i<xs.length
 ·refine .inr ⟨⟨xs,xs[i],q,by simp[hlt]⟩,Pv (i+1),fun σ' H' p'=>⟨xs.length - (i+1),by omega,rfl,hlt,p'⟩,fun x H' y=>?_⟩
  obtain⟨e,y⟩:=y;subst e;exact hs i x σ _ (y xs q) p
 ·have e:i=xs.length:=by omega
  subst e;exact .inl ⟨⟨xs,q,Nat.le_refl _⟩,hd σ H p⟩
theorem dZ{lo:Int}{n:Nat}{g:TG}{tb:TS}{D:AT}{σ:St}{H:Hp}(Pv:Nat->St->Hp->Prop)(h0:Pv 0 σ H)
  (hs:∀i σ H,i<n->Pv i σ H->g (.int (lo+i)) σ H fun σ2 H2=>tb { D with nx:=Pv (i+1),ct:=Pv (i+1),bk:=D.nx } σ2 H2) (hd:∀σ H,Pv n σ H->D.nx σ H) :
  ∃W:Nat->Nat->St->Hp->Prop,(∃m,W 0 m σ H)∧∀i m σ H,W i m σ H ->
   ((Itr lo n).stop i H∧D.nx σ H)∨((Itr lo n).go i H∧∃N:St->Hp->Prop,(∀σ' H',N σ' H'->∃m',m'<m∧W (i+1) m' σ' H')∧∀x H',(Itr lo n).yld i H x H'->g x σ H' fun σ2 H2=>tb { D with nx:=N,ct:=N,bk:=D.nx } σ2 H2):=by
 refine⟨fun i m σ H=>m=n - i∧i≤n∧Pv i σ H,⟨n,by simp,Nat.zero_le _,h0⟩,?_⟩;rintro i m σ H ⟨rfl,hi,p⟩
 by_cases hlt:i<n
 ·refine .inr ⟨hlt,Pv (i+1),fun σ' H' p'=>⟨n - (i+1),by omega,rfl,hlt,p'⟩,fun x H' y=>?_⟩
  obtain⟨e,y⟩:=y;subst e y;exact hs i σ _ hlt p
 ·have e:i=n:=by omega
  subst e;exact .inl ⟨Nat.le_refl _,hd σ H p⟩
theorem dm{c:TT}{tb:TS}{D:AT}{σ:St}{H:Hp}(Pv:St->Hp->Prop)(μ:St->Hp->Nat)(h0:Pv σ H)
  (hs:∀σ H,Pv σ H->c σ H fun b H1=>if b=true then tb { D with nx:=fun σ' H'=>Pv σ' H'∧μ σ' H'<μ σ H,ct:=fun σ' H'=>Pv σ' H'∧μ σ' H'<μ σ H,bk:=D.nx } σ H1 else D.nx σ H1)
  (mono:∀σ H Q Q',(∀b H1,Q b H1->Q' b H1)->c σ H Q->c σ H Q'):qr c tb D σ H:=by
 refine⟨fun m σ H=>m=μ σ H∧Pv σ H,⟨_,rfl,h0⟩,?_⟩;rintro m σ H ⟨rfl,p⟩;refine mono σ H _ _ (fun b H1 q=>?_) (hs σ H p);cases b with
 | true=>exact⟨_,fun σ' H' ⟨p',l⟩=>⟨_,l,rfl,p'⟩,q⟩
 | false=>exact q
end L2
namespace L2
open PySem PySem.Spec PyProof.Rows
abbrev R2:=V->V->Hp->VK->Prop
def OpR(X:Cx)(f:Value->Value->Sem Value)(r:R2):Prop :=
 ∀(pins:List (Addr×Obj)) (s:Shared) (σ:St) (H:Hp) (x y:V) (v u:Value) (Q:VK),xq X pins σ H s->aS x v->aS y u->r x y H Q ->
  wpAny (model X.prog X.w) X.A (f v u) (EP X pins σ Q) X.xe s
def UnR(X:Cx)(f:Value->Sem Value)(r:V->Hp->VK->Prop):Prop :=
 ∀(pins:List (Addr×Obj)) (s:Shared) (σ:St) (H:Hp) (x:V) (v:Value) (Q:VK),xq X pins σ H s->aS x v->r x H Q ->
  wpAny (model X.prog X.w) X.A (f v) (EP X pins σ Q) X.xe s
def eY(X:Cx)(f:Value)(r:List V->Hp->VK->Prop):Prop :=
 ∀(pins:List (Addr×Obj)) (s:Shared) (σ:St) (H:Hp) (xs:List V) (us:List Value) (Q:VK),xq X pins σ H s->aP xs us->r xs H Q ->
  wpAny (model X.prog X.w) X.A (call f us) (EP X pins σ Q) X.xe s
def tOp(r:R2)(ta tb:TE):TE:=fun σ H Q=>ta σ H fun x H1=>tb σ H1 fun y H2=>r x y H2 Q
def tUn(r:V->Hp->VK->Prop)(ta:TE):TE:=fun σ H Q=>ta σ H fun x H1=>r x H1 Q
inductive rI (C:Int->Int->Prop) (g:Int->Int->V) (x y:V) (H:Hp) (Q:VK):Prop
 | mk (i j:Int) (e:x = .int i) (f:y = .int j) (c:C i j) (q:Q (g i j) H):rI C g x y H Q
inductive Cs (g:Int->Int->V) (x y:V) (H:Hp) (Q:VK):Prop
 | mk (i j:Int) (e:x = .int i) (f:y = .int j) (q:Q (g i j) H):Cs g x y H Q
def rU(g:Int->V):V->Hp->VK->Prop:=fun x H Q=>∃i,x = .int i∧Q (g i) H
section
variable {X:Cx} {a b c:Expr} {ta tb tc:TE} {pos:Pos}
theorem vJ(ha:PE X a ta)(hb:PE X b tb){pins:List (Addr×Obj)}{s:Shared}{σ:St}{H:Hp}{R:V->V->Hp->Prop}(I:xq X pins σ H s)
  (h:ta σ H fun x H1=>tb σ H1 fun y H2=>R x y H2) {Q:Value->Shared->Prop} {f:Value->Value->Sem Value}
  (hf:∀v u s2 x y H2,xq X pins σ H2 s2->aS x v->aS y u->R x y H2->wpAny (model X.prog X.w) X.A (f v u) Q X.xe s2) :
  wpAny (model X.prog X.w) X.A (eval a X.env) (fun v s₁=>wpAny (model X.prog X.w) X.A (eval b X.env) (fun u s₂=>wpAny (model X.prog X.w) X.A (f v u) Q X.xe s₂) X.xe s₁) X.xe s:=by
 refine thn (ha pins s σ H _ I h) fun v s1 ⟨x,H1,I1,r1,q1⟩=>?_;refine thn (hb pins s1 σ H1 _ I1 q1) fun u s2 ⟨y,H2,I2,r2,q2⟩=>?_;exact hf v u s2 x y H2 I2 r1 r2 q2
theorem aj{op:Operator}{r:R2}(ho:OpR X (binaryOp op) r)(ha:PE X a ta)(hb:PE X b tb):PE X (.BinOp a op b pos) (tOp r ta tb):=by
 intro pins s σ H Q I h;exact wpAny_BinOp (vJ ha hb I h fun v u s2 x y H2 I2 rx ry q=>ho pins s2 σ H2 x y v u Q I2 rx ry q)
theorem dE{op:UnaryOp}{r:V->Hp->VK->Prop}(ho:UnR X (unaryOp op) r)(ha:PE X a ta):PE X (.UnaryOp op a pos) (tUn r ta):=by
 intro pins s σ H Q I h;exact UnaryOp_ (thn (ha pins s σ H _ I h) fun v s1 ⟨x,H1,I1,r1,q1⟩=>ho pins s1 σ H1 x v Q I1 r1 q1)
theorem opI{f:Value->Value->Sem Value}{C:Int->Int->Prop}{g:Int->Int->Int}
  (rule:∀(i j:Int) (t u:Tok) (s:Shared) (Q:Value->Shared->Prop) (E:Value->Shared->Prop),C i j->Q (.int (g i j) s.toks) { s with toks:=s.toks+1 }->wpAny (model X.prog X.w) X.A (f (.int i t) (.int j u)) Q E s) :
  OpR X f (rI C fun i j=>.int (g i j)):=by
 intro pins s σ H x y v u Q I rx ry h;obtain⟨i,j,rfl,rfl,hc,q⟩:=h;obtain⟨t,rfl⟩:=rx;obtain⟨t',rfl⟩:=ry;exact rule i j t t' s _ _ hc ⟨.int (g i j),H,I.tok _,⟨_,rfl⟩,q⟩
theorem wg{f:Value->Value->Sem Value}{g:Int->Int->Int}
  (rule:∀(i j:Int) (t u:Tok) (s:Shared) (Q:Value->Shared->Prop) (E:Value->Shared->Prop),Q (.int (g i j) s.toks) { s with toks:=s.toks+1 }->wpAny (model X.prog X.w) X.A (f (.int i t) (.int j u)) Q E s) :
  OpR X f (Cs fun i j=>.int (g i j)):=by
 intro pins s σ H x y v u Q I rx ry h;obtain⟨i,j,rfl,rfl,q⟩:=h;obtain⟨t,rfl⟩:=rx;obtain⟨t',rfl⟩:=ry;exact rule i j t t' s _ _ ⟨.int (g i j),H,I.tok _,⟨_,rfl⟩,q⟩
theorem sR{f:Value->Value->Sem Value}{g:Int->Int->Bool}
  (rule:∀(i j:Int) (t u:Tok) (s:Shared) (Q:Value->Shared->Prop) (E:Value->Shared->Prop),Q (.bool (g i j)) s->wpAny (model X.prog X.w) X.A (f (.int i t) (.int j u)) Q E s) :
  OpR X f (Cs fun i j=>.bl (g i j)):=by
 intro pins s σ H x y v u Q I rx ry h;obtain⟨i,j,rfl,rfl,q⟩:=h;obtain⟨t,rfl⟩:=rx;obtain⟨t',rfl⟩:=ry;exact rule i j t t' s _ _ ⟨.bl (g i j),H,I,rfl,q⟩
def wS(i j:Int):Prop:=0≤j∧j≤1000000∧i.natAbs<2^64
def uj(i j:Int):Prop:=(-(2^64)<i∧i<2^64)∨(-(2^64)<j∧j<2^64)
theorem uj.ok{i j:Int}(h:uj i j):IntMulOk i j:=by
 rcases h with⟨h1,h2⟩|⟨h1,h2⟩
 ·exact .of_left (intBits_le_64 h1 h2)
 ·exact .of_right (intBits_le_64 h1 h2)
theorem aN:OpR X (binaryOp .Add) (Cs fun i j=>.int (i+j)):=wg fun _ _ _ _ _ _ _ q=>add_int q
theorem aH:OpR X (binaryOp .Sub) (Cs fun i j=>.int (i - j)):=wg fun _ _ _ _ _ _ _ q=>sub_int q
theorem eQ:OpR X (binaryOp .Mod) (rI (fun _ j=>0<j) fun i j=>.int (i % j)):=opI fun i j _ _ _ _ _ hc q=>by
 have h1:(0:Int)<j:=hc;exact mod_int' (by omega) (by rw[Int.fmod_eq_emod_of_nonneg i (by omega)];exact q)
theorem dG:OpR X (binaryOp .Pow) (rI wS fun i j=>.int (i^j.toNat)):=opI fun _ _ _ _ _ _ _ hc q=>pow_int_small hc.1 hc.2.1 hc.2.2 q
theorem qO:OpR X (binaryOp .LShift) (rI wS fun i j=>.int (i*2^j.toNat)):=opI fun _ _ _ _ _ _ _ hc q=>lshift_int_small hc.1 hc.2.1 hc.2.2 q
theorem unI{f:Value->Sem Value}{g:Int->Int}
  (rule:∀(i:Int) (t:Tok) (s:Shared) (Q:Value->Shared->Prop) (E:Value->Shared->Prop),Q (.int (g i) s.toks) { s with toks:=s.toks+1 }->wpAny (model X.prog X.w) X.A (f (.int i t)) Q E s) :
  UnR X f (rU fun i=>.int (g i)):=by
 intro pins s σ H x v Q I rx h;obtain⟨i,rfl,q⟩:=h;obtain⟨t,rfl⟩:=rx;exact rule i t s _ _ ⟨.int (g i),H,I.tok _,⟨_,rfl⟩,q⟩
theorem cQ:UnR X (unaryOp .USub) (rU fun i=>.int (-i)):=unI fun _ _ _ _ _ q=>neg_int q
end
def wa:V->V->Bool
 | .non,.non=>true | .non,.int _=>true | .int _,.non=>true | .non,.bl _=>true | .bl _,.non=>true | .non,.str _=>true | .str _,.non=>true
 | .int _,.int _=>true | .bl _,.bl _=>true | .str _,.str _=>true | .byt _,.byt _=>true
 | .int _,.str _=>true | .str _,.int _=>true | .bl _,.str _=>true | .str _,.bl _=>true
 | _,_=>false
inductive Ds (x y:V) (H:Hp) (Q:VK):Prop
 | mk (s:wa x y=true) (q:Q (.bl (decide (x=y))) H):Ds x y H Q
inductive Dq (x y:V) (H:Hp) (Q:VK):Prop
 | mk (s:wa x y=true) (q:Q (.bl (!decide (x=y))) H):Dq x y H Q
theorem oN{i j:Int}:decide (V.int i=V.int j)=(i == j):=by
 rw[Bool.eq_iff_iff];simp
theorem rL{i j:Bool}:decide (V.bl i=V.bl j)=(i == j):=by
 rw[Bool.eq_iff_iff];simp
theorem oM{i j:Str}:decide (V.str i=V.str j)=(i == j):=by
 rw[Bool.eq_iff_iff];simp
theorem oO{i j:Array UInt8}:decide (V.byt i=V.byt j)=(i.toList == j.toList):=by
 rw[Bool.eq_iff_iff];cases i;cases j;simp
section
variable {X:Cx} {a b c:Expr} {ta tb tc:TE} {pos:Pos}
theorem aZ{pins:List (Addr×Obj)}{σ:St}{H:Hp}{s:Shared}{Q:VK}{k k':Bool}(I:xq X pins σ H s)(q:Q (.bl k) H)(e:k=k'):EP X pins σ Q (.bool k') s:=by
 subst e;exact⟨.bl k,H,I,rfl,q⟩
theorem bR:OpR X (compareOp .Eq) Ds:=by
 intro pins s σ H x y v u Q I rx ry h;obtain⟨hs,q⟩:=h;cases x with
 | non =>
  cases rx;cases y with
  | non=>cases ry;exact PySem.EqNone.eq_none_none (aZ I q (by simp))
  | bl j=>cases ry;exact PySem.EqNone.eq_none_bool (aZ I q (by simp))
  | int j=>obtain⟨t',rfl⟩:=ry;exact PySem.EqNone.eq_none_int (aZ I q (by simp))
  | str j=>obtain⟨t',rfl⟩:=ry;exact PySem.EqNone.eq_none_str (aZ I q (by simp))
  | _=>exact absurd (show false=true from hs) Bool.false_ne_true
 | bl i =>
  cases rx;cases y with
  | non=>cases ry;exact PySem.EqNone.eq_bool_none (aZ I q (by simp))
  | bl j=>cases ry;exact eq_bool (aZ I q rL)
  | str j=>obtain⟨t',rfl⟩:=ry;exact PySem.EqMixed.eq_bool_str (aZ I q (by simp))
  | _=>exact absurd (show false=true from hs) Bool.false_ne_true
 | int i =>
  obtain⟨t,rfl⟩:=rx;cases y with
  | non=>cases ry;exact PySem.EqNone.eq_int_none (aZ I q (by simp))
  | int j=>obtain⟨t',rfl⟩:=ry;exact eq_int (aZ I q oN)
  | str j=>obtain⟨t',rfl⟩:=ry;exact PySem.EqMixed.eq_int_str (aZ I q (by simp))
  | _=>exact absurd (show false=true from hs) Bool.false_ne_true
 | str i =>
  obtain⟨t,rfl⟩:=rx;cases y with
  | non=>cases ry;exact PySem.EqNone.eq_str_none (aZ I q (by simp))
  | bl j=>cases ry;exact PySem.EqMixed.eq_str_bool (aZ I q (by simp))
  | int j=>obtain⟨t',rfl⟩:=ry;exact PySem.EqMixed.eq_str_int (aZ I q (by simp))
  | str j=>obtain⟨t',rfl⟩:=ry;exact eq_str (aZ I q oM)
  | _=>exact absurd (show false=true from hs) Bool.false_ne_true
 | byt i =>
  obtain⟨t,rfl⟩:=rx;cases y with
  | byt j=>obtain⟨t',rfl⟩:=ry;exact W.eq_bytes (aZ I q oO)
  | _=>exact absurd (show false=true from hs) Bool.false_ne_true
 | _=>cases y <;> exact absurd (show false=true from hs) Bool.false_ne_true
theorem gU:OpR X (compareOp .NotEq) Dq:=by
 intro pins s σ H x y v u Q I rx ry h;obtain⟨hs,q⟩:=h;cases x with
 | non =>
  cases rx;cases y with
  | non=>cases ry;exact PySem.EqNone.ne_none_none (aZ I q (by simp))
  | bl j=>cases ry;exact PySem.EqNone.ne_none_bool (aZ I q (by simp))
  | int j=>obtain⟨t',rfl⟩:=ry;exact PySem.EqNone.ne_none_int (aZ I q (by simp))
  | str j=>obtain⟨t',rfl⟩:=ry;exact PySem.EqNone.ne_none_str (aZ I q (by simp))
  | _=>exact absurd (show false=true from hs) Bool.false_ne_true
 | bl i =>
  cases rx;cases y with
  | non=>cases ry;exact PySem.EqNone.ne_bool_none (aZ I q (by simp))
  | bl j=>cases ry;exact ne_bool (aZ I q (congrArg not rL))
  | str j=>obtain⟨t',rfl⟩:=ry;exact PySem.EqMixed.ne_bool_str (aZ I q (by simp))
  | _=>exact absurd (show false=true from hs) Bool.false_ne_true
 | int i =>
  obtain⟨t,rfl⟩:=rx;cases y with
  | non=>cases ry;exact PySem.EqNone.ne_int_none (aZ I q (by simp))
  | int j=>obtain⟨t',rfl⟩:=ry;exact ne_int (aZ I q (congrArg not oN))
  | str j=>obtain⟨t',rfl⟩:=ry;exact PySem.EqMixed.ne_int_str (aZ I q (by simp))
  | _=>exact absurd (show false=true from hs) Bool.false_ne_true
 | str i =>
  obtain⟨t,rfl⟩:=rx;cases y with
  | non=>cases ry;exact PySem.EqNone.ne_str_none (aZ I q (by simp))
  | bl j=>cases ry;exact PySem.EqMixed.ne_str_bool (aZ I q (by simp))
  | int j=>obtain⟨t',rfl⟩:=ry;exact PySem.EqMixed.ne_str_int (aZ I q (by simp))
  | str j=>obtain⟨t',rfl⟩:=ry;exact ne_str (aZ I q (congrArg not oM))
  | _=>exact absurd (show false=true from hs) Bool.false_ne_true
 | byt i =>
  obtain⟨t,rfl⟩:=rx;cases y with
  | byt j=>obtain⟨t',rfl⟩:=ry;exact W.ne_bytes (aZ I q (congrArg not oO))
  | _=>exact absurd (show false=true from hs) Bool.false_ne_true
 | _=>cases y <;> exact absurd (show false=true from hs) Bool.false_ne_true
theorem cS:OpR X (compareOp .Lt) (Cs fun i j=>.bl (decide (i<j))):=sR fun _ _ _ _ _ _ _ q=>lt_int q
theorem oe:OpR X (compareOp .LtE) (Cs fun i j=>.bl (decide (i≤j))):=sR fun _ _ _ _ _ _ _ q=>le_int q
theorem iQ:OpR X (compareOp .Gt) (Cs fun i j=>.bl (decide (j<i))):=sR fun _ _ _ _ _ _ _ q=>gt_int q
theorem og:OpR X (compareOp .GtE) (Cs fun i j=>.bl (decide (j≤i))):=sR fun _ _ _ _ _ _ _ q=>ge_int q
theorem qP:OpR X (compareOp .Is) (fun x y H Q=>y = .non∧Q (.bl (decide (x = .non))) H):=by
 intro pins s σ H x y v u Q I rx ry h;obtain⟨rfl,q⟩:=h;cases ry;refine is_none_gen (aZ I q ?_);cases x <;> first
  | (cases rx;rfl)
  | (obtain⟨t,rfl⟩:=rx;rfl)
theorem kA:OpR X (compareOp .IsNot) (fun x y H Q=>y = .non∧Q (.bl (!decide (x = .non))) H):=by
 intro pins s σ H x y v u Q I rx ry h;obtain⟨rfl,q⟩:=h;cases ry;refine isnot_none_gen (aZ I q ?_);cases x <;> first
  | (cases rx;rfl)
  | (obtain⟨t,rfl⟩:=rx;rfl)
theorem aE(b:Expr){op:CmpOp}(h:op≠.In:=by decide)(h2:op≠.NotIn:=by decide):behindInMarks op b=false:=by
 have e1:(op == CmpOp.In)=false:=by cases op <;> first|rfl|exact absurd rfl h
 have e2:(op == CmpOp.NotIn)=false:=by cases op <;> first|rfl|exact absurd rfl h2
 cases b <;> simp[behindInMarks,e1,e2]
theorem cW{op:CmpOp}{r:R2}(ho:OpR X (compareOp op) r)(ha:PE X a ta)(hb:PE X b tb)(hm:behindInMarks op b=false):PE X (.Compare a [op] [b] pos) (tOp r ta tb):=by
 intro pins s σ H Q I h;exact wpAny_Compare1 (vJ ha hb I h fun v u s2 x y H2 I2 rx ry q=>ho pins s2 σ H2 x y v u Q I2 rx ry q) hm
inductive Dt (x:V) (H:Hp) (Q:Bool->Hp->Prop):Prop
 | mk (k:Bool) (e:x = .bl k) (q:Q k H):Dt x H Q
def vR(t:TE):TT:=fun σ H Q=>t σ H fun x H'=>Dt x H' Q
theorem aC{op:CmpOp}{r:R2}(ho:OpR X (compareOp op) r)(ha:PE X a ta)(hb:PE X b tb)(hm:behindInMarks op b=false):PT X (.Compare a [op] [b] pos) (vR (tOp r ta tb)):=by
 intro pins s σ H Q I h;refine wpAny_isTrue_Compare1 (thn (ha pins s σ H _ I h) fun v s1 ⟨x,H1,I1,r1,q1⟩=>thn (hb pins s1 σ H1 _ I1 q1) fun u s2 ⟨y,H2,I2,r2,q2⟩ =>
  thn (ho pins s2 σ H2 x y v u _ I2 r1 r2 q2) fun c s3 ⟨z,H3,I3,r3,k,e,q3⟩=>?_) hm
 subst e;cases r3;exact wpAny_truthy_bool ⟨H3,I3,q3⟩
def uJ(r r':R2)(ta tb tc:TE):TE:=fun σ H Q=>ta σ H fun x H1=>tb σ H1 fun y H2=>r x y H2 fun z H3=>∃k,z = .bl k ∧
 (if k=true then tc σ H3 fun w' H4=>r' y w' H4 Q else Q (.bl false) H3)
theorem lG{op op':CmpOp}{r r':R2}(ho:OpR X (compareOp op) r)(ho':OpR X (compareOp op') r')(ha:PE X a ta)(hb:PE X b tb)(hc:PE X c tc)
  (hm:lastMarks [op,op'] [b,c]=false:=by with_unfolding_all rfl):PE X (.Compare a [op,op'] [b,c] pos) (uJ r r' ta tb tc):=by
 intro pins s σ H Q I h;refine Compare_chain (thn (ha pins s σ H _ I h) fun v s1 ⟨x,H1,I1,r1,q1⟩=>chain_link (thn (hb pins s1 σ H1 _ I1 q1) fun u s2 ⟨y,H2,I2,r2,q2⟩ =>
  thn (ho pins s2 σ H2 x y v u _ I2 r1 r2 q2) fun d s3 ⟨z,H3,I3,r3,k,e,q3⟩=>?_)) hm
 subst e;cases r3;refine wpAny_truthy_bool ?_;cases k with
 | false=>exact ite_ff ⟨.bl false,H3,I3,rfl,q3⟩
 | true=>exact ite_tt (chain_last (thn (hc pins s3 σ H3 _ I3 q3) fun w' s4 ⟨z',H4,I4,r4,q4⟩=>ho' pins s4 σ H4 y z' u w' Q I4 r2 r4 q4))
theorem kD:(sizeLine:Nat)<2^63:=by rw[sizeLine_eq];decide
theorem fR{x:V}{us:List Value}(r:aP [x] us):∃u,us = [u]∧aS x u:=by
 cases r with
 | cons r1 r2=>cases r2;exact⟨_,rfl,r1⟩
theorem ql{x y:V}{us:List Value}(r:aP [x,y] us):∃u w',us = [u,w']∧aS x u∧aS y w':=by
 cases r with
 | cons r1 r2 =>
  cases r2 with
  | cons r3 r4=>cases r4;exact⟨_,_,rfl,r1,r3⟩
theorem gD:eY X (.builtin "abs") (fun xs H Q=>∃i,xs = [.int i]∧Q (.int (if i<0 then -i else i)) H):=by
 intro pins s σ H xs us Q I r h;obtain⟨i,rfl,q⟩:=h;obtain⟨u,rfl,t,rfl⟩:=fR r;exact call_abs_int fun u tk=>⟨.int (if i<0 then -i else i),H,I.tok _,⟨_,rfl⟩,q⟩
theorem fm(hc:X.calm=true):eY X (.builtin "max") (fun xs H Q=>∃i j,xs = [.int i,.int j]∧Q (.int (if j>i then j else i)) H):=by
 intro pins s σ H xs us Q I r h;obtain⟨i,j,rfl,q⟩:=h;obtain⟨u,w',rfl,⟨t,rfl⟩,⟨t',rfl⟩⟩:=ql r;refine max_two_ints (I.ok.hd hc) fun h' tk k=>⟨_,H,I.kept k,?_,q⟩
 by_cases hj:j>i
 ·rw[if_pos hj,if_pos hj];exact⟨_,rfl⟩
 ·rw[if_neg hj,if_neg hj];exact⟨_,rfl⟩
theorem dC(hc:X.calm=true):eY X (.builtin "min") (fun xs H Q=>∃i j,xs = [.int i,.int j]∧Q (.int (if j<i then j else i)) H):=by
 intro pins s σ H xs us Q I r h;obtain⟨i,j,rfl,q⟩:=h;obtain⟨u,w',rfl,⟨t,rfl⟩,⟨t',rfl⟩⟩:=ql r;refine min_two_ints (I.ok.hd hc) fun h' tk k=>⟨_,H,I.kept k,?_,q⟩
 by_cases hj:j<i
 ·rw[if_pos hj,if_pos hj];exact⟨_,rfl⟩
 ·rw[if_neg hj,if_neg hj];exact⟨_,rfl⟩
theorem qh:eY X (.type "int") (fun xs H Q=>(∃i,xs = [.int i]∧Q (.int i) H)∨∃k,xs = [.bl k]∧Q (.int (if k then 1 else 0)) H):=by
 intro pins s σ H xs us Q I r h;rcases h with⟨i,rfl,q⟩|⟨k,rfl,q⟩
 ·obtain⟨u,rfl,t,rfl⟩:=fR r
  exact call_int_int ⟨.int i,H,I,⟨_,rfl⟩,q⟩
 ·obtain⟨u,rfl,r1⟩:=fR r
  cases r1;exact call_int_bool ⟨.int (if k then 1 else 0),H,I.tok _,⟨_,rfl⟩,q⟩
end
end L2
namespace L2
open PySem PySem.Spec PyProof.Rows
structure BT(h:Heap)(x dx C:Addr)(mA:Str->Option Value):Prop where
 obj:h.get? x=some (W.instObj C dx)
 ns:h.Ns1 dx mA
 ne:dx≠x
theorem pK{h:Heap}{dx:Addr}{mA:Str->Option Value}(n:h.Ns1 dx mA):∃od,h.get? dx=some od∧∀name,W.lookIn name od=some (mA name):=by
 obtain⟨o,es,ep,ho,hd,hk,_,hm⟩:=n;refine⟨o,ho,fun name=>?_⟩;have e:=hm name;unfold nsFind findBy at e;rw[<- Array.find?_toList]at e;unfold W.lookIn;rw[hd];dsimp only
 split
 ·rename_i y q
  rw[q]at e;exact congrArg some e
 ·rename_i q
  rw[q]at e;have a:es.toList.any (·.refKey)=false:=by
   rw[List.any_eq_false];intro y hy;obtain⟨z,t,hkey⟩:=hk y (Array.mem_toList_iff.mp hy);simp[DictEntry.refKey,hkey]
  have a':¬es.toList.any (·.refKey)=true:=by rw[a];exact Bool.false_ne_true
  rw[if_neg a'];exact congrArg some e
theorem BT.look{h:Heap}{x dx C:Addr}{mA:Str->Option Value}(I:BT h x dx C mA):∃od,W.InstAt h x (W.instObj C dx) C (some od)∧∀name,W.lookIn name od=some (mA name) :=
 let ⟨od,ho,hl⟩:=pK I.ns
 ⟨od,⟨I.obj,rfl,rfl,ho⟩,hl⟩
section
variable {prog:Program} {w:World} {A:Around} {E:Value->Shared->Prop} {s:Shared} {K:W.Frag} {x dx C f:Addr} {mA:Str->Option Value} {name:Str} {v:Value}
theorem tJ{expr:Bool}{Q:Value->Shared->Prop}(X:K.In s.heap)(I:BT s.heap x dx C mA)(hg:W.plainGet K C name=true)(hh:W.hasDictIn K C=true)
  (ha:W.findIn K (.ref C) name=some none) (hv:mA name=some v) (hv':W.handedIn v=true) (h:Q v { s with toks:=s.toks+1 }) :
  wpAny (model prog w) A (getAttr (.ref x) name expr) Q E s:=by
 obtain⟨od,J,hl⟩:=I.look;exact W.get_value X J (W.plainGet_of hg).1 (W.findObj_own hh ha rfl (by rw[hl,hv])) hv' h
theorem sG{ns:List Str}{Q:Unit->Shared->Prop}(X:K.In s.heap)(I:BT s.heap x dx C mA)
  (hs:W.findIn K (.ref C) "__setattr__" = some (some (.builtin "object.__setattr__"))) (hp:W.plainOver K C=true) (ht:W.takerIn K C name=some none) (hh:W.hasDictIn K C=true)
  (hw:PySem.Within mA ns) (hsz:ns.length≤sizeLine)
  (h:∀h',BT h' x dx C (fun y=>if y=name then some v else mA y)->Heap.SameBut dx s.heap h'->Q () { s with heap:=h',toks:=s.toks+2 }) :
  wpAny (model prog w) A (setAttr (.ref x) name v) Q E s:=by
 obtain⟨od,J,hl⟩:=I.look;refine W.set_plain X J hs (W.osa_open (s:={ s with toks:=s.toks+1 }) (r:=none) X J hp ht fun b=>?_);obtain⟨cd,hc,hd'⟩:=W.any_some hh;have hx:s.heap.get? x=some ⟨.ref C,some dx,.plain,#[]⟩:=I.obj;refine wpAny_bind (wpAny_pure (wpAny_bind (wpAny_bind (wpAny_loadPart hx (wpAny_bind (W.Looks.here (s:={ s with toks:=s.toks+1 }) (W.looks_clsIn X hc) ?_))))));rw[hd'];refine wpAny_pure (a:=some dx) (wpAny_bind (wpAny_pure (wpAny_bind ?_)));refine wpAny_nsSet1 (s:={ s with toks:=s.toks+1 }) I.ns fun h' hn2 hs2=>?_;obtain⟨oD,esD,epD,hoD,hdD,hcD⟩:=hn2.count (PySem.Within.cons name v hw);refine wpAny_bind (wpAny_lookBehind hoD (by rw[hdD];exact pastItsLine_dict (Nat.le_trans hcD (by rw[List.length_cons];omega))) ?_);exact wpAny_pure (h _ ⟨(hs2.2 _ (Ne.symm I.ne)).trans I.obj,hn2,I.ne⟩ hs2)
theorem qU{R:Result->Shared->Prop}{vs:List Value}{kw:List (Str×Value)}(X:K.In s.heap)(hm:W.makesIn K C=true)
  (hi:W.findIn K (.ref C) "__init__" = some (some (.ref f))) (hf:W.typeIn K (.ref f)=some (.type "function"))
  (h:codeAny (model prog w) (A.under (.builtin "type.__call__" ⟨.ref C::vs,kw⟩)) (.call (.ref f) ⟨.ref (s.heap.objs.size+1)::vs,kw⟩) (W.InitBack (s.heap.objs.size+1) R)
   { s with heap:=(s.heap.push W.emptyDict).push (W.instObj C s.heap.objs.size) }) :
  codeAny (model prog w) A (.call (.ref C) ⟨vs,kw⟩) R s:=by
 obtain⟨hh,g,d,t,os⟩:=s;exact W.make_core (W.makes_of X hm) (W.looks_findIn X hi) (fun self=>W.bind_fn X self hf) (.inl rfl) h
end
def cV(f:Str)(v:V):List (Str×V)->List (Str×V)
 | []=>[(f,v)]
 | (g,x)::r=>if g=f then (g,v)::r else (g,x)::cV f v r
theorem gY(f g:Str)(v:V):∀fs:List (Str×V),(cV f v fs).lookup g=if g=f then some v else fs.lookup g
 | []=>by
  show List.lookup g [(f,v)]=_
  by_cases h:g=f
  ·have hb:(g == f)=true:=beq_iff_eq.mpr h
   simp only[List.lookup,hb,if_pos h]
  ·have hb:(g == f)=false:=beq_eq_false_iff_ne.mpr h
   simp only[List.lookup,hb,if_neg h]
 | (k,x)::r=>by
  have ih:=gY f g v r;rw[show cV f v ((k,x)::r)=(if k=f then (k,v)::r else (k,x)::cV f v r) from rfl]
  by_cases hk:k=f
  ·rw[if_pos hk]
   by_cases h:g=k
   ·have hb:(g == k)=true:=beq_iff_eq.mpr h
    simp only[List.lookup,hb,if_pos (h.trans hk)]
   ·have hb:(g == k)=false:=beq_eq_false_iff_ne.mpr h
    simp only[List.lookup,hb,if_neg (fun e:g=f=>h (e.trans hk.symm))]
  ·rw[if_neg hk]
   by_cases h:g=k
   ·have hb:(g == k)=true:=beq_iff_eq.mpr h
    simp only[List.lookup,hb,if_neg (fun e:g=f=>hk (h.symm.trans e))]
   ·have hb:(g == k)=false:=beq_eq_false_iff_ne.mpr h
    simp only[List.lookup,hb];exact ih
theorem gN(f:Str)(v:V):∀fs:List (Str×V),f∈(cV f v fs).map (·.1)∧∀g,g∈fs.map (·.1)->g∈(cV f v fs).map (·.1)
 | []=>⟨by simp[cV],fun g h=>by simp at h⟩
 | (k,x)::r=>by
  obtain⟨i1,i2⟩:=gN f v r;rw[show cV f v ((k,x)::r)=(if k=f then (k,v)::r else (k,x)::cV f v r) from rfl]
  by_cases hk:k=f
  ·rw[if_pos hk]
   subst hk;exact⟨by simp,fun g h=>by simpa using h⟩
  ·rw[if_neg hk]
   refine⟨?_,fun g h=>?_⟩
   ·rw[List.map_cons]
    exact List.mem_cons_of_mem _ i1
   ·rw[List.map_cons]at h ⊢
    rcases List.mem_cons.mp h with e|e
    ·exact List.mem_cons.mpr (.inl e)
    ·exact List.mem_cons_of_mem _ (i2 g e)
theorem g6(f:Str)(v:V):∀fs:List (Str×V),(cV f v fs).length≤fs.length+1
 | []=>by simp[cV]
 | (k,x)::r=>by
  have ih:=g6 f v r;rw[show cV f v ((k,x)::r)=(if k=f then (k,v)::r else (k,x)::cV f v r) from rfl]
  by_cases hk:k=f
  ·rw[if_pos hk,List.length_cons,List.length_cons];omega
  ·rw[if_neg hk,List.length_cons,List.length_cons];omega
theorem gS.some_of{v:V}{o:Option Value}(r:gS (some v) o):∃u,o=some u∧aS v u:=by
 cases o with
 | none=>exact(show False from r).elim
 | some u=>exact⟨u,rfl,r⟩
theorem pR{v:V}{u:Value}(r:aS v u):W.handedIn u=true:=by
 cases v with
 | non=>cases (show u=Value.none from r);rfl
 | bl b=>cases (show u=Value.bool b from r);rfl
 | int i=>obtain⟨t,e⟩:=(show ∃t,u=Value.int i t from r);cases e;rfl
 | str x=>obtain⟨t,e⟩:=(show ∃t,u=Value.str x t from r);cases e;rfl
 | byt b=>obtain⟨t,e⟩:=(show ∃t,u=Value.bytes b t from r);cases e;rfl
 | flt b=>obtain⟨t,e⟩:=(show ∃t,u=Value.float b t from r);cases e;rfl
 | ref a=>cases (show u=Value.ref a from r);rfl
 | ty n=>cases (show u=Value.type n from r);rfl
section
variable {P:Program} {w:World} {H H':Hp} {h h':Heap} {a C dx:Addr} {fs fs':List (Str×V)}
theorem kH(hok:HOk P w H h)(e:H a=some (.ins C dx fs)):∃mA,BT h a dx C mA∧(∀f,gS (fs.lookup f) (mA f))∧PySem.Within mA (fs.map (·.1))∧fs.length≤1000∧H dx=some (.own a):=by
 obtain⟨d,z,ne,ob,mA,n,r,q⟩:=(show bI P w H h a (.ins C dx fs) from hok a _ e);exact⟨mA,⟨ob,n,ne⟩,r,q,z,d⟩
end
structure CQ(K:W.Frag)(C:Addr):Prop where
 pg:W.plainGet K C Str.empty=true
 hd:W.hasDictIn K C=true
 po:W.plainOver K C=true
 sa:W.findIn K (.ref C) "__setattr__" = some (some (.builtin "object.__setattr__"))
theorem CQ.get{K:W.Frag}{C:Addr}(c:CQ K C)(f:Str):W.plainGet K C f=true:=c.pg
def a9(K:W.Frag)(C:Addr)(f:Str):Prop:=W.findIn K (.ref C) f=some none
theorem a9.taker{K:W.Frag}{C:Addr}{f:Str}(n:a9 K C f):W.takerIn K C f=some none:=by
 unfold W.takerIn;rw[show W.findIn K (.ref C) f=some none from n];rfl
structure Dm(K:W.Frag)(C:Addr)(m:Str)(f:Addr):Prop where
 at_:W.findIn K (.ref C) m=some (some (.ref f))
 fn:W.isFn K (.ref f)=true
 kp:W.keepIn K (.ref f)=true
section
variable {X:Cx} {pins:List (Addr×Obj)} {σ:St} {H:Hp} {s:Shared} {a C dx:Addr} {fs:List (Str×V)} {f:Str} {v:V} {A:Around} {E:Value->Shared->Prop}
theorem ni{b:Bool}{Q:Value->Shared->Prop}(I:xq X pins σ H s)(e:H a=some (.ins C dx fs))(c:CQ X.K C)(n:a9 X.K C f)(l:fs.lookup f=some v)
  (h:∀u s',xq X pins σ H s'->aS v u->Q u s'):wpAny (model X.prog X.w) A (getAttr (.ref a) f b) Q E s:=by
 obtain⟨mA,O,r,_,_,_⟩:=kH I.hok e;obtain⟨u,hu,ru⟩:=gS.some_of (v:=v) (o:=mA f) (by rw[<- l];exact r f);exact tJ I.kIn O (c.get f) c.hd n hu (pR ru) (h u _ (I.tok _) ru)
theorem mR{y:V}{u:Value}{Q:Unit->Shared->Prop}(I:xq X pins σ H s)(e:H a=some (.ins C dx fs))(c:CQ X.K C)(n:a9 X.K C f)(hl:fs.length<1000)(ry:aS y u)
  (h:∀s',xq X pins σ (upd H a (.ins C dx (cV f y fs))) s'->Q () s'):wpAny (model X.prog X.w) A (setAttr (.ref a) f u) Q E s:=by
 obtain⟨mA,O,r,wi,_,ho⟩:=kH I.hok e;have hz:(fs.map (·.1)).length≤sizeLine:=by rw[List.length_map,sizeLine_eq];omega
 refine sG I.kIn O c.sa c.po n.taker c.hd wi hz fun h' O' sb=>h _ ?_;have hd:∃o,h'.get? dx=some o:=let ⟨o,_,_,e',_⟩:=O'.ns;⟨o,e'⟩;refine I.write (x:=a) (e:=dx) (by rw[e];exact True.intro) (.inr ho) (fun b q hb z=>(sb.2 b hb).trans z) hd ?_;refine⟨by rw[aM O.ne];exact ho,?_,O.ne,O'.obj,_,O'.ns,fun g=>?_,fun g hg=>?_⟩
 ·have:=g6 f y fs;omega
 ·show gS ((cV f y fs).lookup g) (if g=f then some u else mA g)
  rw[gY]
  by_cases q:g=f
  ·rw[if_pos q,if_pos q];exact ry
  ·rw[if_neg q,if_neg q];exact r g
 ·by_cases q:g=f
  ·rw[q];exact(gN f y fs).1
  ·refine(gN f y fs).2 g (wi g fun z=>hg ?_)
   show(if g=f then some u else mA g)=none
   rw[if_neg q];exact z
theorem xq.made(I:xq X pins σ H s):xq X pins σ (upd (upd H s.heap.objs.size (.own (s.heap.objs.size+1))) (s.heap.objs.size+1) (.ins C s.heap.objs.size []))
  { s with heap:=(s.heap.push W.emptyDict).push (W.instObj C s.heap.objs.size) }:=by
 have e1:(s.heap.push W.emptyDict).get? s.heap.objs.size=some W.emptyDict:=Heap.get?_push_size s.heap rfl;have e2:((s.heap.push W.emptyDict).push (W.instObj C s.heap.objs.size)).get? (s.heap.objs.size+1)=some (W.instObj C s.heap.objs.size):=by
  have:=Heap.get?_push_size (s.heap.push W.emptyDict) (o:=W.instObj C s.heap.objs.size) rfl
  rwa [Heap.size_push]at this
 have e3:(s.heap.push W.emptyDict).Ns s.heap.objs.size (fun _=>none):=⟨W.emptyDict,#[],_,e1,rfl,(fun e he=>absurd he (by simp)),fun _=>rfl⟩;have I1:=I.laid (a:=s.heap.objs.size) (o:=.own (s.heap.objs.size+1)) (h':=s.heap.push W.emptyDict) (t':=s.toks) (fun b u q=>Heap.get?_push_of_some _ q) (Nat.le_refl _) ⟨_,e1⟩;refine I1.laid (a:=s.heap.objs.size+1) (o:=.ins C s.heap.objs.size []) (t':=s.toks) (fun b u q=>Heap.get?_push_of_some _ q) (Nat.le_of_eq (Heap.size_push _ _)) ?_;have ne:s.heap.objs.size≠s.heap.objs.size+1:=Nat.ne_of_lt (Nat.lt_succ_self _);refine⟨by rw[aM ne,upd_same],Nat.zero_le _,ne,e2,fun _=>none,(Heap.Ns1.of_empty e3).at fun o q=>Heap.get?_push_of_some _ q,fun _=>True.intro,fun y hy=>absurd rfl hy⟩
theorem uc{prog:Program}{w:World}{env:Env}{e:Expr}{f:Str}{pos:Pos}{s:Shared}{Q:Value->Shared->Prop}(hb:attributeBase e f env (eval e env)=eval e env)
  (h:wpAny (model prog w) A (eval e env) (fun o s₁=>wpAny (model prog w) A (getAttr o f true) Q E s₁) E s):wpAny (model prog w) A (eval (.Attribute e f pos) env) Q E s :=
 Attribute_any_ h (by rw[arm_eval_Attribute,hb])
end
def vY(K:W.Frag)(ta:TE)(f:Str):TE:=fun σ H Q=>ta σ H fun x H1=>∃a C dx fs v,x = .ref a∧H1 a=some (.ins C dx fs)∧CQ K C∧a9 K C f∧fs.lookup f=some v∧Q v H1
def xb(K:W.Frag)(ta tv:TE)(f:Str):TS:=fun D σ H=>tv σ H fun y H1=>ta σ H1 fun x H2=>∃a C dx fs,x = .ref a∧H2 a=some (.ins C dx fs)∧CQ K C∧a9 K C f∧fs.length<1000 ∧
 D.nx σ (upd H2 a (.ins C dx (cV f y fs)))
section
variable {X:Cx} {o e value:Expr} {f:Str} {pos pos' tpos:Pos} {ta tv:TE}
theorem dF(he:PE X e ta)(hb:attributeBase e f X.env (eval e X.env)=eval e X.env):PE X (.Attribute e f pos) (vY X.K ta f):=by
 intro pins s σ H Q I h;refine uc hb (thn (he pins s σ H _ I h) fun u s1 ⟨x,H1,I1,rx,a,C,dx,fs,v,ex,ea,c,n,l,q⟩=>?_);subst ex;obtain rfl:u=Value.ref a:=rx;exact ni I1 ea c n l fun u' s2 I2 ru=>⟨v,H1,I2,ru,q⟩
theorem ko(ha:PE X o ta)(hv:PE X value tv)(hs:swapsWith value (some (.Attribute o f pos')) pos.line X.env=pure false):PS X (.Assign [.Attribute o f pos'] value pos) (xb X.K ta tv f):=by
 intro pins s σ H D I h;refine plainObj_wpAny_Assign_Attribute (thn (hv pins s σ H _ I h) fun u s1 ⟨y,H1,I1,ry,q⟩=>thn (ha pins s1 σ H1 _ I1 q) fun ov s2 ⟨x,H2,I2,rx,a,C,dx,fs,ex,ea,c,n,l,q2⟩=>?_) hs;subst ex;obtain rfl:ov=Value.ref a:=rx;exact mR I2 ea c n l ry fun s3 I3=>⟨σ,_,I3,q2⟩
end
section
variable {X:Cx} {pins:List (Addr×Obj)} {σ:St} {H:Hp} {s:Shared} {A:Around} {E:Value->Shared->Prop} {Q:Value->Shared->Prop} {c:Value} {b:Bool}
inductive Ao (K:W.Frag) (H:Hp):V->Value->Prop where
 | non:Ao K H .non (.type "NoneType")
 | bl (x:Bool):Ao K H (.bl x) (.type "bool")
 | int (i:Int):Ao K H (.int i) (.type "int")
 | str (x:Str):Ao K H (.str x) (.type "str")
 | flt (x:UInt64):Ao K H (.flt x) (.type "float")
 | lst {a:Addr} {xs:List V} (e:H a=some (.lst xs)):Ao K H (.ref a) (.type "list")
 | frz {a:Addr} {o:Obj} {xs:List V} (e:H a=some (.frz o (.lst xs))):Ao K H (.ref a) (.type "list")
 | tup {a:Addr} {xs:List V} (e:H a=some (.tup xs)):Ao K H (.ref a) (.type "tuple")
 | dK {a:Addr} {kvs:List (Key×V)} (e:H a=some (.dK kvs)):Ao K H (.ref a) (.type "dict")
 | dT {a:Addr} {kvs:List (List Key×V)} (e:H a=some (.dT kvs)):Ao K H (.ref a) (.type "dict")
 | ins {a C dx:Addr} {fs:List (Str×V)} (e:H a=some (.ins C dx fs)) (cl:CQ K C) (ha:W.findIn K (.ref C) "__class__" = some (some (.builtin "object.__class__")))
   (hn:W.specialIn K (.builtin "object.__class__") "__get__" = some (some (.builtin "getset_descriptor.__get__"))) (htk:W.takesIn K (.builtin "object.__class__")=some true)
   (hm:W.mroIn K C (.type "object")=some true):Ao K H (.ref a) (.ref C)
theorem pO{x:V}{u t:Value}(I:xq X pins σ H s)(rx:aS x u)(ty:Ao X.K H x t)(e:W.kitOne X.K t c=some b)(h:∀tk,Q (.bool b) { s with toks:=tk }) :
  wpAny (model X.prog X.w) A (call (.builtin "isinstance") [u,c]) Q E s:=by
 cases ty with
 | non=>cases (show u=Value.none from rx);exact W.kia_one W.kitx_none I.kIn True.intro e (fun z=>nomatch z) h
 | bl y=>cases (show u=Value.bool y from rx);exact W.kia_one W.kitx_bool I.kIn True.intro e (fun z=>nomatch z) h
 | int i=>obtain⟨t,q⟩:=(show ∃t,u=Value.int i t from rx);cases q;exact W.kia_one W.kitx_int I.kIn True.intro e (fun z=>nomatch z) h
 | str y=>obtain⟨t,q⟩:=(show ∃t,u=Value.str y t from rx);cases q;exact W.kia_one W.kitx_str I.kIn True.intro e (fun z=>nomatch z) h
 | flt y=>obtain⟨t,q⟩:=(show ∃t,u=Value.float y t from rx);cases q;exact W.kia_one W.kitx_float I.kIn True.intro e (fun z=>nomatch z) h
 | @lst a xs ea =>
  cases (show u=Value.ref a from rx);obtain⟨_,_,n,_,h1⟩:=(show bI X.prog X.w H s.heap a (.lst xs) from I.hok a _ ea);exact W.kia_one W.kitx_list I.kIn ⟨_,h1,rfl⟩ e (fun z=>nomatch z) h
 | @frz a ob xs ea =>
  cases (show u=Value.ref a from rx);obtain⟨_,_,_,n,_,h1⟩:=(show bI X.prog X.w H s.heap a (.frz ob (.lst xs)) from I.hok a _ ea);exact W.kia_one W.kitx_list I.kIn ⟨_,h1,rfl⟩ e (fun z=>nomatch z) h
 | @tup a xs ea =>
  cases (show u=Value.ref a from rx);obtain⟨_,_,_,p⟩:=(show bI X.prog X.w H s.heap a (.tup xs) from I.hok a _ ea);obtain⟨o,h1,h2,_⟩:=p;exact W.kia_one W.kitx_tuple I.kIn ⟨o,h1,h2⟩ e (fun z=>nomatch z) h
 | @dK a kvs ea =>
  cases (show u=Value.ref a from rx);obtain⟨_,_,vs,_,p⟩:=(show bI X.prog X.w H s.heap a (.dK kvs) from I.hok a _ ea);obtain⟨o,es,ep,h1,h2,_⟩:=p;exact W.kia_one W.kitx_dict I.kIn ⟨o,h1,h2.1⟩ e (fun z=>nomatch z) h
 | @dT a kvs ea =>
  cases (show u=Value.ref a from rx);obtain⟨_,_,xs,_,o,es,ep,h1,h2,_⟩:=(show bI X.prog X.w H s.heap a (.dT kvs) from I.hok a _ ea);exact W.kia_one W.kitx_dict I.kIn ⟨o,h1,h2.1⟩ e (fun z=>nomatch z) h
 | @ins a C dx fs ea cl ha hn htk hm =>
  cases (show u=Value.ref a from rx);obtain⟨mA,O,_⟩:=kH I.hok ea;obtain⟨od,J,_⟩:=O.look;exact W.kia_one (W.kitx_own (cl.get _) cl.hd ha hn htk hm) I.kIn J e (fun z=>nomatch z) h
end
end L2
namespace L2
open PySem PySem.Spec PyProof.Rows
structure xL(k:Nat)(A:Around):Prop where
 hd:A.handled=none
 dp:A.depth+3*k+5<recursionLimit
 un:A.units+16*k+200<cLine
 gd:A.guards=some []
theorem xL.mono{j k:Nat}{A:Around}(r:xL k A)(h:j≤k):xL j A:=⟨r.hd,by have:=r.dp;omega,by have:=r.un;omega,r.gd⟩
theorem xL.deeper{k:Nat}{A:Around}(r:xL (k+1) A)(env:Env):xL k (A.deeper env) :=
 ⟨r.hd,by have:=r.dp;show A.depth+1+3*k+5<_;omega,by have:=r.un;show A.units+3+16*k+200<_;omega,r.gd⟩
theorem m9{A:Around}{C:Addr}{us:List Value}{kw:List (Str×Value)}:(A.under (.builtin "type.__call__" ⟨.ref C::us,kw⟩)).depth=A.depth+1:=by
 first|rfl|simp[Around.under,Code.weight,Code.isCreation,Code.isGuard,Code.isCaller,Code.frames,Code.isFrame,guardIds]
theorem m8{A:Around}{C:Addr}{us:List Value}{kw:List (Str×Value)}:(A.under (.builtin "type.__call__" ⟨.ref C::us,kw⟩)).units=A.units+1:=by
 first|rfl|simp[Around.under,Code.cUnits,Code.frames,Code.isFrame]
theorem lS{A:Around}{C:Addr}{us:List Value}{kw:List (Str×Value)}(h:A.guards=some []):(A.under (.builtin "type.__call__" ⟨.ref C::us,kw⟩)).guards=some []:=by
 first|exact h|(unfold Around.under;simp[h,Code.guards,Code.isGuard,guardIds,pushGuards])
theorem xL.make{k:Nat}{A:Around}(r:xL (k+1) A)(C:Addr)(us:List Value)(kw:List (Str×Value)):xL k (A.under (.builtin "type.__call__" ⟨.ref C::us,kw⟩)) :=
 ⟨r.hd,by have:=r.dp;rw[m9];omega,by have:=r.un;rw[m8];omega,lS r.gd⟩
theorem xL.depth{k:Nat}{A:Around}(r:xL k A):A.depth<recursionLimit:=by have:=r.dp;omega
theorem xL.units{k:Nat}{A:Around}(r:xL k A):A.units+64<cLine:=by have:=r.un;omega
theorem xL.units0{k:Nat}{A:Around}(r:xL k A):A.units<cLine:=by have:=r.un;omega
def uH:TA:=fun _ H Q=>Q [] H
def nQ(ta:TE)(tr:TA):TA:=fun σ H Q=>ta σ H fun x H1=>tr σ H1 fun xs H2=>Q (x::xs) H2
section
variable {X:Cx} {e:Expr} {es:List Expr} {te:TE} {t:TA} {pos:Pos}
theorem af:PA X [] uH:=fun _ _ _ _ H Q I h=>Calls.spliced_nil ⟨[],H,I,.nil,h⟩
theorem aa(ha:PE X e te)(hr:PA X es t)(hs:starEach (e::es) X.env=(false,eval e X.env)::starEach es X.env:=by rfl):PA X (e::es) (nQ te t):=by
 intro pos pins s σ H Q I h;rw[hs];show wpAny _ _ (spliced ((false,eval e X.env)::backTo pos (starEach es X.env))) _ _ s;refine Calls.spliced_cons (thn (ha pins s σ H _ I h) fun u s1 ⟨x,H1,I1,r1,q1⟩=>?_);exact thn (hr pos pins s1 σ H1 _ I1 q1) fun us s2 ⟨xs,H2,I2,r2,q2⟩=>⟨x::xs,H2,I2,.cons r1 r2,q2⟩
def vQ(t:TA):TE:=fun σ H Q=>t σ H fun xs H1=>xs.length≤sizeLine∧∀p,H1 p=none->Q (.ref p) (upd H1 p (.tup xs))
theorem gK{x1}(h:PA X es t):PE X (.Tuple es x1 pos) (vQ t):=by
 intro pins s σ H Q I hq;refine wpAny_Tuple_spliced (thn (h pos pins s σ H _ I hq) fun us s1 ⟨xs,H1,I1,r,z,q⟩=>⟨by rw[<- r.length];exact z,?_⟩);have hf:H1 s1.heap.objs.size=none:=I1.hok.fresh (Nat.le_refl _);refine⟨.ref s1.heap.objs.size,upd H1 s1.heap.objs.size (.tup xs),I1.laid (t':=s1.toks) (fun b u e=>Heap.get?_push_of_some _ e) (Nat.le_refl _) ?_,rfl,q _ hf⟩;exact⟨z,us,r,⟨_,Heap.get?_push_size _ rfl,rfl,_,rfl⟩⟩
end
abbrev Sp:=List V->Hp->VK->XK->Prop
abbrev CXT:=List Env->Hp->Shared->XK->Value->Shared->Prop
structure Bk(P:Program)(w:World)(K:W.Frag)(mg:Str->Option Value)(base:Heap)(A:Around)(outer:List Env)(s:Shared)(H:Hp):Prop where
 frames:A.frames=some outer
 mod:Mod K mg base
 bs:∀b o,base.get? b=some o->s.heap.get? b=some o∧H b=none
 bsz:base.objs.size≤s.heap.objs.size
 funs:s.heap.FunFrames base outer
 frf:∀b∈frs outer,H b=none
 hok:HOk P w H s.heap
 bare:AllBare s.gens
def CE(outer:List Env)(P:Program)(w:World)(H:Hp)(s:Shared)(Q:VK)(u:Value)(s':Shared):Prop :=
 ∃v H',s'.os=s.os∧AllBare s'.gens∧Un (frs outer) [] H H' s.heap s'.heap∧HOk P w H' s'.heap∧aS v u∧Q v H'
def CR(CX:CXT)(outer:List Env)(P:Program)(w:World)(H:Hp)(s:Shared)(Q:VK)(E:XK)(r:Result)(s':Shared):Prop :=
 match r with
 | .ok (.ret u)=>CE outer P w H s Q u s'
 | .ok _=>False
 | .error e=>CX outer H s E e s'
structure zU(P:Program)(w:World)(K:W.Frag)(mg:Str->Option Value)(base:Heap)(CX:CXT)(k:Nat)(f:Addr)(fd:FuncData)(ps:List Str)(sp:Sp):Prop where
 len:∀vs H Q E,sp vs H Q E->vs.length=ps.length
 run:∀(A:Around) (outer:List Env) (s:Shared) (H:Hp) (args:Args) (us:List Value) (vs:List V) (Q:VK) (E:XK),xL k A->Bk P w K mg base A outer s H->BindsTo s fd args (ps.zip us)->aP vs us->sp vs H Q E ->
  codeAny (model P w) A (.call (.ref f) args) (CR CX outer P w H s Q E) s
theorem Bk.make{P:Program}{w:World}{K:W.Frag}{mg:Str->Option Value}{base:Heap}{A:Around}{outer:List Env}{s:Shared}{H:Hp}(e:Bk P w K mg base A outer s H)(C:Addr)(us:List Value)(kw:List (Str×Value)) :
  Bk P w K mg base (A.under (.builtin "type.__call__" ⟨.ref C::us,kw⟩)) outer s H:=⟨by first|exact e.frames|(simpa[Around.under,Code.envs,Code.isFrame,pushEnvs]using e.frames),e.mod,e.bs,e.bsz,e.funs,e.frf,e.hok,e.bare⟩
section
variable {X:Cx} {pins:List (Addr×Obj)} {σ:St} {H:Hp} {s s':Shared}
theorem xq.env0(I:xq X pins σ H s):Bk X.prog X.w X.K X.mg X.base X.A X.stack s H :=
 ⟨I.ok.frames,I.ok.mod,I.bs,Nat.le_trans I.ok.bsz I.sz,I.stack,I.stkFree,I.hok,I.bare⟩
theorem xq.after{Q:VK}{u:Value}(I:xq X pins σ H s)(h:CE X.stack X.prog X.w H s Q u s'):EP X pins σ Q u s':=by
 obtain⟨v,H',os,bare,un,hok,r,q⟩:=h;obtain⟨hh,g,d,t,os'⟩:=s';obtain rfl:os'=s.os:=os;exact⟨v,H',I.call (h':=hh) (g':=g) (d':=d) (t':=t) (ch:=[]) un hok bare (fun b z=>absurd z (by simp)),r,q⟩
end
def nR(sp:Sp)(dvs:List V)(E:XK)(t:TA):TE:=fun σ H Q=>t σ H fun vs H1=>sp (vs++dvs) H1 Q E
def uk(C:Addr)(sp:Sp)(dvs:List V)(E:XK)(t:TA):TE:=fun σ H Q=>t σ H fun vs H1=>∀x dx,H1 x=none->H1 dx=none->dx≠x ->
 sp (.ref x::(vs++dvs)) (upd (upd H1 dx (.own x)) x (.ins C dx [])) (fun v H2=>v = .non∧Q (.ref x) H2) E
def ej(K:W.Frag)(fd:FuncData)(ps:List Str)(ds:List Value):Prop :=
 ∀(s:Shared) (us:List Value),K.In s.heap->(us++ds).length=ps.length->BindsTo s fd ⟨us,[]⟩ (ps.zip (us++ds))
theorem ej.all{K:W.Frag}{fd:FuncData}{ps:List Str}(h:∀us:List Value,us.length=ps.length->bindArgs fd ⟨us,[]⟩=pure (ps.zip us)):ej K fd ps []:=fun s us _ hl=>by
 rw[List.append_nil]at hl ⊢;exact .of_eq (h us hl)
def fP(CX:CXT)(X:Cx)(E:XK):Prop:=∀(pins:List (Addr×Obj)) (σ:St) (H:Hp) (s:Shared) (e:Value) (s':Shared),xq X pins σ H s->CX X.stack H s E e s'->X.xe e s'
section
variable {X:Cx} {CX:CXT} {k:Nat} {f C:Addr} {fd:FuncData} {ps:List Str} {sp:Sp} {dvs:List V} {ds:List Value} {E:XK} {x m:Str} {p pos apos:Pos} {e o:Expr} {es:List Expr} {ta:TE} {t:TA}
theorem qE{pins:List (Addr×Obj)}{σ:St}{H:Hp}{s:Shared}{Q:VK}{us:List Value}{vs:List V}(F:zU X.prog X.w X.K X.mg X.base CX k f fd ps sp)(hr:xL k X.A)(hb:ej X.K fd ps ds)(hd:aP dvs ds)(hx:fP CX X E)
  (I:xq X pins σ H s) (r:aP vs us) (h:sp (vs++dvs) H Q E):wpAny (model X.prog X.w) X.A (call (.ref f) us) (EP X pins σ Q) X.xe s:=by
 have r2:aP (vs++dvs) (us++ds):=r.append hd;have hl:(us++ds).length=ps.length:=by rw[<- r2.length];exact F.len _ _ _ _ h
 refine wpAny_call (codeAny_mono (F.run X.A X.stack s H ⟨us,[]⟩ (us++ds) (vs++dvs) Q E hr I.env0 (hb s us I.kIn hl) r2 h) fun r s' hq=>?_);cases r with
 | error e=>exact hx pins σ H s e s' I hq
 | ok fl =>
  cases fl with
  | ret u=>exact I.after hq
  | next=>exact False.elim hq
  | brk=>exact False.elim hq
  | cont=>exact False.elim hq
theorem kx(F:zU X.prog X.w X.K X.mg X.base CX k f fd ps sp)(hr:xL k X.A)(hg:Gl X x)(hm:X.mg x=some (.ref f))(hk:W.keepIn X.K (.ref f)=true)(hb:ej X.K fd ps ds)(hd:aP dvs ds)(hx:fP CX X E)
  (ha:PA X (e::es) t) (hdb:(x == ("__debug__" : Str))=false:=by decide) (he:starEach (e::es) X.env=(false,eval e X.env)::starEach es X.env:=by rfl) (hpl:(backTo pos (starEach es X.env)).any (·.1)=false:=by rfl) :
  PE X (.Call (.Name x p) (e::es) [] pos) (nR sp dvs E t):=by
 intro pins s σ H Q I h;refine wpAny_Call_Name_kw (gs I hg hm ?_ hdb);refine W.callWith_K (h₀:=X.base) I.ok.mod.kin hk (thn (ha pos pins s σ H _ I h) fun us s1 ⟨vs,H1,I1,r,q⟩=>⟨I1.kIn,?_⟩) he hpl;exact qE F hr hb hd hx I1 r q
structure Mk(K:W.Frag)(C f:Addr):Prop where
 makes:W.makesIn K C=true
 init:W.findIn K (.ref C) "__init__" = some (some (.ref f))
 fn:W.isFn K (.ref f)=true
 kp:W.keepIn K (.ref C)=true
theorem qD{pins:List (Addr×Obj)}{σ:St}{H:Hp}{s:Shared}{Q:VK}{us:List Value}{vs:List V}(M:Mk X.K C f)(F:zU X.prog X.w X.K X.mg X.base CX k f fd ps sp)(hr:xL (k+1) X.A)(hb:ej X.K fd ps ds)(hd:aP dvs ds)
  (hx:fP CX X E) (I:xq X pins σ H s) (r:aP vs us)
  (h:∀x dx,H x=none->H dx=none->dx≠x->sp (.ref x::(vs++dvs)) (upd (upd H dx (.own x)) x (.ins C dx [])) (fun v H2=>v = .non∧Q (.ref x) H2) E) :
  wpAny (model X.prog X.w) X.A (call (.ref C) us) (EP X pins σ Q) X.xe s:=by
 have hq:=h (s.heap.objs.size+1) s.heap.objs.size (I.hok.fresh (Nat.le_succ _)) (I.hok.fresh (Nat.le_refl _)) (Nat.ne_of_lt (Nat.lt_succ_self _));have I2:=xq.made (C:=C) I;have r2:aP (V.ref (s.heap.objs.size+1)::(vs++dvs)) (Value.ref (s.heap.objs.size+1)::(us++ds)):=.cons rfl (r.append hd);have hl:(Value.ref (s.heap.objs.size+1)::us++ds).length=ps.length:=by
  have e:=r2.length;rw[F.len _ _ _ _ hq]at e;exact e.symm
 refine wpAny_call (qU (f:=f) I.kIn M.makes M.init (beq_iff_eq.mp M.fn) (codeAny_mono (F.run _ X.stack _ _ ⟨Value.ref (s.heap.objs.size+1)::us,[]⟩ (Value.ref (s.heap.objs.size+1)::(us++ds)) _ _ E (hr.make C us [])
  (I2.env0.make C us []) (hb _ (Value.ref (s.heap.objs.size+1)::us) I2.kIn hl) r2 hq) fun r s' hq'=>?_))
 cases r with
 | error e=>exact hx pins σ _ _ e s' I2 hq'
 | ok fl =>
  cases fl with
  | ret u =>
   obtain⟨v,H',I3,rv,ev,q3⟩:=I2.after hq';subst ev;exact⟨rv,⟨V.ref (s.heap.objs.size+1),H',I3,rfl,q3⟩⟩
  | next=>exact False.elim hq'
  | brk=>exact False.elim hq'
  | cont=>exact False.elim hq'
theorem sN(M:Mk X.K C f)(F:zU X.prog X.w X.K X.mg X.base CX k f fd ps sp)(hr:xL (k+1) X.A)(hg:Gl X x)(hm:X.mg x=some (.ref C))(hb:ej X.K fd ps ds)(hd:aP dvs ds)(hx:fP CX X E)
  (ha:PA X (e::es) t) (hdb:(x == ("__debug__" : Str))=false:=by decide) (he:starEach (e::es) X.env=(false,eval e X.env)::starEach es X.env:=by rfl) (hpl:(backTo pos (starEach es X.env)).any (·.1)=false:=by rfl) :
  PE X (.Call (.Name x p) (e::es) [] pos) (uk C sp dvs E t):=by
 intro pins s σ H Q I h;refine wpAny_Call_Name_kw (gs I hg hm ?_ hdb);refine W.callWith_K (h₀:=X.base) I.ok.mod.kin M.kp (thn (ha pos pins s σ H _ I h) fun us s1 ⟨vs,H1,I1,r,q⟩=>⟨I1.kIn,?_⟩) he hpl;exact qD M F hr hb hd hx I1 r q
end
section
variable {X:Cx} {CX:CXT} {k:Nat} {f C:Addr} {fd:FuncData} {ps ks:List Str} {sp:Sp} {E:XK} {x m:Str} {p pos apos kpos:Pos} {e o:Expr} {es:List Expr} {kws:List Keyword} {te ta:TE} {t tk:TA} {nm:Option Str}
variable {g:List Value->List Value->List Value} {gV:List V->List V->List V}
end
structure xo(N P:List Str)(sc:Scope):Prop where
 kind:sc.kind = .function
 co:sc.isCoroutine=false
 gen:sc.isGenerator=false
 nd:N.Nodup
 pre:N.take P.length=P
 par:∀x∈P,sc.names.lookup x=some .local∨sc.names.lookup x=some .cell
 nofree:∀y∈sc.names,y.2≠.free
theorem j5{kindOf:Str->Option NameKind}{x:Str}:∀{binds:List (Str×Value)} {m:Str->Option Value},(∀v,(x,v)∉binds)->bindL kindOf binds m x=m x
 | [],_,_=>rfl
 | (n,v)::r,m,h=>by
  unfold bindL;rw[j5 fun w hw=>h w (List.mem_cons_of_mem _ hw)]
  split
  ·have:x≠n:=by rintro rfl;exact h v List.mem_cons_self
   simp[this]
  ·rfl
theorem j7{kindOf:Str->Option NameKind}{x:Str}:∀{binds:List (Str×Value)} {m:Str->Option Value},(∀v,(x,v)∉binds)->bindC kindOf binds m x=m x
 | [],_,_=>rfl
 | (n,v)::r,m,h=>by
  unfold bindC;rw[j7 fun w hw=>h w (List.mem_cons_of_mem _ hw)]
  split
  ·rfl
  ·have:x≠n:=by rintro rfl;exact h v List.mem_cons_self
   simp[this]
theorem j6{kindOf:Str->Option NameKind}{x:Str}{v:Value}:∀{P:List Str} {vs:List Value} {i:Nat} {m:Str->Option Value},P.Nodup->P[i]? = some x->vs[i]? = some v->kindOf x=some .local ->
  bindL kindOf (P.zip vs) m x=some v
 | [],_,_,_,_,h,_,_=>by simp at h
 | _::_,[],_,_,_,_,h,_=>by simp at h
 | p::P,w::vs,0,m,nd,h1,h2,hk=>by
  simp at h1 h2;subst h1;subst h2;show bindL kindOf ((p,w)::P.zip vs) m p=_;unfold bindL;rw[j5 fun v hv=>(List.nodup_cons.mp nd).1 (List.of_mem_zip hv).1,if_pos hk];simp
 | p::P,w::vs,i+1,m,nd,h1,h2,hk=>by
  show bindL kindOf ((p,w)::P.zip vs) m x=_;unfold bindL;exact j6 (i:=i) (List.nodup_cons.mp nd).2 (by simpa using h1) (by simpa using h2) hk
theorem j8{kindOf:Str->Option NameKind}{x:Str}{v:Value}:∀{P:List Str} {vs:List Value} {i:Nat} {m:Str->Option Value},P.Nodup->P[i]? = some x->vs[i]? = some v->kindOf x≠some .local ->
  bindC kindOf (P.zip vs) m x=some v
 | [],_,_,_,_,h,_,_=>by simp at h
 | _::_,[],_,_,_,_,h,_=>by simp at h
 | p::P,w::vs,0,m,nd,h1,h2,hk=>by
  simp at h1 h2;subst h1;subst h2;show bindC kindOf ((p,w)::P.zip vs) m p=_;unfold bindC;rw[j7 fun v hv=>(List.nodup_cons.mp nd).1 (List.of_mem_zip hv).1,if_neg hk];simp
 | p::P,w::vs,i+1,m,nd,h1,h2,hk=>by
  show bindC kindOf ((p,w)::P.zip vs) m x=_;unfold bindC;exact j8 (i:=i) (List.nodup_cons.mp nd).2 (by simpa using h1) (by simpa using h2) hk
def d8(N:List Str)(vs:List V):St:=vs.map some++List.replicate (N.length - vs.length) none
def a7(CX:CXT)(P:Program)(w:World)(K:W.Frag)(mg:Str->Option Value)(base:Heap)(N:List Str)(qual:Str)(scope:Scope)(f:Addr)(cd:Value)(A:Around)(outer:List Env)(s:Shared)(H:Hp)(E:XK):Cx where
 prog:=P
 w:=w
 K:=K
 mg:=mg
 base:=base
 A:=A.deeper (envOfC qual scope s.heap.objs.size f cd)
 N:=N
 s₀:=s
 H₀:=H
 env:=envOfC qual scope s.heap.objs.size f cd
 outer:=outer
 stack:=envOfC qual scope s.heap.objs.size f cd::outer
 ex:=[]
 calm:=true
 fn:=fun _=>true
 pn:=[]
 xe:=fun e s'=>wpAny (model P w) (A.deeper (envOfC qual scope s.heap.objs.size f cd)) (leaving (envOfC qual scope s.heap.objs.size f cd) e) (fun _ s''=>CX outer H s E e s'') (fun e' s''=>CX outer H s E e' s'') s'
theorem mE{sc:Scope}{n:Nat}{x:Str}(h:sc.names.lookup x=some .cell):∃c,(cellsFrom n sc.names []).lookup x=some c:=by
 have q:=W.cellsFrom_some sc.names n [] (.inl h);exact Option.isSome_iff_exists.mp q
theorem pP{CX:CXT}{P:Program}{w:World}{K:W.Frag}{mg:Str->Option Value}{base:Heap}{N ps:List Str}{qual:Str}{scope:Scope}{f:Addr}{cd:Value}{A:Around}{outer:List Env}{s s1:Shared}{H:Hp}{E:XK}{us:List Value}{vs:List V}
  (S:xo N ps scope) (hd:A.handled=none) (e0:Bk P w K mg base A outer s H) (hl:vs.length=ps.length) (r:aP vs us)
  (x:InCallC s s.heap.objs.size (bindL (envOfC qual scope s.heap.objs.size f cd).kindOf (ps.zip us) fun _=>none) (cellsFrom (s.heap.objs.size+1) scope.names []) (bindC (envOfC qual scope s.heap.objs.size f cd).kindOf (ps.zip us) fun _=>none) s1) :
  xq (a7 CX P w K mg base N qual scope f cd A outer s H E) [] (d8 N vs) H s1:=by
 have hpl:ps.length≤N.length:=by have:=congrArg List.length S.pre;rw[List.length_take]at this;omega
 obtain⟨h1,tk,rfl,hk⟩:=x.done;have noA:∀b:Addr,b∉(a7 CX P w K mg base N qual scope f cd A outer s H E).ex:=fun b z=>absurd (show b∈([]:List Addr) from z) (by simp);refine⟨⟨e0.mod,S.kind,rfl,rfl,Nat.le_refl _,fun y z c h1 h2=>?_,fun y hy=>?_,fun y c _ h=>?_,fun _=>hd,Around.frames_deeper e0.frames,.inr ⟨rfl,rfl⟩,fun b z=>absurd z (noA b),e0.bs,e0.bsz,fun b _ _=>noA b,fun b z=>absurd z (noA b),e0.funs,e0.frf⟩,
  rfl,e0.bare,Un.kept hk,⟨_,x.toInCall.ns,fun i y v h1 h2 h3=>?_⟩,fun y c h=>⟨_,x.cell y c h⟩,e0.hok.fresh (Nat.le_refl _),fun y c h=>?_,fun p hp=>absurd (show p∈([]:List (Addr×Obj)) from hp) (by simp),e0.hok.kept hk,?_⟩
 ·exact name_of_addr x.apart (PySem.mem_of_lookup h1) (PySem.mem_of_lookup h2)
 ·have hy:scope.names.lookup y=some .cell∨scope.names.lookup y=some .free:=hy
  rcases hy with hy|hy
  ·exact mE hy
  ·exact absurd rfl (S.nofree _ (PySem.mem_of_lookup hy))
 ·exact Nat.le_of_lt (x.above y c (PySem.mem_of_lookup h))
 ·have hi:i<vs.length:=by
   unfold d8 at h2
   by_cases hi:i<vs.length
   ·exact hi
   ·rw[List.getElem?_append_right (by simpa using hi)]at h2
    rw[List.getElem?_replicate]at h2
    split at h2 <;> cases h2
  have ha:vs[i]? = some v:=by
   unfold d8 at h2;rw[List.getElem?_append_left (by simpa using hi),List.getElem?_map]at h2;cases e:vs[i]? with
   | none=>rw[e]at h2;cases h2
   | some a=>rw[e]at h2;cases h2;rfl
  obtain⟨u,hu,rv⟩:=r.get ha;have hp:ps[i]? = some y:=by
   rw[<- S.pre,List.getElem?_take_of_lt (by omega)];exact h1
  have ndP:ps.Nodup:=by rw[<- S.pre];exact S.nd.sublist (List.take_sublist _ _)
  refine⟨u,rv,?_⟩;rcases S.par y (List.mem_of_getElem? hp) with k|k
  ·exact .inl ⟨k,j6 ndP hp hu k⟩
  ·obtain⟨c,e⟩:=mE (n:=s.heap.objs.size+1) k
   refine .inr ⟨.inl k,c,e,?_⟩;have q:=x.cell y c e;rw[j8 ndP hp hu (by show scope.names.lookup y≠_;rw[k];decide)]at q;exact q
 ·exact e0.hok.fresh (Nat.le_of_lt (x.above y c (PySem.mem_of_lookup h)))
 ·unfold d8
  show _=N.length;rw[List.length_append,List.length_map,List.length_replicate];omega
theorem ma{CX:CXT}{P:Program}{w:World}{K:W.Frag}{mg:Str->Option Value}{base:Heap}{k:Nat}{f:Addr}{name qual:Str}{params:Arguments}{body:List Stmt}{scope:Scope}{dV kV doc pm cdv ct oc:Value}{an od:Option Addr}
  {osl:Array (Option Value)} {N ps:List Str} {sp:Sp} (lk:K.lookup f=some ⟨oc,od,.func (W.fnOf name qual params body scope dV kV doc pm an cdv ct),osl⟩) (hcd:W.codeIn K cdv qual=true) (S:xo N ps scope)
  (len:∀vs H Q E,sp vs H Q E->vs.length=ps.length)
  (hbody:∀(A:Around) (outer:List Env) (s:Shared) (H:Hp) (vs:List V) (Q:VK) (E:XK),xL k (A.deeper (envOfC qual scope s.heap.objs.size f cdv))->sp vs H Q E ->
   ∃t,PSs (a7 CX P w K mg base N qual scope f cdv A outer s H E) body t∧t { nx:=fun _ H'=>Q .non H',rt:=Q } (d8 N vs) H) :
  zU P w K mg base CX (k+1) f (W.fnOf name qual params body scope dV kV doc pm an cdv ct) ps sp:=by
 refine⟨len,fun A outer s H args us vs Q E hr e0 hb r hsp=>?_⟩;have hl:=len _ _ _ _ hsp;have KX:K.In s.heap:=e0.mod.kin.keeps fun b o e=>(e0.bs b o e).1;have lim:s.heap.NoLimit:=e0.mod.nolimit.keeps fun b o e=>(e0.bs b o e).1;have hkind:∀y∈ps.zip us,scope.names.lookup y.1=some .local∨(scope.names.lookup y.1=some .cell∧((cellsFrom (s.heap.objs.size+1) scope.names []).lookup y.1).isSome=true):=fun ⟨n,v⟩ hy=>by
  rcases S.par n (List.of_mem_zip hy).1 with q|q
  ·exact .inl q
  ·exact .inr ⟨q,W.cellsFrom_some _ _ _ (.inl q)⟩
 refine codeAny_call_function hr.depth (KX _ _ lk) rfl S.co S.gen rfl (W.codeRec_of KX hcd) (hb _ _ _ _ ?_);refine wpAny_newFunctionEnv_cells S.kind hkind fun env he s1 x=>?_;subst he;refine⟨lim.keeps x.toInCall.keep,codeAny_func ?_⟩;obtain⟨t,ht,hq⟩:=hbody A outer s H vs Q E (hr.deeper _) hsp;have I:xq (a7 CX P w K mg base N qual scope f cdv A outer s H E) [] (d8 N vs) H s1:=pP S hr.hd e0 hl r x;refine wpAny_mono (ht [] s1 (d8 N vs) H _ I hq) (fun fl s' hs=>?_) fun e s' hs=>hs;have fin:∀{σ':St} {H':Hp} {v:V} {u:Value},xq (a7 CX P w K mg base N qual scope f cdv A outer s H E) [] σ' H' s'->aS v u->Q v H'->CE outer P w H s Q u s' :=
  fun {σ' H' v u} J rv q=>⟨v,H',J.os,J.bare,J.base,J.hok,rv,q⟩
 cases fl with
 | ret u =>
  obtain⟨v,σ',H',J,rv,q⟩:=hs;exact fin J rv q
 | next =>
  obtain⟨σ',H',J,q⟩:=hs;exact fin (v:=V.non) (u:=Value.none) J rfl q
 | brk =>
  obtain⟨_,_,_,q⟩:=hs;exact False.elim q
 | cont =>
  obtain⟨_,_,_,q⟩:=hs;exact False.elim q
end L2
namespace L2
open PySem PySem.Spec PyProof.Rows
section
variable {X:Cx} {x:Str} {p pos:Pos} {e:Expr} {es:List Expr} {t:TA} {id T:String} {r:List V->Hp->VK->Prop}
def tCB(r:List V->Hp->VK->Prop)(t:TA):TE:=fun σ H Q=>t σ H fun vs H1=>r vs H1 Q
theorem aG(hc:eY X (.builtin id) r)(hg:Gl X x)(hm:X.mg x=none)(hv:bootBuiltins x=some (.builtin id))(ha:PA X (e::es) t)(hn:x≠"__name__":=by decide)(hdb:(x == ("__debug__" : Str))=false:=by decide)
  (he:starEach (e::es) X.env=(false,eval e X.env)::starEach es X.env:=by rfl) (hpl:(backTo pos (starEach es X.env)).any (·.1)=false:=by rfl):PE X (.Call (.Name x p) (e::es) [] pos) (tCB r t):=by
 intro pins s σ H Q I h;refine wpAny_Call_Name_kw (fI I hg hm hv ?_ hn hdb);exact PyProof.Rows.callWith_builtin1 (thn (ha pos pins s σ H _ I h) fun us s1 ⟨vs,H1,I1,r1,q1⟩=>hc pins s1 σ H1 vs us Q I1 r1 q1) he hpl
theorem fj(hc:eY X (.type T) r)(hg:Gl X x)(hm:X.mg x=none)(hv:bootBuiltins x=some (.type T))(ha:PA X (e::es) t)(hn:x≠"__name__":=by decide)(hdb:(x == ("__debug__" : Str))=false:=by decide)
  (he:starEach (e::es) X.env=(false,eval e X.env)::starEach es X.env:=by rfl) (hpl:(backTo pos (starEach es X.env)).any (·.1)=false:=by rfl):PE X (.Call (.Name x p) (e::es) [] pos) (tCB r t):=by
 intro pins s σ H Q I h;refine wpAny_Call_Name_kw (fI I hg hm hv ?_ hn hdb);exact PyProof.Rows.callWith_type1 (thn (ha pos pins s σ H _ I h) fun us s1 ⟨vs,H1,I1,r1,q1⟩=>hc pins s1 σ H1 vs us Q I1 r1 q1) he hpl
end
end L2
namespace HT
open PySem PyProof.Rows
section
open PySem.SeqAt
open PySem.AutoSeq1 (wpAny_loadPart')
open PySem.MeetsSeq PySem.MeetsSeq2 PySem.MeetsSeq3
end
section
variable {prog:Program} {w:World} {A:Around} {E:Value->Shared->Prop} {s:Shared}
def sIx(n d:Nat):Option Int->Nat
 | none=>d
 | some v=>if v<0 then (v+(n:Int)).toNat else min v.toNat n
theorem sIx_none(n d:Nat):sIx n d none=d:=rfl
theorem sIx_nat(n d k:Nat):sIx n d (some (k:Int))=min k n:=by
 show(if (k:Int)<0 then ((k:Int)+(n:Int)).toNat else min (k:Int).toNat n)=min k n
 rw[if_neg (by omega),Int.toNat_natCast]
end
end HT
namespace L2
open PySem PySem.Spec PyProof.Rows
abbrev TO:=St->Hp->(Option Int->Hp->Prop)->Prop
def PO(X:Cx)(e:Option Expr)(t:TO):Prop :=
 ∀(pins:List (Addr×Obj)) (s:Shared) (σ:St) (H:Hp) (Q:Option Int->Hp->Prop),xq X pins σ H s->t σ H Q ->
  wpAny (model X.prog X.w) X.A (evalPart e X.env) (fun u s'=>∃o H',xq X pins σ H' s'∧IsPart u o∧Q o H') X.xe s
def su:TO:=fun _ H Q=>Q none H
def vU(t:TE):TO:=fun σ H Q=>t σ H fun x H1=>∃i,x = .int i∧Q (some i) H1
section
variable {X:Cx} {e:Expr} {te:TE} {lo hi:Option Expr} {tl th:TO} {pos p2:Pos}
theorem ik:PO X none su:=by
 intro pins s σ H Q I h;rw[evalPart_none];exact wpAny_pure ⟨none,H,I,.none,h⟩
theorem gh(h:PE X e te):PO X (some e) (vU te):=by
 intro pins s σ H Q I hw;rw[evalPart_some];refine thn (h pins s σ H _ I hw) fun u s1 ⟨x,H1,I1,r1,q1⟩=>?_;obtain⟨i,rfl,q⟩:=q1;obtain⟨t,rfl⟩:=r1;exact⟨some i,H1,I1,.int i t,q⟩
def SlR(X:Cx)(r:V->Option Int->Option Int->Hp->VK->Prop):Prop :=
 ∀(pins:List (Addr×Obj)) (s:Shared) (σ:St) (H:Hp) (x:V) (v vl vu:Value) (lo hi:Option Int) (sl:Addr) (Q:VK),xq X pins σ H s->aS x v->s.heap.IsSliceOf sl vl vu .none->IsPart vl lo->IsPart vu hi->r x lo hi H Q ->
  ∃T id,typeLookup (.type T) "__getitem__" = pure (some (.builtin id))∧s.TypeIs v T∧wpAny (model X.prog X.w) X.A (getItem v (.ref sl)) (EP X pins σ Q) X.xe s
def tSl(r:V->Option Int->Option Int->Hp->VK->Prop)(te:TE)(tl th:TO):TE:=fun σ H Q=>te σ H fun x H1=>tl σ H1 fun l H2=>th σ H2 fun u H3=>r x l u H3 Q
theorem gi{r:V->Option Int->Option Int->Hp->VK->Prop}(hr:SlR X r)(he:PE X e te)(hl:PO X lo tl)(hu:PO X hi th):PE X (.Subscript e (.Slice lo hi none p2) pos) (tSl r te tl th):=by
 intro pins s σ H Q I h;refine Subscript_ (thn (he pins s σ H _ I h) fun v s1 ⟨x,H1,I1,r1,q1⟩=>?_);refine wpAny_Slice (thn (hl pins s1 σ H1 _ I1 q1) fun vl s2 ⟨l,H2,I2,pl,q2⟩=>thn (hu pins s2 σ H2 _ I2 q2) fun vu s3 ⟨u,H3,I3,pu,q3⟩=>?_);rw[evalPart_none];refine wpAny_pure ?_;have I4:xq X pins σ H3 { s3 with heap:=s3.heap.push { cls:=.type "slice",data:=.fields #[vl,vu,.none] } }:=I3.kept (t':=s3.toks) fun b ob q=>Heap.get?_push_of_some _ q;obtain⟨T,id,hT,ht,hg⟩:=hr pins { s3 with heap:=s3.heap.push { cls:=.type "slice",data:=.fields #[vl,vu,.none] } } σ H3 x v vl vu l u s3.heap.objs.size Q I4 r1 (Heap.IsSliceOf.new ..) pl pu q3;show wpAny (model X.prog X.w) X.A (subscriptTail e (.Slice lo hi none p2) v (.ref s3.heap.objs.size)) (EP X pins σ Q) X.xe { s3 with heap:=s3.heap.push { cls:=.type "slice",data:=.fields #[vl,vu,.none] } };exact tail_any (ops:=[.ref s3.heap.objs.size,v]) ht hT hg (by with_unfolding_all rfl)
def fC(xs:List V)(lo hi:Option Int):List V:=(xs.drop (HT.sIx xs.length 0 lo)).take (HT.sIx xs.length xs.length hi - HT.sIx xs.length 0 lo)
theorem dO(xs:List V)(lo hi:Option Int):(fC xs lo hi).length≤xs.length:=by
 unfold fC;rw[List.length_take,List.length_drop];omega
end
end L2
namespace L2
open PySem PySem.Spec PyProof.Rows
def ixN(n:Nat)(i:Int):Option Nat:=if 0≤i then (if i<n then some i.toNat else none) else if -(n:Int)≤i then some (i+n).toNat else none
def atI{α:Type}(xs:List α)(i:Int):Option α:=(ixN xs.length i).bind fun j=>xs[j]?
theorem oA{n:Nat}{i:Int}{j:Nat}(h:ixN n i=some j):seqIndex? i n=some j∧j<n∧-(n:Int)≤i∧i<n:=by
 unfold ixN at h
 by_cases h0:0≤i
 ·rw[if_pos h0]at h
  by_cases h1:i<n
  ·rw[if_pos h1]at h
   have e:i.toNat=j:=Option.some.inj h;exact⟨by rw[seqIndex_of h0 h1,e],by omega,by omega,h1⟩
  ·rw[if_neg h1]at h;cases h
 ·rw[if_neg h0]at h
  by_cases h1:-(n:Int)≤i
  ·rw[if_pos h1]at h
   have e:(i+n).toNat=j:=Option.some.inj h;exact⟨by rw[seqIndex_neg (by omega) h1,e],by omega,h1,by omega⟩
  ·rw[if_neg h1]at h;cases h
theorem oR{α:Type}{xs:List α}{i:Int}{v:α}(h:atI xs i=some v):∃j,seqIndex? i xs.length=some j∧xs[j]? = some v∧j<xs.length∧-(xs.length:Int)≤i∧i<xs.length:=by
 unfold atI at h;cases e:ixN xs.length i with
 | none=>rw[e]at h;cases h
 | some j =>
  rw[e]at h;obtain⟨h1,h2,h3,h4⟩:=oA e;exact⟨j,h1,h,h2,h3,h4⟩
theorem dB{α:Type}{xs:List α}{j:Nat}{v:α}(h:xs[j]? = some v):atI xs (j:Int)=some v:=by
 have hj:j<xs.length:=(List.getElem?_eq_some_iff.mp h).1;have e:ixN xs.length (j:Int)=some j:=by
  unfold ixN;rw[if_pos (by omega),if_pos (by omega)];simp
 unfold atI;rw[e];exact h
theorem rY{α:Type}(xs:List α)(v:α):atI (xs++[v]) (-1)=some v:=by
 have hl:(xs++[v]).length=xs.length+1:=by simp
 have e:ixN (xs++[v]).length (-1)=some xs.length:=by
  unfold ixN;rw[hl,if_neg (by decide),if_pos (by omega)]
  congr 1
  omega
 unfold atI;rw[e];show(xs++[v])[xs.length]? = some v;simp
def uh(b:Expr):Prop:=∀o i,subscripted b false o i=operate [o,i] (getItem o i)
def IxR(X:Cx)(r:R2):Prop :=
 ∀(value slice:Expr) (pins:List (Addr×Obj)) (s:Shared) (σ:St) (H:Hp) (x y:V) (v u:Value) (Q:VK),xq X pins σ H s->aS x v->aS y u->r x y H Q ->
  subscripted slice false v u=operate [v,u] (getItem v u)->wpAny (model X.prog X.w) X.A (subscriptTail value slice v u) (EP X pins σ Q) X.xe s
def MtR(X:Cx)(id:String)(r:V->List V->Hp->VK->Prop):Prop :=
 ∀(pins:List (Addr×Obj)) (s:Shared) (σ:St) (H:Hp) (x:V) (xs:List V) (v:Value) (us:List Value) (Q:VK),xq X pins σ H s->aS x v->aP xs us->r x xs H Q ->
  wpAny (model X.prog X.w) X.A (call (.builtin id) (v::us)) (EP X pins σ Q) X.xe s
section
variable {X:Cx} {a b:Expr} {ta tb:TE} {pos:Pos}
theorem ar{r:R2}(hr:IxR X r)(ha:PE X a ta)(hb:PE X b tb)(hs:uh b):PE X (.Subscript a b pos) (tOp r ta tb):=by
 intro pins s σ H Q I h;exact Subscript_ (vJ ha hb I h fun v u s2 x y H2 I2 rx ry q=>hr a b pins s2 σ H2 x y v u Q I2 rx ry q (hs _ _))
inductive C6 (K:W.Frag) (x y:V) (H:Hp) (Q:VK):Prop
 | mk (p:Addr) (xs:List V) (i:Int) (v:V) (e:x = .ref p) (f:y = .int i) (s:SqL K H p xs) (a:atI xs i=some v) (q:Q v H):C6 K x y H Q
inductive C5 (K:W.Frag) (x y:V) (H:Hp) (Q:VK):Prop
 | mk (p:Addr) (xs:List V) (i:Int) (v:V) (e:x = .ref p) (f:y = .int i) (s:SqT K H p xs) (a:atI xs i=some v) (q:Q v H):C5 K x y H Q
theorem aO:IxR X (C6 X.K):=by
 intro value slice pins s σ H x y v u Q I rx ry h hs;obtain⟨p,xs,i,z,rfl,rfl,hq,he,q⟩:=h;cases rx;obtain⟨t,rfl⟩:=ry;obtain⟨its,r,pl,hz⟩:=I.list hq;obtain⟨j,h1,h2,h3,h4,h5⟩:=oR he;obtain⟨w,ew,rw'⟩:=r.get h2;have hl:=r.length;have hn:=kD;have fin:EP X pins σ Q w s:=⟨z,H,I,rw',q⟩
 by_cases h0:0≤i
 ·have hj:i.toNat=j:=by
   rw[seqIndex_of h0 h5]at h1;exact Option.some.inj h1
  exact item_listR pl.isList h0 (by omega) (by rw[hj];simpa using ew) fin hs
 ·have hj:(i+(its.toArray.size:Int)).toNat=j:=by
   rw[seqIndex_neg (by omega) h4]at h1;rw[List.size_toArray,<- hl];exact Option.some.inj h1
  exact subscriptTail_builtinR (x:=w) pl.isList.typeIs slot_list_getitem.lookup
   (wpAny_getItem_list_neg (Q:=fun r s'=>r=w∧EP X pins σ Q r s') pl.isList (by omega) (by rw[List.size_toArray] <;> omega) (by omega) (by rw[hj];simpa using ew) ⟨rfl,fin⟩) hs
theorem ap:IxR X (C5 X.K):=by
 intro value slice pins s σ H x y v u Q I rx ry h hs;obtain⟨p,xs,i,z,rfl,rfl,hq,he,q⟩:=h;cases rx;obtain⟨t,rfl⟩:=ry;obtain⟨its,r,pl,hz⟩:=I.tuple hq;obtain⟨j,h1,h2,h3,h4,h5⟩:=oR he;obtain⟨w,ew,rw'⟩:=r.get h2;have hl:=r.length;have hn:=kD;have fin:EP X pins σ Q w s:=⟨z,H,I,rw',q⟩;exact subscriptTail_builtinR (x:=w) pl.typeIs slot_tuple_getitem.lookup
  (getItem_tuple (j:=j) (Q:=fun r s'=>r=w∧EP X pins σ Q r s') pl (by omega) (by omega) (by rw[List.size_toArray,<- hl];exact h1) (by simpa using ew) ⟨rfl,fin⟩) hs
theorem m7(its:List Value)(n j:Nat)(u:Value):Obj.mapSeq (·.setIfInBounds j u) { cls:=.type "list",data:=.seq its.toArray n }={ cls:=.type "list",data:=.seq (its.set j u).toArray n }:=by
 simp[Obj.mapSeq]
theorem xq.lst{pins:List (Addr×Obj)}{σ:St}{H:Hp}{s:Shared}{p:Addr}{xs:List V}(I:xq X pins σ H s)(h:H p=some (.lst xs)) :
  ∃(its:List Value) (n:Nat),aP xs its∧s.heap.get? p=some { cls:=.type "list",data:=.seq its.toArray n }∧xs.length≤sizeLine:=by
 obtain⟨z,its,n,r,e⟩:=I.hok p _ h;exact⟨its,n,r,e,z⟩
theorem xq.lstUpd{pins:List (Addr×Obj)}{σ:St}{H:Hp}{s:Shared}{p:Addr}{xs ys:List V}{its its':List Value}{n n':Nat}{f:Obj->Obj}(I:xq X pins σ H s)(h:H p=some (.lst xs))
  (ho:s.heap.get? p=some { cls:=.type "list",data:=.seq its.toArray n }) (hf:f { cls:=.type "list",data:=.seq its.toArray n }={ cls:=.type "list",data:=.seq its'.toArray n' }) (r:aP ys its') (hz:ys.length≤sizeLine) (t:Nat) :
  xq X pins σ (upd H p (.lst ys)) { s with heap:=s.heap.update p f,toks:=t }:=by
 have e:(s.heap.update p f).get? p=some { cls:=.type "list",data:=.seq its'.toArray n' }:=by
  rw[Heap.get?_update_self f ho (by rw[hf] <;> rfl),hf]
 refine I.write (x:=p) (e:=p) (by rw[h];trivial) (.inl rfl) (fun b u hb q=>(Heap.get?_update_other _ _ (Ne.symm hb)).trans q) ⟨_,e⟩ ?_;exact⟨hz,its',n',r,e⟩
def wd:V->V->V->Hp->(Hp->Prop)->Prop:=fun o i v H Q=>∃p xs k j,o = .ref p∧i = .int k∧H p=some (.lst xs)∧ixN xs.length k=some j∧Q (upd H p (.lst (xs.set j v)))
theorem qB:vM X wd:=by
 intro pins s σ H o i v ov iv u Q I ro ri rv h;obtain⟨p,xs,k,j,rfl,rfl,hp,hj,q⟩:=h;cases ro;obtain⟨t,rfl⟩:=ri;obtain⟨its,n,r,ho,hz⟩:=I.lst hp;obtain⟨h1,h2,h3,h4⟩:=oA hj;have hl:=r.length;have hn:=kD;have I':xq X pins σ (upd H p (.lst (xs.set j v))) { s with heap:=s.heap.update p (Obj.mapSeq (·.setIfInBounds j u)) } :=
  I.lstUpd hp ho (m7 its n j u) (r.set rv j) (by rw[List.length_set];exact hz) s.toks
 by_cases h0:0≤k
 ·have hk:k.toNat=j:=by
   rw[seqIndex_of h0 h4]at h1;exact Option.some.inj h1
  exact W.ki_setAt ho h0 (by omega) (by rw[List.size_toArray,<- hl];exact h4) (by rw[hk];exact⟨_,I',q⟩)
 ·have hk:(k+(its.toArray.size:Int)).toNat=j:=by
   rw[seqIndex_neg (by omega) h3]at h1;rw[List.size_toArray,<- hl];exact Option.some.inj h1
  exact W.ki_setBack ho (by omega) (by rw[List.size_toArray,<- hl];exact h3) (by omega) (by rw[hk];exact⟨_,I',q⟩)
theorem kb(lo hi:Option Int)(n:Nat):(sliceBounds lo hi none n).1=((HT.sIx n 0 lo:Nat):Int)∧(sliceBounds lo hi none n).2.1=((HT.sIx n n hi:Nat):Int)∧(sliceBounds lo hi none n).2.2=1:=by
 refine⟨?_,?_,rfl⟩
 ·cases lo with
  | none=>simp[sliceBounds,HT.sIx]
  | some i =>
   simp only[sliceBounds,HT.sIx,Option.getD_none,show(1:Int)>0 by decide,if_true]
   by_cases h:i<0
   ·simp only[h,if_true] <;> omega
   ·simp only[h,if_false] <;> omega
 ·cases hi with
  | none=>simp[sliceBounds,HT.sIx]
  | some i =>
   simp only[sliceBounds,HT.sIx,Option.getD_none,show(1:Int)>0 by decide,if_true]
   by_cases h:i<0
   ·simp only[h,if_true] <;> omega
   ·simp only[h,if_false] <;> omega
theorem js(its:List Value)(lo hi:Option Int):slicePick its.toArray lo hi none=((its.drop (HT.sIx its.length 0 lo)).take (HT.sIx its.length its.length hi - HT.sIx its.length 0 lo)).toArray:=by
 obtain⟨h1,h2,h3⟩:=kb lo hi its.toArray.size;unfold slicePick;rw[h1,h2,h3];simp only[sliceRange_one,pick_run,List.size_toArray] <;> rfl
def xc(K:W.Frag):V->Option Int->Option Int->Hp->VK->Prop:=fun x lo hi H Q=>∃a xs,x = .ref a∧SqL K H a xs∧∀p,H p=none->Q (.ref p) (upd H p (.lst (fC xs lo hi)))
theorem sF:SlR X (xc X.K):=by
 intro pins s σ H x v vl vu lo hi sl Q I rx hs pl pu h;obtain⟨a,xs,rfl,hx,q⟩:=h;cases rx;obtain⟨its,r,ht,hz⟩:=I.list hx;have hlen:=r.length;refine⟨"list",_,slot_list_getitem.lookup,ht.isList.typeIs,?_⟩;refine wpAny_getItem_list_slice ht.isList hs pl pu .none (by simp) ?_ (by rw[List.size_toArray] <;> omega);rw[js,<- hlen];refine⟨.ref s.heap.objs.size,_,I.laid (t':=s.toks) (o:=.lst (fC xs lo hi)) (fun b ob q=>Heap.get?_push_of_some _ q) (Nat.le_refl _) ?_,rfl,q _ (I.hok.fresh (Nat.le_refl _))⟩;exact⟨Nat.le_trans (dO xs lo hi) hz,_,0,(r.drop (HT.sIx xs.length 0 lo)).take (HT.sIx xs.length xs.length hi - HT.sIx xs.length 0 lo),Heap.get?_push_size _ rfl⟩
def uD:V->Bool
 | .non=>true
 | .bl _=>true
 | .int _=>true
 | .str _=>true
 | _=>false
def eqV:V->V->Bool
 | .non,.non=>true
 | .bl a,.bl b=>a == b
 | .bl a,.int b=>(if a then 1 else 0) == b
 | .int a,.bl b=>a == (if b then 1 else 0)
 | .int a,.int b=>a == b
 | .str a,.str b=>a == b
 | _,_=>false
theorem vy{A:Around}{s:Shared}{y x:V}{u v:Value}(ry:aS y u)(rx:aS x v)(fy:uD y=true)(fx:uD x=true):SeqAt.EqAt A s u v (eqV y x):=by
 cases y with
 | non =>
  cases ry;cases x with
  | non=>cases rx;exact SeqAt.EqAt.same _
  | bl b=>cases rx;exact SeqAt.EqAt.none_bool b
  | int b=>obtain⟨t,rfl⟩:=rx;exact SeqAt.EqAt.none_int b t
  | str b=>obtain⟨t,rfl⟩:=rx;exact SeqAt.EqAt.none_str b t
  | _=>exact absurd (show false=true from fx) Bool.false_ne_true
 | bl a =>
  cases ry;cases x with
  | non=>cases rx;exact SeqAt.EqAt.bool_none a
  | bl b=>cases rx;exact SeqAt.EqAt.bool_bool a b
  | int b=>obtain⟨t,rfl⟩:=rx;exact SeqAt.EqAt.bool_int a b t
  | str b=>obtain⟨t,rfl⟩:=rx;exact SeqAt.EqAt.bool_str a b t
  | _=>exact absurd (show false=true from fx) Bool.false_ne_true
 | int a =>
  obtain⟨t',rfl⟩:=ry;cases x with
  | non=>cases rx;exact SeqAt.EqAt.int_none a t'
  | bl b=>cases rx;exact SeqAt.EqAt.int_bool a t' b
  | int b=>obtain⟨t,rfl⟩:=rx;exact SeqAt.EqAt.int_int a t' b t
  | str b=>obtain⟨t,rfl⟩:=rx;exact SeqAt.EqAt.int_str a t' b t
  | _=>exact absurd (show false=true from fx) Bool.false_ne_true
 | str a =>
  obtain⟨t',rfl⟩:=ry;cases x with
  | non=>cases rx;exact SeqAt.EqAt.str_none a t'
  | bl b=>cases rx;exact SeqAt.EqAt.str_bool a t' b
  | int b=>obtain⟨t,rfl⟩:=rx;exact SeqAt.EqAt.str_int a t' b t
  | str b=>obtain⟨t,rfl⟩:=rx;exact SeqAt.EqAt.str_str a t' b t
  | _=>exact absurd (show false=true from fx) Bool.false_ne_true
 | _=>exact absurd (show false=true from fy) Bool.false_ne_true
inductive CC (K:W.Frag) (xs:List V) (H:Hp) (Q:VK):Prop
 | mk (p:Addr) (ys:List V) (e:xs = [.ref p]) (s:SqL K H p ys∨SqT K H p ys) (q:Q (.int ys.length) H):CC K xs H Q
theorem aI:eY X (.builtin "len") (CC X.K):=by
 intro pins s σ H xs us Q I r h;obtain⟨p,ys,rfl,hq,q⟩:=h;obtain⟨u,rfl,rx⟩:=fR r;cases rx;have hn:=kD;rcases hq with hq|hq
 ·obtain⟨its,r',pl,hz⟩:=I.list hq
  have hlen:=r'.length;exact Calls.call_len_list pl.isList (by simp only[List.size_toArray] <;> omega) ⟨.int ys.length,H,I.tok _,⟨s.toks+1,by rw[List.size_toArray,hlen]⟩,q⟩
 ·obtain⟨its,r',pl,hz⟩:=I.tuple hq
  have hlen:=r'.length;exact len_tuple pl (by simp only[List.size_toArray] <;> omega) ⟨.int ys.length,H,I.tok _,⟨s.toks+1,by rw[List.size_toArray,hlen]⟩,q⟩
theorem kS:eY X (.type "list") (fun xs H Q=>∃p ys,xs = [.ref p]∧(SqL X.K H p ys∨SqT X.K H p ys)∧∀l,H l=none->Q (.ref l) (upd H l (.lst ys))):=by
 intro pins s σ H xs us Q I r h;obtain⟨p,ys,rfl,hq,q⟩:=h;obtain⟨u,rfl,rx⟩:=fR r;cases rx;have fin:∀(its:List Value),aP ys its->ys.length≤sizeLine->∀(h':Heap) (c':Nat),(∀b o',s.heap.get? b=some o'->h'.get? b=some o') ->
   h'.get? s.heap.objs.size=some { cls:=.type "list",dict:=none,data:=.seq its.toArray c',slots:=#[] }->EP X pins σ Q (.ref s.heap.objs.size) { s with heap:=h' }:=fun its r' hz h' c' kp e =>
  ⟨.ref s.heap.objs.size,_,I.laid (t':=s.toks) kp (Nat.le_refl _) (show bI X.prog X.w _ h' _ (.lst ys) from⟨hz,its,c',r',e⟩),rfl,q _ (I.hok.fresh (Nat.le_refl _))⟩
 rcases hq with hq|hq
 ·obtain⟨its,r',pl,hz⟩:=I.list hq
  have hlen:=r'.length;obtain⟨o,ho,hc,n,hd⟩:=pl.isList;exact call_list_seq p (.inl rfl) ho hc hd (fun h' c' kp e=>fin its r' hz h' c' kp e) (by simp only[List.size_toArray] <;> omega)
 ·obtain⟨its,r',pl,hz⟩:=I.tuple hq
  have hlen:=r'.length;obtain⟨o,ho,hc,n,hd⟩:=pl;exact call_list_seq p (.inr rfl) ho hc hd (fun h' c' kp e=>fin its r' hz h' c' kp e) (by simp only[List.size_toArray] <;> omega)
def tyV(K:W.Frag)(T:String)(x:V)(H:Hp):Prop:=match x with
 | .str _=>T = "str"
 | .int _=>T = "int"
 | .ref p=>(T = "list"∧∃xs,SqL K H p xs)∨(T = "tuple"∧∃o,K.lookup p=some o∧o.cls = .type "tuple"∧o.dict=none) ∨
   (T = "dict"∧((∃kvs,H p=some (.dK kvs))∨∃kvs,H p=some (.dT kvs)))∨(T = "set"∧∃S n,H p=some (.set S n))
 | _=>False
theorem qo{pins:List (Addr×Obj)}{σ:St}{H:Hp}{s:Shared}{T:String}{x:V}{v:Value}(I:xq X pins σ H s)(r:aS x v)(ty:tyV X.K T x H) :
  s.TypeIs v T∧∀a,v = .ref a->∃ob,s.heap.get? a=some ob∧ob.dict=none:=by
 cases x with
 | str z =>
  obtain⟨t,rfl⟩:=r;cases (show T = "str" from ty);exact⟨typeIs_str s z t,fun _ e=>nomatch e⟩
 | int i =>
  obtain⟨t,rfl⟩:=r;cases (show T = "int" from ty);exact⟨typeIs_int s i t,fun _ e=>nomatch e⟩
 | ref p =>
  cases r;rcases ty with⟨rfl,xs,hq⟩|⟨rfl,o,hk,hc,hd⟩|⟨rfl,hk⟩|⟨rfl,S,n,hk⟩
  ·obtain⟨its,_,pl,_⟩:=I.list hq
   refine⟨pl.isList.typeIs,fun a e=>?_⟩;cases e;obtain⟨o,n,e,c,hd,_⟩:=pl;exact⟨o,e,hd⟩
  ·refine⟨⟨o,I.kIn p o hk,hc⟩,fun a e=>?_⟩
   cases e;exact⟨o,I.kIn _ o hk,hd⟩
  ·have z:∃o,s.heap.get? p=some o∧o.ExactDict:=by
    rcases hk with⟨kvs,hk⟩|⟨kvs,hk⟩
    ·obtain⟨_,_,_,_,o,_,_,e,ex,_⟩:=I.hok p _ hk
     exact⟨o,e,ex⟩
    ·obtain⟨_,_,_,_,o,_,_,e,ex,_⟩:=I.hok p _ hk
     exact⟨o,e,ex⟩
   obtain⟨o,e,ex⟩:=z;refine⟨⟨o,e,ex.1⟩,fun a e2=>?_⟩;cases e2;exact⟨o,e,ex.2.1⟩
  ·obtain⟨o,_,_,_,e,ex,_⟩:=I.hok p _ hk
   refine⟨⟨o,e,ex.1⟩,fun a e2=>?_⟩;cases e2;exact⟨o,e,ex.2.1⟩
 | _=>exact False.elim ty
def w6(K:W.Frag)(T:String)(r:V->List V->Hp->VK->Prop)(to:TE):TE:=fun σ H Q=>to σ H fun x H1=>tyV K T x H1∧r x [] H1 Q
def tBM(K:W.Frag)(T:String)(r:V->List V->Hp->VK->Prop)(to:TE)(t:TA):TE:=fun σ H Q=>to σ H fun x H1=>tyV K T x H1∧t σ H1 fun xs H2=>r x xs H2 Q
variable {o e:Expr} {es:List Expr} {to:TE} {t:TA} {name:Str} {apos cpos:Pos} {T id:String} {r:V->List V->Hp->VK->Prop}
theorem qN(pa:PlainAttrs T)(slot:Slot T name id)(hty:typeOf (.builtin id)=pure (.type "method_descriptor"))(hm:MtR X id r)(ho:PE X o to)
  (hbase:attributeBase o name X.env (eval o X.env)=eval o X.env:=by rfl) (hline:(apos.endLine == cpos.line)=true:=by rfl):PE X (.Call (.Attribute o name apos) [] [] cpos) (w6 X.K T r to):=by
 intro pins s σ H Q I h;refine wpAny_Call_method0_late hbase hline (thn (ho pins s σ H _ I h) fun v s1 ⟨x,H1,I1,r1,ty,q1⟩=>?_);obtain⟨h1,h2⟩:=qo I1 r1 ty;exact⟨T,id,pa,slot,hty,h1,h2,Calls.callWith_builtin rfl (PySem.evalArgs_none (hm pins s1 σ H1 x [] v [] Q I1 r1 .nil q1))⟩
theorem dz(pa:PlainAttrs T)(slot:Slot T name id)(hty:typeOf (.builtin id)=pure (.type "method_descriptor"))(hm:MtR X id r)(ho:PE X o to)(ha:PA X (e::es) t)
  (hbase:attributeBase o name X.env (eval o X.env)=eval o X.env:=by rfl)
  (hfew:((backTo cpos (starEach (e::es) X.env)).all (fun x=>!x.1) && (backToKw cpos (keywordEach [] X.env)).all (fun x=>x.1.isSome)
   && decide ((e::es).length+([]:List Keyword).length+(if ([]:List Keyword).isEmpty then 0 else 1)<30))=true:=by rfl)
  (hline:(apos.endLine == cpos.line)=true:=by rfl) (hs:starEach (e::es) X.env=(false,eval e X.env)::starEach es X.env:=by rfl) (hplain:(backTo cpos (starEach es X.env)).any (·.1)=false:=by rfl) :
  PE X (.Call (.Attribute o name apos) (e::es) [] cpos) (tBM X.K T r to t):=by
 intro pins s σ H Q I h;refine wpAny_Call_method_late hbase hfew hline rfl (thn (ho pins s σ H _ I h) fun v s1 ⟨x,H1,I1,r1,ty,q1⟩=>?_);obtain⟨h1,h2⟩:=qo I1 r1 ty;refine⟨T,id,pa,slot,hty,h1,h2,?_⟩;have hA:=ha cpos pins s1 σ H1 _ I1 q1;rw[hs]at hA ⊢;refine Calls.callWith_builtin (by show(false || (backTo cpos (starEach es X.env)).any (·.1))=false;rw[hplain] <;> rfl) (Calls.evalArgs_plain ?_);exact thn hA fun us s2 ⟨vs,H2,I2,r2,q2⟩=>hm pins s2 σ H2 x vs v us Q I2 r1 r2 q2
end
end L2
namespace L2
open PySem PySem.Spec PyProof.Rows
def MtM(X:Cx)(id:String)(r:V->List V->Hp->VK->Prop):Prop :=
 ∀(pins:List (Addr×Obj)) (s:Shared) (σ:St) (H:Hp) (x:V) (xs:List V) (v:Value) (us:List Value) (Q:VK),xq X pins σ H s->aS x v->aP xs us->r x xs H Q ->
  wpAny (model X.prog X.w) X.A (call (.builtin id) (v::us)) (EP X pins σ Q) X.xe s
theorem aP.one:∀{x:V} {us:List Value},aP [x] us->∃u,us = [u]∧aS x u
 | _,_,.cons r .nil=>⟨_,rfl,r⟩
theorem aP.zero:∀{us:List Value},aP [] us->us = []
 | _,.nil=>rfl
theorem aP.reverse{xs:List V}{us:List Value}(h:aP xs us):aP xs.reverse us.reverse:=by
 induction h with
 | nil=>exact .nil
 | cons r t ih=>rw[List.reverse_cons,List.reverse_cons];exact aP.append ih (.cons r .nil)
section
variable {X:Cx} {pins:List (Addr×Obj)} {σ:St} {H:Hp} {s:Shared} {l b:Addr} {xs ys zs:List V}
theorem xq.lset{its its':List Value}{n:Nat}{f:Array Value->Array Value}{t':Nat}(I:xq X pins σ H s)(hH:H l=some (.lst xs))
  (e:s.heap.get? l=some { cls:=.type "list",data:=.seq its.toArray n }) (hf:f its.toArray=its'.toArray) (hv:aP ys its') (hz:ys.length≤sizeLine) :
  xq X pins σ (upd H l (.lst ys)) { s with heap:=s.heap.update l (Obj.mapSeq f),toks:=t' }:=by
 have q:=PySem.IsL.update e f;rw[hf]at q;refine I.write (x:=l) (e:=l) (by rw[hH];exact trivial) (.inl rfl) (fun b' u hb hu=>(Heap.get?_update_other s.heap (Obj.mapSeq f) (Ne.symm hb)).trans hu) ⟨_,q⟩ ?_;exact⟨hz,its',_,hv,q⟩
theorem xq.lnew{its:List Value}{t':Nat}(I:xq X pins σ H s)(hv:aP ys its)(hz:ys.length≤sizeLine) :
  xq X pins σ (upd H s.heap.objs.size (.lst ys)) { s with heap:=s.heap.push { cls:=.type "list",data:=.seq its.toArray },toks:=t' } :=
 I.laid (fun _ _ q=>Heap.get?_push_of_some _ q) (Nat.le_refl _) ⟨hz,its,0,hv,Heap.get?_push_size _ rfl⟩
theorem xq.fresh(I:xq X pins σ H s):H s.heap.objs.size=none:=I.hok.fresh (Nat.le_refl _)
theorem xq.lstM(I:xq X pins σ H s)(hH:H l=some (.lst xs)):xs.length≤sizeLine∧∃(its:List Value) (n:Nat),aP xs its∧xs.length=its.length∧s.heap.get? l=some { cls:=.type "list",data:=.seq its.toArray n }:=by
 obtain⟨z,its,n,r,e⟩:=I.hok l _ hH;exact⟨z,its,n,r,r.length,e⟩
theorem qR{n:Nat}(h:n≤sizeLine):Builtin.List.listTooLong n=false:=by
 unfold Builtin.List.listTooLong;exact decide_eq_false (by omega)
end
section
variable {X:Cx}
def sK:V->List V->Hp->VK->Prop:=fun x vs H Q=>∃l xs y,x = .ref l∧vs = [y]∧H l=some (.lst xs)∧xs.length<sizeLine∧Q .non (upd H l (.lst (xs++[y])))
theorem gL:MtM X "list.append" sK:=by
 intro pins s σ H x vs v us Q I rx rv h;obtain⟨l,xs,y,rfl,rfl,hH,hz,q⟩:=h;cases rx;obtain⟨u,rfl,ru⟩:=rv.one;obtain⟨z,its,n,r,hl,e⟩:=I.lstM hH;refine call_meets F.slot_list_append ⟨_,e,rfl⟩ F.entry_list_append (F.args_list_append_2 _ _) (PySem.list_append l its.toArray n u (by rw[List.size_toArray];omega)) ⟨e,?_⟩;refine⟨.non,_,I.lset (its':=its++[u]) hH e (by simp) (r.append (.cons ru .nil)) ?_,rfl,q⟩;rw[List.length_append,List.length_singleton];omega
def qI:V->List V->Hp->VK->Prop:=fun x vs H Q=>∃l xs,x = .ref l∧vs = []∧H l=some (.lst xs)∧Q .non (upd H l (.lst xs.reverse))
theorem m6:MtM X "list.reverse" qI:=by
 intro pins s σ H x vs v us Q I rx rv h;obtain⟨l,xs,rfl,rfl,hH,q⟩:=h;cases rx;have hus:=rv.zero;subst hus;obtain⟨z,its,n,r,hl,e⟩:=I.lstM hH;refine call_meets F.slot_list_reverse ⟨_,e,rfl⟩ F.entry_list_reverse (F.args_list_reverse_1 _) (AutoSeq1.list_reverse_list_0 l its.toArray n (by rw[List.size_toArray];omega)) ⟨e,?_⟩;refine⟨.non,_,I.lset (its':=its.reverse) hH e (by simp) r.reverse ?_,rfl,q⟩;rw[List.length_reverse];omega
def xf:R2:=fun x y H Q=>∃l b xs zs,x = .ref l∧y = .ref b∧H l=some (.lst xs)∧H b=some (.lst zs)∧xs.length+zs.length≤sizeLine∧∀p,H p=none->Q (.ref p) (upd H p (.lst (xs++zs)))
theorem vc:OpR X (binaryOp .Add) xf:=by
 intro pins s σ H x y v u Q I rx ry h;obtain⟨l,b,xs,zs,rfl,rfl,hH,hB,hz,q⟩:=h;cases rx;cases ry;obtain⟨z,its,n,r,hl,e⟩:=I.lstM hH;obtain⟨z2,its2,n2,r2,hl2,e2⟩:=I.lstM hB;refine PySem.P.add_list e e2 ?_ (by rw[List.size_toArray,List.size_toArray];omega);have ea:its.toArray++its2.toArray=(its++its2).toArray:=by simp
 rw[ea];exact⟨.ref _,_,I.lnew (t':=s.toks) (r.append r2) (by rw[List.length_append];omega),rfl,q _ I.fresh⟩
end
section
variable {prog:Program} {w:World} {A:Around} {E:Value->Shared->Prop} {s:Shared}
set_option maxRecDepth 100000 in
end
section
variable {X:Cx}
end
end L2
namespace Att
open PySem PySem.W PySem.Calls PyProof.Rows
theorem hO{P:Params}{h:Heap}:∀(ns:List Int) (vs:List Value),WellAll P h vs (ns.map WData.int)->IntsAre vs ns:=by
 intro ns
 induction ns with
 | nil =>
  intro vs w;rw[List.map_nil]at w;cases w;exact .nil
 | cons n ns ih =>
  intro vs w;rw[List.map_cons]at w;cases w with
  | cons a b =>
   cases a;exact .cons _ _ (ih _ b)
theorem o5{l:OpenLaw}{n:Nat}(hn:l.most=some n){P:Params}{h:Heap}{args:List WData}{vals:List Value}
  (hpre:l.row.toRowW.claim.pre args=true) (hwl:WellAll P h vals args) :
  ∃a vs ns,vals = [Value.ref a]∧args = [WData.list (ns.map WData.int)]∧h.get? a=some { cls:=.type "list",data:=.seq vs.toArray }∧IntsAre vs ns∧ns.length≤n:=by
 have hsh:WShape.hasAll [] args [.list .int]=true:=(pre_splitW hpre).1;have hc:l.pre.holds [] { args:=args }=true:=(pre_splitW hpre).2;obtain⟨d,r,rfl,h1,h2⟩:=hasAllW_cons hsh;obtain rfl:=hasAllW_nil h2;obtain⟨xs,rfl,h3⟩:=hasW_list h1;obtain⟨ns,rfl⟩:=items_int h3;have hlen:ns.length≤n:=by
  unfold OpenLaw.pre at hc;have h4:(WTm.not (.lt (.lit (.int (n:Int))) (.len (.arg 0)))).holds [] { args:=[.list (ns.map .int)] }=true:=by
   have h4:=(holds_andW hc).1;rw[hn]at h4;exact h4
  have h5:=condW_of h4 (w_not (w_lt w_lit (w_len_list (w_arg rfl))));rw[List.length_map]at h5;refine Nat.le_of_not_lt fun q=>?_;have q':(n:Int)<((ns.length:Nat):Int):=by omega
  first
   | (rw[decide_eq_true q']at h5;exact absurd h5 (by decide))
   | (simp at h5;omega)
 cases hwl with
 | cons w1 w2 =>
  cases w2;cases w1 with
  | list ho hall=>exact⟨_,_,ns,rfl,rfl,ho,hO ns _ hall,hlen⟩
theorem o6(l:OpenLaw)(args:List WData):l.row.toRowW.claim.post args (.bool true) args=true :=
 postW_of (r:=l.row.toRowW) (X:=(true == true))
  (show WShape.has [] (.bool true) .bool=true by first|rfl|decide|simp[WShape.has,WShape.arms,WShape.armsAll])
  (show(WTm.eq .res (.lit (.bool true))).value [] { args:=args,res:=some (.bool true),after:=args }=some (.bool (true == true)) from w_eq_bool (w_res rfl) w_lit) rfl
theorem attach_call{l:OpenLaw}{n:Nat}{q:Program}{loose:List Str}{XP:(Str->Option Value)->Heap->Prop}{YP:World->Heap->Prop}{d:DefRec}
  (hn:l.most=some n) (hdf:d.params.defaults = [])
  (call:∀(w:World) (s₀ s₁:Shared) (mg mb:Str->Option Value) (fa:Addr) (o:Obj) (pm cd doc:Value) (a:Addr) (vs:List Value) (ns:List Int),
   Ground q loose [] XP w s₀ mg mb s₁.heap->YP w s₁.heap ->
   s₁.heap.get? fa=some o->o.data = .func (docDef d.name d.params d.body d.scope pm cd doc)->s₁.heap.CodeRec cd d.name->mg d.name=some (.ref fa) ->
   s₁.heap.get? a=some { cls:=.type "list",data:=.seq vs.toArray }->IntsAre vs ns->ns.length≤n->s₁.gens = #[] ->
   codeAny (model l.prog w) callerA (.call (.ref fa) ⟨[.ref a],[]⟩) (fun r s'=>r = .ok (.ret (.bool true))∧OldK s₁.heap s'.heap∧s'.os=s₁.os∧AllBare s'.gens) s₁) :
  WalkO q loose XP YP l.row.toRowW d [] (fun f vs=>PySem.call f vs):=by
 intro w s₀ s₁ mg mb G Y fa o pm cd doc dV kV ho hd hcd hD hmg hg args vals as hpre hlay hrd hwl hlo;obtain rfl:dV = .none:=Dflts.none hD hdf;obtain rfl:kV = .none:=Dflts.noKw hD;obtain⟨a,vs,ns,rfl,rfl,hobj,hints,hlen⟩:=o5 hn hpre hwl;refine enter_call (codeAny_mono (call w s₀ s₁ mg mb fa o pm cd doc a vs ns G Y ho (fd_plain hd) hcd hmg hobj hints hlen hg) fun r s' hq=>?_);obtain⟨rfl,h2,h3,h4⟩:=hq;exact⟨.inl ⟨.bool true,.bool true,[],rfl,fun _=>rfl,.bool true,o6 l _,fun _=>⟨List.Pairwise.nil,fun _ hm=>(nomatch hm)⟩⟩,h2,h3,h4⟩
section
variable {prog:Program} {w:World} {A:Around} {E:Value->Shared->Prop} {s:Shared} {K:Frag}
end
end Att
namespace L2
open PySem PySem.Spec PyProof.Rows
theorem jH:∀{vs:List Value} {ns:List Int},IntsAre vs ns->aP (ns.map V.int) vs
 | _,_,.nil=>.nil
 | _,_,.cons n t h=>.cons ⟨t,rfl⟩ (jH h)
end L2
namespace L2
open PySem PySem.Spec PyProof.Rows
end L2
namespace L2
open PySem PySem.Spec PyProof.Rows
def a8(s:Stmt):Arguments:=match s with
 | .FunctionDef _ a _ _ _ _ _ _ _ _=>a
 | _=>{ posonlyargs:=[],args:=[],vararg:=none,kwonlyargs:=[],kw_defaults:=[],kwarg:=none,defaults:=[] }
def aJ(s:Stmt):List Stmt:=match s with
 | .FunctionDef _ _ b _ _ _ _ _ _ _=>b
 | _=>[]
def ai(s:Stmt):Scope:=match s with
 | .FunctionDef _ _ _ _ _ _ sc _ _ _=>sc
 | _=>{ kind:=.function,names:=[],isGenerator:=false,isCoroutine:=false }
abbrev CX0:CXT:=fun _ _ _ _ _ _=>False
abbrev E0:XK:=fun _ _ _=>False
theorem uu{X:Cx}:fP CX0 X E0:=fun _ _ _ _ _ _ _ h=>h.elim
section
variable {P:Program} {w:World} {K:W.Frag} {mg:Str->Option Value} {base:Heap}
end
theorem dY{A:Around}{k:Nat}(hr:xL k A):A.units+1<cLine:=Nat.lt_of_le_of_lt (Nat.add_le_add_left (by decide:1≤64) _) hr.units
theorem aT{n:Nat}(h:n≤1000):n<sizeLine:=Nat.lt_of_le_of_lt h (by decide)
section
variable {X:Cx}
theorem pv(i:Nat){x:Str}{pos:Pos}(hN:X.N[i]? = some x:=by rfl)(hv:Vis X.env.scope x:=by first|exact Or.inl rfl|exact Or.inr (Or.inl rfl)|exact Or.inr (Or.inr rfl))(hd:(x == ("__debug__" : Str))=false:=by decide)
  (hcd:(x == ("__classdict__" : Str))=false:=by decide):PE X (.Name x pos) (BV i):=qJ hN hv hd hcd
end
theorem fB{A B:Prop}(h:B):if false=true then A else B:=by
 rw[if_neg Bool.false_ne_true];exact h
theorem ju{A B:Prop}(h:A):if true=true then A else B:=by
 rw[if_pos rfl];exact h
def Same(H H':Hp):Prop:=∀b o,H b=some o->H' b=some o
theorem Same.refl(H:Hp):Same H H:=fun _ _ h=>h
theorem Same.trans{H H1 H2:Hp}(a:Same H H1)(b:Same H1 H2):Same H H2:=fun c o h=>b c o (a c o h)
theorem Same.free{H H':Hp}(e:Same H H'){l:Addr}(h:H' l=Option.none):H l=Option.none:=by
 cases q:H l with
 | none=>rfl
 | some o =>
  rw[e l o q]at h;cases h
theorem Same.seq{K:W.Frag}{H H':Hp}{a:Addr}{xs:List V}(e:Same H H')(h:SqL K H a xs):SqL K H' a xs:=by
 rcases h with(h|⟨o,h⟩)|h
 ·exact .inl (.inl (e _ _ h))
 ·exact .inl (.inr ⟨o,e _ _ h⟩)
 ·exact .inr h
end L2
end
section
set_option Elab.async false
set_option linter.all false
set_option maxRecDepth 100000
set_option maxHeartbeats 4000000
namespace Mth
theorem l5{a b:Int}(ha:0≤a)(hb:0<b):Int.gcd b (a % b)=Int.gcd a b:=by
 obtain⟨m,rfl⟩:=Int.eq_ofNat_of_zero_le ha;obtain⟨n,rfl⟩:=Int.eq_ofNat_of_zero_le (Int.le_of_lt hb);rw[<- Int.natCast_emod];show Nat.gcd (n:Int).natAbs ((m % n:Nat):Int).natAbs=Nat.gcd (m:Int).natAbs (n:Int).natAbs;simp only[Int.natAbs_natCast];rw[Nat.gcd_comm m n,Nat.gcd_comm n (m % n)];exact(Nat.gcd_rec n m).symm
theorem oE(a b:Int):Int.gcd (if a<0 then -a else a) b=Int.gcd a b:=by
 split
 ·exact Int.neg_gcd
 ·rfl
theorem rz(a b:Int):Int.gcd a (if b<0 then -b else b)=Int.gcd a b:=by
 rw[Int.gcd_comm,oE,Int.gcd_comm]
theorem gcd_zero{a:Int}(ha:0≤a):(Int.gcd a 0:Int)=a:=by
 rw[Int.gcd_zero];omega
structure AW(t b:Int):Prop where
 pos:1≤b
 one:Int.gcd t b=1
theorem gt{a b:Int}(h:b≠0):0<(Int.gcd a b:Int):=by
 have:=Int.gcd_pos_of_ne_zero_right a h;omega
theorem vA(a b:Int):a=a / (Int.gcd a b:Int)*(Int.gcd a b:Int):=(Int.ediv_mul_cancel (Int.gcd_dvd_left a b)).symm
theorem oJ(a b:Int):b=b / (Int.gcd a b:Int)*(Int.gcd a b:Int):=(Int.ediv_mul_cancel (Int.gcd_dvd_right a b)).symm
theorem tT{a b:Int}(hb:0<b):AW (a / (Int.gcd a b:Int)) (b / (Int.gcd a b:Int)):=by
 have hg:=gt (a:=a) (b:=b) (by omega);refine⟨?_,?_⟩
 ·have h1:=oJ a b
  have h2:0<b / (Int.gcd a b:Int):=Int.ediv_pos_of_pos_of_dvd hb (by omega) (Int.gcd_dvd_right a b);omega
 ·rw[Int.gcd_ediv (Int.gcd_dvd_left a b) (Int.gcd_dvd_right a b)]
  simp only[Int.natAbs_natCast];exact Nat.div_self (by omega)
theorem ow{t b t' b':Int}(h:AW t b)(e:t*b'=t'*b):b∣b':=by
 have h1:b.natAbs∣t.natAbs*b'.natAbs:=by
  rw[<- Int.natAbs_mul,e,Int.natAbs_mul];exact Nat.dvd_mul_left _ _
 have h2:Nat.Coprime b.natAbs t.natAbs:=by
  have:=h.one;unfold Nat.Coprime;rw[Nat.gcd_comm];exact this
 exact Int.natAbs_dvd_natAbs.mp (h2.dvd_of_dvd_mul_left h1)
theorem iT{t b t' b':Int}(h:AW t b)(h':AW t' b')(e:t*b'=t'*b):t=t'∧b=b':=by
 have d1:=ow h e;have d2:=ow h' e.symm;have p1:=h.pos;have p2:=h'.pos;have eb:b=b':=Int.le_antisymm (Int.le_of_dvd (by omega) d1) (Int.le_of_dvd (by omega) d2);subst eb;exact⟨Int.eq_of_mul_eq_mul_right (by omega) e,rfl⟩
structure ze(top bottom t b:Int):Prop where
 low:AW t b
 eq:top*b=t*bottom
theorem gu{a b:Int}(hb:0<b):ze a b (a / (Int.gcd a b:Int)) (b / (Int.gcd a b:Int)):=by
 refine⟨tT hb,?_⟩;have h1:=vA a b;have h2:=oJ a b;generalize a / (Int.gcd a b:Int)=x at *;generalize b / (Int.gcd a b:Int)=y at *;generalize (Int.gcd a b:Int)=g at *;subst h1 h2
 grind
theorem jV{a b:Int}(hb:b≠0)(d:Int)(hd:d=if b<0 then -(Int.gcd a b:Int) else (Int.gcd a b:Int)):ze a b (a.fdiv d) (b.fdiv d):=by
 have hg:=gt (a:=a) (b:=b) hb
 by_cases h:b<0
 ·rw[if_pos h]at hd
  have f:=gu (a:=-a) (b:=-b) (by omega);rw[Int.gcd_neg,Int.neg_gcd]at f;subst hd;have e1:a.fdiv (-(Int.gcd a b:Int)) = -a / (Int.gcd a b:Int):=by
   rw[<- Int.neg_fdiv_neg,Int.neg_neg];exact Int.fdiv_eq_ediv_of_nonneg _ (by omega)
  have e2:b.fdiv (-(Int.gcd a b:Int)) = -b / (Int.gcd a b:Int):=by
   rw[<- Int.neg_fdiv_neg,Int.neg_neg];exact Int.fdiv_eq_ediv_of_nonneg _ (by omega)
  rw[e1,e2];exact⟨f.low,by have:=f.eq;grind⟩
 ·rw[if_neg h]at hd
  subst hd;rw[Int.fdiv_eq_ediv_of_nonneg _ (by omega),Int.fdiv_eq_ediv_of_nonneg _ (by omega)];exact gu (by omega)
theorem l6{a b t u t' u':Int}(hb:b≠0)(h:ze a b t u)(h':ze a b t' u'):t=t'∧u=u':=by
 refine iT h.low h'.low ?_;have e1:=h.eq;have e2:=h'.eq;have:b*(t*u')=b*(t'*u):=by grind
 exact Int.eq_of_mul_eq_mul_left hb this
end Mth
namespace L2
open PySem PySem.Spec PyProof.Rows
abbrev au(i:Int):Nat:=Builtin.Int.intBits i
theorem cE{i:Int}{n:Nat}(h:i.natAbs<2^n):au i≤n:=intBits_le h
theorem cF{i:Int}{n:Nat}(h:au i≤n):i.natAbs<2^n:=by
 unfold au Builtin.Int.intBits at h
 by_cases h0:i=0
 ·subst h0
  exact Nat.pos_of_ne_zero (by simp)
 ·rw[if_neg (by simpa using h0)]at h
  have h1:i.natAbs≠0:=by omega
  exact(Nat.log2_lt h1).mp (by omega)
theorem d4{i j:Int}{n:Nat}(h:i.natAbs≤j.natAbs)(hj:au j≤n):au i≤n:=cE (Nat.lt_of_le_of_lt h (cF hj))
theorem bits_mul{i j:Int}{m n:Nat}(hi:au i≤m)(hj:au j≤n):au (i*j)≤m+n:=by
 refine cE ?_;rw[Int.natAbs_mul,Nat.pow_add];exact Nat.mul_lt_mul'' (cF hi) (cF hj)
theorem br{i j:Int}{n:Nat}(hi:au i≤n)(hj:au j≤n):au (i+j)≤n+1:=by
 refine cE ?_;have h1:=cF hi;have h2:=cF hj;have h3:(2:Nat)^(n+1)=2*2^n:=by rw[Nat.pow_succ,Nat.mul_comm]
 omega
theorem aL{i j:Int}{n:Nat}(hi:au i≤n)(hj:au j≤n):au (i - j)≤n+1:=by
 refine cE ?_;have h1:=cF hi;have h2:=cF hj;have h3:(2:Nat)^(n+1)=2*2^n:=by rw[Nat.pow_succ,Nat.mul_comm]
 omega
theorem bits_neg{i:Int}{n:Nat}(hi:au i≤n):au (-i)≤n:=d4 (by omega) hi
theorem bits_abs{i:Int}{n:Nat}(hi:au i≤n):au (if i<0 then -i else i)≤n:=d4 (by split <;> omega) hi
theorem j4{i j:Int}{n:Nat}(hj:0<j)(hi:au i≤n):au (i / j)≤n:=by
 refine d4 ?_ hi;exact Int.natAbs_ediv_le_natAbs i j
theorem fu{i j:Int}{n:Nat}(hi:au i≤n):au (i.fdiv j)≤n:=PySem.intBits_fdiv_le hi
theorem bQ{i b:Int}{n:Nat}(h0:0≤i)(h1:i≤b)(hb:au b≤n):au i≤n:=d4 (by omega) hb
theorem aw{i:Int}{m n:Nat}(h:au i≤m)(hm:m≤n):au i≤n:=Nat.le_trans h hm
section
variable {X:Cx} {pos:Pos}
def CM(i j:Int):Prop:=IntMulOk i j
theorem CM.b{i j:Int}{m n:Nat}(hi:au i≤m)(hj:au j≤n)(hm:m≤2^20)(hn:n≤2^20):CM i j:=IntMulOk.of_bits (Nat.le_trans hi hm) (Nat.le_trans hj hn)
theorem CM.l{i j:Int}(h:-(2^64)<i∧i<2^64):CM i j:=uj.ok (.inl h)
theorem CM.r{i j:Int}(h:-(2^64)<j∧j<2^64):CM i j:=uj.ok (.inr h)
theorem ay:OpR X (binaryOp .Mult) (rI CM fun i j=>.int (i*j)):=opI fun _ _ _ _ _ _ _ hc q=>mul_int q hc
def CD(_ j:Int):Prop:=0<j∧au j≤8000
theorem gq{j:Int}{n:Nat}(hj:j≠0)(h:au j≤n)(hn:n≤9000):j.natAbs.log2<9000:=by
 have h1:j.natAbs≠0:=by omega
 have h2:=(Nat.log2_lt h1).mpr (cF h);omega
theorem cM:OpR X (binaryOp .FloorDiv) (rI CD fun i j=>.int (i / j)):=opI fun i j _ _ _ _ _ hc q=>by
 have h1:(0:Int)<j:=hc.1;exact floordiv_int (by omega) (by rw[Int.fdiv_eq_ediv_of_nonneg i (by omega)];exact q) (.inl (PyProof.noPylong_of_log2 (gq (by omega) hc.2 (by decide))))
def CDZ(_ j:Int):Prop:=j≠0∧au j≤8000
theorem lK:OpR X (binaryOp .FloorDiv) (rI CDZ fun i j=>.int (i.fdiv j)):=opI fun i j _ _ _ _ _ hc q =>
 floordiv_int hc.1 q (.inl (PyProof.noPylong_of_log2 (gq hc.1 hc.2 (by decide))))
theorem pI:MtR X "int.bit_length" (fun x xs H Q=>∃i,x = .int i∧xs = []∧Q (.int ((au i:Nat):Int)) H):=by
 intro pins s σ H x xs v us Q I rx rs h;obtain⟨i,rfl,rfl,q⟩:=h;obtain⟨t,rfl⟩:=rx;cases rs;exact call_int_bit_length ⟨.int _,H,I.tok _,⟨_,rfl⟩,q⟩
end
theorem rW:bootBuiltins "int" = some (.type "int"):=by decide +kernel
theorem tZ:bootBuiltins "bool" = some (.type "bool"):=by decide +kernel
theorem mF:bootBuiltins "tuple" = some (.type "tuple"):=by decide +kernel
theorem kW:bootBuiltins "list" = some (.type "list"):=by decide +kernel
theorem dj:bootBuiltins "isinstance" = some (.builtin "isinstance"):=by decide +kernel
theorem kY:bootBuiltins "abs" = some (.builtin "abs"):=by decide +kernel
theorem bE:bootBuiltins "len" = some (.builtin "len"):=by decide +kernel
theorem fN:bootBuiltins "min" = some (.builtin "min"):=by decide +kernel
theorem kT:bootBuiltins "max" = some (.builtin "max"):=by decide +kernel
theorem oa{X:Cx}{x:Str}{T:String}{pos:Pos}(hm:X.mg x=none)(hv:bootBuiltins x=some (.type T))(hg:Gl X x:=by rfl)(hn:x≠"__name__":=by decide)(hd:(x == ("__debug__" : Str))=false:=by decide) :
  PE X (.Name x pos) (tC (.ty T)):=sP hg hm hv rfl hn hd
inductive Kn (H:Hp):V->String->Prop where
 | non:Kn H .non "NoneType"
 | bl (b:Bool):Kn H (.bl b) "bool"
 | int (i:Int):Kn H (.int i) "int"
 | str (x:Str):Kn H (.str x) "str"
 | lst {a:Addr} {xs:List V} (e:H a=some (.lst xs)):Kn H (.ref a) "list"
 | tup {a:Addr} {xs:List V} (e:H a=some (.tup xs)):Kn H (.ref a) "tuple"
 | dict {a:Addr} {kvs:List (Key×V)} (e:H a=some (.dK kvs)):Kn H (.ref a) "dict"
theorem Kn.ty{K:W.Frag}{H:Hp}{x:V}{t:String}(k:Kn H x t):Ao K H x (.type t):=by
 cases k with
 | non=>exact .non
 | bl b=>exact .bl b
 | int i=>exact .int i
 | str x=>exact .str x
 | lst e=>exact .lst e
 | tup e=>exact .tup e
 | dict e=>exact .dK e
def g7(t T:String):Bool:=t == T || (t == "bool" && T == "int")
def wR(T:String):Prop:=T = "int"∨T = "bool"∨T = "tuple"∨T = "list"∨T = "str"
theorem vi(K:W.Frag){H:Hp}{x:V}{t T:String}(k:Kn H x t)(n:wR T):W.kitOne K (.type t) (.type T)=some (g7 t T):=by
 rcases n with rfl|rfl|rfl|rfl|rfl <;> cases k <;> kernel_rfl
inductive De (xs:List V) (H:Hp) (Q:VK):Prop
 | mk (x:V) (t T:String) (e:xs = [x,.ty T]) (k:Kn H x t) (n:wR T) (q:Q (.bl (g7 t T)) H):De xs H Q
theorem dQ{X:Cx}:eY X (.builtin "isinstance") De:=by
 intro pins s σ H xs us Q I rs h;obtain⟨x,t,T,rfl,k,n,q⟩:=h;obtain⟨u,v,rfl,ru,rv⟩:=ql rs;cases (show v=Value.type T from rv);exact pO I ru k.ty (vi X.K k n) fun tk=>⟨.bl _,H,I.tok _,rfl,q⟩
structure Fn(P:Program)(w:World)(K:W.Frag)(mg:Str->Option Value)(base:Heap)(x:Str)(ps:List Str)(k:Nat)(sp:Sp):Prop where
 ex:∃(f:Addr) (fd:FuncData) (o:Obj),mg x=some (.ref f)∧W.keepIn K (.ref f)=true∧(∀us:List Value,us.length=ps.length->bindArgs fd ⟨us,[]⟩=pure (ps.zip us))∧(K.lookup f=some o∧o.data = .func fd)∧zU P w K mg base CX0 k f fd ps sp
theorem aA{X:Cx}{x:Str}{ps:List Str}{k:Nat}{sp:Sp}{p pos:Pos}{e:Expr}{es:List Expr}{t:TA}(F:Fn X.prog X.w X.K X.mg X.base x ps k sp)(hr:xL k X.A)(hg:Gl X x)(ha:PA X (e::es) t)
  (hdb:(x == ("__debug__" : Str))=false:=by decide) (he:starEach (e::es) X.env=(false,eval e X.env)::starEach es X.env:=by rfl) (hpl:(backTo pos (starEach es X.env)).any (·.1)=false:=by rfl) :
  PE X (.Call (.Name x p) (e::es) [] pos) (nR sp [] E0 t):=by
 obtain⟨f,fd,o,hm,hk,hb,_,G⟩:=F.ex;exact kx G hr hg hm hk (.all hb) .nil uu ha hdb he hpl
structure Df(K:W.Frag)(mg:Str->Option Value)(x:Str)(st:Stmt):Prop where
 ex:∃(f:Addr) (oc:Value) (od:Option Addr) (kV doc pm:Value) (an:Option Addr) (cdv ct:Value) (osl:Array (Option Value)),
  mg x=some (.ref f)∧K.lookup f=some ⟨oc,od,.func (W.fnOf x x (a8 st) (aJ st) (ai st) .none kV doc pm an cdv ct),osl⟩∧W.codeIn K cdv x=true∧W.keepIn K (.ref f)=true
theorem wM{K:W.Frag}{mg:Str->Option Value}{h:Heap}{x:Str}{st:Stmt}{f:Addr}{oc:Value}{od an:Option Addr}{osl:Array (Option Value)}{kV doc pm cdv ct:Value}(X:K.In h)(G:h.Ns mainGlobals mg)
  (a:W.nsIn K mainGlobals x=some (some (.ref f))) (l:K.lookup f=some ⟨oc,od,.func (W.fnOf x x (a8 st) (aJ st) (ai st) .none kV doc pm an cdv ct),osl⟩) (c:W.codeIn K cdv x=true) (k:W.keepIn K (.ref f)=true) :
  Df K mg x st:=⟨⟨f,oc,od,kV,doc,pm,an,cdv,ct,osl,W.mg_of X G a,l,c,k⟩⟩
theorem Df.fn{P:Program}{w:World}{K:W.Frag}{mg:Str->Option Value}{base:Heap}{x:Str}{st:Stmt}{N ps:List Str}{k:Nat}{sp:Sp}(D:Df K mg x st)(S:xo N ps (ai st))
  (hbind:∀(kV doc pm:Value) (an:Option Addr) (cdv ct:Value) (us:List Value),us.length=ps.length->bindArgs (W.fnOf x x (a8 st) (aJ st) (ai st) .none kV doc pm an cdv ct) ⟨us,[]⟩=pure (ps.zip us))
  (len:∀vs H Q E,sp vs H Q E->vs.length=ps.length)
  (hbody:∀(f:Addr) (cdv:Value) (A:Around) (outer:List Env) (s:Shared) (H:Hp) (vs:List V) (Q:VK) (E:XK),xL k (A.deeper (envOfC x (ai st) s.heap.objs.size f cdv))->sp vs H Q E ->
   ∃t,PSs (a7 CX0 P w K mg base N x (ai st) f cdv A outer s H E).nox (aJ st) t∧t { nx:=fun _ H'=>Q .non H',rt:=Q } (d8 N vs) H):Fn P w K mg base x ps (k+1) sp:=by
 obtain⟨f,oc,od,kV,doc,pm,an,cdv,ct,osl,hm,lk,hcd,hk⟩:=D.ex;refine⟨⟨f,_,_,hm,hk,hbind kV doc pm an cdv ct,⟨lk,rfl⟩,ma lk hcd S len fun A outer s H vs Q E hr hsp=>?_⟩⟩;obtain⟨t,h,q⟩:=hbody f cdv A outer s H vs Q E hr hsp;exact⟨t,h.nox,q⟩
theorem vh{P:Program}{w:World}{K:W.Frag}{mg:Str->Option Value}{fa:Addr}{k:Nat}{sp:Sp}(h:Heap)(hfa:mg "law" = some (.ref fa))(F:∀base:Heap,Fn P w K mg base "law" ["script"] k sp) :
  ∃fd:FuncData,(∀(s:Shared) (v:Value),BindsTo s fd ⟨[v],[]⟩ [("script",v)])∧∀base:Heap,K.In base->base.Ns mainGlobals mg->zU P w K mg base CX0 k fa fd ["script"] sp:=by
 obtain⟨f,fd,o,hm,_,hb,⟨hl,hd⟩,_⟩:=(F h).ex;rw[hfa]at hm;cases hm;refine⟨fd,fun s v=>.of_eq (hb [v] rfl),fun base _ _=>?_⟩;obtain⟨f',fd',o',hm',_,_,⟨hl',hd'⟩,G⟩:=(F base).ex;rw[hfa]at hm';cases hm';rw[hl]at hl';cases hl';rw[hd]at hd';cases hd';exact G
theorem Same.new{H:Hp}{p:Addr}{o:HO}(h:H p=none):Same H (upd H p o):=fun b o' e=>by
 rw[aM (aV e h)];exact e
theorem aR{c:Bool}{A B:Prop}(h1:c=true->A)(h2:c=false->B):if c=true then A else B:=by
 cases c with
 | true=>exact ju (h1 rfl)
 | false=>exact fB (h2 rfl)
theorem iX{b:Bool}{A B:Prop}(hb:b=false)(h:B):if b=true then A else B:=by
 subst hb;exact fB h
theorem iw{b:Bool}{A B:Prop}(hb:b=true)(h:A):if b=true then A else B:=by
 subst hb;exact ju h
def kG:V->Bool
 | .int _=>true
 | _=>false
end L2
namespace Sp1
open PySem PySem.Spec L2 Mth
inductive AG (vs:List V) (H:Hp) (Q:VK) (x_3:XK):Prop
 | mk:∀x t,(vs = [x])->(Kn H x t)->(Q (.bl (kG x)) H)->AG vs H Q x_3
inductive BN (vs:List V) (H:Hp) (Q:VK) (x_3:XK):Prop
 | mk:∀a b:Int,(vs = [.int a,.int b])->(Q (.int (Int.gcd a b:Int)) H)->BN vs H Q x_3
def lowB(a b:Int):Bool:=decide (1≤b) && decide (Int.gcd a b=1)
def jt:List V->Bool
 | [.int a,.int b]=>lowB a b
 | _=>false
def g8(H:Hp):V->Bool
 | .ref p=>match H p with
  | some (.tup xs)=>jt xs
  | _=>false
 | _=>false
structure Bo(H:Hp)(x:V):Prop where
 kn:∃t,Kn H x t
 parts:∀p xs,x = .ref p->H p=some (.tup xs)->∀y∈xs,∃t,Kn H y t
inductive Cb (vs:List V) (H:Hp) (Q:VK) (x_3:XK):Prop
 | mk:∀x,(vs = [x])->(Bo H x)->(Q (.bl (g8 H x)) H)->Cb vs H Q x_3
theorem jG{H:Hp}{x:V}{t:String}(k:Kn H x t):(g7 t "int" = true->(!g7 t "bool")=kG x)∧(g7 t "int" = false->kG x=false):=by
 cases k with
 | non=>exact⟨fun h=>absurd h (by decide),fun _=>rfl⟩
 | bl b=>exact⟨fun _=>(show(!g7 "bool" "bool")=false by decide),fun h=>absurd h (by decide)⟩
 | int i=>exact⟨fun _=>(show(!g7 "int" "bool")=true by decide),fun h=>absurd h (by decide)⟩
 | str x=>exact⟨fun h=>absurd h (by decide),fun _=>rfl⟩
 | lst e=>exact⟨fun h=>absurd h (by decide),fun _=>rfl⟩
 | tup e=>exact⟨fun h=>absurd h (by decide),fun _=>rfl⟩
 | dict e=>exact⟨fun h=>absurd h (by decide),fun _=>rfl⟩
theorem jn(a:Int):0≤(if a<0 then -a else a):=by split <;> omega
theorem Kn.cases_int{H:Hp}{y:V}{t:String}(k:Kn H y t):(∃a,y = .int a∧t = "int")∨((∀a,y≠.int a)∧kG y=false):=by
 cases k with
 | int a=>exact .inl ⟨a,rfl,rfl⟩
 | non=>exact .inr ⟨fun a e=>(nomatch e),rfl⟩
 | bl b=>exact .inr ⟨fun a e=>(nomatch e),rfl⟩
 | str x=>exact .inr ⟨fun a e=>(nomatch e),rfl⟩
 | lst e=>exact .inr ⟨fun a e=>(nomatch e),rfl⟩
 | tup e=>exact .inr ⟨fun a e=>(nomatch e),rfl⟩
 | dict e=>exact .inr ⟨fun a e=>(nomatch e),rfl⟩
theorem Kn.cases_tup{H:Hp}{y:V}{t:String}(k:Kn H y t):(∃p xs,y = .ref p∧H p=some (.tup xs)∧t = "tuple")∨(g8 H y=false∧g7 t "tuple" = false):=by
 cases k with
 | tup e=>exact .inl ⟨_,_,rfl,e,rfl⟩
 | non=>exact .inr ⟨rfl,by decide⟩
 | bl b=>exact .inr ⟨rfl,by decide⟩
 | str x=>exact .inr ⟨rfl,by decide⟩
 | int a=>exact .inr ⟨rfl,by decide⟩
 | lst e=>exact .inr ⟨by simp only[g8,e],by decide⟩
 | dict e=>exact .inr ⟨by simp only[g8,e],by decide⟩
theorem qX{H:Hp}{p:Addr}{xs:List V}(e:H p=some (.tup xs)):g8 H (.ref p)=jt xs:=by simp only[g8,e]
theorem q9{xs:List V}(h:xs.length≠2):jt xs=false:=by
 unfold jt
 split
 ·exact absurd rfl h
 ·rfl
theorem rf{y z:V}(h:∀a,y≠.int a):jt [y,z]=false:=by
 unfold jt
 split
 ·rename_i a b e
  cases e;exact absurd rfl (h a)
 ·rfl
theorem qZ{y z:V}(h:∀a,z≠.int a):jt [y,z]=false:=by
 unfold jt
 split
 ·rename_i a b e
  cases e;exact absurd rfl (h b)
 ·rfl
theorem sz{n:Nat}(h:n≤1000):n≤sizeLine:=Nat.le_of_lt (aT h)
theorem grow{H:Hp}{p:Addr}{o:HO}(h:H p=none):∃H1,upd H p o=H1∧Same H H1∧H1 p=some o:=⟨_,rfl,Same.new h,upd_same⟩
theorem ue{α:Type}{xs:List α}{k:Int}(h0:0≤k)(h1:k<(xs.length:Int)):∃v,atI xs k=some v∧v∈xs:=by
 have hk:k.toNat<xs.length:=by omega
 have ek:k=((k.toNat:Nat):Int):=by omega
 have q:=dB (xs:=xs) (j:=k.toNat) (List.getElem?_eq_getElem hk);rw[<- ek]at q;exact⟨xs[k.toNat],q,List.getElem_mem hk⟩
theorem th_tup{H:Hp}{p:Addr}{xs:List V}(e:H p=some (.tup xs))(h:∀y∈xs,∃t,Kn H y t):Bo H (.ref p):=⟨⟨_,.tup e⟩,fun p' ys e1 e2=>by
 cases e1;rw[e]at e2;cases e2;exact h⟩
theorem jU{a b:Int}{n:Nat}(hb:b≠0)(h:au b≤n):au (Int.gcd a b:Int)≤n:=by
 refine d4 ?_ h;have h1:(Int.gcd a b)∣b.natAbs:=Int.gcd_dvd_natAbs_right a b;have h2:=Nat.le_of_dvd (by omega) h1;omega
end Sp1
namespace L2
open PySem PySem.Spec PyProof.Rows
theorem rZ(ns ms:List Int):((List.range (min ns.length ms.length)).all (fun j=>decide (ns[j]? = ms[j]?)) && ns.length == ms.length)=decide (ns=ms):=by
 rw[Bool.eq_iff_iff];simp only[Bool.and_eq_true,List.all_eq_true,List.mem_range,decide_eq_true_eq,beq_iff_eq];constructor
 ·rintro⟨h1,h2⟩
  refine List.ext_getElem? fun j=>?_
  by_cases hj:j<ns.length
  ·exact h1 j (by omega)
  ·rw[List.getElem?_eq_none (by omega),List.getElem?_eq_none (by omega)]
 ·rintro rfl
  exact⟨fun _ _=>rfl,rfl⟩
theorem qm{ns:List Int}{us:List Value}{j:Nat}(r:aP (ns.map V.int) us)(h:j<us.length):∃a,ns[j]? = some a∧aS (.int a) us[j]:=by
 have hl:=r.length;rw[List.length_map]at hl;have hj:j<ns.length:=by omega
 obtain⟨u,e,q⟩:=r.get (i:=j) (x:=.int ns[j]) (by rw[List.getElem?_map,List.getElem?_eq_getElem hj];rfl);rw[List.getElem?_eq_getElem h]at e;cases e;exact⟨ns[j],List.getElem?_eq_getElem hj,q⟩
section
variable {X:Cx}
inductive C8 (K:W.Frag) (neg:Bool) (x:V) (y:V) (H:Hp) (Q:VK):Prop
 | mk:∀(p q:Addr) (ns ms:List Int),(x = .ref p)->(y = .ref q)->(SqT K H p (ns.map V.int))->(SqT K H q (ms.map V.int))->(Q (.bl (if neg then !decide (ns=ms) else decide (ns=ms))) H)->C8 K neg x y H Q
theorem rj{A:Around}{s:Shared}{ns ms:List Int}{us vs:List Value}(r:aP (ns.map V.int) us)(r':aP (ms.map V.int) vs)(j:Nat)(h1:j<us.toArray.size)(h2:j<vs.toArray.size) :
  SeqAt.EqAt A s us.toArray[j] vs.toArray[j] (decide (ns[j]? = ms[j]?)):=by
 rw[List.size_toArray]at h1 h2;obtain⟨a,ea,ra⟩:=qm r h1;obtain⟨b,eb,rb⟩:=qm r' h2;have q:=vy (A:=A) (s:=s) ra rb rfl rfl;have e:eqV (.int a) (.int b)=decide (ns[j]? = ms[j]?):=by
  rw[ea,eb];show(a == b)=decide (some a=some b);rw[Bool.eq_iff_iff];simp
 rw[e]at q;exact q
theorem qQ(hu:X.A.units<cLine):OpR X (compareOp .Eq) (C8 X.K false):=by
 intro pins s σ H x y v u Q I rx ry h;obtain⟨p,q,ns,ms,rfl,rfl,hp,hq,k⟩:=h;cases rx;cases ry;obtain⟨its,r,pl,_⟩:=I.tuple hp;obtain⟨jts,r',pl',_⟩:=I.tuple hq;refine SeqAt.eq_tupleAt pl pl' hu (rj r r') ⟨.bl _,H,I,rfl,?_⟩;have e1:=r.length;have e2:=r'.length;rw[List.length_map]at e1 e2;rw[List.size_toArray,List.size_toArray,<- e1,<- e2,rZ];exact k
end
end L2
namespace L2
open PySem PySem.Spec PyProof.Rows
section
variable {prog:Program} {w:World} {A:Around} {E:Value->Shared->Prop}
end
end L2
namespace L2
open PySem PySem.Spec PyProof.Rows
theorem bI.has{P:Program}{w:World}{H:Hp}{h:Heap}{a:Addr}{o:HO}(x:bI P w H h a o):∃ob,h.get? a=some ob:=by
 cases o with
 | lst xs=>obtain⟨_,_,_,_,e⟩:=x;exact⟨_,e⟩
 | tup xs=>obtain⟨_,_,_,ob,e,_⟩:=x;exact⟨_,e⟩
 | dK kvs=>obtain⟨_,_,_,_,ob,_,_,e,_⟩:=x;exact⟨_,e⟩
 | dT kvs=>obtain⟨_,_,_,_,ob,_,_,e,_⟩:=x;exact⟨_,e⟩
 | set S n=>obtain⟨ob,_,_,_,e,_⟩:=x;exact⟨_,e⟩
 | ins C dx fs=>obtain⟨_,_,_,e,_⟩:=x;exact⟨_,e⟩
 | own y=>obtain⟨ob,e⟩:=x;exact⟨_,e⟩
 | xd fs=>obtain⟨_,⟨od,_,_,e,_⟩,_⟩:=x;exact⟨_,e⟩
 | rng lo hi=>obtain⟨_,_,_,e⟩:=x;exact⟨_,e⟩
 | frz ob u=>obtain⟨e,_⟩:=x;exact⟨_,e⟩
 | tbl ps=>exact⟨_,(show h.get? a=some _ from x)⟩
 | met f y=>exact⟨_,(show h.get? a=some _ from x)⟩
 | ext φ=>obtain⟨_,⟨ob,e⟩,_⟩:=x;exact⟨_,e⟩
structure Do(B:Heap)(fs:List Addr)(H':Hp)(h:Heap):Prop where
 tr:∀b o,H' b=some o->∃ob,B.get? b=some ob
 old:∀b o,h.get? b=some o->b∉fs->∃ob,B.get? b=some ob
section
variable {P:Program} {w:World} {fs fs':List Addr} {H H1 H':Hp} {h h1 h2 B:Heap}
theorem Un.fly(un:Un fs [] H H' h h1)(big:Do B fs H' h)(st1:B.StaysIn h1)(st2:B.StaysIn h2)(sl:h1.UpToSlots h2)
  (fr:∀b∈fs,H b=none∧∀o,h1.get? b=some o->∀vs,o.data≠.fields vs):Un fs [] H H' h h2 where
 keep:=fun b o e n hb hx=>by
  have e1:=un.keep b o e n hb hx;obtain⟨ob,eb⟩:=big.old b o e hb;have e2:=st1 b ob eb;rw[e1]at e2;cases e2;exact st2 b _ eb
 slot:=fun b o e n hb hx=>by
  obtain⟨s1,e1⟩:=un.slot b o e n hb hx;obtain⟨s2,e2⟩:=sl b _ e1 ((fr b hb).2 _ e1);exact⟨s2,e2⟩
 free:=un.free
 there:=fun b o e hx=>by
  by_cases hb:b∈fs
  ·obtain⟨s1,e1⟩:=un.slot b o e (fr b hb).1 hb hx
   obtain⟨s2,e2⟩:=sl b _ e1 ((fr b hb).2 _ e1);exact⟨_,e2⟩
  ·obtain⟨ob,eb⟩:=big.old b o e hb
   exact⟨_,st2 b ob eb⟩
 tups:=un.tups
 frzs:=un.frzs
 tbls:=un.tbls
theorem HOk.fly(hok:HOk P w H' h1)(big:Do B fs H' h)(st1:B.StaysIn h1)(st2:B.StaysIn h2):HOk P w H' h2:=fun a o e=>by
 refine(hok a o e).stay (fun b u hb q=>?_) (fun _ q=>q) fun _ _ q=>q;have hb':∃ob,B.get? b=some ob:=by
  rcases hb with z|z
  ·rw[z]
   exact big.tr a o e
  ·exact big.tr b _ z
 obtain⟨ob,eb⟩:=hb';have e2:=st1 b ob eb;rw[q]at e2;cases e2;exact st2 b _ eb
theorem Un.shed(a:Un fs [] H H1 h h1)(b:Un fs' [] H1 H' h1 h2)(sub:∀x∈fs,x∈fs')(out:∀x o,h.get? x=some o->x∈fs'->x∈fs):Un fs [] H H' h h2 where
 keep:=fun x o e n hx hn=>b.keep x o (a.keep x o e n hx hn) (a.free x o e n hn) (fun z=>hx (out x o e z)) hn
 slot:=fun x o e n hx hn=>by
  obtain⟨s1,e1⟩:=a.slot x o e n hx hn;obtain⟨s2,e2⟩:=b.slot x _ e1 (a.free x o e n hn) (sub x hx) hn;exact⟨s2,e2⟩
 free:=fun x o e n hn=>by
  obtain⟨o1,e1⟩:=a.there x o e hn;exact b.free x o1 e1 (a.free x o e n hn) hn
 there:=fun x o e hn=>by
  obtain⟨o1,e1⟩:=a.there x o e hn;exact b.there x o1 e1 hn
 tups:=fun x xs e=>b.tups x xs (a.tups x xs e)
 frzs:=fun x o xs e=>b.frzs x o xs (a.frzs x o xs e)
 tbls:=fun x ps e=>by
  obtain⟨m1,e1⟩:=a.tbls x ps e;obtain⟨m2,e2⟩:=b.tbls x _ e1;exact⟨m1++m2,by rw[e2,Array.append_assoc]⟩
end
def CXE(P:Program)(w:World):CXT:=fun outer H s E e s'=>∃(ea t:Addr) (cls:Value) (H':Hp) (B:Heap),
 e = .ref ea∧s'.os=s.os∧AllBare s'.gens∧Un (frs outer) [] H H' s.heap s'.heap∧HOk P w H' s'.heap∧Heap.FlyingW B outer ea cls (.ref t) s'.heap∧Do B (frs outer) H' s.heap∧E cls none H'
section
variable {P:Program} {w:World} {K:W.Frag} {mg:Str->Option Value} {base:Heap} {N:List Str} {qual:Str} {scope:Scope} {f:Addr} {cdv:Value} {A:Around} {outer:List Env} {s₀:Shared} {H₀:Hp} {E:XK}
theorem rD{env:Env}{L:Addr}(hf:env.frame=some L)(l:List Env):frs (env::l)=L::frs l:=by
 unfold frs;rw[List.filterMap_cons,hf]
theorem uT{pins:List (Addr×Obj)}{σ:St}{H:Hp}{s:Shared}{h':Heap}{e:Addr}{cls:Value}{vs:List Value}(I:xq (a7 (CXE P w) P w K mg base N qual scope f cdv A outer s₀ H₀ E) pins σ H s)
  (hx:Heap.MadeExcOf s.heap h' e cls vs) (q:E cls none H):(a7 (CXE P w) P w K mg base N qual scope f cdv A outer s₀ H₀ E).xe (.ref e) { s with heap:=h' }:=by
 have hin:∀env∈(a7 (CXE P w) P w K mg base N qual scope f cdv A outer s₀ H₀ E).stack,∀a,env.frame=some a->a∈frs (a7 (CXE P w) P w K mg base N qual scope f cdv A outer s₀ H₀ E).stack :=
  fun env he a ha=>List.mem_filterMap.mpr ⟨env,he,ha⟩
 have neL:∀b o,s₀.heap.get? b=some o->b∉frs outer->b∉frs (a7 (CXE P w) P w K mg base N qual scope f cdv A outer s₀ H₀ E).stack:=fun b o eb hb hm=>by
  rcases List.mem_cons.mp (I.stkSub b hm) with z|z
  ·exact absurd z (Nat.ne_of_lt (Nat.lt_of_lt_of_le (Heap.lt_size eb) I.ok.above))
  ·exact hb z
 refine wpAny_leaves_madeW (base:=W.hideAll s.heap (frs (a7 (CXE P w) P w K mg base N qual scope f cdv A outer s₀ H₀ E).stack)) (h:=s.heap) (L:=s₀.heap.objs.size) I.ok.frames rfl (fun b o z=>W.of_hideAll _ z) (W.funFrames_hide I.stack hin) hx fun h'' t fl _ _ up=>?_;have big:Do (W.hideAll s.heap (frs (a7 (CXE P w) P w K mg base N qual scope f cdv A outer s₀ H₀ E).stack)) (frs outer) H s₀.heap:=by
  refine⟨fun b o eb=>?_,fun b o eb hb=>?_⟩
  ·obtain⟨ob,z⟩:=(I.hok b o eb).has
   refine⟨ob,W.hideAll_get _ z fun hm=>?_⟩;rw[I.stkFree b hm]at eb;cases eb
  ·obtain⟨ob,z⟩:=I.base.there b o eb (by intro z;cases z)
   exact⟨ob,W.hideAll_get _ z (neL b o eb hb)⟩
 have st1:(W.hideAll s.heap (frs (a7 (CXE P w) P w K mg base N qual scope f cdv A outer s₀ H₀ E).stack)).StaysIn s.heap:=fun b o z=>W.of_hideAll _ z;have sl:s.heap.UpToSlots h'':=(Heap.UpToSlots.of_keeps hx.keeps).trans up;exact⟨e,t,cls,H,_,rfl,I.os,I.bare,Un.fly I.base big st1 fl.1 sl fun b hb=>⟨I.ok.frf b hb,fun o eo=>by
   obtain⟨_,o',eo',nf⟩:=I.funs.mem hb;rw[eo]at eo';cases eo';exact nf⟩,HOk.fly I.hok big st1 fl.1,fl,big,q⟩
theorem sQ{E1:XK}(hE:∀c o H',E1 c o H'->E c o H'):fP (CXE P w) (a7 (CXE P w) P w K mg base N qual scope f cdv A outer s₀ H₀ E) E1:=by
 intro pins σ H s e s' I h;obtain⟨ea,t,cls,H',B,rfl,os,bare,un,hok,fl,big,q⟩:=h;refine wpAny_leaves_onW (L:=s₀.heap.objs.size) I.ok.frames rfl fl fun h'' fl' up=>?_;have out:∀x o,s₀.heap.get? x=some o->x∈frs (a7 (CXE P w) P w K mg base N qual scope f cdv A outer s₀ H₀ E).stack->x∈frs outer:=fun x o ex hm=>by
  rcases List.mem_cons.mp (I.stkSub x hm) with z|z
  ·exact absurd z (Nat.ne_of_lt (Nat.lt_of_lt_of_le (Heap.lt_size ex) I.ok.above))
  ·exact z
 have sub:∀x∈frs outer,x∈frs (a7 (CXE P w) P w K mg base N qual scope f cdv A outer s₀ H₀ E).stack:=fun x hx=>by
  show x∈frs (_::outer);rw[rD (L:=s₀.heap.objs.size) rfl];exact List.mem_cons_of_mem _ hx
 have un1:Un (frs outer) [] H₀ H' s₀.heap s'.heap:=Un.shed I.base un sub out;have big1:Do B (frs outer) H' s₀.heap:=by
  refine⟨big.tr,fun b o eb hb=>?_⟩;obtain⟨ob,z⟩:=I.base.there b o eb (by intro z;cases z);exact big.old b ob z fun hm=>hb (out b o eb hm)
 refine⟨ea,t,cls,H',B,rfl,os.trans I.os,bare,Un.fly un1 big1 fl.1 fl'.1 up fun b hb=>⟨I.ok.frf b hb,fun o eo=>?_⟩,HOk.fly hok big1 fl.1 fl'.1,fl',big1,hE _ _ _ q⟩;obtain⟨_,o',eo',nf⟩:=fl'.2.2.1.mem hb;obtain⟨_,o2,eo2,nf2⟩:=fl.2.2.1.mem (sub b hb);rw[eo]at eo2;cases eo2;exact nf2
end
structure AS(K:W.Frag)(mg:Str->Option Value)(x:Str)(C:Addr):Prop where
 bound:mg x=some (.ref C)
 obj:∀h:Heap,K.In h->∃bm N nm qn bs hd sn sub ab col dd k0 k1 k2 k3 k5 mN,h.get? C=some (excClassObj nm qn C N bs bm hd sn sub ab col dd k0 k1 k2 k3 k5 "ValueError.__new__")∧h.Ns N mN∧mN "__init__" = none ∧
  OwnTail h [.type "ValueError",.type "Exception",.type "BaseException",.type "object"] bm
theorem tS{K:W.Frag}{h:Heap}{C:Addr}{bmB:List Value}{newId:String}(X:K.In h)(q:W.excIn K C bmB newId=true) :
  ∃bm N nm qn bs hd sn sub ab col dd k0 k1 k2 k3 k5 mN,h.get? C=some (excClassObj nm qn C N bs bm hd sn sub ab col dd k0 k1 k2 k3 k5 newId)∧h.Ns N mN∧mN "__init__" = none∧OwnTail h bmB bm:=by
 unfold W.excIn at q
 split at q
 next dct cl sls look =>
  split at q
  next C2 bms a0 a1 a2 a3 nid a5 hmro hsls =>
   simp only[Bool.not_eq_true',beq_iff_eq,Bool.and_eq_true]at q;obtain⟨⟨⟨⟨⟨q1,q2⟩,q3⟩,q4⟩,q5⟩,q6⟩:=q;subst q1 q2;obtain⟨c1,c2,c3,c4,c5,c6,c7,c8,c9,c10,c11⟩:=cl;dsimp only at hmro q3 q5 q6;subst hmro q3;obtain⟨lst⟩:=sls;simp only at hsls;subst hsls;exact⟨bms,c4,c1,c5,c2,c6,c7,c8,c9,c10,dct,a0,a1,a2,a3,a5,_,X _ _ look,.of_isNs (W.isNs_of_in X q5),W.nsMap_none_of_in X q5 q6,W.tail_of_in X q4⟩
  next=>cases q
 next=>cases q
theorem vx{K:W.Frag}{mg:Str->Option Value}{h:Heap}{x:Str}{C:Addr}(X:K.In h)(G:h.Ns mainGlobals mg)(a:W.nsIn K mainGlobals x=some (some (.ref C)))
  (q:W.excIn K C [.type "ValueError",.type "Exception",.type "BaseException",.type "object"] "ValueError.__new__" = true):AS K mg x C:=⟨W.mg_of X G a,fun _ Y=>tS Y q⟩
section
variable {P:Program} {w:World} {K:W.Frag} {mg:Str->Option Value} {base:Heap} {N:List Str} {qual:Str} {scope:Scope} {f:Addr} {cdv:Value} {A:Around} {outer:List Env} {s₀:Shared} {H₀:Hp} {E:XK}
theorem ge{x:Str}{C:Addr}{np cpos pos:Pos}(O:AS K mg x C)(hg:Gl (a7 (CXE P w) P w K mg base N qual scope f cdv A outer s₀ H₀ E) x)(hdb:(x == ("__debug__" : Str))=false:=by decide) :
  PS (a7 (CXE P w) P w K mg base N qual scope f cdv A outer s₀ H₀ E) (.Raise (some (.Call (.Name x np) [] [] cpos)) none pos) (fun _ _ H=>E (.ref C) none H):=by
 intro pins s σ H D I h;obtain⟨bm,N',nm,qn,bs,hd,sn,sub,ab,col,dd,k0,k1,k2,k3,k5,mN,hC,hN,hni,T⟩:=O.obj s.heap I.kIn;refine wpAny_Raise_call_subT (C:=C) (nm:=nm) (q:=qn) (N:=N') (bs:=bs) (bm:=bm) (hdct:=hd) (sn:=sn) (sub:=sub) (ab:=ab) (col:=col) (dd:=dd) (k0:=k0) (k1:=k1) (k2:=k2) (k3:=k3) (k5:=k5) PySem.F.excBase_ValueError (mN:=mN) (T.hasType (by decide +kernel)) (I.ok.hd rfl) rfl hni (gs I hg O.bound ⟨rfl,?_⟩ hdb);exact evalArgs_empty ⟨rfl,Nat.zero_le _,hC,hN,T,fun h' e hx=>uT I hx h⟩
end
section
variable {X:Cx}
end
structure Fx(P:Program)(w:World)(K:W.Frag)(mg:Str->Option Value)(base:Heap)(x:Str)(ps:List Str)(k:Nat)(ds:List V)(sp:Sp):Prop where
 ex:∃(f:Addr) (fd:FuncData) (its:List Value),mg x=some (.ref f)∧W.keepIn K (.ref f)=true∧ej K fd ps []∧ej K fd ps its∧aP ds its∧zU P w K mg base (CXE P w) k f fd ps sp
structure Dc(K:W.Frag)(mg:Str->Option Value)(x:Str)(st:Stmt)(ds:List V):Prop where
 ex:∃(f T:Addr) (oT:Obj) (n:Nat) (its:List Value) (oc:Value) (od:Option Addr) (kV doc pm:Value) (an:Option Addr) (cdv ct:Value) (osl:Array (Option Value)),
  mg x=some (.ref f)∧K.lookup f=some ⟨oc,od,.func (W.fnOf x x (a8 st) (aJ st) (ai st) (.ref T) kV doc pm an cdv ct),osl⟩∧W.codeIn K cdv x=true∧W.keepIn K (.ref f)=true∧K.lookup T=some oT∧oT.data = .seq its.toArray n∧aP ds its
theorem vC{K:W.Frag}{mg:Str->Option Value}{h:Heap}{x:Str}{st:Stmt}{ds:List V}{its:List Value}{f T:Addr}{oT:Obj}{n:Nat}{oc:Value}{od an:Option Addr}{osl:Array (Option Value)}{kV doc pm cdv ct:Value}(X:K.In h)(G:h.Ns mainGlobals mg)
  (a:W.nsIn K mainGlobals x=some (some (.ref f))) (l:K.lookup f=some ⟨oc,od,.func (W.fnOf x x (a8 st) (aJ st) (ai st) (.ref T) kV doc pm an cdv ct),osl⟩) (c:W.codeIn K cdv x=true) (k:W.keepIn K (.ref f)=true)
  (t:K.lookup T=some oT) (d:oT.data = .seq its.toArray n) (v:aP ds its):Dc K mg x st ds:=⟨⟨f,T,oT,n,its,oc,od,kV,doc,pm,an,cdv,ct,osl,W.mg_of X G a,l,c,k,t,d,v⟩⟩
theorem Dc.fx{P:Program}{w:World}{K:W.Frag}{mg:Str->Option Value}{base:Heap}{x:Str}{st:Stmt}{ds:List V}{N ps:List Str}{k:Nat}{sp:Sp}(D:Dc K mg x st ds)(S:xo N ps (ai st))
  (hb:∀(T:Addr) (kV doc pm:Value) (an:Option Addr) (cdv ct:Value) (us its:List Value) (oT:Obj) (n:Nat) (s:Shared),aP ds its->us.length=ps.length->s.heap.get? T=some oT->oT.data = .seq its.toArray n ->
   BindsTo s (W.fnOf x x (a8 st) (aJ st) (ai st) (.ref T) kV doc pm an cdv ct) ⟨us,[]⟩ (ps.zip us))
  (hd:∀(T:Addr) (kV doc pm:Value) (an:Option Addr) (cdv ct:Value) (us its:List Value) (oT:Obj) (n:Nat) (s:Shared),aP ds its->(us++its).length=ps.length->s.heap.get? T=some oT->oT.data = .seq its.toArray n ->
   BindsTo s (W.fnOf x x (a8 st) (aJ st) (ai st) (.ref T) kV doc pm an cdv ct) ⟨us,[]⟩ (ps.zip (us++its)))
  (len:∀vs H Q E,sp vs H Q E->vs.length=ps.length)
  (hbody:∀(f:Addr) (cdv:Value) (A:Around) (outer:List Env) (s:Shared) (H:Hp) (vs:List V) (Q:VK) (E:XK),xL k (A.deeper (envOfC x (ai st) s.heap.objs.size f cdv))->sp vs H Q E ->
   ∃t,PSs (a7 (CXE P w) P w K mg base N x (ai st) f cdv A outer s H E) (aJ st) t∧t { nx:=fun _ H'=>Q .non H',rt:=Q } (d8 N vs) H):Fx P w K mg base x ps (k+1) ds sp:=by
 obtain⟨f,T,oT,n,its,oc,od,kV,doc,pm,an,cdv,ct,osl,hm,lk,hcd,hk,hT,hs,hv⟩:=D.ex;refine⟨⟨f,_,its,hm,hk,fun s us KX hl=>?_,fun s us KX hl=>hd T kV doc pm an cdv ct us its oT n s hv hl (KX _ _ hT) hs,hv,ma lk hcd S len fun A outer s H vs Q E hr hsp=>hbody f cdv A outer s H vs Q E hr hsp⟩⟩;rw[List.append_nil]at hl ⊢;exact hb T kV doc pm an cdv ct us its oT n s hv hl (KX _ _ hT) hs
theorem Df.fx{P:Program}{w:World}{K:W.Frag}{mg:Str->Option Value}{base:Heap}{x:Str}{st:Stmt}{N ps:List Str}{k:Nat}{sp:Sp}(D:Df K mg x st)(S:xo N ps (ai st))
  (hbind:∀(kV doc pm:Value) (an:Option Addr) (cdv ct:Value) (us:List Value),us.length=ps.length->bindArgs (W.fnOf x x (a8 st) (aJ st) (ai st) .none kV doc pm an cdv ct) ⟨us,[]⟩=pure (ps.zip us))
  (len:∀vs H Q E,sp vs H Q E->vs.length=ps.length)
  (hbody:∀(f:Addr) (cdv:Value) (A:Around) (outer:List Env) (s:Shared) (H:Hp) (vs:List V) (Q:VK) (E:XK),xL k (A.deeper (envOfC x (ai st) s.heap.objs.size f cdv))->sp vs H Q E ->
   ∃t,PSs (a7 (CXE P w) P w K mg base N x (ai st) f cdv A outer s H E) (aJ st) t∧t { nx:=fun _ H'=>Q .non H',rt:=Q } (d8 N vs) H):Fx P w K mg base x ps (k+1) [] sp:=by
 obtain⟨f,oc,od,kV,doc,pm,an,cdv,ct,osl,hm,lk,hcd,hk⟩:=D.ex;have hb:ej K (W.fnOf x x (a8 st) (aJ st) (ai st) .none kV doc pm an cdv ct) ps []:=.all (hbind kV doc pm an cdv ct);exact⟨⟨f,_,[],hm,hk,hb,hb,.nil,ma lk hcd S len fun A outer s H vs Q E hr hsp=>hbody f cdv A outer s H vs Q E hr hsp⟩⟩
theorem qL{P:Program}{w:World}{K:W.Frag}{mg:Str->Option Value}{base:Heap}{N:List Str}{qual:Str}{scope:Scope}{f:Addr}{cdv:Value}{A:Around}{outer:List Env}{s₀:Shared}{H₀:Hp}{E:XK}
  {x:Str} {ps:List Str} {k:Nat} {ds:List V} {sp:Sp} {p pos:Pos} {e:Expr} {es:List Expr} {t:TA} (F:Fx P w K mg base x ps k ds sp) (hr:xL k (a7 (CXE P w) P w K mg base N qual scope f cdv A outer s₀ H₀ E).A) (hg:Gl (a7 (CXE P w) P w K mg base N qual scope f cdv A outer s₀ H₀ E) x)
  (ha:PA (a7 (CXE P w) P w K mg base N qual scope f cdv A outer s₀ H₀ E) (e::es) t)
  (hdb:(x == ("__debug__" : Str))=false:=by decide) (he:starEach (e::es) (a7 (CXE P w) P w K mg base N qual scope f cdv A outer s₀ H₀ E).env=(false,eval e (a7 (CXE P w) P w K mg base N qual scope f cdv A outer s₀ H₀ E).env)::starEach es (a7 (CXE P w) P w K mg base N qual scope f cdv A outer s₀ H₀ E).env:=by rfl)
  (hpl:(backTo pos (starEach es (a7 (CXE P w) P w K mg base N qual scope f cdv A outer s₀ H₀ E).env)).any (·.1)=false:=by rfl) :
  PE (a7 (CXE P w) P w K mg base N qual scope f cdv A outer s₀ H₀ E) (.Call (.Name x p) (e::es) [] pos) (nR sp [] E t):=by
 obtain⟨g,fd,its,hm,hk,hb,_,_,G⟩:=F.ex;exact kx G hr hg hm hk hb .nil (sQ fun _ _ _ z=>z) ha hdb he hpl
theorem jO{P:Program}{w:World}{X:Cx}:fP (CXE P w) X E0:=fun _ _ _ _ _ _ _ h=>by
 obtain⟨_,_,_,_,_,_,_,_,_,_,_,_,q⟩:=h;exact q.elim
theorem ku{X:Cx}{x:Str}{ps:List Str}{k:Nat}{ds:List V}{sp:Sp}{p pos:Pos}{e:Expr}{es:List Expr}{t:TA}(F:Fx X.prog X.w X.K X.mg X.base x ps k ds sp)(hr:xL k X.A)(hg:Gl X x)(ha:PA X (e::es) t)
  (hdb:(x == ("__debug__" : Str))=false:=by decide) (he:starEach (e::es) X.env=(false,eval e X.env)::starEach es X.env:=by rfl) (hpl:(backTo pos (starEach es X.env)).any (·.1)=false:=by rfl) :
  PE X (.Call (.Name x p) (e::es) [] pos) (nR sp [] E0 t):=by
 obtain⟨g,fd,its,hm,hk,hb,_,_,G⟩:=F.ex;exact kx G hr hg hm hk hb .nil jO ha hdb he hpl
section
variable {X:Cx}
variable {x fn:Str} {i:Nat} {ps:List Str} {k:Nat} {ds:List V} {sp:Sp} {e:Expr} {es:List Expr} {ta:TA} {px pf cpos pos:Pos}
end
end L2
namespace Sp2
open PySem PySem.Spec L2 Mth Sp1
theorem qY{H:Hp}{x:V}(h:g8 H x=true):∃p a b,x = .ref p∧H p=some (.tup [.int a,.int b])∧AW a b:=by
 unfold g8 at h
 split at h
 ·split at h
  ·rename_i p _ xs e
   unfold jt at h
   split at h
   ·rename_i a b
    unfold lowB at h;rw[Bool.and_eq_true,decide_eq_true_eq,decide_eq_true_eq]at h;exact⟨p,a,b,rfl,e,h.1,h.2⟩
   ·cases h
  ·cases h
 ·cases h
theorem qV{H:Hp}{p:Addr}{a b:Int}(e:H p=some (.tup [.int a,.int b])):g8 H (.ref p)=lowB a b:=by
 simp only[g8,e,jt]
theorem ux{a b:Int}(h:AW a b):lowB a b=true:=by
 unfold lowB;rw[decide_eq_true h.pos,decide_eq_true h.one];rfl
inductive Ba (vs:List V) (H:Hp) (Q:VK) (x_3:XK):Prop
 | mk:∀(p:Addr) (xs:List V),(vs = [.ref p])->(H p=some (.lst xs))->(Q (.int ((xs.length:Int) - 1)) H)->Ba vs H Q x_3
theorem wn{n:Int}(h0:-1000≤n)(h1:n≤1000):-(2^64)<n∧n<2^64:=by
 have e:(2:Int)^64=18446744073709551616:=by decide
 rw[e];omega
theorem vK{ns:List Int}{k:Int}(j:Nat)(e:k=(j:Int))(h:j<ns.length):atI (ns.map V.int) k=some (.int ns[j]):=by
 subst e;exact dB (by rw[List.getElem?_map,List.getElem?_eq_getElem h];rfl)
theorem aW{n:Int}(h0:-1000≤n)(h1:n≤1000):au n≤10:=by
 refine cE (n:=10) ?_;show _<1024;omega
end Sp2
namespace L2
open PySem PySem.Spec PyProof.Rows
end L2
namespace L2
open PySem PySem.Spec PyProof.Rows
abbrev Cx.blk(X:Cx)(N':List Str)(scope:Scope)(cl:List (Str×Addr))(fp:List Addr)(s₀:Shared)(H₀:Hp):Cx :=
 { X with N:=N',s₀:=s₀,H₀:=H₀,env:=compEnvC scope cl s₀.heap.objs.size X.env,outer:=X.stack,ex:=fp,fn:=fun _=>false,pn:=[],xe:=fun _ _=>False }
theorem cj{α:Type}{y:Str}{c:α}:∀{l:List (Str×α)},l.lookup y=some c->(y,c)∈l
 | [],h=>by simp at h
 | (n,d)::r,h=>by
  rw[List.lookup_cons]at h;cases e:y == n with
  | true =>
   rw[e]at h;cases h;rw[beq_iff_eq.mp e];exact List.mem_cons_self
  | false =>
   rw[e]at h;exact List.mem_cons_of_mem _ (cj h)
structure zC(X:Cx)(scope:Scope)(cl:List (Str×Addr))(x:Str)(fv:List (Str×Nat)):Prop where
 clos:closureFor scope X.env=pure cl
 kind:scope.kind = .function
 cell:∀y∈scope.names,y.2≠.cell
 names:∀y∈scope.names,y.2 = .local->scope.names.lookup y.1=some .local
 own:scope.names.lookup x=some .local
 cells:∀p∈cl,X.env.cells.lookup p.1=some p.2
 has:((relabel scope X.env).names.all fun q=>!(q.2 == .cell || q.2 == .free) || (cl.lookup q.1).isSome)=true
 nd:(x::fv.map (·.1)).Nodup
 slot:∀p∈fv,X.N[p.2]? = some p.1∧X.env.kindOf p.1=some .cell∧Vis X.env.scope p.1∧(cl.lookup p.1).isSome=true∧((relabel scope X.env).names.lookup p.1=some .cell)
 stk:X.stack=X.env::X.outer∧X.env.frame=some X.env.locals
 noex:X.ex = []
def fvs(fv:List (Str×Nat))(σ:St):St:=fv.map fun p=>(σ[p.2]?).join
def um(wi:TI)(fv:List (Str×Nat))(te:TE):TE:=fun σ H Q=>wi σ H fun J H1=>∀p,H1 p=none->∃W:Nat->Nat->List V->Hp->Prop,(∃m,W 0 m [] (upd H1 p (.lst [])))∧∀i m acc H2,W i m acc H2 ->
 H2 p=some (.lst acc)∧acc.length<sizeLine∧((J.stop i H2∧Q (.ref p) H2)∨(J.go i H2∧∀x H3,J.yld i H2 x H3->te (some x::fvs fv σ) H3 fun y H4=>H4 p=some (.lst acc)∧∃m',m'<m∧W (i+1) m' (acc++[y]) (upd H4 p (.lst (acc++[y])))))
section
variable {X:Cx} {scope:Scope} {cl:List (Str×Addr)} {x:Str} {fv:List (Str×Nat)} {elt iter:Expr} {px pos:Pos} {te:TE}
theorem vI{pins:List (Addr×Obj)}{σ:St}{H:Hp}{s:Shared}{fp:List Addr}(C:zC X scope cl x fv)(I:xq X pins σ H s)(hf:∀b∈fp,eE X pins H b)(ho:∀b∈fp,b<s.heap.objs.size):(X.blk (x::fv.map (·.1)) scope cl fp s H).Ok:=by
 have hcl:∀y c,cl.lookup y=some c->X.env.cells.lookup y=some c:=fun y c h=>C.cells _ (cj h);have old:∀b∈fp,X.s₀.heap.objs.size≤b:=fun b hb=>by
  rcases(hf b hb).2.2.2.1 with z|z
  ·rw[C.noex]at z
   cases z
  ·exact z
 refine⟨I.ok.mod,by show(relabel scope X.env).kind=_;exact C.kind,I.ok.glob,I.ok.blt,Nat.le_refl _,fun y z c h1 h2=>I.ok.inj y z c (hcl y c h1) (hcl z c h2),fun y hy=>?_,(fun y c h=>by cases h),I.ok.hd,I.ok.frames,.inl rfl,fun b hb=>?_,fun b o e=>I.bs b o e,Nat.le_trans I.ok.bsz I.sz,fun b o e hb=>?_,fun b hb hm=>?_,I.stack,I.stkFree⟩
 ·have q:=C.has
  rw[List.all_eq_true]at q;have hm:∃k,(y,k)∈(relabel scope X.env).names∧(k = .cell∨k = .free):=by
   rcases hy with hy|hy
   ·exact⟨_,cj hy,.inl rfl⟩
   ·exact⟨_,cj hy,.inr rfl⟩
  obtain⟨k,hk,hk2⟩:=hm;have q2:=q _ hk;have q3:(cl.lookup y).isSome=true:=by
   rcases hk2 with rfl|rfl
   ·simpa using q2
   ·simpa using q2
  exact Option.isSome_iff_exists.mp q3
 ·obtain⟨f0,f1,f2,f3,f4,f5⟩:=hf b hb
  refine⟨?_,fun y c h=>f4 y c (hcl y c h)⟩;exact Nat.ne_of_lt (ho b hb)
 ·have z:=Heap.lt_size e
  have z2:=old b hb;exact absurd (Nat.lt_of_lt_of_le z (Nat.le_trans I.ok.bsz z2)) (Nat.lt_irrefl _)
 ·obtain⟨f0,f1,f2,f3,f4,f5⟩:=hf b hb
  rcases List.mem_cons.mp (I.stkSub b hm) with z|z
  ·exact f1 z
  ·exact f2 z
theorem ua{pins:List (Addr×Obj)}{σ:St}{H:Hp}{s s4:Shared}{fp:List Addr}(C:zC X scope cl x fv)(I:xq X pins σ H s)(hf:∀b∈fp,eE X pins H b)(ho:∀b∈fp,b<s.heap.objs.size)
  (hs:s4.os=s.os∧s4.gens=s.gens) (ns:s4.heap.Ns s.heap.objs.size fun _=>none) (kp:∀b o,s.heap.get? b=some o->s4.heap.get? b=some o) :
  xq (X.blk (x::fv.map (·.1)) scope cl fp s H) [] (none::fvs fv σ) H s4:=by
 have hcl:∀y c,cl.lookup y=some c->X.env.cells.lookup y=some c:=fun y c h=>C.cells _ (cj h);refine⟨vI C I hf ho,hs.1,by rw[hs.2];exact I.bare,Un.kept kp,⟨_,ns,fun i y v e1 e2 e3=>?_⟩,fun y c h=>?_,I.hok.fresh (Nat.le_refl _),fun y c h=>I.freeC y c (hcl y c h),fun p hp=>by simp at hp,I.hok.kept kp,by simp[fvs]⟩
 ·cases i with
  | zero=>simp at e2
  | succ j =>
   have e1':(fv.map (·.1))[j]? = some y:=by simpa using e1
   have e2':(fvs fv σ)[j]? = some (some v):=by simpa using e2
   rw[List.getElem?_map]at e1';unfold fvs at e2';rw[List.getElem?_map]at e2';cases hq:fv[j]? with
   | none =>
    rw[hq]at e1';cases e1'
   | some q =>
    rw[hq]at e1' e2';have ey:q.1=y:=Option.some.inj e1';have ev:(σ[q.2]?).join=some v:=Option.some.inj e2';have hm:q∈fv:=List.mem_of_getElem? hq;obtain⟨s1,s2,s3,s4',s5⟩:=C.slot q hm;have ev2:σ[q.2]? = some (some v):=by
     cases hz:σ[q.2]? with
     | none =>
      rw[hz]at ev;cases ev
     | some z =>
      rw[hz]at ev;have ev':z=some v:=ev;rw[ev']
    obtain⟨m,hn,hl⟩:=I.loc;obtain⟨u,r,lk⟩:=hl q.2 q.1 v s1 ev2 s3;obtain⟨c,hc⟩:=Option.isSome_iff_exists.mp s4';refine⟨u,r,.inr ⟨.inl (by rw[<- ey];exact s5),c,by rw[<- ey];exact hc,?_⟩⟩;rcases lk with⟨k,_⟩|⟨_,c',hc',z⟩
    ·rw[s2]at k
     cases k
    ·rw[hcl _ _ hc]at hc'
     cases hc';obtain⟨o,ho',hd⟩:=z;exact⟨o,kp _ _ ho',hd⟩
 ·obtain⟨v,o,ho',hd⟩:=I.cell y c (hcl y c h)
  exact⟨v,o,kp _ _ ho',hd⟩
theorem oQ{pins:List (Addr×Obj)}{σ:St}{H2:Hp}{s2:Shared}{it:Addr}{fp:List Addr}{tn:Nat->Heap->Prop}{J:It}{RR:Value->Addr->Result->Shared->Prop}{E:Value->Shared->Prop}{Qf:V->Hp->Prop}
  (hcalm:X.calm=true) (C:zC X scope cl x fv) (I2:xq X pins σ H2 s2) (T:Bf X.prog X.w X.K (.Name x px) J fp it tn) (st:tn 0 s2.heap) (f2:∀b∈fp,eE X pins H2 b)
  (rd:∀p,H2 p=none->∃W:Nat->Nat->List V->Hp->Prop,(∃m,W 0 m [] (upd H2 p (.lst [])))∧∀i m acc H2,W i m acc H2 ->
   H2 p=some (.lst acc)∧acc.length<sizeLine∧((J.stop i H2∧Qf (.ref p) H2)∨(J.go i H2∧∀x H3,J.yld i H2 x H3->te (some x::fvs fv σ) H3 fun y H4=>H4 p=some (.lst acc)∧∃m',m'<m∧W (i+1) m' (acc++[y]) (upd H4 p (.lst (acc++[y]))))))
  (he:∀(s₀:Shared) (H₀:Hp),PE (X.blk (x::fv.map (·.1)) scope cl fp s₀ H₀) elt te)
  (hRR:∀(p C:Addr) (H':Hp) (s':Shared),(∃m,s'.heap.Ns C m)->C≠X.env.locals->H' C=none->X.s₀.heap.objs.size≤C->(∀y c,X.env.cells.lookup y=some c->c≠C)->(∀q∈X.pn++pins,q.1≠C)->xq X pins σ H' s'->Qf (.ref p) H'->RR (.ref p) C (.ok .next) s') :
  wpAny (model X.prog X.w) X.A (newList []) (fun acc s₃=>wpAny (model X.prog X.w) X.A (newFunctionEnv scope X.env.globals cl [] X.env.qual none .none (some X.env)) (fun cenv s₄ =>
   codeAny (model X.prog X.w) X.A (.compStart (.ListComp elt [⟨.Name x px,iter,[],0⟩] scope pos) 0 (.ref it) acc { cenv with scope:=relabel scope X.env }) (RR acc cenv.locals) s₄) E s₃) E s2:=by
 refine wpAny_newObj_type ?_;have hfresh:=I2.fresh;have I3:xq X pins σ (upd H2 s2.heap.objs.size (.lst [])) { s2 with heap:=s2.heap.push { cls:=.type "list",data:=.seq ([]:List Value).toArray } } :=
  I2.laid (t':=s2.toks) (fun b u q=>Heap.get?_push_of_some _ q) (Nat.le_refl _) ⟨Nat.zero_le _,[],0,.nil,Heap.get?_push_size _ rfl⟩
 generalize hs3:({ s2 with heap:=s2.heap.push { cls:=.type "list",data:=.seq ([]:List Value).toArray } }:Shared)=s3 at I3 ⊢;have hp3:s2.heap.objs.size<s3.heap.objs.size:=by rw[<- hs3];exact Nat.lt_of_lt_of_le (Nat.lt_succ_self _) (Nat.le_of_eq (Heap.size_push _ _).symm)
 have k23:∀b o,s2.heap.get? b=some o->s3.heap.get? b=some o:=fun b o e=>by rw[<- hs3];exact Heap.get?_push_of_some _ e
 have fpo:∀b∈fp,b<s2.heap.objs.size:=fun b hb=>by
  obtain⟨o,e,_⟩:=T.obj 0 _ st b hb;exact Heap.lt_size e
 have f3:∀b∈fp,eE X pins (upd H2 s2.heap.objs.size (.lst [])) b:=fun b hb=>⟨by rw[aM (Nat.ne_of_lt (fpo b hb))];exact(f2 b hb).1,(f2 b hb).2⟩;refine wpAny_newFunctionEnv C.cell (by intro y hy;simp at hy) (fun h1 hns1 hsb1=>?_) C.kind;have kp:∀b o,s3.heap.get? b=some o->h1.get? b=some o:=fun b o e=>(hsb1.2 b (Nat.ne_of_lt (Heap.lt_size e))).trans (Heap.get?_push_of_some _ e);have I4:=ua (s4:={ s3 with heap:=h1,toks:=s3.toks+([]:List (Str×Value)).length }) C I3 f3 (fun b hb=>Nat.lt_trans (fpo b hb) hp3) ⟨rfl,rfl⟩ hns1 kp;have st4:tn 0 h1:=T.keep 0 _ _ st fun b _ o e=>kp b o (k23 b o e);obtain⟨W,⟨m0,w0⟩,step⟩:=rd _ hfresh;have loop:codeAny (model X.prog X.w) X.A (.compLoop (.ListComp elt [⟨.Name x px,iter,[],0⟩] scope pos) 0 (.ref it) (.ref s2.heap.objs.size) (compEnvC scope cl s3.heap.objs.size X.env)) (RR (.ref s2.heap.objs.size) s3.heap.objs.size)
   { s3 with heap:=h1,toks:=s3.toks+([]:List (Str×Value)).length }:=by
  refine codeAny_compLoop_list (fun n s=>∃i acc σv H',xq (X.blk (x::fv.map (·.1)) scope cl fp s3 (upd H2 s2.heap.objs.size (.lst []))) [] (σv::fvs fv σ) H' s∧tn i s.heap∧(∀b∈fp,H' b=none)∧W i n acc H') ?_ m0 ⟨0,[],none,_,I4,st4,fun b hb=>(f3 b hb).1,w0⟩;rintro n s ⟨i,acc,σv,H',I',st',fr',w'⟩;obtain⟨hp,hlen,alt⟩:=step i n acc H' w';have fpk:∀{H5:Hp},(∀b∈fp,H5 b=none)->∀b∈fp,eE (X.blk (x::fv.map (·.1)) scope cl fp s3 (upd H2 s2.heap.objs.size (.lst []))) [] H5 b:=fun h5 b hb =>
   ⟨h5 b hb,(I'.ok.exf b hb).1,I'.ok.exfs b hb,.inl hb,fun y c e=>(I'.ok.exf b hb).2 y c e,fun q hq=>by simp at hq⟩
  rcases alt with⟨stop,qf⟩|⟨go,turn⟩
  ·refine wpAny_mono (T.done (X.blk (x::fv.map (·.1)) scope cl fp s3 (upd H2 s2.heap.objs.size (.lst []))) rfl rfl rfl hcalm i [] s _ H' (fun _ _=>False) I' (fpk fr') st' stop) (fun r s5 ⟨hr,I5⟩=>?_) fun _ _ z=>False.elim z
   subst hr;refine hRR _ _ H' s5 (let ⟨m,hn,_⟩:=I5.loc;⟨m,hn⟩) (Nat.ne_of_gt I3.lt) I5.free I3.sz (fun y c e=>?_) (fun q hq=>?_) ?_ qf
   ·obtain⟨v,z⟩:=I3.cell y c e
    exact Nat.ne_of_lt z.lt
   ·exact Nat.ne_of_lt (Heap.lt_size (I3.pin q hq).1)
   ·exact I3.call' (s':=s5) (ch:=fp) I5.os I5.base I5.hok I5.bare fun b hb=>⟨(f2 b hb).2.2.2.1,(f2 b hb).2.1,(f2 b hb).2.2.2.2.1,(f2 b hb).2.2.2.2.2⟩
  ·refine wpAny_mono (T.item (X.blk (x::fv.map (·.1)) scope cl fp s3 (upd H2 s2.heap.objs.size (.lst []))) rfl rfl rfl hcalm i [] s _ H' (fun _ _=>False) I' (fpk fr') st' go) (fun r s5 ⟨u,hr,h5⟩=>?_) fun _ _ z=>False.elim z
   subst hr;have e5:assign (.Name x px) (compEnvC scope cl s3.heap.objs.size X.env) u=(letOwnedTupleGo (.Name x px) (.ref it) u >>= fun _=>assign (.Name x px) (compEnvC scope cl s3.heap.objs.size X.env) u):=by
    rw[show letOwnedTupleGo (.Name x px) (.ref it) u=pure () from rfl];rfl
   show wpAny _ _ (assign (.Name x px) (compEnvC scope cl s3.heap.objs.size X.env) u) _ _ _;rw[e5];refine wpAny_bind (wpAny_mono h5 (fun _ s6 ⟨y,H6,I6,r6,y6,st6,fr6⟩=>?_) fun _ _ z=>False.elim z);have I6':=I6.pinned (fpk fr6) (T.obj _ _ st6);have lx:(relabel scope X.env).names.lookup x=some .local:=lookup_relabel_local C.own;refine wpAny_mono (aY (X:=X.blk (x::fv.map (·.1)) scope cl fp s3 (upd H2 s2.heap.objs.size (.lst []))) (i:=0) C.nd rfl (.inl lx) (.inr lx) _ s6 _ H6 y u (fun σ7 H7=>σ7=some y::fvs fv σ∧H7=H6) I6' r6 ⟨rfl,rfl⟩) (fun _ s7 ⟨σ7,H7,I7,e7,e7'⟩=>?_) fun _ _ z=>False.elim z;subst e7 e7';refine wpAny_mono (he s3 _ _ s7 _ _ _ I7 (turn y _ y6)) (fun v8 s8 ⟨y8,H8,I8,r8,q8,m',hm',w8⟩=>?_) fun _ _ z=>False.elim z;refine wpAny_mono (gL (X:=X.blk (x::fv.map (·.1)) scope cl fp s3 (upd H2 s2.heap.objs.size (.lst []))) _ s8 _ H8 (.ref s2.heap.objs.size) [y8] (.ref s2.heap.objs.size) [v8] (fun _ H9=>H9=upd H8 s2.heap.objs.size (.lst (acc++[y8]))) I8 rfl (.cons r8 .nil) ⟨_,acc,y8,rfl,rfl,q8,hlen,rfl⟩) (fun _ s9 ⟨_,H9,I9,_,e9⟩=>?_) fun _ _ z=>False.elim z;subst e9;refine⟨m',hm',i+1,acc++[y8],some y,_,I9.unpinned,T.keep _ _ _ st6 fun b hb o e=>(I9.pin (b,o) (List.mem_append_right _ (List.mem_append_right _ (db hb e)))).1,fun b hb=>?_,w8⟩;obtain⟨o,e,d⟩:=T.obj _ _ st6 b hb;exact(I9.pin (b,o) (List.mem_append_right _ (List.mem_append_right _ (db hb e)))).2.1
 exact codeAny_compStart_list loop (T.self _ 0 _ _ _ st4 loop)
theorem sO{wi:TI}(hcalm:X.calm=true)(C:zC X scope cl x fv)(hi:PI X (.Name x px) iter wi)(he:∀(fp:List Addr) (s₀:Shared) (H₀:Hp),PE (X.blk (x::fv.map (·.1)) scope cl fp s₀ H₀) elt te)
  (hs:∀v,foldedSetIterable iter X.env v=pure v:=by intro _;rfl):PE X (.ListComp elt [⟨.Name x px,iter,[],0⟩] scope pos) (um wi fv te):=by
 intro pins s σ H Q I h;rw[eval_ListComp];refine wpAny_comprehension_free (use:=none) rfl hs C.clos C.kind C.names (wpAny_mono (hi pins s σ H _ I h) (fun v s1 h1=>wpAny_mono h1 (fun itv s2 h2=>?_) fun _ _ z=>z) fun _ _ z=>z);obtain⟨it,fp,tn,J,H2,rfl,I2,T,st2,f2,rd⟩:=h2;refine oQ (Qf:=Q) hcalm C I2 T st2 f2 rd (he fp) fun p D H' s' ns nL nH n0 nC nP I8 q=>?_;obtain⟨m,hn⟩:=ns;exact⟨m,hn,fun h'' sb=>⟨.ref p,H',I8.turned (t':=s'.toks) (fun b o hb e=>(sb.2 b hb).trans e) nH nL (.inr n0) nC nP,rfl,q⟩⟩
theorem mV{wi:TI}{y:Str}{j:Nat}{py spos:Pos}(hcalm:X.calm=true)(C:zC X scope cl x fv)(hN:X.N.Nodup)(hj:X.N[j]? = some y)(hy:X.env.scope.names.lookup y=some .local)(hi:PI X (.Name x px) iter wi)(he:∀(fp:List Addr) (s₀:Shared) (H₀:Hp),PE (X.blk (x::fv.map (·.1)) scope cl fp s₀ H₀) elt te)
  (hsw:swapsWith (.ListComp elt [⟨.Name x px,iter,[],0⟩] scope pos) (some (.Name y py)) spos.line X.env=pure true:=by rfl)
  (hs:∀v,foldedSetIterable iter X.env v=pure v:=by intro _;rfl):PS X (.Assign [.Name y py] (.ListComp elt [⟨.Name x px,iter,[],0⟩] scope pos) spos) (qv (um wi fv te) (i8 j)):=by
 intro pins s σ H D I h;rw[exec_Assign_Name_used _ _ _ _ hsw];refine wpAny_bind (wpAny_standAt (wpAny_bind ?_));show wpAny _ _ (do let _ <- comprehension (.ListComp elt [⟨.Name x px,iter,[],0⟩] scope pos) scope X.env _ (newList []) false (eval iter X.env) (some (assign (.Name y py) X.env))) _ _ s
 refine wpAny_bind (wpAny_mono (wpAny_comprehension_free (use:=some (assign (.Name y py) X.env)) (Q:=fun _ s'=>SP X pins D .next s') rfl hs C.clos C.kind C.names
  (wpAny_mono (hi pins s σ H _ I h) (fun v s1 h1=>wpAny_mono h1 (fun itv s2 h2=>?_) fun _ _ z=>z) fun _ _ z=>z)) (fun _ s' hq=>wpAny_pure (wpAny_pure hq)) fun _ _ z=>z)
 obtain⟨it,fp,tn,J,H2,rfl,I2,T,st2,f2,rd⟩:=h2;refine oQ (Qf:=fun v H'=>i8 j v σ H' D.nx) hcalm C I2 T st2 f2 rd (he fp) fun p D' H' s' ns nL nH n0 nC nP I8 q=>?_;obtain⟨m,hn⟩:=ns;show wpAny _ _ (assign (.Name y py) X.env (.ref p)) _ _ _;refine wpAny_assign_Name (gG I8 hN hj (.inl hy) (v:=.ref p) rfl (fun s9 I9 ⟨a,sb,ha⟩=>?_) (.inr hy));have aD:D'≠a:=by
  rintro rfl;rcases ha with z|z
  ·exact nL z
  ·exact nC y _ z rfl
 exact⟨m,hn.sameBut sb aD,fun h'' sb2=>⟨_,H',I9.turned (t':=s9.toks) (fun b o hb e=>(sb2.2 b hb).trans e) nH nL (.inr n0) nC nP,q⟩⟩
end
end L2
namespace L2
open PySem PySem.Spec PyProof.Rows
def fY(s:Stmt):Scope:=match s with
 | .Assign _ (.ListComp _ _ sc _) _=>sc
 | _=>{ kind:=.function,names:=[],isGenerator:=false,isCoroutine:=false }
end L2
namespace L2
open PySem PySem.Spec PyProof.Rows
theorem lY{X:Cx}{K:W.Frag}(h:X.K=K):IxR X (C6 K):=h▸aO
theorem cp{X:Cx}{K:W.Frag}(h:X.K=K):IxR X (C5 K):=h▸ap
end L2
namespace L2
open PySem PySem.Spec PyProof.Rows
theorem qc{K:W.Frag}{a:Addr}{xs:List V}{fv:List (Str×Nat)}{te:TE}{σ:St}{H1:Hp}{Qp:Hp->Prop}{l:Addr}(Pv:Nat->List V->Hp->Prop)(h0:Pv 0 [] (upd H1 l (.lst [])))(hp:∀i acc H2,i≤xs.length->Pv i acc H2->SqL K H2 a xs∧H2 l=some (.lst acc)∧acc.length<sizeLine)
  (hs:∀i x acc H2 (Kc:VK),xs[i]? = some x->Pv i acc H2->(∀y H4,H4 l=some (.lst acc)->Pv (i+1) (acc++[y]) (upd H4 l (.lst (acc++[y])))->Kc y H4)->te (some x::fvs fv σ) H2 Kc) (hd:∀acc H2,Pv xs.length acc H2->Qp H2) :
  ∃W:Nat->Nat->List V->Hp->Prop,(∃m,W 0 m [] (upd H1 l (.lst [])))∧∀i m acc H2,W i m acc H2 ->
   H2 l=some (.lst acc)∧acc.length<sizeLine∧(((Itl K a).stop i H2∧Qp H2)∨((Itl K a).go i H2∧∀x H3,(Itl K a).yld i H2 x H3->te (some x::fvs fv σ) H3 fun y H4=>H4 l=some (.lst acc)∧∃m',m'<m∧W (i+1) m' (acc++[y]) (upd H4 l (.lst (acc++[y]))))):=by
 refine⟨fun i m acc H2=>m=xs.length - i∧i≤xs.length∧Pv i acc H2,⟨xs.length,by simp,Nat.zero_le _,h0⟩,?_⟩;rintro i m acc H2 ⟨rfl,hi,p⟩;obtain⟨q1,q2,q3⟩:=hp i acc H2 hi p;refine⟨q2,q3,?_⟩
 by_cases hlt:i<xs.length
 ·refine .inr ⟨⟨xs,xs[i],q1,List.getElem?_eq_getElem hlt⟩,fun x H3 y=>?_⟩
  obtain⟨e1,e2⟩:=y;subst e1;exact hs i x acc _ _ (e2 xs q1) p fun y H4 z1 z2=>⟨z1,xs.length - (i+1),by omega,rfl,hlt,z2⟩
 ·have e:i=xs.length:=by omega
  subst e;exact .inl ⟨⟨xs,q1,Nat.le_refl _⟩,hd acc H2 p⟩
end L2
namespace L2
open PySem PySem.Spec PyProof.Rows
theorem nM{xs:List V}{us:List Value}{j:Nat}(r:aP xs us)(h:j<us.length):∃a,xs[j]? = some a∧aS a us[j]:=by
 have hl:=r.length;have hj:j<xs.length:=by omega
 obtain⟨u,e,q⟩:=r.get (i:=j) (x:=xs[j]) (List.getElem?_eq_getElem hj);rw[List.getElem?_eq_getElem h]at e;cases e;exact⟨xs[j],List.getElem?_eq_getElem hj,q⟩
section
variable {X:Cx} {pins:List (Addr×Obj)} {σ:St} {H:Hp} {s:Shared}
end
end L2
namespace L2
open PySem
theorem xL.units10{k:Nat}{A:Around}(r:xL k A):A.units+10<cLine:=by have:=r.un;omega
end L2
namespace L2
open PySem PySem.Spec PyProof.Rows
end L2
namespace Sp3
open PySem PySem.Spec L2 Mth Sp1 Sp2
end Sp3
namespace Sp3
open PySem PySem.Spec L2 Mth Sp1 Sp2
abbrev Crn:=List (Addr×Int×Int)
end Sp3
namespace PySem
open Sem (wp)
section
variable {prog:Program} {w:World} {A:Around} {E:Value->Shared->Prop} {h:Heap} {g:Array GenState} {d:Drawn} {t:Nat} {os:OsState} {a:Addr} {o:Obj}
 {nm q:Str} {C N:Addr} {bs bm:List Value} {hdct:Bool} {sn:List Str} {sub:List Value} {ab:Bool} {col:Option Bool} {dd:Option Addr} {k0 k1 k2 k3 k5:Option Value} {newId:String}
end
end PySem
namespace L2
open PySem PySem.Spec PyProof.Rows
section
variable {X:Cx}
end
section
variable {X:Cx} {pins:List (Addr×Obj)} {σ:St} {H:Hp} {s:Shared}
theorem xq.track{a:Addr}{o:HO}(I:xq X pins σ H s)(hn:H a=none)(h0:X.s₀.heap.get? a=none)(hl:a≠X.env.locals)(hc:∀x c,X.env.cells.lookup x=some c->c≠a)(hp:∀p∈X.pn++pins,p.1≠a)
  (ho:bI X.prog X.w (upd H a o) s.heap a o):xq X pins σ (upd H a o) s where
 ok:=I.ok
 os:=I.os
 bare:=I.bare
 base:={
  keep:=I.base.keep
  slot:=I.base.slot
  free:=fun b ob e n hx=>by
   rw[aM (fun z=>by subst z;rw[h0]at e;cases e)];exact I.base.free b ob e n hx
  there:=I.base.there
  tups:=fun b xs q=>by
   have z:=I.base.tups b xs q;rw[aM (aV z hn)];exact z
  frzs:=fun b ob u q=>by
   have z:=I.base.frzs b ob u q;rw[aM (aV z hn)];exact z
  tbls:=fun b ps q=>by
   obtain⟨m,z⟩:=I.base.tbls b ps q;exact⟨m,by rw[aM (aV z hn)];exact z⟩ }
 loc:=I.loc
 cell:=I.cell
 free:=by rw[aM (Ne.symm hl)];exact I.free
 freeC:=fun x c e=>by rw[aM (hc x c e)];exact I.freeC x c e
 pin:=fun p m=>by
  obtain⟨p1,p2,p3⟩:=I.pin p m;exact⟨p1,by rw[aM (hp p m)];exact p2,p3⟩
 hok:=fun b u q=>by
  by_cases hb:b=a
  ·subst hb
   rw[upd_same]at q;cases q;exact ho
  ·rw[aM hb]at q
   exact(I.hok b u q).stay (fun _ _ _ r=>r) (fun c r=>by rw[aM (aV r hn)];exact r) fun c xs r=>by rw[aM (aV r hn)];exact r
 len:=I.len
end
section
variable {X:Cx}
end
end L2
namespace Sp8
open PySem PySem.Spec L2 Mth Sp1 Sp2 Sp3
end Sp8
namespace L2
open PySem PySem.Spec PyProof.Rows
theorem SqT.mod{K:W.Frag}{H:Hp}{a:Addr}{oc:Value}{od:Option Addr}{its:Array Value}{n:Nat}{sl:Array (Option Value)}{xs:List V}(hk:K.lookup a=some ⟨oc,od,.seq its n,sl⟩)(hc:oc = .type "tuple")(hz:its.size≤100)(r:aP xs its.toList):SqT K H a xs :=
 .inr ⟨_,its,n,hk,hc,rfl,Nat.le_of_lt (aT (by omega)),r⟩
end L2
namespace Sp24
open PySem PySem.Spec L2 Mth Sp1 Sp2 Sp3 Sp8
def sg(n:Int):Int:=if n>0 then 1 else if n<0 then -1 else 0
def ssq(n:Int):Int:=n*(if n<0 then -n else n)
def swr(w p u:Int):Int:=sg (ssq w+ssq p*u)
def cf(w p u s b:Int):Int:=if sg w*sg (ssq p*u+ssq s*b)≥0 then sg (sg w+sg (ssq p*u+ssq s*b)) else sg w*swr (w*w - p*p*u - s*s*b) (-2*p*s) (u*b)
def ro(a0 a1 a2 a3 b0 b1 b2 b3:Int):Int:=cf (a0*b3 - b0*a3) (a1*b3) a2 (-b1*a3) b2
theorem iJ(n:Int):-1≤sg n∧sg n≤1:=by
 unfold sg
 split
 ·omega
 ·split <;> omega
theorem ig(n:Int):au (sg n)≤10:=aW (by have:=iJ n;omega) (by have:=iJ n;omega)
theorem iG{n:Int}{k:Nat}(h:au n≤k):au (ssq n)≤k+k:=bits_mul h (bits_abs h)
inductive zR (vs:List V) (H:Hp) (Q:VK) (x_3:XK):Prop
 | mk:∀n:Int,(vs = [.int n])->(Q (.int (sg n)) H)->zR vs H Q x_3
inductive BJ (vs:List V) (H:Hp) (Q:VK) (x_3:XK):Prop
 | mk:∀n:Int,(vs = [.int n])->(au n≤20000)->(Q (.int (ssq n)) H)->BJ vs H Q x_3
inductive BW (vs:List V) (H:Hp) (Q:VK) (x_3:XK):Prop
 | mk:∀w p u:Int,(vs = [.int w,.int p,.int u])->((au w≤8000∧au p≤8000∧au u≤8000))->(Q (.int (swr w p u)) H)->BW vs H Q x_3
inductive Bt (vs:List V) (H:Hp) (Q:VK) (x_3:XK):Prop
 | mk:∀w p u s b:Int,(vs = [.int w,.int p,.int u,.int s,.int b])->((au w≤1000∧au p≤1000∧au u≤1000∧au s≤1000∧au b≤1000))->(Q (.int (cf w p u s b)) H)->Bt vs H Q x_3
structure Rt(K:W.Frag)(H:Hp)(p:Addr)(a0 a1 a2 a3:Int):Prop where
 at_:SqT K H p [.int a0,.int a1,.int a2,.int a3]
 b0:au a0≤450
 b1:au a1≤450
 b2:au a2≤1000
 b3:au a3≤450
inductive BZ (K:W.Frag) (vs:List V) (H:Hp) (Q:VK) (x_3:XK):Prop
 | mk:∀(p q:Addr) (a0 a1 a2 a3 b0 b1 b2 b3:Int),(vs = [.ref p,.ref q])->(Rt K H p a0 a1 a2 a3)->(Rt K H q b0 b1 b2 b3)->(Q (.int (ro a0 a1 a2 a3 b0 b1 b2 b3)) H)->BZ K vs H Q x_3
structure Cn(H:Hp)(p:Addr)(x y:Int):Prop where
 at_:H p=some (.tup [.int x,.int y])
 bx:au x≤50
 by_:au y≤50
theorem Cn.mono{H H':Hp}{p:Addr}{x y:Int}(c:Cn H p x y)(s:Same H H'):Cn H' p x y:=⟨s _ _ c.at_,c.bx,c.by_⟩
structure Sq(H:Hp)(p:Addr)(a b:Int):Prop where
 at_:H p=some (.tup [.int a,.int b])
 ba:au a≤230
 bb:au b≤130
theorem Sq.mono{H H':Hp}{p:Addr}{x y:Int}(c:Sq H p x y)(s:Same H H'):Sq H' p x y:=⟨s _ _ c.at_,c.ba,c.bb⟩
def lo(x y x' y' a b:Int):Int:=sg (a - ((x' - x)*(x' - x)+(y' - y)*(y' - y))*b)
inductive Cr (vs:List V) (H:Hp) (Q:VK) (x_3:XK):Prop
 | mk:∀(p q r:Addr) (x y x' y' a b:Int),(vs = [.ref p,.ref q,.ref r])->(Cn H p x y)->(Cn H q x' y')->(Sq H r a b)->(Q (.int (lo x y x' y' a b)) H)->Cr vs H Q x_3
def bC(bx by_ ex ey:Int):Int:=(ex - bx)*(ex - bx)+(ey - by_)*(ey - by_)
def rAl(cx cy bx by_ ex ey:Int):Int:=(cx - bx)*(ex - bx)+(cy - by_)*(ey - by_)
def rBe(cx cy bx by_ ex ey:Int):Int:=(cx - bx)*(ey - by_) - (cy - by_)*(ex - bx)
def rUn(cx cy bx by_ ex ey a b:Int):Int:=b*(a*bC bx by_ ex ey - b*rBe cx cy bx by_ ex ey*rBe cx cy bx by_ ex ey)
inductive A6 (vs:List V) (H:Hp) (Q:VK) (x_3:XK):Prop
 | mk:∀(pc pb pe ps:Addr) (cx cy bx by_ ex ey a b:Int),(vs = [.ref pc,.ref pb,.ref pe,.ref ps])->(Cn H pc cx cy)->(Cn H pb bx by_)->(Cn H pe ex ey)->(Sq H ps a b)->(∀r H',Same H H'->H' r=some (.tup [.int (rAl cx cy bx by_ ex ey*b),.int (rUn cx cy bx by_ ex ey a b),.int (bC bx by_ ex ey*b)])->Q (.ref r) H')->A6 vs H Q x_3
def pwN(cx cy bx by_ ex ey a b room:Int):Bool :=
 if [bx,by_] = [ex,ey] then !decide (lo cx cy bx by_ a b≥room)
 else decide (sg (rUn cx cy bx by_ ex ey a b)<room) || (decide (ro 1 0 0 1 (rAl cx cy bx by_ ex ey*b) (-1) (rUn cx cy bx by_ ex ey a b) (bC bx by_ ex ey*b)<room) ||
  decide (ro (rAl cx cy bx by_ ex ey*b) 1 (rUn cx cy bx by_ ex ey a b) (bC bx by_ ex ey*b) 0 0 0 1<room))
def sqV(H:Hp):V->Bool
 | .ref p=>match H p with
  | some (.tup [.int a,.int b])=>lowB a b && !decide (a<0)
  | _=>false
 | _=>false
inductive A9 (C:Addr) (vs:List V) (H:Hp) (Q:VK) (E:XK):Prop
 | mk:∀x,(vs = [x])->(Bo H x)->((sqV H x=false->E (.ref C) none H))->((sqV H x=true->Q .non H))->A9 C vs H Q E
theorem sD{H:Hp}{x:V}(h:g8 H x=false):sqV H x=false:=by
 unfold sqV
 split
 ·split
  ·rename_i p _ a b e
   rw[qV e]at h;rw[h,Bool.false_and]
  ·rfl
 ·rfl
theorem sB{H:Hp}{p:Addr}{a b:Int}(e:H p=some (.tup [.int a,.int b])):sqV H (.ref p)=(lowB a b && !decide (a<0)):=by
 simp only[sqV,e]
end Sp24
namespace L2
open PySem PySem.Spec PyProof.Rows
end L2
namespace Sp7
open PySem PySem.Spec L2 Mth Sp1 Sp2 Sp3
def wq:Int:=999999999999
def Sm(x:Int):Prop:=-wq≤x∧x≤wq
structure LineM(H:Hp)(l:Addr)(qs:Crn):Prop where
 lst:H l=some (.lst (qs.map fun q=>V.ref q.1))
 crn:∀q∈qs,H q.1=some (.tup [.int q.2.1,.int q.2.2])∧Sm q.2.1∧Sm q.2.2
theorem LineM.mono{H H':Hp}{l:Addr}{qs:Crn}(L:LineM H l qs)(s:Same H H'):LineM H' l qs:=⟨s _ _ L.lst,fun q h=>⟨s _ _ (L.crn q h).1,(L.crn q h).2⟩⟩
def retScope(s:Stmt):Scope:=match s with
 | .Return (some (.Call _ [.ListComp _ _ sc _] _ _)) _=>sc
 | .Return (some (.ListComp _ _ sc _)) _=>sc
 | _=>{ kind:=.function,names:=[],isGenerator:=false,isCoroutine:=false }
end Sp7
namespace L2
open PySem PySem.Spec PyProof.Rows
theorem Same.at{H H':Hp}{b:Addr}{o:HO}(s:Same H H')(e:H b=some o):H' b=some o:=s b o e
theorem Same.rfl'{H:Hp}:Same H H:=fun _ _ e=>e
theorem alloc{H:Hp}{o:HO}{Q:Addr->Hp->Prop}(h:∀p H1,Same H H1->H1 p=some o->Q p H1):∀p,H p=none->Q p (upd H p o):=fun p hp=>h p _ (Same.new hp) upd_same
theorem bits_add2{i j:Int}{m n:Nat}(hi:au i≤m)(hj:au j≤n):au (i+j)≤max m n+1:=br (aw hi (Nat.le_max_left _ _)) (aw hj (Nat.le_max_right _ _))
theorem bK{p:Prop}[Decidable p](h:decide p=true):p:=of_decide_eq_true h
theorem bY{p:Prop}[Decidable p](h:decide p=false):¬p:=of_decide_eq_false h
theorem CM.of{i j:Int}{m n:Nat}(hi:au i≤m)(hj:au j≤n)(h:m≤1000000∧n≤1000000):CM i j:=CM.b hi hj (by have:(2:Nat)^20=1048576:=(by decide);omega) (by have:(2:Nat)^20=1048576:=(by decide);omega)
theorem bits_of_le{i:Int}{m n:Nat}(h:au i≤m)(hm:m≤n):au i≤n:=Nat.le_trans h hm
end L2
namespace L2
open PySem PySem.Spec PyProof.Rows
def SameT(H H':Hp):Prop:=∀b xs,H b=some (.tup xs)->H' b=some (.tup xs)
theorem Same.t{H H':Hp}(s:Same H H'):SameT H H':=fun b xs e=>s b _ e
theorem SameT.refl{H:Hp}:SameT H H:=fun _ _ e=>e
theorem SameT.trans{H H1 H2:Hp}(a:SameT H H1)(b:SameT H1 H2):SameT H H2:=fun c xs e=>b c xs (a c xs e)
theorem SameT.upd{H:Hp}{l:Addr}{xs ys:List V}(hl:H l=some (.lst xs)):SameT H (upd H l (.lst ys)):=fun b zs e=>by
 rw[aM (oo e hl (by intro z;cases z))];exact e
theorem Same.upd{H0 H:Hp}{l:Addr}{o:HO}(s:Same H0 H)(hl:H0 l=none):Same H0 (upd H l o):=fun b u e=>by
 rw[aM (aV e hl)];exact s b u e
def nK(J:It)(fv:List (Str×Nat))(te:TE)(σ:St)(H1:Hp)(Q:VK):Prop:=∀p,H1 p=none->∃W:Nat->Nat->List V->Hp->Prop,(∃m,W 0 m [] (upd H1 p (.lst [])))∧∀i m acc H2,W i m acc H2 ->
 H2 p=some (.lst acc)∧acc.length<sizeLine∧((J.stop i H2∧Q (.ref p) H2)∨(J.go i H2∧∀x H3,J.yld i H2 x H3->te (some x::fvs fv σ) H3 fun y H4=>H4 p=some (.lst acc)∧∃m',m'<m∧W (i+1) m' (acc++[y]) (upd H4 p (.lst (acc++[y])))))
def qu(wi:TI)(fv:List (Str×Nat))(te:TE):TE:=fun σ H Q=>wi σ H fun J H1=>nK J fv te σ H1 Q
section
variable {X:Cx} {scope:Scope} {cl:List (Str×Addr)} {x:Str} {fv:List (Str×Nat)} {elt iter:Expr} {px pos:Pos} {te:TE}
theorem lE{wi:TI}(hcalm:X.calm=true)(C:zC X scope cl x fv)(hi:PI X (.Name x px) iter wi)(he:∀(fp:List Addr) (s₀:Shared) (H₀:Hp),PE (X.blk (x::fv.map (·.1)) scope cl fp s₀ H₀) elt te)
  (hs:∀v,foldedSetIterable iter X.env v=pure v:=by intro _;rfl):PE X (.ListComp elt [⟨.Name x px,iter,[],0⟩] scope pos) (qu wi fv te):=sO hcalm C hi he hs
theorem eJ{wi:TI}{y:Str}{j:Nat}{py spos:Pos}(hcalm:X.calm=true)(C:zC X scope cl x fv)(hN:X.N.Nodup)(hj:X.N[j]? = some y)(hy:X.env.scope.names.lookup y=some .local)(hi:PI X (.Name x px) iter wi)(he:∀(fp:List Addr) (s₀:Shared) (H₀:Hp),PE (X.blk (x::fv.map (·.1)) scope cl fp s₀ H₀) elt te)
  (hsw:swapsWith (.ListComp elt [⟨.Name x px,iter,[],0⟩] scope pos) (some (.Name y py)) spos.line X.env=pure true:=by rfl)
  (hs:∀v,foldedSetIterable iter X.env v=pure v:=by intro _;rfl):PS X (.Assign [.Name y py] (.ListComp elt [⟨.Name x px,iter,[],0⟩] scope pos) spos) (qv (qu wi fv te) (i8 j)):=mV hcalm C hN hj hy hi he hsw hs
end
theorem kR{K:W.Frag}{a:Addr}{xs:List V}{fv:List (Str×Nat)}{te:TE}{σ:St}{H1:Hp}{Q:VK}(hL:SqL K H1 a xs)(hlen:xs.length<1000)(R:Nat->V->Hp->Prop)(hR:∀i v H H',SameT H H'->R i v H->R i v H')
  (hs:∀i x H2 (Kc:VK),xs[i]? = some x->Same H1 H2->(∀y H4,Same H2 H4->R i y H4->Kc y H4)->te (some x::fvs fv σ) H2 Kc)
  (hd:∀l ys H',H1 l=none->Same H1 H'->H' l=some (.lst ys)->ys.length=xs.length->(∀i y,ys[i]? = some y->R i y H')->Q (.ref l) H') :
  nK (Itl K a) fv te σ H1 Q:=by
 intro l hl;refine qc (K:=K) (a:=a) (xs:=xs) (l:=l) (fv:=fv) (Qp:=fun H2=>Q (.ref l) H2) (fun i acc H2=>acc.length=i∧Same H1 H2∧H2 l=some (.lst acc)∧∀j y,acc[j]? = some y->R j y H2)
  ⟨rfl,Same.new hl,upd_same,fun j y h=>by simp at h⟩ ?_ ?_ ?_
 ·rintro i acc H2 hi ⟨e1,sm,e3,_⟩
  exact⟨sm.seq hL,e3,aT (by omega)⟩
 ·rintro i x acc H2 Kc hx ⟨e1,sm,e3,hr⟩ kk
  refine hs i x H2 Kc hx sm fun y H4 s4 ry=>kk y H4 (s4 _ _ e3) ⟨by simp[e1],(sm.trans s4).upd hl,upd_same,fun j z hz=>?_⟩;have t4:=SameT.upd (ys:=acc++[y]) (s4 _ _ e3);rcases Nat.lt_trichotomy j acc.length with h|h|h
  ·rw[List.getElem?_append_left h]at hz
   exact hR _ _ _ _ (s4.t.trans t4) (hr j z hz)
  ·subst h
   rw[List.getElem?_append_right (Nat.le_refl _),Nat.sub_self]at hz;cases hz;rw[e1];exact hR _ _ _ _ t4 ry
  ·rw[List.getElem?_eq_none (by simp;omega)]at hz
   cases hz
 ·rintro acc H2 ⟨e1,sm,e3,hr⟩
  exact hd l acc H2 hl sm e3 e1 hr
end L2
namespace L2
open PySem PySem.Spec PyProof.Rows
section
variable {X:Cx} {pos:Pos} {es:List Expr} {ta:TA}
inductive C9 (f:List V->HO) (xs:List V) (H1:Hp) (Q:VK):Prop
 | mk (z:xs.length≤sizeLine) (q:∀p H2,Same H1 H2->H2 p=some (f xs)->H1 p=none->Q (.ref p) H2):C9 f xs H1 Q
def vP(t:TA):TE:=fun σ H Q=>t σ H fun xs H1=>C9 .tup xs H1 Q
def vX(t:TA):TE:=fun σ H Q=>t σ H fun xs H1=>C9 .lst xs H1 Q
theorem az{x1}(h:PA X es ta):PE X (.Tuple es x1 pos) (vP ta):=by
 intro pins s σ H Q I hq;refine wpAny_Tuple_spliced (thn (h pos pins s σ H _ I hq) fun us s1 ⟨xs,H1,I1,r,z,q⟩=>⟨by rw[<- r.length];exact z,?_⟩);have hf:H1 s1.heap.objs.size=none:=I1.hok.fresh (Nat.le_refl _);refine⟨.ref s1.heap.objs.size,upd H1 s1.heap.objs.size (.tup xs),I1.laid (t':=s1.toks) (fun b u e=>Heap.get?_push_of_some _ e) (Nat.le_refl _) ?_,rfl,q _ _ (Same.new hf) upd_same hf⟩;exact⟨z,us,r,⟨_,Heap.get?_push_size _ rfl,rfl,_,rfl⟩⟩
theorem bD(h:PA X es ta):PE X (.List es pos) (vX ta):=by
 intro pins s σ H Q I hq;refine wpAny_List_spliced (thn (h pos pins s σ H _ I hq) fun us s1 ⟨xs,H1,I1,r,z,q⟩=>⟨by rw[<- r.length];exact z,?_⟩);have hf:H1 s1.heap.objs.size=none:=I1.hok.fresh (Nat.le_refl _);refine⟨.ref s1.heap.objs.size,upd H1 s1.heap.objs.size (.lst xs),I1.laid (t':=s1.toks) (fun b u e=>Heap.get?_push_of_some _ e) (Nat.le_refl _) ?_,rfl,q _ _ (Same.new hf) upd_same hf⟩;exact⟨z,us,0,r,Heap.get?_push_size _ rfl⟩
inductive Cz (K:W.Frag) (x:V) (lo:Option Int) (hi:Option Int) (H:Hp) (Q:VK):Prop
 | mk:∀a xs,(x = .ref a)->(SqL K H a xs)->(∀p H2,Same H H2->H2 p=some (.lst (fC xs lo hi))->H p=none->Q (.ref p) H2)->Cz K x lo hi H Q
theorem fW:SlR X (Cz X.K):=fun pins s σ H x v vl vu lo hi sl Q I rx hs pl pu ⟨a,xs,e,hx,q⟩ =>
 sF pins s σ H x v vl vu lo hi sl Q I rx hs pl pu ⟨a,xs,e,hx,fun p hp=>q p _ (Same.new hp) upd_same hp⟩
inductive CG (x:V) (y:V) (H:Hp) (Q:VK):Prop
 | mk:∀l b xs zs,(x = .ref l)->(y = .ref b)->(H l=some (.lst xs))->(H b=some (.lst zs))->(xs.length+zs.length≤sizeLine)->(∀p H2,Same H H2->H2 p=some (.lst (xs++zs))->H p=none->Q (.ref p) H2)->CG x y H Q
theorem kB:OpR X (binaryOp .Add) CG:=fun pins s σ H x y v u Q I rx ry ⟨l,b,xs,zs,e1,e2,h1,h2,hz,q⟩ =>
 vc pins s σ H x y v u Q I rx ry ⟨l,b,xs,zs,e1,e2,h1,h2,hz,fun p hp=>q p _ (Same.new hp) upd_same hp⟩
theorem dR:eY X (.type "list") (fun xs H Q=>∃p ys,xs = [.ref p]∧(SqL X.K H p ys∨SqT X.K H p ys)∧∀l H2,Same H H2->H2 l=some (.lst ys)->H l=none->Q (.ref l) H2):=fun pins s σ H xs us Q I r ⟨p,ys,e,hq,q⟩ =>
 kS pins s σ H xs us Q I r ⟨p,ys,e,hq,fun l hl=>q l _ (Same.new hl) upd_same hl⟩
structure BP(H H':Hp)(l:Addr)(xs ys:List V):Prop where
 was:H l=some (.lst xs)
 now:H' l=some (.lst ys)
 oth:∀b,b≠l->H' b=H b
theorem BP.mk'{H:Hp}{l:Addr}{xs ys:List V}(h:H l=some (.lst xs)):BP H (L2.upd H l (.lst ys)) l xs ys:=⟨h,upd_same,fun _ n=>aM n⟩
theorem BP.t{H H':Hp}{l:Addr}{xs ys:List V}(u:BP H H' l xs ys):SameT H H':=fun b zs e=>by
 rw[u.oth b (oo e u.was (by intro z;cases z))];exact e
theorem BP.same{H0 H H':Hp}{l:Addr}{xs ys:List V}(u:BP H H' l xs ys)(s:Same H0 H)(h:H0 l=none):Same H0 H':=fun b o e=>by
 rw[u.oth b (aV e h)];exact s b o e
theorem BP.at{H H':Hp}{l b:Addr}{xs ys:List V}{o:HO}(u:BP H H' l xs ys)(n:b≠l)(e:H b=some o):H' b=some o:=by
 rw[u.oth b n];exact e
inductive Bn (x:V) (vs:List V) (H:Hp) (Q:VK):Prop
 | mk:∀l xs y,(x = .ref l)->(vs = [y])->(H l=some (.lst xs))->(xs.length<sizeLine)->(∀H',BP H H' l xs (xs++[y])->Q .non H')->Bn x vs H Q
theorem aX:MtM X "list.append" Bn:=fun pins s σ H x xs v us Q I rx rs ⟨l,ys,y,e1,e2,h,hz,q⟩ =>
 gL pins s σ H x xs v us Q I rx rs ⟨l,ys,y,e1,e2,h,hz,q _ (.mk' h)⟩
inductive Ck (o:V) (i:V) (v:V) (H:Hp) (Q:(Hp->Prop)):Prop
 | mk:∀p xs k j,(o = .ref p)->(i = .int k)->(H p=some (.lst xs))->(ixN xs.length k=some j)->(∀H',BP H H' p xs (xs.set j v)->Q H')->Ck o i v H Q
theorem o4:vM X Ck:=fun pins s σ H o i v uo ui uv Q I ro ri rv ⟨p,xs,k,j,e1,e2,h,hj,q⟩ =>
 qB pins s σ H o i v uo ui uv Q I ro ri rv ⟨p,xs,k,j,e1,e2,h,hj,q _ (.mk' h)⟩
inductive AU (x:V) (vs:List V) (H:Hp) (Q:VK):Prop
 | mk:∀l xs,(x = .ref l)->(vs = [])->(H l=some (.lst xs))->(∀H',BP H H' l xs xs.reverse->Q .non H')->AU x vs H Q
theorem lP:MtM X "list.reverse" AU:=fun pins s σ H x xs v us Q I rx rs ⟨l,ys,e1,e2,h,q⟩ =>
 m6 pins s σ H x xs v us Q I rx rs ⟨l,ys,e1,e2,h,q _ (.mk' h)⟩
end
end L2
namespace L2
open PySem PySem.Spec PyProof.Rows
theorem g9{α:Type}{xs:List α}(h:xs.length=3):∃a b c,xs = [a,b,c]:=match xs,h with | [a,b,c],_=>⟨a,b,c,rfl⟩
theorem dI{α:Type}{xs:List α}(h:xs.length=2):∃a b,xs = [a,b]:=match xs,h with | [a,b],_=>⟨a,b,rfl⟩
theorem rh{α:Type}{xs:List α}(h:xs.length=4):∃a b c d,xs = [a,b,c,d]:=match xs,h with | [a,b,c,d],_=>⟨a,b,c,d,rfl⟩
theorem tm{α:Type}{xs:List α}(h:xs.length=5):∃a b c d e,xs = [a,b,c,d,e]:=match xs,h with | [a,b,c,d,e],_=>⟨a,b,c,d,e,rfl⟩
theorem len6{α:Type}{xs:List α}(h:xs.length=6):∃a b c d e f,xs = [a,b,c,d,e,f]:=match xs,h with | [a,b,c,d,e,f],_=>⟨a,b,c,d,e,f,rfl⟩
end L2
namespace L2
open PySem PySem.Spec PyProof.Rows
section
variable {X:Cx} {pins:List (Addr×Obj)} {σ:St} {H:Hp} {s:Shared}
theorem xq.turnedL{h':Heap}{t':Nat}{ch:List Addr}(I:xq X pins σ H s)(k:∀b o,b∉ch->s.heap.get? b=some o->h'.get? b=some o)(hf:∀b∈ch,eE X pins H b):xq X pins σ H { s with heap:=h',toks:=t' }:=by
 have nit:∀b u,H b=some u->b∉ch:=fun b u e z=>by
  have n:=(hf b z).1;rw[n]at e;cases e
 refine I.step (g':=s.gens) (d':=s.drawn) (ch:=ch) (fun b hb=>?_) (fun b o _ _ hc e _=>k b o hc e) (fun b o _ _ hc e _=>⟨o.slots,k b o hc e⟩) (fun _ _ _ _ n=>n)
  (fun b o hc e=>⟨o,k b o hc e⟩) (fun _ _ e=>e) (fun _ _ _ e=>e) (fun b ps e=>⟨#[],by rw[e];simp⟩) (fun m hm=>?_) (fun b u e=>?_) I.bare
 ·obtain⟨f0,f1,f2,f3,f4,f5⟩:=hf b hb
  exact⟨f3,f1,f4,f5⟩
 ·obtain⟨o,es,ep,ho,r⟩:=hm
  exact⟨o,es,ep,k _ o (fun z=>(hf _ z).2.1 rfl) ho,r⟩
 ·refine(I.hok b u e).stay (fun c v hc q=>k c v ?_ q) (fun _ q=>q) fun _ _ q=>q
  rcases hc with z|z
  ·rw[z];exact nit b u e
  ·exact nit c _ z
theorem oV{E:Value->Shared->Prop}{elts:List Expr}{kt:Nat}{pos:Pos}{i n:Nat}{z:Addr}{fpw wr:List Addr}{Pt:Nat->Array Value->Prop}{Stt:Nat->Heap->Prop}{Mid:Nat->Addr->Heap->Prop}{R:Value->Shared->Prop}
  (W:WalksT X.prog X.w X.A z fpw wr n Pt Stt Mid) (I:xq X pins σ H s) (hwr:∀b∈wr,eE X pins H b) (hi:i<n) (st:Stt i s.heap)
  (k:∀T vals s2,Pt i vals->s.heap.objs.size≤T->s2.heap.IsTuple T vals->Stt (i+1) s2.heap->xq X pins σ H s2->(∀b o,b∉wr->s.heap.get? b=some o->s2.heap.get? b=some o)->R (.ref T) s2) :
  wpAny (model X.prog X.w) X.A (pyNext (.ref z)) (fun r s1=>∃u,r=some u∧wpAny (model X.prog X.w) X.A (letOwnedTupleGo (.Tuple elts kt pos) (.ref z) u) (fun _ s2=>R u s2) E s1) E s:=by
 refine W.item i s _ E hi st fun T vals h' tk hp hT tup mid kk=>⟨.ref T,rfl,?_⟩;refine W.go elts kt pos i T _ _ E mid fun h2 st2 k2=>?_;have kall:∀b o,b∉wr->s.heap.get? b=some o->h2.get? b=some o:=fun b o hb e=>k2 b o hb (kk b o hb e);obtain⟨o,eo,ro⟩:=tup;exact k T vals _ hp hT ⟨o,k2 T o (W.apart i T _ mid) eo,ro⟩ st2 (I.turnedL (t':=tk) kall hwr) kall
theorem oY{T:Addr}{s2:Shared}{xs:List V}{us:List Value}(I:xq X pins σ H s)(J:xq X pins σ H s2)(hT:s.heap.objs.size≤T)(ht:s2.heap.IsTuple T us.toArray)(r:aP xs us)(hz:xs.length≤sizeLine):xq X pins σ (upd H T (.tup xs)) s2∧H T=none:=by
 have hn:H T=none:=I.hok.fresh hT;obtain⟨f0,f1,f2,f3,f4,f5⟩:=I.fpOk hT hn;refine⟨J.track hn ?_ f1 f4 f5 ⟨hz,us,r,ht⟩,hn⟩;cases e:X.s₀.heap.get? T with
 | none=>rfl
 | some o =>
  have h1:=Heap.lt_size e;have h2:=I.sz;exact absurd (Nat.lt_of_lt_of_le h1 (Nat.le_trans h2 hT)) (Nat.lt_irrefl _)
end
def Ite(K:W.Frag)(l:Addr):It :=
  ⟨fun i H=>∃xs x,SqL K H l xs∧xs[i]? = some x,
   fun i H v H'=>∃p x,v = .ref p∧H p=none∧H'=upd H p (.tup [.int (i:Int),x])∧∀xs,SqL K H l xs->xs[i]? = some x,
   fun i H=>∃xs,SqL K H l xs∧i=xs.length⟩
theorem oW{P:Program}{w:World}{K:W.Frag}{elts:List Expr}{kt:Nat}{pos:Pos}(e it l:Addr)(hei:e≠it)(hle:l≠e)(hli:l≠it) :
  Bf P w K (.Tuple elts kt pos) (Ite K l) [e,it] e (fun i h=>(∃old,IsEnum h e it i old)∧h.IsListIter it l i) where
 mem:=by simp
 obj:=fun i h st b hb=>by
  obtain⟨⟨old,he⟩,⟨o1,e1,c1,d1⟩⟩:=st;simp only[List.mem_cons,List.not_mem_nil,or_false]at hb;rcases hb with rfl|rfl
  ·exact⟨_,he,fun v y=>by cases y⟩
  ·exact⟨o1,e1,fun v y=>by rw[d1]at y;cases y⟩
 keep:=fun i h h' st k=>by
  obtain⟨⟨old,he⟩,h1⟩:=st;exact⟨⟨old,k e (by simp) _ he⟩,h1.at fun o x=>k it (by simp) o x⟩
 item:=by
  intro X hP hw hK hc i pins s σ H E I hf st hg;subst hP hw hK;obtain⟨xs,x,q1,hx⟩:=hg;obtain⟨its,r1,p1,_⟩:=I.list q1;obtain⟨u1,hu1,ru1⟩:=r1.get hx;have W:=WalksT.enumerate (prog:=X.prog) (w:=X.w) (I.ok.hd hc) e it l hei hle hli its.toArray;have hn:i<its.toArray.size:=by
   have g1:=(List.getElem?_eq_some_iff.mp hu1).1;simp only[List.size_toArray];omega
  obtain⟨he,h1⟩:=st;refine oV W I (fun b hb=>hf b (by simpa using hb)) hn ⟨he,h1,p1.isList⟩ fun T vals s2 hp hT tup st2 J2 kall=>?_;obtain⟨tk,v1,e1,rfl⟩:=hp;have e1':its[i]? = some v1:=by simpa using e1
  rw[hu1]at e1';cases e1';obtain⟨J3,nT⟩:=oY (xs:=[.int (i:Int),x]) (us:=[.int i tk,u1]) I J2 hT tup (.cons ⟨_,rfl⟩ (.cons ru1 .nil)) (Sp1.sz (by simp));obtain⟨he2,h12,_⟩:=st2;refine⟨.ref T,upd H T (.tup [.int (i:Int),x]),J3,rfl,⟨T,x,rfl,nT,rfl,fun as qa=>?_⟩,⟨he2,h12⟩,fun b hb=>?_⟩
  ·rw[I.list_inj qa q1]
   exact hx
  ·have hb':∃o,s.heap.get? b=some o:=by
    obtain⟨old,he⟩:=he;obtain⟨o1,e1,_⟩:=h1;simp only[List.mem_cons,List.not_mem_nil,or_false]at hb;rcases hb with rfl|rfl
    ·exact⟨_,he⟩
    ·exact⟨_,e1⟩
   obtain⟨o,eo⟩:=hb';rw[aM (Nat.ne_of_lt (Nat.lt_of_lt_of_le (Heap.lt_size eo) hT))];exact(hf b hb).1
 done:=by
  intro X hP hw hK hc i pins s σ H E I hf st hg;subst hP hw hK;obtain⟨xs,q1,rfl⟩:=hg;obtain⟨its,r1,p1,_⟩:=I.list q1;have W:=WalksT.enumerate (prog:=X.prog) (w:=X.w) (I.ok.hd hc) e it l hei hle hli its.toArray;obtain⟨he,h1⟩:=st;refine W.done s _ E ?_ fun h' tk kk=>⟨rfl,I.turnedL (t':=tk) kk fun b hb=>hf b (by simpa using hb)⟩;rw[List.size_toArray,<- r1.length];exact⟨he,h1,p1.isList⟩
 self:=fun _ _ _ _ _ st h=>by
  obtain⟨⟨old,he⟩,_⟩:=st;exact wpAny_pyIter_enum he h
section
variable {X:Cx} {elts:List Expr} {kt:Nat} {tpos:Pos}
def wB(K:W.Frag)(ta:TA):TI:=fun σ H R=>ta σ H fun vs H1=>∃a,vs = [.ref a]∧(∃xs,SqL K H1 a xs)∧R (Ite K a) H1
theorem kX:bootBuiltins "enumerate" = some (.type "enumerate"):=by decide +kernel
theorem io{a:Expr}{ta:TA}{p pos:Pos}(hg:Gl X "enumerate")(hm:X.mg "enumerate" = none)(ha:PA X [a] ta)(hs:starEach [a] X.env = [(false,eval a X.env)]:=by rfl) :
  PI X (.Tuple elts kt tpos) (.Call (.Name "enumerate" p) [a] [] pos) (wB X.K ta):=by
 intro pins s σ H R I h;refine Call_ (fI I hg hm kX (PyProof.Rows.callWith_type1 (thn (ha pos pins s σ H _ I h) fun us s1 ⟨vs,H1,I1,r1,q1⟩=>?_) hs rfl));obtain⟨l,e,⟨xs,hx⟩,q⟩:=q1;subst e;cases r1 with
 | cons r rr =>
  cases rr;cases r;obtain⟨its,_,p1,_⟩:=I1.list hx;refine call_enumerate_list p1.isList fun h' he hi hsz hk=>?_;refine wpAny_pyIter_enum he ?_;have a1:l<s1.heap.objs.size:=by obtain⟨_,e,_⟩:=p1.isList;exact Heap.lt_size e
  refine⟨s1.heap.objs.size+1,[s1.heap.objs.size+1,s1.heap.objs.size],_,_,H1,rfl,I1.kept (t':=s1.toks) hk,oW _ _ l (Nat.succ_ne_self _) (Nat.ne_of_lt (Nat.lt_succ_of_lt a1)) (Nat.ne_of_lt a1),⟨⟨_,he⟩,hi⟩,fun b hb=>?_,q⟩;have hb':s1.heap.objs.size≤b:=by
   simp only[List.mem_cons,List.not_mem_nil,or_false]at hb;rcases hb with rfl|rfl <;> omega
  exact I1.fpOk hb' (I1.hok.fresh hb')
end
theorem gw{K:W.Frag}{a:Addr}{xs:List V}{g:TG}{tb:TS}{D:AT}{σ:St}{H:Hp}(Pv:Nat->St->Hp->Prop)(h0:Pv 0 σ H)(hl:∀i σ H,i≤xs.length->Pv i σ H->SqL K H a xs)
  (hs:∀i x p σ H H1,xs[i]? = some x->Pv i σ H->Same H H1->H1 p=some (.tup [.int (i:Int),x])->g (.ref p) σ H1 fun σ2 H2=>tb { D with nx:=Pv (i+1),ct:=Pv (i+1),bk:=D.nx } σ2 H2) (hd:∀σ H,Pv xs.length σ H->D.nx σ H) :
  ∃W:Nat->Nat->St->Hp->Prop,(∃m,W 0 m σ H)∧∀i m σ H,W i m σ H ->
   ((Ite K a).stop i H∧D.nx σ H)∨((Ite K a).go i H∧∃N:St->Hp->Prop,(∀σ' H',N σ' H'->∃m',m'<m∧W (i+1) m' σ' H')∧∀x H',(Ite K a).yld i H x H'->g x σ H' fun σ2 H2=>tb { D with nx:=N,ct:=N,bk:=D.nx } σ2 H2):=by
 refine⟨fun i m σ H=>m=xs.length - i∧i≤xs.length∧Pv i σ H,⟨_,rfl,Nat.zero_le _,h0⟩,?_⟩;rintro i m σ H ⟨rfl,hi,p⟩;have q1:=hl i σ H hi p
 by_cases hlt:i<xs.length
 ·refine .inr ⟨⟨xs,xs[i],q1,by simp[hlt]⟩,Pv (i+1),fun σ' H' p'=>⟨_,by omega,rfl,hlt,p'⟩,fun v H' y=>?_⟩
  obtain⟨t,x,rfl,nt,rfl,e⟩:=y;exact hs i x t σ H _ (e xs q1) p (Same.new nt) upd_same
 ·have e:i=xs.length:=by omega
  subst e;exact .inl ⟨⟨xs,q1,rfl⟩,hd σ H p⟩
end L2
namespace L2
open PySem PySem.Spec PyProof.Rows
inductive D where
 | non|bl (b:Bool)|int (i:Int)|str (x:Str)|tup (ds:List D)|lst (ds:List D)
inductive Rp (H:Hp):Nat->V->D->Prop where
 | non {n:Nat}:Rp H n .non .non
 | bl {n:Nat} {b:Bool}:Rp H n (.bl b) (.bl b)
 | int {n:Nat} {i:Int}:Rp H n (.int i) (.int i)
 | str {n:Nat} {x:Str}:Rp H n (.str x) (.str x)
 | tup {n:Nat} {p:Addr} {xs:List V} {ds:List D} (e:H p=some (.tup xs)) (hl:xs.length=ds.length) (h:∀(j:Nat) x d,xs[j]? = some x->ds[j]? = some d->Rp H n x d):Rp H (n+1) (.ref p) (.tup ds)
 | lst {n:Nat} {p:Addr} {xs:List V} {ds:List D} (e:H p=some (.lst xs)) (hl:xs.length=ds.length) (h:∀(j:Nat) x d,xs[j]? = some x->ds[j]? = some d->Rp H n x d):Rp H (n+1) (.ref p) (.lst ds)
mutual
def deq:D->D->Bool
 | .non,.non=>true
 | .bl a,.bl b=>a == b
 | .bl a,.int b=>(if a then 1 else 0) == b
 | .int a,.bl b=>a == (if b then 1 else 0)
 | .int a,.int b=>a == b
 | .str a,.str b=>a == b
 | .tup xs,.tup ys=>ib xs ys
 | .lst xs,.lst ys=>ib xs ys
 | _,_=>false
def ib:List D->List D->Bool
 | [],[]=>true
 | x::xs,y::ys=>deq x y && ib xs ys
 | _,_=>false
end
theorem eW:∀(ds es:List D),((List.range (min ds.length es.length)).all (fun j=>deq (ds.getD j .non) (es.getD j .non)) && ds.length == es.length)=ib ds es
 | [],[]=>by simp[ib]
 | [],e::es=>by simp[ib]
 | d::ds,[]=>by simp[ib]
 | d::ds,e::es=>by
  have ih:=eW ds es;have hm:min (d::ds).length (e::es).length=min ds.length es.length+1:=by simp only[List.length_cons];omega
  rw[hm,List.range_succ_eq_map,List.all_cons,List.all_map];simp only[ib,List.getD_cons_zero,List.length_cons];rw[<- ih,Bool.and_assoc]
  congr 1
  simp[Function.comp_def]
theorem mB{ds es:List D}(h:ds.length≠es.length):ib ds es=false:=by
 rw[<- eW];simp[h]
theorem gR{ds es:List D}(h:ds.length=es.length):(List.range ds.length).all (fun j=>deq (ds.getD j .non) (es.getD j .non))=ib ds es:=by
 rw[<- eW,h];simp
theorem oK{ds es:List D}(hl:ds.length=es.length)(h:∀(j:Nat) d e,ds[j]? = some d->es[j]? = some e->deq d e=true):ib ds es=true:=by
 rw[<- gR hl,List.all_eq_true];intro j hj;have hj':j<ds.length:=List.mem_range.mp hj;have hj2:j<es.length:=by omega
 have e1:ds[j]? = some ds[j]:=List.getElem?_eq_getElem hj';have e2:es[j]? = some es[j]:=List.getElem?_eq_getElem hj2;rw[List.getD_eq_getElem?_getD,List.getD_eq_getElem?_getD,e1,e2];exact h j _ _ e1 e2
theorem iZ{α β:Type}{xs:List α}{ds:List β}{j:Nat}{d:β}(hl:xs.length=ds.length)(h:ds[j]? = some d):∃x,xs[j]? = some x:=by
 have:=(List.getElem?_eq_some_iff.mp h).1;exact⟨xs[j],List.getElem?_eq_getElem (by omega)⟩
theorem Rp.self{H:Hp}{n m:Nat}{v:V}{d e:D}(r:Rp H n v d)(q:Rp H m v e):deq d e=true:=by
 induction r generalizing m e with
 | non=>cases q;rfl
 | bl=>cases q;simp[deq]
 | int=>cases q;simp[deq]
 | str=>cases q;simp[deq]
 | tup e1 hl h ih =>
  cases q with
  | tup e2 hl2 h2 =>
   rw[e1]at e2;cases e2;refine oK (by omega) fun j a b ea eb=>?_;obtain⟨x,hx⟩:=iZ hl ea;exact ih j x a hx ea (h2 j x b hx eb)
  | lst e2 hl2 h2=>rw[e1]at e2;cases e2
 | lst e1 hl h ih =>
  cases q with
  | tup e2 hl2 h2=>rw[e1]at e2;cases e2
  | lst e2 hl2 h2 =>
   rw[e1]at e2;cases e2;refine oK (by omega) fun j a b ea eb=>?_;obtain⟨x,hx⟩:=iZ hl ea;exact ih j x a hx ea (h2 j x b hx eb)
section
variable {X:Cx} {pins:List (Addr×Obj)} {σ:St} {H:Hp} {s:Shared}
theorem iz{A:Around}{xs ys:List V}{us ws:List Value}{ds es:List D}(r:aP xs us)(r':aP ys ws)(hl:xs.length=ds.length)(hl':ys.length=es.length)
  (h:∀(j:Nat) x y d e u w,xs[j]? = some x->ys[j]? = some y->ds[j]? = some d->es[j]? = some e->aS x u->aS y w->SeqAt.EqAt A s u w (deq d e))
  (j:Nat) (h1:j<us.toArray.size) (h2:j<ws.toArray.size):SeqAt.EqAt A s us.toArray[j] ws.toArray[j] (deq (ds.getD j .non) (es.getD j .non)):=by
 rw[List.size_toArray]at h1 h2;obtain⟨a,ea,ra⟩:=nM r h1;obtain⟨c,ec,rc⟩:=nM r' h2;have g1:=(List.getElem?_eq_some_iff.mp ea).1;have g2:=(List.getElem?_eq_some_iff.mp ec).1;have e1:ds[j]? = some ds[j]:=List.getElem?_eq_getElem (by omega);have e2:es[j]? = some es[j]:=List.getElem?_eq_getElem (by omega);rw[List.getD_eq_getElem?_getD,List.getD_eq_getElem?_getD,e1,e2];exact h j a c _ _ _ _ ea ec e1 e2 ra rc
theorem Rp.eqAt{n:Nat}{x:V}{d:D}(r:Rp H n x d):∀{m:Nat} {y:V} {e:D} {A:Around} {u v:Value},Rp H m y e->xq X pins σ H s->aS x u->aS y v->A.units+n<cLine->SeqAt.EqAt A s u v (deq d e):=by
 induction r with
 | non =>
  intro m y e A u v q I ru rv hu;cases ru;cases q with
  | non=>cases rv;exact SeqAt.EqAt.same _
  | bl=>cases rv;exact SeqAt.EqAt.none_bool _
  | int=>obtain⟨_,rfl⟩:=rv;exact SeqAt.EqAt.none_int _ _
  | str=>obtain⟨_,rfl⟩:=rv;exact SeqAt.EqAt.none_str _ _
  | tup e1 hl h=>cases rv;obtain⟨its,_,pl,_⟩:=I.tuple (SqT.of e1);exact SeqAt.EqAt.none_tuple pl (by omega)
  | lst e1 hl h=>cases rv;obtain⟨its,_,pl,_⟩:=I.list (SqL.of e1);exact SeqAt.EqAt.none_list pl.isList (by omega)
 | bl =>
  intro m y e A u v q I ru rv hu;cases ru;cases q with
  | non=>cases rv;exact SeqAt.EqAt.bool_none _
  | bl=>cases rv;exact SeqAt.EqAt.bool_bool _ _
  | int=>obtain⟨_,rfl⟩:=rv;exact SeqAt.EqAt.bool_int _ _ _
  | str=>obtain⟨_,rfl⟩:=rv;exact SeqAt.EqAt.bool_str _ _ _
  | tup e1 hl h=>cases rv;obtain⟨its,_,pl,_⟩:=I.tuple (SqT.of e1);exact SeqAt.EqAt.bool_tuple _ pl (by omega)
  | lst e1 hl h=>cases rv;obtain⟨its,_,pl,_⟩:=I.list (SqL.of e1);exact SeqAt.EqAt.bool_list _ pl.isList (by omega)
 | int =>
  intro m y e A u v q I ru rv hu;obtain⟨_,rfl⟩:=ru;cases q with
  | non=>cases rv;exact SeqAt.EqAt.int_none _ _
  | bl=>cases rv;exact SeqAt.EqAt.int_bool _ _ _
  | int=>obtain⟨_,rfl⟩:=rv;exact SeqAt.EqAt.int_int _ _ _ _
  | str=>obtain⟨_,rfl⟩:=rv;exact SeqAt.EqAt.int_str _ _ _ _
  | tup e1 hl h=>cases rv;obtain⟨its,_,pl,_⟩:=I.tuple (SqT.of e1);exact SeqAt.EqAt.int_tuple _ _ pl (by omega)
  | lst e1 hl h=>cases rv;obtain⟨its,_,pl,_⟩:=I.list (SqL.of e1);exact SeqAt.EqAt.int_list _ _ pl.isList (by omega)
 | str =>
  intro m y e A u v q I ru rv hu;obtain⟨_,rfl⟩:=ru;cases q with
  | non=>cases rv;exact SeqAt.EqAt.str_none _ _
  | bl=>cases rv;exact SeqAt.EqAt.str_bool _ _ _
  | int=>obtain⟨_,rfl⟩:=rv;exact SeqAt.EqAt.str_int _ _ _ _
  | str=>obtain⟨_,rfl⟩:=rv;exact SeqAt.EqAt.str_str _ _ _ _
  | tup e1 hl h=>cases rv;obtain⟨its,_,pl,_⟩:=I.tuple (SqT.of e1);exact SeqAt.EqAt.str_tuple _ _ pl (by omega)
  | lst e1 hl h=>cases rv;obtain⟨its,_,pl,_⟩:=I.list (SqL.of e1);exact SeqAt.EqAt.str_list _ _ pl.isList (by omega)
 | @tup n p xs ds e0 hl h ih =>
  intro m y e A u v q I ru rv hu;cases ru;obtain⟨its,r1,pl,_⟩:=I.tuple (SqT.of e0);cases q with
  | non=>cases rv;exact SeqAt.EqAt.tuple_none pl (by omega)
  | bl=>cases rv;exact SeqAt.EqAt.tuple_bool _ pl (by omega)
  | int=>obtain⟨_,rfl⟩:=rv;exact SeqAt.EqAt.tuple_int _ _ pl (by omega)
  | str=>obtain⟨_,rfl⟩:=rv;exact SeqAt.EqAt.tuple_str _ _ pl (by omega)
  | lst e1 hl1 h1=>cases rv;obtain⟨jts,_,pl',_⟩:=I.list (SqL.of e1);exact SeqAt.EqAt.tuple_list pl pl'.isList (by omega)
  | @tup m p' ys es e1 hl1 h1 =>
   cases rv
   by_cases hne:p=p'
   ·subst hne
    have z:deq (.tup ds) (.tup es)=true:=Rp.self (Rp.tup e0 hl h) (Rp.tup e1 hl1 h1);rw[z];exact SeqAt.EqAt.same _
   ·obtain⟨jts,r2,pl',_⟩:=I.tuple (SqT.of e1)
    have y:=SeqAt.RcAt.tuples (A:=A) (e:=fun j=>deq (ds.getD j .non) (es.getD j .non)) pl pl' (by omega) (iz r1 r2 hl hl1 fun j x y d e u w a b c k ra rb=>ih j x d a c (h1 j y e b k) I ra rb (by show A.units+1+n<cLine;omega));rw[List.size_toArray,List.size_toArray,<- r1.length,<- r2.length,hl,hl1,eW]at y;exact SeqAt.EqAt.of_refs hne y
 | @lst n p xs ds e0 hl h ih =>
  intro m y e A u v q I ru rv hu;cases ru;obtain⟨its,r1,pl,_⟩:=I.list (SqL.of e0);cases q with
  | non=>cases rv;exact SeqAt.EqAt.list_none pl.isList (by omega)
  | bl=>cases rv;exact SeqAt.EqAt.list_bool _ pl.isList (by omega)
  | int=>obtain⟨_,rfl⟩:=rv;exact SeqAt.EqAt.list_int _ _ pl.isList (by omega)
  | str=>obtain⟨_,rfl⟩:=rv;exact SeqAt.EqAt.list_str _ _ pl.isList (by omega)
  | tup e1 hl1 h1=>cases rv;obtain⟨jts,_,pl',_⟩:=I.tuple (SqT.of e1);exact SeqAt.EqAt.list_tuple pl.isList pl' (by omega)
  | @lst m p' ys es e1 hl1 h1 =>
   cases rv
   by_cases hne:p=p'
   ·subst hne
    have z:deq (.lst ds) (.lst es)=true:=Rp.self (Rp.lst e0 hl h) (Rp.lst e1 hl1 h1);rw[z];exact SeqAt.EqAt.same _
   ·obtain⟨jts,r2,pl',_⟩:=I.list (SqL.of e1)
    have g1:=r1.length;have g2:=r2.length
    by_cases hz:ds.length=es.length
    ·have y:=SeqAt.RcAt.lists (A:=A) (e:=fun j=>deq (ds.getD j .non) (es.getD j .non)) pl.isList pl'.isList (by rw[List.size_toArray,List.size_toArray];omega) (by omega) (iz r1 r2 hl hl1 fun j x y d e u w a b c k ra rb=>ih j x d a c (h1 j y e b k) I ra rb (by show A.units+1+n<cLine;omega))
     rw[List.size_toArray,<- r1.length,hl,gR hz]at y;exact SeqAt.EqAt.of_refs hne y
    ·rw[show deq (.lst ds) (.lst es)=false from mB hz]
     exact SeqAt.EqAt.of_refs hne (SeqAt.RcAt.lists_lengths pl.isList pl'.isList (by rw[List.size_toArray,List.size_toArray];simp;omega) (by omega))
end
end L2
namespace L2
open PySem PySem.Spec PyProof.Rows
section
variable {X:Cx} {pins:List (Addr×Obj)} {σ:St} {H:Hp} {s:Shared}
theorem Rp.rcNeAt{A:Around}{n m:Nat}{x y:V}{d e:D}{u v:Value}(r:Rp H n x d)(q:Rp H m y e)(I:xq X pins σ H s)(ru:aS x u)(rv:aS y v)(hu:A.units+n+1<cLine):SeqAt.RcNeAt A s u v (!(deq d e)):=by
 cases r with
 | non =>
  cases q with
  | non =>
   cases ru;cases rv;exact SeqAt.RcNeAt.none_none
  | bl =>
   cases ru;cases rv;exact SeqAt.RcNeAt.none_bool _
  | int =>
   cases ru;obtain⟨_,rfl⟩:=rv;exact SeqAt.RcNeAt.none_int _ _
  | str =>
   cases ru;obtain⟨_,rfl⟩:=rv;exact SeqAt.RcNeAt.none_str _ _
  | @tup m p' ys es e1 hl1 h1 =>
   cases ru;cases rv;obtain⟨jts,r2,pl',_⟩:=I.tuple (SqT.of e1);exact SeqAt.RcNeAt.none_tuple pl' (by omega)
  | @lst m p' ys es e1 hl1 h1 =>
   cases ru;cases rv;obtain⟨jts,r2,pl',_⟩:=I.list (SqL.of e1);exact SeqAt.RcNeAt.none_list pl'.isList (by omega)
 | bl =>
  cases q with
  | non =>
   cases ru;cases rv;exact SeqAt.RcNeAt.bool_none _
  | bl =>
   cases ru;cases rv;exact SeqAt.RcNeAt.bool_bool _ _
  | int =>
   cases ru;obtain⟨_,rfl⟩:=rv;exact SeqAt.RcNeAt.bool_int _ _ _
  | str =>
   cases ru;obtain⟨_,rfl⟩:=rv;exact SeqAt.RcNeAt.bool_str _ _ _
  | @tup m p' ys es e1 hl1 h1 =>
   cases ru;cases rv;obtain⟨jts,r2,pl',_⟩:=I.tuple (SqT.of e1);exact SeqAt.RcNeAt.bool_tuple _ pl' (by omega)
  | @lst m p' ys es e1 hl1 h1 =>
   cases ru;cases rv;obtain⟨jts,r2,pl',_⟩:=I.list (SqL.of e1);exact SeqAt.RcNeAt.bool_list _ pl'.isList (by omega)
 | int =>
  cases q with
  | non =>
   obtain⟨_,rfl⟩:=ru;cases rv;exact SeqAt.RcNeAt.int_none _ _
  | bl =>
   obtain⟨_,rfl⟩:=ru;cases rv;exact SeqAt.RcNeAt.int_bool _ _ _
  | int =>
   obtain⟨_,rfl⟩:=ru;obtain⟨_,rfl⟩:=rv;exact SeqAt.RcNeAt.int_int _ _ _ _
  | str =>
   obtain⟨_,rfl⟩:=ru;obtain⟨_,rfl⟩:=rv;exact SeqAt.RcNeAt.int_str _ _ _ _
  | @tup m p' ys es e1 hl1 h1 =>
   obtain⟨_,rfl⟩:=ru;cases rv;obtain⟨jts,r2,pl',_⟩:=I.tuple (SqT.of e1);exact SeqAt.RcNeAt.int_tuple _ _ pl' (by omega)
  | @lst m p' ys es e1 hl1 h1 =>
   obtain⟨_,rfl⟩:=ru;cases rv;obtain⟨jts,r2,pl',_⟩:=I.list (SqL.of e1);exact SeqAt.RcNeAt.int_list _ _ pl'.isList (by omega)
 | str =>
  cases q with
  | non =>
   obtain⟨_,rfl⟩:=ru;cases rv;exact SeqAt.RcNeAt.str_none _ _
  | bl =>
   obtain⟨_,rfl⟩:=ru;cases rv;exact SeqAt.RcNeAt.str_bool _ _ _
  | int =>
   obtain⟨_,rfl⟩:=ru;obtain⟨_,rfl⟩:=rv;exact SeqAt.RcNeAt.str_int _ _ _ _
  | str =>
   obtain⟨_,rfl⟩:=ru;obtain⟨_,rfl⟩:=rv;exact SeqAt.RcNeAt.str_str _ _ _ _
  | @tup m p' ys es e1 hl1 h1 =>
   obtain⟨_,rfl⟩:=ru;cases rv;obtain⟨jts,r2,pl',_⟩:=I.tuple (SqT.of e1);exact SeqAt.RcNeAt.str_tuple _ _ pl' (by omega)
  | @lst m p' ys es e1 hl1 h1 =>
   obtain⟨_,rfl⟩:=ru;cases rv;obtain⟨jts,r2,pl',_⟩:=I.list (SqL.of e1);exact SeqAt.RcNeAt.str_list _ _ pl'.isList (by omega)
 | @tup n p xs ds e0 hl h =>
  cases q with
  | non =>
   cases ru;cases rv;obtain⟨its,r1,pl,_⟩:=I.tuple (SqT.of e0);exact SeqAt.RcNeAt.tuple_none pl (by omega)
  | bl =>
   cases ru;cases rv;obtain⟨its,r1,pl,_⟩:=I.tuple (SqT.of e0);exact SeqAt.RcNeAt.tuple_bool _ pl (by omega)
  | int =>
   cases ru;obtain⟨_,rfl⟩:=rv;obtain⟨its,r1,pl,_⟩:=I.tuple (SqT.of e0);exact SeqAt.RcNeAt.tuple_int _ _ pl (by omega)
  | str =>
   cases ru;obtain⟨_,rfl⟩:=rv;obtain⟨its,r1,pl,_⟩:=I.tuple (SqT.of e0);exact SeqAt.RcNeAt.tuple_str _ _ pl (by omega)
  | @tup m p' ys es e1 hl1 h1 =>
   cases ru;cases rv;obtain⟨its,r1,pl,_⟩:=I.tuple (SqT.of e0);obtain⟨jts,r2,pl',_⟩:=I.tuple (SqT.of e1);have y:=SeqAt.RcNeAt.tuples (A:=A) (e:=fun j=>deq (ds.getD j .non) (es.getD j .non)) pl pl' (by omega) (iz r1 r2 hl hl1 fun j x y d e u w a b c k ra rb=>(h j x d a c).eqAt (h1 j y e b k) I ra rb (by show A.units+1+_<cLine;omega));rw[List.size_toArray,List.size_toArray,<- r1.length,<- r2.length,hl,hl1,eW]at y;exact y
  | @lst m p' ys es e1 hl1 h1 =>
   cases ru;cases rv;obtain⟨its,r1,pl,_⟩:=I.tuple (SqT.of e0);obtain⟨jts,r2,pl',_⟩:=I.list (SqL.of e1);exact SeqAt.RcNeAt.tuple_list pl pl'.isList (by omega)
 | @lst n p xs ds e0 hl h =>
  cases q with
  | non =>
   cases ru;cases rv;obtain⟨its,r1,pl,_⟩:=I.list (SqL.of e0);exact SeqAt.RcNeAt.list_none pl.isList (by omega)
  | bl =>
   cases ru;cases rv;obtain⟨its,r1,pl,_⟩:=I.list (SqL.of e0);exact SeqAt.RcNeAt.list_bool _ pl.isList (by omega)
  | int =>
   cases ru;obtain⟨_,rfl⟩:=rv;obtain⟨its,r1,pl,_⟩:=I.list (SqL.of e0);exact SeqAt.RcNeAt.list_int _ _ pl.isList (by omega)
  | str =>
   cases ru;obtain⟨_,rfl⟩:=rv;obtain⟨its,r1,pl,_⟩:=I.list (SqL.of e0);exact SeqAt.RcNeAt.list_str _ _ pl.isList (by omega)
  | @tup m p' ys es e1 hl1 h1 =>
   cases ru;cases rv;obtain⟨its,r1,pl,_⟩:=I.list (SqL.of e0);obtain⟨jts,r2,pl',_⟩:=I.tuple (SqT.of e1);exact SeqAt.RcNeAt.list_tuple pl.isList pl' (by omega)
  | @lst m p' ys es e1 hl1 h1 =>
   cases ru;cases rv;obtain⟨its,r1,pl,_⟩:=I.list (SqL.of e0);obtain⟨jts,r2,pl',_⟩:=I.list (SqL.of e1);have g1:=r1.length;have g2:=r2.length
   by_cases hz:ds.length=es.length
   ·have y:=SeqAt.RcNeAt.lists (A:=A) (e:=fun j=>deq (ds.getD j .non) (es.getD j .non)) pl.isList pl'.isList (by rw[List.size_toArray,List.size_toArray];omega) (by omega) (iz r1 r2 hl hl1 fun j x y d e u w a b c k ra rb=>(h j x d a c).eqAt (h1 j y e b k) I ra rb (by show A.units+1+_<cLine;omega))
    rw[List.size_toArray,<- r1.length,hl,gR hz]at y;exact y
   ·rw[show deq (.lst ds) (.lst es)=false from mB hz]
    exact SeqAt.RcNeAt.lists_lengths pl.isList pl'.isList (by rw[List.size_toArray,List.size_toArray];simp;omega) (by omega)
end
section
variable {X:Cx}
inductive Dg (neg:Bool) (x:V) (y:V) (H:Hp) (Q:VK):Prop
 | mk:∀d e,(Rp H 9 x d)->(Rp H 9 y e)->(Q (.bl (if neg then !(deq d e) else deq d e)) H)->Dg neg x y H Q
theorem u9(hu:X.A.units+10<cLine):OpR X (compareOp .NotEq) (Dg true):=by
 intro pins s σ H x y v u Q I rx ry h;obtain⟨d,e,rd,re,k⟩:=h;exact rd.rcNeAt re I rx ry (by omega) _ _ _ _ ⟨.bl _,H,I,rfl,k⟩
end
section
variable {H:Hp} {n:Nat} {p:Addr} {x y z w:V} {a b c d:D}
theorem Rp.t2(e:H p=some (.tup [x,y]))(ha:Rp H n x a)(hb:Rp H n y b):Rp H (n+1) (.ref p) (.tup [a,b]):=.tup e rfl fun j x d h k=>by
 match j with
 | 0=>cases h;cases k;exact ha
 | 1=>cases h;cases k;exact hb
 | j+2=>simp at h
theorem Rp.l0(e:H p=some (.lst [])):Rp H (n+1) (.ref p) (.lst []):=.lst e rfl fun j x d h=>by simp at h
theorem Rp.l1(e:H p=some (.lst [x]))(ha:Rp H n x a):Rp H (n+1) (.ref p) (.lst [a]):=.lst e rfl fun j x d h k=>by
 match j with
 | 0=>cases h;cases k;exact ha
 | j+1=>simp at h
end
end L2
namespace L2
open PySem PySem.Spec PyProof.Rows
structure AE(X:Cx)(scope:Scope)(cl:List (Str×Addr))(xs:List Str)(fv:List (Str×Nat)):Prop where
 clos:closureFor scope X.env=pure cl
 kind:scope.kind = .function
 cell:∀y∈scope.names,y.2≠.cell
 names:∀y∈scope.names,y.2 = .local->scope.names.lookup y.1=some .local
 own:∀x∈xs,scope.names.lookup x=some .local
 cells:∀p∈cl,X.env.cells.lookup p.1=some p.2
 has:((relabel scope X.env).names.all fun q=>!(q.2 == .cell || q.2 == .free) || (cl.lookup q.1).isSome)=true
 nd:(xs++fv.map (·.1)).Nodup
 slot:∀p∈fv,X.N[p.2]? = some p.1∧X.env.kindOf p.1=some .cell∧Vis X.env.scope p.1∧(cl.lookup p.1).isSome=true∧((relabel scope X.env).names.lookup p.1=some .cell)
 stk:X.stack=X.env::X.outer∧X.env.frame=some X.env.locals
 noex:X.ex = []
def PTs(X:Cx)(ifs:List Expr)(tc:TT):Prop :=
 ∀(pins:List (Addr×Obj)) (s:Shared) (σ:St) (H:Hp) (Q:Bool->Hp->Prop),xq X pins σ H s->tc σ H Q ->
  wpAny (model X.prog X.w) X.A (forIn ifs true fun c r=>if r=true then do let ok <- isTrue c X.env (eval c X.env);pure (ForInStep.yield ok) else pure (ForInStep.yield r)) (fun b s'=>∃H',xq X pins σ H' s'∧Q b H') X.xe s
theorem ki{X:Cx}{c:Expr}{tc:TT}(h:PT X c tc):PTs X [c] tc:=fun pins s σ H Q I q=>wpAny_tests_one (h pins s σ H Q I q)
theorem mC{prog:Program}{w:World}{A:Around}{R:Result->Shared->Prop}{s:Shared}{elt target iter:Expr}{ifs:List Expr}{scope:Scope}{pos:Pos}{it acc:Value}{env:Env}(I:Nat->Shared->Prop)
  (turn:∀n s,I n s->wpAny (model prog w) A (pyNext it) (fun r s₁=>match r with
   | none=>R (.ok .next) s₁
   | some v=>wpAny (model prog w) A (letOwnedTupleGo target it v) (fun _ s₀=>wpAny (model prog w) A (assign target env v) (fun _ s₂ =>
     wpAny (model prog w) A (forIn ifs true fun c r=>if r=true then do let ok <- isTrue c env (eval c env);pure (ForInStep.yield ok) else pure (ForInStep.yield r)) (fun ok s₃ =>
      if ok=true then wpAny (model prog w) A (eval elt env) (fun x s₄ =>
       wpAny (model prog w) A (call (.builtin "list.append") [acc,x]) (fun _ s₅=>∃m,m<n∧I m s₅) (notedBy (model prog w) A env fun e s'=>R (.error e) s') s₄) (notedBy (model prog w) A env fun e s'=>R (.error e) s') s₃
      else ∃m,m<n∧I m s₃) (notedBy (model prog w) A env fun e s'=>R (.error e) s') s₂) (notedBy (model prog w) A env fun e s'=>R (.error e) s') s₀) (notedBy (model prog w) A env fun e s'=>R (.error e) s') s₁) (notedBy (model prog w) A env fun e s'=>R (.error e) s') s)
  (n:Nat) (h:I n s):codeAny (model prog w) A (.compLoop (.ListComp elt [⟨target,iter,ifs,0⟩] scope pos) 0 it acc env) R s:=by
 refine codeAny_loop rfl I (fun n s hI=>?_) n h;show wpAny _ A ((compTurn (.ListComp elt [⟨target,iter,ifs,0⟩] scope pos) 0 it acc env).onRaise (fun x=>do noteFrame x env;theTreesLotGoes x)) _ _ s
 refine wpAny_noted ?_;rw[compTurn_list];refine wpAny_bind (wpAny_standAt (wpAny_bind (wpAny_mono (turn n s hI) (fun r s₁ h₁=>?_) fun _ _ h'=>h')));cases r with
 | none=>exact wpAny_pure h₁
 | some v =>
  refine wpAny_bind (wpAny_mono h₁ (fun _ s₀ h₀=>?_) fun _ _ h'=>h');refine wpAny_bind (wpAny_mono h₀ (fun _ s₂ h₂=>wpAny_bind (wpAny_mono h₂ (fun ok s₃ h₃=>?_) fun _ _ h'=>h')) fun _ _ h'=>h');cases ok with
  | false=>exact wpAny_pure ⟨rfl,h₃⟩
  | true=>exact wpAny_bind (wpAny_bind (wpAny_mono h₃ (fun x s₄ h₄=>wpAny_bind (wpAny_mono h₄ (fun _ s₅ h₅=>wpAny_pure (wpAny_pure ⟨rfl,h₅⟩)) fun _ _ h'=>h')) fun _ _ h'=>h'))
def iC(J:It)(n:Nat)(fv:List (Str×Nat))(g:TG)(tc:TT)(te:TE)(σ:St)(H1:Hp)(Q:VK):Prop:=∀p,H1 p=none->∃W:Nat->Nat->List V->Hp->Prop,(∃m,W 0 m [] (upd H1 p (.lst [])))∧∀i m acc H2,W i m acc H2 ->
 H2 p=some (.lst acc)∧acc.length<sizeLine∧((J.stop i H2∧Q (.ref p) H2)∨(J.go i H2∧∀x H3,J.yld i H2 x H3->∀τ:St,τ.length=n->g x (τ++fvs fv σ) H3 fun σ2 H4=>(∃τ':St,τ'.length=n∧σ2=τ'++fvs fv σ) ∧
  tc σ2 H4 fun b H5=>if b=true then te σ2 H5 (fun y H6=>H6 p=some (.lst acc)∧∃m',m'<m∧W (i+1) m' (acc++[y]) (upd H6 p (.lst (acc++[y])))) else ∃m',m'<m∧W (i+1) m' acc H5))
def qt(wi:TI)(n:Nat)(fv:List (Str×Nat))(g:TG)(tc:TT)(te:TE):TE:=fun σ H Q=>wi σ H fun J H1=>iC J n fv g tc te σ H1 Q
section
variable {X:Cx} {scope:Scope} {cl:List (Str×Addr)} {xs:List Str} {fv:List (Str×Nat)} {elt iter tg:Expr} {ifs:List Expr} {pos:Pos} {te:TE} {tc:TT} {g:TG}
theorem t8{pins:List (Addr×Obj)}{σ:St}{H:Hp}{s:Shared}{fp:List Addr}(C:AE X scope cl xs fv)(I:xq X pins σ H s)(hf:∀b∈fp,eE X pins H b)(ho:∀b∈fp,b<s.heap.objs.size):(X.blk (xs++fv.map (·.1)) scope cl fp s H).Ok:=by
 have hcl:∀y c,cl.lookup y=some c->X.env.cells.lookup y=some c:=fun y c h=>C.cells _ (cj h);have old:∀b∈fp,X.s₀.heap.objs.size≤b:=fun b hb=>by
  rcases(hf b hb).2.2.2.1 with z|z
  ·rw[C.noex]at z
   cases z
  ·exact z
 refine⟨I.ok.mod,by show(relabel scope X.env).kind=_;exact C.kind,I.ok.glob,I.ok.blt,Nat.le_refl _,fun y z c h1 h2=>I.ok.inj y z c (hcl y c h1) (hcl z c h2),fun y hy=>?_,(fun y c h=>by cases h),I.ok.hd,I.ok.frames,.inl rfl,fun b hb=>?_,fun b o e=>I.bs b o e,Nat.le_trans I.ok.bsz I.sz,fun b o e hb=>?_,fun b hb hm=>?_,I.stack,I.stkFree⟩
 ·have q:=C.has
  rw[List.all_eq_true]at q;have hm:∃k,(y,k)∈(relabel scope X.env).names∧(k = .cell∨k = .free):=by
   rcases hy with hy|hy
   ·exact⟨_,cj hy,.inl rfl⟩
   ·exact⟨_,cj hy,.inr rfl⟩
  obtain⟨k,hk,hk2⟩:=hm;have q2:=q _ hk;have q3:(cl.lookup y).isSome=true:=by
   rcases hk2 with rfl|rfl
   ·simpa using q2
   ·simpa using q2
  exact Option.isSome_iff_exists.mp q3
 ·obtain⟨f0,f1,f2,f3,f4,f5⟩:=hf b hb
  refine⟨?_,fun y c h=>f4 y c (hcl y c h)⟩;exact Nat.ne_of_lt (ho b hb)
 ·have z:=Heap.lt_size e
  have z2:=old b hb;exact absurd (Nat.lt_of_lt_of_le z (Nat.le_trans I.ok.bsz z2)) (Nat.lt_irrefl _)
 ·obtain⟨f0,f1,f2,f3,f4,f5⟩:=hf b hb
  rcases List.mem_cons.mp (I.stkSub b hm) with z|z
  ·exact f1 z
  ·exact f2 z
theorem rX{pins:List (Addr×Obj)}{σ:St}{H:Hp}{s s4:Shared}{fp:List Addr}(C:AE X scope cl xs fv)(I:xq X pins σ H s)(hf:∀b∈fp,eE X pins H b)(ho:∀b∈fp,b<s.heap.objs.size)
  (hs:s4.os=s.os∧s4.gens=s.gens) (ns:s4.heap.Ns s.heap.objs.size fun _=>none) (kp:∀b o,s.heap.get? b=some o->s4.heap.get? b=some o) :
  xq (X.blk (xs++fv.map (·.1)) scope cl fp s H) [] (List.replicate xs.length none++fvs fv σ) H s4:=by
 have hcl:∀y c,cl.lookup y=some c->X.env.cells.lookup y=some c:=fun y c h=>C.cells _ (cj h);refine⟨t8 C I hf ho,hs.1,by rw[hs.2];exact I.bare,Un.kept kp,⟨_,ns,fun i y v e1 e2 e3=>?_⟩,fun y c h=>?_,I.hok.fresh (Nat.le_refl _),fun y c h=>I.freeC y c (hcl y c h),fun p hp=>by simp at hp,I.hok.kept kp,by simp[fvs]⟩
 ·by_cases hi:i<xs.length
  ·rw[List.getElem?_append_left (by rw[List.length_replicate];exact hi),List.getElem?_replicate]at e2
   simp[hi]at e2
  ·obtain⟨j,rfl⟩:∃j,i=xs.length+j:=⟨i - xs.length,by omega⟩
   have e1':(fv.map (·.1))[j]? = some y:=by
    have z:(xs++fv.map (·.1))[xs.length+j]? = some y:=e1;rw[List.getElem?_append_right (by omega)]at z;simpa using z
   have e2':(fvs fv σ)[j]? = some (some v):=by
    rw[List.getElem?_append_right (by rw[List.length_replicate];omega),List.length_replicate]at e2;simpa using e2
   rw[List.getElem?_map]at e1';unfold fvs at e2';rw[List.getElem?_map]at e2';cases hq:fv[j]? with
   | none =>
    rw[hq]at e1';cases e1'
   | some q =>
    rw[hq]at e1' e2';have ey:q.1=y:=Option.some.inj e1';have ev:(σ[q.2]?).join=some v:=Option.some.inj e2';have hm:q∈fv:=List.mem_of_getElem? hq;obtain⟨s1,s2,s3,s4',s5⟩:=C.slot q hm;have ev2:σ[q.2]? = some (some v):=by
     cases hz:σ[q.2]? with
     | none =>
      rw[hz]at ev;cases ev
     | some z =>
      rw[hz]at ev;have ev':z=some v:=ev;rw[ev']
    obtain⟨m,hn,hl⟩:=I.loc;obtain⟨u,r,lk⟩:=hl q.2 q.1 v s1 ev2 s3;obtain⟨c,hc⟩:=Option.isSome_iff_exists.mp s4';refine⟨u,r,.inr ⟨.inl (by rw[<- ey];exact s5),c,by rw[<- ey];exact hc,?_⟩⟩;rcases lk with⟨k,_⟩|⟨_,c',hc',z⟩
    ·rw[s2]at k
     cases k
    ·rw[hcl _ _ hc]at hc'
     cases hc';obtain⟨o,ho',hd⟩:=z;exact⟨o,kp _ _ ho',hd⟩
 ·obtain⟨v,o,ho',hd⟩:=I.cell y c (hcl y c h)
  exact⟨v,o,kp _ _ ho',hd⟩
theorem mH{pins:List (Addr×Obj)}{σ:St}{H2:Hp}{s2:Shared}{it:Addr}{fp:List Addr}{tn:Nat->Heap->Prop}{J:It}{RR:Value->Addr->Result->Shared->Prop}{E:Value->Shared->Prop}{Qf:V->Hp->Prop}
  (hcalm:X.calm=true) (C:AE X scope cl xs fv) (I2:xq X pins σ H2 s2) (T:Bf X.prog X.w X.K tg J fp it tn) (st:tn 0 s2.heap) (f2:∀b∈fp,eE X pins H2 b)
  (rd:iC J xs.length fv g tc te σ H2 Qf)
  (hg:∀(s₀:Shared) (H₀:Hp),PG (X.blk (xs++fv.map (·.1)) scope cl fp s₀ H₀) tg g) (ht:∀(s₀:Shared) (H₀:Hp),PTs (X.blk (xs++fv.map (·.1)) scope cl fp s₀ H₀) ifs tc)
  (he:∀(s₀:Shared) (H₀:Hp),PE (X.blk (xs++fv.map (·.1)) scope cl fp s₀ H₀) elt te)
  (hRR:∀(p C:Addr) (H':Hp) (s':Shared),(∃m,s'.heap.Ns C m)->C≠X.env.locals->H' C=none->X.s₀.heap.objs.size≤C->(∀y c,X.env.cells.lookup y=some c->c≠C)->(∀q∈X.pn++pins,q.1≠C)->xq X pins σ H' s'->Qf (.ref p) H'->RR (.ref p) C (.ok .next) s') :
  wpAny (model X.prog X.w) X.A (newList []) (fun acc s₃=>wpAny (model X.prog X.w) X.A (newFunctionEnv scope X.env.globals cl [] X.env.qual none .none (some X.env)) (fun cenv s₄ =>
   codeAny (model X.prog X.w) X.A (.compStart (.ListComp elt [⟨tg,iter,ifs,0⟩] scope pos) 0 (.ref it) acc { cenv with scope:=relabel scope X.env }) (RR acc cenv.locals) s₄) E s₃) E s2:=by
 refine wpAny_newObj_type ?_;have hfresh:=I2.fresh;have I3:xq X pins σ (upd H2 s2.heap.objs.size (.lst [])) { s2 with heap:=s2.heap.push { cls:=.type "list",data:=.seq ([]:List Value).toArray } } :=
  I2.laid (t':=s2.toks) (fun b u q=>Heap.get?_push_of_some _ q) (Nat.le_refl _) ⟨Nat.zero_le _,[],0,.nil,Heap.get?_push_size _ rfl⟩
 generalize hs3:({ s2 with heap:=s2.heap.push { cls:=.type "list",data:=.seq ([]:List Value).toArray } }:Shared)=s3 at I3 ⊢;have hp3:s2.heap.objs.size<s3.heap.objs.size:=by rw[<- hs3];exact Nat.lt_of_lt_of_le (Nat.lt_succ_self _) (Nat.le_of_eq (Heap.size_push _ _).symm)
 have k23:∀b o,s2.heap.get? b=some o->s3.heap.get? b=some o:=fun b o e=>by rw[<- hs3];exact Heap.get?_push_of_some _ e
 have fpo:∀b∈fp,b<s2.heap.objs.size:=fun b hb=>by
  obtain⟨o,e,_⟩:=T.obj 0 _ st b hb;exact Heap.lt_size e
 have f3:∀b∈fp,eE X pins (upd H2 s2.heap.objs.size (.lst [])) b:=fun b hb=>⟨by rw[aM (Nat.ne_of_lt (fpo b hb))];exact(f2 b hb).1,(f2 b hb).2⟩;refine wpAny_newFunctionEnv C.cell (by intro y hy;simp at hy) (fun h1 hns1 hsb1=>?_) C.kind;have kp:∀b o,s3.heap.get? b=some o->h1.get? b=some o:=fun b o e=>(hsb1.2 b (Nat.ne_of_lt (Heap.lt_size e))).trans (Heap.get?_push_of_some _ e);have I4:=rX (s4:={ s3 with heap:=h1,toks:=s3.toks+([]:List (Str×Value)).length }) C I3 f3 (fun b hb=>Nat.lt_trans (fpo b hb) hp3) ⟨rfl,rfl⟩ hns1 kp;have st4:tn 0 h1:=T.keep 0 _ _ st fun b _ o e=>kp b o (k23 b o e);obtain⟨W,⟨m0,w0⟩,step⟩:=rd _ hfresh;have loop:codeAny (model X.prog X.w) X.A (.compLoop (.ListComp elt [⟨tg,iter,ifs,0⟩] scope pos) 0 (.ref it) (.ref s2.heap.objs.size) (compEnvC scope cl s3.heap.objs.size X.env)) (RR (.ref s2.heap.objs.size) s3.heap.objs.size)
   { s3 with heap:=h1,toks:=s3.toks+([]:List (Str×Value)).length }:=by
  refine mC (fun n s=>∃i acc τ H',τ.length=xs.length∧xq (X.blk (xs++fv.map (·.1)) scope cl fp s3 (upd H2 s2.heap.objs.size (.lst []))) [] (τ++fvs fv σ) H' s∧tn i s.heap∧(∀b∈fp,H' b=none)∧W i n acc H') ?_ m0 ⟨0,[],List.replicate xs.length none,_,List.length_replicate,I4,st4,fun b hb=>(f3 b hb).1,w0⟩;rintro n s ⟨i,acc,τ,H',hτ,I',st',fr',w'⟩;obtain⟨hp,hlen,alt⟩:=step i n acc H' w';have fpk:∀{H5:Hp},(∀b∈fp,H5 b=none)->∀b∈fp,eE (X.blk (xs++fv.map (·.1)) scope cl fp s3 (upd H2 s2.heap.objs.size (.lst []))) [] H5 b:=fun h5 b hb =>
   ⟨h5 b hb,(I'.ok.exf b hb).1,I'.ok.exfs b hb,.inl hb,fun y c e=>(I'.ok.exf b hb).2 y c e,fun q hq=>by simp at hq⟩
  rcases alt with⟨stop,qf⟩|⟨go,turn⟩
  ·refine wpAny_mono (T.done (X.blk (xs++fv.map (·.1)) scope cl fp s3 (upd H2 s2.heap.objs.size (.lst []))) rfl rfl rfl hcalm i [] s _ H' (fun _ _=>False) I' (fpk fr') st' stop) (fun r s5 ⟨hr,I5⟩=>?_) fun _ _ z=>False.elim z
   subst hr;refine hRR _ _ H' s5 (let ⟨m,hn,_⟩:=I5.loc;⟨m,hn⟩) (Nat.ne_of_gt I3.lt) I5.free I3.sz (fun y c e=>?_) (fun q hq=>?_) ?_ qf
   ·obtain⟨v,z⟩:=I3.cell y c e
    exact Nat.ne_of_lt z.lt
   ·exact Nat.ne_of_lt (Heap.lt_size (I3.pin q hq).1)
   ·exact I3.call' (s':=s5) (ch:=fp) I5.os I5.base I5.hok I5.bare fun b hb=>⟨(f2 b hb).2.2.2.1,(f2 b hb).2.1,(f2 b hb).2.2.2.2.1,(f2 b hb).2.2.2.2.2⟩
  ·refine wpAny_mono (T.item (X.blk (xs++fv.map (·.1)) scope cl fp s3 (upd H2 s2.heap.objs.size (.lst []))) rfl rfl rfl hcalm i [] s _ H' (fun _ _=>False) I' (fpk fr') st' go) (fun r s5 ⟨u,hr,h5⟩=>?_) fun _ _ z=>False.elim z
   subst hr;refine wpAny_mono h5 (fun _ s6 ⟨y,H6,I6,r6,y6,st6,fr6⟩=>?_) fun _ _ z=>False.elim z;have I6':=I6.pinned (fpk fr6) (T.obj _ _ st6);have rt:=turn y _ y6 τ hτ;refine wpAny_mono (hg s3 _ _ s6 _ H6 y u _ I6' r6 rt) (fun _ s7 ⟨σ7,H7,I7,⟨τ',hτ',e7⟩,q7⟩=>?_) fun _ _ z=>False.elim z;subst e7;refine wpAny_mono (ht s3 _ _ s7 _ _ _ I7 q7) (fun b s7b ⟨H7b,I7b,q7b⟩=>?_) fun _ _ z=>False.elim z;have kp6:∀{σ9:St} {H9:Hp} {s9:Shared},xq (X.blk (xs++fv.map (·.1)) scope cl fp s3 (upd H2 s2.heap.objs.size (.lst []))) ([]++iM fp s6.heap) σ9 H9 s9->tn (i+1) s9.heap∧∀b∈fp,H9 b=none:=fun {σ9 H9 s9} I9=>by
    refine⟨T.keep _ _ _ st6 fun b hb o e=>(I9.pin (b,o) (List.mem_append_right _ (List.mem_append_right _ (db hb e)))).1,fun b hb=>?_⟩;obtain⟨o,e,d⟩:=T.obj _ _ st6 b hb;exact(I9.pin (b,o) (List.mem_append_right _ (List.mem_append_right _ (db hb e)))).2.1
   cases b with
   | false =>
    obtain⟨m',hm',w8⟩:=q7b;exact⟨m',hm',i+1,acc,τ',_,hτ',I7b.unpinned,(kp6 I7b).1,(kp6 I7b).2,w8⟩
   | true =>
    refine wpAny_mono (he s3 _ _ s7b _ _ _ I7b q7b) (fun v8 s8 ⟨y8,H8,I8,r8,q8,m',hm',w8⟩=>?_) fun _ _ z=>False.elim z;refine wpAny_mono (gL (X:=X.blk (xs++fv.map (·.1)) scope cl fp s3 (upd H2 s2.heap.objs.size (.lst []))) _ s8 _ H8 (.ref s2.heap.objs.size) [y8] (.ref s2.heap.objs.size) [v8] (fun _ H9=>H9=upd H8 s2.heap.objs.size (.lst (acc++[y8]))) I8 rfl (.cons r8 .nil) ⟨_,acc,y8,rfl,rfl,q8,hlen,rfl⟩) (fun _ s9 ⟨_,H9,I9,_,e9⟩=>?_) fun _ _ z=>False.elim z;subst e9;exact⟨m',hm',i+1,acc++[y8],τ',_,hτ',I9.unpinned,(kp6 I9).1,(kp6 I9).2,w8⟩
 exact codeAny_compStart_list loop (T.self _ 0 _ _ _ st4 loop)
theorem lD{wi:TI}(hcalm:X.calm=true)(C:AE X scope cl xs fv)(hi:PI X tg iter wi)(hg:∀(fp:List Addr) (s₀:Shared) (H₀:Hp),PG (X.blk (xs++fv.map (·.1)) scope cl fp s₀ H₀) tg g)(ht:∀(fp:List Addr) (s₀:Shared) (H₀:Hp),PTs (X.blk (xs++fv.map (·.1)) scope cl fp s₀ H₀) ifs tc)(he:∀(fp:List Addr) (s₀:Shared) (H₀:Hp),PE (X.blk (xs++fv.map (·.1)) scope cl fp s₀ H₀) elt te)
  (hs:∀v,foldedSetIterable iter X.env v=pure v:=by intro _;rfl):PE X (.ListComp elt [⟨tg,iter,ifs,0⟩] scope pos) (qt wi xs.length fv g tc te):=by
 intro pins s σ H Q I h;rw[eval_ListComp];refine wpAny_comprehension_free (use:=none) rfl hs C.clos C.kind C.names (wpAny_mono (hi pins s σ H _ I h) (fun v s1 h1=>wpAny_mono h1 (fun itv s2 h2=>?_) fun _ _ z=>z) fun _ _ z=>z);obtain⟨it,fp,tn,J,H2,rfl,I2,T,st2,f2,rd⟩:=h2;refine mH (Qf:=Q) hcalm C I2 T st2 f2 rd (hg fp) (ht fp) (he fp) fun p D H' s' ns nL nH n0 nC nP I8 q=>?_;obtain⟨m,hn⟩:=ns;exact⟨m,hn,fun h'' sb=>⟨.ref p,H',I8.turned (t':=s'.toks) (fun b o hb e=>(sb.2 b hb).trans e) nH nL (.inr n0) nC nP,rfl,q⟩⟩
theorem lB{wi:TI}{y:Str}{j:Nat}{py spos:Pos}(hcalm:X.calm=true)(C:AE X scope cl xs fv)(hN:X.N.Nodup)(hj:X.N[j]? = some y)(hy:X.env.scope.names.lookup y=some .local)(hi:PI X tg iter wi)(hg:∀(fp:List Addr) (s₀:Shared) (H₀:Hp),PG (X.blk (xs++fv.map (·.1)) scope cl fp s₀ H₀) tg g)(ht:∀(fp:List Addr) (s₀:Shared) (H₀:Hp),PTs (X.blk (xs++fv.map (·.1)) scope cl fp s₀ H₀) ifs tc)(he:∀(fp:List Addr) (s₀:Shared) (H₀:Hp),PE (X.blk (xs++fv.map (·.1)) scope cl fp s₀ H₀) elt te)
  (hsw:swapsWith (.ListComp elt [⟨tg,iter,ifs,0⟩] scope pos) (some (.Name y py)) spos.line X.env=pure true:=by rfl)
  (hs:∀v,foldedSetIterable iter X.env v=pure v:=by intro _;rfl):PS X (.Assign [.Name y py] (.ListComp elt [⟨tg,iter,ifs,0⟩] scope pos) spos) (qv (qt wi xs.length fv g tc te) (i8 j)):=by
 intro pins s σ H D I h;rw[exec_Assign_Name_used _ _ _ _ hsw];refine wpAny_bind (wpAny_standAt (wpAny_bind ?_));show wpAny _ _ (do let _ <- comprehension (.ListComp elt [⟨tg,iter,ifs,0⟩] scope pos) scope X.env _ (newList []) false (eval iter X.env) (some (assign (.Name y py) X.env))) _ _ s
 refine wpAny_bind (wpAny_mono (wpAny_comprehension_free (use:=some (assign (.Name y py) X.env)) (Q:=fun _ s'=>SP X pins D .next s') rfl hs C.clos C.kind C.names
  (wpAny_mono (hi pins s σ H _ I h) (fun v s1 h1=>wpAny_mono h1 (fun itv s2 h2=>?_) fun _ _ z=>z) fun _ _ z=>z)) (fun _ s' hq=>wpAny_pure (wpAny_pure hq)) fun _ _ z=>z)
 obtain⟨it,fp,tn,J,H2,rfl,I2,T,st2,f2,rd⟩:=h2;refine mH (Qf:=fun v H'=>i8 j v σ H' D.nx) hcalm C I2 T st2 f2 rd (hg fp) (ht fp) (he fp) fun p D' H' s' ns nL nH n0 nC nP I8 q=>?_;obtain⟨m,hn⟩:=ns;show wpAny _ _ (assign (.Name y py) X.env (.ref p)) _ _ _;refine wpAny_assign_Name (gG I8 hN hj (.inl hy) (v:=.ref p) rfl (fun s9 I9 ⟨a,sb,ha⟩=>?_) (.inr hy));have aD:D'≠a:=by
  rintro rfl;rcases ha with z|z
  ·exact nL z
  ·exact nC y _ z rfl
 exact⟨m,hn.sameBut sb aD,fun h'' sb2=>⟨_,H',I9.turned (t':=s9.toks) (fun b o hb e=>(sb2.2 b hb).trans e) nH nL (.inr n0) nC nP,q⟩⟩
end
end L2
namespace L2
open PySem PySem.Spec PyProof.Rows
section
variable {κ:Type} [DecidableEq κ]
def cY(kvs:List (κ×V))(k:κ):Option V:=(kvs.find? fun kv=>decide (kv.1=k)).map (·.2)
def eC(kvs:List (κ×V))(k:κ)(v:V):List (κ×V) :=
 if (kvs.any fun kv=>decide (kv.1=k))=true then kvs.map (fun kv=>if kv.1=k then (kv.1,v) else kv) else kvs++[(k,v)]
theorem bS{p:κ×V}{r:List (κ×V)}{k:κ}(e:p.1=k):cY (p::r) k=some p.2:=by simp[cY,List.find?_cons,e]
theorem bO{p:κ×V}{r:List (κ×V)}{k:κ}(e:¬p.1=k):cY (p::r) k=cY r k:=by simp[cY,List.find?_cons,e]
theorem eF(k:κ):∀kvs:List (κ×V),(kvs.any fun kv=>decide (kv.1=k))=(cY kvs k).isSome
 | []=>rfl
 | p::r=>by
  rw[List.any_cons]
  by_cases e:p.1=k
  ·simp only[bS e,decide_eq_true e,Bool.true_or,Option.isSome_some]
  ·rw[bO e,decide_eq_false e,Bool.false_or];exact eF k r
theorem ld(k j:κ)(y:V):∀kvs:List (κ×V),cY (kvs.map fun kv=>if kv.1=k then (kv.1,y) else kv) j=(cY kvs j).map fun x=>if j=k then y else x
 | []=>rfl
 | p::r=>by
  have ih:=ld k j y r;rw[List.map_cons]
  by_cases h:p.1=k
  ·rw[if_pos h]
   by_cases e:p.1=j
   ·rw[bS (p:=(p.1,y)) e,bS e,Option.map_some,if_pos (e.symm.trans h)]
   ·rw[bO (p:=(p.1,y)) e,bO e,ih]
  ·rw[if_neg h]
   by_cases e:p.1=j
   ·rw[bS (p:=p) e,bS e,Option.map_some,if_neg (fun z=>h (e.trans z))]
   ·rw[bO (p:=p) e,bO e,ih]
theorem jI(k j:κ)(y:V):∀kvs:List (κ×V),cY kvs k=none->cY (kvs++[(k,y)]) j=if j=k then some y else cY kvs j
 | [],_=>by
  by_cases e:k=j
  ·rw[if_pos e.symm];exact bS (p:=(k,y)) e
  ·rw[if_neg (fun z=>e z.symm)];exact bO (p:=(k,y)) e
 | p::r,hn=>by
  rw[List.cons_append];have hk:¬p.1=k:=fun z=>by rw[bS z]at hn;cases hn
  rw[bO hk]at hn;have ih:=jI k j y r hn
  by_cases e:p.1=j
  ·rw[bS e,bS e,if_neg (fun z=>hk (e.trans z))]
  ·rw[bO e,bO e,ih]
theorem lc(kvs:List (κ×V))(k j:κ)(y:V):cY (eC kvs k y) j=if j=k then some y else cY kvs j:=by
 unfold eC
 by_cases a:(kvs.any fun kv=>decide (kv.1=k))=true
 ·rw[if_pos a,ld]
  rw[eF]at a
  by_cases e:j=k
  ·obtain⟨x,hx⟩:=Option.isSome_iff_exists.mp a
   rw[if_pos e,e,hx,Option.map_some,if_pos rfl]
  ·rw[if_neg e]
   cases cY kvs j with
   | none=>rfl
   | some x=>rw[Option.map_some,if_neg e]
 ·rw[if_neg a]
  refine jI k j y kvs ?_;rw[eF]at a;cases q:cY kvs k with
  | none=>rfl
  | some x=>rw[q]at a;exact(a rfl).elim
theorem gZ(kvs:List (κ×V))(k:κ)(v:V):(eC kvs k v).length≤kvs.length+1:=by
 unfold eC
 split
 ·rw[List.length_map];omega
 ·rw[List.length_append,List.length_cons,List.length_nil];omega
theorem iK{kvs:List (κ×V)}{k:κ}(v:V)(h:cY kvs k=none):eC kvs k v=kvs++[(k,v)]:=by
 unfold eC;rw[eF,h];exact if_neg (by decide)
theorem gS.isSome_eq{o:Option V}{u:Option Value}(r:gS o u):o.isSome=u.isSome:=by
 cases o with
 | none=>cases u with
  | none=>rfl
  | some _=>exact(show False from r).elim
 | some _=>cases u with
  | none=>exact(show False from r).elim
  | some _=>rfl
theorem KV.val{kvs:List (κ×V)}{vs:List (κ×Value)}(r:KV kvs vs)(k:κ):gS (cY kvs k) (valueAt vs k):=by
 unfold KV at r
 induction r with
 | nil=>exact True.intro
 | @cons p q ps qs h t ih =>
  obtain⟨h1,h2⟩:=h
  by_cases e:p.1=k
  ·have e':q.1=k:=h1.symm.trans e
   have b:valueAt (q::qs) k=some q.2:=by simp[valueAt,List.find?_cons,e']
   rw[bS e,b];exact h2
  ·have e':¬q.1=k:=fun z=>e (h1.trans z)
   have b:valueAt (q::qs) k=valueAt qs k:=by simp[valueAt,List.find?_cons,e']
   rw[bO e,b];exact ih
theorem KV.any{kvs:List (κ×V)}{vs:List (κ×Value)}(r:KV kvs vs)(k:κ):(kvs.any fun kv=>decide (kv.1=k))=vs.any fun kv=>decide (kv.1=k):=by
 unfold KV at r
 induction r with
 | nil=>rfl
 | cons h t ih=>rw[List.any_cons,List.any_cons,ih,h.1]
theorem KV.repl{kvs:List (κ×V)}{vs:List (κ×Value)}(r:KV kvs vs)(k:κ){y:V}{u:Value}(ry:aS y u) :
  KV (kvs.map fun kv=>if kv.1=k then (kv.1,y) else kv) (vs.map fun kv=>if kv.1=k then (kv.1,u) else kv):=by
 unfold KV at r ⊢
 induction r with
 | nil=>exact .nil
 | @cons p q ps qs h t ih =>
  rw[List.map_cons,List.map_cons];refine .cons ?_ ih;obtain⟨h1,h2⟩:=h
  by_cases e:p.1=k
  ·rw[if_pos e,if_pos (h1.symm.trans e)];exact⟨h1,ry⟩
  ·rw[if_neg e,if_neg (fun z=>e (h1.trans z))];exact⟨h1,h2⟩
theorem KV.put{kvs:List (κ×V)}{vs:List (κ×Value)}(r:KV kvs vs)(k:κ){y:V}{u:Value}(ry:aS y u):KV (eC kvs k y) (stored vs k u):=by
 unfold eC stored;rw[r.any k]
 by_cases e:(vs.any fun kv=>decide (kv.1=k))=true
 ·rw[if_pos e,if_pos e];exact r.repl k ry
 ·rw[if_neg e,if_neg e];exact Paired.snoc r ⟨rfl,ry⟩
theorem KV.length{kvs:List (κ×V)}{vs:List (κ×Value)}(r:KV kvs vs):kvs.length=vs.length:=Paired.length r
end
theorem lX{P:Program}{w:World}{k:Key}{u:Value}(r:aS (kV k) u):(cg P w).is k u=true:=by
 cases k with
 | inl i=>obtain⟨t,e⟩:=(show ∃t,u=Value.int i t from r);subst e;exact lR P w i t
 | inr x=>obtain⟨t,e⟩:=(show ∃t,u=Value.str x t from r);subst e;exact lQ P w x t
theorem jS{P:Program}{w:World}:∀{ks:List Key} {us:List Value},aP (ks.map kV) us->ItemsAre (cg P w) ks us
 | [],_,r=>by rw[List.map_nil]at r;cases r;exact .nil
 | k::ks,_,r=>by
  rw[List.map_cons]at r;cases r with
  | cons h t=>exact .cons (lX h) (jS t)
abbrev KT(H:Hp):List (List Key×V)->List (List Key×Addr×Value)->Prop:=Paired fun p q=>p.1=q.1∧H q.2.1=some (.tup (p.1.map kV))∧aS p.2 q.2.2
theorem KT.val{H:Hp}{kvs:List (List Key×V)}{xs:List (List Key×Addr×Value)}(r:KT H kvs xs)(k:List Key):gS (cY kvs k) ((atKey xs k).map (·.2)):=by
 induction r with
 | nil=>exact True.intro
 | @cons p q ps qs h t ih =>
  obtain⟨h1,_,h2⟩:=h
  by_cases e:p.1=k
  ·have e':q.1=k:=h1.symm.trans e
   have b:atKey (q::qs) k=some q.2:=by simp[atKey,List.find?_cons,e']
   rw[bS e,b];exact h2
  ·have e':¬q.1=k:=fun z=>e (h1.trans z)
   have b:atKey (q::qs) k=atKey qs k:=by simp[atKey,List.find?_cons,e']
   rw[bO e,b];exact ih
theorem KT.repl{H:Hp}{kvs:List (List Key×V)}{xs:List (List Key×Addr×Value)}(r:KT H kvs xs)(k:List Key){y:V}{u:Value}(ry:aS y u) :
  KT H (kvs.map fun kv=>if kv.1=k then (kv.1,y) else kv) (xs.map (putAt k u)):=by
 induction r with
 | nil=>exact .nil
 | @cons p q ps qs h t ih =>
  rw[List.map_cons,List.map_cons];refine .cons ?_ ih;obtain⟨h1,h2,h3⟩:=h;unfold putAt
  by_cases e:p.1=k
  ·rw[if_pos e,if_pos (h1.symm.trans e)];exact⟨h1,h2,ry⟩
  ·rw[if_neg e,if_neg (fun z=>e (h1.trans z))];exact⟨h1,h2,h3⟩
theorem KT.put{H:Hp}{kvs:List (List Key×V)}{xs:List (List Key×Addr×Value)}(r:KT H kvs xs)(k:List Key){b:Addr}{y:V}{u:Value}(hb:H b=some (.tup (k.map kV)))(ry:aS y u) :
  KT H (eC kvs k y) (storedH xs k b u):=by
 have e:(kvs.any fun kv=>decide (kv.1=k))=(atKey xs k).isSome:=by
  rw[eF,(r.val k).isSome_eq,Option.isSome_map]
 unfold eC storedH;rw[e]
 by_cases q:(atKey xs k).isSome=true
 ·rw[if_pos q,if_pos q];exact r.repl k ry
 ·rw[if_neg q,if_neg q];exact Paired.snoc r ⟨rfl,hb,ry⟩
theorem KT.keeps{H H':Hp}{kvs:List (List Key×V)}{xs:List (List Key×Addr×Value)}(r:KT H kvs xs)(ht:∀b ys,H b=some (.tup ys)->H' b=some (.tup ys)):KT H' kvs xs :=
 Paired.mapP r fun _ _ z=>⟨z.1,ht _ _ z.2.1,z.2.2⟩
section
variable {P:Program} {w:World} {H:Hp} {h:Heap} {a:Addr}
theorem ur{u:HO}(ok:HOk P w H h)(e:Rd H a u):bI P w H h a u:=e.ok ok
theorem my{kvs:List (Key×V)}(ok:HOk P w H h)(e:Rd H a (.dK kvs)):kvs.length≤sizeLine∧(a == sysModules)=false∧∃vs,KV kvs vs∧h.DictOf (cg P w) a vs :=
 show bI P w H h a (.dK kvs) from ur ok e
theorem wL{kvs:List (Key×V)}(ok:HOk P w H h)(e:H a=some (.dK kvs)):kvs.length≤sizeLine∧(a == sysModules)=false∧∃vs,KV kvs vs∧h.DictOf (cg P w) a vs:=my ok (.inl e)
theorem iW{ks:List Key}(ok:HOk P w H h)(e:H a=some (.tup (ks.map kV))):(tupleKind (cg P w)).is h ks a:=by
 obtain⟨_,its,r,o,h1,h2,n,h3⟩:=(show bI P w H h a (.tup (ks.map kV)) from ok a _ e);exact⟨o,its.toArray,n,h1,h2,h3,by simpa using jS r⟩
theorem mx{kvs:List (List Key×V)}(ok:HOk P w H h)(e:Rd H a (.dT kvs)):kvs.length≤sizeLine∧(a == sysModules)=false ∧
  ∃xs,KT H kvs xs∧h.DictOfH (tupleKind (cg P w)) a xs:=by
 obtain⟨z,y,xs,r,o,es,ep,h1,h2,h3,h4,h5⟩:=(show bI P w H h a (.dT kvs) from ur ok e);refine⟨z,y,xs,r,o,es,ep,h1,h2,h3,h4,fun x hx=>?_,h5⟩;have all:∀{l:List (List Key×V)} {m:List (List Key×Addr×Value)},KT H l m->∀x∈m,(tupleKind (cg P w)).is h x.1 x.2.1:=by
  intro l m q
  induction q with
  | nil=>intro x hx;exact nomatch hx
  | @cons p q ps qs hq t ih =>
   intro x hx;rcases List.mem_cons.mp hx with e|hx
   ·subst e
    exact iW ok (by rw[<- hq.1];exact hq.2.1)
   ·exact ih x hx
 exact all r x hx
theorem wK{kvs:List (List Key×V)}(ok:HOk P w H h)(e:H a=some (.dT kvs)):kvs.length≤sizeLine∧(a == sysModules)=false ∧
  ∃xs,KT H kvs xs∧h.DictOfH (tupleKind (cg P w)) a xs:=mx ok (.inl e)
end
def fQ(H:Hp)(a:Addr)(y:V)(r:Option V):Prop :=
 (∃kvs k,Rd H a (.dK kvs)∧y=kV k∧r=cY kvs k)∨∃kvs k b,Rd H a (.dT kvs)∧y = .ref b∧H b=some (.tup (k.map kV))∧r=cY kvs k
def k9(H:Hp)(a:Addr)(y v:V)(H':Hp):Prop :=
 (∃kvs k,H a=some (.dK kvs)∧y=kV k∧kvs.length<sizeLine∧H'=upd H a (.dK (eC kvs k v))) ∨
 ∃kvs k b,H a=some (.dT kvs)∧y = .ref b∧H b=some (.tup (k.map kV))∧kvs.length<sizeLine∧H'=upd H a (.dT (eC kvs k v))
theorem fQ.t{H:Hp}{a b:Addr}{kvs:List (List Key×V)}{k:List Key}(e:H a=some (.dT kvs))(eb:H b=some (.tup (k.map kV))):fQ H a (.ref b) (cY kvs k):=.inr ⟨kvs,k,b,.inl e,rfl,eb,rfl⟩
theorem k9.t{H:Hp}{a b:Addr}{kvs:List (List Key×V)}{k:List Key}{v:V}(e:H a=some (.dT kvs))(eb:H b=some (.tup (k.map kV)))(hl:kvs.length<sizeLine) :
  k9 H a (.ref b) v (upd H a (.dT (eC kvs k v))):=.inr ⟨kvs,k,b,e,rfl,eb,hl,rfl⟩
section
variable {X:Cx} {pins:List (Addr×Obj)} {σ:St} {H:Hp} {s:Shared} {a:Addr} {y v:V} {u r:Value} {o:Option V} {A:Around} {E:Value->Shared->Prop}
theorem xq.big(I:xq X pins σ H s):sysModules<s.heap.objs.size:=by
 have h:mainGlobals<s.heap.objs.size:=(I.mod.glob.keeps I.bk).lt;exact Nat.lt_trans (by decide) h
theorem qb{Q:Value->Shared->Prop}(hu:A.units+1<cLine)(I:xq X pins σ H s)(g:fQ H a y (some v))(ry:aS y u)(h:∀w' s',xq X pins σ H s'->aS v w'->Q w' s') :
  wpAny (model X.prog X.w) A (getItem (.ref a) u) Q E s:=by
 rcases g with⟨kvs,k,e,ey,l⟩|⟨kvs,k,b,e,ey,eb,l⟩
 ·subst ey
  obtain⟨z,hd,vs,rel,dd⟩:=my I.hok e;obtain⟨w',hw,rw'⟩:=gS.some_of (v:=v) (o:=valueAt vs k) (by rw[l];exact rel.val k);exact wpAny_getItem_of (lX ry) dd.mapOf hw (h w' _ (I.tok _) rw')
 ·subst ey
  cases (show u=Value.ref b from ry);obtain⟨z,hd,xs,rel,dd⟩:=mx I.hok e;obtain⟨w',hw,rw'⟩:=gS.some_of (v:=v) (o:=(atKey xs k).map (·.2)) (by rw[l];exact rel.val k);obtain⟨p,hp,hp2⟩:=Option.map_eq_some_iff.mp hw;refine wpAny_getItem_heap (tupleKind_room_in1 hu) (iW I.hok eb) dd hp ?_;rw[hp2];exact h w' _ (I.tok _) rw'
theorem xl{Q:Value->Shared->Prop}(hu:A.units+1<cLine)(I:xq X pins σ H s)(g:fQ H a y o)(ry:aS y u)(h:∀s',xq X pins σ H s'->Q (.bool o.isSome) s') :
  wpAny (model X.prog X.w) A (compareOp .In u (.ref a)) Q E s:=by
 rcases g with⟨kvs,k,e,ey,l⟩|⟨kvs,k,b,e,ey,eb,l⟩
 ·subst ey
  obtain⟨z,hd,vs,rel,dd⟩:=my I.hok e;refine wpAny_in_of (lX ry) hd dd.mapOf ?_;rw[<- (rel.val k).isSome_eq,<- l];exact h _ (I.tok _)
 ·subst ey
  cases (show u=Value.ref b from ry);obtain⟨z,hd,xs,rel,dd⟩:=mx I.hok e;refine wpAny_in_heap (tupleKind_room_in1 hu) (iW I.hok eb) hd dd ?_;have q:=(rel.val k).isSome_eq;rw[Option.isSome_map]at q;rw[<- q,<- l];exact h _ (I.tok _)
theorem tV{Q:Value->Shared->Prop}(hu:A.units+1<cLine)(I:xq X pins σ H s)(g:fQ H a y o)(ry:aS y u)(h:∀s',xq X pins σ H s'->Q (.bool (!o.isSome)) s') :
  wpAny (model X.prog X.w) A (compareOp .NotIn u (.ref a)) Q E s:=by
 rcases g with⟨kvs,k,e,ey,l⟩|⟨kvs,k,b,e,ey,eb,l⟩
 ·subst ey
  obtain⟨z,hd,vs,rel,dd⟩:=my I.hok e;refine wpAny_notIn_of (lX ry) hd dd.mapOf ?_;rw[<- (rel.val k).isSome_eq,<- l];exact h _ (I.tok _)
 ·subst ey
  cases (show u=Value.ref b from ry);obtain⟨z,hd,xs,rel,dd⟩:=mx I.hok e;refine wpAny_notIn_heap (tupleKind_room_in1 hu) (iW I.hok eb) hd dd ?_;have q:=(rel.val k).isSome_eq;rw[Option.isSome_map]at q;rw[<- q,<- l];exact h _ (I.tok _)
theorem oP{h':Heap}{t':Nat}{ob:HO}(I:xq X pins σ H s)(mu:Mut (H a))(hs:Heap.SameBut a s.heap h')(he:∃q,h'.get? a=some q)(new:bI X.prog X.w (upd H a ob) h' a ob) :
  xq X pins σ (upd H a ob) { s with heap:=h',toks:=t' } :=
 I.write (x:=a) (e:=a) mu (.inl rfl) (fun b q hb z=>(hs.2 b hb).trans z) he new
theorem vz{P:Program}{w:World}{H':Hp}{h':Heap}{kvs:List (Key×V)}{vs:List (Key×Value)}(z:kvs.length≤sizeLine)(hd:(a == sysModules)=false)(rel:KV kvs vs)(dd:h'.DictOf (cg P w) a vs) :
  bI P w H' h' a (.dK kvs):=⟨z,hd,vs,rel,dd⟩
theorem pZ{H':Hp}{Q:Unit->Shared->Prop}(hu:A.units+1<cLine)(I:xq X pins σ H s)(g:k9 H a y v H')(ry:aS y u)(rv:aS v r)(h:∀s',xq X pins σ H' s'->Q () s') :
  wpAny (model X.prog X.w) A (setItem (.ref a) u r) Q E s:=by
 rcases g with⟨kvs,k,e,ey,l,eH⟩|⟨kvs,k,b,e,ey,eb,l,eH⟩
 ·subst ey eH
  obtain⟨z,hd,vs,rel,dd⟩:=wL I.hok e;have hz:vs.length≤sizeLine:=by rw[<- rel.length];exact z
  have hl:(eC kvs k v).length≤sizeLine:=by have:=gZ kvs k v;omega
  refine wpAny_setItem_pairs (hsz:=hz) (lX ry) dd fun h' dd' hs=>h _ ?_;have he:∃q,h'.get? a=some q:=let ⟨q,_,_,hq,_⟩:=dd';⟨q,hq⟩;exact oP I (by rw[e];exact True.intro) hs he (vz hl hd (rel.put k rv) dd')
 ·subst ey eH
  cases (show u=Value.ref b from ry);obtain⟨z,hd,xs,rel,dd⟩:=wK I.hok e;have hz:xs.length≤sizeLine:=by rw[<- Paired.length rel];exact z
  have hl:(eC kvs k v).length≤sizeLine:=by have:=gZ kvs k v;omega
  refine wpAny_setItem_heap (hsz:=hz) (tupleKind_room_in1 hu) (iW I.hok eb) dd fun h' dd' hs=>h _ ?_;obtain⟨q,es,ep,hq,h2,h3,h4,_,h5⟩:=dd';refine oP I (by rw[e];exact True.intro) hs ⟨q,hq⟩ ⟨hl,hd,_,(rel.put k eb rv).keeps fun c ys ec=>?_,q,es,ep,hq,h2,h3,h4,h5⟩;rw[aM (oo ec e (fun z=>nomatch z))]
  exact ec
end
section
variable {X:Cx} {pins:List (Addr×Obj)} {σ:St} {H:Hp} {s:Shared} {a:Addr} {kvs:List (Key×V)} {k:Key} {u:Value} {A:Around} {E:Value->Shared->Prop}
end
def wQ(i:Expr):Prop:=∀ov iv,subscripted i false ov iv=operate [ov,iv] (getItem ov iv)
theorem sA{prog:Program}{w:World}{A:Around}{E:Value->Shared->Prop}{s:Shared}{env:Env}{value slice:Expr}{pos:Pos}{T id:String}{Q:Value->Shared->Prop}
  (hl:typeLookup (.type T) "__getitem__" = pure (some (.builtin id))) (hs:wQ slice)
  (h:wpAny (model prog w) A (eval value env) (fun o s₁=>wpAny (model prog w) A (eval slice env) (fun i s₂=>s₂.TypeIs o T∧wpAny (model prog w) A (getItem o i) Q E s₂) E s₁) E s) :
  wpAny (model prog w) A (eval (.Subscript value slice pos) env) Q E s:=by
 refine Subscript_ (wpAny_mono h (fun o s₁ h₁=>wpAny_mono h₁ (fun i s₂ h₂=>?_) fun _ _ x=>x) fun _ _ x=>x);obtain⟨hT,h₂⟩:=h₂;unfold subscriptTail;refine wpAny_bind ?_;rw[getitemInPython_of_ne hT.not_modules];refine wpAny_bind (wpAny_specialOf hT hl ?_);have fin:wpAny (model prog w) A (subscripted slice false o i) (fun r s₃=>wpAny (model prog w) A (letTemporaryGo value o r >>= fun _=>pure r) Q E s₃) E s₂:=by
  rw[hs o i];exact wpAny_operating (wpAny_mono h₂ (fun r s₃ h₃=>wpAny_bind (wpAny_letTemporaryGo (wpAny_pure h₃))) fun _ _ x=>x)
 first
  | exact wpAny_pure (wpAny_bind fin)
  | exact wpAny_bind (wpAny_pure (wpAny_bind fin))
  | exact wpAny_bind fin
theorem mz{X:Cx}{pins:List (Addr×Obj)}{σ:St}{H:Hp}{s:Shared}{a:Addr}{y:V}{o:Option V}(I:xq X pins σ H s)(g:fQ H a y o):s.TypeIs (.ref a) "dict":=by
 rcases g with⟨kvs,k,e,_,_⟩|⟨kvs,k,b,e,_,_,_⟩
 ·obtain⟨_,_,vs,_,dd⟩:=my I.hok e
  exact dd.typeIs
 ·obtain⟨_,_,xs,_,dd⟩:=mx I.hok e
  exact dd.typeIs
def v0(td ty:TE):TE:=fun σ H Q=>td σ H fun x H1=>ty σ H1 fun y H2=>∃a v,x = .ref a∧fQ H2 a y (some v)∧Q v H2
def w5(ty td:TE):TE:=fun σ H Q=>ty σ H fun y H1=>td σ H1 fun x H2=>∃a o,x = .ref a∧fQ H2 a y o∧Q (.bl o.isSome) H2
def sw(ty td:TE):TE:=fun σ H Q=>ty σ H fun y H1=>td σ H1 fun x H2=>∃a o,x = .ref a∧fQ H2 a y o∧Q (.bl (!o.isSome)) H2
def wb(td ty tv:TE):TS:=fun D σ H=>tv σ H fun v H1=>td σ H1 fun x H2=>ty σ H2 fun y H3=>∃a H4,x = .ref a∧k9 H3 a y v H4∧D.nx σ H4
section
variable {X:Cx} {o i e value:Expr} {pos pos' tpos:Pos} {td ty tv:TE}
theorem ip(hu:X.A.units+1<cLine)(ho:PE X o td)(hi:PE X i ty)(hs:wQ i):PE X (.Subscript o i pos) (v0 td ty):=by
 intro pins s σ H Q I h;refine sA PySem.F.slot_dict_getitem.lookup hs (thn (ho pins s σ H _ I h) fun u s1 ⟨x,H1,I1,rx,q1⟩=>thn (hi pins s1 σ H1 _ I1 q1) fun iv s2 ⟨y,H2,I2,ry,a,v,ex,g,q2⟩=>?_);subst ex;obtain rfl:u=Value.ref a:=rx;exact⟨mz I2 g,qb hu I2 g ry fun w' s3 I3 rw'=>⟨v,H2,I3,rw',q2⟩⟩
theorem mX(hu:X.A.units+1<cLine)(hi:PE X i ty)(ho:PE X o td):PC X .In i o (w5 ty td):=by
 intro pins s σ H Q I h;refine thn (hi pins s σ H _ I h) fun iv s1 ⟨y,H1,I1,ry,q1⟩=>thn (ho pins s1 σ H1 _ I1 q1) fun u s2 ⟨x,H2,I2,rx,a,ov,ex,g,q2⟩=>?_;subst ex;obtain rfl:u=Value.ref a:=rx;exact xl hu I2 g ry fun s3 I3=>⟨.bl ov.isSome,H2,I3,rfl,q2⟩
theorem pz(hu:X.A.units+1<cLine)(hi:PE X i ty)(ho:PE X o td):PC X .NotIn i o (sw ty td):=by
 intro pins s σ H Q I h;refine thn (hi pins s σ H _ I h) fun iv s1 ⟨y,H1,I1,ry,q1⟩=>thn (ho pins s1 σ H1 _ I1 q1) fun u s2 ⟨x,H2,I2,rx,a,ov,ex,g,q2⟩=>?_;subst ex;obtain rfl:u=Value.ref a:=rx;exact tV hu I2 g ry fun s3 I3=>⟨.bl (!ov.isSome),H2,I3,rfl,q2⟩
theorem gf(hu:X.A.units+1<cLine)(ho:PE X o td)(hi:PE X i ty)(hv:PE X value tv)(hs:swapsWith value (some (.Subscript o i pos')) pos.line X.env=pure false) :
  PS X (.Assign [.Subscript o i pos'] value pos) (wb td ty tv):=by
 intro pins s σ H D I h;refine wpAny_Assign_Subscript (thn (hv pins s σ H _ I h) fun r s1 ⟨v,H1,I1,rv,q1⟩=>thn (ho pins s1 σ H1 _ I1 q1) fun u s2 ⟨x,H2,I2,rx,q2⟩=>thn (hi pins s2 σ H2 _ I2 q2) fun iv s3 ⟨y,H3,I3,ry,a,H4,ex,g,q3⟩=>?_) hs;subst ex;obtain rfl:u=Value.ref a:=rx;exact pZ hu I3 g ry rv fun s4 I4=>⟨σ,H4,I4,q3⟩
end
theorem rJ{P:Program}{w:World}{H:Hp}(h:Heap)(hb:sysModules<h.objs.size):bI P w H (h.push { cls:=.type "dict",data:=.dict #[] }) h.objs.size (.dT []) :=
 ⟨Nat.zero_le _,beq_eq_false_iff_ne.mpr (Ne.symm (Nat.ne_of_lt hb)),[],.nil,_,#[],0,Heap.get?_push_size _ rfl,⟨rfl,rfl,rfl⟩,rfl,rfl,List.nodup_nil⟩
def uI:TE:=fun _ H Q=>∀p,H p=none->Q (.ref p) (upd H p (.dT []))
section
variable {X:Cx} {pos:Pos}
theorem iN:PE X (.Dict [] [] pos) uI:=fun pins s σ H Q I h =>
 wpAny_Dict_empty ⟨.ref s.heap.objs.size,_,I.laid (a:=s.heap.objs.size) (o:=.dT []) (t':=s.toks) (fun _ _ q=>Heap.get?_push_of_some _ q) (Nat.le_refl _) (rJ s.heap I.big),rfl,h _ (I.hok.fresh (Nat.le_refl _))⟩
end
section
variable {X:Cx} {pins:List (Addr×Obj)} {σ:St} {H:Hp} {s:Shared} {a:Addr} {y d:V} {u r:Value} {o:Option V} {A:Around} {E:Value->Shared->Prop}
end
section
variable {X:Cx} {o e f:Expr} {apos cpos:Pos} {td ty tx:TE}
end
section
variable {X:Cx} {pins:List (Addr×Obj)} {σ:St} {H:Hp} {s:Shared} {a:Addr} {kvs:List (Key×V)} {A:Around} {E:Value->Shared->Prop}
end
section
variable {X:Cx} {pins:List (Addr×Obj)} {σ:St} {H:Hp} {s:Shared} {a:Addr} {y:V} {u:Value} {A:Around} {E:Value->Shared->Prop}
end
end L2
namespace L2
open PySem PySem.Spec PyProof.Rows
section
variable {prog:Program} {w:World} {A:Around} {E:Value->Shared->Prop} {s:Shared} {it d:Addr} {i ep:Nat} {es:Array DictEntry} {od:Obj}
theorem qG{Q:Value->Shared->Prop}(hd:(d == sysModules)=false)(ho:s.heap.get? d=some od)(hc:od.cls = .type "dict")(hdat:od.data = .dict es ep)
  (hQ:Q (.ref s.heap.objs.size) { s with heap:=s.heap.push { cls:=.type "dict_keyiterator",data:=.fields #[.ref d,.int 0 0,.int es.size 0,.int ep 0] } }):wpAny (model prog w) A (pyIter (.ref d)) Q E s:=by
 have hT:s.TypeIs (.ref d) "dict":=⟨od,ho,hc⟩;refine wpAny_pyIter_slot hT F.slot_dict_iter (wpAny_call_entry F.slot_dict_iter hT F.entry_dict_iter ?_ (F.args_dict_iter_1 _));unfold Builtin.«dict.__iter__»;refine wpAny_bind ?_;unfold Builtin.Dict.dictSlotNone;refine wpAny_bind (wpAny_notOrdered_dict hT ?_);show wpAny _ _ (pure (Value.ref d)) _ _ s;refine wpAny_pure ?_;show wpAny _ _ (Builtin.Dict.showsAll d >>= _) _ _ s;unfold Builtin.Dict.showsAll;rw[if_neg (by rw[hd];exact Bool.false_ne_true)];refine wpAny_bind (wpAny_pure (wpAny_bind (wpAny_dictEntries ho hdat (wpAny_bind (wpAny_dictEpoch ho hdat ?_)))));exact wpAny_bind (wpAny_newObj_type (wpAny_pure ⟨_,rfl,"dict_keyiterator",_,⟨_,Heap.get?_push_size _ rfl,rfl⟩,F.slot_dict_keyiterator_next.lookup,hQ⟩))
theorem qH{Q:Option Value->Shared->Prop}(hit:s.heap.IsKeyIter it d i es.size ep)(hod:s.heap.get? d=some od)(hdd:od.data = .dict es ep)(hi:i<es.size)
  (hQ:∀h',h'.IsKeyIter it d (i+1) es.size ep->Heap.SameBut it s.heap h'->Q (some es[i].key) { s with heap:=h' }):wpAny (model prog w) A (pyNext (.ref it)) Q E s:=by
 obtain⟨o,ho,hc,hd⟩:=id hit;unfold pyNext;refine wpAny_bind (wpAny_attempt (wpAny_callSpecial?_slot (name:=Str.ofString "__next__") hit.typeIs F.slot_dict_keyiterator_next (wpAny_call_entry F.slot_dict_keyiterator_next hit.typeIs F.entry_dict_keyiterator_next ?_ (F.args_dict_keyiterator_next_1 _))));refine wpAny_bind (wpAny_pure (wpAny_bind (wpAny_bind ?_)))
 first|refine wpAny_bind (wpAny_typeNameOfWhole_keyiter hit.typeIs (wpAny_pure (wpAny_bind (wpAny_fieldsOf ho hd ?_))))|refine wpAny_bind (wpAny_typeNameOf_keyiter hit.typeIs (wpAny_pure (wpAny_bind (wpAny_fieldsOf ho hd ?_))))
 simp only[show Builtin.Dict_items.ownsTuple "dict_keyiterator" = false by decide,Bool.false_eq_true,if_false];show wpAny _ _ (if (Value.ref d == Value.none)=true then _ else _) _ _ s
 rw[if_neg (show ¬((Value.ref d == Value.none)=true) from Bool.false_ne_true)];refine wpAny_bind (wpAny_pure (wpAny_bind (wpAny_dictEntries hod hdd ?_)));rw[if_neg (by simp)];refine wpAny_bind (wpAny_pure (wpAny_bind (wpAny_dictEpoch hod hdd ?_)));rw[if_neg (by simp)];refine wpAny_pure ?_;simp only[show ¬((i:Int)<0) from by omega,if_false,Int.toNat_natCast,Array.getElem?_eq_getElem hi];refine wpAny_bind ?_
 first|refine wpAny_bind (wpAny_typeNameOfWhole_keyiter hit.typeIs (wpAny_pure (wpAny_bind (wpAny_isOneOf_keyiter hit.typeIs ?_))))|refine wpAny_bind (wpAny_typeNameOf_keyiter hit.typeIs (wpAny_pure (wpAny_bind (wpAny_isOneOf_keyiter hit.typeIs ?_))))
 show wpAny _ _ (setField (.ref it) 1 (rawInt ((i:Int)+1)) >>= _) _ _ s;refine wpAny_bind (wpAny_setField ho hd (by simp) ?_);have hit':(s.heap.update it (Obj.mapFields (·.setIfInBounds 1 (rawInt ((i:Int)+1))))).IsKeyIter it d (i+1) es.size ep:=⟨_,Heap.get?_update_self _ ho (Obj.isFreed_of_fields (Obj.data_mapFields hd _)),(Obj.cls_mapFields ..).trans hc,by rw[Obj.data_mapFields hd];simp[rawInt]⟩;refine wpAny_bind (wpAny_holding (wpAny_bind (wpAny_isOneOf_keyiter (s:={ s with heap:=s.heap.update it (Obj.mapFields (·.setIfInBounds 1 (rawInt ((i:Int)+1)))) }) hit'.typeIs ?_)));show wpAny _ _ (pure es[i].key) _ _ _;exact wpAny_pure (wpAny_pure ⟨_,rfl,wpAny_pure (hQ _ hit' (Heap.SameBut.update ..))⟩)
theorem sJ{Q:Option Value->Shared->Prop}(hh:A.handled=none)(hit:s.heap.IsKeyIter it d i es.size ep)(hod:s.heap.get? d=some od)(hdd:od.data = .dict es ep)(hge:es.size≤i)
  (hQ:∀h',Heap.ExtBut it s.heap h'->Q none { s with heap:=h' }):wpAny (model prog w) A (pyNext (.ref it)) Q E s:=by
 obtain⟨o,ho,hc,hd⟩:=id hit;unfold pyNext;refine wpAny_bind (wpAny_attempt (wpAny_callSpecial?_slot (name:=Str.ofString "__next__") hit.typeIs F.slot_dict_keyiterator_next (wpAny_call_entry F.slot_dict_keyiterator_next hit.typeIs F.entry_dict_keyiterator_next ?_ (F.args_dict_keyiterator_next_1 _))));refine wpAny_bind (wpAny_pure (wpAny_bind (wpAny_bind ?_)))
 first|refine wpAny_bind (wpAny_typeNameOfWhole_keyiter hit.typeIs (wpAny_pure (wpAny_bind (wpAny_fieldsOf ho hd ?_))))|refine wpAny_bind (wpAny_typeNameOf_keyiter hit.typeIs (wpAny_pure (wpAny_bind (wpAny_fieldsOf ho hd ?_))))
 simp only[show Builtin.Dict_items.ownsTuple "dict_keyiterator" = false by decide,Bool.false_eq_true,if_false];show wpAny _ _ (if (Value.ref d == Value.none)=true then _ else _) _ _ s
 rw[if_neg (show ¬((Value.ref d == Value.none)=true) from Bool.false_ne_true)];refine wpAny_bind (wpAny_pure (wpAny_bind (wpAny_dictEntries hod hdd ?_)));rw[if_neg (by simp)];refine wpAny_bind (wpAny_pure (wpAny_bind (wpAny_dictEpoch hod hdd ?_)));rw[if_neg (by simp)];refine wpAny_pure ?_;simp only[show ¬((i:Int)<0) from by omega,if_false,Int.toNat_natCast,Array.getElem?_eq_none hge];refine wpAny_bind ?_
 first|refine wpAny_bind (wpAny_typeNameOfWhole_keyiter hit.typeIs (wpAny_pure ?_));show wpAny _ _ (setField (.ref it) 0 .none >>= _) _ _ s|refine wpAny_bind (wpAny_typeNameOf_keyiter hit.typeIs (wpAny_pure ?_));show wpAny _ _ (setField (.ref it) 0 .none >>= _) _ _ s
 refine wpAny_bind (wpAny_setField ho hd (by simp) ?_);show wpAny _ _ (newExc (.type "StopIteration") [] >>= _) _ _ _;refine wpAny_bind ?_;simp only[newExc,newTuple];refine wpAny_bind (wpAny_newObj_type ?_ (by size_fits));refine wpAny_bind (m:=firstArgMember _ _) (wpAny_of_eq (a:=Value.none) (by first|rfl|(simp only[firstArgMember];rfl)) ?_)
 refine wpAny_newObj_type ?_ (by size_fits);simp only[raiseNew];refine wpAny_bind (wpAny_handled ?_);rw[show A.in1.handled=none from hh];refine wpAny_bind (wpAny_pure (wpAny_throw ?_));exact wpAny_bind (wpAny_isInstance (T:="StopIteration") (b:=true) ⟨_,Heap.get?_push_size _ rfl,rfl⟩ isSubtype_stop (wpAny_pure (hQ _ (((Heap.SameBut.update ..).extBut.push _).push _))))
end
def Itd(a:Addr)(o:Obj)(kvs:List (List Key×V)):It :=
 ⟨fun i H=>H a=some (.frz o (.dT kvs))∧i<kvs.length,fun i H x H'=>H'=H∧∃k v b,kvs[i]? = some (k,v)∧x = .ref b∧H b=some (.tup (k.map kV)),fun i H=>H a=some (.frz o (.dT kvs))∧kvs.length≤i⟩
theorem i9{P:Program}{w:World}{H:Hp}{h:Heap}{a:Addr}{o:Obj}{kvs:List (List Key×V)}{es:Array DictEntry}{ep:Nat}(k:HOk P w H h)(e:H a=some (.frz o (.dT kvs)))(d:o.data = .dict es ep) :
  h.get? a=some o∧o.cls = .type "dict"∧(a == sysModules)=false∧es.size=kvs.length∧∀(i:Nat) (hi:i<es.size),∃q v b,kvs[i]? = some (q,v)∧es[i].key = .ref b∧H b=some (.tup (q.map kV)):=by
 obtain⟨g,_,sm,xs,pr,o',es',ep',g',ex,d',el,_⟩:=(show h.get? a=some o∧bI P w H h a (.dT kvs) from k a _ e);rw[g]at g';cases g';rw[d]at d';cases d';have len:es.size=kvs.length:=by
  have:=congrArg List.length el;rw[List.length_map]at this;rw[<- Array.length_toList,this];exact(Paired.length pr).symm
 refine⟨g,ex.1,sm,len,fun i hi=>?_⟩;have hx:i<xs.length:=by rw[<- Paired.length pr,<- len];exact hi
 have get:∀{kvs:List (List Key×V)} {xs:List (List Key×Addr×Value)},Paired (fun (p:List Key×V) (q:List Key×Addr×Value)=>p.1=q.1∧H q.2.1=some (.tup (p.1.map kV))∧aS p.2 q.2.2) kvs xs->∀(i:Nat) (q:List Key×Addr×Value),xs[i]? = some q->∃v,kvs[i]? = some (q.1,v)∧H q.2.1=some (.tup (q.1.map kV)):=by
  intro kvs xs pr
  induction pr with
  | nil=>intro i q e;simp at e
  | cons a r ih =>
   intro i q e;cases i with
   | zero =>
    simp at e;subst e;exact⟨_,by rw[<- a.1];rfl,by rw[<- a.1];exact a.2.1⟩
   | succ j=>exact ih j q (by simpa using e)
 obtain⟨q,hq⟩:∃q,xs[i]? = some q:=⟨xs[i],by simp[hx]⟩;obtain⟨v,e1,e2⟩:=get pr i q hq;have e3:es.toList[i]? = some (entryOfKey (tupleKind (cg P w)) q):=by rw[el,List.getElem?_map,hq];rfl
 have e4:es[i]=entryOfKey (tupleKind (cg P w)) q:=by
  have:es.toList[i]? = some es[i]:=by simp[hi]
  rw[this]at e3;exact Option.some.inj e3
 exact⟨q.1,v,q.2.1,e1,by rw[e4];rfl,e2⟩
theorem oX{P:Program}{w:World}{K:W.Frag}{tg:Expr}{kvs:List (List Key×V)}{es:Array DictEntry}{ep:Nat}{o:Obj}(a it:Addr)(hd:o.data = .dict es ep):Bf P w K tg (Itd a o kvs) [it] it (fun i h=>h.IsKeyIter it a i es.size ep) where
 mem:=by simp
 obj:=fun i h st b hb=>by
  have e:b=it:=by simpa using hb
  subst e;obtain⟨o,e,c,d⟩:=st;exact⟨o,e,fun v z=>by rw[d]at z;cases z⟩
 keep:=fun i h h' st k=>st.at fun o e=>k it (by simp) o e
 item:=by
  intro X hP hw hK hc i pins s σ H E I hf st hg;subst hP hw hK;obtain⟨e,hi⟩:=hg;obtain⟨g,gc,_,len,at'⟩:=i9 I.hok e hd;obtain⟨q,v,b,e1,e2,e3⟩:=at' i (by omega);obtain⟨f0,f1,f2,f3,f4,f5⟩:=hf it (by simp);refine qH st g hd (by omega) fun h' st' sb=>?_;have I1:xq X pins σ H { s with heap:=h' }:=I.turned (t':=s.toks) (fun b o hb e=>(sb.2 b hb).trans e) f0 f1 f3 f4 f5;obtain⟨oi,ei,ci,di⟩:=id st';exact⟨_,rfl,l3 (s:={ s with heap:=h' }) ei ci di (by decide) ⟨.ref b,H,I1,e2,⟨rfl,q,v,b,e1,rfl,e3⟩,st',fun b hb=>(hf b hb).1⟩⟩
 done:=by
  intro X hP hw hK hc i pins s σ H E I hf st hg;subst hP hw hK;obtain⟨e,hi⟩:=hg;obtain⟨g,gc,_,len,_⟩:=i9 I.hok e hd;obtain⟨f0,f1,f2,f3,f4,f5⟩:=hf it (by simp);exact sJ (I.ok.hd hc) st g hd (by omega) fun h' eb=>⟨rfl,I.turned (t':=s.toks) (fun b o hb e=>eb b o hb e) f0 f1 f3 f4 f5⟩
 self:=fun _ _ _ _ _ st h=>wpAny_pyIter_keyiter st h
section
variable {X:Cx} {tg:Expr}
def wC(tl:TE):TI:=fun σ H R=>tl σ H fun x H1=>∃a o kvs,x = .ref a∧H1 a=some (.frz o (.dT kvs))∧R (Itd a o kvs) H1
theorem sM{l:Expr}{tl:TE}(hl:PE X l tl):PI X tg l (wC tl):=by
 intro pins s σ H R I h;refine thn (hl pins s σ H _ I h) fun v s1 ⟨x,H1,I1,r1,q1⟩=>?_;obtain⟨a,o,kvs,rfl,e,q⟩:=q1;obtain rfl:v=Value.ref a:=r1;obtain⟨es,ep,d⟩:∃es ep,o.data = .dict es ep:=by
  obtain⟨g,_,_,xs,pr,o',es',ep',g',ex,d',_⟩:=(show s1.heap.get? a=some o∧bI X.prog X.w H1 s1.heap a (.dT kvs) from I1.hok a _ e);rw[g]at g';cases g';exact⟨_,_,d'⟩
 obtain⟨g,gc,sm,len,_⟩:=i9 I1.hok e d;refine qG sm g gc d ?_;refine⟨s1.heap.objs.size,[s1.heap.objs.size],_,_,H1,rfl,I1.kept (t':=s1.toks) fun b o e=>Heap.get?_push_of_some _ e,oX a _ d,⟨_,Heap.get?_push_size _ rfl,rfl,rfl⟩,fun b hb=>?_,q⟩;have e:b=s1.heap.objs.size:=by simpa using hb
 subst e;exact I1.fpOk (Nat.le_refl _) (I1.hok.fresh (Nat.le_refl _))
def wY(te:TE):TE:=fun σ H Q=>te σ H fun x H1=>∃a kvs,x = .ref a∧H1 a=some (.dT kvs)∧∀o,Q (.ref a) (upd H1 a (.frz o (.dT kvs)))
theorem u7{e:Expr}{te:TE}(h:PE X e te):PE X e (wY te):=by
 intro pins s σ H Q I hq;refine thn (h pins s σ H _ I hq) fun v s1 ⟨x,H1,I1,r1,a,kvs,ex,ea,k⟩=>?_;subst ex;have ok:=I1.hok a _ ea;obtain⟨_,_,_,_,o,_,_,g,_⟩:=(show bI X.prog X.w H1 s1.heap a (.dT kvs) from ok);have tup:∀b xs,H1 b=some (.tup xs)->upd H1 a (.frz o (.dT kvs)) b=some (.tup xs):=fun b xs q=>by
  rw[aM (fun z=>by rw[z,ea]at q;cases q)];exact q
 have J:xq X pins σ (upd H1 a (.frz o (.dT kvs))) { s1 with heap:=s1.heap,toks:=s1.toks }:=I1.write (x:=a) (e:=a) (by rw[ea];trivial) (.inl rfl) (fun _ _ _ q=>q) ⟨o,g⟩
  ⟨g,ok.stay (fun _ _ _ q=>q) (fun b q=>by rw[aM (fun z=>by rw[z,ea]at q;cases q)];exact q) tup⟩
 exact⟨.ref a,_,J,r1,k o⟩
end
end L2
namespace L2
open PySem PySem.Spec PyProof.Rows PySem.W
abbrev KnO(o:Obj):HO:=.frz o (.ext fun _=>True)
theorem lW{P:Program}{w:World}{H:Hp}{h:Heap}{a:Addr}{o:Obj}(e:h.get? a=some o):bI P w H h a (KnO o):=⟨e,trivial,⟨o,e⟩,fun _ _ _ _=>trivial⟩
theorem fJ{P:Program}{w:World}{H:Hp}{h:Heap}{a:Addr}{o:Obj}(k:HOk P w H h)(e:H a=some (KnO o)):h.get? a=some o:=(show h.get? a=some o∧_ from k a _ e).1
def cL(H:Hp)(c:Addr)(v:V):Prop:=∃o u,H c=some (KnO o)∧o.data = .cell (some u)∧aS v u
def fF(H:Hp)(c:Addr)(q:Str):Prop:=∃o vs t,H c=some (KnO o)∧o.data = .fields vs∧vs[1]? = some (.str q t)
theorem fF.rec_{P:Program}{w:World}{H:Hp}{h:Heap}{c:Addr}{q:Str}(x:fF H c q)(k:HOk P w H h):h.CodeRec (.ref c) q:=by
 obtain⟨o,vs,t,e,d,g⟩:=x;exact⟨c,o,vs,t,rfl,fJ k e,d,g⟩
def cO(p:Addr)(H H':Hp):Prop:=∀b o,b≠p->H b=some o->H' b=some o
def jq(K:Frag)(c p:Addr):Prop :=
 ∃o vs file tf flags tg inF text tt,K.lookup c=some o∧o.cls = .type "code"∧o.data = .fields vs∧vs[11]? = some (.ref p)∧vs.getD 11 .none = .ref p∧vs.getD 18 .none = .str file tf ∧
  vs.getD 7 .none = .int flags tg∧vs.getD 9 .none = .bool inF∧vs.getD 10 .none = .int text tt∧c≠p
theorem jq.hd{K:Frag}{c p:Addr}{h:Heap}(x:jq K c p)(X:K.In h):CodeHd h c p:=by
 obtain⟨o,vs,file,tf,flags,tg,inF,text,tt,e,r⟩:=x;exact⟨o,vs,file,tf,flags,tg,inF,text,tt,X _ _ e,r⟩
def sj(K:Frag)(mg:Str->Option Value):Prop :=
 ∃bm o,mg "__builtins__" = some (.ref bm)∧bm≠builtinsNs∧bm≠mainGlobals∧K.lookup bm=some o∧o.cls = .type "module"∧o.dict=some builtinsNs∧o.data = .plain
def Tab(H:Hp)(p:Addr)(ls:List (Pos×Str)):Prop :=
 ∃ps,H p=some (.tbl ps)∧TriplesOk ps.toList∧∀l∈ls,codeAmong l.1 ps.toList=none∨∃c,codeAmong l.1 ps.toList=some (.ref c)∧fF H c l.2
theorem Tab.same{H H':Hp}{p:Addr}{ls:List (Pos×Str)}(t:Tab H p ls)(s:Same H H'):Tab H' p ls:=by
 obtain⟨ps,e,k,a⟩:=t;refine⟨ps,s _ _ e,k,fun l hl=>(a l hl).imp_right ?_⟩;rintro⟨c,e2,o,vs,t,e3,r⟩;exact⟨c,e2,o,vs,t,s _ _ e3,r⟩
theorem Tab.other{H H':Hp}{p q:Addr}{ls:List (Pos×Str)}{ps:Array Value}(t:Tab H p ls)(hq:H q=some (.tbl ps))(ne:p≠q)(s:cO q H H'):Tab H' p ls:=by
 obtain⟨ps',e,k,a⟩:=t;refine⟨ps',s _ _ ne e,k,fun l hl=>(a l hl).imp_right ?_⟩;rintro⟨c,e2,o,vs,t,e3,r⟩;refine⟨c,e2,o,vs,t,s _ _ (fun z=>?_) e3,r⟩;rw[z,hq]at e3;cases e3
def j9(H:Hp)(f:Addr)(q:Str)(params:Arguments)(body:Expr)(scope:Scope)(clos:List (Str×Addr)):Prop :=
 ∃pm c ctv,H f=some (KnO (kla_obj "<lambda>" q params body scope clos pm c ctv))∧fF H c q
theorem j9.same{H H':Hp}{f:Addr}{q:Str}{params:Arguments}{body:Expr}{scope:Scope}{clos:List (Str×Addr)}(t:j9 H f q params body scope clos)(s:∀b o,H b=some (KnO o)->H' b=some (KnO o)):j9 H' f q params body scope clos:=by
 obtain⟨pm,c,ctv,e,o,vs,t,e3,r⟩:=t;exact⟨pm,c,ctv,s _ _ e,o,vs,t,s _ _ e3,r⟩
theorem jF{pos pos':Pos}{c:Value}(l:List Value)(h:TriplesOk l)(ne:¬(pos'.line=pos.line∧pos'.col=pos.col)):codeAmong pos' (l++[rawInt pos.line,rawInt pos.col,c])=codeAmong pos' l:=by
 fun_induction TriplesOk l with
 | case1 =>
  show codeAmong pos' [rawInt pos.line,rawInt pos.col,c]=codeAmong pos' [];simp only[rawInt,codeAmong];rw[if_neg];intro z;rw[Bool.and_eq_true]at z;have z1:=eq_of_beq z.1;have z2:=eq_of_beq z.2;exact ne ⟨by omega,by omega⟩
 | case2 a ta b tb c' rest ih =>
  show codeAmong pos' (.int a ta::.int b tb::c'::(rest++[rawInt pos.line,rawInt pos.col,c]))=codeAmong pos' (.int a ta::.int b tb::c'::rest);unfold codeAmong;rw[ih h]
 | case3 l h1 h2=>exact h.elim
def wW(p:Addr)(ls:List (Pos×Str))(q:Str)(params:Arguments)(body:Expr)(scope:Scope)(clos:List (Str×Addr)):TE:=fun _ H Q =>
 Tab H p ls∧∀f H',cO p H H'->Tab H' p ls->j9 H' f q params body scope clos->H f=none->Q (.ref f) H'
section
variable {X:Cx} {params:Arguments} {body:Expr} {scope:Scope} {pos:Pos} {clos:List (Str×Addr)} {c p:Addr} {ls:List (Pos×Str)} {q:Str}
theorem kr(hcl:closureFor scope X.env=pure clos)(hcode:X.env.code = .ref c)(C:jq X.K c p)(B:sj X.K X.mg)(hdef:defaultsOf params X.env=([],[]))(hq:q=X.env.qual++"<lambda>")(hm:(pos,q)∈ls)
  (hd:∀l∈ls,l≠(pos,q)->¬(l.1.line=pos.line∧l.1.col=pos.col)):PE X (.Lambda params body scope pos) (wW p ls q params body scope clos):=by
 intro pins s σ H Q I h;obtain⟨⟨ps,hp,tk,ok⟩,k⟩:=h;subst hq;have hP:s.heap.get? p=some (tabObj ps):=I.hok p _ hp;have hg:s.heap.Ns mainGlobals X.mg:=I.mod.glob.keeps I.bk;have hgP:mainGlobals≠p:=fun z=>by
  obtain⟨o,es,ep,e,d,_⟩:=hg;rw[z,hP]at e;cases e;cases d
 obtain⟨bm,ob,b1,b2,b3,b4,b5,b6,b7⟩:=B;have hbm:=I.kIn _ _ b4;have hbP:bm≠p:=fun z=>by
  rw[z,hP]at hbm;cases hbm;cases b7
 have BA:s.heap.BuiltinsAt X.mg p:=⟨bm,ob,b1,b2,b3,hbP,hbm,b5,b6,b7⟩;have CH:=C.hd I.kIn;refine kla_eval hdef ?_;rcases ok _ hm with hn|⟨c',hc',ck⟩
 ·refine kla_makeFunction (mg:=X.mg) hcl I.ok.glob hg hcode CH hP tk hn hgP BA fun c' ctv h' t' hx hge hlt hrec htb=>?_
  obtain⟨c₂,oc,vs,t,e2,hoc,hd2,hv⟩:=hrec;cases e2;have hfo:h'.objs.size≠c':=Nat.ne_of_gt hlt;have hpo:p<s.heap.objs.size:=Heap.lt_size hP;have pc:p≠c':=Nat.ne_of_lt (Nat.lt_of_lt_of_le hpo hge);have pf:p≠h'.objs.size:=Nat.ne_of_lt (Nat.lt_trans (Nat.lt_of_lt_of_le hpo hge) hlt);have nc:H c'=none:=I.hok.fresh hge;have nf:H h'.objs.size=none:=I.hok.fresh (Nat.le_of_lt (Nat.lt_of_le_of_lt hge hlt));generalize hps:ps++#[rawInt pos.line,rawInt pos.col,.ref c']=ps' at htb;generalize hfob:kla_obj "<lambda>" (X.env.qual++"<lambda>") params body scope clos ((X.mg "__name__").getD .none) c' ctv=fo at *;have nfr:fo.isFreed=false:=by rw[<- hfob];rfl
  have ext:∀b o,b≠p->s.heap.get? b=some o->(h'.push fo).get? b=some o:=fun b o ne e=>Heap.get?_push_of_some _ (hx b o ne e)
  let H':Hp:=upd (upd (upd H p (.tbl ps')) c' (KnO oc)) h'.objs.size (KnO fo)
  have Hf:H' h'.objs.size=some (KnO fo):=upd_same;have Hc:H' c'=some (KnO oc):=(aM hfo.symm).trans upd_same;have Hp':H' p=some (.tbl ps'):=(aM pf).trans ((aM pc).trans upd_same);have Hb:∀b,b≠p->b≠c'->b≠h'.objs.size->H' b=H b:=fun b z1 z2 z3=>(aM z3).trans ((aM z2).trans (aM z1));have Hs:cO p H H':=fun b o ne e=>by
   rw[Hb b ne (fun z=>by rw[z,nc]at e;cases e) (fun z=>by rw[z,nf]at e;cases e)];exact e
  have old:∀b o,s.heap.get? b=some o->b≠c'∧b≠h'.objs.size:=fun b o e=>⟨Nat.ne_of_lt (Nat.lt_of_lt_of_le (Heap.lt_size e) hge),Nat.ne_of_lt (Nat.lt_trans (Nat.lt_of_lt_of_le (Heap.lt_size e) hge) hlt)⟩;have npn:∀b,H b=none->b≠p:=fun b n z=>by rw[z,hp]at n;cases n
  have un:Un X.fs [] H H' s.heap (h'.push fo):=by
   refine⟨fun b o e n _ _=>ext b o (npn b n) e,fun b o e n _ _=>⟨o.slots,ext b o (npn b n) e⟩,fun b o e n _=>?_,fun b o e _=>?_,fun b xs e=>Hs b _ (fun z=>by rw[z,hp]at e;cases e) e,fun b o u e=>Hs b _ (fun z=>by rw[z,hp]at e;cases e) e,fun b ps2 e=>?_⟩
   ·rw[Hb b (npn b n) (old b o e).1 (old b o e).2];exact n
   ·by_cases z:b=p
    ·subst z;exact⟨_,Heap.get?_push_of_some _ htb⟩
    ·exact⟨o,ext b o z e⟩
   ·by_cases z:b=p
    ·subst z
     rw[hp]at e;cases e;exact⟨_,by rw[Hp',<- hps]⟩
    ·exact⟨#[],by rw[Hs b _ z e];simp⟩
  have hok:HOk X.prog X.w H' (h'.push fo):=fun b u e=>by
   by_cases z3:b=h'.objs.size
   ·subst z3
    rw[Hf]at e;cases e;exact lW (Heap.get?_push_size _ nfr)
   ·by_cases z2:b=c'
    ·subst z2
     rw[Hc]at e;cases e;exact lW (Heap.get?_push_of_some _ hoc)
    ·by_cases z1:b=p
     ·subst z1
      rw[Hp']at e;cases e;exact Heap.get?_push_of_some _ htb
     ·rw[Hb b z1 z2 z3]at e
      refine(I.hok b u e).stay (fun d v hd' q=>ext d v ?_ q) (fun d q=>Hs d _ (fun z=>by rw[z,hp]at q;cases q) q) fun d xs q=>Hs d _ (fun z=>by rw[z,hp]at q;cases q) q;rcases hd' with rfl|hd'
      ·exact z1
      ·intro z
       rw[z,hp]at hd';cases hd'
  have CK:fF H' c' (X.env.qual++"<lambda>"):=⟨oc,vs,t,Hc,hd2,hv⟩;have e0:ps'.toList=ps.toList++[rawInt pos.line,rawInt pos.col,.ref c']:=by rw[<- hps];simp
  refine⟨.ref h'.objs.size,H',I.un (t':=t') un hok,rfl,k _ H' Hs ⟨ps',Hp',?_,fun l hl=>?_⟩ ⟨_,c',ctv,by rw[Hf,<- hfob],CK⟩ nf⟩
  ·rw[e0]
   exact TriplesOk_snoc _ _ _ _ tk
  ·by_cases z:l=(pos,X.env.qual++"<lambda>")
   ·subst z
    refine .inr ⟨c',?_,CK⟩;rw[e0];exact codeAmong_snoc _ tk hn
   ·rw[e0,jF _ tk (hd l hl z)]
    refine(ok l hl).imp_right ?_;rintro⟨c3,e3,o3,vs3,t3,e4,r4⟩;exact⟨c3,e3,o3,vs3,t3,Hs _ _ (fun z=>by rw[z,hp]at e4;cases e4) e4,r4⟩
 ·refine kla_makeFunctionHit (mg:=X.mg) hcl I.ok.glob hg hcode CH hP tk hc' BA fun ctv h' t' hx hsz=>?_
  have nf:H h'.objs.size=none:=I.hok.fresh hsz;have J:=I.laid (a:=h'.objs.size) (o:=KnO (kla_obj "<lambda>" (X.env.qual++"<lambda>") params body scope clos ((X.mg "__name__").getD .none) c' ctv)) (t':=t') (h':=h'.push (kla_obj "<lambda>" (X.env.qual++"<lambda>") params body scope clos ((X.mg "__name__").getD .none) c' ctv))
   (fun b o e=>Heap.get?_push_of_some _ (hx b o e)) hsz (lW (Heap.get?_push_size _ rfl))
  have S:Same H (upd H h'.objs.size (KnO (kla_obj "<lambda>" (X.env.qual++"<lambda>") params body scope clos ((X.mg "__name__").getD .none) c' ctv))):=fun b o e=>by
   rw[aM (fun z=>by rw[z,nf]at e;cases e)];exact e
  obtain⟨o,vs,t,e3,r⟩:=ck;exact⟨.ref h'.objs.size,_,J,rfl,k _ _ (fun b o _ e=>S b o e) (Tab.same ⟨ps,hp,tk,ok⟩ S) ⟨_,c',ctv,upd_same,o,vs,t,S _ _ e3,r⟩ nf⟩
end
abbrev cut(C:List Addr)(H:Hp):Hp:=fun b=>if b∈C then none else H b
abbrev lA(C:List Addr)(H H1:Hp):Hp:=fun b=>if b∈C then H b else H1 b
theorem jk{C:List Addr}{H:Hp}{b:Addr}(h:b∈C):cut C H b=none:=if_pos h
theorem cD{C:List Addr}{H:Hp}{b:Addr}(h:b∉C):cut C H b=H b:=if_neg h
theorem kh{C:List Addr}{H H1:Hp}{b:Addr}(h:b∈C):lA C H H1 b=H b:=if_pos h
theorem cU{C:List Addr}{H H1:Hp}{b:Addr}(h:b∉C):lA C H H1 b=H1 b:=if_neg h
theorem fc{C:List Addr}{H H1:Hp}(s:Same (cut C H) H1):Same H (lA C H H1):=fun b o e=>by
 by_cases h:b∈C
 ·rw[kh h];exact e
 ·rw[cU h];exact s b o ((cD h).trans e)
theorem vE{P:Program}{w:World}{H:Hp}{h:Heap}{C:List Addr}(hok:HOk P w H h)(hC:∀c∈C,∃o,H c=some (KnO o)):HOk P w (cut C H) h:=fun b u e=>by
 have hb:b∉C:=fun z=>by rw[jk z]at e;cases e
 rw[cD hb]at e;have ne:∀d o,H d=some o->(∀z,o≠KnO z)->d∉C:=fun d o e n z=>by
  obtain⟨o',e'⟩:=hC d z;rw[e]at e';exact n o' (Option.some.inj e')
 refine(hok b u e).stay (fun _ _ _ q=>q) (fun d q=>?_) fun d xs q=>?_
 ·rw[cD (ne d _ q fun z q=>by cases q)];exact q
 ·rw[cD (ne d _ q fun z q=>by cases q)];exact q
def rN(P:Program)(w:World)(K:W.Frag)(mg:Str->Option Value)(base:Heap)(N:List Str)(qual:Str)(scope:Scope)(f:Addr)(cd:Value)(cl:List (Str×Addr))(A:Around)(outer:List Env)(s:Shared)(H:Hp):Cx where
 prog:=P
 w:=w
 K:=K
 mg:=mg
 base:=base
 A:=A.deeper (envX qual scope s.heap.objs.size f cd cl)
 N:=N
 s₀:=s
 H₀:=H
 env:=envX qual scope s.heap.objs.size f cd cl
 outer:=outer
 stack:=envX qual scope s.heap.objs.size f cd cl::outer
 ex:=[]
 calm:=true
 fn:=fun _=>false
 pn:=[]
 xe:=fun _ _=>False
structure BU(x:Str)(scope:Scope)(cl:List (Str×Addr)):Prop where
 kind:scope.kind = .function
 co:scope.isCoroutine=false
 gen:scope.isGenerator=false
 cell:∀y∈scope.names,y.2≠.cell
 own:scope.names.lookup x=some .local
 has:(scope.names.all fun q=>!(q.2 == .free) || (cl.lookup q.1).isSome)=true
 nd:(x::cl.map (·.1)).Nodup
 fr:∀p∈cl,scope.names.lookup p.1=some .free
 inj:∀p∈cl,∀q∈cl,p.2=q.2->p.1=q.1
theorem qd{cl:List (Str×Addr)}:∀(_:(cl.map (·.1)).Nodup) {j:Nat} {y:Str} {c:Addr},cl[j]? = some (y,c)->cl.lookup y=some c:=by
 induction cl with
 | nil=>intro _ j y c e;simp at e
 | cons a r ih =>
  intro nd j y c e;rw[List.map_cons,List.nodup_cons]at nd;rw[List.lookup_cons];cases j with
  | zero =>
   simp at e;subst e;simp
  | succ j =>
   have e':r[j]? = some (y,c):=by simpa using e
   have:y≠a.1:=fun z=>nd.1 (List.mem_map.mpr ⟨(y,c),List.mem_of_getElem? e',z⟩);rw[beq_eq_false_iff_ne.mpr this];exact ih nd.2 e'
section
variable {P:Program} {w:World} {K:W.Frag} {mg:Str->Option Value} {base:Heap}
theorem tp{x q:Str}{scope:Scope}{cl:List (Str×Addr)}{f c:Addr}{A:Around}{outer:List Env}{s:Shared}{h₁:Heap}{tk:Nat}{H:Hp}{v:V}{u:Value}{ws:List V}(L:BU x scope cl)(hd:A.handled=none)(e0:Bk P w K mg base A outer s H)
  (cs:Paired (fun (p:Str×Addr) z=>cL H p.2 z) cl ws) (rv:aS v u) (hns:h₁.Ns s.heap.objs.size (fun y=>[(x,u)].reverse.lookup y)) (hk:∀b o,s.heap.get? b=some o->h₁.get? b=some o) :
  xq (rN P w K mg base (x::cl.map (·.1)) q scope f (.ref c) cl A outer s (cut (cl.map (·.2)) H)) [] (some v::ws.map some) (cut (cl.map (·.2)) H) { s with heap:=h₁,toks:=tk }:=by
 have get:∀{j:Nat} {p:Str×Addr},cl[j]? = some p->∃z,ws[j]? = some z∧cL H p.2 z:=by
  clear L hns
  induction cs with
  | nil=>intro j p e;simp at e
  | cons a r ih =>
   intro j p e;cases j with
   | zero=>simp at e;subst e;exact⟨_,rfl,a⟩
   | succ j=>exact ih (by simpa using e)
 have len:cl.length=ws.length:=Paired.length cs;have hC:∀d∈cl.map (·.2),∃o,H d=some (KnO o):=fun d hd'=>by
  obtain⟨p,hp,rfl⟩:=List.mem_map.mp hd';obtain⟨j,hj⟩:=List.getElem?_of_mem hp;obtain⟨z,_,o,_,e,_⟩:=get hj;exact⟨o,e⟩
 have isC:∀y d,cl.lookup y=some d->d∈cl.map (·.2)∧∃z,s.heap.IsCell d z:=fun y d e=>by
  have hm:=PySem.mem_of_lookup e;obtain⟨j,hj⟩:=List.getElem?_of_mem hm;obtain⟨z,_,o,u',e',d',_⟩:=get hj;exact⟨List.mem_map.mpr ⟨_,hm,rfl⟩,some u',o,fJ e0.hok e',d'⟩
 have noA:∀b:Addr,b∉(rN P w K mg base (x::cl.map (·.1)) q scope f (.ref c) cl A outer s (cut (cl.map (·.2)) H)).ex:=fun b z=>absurd (show b∈([]:List Addr) from z) (by simp);have hcut:=vE (C:=cl.map (·.2)) e0.hok hC;have cn:∀b,H b=none->cut (cl.map (·.2)) H b=none:=fun b n=>by
  by_cases z:b∈cl.map (·.2)
  ·exact jk z
  ·rw[cD z];exact n
 have inv:∀h':Heap,(∀b o,s.heap.get? b=some o->h'.get? b=some o)->Un (frs outer) [] (cut (cl.map (·.2)) H) (cut (cl.map (·.2)) H) s.heap h':=fun h' k=>Un.kept k;refine⟨⟨e0.mod,L.kind,rfl,rfl,Nat.le_refl _,fun y z d h1 h2=>?_,fun y hy=>?_,fun y d z=>(by cases z),fun _=>hd,Around.frames_deeper e0.frames,.inr ⟨rfl,rfl⟩,fun b z=>absurd z (noA b),fun b o e=>⟨(e0.bs b o e).1,cn b (e0.bs b o e).2⟩,e0.bsz,fun b _ _=>noA b,fun b z=>absurd z (noA b),e0.funs,fun b hb=>cn b (e0.frf b hb)⟩,
  rfl,e0.bare,inv h₁ hk,⟨_,hns,fun i y v' h1 h2 h3=>?_⟩,fun y d h=>?_,?_,fun y d h=>?_,fun p hp=>absurd (show p∈([]:List (Addr×Obj)) from hp) (by simp),hcut.kept hk,?_⟩
 ·exact L.inj _ (PySem.mem_of_lookup h1) _ (PySem.mem_of_lookup h2) rfl
 ·have hy:scope.names.lookup y=some .cell∨scope.names.lookup y=some .free:=hy
  rcases hy with hy|hy
  ·exact absurd rfl (L.cell _ (PySem.mem_of_lookup hy))
  ·have q:=List.all_eq_true.mp L.has _ (PySem.mem_of_lookup hy)
   have q:(cl.lookup y).isSome=true:=by simpa only[beq_self_eq_true,Bool.not_true,Bool.false_or]using q
   exact Option.isSome_iff_exists.mp q
 ·have h1:(x::cl.map (·.1))[i]? = some y:=h1
  cases i with
  | zero =>
   have e1:x=y:=by simpa using h1
   have e2:v=v':=by simpa using h2
   subst e1 e2;exact⟨u,rv,.inl ⟨L.own,by simp⟩⟩
  | succ j =>
   have e1:(cl.map (·.1))[j]? = some y:=by simpa using h1
   rw[List.getElem?_map]at e1;cases hj:cl[j]? with
   | none=>rw[hj]at e1;cases e1
   | some p =>
    rw[hj]at e1;have e1:p.1=y:=by simpa using e1
    obtain⟨z,hz,o,u',e',d',r'⟩:=get hj;have e2:z=v':=by
     have:(ws.map some)[j]? = some (some v'):=by simpa using h2
     rw[List.getElem?_map,hz]at this;simpa using this
    subst e1 e2;refine⟨u',r',.inr ⟨.inr (L.fr p (List.mem_of_getElem? hj)),p.2,qd (List.nodup_cons.mp L.nd).2 (c:=p.2) (y:=p.1) hj,o,hk _ _ (fJ e0.hok e'),d'⟩⟩
 ·obtain⟨z,o,e,d'⟩:=(isC y d h).2
  exact⟨z,o,hk _ _ e,d'⟩
 ·exact cn _ (e0.hok.fresh (Nat.le_refl _))
 ·exact jk (isC y d h).1
 ·show(some v::ws.map some).length=(x::cl.map (·.1)).length
  simp[len]
def v7(f:Addr)(q:Str)(params:Arguments)(body:Expr)(scope:Scope)(cl:List (Str×Addr))(pm:Value)(c:Addr)(ctv:Value)(te:TE):Sp:=fun vs H Q _ =>
 ∃v ws,vs = [v]∧H f=some (KnO (kla_obj "<lambda>" q params body scope cl pm c ctv))∧fF H c q∧Paired (fun (p:Str×Addr) z=>cL H p.2 z) cl ws ∧
  te (some v::ws.map some) (cut (cl.map (·.2)) H) fun r H1=>(∀c∈cl.map (·.2),H1 c=none)->Q r (lA (cl.map (·.2)) H H1)
theorem kE{x q:Str}{params:Arguments}{body:Expr}{scope:Scope}{cl:List (Str×Addr)}{pm ctv:Value}{f c:Addr}{te:TE}{k:Nat}(L:BU x scope cl)
  (hbody:∀(A:Around) (outer:List Env) (s:Shared) (H:Hp),xL k (A.deeper (envX q scope s.heap.objs.size f (.ref c) cl))->PE (rN P w K mg base (x::cl.map (·.1)) q scope f (.ref c) cl A outer s H) body te) :
  zU P w K mg base CX0 (k+1) f (kla_fn "<lambda>" q params body scope cl pm (.ref c) ctv) [x] (v7 f q params body scope cl pm c ctv te):=by
 refine⟨fun vs H Q E h=>?_,fun A outer s H args us vs Q E hr e0 hb r hsp=>?_⟩
 ·obtain⟨v,ws,rfl,_⟩:=h
  rfl
 ·obtain⟨v,ws,rfl,ef,ck,cs,h⟩:=hsp
  cases r with
  | cons rv r =>
   cases r;rename_i u;have lim:s.heap.NoLimit:=e0.mod.nolimit.keeps fun b o e=>(e0.bs b o e).1;refine kla_callFunE hr.depth (fJ e0.hok ef) rfl L.co L.gen rfl (ck.rec_ e0.hok) (hb _ _ _ _ ?_);refine wpAny_newFunctionEnv L.cell (fun y hy=>?_) (fun h₁ hns hsb=>⟨lim.fresh _ hsb,?_⟩) L.kind
   ·obtain rfl:y=(x,u):=by simpa using hy
    exact L.own
   ·show codeAny _ _ (.expr body (envX q scope s.heap.objs.size f (.ref c) cl)) _ _
    have hk₁:∀b o,s.heap.get? b=some o->h₁.get? b=some o:=fun b o e=>hsb.extBut b o (Nat.ne_of_lt (Heap.lt_size e)) (Heap.get?_push_of_some _ e);have I:=tp (q:=q) (f:=f) (c:=c) (tk:=s.toks+([x].zip [u]).length) L hr.hd e0 cs rv hns hk₁;refine kla_codeExpr (wpAny_mono (hbody A outer s _ (hr.deeper _) _ _ _ _ _ I h) (fun u' s' hq=>?_) fun _ _ z=>False.elim z);obtain⟨v',H1,J,r',q'⟩:=hq;have hC:∀d∈cl.map (·.2),∃o,H d=some (KnO o)∧s.heap.get? d=some o:=fun d hd'=>by
     obtain⟨p,hp,rfl⟩:=List.mem_map.mp hd';have:∀{l:List (Str×Addr)} {ws:List V},Paired (fun (p:Str×Addr) z=>cL H p.2 z) l ws->p∈l->∃z,cL H p.2 z:=by
      intro l ws cs
      induction cs with
      | nil=>intro z;cases z
      | cons a r ih =>
       intro z;rcases List.mem_cons.mp z with rfl|z
       ·exact⟨_,a⟩
       ·exact ih z
     obtain⟨z,o,_,e,_⟩:=this cs hp;exact⟨o,e,fJ e0.hok e⟩
    have B:Un (frs outer) [] (cut (cl.map (·.2)) H) H1 s.heap s'.heap:=J.base;have nin:∀b,(∀o,H b≠some (KnO o))->b∉cl.map (·.2):=fun b n z=>by
     obtain⟨o,e,_⟩:=hC b z;exact n o e
    have out:∀b,H b=none->b∉cl.map (·.2):=fun b n=>nin b fun o e=>by rw[n]at e;cases e
    have h1n:∀d∈cl.map (·.2),H1 d=none:=fun d hd'=>by
     obtain⟨o,_,e⟩:=hC d hd';exact B.free d o e (jk hd') (by simp)
    have sC:∀d∈cl.map (·.2),∀o,s.heap.get? d=some o->s'.heap.get? d=some o:=fun d hd' o e=>by
     refine B.keep d o e (jk hd') (fun z=>?_) (by simp);obtain⟨o',e',_⟩:=hC d hd';rw[e0.frf d z]at e';cases e'
    refine⟨v',lA (cl.map (·.2)) H H1,J.os,J.bare,⟨fun b o e n hb hx=>?_,fun b o e n hb hx=>?_,fun b o e n hx=>?_,fun b o e hx=>B.there b o e hx,fun b xs e=>?_,fun b o u e=>?_,fun b ps e=>?_⟩,fun b u e=>?_,r',q' h1n⟩
    ·exact B.keep b o e ((cD (out b n)).trans n) hb hx
    ·exact B.slot b o e ((cD (out b n)).trans n) hb hx
    ·rw[cU (out b n)]
     exact B.free b o e ((cD (out b n)).trans n) hx
    ·have z:b∉cl.map (·.2):=nin b fun o' e'=>by rw[e]at e';cases e'
     rw[cU z];exact B.tups b xs ((cD z).trans e)
    ·by_cases z:b∈cl.map (·.2)
     ·rw[kh z];exact e
     ·rw[cU z]
      exact B.frzs b o u ((cD z).trans e)
    ·have z:b∉cl.map (·.2):=nin b fun o' e'=>by rw[e]at e';cases e'
     obtain⟨more,q⟩:=B.tbls b ps ((cD z).trans e);exact⟨more,by rw[cU z];exact q⟩
    ·by_cases z:b∈cl.map (·.2)
     ·rw[kh z]at e
      obtain⟨o,e',g⟩:=hC b z;rw[e]at e';cases e';exact lW (sC b z o g)
     ·rw[cU z]at e
      refine(J.hok b u e).stay (fun _ _ _ q=>q) (fun d q=>?_) fun d xs q=>?_
      ·rw[cU fun z=>by rw[h1n d z]at q;cases q];exact q
      ·rw[cU fun z=>by rw[h1n d z]at q;cases q];exact q
end
def uL(cs:List (Addr×Nat))(sp:Sp)(t:TA):TE:=fun σ H Q=>t σ H fun vs H1=>∀H2,Same H1 H2->(∀p∈cs,∀v,σ[p.2]? = some (some v)->cL H2 p.1 v) ->
 sp vs H2 (fun r H3=>∀H4,(∀b o,H3 b=some o->(∀z,o=KnO z->∀u,z.data≠.cell u)->H4 b=some o)->(∀b o,H1 b=some o->H3 b=some o->H4 b=some o)->Q r H4) E0
section
variable {X:Cx} {x:Str} {ps:List Str} {k:Nat} {sp:Sp} {p pos:Pos} {e:Expr} {es:List Expr} {t:TA} {cs:List (Addr×Nat)}
open Classical in
theorem sH{pins:List (Addr×Obj)}{σ:St}{H:Hp}{s:Shared}{Q:VK}{us:List Value}{vs:List V}{f:Addr}{fd:FuncData}(F:zU X.prog X.w X.K X.mg X.base CX0 k f fd ps sp)(hr:xL k X.A)(hb:ej X.K fd ps [])(hfn:∀x,X.fn x=true)
  (hcs:∀p∈cs,∃y,X.env.cells.lookup y=some p.1∧X.N[p.2]? = some y∧X.env.kindOf y=some .cell∧Vis X.env.scope y) (I:xq X pins σ H s) (r:aP vs us)
  (h:∀H2,Same H H2->(∀p∈cs,∀v,σ[p.2]? = some (some v)->cL H2 p.1 v) ->
   sp vs H2 (fun r H3=>∀H4,(∀b o,H3 b=some o->(∀z,o=KnO z->∀u,z.data≠.cell u)->H4 b=some o)->(∀b o,H b=some o->H3 b=some o->H4 b=some o)->Q r H4) E0) :
  wpAny (model X.prog X.w) X.A (call (.ref f) us) (EP X pins σ Q) X.xe s:=by
 let isC:Addr->Prop:=fun b=>∃y,X.env.cells.lookup y=some b
 let H2:Hp:=fun b=>if isC b then (s.heap.get? b).map KnO else H b
 have in2:∀b,isC b->H2 b=(s.heap.get? b).map KnO:=fun b z=>if_pos z;have out2:∀b,¬isC b->H2 b=H b:=fun b z=>if_neg z;have cN:∀b,isC b->H b=none:=fun b ⟨y,e⟩=>I.freeC y b e;have cG:∀b,isC b->∃o z,s.heap.get? b=some o∧o.data = .cell z:=fun b ⟨y,e⟩=>by
  obtain⟨z,o,e1,e2⟩:=I.cell y b e;exact⟨o,z,e1,e2⟩
 have cK:∀b o,isC b->s.heap.get? b=some o->H2 b=some (KnO o):=fun b o z e=>by rw[in2 b z,e];rfl
 have cA:∀b,isC b->X.s₀.heap.objs.size≤b:=fun b ⟨y,e⟩=>I.ok.cab y b (hfn y) e;have same:Same H H2:=fun b o e=>by
  rw[out2 b fun z=>by rw[cN b z]at e;cases e];exact e
 have frn:∀b∈frs X.stack,¬isC b:=fun b hb ⟨y,e⟩=>by
  rcases List.mem_cons.mp (I.stkSub b hb) with z|z
  ·exact I.cne y b e z
  ·obtain⟨_,o,ho,_⟩:=I.ok.funs.mem z
   exact absurd (Nat.lt_of_lt_of_le (Heap.lt_size ho) (cA b ⟨y,e⟩)) (Nat.lt_irrefl _)
 have hok2:HOk X.prog X.w H2 s.heap:=fun b u e=>by
  by_cases z:isC b
  ·obtain⟨o,z',e1,_⟩:=cG b z
   rw[cK b o z e1]at e;cases e;exact lW e1
  ·rw[out2 b z]at e
   exact(I.hok b u e).stay (fun _ _ _ q=>q) (fun d q=>same d _ q) fun d xs q=>same d _ q
 have e0:=I.env0;have e2:Bk X.prog X.w X.K X.mg X.base X.A X.stack s H2:=by
  refine⟨e0.frames,e0.mod,fun b o e=>⟨(e0.bs b o e).1,?_⟩,e0.bsz,e0.funs,fun b hb=>?_,hok2,e0.bare⟩
  ·rw[out2 b fun z=>absurd (Nat.lt_of_lt_of_le (Heap.lt_size e) (Nat.le_trans I.ok.bsz (cA b z))) (Nat.lt_irrefl _)]
   exact(e0.bs b o e).2
  ·rw[out2 b (frn b hb)]
   exact e0.frf b hb
 have cells:∀p∈cs,∀v,σ[p.2]? = some (some v)->cL H2 p.1 v:=fun p hp v hv=>by
  obtain⟨y,h1,h2,h3,h4⟩:=hcs p hp;obtain⟨m,hn,hl⟩:=I.loc;obtain⟨u,ru,l⟩:=hl p.2 y v h2 hv h4;rcases l with⟨kk,_⟩|⟨_,c,hc,o,ho,hd⟩
  ·rw[h3]at kk;cases kk
  ·rw[h1]at hc
   cases hc;exact⟨o,u,cK _ o ⟨y,h1⟩ ho,hd,ru⟩
 have hq:=h H2 same cells;have hl:(us++[]).length=ps.length:=by rw[List.append_nil,<- r.length];exact F.len _ _ _ _ hq
 have hbb:=hb s us I.kIn hl;rw[List.append_nil]at hbb;refine wpAny_call (codeAny_mono (F.run X.A X.stack s H2 ⟨us,[]⟩ us vs _ E0 hr e2 hbb r hq) fun r s' hq=>?_);cases r with
 | error e=>exact False.elim hq
 | ok fl =>
  cases fl with
  | next=>exact False.elim hq
  | brk=>exact False.elim hq
  | cont=>exact False.elim hq
  | ret u =>
   obtain⟨v,H3,os,bare,un,hok,rv,q⟩:=hq
   let H4:Hp:=fun b=>if isC b then none else H3 b
   have in4:∀b,isC b->H4 b=none:=fun b z=>if_pos z;have out4:∀b,¬isC b->H4 b=H3 b:=fun b z=>if_neg z;have c3:∀b,isC b->∃o,H3 b=some (KnO o)∧s.heap.get? b=some o∧s'.heap.get? b=some o:=fun b z=>by
    obtain⟨o,z',e1,_⟩:=cG b z;have e3:=un.frzs b o _ (cK b o z e1);exact⟨o,e3,e1,fJ hok e3⟩
   refine I.after ⟨v,H4,os,bare,⟨fun b o e n hb hx=>?_,fun b o e n hb hx=>?_,fun b o e n hx=>?_,fun b o e hx=>un.there b o e hx,fun b xs e=>?_,fun b o u e=>?_,fun b ps e=>?_⟩,fun b u e=>?_,rv,q H4 (fun b o e n=>?_) fun b o e e3=>?_⟩
   ·by_cases z:isC b
    ·obtain⟨o',_,e1,e2⟩:=c3 b z
     rw[e]at e1;cases e1;exact e2
    ·exact un.keep b o e ((out2 b z).trans n) hb hx
   ·exact un.slot b o e ((out2 b (frn b hb)).trans n) hb hx
   ·by_cases z:isC b
    ·exact in4 b z
    ·rw[out4 b z]
     exact un.free b o e ((out2 b z).trans n) hx
   ·have z:¬isC b:=fun z=>by rw[cN b z]at e;cases e
    rw[out4 b z];exact un.tups b xs ((out2 b z).trans e)
   ·have z:¬isC b:=fun z=>by rw[cN b z]at e;cases e
    rw[out4 b z];exact un.frzs b o u ((out2 b z).trans e)
   ·have z:¬isC b:=fun z=>by rw[cN b z]at e;cases e
    rw[out4 b z];exact un.tbls b ps ((out2 b z).trans e)
   ·have z:¬isC b:=fun z=>by rw[in4 b z]at e;cases e
    rw[out4 b z]at e;refine(hok b u e).stay (fun _ _ _ q=>q) (fun d q=>?_) fun d xs q=>?_
    ·rw[out4 d fun z=>by obtain⟨o,e3,_⟩:=c3 d z;rw[e3]at q;cases q];exact q
    ·rw[out4 d fun z=>by obtain⟨o,e3,_⟩:=c3 d z;rw[e3]at q;cases q];exact q
   ·rw[out4 b fun z=>by
     obtain⟨o',e3,e1,_⟩:=c3 b z;obtain⟨o2,z',e4,d⟩:=cG b z;rw[e1]at e4;cases e4;rw[e3]at e;exact n o' (Option.some.inj e).symm _ d]
    exact e
   ·rw[out4 b fun z=>by rw[cN b z]at e;cases e]
    exact e3
theorem oz{H H1:Hp}(h:∀b o,H b=some o->(∀z,o=KnO z->∀u,z.data≠.cell u)->H1 b=some o):∀b o,H b=some o->(∀z,o≠KnO z)->H1 b=some o:=fun b o e n=>h b o e fun z q=>absurd q (n z)
theorem qM(F:Fn X.prog X.w X.K X.mg X.base x ps k sp)(hr:xL k X.A)(hg:Gl X x)(hfn:∀x,X.fn x=true)(hcs:∀p∈cs,∃y,X.env.cells.lookup y=some p.1∧X.N[p.2]? = some y∧X.env.kindOf y=some .cell∧Vis X.env.scope y)(ha:PA X (e::es) t)
  (hdb:(x == ("__debug__" : Str))=false:=by decide) (he:starEach (e::es) X.env=(false,eval e X.env)::starEach es X.env:=by rfl) (hpl:(backTo pos (starEach es X.env)).any (·.1)=false:=by rfl) :
  PE X (.Call (.Name x p) (e::es) [] pos) (uL cs sp t):=by
 obtain⟨f,fd,o,hm,hk,hb,_,G⟩:=F.ex;intro pins s σ H Q I h;refine wpAny_Call_Name_kw (gs I hg hm ?_ hdb);refine W.callWith_K (h₀:=X.base) I.ok.mod.kin hk (thn (ha pos pins s σ H _ I h) fun us s1 ⟨vs,H1,I1,r,q⟩=>⟨I1.kIn,?_⟩) he hpl;exact sH G hr (.all hb) hfn hcs I1 r q
def vN(P:Program)(w:World)(K:W.Frag)(mg:Str->Option Value)(base:Heap)(k:Nat)(f:Addr)(sp:Sp):Prop:=∃(fd:FuncData) (ps:List Str),zU P w K mg base CX0 k f fd ps sp∧ej K fd ps []
def nJ(H:Hp)(f:Addr):Prop:=∃o fd,H f=some (KnO o)∧o.data = .func fd
def uK(P:Program)(w:World)(K:W.Frag)(mg:Str->Option Value)(base:Heap)(k i:Nat)(t:TA):TE:=fun σ H Q =>
 ∃f sp,σ[i]? = some (some (.ref f))∧vN P w K mg base k f sp∧nJ H f∧t σ H fun vs H1=>nJ H1 f∧sp vs H1 Q E0
theorem lH{i:Nat}(hr:xL k X.A)(hN:X.N[i]? = some x)(hv:Vis X.env.scope x)(ha:PA X (e::es) t)
  (hdb:(x == ("__debug__" : Str))=false:=by decide) (hcd:(x == ("__classdict__" : Str))=false:=by decide) (he:starEach (e::es) X.env=(false,eval e X.env)::starEach es X.env:=by rfl) (hpl:(backTo pos (starEach es X.env)).any (·.1)=false:=by rfl) :
  PE X (.Call (.Name x p) (e::es) [] pos) (uK X.prog X.w X.K X.mg X.base k i t):=by
 intro pins s σ H Q I h;obtain⟨f,sp,hs,⟨fd',ps',G',hb⟩,⟨o,fd,eo,ed⟩,h⟩:=h;refine wpAny_Call_Name_kw (thn (qJ (i:=i) hN hv hdb hcd pins s σ H (fun v H'=>v = .ref f∧H'=H) I ⟨_,hs,rfl,rfl⟩) fun u s1 ⟨v,H1,I1,rv,ev,eH⟩=>?_);subst ev eH;obtain rfl:u=Value.ref f:=rv;have at':∀{s:Shared} {H:Hp} {o:Obj} {fd:FuncData},HOk X.prog X.w H s.heap->H f=some (KnO o)->o.data = .func fd->FnAt f s.heap:=fun {s H o fd} k e d=>by
  have g:=fJ k e;obtain⟨oc,od,dt,sl⟩:=o;cases d;exact⟨oc,od,fd,sl,g⟩
 refine callWith_F (at' I1.hok eo ed) (thn (ha pos pins s1 σ H1 _ I1 h) fun us s2 ⟨vs,H2,I2,r,⟨o2,fd2,eo2,ed2⟩,q⟩=>⟨at' I2.hok eo2 ed2,?_⟩) he hpl;exact qE (ds:=[]) (dvs:=[]) G' hr hb .nil uu I2 r (by rw[List.append_nil];exact q)
theorem j9.obj{H:Hp}{f:Addr}{q:Str}{params:Arguments}{body:Expr}{scope:Scope}{clos:List (Str×Addr)}(t:j9 H f q params body scope clos):nJ H f:=by
 obtain⟨pm,c,ctv,e,_⟩:=t;exact⟨_,_,e,rfl⟩
end
structure Db(K:W.Frag)(mg:Str->Option Value)(x:Str)(st:Stmt)(p:Addr):Prop where
 ex:∃(f:Addr) (oc:Value) (od:Option Addr) (kV doc pm:Value) (an:Option Addr) (c:Addr) (ct:Value) (osl:Array (Option Value)),
  mg x=some (.ref f)∧K.lookup f=some ⟨oc,od,.func (W.fnOf x x (a8 st) (aJ st) (ai st) .none kV doc pm an (.ref c) ct),osl⟩∧W.codeIn K (.ref c) x=true∧W.keepIn K (.ref f)=true∧jq K c p
theorem Db.fn{P:Program}{w:World}{K:W.Frag}{mg:Str->Option Value}{base:Heap}{x:Str}{st:Stmt}{p:Addr}{N ps:List Str}{k:Nat}{sp:Sp}(D:Db K mg x st p)(S:xo N ps (ai st))
  (hbind:∀(kV doc pm:Value) (an:Option Addr) (cdv ct:Value) (us:List Value),us.length=ps.length->bindArgs (W.fnOf x x (a8 st) (aJ st) (ai st) .none kV doc pm an cdv ct) ⟨us,[]⟩=pure (ps.zip us))
  (len:∀vs H Q E,sp vs H Q E->vs.length=ps.length)
  (hbody:∀(f:Addr) (cdv:Value) (A:Around) (outer:List Env) (s:Shared) (H:Hp) (vs:List V) (Q:VK) (E:XK),(∃c,cdv = .ref c∧jq K c p)->xL k (A.deeper (envOfC x (ai st) s.heap.objs.size f cdv))->sp vs H Q E ->
   ∃t,PSs (a7 CX0 P w K mg base N x (ai st) f cdv A outer s H E).nox (aJ st) t∧t { nx:=fun _ H'=>Q .non H',rt:=Q } (d8 N vs) H):Fn P w K mg base x ps (k+1) sp:=by
 obtain⟨f,oc,od,kV,doc,pm,an,c,ct,osl,hm,lk,hcd,hk,hc⟩:=D.ex;refine⟨⟨f,_,_,hm,hk,hbind kV doc pm an (.ref c) ct,⟨lk,rfl⟩,ma lk hcd S len fun A outer s H vs Q E hr hsp=>?_⟩⟩;obtain⟨t,h,q⟩:=hbody f (.ref c) A outer s H vs Q E ⟨c,rfl,hc⟩ hr hsp;exact⟨t,h.nox,q⟩
def iA(s:Stmt)(i:Nat):Expr:=match s with
 | .Assign _ (.Call _ as _ _) _=>as.getD i (.Name "" ⟨0,0,0,0⟩)
 | _=>.Name "" ⟨0,0,0,0⟩
def cw(e:Expr):Scope:=match e with
 | .Lambda _ _ sc _=>sc
 | _=>{ kind:=.function,names:=[],isGenerator:=false,isCoroutine:=false }
def ir(e:Expr):Arguments:=match e with
 | .Lambda a _ _ _=>a
 | _=>{ posonlyargs:=[],args:=[],vararg:=none,kwonlyargs:=[],kw_defaults:=[],kwarg:=none,defaults:=[] }
def iq(e:Expr):Expr:=match e with
 | .Lambda _ b _ _=>b
 | _=>.Name "" ⟨0,0,0,0⟩
def bW(e:Expr):Pos:=match e with
 | .Lambda _ _ _ p=>p
 | _=>⟨0,0,0,0⟩
theorem cX{C:List Addr}{H:Hp}{b:Addr}{o:HO}(hC:∀c∈C,∃o,H c=some (KnO o))(e:H b=some o)(n:∀z,o≠KnO z):cut C H b=some o:=by
 rw[cD fun z=>?_]
 ·exact e
 ·obtain⟨o',e'⟩:=hC b z
  rw[e]at e';exact n o' (Option.some.inj e')
theorem gb{C:List Addr}{H H1:Hp}{b:Addr}{o:HO}(hC:∀c∈C,H1 c=none)(e:H1 b=some o):lA C H H1 b=some o:=by
 rw[cU fun z=>by rw[hC b z]at e;cases e];exact e
theorem cO.keep{p:Addr}{H H':Hp}{b:Addr}{o:HO}{ls:List (Pos×Str)}(s:cO p H H')(t:Tab H p ls)(e:H b=some o)(n:∀ps,o≠.tbl ps):H' b=some o:=by
 obtain⟨ps,e1,_⟩:=t;refine s b o (fun z=>?_) e;rw[z,e1]at e;exact n ps (Option.some.inj e).symm
theorem cO.trans{p:Addr}{H H1 H2:Hp}(a:cO p H H1)(b:cO p H1 H2):cO p H H2:=fun c o n e=>b c o n (a c o n e)
theorem Same.p{p:Addr}{H H':Hp}(s:Same H H'):cO p H H':=fun b o _ e=>s b o e
theorem gC{H:Hp}{cl:List (Str×Addr)}{ws:List V}(cs:Paired (fun (p:Str×Addr) z=>cL H p.2 z) cl ws):∀c∈cl.map (·.2),∃o,H c=some (KnO o):=by
 induction cs with
 | nil=>intro c h;cases h
 | cons a r ih =>
  intro c h;rcases List.mem_cons.mp h with rfl|h
  ·obtain⟨o,u,e,_⟩:=a
   exact⟨o,e⟩
  ·exact ih c h
theorem cL.mono{H H':Hp}{c:Addr}{v:V}(x:cL H c v)(s:Same H H'):cL H' c v:=let ⟨o,u,e,r⟩:=x;⟨o,u,s _ _ e,r⟩
end L2
namespace L2
open PySem PySem.Spec PyProof.Rows
theorem nG{a:Addr}{o:Obj}{kvs:List (List Key×V)}{fv:List (Str×Nat)}{g:TG}{tc:TT}{te:TE}{σ:St}{H1:Hp}{Q:VK}{k:Nat}(hD:H1 a=some (.frz o (.dT kvs)))(hlen:kvs.length<1000)(sel:List Key×V->Bool)(R:List Key×V->V->Hp->Prop)(hR:∀e v H H',SameT H H'->R e v H->R e v H')
  (hs:∀(i:Nat) e b H2 (τ:St) (Kc:VK) (Kn:Hp->Prop),kvs[i]? = some e->H2 b=some (.tup (e.1.map kV))->Same H1 H2->τ.length=k->(sel e=true->∀y H4,Same H2 H4->R e y H4->Kc y H4)->(sel e=false->∀H4,Same H2 H4->Kn H4) ->
   g (.ref b) (τ++fvs fv σ) H2 fun σ2 H4=>(∃τ':St,τ'.length=k∧σ2=τ'++fvs fv σ)∧tc σ2 H4 fun b H5=>if b=true then te σ2 H5 Kc else Kn H5)
  (hd:∀l ys H',H1 l=none->Same H1 H'->H' l=some (.lst ys)->Paired (fun e y=>R e y H') (kvs.filter sel) ys->Q (.ref l) H'):iC (Itd a o kvs) k fv g tc te σ H1 Q:=by
 intro l hl;refine⟨fun i m acc H2=>m=kvs.length - i∧i≤kvs.length∧acc.length≤i∧Same H1 H2∧H2 l=some (.lst acc)∧Paired (fun e y=>R e y H2) ((kvs.take i).filter sel) acc,⟨_,rfl,Nat.zero_le _,Nat.le_refl _,Same.new hl,upd_same,.nil⟩,?_⟩;rintro i m acc H2 ⟨rfl,hi,e1,sm,e3,hr⟩;refine⟨e3,aT (by omega),?_⟩
 by_cases hlt:i<kvs.length
 ·refine .inr ⟨⟨sm _ _ hD,hlt⟩,fun x H3 y τ hτ=>?_⟩
  obtain⟨rfl,q,v,b,hq,rfl,hb⟩:=y;have tk:kvs.take (i+1)=kvs.take i++[(q,v)]:=by rw[List.take_add_one,hq];rfl
  refine hs i (q,v) b H3 τ _ _ hq hb sm hτ (fun hsel y H4 s4 ry=>⟨s4 _ _ e3,kvs.length - (i+1),by omega,rfl,hlt,by simp;exact e1,(sm.trans s4).upd hl,upd_same,?_⟩) fun hsel H4 s4=>⟨kvs.length - (i+1),by omega,rfl,hlt,by omega,sm.trans s4,s4 _ _ e3,?_⟩
  ·have t4:=SameT.upd (ys:=acc++[y]) (s4 _ _ e3)
   rw[tk,List.filter_append];have:[(q,v)].filter sel = [(q,v)]:=by simp[hsel]
   rw[this];exact Paired.snoc (Paired.mapP hr fun e z r=>hR _ _ _ _ (s4.t.trans t4) r) (hR _ _ _ _ t4 ry)
  ·rw[tk,List.filter_append]
   have:[(q,v)].filter sel = []:=by simp[hsel]
   rw[this,List.append_nil];exact Paired.mapP hr fun e z r=>hR _ _ _ _ s4.t r
 ·have e:i=kvs.length:=by omega
  subst e;rw[List.take_length]at hr;exact .inl ⟨⟨sm _ _ hD,Nat.le_refl _⟩,hd l acc H2 hl sm e3 hr⟩
end L2
namespace Sk
open PySem PySem.Spec L2
abbrev aK:=List Key
def bH(H:Hp)(v:V)(k:aK):Prop:=∃p,v = .ref p∧H p=some (.tup (k.map kV))
theorem bH.mono{H H':Hp}{v:V}{k:aK}(x:bH H v k)(s:SameT H H'):bH H' v k:=let ⟨p,e,h⟩:=x;⟨p,e,s _ _ h⟩
inductive Lb
 | no
 | key (d:aK)
 | bend (d e:aK) (l m:Int×Int×Int×Int)
def n4(l:Int×Int×Int×Int):List V:=[.int l.1,.int l.2.1,.int l.2.2.1,.int l.2.2.2]
def TpK(K:W.Frag)(H:Hp)(a:Addr)(xs:List V):Prop:=H a=some (.tup xs)∨∃(o:Obj) (its:Array Value) (n:Nat),K.lookup a=some o∧o.cls = .type "tuple"∧o.data = .seq its n∧its.size≤sizeLine∧aP xs its.toList
theorem TpK.mono{K:W.Frag}{H H':Hp}{a:Addr}{xs:List V}(x:TpK K H a xs)(s:SameT H H'):TpK K H' a xs:=x.imp (fun e=>s _ _ e) id
def ic(K:W.Frag)(H:Hp)(v:V):Lb->Prop
 | .no=>v = .non
 | .key d=>bH H v d
 | .bend d e l m=>∃t p q g a b,v = .ref t∧H t=some (.tup [.ref p,.ref q,.ref g])∧H p=some (.tup (d.map kV))∧H q=some (.tup (e.map kV))∧H g=some (.tup [.ref a,.ref b])∧TpK K H a (n4 l)∧TpK K H b (n4 m)
theorem ic.mono{K:W.Frag}{H H':Hp}{v:V}{x:Lb}(h:ic K H v x)(s:SameT H H'):ic K H' v x:=by
 cases x with
 | no=>exact h
 | key d=>exact bH.mono h s
 | bend d e l m =>
  obtain⟨t,p,q,g,a,b,h1,h2,h3,h4,h5,h6,h7⟩:=h;exact⟨t,p,q,g,a,b,h1,s _ _ h2,s _ _ h3,s _ _ h4,s _ _ h5,h6.mono s,h7.mono s⟩
section
variable {K:W.Frag}
abbrev En:=aK×Option Nat×Lb
def Ent(K:W.Frag)(H:Hp)(es:List En)(e:En)(kv:aK×V):Prop:=kv.1=e.1∧∃t pv hv,kv.2 = .ref t∧H t=some (.tup [pv,hv])∧ic K H hv e.2.2∧(e.2.1=none->pv = .non)∧∀j,e.2.1=some j->∃e',es[j]? = some e'∧bH H pv e'.1
structure Dk(es:List En):Prop where
 nd:(es.map (·.1)).Nodup
 up:∀(i:Nat) (e:En) (j:Nat),es[i]? = some e->e.2.1=some j->j<i
def gT(K:W.Frag)(H:Hp)(d:Addr)(es:List En):Prop:=∃kvs,H d=some (.dT kvs)∧Paired (Ent K H es) es kvs
theorem Ent.mono{H H':Hp}{es es':List En}{e:En}{kv:aK×V}(x:Ent K H es e kv)(s:SameT H H')(h:∀(j:Nat) e,es[j]? = some e->es'[j]? = some e):Ent K H' es' e kv:=by
 obtain⟨a,t,pv,hv,b,c,lb,d,f⟩:=x;refine⟨a,t,pv,hv,b,s _ _ c,lb.mono s,d,fun j hj=>?_⟩;obtain⟨e',h1,h2⟩:=f j hj;exact⟨e',h j e' h1,h2.mono s⟩
theorem mZ{α β:Type}{F:α->β->Prop}:∀{l:List α} {m:List β},Paired F l m->∀(i:Nat) (a:α),l[i]? = some a->∃b,m[i]? = some b∧F a b:=by
 intro l m p
 induction p with
 | nil=>intro i a e;simp at e
 | cons h r ih =>
  intro i a e;cases i with
  | zero=>simp at e;subst e;exact⟨_,rfl,h⟩
  | succ j=>exact ih j a (by simpa using e)
theorem bZ{α β:Type}{F:α->β->Prop}:∀{l:List α} {m:List β},Paired F l m->∀(i:Nat) (b:β),m[i]? = some b->∃a,l[i]? = some a∧F a b:=by
 intro l m p
 induction p with
 | nil=>intro i a e;simp at e
 | cons h r ih =>
  intro i a e;cases i with
  | zero=>simp at e;subst e;exact⟨_,rfl,h⟩
  | succ j=>exact ih j a (by simpa using e)
theorem pH{α:Type}{l:List α}(nd:l.Nodup){i j:Nat}{a:α}(hi:l[i]? = some a)(hj:l[j]? = some a):i=j:=by
 obtain⟨h1,e1⟩:=List.getElem?_eq_some_iff.mp hi;obtain⟨h2,e2⟩:=List.getElem?_eq_some_iff.mp hj;have pw:=List.pairwise_iff_getElem.mp nd;rcases Nat.lt_trichotomy i j with z|z|z
 ·exact absurd (e1.trans e2.symm) (pw i j h1 h2 z)
 ·exact z
 ·exact absurd (e2.trans e1.symm) (pw j i h2 h1 z)
theorem mY{α β:Type}{F:α->β->Prop}:∀{l:List α} {m:List β},Paired F l m->Paired F l.reverse m.reverse:=by
 intro l m p
 induction p with
 | nil=>exact .nil
 | cons h r ih =>
  rw[List.reverse_cons,List.reverse_cons];exact Paired.snoc ih h
theorem kF{H:Hp}{es':List En}:∀{es:List En} {kvs:List (aK×V)},Paired (Ent K H es') es kvs->kvs.map (·.1)=es.map (·.1):=by
 intro es kvs p
 induction p with
 | nil=>rfl
 | cons h r ih=>rw[List.map_cons,List.map_cons,ih,h.1]
theorem sk:∀{kvs:List (aK×V)} {i:Nat} {kv:aK×V},(kvs.map (·.1)).Nodup->kvs[i]? = some kv->cY kvs kv.1=some kv.2:=by
 intro kvs
 induction kvs with
 | nil=>intro i kv _ e;simp at e
 | cons a r ih =>
  intro i kv nd e;rw[List.map_cons,List.nodup_cons]at nd;cases i with
  | zero=>simp at e;subst e;exact bS rfl
  | succ j =>
   have e:r[j]? = some kv:=by simpa using e
   rw[bO (fun z=>nd.1 (by rw[z];exact List.mem_map.mpr ⟨kv,List.mem_of_getElem? e,rfl⟩))];exact ih nd.2 e
theorem fS:∀{kvs:List (aK×V)} {k:aK},k∉kvs.map (·.1)->cY kvs k=none:=by
 intro kvs
 induction kvs with
 | nil=>intro k _;rfl
 | cons a r ih =>
  intro k h;rw[List.map_cons,List.mem_cons,not_or]at h;rw[bO (fun z=>h.1 z.symm)];exact ih h.2
theorem nN{kvs:List (aK×V)}{k:aK}(h:k∈kvs.map (·.1)):(cY kvs k).isSome=true:=by
 induction kvs with
 | nil=>simp at h
 | cons a r ih =>
  by_cases z:a.1=k
  ·rw[bS z];rfl
  ·rw[bO z]
   rw[List.map_cons,List.mem_cons]at h;exact ih (h.resolve_left fun q=>z q.symm)
theorem gT.mono{H H':Hp}{d:Addr}{es:List En}(c:gT K H d es)(s:Same H H'):gT K H' d es:=by
 obtain⟨kvs,e1,e2⟩:=c;exact⟨kvs,s _ _ e1,Paired.mapP e2 fun a b x=>x.mono s.t fun _ _ h=>h⟩
theorem gT.look{H:Hp}{d:Addr}{es:List En}(c:gT K H d es){s:aK}{b:Addr}(hb:H b=some (.tup (s.map kV))):∃o,fQ H d (.ref b) o∧(o.isSome=true↔s∈es.map (·.1)):=by
 obtain⟨kvs,e1,e2⟩:=c;refine⟨_,fQ.t e1 hb,?_⟩;rw[<- kF e2];constructor
 ·intro h
  by_cases z:s∈kvs.map (·.1)
  ·exact z
  ·rw[fS z]at h;cases h
 ·exact nN
theorem gT.add{H:Hp}{d:Addr}{es:List En}(c:gT K H d es){s:aK}{b t:Addr}{pv hv:V}{h:Lb}{pj:Option Nat}(hb:H b=some (.tup (s.map kV)))(ht:H t=some (.tup [pv,hv]))(lb:ic K H hv h)(hs:s∉es.map (·.1))(h0:pj=none->pv = .non)(h1:∀j,pj=some j->∃e',es[j]? = some e'∧bH H pv e'.1)(hl:es.length<1000) :
  ∃H',k9 H d (.ref b) (.ref t) H'∧gT K H' d (es++[(s,pj,h)])∧SameT H H'∧∀x,x≠d->H' x=H x:=by
 obtain⟨kvs,e1,e2⟩:=c;have len:=Paired.length e2;have new:eC kvs s (.ref t)=kvs++[(s,.ref t)]:=iK _ (fS (by rw[kF e2];exact hs));have st:SameT H (upd H d (.dT (eC kvs s (.ref t)))):=fun x xs e=>by
  rw[aM (fun z=>by rw[z,e1]at e;cases e)];exact e
 refine⟨_,k9.t (k:=s) (v:=.ref t) e1 hb (by have:=aT (n:=kvs.length) (by omega);exact this),⟨_,upd_same,?_⟩,st,fun x hx=>aM hx⟩;have keep:∀(j:Nat) (e:En),es[j]? = some e->(es++[(s,pj,h)])[j]? = some e:=fun j e he=>by
  rw[List.getElem?_append_left (List.getElem?_eq_some_iff.mp he).1];exact he
 have last:Ent K (upd H d (.dT (eC kvs s (.ref t)))) (es++[(s,pj,h)]) (s,pj,h) (s,.ref t):=⟨rfl,t,pv,hv,rfl,st _ _ ht,lb.mono st,h0,fun j hj=>by
  obtain⟨e',g1,g2⟩:=h1 j hj;exact⟨e',keep _ _ g1,g2.mono st⟩⟩
 have all:=Paired.snoc (Paired.mapP e2 fun a b x=>x.mono st keep) last;rw[<- new]at all;exact all
inductive Bi (es:List En):Nat->List (aK×Lb)->Prop
 | root {i:Nat} {s:aK} {h:Lb}:es[i]? = some (s,none,h)->Bi es i [(s,h)]
 | step {i j:Nat} {s:aK} {h:Lb} {l:List (aK×Lb)}:es[i]? = some (s,some j,h)->Bi es j l->Bi es i (l++[(s,h)])
def fO(K:W.Frag)(H:Hp)(r:Addr)(l:List (aK×Lb)):Prop:=∃vs,H r=some (.lst vs)∧Paired (fun (e:aK×Lb) v=>∃t sv hv,v = .ref t∧H t=some (.tup [sv,hv])∧bH H sv e.1∧ic K H hv e.2) l vs
def k6(K:W.Frag)(H:Hp)(r:Addr)(l:List (aK×Lb)):Prop:=fO K H r l
def nI(es:List En)(cur:Option Nat)(i:Nat)(done:List (aK×Lb)):Prop:=∀l,(match cur with|some j=>Bi es j l|none=>l = [])->Bi es i (l++done.reverse)
theorem nI.begin{es:List En}{i:Nat}:nI es (some i) i []:=fun l h=>by simpa using h
theorem nI.up{es:List En}{i j:Nat}{done:List (aK×Lb)}{s:aK}{pj:Option Nat}{h:Lb}(x:nI es (some j) i done)(e:es[j]? = some (s,pj,h)):nI es pj i (done++[(s,h)]):=by
 intro l hl;rw[List.reverse_append];show Bi es i (l++([(s,h)]++done.reverse));rw[<- List.append_assoc];refine x _ ?_;cases pj with
 | none =>
  have:l = []:=hl;subst this;exact .root e
 | some j'=>exact .step e hl
inductive AZ (K:W.Frag) (vs:List V) (H:Hp) (Q:VK) (x_3:XK):Prop
 | mk:∀(d:Addr) (sv:V) (es:List En) (i:Nat) (e:En),(vs = [.ref d,sv])->(gT K H d es)->(Dk es)->(es[i]? = some e)->(bH H sv e.1)->(es.length<1000)->(∀r H' l,Same H H'->Bi es i l->l.length≤es.length->fO K H' r l->Q (.ref r) H')->AZ K vs H Q x_3
def ug(bs:List aK)(stp:aK->List (aK×Lb))(fin:aK->Bool)(l:List (aK×Lb)):Prop :=
 (∃s r,l=(s,.no)::r∧s∈bs)∧(∀(n:Nat) a b,l[n]? = some a->l[n+1]? = some b->b∈stp a.1)∧∃a,l.getLast? = some a∧fin a.1=true
def mJ(bs:List aK)(stp:aK->List (aK×Lb))(fin:aK->Bool):Prop:=∃R:List aK,(∀s∈bs,s∈R)∧(∀s∈R,∀e∈stp s,e.1∈R)∧∀s∈R,fin s=false
structure CO(bs:List aK)(stp:aK->List (aK×Lb))(es:List En):Prop where
 root:∀(i:Nat) e,es[i]? = some e->e.2.1=none->e.1∈bs∧e.2.2 = .no
 step:∀(i j:Nat) e,es[i]? = some e->e.2.1=some j->∃e',es[j]? = some e'∧(e.1,e.2.2)∈stp e'.1
theorem sI{bs:List aK}{stp:aK->List (aK×Lb)}{fin:aK->Bool}{es:List En}(g:CO bs stp es){i:Nat}{l:List (aK×Lb)}(p:Bi es i l) :
  (∃s r,l=(s,.no)::r∧s∈bs)∧(∀(n:Nat) a b,l[n]? = some a->l[n+1]? = some b->b∈stp a.1)∧∃e,es[i]? = some e∧l.getLast? = some (e.1,e.2.2):=by
 induction p with
 | root e =>
  obtain⟨h1,h2⟩:=g.root _ _ e rfl;dsimp only at h1 h2;subst h2;exact⟨⟨_,[],rfl,h1⟩,fun n a b _ h=>by simp at h,_,e,rfl⟩
 | step e p ih =>
  obtain⟨⟨s,r,rfl,hs⟩,st,e',h1,h2⟩:=ih;refine⟨⟨s,r++_,rfl,hs⟩,fun n a b ha hb=>?_,_,e,List.getLast?_concat⟩;rcases Nat.lt_trichotomy (n+1) ((s,Lb.no)::r).length with z|z|z
  ·rw[List.getElem?_append_left (by omega)]at ha
   rw[List.getElem?_append_left z]at hb;exact st n a b ha hb
  ·rw[List.getElem?_append_left (by omega)]at ha
   rw[List.getElem?_append_right (by omega),z,Nat.sub_self]at hb;simp only[List.getElem?_cons_zero,Option.some.injEq]at hb;rw[List.getLast?_eq_getElem?]at h2;have ea:((s,Lb.no)::r).length - 1=n:=by omega
   rw[ea,ha]at h2;cases h2;obtain⟨e2,g1,g2⟩:=g.step _ _ _ e rfl;rw[h1]at g1;cases g1;rw[<- hb];exact g2
  ·rw[List.getElem?_eq_none (by simp at z ⊢;omega)]at hb
   cases hb
structure Dp(P:Program)(w:World)(K:W.Frag)(mg:Str->Option Value)(base:Heap)(k:Nat)(H:Hp)(f1 f2:Addr)(U:List aK)(stp:aK->List (aK×Lb))(fin:aK->Bool):Prop where
 o1:nJ H f1
 o2:nJ H f2
 c1:∃sp,vN P w K mg base k f1 sp∧∀H' v s (Q:VK),Same H H'->bH H' v s->s∈U->(∀r H'',Same H' H''->H' r=none->k6 K H'' r (stp s)->Q (.ref r) H'')->sp [v] H' Q E0
 c2:∃sp,vN P w K mg base k f2 sp∧∀H' v s (Q:VK),Same H H'->bH H' v s->s∈U->(∀H'',Same H' H''->Q (.bl (fin s)) H'')->sp [v] H' Q E0
 shut:∀s∈U,∀e∈stp s,e.1∈U
 few:∀s∈U,(stp s).length<1000
noncomputable def vw(n:Nat)(es:List En)(x:aK×Lb):List En:=@ite _ (x.1∈es.map (·.1)) (Classical.propDecidable _) es (es++[(x.1,some n,x.2)])
noncomputable def de(bs:List aK)(stp:aK->List (aK×Lb)):Nat->List En
 | 0=>bs.map fun s=>(s,none,.no)
 | n+1=>match (de bs stp n)[n]? with
  | some e=>(stp e.1).foldl (vw n) (de bs stp n)
  | none=>de bs stp n
def si(bs:List aK)(stp:aK->List (aK×Lb))(fin:aK->Bool)(l:List (aK×Lb)):Prop :=
 ∃n e,(de bs stp n)[n]? = some e∧fin e.1=true∧(∀i,i<n->∃e',(de bs stp n)[i]? = some e'∧fin e'.1=false)∧Bi (de bs stp n) n l
def mP(P:Program)(w:World)(K:W.Frag)(mg:Str->Option Value)(base:Heap)(k:Nat):Sp:=fun vs H Q _ =>
 ∃(b f1 f2:Addr) (bvs:List V) (bs U:List aK) (stp:aK->List (aK×Lb)) (fin:aK->Bool),vs = [.ref b,.ref f1,.ref f2]∧H b=some (.lst bvs)∧Paired (fun s v=>bH H v s) bs bvs∧bs.Nodup∧(∀s∈bs,s∈U)∧U.length<900 ∧
  Dp P w K mg base k H f1 f2 U stp fin∧(∀H',Same H H'->mJ bs stp fin->Q .non H')∧∀r H' l,Same H H'->ug bs stp fin l->si bs stp fin l->l.length≤U.length->fO K H' r l->Q (.ref r) H'
theorem iR{α:Type}[DecidableEq α]{l U:List α}(nd:l.Nodup)(h:∀s∈l,s∈U):l.length≤U.length:=by
 induction l generalizing U with
 | nil=>exact Nat.zero_le _
 | cons a r ih =>
  rw[List.nodup_cons]at nd;have ha:=h a List.mem_cons_self;have:=ih (U:=U.erase a) nd.2 fun s hs=>by
   refine(List.mem_erase_of_ne ?_).mpr (h s (List.mem_cons_of_mem _ hs));rintro rfl;exact nd.1 hs
  rw[List.length_erase_of_mem ha]at this;have hp:0<U.length:=List.length_pos_of_mem ha;rw[List.length_cons];omega
theorem jP{l U:List aK}(nd:l.Nodup)(h:∀s∈l,s∈U):l.length≤U.length:=by
 classical exact iR nd h
structure yH(bs U:List aK)(stp:aK->List (aK×Lb))(fin:aK->Bool)(es:List En)(n:Nat):Prop where
 tree:Dk es
 grown:CO bs stp es
 inU:∀e∈es,e.1∈U
 base:∀s∈bs,s∈es.map (·.1)
 le:n≤es.length
 seen:∀(i:Nat) e,i<n->es[i]? = some e->fin e.1=false∧∀x∈stp e.1,x.1∈es.map (·.1)
theorem yH.len{bs U:List aK}{stp:aK->List (aK×Lb)}{fin:aK->Bool}{es:List En}{n:Nat}(g:yH bs U stp fin es n):es.length≤U.length:=by
 have:=jP g.tree.nd (U:=U) fun s hs=>by
  obtain⟨e,he,rfl⟩:=List.mem_map.mp hs;exact g.inU e he
 rw[List.length_map]at this;exact this
theorem yH.shut{bs U:List aK}{stp:aK->List (aK×Lb)}{fin:aK->Bool}{es:List En}{n:Nat}(g:yH bs U stp fin es n)(h:es.length≤n):mJ bs stp fin:=by
 refine⟨es.map (·.1),g.base,fun s hs x hx=>?_,fun s hs=>?_⟩
 ·obtain⟨e,he,rfl⟩:=List.mem_map.mp hs
  obtain⟨i,hi⟩:=List.getElem?_of_mem he;exact(g.seen i e (Nat.lt_of_lt_of_le (List.getElem?_eq_some_iff.mp hi).1 h) hi).2 x hx
 ·obtain⟨e,he,rfl⟩:=List.mem_map.mp hs
  obtain⟨i,hi⟩:=List.getElem?_of_mem he;exact(g.seen i e (Nat.lt_of_lt_of_le (List.getElem?_eq_some_iff.mp hi).1 h) hi).1
theorem yH.add{bs U:List aK}{stp:aK->List (aK×Lb)}{fin:aK->Bool}{es:List En}{n j:Nat}(g:yH bs U stp fin es n){e0:En}{s:aK}{h:Lb}(hj:es[j]? = some e0)(hs:(s,h)∈stp e0.1)(hU:s∈U)(hn:s∉es.map (·.1)) :
  yH bs U stp fin (es++[(s,some j,h)]) n:=by
 have old:∀(i:Nat) e,(es++[(s,some j,h)])[i]? = some e->es[i]? = some e∨(i=es.length∧e=(s,some j,h)):=fun i e he=>by
  rcases Nat.lt_trichotomy i es.length with z|z|z
  ·rw[List.getElem?_append_left z]at he;exact .inl he
  ·rw[List.getElem?_append_right (by omega),z,Nat.sub_self]at he
   simp only[List.getElem?_cons_zero,Option.some.injEq]at he;exact .inr ⟨z,he.symm⟩
  ·rw[List.getElem?_eq_none (by simp;omega)]at he;cases he
 have keep:∀(i:Nat) e,es[i]? = some e->(es++[(s,some j,h)])[i]? = some e:=fun i e he=>by
  rw[List.getElem?_append_left (List.getElem?_eq_some_iff.mp he).1];exact he
 have jl:=(List.getElem?_eq_some_iff.mp hj).1;refine⟨⟨?_,fun i e k he hk=>?_⟩,⟨fun i e he hk=>?_,fun i k e he hk=>?_⟩,fun e he=>?_,fun t ht=>?_,?_,fun i e hi he=>?_⟩
 ·rw[List.map_append,List.nodup_append]
  refine⟨g.tree.nd,by simp,fun a ha b hb=>?_⟩;have hb:b=s:=by simpa using hb
  rw[hb];rintro rfl;exact hn ha
 ·rcases old i e he with z|⟨z1,z2⟩
  ·exact g.tree.up i e k z hk
  ·subst z2
   cases hk;omega
 ·rcases old i e he with z|⟨z1,z2⟩
  ·exact g.grown.root i e z hk
  ·subst z2
   cases hk
 ·rcases old i e he with z|⟨z1,z2⟩
  ·obtain⟨e',h1,h2⟩:=g.grown.step i k e z hk
   exact⟨e',keep _ _ h1,h2⟩
  ·subst z2
   cases hk;exact⟨e0,keep _ _ hj,hs⟩
 ·rcases List.mem_append.mp he with z|z
  ·exact g.inU e z
  ·rw[List.mem_singleton.mp z];exact hU
 ·rw[List.map_append]
  exact List.mem_append_left _ (g.base t ht)
 ·rw[List.length_append]
  exact Nat.le_trans g.le (Nat.le_add_right _ _)
 ·rcases old i e he with z|⟨z1,z2⟩
  ·obtain⟨h1,h2⟩:=g.seen i e hi z
   refine⟨h1,fun x hx=>?_⟩;rw[List.map_append];exact List.mem_append_left _ (h2 x hx)
  ·have:=g.le
   omega
theorem yH.first{bs U:List aK}{stp:aK->List (aK×Lb)}{fin:aK->Bool}(nd:bs.Nodup)(hU:∀s∈bs,s∈U):yH bs U stp fin (bs.map fun s=>(s,none,.no)) 0:=by
 have at':∀(i:Nat) e,(bs.map fun s=>((s,none,.no):En))[i]? = some e->∃s,bs[i]? = some s∧e=(s,none,.no):=fun i e he=>by
  rw[List.getElem?_map]at he;cases h:bs[i]? with
  | none=>rw[h]at he;cases he
  | some s=>rw[h]at he;cases he;exact⟨s,rfl,rfl⟩
 have mp:(bs.map fun s=>((s,none,.no):En)).map (·.1)=bs:=by rw[List.map_map];exact List.map_id bs
 refine⟨⟨by rw[mp];exact nd,fun i e j he hj=>?_⟩,⟨fun i e he _=>?_,fun i j e he hj=>?_⟩,fun e he=>?_,fun s hs=>by rw[mp];exact hs,Nat.zero_le _,fun i e hi=>absurd hi (Nat.not_lt_zero _)⟩
 ·obtain⟨s,_,rfl⟩:=at' i e he
  cases hj
 ·obtain⟨s,hs,rfl⟩:=at' i e he
  exact⟨List.mem_of_getElem? hs,rfl⟩
 ·obtain⟨s,_,rfl⟩:=at' i e he
  cases hj
 ·obtain⟨s,hs,rfl⟩:=List.mem_map.mp he
  exact hU s hs
theorem yH.next{bs U:List aK}{stp:aK->List (aK×Lb)}{fin:aK->Bool}{es:List En}{n:Nat}(g:yH bs U stp fin es n){e:En}(he:es[n]? = some e)(hf:fin e.1=false)(hs:∀x∈stp e.1,x.1∈es.map (·.1)):yH bs U stp fin es (n+1):=by
 refine⟨g.tree,g.grown,g.inU,g.base,(List.getElem?_eq_some_iff.mp he).1,fun i e' hi he'=>?_⟩
 by_cases z:i=n
 ·subst z
  rw[he]at he';cases he';exact⟨hf,hs⟩
 ·exact g.seen i e' (by omega) he'
end
end Sk
namespace Dr
open PySem PySem.Spec L2 Mth Sp1 Sp2 Sp3 Sp7
end Dr
namespace Dr
open PySem PySem.Spec L2 Mth Sp1 Sp2 Sp3 Sp7
def rk(s:Stmt):Stmt:=match s with
 | .If _ (b::_) _ _=>b
 | _=>.Pass ⟨0,0,0,0⟩
end Dr
namespace Dr
open PySem
end Dr
namespace PySem
namespace F
end F
section
variable {prog:Program} {w:World} {A:Around} {E:Value->Shared->Prop} {s:Shared}
end
end PySem
namespace L2
open PySem PySem.Spec PyProof.Rows
section
variable {X:Cx} {e:Expr} {te:TE} {p1 p2 q1 q2:Pos}
theorem mG:bootBuiltins "reversed" = some (.type "reversed"):=by decide +kernel
end
section
variable {X:Cx}
end
end L2
namespace Wk
open PySem PySem.Spec L2 Mth Sp1 Sp2 Sp3 Sp7 Dr
structure Pr where
 p:Addr
 x:Addr
 y:Addr
 a:Int
 b:Int
 c:Int
 d:Int
structure PrAt(H:Hp)(q:Pr):Prop where
 p_:H q.p=some (.tup [.ref q.x,.ref q.y])
 x_:H q.x=some (.tup [.int q.a,.int q.b])
 y_:H q.y=some (.tup [.int q.c,.int q.d])
 lx:AW q.a q.b
 ly:AW q.c q.d
 nx:0≤q.a
 ny:0≤q.c
 ba:au q.a≤200
 bb:au q.b≤60
 bc:au q.c≤200
 bd:au q.d≤60
theorem PrAt.t{H H':Hp}{q:Pr}(h:PrAt H q)(s:SameT H H'):PrAt H' q:=⟨s _ _ h.p_,s _ _ h.x_,s _ _ h.y_,h.lx,h.ly,h.nx,h.ny,h.ba,h.bb,h.bc,h.bd⟩
def prs(ps:List Pr):List V:=ps.map fun q=>V.ref q.p
theorem ii(ps:List Pr):(prs ps).length=ps.length:=List.length_map _
theorem sL{ps:List Pr}{i:Nat}{v:V}(h:(prs ps)[i]? = some v):∃q,ps[i]? = some q∧v = .ref q.p:=by
 unfold prs at h;rw[List.getElem?_map]at h;obtain⟨q,hq,rfl⟩:=Option.map_eq_some_iff.mp h;exact⟨q,hq,rfl⟩
end Wk
namespace L2
open PySem PySem.Spec PyProof.Rows
end L2
namespace Fnc
open PySem PySem.Spec L2 Mth Sp1 Sp2 Sp3 Sp7 Dr Wk
theorem di(i j:Int):decide (V.int i=V.int j)=decide (i=j):=by
 rw[Bool.eq_iff_iff];simp
end Fnc
namespace Fnc
open PySem PySem.Spec L2 Mth Sp1 Sp2 Sp3 Sp7 Dr Wk
end Fnc
namespace Fnc
open PySem PySem.Spec L2 Mth Sp1 Sp2 Sp3 Sp7 Dr Wk
end Fnc
namespace Sk
open PySem PySem.Spec L2 Sp24 Wk
def ck(i j:Int):aK:=[.inl i,.inl j]
theorem rV{i j x y:Int}(h:ck i j=ck x y):i=x∧j=y:=by
 unfold ck at h;simp only[List.cons.injEq,Sum.inl.injEq,and_true]at h;exact h
def fA(F:Int->Int->Bool)(i k:Nat):List (Int×Int):=((List.range k).filter fun (j:Nat)=>F (i:Int) (j:Int)).map fun (j:Nat)=>((i:Int),(j:Int))
def fM(F:Int->Int->Bool)(n i:Nat):List (Int×Int):=(List.range i).flatMap fun i'=>fA F i' n
def kP(m n:Nat)(F:Int->Int->Bool):List (Int×Int):=fM F (n+1) (m+1)
theorem gn{F:Int->Int->Bool}{i k:Nat}{p:Int×Int}:p∈fA F i k↔p.1=i∧0≤p.2∧p.2<k∧F p.1 p.2=true:=by
 unfold fA;simp only[List.mem_map,List.mem_filter,List.mem_range];constructor
 ·rintro⟨j,⟨h1,h2⟩,rfl⟩
  exact⟨rfl,by simp,by simpa using h1,h2⟩
 ·rintro⟨h1,h2,h3,h4⟩
  obtain⟨x,y⟩:=p;dsimp only at h1 h2 h3 h4;subst h1;refine⟨y.toNat,⟨by omega,?_⟩,?_⟩
  ·rw[show((y.toNat:Nat):Int)=y by omega];exact h4
  ·rw[show((y.toNat:Nat):Int)=y by omega]
theorem iS{F:Int->Int->Bool}{n i:Nat}{p:Int×Int}:p∈fM F n i↔0≤p.1∧p.1<i∧0≤p.2∧p.2<n∧F p.1 p.2=true:=by
 unfold fM;simp only[List.mem_flatMap,List.mem_range,gn];constructor
 ·rintro⟨i',h1,h2,h3,h4,h5⟩
  exact⟨by omega,by omega,h3,h4,h5⟩
 ·rintro⟨h1,h2,h3,h4,h5⟩
  exact⟨p.1.toNat,by omega,by omega,h3,h4,h5⟩
theorem dS{m n:Nat}{F:Int->Int->Bool}{x y:Int}:(x,y)∈kP m n F↔0≤x∧x≤m∧0≤y∧y≤n∧F x y=true:=by
 unfold kP;rw[iS];constructor
 ·rintro⟨h1,h2,h3,h4,h5⟩
  exact⟨h1,by simp at h2;omega,h3,by simp at h4;omega,h5⟩
 ·rintro⟨h1,h2,h3,h4,h5⟩
  exact⟨h1,by simp;omega,h3,by simp;omega,h5⟩
theorem gH{F:Int->Int->Bool}{i k:Nat}:fA F i (k+1)=fA F i k++(if F i k=true then [((i:Int),(k:Int))] else []):=by
 unfold fA;rw[List.range_succ,List.filter_append,List.map_append]
 congr 1
 by_cases h:F i k=true
 ·simp[h]
 ·simp[h]
theorem gQ{F:Int->Int->Bool}{n i:Nat}:fM F n (i+1)=fM F n i++fA F i n:=by
 unfold fM;rw[List.range_succ,List.flatMap_append];simp
theorem lu{F:Int->Int->Bool}{i k:Nat}:(fA F i k).length≤k:=by
 unfold fA;rw[List.length_map];exact Nat.le_trans (List.length_filter_le _ _) (by simp)
theorem ji{F:Int->Int->Bool}{n:Nat}:∀{i:Nat},(fM F n i).length≤i*n
 | 0=>by simp[fM]
 | i+1=>by
  rw[gQ,List.length_append];have:=ji (F:=F) (n:=n) (i:=i);have:=lu (F:=F) (i:=i) (k:=n);rw[Nat.succ_mul];omega
theorem mT{F:Int->Int->Bool}{i k:Nat}:(fA F i k).Nodup:=by
 induction k with
 | zero=>simp[fA]
 | succ k ih =>
  rw[gH,List.nodup_append];refine⟨ih,by split <;> simp,fun a ha b hb=>?_⟩
  split at hb
  ·have hb:b=((i:Int),(k:Int)):=by simpa using hb
   rintro rfl;rw[hb]at ha;have:=(gn.mp ha).2.2.1;simp at this
  ·simp at hb
theorem nE{F:Int->Int->Bool}{n i:Nat}:(fM F n i).Nodup:=by
 induction i with
 | zero=>simp[fM]
 | succ i ih =>
  rw[gQ,List.nodup_append];refine⟨ih,mT,fun a ha b hb=>?_⟩;rintro rfl;have h1:=(iS.mp ha).2.1;have h2:=(gn.mp hb).1;omega
def kvF(l:List (Int×Int)):List (aK×V):=l.map fun p=>(ck p.1 p.2,.bl true)
theorem lV{l:List (Int×Int)}{x y:Int}:ck x y∈(kvF l).map (·.1)↔(x,y)∈l:=by
 unfold kvF;rw[List.map_map];constructor
 ·intro h
  obtain⟨p,hp,e⟩:=List.mem_map.mp h;obtain⟨h1,h2⟩:=rV e;rw[<- h1,<- h2];exact hp
 ·intro h
  exact List.mem_map.mpr ⟨(x,y),h,rfl⟩
theorem tq{l:List (Int×Int)}{x y:Int}:(cY (kvF l) (ck x y)).isSome=true↔(x,y)∈l:=by
 rw[<- lV];constructor
 ·intro h
  by_cases z:ck x y∈(kvF l).map (·.1)
  ·exact z
  ·rw[fS z]at h;cases h
 ·exact nN
def k8(H:Hp)(d:Addr)(m n:Nat)(F:Int->Int->Bool):Prop:=∃o,H d=some (.frz o (.dT (kvF (kP m n F))))
theorem k8.mono{H H':Hp}{d:Addr}{m n:Nat}{F:Int->Int->Bool}(h:k8 H d m n F)(s:Same H H'):k8 H' d m n F:=let ⟨o,e⟩:=h;⟨o,s _ _ e⟩
theorem k8.get{H:Hp}{d b:Addr}{m n:Nat}{F:Int->Int->Bool}(h:k8 H d m n F){x y:Int}(hb:H b=some (.tup [.int x,.int y])):∃o,fQ H d (.ref b) o∧o.isSome=decide ((x,y)∈kP m n F):=by
 obtain⟨o,e⟩:=h;refine⟨_,.inr ⟨_,ck x y,b,.inr ⟨o,e⟩,rfl,hb,rfl⟩,?_⟩;rw[Bool.eq_iff_iff,tq,decide_eq_true_iff]
def U(m n:Nat):List aK:=(List.range (m+1)).flatMap fun i=>(List.range (n+1)).map fun j=>ck (i:Nat) (j:Nat)
theorem d9{m n:Nat}{s:aK}:s∈U m n↔∃x y:Int,s=ck x y∧0≤x∧x≤m∧0≤y∧y≤n:=by
 unfold U;simp only[List.mem_flatMap,List.mem_range,List.mem_map];constructor
 ·rintro⟨i,hi,j,hj,rfl⟩
  exact⟨_,_,rfl,by omega,by omega,by omega,by omega⟩
 ·rintro⟨x,y,rfl,h1,h2,h3,h4⟩
  refine⟨x.toNat,by omega,y.toNat,by omega,?_⟩;rw[show((x.toNat:Nat):Int)=x by omega,show((y.toNat:Nat):Int)=y by omega]
theorem wP{m n:Nat}:(U m n).length=(m+1)*(n+1):=by
 unfold U
 induction (m+1) with
 | zero=>simp
 | succ k ih =>
  rw[List.range_succ (n:=k),List.flatMap_append,List.length_append,ih,Nat.succ_mul];simp
theorem oS{m n:Nat}(hm:m≤20)(hn:n≤20):(U m n).length<900:=by
 rw[wP];have:=Nat.mul_le_mul (show m+1≤21 by omega) (show n+1≤21 by omega);omega
def prC(q:Pr)(c:Int×Int):Prop:=q.a=c.1∧q.b=1∧q.c=c.2∧q.d=1
def dec:aK->Int×Int
 | [.inl i,.inl j]=>(i,j)
 | _=>(0,0)
theorem kf{bs U:List aK}{stp:aK->List (aK×Lb)}{fin:aK->Bool}{l:List (aK×Lb)}(r:ug bs stp fin l)(hb:∀s∈bs,s∈U)(hs:∀s∈U,∀e∈stp s,e.1∈U):∀(n:Nat) e,l[n]? = some e->e.1∈U:=by
 obtain⟨⟨s,r',rfl,h1⟩,h2,_⟩:=r;intro n
 induction n with
 | zero=>intro e he;simp at he;subst he;exact hb s h1
 | succ k ih =>
  intro e he;have lt:=(List.getElem?_eq_some_iff.mp he).1;obtain⟨a,ha⟩:∃a,((s,Lb.no)::r')[k]? = some a:=⟨((s,Lb.no)::r')[k]'(by omega),by rw[List.getElem?_eq_getElem (by omega)]⟩;exact hs _ (ih a ha) e (h2 k a e ha he)
theorem ic.put{K:W.Frag}{C:List Addr}{H H1:Hp}{v:V}{x:Lb}(hC:∀c∈C,H1 c=none)(h:ic K H1 v x):ic K (lA C H H1) v x:=h.mono fun b xs e=>gb hC e
theorem jN{K:W.Frag}{C:List Addr}{H H1:Hp}{r:Addr}{l:List (aK×Lb)}(hC:∀c∈C,H1 c=none)(x:fO K H1 r l):fO K (lA C H H1) r l:=by
 obtain⟨vs,e,p⟩:=x;refine⟨vs,gb hC e,Paired.mapP p fun a b ⟨t,sv,hv,x1,x2,⟨q,x3,x4⟩,x5⟩=>⟨t,sv,hv,x1,gb hC x2,⟨q,x3,gb hC x4⟩,x5.put hC⟩⟩
theorem nZ{K:W.Frag}{H H1:Hp}{r:Addr}{l:List (aK×Lb)}(h:∀b o,H b=some o->(∀z,o≠KnO z)->H1 b=some o)(x:fO K H r l):fO K H1 r l:=by
 obtain⟨vs,e,p⟩:=x;have st:SameT H H1:=fun b xs e=>h _ _ e (fun z q=>by cases q);exact⟨vs,h _ _ e (fun z q=>by cases q),Paired.mapP p fun a b ⟨t,sv,hv,x1,x2,x3,x5⟩=>⟨t,sv,hv,x1,st _ _ x2,x3.mono st,x5.mono st⟩⟩
theorem rG{m n:Nat}{F:Int->Int->Bool}(hm:m≤20)(hn:n≤20):(kP m n F).length<900:=by
 have h1:=ji (F:=F) (n:=n+1) (i:=m+1);have:=Nat.mul_le_mul (show m+1≤21 by omega) (show n+1≤21 by omega);unfold kP;omega
end Sk
namespace Fz
def xs(r s:Nat->Nat->Bool)(i i':Nat):Nat->Bool
 | 0=>false
 | k+1=>xs r s i i' k ^^ ((r i k ^^ r i (k+1)) && s i' (k+1))
theorem dual{n m:Nat}{r s:Nat->Nat->Bool}(hn:1≤n)(hm:1≤m)(r0:r 0 0=true)(r1:r (n - 1) (m - 1)=false)
  (U:∀i j,0<i->i<n->j<m->r (i - 1) j≠r i j->s i j=s i (j+1))
  (L:∀i j,i<n->0<j->j<m->r i (j - 1)≠r i j->s i j=s (i+1) j)
  (B1:∀j,0<j->j<m->r 0 (j - 1)≠r 0 j->s 0 j=true)
  (B2:∀i,0<i->i<n->r (i - 1) (m - 1)≠r i (m - 1)->s i m=true)
  (E1:∀i,0<i->i<n->s i 0=false) (E2:∀j,0<j->j<m->s n j=false):False:=by
 have xy:∀i,i<n->∀k,k+1≤m->xs r s i i k=xs r s i (i+1) k:=fun i hi k=>by
  induction k with
  | zero=>intro _;rfl
  | succ k ih =>
   intro hk;have:=L i (k+1) hi (by omega) (by omega);rw[Nat.add_sub_cancel]at this;simp only[xs];rw[ih (by omega)];cases h1:r i k <;> cases h2:r i (k+1) <;> simp_all
 have x0:∀k,k+1≤m->xs r s 0 0 k=(r 0 0 ^^ r 0 k):=fun k=>by
  induction k with
  | zero=>intro _;simp[xs]
  | succ k ih =>
   intro hk;have:=B1 (k+1) (by omega) (by omega);rw[Nat.add_sub_cancel]at this;simp only[xs];rw[ih (by omega)];cases h1:r 0 k <;> cases h2:r 0 (k+1) <;> simp_all
 have st:∀i,0<i->i<n->∀k,k+1≤m->(xs r s i i k ^^ xs r s (i - 1) i k)=(((r (i - 1) k ^^ r i k) && s i k) ^^ ((r (i - 1) 0 ^^ r i 0) && s i 0)):=fun i h0 hi k=>by
  induction k with
  | zero=>intro _;simp[xs]
  | succ k ih =>
   intro hk;have u:=U i k h0 hi (by omega);have ih:=ih (by omega);simp only[xs];revert ih;generalize xs r s i i k=a;generalize xs r s (i - 1) i k=b;generalize ((r (i - 1) 0 ^^ r i 0) && s i 0)=c;revert u;generalize r i k=r1;generalize r i (k+1)=r2;generalize r (i - 1) k=r3;generalize r (i - 1) (k+1)=r4;generalize s i k=s1;generalize s i (k+1)=s2;revert a b c r1 r2 r3 r4 s1 s2;decide
 have y:∀i,i<n->xs r s i (i+1) (m - 1)=(r 0 0 ^^ r i (m - 1)):=fun i=>by
  induction i with
  | zero=>intro h;rw[<- xy 0 h _ (by omega),x0 _ (by omega)]
  | succ i ih =>
   intro h;have e:=st (i+1) (by omega) h (m - 1) (by omega);rw[Nat.add_sub_cancel,ih (by omega),E1 (i+1) (by omega) h]at e;rw[<- xy (i+1) h _ (by omega)];have u:=U (i+1) (m - 1) (by omega) h (by omega);have b:=B2 (i+1) (by omega) h;rw[Nat.add_sub_cancel]at u b;rw[Nat.sub_add_cancel hm]at u;revert e;generalize xs r s (i+1) (i+1) (m - 1)=a;intro e;cases h1:r i (m - 1) <;> cases h2:r (i+1) (m - 1) <;> simp_all
 have z:∀k,k+1≤m->xs r s (n - 1) n k=false:=fun k=>by
  induction k with
  | zero=>intro _;rfl
  | succ k ih =>
   intro hk;simp only[xs];rw[ih (by omega),E2 (k+1) (by omega) (by omega)];simp
 have e:=y (n - 1) (by omega);rw[Nat.sub_add_cancel hn,z _ (by omega),r0,r1]at e;cases e
end Fz
namespace L2
open PySem PySem.Spec PyProof.Rows
def ItR(K:W.Frag)(a:Addr)(n:Nat):It:=⟨fun i H=>∃xs x,SqL K H a xs∧xs.length=n∧i<n∧xs[n - 1 - i]? = some x,fun i H x H'=>H'=H∧∀xs,SqL K H a xs->xs[n - 1 - i]? = some x,fun i _=>i=n⟩
theorem qp{P:Program}{w:World}{K:W.Frag}{tg:Expr}(a it:Addr)(n:Nat):Bf P w K tg (ItR K a n) [it] it (fun i h=>h.IsRevIter it a ((n:Int) - 1 - (i:Int))) where
 mem:=by simp
 obj:=fun i h st b hb=>by
  have e:b=it:=by simpa using hb
  subst e;obtain⟨o,e,c,d⟩:=st;exact⟨o,e,fun v z=>by rw[d]at z;cases z⟩
 keep:=fun i h h' st k=>st.at fun o e=>k it (by simp) o e
 item:=by
  intro X hP hw hK hc i pins s σ H E I hf st hg;subst hP hw hK;obtain⟨xs,x,hq,hn,hi,hx⟩:=hg;obtain⟨its,rv,p,hz⟩:=I.list hq;obtain⟨u,hu,ru⟩:=rv.get hx;obtain⟨f0,f1,f2,f3,f4,f5⟩:=hf it (by simp);have e0:(n:Int) - 1 - (i:Int)=((n - 1 - i:Nat):Int):=by omega
  have st0:s.heap.IsRevIter it a ((n:Int) - 1 - (i:Int)):=st;rw[e0]at st0;refine wpAny_pyNext_rev_item st0 p.isList (x:=u) (by simpa using hu) fun h' st' sb=>?_;have I1:xq X pins σ H { s with heap:=h' }:=I.turned (t':=s.toks) (fun b o hb e=>(sb.2 b hb).trans e) f0 f1 f3 f4 f5;have e1:((n - 1 - i:Nat):Int) - 1=(n:Int) - 1 - ((i+1:Nat):Int):=by omega
  rw[e1]at st';obtain⟨o,e,c,d⟩:=id st';exact⟨u,rfl,l3 (s:={ s with heap:=h' }) e c d (by decide) ⟨x,H,I1,ru,⟨rfl,fun ys hy=>by rw[I.list_inj hy hq];exact hx⟩,st',fun b hb=>(hf b hb).1⟩⟩
 done:=by
  intro X hP hw hK hc i pins s σ H E I hf st hg;subst hP hw hK;have hg:i=n:=hg;subst hg;obtain⟨f0,f1,f2,f3,f4,f5⟩:=hf it (by simp);have st0:s.heap.IsRevIter it a ((i:Int) - 1 - (i:Int)):=st;rw[show(i:Int) - 1 - (i:Int) = -1 by omega]at st0;exact wpAny_pyNext_rev_end (I.ok.hd hc) st0 fun h' eb=>⟨rfl,I.turned (t':=s.toks) (fun b o hb e=>eb b o hb e) f0 f1 f3 f4 f5⟩
 self:=fun _ _ _ _ _ st h=>wpAny_pyIter_revIter st h
def xi(K:W.Frag)(te:TE):TI:=fun σ H R=>te σ H fun x H1=>∃a xs,[x] = [.ref a]∧SqL K H1 a xs∧R (ItR K a xs.length) H1
theorem uY{X:Cx}{tg e:Expr}{te:TE}{p1 q1:Pos}(gr:Gl X "reversed")(mr:X.mg "reversed" = none)(he:PE X e te)(h2:starEach [e] X.env = [(false,eval e X.env)]:=by rfl):PI X tg (.Call (.Name "reversed" p1) [e] [] q1) (xi X.K te):=by
 intro pins s σ H R I h;have h':(nQ te uH) σ H (fun vs H1=>∃a xs,vs = [.ref a]∧SqL X.K H1 a xs∧R (ItR X.K a xs.length) H1):=h;refine wpAny_Call_Name_kw (fI I gr mr mG (PyProof.Rows.callWith_type1 (thn ((aa he af h2) q1 pins s σ H (fun vs H1=>∃a xs,vs = [.ref a]∧SqL X.K H1 a xs∧R (ItR X.K a xs.length) H1) I h') fun us s1 ⟨vs,H1,I1,r1,q⟩=>?_) h2 rfl));obtain⟨a,xs,rfl,hx,k⟩:=q;obtain⟨u,rfl,ru⟩:=fR r1;cases ru;obtain⟨its,rv,pl,hz⟩:=I1.list hx;have hl:=rv.length;refine call_reversed_list pl.isList ?_;have al:a<s1.heap.objs.size:=by obtain⟨_,e,_⟩:=pl.isList;exact Heap.lt_size e
 have kp:∀b o,s1.heap.get? b=some o->(s1.heap.push (revObj a ((its.toArray.size:Int) - 1))).get? b=some o:=fun b o e=>Heap.get?_push_of_some _ e;have it0:(s1.heap.push (revObj a ((its.toArray.size:Int) - 1))).IsRevIter s1.heap.objs.size a ((its.toArray.size:Int) - 1):=⟨_,Heap.get?_push_size _ rfl,rfl,rfl⟩;refine wpAny_pyIter_revIter (i:=(its.toArray.size:Int) - 1) it0 ?_;refine⟨_,[s1.heap.objs.size],_,_,H1,rfl,I1.kept (t':=s1.toks) kp,qp a s1.heap.objs.size xs.length,?_,fun b hb=>?_,k⟩
 ·show Heap.IsRevIter _ _ _ ((xs.length:Int) - 1 - ((0:Nat):Int))
  rw[show(xs.length:Int) - 1 - ((0:Nat):Int)=(its.toArray.size:Int) - 1 by rw[List.size_toArray];omega];exact it0
 ·have e:b=s1.heap.objs.size:=by simpa using hb
  subst e;exact I1.fpOk (Nat.le_refl _) (I1.hok.fresh (Nat.le_refl _))
theorem tN{K:W.Frag}{a:Addr}{xs:List V}{g:TG}{tb:TS}{D:AT}{σ:St}{H:Hp}(Pv:Nat->St->Hp->Prop)(h0:Pv 0 σ H)(hl:∀i σ H,i≤xs.length->Pv i σ H->SqL K H a xs)
  (hs:∀i x σ H,i<xs.length->xs[xs.length - 1 - i]? = some x->Pv i σ H->g x σ H fun σ2 H2=>tb { D with nx:=Pv (i+1),ct:=Pv (i+1),bk:=D.nx } σ2 H2) (hd:∀σ H,Pv xs.length σ H->D.nx σ H) :
  ∃W:Nat->Nat->St->Hp->Prop,(∃m,W 0 m σ H)∧∀i m σ H,W i m σ H ->
   ((ItR K a xs.length).stop i H∧D.nx σ H)∨((ItR K a xs.length).go i H∧∃N:St->Hp->Prop,(∀σ' H',N σ' H'->∃m',m'<m∧W (i+1) m' σ' H')∧∀x H',(ItR K a xs.length).yld i H x H'->g x σ H' fun σ2 H2=>tb { D with nx:=N,ct:=N,bk:=D.nx } σ2 H2):=by
 refine⟨fun i m σ H=>m=xs.length - i∧i≤xs.length∧Pv i σ H,⟨_,rfl,Nat.zero_le _,h0⟩,?_⟩;rintro i m σ H ⟨rfl,hi,p⟩;have q:=hl i σ H hi p
 by_cases hlt:i<xs.length
 ·refine .inr ⟨⟨xs,xs[xs.length - 1 - i],q,rfl,hlt,List.getElem?_eq_getElem (by omega)⟩,Pv (i+1),fun σ' H' p'=>⟨xs.length - (i+1),by omega,rfl,hlt,p'⟩,fun x H' ⟨e,y⟩=>?_⟩
  subst e;exact hs i x σ _ hlt (y xs q) p
 ·have e:i=xs.length:=by omega
  subst e;exact .inl ⟨rfl,hd σ H p⟩
end L2
namespace L2
open PySem PySem.Spec PyProof.Rows
theorem jZ{α:Type}{K:W.Frag}{a:Addr}{xs:List V}{es:List α}{fv:List (Str×Nat)}{g:TG}{tc:TT}{te:TE}{σ:St}{H1:Hp}{Q:VK}{k:Nat}(hD:H1 a=some (.lst xs))(hlen:xs.length<1000)(R:α->V->Prop)(pr:Paired R es xs)(P:α->Bool)
  (hs:∀e x H2 (τ:St) (Kc:VK) (Kn:Hp->Prop),e∈es->R e x->Same H1 H2->τ.length=k->(P e=true->∀H4,Same H2 H4->Kc x H4)->(P e=false->∀H4,Same H2 H4->Kn H4) ->
   g x (τ++fvs fv σ) H2 fun σ2 H4=>(∃τ':St,τ'.length=k∧σ2=τ'++fvs fv σ)∧tc σ2 H4 fun b H5=>if b=true then te σ2 H5 Kc else Kn H5)
  (hd:∀l ys H',H1 l=none->Same H1 H'->H' l=some (.lst ys)->Paired R (es.filter P) ys->Q (.ref l) H'):iC (Itl K a) k fv g tc te σ H1 Q:=by
 intro l hl;have ll:=Paired.length pr;have la:l≠a:=fun z=>by rw[z,hD]at hl;cases hl
 have gp:∀{l:List α} {m:List V},Paired R l m->∀(i:Nat) (b:V),m[i]? = some b->∃a,l[i]? = some a∧R a b:=by
  intro l m p
  induction p with
  | nil=>intro i a e;simp at e
  | cons h r ih =>
   intro i a e;cases i with
   | zero=>simp at e;subst e;exact⟨_,rfl,h⟩
   | succ j=>exact ih j a (by simpa using e)
 refine⟨fun i m acc H2=>m=xs.length - i∧i≤xs.length∧acc.length≤i∧Same H1 H2∧H2 l=some (.lst acc)∧Paired R ((es.take i).filter P) acc,⟨_,rfl,Nat.zero_le _,Nat.le_refl _,Same.new hl,upd_same,.nil⟩,?_⟩;rintro i m acc H2 ⟨rfl,hi,e1,sm,e3,hr⟩;refine⟨e3,aT (by omega),?_⟩
 by_cases hlt:i<xs.length
 ·refine .inr ⟨⟨xs,xs[i],SqL.of (sm _ _ hD),List.getElem?_eq_getElem hlt⟩,fun x H3 y τ hτ=>?_⟩
  obtain⟨rfl,e⟩:=y;have hx:=e xs (SqL.of (sm _ _ hD));obtain⟨ee,he,hre⟩:=gp pr i x hx;have tk:es.take (i+1)=es.take i++[ee]:=by rw[List.take_add_one,he];rfl
  refine hs ee x H3 τ _ _ (List.mem_of_getElem? he) hre sm hτ (fun hsel H4 s4=>⟨s4 _ _ e3,xs.length - (i+1),by omega,rfl,hlt,by simp;exact e1,(sm.trans s4).upd hl,upd_same,?_⟩) fun hsel H4 s4=>⟨xs.length - (i+1),by omega,rfl,hlt,by omega,sm.trans s4,s4 _ _ e3,?_⟩
  ·rw[tk,List.filter_append,List.filter_cons,hsel]
   exact Paired.snoc hr hre
  ·rw[tk,List.filter_append,List.filter_cons,hsel]
   simp only[Bool.false_eq_true,if_false,List.filter_nil,List.append_nil];exact hr
 ·have e:i=xs.length:=by omega
  subst e;rw[List.take_of_length_le (by omega)]at hr;exact .inl ⟨⟨xs,SqL.of (sm _ _ hD),Nat.le_refl _⟩,hd l acc H2 hl sm e3 hr⟩
end L2
namespace L2
open PySem PySem.Spec PyProof.Rows
theorem iI(n:Nat):sliceRange ((n:Int) - 1) (-1) (-1)=(List.range n).map fun k=>n - 1 - k:=by
 unfold sliceRange;have e:(if ((-1:Int)>0) then (if (n:Int) - 1 < -1 then (-1 - ((n:Int) - 1) + -1 - 1) / -1 else 0) else (if (n:Int) - 1 > -1 then ((n:Int) - 1 - -1 - -1 - 1) / - -1 else 0)).toNat=n:=by
  rw[if_neg (by decide)]
  split
  ·rw[show - (-1:Int)=1 from rfl,Int.ediv_one]
   omega
  ·omega
 show List.map (fun k:Nat=>((n:Int) - 1 + -1*(k:Int)).toNat) (List.range (if ((-1:Int)>0) then (if (n:Int) - 1 < -1 then (-1 - ((n:Int) - 1) + -1 - 1) / -1 else 0) else (if (n:Int) - 1 > -1 then ((n:Int) - 1 - -1 - -1 - 1) / - -1 else 0)).toNat)=_
 rw[e];refine List.map_congr_left fun k _=>?_;omega
theorem jr(its:List Value):slicePick its.toArray none none (some (-1))=its.reverse.toArray:=by
 unfold slicePick;have b:sliceBounds none none (some (-1)) its.toArray.size=((its.length:Int) - 1,-1,-1):=by
  unfold sliceBounds;simp
 rw[b];show(List.filterMap (fun x=>its.toArray[x]?) (sliceRange ((its.length:Int) - 1) (-1) (-1))).toArray=_;rw[iI]
 congr 1
 have key:∀(l:List Value),List.filterMap (fun x=>l[x]?) ((List.range l.length).map fun k=>l.length - 1 - k)=l.reverse:=by
  intro l;have e2:(List.range l.length).map (fun k=>l.length - 1 - k)=(List.range l.length).reverse:=by
   refine List.ext_getElem? fun i=>?_
   by_cases hi:i<l.length
   ·rw[List.getElem?_map,List.getElem?_range hi,List.getElem?_reverse (by simpa using hi),List.length_range,List.getElem?_range (by omega)]
    rfl
   ·rw[List.getElem?_eq_none (by simp;omega),List.getElem?_eq_none (by simp;omega)]
  rw[e2,List.filterMap_reverse]
  congr 1
  have this:∀(l:List Value),List.filterMap (fun x=>l[x]?) (List.range l.length)=l:=by
   intro l;have h:∀n,n≤l.length->List.filterMap (fun x=>l[x]?) (List.range n)=l.take n:=by
    intro n
    induction n with
    | zero=>intro _;rfl
    | succ n ih =>
     intro hn;rw[List.range_succ,List.filterMap_append,ih (by omega),List.take_succ]
     congr 1
   rw[h _ (Nat.le_refl _),List.take_length]
  exact this l
 have k2:=key its;simpa using k2
section
variable {X:Cx} {e:Expr} {te:TE} {st:Expr} {ts:TO} {pos p2:Pos}
def vS(K:W.Frag)(te:TE)(ts:TO):TE:=fun σ H Q=>te σ H fun x H1=>ts σ H1 fun o H2=>o=some (-1)∧∃a xs,x = .ref a∧SqL K H2 a xs∧∀p H3,Same H2 H3->H3 p=some (.lst xs.reverse)->H2 p=none->Q (.ref p) H3
theorem o8(he:PE X e te)(hs:PO X (some st) ts):PE X (.Subscript e (.Slice none none (some st) p2) pos) (vS X.K te ts):=by
 intro pins s σ H Q I h;refine Subscript_ (thn (he pins s σ H _ I h) fun v s1 ⟨x,H1,I1,r1,q1⟩=>?_);refine wpAny_Slice ?_;rw[evalPart_none];refine wpAny_pure ?_;refine wpAny_pure ?_;refine thn (hs pins s1 σ H1 _ I1 q1) fun vs s3 ⟨o,H3,I3,ps,q3⟩=>?_;obtain⟨rfl,a,xs,rfl,hx,q⟩:=q3;have I4:xq X pins σ H3 { s3 with heap:=s3.heap.push { cls:=.type "slice",data:=.fields #[.none,.none,vs] } }:=I3.kept (t':=s3.toks) fun b ob q=>Heap.get?_push_of_some _ q;cases r1;obtain⟨its,r,ht,hz⟩:=I4.list hx;show wpAny (model X.prog X.w) X.A (subscriptTail e (.Slice none none (some st) p2) (.ref a) (.ref s3.heap.objs.size)) (EP X pins σ Q) X.xe { s3 with heap:=s3.heap.push { cls:=.type "slice",data:=.fields #[.none,.none,vs] } }
 refine tail_any (ops:=[.ref a,.ref s3.heap.objs.size]) ht.isList.typeIs slot_list_getitem.lookup ?_ (by with_unfolding_all rfl);have hlen:=r.length;refine wpAny_getItem_list_slice ht.isList (Heap.IsSliceOf.new ..) .none .none ps (by decide) ?_ (by rw[List.size_toArray] <;> omega);rw[jr];have hf:=I4.hok.fresh (Nat.le_refl _);refine⟨.ref _,upd H3 _ (.lst xs.reverse),I4.laid (fun b ob q=>Heap.get?_push_of_some _ q) (Nat.le_refl _) ?_,rfl,q _ _ (Same.new hf) upd_same hf⟩;exact⟨by rw[List.length_reverse];exact hz,_,0,r.reverse,Heap.get?_push_size _ rfl⟩
end
end L2
namespace Sp5
open PySem PySem.Spec L2 Mth Sp1 Sp2 Sp3 Sp24
structure Cm(T a A:Int):Prop where
 nn:0≤A
 lo:A*A≤T*a
 hi:T*a<(A+1)*(A+1)
theorem v6{x y:Int}(hx:0≤x)(h:x<y):x*x<y*y:=by
 have h1:x*x≤y*x:=Int.mul_le_mul_of_nonneg_right (by omega) hx;have h2:y*x<y*y:=Int.mul_lt_mul_of_pos_left h (by omega);omega
theorem fV{x y:Int}(hx:0≤x)(h:x≤y):x*x≤y*y:=Int.mul_le_mul h h hx (by omega)
theorem Cm.uniq{T a A B:Int}(h:Cm T a A)(k:Cm T a B):A=B:=by
 have h1:A≤B:=by
  by_cases z:A≤B
  ·exact z
  ·have:=fV (x:=B+1) (y:=A) (by have:=k.nn;omega) (by omega)
   have:=k.hi;have:=h.lo;omega
 have h2:B≤A:=by
  by_cases z:B≤A
  ·exact z
  ·have:=fV (x:=A+1) (y:=B) (by have:=h.nn;omega) (by omega)
   have:=h.hi;have:=k.lo;omega
 omega
section
variable {S M a c A C v:Int}
end
end Sp5
namespace Sp5
open PySem PySem.Spec L2 Mth Sp1 Sp2 Sp3 Sp24
theorem eA{x:Int}(h:0<x):sg x=1:=by unfold sg;rw[if_pos h]
theorem fz{x:Int}(h:x<0):sg x = -1:=by unfold sg;rw[if_neg (by omega),if_pos h]
theorem qA{x:Int}(h:x=0):sg x=0:=by subst h;rfl
theorem d6(x:Int):sg (-x) = -sg x:=by
 rcases Int.lt_trichotomy x 0 with h|h|h
 ·rw[fz h,eA (by omega)];rfl
 ·subst h;rfl
 ·rw[eA h,fz (by omega)]
theorem du{x:Int}(h:0≤x):ssq x=x*x:=by unfold ssq;rw[if_neg (by omega)]
theorem dy{x:Int}(h:x<0):ssq x = -(x*x):=by unfold ssq;rw[if_pos h,Int.mul_neg]
section
variable {S M a c A C w:Int}
end
end Sp5
namespace Sp6
open PySem PySem.Spec L2 Mth Sp1 Sp2 Sp3 Sp24 Sp5
def sh:Nat->Int->Int->Int->Int->Option (List Int)
 | 0,_,_,_,_=>none
 | n+1,lo,hi,b,l=>if lo / b*b=lo then some [lo / b] else if (lo / b+1)*l≤hi then some [lo / b+1] else (sh n l b (hi - lo / b*l) (lo - lo / b*b)).map (lo / b::·)
def fr:List Int->Int×Int
 | []=>(0,1)
 | [c]=>(c,1)
 | c::d::r=>(c*(fr (d::r)).1+(fr (d::r)).2,(fr (d::r)).1)
theorem oI{c:Int}{r:List Int}(h:r≠[]):fr (c::r)=(c*(fr r).1+(fr r).2,(fr r).1):=by
 cases r with
 | nil=>exact absurd rfl h
 | cons d r=>rfl
theorem nW:∀{n:Nat} {lo hi b l:Int} {ts:List Int},0<b->0<l->lo*l<hi*b->sh n lo hi b l=some ts->ts≠[]∧0<(fr ts).2∧lo*(fr ts).2≤(fr ts).1*b∧(fr ts).1*l≤hi*(fr ts).2∧(fr ts).2≤b∧(fr ts).2≤l∧(0<lo->0<(fr ts).1∧(fr ts).1≤lo∧(fr ts).1≤hi)
 | 0,_,_,_,_,_,_,_,_,h=>by cases h
 | n+1,lo,hi,b,l,ts,hb,hl,hd,h=>by
  unfold sh at h;generalize hq:lo / b=q at h;have m0:=Int.emod_nonneg lo (show b≠0 by omega);have m1:=Int.emod_lt_of_pos lo hb;have m2:q*b+lo % b=lo:=by rw[<- hq];have:=Int.ediv_mul_add_emod lo b;omega
  by_cases h1:q*b=lo
  ·rw[if_pos h1]at h
   cases h;have e1:q*l<hi:=by
    have:q*l*b<hi*b:=by rw[show q*l*b=q*b*l by grind,h1];exact hd
    exact Int.lt_of_mul_lt_mul_right this (by omega)
   refine⟨by simp,by show(0:Int)<1;decide,?_,?_,by show(1:Int)≤b;omega,by show(1:Int)≤l;omega,fun h0=>?_⟩
   ·show lo*1≤q*b
    omega
   ·show q*l≤hi*1
    omega
   ·have q0:0<q:=by
     rcases Int.lt_or_le 0 q with g|g
     ·exact g
     ·have:=Int.mul_nonpos_of_nonpos_of_nonneg g (show 0≤b by omega)
      omega
    have q1:q*1≤q*b:=Int.mul_le_mul_of_nonneg_left (by omega) (by omega);have q2:q*1≤q*l:=Int.mul_le_mul_of_nonneg_left (by omega) (by omega);exact⟨q0,by show q≤lo;omega,by show q≤hi;omega⟩
  ·rw[if_neg h1]at h
   by_cases h2:(q+1)*l≤hi
   ·rw[if_pos h2]at h
    cases h;have e2:(q+1)*b=q*b+b:=by grind
    refine⟨by simp,by show(0:Int)<1;decide,?_,?_,by show(1:Int)≤b;omega,by show(1:Int)≤l;omega,fun h0=>?_⟩
    ·show lo*1≤(q+1)*b
     omega
    ·show(q+1)*l≤hi*1
     omega
    ·have q0:0≤q:=by rw[<- hq];exact Int.ediv_nonneg (by omega) (by omega)
     have q1:q*1≤q*b:=Int.mul_le_mul_of_nonneg_left (by omega) q0;have q2:(q+1)*1≤(q+1)*l:=Int.mul_le_mul_of_nonneg_left (by omega) (by omega);exact⟨by show 0<q+1;omega,by show q+1≤lo;omega,by show q+1≤hi;omega⟩
   ·rw[if_neg h2]at h
    obtain⟨us,hu,rfl⟩:=Option.map_eq_some_iff.mp h;have e2:(q+1)*l=q*l+l:=by grind
    have hh:0<hi - q*l:=by
     have a1:q*b*l<lo*l:=Int.mul_lt_mul_of_pos_right (by omega) hl;have a2:q*l*b<hi*b:=by rw[show q*l*b=q*b*l by grind];omega
     have:=Int.lt_of_mul_lt_mul_right a2 (by omega);omega
    have hlr:0<lo - q*b:=by omega
    have hdet:l*(lo - q*b)<b*(hi - q*l):=by
     have e3:l*(lo - q*b)=lo*l - q*b*l:=by grind
     have e4:b*(hi - q*l)=hi*b - q*b*l:=by grind
     omega
    obtain⟨i1,i2,i3,i4,i5,i6,i7⟩:=nW hh hlr hdet hu;obtain⟨j1,j2,j3⟩:=i7 hl;rw[oI i1];generalize (fr us).1=t at *;generalize (fr us).2=u at *;refine⟨by simp,j1,?_,?_,j3,j2,fun h0=>?_⟩
    ·show lo*t≤(q*t+u)*b
     have e5:(q*t+u)*b=q*b*t+b*u:=by grind
     have e6:t*(lo - q*b)=lo*t - q*b*t:=by grind
     omega
    ·show(q*t+u)*l≤hi*t
     have e5:(q*t+u)*l=q*l*t+l*u:=by grind
     have e6:t*(hi - q*l)=hi*t - q*l*t:=by grind
     omega
    ·have q0:0≤q:=by rw[<- hq];exact Int.ediv_nonneg (by omega) (by omega)
     have p0:0≤q*t:=Int.mul_nonneg q0 (by omega);have p1:q*t≤q*b:=Int.mul_le_mul_of_nonneg_left j3 q0;have p2:q*t≤q*l:=Int.mul_le_mul_of_nonneg_left j2 q0;exact⟨by show 0<q*t+u;omega,by show q*t+u≤lo;omega,by show q*t+u≤hi;omega⟩
theorem st{lo hi b l:Int}(hb:0<b)(hl:0<l)(hd:lo*l<hi*b)(h1:¬lo / b*b=lo)(h2:¬(lo / b+1)*l≤hi) :
  (0<hi - lo / b*l∧hi - lo / b*l<l)∧(0<lo - lo / b*b∧lo - lo / b*b<b)∧l*(lo - lo / b*b)<b*(hi - lo / b*l):=by
 have m0:=Int.emod_nonneg lo (show b≠0 by omega);have m1:=Int.emod_lt_of_pos lo hb;have m2:lo / b*b+lo % b=lo:=by have:=Int.ediv_mul_add_emod lo b;omega
 generalize lo / b=q at *;have e2:(q+1)*l=q*l+l:=by grind
 have hh:0<hi - q*l:=by
  have a1:q*b*l<lo*l:=Int.mul_lt_mul_of_pos_right (by omega) hl;have a2:q*l*b<hi*b:=by rw[show q*l*b=q*b*l by grind];omega
  have:=Int.lt_of_mul_lt_mul_right a2 (by omega);omega
 refine⟨⟨hh,by omega⟩,⟨by omega,by omega⟩,?_⟩;have e3:l*(lo - q*b)=lo*l - q*b*l:=by grind
 have e4:b*(hi - q*l)=hi*b - q*b*l:=by grind
 omega
structure Bd(N:Int)(ts:List Int):Prop where
 f:∀j,j<ts.length->(-N≤(fr (ts.drop j)).1∧(fr (ts.drop j)).1≤N)∧0<(fr (ts.drop j)).2∧(fr (ts.drop j)).2≤N
 c:∀x∈ts,-N≤x∧x≤N
theorem vf{N lo hi b l t u:Int}(hb:0<b)(hl:0<l)(hu:0<u)(ub:u≤b)(ul:u≤l)(h1:lo*u≤t*b)(h2:t*l≤hi*u)(lN:-N≤lo)(hN:hi≤N)(N0:0≤N):-N≤t∧t≤N:=by
 constructor
 ·refine Int.le_of_mul_le_mul_right (a:=b) ?_ hb
  have a1:-N*u≤lo*u:=Int.mul_le_mul_of_nonneg_right lN (by omega);have a2:N*u≤N*b:=Int.mul_le_mul_of_nonneg_left ub N0;have e1:-N*u = -(N*u):=by grind
  have e2:-N*b = -(N*b):=by grind
  omega
 ·refine Int.le_of_mul_le_mul_right (a:=l) ?_ hl
  have a1:hi*u≤N*u:=Int.mul_le_mul_of_nonneg_right hN (by omega);have a2:N*u≤N*l:=Int.mul_le_mul_of_nonneg_left ul N0;omega
theorem vB{N lo b:Int}(hb:0<b)(h1:-N≤lo)(h2:lo≤N)(N0:0≤N):-N≤lo / b∧lo / b≤N:=by
 constructor
 ·refine Int.le_ediv_of_mul_le hb ?_
  have:N*1≤N*b:=Int.mul_le_mul_of_nonneg_left (by omega) N0;have e2:-N*b = -(N*b):=by grind
  omega
 ·have:=Int.ediv_le_ediv hb h2
  have a:N / b≤N:=Int.ediv_le_self b N0;omega
theorem uq:∀{n:Nat} {N lo hi b l:Int} {ts:List Int},0<b->0<l->lo*l<hi*b->(-N≤lo∧lo≤N)->(-N≤hi∧hi≤N)->b≤N->l≤N->sh n lo hi b l=some ts->Bd (N+1) ts
 | 0,_,_,_,_,_,_,_,_,_,_,_,_,_,h=>by cases h
 | n+1,N,lo,hi,b,l,ts,hb,hl,hd,hlo,hhi,bN,lN,h=>by
  obtain⟨i1,i2,i3,i4,i5,i6,_⟩:=nW hb hl hd h;have top:(-(N+1)≤(fr ts).1∧(fr ts).1≤N+1)∧0<(fr ts).2∧(fr ts).2≤N+1:=by
   have:=vf (N:=N) hb hl i2 i5 i6 i3 i4 hlo.1 hhi.2 (by omega);exact⟨⟨by omega,by omega⟩,i2,by omega⟩
  have hq:=vB hb hlo.1 hlo.2 (show 0≤N by omega);unfold sh at h
  by_cases h1:lo / b*b=lo
  ·rw[if_pos h1]at h
   cases h;refine⟨fun j hj=>?_,fun x hx=>?_⟩
   ·have:j=0:=by simpa using hj
    subst this;exact top
   ·rw[List.mem_singleton.mp hx]
    omega
  ·rw[if_neg h1]at h
   by_cases h2:(lo / b+1)*l≤hi
   ·rw[if_pos h2]at h
    cases h;refine⟨fun j hj=>?_,fun x hx=>?_⟩
    ·have:j=0:=by simpa using hj
     subst this;exact top
    ·rw[List.mem_singleton.mp hx]
     omega
   ·rw[if_neg h2]at h
    obtain⟨us,hu,rfl⟩:=Option.map_eq_some_iff.mp h;obtain⟨⟨s1,s2⟩,⟨s3,s4⟩,s5⟩:=st hb hl hd h1 h2;have ih:=uq (N:=N) s1 s3 s5 ⟨by omega,by omega⟩ ⟨by omega,by omega⟩ (by omega) (by omega) hu;refine⟨fun j hj=>?_,fun x hx=>?_⟩
    ·cases j with
     | zero=>exact top
     | succ j=>exact ih.f j (by simpa using hj)
    ·rcases List.mem_cons.mp hx with rfl|hx
     ·omega
     ·exact ih.c x hx
def flr(m u R:Int):Int:=if m<0 then (if R*R=u then -R else -R - 1) else R
def SF(a0 a1 a2 a3 sc F:Int):Prop:=∃R,Cm 1 (sc*sc*a1*a1*a2) R∧F=(sc*a0+flr a1 (sc*sc*a1*a1*a2) R) / a3
theorem SF.uniq{a0 a1 a2 a3 sc F G:Int}(h:SF a0 a1 a2 a3 sc F)(k:SF a0 a1 a2 a3 sc G):F=G:=by
 obtain⟨R,h1,rfl⟩:=h;obtain⟨S,k1,rfl⟩:=k;rw[h1.uniq k1]
theorem fU{x y:Int}(h:x≤y):ssq x≤ssq y:=by
 rcases Int.lt_or_le x 0 with hx|hx
 ·rcases Int.lt_or_le y 0 with hy|hy
  ·rw[dy hx,dy hy]
   have:=fV (x:=-y) (y:=-x) (by omega) (by omega);have e1:-y * -y=y*y:=by grind
   have e2:-x * -x=x*x:=by grind
   omega
  ·rw[dy hx,du hy]
   have a:=Int.mul_nonneg hy hy;have b:0≤x*x:=by rw[show x*x = -x * -x by grind];exact Int.mul_nonneg (by omega) (by omega)
   omega
 ·rw[du hx,du (by omega)]
  exact fV hx h
theorem ie{k x:Int}(hk:0≤k):ssq (k*x)=k*k*ssq x:=by
 rcases Int.lt_or_le x 0 with hx|hx
 ·rcases Int.lt_or_eq_of_le hk with h|h
  ·rw[dy (Int.mul_neg_of_pos_of_neg h hx),dy hx];grind
  ·subst h;simp[ssq]
 ·rw[du (Int.mul_nonneg hk hx),du hx];grind
theorem uE{W m u R:Int}(hu:0≤u)(r:Cm 1 (m*m*u) R)(h:W+flr m (m*m*u) R+1≤0):ssq W+ssq m*u<0:=by
 have lo:=r.lo;have hi:=r.hi;have nn:=r.nn;rw[Int.one_mul]at lo hi;unfold flr at h
 by_cases hm:m<0
 ·rw[if_pos hm]at h
  have em:ssq m*u = -(m*m*u):=by rw[dy hm];grind
  rw[em]
  by_cases hx:R*R=m*m*u
  ·rw[if_pos hx]at h
   have a:ssq W≤ssq (R - 1):=fU (by omega);rcases Int.lt_or_le (R - 1) 0 with g|g
   ·rw[dy g]at a
    have:R=0:=by omega
    subst this;simp at a hx;omega
   ·rw[du g]at a
    have:=v6 (x:=R - 1) (y:=R) g (by omega);omega
  ·rw[if_neg hx]at h
   have a:ssq W≤ssq R:=fU (by omega);rw[du nn]at a;omega
 ·rw[if_neg hm]at h
  have em:ssq m*u=m*m*u:=by rw[du (by omega)]
  rw[em];have a:ssq W≤ssq (-(R+1)):=fU (by omega);rw[dy (by omega:-(R+1)<0)]at a;have e1:-(R+1) * -(R+1)=(R+1)*(R+1):=by grind
  omega
theorem SF.lt{a0 a1 a2 a3 sc F:Int}(h:SF a0 a1 a2 a3 sc F)(h2:0≤a2)(h3:0<a3)(hs:0<sc):ssq (a0*sc - (F+1)*a3)+ssq (a1*sc)*a2<0:=by
 obtain⟨R,r,rfl⟩:=h;have e:sc*sc*a1*a1*a2=a1*sc*(a1*sc)*a2:=by grind
 rw[e]at r ⊢;have hf:flr a1 (a1*sc*(a1*sc)*a2) R=flr (a1*sc) (a1*sc*(a1*sc)*a2) R:=by
  unfold flr
  by_cases g:a1<0
  ·rw[if_pos g,if_pos (Int.mul_neg_of_neg_of_pos g hs)]
  ·rw[if_neg g,if_neg (by have:=Int.mul_nonneg (show 0≤a1 by omega) (show 0≤sc by omega);omega)]
 rw[hf];refine uE h2 r ?_;generalize flr (a1*sc) (a1*sc*(a1*sc)*a2) R=f;have q:=Int.lt_ediv_add_one_mul_self (sc*a0+f) h3;have e2:sc*a0=a0*sc:=Int.mul_comm _ _;omega
theorem ol{a0 a1 a2 a3 sc L t u:Int}(hs:0<sc)(hu:0<u)(h3:0<a3)(h:ssq (a0*sc - L*a3)+ssq (a1*sc)*a2<0)(hL:L*u≤t*sc):ssq (a0*u - t*a3)+ssq (a1*u)*a2<0:=by
 have e1:ssq (a1*u*sc)=u*u*ssq (a1*sc):=by rw[show a1*u*sc=u*(a1*sc) by grind,ie (by omega)]
 have e2:ssq (a1*u*sc)=sc*sc*ssq (a1*u):=by rw[show a1*u*sc=sc*(a1*u) by grind,ie (by omega)]
 have e3:ssq ((a0*u - t*a3)*sc)=sc*sc*ssq (a0*u - t*a3):=by rw[Int.mul_comm,ie (by omega)]
 have m:(a0*u - t*a3)*sc≤u*(a0*sc - L*a3):=by
  have:=Int.mul_le_mul_of_nonneg_right hL (show 0≤a3 by omega);have f1:(a0*u - t*a3)*sc=a0*u*sc - t*sc*a3:=by grind
  have f2:u*(a0*sc - L*a3)=a0*u*sc - L*u*a3:=by grind
  omega
 have m2:=fU m;rw[e3,ie (k:=u) (by omega)]at m2;have pos:0<sc*sc:=Int.mul_pos hs hs;have pu:0<u*u:=Int.mul_pos hu hu;have key:sc*sc*(ssq (a0*u - t*a3)+ssq (a1*u)*a2)<0:=by
  have g1:sc*sc*(ssq (a0*u - t*a3)+ssq (a1*u)*a2)=sc*sc*ssq (a0*u - t*a3)+sc*sc*ssq (a1*u)*a2:=by grind
  rw[g1,<- e2,e1];have g2:u*u*(ssq (a0*sc - L*a3)+ssq (a1*sc)*a2)<0:=Int.mul_neg_of_pos_of_neg pu h;have g3:u*u*(ssq (a0*sc - L*a3)+ssq (a1*sc)*a2)=u*u*ssq (a0*sc - L*a3)+u*u*ssq (a1*sc)*a2:=by grind
  omega
 rcases Int.lt_or_le (ssq (a0*u - t*a3)+ssq (a1*u)*a2) 0 with g|g
 ·exact g
 ·have:=Int.mul_nonneg (show 0≤sc*sc by omega) g
  omega
def scl(j:Nat):Int:=2^(2^j)
theorem dh(j:Nat):0<scl j:=Int.pow_pos (by decide)
def Rm(a0 a1 a2 a3 b0 b1 b2 b3:Int)(j:Nat)(F G:Int):Prop:=SF a0 a1 a2 a3 (scl j) F∧SF (-b0) (-b1) b2 b3 (scl j) G
def Wi(a0 a1 a2 a3 b0 b1 b2 b3 t u:Int):Prop:=∃(j:Nat) (F G:Int) (ts:List Int) (m:Nat),Rm a0 a1 a2 a3 b0 b1 b2 b3 j F G∧F+1+2≤-G - 1∧(∀i,i<j->∀F' G',Rm a0 a1 a2 a3 b0 b1 b2 b3 i F' G'->¬F'+1+2≤-G' - 1)∧sh m (F+1) (-G - 1) (scl j) (scl j)=some ts∧ze (fr ts).1 (fr ts).2 t u
theorem Wi.mid{a0 a1 a2 a3 b0 b1 b2 b3 t u:Int}(h:Wi a0 a1 a2 a3 b0 b1 b2 b3 t u)(a2n:0≤a2)(a3p:0<a3)(b2n:0≤b2)(b3p:0<b3):ssq (a0*u - t*a3)+ssq (a1*u)*a2<0∧ssq (t*b3 - b0*u)+ssq (-b1*u)*b2<0:=by
 obtain⟨j,F,G,ts,m,h1,h2,h3,h4,h5⟩:=h;have sp:=dh j;obtain⟨_,pos,i3,i4,_⟩:=nW sp sp (Int.mul_lt_mul_of_pos_right (show F+1 < -G - 1 by omega) sp) h4;have up:=h5.low.pos;have e:=h5.eq;generalize (fr ts).1=x at *;generalize (fr ts).2=y at *;constructor
 ·refine ol (sc:=scl j) (L:=F+1) sp up a3p (h1.1.lt a2n a3p sp) ?_
  refine Int.le_of_mul_le_mul_right (a:=y) ?_ pos;have q:=Int.mul_le_mul_of_nonneg_right i3 (show 0≤u by omega);have f1:(F+1)*u*y=(F+1)*y*u:=by grind
  have f2:t*scl j*y=x*scl j*u:=by
   rw[show t*scl j*y=t*y*scl j by grind,<- e]
   grind
  omega
 ·have q:=ol (a0:=-b0) (a1:=-b1) (a2:=b2) (a3:=b3) (sc:=scl j) (L:=G+1) (t:=-t) sp up b3p (h1.2.lt b2n b3p sp) (by
   refine Int.le_of_mul_le_mul_right (a:=y) ?_ pos;have q:=Int.mul_le_mul_of_nonneg_right i4 (show 0≤u by omega);have f1:(G+1)*u*y = -((-G - 1)*y*u):=by grind
   have f2:-t*scl j*y = -(x*scl j*u):=by
    rw[show -t*scl j*y = -(t*y*scl j) by grind,<- e]
    grind
   omega)
  have f:-b0*u - -t*b3=t*b3 - b0*u:=by grind
  rw[f]at q;exact q
end Sp6
namespace Sp5
open PySem PySem.Spec L2 Mth Sp1 Sp2 Sp3 Sp24
theorem fT(x:Int):ssq (-x) = -ssq x:=by
 rcases Int.lt_trichotomy x 0 with h|h|h
 ·rw[dy h,du (x:=-x) (by omega)];grind
 ·subst h;rfl
 ·rw[du (x:=x) (by omega),dy (x:=-x) (by omega)];grind
theorem gF(w m u n l:Int):cf (-w) n l (-m) u = -cf w m u (-n) l:=by
 unfold cf swr;rw[fT m,fT n,d6 w,show ssq n*l + -ssq m*u = -(ssq m*u + -ssq n*l) by grind,d6 (ssq m*u + -ssq n*l),Int.neg_mul_neg,show -w * -w - n*n*l - -m * -m*u=w*w - m*m*u - -n * -n*l by grind,show -2*n * -m = -2*m * -n by grind,Int.mul_comm l u]
 by_cases g:sg w*sg (ssq m*u + -ssq n*l)≥0
 ·rw[if_pos g,if_pos g,show -sg w + -sg (ssq m*u + -ssq n*l) = -(sg w+sg (ssq m*u + -ssq n*l)) by omega,d6]
 ·rw[if_neg g,if_neg g,Int.neg_mul]
theorem d7(a0 a1 a2 a3 b0 b1 b2 b3:Int):ro b0 b1 b2 b3 a0 a1 a2 a3=0 - ro a0 a1 a2 a3 b0 b1 b2 b3:=by
 unfold ro;have h:=gF (a0*b3 - b0*a3) (a1*b3) a2 (b1*a3) b2;rw[Int.neg_mul a1 b3,Int.neg_mul b1 a3,show b0*a3 - a0*b3 = -(a0*b3 - b0*a3) by omega,h];omega
theorem jK(W m u:Int):cf W m u 0 0=if sg W*sg (ssq m*u)≥0 then sg (sg W+sg (ssq m*u)) else sg W*sg (W*W - m*m*u):=by
 unfold cf swr;have e0:ssq (0:Int)=0:=rfl;have sq:∀e:Int,sg (ssq e)=sg e:=fun e=>by
  rcases Int.lt_trichotomy e 0 with h|h|h
  ·rw[dy h,fz h,fz (by have:=Int.mul_pos_of_neg_of_neg h h;omega)]
  ·subst h;rfl
  ·rw[du (by omega),eA h,eA (Int.mul_pos h h)]
 have e1:-2*m*0=0:=by omega
 have e2:ssq m*u+0*0=ssq m*u:=by omega
 have e3:W*W - m*m*u - 0*0*0=W*W - m*m*u:=by omega
 rw[e1,e0,e2,e3,show ssq (W*W - m*m*u)+0*(u*0)=ssq (W*W - m*m*u) by omega,sq]
theorem oh{W w U:Int}(hw:0<w)(hU:0≤U):(cf W w U 0 0<0↔W<0∧w*w*U<W*W)∧(cf W w U 0 0=0↔W≤0∧W*W=w*w*U)∧(0<cf W w U 0 0↔0<W∨W*W<w*w*U):=by
 rw[jK,du (show 0≤w by omega)];have ww:0<w*w:=Int.mul_pos hw hw;have wu:0≤w*w*U:=Int.mul_nonneg (by omega) hU;generalize w*w*U=V at *;have WW:0<W->0<W*W:=fun h=>Int.mul_pos h h;have WN:W<0->0<W*W:=fun h=>Int.mul_pos_of_neg_of_neg h h;rcases Int.lt_trichotomy W 0 with h|h|h
 ·have k:=WN h
  rw[fz h];rcases Int.lt_or_eq_of_le wu with g|g
  ·rw[eA g,if_neg (by decide)]
   rcases Int.lt_trichotomy (W*W - V) 0 with d|d|d
   ·rw[fz d];omega
   ·rw[qA d];omega
   ·rw[eA d];omega
  ·rw[<- g]
   show(sg (-1+sg 0)<0↔_)∧(sg (-1+sg 0)=0↔_)∧(0<sg (-1+sg 0)↔_);rw[show sg (-1+sg 0) = -1 from rfl];omega
 ·subst h
  rw[show sg 0=0 from rfl,Int.zero_mul,if_pos (by decide),Int.zero_add,Int.zero_mul];rcases Int.lt_or_eq_of_le wu with g|g
  ·rw[eA g,show sg 1=1 from rfl];omega
  ·rw[<- g,show sg (sg 0)=0 from rfl];omega
 ·have k:=WW h
  rw[eA h];rcases Int.lt_or_eq_of_le wu with g|g
  ·rw[eA g,if_pos (by decide),show sg (1+1)=1 from rfl];omega
  ·rw[<- g,show sg 0=0 from rfl,if_pos (by decide),show sg (1+0)=1 from rfl];omega
theorem oj{W w U:Int}(hw:0<w)(hU:0≤U):(0<cf W (-w) U 0 0↔0<W∧w*w*U<W*W)∧(cf W (-w) U 0 0=0↔0≤W∧W*W=w*w*U)∧(cf W (-w) U 0 0<0↔W<0∨W*W<w*w*U):=by
 have k:=oh (W:=-W) hw hU;have e:cf W (-w) U 0 0 = -cf (-W) w U 0 0:=by
  rw[jK,jK,d6 W,dy (show -w<0 by omega),show -w * -w=w*w by grind,show -W * -W=W*W by grind,du (show 0≤w by omega),Int.neg_mul,d6 (w*w*U),Int.neg_mul,Int.mul_neg]
  by_cases g:-(sg W*sg (w*w*U))≥0
  ·rw[if_pos g,if_pos g,show sg W + -sg (w*w*U) = -(-sg W+sg (w*w*U)) by omega,d6]
  ·rw[if_neg g,if_neg g,Int.neg_mul,Int.neg_neg]
 rw[show -W * -W=W*W by grind]at k;rw[e];omega
end Sp5
namespace Sp5
open PySem PySem.Spec L2 Mth Sp1 Sp2 Sp3 Sp24
structure Gv(A B C be x y P L U:Int):Prop where
 pa:0<A
 py:0<y
 pb:be*be=A*C - B*B
 eP:P=B*y
 eL:L=A*y
 eU:U=y*(x*A - y*be*be)
section
variable {A B C be x y P L U:Int}
theorem Gv.k0(g:Gv A B C be x y P L U):P*P - U=y*A*(C*y - x):=by
 rw[g.eP,g.eU,show y*(x*A - y*be*be)=y*(x*A - y*(be*be)) by grind,g.pb];grind
theorem Gv.k1(g:Gv A B C be x y P L U):(P - L)*(P - L) - U=y*A*((A - 2*B+C)*y - x):=by
 rw[g.eP,g.eL,g.eU,show y*(x*A - y*be*be)=y*(x*A - y*(be*be)) by grind,g.pb];grind
theorem Gv.kU(g:Gv A B C be x y P L U):U=y*(x*A - (A*C - B*B)*y):=by
 rw[g.eU,show y*(x*A - y*be*be)=y*(x*A - y*(be*be)) by grind,g.pb];grind
theorem fe{k z:Int}(hk:0<k):(0<k*z↔0<z)∧(k*z=0↔z=0)∧(k*z<0↔z<0):=by
 rcases Int.lt_trichotomy z 0 with h|h|h
 ·have:=Int.mul_neg_of_pos_of_neg hk h
  omega
 ·subst h;simp
 ·have:=Int.mul_pos hk h
  omega
theorem Gv.ya(g:Gv A B C be x y P L U):0<y*A:=Int.mul_pos g.py g.pa
theorem Gv.c0(g:Gv A B C be x y P L U):(U<P*P↔x<C*y)∧(P*P=U↔C*y=x)∧(P*P<U↔C*y<x):=by
 have h:=fe (z:=C*y - x) g.ya;have k:=g.k0;rw[<- k]at h;omega
theorem Gv.c1(g:Gv A B C be x y P L U):(U<(P - L)*(P - L)↔x<(A - 2*B+C)*y)∧((P - L)*(P - L)=U↔(A - 2*B+C)*y=x)∧((P - L)*(P - L)<U↔(A - 2*B+C)*y<x):=by
 have h:=fe (z:=(A - 2*B+C)*y - x) g.ya;have k:=g.k1;rw[<- k]at h;omega
theorem cC(p q r s t w:Int):ro p q r s t 0 0 w=cf (p*w - t*s) (q*w) r 0 0:=by
 unfold ro;rw[show -0*s=0 by omega]
theorem Gv.lowE(g:Gv A B C be x y P L U):ro P (-1) U L 1 0 0 1=cf (P - L) (-1) U 0 0:=by rw[cC];congr 1 <;> omega
theorem Gv.lowB(g:Gv A B C be x y P L U):ro P (-1) U L 0 0 0 1=cf P (-1) U 0 0:=by rw[cC];congr 1 <;> omega
theorem Gv.highE(g:Gv A B C be x y P L U):ro P 1 U L 1 0 0 1=cf (P - L) 1 U 0 0:=by rw[cC];congr 1 <;> omega
theorem Gv.highB(g:Gv A B C be x y P L U):ro P 1 U L 0 0 0 1=cf P 1 U 0 0:=by rw[cC];congr 1 <;> omega
theorem pC{W U:Int}(hU:0≤U):(cf W 1 U 0 0<0↔W<0∧U<W*W)∧(cf W 1 U 0 0=0↔W≤0∧W*W=U)∧(0<cf W 1 U 0 0↔0<W∨W*W<U):=by
 have h:=oh (W:=W) (w:=1) (by decide) hU;rw[Int.one_mul,Int.one_mul]at h;exact h
theorem pD{W U:Int}(hU:0≤U):(0<cf W (-1) U 0 0↔0<W∧U<W*W)∧(cf W (-1) U 0 0=0↔0≤W∧W*W=U)∧(cf W (-1) U 0 0<0↔W<0∨W*W<U):=by
 have h:=oj (W:=W) (w:=1) (by decide) hU;rw[Int.one_mul,Int.one_mul]at h;exact h
def na(A B C:Int):Int:=if A=0∨B≤0 then C else if B≥A then A - 2*B+C else A*C - B*B
def lU(A B:Int):Int:=if A=0∨B≤0 then 1 else if B≥A then 1 else A
structure Dv(A B C P L U:Int):Prop where
 u:0≤U
 e:¬(0<P - L∧U<(P - L)*(P - L))
 b:¬(P<0∧U<P*P)
theorem Gv.shut(g:Gv A B C be x y P L U)(n:¬(sg U<0∨ro 1 0 0 1 P (-1) U L<0∨ro P 1 U L 0 0 0 1<0)):Dv A B C P L U:=by
 have u:0≤U:=by
  by_cases h:U<0
  ·exact absurd (.inl (by rw[fz h];decide)) n
  ·omega
 refine⟨u,fun h=>n (.inr (.inl ?_)),fun h=>n (.inr (.inr ?_))⟩
 ·rw[d7 P (-1) U L 1 0 0 1,g.lowE]
  have:=(pD u).1.mpr h;omega
 ·rw[g.highB]
  exact(pC u).1.mpr h
theorem Gv.shut'(g:Gv A B C be x y P L U)(n:sg U<0∨ro 1 0 0 1 P (-1) U L<0∨ro P 1 U L 0 0 0 1<0):U<0∨(0<P - L∧U<(P - L)*(P - L))∨(P<0∧U<P*P):=by
 by_cases u:U<0
 ·exact .inl u
 have u:0≤U:=by omega
 rcases n with n|n|n
 ·rcases Int.lt_or_eq_of_le u with h|h
  ·rw[eA h]at n;omega
  ·rw[<- h]at n;exact absurd n (by decide)
 ·rw[d7 P (-1) U L 1 0 0 1,g.lowE]at n
  exact .inr (.inl ((pD u).1.mp (by omega)))
 ·rw[g.highB]at n
  exact .inr (.inr ((pC u).1.mp n))
theorem Gv.none_iff(g:Gv A B C be x y P L U):(sg U<0∨ro 1 0 0 1 P (-1) U L<0∨ro P 1 U L 0 0 0 1<0)↔x*lU A B<na A B C*y:=by
 have y0:0≤y:=Int.le_of_lt g.py;have sq:∀z:Int,0≤z*z:=fun z=>(Int.le_total 0 z).elim (fun h=>Int.mul_nonneg h h) fun h=>Int.mul_nonneg_of_nonpos_of_nonpos h h;have hL:0<L:=by rw[g.eL];exact Int.mul_pos g.pa g.py
 have eL:P - L=(B - A)*y:=by rw[g.eP,g.eL,Int.sub_mul]
 have bk:∀{q:Prop},(Dv A B C P L U->False)->(sg U<0∨ro 1 0 0 1 P (-1) U L<0∨ro P 1 U L 0 0 0 1<0):=fun f=>Classical.byContradiction fun z=>f (g.shut z);unfold na lU
 by_cases h1:A=0∨B≤0
 ·rw[if_pos h1,if_pos h1,Int.mul_one]
  have hB:B≤0:=h1.elim (fun z=>absurd g.pa (by rw[z];decide)) id;have hP:P≤0:=by rw[g.eP];exact Int.mul_nonpos_of_nonpos_of_nonneg hB y0
  refine⟨fun n=>g.c0.1.mp ?_,fun h=>bk (q:=True) fun o=>?_⟩
  ·rcases g.shut' n with u|u|u
   ·exact Int.lt_of_lt_of_le u (sq P)
   ·exact absurd u.1 (by clear n;omega)
   ·exact u.2
  ·have k:=g.c0.1.mpr h
   rcases Int.lt_or_eq_of_le hP with z|z
   ·exact o.b ⟨z,k⟩
   ·rw[z]at k
    exact absurd o.u (Int.not_le.mpr k)
 ·rw[if_neg h1,if_neg h1]
  by_cases h2:B≥A
  ·rw[if_pos h2,if_pos h2,Int.mul_one]
   have hP:0≤P - L:=by rw[eL];exact Int.mul_nonneg (Int.sub_nonneg_of_le h2) y0
   refine⟨fun n=>g.c1.1.mp ?_,fun h=>bk (q:=True) fun o=>?_⟩
   ·rcases g.shut' n with u|u|u
    ·exact Int.lt_of_lt_of_le u (sq (P - L))
    ·exact u.2
    ·exact absurd u.1 (by clear n;omega)
   ·have k:=g.c1.1.mpr h
    rcases Int.lt_or_eq_of_le hP with z|z
    ·exact o.e ⟨z,k⟩
    ·rw[<- z]at k
     exact absurd o.u (Int.not_le.mpr k)
  ·rw[if_neg h2,if_neg h2]
   have hU:=(fe (k:=y) (z:=x*A - (A*C - B*B)*y) g.py).2.2;rw[<- g.kU]at hU;have e:x*A - (A*C - B*B)*y<0↔x*A<(A*C - B*B)*y:=⟨Int.lt_of_sub_neg,Int.sub_neg_of_lt⟩;refine⟨fun n=>e.mp (hU.mp ?_),fun h=>.inl (by rw[fz (hU.mpr (e.mpr h))];decide)⟩;rcases g.shut' n with u|u|u
   ·exact u
   ·rw[eL]at u
    exact absurd u.1 (Int.not_lt.mpr (Int.mul_nonpos_of_nonpos_of_nonneg (Int.sub_nonpos_of_le (Int.le_of_lt (Int.not_le.mp h2))) y0))
   ·rw[g.eP]at u
    exact absurd u.1 (Int.not_lt.mpr (Int.mul_nonneg (Int.le_of_lt (Int.not_le.mp fun z=>h1 (.inr z))) y0))
def dU(P U L:Int):Int×Int×Int×Int:=if ro P (-1) U L 0 0 0 1<0 then (0,0,0,1) else (P,-1,U,L)
def cT(P U L:Int):Int×Int×Int×Int:=if ro P 1 U L 1 0 0 1>0 then (1,0,0,1) else (P,1,U,L)
end
end Sp5
namespace Sp5
open PySem PySem.Spec L2 Mth Sp1 Sp2 Sp3 Sp24
abbrev N4:=Int×Int×Int×Int
def ltB(l:N4)(a b:Int):Int:=ro l.1 l.2.1 l.2.2.1 l.2.2.2 a 0 0 b
def gtB(m:N4)(a b:Int):Int:=ro a 0 0 b m.1 m.2.1 m.2.2.1 m.2.2.2
def bL(o:Option (N4×N4))(a b:Int):Bool:=match o with
 | none=>false
 | some (l,m)=>decide (ltB l a b<1) && decide (gtB m a b<1)
def uF(o:Option (N4×N4))(a b:Int):Bool:=match o with
 | none=>false
 | some (l,m)=>decide (ltB l a b = -1) && decide (gtB m a b = -1)
theorem jT(m:N4)(a b:Int):gtB m a b=0 - ltB m a b:=d7 _ _ _ _ _ _ _ _
theorem gX{a b:Int}:ltB (0,0,0,1) a b=sg (-a)∧ltB (1,0,0,1) a b=sg (b - a):=by
 have h:∀W:Int,cf W 0 0 0 0=sg W:=fun W=>by
  rw[jK,show ssq 0*0=0 by omega,show sg 0=0 from rfl,Int.mul_zero,if_pos (by decide),Int.add_zero];rcases Int.lt_trichotomy W 0 with h|h|h
  ·rw[fz h];rfl
  ·rw[qA h];rfl
  ·rw[eA h];rfl
 unfold ltB;dsimp only;rw[cC,cC,Int.zero_mul,Int.mul_one,Int.one_mul,h,h];constructor
 ·congr 1;omega
 ·rfl
theorem nX{x:Int}:sg x<1↔x≤0:=by
 rcases Int.lt_trichotomy x 0 with h|h|h
 ·rw[fz h];omega
 ·rw[qA h];omega
 ·rw[eA h];omega
section
variable {A B C be x y P L U a b:Int}
theorem Gv.kt(g:Gv A B C be x y P L U)(a b:Int):(P*b - a*L)*(P*b - a*L) - b*b*U=y*A*((A*a*a - 2*B*a*b+C*b*b)*y - x*(b*b)):=by
 rw[g.kU,g.eP,g.eL];grind
theorem Gv.ct(g:Gv A B C be x y P L U)(a b:Int):((P*b - a*L)*(P*b - a*L)≤b*b*U↔(A*a*a - 2*B*a*b+C*b*b)*y≤x*(b*b))∧((P*b - a*L)*(P*b - a*L)<b*b*U↔(A*a*a - 2*B*a*b+C*b*b)*y<x*(b*b)):=by
 have h:=fe (z:=(A*a*a - 2*B*a*b+C*b*b)*y - x*(b*b)) g.ya;rw[<- g.kt a b]at h;omega
theorem jL{u v:Int}(h0:0≤u)(h:u≤v):u*u≤v*v:=Int.mul_le_mul h h h0 (by omega)
theorem Gv.lpos(g:Gv A B C be x y P L U):0<L:=by rw[g.eL];exact Int.mul_pos g.pa g.py
theorem jQ(b p:Int):b*p*(b*p)=b*b*(p*p):=by grind
theorem Gv.wle(g:Gv A B C be x y P L U)(ha:0≤a):P*b - a*L≤b*P:=by
 have:=Int.mul_nonneg ha (Int.le_of_lt g.lpos);rw[Int.mul_comm P b];omega
theorem Gv.wge(g:Gv A B C be x y P L U)(hab:a≤b):b*(P - L)≤P*b - a*L:=by
 have h:=Int.mul_le_mul_of_nonneg_right hab (Int.le_of_lt g.lpos);rw[Int.mul_sub,Int.mul_comm b P];omega
theorem Gv.low_le(g:Gv A B C be x y P L U)(u0:0≤U)(ha:0≤a)(hb:0<b):(ltB (dU P U L) a b<1↔¬(0<P*b - a*L∧b*b*U<(P*b - a*L)*(P*b - a*L)))∧(ltB (dU P U L) a b = -1->P*b - a*L<0∨(P*b - a*L)*(P*b - a*L)<b*b*U):=by
 have bb:0<b*b:=Int.mul_pos hb hb;unfold dU
 by_cases h:ro P (-1) U L 0 0 0 1<0
 ·rw[if_pos h,gX.1]
  rw[g.lowB]at h;have k:=(pD (W:=P) u0).2.2.mp h;have wle:=g.wle (b:=b) ha;generalize P*b - a*L=W at *;have key:W<0∨W*W<b*b*U:=by
   by_cases hw:W<0
   ·exact .inl hw
   ·have hP:¬P<0:=fun z=>by
     have:=Int.mul_neg_of_pos_of_neg hb z;omega
    have k2:P*P<U:=by omega
    have s1:=jL (show 0≤W by omega) wle;rw[jQ]at s1;have s2:=Int.mul_lt_mul_of_pos_left k2 bb;exact .inr (by omega)
  refine⟨⟨fun _ ⟨h1,h2⟩=>by omega,fun _=>?_⟩,fun _=>key⟩;exact nX.mpr (by omega)
 ·rw[if_neg h]
  show(ro P (-1) U L a 0 0 b<1↔_)∧(ro P (-1) U L a 0 0 b = -1->_);rw[cC,show -1*b = -b by omega];have k:=oj (W:=P*b - a*L) hb u0;omega
theorem Gv.high_ge(g:Gv A B C be x y P L U)(u0:0≤U)(hab:a≤b)(hb:0<b):(gtB (cT P U L) a b<1↔¬(P*b - a*L<0∧b*b*U<(P*b - a*L)*(P*b - a*L)))∧(gtB (cT P U L) a b = -1->0<P*b - a*L∨(P*b - a*L)*(P*b - a*L)<b*b*U):=by
 have bb:0<b*b:=Int.mul_pos hb hb;rw[jT];unfold cT
 by_cases h:ro P 1 U L 1 0 0 1>0
 ·rw[if_pos h,gX.2]
  rw[g.highE]at h;have k:=(pC (W:=P - L) u0).2.2.mp h;have wge:=g.wge (a:=a) hab;generalize P*b - a*L=W at *;have key:0<W∨W*W<b*b*U:=by
   by_cases hw:0<W
   ·exact .inl hw
   ·have hP:¬0<P - L:=fun z=>by
     have:=Int.mul_pos hb z;omega
    have k2:(P - L)*(P - L)<U:=by omega
    have s1:=jL (u:=-W) (v:=b * -(P - L)) (by omega) (by rw[Int.mul_neg];omega);rw[jQ,show -W * -W=W*W by grind,show -(P - L) * -(P - L)=(P - L)*(P - L) by grind]at s1;have s2:=Int.mul_lt_mul_of_pos_left k2 bb;exact .inr (by omega)
  refine⟨⟨fun _ ⟨h1,h2⟩=>by omega,fun _=>?_⟩,fun _=>key⟩;have:0≤sg (b - a):=by
   rcases Int.lt_or_eq_of_le (show 0≤b - a by omega) with z|z
   ·rw[eA z];decide
   ·rw[<- z];decide
  omega
 ·rw[if_neg h]
  show(0 - ro P 1 U L a 0 0 b<1↔_)∧(0 - ro P 1 U L a 0 0 b = -1->_);rw[cC,Int.one_mul];have k:=oh (W:=P*b - a*L) hb u0;omega
theorem sqx(x:Int):0≤x*x:=by
 rcases Int.le_total 0 x with h|h
 ·exact Int.mul_nonneg h h
 ·exact Int.mul_nonneg_of_nonpos_of_nonpos h h
theorem Gv.far(g:Gv A B C be x y P L U)(n:U<0∨(0<P - L∧U<(P - L)*(P - L))∨(P<0∧U<P*P))(ha:0≤a)(hab:a≤b)(hb:0<b):b*b*U<(P*b - a*L)*(P*b - a*L):=by
 have bb:0<b*b:=Int.mul_pos hb hb;rcases n with n|⟨n1,n2⟩|⟨n1,n2⟩
 ·have h1:=Int.mul_neg_of_pos_of_neg bb n
  have h2:=sqx (P*b - a*L);omega
 ·have wge:=g.wge (a:=a) hab
  have s1:=jL (u:=b*(P - L)) (Int.mul_nonneg (by omega) (by omega)) wge;rw[jQ]at s1;have s2:=Int.mul_lt_mul_of_pos_left n2 bb;omega
 ·have wle:=g.wle (b:=b) ha
  have s1:=jL (u:=b * -P) (v:=-(P*b - a*L)) (Int.mul_nonneg (by omega) (by omega)) (by rw[Int.mul_neg];omega);rw[jQ,show -P * -P=P*P by grind,show -(P*b - a*L) * -(P*b - a*L)=(P*b - a*L)*(P*b - a*L) by grind]at s1;have s2:=Int.mul_lt_mul_of_pos_left n2 bb;omega
end
end Sp5
namespace L2
open PySem PySem.Spec PyProof.Rows
theorem iH{K:W.Frag}{H H':Hp}{a:Addr}{xs:List V}(h:SqT K H a xs)(s:Same H H'):SqT K H' a xs:=by
 rcases h with(h|⟨o,h⟩)|h
 ·exact .inl (.inl (s _ _ h))
 ·exact .inl (.inr ⟨o,s _ _ h⟩)
 ·exact .inr h
theorem rR{K:W.Frag}{a:Addr}{xs:List V}{fv:List (Str×Nat)}{te:TE}{σ:St}{H1:Hp}{Qp:Hp->Prop}{l:Addr}(Pv:Nat->List V->Hp->Prop)(h0:Pv 0 [] (upd H1 l (.lst [])))(hp:∀i acc H2,i≤xs.length->Pv i acc H2->SqT K H2 a xs∧H2 l=some (.lst acc)∧acc.length<sizeLine)
  (hs:∀i x acc H2 (Kc:VK),xs[i]? = some x->Pv i acc H2->(∀y H4,H4 l=some (.lst acc)->Pv (i+1) (acc++[y]) (upd H4 l (.lst (acc++[y])))->Kc y H4)->te (some x::fvs fv σ) H2 Kc) (hd:∀acc H2,Pv xs.length acc H2->Qp H2) :
  ∃W:Nat->Nat->List V->Hp->Prop,(∃m,W 0 m [] (upd H1 l (.lst [])))∧∀i m acc H2,W i m acc H2 ->
   H2 l=some (.lst acc)∧acc.length<sizeLine∧(((Itt K a).stop i H2∧Qp H2)∨((Itt K a).go i H2∧∀x H3,(Itt K a).yld i H2 x H3->te (some x::fvs fv σ) H3 fun y H4=>H4 l=some (.lst acc)∧∃m',m'<m∧W (i+1) m' (acc++[y]) (upd H4 l (.lst (acc++[y]))))):=by
 refine⟨fun i m acc H2=>m=xs.length - i∧i≤xs.length∧Pv i acc H2,⟨xs.length,by simp,Nat.zero_le _,h0⟩,?_⟩;rintro i m acc H2 ⟨rfl,hi,p⟩;obtain⟨q1,q2,q3⟩:=hp i acc H2 hi p;refine⟨q2,q3,?_⟩
 by_cases hlt:i<xs.length
 ·refine .inr ⟨⟨xs,xs[i],q1,List.getElem?_eq_getElem hlt⟩,fun x H3 y=>?_⟩
  obtain⟨e1,e2⟩:=y;subst e1;exact hs i x acc _ _ (e2 xs q1) p fun y H4 z1 z2=>⟨z1,xs.length - (i+1),by omega,rfl,hlt,z2⟩
 ·have e:i=xs.length:=by omega
  subst e;exact .inl ⟨⟨xs,q1,Nat.le_refl _⟩,hd acc H2 p⟩
theorem tW{K:W.Frag}{a:Addr}{xs:List V}{fv:List (Str×Nat)}{te:TE}{σ:St}{H1:Hp}{Q:VK}(hL:SqT K H1 a xs)(hlen:xs.length<1000)(R:Nat->V->Hp->Prop)(hR:∀i v H H',SameT H H'->R i v H->R i v H')
  (hs:∀i x H2 (Kc:VK),xs[i]? = some x->Same H1 H2->(∀y H4,Same H2 H4->R i y H4->Kc y H4)->te (some x::fvs fv σ) H2 Kc)
  (hd:∀l ys H',H1 l=none->Same H1 H'->H' l=some (.lst ys)->ys.length=xs.length->(∀i y,ys[i]? = some y->R i y H')->Q (.ref l) H') :
  nK (Itt K a) fv te σ H1 Q:=by
 intro l hl;refine rR (K:=K) (a:=a) (xs:=xs) (l:=l) (fv:=fv) (Qp:=fun H2=>Q (.ref l) H2) (fun i acc H2=>acc.length=i∧Same H1 H2∧H2 l=some (.lst acc)∧∀j y,acc[j]? = some y->R j y H2)
  ⟨rfl,Same.new hl,upd_same,fun j y h=>by simp at h⟩ ?_ ?_ ?_
 ·rintro i acc H2 hi ⟨e1,sm,e3,_⟩
  exact⟨iH hL sm,e3,aT (by omega)⟩
 ·rintro i x acc H2 Kc hx ⟨e1,sm,e3,hr⟩ kk
  refine hs i x H2 Kc hx sm fun y H4 s4 ry=>kk y H4 (s4 _ _ e3) ⟨by simp[e1],(sm.trans s4).upd hl,upd_same,fun j z hz=>?_⟩;have t4:=SameT.upd (ys:=acc++[y]) (s4 _ _ e3);rcases Nat.lt_trichotomy j acc.length with h|h|h
  ·rw[List.getElem?_append_left h]at hz
   exact hR _ _ _ _ (s4.t.trans t4) (hr j z hz)
  ·subst h
   rw[List.getElem?_append_right (Nat.le_refl _),Nat.sub_self]at hz;cases hz;rw[e1];exact hR _ _ _ _ t4 ry
  ·rw[List.getElem?_eq_none (by simp;omega)]at hz
   cases hz
 ·rintro acc H2 ⟨e1,sm,e3,hr⟩
  exact hd l acc H2 hl sm e3 e1 hr
end L2
namespace Sp11
open PySem PySem.Spec L2 Mth Sp1 Sp2
inductive zD (C:Addr) (vs:List V) (H:Hp) (Q:VK) (E:XK):Prop
 | mk:∀(a b:Int) (n:Nat),(vs = [.int a,.int b])->((au a≤n∧au b≤n∧n≤4500))->((b=0->E (.ref C) none H))->((b≠0->∀(p:Addr) (t u:Int),ze a b t u->au t≤n->au u≤n->H p=none->Q (.ref p) (upd H p (.tup [.int t,.int u]))))->zD C vs H Q E
structure Cp(H:Hp)(p:Addr)(a b:Int)(n:Nat):Prop where
 at_:H p=some (.tup [.int a,.int b])
 low:AW a b
 ba:au a≤n
 bb:au b≤n
theorem Cp.mono{H H':Hp}{p:Addr}{a b:Int}{n:Nat}(f:Cp H p a b n)(s:Same H H'):Cp H' p a b n:=⟨s _ _ f.at_,f.low,f.ba,f.bb⟩
inductive Ch (num den:Int->Int->Int->Int->Int) (vs:List V) (H:Hp) (Q:VK) (x_3:XK):Prop
 | mk:∀(p q:Addr) (a b c d:Int) (n:Nat),(vs = [.ref p,.ref q])->(Cp H p a b n)->(Cp H q c d n)->(n≤2200)->(den a b c d≠0)->(∀(r:Addr) (t u:Int) (H':Hp),ze (num a b c d) (den a b c d) t u->Cp H' r t u (2*n+1)->Same H H'->Q (.ref r) H')->Ch num den vs H Q x_3
end Sp11
namespace Sp11
open PySem PySem.Spec L2 Mth Sp1 Sp2
abbrev Crn:=List (Addr×Int×Int)
end Sp11
namespace Sp11
open PySem PySem.Spec L2 Mth Sp1 Sp2
theorem pW{m n u v:Int}{i j:Nat}(hn:0<n)(f:ze m n u v)(hm:au m≤i)(hj:au n≤j):au u≤i∧au v≤j:=by
 have hg:=gt (a:=m) (b:=n) (by omega);obtain⟨e1,e2⟩:=l6 (by omega) f (gu hn);subst e1 e2;exact⟨j4 hg hm,j4 hg hj⟩
end Sp11
namespace Hd
open PySem PySem.W PySem.Spec L2
def tj(o:Obj):Bool:=match o.data with
 | .freed=>false
 | _=>true
def pG:Nat->List Obj->Frag
 | _,[]=>[]
 | n,a::r=>bif tj a then (n,a)::pG (n+1) r else pG (n+1) r
def frag(h:Heap):Frag:=pG 0 h.objs.toList
def fnFact(K:Frag)(x:Str):Option (Arguments×List Stmt×Scope×Value):=match nsIn K mainGlobals x with
 | some (some (.ref f))=>(match K.lookup f with
  | some ⟨_,_,.func fd,_⟩=>(match fd.body,fd.closure with
   | .stmts b,[]=>bif (fd.name == x && (fd.qualname == x && (Nat.beq fd.globals mainGlobals && (Nat.beq fd.builtins builtinsNs && codeIn K fd.code x)))) then some (fd.params,b,fd.scope,fd.defaults) else none
   | _,_=>none)
  | _=>none)
 | _=>none
theorem eV{K:Frag}{x:Str}{a:Arguments}{b:List Stmt}{sc:Scope}{dv:Value}(e:fnFact K x=some (a,b,sc,dv)) :
  ∃(f:Addr) (oc:Value) (od:Option Addr) (kV doc pm:Value) (an:Option Addr) (cdv ct:Value) (osl:Array (Option Value)),
   nsIn K mainGlobals x=some (some (.ref f))∧K.lookup f=some ⟨oc,od,.func (fnOf x x a b sc dv kV doc pm an cdv ct),osl⟩∧codeIn K cdv x=true∧keepIn K (.ref f)=true:=by
 unfold fnFact at e
 split at e
 ·rename_i f hf
  split at e
  ·rename_i oc od fd osl hl
   split at e
   ·rename_i b' hb hc
    cases hq:(fd.name == x && (fd.qualname == x && (Nat.beq fd.globals mainGlobals && (Nat.beq fd.builtins builtinsNs && codeIn K fd.code x)))) with
    | false=>rw[hq]at e;cases e
    | true =>
     rw[hq]at e;simp only[Bool.and_eq_true]at hq;obtain⟨h1,h2,h3,h4,h5⟩:=hq
     replace h1:=eq_of_beq h1
     replace h2:=eq_of_beq h2
     replace h3:=Nat.eq_of_beq_eq_true h3
     replace h4:=Nat.eq_of_beq_eq_true h4
     simp only[cond_true,Option.some.injEq,Prod.mk.injEq]at e;obtain⟨e1,e2,e3,e4⟩:=e;obtain⟨n,qn,ps,bd,s,gl,cl,df,kw,dc,pm,an,cd,ct,bl⟩:=fd;simp only at h1 h2 h3 h4 h5 e1 e2 e3 e4 hb hc;subst h1 h2 h3 h4 e1 e2 e3 e4 hb hc;refine⟨f,oc,od,kw,dc,pm,an,cd,ct,osl,hf,hl,h5,?_⟩;unfold keepIn;dsimp only;rw[hl]
   ·cases e
  ·cases e
 ·cases e
theorem df_of{K:Frag}{mg:Str->Option Value}{h:Heap}{x:Str}{st:Stmt}(X:K.In h)(G:h.Ns mainGlobals mg)(e:fnFact K x=some (a8 st,aJ st,ai st,.none)):Df K mg x st:=by
 obtain⟨f,oc,od,kV,doc,pm,an,cdv,ct,osl,h1,h2,h3,h4⟩:=eV e;exact wM X G h1 h2 h3 h4
def bareV:Value->V
 | .none=>.non
 | .bool b=>.bl b
 | .int i _=>.int i
 | .str x _=>.str x
 | .bytes b _=>.byt b
 | .float b _=>.flt b
 | .ref a=>.ref a
 | .type n=>.ty n
 | _=>.ty "no plain value"
def gI:Value->Bool
 | .ellipsis | .notImplemented | .builtin _=>false
 | _=>true
theorem qj:∀{v:Value},gI v=true->aS (bareV v) v
 | .none,_=>rfl
 | .bool _,_=>rfl
 | .int _ t,_=>⟨t,rfl⟩
 | .str _ t,_=>⟨t,rfl⟩
 | .bytes _ t,_=>⟨t,rfl⟩
 | .float _ t,_=>⟨t,rfl⟩
 | .ref _,_=>rfl
 | .type _,_=>rfl
 | .ellipsis,h=>by cases h
 | .notImplemented,h=>by cases h
 | .builtin _,h=>by cases h
theorem gE:∀{l:List Value},l.all gI=true->aP (l.map bareV) l
 | [],_=>.nil
 | _::_,h=>by
  rw[List.all_cons,Bool.and_eq_true]at h;exact .cons (qj h.1) (gE h.2)
def qC(K:Frag)(v:Value):Option (List V):=match v with
 | .ref a=>(match K.lookup a with
  | some ⟨_,_,.seq its _,_⟩=>bif its.toList.all gI then some (its.toList.map bareV) else none
  | _=>none)
 | _=>none
theorem mS{K:Frag}{v:Value}{ds:List V}(e:qC K v=some ds):∃(a:Addr) (o:Obj) (its:List Value) (n:Nat),v = .ref a∧K.lookup a=some o∧o.data = .seq its.toArray n∧aP ds its:=by
 unfold qC at e
 split at e
 ·rename_i a
  split at e
  ·rename_i oc od its n osl hl
   cases hq:its.toList.all gI with
   | false=>rw[hq]at e;cases e
   | true =>
    rw[hq]at e;cases e;exact⟨a,_,its.toList,n,rfl,hl,rfl,gE hq⟩
  ·cases e
 ·cases e
def fnFactD(K:Frag)(x:Str):Option (Arguments×List Stmt×Scope×List V):=match fnFact K x with
 | some (a,b,s,dv)=>(match qC K dv with
  | some ds=>some (a,b,s,ds)
  | none=>none)
 | none=>none
theorem dfd_of{K:Frag}{mg:Str->Option Value}{h:Heap}{x:Str}{st:Stmt}{ds:List V}(X:K.In h)(G:h.Ns mainGlobals mg)(e:fnFactD K x=some (a8 st,aJ st,ai st,ds)):Dc K mg x st ds:=by
 unfold fnFactD at e
 split at e
 ·rename_i a b s dv hf
  split at e
  ·rename_i ds' hs
   simp only[Option.some.injEq,Prod.mk.injEq]at e;obtain⟨e1,e2,e3,e4⟩:=e;subst e1 e2 e3 e4;obtain⟨f,oc,od,kV,doc,pm,an,cdv,ct,osl,h1,h2,h3,h4⟩:=eV hf;obtain⟨T,oT,its,n,rfl,hl,hd,hv⟩:=mS hs;exact vC X G h1 h2 h3 h4 hl hd hv
  ·cases e
 ·cases e
def cls(K:Frag)(x:Str):Addr:=match nsIn K mainGlobals x with
 | some (some (.ref C))=>C
 | _=>0
def excFact(K:Frag)(x:Str):Bool:=match nsIn K mainGlobals x with
 | some (some (.ref C))=>excIn K C [.type "ValueError",.type "Exception",.type "BaseException",.type "object"] "ValueError.__new__"
 | _=>false
theorem exc_of{K:Frag}{mg:Str->Option Value}{h:Heap}{x:Str}(X:K.In h)(G:h.Ns mainGlobals mg)(e:excFact K x=true):AS K mg x (cls K x):=by
 unfold excFact at e
 split at e
 ·rename_i C hC
  have:cls K x=C:=by unfold cls;rw[hC]
  rw[this];exact vx X G hC e
 ·cases e
def tupFact(K:Frag)(x:Str):Option (List V):=match nsIn K mainGlobals x with
 | some (some (.ref a))=>(match K.lookup a with
  | some ⟨.type "tuple",_,.seq its _,_⟩=>bif its.toList.all gI then some (its.toList.map bareV) else none
  | _=>none)
 | _=>none
theorem tup_of{K:Frag}{x:Str}{ds:List V}(e:tupFact K x=some ds):∃(a:Addr) (od:Option Addr) (its:List Value) (n:Nat) (osl:Array (Option Value)),nsIn K mainGlobals x=some (some (.ref a))∧K.lookup a=some ⟨.type "tuple",od,.seq its.toArray n,osl⟩∧aP ds its:=by
 unfold tupFact at e
 split at e
 ·rename_i a ha
  split at e
  ·rename_i od its n osl hl
   cases hq:its.toList.all gI with
   | false=>rw[hq]at e;cases e
   | true =>
    rw[hq]at e;cases e;exact⟨a,od,its.toList,n,osl,ha,hl,gE hq⟩
  ·cases e
 ·cases e
def noFact(K:Frag)(x:Str):Bool:=match nsIn K mainGlobals x with
 | some none=>true
 | _=>false
theorem no_of{K:Frag}{x:Str}(e:noFact K x=true):nsIn K mainGlobals x=some none:=by
 unfold noFact at e
 split at e
 ·rename_i h
  exact h
 ·cases e
theorem at_map{α β:Type}{f g:α->β}{l:List α}(e:l.map f=l.map g)(i:Nat){a:α}(h:l[i]? = some a):f a=g a:=by
 have q:=congrArg (fun l:List β=>l[i]?) e;simp only[List.getElem?_map,h,Option.map_some,Option.some.injEq]at q;exact q
theorem at_all{α:Type}{f:α->Bool}{l:List α}(e:l.all f=true)(i:Nat){a:α}(h:l[i]? = some a):f a=true :=
 List.all_eq_true.mp e a (List.mem_of_getElem? h)
theorem at_two{α:Type}{l m:List α}(e:l=m)(i:Nat){a b:α}(h:l[i]? = some a)(h':m[i]? = some b):a=b:=by
 subst e;rw[h]at h';exact Option.some.inj h'
end Hd
namespace Hd
open PySem PySem.W PySem.Spec L2
theorem vals_sz{ds:List V}{its:List Value}(u:aP ds its)(h:ds.length≤100):its.toArray.size≤100:=by
 rw[List.size_toArray,<- u.length];exact h
end Hd
namespace L2
open PySem PySem.Spec PyProof.Rows
end L2
namespace Hd
open PySem PySem.W PySem.Spec L2
theorem pair2{α β:Type _}{a a':α}{b b':β}(h:a=a')(g:b=b'):(a,b)=(a',b'):=by rw[h,g]
end Hd
namespace PySem
namespace F
end F
section
variable {prog:Program} {w:World} {A:Around} {E:Value->Shared->Prop}
end
end PySem
namespace L2
open PySem PySem.Spec PyProof.Rows
end L2
namespace L2
open PySem PySem.Spec PyProof.Rows
structure AN(K:W.Frag)(mg:Str->Option Value)(x:Str)(C:Addr):Prop where
 bound:mg x=some (.ref C)
 cls:CQ K C
 makes:W.makesIn K C=true
 kp:W.keepIn K (.ref C)=true
structure Dn(K:W.Frag)(C:Addr)(m q:Str)(st:Stmt):Prop where
 ex:∃(f:Addr) (oc:Value) (od:Option Addr) (kV doc pm:Value) (an:Option Addr) (cdv ct:Value) (osl:Array (Option Value)),
  Dm K C m f∧K.lookup f=some ⟨oc,od,.func (W.fnOf m q (a8 st) (aJ st) (ai st) .none kV doc pm an cdv ct),osl⟩∧W.codeIn K cdv q=true
structure Mt(P:Program)(w:World)(K:W.Frag)(mg:Str->Option Value)(base:Heap)(C:Addr)(m:Str)(ps:List Str)(k:Nat)(sp:Sp):Prop where
 ex:∃(f:Addr) (fd:FuncData),Dm K C m f∧ej K fd ps []∧zU P w K mg base (CXE P w) k f fd ps sp
theorem Dn.mt{P:Program}{w:World}{K:W.Frag}{mg:Str->Option Value}{base:Heap}{C:Addr}{m q:Str}{st:Stmt}{N ps:List Str}{k:Nat}{sp:Sp}(D:Dn K C m q st)(S:xo N ps (ai st))
  (hbind:∀(kV doc pm:Value) (an:Option Addr) (cdv ct:Value) (us:List Value),us.length=ps.length->bindArgs (W.fnOf m q (a8 st) (aJ st) (ai st) .none kV doc pm an cdv ct) ⟨us,[]⟩=pure (ps.zip us))
  (len:∀vs H Q E,sp vs H Q E->vs.length=ps.length)
  (hbody:∀(f:Addr) (cdv:Value) (A:Around) (outer:List Env) (s:Shared) (H:Hp) (vs:List V) (Q:VK) (E:XK),xL k (A.deeper (envOfC q (ai st) s.heap.objs.size f cdv))->sp vs H Q E ->
   ∃t,PSs (a7 (CXE P w) P w K mg base N q (ai st) f cdv A outer s H E) (aJ st) t∧t { nx:=fun _ H'=>Q .non H',rt:=Q } (d8 N vs) H):Mt P w K mg base C m ps (k+1) sp:=by
 obtain⟨f,oc,od,kV,doc,pm,an,cdv,ct,osl,hm,lk,hcd⟩:=D.ex;exact⟨⟨f,_,hm,.all (hbind kV doc pm an cdv ct),ma lk hcd S len fun A outer s H vs Q E hr hsp=>hbody f cdv A outer s H vs Q E hr hsp⟩⟩
section
variable {X:Cx} {C:Addr} {m:Str} {ps:List Str} {k:Nat} {sp:Sp} {o e:Expr} {es:List Expr} {ta:TE} {t:TA} {apos pos:Pos}
theorem uV{st:Stmt}{t:TS}(h:PS X.nox st t):PS X st t:=fun pins s σ H D I hw =>
 wpAny_mono (h pins s σ H D (I.wish _) hw) (fun _ _ q=>q.unwish) fun _ _ z=>False.elim z
end
section
variable {P:Program} {w:World} {K:W.Frag} {mg:Str->Option Value} {base:Heap} {N:List Str} {qual:Str} {scope:Scope} {f:Addr} {cdv:Value} {A:Around} {outer:List Env} {s₀:Shared} {H₀:Hp} {E:XK}
 {C:Addr} {m:Str} {ps:List Str} {k:Nat} {sp:Sp} {o e:Expr} {es:List Expr} {ta:TE} {t:TA} {apos pos:Pos}
end
section
variable {X:Cx} {x:Str} {i:Nat} {C:Addr} {m:Str} {ps:List Str} {k:Nat} {sp:Sp} {o e:Expr} {es:List Expr} {ta:TE} {t:TA} {px apos cpos pos:Pos}
end
section
variable {X:Cx}
end
end L2
namespace Hd
open PySem PySem.W PySem.Spec L2
def ownFact(K:Frag)(x:Str):Bool:=match nsIn K mainGlobals x with
 | some (some (.ref C))=>plainGet K C Str.empty && (hasDictIn K C && (plainOver K C && (makesIn K C && keepIn K (.ref C))))
 | _=>false
theorem own_of{K:Frag}{mg:Str->Option Value}{h:Heap}{x:Str}(X:K.In h)(G:h.Ns mainGlobals mg)(e:ownFact K x=true)(sa:findIn K (.ref (cls K x)) "__setattr__" = some (some (.builtin "object.__setattr__"))):AN K mg x (cls K x):=by
 unfold ownFact at e
 split at e
 ·rename_i C hC
  have hc:cls K x=C:=by unfold cls;rw[hC]
  rw[hc]at sa ⊢;simp only[Bool.and_eq_true]at e;obtain⟨e1,e2,e3,e4,e5⟩:=e;exact⟨mg_of X G hC,⟨e1,e2,e3,sa⟩,e4,e5⟩
 ·cases e
def mtFact(K:Frag)(x m q:Str):Option (Arguments×List Stmt×Scope×Value):=match findIn K (.ref (cls K x)) m with
 | some (some (.ref f))=>(match K.lookup f with
  | some ⟨.type n,_,.func fd,_⟩=>(match fd.body,fd.closure with
   | .stmts b,[]=>bif (n == "function" && (fd.name == m && (fd.qualname == q && (Nat.beq fd.globals mainGlobals && (Nat.beq fd.builtins builtinsNs && codeIn K fd.code q))))) then some (fd.params,b,fd.scope,fd.defaults) else none
   | _,_=>none)
  | _=>none)
 | _=>none
theorem dfm_of{K:Frag}{x m q:Str}{st:Stmt}(e:mtFact K x m q=some (a8 st,aJ st,ai st,.none)):Dn K (cls K x) m q st:=by
 unfold mtFact at e
 split at e
 ·rename_i f hf
  split at e
  ·rename_i n od fd osl hl
   split at e
   ·rename_i b' hb hc
    cases hq:(n == "function" && (fd.name == m && (fd.qualname == q && (Nat.beq fd.globals mainGlobals && (Nat.beq fd.builtins builtinsNs && codeIn K fd.code q))))) with
    | false=>rw[hq]at e;cases e
    | true =>
     rw[hq]at e;simp only[Bool.and_eq_true]at hq;obtain⟨h0,h1,h2,h3,h4,h5⟩:=hq
     replace h0:=eq_of_beq h0
     replace h1:=eq_of_beq h1
     replace h2:=eq_of_beq h2
     replace h3:=Nat.eq_of_beq_eq_true h3
     replace h4:=Nat.eq_of_beq_eq_true h4
     simp only[cond_true,Option.some.injEq,Prod.mk.injEq]at e;obtain⟨e1,e2,e3,e4⟩:=e;obtain⟨n',qn,ps,bd,s,gl,cl,df,kw,dc,pm,an,cd,ct,bl⟩:=fd;simp only at h1 h2 h3 h4 h5 e1 e2 e3 e4 hb hc;subst h0 h1 h2 h3 h4 e2 hb hc e4;refine⟨⟨f,.type "function",od,kw,dc,pm,an,cd,ct,osl,⟨hf,?_,?_⟩,?_,h5⟩⟩
     ·unfold isFn typeIn
      dsimp only;rw[hl];exact beq_self_eq_true _
     ·unfold keepIn
      dsimp only;rw[hl]
     ·rw[hl,<- e1,<- e3]
   ·cases e
  ·cases e
 ·cases e
end Hd
namespace L2
open PySem PySem.Spec PyProof.Rows
section
variable {X:Cx}
theorem oy:typeLookup (.type "list") (dunderI "add")=pure (some (.builtin "list.__iadd__")):=by rw[typeLookup_type,builtinLookup_eq_fast];kernel_rfl
theorem mK{M:Model}{A:Around}{E:Value->Shared->Prop}{s:Shared}{a b:Value}{Q:Value->Shared->Prop}(ha:s.TypeIs a "list")(hb:s.TypeIs b "list")
  (hc:wpAny M A (call (.builtin "list.__iadd__") [a,b]) Q E s):wpAny M A (inplaceOp .Add a b) Q E s:=by
 unfold inplaceOp;refine wpAny_holding ?_;have hs:isSeqSlot (some (.builtin "list.__iadd__"))=true:=by decide +kernel
 have hfi:fillsInplaceSlot (.type "list") "add" (Operator.Add == .Add)=pure false:=by
  unfold fillsInplaceSlot;show(typeLookup (.type "list") (dunderI "add") >>= fun fi=>pure (fi.isSome && !isSeqSlot fi))=pure false;rw[oy,pure_bind,hs];rfl
 refine wpAny_bind (wpAny_typeOf ha (wpAny_bind (wpAny_of_eq hfi ?_)));show wpAny M A (if false=true then _ else _) Q E s
 rw[if_neg Bool.false_ne_true];refine wpAny_bind (wpAny_binaryOp1_none (nm:="add") ha hb PySem.noFill_list_add ?_);refine wpAny_bind (wpAny_of_eq (PySem.seqSlot_of oy hs) ?_);exact wpAny_bind (wpAny_rule hc)
def uU:TIp:=fun x y H Q=>∃l b xs zs,x = .ref l∧y = .ref b∧H l=some (.lst xs)∧H b=some (.lst zs)∧xs.length+zs.length≤sizeLine∧∀H',BP H H' l xs (xs++zs)->Q (.ref l) H'
theorem oB:PIp X .Add uU:=by
 intro pins s σ H x y v u Q I rx ry h;obtain⟨l,b,xs,zs,rfl,rfl,hH,hB,hz,q⟩:=h;cases rx;cases ry;obtain⟨z,its,n,r,hl,e⟩:=I.lstM hH;obtain⟨z2,its2,n2,r2,hl2,e2⟩:=I.lstM hB;have hsz:its.toArray.size+its2.toArray.size≤sizeLine:=by rw[List.size_toArray,List.size_toArray];omega
 have hlong:¬(!its.toArray.isEmpty && Builtin.List.listTooLong (its.toArray.size+its2.toArray.size))=true:=by
  rw[qR hsz,Bool.and_false];exact Bool.false_ne_true
 refine mK ⟨_,e,rfl⟩ ⟨_,e2,rfl⟩ (call_meets F.slot_list_iadd ⟨_,e,rfl⟩ F.entry_list_iadd (F.args_list_iadd_2 _ _)
  (AutoSeq1.list___iadd___list_list_0 l its.toArray n b its2.toArray n2 hlong (by rw[List.size_toArray];omega) (by omega)) ⟨e,e2,?_⟩)
 refine⟨.ref l,_,I.lset (its':=its++its2) hH e (by simp) (r.append r2) ?_,rfl,q _ (.mk' hH)⟩;rw[List.length_append];omega
theorem gk{K:W.Frag}{e:Expr}{f:Str}{ta:TE}{pos:Pos}(h:X.K=K)(he:PE X e ta)(hb:attributeBase e f X.env (eval e X.env)=eval e X.env):PE X (.Attribute e f pos) (vY K ta f):=h▸dF he hb
variable {C:Addr} {ps:List Str} {k:Nat} {sp:Sp} {pos:Pos} {e:Expr} {es:List Expr} {t:TA}
theorem wf{x:Str}{p:Pos}(O:AN X.K X.mg x C)(F:Mt X.prog X.w X.K X.mg X.base C "__init__" ps k sp)(hr:xL (k+1) X.A)(hg:Gl X x)(ha:PA X (e::es) t)(hdb:(x == ("__debug__" : Str))=false:=by decide)(he:starEach (e::es) X.env=(false,eval e X.env)::starEach es X.env:=by rfl)(hpl:(backTo pos (starEach es X.env)).any (·.1)=false:=by rfl) :
  PE X (.Call (.Name x p) (e::es) [] pos) (uk C sp [] E0 t):=by
 obtain⟨f,fd,hm,hb,G⟩:=F.ex;exact sN ⟨O.makes,hm.at_,hm.fn,O.kp⟩ G hr hg O.bound hb .nil jO ha hdb he hpl
end
end L2
namespace L2
open PySem PySem.Spec PyProof.Rows
section
variable {X:Cx}
def PsL(H:Hp)(ps:List (Addr×Int×Int)):Prop:=∀q∈ps,H q.1=some (.tup [.int q.2.1,.int q.2.2])
def ng(ps:List (Addr×Int×Int))(i j:Int):Bool:=ps.any fun q=>decide (q.2.1=i) && decide (q.2.2=j)
inductive C7 (K:W.Frag) (neg:Bool) (x:V) (y:V) (H:Hp) (Q:VK):Prop
 | mk:∀(p a:Addr) (ps:List (Addr×Int×Int)) (i j:Int),(x = .ref a)->(y = .ref p)->(SqL K H p (ps.map fun q=>V.ref q.1))->(PsL H ps)->(H a=some (.tup [.int i,.int j]))->(Q (.bl (if neg then !(ng ps i j) else ng ps i j)) H)->C7 K neg x y H Q
def kI(ps:List (Addr×Int×Int))(i j:Int)(w:Value):Bool:=match w with
 | .ref a=>ps.any fun q=>decide (q.1=a) && (decide (q.2.1=i) && decide (q.2.2=j))
 | _=>false
theorem vD(a b c d:Int):deq (.tup [.int a,.int b]) (.tup [.int c,.int d])=(decide (a=c) && decide (b=d)):=by
 simp[deq,ib];rfl
theorem oq{s:Shared}{pins:List (Addr×Obj)}{σ:St}{H:Hp}{ps:List (Addr×Int×Int)}{i j:Int}{a:Addr}{A:Around}(hu:A.units+3<cLine)(I:xq X pins σ H s)(P:PsL H ps)(e:H a=some (.tup [.int i,.int j])){its:List Value}(r:aP (ps.map fun q=>V.ref q.1) its):(∀w∈its,SeqAt.EqAt A s w (.ref a) (kI ps i j w))∧its.any (kI ps i j)=ng ps i j:=by
 have ev:∀w∈its,∃q∈ps,w = .ref q.1:=fun w hw=>by
  obtain⟨k,hk,e⟩:=List.mem_iff_getElem.mp hw;have hl:=r.length;rw[List.length_map]at hl;have hk2:k<ps.length:=by omega
  obtain⟨u,hu,ru⟩:=r.get (i:=k) (x:=V.ref ps[k].1) (by rw[List.getElem?_map,List.getElem?_eq_getElem hk2];rfl);rw[List.getElem?_eq_getElem hk,e]at hu;cases hu;exact⟨_,List.getElem_mem hk2,ru⟩
 have back:∀q∈ps,Value.ref q.1∈its:=fun q hq=>by
  obtain⟨k,hk,e⟩:=List.mem_iff_getElem.mp hq;obtain⟨u,hu,ru⟩:=r.get (i:=k) (x:=V.ref q.1) (by rw[List.getElem?_map,List.getElem?_eq_getElem hk,e];rfl);have:=List.mem_of_getElem? hu;cases ru;exact this
 have val:∀q∈ps,kI ps i j (.ref q.1)=(decide (q.2.1=i) && decide (q.2.2=j)):=fun q hq=>by
  show(ps.any fun q'=>decide (q'.1=q.1) && (decide (q'.2.1=i) && decide (q'.2.2=j)))=_;rw[Bool.eq_iff_iff,List.any_eq_true];constructor
  ·rintro⟨q',hq',h⟩
   rw[Bool.and_eq_true,decide_eq_true_eq]at h;have e1:=P q hq;have e2:=P q' hq';rw[h.1,e1]at e2;injection e2 with e2;injection e2 with e2;injection e2 with x1 x2;injection x2 with x2 _;injection x1 with x1;injection x2 with x2;rw[x1,x2];exact h.2
  ·intro h
   exact⟨q,hq,by rw[h];simp⟩
 refine⟨fun w hw=>?_,?_⟩
 ·obtain⟨q,hq,rfl⟩:=ev w hw
  rw[val q hq,<- vD];exact(Rp.t2 (n:=1) (P q hq) .int .int).eqAt (Rp.t2 (n:=1) e .int .int) I rfl rfl (by omega)
 ·rw[Bool.eq_iff_iff,ng,List.any_eq_true,List.any_eq_true]
  constructor
  ·rintro⟨w,hw,h⟩
   obtain⟨q,hq,rfl⟩:=ev w hw;rw[val q hq]at h;exact⟨q,hq,h⟩
  ·rintro⟨q,hq,h⟩
   exact⟨_,back q hq,by rw[val q hq];exact h⟩
theorem va(hu:X.A.units+10<cLine):OpR X (compareOp .In) (C7 X.K false):=by
 intro pins s σ H x y v u Q I rx ry h;obtain⟨p,a,ps,i,j,rfl,rfl,hq,P,e,q⟩:=h;cases ry;cases rx;obtain⟨its,r,pl,hz⟩:=I.list hq;obtain⟨m1,m2⟩:=oq (A:=X.A.in1) (by show X.A.units+1+3<cLine;omega) I P e r;refine SeqAt.in_listAt (kI ps i j) pl.isList (fun w hw=>m1 w (by simpa using hw)) ⟨.bl _,H,I,rfl,?_⟩;rw[show its.toArray.any (kI ps i j)=its.any (kI ps i j) by simp,m2];exact q
theorem pA(hu:X.A.units+10<cLine):OpR X (compareOp .NotIn) (C7 X.K true):=by
 intro pins s σ H x y v u Q I rx ry h;obtain⟨p,a,ps,i,j,rfl,rfl,hq,P,e,q⟩:=h;cases ry;cases rx;obtain⟨its,r,pl,hz⟩:=I.list hq;obtain⟨m1,m2⟩:=oq (A:=X.A.in1) (by show X.A.units+1+3<cLine;omega) I P e r;refine SeqAt.notIn_listAt (kI ps i j) pl.isList (fun w hw=>m1 w (by simpa using hw)) ⟨.bl _,H,I,rfl,?_⟩;rw[show its.toArray.any (kI ps i j)=its.any (kI ps i j) by simp,m2];exact q
end
end L2
namespace L2
open PySem PySem.Spec PyProof.Rows
theorem mI(val:Nat->Int):∀k,argBest (fun i j=>decide (val i<val j)) k≤k∧∀i,i≤k->val (argBest (fun i j=>decide (val i<val j)) k)≤val i
 | 0=>⟨Nat.le_refl _,fun i hi=>by rw[Nat.le_zero.mp hi];exact Int.le_refl _⟩
 | k+1=>by
  obtain⟨h1,h2⟩:=mI val k;unfold argBest
  split
  ·rename_i h
   have h:=of_decide_eq_true h;refine⟨Nat.le_refl _,fun i hi=>?_⟩;rcases Nat.lt_or_ge k i with z|z
   ·rw[show i=k+1 by omega]
    exact Int.le_refl _
   ·have:=h2 i z
    omega
  ·rename_i h
   have h:¬val (k+1)<val (argBest (fun i j=>decide (val i<val j)) k):=fun z=>h (decide_eq_true z);refine⟨by omega,fun i hi=>?_⟩;rcases Nat.lt_or_ge k i with z|z
   ·rw[show i=k+1 by omega]
    omega
   ·exact h2 i z
section
variable {X:Cx}
inductive CA (K:W.Frag) (xs:List V) (H:Hp) (Q:VK):Prop
 | mk:∀(l:Addr) (ns:List Int),(xs = [.ref l])->(SqL K H l (ns.map V.int))->(0<ns.length)->(∀m,m∈ns->(∀x∈ns,m≤x)->Q (.int m) H)->CA K xs H Q
theorem qg(hc:X.calm=true):eY X (.builtin "min") (CA X.K):=by
 intro pins s σ H xs us Q I r h;obtain⟨l,ns,rfl,hq,h0,q⟩:=h;obtain⟨u,rfl,ru⟩:=fR r;have ru:u=Value.ref l:=ru;subst ru;obtain⟨its,rv,pl,hz⟩:=I.list hq;have hls:l<s.heap.objs.size:=by obtain⟨_,e,_⟩:=pl.isList;exact Heap.lt_size e
 have len:its.length=ns.length:=by have:=rv.length;rw[List.length_map]at this;exact this.symm
 have hval:∀(i:Nat) (v:Value),its.toArray[i]? = some v->∃t,v = .int (ns.getD i 0) t:=fun i v e=>by
  have e:its[i]? = some v:=by simpa using e
  have:i<its.length:=(List.getElem?_eq_some_iff.mp e).1;have h2:(ns.map V.int)[i]? = some (.int (ns.getD i 0)):=by
   rw[List.getElem?_map,List.getD_eq_getElem?_getD,List.getElem?_eq_getElem (by omega)];rfl
  obtain⟨u,hu,ru⟩:=rv.get h2;rw[e]at hu;cases hu;exact ru
 have up:∀o:Obj,s.heap.objs.size<(s.heap.push o).objs.size:=fun o=>by rw[Heap.size_push];exact Nat.lt_succ_self _
 refine call_min_walk (wpAny_pyIter_list pl.isList ?_);have W:=Walks.list (prog:=X.prog) (w:=X.w) (A:=X.A.in1) (I.ok.hd hc) s.heap.objs.size l (Nat.ne_of_lt hls) its.toArray;refine⟨s.heap.objs.size,_,_,_,_,_,_,rfl,W,⟨⟨_,Heap.get?_push_size _ rfl,rfl,rfl⟩,pl.isList.at fun o e=>Heap.get?_push_of_some _ e⟩,fun b hb=>?_,by rw[List.size_toArray];omega,CmpOf.ints_lt (fun i=>ns.getD i 0) hval,fun v h' tk hP hk=>?_⟩
 ·rcases List.mem_cons.mp hb with z|z
  ·rw[z];exact up _
  ·rw[List.mem_singleton.mp z];exact Nat.lt_trans hls (up _)
 ·obtain⟨t,rfl⟩:=hval _ _ hP
  obtain⟨a1,a2⟩:=mI (fun i=>ns.getD i 0) (its.toArray.size - 1);generalize argBest (fun i j=>decide (ns.getD i 0<ns.getD j 0)) (its.toArray.size - 1)=b at a1 a2;have sz:its.toArray.size=ns.length:=by rw[List.size_toArray,len]
  rw[sz]at a1 a2;have hb:b<ns.length:=by omega
  have gd:∀i,(hi:i<ns.length)->ns.getD i 0=ns[i]:=fun i hi=>by rw[List.getD_eq_getElem?_getD,List.getElem?_eq_getElem hi];rfl
  refine⟨.int (ns.getD b 0),H,I.kept fun c o e=>hk c o (by rw[List.mem_singleton];exact Nat.ne_of_lt (Heap.lt_size e)) (Heap.get?_push_of_some _ e),⟨t,rfl⟩,q _ ?_ fun x hx=>?_⟩
  ·rw[gd b hb]
   exact List.getElem_mem hb
  ·obtain⟨i,hi,rfl⟩:=List.mem_iff_getElem.mp hx
   have:=a2 i (by omega);rw[gd i hi]at this;exact this
end
end L2
namespace L2
open PySem PySem.Spec PyProof.Rows PySem.W
theorem pL{P:Program}{w:World}{K:W.Frag}{mg mb:Str->Option Value}{k:Nat}{fa a:Addr}{fd:FuncData}{x:Str}{sp:Sp}{s₁:Shared}{vs:List Value}{ns:List Int}{tabs:List Addr}
  (KX:K.In s₁.heap) (hKt:∀p∈tabs,K.lookup p=none) (hT:∀p∈tabs,s₁.heap.get? p=some (tabObj #[])) (hTc:∀p∈tabs,isCodeTable s₁.heap p)
  (hns:s₁.heap.Ns mainGlobals mg) (hb:s₁.heap.Ns builtinsNs mb) (hbb:∀x:Str,x≠"__name__"->mb x=bootBuiltins x) (hlim:s₁.heap.NoLimit) (hg:s₁.gens = #[])
  (ha:s₁.heap.get? a=some { cls:=.type "list",data:=.seq vs.toArray }) (hi:IntsAre vs ns) (hl:ns.length≤sizeLine) (hr:xL k callerA)
  (F:∀base:Heap,K.In base->base.Ns mainGlobals mg->zU P w K mg base CX0 k fa fd [x] sp) (hbind:∀(s:Shared) (u:Value),BindsTo s fd ⟨[u],[]⟩ [(x,u)])
  (hsp:∀H:Hp,SqL K H a (ns.map V.int)->(∀p∈tabs,H p=some (.tbl #[]))->sp [.ref a] H (fun v _=>v = .bl true) fun _ _ _=>False) :
  codeAny (model P w) callerA (.call (.ref fa) ⟨[.ref a],[]⟩) (fun r s'=>r = .ok (.ret (.bool true))∧OldK s₁.heap s'.heap∧s'.os=s₁.os∧AllBare s'.gens) s₁:=by
 have rv:=jH hi;have lenV:=hi.length;have atab:a∉tabs:=fun z=>by rw[hT a z]at ha;cases ha
 have core:∀H:Hp,SqL K H a (ns.map V.int)->(∀p∈tabs,H p=some (.tbl #[]))->HOk P w H s₁.heap->(∀b,H b≠none->b∈tabs∨(b=a∧K.lookup a=none∧∃o xs,H b=some (.frz o (.lst xs)))) ->
   codeAny (model P w) callerA (.call (.ref fa) ⟨[.ref a],[]⟩) (fun r s'=>r = .ok (.ret (.bool true))∧OldK s₁.heap s'.heap∧s'.os=s₁.os∧AllBare s'.gens) s₁:=by
  intro H hS hTb hok hA;have base_of:∀{b:Addr} {o:Obj},s₁.heap.get? b=some o->H b=none->(kJ s₁.heap H).get? b=some o:=fun e n=>rm e n;have noA:∀{b:Addr} {o:Obj} {es:Array DictEntry} {ep:Nat},s₁.heap.get? b=some o->o.data = .dict es ep->H b=none:=fun {b o es ep} e d=>by
   cases q:H b with
   | none=>rfl
   | some u =>
    rcases hA b (by rw[q];simp) with z|⟨e',_⟩
    ·rw[hT b z]at e;cases e
     have d':Data.fields _=Data.dict es ep:=d;cases d'
    ·subst e'
     rw[ha]at e;cases e;have d':Data.seq vs.toArray _=Data.dict es ep:=d;cases d'
  have nsK:∀{b:Addr} {m:Str->Option Value},s₁.heap.Ns b m->(kJ s₁.heap H).Ns b m:=fun {b m} ⟨o,es,ep,e,d,r⟩=>⟨o,es,ep,base_of e (noA e d),d,r⟩;have hKb:K.In (kJ s₁.heap H):=fun b o e=>base_of (KX b o e) (by
   cases q:H b with
   | none=>rfl
   | some u =>
    rcases hA b (by rw[q];simp) with z|⟨e',hk,_⟩
    ·rw[hKt b z]at e;cases e
    ·subst e'
     rw[hk]at e;cases e)
  have hM:Mod K mg (kJ s₁.heap H):=⟨hKb,nsK hns,⟨mb,nsK hb,hbb⟩,let ⟨mc,h1,h2⟩:=hlim;⟨mc,nsK h1,h2⟩⟩;have e0:Bk P w K mg (kJ s₁.heap H) callerA [] s₁ H:=⟨rfl,hM,fun b o e=>sW e,Nat.le_of_eq (pQ _ _),trivial,fun b hb=>absurd (show b∈([]:List Addr) from hb) (by simp),hok,.of_eq hg⟩;refine codeAny_mono ((F _ hKb (nsK hns)).run callerA [] s₁ H ⟨[.ref a],[]⟩ [.ref a] [.ref a] _ _ hr e0 (hbind s₁ (.ref a)) (.cons rfl .nil) (hsp H hS hTb)) fun r s' h=>?_;cases r with
  | error e=>exact False.elim h
  | ok fl =>
   cases fl with
   | next=>exact False.elim h
   | brk=>exact False.elim h
   | cont=>exact False.elim h
   | ret u =>
    obtain⟨v,H',os,bare,un,hok',r',q⟩:=h;have q':v = .bl true:=q;subst q';obtain rfl:u=Value.bool true:=r';refine⟨rfl,⟨fun b o e=>?_,fun b o e=>un.there b o e (by simp)⟩,os,bare⟩;cases q:H b with
    | none=>exact .inl (un.keep b o e q (by intro z;exact absurd (show b∈([]:List Addr) from z) (by simp)) (by simp))
    | some u =>
     rcases hA b (by rw[q];simp) with z|⟨_,_,ob,xs,z⟩
     ·obtain⟨more,q2⟩:=un.tbls b #[] (hTb b z)
      have e2:s'.heap.get? b=some { cls:=.none,data:=.fields (#[]++more) }:=hok' b _ q2;rw[hT b z]at e;cases e;exact .inr (.inl ⟨hTc b z,rfl,#[],more,rfl,e2⟩)
     ·have z2:=un.frzs b ob _ z
      obtain⟨e1,_⟩:=hok b _ z;obtain⟨e2,_⟩:=hok' b _ z2;rw[e]at e1;cases e1;exact .inl e2
 let Ht:Hp:=fun b=>if b∈tabs then some (.tbl #[]) else none
 have tb:∀p∈tabs,Ht p=some (.tbl #[]):=fun p hp=>if_pos hp;have tn:∀b,b∉tabs->Ht b=none:=fun b hb=>if_neg hb;have tok:HOk P w Ht s₁.heap:=fun b u e=>by
  by_cases z:b∈tabs
  ·rw[tb b z]at e;cases e
   exact hT b z
  ·rw[tn b z]at e;cases e
 cases hk:K.lookup a with
 | some o =>
  have e:=KX a o hk;rw[ha]at e;cases e;refine core Ht (.inr ⟨_,vs.toArray,_,hk,rfl,rfl,rfl,by rw[List.size_toArray,lenV];exact hl,by simpa using rv⟩) tb tok fun b z=>?_
  by_cases hb:b∈tabs
  ·exact .inl hb
  ·exact absurd (tn b hb) z
 | none =>
  have nb:Ht a=none:=tn a atab;have sm:∀b o,Ht b=some o->upd Ht a (.frz { cls:=.type "list",data:=.seq vs.toArray } (.lst (ns.map V.int))) b=some o:=fun b o e=>by
   rw[aM (fun z=>by rw[z,nb]at e;cases e)];exact e
  refine core (upd Ht a (.frz { cls:=.type "list",data:=.seq vs.toArray } (.lst (ns.map V.int)))) (.inl (.inr ⟨{ cls:=.type "list",data:=.seq vs.toArray },upd_same⟩)) (fun p hp=>sm p _ (tb p hp)) (fun b u z=>?_) fun b z=>?_
  ·by_cases hb:b=a
   ·subst hb
    rw[upd_same]at z;cases z;exact⟨ha,by rw[List.length_map];exact hl,vs,_,rv,ha⟩
   ·rw[aM hb]at z
    exact(tok b u z).stay (fun _ _ _ q=>q) (fun d q=>sm d _ q) fun d xs q=>sm d _ q
  ·by_cases hb:b=a
   ·exact .inr ⟨hb,hk,_,_,by rw[hb];exact upd_same⟩
   ·rw[aM hb]at z
    by_cases ht:b∈tabs
    ·exact .inl ht
    ·exact absurd (tn b ht) z
def mQ(K:W.Frag)(tabs:List Addr):Sp:=fun vs H Q _=>∃(a:Addr) (ns:List Int),vs = [.ref a]∧SqL K H a (ns.map V.int)∧ns.length≤63∧(∀p∈tabs,H p=some (.tbl #[]))∧∀H',Q (.bl true) H'
end L2
namespace Hd
open PySem PySem.W PySem.Spec L2
def uz(o:Obj):Bool:=match o with
 | ⟨.none,_,.fields _,_⟩=>true
 | _=>false
def strip(K:Frag):Frag:=K.filter fun p=>!uz p.2
theorem lM:∀(l:List Obj) (n:Nat) (p:Nat×Obj),p∈pG n l->n≤p.1∧l[p.1 - n]? = some p.2∧tj p.2=true
 | [],_,_,e=>by cases e
 | x::r,n,p,e=>by
  have up:p∈pG (n+1) r->n≤p.1∧(x::r)[p.1 - n]? = some p.2∧tj p.2=true:=fun e=>by
   obtain⟨h1,h2,h3⟩:=lM r (n+1) p e;refine⟨by omega,?_,h3⟩;have:p.1 - n=(p.1 - (n+1))+1:=by omega
   rw[this];exact h2
  unfold pG at e;cases hl:tj x with
  | false =>
   rw[hl]at e;exact up e
  | true =>
   rw[hl,cond_true]at e;rcases List.mem_cons.mp e with rfl|e
   ·exact⟨Nat.le_refl _,by simp,hl⟩
   ·exact up e
theorem rE(h:Heap):∀p∈frag h,h.get? p.1=some p.2:=fun p hp=>by
 obtain⟨_,q,hl⟩:=lM _ _ _ hp;have q:h.objs[p.1]? = some p.2:=by simpa using q
 unfold Heap.get?;rw[q];obtain⟨a,o⟩:=p;obtain⟨c,d,dt,sl⟩:=o;cases dt <;> first|rfl|cases hl
theorem dW{K:Frag}{b:Addr}{o:Obj}(e:K.lookup b=some o):(b,o)∈K:=by
 induction K with
 | nil=>cases e
 | cons x r ih =>
  rw[List.lookup_cons]at e;cases hb:b == x.1 with
  | true =>
   rw[hb]at e;cases e;rw[beq_iff_eq.mp hb];exact List.mem_cons_self
  | false =>
   rw[hb]at e;exact List.mem_cons_of_mem _ (ih e)
theorem qw{K:Frag}{h:Heap}(k:∀p∈K,h.get? p.1=some p.2):(strip K).In h:=fun b o e=>k (b,o) (List.mem_filter.mp (dW e)).1
theorem o0{K:Frag}{b:Addr}{o:Obj}(e:(strip K).lookup b=some o):uz o=false:=by
 have:=(List.mem_filter.mp (dW e)).2;simpa using this
def hookT{α:Type}(facts:Frag->α)(val:α):Hook :=
 ⟨α,fun s=>facts (frag s.heap),fun _=>val,fun _ h=>∃K:Frag,(∀p∈K,h.get? p.1=some p.2)∧facts K=val,fun _ s e=>⟨_,rE s.heap,e⟩,fun _ _ _ ⟨K,hi,e⟩ k=>⟨K,fun p hp=>k _ _ (hi p hp),e⟩⟩
def li(K:Frag)(x:Str):Option (Addr×Addr):=match nsIn (strip K) mainGlobals x with
 | some (some (.ref f))=>(match (strip K).lookup f with
  | some ⟨_,_,.func fd,_⟩=>(match fd.code with
   | .ref c=>(match (strip K).lookup c with
    | some ⟨.type "code",_,.fields vs,_⟩=>(match (vs[11]? : Option Value),vs.getD 18 .none,vs.getD 7 .none,vs.getD 9 .none,vs.getD 10 .none with
     | some (.ref p),.str _ _,.int _ _,.bool _,.int _ _=>(match K.lookup p with
      | some ⟨.none,none,.fields ps,sl⟩=>bif (ps.toList.isEmpty && (sl.toList.isEmpty && !(Nat.beq c p))) then some (c,p) else none
      | _=>none)
     | _,_,_,_,_=>none)
    | _=>none)
   | _=>none)
  | _=>none)
 | _=>none
def tabFact(K:Frag)(x:Str):Bool:=(li K x).isSome
def tabP(K:Frag)(x:Str):Addr:=match li K x with
 | some q=>q.2
 | none=>0
theorem iE{K:Frag}{x:Str}{c p:Addr}(e:li K x=some (c,p)):∃f oc od fd sl,nsIn (strip K) mainGlobals x=some (some (.ref f))∧(strip K).lookup f=some ⟨oc,od,.func fd,sl⟩∧fd.code = .ref c∧jq (strip K) c p∧K.lookup p=some (tabObj #[]):=by
 unfold li at e
 split at e
 ·rename_i f hf
  split at e
  ·rename_i oc od fd sl hl
   split at e
   ·rename_i c' hc
    split at e
    ·rename_i od2 vs sl2 hl2
     split at e
     ·rename_i p' st tt i1 t1 b1 i2 t2 h11 h18 h7 h9 h10
      split at e
      ·rename_i ps sl3 hl3
       cases hq:(ps.toList.isEmpty && (sl3.toList.isEmpty && !(Nat.beq c' p'))) with
       | false=>rw[hq]at e;cases e
       | true =>
        rw[hq]at e;simp only[cond_true,Option.some.injEq,Prod.mk.injEq]at e;obtain⟨rfl,rfl⟩:=e;simp only[Bool.and_eq_true,List.isEmpty_iff,Bool.not_eq_true']at hq;obtain⟨q1,q2,q3⟩:=hq;have q1:ps = #[]:=by simpa using q1
        have q2:sl3 = #[]:=by simpa using q2
        subst q1 q2;refine⟨f,oc,od,fd,sl,hf,hl,hc,⟨_,vs,st,tt,i1,t1,b1,i2,t2,hl2,rfl,rfl,h11,?_,h18,h7,h9,h10,?_⟩,hl3⟩
        ·rw[Array.getD_eq_getD_getElem?,h11];rfl
        ·intro z
         rw[z,Nat.beq_refl]at q3;cases q3
      ·cases e
     ·cases e
    ·cases e
   ·cases e
  ·cases e
 ·cases e
theorem lg{K:Frag}{x:Str}(t:tabFact K x=true):∃c,li K x=some (c,tabP K x):=by
 unfold tabFact at t;obtain⟨⟨c,p⟩,e⟩:=Option.isSome_iff_exists.mp t;refine⟨c,?_⟩;unfold tabP;rw[e]
theorem dft_of{K:Frag}{mg:Str->Option Value}{h:Heap}{x:Str}{st:Stmt}(X:(strip K).In h)(G:h.Ns mainGlobals mg)(e:fnFact (strip K) x=some (a8 st,aJ st,ai st,.none))(t:tabFact K x=true):Db (strip K) mg x st (tabP K x):=by
 obtain⟨f,oc,od,kV,doc,pm,an,cdv,ct,osl,h1,h2,h3,h4⟩:=eV e;obtain⟨c,ht⟩:=lg t;obtain⟨f',oc',od',fd',sl',g1,g2,g3,g4,_⟩:=iE ht;rw[h1]at g1;cases g1;rw[h2]at g2;cases g2;have g3:cdv = .ref c:=g3;subst g3;exact⟨⟨f,oc,od,kV,doc,pm,an,c,ct,osl,W.mg_of X G h1,h2,h3,h4,g4⟩⟩
def apart:List Addr->Bool
 | []=>true
 | a::r=>(r.all fun b=>!(Nat.beq a b)) && apart r
theorem apart_ne:∀{l:List Addr},apart l=true->∀{i j:Nat} {a b:Addr},l[i]? = some a->l[j]? = some b->i<j->a≠b
 | [],_,i,j,a,b,hi,_,_=>by simp at hi
 | x::r,h,i,j,a,b,hi,hj,lt=>by
  unfold apart at h;rw[Bool.and_eq_true]at h;cases j with
  | zero=>omega
  | succ j =>
   have hj:r[j]? = some b:=by simpa using hj
   cases i with
   | zero =>
    have hi:x=a:=by simpa using hi
    subst hi;have:=List.all_eq_true.mp h.1 b (List.mem_of_getElem? hj);rintro rfl;rw[Nat.beq_refl]at this;cases this
   | succ i=>exact apart_ne h.2 (i:=i) (j:=j) (by simpa using hi) hj (by omega)
def bltFact(K:Frag):Bool:=match nsIn K mainGlobals "__builtins__" with
 | some (some (.ref bm))=>(match K.lookup bm with
  | some ⟨.type "module",some d,.plain,_⟩=>!(Nat.beq bm builtinsNs) && (!(Nat.beq bm mainGlobals) && Nat.beq d builtinsNs)
  | _=>false)
 | _=>false
theorem blt_of{K:Frag}{mg:Str->Option Value}{h:Heap}(X:K.In h)(G:h.Ns mainGlobals mg)(t:bltFact K=true):sj K mg:=by
 unfold bltFact at t
 split at t
 ·rename_i bm hb
  split at t
  ·rename_i d sl hl
   simp only[Bool.and_eq_true,Bool.not_eq_true']at t;obtain⟨t1,t2,t3⟩:=t;have t3:=Nat.eq_of_beq_eq_true t3;subst t3;refine⟨bm,_,W.mg_of X G hb,fun z=>?_,fun z=>?_,hl,rfl,rfl,rfl⟩
   ·rw[z,Nat.beq_refl]at t1;cases t1
   ·rw[z,Nat.beq_refl]at t2;cases t2
  ·cases t
 ·cases t
theorem law_walkT{l:OpenLaw}{k:Nat}{q:Program}{loose:List Str}{XP:(Str->Option Value)->Heap->Prop}{d:DefRec}{α:Type}{facts:Frag->α}{val:α}{names:List Str}(hk:xL k callerA)(hn:l.most=some 63)(hdf:d.params.defaults = [])
  (hnm:∀K,facts K=val->names.all (tabFact K)=true)
  (F:∀(K:Frag),facts K=val->∀(w:World) (mg:Str->Option Value) (fa:Addr) (h:Heap),(strip K).In h->h.Ns mainGlobals mg->mg d.name=some (.ref fa) ->
   ∃fd:FuncData,(∀(s:Shared) (u:Value),BindsTo s fd ⟨[u],[]⟩ [("script",u)])∧∀base:Heap,(strip K).In base->base.Ns mainGlobals mg->zU l.prog w (strip K) mg base CX0 k fa fd ["script"] (mQ (strip K) (names.map (tabP K)))) :
  WalkO q loose XP (Hook.says (hookT facts val)) l.row.toRowW d [] (fun f vs=>PySem.call f vs):=by
 refine Att.attach_call hn hdf fun w s₀ s₁ mg mb fa o pm cd doc a vs ns G Y ho hd hcd hmg hobj hints hlen hg=>?_;obtain⟨K,hin,hf⟩:=Y;have KX:=qw hin;obtain⟨fd,hb,hF⟩:=F K hf w mg fa _ KX G.T.g hmg;have ht:∀p∈names.map (tabP K),∃c,jq (strip K) c p∧K.lookup p=some (tabObj #[]):=fun p hp=>by
  obtain⟨x,hx,rfl⟩:=List.mem_map.mp hp;obtain⟨c,e⟩:=lg (List.all_eq_true.mp (hnm K hf) x hx);obtain⟨_,_,_,_,_,_,_,_,g4,g5⟩:=iE e;exact⟨c,g4,g5⟩
 refine pL (tabs:=names.map (tabP K)) KX (fun p hp=>?_) (fun p hp=>?_) (fun p hp=>?_) G.T.g G.T.b G.T.builtins G.T.nolimit hg hobj hints (Nat.le_trans hlen (by decide)) hk hF hb (fun H hS hT=>⟨a,ns,rfl,hS,hlen,hT,fun _=>rfl⟩)
 ·cases e:(strip K).lookup p with
  | none=>rfl
  | some o =>
   have e1:=hin _ (List.mem_filter.mp (dW e)).1;obtain⟨c,_,e2⟩:=ht p hp;have e2:=hin _ (dW e2);have e1:s₁.heap.get? p=some o:=e1;have e2:s₁.heap.get? p=some (tabObj #[]):=e2;rw[e1]at e2;cases e2;cases o0 e
 ·obtain⟨c,_,e2⟩:=ht p hp
  exact hin _ (dW e2)
 ·obtain⟨c,C,e2⟩:=ht p hp
  exact((C.hd KX).tab (ps:=#[]) (hin _ (dW e2))).isCodeTable
end Hd
namespace Hd
open PySem PySem.W PySem.Spec L2
theorem rQ{K:Frag}{mg:Str->Option Value}{h:Heap}{x:Str}{v:V}(X:K.In h)(G:h.Ns mainGlobals mg)(e:(nsIn K mainGlobals x).map (fun o=>o.map bareV)=some (some v)):∃u,mg x=some u∧bareV u=v:=by
 cases hn:nsIn K mainGlobals x with
 | none =>
  rw[hn]at e;cases e
 | some o =>
  cases o with
  | none =>
   rw[hn]at e;cases e
  | some u =>
   rw[hn]at e;exact⟨u,mg_of X G hn,Option.some.inj (Option.some.inj e)⟩
theorem int_of{K:Frag}{mg:Str->Option Value}{h:Heap}{x:Str}{i:Int}(X:K.In h)(G:h.Ns mainGlobals mg)(e:(nsIn K mainGlobals x).map (fun o=>o.map bareV)=some (some (.int i))):∃tk,mg x=some (.int i tk):=by
 obtain⟨u,h1,h2⟩:=rQ X G e;cases u <;> first|(cases h2;exact⟨_,h1⟩)|cases h2
end Hd
namespace Hd
open PySem PySem.W PySem.Spec L2
end Hd
namespace L2
open PySem PySem.Spec PyProof.Rows
section
variable {X:Cx}
end
end L2
namespace L2
open PySem PySem.Spec PyProof.Rows
section
variable {X:Cx}
end
end L2
namespace L2
open PySem PySem.Spec PyProof.Rows
section
variable {X:Cx}
end
end L2
local macro_rules | `(tactic| walk_at "bt")=>`(tactic| first
 | assumption
 | (apply L2.bits_mul <;> walk_at "bt")
 | (apply L2.bits_add2 <;> walk_at "bt")
 | (apply L2.bits_sub2 <;> walk_at "bt")
 | (apply L2.bits_neg;walk_at "bt")
 | (apply L2.bits_abs;walk_at "bt")
 | exact L2.bits_lit)
local macro_rules | `(tactic| walk_at "bl")=>`(tactic| (apply L2.bits_of_le;(walk_at "bt");decide))
local macro_rules | `(tactic| walk_at "cm")=>`(tactic| first
 | exact L2.CM.l ⟨by decide,by decide⟩
 | exact L2.CM.r ⟨by decide,by decide⟩
 | (apply L2.CM.of;(walk_at "bt");(walk_at "bt");decide))
local macro_rules | `(tactic| walk_at "at")=>`(tactic| first
 | assumption
 | exact L2.upd_same
 | (refine L2.Same.at (by assumption) ?_;walk_at "at")
 | (refine L2.SameT.at (by assumption) ?_;walk_at "at"))
local macro_rules | `(tactic| walk_at "sm")=>`(tactic| first
 | assumption
 | exact L2.Same.rfl'
 | (refine L2.Same.trans ?_ (by assumption);walk_at "sm"))
local macro_rules | `(tactic| walk_at "kn")=>`(tactic| first
 | assumption
 | exact⟨_,.int _⟩|exact⟨_,.bl _⟩|exact⟨_,.str _⟩|exact⟨_,.non⟩
 | exact⟨_,.tup (by walk_at "at")⟩|exact⟨_,.lst (by walk_at "at")⟩|exact⟨_,.dict (by walk_at "at")⟩)
local macro_rules | `(tactic| walk_at "nice")=>`(tactic| first
 | exact L2.nice_int|exact L2.nice_bool|exact L2.nice_tuple|exact L2.nice_list|exact L2.nice_str)
local macro_rules | `(tactic| walk_at "th")=>`(tactic| first
 | assumption
 | exact Sp1.th_flat .non (fun p e=>nomatch e)|exact Sp1.th_flat (.int _) (fun p e=>nomatch e)|exact Sp1.th_flat (.bl _) (fun p e=>nomatch e)|exact Sp1.th_flat (.str _) (fun p e=>nomatch e)
 | exact Sp1.th_lst (by walk_at "at")
 | (refine' Sp1.th_tup ?hat ?hkn;(case hat=>walk_at "at");(case hkn=>(simp only[List.mem_cons,List.not_mem_nil,or_false,forall_eq_or_imp,forall_eq,false_imp_iff,implies_true];(try (first|(walk_at "kn")|(repeat' apply And.intro) <;> walk_at "kn")))))
 )
local macro_rules | `(tactic| walk_at "r1")=>`(tactic| first
 | (refine⟨_,rfl,?_⟩)
 | (refine⟨_,_,rfl,rfl,?_⟩)
 | (refine⟨_,_,rfl,rfl,by walk_at "cm",?_⟩)
 | (refine⟨_,_,rfl,rfl,(by show(0:Int)<_;decide),?_⟩)
 | (refine⟨_,_,rfl,rfl,⟨by decide,by decide⟩,?_⟩)
 | (refine⟨_,_,rfl,rfl,⟨by decide,by decide,by decide⟩,?_⟩)
 | (refine' ⟨_,_,_,_,rfl,rfl,L2.SqT.of ?hat,?hix,?nxt⟩;(case hat=>walk_at "at");(case hix=>exact rfl))
 | (refine' ⟨_,_,_,_,rfl,rfl,L2.SqL.of ?hat,?hix,?nxt⟩;(case hat=>walk_at "at");(case hix=>exact rfl))
 | (refine⟨by walk_at "cm",?_⟩)
 | (refine⟨(by show(0:Int)<_;decide),?_⟩)
 | (refine⟨⟨by decide,by decide⟩,?_⟩)
 | (refine⟨⟨by decide,by decide,by decide⟩,?_⟩)
 | (refine⟨Sp1.sz (by simp),fun _ _ _ _ _=>?_⟩)
 | (refine⟨Sp1.sz (by simp),L2.alloc fun _ _ _ _=>?_⟩)
 | (refine' ⟨_,_,_,_,rfl,rfl,?hat,?hbt,Sp1.sz ?hsz,fun _ _ _ _ _=>?nxt⟩;(case hat=>walk_at "at");(case hbt=>walk_at "at");(case hsz=>simp))
 | (refine' ⟨_,_,_,_,rfl,rfl,?hat,?hbt,Sp1.sz ?hsz,L2.alloc fun _ _ _ _=>?nxt⟩;(case hat=>walk_at "at");(case hbt=>walk_at "at");(case hsz=>simp))
 | (refine' ⟨_,_,rfl,.inl (L2.SqL.of ?hat),?nxt⟩;(case hat=>walk_at "at"))
 | (refine' ⟨_,_,rfl,.inr (L2.SqT.of ?hat),?nxt⟩;(case hat=>walk_at "at"))
 | (refine' L2.alloc fun _ _ _ _=>?nxt))
local macro_rules | `(tactic| walk_at "rd")=>`(tactic| repeat (walk_at "r1"))
namespace K33
open PySem PySem.Spec L2 Mth Sp1 Sp2 Sp11 Sp7 Sp24 Sp5 Sp6 Dr Wk Sk Fz
def top(i:Nat):Stmt:=Challenge.pw_oneleash_k33_free_by_fields.main.body.getD i (.Pass ⟨0,0,0,0⟩)
def sZ(i j:Nat):Stmt:=match top i with
 | .ClassDef _ _ _ b _ _ _ _ _ _ _=>b.getD j (.Pass ⟨0,0,0,0⟩)
 | x=>x
def iy:List (Str×Nat):=[(Str.ofString "is_whole",5),(Str.ofString "common_divisor",6),(Str.ofString "plus",8),(Str.ofString "is_ratio",9),(Str.ofString "sign_of",11),(Str.ofString "signed_square",12),(Str.ofString "sign_with_root",13),(Str.ofString "sign_with_roots",14),(Str.ofString "root_order",15),(Str.ofString "floor_root",16),(Str.ofString "own_fraction",17),(Str.ofString "scaled_floor",18),(Str.ofString "below_all",19),(Str.ofString "shared_terms",20),(Str.ofString "fraction_of_terms",21),(Str.ofString "fraction_within",22),(Str.ofString "root_between",23),(Str.ofString "look_at_square",27),(Str.ofString "leash_order",28),(Str.ofString "reach_of",29),(Str.ofString "part_within",30),(Str.ofString "last_of",32),(Str.ofString "with_a_stretch",36),(Str.ofString "doors_of",37),(Str.ofString "far_corners",38),(Str.ofString "begins_fence",40),(Str.ofString "ends_fence",41),(Str.ofString "pair_at_corner",42),(Str.ofString "part_from",43),(Str.ofString "pair_in_door",44),(Str.ofString "place_on",45),(Str.ofString "pairs_on",46),(Str.ofString "row_to",48),(Str.ofString "seek",49),(Str.ofString "is_cell",51),(Str.ofString "steps_through",52),(Str.ofString "pair_within",53),(Str.ofString "free_walk",54),(Str.ofString "steps_along",55),(Str.ofString "free_fence",56),(Str.ofString "go_free",57),(Str.ofString "_law_cell_at",59),(Str.ofString "_law_pool",60),(Str.ofString "_law_take",61),(Str.ofString "_law_line",62),(Str.ofString "_law_moved",63),(Str.ofString "_law_second",64),(Str.ofString "_law_common",66),(Str.ofString "_law_lowest",68),(Str.ofString "_law_above",69),(Str.ofString "_law_foot",74),(Str.ofString "_law_beside",75),(Str.ofString "_law_square",76),(Str.ofString "_law_open",77),(Str.ofString "_law_fields_beside",78),(Str.ofString "_law_can",79),(Str.ofString "law",80)]
def ix:List (Str×Nat×List V):=[(Str.ofString "ratio",7,[.int 1])]
def wG:List Str:=[Str.ofString "NoRatio",Str.ofString "NoSquare",Str.ofString "LeashError"]
def hNo:List Str:=[Str.ofString "abs",Str.ofString "bool",Str.ofString "enumerate",Str.ofString "int",Str.ofString "isinstance",Str.ofString "len",Str.ofString "list",Str.ofString "max",Str.ofString "min",Str.ofString "range",Str.ofString "reversed",Str.ofString "tuple"]
def tE:List (Str×List V):=[(Str.ofString "BEGIN",[.int 0,.int 0,.int 0,.int 1]),(Str.ofString "END",[.int 1,.int 0,.int 0,.int 1])]
def wJ(K:W.Frag):List (Option (Option V)):=[(W.nsIn K mainGlobals "UPRIGHT").map (fun o=>o.map Hd.bareV),(W.nsIn K mainGlobals "LEVEL").map (fun o=>o.map Hd.bareV)]
def uC:List (Option (Option V)):=[some (some (.int 0)),some (some (.int 1))]
def wI(K:W.Frag):List (Option (Option Value)):=[W.findIn K (.ref (Hd.cls K "Field")) "__setattr__",W.findIn K (.ref (Hd.cls K "Field")) "room",W.findIn K (.ref (Hd.cls K "Field")) "last",W.findIn K (.ref (Hd.cls K "Field")) "doors",W.findIn K (.ref (Hd.cls K "Field")) "far"]
def uB:List (Option (Option Value)):=[some (some (.builtin "object.__setattr__")),some none,some none,some none,some none]
def wH(K:W.Frag):List (Bool):=[(K.lookup sysModules).isSome]
def uA:List (Bool):=[true]
def wD:List Str:=[Str.ofString "Field"]
def hMt:List (Str×Str×Str×Stmt):=[(Str.ofString "Field",Str.ofString "__init__",Str.ofString "Field.__init__",sZ 39 0)]
def hTabs:List Str:=[Str.ofString "free_walk",Str.ofString "free_fence"]
def hF0(K:W.Frag):List (Option (Arguments×List Stmt×Scope×Value)):=iy.map (fun p=>Hd.fnFact K p.1)
def hG0:List (Option (Arguments×List Stmt×Scope×Value)):=iy.map (fun p=>some (a8 (top p.2),aJ (top p.2),ai (top p.2),.none))
def hF1(K:W.Frag):List (Option (Arguments×List Stmt×Scope×List V))×Bool×Bool×List (Option (List V))×Bool×List (Option (Arguments×List Stmt×Scope×Value))×List (Option (Option V))×List (Option (Option Value))×List (Bool):=(ix.map (fun p=>Hd.fnFactD K p.1),wG.all (Hd.excFact K),hNo.all (Hd.noFact K),tE.map (fun p=>Hd.tupFact K p.1),wD.all (Hd.ownFact K),hMt.map (fun p=>Hd.mtFact K p.1 p.2.1 p.2.2.1),wJ K,wI K,wH K)
def hG1:List (Option (Arguments×List Stmt×Scope×List V))×Bool×Bool×List (Option (List V))×Bool×List (Option (Arguments×List Stmt×Scope×Value))×List (Option (Option V))×List (Option (Option Value))×List (Bool):=(ix.map (fun p=>some (a8 (top p.2.1),aJ (top p.2.1),ai (top p.2.1),p.2.2)),true,true,tE.map (fun p=>some p.2),true,hMt.map (fun p=>some (a8 p.2.2.2,aJ p.2.2.2,ai p.2.2.2,.none)),uC,uB,uA)
def hF2(K0:W.Frag):Bool×Bool×Bool:=(hTabs.all (Hd.tabFact K0),Hd.bltFact (Hd.strip K0),Hd.apart (hTabs.map (Hd.tabP K0)))
def hG2:Bool×Bool×Bool:=(true,true,true)
def hFacts(K:W.Frag):(List (Option (Arguments×List Stmt×Scope×Value)))×(List (Option (Arguments×List Stmt×Scope×List V))×Bool×Bool×List (Option (List V))×Bool×List (Option (Arguments×List Stmt×Scope×Value))×List (Option (Option V))×List (Option (Option Value))×List (Bool))×(Bool×Bool×Bool):=(hF0 (Hd.strip (K)),hF1 (Hd.strip (K)),hF2 (K))
def hGood:(List (Option (Arguments×List Stmt×Scope×Value)))×(List (Option (Arguments×List Stmt×Scope×List V))×Bool×Bool×List (Option (List V))×Bool×List (Option (Arguments×List Stmt×Scope×Value))×List (Option (Option V))×List (Option (Option Value))×List (Bool))×(Bool×Bool×Bool):=(hG0,hG1,hG2)
def hView:Program:=W.view Challenge.pw_oneleash_k33_free_by_fields [80]
def hLoose:List Str:=[Str.ofString "LeashError",Str.ofString "NoRatio",Str.ofString "NoSquare",Str.ofString "is_whole",Str.ofString "common_divisor",Str.ofString "ratio",Str.ofString "plus",Str.ofString "is_ratio",Str.ofString "sign_of",Str.ofString "signed_square",Str.ofString "sign_with_root",Str.ofString "sign_with_roots",Str.ofString "root_order",Str.ofString "floor_root",Str.ofString "own_fraction",Str.ofString "scaled_floor",Str.ofString "below_all",Str.ofString "shared_terms",Str.ofString "fraction_of_terms",Str.ofString "fraction_within",Str.ofString "root_between",Str.ofString "BEGIN",Str.ofString "END",Str.ofString "look_at_square",Str.ofString "leash_order",Str.ofString "reach_of",Str.ofString "part_within",Str.ofString "last_of",Str.ofString "UPRIGHT",Str.ofString "LEVEL",Str.ofString "with_a_stretch",Str.ofString "doors_of",Str.ofString "far_corners",Str.ofString "Field",Str.ofString "begins_fence",Str.ofString "ends_fence",Str.ofString "pair_at_corner",Str.ofString "part_from",Str.ofString "pair_in_door",Str.ofString "place_on",Str.ofString "pairs_on",Str.ofString "row_to",Str.ofString "seek",Str.ofString "is_cell",Str.ofString "steps_through",Str.ofString "pair_within",Str.ofString "free_walk",Str.ofString "steps_along",Str.ofString "free_fence",Str.ofString "go_free",Str.ofString "_law_cell_at",Str.ofString "_law_pool",Str.ofString "_law_take",Str.ofString "_law_line",Str.ofString "_law_moved",Str.ofString "_law_second",Str.ofString "_law_whole",Str.ofString "_law_common",Str.ofString "_law_is_fraction",Str.ofString "_law_lowest",Str.ofString "_law_above",Str.ofString "_law_point",Str.ofString "_law_apart",Str.ofString "_law_near",Str.ofString "_law_are_pairs",Str.ofString "_law_foot",Str.ofString "_law_beside",Str.ofString "_law_square",Str.ofString "_law_open",Str.ofString "_law_fields_beside",Str.ofString "_law_can"]
noncomputable def hRunS(w:World):=(W.openEnds treeTable Challenge.pw_oneleash_k33_free_by_fields w 100000).map (fun s=>(W.openSeen hView hLoose (importedModules Challenge.pw_oneleash_k33_free_by_fields.main.body) (fun _=>true) true s,hF1 (Hd.strip (Hd.frag s.heap)),hF2 (Hd.frag s.heap)))
noncomputable def hEndS:=some ((W.openGood hView hLoose,hG1,hG2))
theorem hRunS_self:@hRunS = @hRunS:=rfl
theorem hEndS_self:@hEndS = @hEndS:=rfl
set_option maxHeartbeats 0 in
lay_quick K33.hRunS K33.hEndS
name_quick hRunSQ for K33.hRunS by K33.hRunS_self
name_quick hEndSQ for K33.hEndS by K33.hEndS_self
set_option maxHeartbeats 0 in
theorem tF(w:World):W.Fast.hRunSQ w=W.Fast.hEndSQ:=by kernel_rfl
theorem wE(w:World):hRunS w=hEndS:=(congrFun W.Fast.hRunSQ_eq w).trans ((tF w).trans W.Fast.hEndSQ_eq.symm)
noncomputable def hRun0(w:World):=(W.openEnds treeTable Challenge.pw_oneleash_k33_free_by_fields w 100000).map (fun s=>hF0 (Hd.strip (Hd.frag s.heap)))
noncomputable def hEnd0:=some (hG0)
theorem hRun0_self:@hRun0 = @hRun0:=rfl
theorem hEnd0_self:@hEnd0 = @hEnd0:=rfl
set_option maxHeartbeats 0 in
lay_quick K33.hRun0 K33.hEnd0
name_quick hRun0Q for K33.hRun0 by K33.hRun0_self
name_quick hEnd0Q for K33.hEnd0 by K33.hEnd0_self
set_option maxHeartbeats 0 in
theorem tG(w:World):W.Fast.hRun0Q w=W.Fast.hEnd0Q:=by kernel_rfl
theorem wF(w:World):hRun0 w=hEnd0:=(congrFun W.Fast.hRun0Q_eq w).trans ((tG w).trans W.Fast.hEnd0Q_eq.symm)
theorem xj(w:World):(W.openEnds treeTable Challenge.pw_oneleash_k33_free_by_fields w 100000).map (fun s=>(W.openSeen hView hLoose (importedModules Challenge.pw_oneleash_k33_free_by_fields.main.body) (fun _=>true) true s,hFacts (Hd.frag s.heap)))=some (W.openGood hView hLoose,hGood):=by
 have rS:(W.openEnds treeTable Challenge.pw_oneleash_k33_free_by_fields w 100000).map (fun s=>(W.openSeen hView hLoose (importedModules Challenge.pw_oneleash_k33_free_by_fields.main.body) (fun _=>true) true s,hF1 (Hd.strip (Hd.frag s.heap)),hF2 (Hd.frag s.heap)))=some ((W.openGood hView hLoose,hG1,hG2)):=wE w;have r0:(W.openEnds treeTable Challenge.pw_oneleash_k33_free_by_fields w 100000).map (fun s=>hF0 (Hd.strip (Hd.frag s.heap)))=some (hG0):=wF w
 skip
 generalize (W.openEnds treeTable Challenge.pw_oneleash_k33_free_by_fields w 100000)=x at *;cases x with
 | none=>cases rS
 | some s =>
  have zS:=Option.some.inj rS;have z0:=Option.some.inj r0;show some (W.openSeen hView hLoose (importedModules Challenge.pw_oneleash_k33_free_by_fields.main.body) (fun _=>true) true s,hFacts (Hd.frag s.heap))=_;unfold hFacts hGood;have z:=(congrArg Prod.fst zS);have q1:=(congrArg Prod.fst (congrArg Prod.snd zS));have q2:=(congrArg Prod.snd (congrArg Prod.snd zS));have q0:=z0;exact congrArg some (Hd.pair2 z (Hd.pair2 q0 (Hd.pair2 q1 q2)))
structure Txt(mg:Str->Option Value):Prop where
 z_abs:mg "abs" = none
 z_bool:mg "bool" = none
 z_enumerate:mg "enumerate" = none
 z_int:mg "int" = none
 z_isinstance:mg "isinstance" = none
 z_len:mg "len" = none
 z_list:mg "list" = none
 z_max:mg "max" = none
 z_min:mg "min" = none
 z_range:mg "range" = none
 z_reversed:mg "reversed" = none
 z_tuple:mg "tuple" = none
section
variable {P:Program} {w:World} {K:W.Frag} {mg:Str->Option Value} {base:Heap} {C_Field:Addr}
theorem dL{α:Type}{xs:List α}(h:xs.length=1):∃a,xs = [a]:=match xs,h with | [a],_=>⟨a,rfl⟩
theorem di(i j:Int):decide (V.int i=V.int j)=decide (i=j):=Fnc.di i j
theorem dM{x:Int}(h:Sm x):au x≤50:=by
 have h':-999999999999≤x∧x≤999999999999:=h;exact cE (n:=50) (by show _<1125899906842624;omega)
theorem smk{N M:List Str}{c:Scope}(a:c.kind=.function:=by rfl)(b:c.isCoroutine=false:=by rfl)(d:c.isGenerator=false:=by rfl)(e:N.Nodup:=by decide +kernel)(f:N.take M.length=M:=by rfl)(g:∀x∈M,c.names.lookup x=some .local∨c.names.lookup x=some .cell:=by decide +kernel)(h:∀y∈c.names,y.2≠.free:=by decide +kernel):xo N M c:=⟨a,b,d,e,f,g,h⟩
theorem BC:xo ["thing"] ["thing"] (ai (top 5)):=smk
theorem mj(Ah:Df K mg "is_whole" (top 5))(T:Txt mg):Fn P w K mg base "is_whole" ["thing"] 1 AG:=by
 refine Ah.fn BC (fun _ _ _ _ _ _ us hl=>by obtain⟨_,rfl⟩:=dL hl;rfl) (fun vs H Q E h=>?_) (fun f cdv A outer s H vs Q E hr h=>?_)
 ·obtain⟨x,t,rfl,_⟩:=h
  rfl
 ·obtain⟨x,t,rfl,k,q⟩:=h
  refine⟨_,(ao (aB (iO (aG dQ (by rfl) T.z_isinstance dj (aa (pv 0) (aa (oa T.z_int rW) af))) (fH (qK (aG dQ (by rfl) T.z_isinstance dj (aa (pv 0) (aa (oa T.z_bool tZ) af)))))))),?_⟩;refine⟨_,rfl,x,t,"int",rfl,k,.inl rfl,_,rfl,?_⟩;refine aR (fun hc=>?_) (fun hc=>?_)
  ·refine⟨_,rfl,x,t,"bool",rfl,k,.inr (.inl rfl),_,rfl,?_⟩
   rw[(jG k).1 hc];exact q
  ·rw[(jG k).2 hc]at q
   exact q
theorem xC:xo ["one","other","rest"] ["one","other"] (ai (top 6)):=smk
theorem gB(yw:Df K mg "common_divisor" (top 6))(T:Txt mg):Fn P w K mg base "common_divisor" ["one","other"] 1 BN:=by
 refine yw.fn xC (fun _ _ _ _ _ _ us hl=>by obtain⟨_,_,rfl⟩:=dI hl;rfl) (fun vs H Q E h=>?_) (fun f cdv A outer s H vs Q E hr h=>?_)
 ·obtain⟨a,b,rfl,_⟩:=h
  rfl
 ·obtain⟨a,b,rfl,q⟩:=h
  refine⟨_,(ag (ax (i:=0) xC.nd rfl (Or.inl rfl) (aG gD (by rfl) T.z_abs kY (aa (pv 0) af))) (ag (ax (i:=1) xC.nd rfl (Or.inl rfl) (aG gD (by rfl) T.z_abs kY (aa (pv 1) af))) (ag (dw PassesOwn.never (aC gU (pv 1) ad (aE _)) (ag (ax (i:=2) xC.nd rfl (Or.inl rfl) (aj eQ (pv 0) (pv 1))) (ag (ax (i:=0) xC.nd rfl (Or.inl rfl) (pv 1)) (ao (ax (i:=1) xC.nd rfl (Or.inl rfl) (pv 2)))))) (ao (aB (pv 0)))))),?_⟩;refine⟨_,rfl,a,rfl,_,rfl,b,rfl,?_⟩;refine dm (fun σ H'=>∃x y r,σ = [some (.int x),some (.int y),r]∧H'=H∧0≤x∧0≤y∧Int.gcd x y=Int.gcd a b)
   (fun σ _=>match σ with | [_,some (.int y),_]=>y.toNat|_=>0) ⟨_,_,_,rfl,rfl,jn a,jn b,by rw[oE,rz]⟩ ?_ ?_
  ·rintro σ H' ⟨x,y,r,rfl,rfl,hx,hy,hg⟩
   refine⟨_,rfl,rfl,_,rfl,?_⟩;refine aR (fun hc=>?_) (fun hc=>?_)
   ·have hy0:¬y=0:=by simpa using hc
    have hy1:0<y:=by omega
    refine⟨_,rfl,_,rfl,x,y,rfl,rfl,hy1,_,rfl,_,rfl,⟨y,x % y,_,rfl,rfl,hy,Int.emod_nonneg _ hy0,?_⟩,?_⟩
    ·rw[l5 hx hy1]
     exact hg
    ·have h1:=Int.emod_lt_of_pos x hy1
     have h2:=Int.emod_nonneg x hy0;show(x % y).toNat<y.toNat;omega
   ·have hy0:y=0:=by simpa using hc
    subst hy0;refine⟨_,rfl,?_⟩;have e:(Int.gcd a b:Int)=x:=by rw[<- hg];exact gcd_zero hx
    rw[e]at q;exact q
  ·rintro σ H' Q1 Q2 hq ⟨v,e,hs,k,ek,r⟩
   exact⟨v,e,hs,k,ek,hq _ _ r⟩
theorem Bg:xo ["top","bottom","divisor"] ["top","bottom"] (ai (top 7)):=smk
theorem rF{C:Addr}(Bl:Dc K mg "ratio" (top 7) [.int 1])(xU:AS K mg "NoRatio" C)(xT:Fn P w K mg base "is_whole" ["thing"] 1 AG)(xD:Fn P w K mg base "common_divisor" ["one","other"] 1 BN):Fx P w K mg base "ratio" ["top","bottom"] 2 [.int 1] (zD C):=by
 refine Bl.fx Bg (fun T kV doc pm an cdv ct us its oT n s hv hl ho hs=>?_) (fun T kV doc pm an cdv ct us its oT n s hv hl ho hs=>?_) (fun vs H Q E h=>?_) (fun f cdv A outer s H vs Q E hr h=>?_)
 ·obtain⟨u,rfl,_⟩:=fR hv
  match us,hl with
  | [_,_],_=>exact BindsTo.of_defaults rfl ho hs rfl rfl
 ·obtain⟨u,rfl,_⟩:=fR hv
  have hl1:us.length=1:=by simpa using hl
  match us,hl1 with
  | [_],_=>exact BindsTo.of_defaults rfl ho hs rfl rfl
 ·obtain⟨a,b,nb,rfl,_⟩:=h
  rfl
 ·obtain⟨a,b,nb,rfl,⟨ba,bb,hnb⟩,k0,k1⟩:=h
  refine⟨_,(ag (aQ (ga (fG (cz (aA xT (hr.mono (by decide)) (by rfl) (aa (pv 0) af)))) (ga (fG (cz (aA xT (hr.mono (by decide)) (by rfl) (aa (pv 1) af)))) (eG (aC bR (pv 1) ad (aE _))))).pt (ao (ge xU (by rfl))) aF) (ag (ax (i:=2) Bg.nd rfl (Or.inl rfl) (aA xD (hr.mono (by decide)) (by rfl) (aa (pv 0) (aa (pv 1) af)))) (ag (aQ (aC cS (pv 1) ad (aE _)) (ao (ax (i:=2) Bg.nd rfl (Or.inl rfl) (dE cQ (pv 2)))) aF) (ao (aB (gK (aa (aj lK (pv 0) (pv 2)) (aa (aj lK (pv 1) (pv 2)) af)))))))),?_⟩;refine⟨_,rfl,_,_,rfl,.int a,_,rfl,fB ?_⟩;refine⟨_,rfl,_,_,rfl,.int b,_,rfl,fB ?_⟩;refine⟨_,rfl,rfl,_,rfl,?_⟩;refine aR (fun hc=>?_) (fun hc=>?_)
  ·exact k0 (by simpa using hc)
  ·have hb:b≠0:=by simpa using hc
   have hg:=gt (a:=a) (b:=b) hb;have bg:au (Int.gcd a b:Int)≤8000:=aw (jU hb bb) (by omega);refine⟨_,rfl,_,rfl,a,b,rfl,?_⟩;refine⟨_,rfl,_,_,rfl,rfl,_,rfl,?_⟩;refine aR (fun hd=>?_) (fun hd=>?_)
   ·have hlt:b<0:=by simpa using hd
    refine⟨_,rfl,_,rfl,?_⟩;refine⟨_,rfl,_,rfl,_,_,rfl,rfl,⟨by omega,bits_neg bg⟩,_,rfl,_,rfl,_,_,rfl,rfl,⟨by omega,bits_neg bg⟩,sz (by simp),fun p hp=>?_⟩;exact k1 hb p _ _ (jV hb _ (by rw[if_pos hlt])) (fu ba) (fu bb) hp
   ·have hlt:¬b<0:=by simpa using hd
    refine⟨_,rfl,_,rfl,_,_,rfl,rfl,⟨by omega,bg⟩,_,rfl,_,rfl,_,_,rfl,rfl,⟨by omega,bg⟩,sz (by simp),fun p hp=>?_⟩;exact k1 hb p _ _ (jV hb _ (by rw[if_neg hlt])) (fu ba) (fu bb) hp
theorem BQ:xo ["number"] ["number"] (ai (top 11)):=smk
theorem nq(Ay:Df K mg "sign_of" (top 11)):Fn P w K mg base "sign_of" ["number"] 1 zR:=by
 refine Ay.fn BQ (fun _ _ _ _ _ _ us hl=>by obtain⟨_,rfl⟩:=dL hl;rfl) (fun vs H Q E h=>?_) (fun f cdv A outer s H vs Q E hr h=>?_)
 ·obtain⟨n,rfl,_⟩:=h
  rfl
 ·obtain⟨n,rfl,q⟩:=h
  refine⟨_,(ag (aQ (aC iQ (pv 0) ad (aE _)) (ao (aB ad)) aF) (ag (aQ (aC cS (pv 0) ad (aE _)) (ao (aB (dE cQ ad))) aF) (ao (aB ad)))),?_⟩;unfold sg at q;refine⟨_,rfl,_,_,rfl,rfl,_,rfl,aR (fun h1=>?_) (fun h1=>?_)⟩
  ·rw[if_pos (by simpa using h1)]at q
   exact q
  ·rw[if_neg (by simpa using h1)]at q
   refine⟨_,rfl,_,_,rfl,rfl,_,rfl,aR (fun h2=>?_) (fun h2=>?_)⟩
   ·rw[if_pos (by simpa using h2)]at q
    exact⟨_,rfl,q⟩
   ·rw[if_neg (by simpa using h2)]at q
    exact q
theorem AF:xo ["number"] ["number"] (ai (top 12)):=smk
theorem gP(yB:Df K mg "signed_square" (top 12))(T:Txt mg):Fn P w K mg base "signed_square" ["number"] 1 BJ:=by
 refine yB.fn AF (fun _ _ _ _ _ _ us hl=>by obtain⟨_,rfl⟩:=dL hl;rfl) (fun vs H Q E h=>?_) (fun f cdv A outer s H vs Q E hr h=>?_)
 ·obtain⟨n,rfl,_⟩:=h
  rfl
 ·obtain⟨n,rfl,bn,q⟩:=h
  refine⟨_,(ao (aB (aj ay (pv 0) (aG gD (by rfl) T.z_abs kY (aa (pv 0) af))))),?_⟩;exact⟨_,rfl,_,rfl,_,rfl,_,_,rfl,rfl,CM.b bn (bits_abs bn) (by decide) (by decide),q⟩
theorem Aq:xo ["whole","part","under"] ["whole","part","under"] (ai (top 13)):=smk
theorem gy(yt:Df K mg "sign_with_root" (top 13))(xu:Fn P w K mg base "sign_of" ["number"] 1 zR)(xx:Fn P w K mg base "signed_square" ["number"] 1 BJ):Fn P w K mg base "sign_with_root" ["whole","part","under"] 2 BW:=by
 refine yt.fn Aq (fun _ _ _ _ _ _ us hl=>by obtain⟨_,_,_,rfl⟩:=g9 hl;rfl) (fun vs H Q E h=>?_) (fun f cdv A outer s H vs Q E hr h=>?_)
 ·obtain⟨a,p,u,rfl,_⟩:=h
  rfl
 ·obtain⟨a,p,u,rfl,⟨ba,bp,bu⟩,q⟩:=h
  refine⟨_,(ao (aB (aA xu (hr.mono (by decide)) (by rfl) (aa (aj aN (aA xx (hr.mono (by decide)) (by rfl) (aa (pv 0) af)) (aj ay (aA xx (hr.mono (by decide)) (by rfl) (aa (pv 1) af)) (pv 2))) af)))),?_⟩;exact⟨_,rfl,a,rfl,aw ba (by decide),_,rfl,p,rfl,aw bp (by decide),_,rfl,_,_,rfl,rfl,CM.b (iG bp) bu (by decide) (by decide),_,_,rfl,rfl,_,rfl,q⟩
theorem yg:xo ["whole","part","under","share","below","roots","even"] ["whole","part","under","share","below"] (ai (top 14)):=smk
theorem fK(yl:Df K mg "sign_with_roots" (top 14))(xu:Fn P w K mg base "sign_of" ["number"] 1 zR)(xx:Fn P w K mg base "signed_square" ["number"] 1 BJ)(yn:Fn P w K mg base "sign_with_root" ["whole","part","under"] 2 BW):Fn P w K mg base "sign_with_roots" ["whole","part","under","share","below"] 3 Bt:=by
 refine yl.fn yg (fun _ _ _ _ _ _ us hl=>by obtain⟨_,_,_,_,_,rfl⟩:=tm hl;rfl) (fun vs H Q E h=>?_) (fun f cdv A outer s H vs Q E hr h=>?_)
 ·obtain⟨a,p,u,c,b,rfl,_⟩:=h
  rfl
 ·obtain⟨a,p,u,c,b,rfl,⟨ba,bp,bu,bc,bb⟩,q⟩:=h
  refine⟨_,(ag (ax (i:=5) yg.nd rfl (Or.inl rfl) (aA xu (hr.mono (by decide)) (by rfl) (aa (aj aN (aj ay (aA xx (hr.mono (by decide)) (by rfl) (aa (pv 1) af)) (pv 2)) (aj ay (aA xx (hr.mono (by decide)) (by rfl) (aa (pv 3) af)) (pv 4))) af))) (ag (aQ (aC og (aj ay (aA xu (hr.mono (by decide)) (by rfl) (aa (pv 0) af)) (pv 5)) ad (aE _)) (ao (aB (aA xu (hr.mono (by decide)) (by rfl) (aa (aj aN (aA xu (hr.mono (by decide)) (by rfl) (aa (pv 0) af)) (pv 5)) af)))) aF) (ag (ax (i:=6) yg.nd rfl (Or.inl rfl) (aj aH (aj aH (aj ay (pv 0) (pv 0)) (aj ay (aj ay (pv 1) (pv 1)) (pv 2))) (aj ay (aj ay (pv 3) (pv 3)) (pv 4)))) (ao (aB (aj ay (aA xu (hr.mono (by decide)) (by rfl) (aa (pv 0) af)) (aA yn (hr.mono (by decide)) (by rfl) (aa (pv 6) (aa (aj ay (aj ay (dE cQ ad) (pv 1)) (pv 3)) (aa (aj ay (pv 2) (pv 4)) af)))))))))),?_⟩;refine⟨_,rfl,p,rfl,aw bp (by decide),_,rfl,_,_,rfl,rfl,CM.b (iG bp) bu (by decide) (by decide),_,rfl,c,rfl,aw bc (by decide),_,rfl,_,_,rfl,rfl,CM.b (iG bc) bb (by decide) (by decide),_,_,rfl,rfl,_,rfl,?_⟩;unfold cf at q;refine⟨_,rfl,a,rfl,_,rfl,_,_,rfl,rfl,CM.b (ig _) (ig _) (by decide) (by decide),_,_,rfl,rfl,_,rfl,aR (fun h1=>?_) (fun h1=>?_)⟩
  ·rw[if_pos (by simpa using h1)]at q
   exact⟨_,rfl,a,rfl,_,rfl,_,_,rfl,rfl,_,rfl,q⟩
  ·rw[if_neg (by simpa using h1)]at q
   have m2:∀{i j:Int},au i≤1000->au j≤1000->au (i*j)≤2000:=fun hi hj=>bits_mul hi hj;have m3:∀{i j:Int},au i≤2000->au j≤1000->au (i*j)≤3000:=fun hi hj=>bits_mul hi hj;have cm:∀{i j:Int},au i≤5000->au j≤5000->CM i j:=fun hi hj=>CM.b hi hj (by decide) (by decide);have w:∀{i:Int} {m:Nat},au i≤m->m≤5000->au i≤5000:=fun h hm=>aw h hm;have ba':=w ba (by decide);have bp':=w bp (by decide);have bc':=w bc (by decide);have bu':=w bu (by decide);have bb':=w bb (by decide);refine⟨_,rfl,_,rfl,_,_,rfl,rfl,cm ba' ba',_,rfl,_,rfl,_,_,rfl,rfl,cm bp' bp',_,rfl,_,_,rfl,rfl,cm (w (m2 bp bp) (by decide)) bu',_,_,rfl,rfl,_,rfl,_,rfl,_,_,rfl,rfl,cm bc' bc',_,rfl,_,_,rfl,rfl,cm (w (m2 bc bc) (by decide)) bb',_,_,rfl,rfl,?_⟩;have b2:au (-2:Int)≤1000:=aw (aW (by decide) (by decide)) (by decide);have be:au (a*a - p*p*u - c*c*b)≤8000:=aw (aL (n:=3001) (aL (n:=3000) (aw (m2 ba ba) (by decide)) (m3 (m2 bp bp) bu)) (aw (m3 (m2 bc bc) bb) (by decide))) (by decide);refine⟨_,rfl,a,rfl,_,rfl,_,rfl,_,rfl,_,_,rfl,rfl,cm (w b2 (by decide)) bp',_,rfl,_,_,rfl,rfl,cm (w (m2 b2 bp) (by decide)) bc',_,rfl,_,rfl,_,_,rfl,rfl,cm bu' bb',_,_,_,rfl,⟨be,aw (m3 (m2 b2 bp) bc) (by decide),aw (m2 bu bb) (by decide)⟩,_,_,rfl,rfl,?_,q⟩;exact CM.l (by have:=iJ a;exact wn (by omega) (by omega))
theorem Al:xo ["one","other","whole"] ["one","other"] (ai (top 15)):=smk
theorem jw(zq:Df K mg "root_order" (top 15))(yj:Fn P w K mg base "sign_with_roots" ["whole","part","under","share","below"] 3 Bt):Fn P w K mg base "root_order" ["one","other"] 4 (BZ K):=by
 refine zq.fn Al (fun _ _ _ _ _ _ us hl=>by obtain⟨_,_,rfl⟩:=dI hl;rfl) (fun vs H Q E h=>?_) (fun f cdv A outer s H vs Q E hr h=>?_)
 ·obtain⟨p,q,a0,a1,a2,a3,b0,b1,b2,b3,rfl,_⟩:=h
  rfl
 ·obtain⟨p,q,a0,a1,a2,a3,b0,b1,b2,b3,rfl,ra,rb,k⟩:=h
  have cm:∀{i j:Int},au i≤450->au j≤450->CM i j:=fun hi hj=>CM.b hi hj (by decide) (by decide);have m2:∀{i j:Int},au i≤450->au j≤450->au (i*j)≤900:=fun hi hj=>bits_mul hi hj;refine⟨_,(ag (ax (i:=2) Al.nd rfl (Or.inl rfl) (aj aH (aj ay (ar ap (pv 0) ad (fun _ _=>rfl)) (ar ap (pv 1) ad (fun _ _=>rfl))) (aj ay (ar ap (pv 1) ad (fun _ _=>rfl)) (ar ap (pv 0) ad (fun _ _=>rfl))))) (ao (aB (aA yj (hr.mono (by decide)) (by rfl) (aa (pv 2) (aa (aj ay (ar ap (pv 0) ad (fun _ _=>rfl)) (ar ap (pv 1) ad (fun _ _=>rfl))) (aa (ar ap (pv 0) ad (fun _ _=>rfl)) (aa (aj ay (dE cQ (ar ap (pv 1) ad (fun _ _=>rfl))) (ar ap (pv 0) ad (fun _ _=>rfl))) (aa (ar ap (pv 1) ad (fun _ _=>rfl)) af))))))))),?_⟩;refine⟨_,rfl,p,_,_,_,rfl,rfl,ra.at_,rfl,_,rfl,q,_,_,_,rfl,rfl,rb.at_,rfl,_,_,rfl,rfl,cm ra.b0 rb.b3,_,rfl,q,_,_,_,rfl,rfl,rb.at_,rfl,_,rfl,p,_,_,_,rfl,rfl,ra.at_,rfl,_,_,rfl,rfl,cm rb.b0 ra.b3,_,_,rfl,rfl,?_⟩;refine⟨_,rfl,_,rfl,p,_,_,_,rfl,rfl,ra.at_,rfl,_,rfl,q,_,_,_,rfl,rfl,rb.at_,rfl,_,_,rfl,rfl,cm ra.b1 rb.b3,_,rfl,p,_,_,_,rfl,rfl,ra.at_,rfl,_,rfl,q,_,_,_,rfl,rfl,rb.at_,rfl,_,rfl,_,rfl,p,_,_,_,rfl,rfl,ra.at_,rfl,_,_,rfl,rfl,cm (bits_neg rb.b1) ra.b3,_,rfl,q,_,_,_,rfl,rfl,rb.at_,rfl,?_⟩;exact⟨_,_,_,_,_,rfl,⟨aw (aL (m2 ra.b0 rb.b3) (m2 rb.b0 ra.b3)) (by decide),aw (m2 ra.b1 rb.b3) (by decide),aw ra.b2 (by decide),aw (m2 (bits_neg rb.b1) ra.b3) (by decide),aw rb.b2 (by decide)⟩,k⟩
theorem ve{n f:Int}(hn:0≤n)(hf:0<f):n<((f+n / f) / 2+1)*((f+n / f) / 2+1)∧(n<f*f->(f+n / f) / 2<f)∧0≤(f+n / f) / 2:=by
 have q0:0≤n / f:=Int.ediv_nonneg hn (by omega);have q1:n<(n / f+1)*f:=Int.lt_ediv_add_one_mul_self n hf;refine⟨?_,fun h=>?_,by omega⟩
 ·generalize eg:(f+n / f) / 2=g
  have h2:f+(n / f+1)≤2*(g+1):=by omega
  have s1:=fV (x:=f+(n / f+1)) (y:=2*(g+1)) (by omega) h2;have e1:2*(g+1)*(2*(g+1))=4*((g+1)*(g+1)):=by grind
  have e2:(f+(n / f+1))*(f+(n / f+1))=4*((n / f+1)*f)+(f - (n / f+1))*(f - (n / f+1)):=by grind
  have e3:0≤(f - (n / f+1))*(f - (n / f+1)):=by
   rcases Int.le_total 0 (f - (n / f+1)) with g0|g0
   ·exact Int.mul_nonneg g0 g0
   ·exact Int.mul_nonneg_of_nonpos_of_nonpos g0 g0
  omega
 ·have:n / f<f:=Int.ediv_lt_of_lt_mul hf h
  omega
theorem mO{n:Int}(hn:0≤n):n<((1:Int)*2^((((au n:Nat):Int)+1) / 2).toNat+1)*((1:Int)*2^((((au n:Nat):Int)+1) / 2).toNat+1)∧0<(1:Int)*2^((((au n:Nat):Int)+1) / 2).toNat:=by
 generalize ek:((((au n:Nat):Int)+1) / 2).toNat=k;have hk:au n≤k+k:=by omega
 have h1:=cF hk;have hp:(0:Int)<2^k:=Int.pow_pos (by decide);have e1:((2:Int)^k)*2^k=((2^(k+k):Nat):Int):=by rw[<- Int.pow_add];norm_cast
 rw[Int.one_mul];refine⟨?_,hp⟩;have e2:((2:Int)^k+1)*(2^k+1)=2^k*2^k+2*2^k+1:=by grind
 have h2:n<((2^(k+k):Nat):Int):=by omega
 omega
inductive A4 (vs:List V) (H:Hp) (Q:VK) (x_3:XK):Prop
 | mk:∀n:Int,(vs = [.int n])->(0≤n)->(au n≤15000)->(∀r:Int,Cm 1 n r->Q (.int r) H)->A4 vs H Q x_3
theorem fT(x:Int):ssq (-x) = -ssq x:=by
 rcases Int.lt_trichotomy x 0 with h|h|h
 ·rw[dy h,du (x:=-x) (by omega)];grind
 ·subst h;rfl
 ·rw[du (x:=x) (by omega),dy (x:=-x) (by omega)];grind
theorem gF(w m u n l:Int):cf (-w) n l (-m) u = -cf w m u (-n) l:=by
 unfold cf swr;rw[fT m,fT n,d6 w,show ssq n*l + -ssq m*u = -(ssq m*u + -ssq n*l) by grind,d6 (ssq m*u + -ssq n*l),Int.neg_mul_neg,show -w * -w - n*n*l - -m * -m*u=w*w - m*m*u - -n * -n*l by grind,show -2*n * -m = -2*m * -n by grind,Int.mul_comm l u]
 by_cases g:sg w*sg (ssq m*u + -ssq n*l)≥0
 ·rw[if_pos g,if_pos g,show -sg w + -sg (ssq m*u + -ssq n*l) = -(sg w+sg (ssq m*u + -ssq n*l)) by omega,d6]
 ·rw[if_neg g,if_neg g,Int.neg_mul]
theorem d7(a0 a1 a2 a3 b0 b1 b2 b3:Int):ro b0 b1 b2 b3 a0 a1 a2 a3=0 - ro a0 a1 a2 a3 b0 b1 b2 b3:=by
 unfold ro;have h:=gF (a0*b3 - b0*a3) (a1*b3) a2 (b1*a3) b2;rw[Int.neg_mul a1 b3,Int.neg_mul b1 a3,show b0*a3 - a0*b3 = -(a0*b3 - b0*a3) by omega,h];omega
theorem mU{n:Int}(hn:0≤n)(h:au n≤15000):au ((1:Int)*2^((((au n:Nat):Int)+1) / 2).toNat)≤7502:=by
 refine cE ?_;generalize ek:((((au n:Nat):Int)+1) / 2).toNat=k;have hk:k≤7501:=by omega
 rw[Int.one_mul,Int.natAbs_pow];show 2^k<2^7502;exact Nat.pow_lt_pow_right (by decide) (by omega)
theorem zh:xo ["number","guess"] ["number"] (ai (top 16)):=smk
theorem jD(zA:Df K mg "floor_root" (top 16)):Fn P w K mg base "floor_root" ["number"] 1 A4:=by
 refine zA.fn zh (fun _ _ _ _ _ _ us hl=>by obtain⟨_,rfl⟩:=dL hl;rfl) (fun vs H Q E h=>?_) (fun f cdv A outer s H vs Q E hr h=>?_)
 ·obtain⟨n,rfl,_⟩:=h
  rfl
 ·obtain⟨n,rfl,hn,bn,q⟩:=h
  refine⟨_,(ag (ax (i:=1) zh.nd rfl (Or.inl rfl) (aj qO ad (aj cM (aj aN (qN PySem.F.plainAttrs_int PySem.F.slot_int_bit_length PySem.F.type_int_bit_length pI (pv 0)) ad) ad))) (ag (dw PassesOwn.never (aC iQ (aj ay (pv 1) (pv 1)) (pv 0) (aE _)) (ao (ax (i:=1) zh.nd rfl (Or.inl rfl) (aj cM (aj aN (pv 1) (aj cM (pv 0) (pv 1))) ad)))) (ao (aB (pv 1))))),?_⟩;have st:=mO hn;have sb:=mU hn bn;refine⟨_,rfl,rfl,n,rfl,rfl,_,_,rfl,rfl,_,_,rfl,rfl,⟨by decide,by decide⟩,_,_,rfl,rfl,⟨Int.ediv_nonneg (by omega) (by decide),?_,by decide⟩,?_⟩
  ·show(((au n:Nat):Int)+1) / 2≤1000000
   omega
  refine dm (fun σ H'=>∃f:Int,σ = [some (.int n),some (.int f)]∧H'=H∧0≤f∧n<(f+1)*(f+1)∧au f≤7502)
   (fun σ _=>match σ with | [_,some (.int f)]=>f.toNat|_=>0) ⟨_,rfl,rfl,by omega,st.1,sb⟩ ?_ ?_
  ·rintro σ H' ⟨f,rfl,rfl,hf,hlt,bf⟩
   refine⟨_,rfl,_,rfl,_,_,rfl,rfl,CM.b bf bf (by decide) (by decide),_,rfl,_,_,rfl,rfl,_,rfl,aR (fun hc=>?_) (fun hc=>?_)⟩
   ·have hc:n<f*f:=bK hc
    have hf0:0<f:=by
     rcases Int.lt_or_eq_of_le hf with h|h
     ·exact h
     ·rw[<- h]at hc;simp at hc;omega
    obtain⟨k1,k2,k3⟩:=ve hn hf0;refine⟨_,rfl,_,rfl,_,rfl,_,_,rfl,rfl,⟨hf0,aw bf (by decide)⟩,_,_,rfl,rfl,_,_,rfl,rfl,⟨by decide,by decide⟩,⟨(f+n / f) / 2,rfl,rfl,k3,k1,bQ k3 (Int.le_of_lt (k2 hc)) bf⟩,?_⟩;have:=k2 hc;show((f+n / f) / 2).toNat<f.toNat;omega
   ·have hc:¬n<f*f:=bY hc
    refine⟨_,rfl,q f ⟨hf,by omega,by omega⟩⟩
  ·rintro σ H' Q1 Q2 hq ⟨v,e,v2,e2,i,j,e3,e4,cm,v3,e5,i2,j2,e6,e7,k,ek,r⟩
   exact⟨v,e,v2,e2,i,j,e3,e4,cm,v3,e5,i2,j2,e6,e7,k,ek,hq _ _ r⟩
inductive BK (K:W.Frag) (vs:List V) (H:Hp) (Q:VK) (x_3:XK):Prop
 | mk:∀(p:Addr) (a0 a1 a2 a3 sc:Int) (n kk k2:Nat),(vs = [.ref p,.int sc])->(Rt K H p a0 a1 a2 a3)->((0≤a2∧0<a3))->((0<sc∧au sc≤n))->((n≤4100∧au a0≤kk∧au a1≤kk∧au a2≤2*k2∧kk≤450∧k2≤500))->(∀F,SF a0 a1 a2 a3 sc F->au F≤n+kk+k2+5->Q (.int F) H)->BK K vs H Q x_3
inductive Ci (K:W.Frag) (vs:List V) (H:Hp) (Q:VK) (x_3:XK):Prop
 | mk:∀(p:Addr) (a0 a1 a2 a3 sc:Int) (n kk k2:Nat),(vs = [.ref p,.int sc])->(Rt K H p a0 a1 a2 a3)->((0≤a2∧0<a3))->((0<sc∧au sc≤n))->((n≤4100∧au a0≤kk∧au a1≤kk∧au a2≤2*k2∧kk≤450∧k2≤500))->(∀F H',SF (-a0) (-a1) a2 a3 sc F->au F≤n+kk+k2+5->Same H H'->Q (.int (-F - 1)) H')->Ci K vs H Q x_3
theorem lq{n R:Int}{m:Nat}(r:Cm 1 n R)(h:au n≤2*m):au R≤m+1:=by
 have h1:=cF h;have lo:=r.lo;have nn:=r.nn;rw[Int.one_mul]at lo;refine cE ?_;refine Classical.byContradiction fun g=>?_;have g1:2^(m+1)≤R.natAbs:=by omega
 have g2:2^(m+1)*2^(m+1)≤R.natAbs*R.natAbs:=Nat.mul_le_mul g1 g1;have e1:R.natAbs*R.natAbs=(R*R).natAbs:=(Int.natAbs_mul R R).symm;have e2:(R*R).natAbs≤n.natAbs:=by have:=Int.mul_nonneg nn nn;omega
 have e3:2^(2*m)≤2^(m+1)*2^(m+1):=by rw[<- Nat.pow_add];exact Nat.pow_le_pow_right (by decide) (by omega)
 omega
theorem jX{x s:Int}{m:Nat}(hs:0<s)(h:au x≤m):au (x / s)≤m+1:=by
 have h1:=cF h;refine cE ?_;have e:(x / s).natAbs≤x.natAbs+1:=by
  have q1:=Int.ediv_mul_le x (show s≠0 by omega);have q2:=Int.lt_ediv_add_one_mul_self x hs;generalize x / s=q at *;rcases Int.lt_or_le q 0 with g|g
  ·have a1:q*s≤q*1:=by
    have:=Int.mul_le_mul_of_nonneg_left (show(1:Int)≤s by omega) (show 0≤-q by omega);have e1:-q*s = -(q*s):=by grind
    omega
   have e2:(q+1)*s=q*s+s:=by grind
   rcases Int.lt_or_le (q+1) 0 with g2|g2
   ·have a2:(q+1)*s≤(q+1)*1:=by
     have:=Int.mul_le_mul_of_nonneg_left (show(1:Int)≤s by omega) (show 0≤-(q+1) by omega);have e1:-(q+1)*s = -((q+1)*s):=by grind
     omega
    omega
   ·omega
  ·have a1:q*1≤q*s:=Int.mul_le_mul_of_nonneg_left (by omega) g
   omega
 have:2^(m+1)=2*2^m:=by rw[Nat.pow_succ];omega
 have p:0<2^m:=Nat.pow_pos (by decide);omega
theorem yh:xo ["number","scale","under","root"] ["number","scale"] (ai (top 18)):=smk
theorem hW(yQ:Df K mg "scaled_floor" (top 18))(xX:Fn P w K mg base "floor_root" ["number"] 1 A4):Fn P w K mg base "scaled_floor" ["number","scale"] 2 (BK K):=by
 refine yQ.fn yh (fun _ _ _ _ _ _ us hl=>by obtain⟨_,_,rfl⟩:=dI hl;rfl) (fun vs H Q E h=>?_) (fun f cdv A outer s H vs Q E hr h=>?_)
 ·obtain⟨p,a0,a1,a2,a3,sc,n,kk,k2,rfl,_⟩:=h
  rfl
 ·obtain⟨p,a0,a1,a2,a3,sc,n,kk,k2,rfl,r,⟨h2,h3⟩,⟨s0,sb⟩,⟨n1,c0,c1,c2,d1,d2⟩,q⟩:=h
  refine⟨_,(ag (ax (i:=2) yh.nd rfl (Or.inl rfl) (aj ay (aj ay (aj ay (aj ay (pv 1) (pv 1)) (ar ap (pv 0) ad (fun _ _=>rfl))) (ar ap (pv 0) ad (fun _ _=>rfl))) (ar ap (pv 0) ad (fun _ _=>rfl)))) (ag (ax (i:=3) yh.nd rfl (Or.inl rfl) (aA xX (hr.mono (by decide)) (by rfl) (aa (pv 2) af))) (ag (aQ (aC cS (ar ap (pv 0) ad (fun _ _=>rfl)) ad (aE _)) (ao (ax (i:=3) yh.nd rfl (Or.inl rfl) (gj (aC bR (aj ay (pv 3) (pv 3)) (pv 2) (aE _)) (dE cQ (pv 3)) (aj aH (dE cQ (pv 3)) ad)))) aF) (ao (aB (aj cM (aj aN (aj ay (pv 1) (ar ap (pv 0) ad (fun _ _=>rfl))) (pv 3)) (ar ap (pv 0) ad (fun _ _=>rfl)))))))),?_⟩;have m1:au (sc*sc)≤n+n:=bits_mul sb sb;have m2:au (sc*sc*a1)≤n+n+kk:=bits_mul m1 c1;have m3:au (sc*sc*a1*a1)≤n+n+kk+kk:=bits_mul m2 c1;have m4:au (sc*sc*a1*a1*a2)≤2*(n+kk+k2):=aw (bits_mul m3 c2) (by omega);have n4:0≤sc*sc*a1*a1*a2:=by
   have e:sc*sc*a1*a1=sc*a1*(sc*a1):=by grind
   rw[e];have:0≤sc*a1*(sc*a1):=by
    rcases Int.lt_or_le (sc*a1) 0 with g|g
    ·exact Int.mul_nonneg_of_nonpos_of_nonpos (by omega) (by omega)
    ·exact Int.mul_nonneg g g
   exact Int.mul_nonneg this h2
  refine⟨_,rfl,_,rfl,_,_,rfl,rfl,CM.of sb sb ⟨by omega,by omega⟩,_,rfl,p,_,_,_,rfl,rfl,r.at_,rfl,_,_,rfl,rfl,CM.of m1 r.b1 ⟨by omega,by decide⟩,_,rfl,p,_,_,_,rfl,rfl,r.at_,rfl,_,_,rfl,rfl,CM.of m2 r.b1 ⟨by omega,by decide⟩,_,rfl,p,_,_,_,rfl,rfl,r.at_,rfl,_,_,rfl,rfl,CM.of m3 r.b2 ⟨by omega,by decide⟩,?_⟩;refine⟨_,rfl,_,rfl,n4,aw m4 (by omega),fun R hR=>?_⟩;have rb:au R≤n+kk+k2+1:=lq hR m4;have m5:au (sc*a0)≤n+kk:=bits_mul sb c0;have fin:∀f:Int,f=flr a1 (sc*sc*a1*a1*a2) R->au f≤n+kk+k2+2->au ((sc*a0+f) / a3)≤n+kk+k2+5:=fun f _ hf=>aw (jX h3 (br (n:=n+kk+k2+2) (aw m5 (by omega)) hf)) (by omega);have end_:∀f:Int,f=flr a1 (sc*sc*a1*a1*a2) R->au f≤n+kk+k2+2->Q (.int ((sc*a0+f) / a3)) H:=fun f e hf=>q _ ⟨R,hR,by rw[<- e]⟩ (fin f e hf);refine⟨_,rfl,p,_,_,_,rfl,rfl,r.at_,rfl,_,_,rfl,rfl,_,rfl,aR (fun e1=>?_) (fun e1=>?_)⟩
  ·have e1:a1<0:=bK e1
   refine⟨_,rfl,_,rfl,_,_,rfl,rfl,CM.of rb rb ⟨by omega,by omega⟩,_,rfl,rfl,_,rfl,aR (fun e2=>?_) (fun e2=>?_)⟩
   ·have e2:R*R=sc*sc*a1*a1*a2:=by simpa using e2
    refine⟨_,rfl,_,rfl,_,rfl,_,rfl,p,_,_,_,rfl,rfl,r.at_,rfl,_,_,rfl,rfl,CM.of sb r.b0 ⟨by omega,by decide⟩,_,rfl,_,_,rfl,rfl,_,rfl,p,_,_,_,rfl,rfl,r.at_,rfl,_,_,rfl,rfl,⟨h3,aw r.b3 (by decide)⟩,end_ (-R) ?_ (aw (bits_neg rb) (by omega))⟩;unfold flr;rw[if_pos e1,if_pos e2]
   ·have e2:¬R*R=sc*sc*a1*a1*a2:=by simpa using e2
    refine⟨_,rfl,_,rfl,_,_,rfl,rfl,_,rfl,_,rfl,p,_,_,_,rfl,rfl,r.at_,rfl,_,_,rfl,rfl,CM.of sb r.b0 ⟨by omega,by decide⟩,_,rfl,_,_,rfl,rfl,_,rfl,p,_,_,_,rfl,rfl,r.at_,rfl,_,_,rfl,rfl,⟨h3,aw r.b3 (by decide)⟩,end_ (-R - 1) ?_ (aL (n:=n+kk+k2+1) (bits_neg rb) (aw (show au 1≤1 by decide) (by omega)))⟩;unfold flr;rw[if_pos e1,if_neg e2]
  ·have e1:¬a1<0:=bY e1
   refine⟨_,rfl,_,rfl,p,_,_,_,rfl,rfl,r.at_,rfl,_,_,rfl,rfl,CM.of sb r.b0 ⟨by omega,by decide⟩,_,rfl,_,_,rfl,rfl,_,rfl,p,_,_,_,rfl,rfl,r.at_,rfl,_,_,rfl,rfl,⟨h3,aw r.b3 (by decide)⟩,end_ R ?_ (aw rb (by omega))⟩;unfold flr;rw[if_neg e1]
theorem AD:xo ["number","scale","turned"] ["number","scale"] (ai (top 19)):=smk
theorem kO(zN:Df K mg "below_all" (top 19))(xJ:Fn P w K mg base "scaled_floor" ["number","scale"] 2 (BK K)):Fn P w K mg base "below_all" ["number","scale"] 3 (Ci K):=by
 refine zN.fn AD (fun _ _ _ _ _ _ us hl=>by obtain⟨_,_,rfl⟩:=dI hl;rfl) (fun vs H Q E h=>?_) (fun f cdv A outer s H vs Q E hr h=>?_)
 ·obtain⟨p,a0,a1,a2,a3,sc,n,kk,k2,rfl,_⟩:=h
  rfl
 ·obtain⟨p,a0,a1,a2,a3,sc,n,kk,k2,rfl,r,⟨h2,h3⟩,⟨s0,sb⟩,⟨n1,c0,c1,c2,d1,d2⟩,q⟩:=h
  refine⟨_,(ag (ax (i:=2) AD.nd rfl (Or.inl rfl) (az (aa (dE cQ (ar ap (pv 0) ad (fun _ _=>rfl))) (aa (dE cQ (ar ap (pv 0) ad (fun _ _=>rfl))) (aa (ar ap (pv 0) ad (fun _ _=>rfl)) (aa (ar ap (pv 0) ad (fun _ _=>rfl)) af)))))) (ao (aB (aj aH (dE cQ (aA xJ (hr.mono (by decide)) (by rfl) (aa (pv 2) (aa (pv 1) af)))) ad)))),?_⟩;refine⟨_,rfl,p,_,_,_,rfl,rfl,r.at_,rfl,_,rfl,_,rfl,p,_,_,_,rfl,rfl,r.at_,rfl,_,rfl,_,rfl,p,_,_,_,rfl,rfl,r.at_,rfl,_,rfl,p,_,_,_,rfl,rfl,r.at_,rfl,sz (by simp),fun t H1 s1 f1 nn1=>?_⟩;exact⟨_,rfl,_,rfl,t,-a0,-a1,a2,a3,sc,n,kk,k2,rfl,⟨SqT.of f1,bits_neg r.b0,bits_neg r.b1,r.b2,r.b3⟩,⟨h2,h3⟩,⟨s0,sb⟩,⟨n1,bits_neg c0,bits_neg c1,c2,d1,d2⟩,fun F hF hb=>⟨_,rfl,_,_,rfl,rfl,q F H1 hF hb s1⟩⟩
inductive AY (vs:List V) (H:Hp) (Q:VK) (x_3:XK):Prop
 | mk:∀lo hi sc:Int,(vs = [.int lo,.int hi,.int sc])->((lo<hi∧au lo≤6020∧au hi≤6020))->((0<sc∧au sc≤4100))->(∀(l:Addr) (ts:List Int) (n:Nat) (H':Hp),Same H H'->H' l=some (.lst (ts.map V.int))->sh n lo hi sc sc=some ts->ts.length≤8210->Q (.ref l) H')->AY vs H Q x_3
theorem gM{x:Int}{n:Nat}(h:au x≤n):x<2^n:=by
 have:=cF h;have e:((2^n:Nat):Int)=2^n:=by norm_cast
 omega
theorem lZ{x y:Int}{n:Nat}(h:2*x<y)(hy:y<2^n)(h0:0<x):∃m,n=m+1∧x<2^m:=by
 cases n with
 | zero=>simp at hy;omega
 | succ m =>
  refine⟨m,rfl,?_⟩;have:(2:Int)^(m+1)=2*2^m:=by rw[Int.pow_succ];omega
  omega
def Far(lo hi b l sc:Int)(k:Nat):Prop:=(k=0∧b=sc∧l=sc)∨∃x y:Nat,hi<2^x∧lo<2^x∧b<2^y∧l<2^y∧b<lo∧l<hi∧k+x+y≤8205
theorem Far.len{lo hi b l sc:Int}{k:Nat}(h:Far lo hi b l sc k):k≤8205:=by
 rcases h with h|⟨x,y,h⟩ <;> omega
theorem Far.step{lo hi b l sc:Int}{k:Nat}(h:Far lo hi b l sc k)(sb:au sc≤4100)(hb:0<b)(hl:0<l)(s:(0<hi - lo / b*l∧hi - lo / b*l<l)∧(0<lo - lo / b*b∧lo - lo / b*b<b)):Far l b (hi - lo / b*l) (lo - lo / b*b) sc (k+1):=by
 obtain⟨⟨s1,s2⟩,s3,s4⟩:=s;rcases h with⟨rfl,rfl,rfl⟩|⟨x,y,h1,h2,h3,h4,h5,h6,h7⟩
 ·have:=gM sb
  exact .inr ⟨4100,4100,this,this,by omega,by omega,s2,s4,by omega⟩
 ·have q1:1≤lo / b:=by
   have:=Int.ediv_le_ediv hb (show b≤lo by omega);rw[Int.ediv_self (by omega)]at this;exact this
  have e1:l*1≤lo / b*l:=by rw[Int.mul_comm (lo / b)];exact Int.mul_le_mul_of_nonneg_left q1 (by omega)
  have e2:b*1≤lo / b*b:=by rw[Int.mul_comm (lo / b)];exact Int.mul_le_mul_of_nonneg_left q1 (by omega)
  obtain⟨m,rfl,hm⟩:=lZ (x:=hi - lo / b*l) (by omega) h1 s1;obtain⟨m',e,hm'⟩:=lZ (x:=lo - lo / b*b) (by omega) h2 s3;have:m=m':=by omega
  subst this;exact .inr ⟨y,m,h3,h4,hm,hm',s2,s4,by omega⟩
theorem xt:xo ["low","high","scale","terms","bottom","last","term","low_rest","high_rest"] ["low","high","scale"] (ai (top 20)):=smk
theorem hV(yP:Df K mg "shared_terms" (top 20))(T:Txt mg):Fn P w K mg base "shared_terms" ["low","high","scale"] 1 AY:=by
 refine yP.fn xt (fun _ _ _ _ _ _ us hl=>by obtain⟨_,_,_,rfl⟩:=g9 hl;rfl) (fun vs H Q E h=>?_) (fun f cdv A outer s H vs Q E hr h=>?_)
 ·obtain⟨lo,hi,sc,rfl,_⟩:=h
  rfl
 ·obtain⟨lo,hi,sc,rfl,⟨lh,bl,bh⟩,⟨s0,sb⟩,q⟩:=h
  refine⟨_,(ag (ax (i:=3) xt.nd rfl (Or.inl rfl) (bD af)) (ag (ax (i:=4) xt.nd rfl (Or.inl rfl) (pv 2)) (ag (ax (i:=5) xt.nd rfl (Or.inl rfl) (pv 2)) (ao (dw PassesOwn.never (cz fD) (ag (ax (i:=6) xt.nd rfl (Or.inl rfl) (aj cM (pv 0) (pv 4))) (ag (aQ (aC bR (aj ay (pv 6) (pv 4)) (pv 0) (aE _)) (ag (bJ (dz PySem.F.plainAttrs_list PySem.F.slot_list_append PySem.F.type_list_append aX (pv 3) (aa (pv 6) af))) (ao (aB (pv 3)))) aF) (ag (aQ (aC oe (aj ay (aj aN (pv 6) ad) (pv 5)) (pv 1) (aE _)) (ag (bJ (dz PySem.F.plainAttrs_list PySem.F.slot_list_append PySem.F.type_list_append aX (pv 3) (aa (aj aN (pv 6) ad) af))) (ao (aB (pv 3)))) aF) (ag (bJ (dz PySem.F.plainAttrs_list PySem.F.slot_list_append PySem.F.type_list_append aX (pv 3) (aa (pv 6) af))) (ag (ax (i:=7) xt.nd rfl (Or.inl rfl) (aj aH (pv 0) (aj ay (pv 6) (pv 4)))) (ag (ax (i:=8) xt.nd rfl (Or.inl rfl) (aj aH (pv 1) (aj ay (pv 6) (pv 5)))) (ag (ax (i:=0) xt.nd rfl (Or.inl rfl) (pv 5)) (ag (ax (i:=1) xt.nd rfl (Or.inl rfl) (pv 4)) (ag (ax (i:=4) xt.nd rfl (Or.inl rfl) (pv 8)) (ao (ax (i:=5) xt.nd rfl (Or.inl rfl) (pv 7))))))))))))))))),?_⟩;refine⟨sz (by simp),fun p H1 s1 f1 n1=>⟨_,rfl,_,rfl,?_⟩⟩;refine dm (fun σ H'=>∃(x y b l:Int) (ts:List Int) (z6 z7 z8:Option V),σ = [some (.int x),some (.int y),some (.int sc),some (.ref p),some (.int b),some (.int l),z6,z7,z8]∧Same H H'∧H' p=some (.lst (ts.map V.int))∧(0<b∧b≤sc)∧(0<l∧l≤sc)∧x*l<y*b∧(au x≤6020∧au y≤6020)∧Far x y b l sc ts.length∧∀us n,sh n x y b l=some us->∃m,sh m lo hi sc sc=some (ts++us))
   (fun σ _=>match σ with | [_,_,_,_,some (.int b),some (.int l),_,_,_]=>(b+l).toNat|_=>0) ⟨lo,hi,sc,sc,[],_,_,_,rfl,s1,f1,⟨s0,Int.le_refl _⟩,⟨s0,Int.le_refl _⟩,Int.mul_lt_mul_of_pos_right lh s0,⟨bl,bh⟩,.inl ⟨rfl,rfl,rfl⟩,fun us n h=>⟨n,h⟩⟩ ?_ ?_
  ·rintro σ H' ⟨x,y,b,l,ts,z6,z7,z8,rfl,sm,ft,⟨b0,b1⟩,⟨l0,l1⟩,hd,⟨bx,by'⟩,far,tl⟩
   have bb:au b≤4100:=bQ (by omega) b1 sb;have bl':au l≤4100:=bQ (by omega) l1 sb;have bq:au (x / b)≤6021:=jX b0 bx;have fl:=far.len;have sz3:∀c:Int,(ts.map V.int).length<sizeLine:=fun _=>by rw[sizeLine_eq,List.length_map];omega
   refine⟨_,rfl,iw rfl ?_⟩;refine⟨_,rfl,_,rfl,_,_,rfl,rfl,⟨b0,aw bb (by decide)⟩,?_⟩;refine⟨_,rfl,_,rfl,_,_,rfl,rfl,CM.of bq bb ⟨by decide,by decide⟩,_,rfl,rfl,_,rfl,aR (fun c1=>?_) (fun c1=>?_)⟩
   ·have c1:x / b*b=x:=by simpa using c1
    refine⟨_,rfl,.inl ⟨rfl,_,SqL.of ft⟩,_,rfl,p,_,_,rfl,rfl,ft,sz3 0,fun H2 u2=>⟨_,rfl,?_⟩⟩;obtain⟨m,hm⟩:=tl [x / b] 1 (by unfold sh;rw[if_pos c1]);exact q p (ts++[x / b]) m H2 (u2.same sm n1) (by rw[u2.now,List.map_append];rfl) hm (by simp;omega)
   ·have c1:¬x / b*b=x:=by simpa using c1
    refine⟨_,rfl,_,_,rfl,rfl,_,rfl,_,_,rfl,rfl,CM.of (br (n:=6021) bq (aw (show au 1≤1 by decide) (by decide))) bl' ⟨by decide,by decide⟩,_,rfl,_,_,rfl,rfl,_,rfl,aR (fun c2=>?_) (fun c2=>?_)⟩
    ·have c2:(x / b+1)*l≤y:=bK c2
     refine⟨_,rfl,.inl ⟨rfl,_,SqL.of ft⟩,_,rfl,_,_,rfl,rfl,p,_,_,rfl,rfl,ft,sz3 0,fun H2 u2=>⟨_,rfl,?_⟩⟩;obtain⟨m,hm⟩:=tl [x / b+1] 1 (by unfold sh;rw[if_neg c1,if_pos c2]);exact q p (ts++[x / b+1]) m H2 (u2.same sm n1) (by rw[u2.now,List.map_append];rfl) hm (by simp;omega)
    ·have c2:¬(x / b+1)*l≤y:=bY c2
     obtain⟨st1,st2,st3⟩:=st b0 l0 hd c1 c2;refine⟨_,rfl,.inl ⟨rfl,_,SqL.of ft⟩,_,rfl,p,_,_,rfl,rfl,ft,sz3 0,fun H2 u2=>?_⟩;refine⟨_,rfl,_,rfl,_,rfl,_,_,rfl,rfl,CM.of bq bb ⟨by decide,by decide⟩,_,_,rfl,rfl,?_⟩;refine⟨_,rfl,_,rfl,_,rfl,_,_,rfl,rfl,CM.of bq bl' ⟨by decide,by decide⟩,_,_,rfl,rfl,?_⟩;refine⟨_,rfl,_,rfl,_,rfl,_,rfl,⟨l,b,y - x / b*l,x - x / b*b,ts++[x / b],_,_,_,rfl,u2.same sm n1,by rw[u2.now,List.map_append];rfl,⟨st1.1,by omega⟩,⟨st2.1,by omega⟩,st3,⟨aw bl' (by decide),aw bb (by decide)⟩,by rw[List.length_append];exact far.step sb b0 l0 ⟨st1,st2⟩,fun us n h=>?_⟩,?_⟩
     ·obtain⟨m,hm⟩:=tl (x / b::us) (n+1) (by unfold sh;rw[if_neg c1,if_neg c2,h];rfl)
      exact⟨m,by rw[List.append_assoc];exact hm⟩
     ·show(y - x / b*l+(x - x / b*b)).toNat<(b+l).toNat
      omega
  ·rintro σ H' Q1 Q2 hq ⟨k,e,r⟩
   exact⟨k,e,hq _ _ r⟩
inductive C4 (vs:List V) (H:Hp) (Q:VK) (x_3:XK):Prop
 | mk:∀(l:Addr) (ts:List Int) (N:Int) (n:Nat),(vs = [.ref l])->(H l=some (.lst (ts.map V.int)))->((0<ts.length∧ts.length≤8210))->(Bd N ts)->((au N≤n∧n≤4490∧0≤N))->(∀(r:Addr) (t u:Int) (H':Hp),Same H H'->H' r=some (.tup [.int t,.int u])->ze (fr ts).1 (fr ts).2 t u->au t≤n->au u≤n->Q (.ref r) H')->C4 vs H Q x_3
theorem rP{xs:List V}(h:0<xs.length):fC xs none (some (-1))=xs.dropLast:=by
 unfold fC;rw[HT.sIx_none];have e:HT.sIx xs.length xs.length (some (-1))=xs.length - 1:=by
  unfold HT.sIx;simp;omega
 rw[e,List.dropLast_eq_take];simp
theorem iB{N x:Int}{n:Nat}(h:-N≤x∧x≤N)(hN:au N≤n)(N0:0≤N):au x≤n:=cE (Nat.lt_of_le_of_lt (by omega:x.natAbs≤N.natAbs) (cF hN))
theorem xw:xo ["terms","top","bottom","term","rest"] ["terms"] (ai (top 21)):=smk
theorem eS{C:Addr}(yb:Df K mg "fraction_of_terms" (top 21))(yE:Fx P w K mg base "ratio" ["top","bottom"] 2 [.int 1] (zD C))(T:Txt mg):Fn P w K mg base "fraction_of_terms" ["terms"] 3 C4:=by
 refine yb.fn xw (fun _ _ _ _ _ _ us hl=>by obtain⟨_,rfl⟩:=dL hl;rfl) (fun vs H Q E h=>?_) (fun f cdv A outer s H vs Q E hr h=>?_)
 ·obtain⟨l,ts,N,n,rfl,_⟩:=h
  rfl
 ·obtain⟨l,ts,N,n,rfl,hl,⟨t0,t1⟩,bd,⟨bN,n1,N0⟩,q⟩:=h
  refine⟨_,(ag (ax (i:=1) xw.nd rfl (Or.inl rfl) (ar aO (pv 0) (dE cQ ad) (fun _ _=>rfl))) (ag (ax (i:=2) xw.nd rfl (Or.inl rfl) ad) (ag (cI PassesOwn.never rfl (uY rfl T.z_reversed (gi fW (pv 0) ik (gh (dE cQ ad)))) (aY (i:=3) xw.nd rfl (Or.inl rfl)) (ag (ax (i:=4) xw.nd rfl (Or.inl rfl) (pv 2)) (ag (ax (i:=2) xw.nd rfl (Or.inl rfl) (pv 1)) (ao (ax (i:=1) xw.nd rfl (Or.inl rfl) (aj aN (aj ay (pv 3) (pv 1)) (pv 4))))))) (ao (aB (ku yE (hr.mono (by decide)) (by rfl) (aa (pv 1) (aa (pv 2) af)))))))),?_⟩;obtain⟨ti,tl,rfl⟩:∃ti tl,ts=ti++[tl]:=by
   rcases List.eq_nil_or_concat ts with h|⟨a,b,h⟩
   ·rw[h]at t0
    simp at t0
   ·exact⟨a,b,by rw[h];simp⟩
  have len:(ti++[tl]).length=ti.length+1:=by simp
  have hlast:atI ((ti++[tl]).map V.int) (-1)=some (.int tl):=by
   rw[List.map_append];exact rY _ _
  have hcut:fC ((ti++[tl]).map V.int) none (some (-1))=ti.map V.int:=by
   rw[rP (by rw[List.length_map,len];omega),List.map_append];simp
  refine⟨_,rfl,_,rfl,l,_,_,_,rfl,rfl,SqL.of hl,hlast,?_⟩;refine⟨_,rfl,_,rfl,_,rfl,l,_,rfl,SqL.of hl,fun p H1 s1 f1 m1=>?_⟩;rw[hcut]at f1;have fl:(fr ((ti++[tl]).drop ti.length))=(tl,1):=by rw[List.drop_left];rfl
  refine⟨p,_,rfl,SqL.of f1,tN (K:=K) (a:=p) (xs:=ti.map V.int) (fun i σ H'=>∃(x y:Int) (z3 z4:Option V),σ = [some (.ref l),some (.int x),some (.int y),z3,z4]∧H'=H1∧i≤ti.length∧fr ((ti++[tl]).drop (ti.length - i))=(x,y)) ⟨tl,1,_,_,rfl,rfl,Nat.zero_le _,by rw[Nat.sub_zero];exact fl⟩ ?_ ?_ ?_⟩
  ·rintro i σ H' hi ⟨x,y,z3,z4,rfl,rfl,h1,h2⟩
   exact SqL.of f1
  ·rintro i v σ H' hi hv ⟨x,y,z3,z4,rfl,rfl,h1,h2⟩
   rw[List.length_map]at hi hv;rw[List.getElem?_map]at hv;obtain⟨c,hc,rfl⟩:=Option.map_eq_some_iff.mp hv;have hj:ti.length - (i+1)<(ti++[tl]).length:=by rw[len];omega
   have hc':(ti++[tl])[ti.length - (i+1)]? = some c:=by
    rw[List.getElem?_append_left (by omega),<- hc]
    congr 1
    omega
   have e1:(ti++[tl]).drop (ti.length - (i+1))=c::(ti++[tl]).drop (ti.length - i):=by
    obtain⟨a1,a2⟩:=List.getElem?_eq_some_iff.mp hc';rw[List.drop_eq_getElem_cons a1,a2]
    congr 1
    congr 1
    omega
   have ne:(ti++[tl]).drop (ti.length - i)≠[]:=fun z=>by
    have:=congrArg List.length z;rw[List.length_drop,len]at this;simp at this;omega
   have bt:=(bd.f (ti.length - i) (by rw[len];omega)).1;rw[h2]at bt;have bx:au x≤n:=iB bt bN N0;have bc:au c≤n:=iB (bd.c c (List.mem_of_getElem? hc')) bN N0;refine⟨_,rfl,_,rfl,_,rfl,_,rfl,_,_,rfl,rfl,CM.of bc bx ⟨by omega,by omega⟩,_,rfl,_,_,rfl,rfl,c*x+y,x,_,_,rfl,rfl,by omega,?_⟩;rw[e1,oI ne,h2]
  ·rintro σ H' ⟨x,y,z3,z4,rfl,rfl,h1,h2⟩
   rw[List.length_map,Nat.sub_self,List.drop_zero]at h2;have b0:=bd.f 0 (by omega);rw[List.drop_zero,h2]at b0;have bx:au x≤n:=iB b0.1 bN N0;have by':au y≤n:=iB ⟨by have:=b0.2.1;omega,b0.2.2⟩ bN N0;refine⟨_,rfl,_,rfl,x,y,n,rfl,⟨bx,by',by omega⟩,fun z=>?_,fun _ r t u fr' c1 c2 nr=>?_⟩
   ·have:=b0.2.1
    have z:y=0:=z;omega
   ·rw[h2]at q
    exact q r t u _ (s1.trans (Same.new nr)) upd_same fr' c1 c2
theorem nY{K:W.Frag}{H H':Hp}{p:Addr}{a0 a1 a2 a3:Int}(r:Rt K H p a0 a1 a2 a3)(s:Same H H'):Rt K H' p a0 a1 a2 a3:=⟨iH r.at_ s,r.b0,r.b1,r.b2,r.b3⟩
structure Du(a0 a1 a2 a3 b0 b1 b2 b3:Int)(kk k2:Nat):Prop where
 a2n:0≤a2
 a3p:0<a3
 b2n:0≤b2
 b3p:0<b3
 x0:au a0≤kk
 x1:au a1≤kk
 x2:au a2≤2*k2
 y0:au b0≤kk
 y1:au b1≤kk
 y2:au b2≤2*k2
 hk:kk≤450
 h2:k2≤500
inductive C3 (K:W.Frag) (vs:List V) (H:Hp) (Q:VK) (x_3:XK):Prop
 | mk:∀(p q:Addr) (a0 a1 a2 a3 b0 b1 b2 b3:Int) (kk k2 J n:Nat),(vs = [.ref p,.ref q])->(Rt K H p a0 a1 a2 a3)->(Rt K H q b0 b1 b2 b3)->(Du a0 a1 a2 a3 b0 b1 b2 b3 kk k2)->((2^J+1+kk+k2+8≤n∧n≤4490∧2^J≤4099))->((∀F G,Rm a0 a1 a2 a3 b0 b1 b2 b3 J F G->F+1+2≤-G - 1))->(∀(r:Addr) (t u:Int) (H':Hp),Same H H'->H' r=some (.tup [.int t,.int u])->Wi a0 a1 a2 a3 b0 b1 b2 b3 t u->au t≤n->au u≤n->Q (.ref r) H')->C3 K vs H Q x_3
theorem uS(i:Nat):(1:Int)*2^((2:Int)^i).toNat=scl i:=by
 have:((2:Int)^i).toNat=2^i:=by
  have e:((2^i:Nat):Int)=(2:Int)^i:=by norm_cast
  rw[<- e];exact Int.toNat_natCast _
 rw[this,Int.one_mul];rfl
theorem fZ(i:Nat):au (scl i)≤2^i+1:=by
 refine cE ?_;unfold scl;rw[Int.natAbs_pow];exact Nat.pow_lt_pow_right (by decide) (by omega)
theorem iL(i:Nat):((2^i:Nat):Int)=(2:Int)^i:=by norm_cast
theorem xB:xo ["one","other","bits","scale","low","high"] ["one","other"] (ai (top 22)):=smk
theorem fL(ym:Df K mg "fraction_within" (top 22))(xJ:Fn P w K mg base "scaled_floor" ["number","scale"] 2 (BK K))(zI:Fn P w K mg base "below_all" ["number","scale"] 3 (Ci K))(xZ:Fn P w K mg base "fraction_of_terms" ["terms"] 3 C4)(yI:Fn P w K mg base "shared_terms" ["low","high","scale"] 1 AY):Fn P w K mg base "fraction_within" ["one","other"] 4 (C3 K):=by
 refine ym.fn xB (fun _ _ _ _ _ _ us hl=>by obtain⟨_,_,rfl⟩:=dI hl;rfl) (fun vs H Q E h=>?_) (fun f cdv A outer s H vs Q E hr h=>?_)
 ·obtain⟨p,q,a0,a1,a2,a3,b0,b1,b2,b3,kk,k2,J,n,rfl,_⟩:=h
  rfl
 ·obtain⟨p,q,a0,a1,a2,a3,b0,b1,b2,b3,kk,k2,J,n,rfl,rp,rq,tw,⟨j1,j2,j3⟩,top,k⟩:=h
  refine⟨_,(ag (ax (i:=2) xB.nd rfl (Or.inl rfl) ad) (ao (dw PassesOwn.never (cz fD) (ag (ax (i:=3) xB.nd rfl (Or.inl rfl) (aj qO ad (pv 2))) (ag (ax (i:=4) xB.nd rfl (Or.inl rfl) (aj aN (aA xJ (hr.mono (by decide)) (by rfl) (aa (pv 0) (aa (pv 3) af))) ad)) (ag (ax (i:=5) xB.nd rfl (Or.inl rfl) (aA zI (hr.mono (by decide)) (by rfl) (aa (pv 1) (aa (pv 3) af)))) (ag (aQ (aC oe (aj aN (pv 4) ad) (pv 5) (aE _)) (ao (aB (aA xZ (hr.mono (by decide)) (by rfl) (aa (aA yI (hr.mono (by decide)) (by rfl) (aa (pv 4) (aa (pv 5) (aa (pv 3) af)))) af)))) aF) (ao (ax (i:=2) xB.nd rfl (Or.inl rfl) (aj ay (pv 2) ad)))))))))),?_⟩;refine dm (fun σ H'=>∃(i:Nat) (z3 z4 z5:Option V),σ = [some (.ref p),some (.ref q),some (.int (2^i)),z3,z4,z5]∧i≤J∧Same H H'∧∀i',i'<i->∀F' G',Rm a0 a1 a2 a3 b0 b1 b2 b3 i' F' G'->¬F'+1+2≤-G' - 1)
   (fun σ _=>match σ with | [_,_,some (.int B),_,_,_]=>((2:Int)^J+1 - B).toNat|_=>0) ⟨0,_,_,_,rfl,Nat.zero_le _,Same.refl _,fun i' h=>absurd h (by omega)⟩ ?_ ?_
  ·rintro σ H' ⟨i,z3,z4,z5,rfl,hi,sm,no⟩
   have pw:2^i≤2^J:=Nat.pow_le_pow_right (by decide) hi;have pi:0<2^i:=Nat.pow_pos (by decide);have pc:=iL i;have rp':=nY rp sm;have rq':=nY rq sm;refine⟨_,rfl,iw rfl ?_⟩;refine⟨_,rfl,_,_,rfl,rfl,⟨by omega,by show(2:Int)^i≤1000000;omega,by decide⟩,?_⟩;rw[uS];refine⟨_,rfl,_,rfl,p,a0,a1,a2,a3,scl i,2^i+1,kk,k2,rfl,rp',⟨tw.a2n,tw.a3p⟩,⟨dh i,fZ i⟩,⟨by omega,tw.x0,tw.x1,tw.x2,tw.hk,tw.h2⟩,fun F hF bF=>⟨_,_,rfl,rfl,?_⟩⟩;refine⟨_,rfl,_,rfl,q,b0,b1,b2,b3,scl i,2^i+1,kk,k2,rfl,rq',⟨tw.b2n,tw.b3p⟩,⟨dh i,fZ i⟩,⟨by omega,tw.y0,tw.y1,tw.y2,tw.hk,tw.h2⟩,fun G H1 hG bG s1=>?_⟩;refine⟨_,rfl,_,_,rfl,rfl,_,rfl,_,_,rfl,rfl,_,rfl,aR (fun c1=>?_) (fun c1=>?_)⟩
   ·have c1:F+1+2≤-G - 1:=bK c1
    have hk:=tw.hk;have h2:=tw.h2;have bl:au (F+1)≤2^i+1+kk+k2+6:=br bF (aw (show au 1≤1 by decide) (by omega));have bh:au (-G - 1)≤2^i+1+kk+k2+6:=aL (bits_neg bG) (aw (show au 1≤1 by decide) (by omega));refine⟨_,rfl,_,rfl,_,rfl,F+1,-G - 1,scl i,rfl,⟨by omega,aw bl (by omega),aw bh (by omega)⟩,⟨dh i,aw (fZ i) (by omega)⟩,fun l ts m H2 s2 f2 hs ln=>?_⟩;have hd:(F+1)*scl i<(-G - 1)*scl i:=Int.mul_lt_mul_of_pos_right (by omega) (dh i);have e1:=gM bl;have e2:=gM bh;have e3:=gM (bits_neg bl);have e4:=gM (bits_neg bh);have e5:=gM (aw (n:=2^i+1+kk+k2+6) (fZ i) (by omega));have bd:=uq (N:=2^(2^i+1+kk+k2+6)) (dh i) (dh i) hd ⟨by omega,by omega⟩ ⟨by omega,by omega⟩ (by omega) (by omega) hs;have ne:=(nW (dh i) (dh i) hd hs).1;have N0:(0:Int)<2^(2^i+1+kk+k2+6):=Int.pow_pos (by decide);have bN:au ((2:Int)^(2^i+1+kk+k2+6)+1)≤n:=by
     refine aw (br (n:=2^i+1+kk+k2+7) (cE ?_) (aw (show au 1≤1 by decide) (by omega))) (by omega);rw[Int.natAbs_pow];exact Nat.pow_lt_pow_right (by decide) (by omega)
    exact⟨l,ts,_,n,rfl,f2,⟨List.length_pos_iff.mpr ne,ln⟩,bd,⟨bN,j2,by omega⟩,fun r t u H3 s3 f3 hf c2 c3=>k r t u H3 (sm.trans (s1.trans (s2.trans s3))) f3 ⟨i,F,G,ts,m,⟨hF,hG⟩,c1,no,hs,hf⟩ c2 c3⟩
   ·have c1:¬F+1+2≤-G - 1:=bY c1
    have ij:i≠J:=fun z=>by
     subst z;exact c1 (top F G ⟨hF,hG⟩)
    have pw2:2^(i+1)≤2^J:=Nat.pow_le_pow_right (by decide) (by omega);have pc2:=iL (i+1);have pcJ:=iL J;have e:(2:Int)^i*2=2^(i+1):=by rw[Int.pow_succ]
    refine⟨_,rfl,_,_,rfl,rfl,CM.r ⟨by decide,by decide⟩,?_⟩;rw[e];refine⟨⟨i+1,_,_,_,rfl,by omega,sm.trans s1,fun i' h F' G' hR=>?_⟩,?_⟩
    ·rcases Nat.lt_or_eq_of_le (Nat.le_of_lt_succ h) with g|g
     ·exact no i' g F' G' hR
     ·subst g
      rw[hR.1.uniq hF,hR.2.uniq hG];exact c1
    ·show((2:Int)^J+1 - 2^(i+1)).toNat<((2:Int)^J+1 - 2^i).toNat
     omega
  ·rintro σ H' Q1 Q2 hq ⟨k,e,r⟩
   exact⟨k,e,hq _ _ r⟩
inductive B6 (K:W.Frag) (C:Addr) (vs:List V) (H:Hp) (Q:VK) (E:XK):Prop
 | mk:∀(p:Addr) (a0 a1 a2 a3:Int),(vs = [.ref p])->(Rt K H p a0 a1 a2 a3)->((0≤a2∧0<a3))->(∀R,Cm 1 (a1*a1*a2) R->(R*R≠a1*a1*a2->E (.ref C) none H) ∧
 (R*R=a1*a1*a2->∀(r:Addr) (t u:Int) (H':Hp),Same H H'->H' r=some (.tup [.int t,.int u])->ze (a0+sg a1*R) a3 t u->au t≤1500->au u≤1500->Q (.ref r) H'))->B6 K C vs H Q E
inductive CT (K:W.Frag) (C:Addr) (vs:List V) (H:Hp) (Q:VK) (E:XK):Prop
 | mk:∀(p q:Addr) (a0 a1 a2 a3 b0 b1 b2 b3:Int) (kk k2 J n:Nat),(vs = [.ref p,.ref q])->(Rt K H p a0 a1 a2 a3)->(Rt K H q b0 b1 b2 b3)->(Du a0 a1 a2 a3 b0 b1 b2 b3 kk k2)->((2^J+1+kk+k2+8≤n∧n≤4490∧2^J≤4099))->((0<ro a0 a1 a2 a3 b0 b1 b2 b3->E (.ref C) none H))->((ro a0 a1 a2 a3 b0 b1 b2 b3=0->∀R,Cm 1 (a1*a1*a2) R->(R*R≠a1*a1*a2->E (.ref C) none H)∧(R*R=a1*a1*a2->∀(r:Addr) (t u:Int) (H':Hp),Same H H'->H' r=some (.tup [.int t,.int u])->ze (a0+sg a1*R) a3 t u->au t≤1500->au u≤1500->Q (.ref r) H')))->((ro a0 a1 a2 a3 b0 b1 b2 b3<0->(∀F G,Rm a0 a1 a2 a3 b0 b1 b2 b3 J F G->F+1+2≤-G - 1)∧∀(r:Addr) (t u:Int) (H':Hp),Same H H'->H' r=some (.tup [.int t,.int u])->Wi a0 a1 a2 a3 b0 b1 b2 b3 t u->au t≤n->au u≤n->Q (.ref r) H'))->CT K C vs H Q E
theorem uO(x:Int):0≤x*x:=by
 rcases Int.lt_or_le x 0 with g|g
 ·exact Int.le_of_lt (Int.mul_pos_of_neg_of_neg g g)
 ·exact Int.mul_nonneg g g
theorem yF:xo ["number","under","root"] ["number"] (ai (top 17)):=smk
theorem hZ{C:Addr}(yT:Df K mg "own_fraction" (top 17))(xU:AS K mg "NoRatio" C)(xX:Fn P w K mg base "floor_root" ["number"] 1 A4)(xu:Fn P w K mg base "sign_of" ["number"] 1 zR)(yE:Fx P w K mg base "ratio" ["top","bottom"] 2 [.int 1] (zD C)):Fx P w K mg base "own_fraction" ["number"] 3 [] (B6 K C):=by
 refine yT.fx yF (fun _ _ _ _ _ _ us hl=>by obtain⟨_,rfl⟩:=dL hl;rfl) (fun vs H Q E h=>?_) (fun f cdv A outer s H vs Q E hr h=>?_)
 ·obtain⟨p,a0,a1,a2,a3,rfl,_⟩:=h
  rfl
 ·obtain⟨p,a0,a1,a2,a3,rfl,r,⟨h2,h3⟩,k⟩:=h
  refine⟨_,(ag (ax (i:=1) yF.nd rfl (Or.inl rfl) (aj ay (aj ay (ar ap (pv 0) ad (fun _ _=>rfl)) (ar ap (pv 0) ad (fun _ _=>rfl))) (ar ap (pv 0) ad (fun _ _=>rfl)))) (ag (ax (i:=2) yF.nd rfl (Or.inl rfl) (aA xX (hr.mono (by decide)) (by rfl) (aa (pv 1) af))) (ag (aQ (aC gU (aj ay (pv 2) (pv 2)) (pv 1) (aE _)) (ao (ge xU (by rfl))) aF) (ao (aB (qL yE (hr.mono (by decide)) (by rfl) (aa (aj aN (ar ap (pv 0) ad (fun _ _=>rfl)) (aj ay (aA xu (hr.mono (by decide)) (by rfl) (aa (ar ap (pv 0) ad (fun _ _=>rfl)) af)) (pv 2))) (aa (ar ap (pv 0) ad (fun _ _=>rfl)) af)))))))),?_⟩;have m1:au (a1*a1)≤900:=bits_mul r.b1 r.b1;have m2:au (a1*a1*a2)≤1900:=bits_mul m1 r.b2;have n2:0≤a1*a1*a2:=Int.mul_nonneg (uO a1) h2;refine⟨_,rfl,p,_,_,_,rfl,rfl,r.at_,rfl,_,rfl,p,_,_,_,rfl,rfl,r.at_,rfl,_,_,rfl,rfl,CM.of r.b1 r.b1 ⟨by decide,by decide⟩,_,rfl,p,_,_,_,rfl,rfl,r.at_,rfl,_,_,rfl,rfl,CM.of m1 r.b2 ⟨by decide,by decide⟩,?_⟩;refine⟨_,rfl,_,rfl,n2,aw m2 (by decide),fun R hR=>?_⟩;obtain⟨k1,k2⟩:=k R hR;have rb:au R≤951:=lq hR m2;refine⟨_,rfl,_,rfl,_,_,rfl,rfl,CM.of rb rb ⟨by decide,by decide⟩,_,rfl,rfl,_,rfl,aR (fun c=>?_) (fun c=>?_)⟩
  ·exact k1 (by simpa using c)
  ·have c:R*R=a1*a1*a2:=by simpa using c
   refine⟨_,rfl,p,_,_,_,rfl,rfl,r.at_,rfl,_,rfl,p,_,_,_,rfl,rfl,r.at_,rfl,a1,rfl,_,rfl,_,_,rfl,rfl,CM.of (ig a1) rb ⟨by decide,by decide⟩,_,_,rfl,rfl,_,rfl,p,_,_,_,rfl,rfl,r.at_,rfl,_,_,1500,rfl,⟨aw (br (n:=961) (aw r.b0 (by decide)) (bits_mul (ig a1) rb)) (by decide),aw r.b3 (by decide),by decide⟩,fun z=>absurd z (by omega),fun _ p2 t u fr c1 c2 np=>k2 c p2 t u _ (Same.new np) upd_same fr c1 c2⟩
theorem zF:xo ["one","other","order"] ["one","other"] (ai (top 23)):=smk
theorem hX{C:Addr}(yR:Df K mg "root_between" (top 23))(xU:AS K mg "NoRatio" C)(xv:Fn P w K mg base "root_order" ["one","other"] 4 (BZ K))(yL:Fx P w K mg base "own_fraction" ["number"] 3 [] (B6 K C))(yk:Fn P w K mg base "fraction_within" ["one","other"] 4 (C3 K)):Fx P w K mg base "root_between" ["one","other"] 5 [] (CT K C):=by
 refine yR.fx zF (fun _ _ _ _ _ _ us hl=>by obtain⟨_,_,rfl⟩:=dI hl;rfl) (fun vs H Q E h=>?_) (fun f cdv A outer s H vs Q E hr h=>?_)
 ·obtain⟨p,q,a0,a1,a2,a3,b0,b1,b2,b3,kk,kq,J,n,rfl,_⟩:=h
  rfl
 ·obtain⟨p,q,a0,a1,a2,a3,b0,b1,b2,b3,kk,kq,J,n,rfl,rp,rq,tw,j,k1,k2,k3⟩:=h
  refine⟨_,(ag (ax (i:=2) zF.nd rfl (Or.inl rfl) (aA xv (hr.mono (by decide)) (by rfl) (aa (pv 0) (aa (pv 1) af)))) (ag (aQ (aC iQ (pv 2) ad (aE _)) (ao (ge xU (by rfl))) aF) (ag (aQ (aC bR (pv 2) ad (aE _)) (ao (aB (qL yL (hr.mono (by decide)) (by rfl) (aa (pv 0) af)))) aF) (ao (aB (aA yk (hr.mono (by decide)) (by rfl) (aa (pv 0) (aa (pv 1) af)))))))),?_⟩;refine⟨_,rfl,_,rfl,p,q,a0,a1,a2,a3,b0,b1,b2,b3,rfl,rp,rq,?_⟩;refine⟨_,rfl,_,_,rfl,rfl,_,rfl,aR (fun c=>?_) (fun c=>?_)⟩
  ·exact k1 (bK c)
  ·have c:¬0<ro a0 a1 a2 a3 b0 b1 b2 b3:=bY c
   refine⟨_,rfl,rfl,_,rfl,aR (fun d=>?_) (fun d=>?_)⟩
   ·exact⟨_,rfl,p,a0,a1,a2,a3,rfl,rp,⟨tw.a2n,tw.a3p⟩,k2 (by simpa using d)⟩
   ·have d:¬ro a0 a1 a2 a3 b0 b1 b2 b3=0:=by simpa using d
    obtain⟨k4,k5⟩:=k3 (by omega);exact⟨_,rfl,_,rfl,p,q,a0,a1,a2,a3,b0,b1,b2,b3,kk,kq,J,n,rfl,rp,rq,tw,j,k4,k5⟩
theorem Da:xo ["a","b"] ["a","b"] (ai (top 8)):=smk
theorem tP{C:Addr}(BG:Df K mg "plus" (top 8))(yE:Fx P w K mg base "ratio" ["top","bottom"] 2 [.int 1] (zD C)):Fn P w K mg base "plus" ["a","b"] 3 (Ch (fun a b c d=>a*d+c*b) (fun a b c d=>b*d)):=by
 refine BG.fn Da (fun _ _ _ _ _ _ us hl=>by obtain⟨_,_,rfl⟩:=dI hl;rfl) (fun vs H Q E h=>?_) (fun f cdv A outer s H vs Q E hr h=>?_)
 ·obtain⟨p,q,a,b,c,d,n,rfl,_⟩:=h
  rfl
 ·obtain⟨p,q,a,b,c,d,n,rfl,fp,fq,hn,hden,k⟩:=h
  have ep:=fp.at_;have eq:=fq.at_;have cm:∀{i j:Int},au i≤n->au j≤n->CM i j:=fun hi hj=>CM.b hi hj (Nat.le_trans hn (by decide)) (Nat.le_trans hn (by decide));have fin:∀(r:Addr) (t u:Int),ze (a*d+c*b) (b*d) t u->au t≤2*n+1->au u≤2*n+1->H r=none->Q (.ref r) (upd H r (.tup [.int t,.int u])):=fun r t u fr bt bu hr'=>by
   obtain⟨H1,e1,s1,f1⟩:=grow (o:=.tup [.int t,.int u]) hr';rw[e1];exact k r t u H1 fr ⟨f1,fr.low,bt,bu⟩ s1
  refine⟨_,(ao (aB (ku yE (hr.mono (by decide)) (by rfl) (aa (aj aN (aj ay (ar ap (pv 0) ad (fun _ _=>rfl)) (ar ap (pv 1) ad (fun _ _=>rfl))) (aj ay (ar ap (pv 1) ad (fun _ _=>rfl)) (ar ap (pv 0) ad (fun _ _=>rfl)))) (aa (aj ay (ar ap (pv 0) ad (fun _ _=>rfl)) (ar ap (pv 1) ad (fun _ _=>rfl))) af))))),?_⟩;refine⟨_,rfl,p,_,_,_,rfl,rfl,SqT.of ep,rfl,_,rfl,q,_,_,_,rfl,rfl,SqT.of eq,rfl,_,_,rfl,rfl,cm fp.ba fq.bb,_,rfl,q,_,_,_,rfl,rfl,SqT.of eq,rfl,_,rfl,p,_,_,_,rfl,rfl,SqT.of ep,rfl,_,_,rfl,rfl,cm fq.ba fp.bb,_,_,rfl,rfl,?_⟩;refine⟨_,rfl,p,_,_,_,rfl,rfl,SqT.of ep,rfl,_,rfl,q,_,_,_,rfl,rfl,SqT.of eq,rfl,_,_,rfl,rfl,cm fp.bb fq.bb,_,_,2*n+1,rfl,⟨aw (br (n:=2*n) (aw (bits_mul fp.ba fq.bb) (by omega)) (aw (bits_mul fq.ba fp.bb) (by omega))) (by omega),aw (bits_mul fp.bb fq.bb) (by omega),by omega⟩,fun z=>absurd z hden,fun _ r t u fr bt bu hr'=>fin r t u fr bt bu hr'⟩
theorem BD:xo ["thing"] ["thing"] (ai (top 9)):=smk
theorem mo(Ai:Df K mg "is_ratio" (top 9))(xT:Fn P w K mg base "is_whole" ["thing"] 1 AG)(xD:Fn P w K mg base "common_divisor" ["one","other"] 1 BN)(T:Txt mg):Fn P w K mg base "is_ratio" ["thing"] 2 Cb:=by
 refine Ai.fn BD (fun _ _ _ _ _ _ us hl=>by obtain⟨_,rfl⟩:=dL hl;rfl) (fun vs H Q E h=>?_) (fun f cdv A outer s H vs Q E hr h=>?_)
 ·obtain⟨x,rfl,_⟩:=h
  rfl
 ·obtain⟨x,rfl,th,q⟩:=h
  obtain⟨t,k⟩:=th.kn;refine⟨_,(ag (aQ (ga (fG (cz (aG dQ (by rfl) T.z_isinstance dj (aa (pv 0) (aa (oa T.z_tuple mF) af))))) (eG (aC gU (aG aI (by rfl) T.z_len bE (aa (pv 0) af)) ad (aE _)))).pt (ao (aB fD)) aF) (ag (aQ (ga (fG (cz (aA xT (hr.mono (by decide)) (by rfl) (aa (ar ap (pv 0) ad (fun _ _=>rfl)) af)))) (eG (fG (cz (aA xT (hr.mono (by decide)) (by rfl) (aa (ar ap (pv 0) ad (fun _ _=>rfl)) af)))))).pt (ao (aB fD)) aF) (ao (aB (iO (cW og (ar ap (pv 0) ad (fun _ _=>rfl)) ad (aE _)) (fH (cW bR (aA xD (hr.mono (by decide)) (by rfl) (aa (ar ap (pv 0) ad (fun _ _=>rfl)) (aa (ar ap (pv 0) ad (fun _ _=>rfl)) af))) ad (aE _)))))))),?_⟩;refine⟨_,rfl,x,t,"tuple",rfl,k,.inr (.inr (.inl rfl)),_,rfl,?_⟩;rcases Kn.cases_tup k with⟨p,xs,rfl,e,rfl⟩|⟨hl,hs⟩
  ·-- a tuple
   rw[qX e]at q;refine fB ?_;refine⟨_,rfl,p,xs,rfl,.inr (SqT.of e),rfl,_,rfl,?_⟩;refine aR (fun hc=>?_) (fun hc=>?_)
   ·have hn:xs.length≠2:=by
     intro z;rw[z]at hc;exact absurd hc (by decide)
    rw[q9 hn]at q;exact q
   ·have hn:xs.length=2:=by
     have z:(xs.length:Int)=2:=by simpa using hc
     omega
    match xs,hn,e,q with
    | [y,z],_,e,q =>
     obtain⟨ty,ky⟩:=th.parts p _ rfl e y (by simp);obtain⟨tz,kz⟩:=th.parts p _ rfl e z (by simp);refine⟨_,rfl,p,_,_,_,rfl,rfl,SqT.of e,rfl,y,ty,rfl,ky,_,rfl,?_⟩;rcases Kn.cases_int ky with⟨a,rfl,rfl⟩|⟨ny,ey⟩
     ·refine fB ?_
      refine⟨_,rfl,p,_,_,_,rfl,rfl,SqT.of e,rfl,z,tz,rfl,kz,_,rfl,?_⟩;rcases Kn.cases_int kz with⟨b,rfl,rfl⟩|⟨nz,ez⟩
      ·refine fB ?_
       refine⟨_,rfl,p,_,_,_,rfl,rfl,SqT.of e,rfl,b,1,rfl,rfl,_,rfl,?_⟩;have q':Q (.bl (lowB a b)) H:=q;unfold lowB at q';refine aR (fun hc=>?_) (fun hc=>?_)
       ·refine⟨_,rfl,p,_,_,_,rfl,rfl,SqT.of e,rfl,_,rfl,p,_,_,_,rfl,rfl,SqT.of e,rfl,a,b,rfl,rfl,?_⟩
        rw[hc,Bool.true_and]at q';have e1:decide (V.int (Int.gcd a b:Int)=V.int 1)=decide (Int.gcd a b=1):=by
         rw[Bool.eq_iff_iff];simp;omega
        rw[<- e1]at q';exact q'
       ·rw[hc,Bool.false_and]at q'
        exact q'
      ·rw[ez,qZ nz]at *
       exact q
     ·rw[ey,rf ny]at *
      exact q
  ·rw[hs]
   rw[hl]at q;exact q
theorem BR:xo ["line"] ["line"] (ai (top 32)):=smk
theorem nA(AA:Df K mg "last_of" (top 32))(T:Txt mg):Fn P w K mg base "last_of" ["line"] 1 Ba:=by
 refine AA.fn BR (fun _ _ _ _ _ _ us hl=>by obtain⟨_,rfl⟩:=dL hl;rfl) (fun vs H Q E h=>?_) (fun f cdv A outer s H vs Q E hr h=>?_)
 ·obtain⟨p,xs,rfl,_⟩:=h
  rfl
 ·obtain⟨p,xs,rfl,e,q⟩:=h
  exact⟨_,(ao (aB (aj aH (aG aI (by rfl) T.z_len bE (aa (pv 0) af)) ad))),_,rfl,p,xs,rfl,.inl (SqL.of e),_,_,rfl,rfl,q⟩
theorem yX:xo ["one","other","square","across","up"] ["one","other","square"] (ai (top 28)):=smk
theorem jd(zb:Df K mg "leash_order" (top 28))(xu:Fn P w K mg base "sign_of" ["number"] 1 zR):Fn P w K mg base "leash_order" ["one","other","square"] 2 Cr:=by
 refine zb.fn yX (fun _ _ _ _ _ _ us hl=>by obtain⟨_,_,_,rfl⟩:=g9 hl;rfl) (fun vs H Q E h=>?_) (fun f cdv A outer s H vs Q E hr h=>?_)
 ·obtain⟨p,q,r,x,y,x',y',a,b,rfl,_⟩:=h
  rfl
 ·obtain⟨p,q,r,x,y,x',y',a,b,rfl,⟨e1,b1,b2⟩,⟨e2,b3,b4⟩,⟨e3,b5,b6⟩,k⟩:=h
  refine⟨_,(ag (ax (i:=3) yX.nd rfl (Or.inl rfl) (aj aH (ar ap (pv 1) ad (fun _ _=>rfl)) (ar ap (pv 0) ad (fun _ _=>rfl)))) (ag (ax (i:=4) yX.nd rfl (Or.inl rfl) (aj aH (ar ap (pv 1) ad (fun _ _=>rfl)) (ar ap (pv 0) ad (fun _ _=>rfl)))) (ao (aB (aA xu (hr.mono (by decide)) (by rfl) (aa (aj aH (ar ap (pv 2) ad (fun _ _=>rfl)) (aj ay (aj aN (aj ay (pv 3) (pv 3)) (aj ay (pv 4) (pv 4))) (ar ap (pv 2) ad (fun _ _=>rfl)))) af)))))),?_⟩
  walk_at "rd"
  exact k
theorem xK:xo ["corner","begin","end","square","across","up","away_across","away_up","length","along","beside","under"] ["corner","begin","end","square"] (ai (top 29)):=smk
theorem l7(zZ:Df K mg "reach_of" (top 29)):Fn P w K mg base "reach_of" ["corner","begin","end","square"] 1 A6:=by
 refine zZ.fn xK (fun _ _ _ _ _ _ us hl=>by obtain⟨_,_,_,_,rfl⟩:=rh hl;rfl) (fun vs H Q E h=>?_) (fun f cdv A outer s H vs Q E hr h=>?_)
 ·obtain⟨pc,pb,pe,ps,cx,cy,bx,by_,ex,ey,a,b,rfl,_⟩:=h
  rfl
 ·obtain⟨pc,pb,pe,ps,cx,cy,bx,by_,ex,ey,a,b,rfl,⟨e1,b1,b2⟩,⟨e2,b3,b4⟩,⟨e3,b5,b6⟩,⟨e4,b7,b8⟩,k⟩:=h
  refine⟨_,(ag (ax (i:=4) xK.nd rfl (Or.inl rfl) (aj aH (ar ap (pv 2) ad (fun _ _=>rfl)) (ar ap (pv 1) ad (fun _ _=>rfl)))) (ag (ax (i:=5) xK.nd rfl (Or.inl rfl) (aj aH (ar ap (pv 2) ad (fun _ _=>rfl)) (ar ap (pv 1) ad (fun _ _=>rfl)))) (ag (ax (i:=6) xK.nd rfl (Or.inl rfl) (aj aH (ar ap (pv 0) ad (fun _ _=>rfl)) (ar ap (pv 1) ad (fun _ _=>rfl)))) (ag (ax (i:=7) xK.nd rfl (Or.inl rfl) (aj aH (ar ap (pv 0) ad (fun _ _=>rfl)) (ar ap (pv 1) ad (fun _ _=>rfl)))) (ag (ax (i:=8) xK.nd rfl (Or.inl rfl) (aj aN (aj ay (pv 4) (pv 4)) (aj ay (pv 5) (pv 5)))) (ag (ax (i:=9) xK.nd rfl (Or.inl rfl) (aj aN (aj ay (pv 6) (pv 4)) (aj ay (pv 7) (pv 5)))) (ag (ax (i:=10) xK.nd rfl (Or.inl rfl) (aj aH (aj ay (pv 6) (pv 5)) (aj ay (pv 7) (pv 4)))) (ag (ax (i:=11) xK.nd rfl (Or.inl rfl) (aj ay (ar ap (pv 3) ad (fun _ _=>rfl)) (aj aH (aj ay (ar ap (pv 3) ad (fun _ _=>rfl)) (pv 8)) (aj ay (aj ay (ar ap (pv 3) ad (fun _ _=>rfl)) (pv 10)) (pv 10))))) (ao (aB (gK (aa (aj ay (pv 9) (ar ap (pv 3) ad (fun _ _=>rfl))) (aa (pv 11) (aa (aj ay (pv 8) (ar ap (pv 3) ad (fun _ _=>rfl))) af)))))))))))))),?_⟩
  walk_at "rd"
  exact k _ _ (by assumption) (by assumption)
theorem As:xo ["square"] ["square"] (ai (top 27)):=smk
theorem gA{C:Addr}(yv:Df K mg "look_at_square" (top 27))(zT:AS K mg "NoSquare" C)(zX:Fn P w K mg base "is_ratio" ["thing"] 2 Cb):Fx P w K mg base "look_at_square" ["square"] 3 [] (A9 C):=by
 refine yv.fx As (fun _ _ _ _ _ _ us hl=>by obtain⟨_,rfl⟩:=dL hl;rfl) (fun vs H Q E h=>?_) (fun f cdv A outer s H vs Q E hr h=>?_)
 ·obtain⟨x,rfl,_⟩:=h
  rfl
 ·obtain⟨x,rfl,th,k0,k1⟩:=h
  refine⟨_,(ao (aQ (ga (fG (cz (aA zX (hr.mono (by decide)) (by rfl) (aa (pv 0) af)))) (eG (aC cS (ar ap (pv 0) ad (fun _ _=>rfl)) ad (aE _)))).pt (ao (ge zT (by rfl))) aF)),?_⟩;refine⟨_,rfl,x,rfl,th,_,rfl,?_⟩;cases hl:g8 H x with
  | false=>exact ju (k0 (sD hl))
  | true =>
   obtain⟨p,a,b,rfl,e,lw⟩:=qY hl;rw[sB e,ux lw,Bool.true_and]at k0 k1;refine fB ?_;refine⟨_,rfl,p,_,_,_,rfl,rfl,SqT.of e,rfl,_,_,rfl,rfl,_,rfl,aR (fun h1=>?_) (fun h1=>?_)⟩
   ·exact k0 (by rw[show decide (a<0)=true from h1];rfl)
   ·exact k1 (by rw[show decide (a<0)=false from h1];rfl)
def Pw(K:W.Frag)(H':Hp)(v:V)(N e:Bool)(P U L:Int):Prop:=(v = .non∧N=true)∨(N=false∧∃(t l h:Addr) (ln hn:Int×Int×Int×Int),v = .ref t∧H' t=some (.tup [.ref l,.ref h])∧SqT K H' l [.int ln.1,.int ln.2.1,.int ln.2.2.1,.int ln.2.2.2]∧SqT K H' h [.int hn.1,.int hn.2.1,.int hn.2.2.1,.int hn.2.2.2]∧ln=(if e=true then (0,0,0,1) else dU P U L)∧hn=(if e=true then (1,0,0,1) else cT P U L))
inductive B0 (K:W.Frag) (vs:List V) (H:Hp) (Q:VK) (x_3:XK):Prop
 | mk:∀(pc pb pe ps:Addr) (cx cy bx by_ ex ey a b room:Int),(vs = [.ref pc,.ref pb,.ref pe,.ref ps,.int room])->(Cn H pc cx cy)->(Cn H pb bx by_)->(Cn H pe ex ey)->(Sq H ps a b)->(∀(v:V) (H':Hp),Same H H'->Pw K H' v (pwN cx cy bx by_ ex ey a b room) (decide ([bx,by_] = [ex,ey])) (rAl cx cy bx by_ ex ey*b) (rUn cx cy bx by_ ex ey a b) (bC bx by_ ex ey*b)->Q v H')->B0 K vs H Q x_3
theorem xO:xo ["corner","begin","end","square","room","reach","low","high"] ["corner","begin","end","square","room"] (ai (top 30)):=smk
theorem jb{pB pE:Addr}(y9:Df K mg "part_within" (top 30))(zP:mg "BEGIN" = some (.ref pB))(AX:mg "END" = some (.ref pE))(hB:∀H,SqT K H pB [.int 0,.int 0,.int 0,.int 1])(hE:∀H,SqT K H pE [.int 1,.int 0,.int 0,.int 1])
  (xQ:Fn P w K mg base "leash_order" ["one","other","square"] 2 Cr) (zV:Fn P w K mg base "reach_of" ["corner","begin","end","square"] 1 A6) (xu:Fn P w K mg base "sign_of" ["number"] 1 zR) (xv:Fn P w K mg base "root_order" ["one","other"] 4 (BZ K)):Fn P w K mg base "part_within" ["corner","begin","end","square","room"] 5 (B0 K):=by
 refine y9.fn xO (fun _ _ _ _ _ _ us hl=>by obtain⟨_,_,_,_,_,rfl⟩:=tm hl;rfl) (fun vs H Q E h=>?_) (fun f cdv A outer s H vs Q E hr h=>?_)
 ·obtain⟨pc,pb,pe,ps,cx,cy,bx,by_,ex,ey,a,b,room,rfl,_⟩:=h
  rfl
 ·obtain⟨pc,pb,pe,ps,cx,cy,bx,by_,ex,ey,a,b,room,rfl,c1,c2,c3,c4,k⟩:=h
  refine⟨_,(ag (aQ (aC (qQ hr.units0) (pv 1) (pv 2) (aE _)) (ao (aB (gj (aC og (aA xQ (hr.mono (by decide)) (by rfl) (aa (pv 0) (aa (pv 1) (aa (pv 3) af)))) (pv 4) (aE _)) (gK (aa (bw (v:=.ref _) (by rfl) zP rfl) (aa (bw (v:=.ref _) (by rfl) AX rfl) af))) da))) aF) (ag (ax (i:=5) xO.nd rfl (Or.inl rfl) (aA zV (hr.mono (by decide)) (by rfl) (aa (pv 0) (aa (pv 1) (aa (pv 2) (aa (pv 3) af)))))) (ag (aQ (aC cS (aA xu (hr.mono (by decide)) (by rfl) (aa (ar ap (pv 5) ad (fun _ _=>rfl)) af)) (pv 4) (aE _)) (ao (aB da)) aF) (ag (ax (i:=6) xO.nd rfl (Or.inl rfl) (gK (aa (ar ap (pv 5) ad (fun _ _=>rfl)) (aa (dE cQ ad) (aa (ar ap (pv 5) ad (fun _ _=>rfl)) (aa (ar ap (pv 5) ad (fun _ _=>rfl)) af)))))) (ag (ax (i:=7) xO.nd rfl (Or.inl rfl) (gK (aa (ar ap (pv 5) ad (fun _ _=>rfl)) (aa ad (aa (ar ap (pv 5) ad (fun _ _=>rfl)) (aa (ar ap (pv 5) ad (fun _ _=>rfl)) af)))))) (ag (aQ (ga (aC cS (aA xv (hr.mono (by decide)) (by rfl) (aa (bw (v:=.ref _) (by rfl) AX rfl) (aa (pv 6) af))) (pv 4) (aE _)) (eG (aC cS (aA xv (hr.mono (by decide)) (by rfl) (aa (pv 7) (aa (bw (v:=.ref _) (by rfl) zP rfl) af))) (pv 4) (aE _)))).pt (ao (aB da)) aF) (ag (aQ (aC cS (aA xv (hr.mono (by decide)) (by rfl) (aa (pv 6) (aa (bw (v:=.ref _) (by rfl) zP rfl) af))) ad (aE _)) (ao (ax (i:=6) xO.nd rfl (Or.inl rfl) (bw (v:=.ref _) (by rfl) zP rfl))) aF) (ag (aQ (aC iQ (aA xv (hr.mono (by decide)) (by rfl) (aa (pv 7) (aa (bw (v:=.ref _) (by rfl) AX rfl) af))) ad (aE _)) (ao (ax (i:=7) xO.nd rfl (Or.inl rfl) (bw (v:=.ref _) (by rfl) AX rfl))) aF) (ao (aB (gK (aa (pv 6) (aa (pv 7) af))))))))))))),?_⟩;refine⟨_,rfl,_,rfl,pb,pe,[bx,by_],[ex,ey],rfl,rfl,SqT.of c2.at_,SqT.of c3.at_,_,rfl,aR (fun h1=>?_) (fun h1=>?_)⟩
  ·have hs:[bx,by_] = [ex,ey]:=bK h1
   refine⟨_,rfl,_,rfl,_,rfl,_,_,_,_,_,_,_,_,_,rfl,c1,c2,c4,_,rfl,_,_,rfl,rfl,_,rfl,aR (fun h2=>?_) (fun h2=>?_)⟩
   ·refine⟨Sp1.sz (by simp),alloc fun p H1 s1 e1=>k _ _ s1 (.inr ⟨?_,p,pB,pE,(0,0,0,1),(1,0,0,1),rfl,e1,hB _,hE _,?_,?_⟩)⟩
    ·unfold pwN
     rw[if_pos hs];simp only[ge_iff_le]at h2 ⊢;rw[show decide (room≤lo cx cy bx by_ a b)=true from h2];rfl
    ·rw[decide_eq_true hs];rfl
    ·rw[decide_eq_true hs];rfl
   ·refine k _ _ Same.rfl' (.inl ⟨rfl,?_⟩)
    unfold pwN;rw[if_pos hs];rw[show decide (lo cx cy bx by_ a b≥room)=false from h2];rfl
  ·have hs:¬[bx,by_] = [ex,ey]:=bY h1
   unfold pwN at k;rw[if_neg hs,decide_eq_false hs]at k;refine⟨_,rfl,_,rfl,_,rfl,_,rfl,_,_,_,_,_,_,_,_,_,_,_,_,rfl,c1,c2,c3,c4,fun r H1 s1 e1=>?_⟩;obtain⟨_,b1,b2⟩:=c1;obtain⟨_,b3,b4⟩:=c2;obtain⟨_,b5,b6⟩:=c3;obtain⟨_,b7,b8⟩:=c4;have z1:au (rAl cx cy bx by_ ex ey*b)≤450:=by unfold rAl;walk_at "bl"
   have z2:au (rUn cx cy bx by_ ex ey a b)≤1000:=by unfold rUn bC rBe;walk_at "bl"
   have z3:au (bC bx by_ ex ey*b)≤450:=by unfold bC;walk_at "bl"
   generalize rAl cx cy bx by_ ex ey*b=A0 at *;generalize rUn cx cy bx by_ ex ey a b=A1 at *;generalize bC bx by_ ex ey*b=A2 at *
   walk_at "rd"
   refine aR (fun h2=>?_) (fun h2=>?_)
   ·exact k _ _ s1 (.inl ⟨rfl,by rw[show decide (sg A1<room)=true from h2];rfl⟩)
   rw[show decide (sg A1<room)=false from h2,Bool.false_or]at k
   walk_at "rd"
   rename_i pl Hl sl el ph Hh sh eh;have r0:au (0:Int)≤450:=by decide
   have r1:au (1:Int)≤450:=by decide
   have r2:au (-1:Int)≤450:=by decide
   have r0':au (0:Int)≤1000:=by decide
   have RB:∀H,Rt K H pB 0 0 0 1:=fun H=>⟨hB H,r0,r0,r0',r1⟩;have RE:∀H,Rt K H pE 1 0 0 1:=fun H=>⟨hE H,r1,r0,r0',r1⟩;have RL:Rt K Hh pl A0 (-1) A1 A2:=⟨SqT.of (sh _ _ el),z1,r2,z2,z3⟩;have RH:Rt K Hh ph A0 1 A1 A2:=⟨SqT.of eh,z1,r1,z2,z3⟩;have sm:Same H Hh:=s1.trans (sl.trans sh);refine⟨_,_,_,_,_,_,_,_,_,_,rfl,RE _,RL,_,rfl,_,_,rfl,rfl,_,rfl,aR (fun h3=>?_) (fun h3=>?_)⟩
   ·refine k _ _ sm (.inl ⟨rfl,?_⟩)
    rw[show decide (ro 1 0 0 1 A0 (-1) A1 A2<room)=true from h3];rfl
   rw[show decide (ro 1 0 0 1 A0 (-1) A1 A2<room)=false from h3,Bool.false_or]at k;refine⟨_,rfl,_,_,_,_,_,_,_,_,_,_,rfl,RH,RB _,_,rfl,_,_,rfl,rfl,_,rfl,aR (fun h4=>?_) (fun h4=>?_)⟩
   ·exact k _ _ sm (.inl ⟨rfl,h4⟩)
   rw[show decide (ro A0 1 A1 A2 0 0 0 1<room)=false from h4]at k;have fin:∀(l h:Addr) (ln hn:Int×Int×Int×Int),(∀H1,Same Hh H1->SqT K H1 l [.int ln.1,.int ln.2.1,.int ln.2.2.1,.int ln.2.2.2])->(∀H1,Same Hh H1->SqT K H1 h [.int hn.1,.int hn.2.1,.int hn.2.2.1,.int hn.2.2.2])->ln=dU A0 A1 A2->hn=cT A0 A1 A2->(vT (vQ (nQ (BV 6) (nQ (BV 7) uH)))) { nx:=fun _ H'=>Q .non H',rt:=Q } [some (.ref pc),some (.ref pb),some (.ref pe),some (.ref ps),some (.int room),some (.ref r),some (.ref l),some (.ref h)] Hh:=fun l h ln hn hl hh e1 e2 =>
    ⟨_,rfl,_,rfl,Sp1.sz (by simp),alloc fun p H1 s1 ep=>k _ _ (sm.trans s1) (.inr ⟨rfl,p,l,h,ln,hn,rfl,ep,hl _ s1,hh _ s1,e1,e2⟩)⟩
   have lT:ro A0 (-1) A1 A2 0 0 0 1<0->dU A0 A1 A2=(0,0,0,1):=fun z=>by unfold dU;rw[if_pos z]
   have lF:¬ro A0 (-1) A1 A2 0 0 0 1<0->dU A0 A1 A2=(A0,-1,A1,A2):=fun z=>by unfold dU;rw[if_neg z]
   have hT:ro A0 1 A1 A2 1 0 0 1>0->cT A0 A1 A2=(1,0,0,1):=fun z=>by unfold cT;rw[if_pos z]
   have hF:¬ro A0 1 A1 A2 1 0 0 1>0->cT A0 A1 A2=(A0,1,A1,A2):=fun z=>by unfold cT;rw[if_neg z]
   have tl:∀H1,Same Hh H1->SqT K H1 pl [.int A0,.int (-1),.int A1,.int A2]:=fun H1 s=>SqT.of (s _ _ (sh _ _ el));have th:∀H1,Same Hh H1->SqT K H1 ph [.int A0,.int 1,.int A1,.int A2]:=fun H1 s=>SqT.of (s _ _ eh);refine⟨_,rfl,_,_,_,_,_,_,_,_,_,_,rfl,RL,RB _,_,_,rfl,rfl,_,rfl,aR (fun h5=>?_) (fun h5=>?_)⟩
   ·refine⟨_,rfl,_,_,_,_,_,_,_,_,_,_,rfl,RH,RE _,_,_,rfl,rfl,_,rfl,aR (fun h6=>?_) (fun h6=>?_)⟩
    ·exact fin pB pE (0,0,0,1) (1,0,0,1) (fun H1 _=>hB H1) (fun H1 _=>hE H1) (lT (bK h5)).symm (hT (bK h6)).symm
    ·exact fin pB ph (0,0,0,1) (A0,1,A1,A2) (fun H1 _=>hB H1) th (lT (bK h5)).symm (hF (bY h6)).symm
   ·refine⟨_,rfl,_,_,_,_,_,_,_,_,_,_,rfl,RH,RE _,_,_,rfl,rfl,_,rfl,aR (fun h6=>?_) (fun h6=>?_)⟩
    ·exact fin pl pE (A0,-1,A1,A2) (1,0,0,1) tl (fun H1 _=>hE H1) (lF (bY h5)).symm (hT (bK h6)).symm
    ·exact fin pl ph (A0,-1,A1,A2) (A0,1,A1,A2) tl th (lF (bY h5)).symm (hF (bY h6)).symm
theorem Ak:xo ["came","spot","row","ahead"] ["came","spot"] (ai (top 48)):=smk
theorem pX(AQ:Df K mg "row_to" (top 48))(T:Txt mg):Fn P w K mg base "row_to" ["came","spot"] 1 (AZ K):=by
 refine AQ.fn Ak (fun _ _ _ _ _ _ us hl=>by obtain⟨_,_,rfl⟩:=dI hl;rfl) (fun vs H Q E h=>?_) (fun f cdv A outer s H vs Q E hr h=>?_)
 ·obtain⟨d,sv,es,i,e,rfl,_⟩:=h
  rfl
 ·obtain⟨d,sv,es,i,e,rfl,cm,tr,he,hsv,hl,q⟩:=h
  refine⟨_,(ag (ax (i:=2) Ak.nd rfl (Or.inl rfl) (bD af)) (ag (dw PassesOwn.never (aC kA (pv 1) da (aE _)) (ag (ax (i:=3) Ak.nd rfl (Or.inl rfl) (ip (dY hr) (pv 0) (pv 1) (fun _ _=>rfl))) (ag (bJ (dz PySem.F.plainAttrs_list PySem.F.slot_list_append PySem.F.type_list_append aX (pv 2) (aa (az (aa (pv 1) (aa (ar ap (pv 3) ad (fun _ _=>rfl)) af))) af))) (ao (ax (i:=1) Ak.nd rfl (Or.inl rfl) (ar ap (pv 3) ad (fun _ _=>rfl))))))) (ag (bJ (qN PySem.F.plainAttrs_list PySem.F.slot_list_reverse PySem.F.type_list_reverse lP (pv 2))) (ao (aB (pv 2)))))),?_⟩;refine⟨sz (by simp),fun r H1 s1 f1 n1=>?_⟩;have CM':∀{H':Hp},Same H H'->∃kvs,H' d=some (.dT kvs)∧Paired (Ent K H' es) es kvs:=fun {H'} s'=>by
   obtain⟨kvs,e1,e2⟩:=cm;exact⟨kvs,s' _ _ e1,Paired.mapP e2 fun a b x=>x.mono s'.t fun _ _ h=>h⟩
  refine dm (fun σ H'=>∃(cur:Option Nat) (cv:V) (done:List (aK×Lb)) (vs:List V) (av:Option V),σ = [some (.ref d),some cv,some (.ref r),av]∧Same H H'∧H' r=some (.lst vs)∧Paired (fun (e:aK×Lb) v=>∃t sv hv,v = .ref t∧H' t=some (.tup [sv,hv])∧bH H' sv e.1∧ic K H' hv e.2) done vs∧nI es cur i done ∧
    (cur=none->cv = .non)∧(∀j,cur=some j->∃e,es[j]? = some e∧bH H' cv e.1∧done.length+j+1≤es.length)∧done.length≤es.length)
   (fun _ H'=>match H' r with|some (.lst vs)=>es.length - vs.length|_=>0) ⟨some i,sv,[],[],_,rfl,s1,f1,.nil,nI.begin,(fun z=>nomatch z),(fun j z=>by cases z;exact⟨e,he,hsv.mono s1.t,by have:=(List.getElem?_eq_some_iff.mp he).1;simp;omega⟩),Nat.zero_le _⟩ ?_ ?_
  ·rintro σ H2 ⟨cur,cv,done,vs,av,rfl,s2,f2,pr,lf,c0,c1,dl⟩
   refine⟨_,rfl,rfl,_,rfl,?_⟩;cases cur with
   | none =>
    rw[c0 rfl];refine fB ?_;refine⟨_,rfl,.inl ⟨rfl,_,SqL.of f2⟩,r,_,rfl,rfl,f2,fun H3 u=>?_⟩;refine⟨_,rfl,?_⟩;have s3:Same H H3:=fun b o eb=>u.at (fun z=>by rw[z,n1]at eb;cases eb) (s2 b o eb);refine q r H3 done.reverse s3 (by simpa using lf [] rfl) (by simpa using dl) ⟨_,u.now,?_⟩;exact mY (Paired.mapP pr fun a b ⟨t,sv,hv,x1,x2,x3,x4⟩=>⟨t,sv,hv,x1,u.t _ _ x2,x3.mono u.t,x4.mono u.t⟩)
   | some j =>
    obtain⟨e,he,hs,hj⟩:=c1 j rfl;obtain⟨p,rfl,hp⟩:=hs;refine ju ?_;obtain⟨kvs,kd,kp⟩:=CM' s2;obtain⟨kv,hkv,ke,t,pv,hvv,kt,ht,lbv,h0,h1⟩:=mZ kp j e he;have nd:(kvs.map (·.1)).Nodup:=by rw[kF kp];exact tr.nd
    have vv:=sk nd hkv;rw[ke,kt]at vv;have dg:=fQ.t kd hp;rw[vv]at dg;refine⟨_,rfl,_,rfl,d,_,rfl,dg,?_⟩;refine⟨_,rfl,.inl ⟨rfl,_,SqL.of f2⟩,_,rfl,_,rfl,t,_,_,_,rfl,rfl,SqT.of ht,rfl,sz (by simp),fun x H3 s3 f3 n3=>?_⟩;have lv:=Paired.length pr;refine⟨r,_,_,rfl,rfl,s3 _ _ f2,aT (by omega),fun H4 u=>?_⟩;have s4:Same H H4:=fun b o eb=>u.at (fun z=>by rw[z,n1]at eb;cases eb) (s3 _ _ (s2 b o eb));have t4:=s3.t.trans u.t;refine⟨_,rfl,t,_,_,_,rfl,rfl,SqT.of (t4 _ _ ht),rfl,?_⟩;refine⟨⟨e.2.1,pv,done++[(e.1,e.2.2)],_,_,rfl,s4,u.now,Paired.snoc (Paired.mapP pr fun a b ⟨t,sv,hv,x1,x2,x3,x4⟩=>⟨t,sv,hv,x1,t4 _ _ x2,x3.mono t4,x4.mono t4⟩) ⟨x,.ref p,hvv,rfl,u.t _ _ f3,⟨p,rfl,t4 _ _ hp⟩,lbv.mono t4⟩,lf.up he,h0,fun j' hj'=>?_,?_⟩,?_⟩
    ·obtain⟨e',g1,g2⟩:=h1 j' hj'
     have:=tr.up j e j' he hj';refine⟨e',g1,g2.mono t4,?_⟩;rw[List.length_append,List.length_singleton];omega
    ·rw[List.length_append,List.length_singleton]
     omega
    ·show(match H4 r with|some (.lst vs)=>es.length - vs.length|_=>0)<(match H2 r with|some (.lst vs)=>es.length - vs.length|_=>0)
     rw[u.now,f2];show es.length - (vs++[V.ref x]).length<es.length - vs.length;rw[List.length_append,List.length_singleton];omega
  ·rintro σ H' Q1 Q2 hq ⟨v,e,hs,k,ek,r⟩
   exact⟨v,e,hs,k,ek,hq _ _ r⟩
theorem zE:xo ["begins","steps_from","is_end","came","spot","row","number","step"] ["begins","steps_from","is_end"] (ai (top 49)):=smk
theorem tO(BE:Df K mg "seek" (top 49))(AO:Fn P w K mg base "row_to" ["came","spot"] 1 (AZ K))(T:Txt mg):Fn P w K mg base "seek" ["begins","steps_from","is_end"] 5 (mP P w K mg base 3):=by
 refine BE.fn zE (fun _ _ _ _ _ _ us hl=>by obtain⟨_,_,_,rfl⟩:=g9 hl;rfl) (fun vs H Q E h=>?_) (fun f cdv A outer s H vs Q E hr h=>?_)
 ·obtain⟨b,f1,f2,bvs,bs,U,stp,fin,rfl,_⟩:=h
  rfl
 ·obtain⟨b,f1,f2,bvs,bs,U,stp,fin,rfl,hb,pb,nd,hU,hul,F,q0,q1⟩:=h
  refine⟨_,(ag (ax (i:=3) zE.nd rfl (Or.inl rfl) iN) (ag (cI PassesOwn.never rfl (cP (pv 0)) (aY (i:=4) zE.nd rfl (Or.inl rfl)) (ao (gf (dY hr) (pv 3) (pv 4) (az (aa da (aa da af))) rfl))) (ag (ax (i:=5) zE.nd rfl (Or.inl rfl) (fj dR (by rfl) T.z_list kW (aa (pv 0) af))) (ag (ax (i:=6) zE.nd rfl (Or.inl rfl) ad) (ag (dw PassesOwn.never (aC cS (pv 6) (aG aI (by rfl) T.z_len bE (aa (pv 5) af)) (aE _)) (ag (ax (i:=4) zE.nd rfl (Or.inl rfl) (ar aO (pv 5) (pv 6) (fun _ _=>rfl))) (ag (aQ (cz (lH (k:=3) (i:=2) (hr.mono (by decide)) rfl (Or.inl rfl) (aa (pv 4) af))) (ao (aB (aA AO (hr.mono (by decide)) (by rfl) (aa (pv 3) (aa (pv 4) af))))) aF) (ag (cI PassesOwn.never rfl (cP (lH (k:=3) (i:=1) (hr.mono (by decide)) rfl (Or.inl rfl) (aa (pv 4) af))) (aY (i:=7) zE.nd rfl (Or.inl rfl)) (ao (aQ (km (pz (dY hr) (ar ap (pv 7) ad (fun _ _=>rfl)) (pv 3)) (by rfl)) (ag (gf (dY hr) (pv 3) (ar ap (pv 7) ad (fun _ _=>rfl)) (az (aa (pv 4) (aa (ar ap (pv 7) ad (fun _ _=>rfl)) af))) rfl) (ao (bJ (dz PySem.F.plainAttrs_list PySem.F.slot_list_append PySem.F.type_list_append aX (pv 5) (aa (ar ap (pv 7) ad (fun _ _=>rfl)) af))))) aF))) (ao (mW (i:=6) zE.nd rfl (Or.inl rfl) ad vo)))))) (ao (aB da))))))),?_⟩;obtain⟨sp1,i1,c1⟩:=F.c1;obtain⟨sp2,i2,c2⟩:=F.c2;have FO:∀{f:Addr} {H':Hp},nJ H f->Same H H'->nJ H' f:=fun {f H'} ⟨o,fd,e,d⟩ s=>⟨o,fd,s _ _ e,d⟩;have bl:=Paired.length pb;refine fun d hd=>?_;have s1:Same H (upd H d (.dT [])):=Same.new hd;refine⟨_,rfl,b,rfl,⟨_,SqL.of (s1 _ _ hb)⟩,d0 (K:=K) (xs:=bvs) (fun i σ H'=>∃spv,σ = [some (.ref b),some (.ref f1),some (.ref f2),some (.ref d),spv,none,none,none]∧Same H H'∧gT K H' d ((bs.take i).map fun s=>(s,none,.no))) ⟨_,rfl,s1,[],upd_same,.nil⟩ ?_ ?_ ?_⟩
  ·rintro i σ H' hi ⟨spv,rfl,s',_⟩
   exact SqL.of (s' _ _ hb)
  ·rintro i x σ H' hx ⟨spv,rfl,s',cm⟩
   obtain⟨s,hs,p,rfl,hp⟩:=bZ pb i x hx;refine⟨sz (by simp),fun t H2 s2 f2 n2=>⟨_,rfl,_,rfl,?_⟩⟩;have hns:s∉(((bs.take i).map fun s=>((s,none,.no):En)).map (·.1)):=by
    rw[List.map_map];show s∉(bs.take i).map id;rw[List.map_id];intro z;obtain⟨j,hj⟩:=List.getElem?_of_mem z;have ⟨j1,j2⟩:=List.getElem?_eq_some_iff.mp hj;rw[List.length_take]at j1;rw[List.getElem?_take_of_lt (by omega)]at hj;have:=pH nd hs hj;omega
   have hlb:=jP nd hU;obtain⟨H3,dp,cm3,t3,o3⟩:=(cm.mono s2).add (s:=s) (pj:=none) (s2 _ _ (s' _ _ hp)) f2 (h:=.no) rfl hns (fun _=>rfl) (fun j z=>nomatch z) (by simp;omega)
   have s3:Same H H3:=fun x o e=>by
    rw[o3 x (fun z=>by rw[z,hd]at e;cases e)];exact s2 _ _ (s' _ _ e)
   refine⟨d,H3,rfl,dp,_,rfl,s3,?_⟩;rw[List.take_add_one,hs,List.map_append];exact cm3
  ·rintro σ H2 ⟨spv,rfl,s2,cm⟩
   rw[List.take_of_length_le (by omega)]at cm;refine⟨_,rfl,b,_,rfl,.inl (SqL.of (s2 _ _ hb)),fun r H3 s3 f3 n3=>?_⟩;have nr:H r=none:=s2.free n3;have rd:r≠d:=fun z=>by
    obtain⟨kvs,e1,_⟩:=cm;rw[z,e1]at n3;cases n3
   refine dm (fun σ H'=>∃(es:List En) (n:Nat) (spv stv:Option V) (rvs:List V),σ = [some (.ref b),some (.ref f1),some (.ref f2),some (.ref d),spv,some (.ref r),some (.int (n:Int)),stv]∧Same H H'∧gT K H' d es∧H' r=some (.lst rvs)∧Paired (fun (e:En) v=>bH H' v e.1) es rvs∧yH bs U stp fin es n∧es=de bs stp n)
    (fun σ _=>match σ with | [_,_,_,_,_,_,some (.int n),_]=>U.length - n.toNat|_=>0) ⟨_,0,_,_,_,rfl,s2.trans s3,cm.mono s3,f3,?_,yH.first nd hU,rfl⟩ ?_ ?_
   ·have:∀{bs:List aK} {bvs:List V},Paired (fun s v=>bH H v s) bs bvs->Paired (fun (e:En) v=>bH H3 v e.1) (bs.map fun s=>(s,none,.no)) bvs:=by
     intro bs bvs pb
     induction pb with
     | nil=>exact .nil
     | cons a r ih=>exact .cons (bH.mono a (s2.trans s3).t) ih
    exact this pb
   ·rintro σ H4 ⟨es,n,spv,stv,rvs,rfl,s4,cm4,f4,pr,go,esn⟩
    have el:=Paired.length pr;have gl:=go.len;refine⟨_,rfl,_,rfl,r,_,rfl,.inl (SqL.of f4),_,_,rfl,rfl,_,rfl,aR (fun g1=>?_) (fun g1=>?_)⟩
    ·have g1:(n:Int)<(rvs.length:Int):=bK g1
     obtain⟨v,hv⟩:∃v,rvs[n]? = some v:=⟨rvs[n]'(by omega),by simp[show n<rvs.length by omega]⟩;obtain⟨e,he,hsp⟩:=bZ pr n v hv;have eU:=go.inU e (List.mem_of_getElem? he);refine⟨_,rfl,_,rfl,r,_,_,_,rfl,rfl,SqL.of f4,dB hv,?_⟩;refine⟨f2,sp2,rfl,i2,FO F.o2 s4,_,rfl,FO F.o2 s4,c2 H4 v e.1 _ s4 hsp eU fun H5 s5=>⟨_,rfl,aR (fun g2=>?_) (fun g2=>?_)⟩⟩
     ·refine⟨_,rfl,_,rfl,d,v,es,n,e,rfl,cm4.mono s5,go.tree,he,hsp.mono s5.t,by omega,fun r' H' l s' p hl ra=>?_⟩
      obtain⟨w1,w2,e',w3,w4⟩:=sI (fin:=fin) go.grown p;rw[he]at w3;cases w3;exact q1 r' H' l ((s4.trans s5).trans s') ⟨w1,w2,_,w4,g2⟩ ⟨n,e,by rw[<- esn];exact he,g2,(fun i hi=>by
       have hl:=go.le;have hx:es[i]? = some (es[i]'(by omega)):=List.getElem?_eq_getElem (by omega);exact⟨_,by rw[<- esn];exact hx,(go.seen i _ hi hx).1⟩),by rw[<- esn];exact p⟩ (by omega) ra
     ·refine⟨f1,sp1,rfl,i1,FO F.o1 (s4.trans s5),_,rfl,FO F.o1 (s4.trans s5),c1 H5 v e.1 _ (s4.trans s5) (hsp.mono s5.t) eU fun rl H6 s6 n6 st=>?_⟩
      obtain⟨svs,hr6,ps⟩:=st;have sl:=Paired.length ps;have few:=F.few _ eU;have cm6:=(cm4.mono s5).mono s6;have rld:rl≠d:=fun z=>by
       obtain⟨kvs,e1,_⟩:=cm4.mono s5;rw[z,e1]at n6;cases n6
      have rlr:rl≠r:=fun z=>by
       rw[z,s5 _ _ f4]at n6;cases n6
      have pr6:Paired (fun (e:En) v=>bH H6 v e.1) es rvs:=Paired.mapP pr fun a b x=>x.mono (s5.t.trans s6.t);refine⟨rl,rfl,⟨_,SqL.of hr6⟩,d0 (K:=K) (xs:=svs) (fun i σ H'=>∃(es':List En) (stv:Option V) (rvs:List V),σ = [some (.ref b),some (.ref f1),some (.ref f2),some (.ref d),some v,some (.ref r),some (.int (n:Int)),stv]∧Same H H'∧SameT H6 H'∧H' rl=some (.lst svs)∧gT K H' d es'∧H' r=some (.lst rvs)∧Paired (fun (e:En) v=>bH H' v e.1) es' rvs∧yH bs U stp fin es' n∧es'[n]? = some e∧es'=((stp e.1).take i).foldl (vw n) es∧∀(k:Nat) x,k<i->(stp e.1)[k]? = some x->x.1∈es'.map (·.1))
       ⟨es,_,rvs,rfl,(s4.trans s5).trans s6,SameT.refl,hr6,cm6,s6 _ _ (s5 _ _ f4),pr6,go,he,rfl,fun k x z=>absurd z (Nat.not_lt_zero _)⟩ ?_ ?_ ?_⟩
      ·rintro i σ H7 hi ⟨es',stv,rvs,rfl,s7,t7,h7,_⟩
       exact SqL.of h7
      ·rintro i x σ H7 hx ⟨es',stv,rvs,rfl,s7,t7,h7,cm7,f7,pr7,go7,he7,fo7,sn7⟩
       have el7:=Paired.length pr7;have gl7:=go7.len;obtain⟨y,hy,t,sv,hvv,rfl,ht,⟨p,rfl,hp⟩,lbv⟩:=bZ ps i x hx;have ht7:=t7 _ _ ht;have hp7:=t7 _ _ hp;obtain⟨o,dg,iff⟩:=cm7.look hp7;refine⟨_,rfl,t,_,_,_,rfl,rfl,SqT.of ht7,rfl,_,rfl,d,o,rfl,dg,_,rfl,?_⟩;cases ho:o.isSome with
       | true =>
        refine fB ?_;refine⟨es',_,rvs,rfl,s7,t7,h7,cm7,f7,pr7,go7,he7,by rw[List.take_add_one,hy,Option.toList_some,List.foldl_append,<- fo7];exact(if_pos (iff.mp ho)).symm,fun k x hk hz=>?_⟩
        by_cases z:k=i
        ·subst z
         rw[hy]at hz;cases hz;exact iff.mp ho
        ·exact sn7 k x (by omega) hz
       | false =>
        have hnew:y.1∉es'.map (·.1):=fun z=>by rw[iff.mpr z]at ho;cases ho
        have hyU:=F.shut _ eU y (List.mem_of_getElem? hy);refine ju ?_;refine⟨_,rfl,_,rfl,t,_,_,_,rfl,rfl,SqT.of ht7,rfl,sz (by simp),fun x8 H8 s8 f8 n8=>⟨_,rfl,_,rfl,t,_,_,_,rfl,rfl,SqT.of (s8 _ _ ht7),rfl,?_⟩⟩;obtain⟨H9,dp,cm9,t9,o9⟩:=(cm7.mono s8).add (s:=y.1) (pj:=some n) (h:=y.2) (s8 _ _ hp7) f8 (lbv.mono (t7.trans s8.t)) hnew (fun z=>nomatch z) (fun j z=>by cases z;exact⟨e,he7,hsp.mono (((s5.t.trans s6.t).trans t7).trans s8.t)⟩) (by omega)
        refine⟨d,H9,rfl,dp,?_⟩;have f9:H9 r=some (.lst rvs):=(o9 r rd).trans (s8 _ _ f7);have T9:=s8.t.trans t9;refine⟨_,rfl,.inl ⟨rfl,_,SqL.of f9⟩,_,rfl,t,_,_,_,rfl,rfl,SqT.of (T9 _ _ ht7),rfl,r,_,_,rfl,rfl,f9,aT (by omega),fun H10 u=>?_⟩;have T10:=T9.trans u.t;have s10:Same H H10:=fun x o eo=>by
         refine u.at (fun z=>by rw[z,nr]at eo;cases eo) ?_;rw[o9 x (fun z=>by rw[z,hd]at eo;cases eo)];exact s8 _ _ (s7 _ _ eo)
        have cm10:gT K H10 d (es'++[(y.1,some n,y.2)]):=by
         obtain⟨kvs,k1,k2⟩:=cm9;exact⟨kvs,u.at (fun z=>rd z.symm) k1,Paired.mapP k2 fun a b x=>x.mono u.t fun _ _ h=>h⟩
        refine⟨es'++[(y.1,some n,y.2)],_,_,rfl,s10,t7.trans T10,u.at rlr ((o9 rl rld).trans (s8 _ _ h7)),cm10,u.now,Paired.snoc (Paired.mapP pr7 fun a b x=>x.mono T10) ⟨p,rfl,T10 _ _ hp7⟩,go7.add he7 (List.mem_of_getElem? hy) hyU hnew,?_,by rw[List.take_add_one,hy,Option.toList_some,List.foldl_append,<- fo7];exact(if_neg hnew).symm,fun k x hk hz=>?_⟩
        ·rw[List.getElem?_append_left (List.getElem?_eq_some_iff.mp he7).1]
         exact he7
        ·rw[List.map_append]
         by_cases z:k=i
         ·subst z
          rw[hy]at hz;cases hz;exact List.mem_append_right _ (by simp)
         ·exact List.mem_append_left _ (sn7 k x (by omega) hz)
      ·rintro σ H7 ⟨es',stv,rvs,rfl,s7,t7,h7,cm7,f7,pr7,go7,he7,fo7,sn7⟩
       refine⟨_,rfl,_,_,rfl,rfl,?_⟩;refine⟨⟨es',n+1,_,_,rvs,rfl,s7,cm7,f7,pr7,go7.next he7 g2 fun x hx=>?_,?_⟩,?_⟩
       ·obtain⟨k,hk⟩:=List.getElem?_of_mem hx
        exact sn7 k x (by have:=(List.getElem?_eq_some_iff.mp hk).1;omega) hk
       ·rw[fo7,List.take_of_length_le (by omega)]
        show _=match (de bs stp n)[n]? with
         | some e=>(stp e.1).foldl (vw n) (de bs stp n)
         | none=>de bs stp n
        rw[<- esn,he]
       ·have gl7:=go7.len
        have ln:=(List.getElem?_eq_some_iff.mp he7).1;show U.length - ((n:Int)+1).toNat<U.length - (n:Int).toNat;omega
    ·have g1:¬((n:Int)<(rvs.length:Int)):=fun z=>by rw[show decide ((n:Int)<(rvs.length:Int))=true from decide_eq_true z]at g1;cases g1
     exact q0 H4 s4 (go.shut (by omega))
   ·rintro σ H' Q1 Q2 hq ⟨v,e,w,e2,r,xs,h1,h2,i,j,h3,h4,k,ek,rr⟩
    exact⟨v,e,w,e2,r,xs,h1,h2,i,j,h3,h4,k,ek,hq _ _ rr⟩
def eD(qs1 qs2:Crn)(a b room:Int)(i j:Int):Bool:=match qs1[i.toNat]?,qs2[j.toNat]? with
 | some c,some d=>decide (lo c.2.1 c.2.2 d.2.1 d.2.2 a b<room)
 | _,_=>false
theorem tR{qs1 qs2:Crn}{a b room:Int}{i j:Nat}{c d:Addr×Int×Int}(hc:qs1[i]? = some c)(hd:qs2[j]? = some d):eD qs1 qs2 a b room i j=decide (lo c.2.1 c.2.2 d.2.1 d.2.2 a b<room):=by
 unfold eD;rw[Int.toNat_natCast,Int.toNat_natCast,hc,hd]
inductive Cd (vs:List V) (H:Hp) (Q:VK) (x_3:XK):Prop
 | mk:∀(l1 l2 sp:Addr) (qs1 qs2:Crn) (a b room:Int),(vs = [.ref l1,.ref l2,.ref sp,.int room])->(LineM H l1 qs1)->(LineM H l2 qs2)->((1≤qs1.length∧qs1.length≤20))->((1≤qs2.length∧qs2.length≤20))->(Sq H sp a b)->(∀d H',Same H H'->k8 H' d (qs1.length - 1) (qs2.length - 1) (eD qs1 qs2 a b room)->Q (.ref d) H')->Cd vs H Q x_3
inductive Cj (vs:List V) (H:Hp) (Q:VK) (x_3:XK):Prop
 | mk:∀(c l:Addr) (i j m n:Int),(vs = [.ref c,.ref l,.str "free"])->(H c=some (.tup [.int i,.int j]))->(H l=some (.tup [.int m,.int n]))->(Q (.bl (decide (j=n) || decide (i=0))) H)->Cj vs H Q x_3
inductive Ce (vs:List V) (H:Hp) (Q:VK) (x_3:XK):Prop
 | mk:∀(c l:Addr) (i j m n:Int),(vs = [.ref c,.ref l,.str "free"])->(H c=some (.tup [.int i,.int j]))->(H l=some (.tup [.int m,.int n]))->(Q (.bl (decide (j=0) || decide (i=m))) H)->Ce vs H Q x_3
inductive AH (vs:List V) (H:Hp) (Q:VK) (x_3:XK):Prop
 | mk:∀(c:Addr) (i j:Int),(vs = [.ref c])->(H c=some (.tup [.int i,.int j]))->((0≤i∧i≤1000))->((0≤j∧j≤1000))->(∀(q:Pr) H',Same H H'->PrAt H' q->prC q (i,j)->Q (.ref q.p) H')->AH vs H Q x_3
theorem we{H:Hp}{p x y:Addr}{i j:Int}(hp:H p=some (.tup [.ref x,.ref y]))(hx:H x=some (.tup [.int i,.int 1]))(hy:H y=some (.tup [.int j,.int 1]))(bi:0≤i∧i≤1000)(bj:0≤j∧j≤1000):PrAt H ⟨p,x,y,i,1,j,1⟩:=by
 have b1:∀{k:Int},0≤k∧k≤1000->au k≤10:=fun {k} h=>aW (by omega) h.2;have one:au (1:Int)≤60:=aw (b1 (k:=1) ⟨by decide,by decide⟩) (by decide);have lw:∀k:Int,AW k 1:=fun k=>⟨Int.le_refl 1,by simp⟩;exact⟨hp,hx,hy,lw i,lw j,bi.1,bj.1,aw (b1 bi) (by decide),one,aw (b1 bj) (by decide),one⟩
def v9(P:Int×Int->Bool):aK×V->Bool
 | ([.inl x,.inl y],_)=>P (x,y)
 | _=>false
theorem iV{P:Int×Int->Bool}:∀{l:List (Int×Int)},(kvF l).filter (v9 P)=kvF (l.filter P)
 | []=>rfl
 | p::r=>by
  have ih:=iV (P:=P) (l:=r);unfold kvF at ih ⊢;rw[List.map_cons,List.filter_cons,List.filter_cons,ih];show(if P p=true then _ else _)=_
  split <;> rfl
theorem iP{α β γ:Type}{G:β->γ->Prop}{f:α->β}:∀{l:List α} {ys:List γ},Paired G (l.map f) ys->Paired (fun a y=>G (f a) y) l ys
 | [],_,h=>by cases h;exact .nil
 | a::r,_,h=>by
  cases h with
  | cons h1 h2=>exact .cons h1 (iP h2)
theorem gm{α β γ:Type}{G:β->γ->Prop}{f:α->β}:∀{l:List α} {ys:List γ},Paired (fun a y=>G (f a) y) l ys->Paired G (l.map f) ys
 | [],_,h=>by cases h;exact .nil
 | a::r,_,h=>by
  cases h with
  | cons h1 h2=>exact .cons h1 (gm h2)
theorem AM:xo ["corner","last","way"] ["corner","last","way"] (ai (top 40)):=smk
theorem h8(yU:Df K mg "begins_fence" (top 40)):Fn P w K mg base "begins_fence" ["corner","last","way"] 1 Cj:=by
 refine yU.fn AM (fun _ _ _ _ _ _ us hl=>by obtain⟨_,_,_,rfl⟩:=g9 hl;rfl) (fun vs H Q E h=>?_) (fun f cdv A outer s H vs Q E hr h=>?_)
 ·obtain⟨c,l,i,j,m,n,rfl,_⟩:=h
  rfl
 ·obtain⟨c,l,i,j,m,n,rfl,hc,hl,q⟩:=h
  refine⟨_,(ao (aB (ut (cW bR (ar ap (pv 0) ad (fun _ _=>rfl)) (ar ap (pv 1) ad (fun _ _=>rfl)) (aE _)) (fH (iO (cW gU (pv 2) eO (aE _)) (fH (cW bR (ar ap (pv 0) ad (fun _ _=>rfl)) ad (aE _)))))))),?_⟩;refine⟨_,rfl,c,_,_,_,rfl,rfl,SqT.of hc,rfl,_,rfl,l,_,_,_,rfl,rfl,SqT.of hl,rfl,rfl,_,rfl,?_⟩;rw[di];refine aR (fun h1=>?_) (fun h1=>?_)
  ·rw[h1]at q
   exact q
  ·rw[h1,Bool.false_or]at q
   refine⟨_,rfl,rfl,_,rfl,?_⟩;rw[show(!decide (V.str (Str.ofString "free")=V.str (Str.ofString "part")))=true from rfl];refine ju ?_;exact⟨_,rfl,c,_,_,_,rfl,rfl,SqT.of hc,rfl,rfl,by rw[di];exact q⟩
theorem Bh:xo ["corner","last","way"] ["corner","last","way"] (ai (top 41)):=smk
theorem jE(zB:Df K mg "ends_fence" (top 41)):Fn P w K mg base "ends_fence" ["corner","last","way"] 1 Ce:=by
 refine zB.fn Bh (fun _ _ _ _ _ _ us hl=>by obtain⟨_,_,_,rfl⟩:=g9 hl;rfl) (fun vs H Q E h=>?_) (fun f cdv A outer s H vs Q E hr h=>?_)
 ·obtain⟨c,l,i,j,m,n,rfl,_⟩:=h
  rfl
 ·obtain⟨c,l,i,j,m,n,rfl,hc,hl,q⟩:=h
  refine⟨_,(ao (aB (ut (cW bR (ar ap (pv 0) ad (fun _ _=>rfl)) ad (aE _)) (fH (iO (cW gU (pv 2) eO (aE _)) (fH (cW bR (ar ap (pv 0) ad (fun _ _=>rfl)) (ar ap (pv 1) ad (fun _ _=>rfl)) (aE _)))))))),?_⟩;refine⟨_,rfl,c,_,_,_,rfl,rfl,SqT.of hc,rfl,rfl,_,rfl,?_⟩;rw[di];refine aR (fun h1=>?_) (fun h1=>?_)
  ·rw[h1]at q
   exact q
  ·rw[h1,Bool.false_or]at q
   refine⟨_,rfl,rfl,_,rfl,?_⟩;rw[show(!decide (V.str (Str.ofString "free")=V.str (Str.ofString "part")))=true from rfl];refine ju ?_;exact⟨_,rfl,c,_,_,_,rfl,rfl,SqT.of hc,rfl,_,rfl,l,_,_,_,rfl,rfl,SqT.of hl,rfl,rfl,by rw[di];exact q⟩
theorem Ar:xo ["corner"] ["corner"] (ai (top 42)):=smk
theorem gz(yu:Df K mg "pair_at_corner" (top 42)):Fn P w K mg base "pair_at_corner" ["corner"] 1 AH:=by
 refine yu.fn Ar (fun _ _ _ _ _ _ us hl=>by obtain⟨_,rfl⟩:=dL hl;rfl) (fun vs H Q E h=>?_) (fun f cdv A outer s H vs Q E hr h=>?_)
 ·obtain⟨c,i,j,rfl,_⟩:=h
  rfl
 ·obtain⟨c,i,j,rfl,hc,bi,bj,q⟩:=h
  refine⟨_,(ao (aB (@az _ _ _ _ _ (@aa _ _ _ _ _ (@az _ _ _ _ _ (@aa _ _ _ _ _ (ar ap (pv 0) ad (fun _ _=>rfl)) (@aa _ _ _ _ _ ad af (by rfl)) (by rfl))) (@aa _ _ _ _ _ (@az _ _ _ _ _ (@aa _ _ _ _ _ (ar ap (pv 0) ad (fun _ _=>rfl)) (@aa _ _ _ _ _ ad af (by rfl)) (by rfl))) af (by rfl)) (by rfl))))),?_⟩;refine⟨_,rfl,c,_,_,_,rfl,rfl,SqT.of hc,rfl,sz (by simp),fun x H1 s1 f1 n1=>?_⟩;refine⟨_,rfl,c,_,_,_,rfl,rfl,SqT.of (s1 _ _ hc),rfl,sz (by simp),fun y H2 s2 f2 n2=>⟨sz (by simp),fun p H3 s3 f3 n3=>?_⟩⟩;exact q ⟨p,x,y,i,1,j,1⟩ H3 ((s1.trans s2).trans s3) (we f3 ((s2.trans s3) _ _ f1) (s3 _ _ f2) bi bj) ⟨rfl,rfl,rfl,rfl⟩
theorem xP:xo ["one","other","square","room","far","i","corner","j","beside"] ["one","other","square","room"] (ai (top 38)):=smk
theorem jf(zd:Df K mg "far_corners" (top 38))(xQ:Fn P w K mg base "leash_order" ["one","other","square"] 2 Cr)(T:Txt mg):Fn P w K mg base "far_corners" ["one","other","square","room"] 3 Cd:=by
 refine zd.fn xP (fun _ _ _ _ _ _ us hl=>by obtain⟨_,_,_,_,rfl⟩:=rh hl;rfl) (fun vs H Q E h=>?_) (fun f cdv A outer s H vs Q E hr h=>?_)
 ·obtain⟨l1,l2,sp,qs1,qs2,a,b,room,rfl,_⟩:=h
  rfl
 ·obtain⟨l1,l2,sp,qs1,qs2,a,b,room,rfl,L1,L2',b1,b2,sq,q⟩:=h
  refine⟨_,(ag (ax (i:=4) xP.nd rfl (Or.inl rfl) iN) (ag (cI PassesOwn.never rfl (io rfl T.z_enumerate (aa (pv 0) af)) (gJ rfl (cr (aY (i:=5) xP.nd rfl (Or.inl rfl)) (cr (aY (i:=6) xP.nd rfl (Or.inl rfl)) fh))) (ao (cI PassesOwn.never rfl (io rfl T.z_enumerate (aa (pv 1) af)) (gJ rfl (cr (aY (i:=7) xP.nd rfl (Or.inl rfl)) (cr (aY (i:=8) xP.nd rfl (Or.inl rfl)) fh))) (ao (aQ (aC cS (aA xQ (hr.mono (by decide)) (by rfl) (aa (pv 6) (aa (pv 8) (aa (pv 2) af)))) (pv 3) (aE _)) (ao (gf (dY hr) (pv 4) (az (aa (pv 5) (aa (pv 7) af))) fD rfl)) aF))))) (ao (aB (u7 (pv 4)))))),?_⟩;have hl1:(qs1.map fun (q:Addr×Int×Int)=>V.ref q.1).length=qs1.length:=List.length_map _;have hl2:(qs2.map fun (q:Addr×Int×Int)=>V.ref q.1).length=qs2.length:=List.length_map _;generalize hF:eD qs1 qs2 a b room=F at q;refine fun d hd=>?_;have s0:Same H (upd H d (.dT [])):=Same.new hd;refine⟨_,rfl,l1,rfl,⟨_,SqL.of (s0 _ _ L1.lst)⟩,gw (K:=K) (a:=l1) (xs:=qs1.map fun (q:Addr×Int×Int)=>V.ref q.1) (fun i σ H'=>∃(z5 z6 z7 z8:Option V),σ = [some (.ref l1),some (.ref l2),some (.ref sp),some (.int room),some (.ref d),z5,z6,z7,z8]∧Same H H'∧H' d=some (.dT (kvF (fM F qs2.length i))))
   ⟨_,_,_,_,rfl,s0,upd_same⟩ (fun i σ H' _ ⟨_,_,_,_,_,s',_⟩=>SqL.of (s' _ _ L1.lst)) ?_ ?_⟩
  ·rintro i x pp σ H1 H2 hx ⟨z5,z6,z7,z8,rfl,s1,e1⟩ s2 f2
   rw[List.getElem?_map]at hx;obtain⟨u,hu,rfl⟩:=Option.map_eq_some_iff.mp hx;have iu:=(List.getElem?_eq_some_iff.mp hu).1;have S2:=s1.trans s2;refine⟨pp,_,rfl,SqT.of f2,rfl,_,_,rfl,_,_,rfl,rfl,?_⟩;refine⟨_,rfl,l2,rfl,⟨_,SqL.of (S2 _ _ L2'.lst)⟩,gw (K:=K) (a:=l2) (xs:=qs2.map fun (q:Addr×Int×Int)=>V.ref q.1) (fun j σ H'=>∃(z7 z8:Option V),σ = [some (.ref l1),some (.ref l2),some (.ref sp),some (.int room),some (.ref d),some (.int (i:Int)),some (.ref u.1),z7,z8]∧Same H H'∧H' d=some (.dT (kvF (fM F qs2.length i++fA F i j))))
    ⟨_,_,rfl,S2,by rw[show fA F i 0 = [] from rfl,List.append_nil];exact s2 _ _ e1⟩ (fun i σ H' _ ⟨_,_,_,s',_⟩=>SqL.of (s' _ _ L2'.lst)) ?_ ?_⟩
   ·rintro j x pp σ H3 H4 hx ⟨z7,z8,rfl,s3,e3⟩ s4 f4
    rw[List.getElem?_map]at hx;obtain⟨v,hv,rfl⟩:=Option.map_eq_some_iff.mp hx;have jv:=(List.getElem?_eq_some_iff.mp hv).1;have S4:=s3.trans s4;have cu:=(L1.mono S4).crn u (List.mem_of_getElem? hu);have cv:=(L2'.mono S4).crn v (List.mem_of_getElem? hv);have e4:=s4 _ _ e3;have fa:F i j=decide (lo u.2.1 u.2.2 v.2.1 v.2.2 a b<room):=by rw[<- hF];exact tR hu hv
    refine⟨pp,_,rfl,SqT.of f4,rfl,_,_,rfl,_,_,rfl,rfl,?_⟩;refine⟨_,rfl,_,rfl,_,rfl,u.1,v.1,sp,_,_,_,_,_,_,rfl,⟨cu.1,dM cu.2.1,dM cu.2.2⟩,⟨cv.1,dM cv.2.1,dM cv.2.2⟩,sq.mono S4,_,rfl,_,_,rfl,rfl,_,rfl,aR (fun g=>?_) (fun g=>?_)⟩
    ·rw[<- fa]at g
     refine⟨_,rfl,_,rfl,_,rfl,sz (by simp),fun c H5 s5 f5 n5=>?_⟩;have e5:=s5 _ _ e4;have nk:((i:Int),(j:Int))∉fM F qs2.length i++fA F i j:=fun z=>by
      rcases List.mem_append.mp z with z|z
      ·have:=(iS.mp z).2.1
       dsimp only at this;omega
      ·have:=(gn.mp z).2.2.1
       dsimp only at this;omega
     have nv:cY (kvF (fM F qs2.length i++fA F i j)) (ck i j)=none:=fS fun z=>nk (lV.mp z);have len:(kvF (fM F qs2.length i++fA F i j)).length<sizeLine:=by
      unfold kvF;rw[List.length_map,List.length_append];have h1:=ji (F:=F) (n:=qs2.length) (i:=i);have h2:=lu (F:=F) (i:=i) (k:=j);have h3:=Nat.mul_le_mul (show i≤20 by omega) b2.2;exact aT (by omega)
     refine⟨d,_,rfl,k9.t (k:=ck i j) e5 f5 len,_,_,rfl,?_,?_⟩
     ·exact fun x o e=>by
       rw[aM (fun z=>by rw[z,hd]at e;cases e)];exact s5 _ _ (S4 _ _ e)
     ·rw[upd_same,iK _ nv,gH,if_pos g]
      unfold kvF;rw[<- List.append_assoc,List.map_append (l₂:=[_])];rfl
    ·rw[<- fa]at g
     refine⟨_,_,rfl,S4,?_⟩;rw[gH,if_neg (by rw[g];exact Bool.false_ne_true),List.append_nil];exact e4
   ·rintro σ H3 ⟨z7,z8,rfl,s3,e3⟩
    rw[hl2,<- gQ]at e3;exact⟨_,_,_,_,rfl,s3,e3⟩
  ·rintro σ H1 ⟨z5,z6,z7,z8,rfl,s1,e1⟩
   rw[hl1]at e1;refine⟨_,rfl,d,_,rfl,e1,fun o=>q d _ ?_ ⟨o,?_⟩⟩
   ·exact fun x o e=>by
     rw[aM (fun z=>by rw[z,hd]at e;cases e)];exact s1 _ _ e
   ·rw[upd_same]
    unfold kP;rw[show qs1.length - 1+1=qs1.length by omega,show qs2.length - 1+1=qs2.length by omega]
theorem sq0(x:Int):0≤x*x:=sqx x
structure Nm(K:W.Frag)(H:Hp)(p:Addr)(l:Int×Int×Int×Int):Prop where
 at_:SqT K H p [.int l.1,.int l.2.1,.int l.2.2.1,.int l.2.2.2]
 b0:au l.1≤240
 b1:au l.2.1≤2
 b2:au l.2.2.1≤470
 b3:au l.2.2.2≤240
 p2:0≤l.2.2.1
 p3:1≤l.2.2.2
theorem Nm.mono{K:W.Frag}{H H':Hp}{p:Addr}{l:Int×Int×Int×Int}(h:Nm K H p l)(s:Same H H'):Nm K H' p l:=⟨iH h.at_ s,h.b0,h.b1,h.b2,h.b3,h.p2,h.p3⟩
theorem oC{cx cy bx by_ ex ey x y:Int}(hne:¬[bx,by_] = [ex,ey])(hy:0<y):Gv (bC bx by_ ex ey) (rAl cx cy bx by_ ex ey) ((cx - bx)*(cx - bx)+(cy - by_)*(cy - by_)) (rBe cx cy bx by_ ex ey) x y (rAl cx cy bx by_ ex ey*y) (bC bx by_ ex ey*y) (rUn cx cy bx by_ ex ey x y):=by
 refine⟨?_,hy,?_,rfl,rfl,rfl⟩
 ·unfold bC
  have h1:=sq0 (ex - bx);have h2:=sq0 (ey - by_);have key:∀z:Int,z≠0->0<z*z:=fun z hz=>by
   rcases Int.lt_trichotomy z 0 with h|h|h
   ·exact Int.mul_pos_of_neg_of_neg h h
   ·exact absurd h hz
   ·exact Int.mul_pos h h
  by_cases h:ex - bx=0
  ·have h3:ey - by_≠0:=fun z=>hne (by rw[show bx=ex by omega,show by_=ey by omega])
   have:=key _ h3;omega
  ·have:=key _ h
   omega
 ·unfold rBe bC rAl
  grind
theorem wo{cx cy bx by_ x y:Int}:lo cx cy bx by_ x y=sg (x - ((cx - bx)*(cx - bx)+(cy - by_)*(cy - by_))*y):=by
 unfold lo;rw[show(bx - cx)*(bx - cx)=(cx - bx)*(cx - bx) by grind,show(by_ - cy)*(by_ - cy)=(cy - by_)*(cy - by_) by grind]
theorem flat{cx cy bx by_ ex ey:Int}(h:[bx,by_] = [ex,ey]):bC bx by_ ex ey=0∧rAl cx cy bx by_ ex ey=0:=by
 simp only[List.cons.injEq,and_true]at h;obtain⟨rfl,rfl⟩:=h;unfold bC rAl;rw[show bx - bx=0 by omega,show by_ - by_=0 by omega];simp
theorem jM{x:Int}:(sg x<0↔x<0)∧(sg x<1↔x≤0):=by
 rcases Int.lt_trichotomy x 0 with h|h|h
 ·rw[fz h];omega
 ·rw[qA h];omega
 ·rw[eA h];omega
structure Dl(P L U:Int):Prop where
 u:0<U
 e:P - L<0∨(P - L)*(P - L)<U
 b:0<P∨P*P<U
section
variable {A B C be x y P L U:Int}
theorem _root_.Sp5.Gv.open1(g:Gv A B C be x y P L U):¬(sg U<1∨ro 1 0 0 1 P (-1) U L<1∨ro P 1 U L 0 0 0 1<1)↔Dl P L U:=by
 constructor
 ·intro n
  have u:0<U:=by
   by_cases h:U≤0
   ·exact absurd (.inl (jM.2.mpr h)) n
   ·omega
  refine⟨u,?_,?_⟩
  ·by_cases z:ro 1 0 0 1 P (-1) U L<1
   ·exact absurd (.inr (.inl z)) n
   ·rw[d7 P (-1) U L 1 0 0 1,g.lowE]at z
    exact(pD (by omega)).2.2.mp (by omega)
  ·by_cases z:ro P 1 U L 0 0 0 1<1
   ·exact absurd (.inr (.inr z)) n
   ·rw[g.highB]at z
    exact(pC (by omega)).2.2.mp (by omega)
 ·rintro⟨u,e,b⟩ n
  rcases n with n|n|n
  ·have:=jM.2.mp n
   omega
  ·rw[d7 P (-1) U L 1 0 0 1,g.lowE]at n
   have:=(pD (W:=P - L) (U:=U) (by omega)).2.2.mpr e;omega
  ·rw[g.highB]at n
   have:=(pC (W:=P) (U:=U) (by omega)).2.2.mpr b;omega
end
theorem rH{A B y U:Int}(ba:au A≤103)(bb:au B≤103)(by_:au y≤130)(bu:au U≤470)(u0:0≤U)(l0:1≤A*y) :
  (au (dU (B*y) U (A*y)).1≤240∧au (dU (B*y) U (A*y)).2.1≤2∧au (dU (B*y) U (A*y)).2.2.1≤470∧au (dU (B*y) U (A*y)).2.2.2≤240∧0≤(dU (B*y) U (A*y)).2.2.1∧1≤(dU (B*y) U (A*y)).2.2.2) ∧
  (au (cT (B*y) U (A*y)).1≤240∧au (cT (B*y) U (A*y)).2.1≤2∧au (cT (B*y) U (A*y)).2.2.1≤470∧au (cT (B*y) U (A*y)).2.2.2≤240∧0≤(cT (B*y) U (A*y)).2.2.1∧1≤(cT (B*y) U (A*y)).2.2.2):=by
 have b1:au (B*y)≤240:=aw (bits_mul bb by_) (by decide);have b2:au (A*y)≤240:=aw (bits_mul ba by_) (by decide);constructor
 ·unfold dU
  split
  ·decide
  ·exact⟨b1,(by show au (-1)≤2;decide),bu,b2,u0,l0⟩
 ·unfold cT
  split
  ·decide
  ·exact⟨b1,(by show au 1≤2;decide),bu,b2,u0,l0⟩
theorem sr{cx cy bx by_ ex ey x y:Int}(w1:au (ex - bx)≤51)(w2:au (ey - by_)≤51)(w3:au (cx - bx)≤51)(w4:au (cy - by_)≤51)(hx:au x≤230)(hy:au y≤130):au (rUn cx cy bx by_ ex ey x y)≤470:=by
 unfold rUn;have bl:au (bC bx by_ ex ey)≤103:=br (bits_mul w1 w1) (bits_mul w2 w2);have bb:au (rBe cx cy bx by_ ex ey)≤103:=aL (bits_mul w3 w2) (bits_mul w4 w1);exact aw (bits_mul hy (aL (n:=336) (aw (bits_mul hx bl) (by decide)) (bits_mul (bits_mul hy bb) bb))) (by decide)
def cH(cx cy bx by_ ex ey x y room:Int):Option (N4×N4):=if pwN cx cy bx by_ ex ey x y room=true then none else
 some (if decide ([bx,by_] = [ex,ey])=true then (0,0,0,1) else dU (rAl cx cy bx by_ ex ey*y) (rUn cx cy bx by_ ex ey x y) (bC bx by_ ex ey*y),if decide ([bx,by_] = [ex,ey])=true then (1,0,0,1) else cT (rAl cx cy bx by_ ex ey*y) (rUn cx cy bx by_ ex ey x y) (bC bx by_ ex ey*y))
def wth(cx cy bx by_ ex ey a b:Int):Int:=bC bx by_ ex ey*a*a - 2*rAl cx cy bx by_ ex ey*a*b+((cx - bx)*(cx - bx)+(cy - by_)*(cy - by_))*b*b
theorem vt{a b:Int}(ha:0≤a)(hab:a≤b):bL (some ((0,0,0,1),(1,0,0,1))) a b=true:=by
 unfold bL;dsimp only;rw[jT,gX.1,gX.2,Bool.and_eq_true,decide_eq_true_eq,decide_eq_true_eq];refine⟨nX.mpr (by omega),?_⟩;have:0≤sg (b - a):=by
  rcases Int.lt_or_eq_of_le (show 0≤b - a by omega) with z|z
  ·rw[eA z];decide
  ·rw[<- z];decide
 omega
theorem uR{x:Int}:(0≤sg x↔0≤x)∧(1≤sg x↔0<x):=by
 have:=jM (x:=x);omega
theorem pT{cx cy bx by_ ex ey x y a b:Int}(hy:0<y)(ha:0≤a)(hab:a≤b)(hb:0<b) :
  bL (cH cx cy bx by_ ex ey x y 0) a b=decide (wth cx cy bx by_ ex ey a b*y≤x*(b*b))∧(wth cx cy bx by_ ex ey a b*y<x*(b*b)->bL (cH cx cy bx by_ ex ey x y 1) a b=true)∧(uF (cH cx cy bx by_ ex ey x y 1) a b=true->wth cx cy bx by_ ex ey a b*y<x*(b*b)):=by
 have bb:0<b*b:=Int.mul_pos hb hb;unfold cH wth
 by_cases hs:[bx,by_] = [ex,ey]
 ·obtain⟨e1,e2⟩:=flat (cx:=cx) (cy:=cy) hs
  rw[e1,e2,decide_eq_true hs,if_pos rfl,if_pos rfl];unfold pwN;rw[if_pos hs,if_pos hs,wo];generalize (cx - bx)*(cx - bx)+(cy - by_)*(cy - by_)=C;have k:=uR (x:=x - C*y);have p:=fe (k:=b*b) (z:=x - C*y) bb;have e:b*b*(x - C*y)=x*(b*b) - (0*a*a - 2*0*a*b+C*b*b)*y:=by grind
  rw[e]at p;have f:=vt ha hab;refine⟨?_,fun h=>?_,fun h=>?_⟩
  ·by_cases z:sg (x - C*y)≥0
   ·rw[decide_eq_true z,if_neg (by decide),f,eq_comm,decide_eq_true_eq]
    omega
   ·rw[decide_eq_false z,if_pos (by decide),eq_comm]
    exact decide_eq_false (by omega)
  ·rw[decide_eq_true (show sg (x - C*y)≥1 by omega),if_neg (by decide)]
   exact f
  ·by_cases z:sg (x - C*y)≥1
   ·omega
   ·rw[decide_eq_false z,if_pos (by decide)]at h
    cases h
 ·have gv:=oC (cx:=cx) (cy:=cy) (x:=x) hs hy
  rw[decide_eq_false hs,if_neg (show ¬(false=true) by decide),if_neg (show ¬(false=true) by decide)];have ct:=gv.ct a b;have w0:=sqx (rAl cx cy bx by_ ex ey*y*b - a*(bC bx by_ ex ey*y));unfold pwN;rw[if_neg hs,if_neg hs];refine⟨?_,fun h=>?_,fun h=>?_⟩
  ·by_cases z:sg (rUn cx cy bx by_ ex ey x y)<0∨ro 1 0 0 1 (rAl cx cy bx by_ ex ey*y) (-1) (rUn cx cy bx by_ ex ey x y) (bC bx by_ ex ey*y)<0∨ro (rAl cx cy bx by_ ex ey*y) 1 (rUn cx cy bx by_ ex ey x y) (bC bx by_ ex ey*y) 0 0 0 1<0
   ·rw[if_pos (by simp only[Bool.or_eq_true,decide_eq_true_eq];exact z),eq_comm]
    have fr:=gv.far (gv.shut' z) ha hab hb;exact decide_eq_false (by omega)
   ·rw[if_neg (by simp only[Bool.or_eq_true,decide_eq_true_eq];exact z)]
    have o:=gv.shut z;have bu:0≤b*b*rUn cx cy bx by_ ex ey x y:=Int.mul_nonneg (by omega) o.u;have l1:=(gv.low_le o.u ha hb).1;have h1:=(gv.high_ge o.u hab hb).1;unfold bL;dsimp only;rw[Bool.eq_iff_iff,Bool.and_eq_true,decide_eq_true_eq,decide_eq_true_eq,decide_eq_true_eq,l1,h1,<- ct.1];generalize rAl cx cy bx by_ ex ey*y*b - a*(bC bx by_ ex ey*y)=W at *;generalize b*b*rUn cx cy bx by_ ex ey x y=V at *;constructor
    ·rintro⟨q1,q2⟩
     rcases Int.lt_trichotomy W 0 with w|w|w
     ·omega
     ·rw[w];omega
     ·omega
    ·intro q
     exact⟨fun ⟨_,q2⟩=>by omega,fun ⟨_,q2⟩=>by omega⟩
  ·have hw:=ct.2.mpr h
   have u0:0<rUn cx cy bx by_ ex ey x y:=by
    have:=fe (k:=b*b) (z:=rUn cx cy bx by_ ex ey x y) bb;omega
   have wge:=gv.wge (a:=a) hab;have wle:=gv.wle (b:=b) ha;have o:Dl (rAl cx cy bx by_ ex ey*y) (bC bx by_ ex ey*y) (rUn cx cy bx by_ ex ey x y):=by
    refine⟨u0,?_,?_⟩
    ·by_cases z:rAl cx cy bx by_ ex ey*y - bC bx by_ ex ey*y<0
     ·exact .inl z
     ·have s1:=jL (u:=b*(rAl cx cy bx by_ ex ey*y - bC bx by_ ex ey*y)) (Int.mul_nonneg (by omega) (by omega)) wge
      rw[jQ]at s1;exact .inr (Int.lt_of_mul_lt_mul_left (a:=b*b) (by omega) (by omega))
    ·by_cases z:0<rAl cx cy bx by_ ex ey*y
     ·exact .inl z
     ·have s1:=jL (u:=b * -(rAl cx cy bx by_ ex ey*y)) (v:=-(rAl cx cy bx by_ ex ey*y*b - a*(bC bx by_ ex ey*y))) (Int.mul_nonneg (by omega) (by omega)) (by rw[Int.mul_neg];omega)
      rw[jQ,Int.neg_mul_neg,Int.neg_mul_neg]at s1;exact .inr (Int.lt_of_mul_lt_mul_left (a:=b*b) (by omega) (by omega))
   have n:=gv.open1.mpr o;rw[if_neg (by simp only[Bool.or_eq_true,decide_eq_true_eq];exact n)];unfold bL;dsimp only;rw[Bool.and_eq_true,decide_eq_true_eq,decide_eq_true_eq,(gv.low_le (Int.le_of_lt u0) ha hb).1,(gv.high_ge (Int.le_of_lt u0) hab hb).1];exact⟨fun ⟨_,q2⟩=>by omega,fun ⟨_,q2⟩=>by omega⟩
  ·by_cases z:sg (rUn cx cy bx by_ ex ey x y)<1∨ro 1 0 0 1 (rAl cx cy bx by_ ex ey*y) (-1) (rUn cx cy bx by_ ex ey x y) (bC bx by_ ex ey*y)<1∨ro (rAl cx cy bx by_ ex ey*y) 1 (rUn cx cy bx by_ ex ey x y) (bC bx by_ ex ey*y) 0 0 0 1<1
   ·rw[if_pos (by simp only[Bool.or_eq_true,decide_eq_true_eq];exact z)]at h
    cases h
   ·rw[if_neg (by simp only[Bool.or_eq_true,decide_eq_true_eq];exact z)]at h
    have o:=gv.open1.mp z;have ou:=o.u;unfold uF at h;dsimp only at h;rw[Bool.and_eq_true,decide_eq_true_eq,decide_eq_true_eq]at h;have l2:=(gv.low_le (Int.le_of_lt ou) ha hb).2 h.1;have h2:=(gv.high_ge (Int.le_of_lt ou) hab hb).2 h.2;exact ct.2.mp (by omega)
def d5(K:W.Frag)(H:Hp)(v:V)(o:Option (N4×N4)):Prop:=match o with
 | none=>v = .non
 | some (l,m)=>∃t p q:Addr,v = .ref t∧H t=some (.tup [.ref p,.ref q])∧Nm K H p l∧Nm K H q m
theorem d5.mono{K:W.Frag}{H H':Hp}{v:V}{o:Option (N4×N4)}(h:d5 K H v o)(s:Same H H'):d5 K H' v o:=by
 cases o with
 | none=>exact h
 | some lm =>
  obtain⟨t,p,q,e,f,n1,n2⟩:=h;exact⟨t,p,q,e,s _ _ f,n1.mono s,n2.mono s⟩
theorem rB{K:W.Frag}{H:Hp}{v:V}{cx cy bx by_ ex ey x y room:Int}(hr:room=0∨room=1)(hy:0<y)(bx':au x≤230)(byy:au y≤130)(w1:au (ex - bx)≤51)(w2:au (ey - by_)≤51)(w3:au (cx - bx)≤51)(w4:au (cy - by_)≤51)
  (h:Pw K H v (pwN cx cy bx by_ ex ey x y room) (decide ([bx,by_] = [ex,ey])) (rAl cx cy bx by_ ex ey*y) (rUn cx cy bx by_ ex ey x y) (bC bx by_ ex ey*y)):d5 K H v (cH cx cy bx by_ ex ey x y room):=by
 unfold cH;rcases h with⟨rfl,hN⟩|⟨hN,t,p,q,ln,hn,rfl,et,al,ah,e1,e2⟩
 ·rw[if_pos hN]
  rfl
 ·rw[if_neg (by rw[hN];decide)]
  have key:(au ln.1≤240∧au ln.2.1≤2∧au ln.2.2.1≤470∧au ln.2.2.2≤240∧0≤ln.2.2.1∧1≤ln.2.2.2)∧(au hn.1≤240∧au hn.2.1≤2∧au hn.2.2.1≤470∧au hn.2.2.2≤240∧0≤hn.2.2.1∧1≤hn.2.2.2):=by
   by_cases hs:[bx,by_] = [ex,ey]
   ·rw[decide_eq_true hs,if_pos rfl]at e1 e2
    subst e1 e2;decide
   ·rw[decide_eq_false hs,if_neg (by decide)]at e1 e2
    subst e1 e2;have gv:=oC (cx:=cx) (cy:=cy) (x:=x) hs hy;have u0:0≤rUn cx cy bx by_ ex ey x y:=by
     unfold pwN at hN;rw[if_neg hs,Bool.or_eq_false_iff,decide_eq_false_iff_not]at hN;have:=jM (x:=rUn cx cy bx by_ ex ey x y);rcases hr with rfl|rfl <;> omega
    exact rH (br (bits_mul w1 w1) (bits_mul w2 w2)) (br (bits_mul w3 w1) (bits_mul w4 w2)) byy (sr w1 w2 w3 w4 bx' byy) u0 (Int.mul_pos gv.pa hy)
  rw[<- e1,<- e2];exact⟨t,p,q,rfl,et,⟨al,key.1.1,key.1.2.1,key.1.2.2.1,key.1.2.2.2.1,key.1.2.2.2.2.1,key.1.2.2.2.2.2⟩,⟨ah,key.2.1,key.2.2.1,key.2.2.2.1,key.2.2.2.2.1,key.2.2.2.2.2.1,key.2.2.2.2.2.2⟩⟩
def dk(k i j:Int):aK:=[.inl k,.inl i,.inl j]
theorem rK{k i j k' i' j':Int}(h:dk k i j=dk k' i' j'):k=k'∧i=i'∧j=j':=by
 unfold dk at h;simp only[List.cons.injEq,Sum.inl.injEq,and_true]at h;exact h
def cB(d:Addr)(H H':Hp):Prop:=∀b o,b≠d->H b=some o->H' b=some o
theorem cB.of{d:Addr}{H H':Hp}(s:Same H H'):cB d H H':=fun b o _ e=>s b o e
theorem cB.trans{d:Addr}{H H1 H2:Hp}(a:cB d H H1)(b:cB d H1 H2):cB d H H2:=fun c o n e=>b c o n (a c o n e)
theorem cB.upd{d:Addr}{H:Hp}{o:HO}:cB d H (upd H d o):=fun b o' n e=>by rw[aM n];exact e
theorem cB.t{d:Addr}{H H':Hp}(b:cB d H H')(hd:∀xs,H d≠some (.tup xs)):SameT H H':=fun x xs e=>b x _ (fun z=>hd xs (by rw[<- z];exact e)) e
theorem cB.same{d:Addr}{H0 H H':Hp}(b:cB d H H')(s:Same H0 H)(h:H0 d=none):Same H0 H':=fun c o e=>b c o (fun z=>by rw[z,h]at e;cases e) (s c o e)
def NoT(o:HO):Prop:=(∀xs,o≠.tup xs)∧∀ob xs,o≠.frz ob (.tup xs)
theorem nU{K:W.Frag}{H H':Hp}{a d:Addr}{xs:List V}{od:HO}(h:SqT K H a xs)(b:cB d H H')(hd:H d=some od)(n:NoT od):SqT K H' a xs:=by
 rcases h with(h|⟨o,h⟩)|h
 ·exact .inl (.inl (b _ _ (fun z=>n.1 xs (by rw[z,hd]at h;cases h;rfl)) h))
 ·exact .inl (.inr ⟨o,b _ _ (fun z=>n.2 o xs (by rw[z,hd]at h;cases h;rfl)) h⟩)
 ·exact .inr h
theorem d5.but{K:W.Frag}{H H':Hp}{v:V}{o:Option (N4×N4)}{d:Addr}{od:HO}(h:d5 K H v o)(b:cB d H H')(hd:H d=some od)(n:NoT od):d5 K H' v o:=by
 cases o with
 | none=>exact h
 | some lm =>
  obtain⟨t,p,q,e,f,n1,n2⟩:=h;exact⟨t,p,q,e,b _ _ (fun z=>n.1 _ (by rw[z,hd]at f;cases f;rfl)) f,⟨nU n1.at_ b hd n,n1.b0,n1.b1,n1.b2,n1.b3,n1.p2,n1.p3⟩,⟨nU n2.at_ b hd n,n2.b0,n2.b1,n2.b2,n2.b3,n2.p2,n2.p3⟩⟩
theorem qS{kvs:List (List Key×V)}:NoT (.dT kvs):=⟨(fun _ z=>by cases z),(fun _ _ z=>by cases z)⟩
structure x6(K:W.Frag)(H:Hp)(d:Addr)(G:Int->Int->Int->Option (N4×N4))(D:Int->Int->Int->Prop)(n:Nat):Prop where
 ex:∃kvs:List (List Key×V),H d=some (.dT kvs)∧kvs.length=n∧(∀k i j,D k i j->∃v,cY kvs (dk k i j)=some v∧d5 K H v (G k i j))∧∀k i j,¬D k i j->cY kvs (dk k i j)=none
theorem x6.mono{K:W.Frag}{H H':Hp}{d:Addr}{G:Int->Int->Int->Option (N4×N4)}{D:Int->Int->Int->Prop}{n:Nat}(h:x6 K H d G D n)(s:Same H H'):x6 K H' d G D n:=by
 obtain⟨kvs,e,l,a,b⟩:=h.ex;exact⟨kvs,s _ _ e,l,fun k i j x=>let ⟨v,e,g⟩:=a k i j x;⟨v,e,g.mono s⟩,b⟩
theorem x6.congr{K:W.Frag}{H:Hp}{d:Addr}{G:Int->Int->Int->Option (N4×N4)}{D D':Int->Int->Int->Prop}{n n':Nat}(h:x6 K H d G D n)(e:∀k i j,D k i j↔D' k i j)(en:n=n'):x6 K H d G D' n':=by
 subst en;obtain⟨kvs,e',l,a,b⟩:=h.ex;exact⟨kvs,e',l,fun k i j x=>a k i j ((e k i j).mpr x),fun k i j x=>b k i j fun y=>x ((e k i j).mp y)⟩
theorem rs0{A p q:Prop}{z:Int}{j:Nat}:((A∨(p∧q∧0≤z∧z<(j:Int)))∨(p∧q∧z=(j:Int)))↔A∨(p∧q∧0≤z∧z<((j+1:Nat):Int)):=by
 constructor
 ·rintro((h|⟨a,b,c,d⟩)|⟨a,b,c⟩)
  ·exact .inl h
  ·exact .inr ⟨a,b,c,by clear a b c;omega⟩
  ·exact .inr ⟨a,b,by clear a b;omega,by clear a b;omega⟩
 ·rintro(h|⟨a,b,c,d⟩)
  ·exact .inl (.inl h)
  ·rcases Int.lt_or_eq_of_le (show z≤(j:Int) by clear a b c;omega) with e|e
   ·exact .inl (.inr ⟨a,b,c,e⟩)
   ·exact .inr ⟨a,b,e⟩
theorem rs1{A p q:Prop}{z:Int}{j:Nat}:((A∨(p∧q∧0≤z∧z<(j:Int)))∨(p∧z=(j:Int)∧q))↔A∨(p∧q∧0≤z∧z<((j+1:Nat):Int)):=by
 rw[and_comm (a:=z=(j:Int)) (b:=q)];exact rs0
theorem re0{p:Prop}{x y M:Int}{i c:Nat}(e:(c:Int)=M):((p∧(0≤x∧x<(i:Int))∧0≤y∧y<M)∨(p∧x=(i:Int)∧0≤y∧y<(c:Int)))↔p∧(0≤x∧x<((i+1:Nat):Int))∧0≤y∧y<M:=by
 subst e;constructor
 ·rintro(⟨a,b,c⟩|⟨a,b,c⟩)
  ·exact⟨a,⟨b.1,by clear a c;omega⟩,c⟩
  ·exact⟨a,⟨by clear a c;omega,by clear a c;omega⟩,c⟩
 ·rintro⟨a,b,c⟩
  rcases Int.lt_or_eq_of_le (show x≤(i:Int) by clear a c;omega) with e|e
  ·exact .inl ⟨a,⟨b.1,e⟩,c⟩
  ·exact .inr ⟨a,e,c⟩
theorem re1{A p:Prop}{x y M:Int}{j c:Nat}(e:(c:Int)=M):((A∨(p∧(0≤x∧x<M)∧0≤y∧y<(j:Int)))∨(p∧y=(j:Int)∧0≤x∧x<(c:Int)))↔A∨(p∧(0≤x∧x<M)∧0≤y∧y<((j+1:Nat):Int)):=by
 subst e;constructor
 ·rintro((h|⟨a,b,c⟩)|⟨a,b,c⟩)
  ·exact .inl h
  ·exact .inr ⟨a,b,c.1,by clear a b;omega⟩
  ·exact .inr ⟨a,c,by clear a c;omega,by clear a c;omega⟩
 ·rintro(h|⟨a,b,c⟩)
  ·exact .inl (.inl h)
  ·rcases Int.lt_or_eq_of_le (show y≤(j:Int) by clear a b;omega) with e|e
   ·exact .inl (.inr ⟨a,b,c.1,e⟩)
   ·exact .inr ⟨a,e,b⟩
theorem ot{x n:Int}:x<n↔x≤n - 1:=by omega
theorem x6.put{K:W.Frag}{H:Hp}{d t:Addr}{G:Int->Int->Int->Option (N4×N4)}{D:Int->Int->Int->Prop}{n:Nat}{k i j:Int}{v:V}(h:x6 K H d G D n)(ht:H t=some (.tup ((dk k i j).map kV)))(g:d5 K H v (G k i j))(new:¬D k i j)(hn:n<1000) :
  ∃H',k9 H d (.ref t) v H'∧x6 K H' d G (fun k' i' j'=>D k' i' j'∨(k'=k∧i'=i∧j'=j)) (n+1)∧cB d H H':=by
 obtain⟨kvs,e,l,a,b⟩:=h.ex;refine⟨_,k9.t (k:=dk k i j) (v:=v) e ht (by have:=aT (n:=kvs.length) (by omega);exact this),⟨_,upd_same,?_,fun k' i' j' x=>?_,fun k' i' j' x=>?_⟩,cB.upd⟩
 ·rw[iK _ (b k i j new),List.length_append,l];rfl
 ·rw[lc]
  by_cases z:dk k' i' j'=dk k i j
  ·rw[if_pos z]
   obtain⟨rfl,rfl,rfl⟩:=rK z;exact⟨v,rfl,g.but cB.upd e qS⟩
  ·rw[if_neg z]
   rcases x with x|⟨rfl,rfl,rfl⟩
   ·obtain⟨v',e',g'⟩:=a k' i' j' x
    exact⟨v',e',g'.but cB.upd e qS⟩
   ·exact absurd rfl z
 ·rw[lc,if_neg (fun z=>x (.inr (rK z)))]
  exact b k' i' j' fun y=>x (.inl y)
theorem x6.get{K:W.Frag}{H:Hp}{d t:Addr}{G:Int->Int->Int->Option (N4×N4)}{D:Int->Int->Int->Prop}{n:Nat}{k i j:Int}(h:x6 K H d G D n)(ht:H t=some (.tup ((dk k i j).map kV))):∃o,fQ H d (.ref t) o∧(D k i j->∃v,o=some v∧d5 K H v (G k i j))∧(¬D k i j->o=none):=by
 obtain⟨kvs,e,l,a,b⟩:=h.ex;exact⟨_,fQ.t e ht,a k i j,b k i j⟩
def DIn(n m:Int)(k i j:Int):Prop:=(k=0∧(0≤i∧i≤n)∧0≤j∧j<m)∨(k=1∧(0≤i∧i<n)∧0≤j∧j≤m)
def cnX(qs:Crn)(i:Int):Int:=(qs.getD i.toNat (0,0,0)).2.1
def cnY(qs:Crn)(i:Int):Int:=(qs.getD i.toNat (0,0,0)).2.2
def bo(qs rs:Crn)(a b room:Int)(k i j:Int):Option (N4×N4) :=
 if k=0 then cH (cnX qs i) (cnY qs i) (cnX rs j) (cnY rs j) (cnX rs (j+1)) (cnY rs (j+1)) a b room
 else cH (cnX rs j) (cnY rs j) (cnX qs i) (cnY qs i) (cnX qs (i+1)) (cnY qs (i+1)) a b room
def jp(K:W.Frag)(H:Hp)(d:Addr)(n m:Int)(G:Int->Int->Int->Option (N4×N4)):Prop:=∃c,x6 K H d G (DIn n m) c
theorem jp.mono{K:W.Frag}{H H':Hp}{d:Addr}{n m:Int}{G:Int->Int->Int->Option (N4×N4)}(h:jp K H d n m G)(s:Same H H'):jp K H' d n m G:=let ⟨c,x⟩:=h;⟨c,x.mono s⟩
def dbl(qs:Crn):Crn:=if qs.length=1 then qs++qs else qs
theorem fk{qs:Crn}(h:1≤qs.length∧qs.length≤10):2≤(dbl qs).length∧(dbl qs).length≤10:=by
 unfold dbl
 split
 ·rw[List.length_append];omega
 ·omega
theorem _root_.Sp7.LineM.cn{H:Hp}{l:Addr}{qs:Crn}(L:LineM H l qs){i:Int}(h0:0≤i)(h1:i<(qs.length:Int)):∃p,atI (qs.map fun (q:Addr×Int×Int)=>V.ref q.1) i=some (.ref p)∧Cn H p (cnX qs i) (cnY qs i):=by
 have hi:i.toNat<qs.length:=by omega
 have e:qs.getD i.toNat (0,0,0)=qs[i.toNat]:=by rw[List.getD_eq_getElem?_getD,List.getElem?_eq_getElem hi];rfl
 have c:=L.crn _ (List.getElem_mem hi);refine⟨qs[i.toNat].1,?_,?_⟩
 ·have:atI (qs.map fun (q:Addr×Int×Int)=>V.ref q.1) ((i.toNat:Nat):Int)=some (.ref qs[i.toNat].1):=dB (by rw[List.getElem?_map,List.getElem?_eq_getElem hi];rfl)
  rw[show((i.toNat:Nat):Int)=i by omega]at this;exact this
 ·unfold cnX cnY
  rw[e];exact⟨c.1,dM c.2.1,dM c.2.2⟩
theorem oG{K:W.Frag}{H:Hp}{v:V}{p q r s:Addr}{cx cy bx by_ ex ey a b room:Int}(hr:room=0∨room=1)(hb:0<b)(c1:Cn H p cx cy)(c2:Cn H q bx by_)(c3:Cn H r ex ey)(sq:Sq H s a b)
  (h:Pw K H v (pwN cx cy bx by_ ex ey a b room) (decide ([bx,by_] = [ex,ey])) (rAl cx cy bx by_ ex ey*b) (rUn cx cy bx by_ ex ey a b) (bC bx by_ ex ey*b)):d5 K H v (cH cx cy bx by_ ex ey a b room) :=
 rB hr hb sq.ba sq.bb (aL c3.bx c2.bx) (aL c3.by_ c2.by_) (aL c1.bx c2.bx) (aL c1.by_ c2.by_) h
inductive BX (vs:List V) (H:Hp) (Q:VK) (x_3:XK):Prop
 | mk:∀(l:Addr) (qs:Crn),(vs = [.ref l])->(LineM H l qs)->((1≤qs.length∧qs.length≤10))->(∀r H',Same H H'->LineM H' r (dbl qs)->Q (.ref r) H')->BX vs H Q x_3
inductive Bb (K:W.Frag) (vs:List V) (H:Hp) (Q:VK) (x_3:XK):Prop
 | mk:∀(l1 l2 sp:Addr) (qs rs:Crn) (a b room:Int),(vs = [.ref l1,.ref l2,.ref sp,.int room])->(LineM H l1 qs)->(LineM H l2 rs)->((2≤qs.length∧qs.length≤10))->((2≤rs.length∧rs.length≤10))->((Sq H sp a b∧0<b))->((room=0∨room=1))->(∀d H',Same H H'->H d=none->jp K H' d ((qs.length:Int) - 1) ((rs.length:Int) - 1) (bo qs rs a b room)->Q (.ref d) H')->Bb K vs H Q x_3
structure xI(K:W.Frag)(C:Addr)(H:Hp)(f:Addr)(n m:Nat)(room:Int)(G:Int->Int->Int->Option (N4×N4))(F:Int->Int->Bool):Prop where
 ex:∃dx lt d fr,H f=some (.ins C dx [("room",.int room),("last",.ref lt),("doors",.ref d),("far",.ref fr)])∧H lt=some (.tup [.int (n:Int),.int (m:Int)])∧jp K H d n m G∧k8 H fr n m F
theorem xI.mono{K:W.Frag}{C:Addr}{H H':Hp}{f:Addr}{n m:Nat}{room:Int}{G:Int->Int->Int->Option (N4×N4)}{F:Int->Int->Bool}(h:xI K C H f n m room G F)(s:Same H H'):xI K C H' f n m room G F:=by
 obtain⟨dx,lt,d,fr,h1,h2,h3,h4⟩:=h.ex;exact⟨dx,lt,d,fr,s _ _ h1,s _ _ h2,h3.mono s,h4.mono s⟩
def aU(qs:Crn):Nat:=(dbl qs).length - 1
inductive AJ (K:W.Frag) (C:Addr) (vs:List V) (H:Hp) (Q:VK) (x_3:XK):Prop
 | mk:∀(f dx l1 l2 sp:Addr) (qs rs:Crn) (a b room:Int),(vs = [.ref f,.ref l1,.ref l2,.ref sp,.int room])->(H f=some (.ins C dx []))->(LineM H l1 qs)->(LineM H l2 rs)->((1≤qs.length∧qs.length≤10))->((1≤rs.length∧rs.length≤10))->((Sq H sp a b∧0<b))->((room=0∨room=1))->(∀H',cB f H H'->xI K C H' f (aU qs) (aU rs) room (bo (dbl qs) (dbl rs) a b room) (eD (dbl qs) (dbl rs) a b room)->Q .non H')->AJ K C vs H Q x_3
theorem Ap:xo ["line"] ["line"] (ai (top 36)):=smk
theorem gx(yr:Df K mg "with_a_stretch" (top 36))(T:Txt mg):Fn P w K mg base "with_a_stretch" ["line"] 1 BX:=by
 refine yr.fn Ap (fun _ _ _ _ _ _ us hl=>by obtain⟨_,rfl⟩:=dL hl;rfl) (fun vs H Q E h=>?_) (fun f cdv A outer s H vs Q E hr h=>?_)
 ·obtain⟨l,qs,rfl,_⟩:=h
  rfl
 ·obtain⟨l,qs,rfl,L,hl,k⟩:=h
  refine⟨_,(ao (aB (gj (aC bR (aG aI (by rfl) T.z_len bE (aa (pv 0) af)) ad (aE _)) (aj kB (pv 0) (pv 0)) (pv 0)))),?_⟩;have hll:(qs.map fun (q:Addr×Int×Int)=>V.ref q.1).length=qs.length:=List.length_map _;unfold dbl at k;refine⟨_,rfl,l,_,rfl,.inl (SqL.of L.lst),rfl,_,rfl,?_⟩;rw[hll,di];refine aR (fun c=>?_) (fun c=>?_)
  ·have c:qs.length=1:=by have:((qs.length:Nat):Int)=1:=bK c;omega
   rw[if_pos c]at k;refine⟨_,rfl,_,rfl,l,l,_,_,rfl,rfl,L.lst,L.lst,sz (by simp;omega),fun r H1 s1 f1 _=>k r H1 s1 ⟨by rw[f1,List.map_append],fun q hq=>?_⟩⟩;rcases List.mem_append.mp hq with h|h
   ·exact(L.mono s1).crn q h
   ·exact(L.mono s1).crn q h
  ·have c:¬qs.length=1:=fun z=>bY c (by rw[z];rfl)
   rw[if_neg c]at k;exact⟨_,rfl,k l H (Same.refl _) L⟩
theorem xS:xo ["one","other","square","room","doors","i","corner","j"] ["one","other","square","room"] (ai (top 37)):=smk
theorem mw(Aj:Df K mg "doors_of" (top 37))(V_UPRIGHT:∃tk,mg "UPRIGHT" = some (.int 0 tk))(V_LEVEL:∃tk,mg "LEVEL" = some (.int 1 tk))(yx:Fn P w K mg base "part_within" ["corner","begin","end","square","room"] 5 (B0 K))(yf:Fn P w K mg base "last_of" ["line"] 1 Ba)(T:Txt mg):Fn P w K mg base "doors_of" ["one","other","square","room"] 6 (Bb K):=by
 refine Aj.fn xS (fun _ _ _ _ _ _ us hl=>by obtain⟨_,_,_,_,rfl⟩:=rh hl;rfl) (fun vs H Q E h=>?_) (fun f cdv A outer s H vs Q E hr h=>?_)
 ·obtain⟨l1,l2,sp,qs,rs,a,b,room,rfl,_⟩:=h
  rfl
 ·obtain⟨l1,l2,sp,qs,rs,a,b,room,rfl,L1,L2,hq,hr',⟨sq,hb⟩,hroom,k⟩:=h
  obtain⟨tU,xV⟩:=V_UPRIGHT;obtain⟨tL,zi⟩:=V_LEVEL;refine⟨_,(ag (ax (i:=4) xS.nd rfl (Or.inl rfl) iN) (ag (cI PassesOwn.never rfl (io rfl T.z_enumerate (aa (pv 0) af)) (gJ rfl (cr (aY (i:=5) xS.nd rfl (Or.inl rfl)) (cr (aY (i:=6) xS.nd rfl (Or.inl rfl)) fh))) (ao (cI PassesOwn.never rfl (fg rfl T.z_range (aa (aA yf (hr.mono (by decide)) (by rfl) (aa (pv 1) af)) af)) (aY (i:=7) xS.nd rfl (Or.inl rfl)) (ao (gf (dY hr) (pv 4) (az (aa (bw (v:=.int 0) (by rfl) xV ⟨_,rfl⟩) (aa (pv 5) (aa (pv 7) af)))) (aA yx (hr.mono (by decide)) (by rfl) (aa (pv 6) (aa (ar aO (pv 1) (pv 7) (fun _ _=>rfl)) (aa (ar aO (pv 1) (aj aN (pv 7) ad) (fun _ _=>rfl)) (aa (pv 2) (aa (pv 3) af)))))) rfl))))) (ag (cI PassesOwn.never rfl (io rfl T.z_enumerate (aa (pv 1) af)) (gJ rfl (cr (aY (i:=7) xS.nd rfl (Or.inl rfl)) (cr (aY (i:=6) xS.nd rfl (Or.inl rfl)) fh))) (ao (cI PassesOwn.never rfl (fg rfl T.z_range (aa (aA yf (hr.mono (by decide)) (by rfl) (aa (pv 0) af)) af)) (aY (i:=5) xS.nd rfl (Or.inl rfl)) (ao (gf (dY hr) (pv 4) (az (aa (bw (v:=.int 1) (by rfl) zi ⟨_,rfl⟩) (aa (pv 5) (aa (pv 7) af)))) (aA yx (hr.mono (by decide)) (by rfl) (aa (pv 6) (aa (ar aO (pv 0) (pv 5) (fun _ _=>rfl)) (aa (ar aO (pv 0) (aj aN (pv 5) ad) (fun _ _=>rfl)) (aa (pv 2) (aa (pv 3) af)))))) rfl))))) (ao (aB (pv 4)))))),?_⟩;have hl1:(qs.map fun (q:Addr×Int×Int)=>V.ref q.1).length=qs.length:=List.length_map _;have hl2:(rs.map fun (q:Addr×Int×Int)=>V.ref q.1).length=rs.length:=List.length_map _;generalize hG:bo qs rs a b room=G at k;have G0:∀i j:Int,G 0 i j=cH (cnX qs i) (cnY qs i) (cnX rs j) (cnY rs j) (cnX rs (j+1)) (cnY rs (j+1)) a b room:=fun i j=>by rw[<- hG];rfl
  have G1:∀i j:Int,G 1 i j=cH (cnX rs j) (cnY rs j) (cnX qs i) (cnY qs i) (cnX qs (i+1)) (cnY qs (i+1)) a b room:=fun i j=>by rw[<- hG];rfl
  refine fun d hd=>?_;have s0:Same H (upd H d (.dT [])):=Same.new hd;refine⟨_,rfl,l1,rfl,⟨_,SqL.of (s0 _ _ L1.lst)⟩,gw (K:=K) (a:=l1) (xs:=qs.map fun (q:Addr×Int×Int)=>V.ref q.1) (fun i σ H'=>∃(z5 z6 z7:Option V),σ = [some (.ref l1),some (.ref l2),some (.ref sp),some (.int room),some (.ref d),z5,z6,z7]∧Same H H'∧x6 K H' d G (fun k' i' j'=>k'=0∧(0≤i'∧i'<(i:Int))∧0≤j'∧j'<(rs.length:Int) - 1) (i*(rs.length - 1)))
   ⟨_,_,_,rfl,s0,[],upd_same,(by simp),fun k' i' j' h=>by omega,fun _ _ _ _=>rfl⟩ (fun i σ H' _ ⟨_,_,_,_,s',_⟩=>SqL.of (s' _ _ L1.lst)) ?_ ?_⟩
  ·rintro i x pp σ H1 H2 hx ⟨z5,z6,z7,rfl,s1,e1⟩ s2 f2
   have hi:=(List.getElem?_eq_some_iff.mp hx).1;rw[hl1]at hi;obtain⟨pc,ac,c1⟩:=L1.cn (i:=(i:Int)) (by omega) (by omega);obtain rfl:x = .ref pc:=by
    have:=dB hx;rw[ac]at this;cases this;rfl
   have S2:=s1.trans s2;refine⟨pp,_,rfl,SqT.of f2,rfl,_,_,rfl,_,_,rfl,rfl,?_⟩;refine⟨_,rfl,l2,_,rfl,S2 _ _ L2.lst,_,rfl,by omega,by omega,?_⟩;have en:(((rs.map fun (q:Addr×Int×Int)=>V.ref q.1).length:Nat):Int) - 1=((rs.length - 1:Nat):Int):=by omega
   rw[en,Int.toNat_natCast];refine dZ (n:=rs.length - 1) (lo:=0) (fun j σ H'=>∃(z7:Option V),σ = [some (.ref l1),some (.ref l2),some (.ref sp),some (.int room),some (.ref d),some (.int (i:Int)),some (.ref pc),z7]∧Same H H'∧x6 K H' d G (fun k' i' j'=>(k'=0∧(0≤i'∧i'<(i:Int))∧0≤j'∧j'<(rs.length:Int) - 1)∨(k'=0∧i'=(i:Int)∧0≤j'∧j'<(j:Int))) (i*(rs.length - 1)+j))
    ⟨_,rfl,S2,(e1.mono s2).congr (fun k' i' j'=>⟨.inl,fun h=>h.elim id fun z=>absurd z.2.2 (by omega)⟩) rfl⟩ ?_ ?_
   ·rintro j σ H3 hj ⟨z7,rfl,s3,e3⟩
    rw[Int.zero_add];obtain⟨pb,ab,c2⟩:=L2.cn (i:=(j:Int)) (by omega) (by omega);obtain⟨pe,ae,c3⟩:=L2.cn (i:=(j:Int)+1) (by omega) (by omega);have S3:=SqL.of (K:=K) (s3 _ _ L2.lst);refine⟨_,rfl,_,rfl,_,rfl,l2,_,_,_,rfl,rfl,S3,ab,_,rfl,_,rfl,_,_,rfl,rfl,l2,_,_,_,rfl,rfl,S3,ae,_,rfl,_,rfl,pc,pb,pe,sp,_,_,_,_,_,_,a,b,room,rfl,c1.mono s3,c2.mono s3,c3.mono s3,sq.mono s3,fun v H4 s4 pw=>?_⟩;have S4:=s3.trans s4;refine⟨_,rfl,_,rfl,_,rfl,sz (by simp),fun t H5 s5 f5 _=>?_⟩;have S5:=S4.trans s5;have gv:d5 K H5 v (G 0 i j):=by
     rw[G0];exact(oG hroom hb (c1.mono S4) (c2.mono S4) (c3.mono S4) (sq.mono S4) pw).mono s5
    obtain⟨H6,dp,e6,b6⟩:=((e3.mono s4).mono s5).put (k:=0) (i:=(i:Int)) (j:=(j:Int)) f5 gv (by omega) (by
     have:=Nat.mul_le_mul (show i≤10 by omega) (show rs.length - 1≤9 by omega);omega)
    exact⟨d,H6,rfl,dp,_,rfl,b6.same S5 hd,e6.congr (fun _ _ _=>rs0) (by omega)⟩
   ·rintro σ H3 ⟨z7,rfl,s3,e3⟩
    exact⟨_,_,_,rfl,s3,e3.congr (fun _ _ _=>re0 (by omega)) (by rw[Nat.add_mul,Nat.one_mul])⟩
  ·rintro σ H1 ⟨z5,z6,z7,rfl,s1,e1⟩
   rw[hl1]at e1;refine⟨_,rfl,l2,rfl,⟨_,SqL.of (s1 _ _ L2.lst)⟩,gw (K:=K) (a:=l2) (xs:=rs.map fun (q:Addr×Int×Int)=>V.ref q.1) (fun j σ H'=>∃(z5 z6 z7:Option V),σ = [some (.ref l1),some (.ref l2),some (.ref sp),some (.int room),some (.ref d),z5,z6,z7]∧Same H H'∧x6 K H' d G (fun k' i' j'=>(k'=0∧(0≤i'∧i'<(qs.length:Int))∧0≤j'∧j'<(rs.length:Int) - 1)∨(k'=1∧(0≤i'∧i'<(qs.length:Int) - 1)∧0≤j'∧j'<(j:Int))) (qs.length*(rs.length - 1)+j*(qs.length - 1)))
    ⟨_,_,_,rfl,s1,e1.congr (fun k' i' j'=>⟨.inl,fun h=>h.elim id fun z=>absurd z.2.2 (by omega)⟩) (by simp)⟩ (fun i σ H' _ ⟨_,_,_,_,s',_⟩=>SqL.of (s' _ _ L2.lst)) ?_ ?_⟩
   ·rintro j x pp σ H1 H2 hx ⟨z5,z6,z7,rfl,s1,e1⟩ s2 f2
    have hj:=(List.getElem?_eq_some_iff.mp hx).1;rw[hl2]at hj;obtain⟨pc,ac,c1⟩:=L2.cn (i:=(j:Int)) (by omega) (by omega);obtain rfl:x = .ref pc:=by
     have:=dB hx;rw[ac]at this;cases this;rfl
    have S2:=s1.trans s2;refine⟨pp,_,rfl,SqT.of f2,rfl,_,_,rfl,_,_,rfl,rfl,?_⟩;refine⟨_,rfl,l1,_,rfl,S2 _ _ L1.lst,_,rfl,by omega,by omega,?_⟩;have en:(((qs.map fun (q:Addr×Int×Int)=>V.ref q.1).length:Nat):Int) - 1=((qs.length - 1:Nat):Int):=by omega
    rw[en,Int.toNat_natCast];refine dZ (n:=qs.length - 1) (lo:=0) (fun i σ H'=>∃(z5:Option V),σ = [some (.ref l1),some (.ref l2),some (.ref sp),some (.int room),some (.ref d),z5,some (.ref pc),some (.int (j:Int))]∧Same H H'∧x6 K H' d G (fun k' i' j'=>((k'=0∧(0≤i'∧i'<(qs.length:Int))∧0≤j'∧j'<(rs.length:Int) - 1)∨(k'=1∧(0≤i'∧i'<(qs.length:Int) - 1)∧0≤j'∧j'<(j:Int)))∨(k'=1∧j'=(j:Int)∧0≤i'∧i'<(i:Int))) (qs.length*(rs.length - 1)+j*(qs.length - 1)+i))
     ⟨_,rfl,S2,(e1.mono s2).congr (fun k' i' j'=>⟨.inl,fun h=>h.elim id fun z=>absurd z.2.2 (by omega)⟩) rfl⟩ ?_ ?_
    ·rintro i σ H3 hi ⟨z7,rfl,s3,e3⟩
     rw[Int.zero_add];obtain⟨pb,ab,c2⟩:=L1.cn (i:=(i:Int)) (by omega) (by omega);obtain⟨pe,ae,c3⟩:=L1.cn (i:=(i:Int)+1) (by omega) (by omega);have S3:=SqL.of (K:=K) (s3 _ _ L1.lst);refine⟨_,rfl,_,rfl,_,rfl,l1,_,_,_,rfl,rfl,S3,ab,_,rfl,_,rfl,_,_,rfl,rfl,l1,_,_,_,rfl,rfl,S3,ae,_,rfl,_,rfl,pc,pb,pe,sp,_,_,_,_,_,_,a,b,room,rfl,c1.mono s3,c2.mono s3,c3.mono s3,sq.mono s3,fun v H4 s4 pw=>?_⟩;have S4:=s3.trans s4;refine⟨_,rfl,_,rfl,_,rfl,sz (by simp),fun t H5 s5 f5 _=>?_⟩;have S5:=S4.trans s5;have gv:d5 K H5 v (G 1 i j):=by
      rw[G1];exact(oG hroom hb (c1.mono S4) (c2.mono S4) (c3.mono S4) (sq.mono S4) pw).mono s5
     obtain⟨H6,dp,e6,b6⟩:=((e3.mono s4).mono s5).put (k:=1) (i:=(i:Int)) (j:=(j:Int)) f5 gv (by omega) (by
      have:=Nat.mul_le_mul (show qs.length≤10 by omega) (show rs.length - 1≤9 by omega);have:=Nat.mul_le_mul (show j≤10 by omega) (show qs.length - 1≤9 by omega);omega)
     exact⟨d,H6,rfl,dp,_,rfl,b6.same S5 hd,e6.congr (fun _ _ _=>rs1) (by omega)⟩
    ·rintro σ H3 ⟨z7,rfl,s3,e3⟩
     exact⟨_,_,_,rfl,s3,e3.congr (fun _ _ _=>re1 (by omega)) (by rw[Nat.add_mul,Nat.one_mul];omega)⟩
   ·rintro σ H2 ⟨z5,z6,z7,rfl,s2,e2⟩
    rw[hl2]at e2;exact⟨_,rfl,k d H2 s2 hd ⟨_,e2.congr (fun k' i' j'=>by unfold DIn;rw[<- ot,<- ot]) rfl⟩⟩
theorem sY{C dx:Addr}{fs:List (Str×V)}:NoT (.ins C dx fs):=⟨(fun _ z=>by cases z),(fun _ _ z=>by cases z)⟩
theorem dX{H H':Hp}{l f C dx:Addr}{qs:Crn}{fs:List (Str×V)}(L:LineM H l qs)(b:cB f H H')(hf:H f=some (.ins C dx fs)):LineM H' l qs :=
 ⟨b _ _ (fun z=>by have:=L.lst;rw[z,hf]at this;cases this) L.lst,fun q hq=>⟨b _ _ (fun z=>by have:=(L.crn q hq).1;rw[z,hf]at this;cases this) (L.crn q hq).1,(L.crn q hq).2⟩⟩
theorem eZ{H H':Hp}{p f C dx:Addr}{xs:List V}{fs:List (Str×V)}(h:H p=some (.tup xs))(b:cB f H H')(hf:H f=some (.ins C dx fs)):H' p=some (.tup xs):=b _ _ (fun z=>by rw[z,hf]at h;cases h) h
theorem jY{K:W.Frag}{H H':Hp}{d f C dx:Addr}{n m:Int}{G:Int->Int->Int->Option (N4×N4)}{fs:List (Str×V)}(h:jp K H d n m G)(b:cB f H H')(hf:H f=some (.ins C dx fs)):jp K H' d n m G:=by
 obtain⟨c,⟨kvs,e,l,a,z⟩⟩:=h;exact⟨c,⟨kvs,b _ _ (fun y=>by rw[y,hf]at e;cases e) e,l,fun k i j x=>let ⟨v,e,g⟩:=a k i j x;⟨v,e,g.but b hf sY⟩,z⟩⟩
theorem tQ{H H':Hp}{d f C dx:Addr}{m n:Nat}{F:Int->Int->Bool}{fs:List (Str×V)}(h:k8 H d m n F)(b:cB f H H')(hf:H f=some (.ins C dx fs)):k8 H' d m n F:=by
 obtain⟨o,e⟩:=h;exact⟨o,b _ _ (fun y=>by rw[y,hf]at e;cases e) e⟩
theorem yG:xo ["self","one","other","square","room","first","second"] ["self","one","other","square","room"] (ai (sZ 39 0)):=smk
theorem ia(yV:Dn K C_Field "__init__" "Field.__init__" (sZ 39 0))(xr:AN K mg "Field" C_Field)(n_room:a9 K C_Field "room")(n_last:a9 K C_Field "last")(n_doors:a9 K C_Field "doors")(n_far:a9 K C_Field "far")(xW:Fn P w K mg base "with_a_stretch" ["line"] 1 BX)(yf:Fn P w K mg base "last_of" ["line"] 1 Ba)(zY:Fn P w K mg base "doors_of" ["one","other","square","room"] 6 (Bb K))(y4:Fn P w K mg base "far_corners" ["one","other","square","room"] 3 Cd)(T:Txt mg):Mt P w K mg base C_Field "__init__" ["self","one","other","square","room"] 7 (AJ K C_Field):=by
 refine yV.mt yG (fun _ _ _ _ _ _ us hl=>by obtain⟨_,_,_,_,_,rfl⟩:=tm hl;rfl) (fun vs H Q E h=>?_) (fun f cdv A outer s H vs Q E hr h=>?_)
 ·obtain⟨f,dx,l1,l2,sp,qs,rs,a,b,room,rfl,_⟩:=h
  rfl
 ·obtain⟨f,dx,l1,l2,sp,qs,rs,a,b,room,rfl,hf,L1,L2,hq,hr',⟨sq,hb⟩,hroom,k⟩:=h
  refine⟨_,(ag (ax (i:=5) yG.nd rfl (Or.inl rfl) (aA xW (hr.mono (by decide)) (by rfl) (aa (pv 1) af))) (ag (ax (i:=6) yG.nd rfl (Or.inl rfl) (aA xW (hr.mono (by decide)) (by rfl) (aa (pv 2) af))) (ag (ko (pv 0) (pv 4) rfl) (ag (ko (pv 0) (az (aa (aA yf (hr.mono (by decide)) (by rfl) (aa (pv 5) af)) (aa (aA yf (hr.mono (by decide)) (by rfl) (aa (pv 6) af)) af))) rfl) (ag (ko (pv 0) (aA zY (hr.mono (by decide)) (by rfl) (aa (pv 5) (aa (pv 6) (aa (pv 3) (aa (pv 4) af))))) rfl) (ao (ko (pv 0) (aA y4 (hr.mono (by decide)) (by rfl) (aa (pv 5) (aa (pv 6) (aa (pv 3) (aa (pv 4) af))))) rfl))))))),?_⟩;have dq:=fk hq;have dr:=fk hr';have h1:((dbl qs).map fun (q:Addr×Int×Int)=>V.ref q.1).length=(dbl qs).length:=List.length_map _;have h2:((dbl rs).map fun (q:Addr×Int×Int)=>V.ref q.1).length=(dbl rs).length:=List.length_map _;refine⟨_,rfl,l1,qs,rfl,L1,hq,fun r1 H1 s1 F1=>?_⟩;refine⟨_,rfl,l2,rs,rfl,L2.mono s1,hr',fun r2 H2 s2 F2=>?_⟩;have S2:=s1.trans s2;have f2:=S2 _ _ hf;refine⟨_,rfl,_,rfl,f,C_Field,dx,[],rfl,f2,xr.cls,n_room,by simp,?_⟩;have b3:cB f H2 (upd H2 f (.ins C_Field dx (cV "room" (.int room) []))):=cB.upd;have f3:(upd H2 f (.ins C_Field dx (cV "room" (.int room) []))) f=some (.ins C_Field dx [("room",.int room)]):=upd_same;have A3:=dX (F1.mono s2) b3 f2;have B3:=dX F2 b3 f2;have Q3:Sq (upd H2 f (.ins C_Field dx (cV "room" (.int room) []))) sp a b:=⟨eZ (S2 _ _ sq.at_) b3 f2,sq.ba,sq.bb⟩;generalize upd H2 f (.ins C_Field dx (cV "room" (.int room) []))=H3 at b3 f3 A3 B3 Q3;refine⟨_,rfl,r1,_,rfl,A3.lst,_,rfl,r2,_,rfl,B3.lst,sz (by simp),fun lt H4 s4 f4 n4=>?_⟩;have f4':=s4 _ _ f3;refine⟨_,rfl,f,C_Field,dx,_,rfl,f4',xr.cls,n_last,by simp,?_⟩;have b5:cB f H4 (upd H4 f (.ins C_Field dx (cV "last" (.ref lt) [("room",.int room)]))):=cB.upd;have f5:(upd H4 f (.ins C_Field dx (cV "last" (.ref lt) [("room",.int room)]))) f=some (.ins C_Field dx [("room",.int room),("last",.ref lt)]):=upd_same;have A5:=dX (A3.mono s4) b5 f4';have B5:=dX (B3.mono s4) b5 f4';have Q5:Sq (upd H4 f (.ins C_Field dx (cV "last" (.ref lt) [("room",.int room)]))) sp a b:=⟨eZ (s4 _ _ Q3.at_) b5 f4',sq.ba,sq.bb⟩;have T5:=eZ f4 b5 f4';generalize upd H4 f (.ins C_Field dx (cV "last" (.ref lt) [("room",.int room)]))=H5 at b5 f5 A5 B5 Q5 T5;refine⟨_,rfl,_,rfl,_,rfl,_,rfl,r1,r2,sp,dbl qs,dbl rs,a,b,room,rfl,A5,B5,dq,dr,⟨Q5,hb⟩,hroom,fun d H6 s6 nd D6=>?_⟩;have f6:=s6 _ _ f5;refine⟨_,rfl,f,C_Field,dx,_,rfl,f6,xr.cls,n_doors,by simp,?_⟩;have b7:cB f H6 (upd H6 f (.ins C_Field dx (cV "doors" (.ref d) [("room",.int room),("last",.ref lt)]))):=cB.upd;have f7:(upd H6 f (.ins C_Field dx (cV "doors" (.ref d) [("room",.int room),("last",.ref lt)]))) f=some (.ins C_Field dx [("room",.int room),("last",.ref lt),("doors",.ref d)]):=upd_same;have A7:=dX (A5.mono s6) b7 f6;have B7:=dX (B5.mono s6) b7 f6;have Q7:Sq (upd H6 f (.ins C_Field dx (cV "doors" (.ref d) [("room",.int room),("last",.ref lt)]))) sp a b:=⟨eZ (s6 _ _ Q5.at_) b7 f6,sq.ba,sq.bb⟩;have T7:=eZ (s6 _ _ T5) b7 f6;have D7:=jY D6 b7 f6;generalize upd H6 f (.ins C_Field dx (cV "doors" (.ref d) [("room",.int room),("last",.ref lt)]))=H7 at b7 f7 A7 B7 Q7 T7 D7;refine⟨_,rfl,_,rfl,_,rfl,_,rfl,r1,r2,sp,dbl qs,dbl rs,a,b,room,rfl,A7,B7,⟨by omega,by omega⟩,⟨by omega,by omega⟩,Q7,fun fr H8 s8 D8=>?_⟩;have f8:=s8 _ _ f7;refine⟨_,rfl,f,C_Field,dx,_,rfl,f8,xr.cls,n_far,by simp,?_⟩;have b9:cB f H8 (upd H8 f (.ins C_Field dx (cV "far" (.ref fr) [("room",.int room),("last",.ref lt),("doors",.ref d)]))):=cB.upd;have e1:(((dbl qs).length:Nat):Int) - 1=((aU qs:Nat):Int):=by unfold aU;omega
  have e2:(((dbl rs).length:Nat):Int) - 1=((aU rs:Nat):Int):=by unfold aU;omega
  refine k _ ((cB.of S2).trans (b3.trans ((cB.of s4).trans (b5.trans ((cB.of s6).trans (b7.trans ((cB.of s8).trans b9))))))) ⟨dx,lt,d,fr,upd_same,?_,?_,tQ D8 b9 f8⟩
  ·have:=eZ (s8 _ _ T7) b9 f8
   rw[h1,h2,e1,e2]at this;exact this
  ·have:=jY (D7.mono s8) b9 f8
   rw[e1,e2]at this;exact this
theorem v5(x:Int):0≤x*x:=sqx x
theorem lL{w p u:Int}(hu:0≤u)(h:ssq w+ssq p*u<0):(if sg w*sg (ssq p*u)≥0 then sg (sg w+sg (ssq p*u)) else sg w*sg (w*w - p*p*u)) = -1:=by
 have pp:=Int.mul_nonneg (v5 p) hu;have hp:ssq p*u=p*p*u∨ssq p*u = -(p*p*u):=by
  rcases Int.lt_or_le p 0 with g|g
  ·exact .inr (by rw[dy g];grind)
  ·exact .inl (by rw[du g])
 generalize ssq p*u=z at *;generalize p*p*u=y at *;have ww:=v5 w;rcases Int.lt_trichotomy w 0 with g|g|g
 ·rw[dy g]at h
  rw[fz g];rcases Int.lt_trichotomy z 0 with k|k|k
  ·rw[fz k];rfl
  ·rw[qA k];rfl
  ·rw[eA k,eA (x:=w*w - y) (by omega)];rfl
 ·subst g
  have k:z<0:=by simpa[ssq]using h
  rw[fz k];rfl
 ·rw[du (by omega)]at h
  have k:z<0:=by omega
  rw[eA g,fz k,fz (x:=w*w - y) (by omega)];rfl
theorem Nm.rt{K:W.Frag}{H:Hp}{p:Addr}{l:N4}(h:Nm K H p l):Rt K H p l.1 l.2.1 l.2.2.1 l.2.2.2:=⟨h.at_,aw h.b0 (by decide),aw h.b1 (by decide),aw h.b2 (by decide),aw h.b3 (by decide)⟩
theorem uG{P U L:Int}(hL:0<L)(hU:0≤U):ro P (-1) U L P 1 U L=if U=0 then 0 else -1:=by
 unfold ro cf;have e0:P*L - P*L=0:=by omega
 rw[e0];have s0:sg 0=0:=rfl;rw[s0,Int.zero_mul,if_pos (by decide),Int.zero_add];have e1:ssq (-1*L) = -(L*L):=by
  unfold ssq;rw[if_pos (by omega)]
  grind
 rw[e1]
 by_cases h:U=0
 ·rw[if_pos h,h]
  simp[sg]
 ·rw[if_neg h]
  have hp:0<L*L*U:=Int.mul_pos (Int.mul_pos hL hL) (by omega);have:-(L*L)*U + -(L*L)*U<0:=by
   rw[Int.neg_mul];omega
  unfold sg;generalize -(L*L)*U + -(L*L)*U=z at *;rw[if_neg (by omega),if_pos (by omega)]
theorem wc{P U L:Int}{j:Nat}(hL:0<L)(hU:1≤U)(hs:2*L≤scl j):∀F G,Rm P (-1) U L P 1 U L j F G->F+1+2≤-G - 1:=by
 rintro F G ⟨⟨R1,r1,rfl⟩,⟨R2,r2,rfl⟩⟩;have sp:=dh j;generalize scl j=sc at *;have e:sc*sc*(-1)*(-1)*U=sc*sc*U:=by grind
 rw[e]at r1 r2;rw[e];have big:∀R,Cm 1 (sc*sc*U) R->sc≤R:=fun R r=>by
  rcases Int.lt_or_le R sc with z|z
  ·exfalso
   have h1:=r.hi;have h2:=r.nn;rw[Int.one_mul]at h1;have h3:(R+1)*(R+1)≤sc*sc:=Int.mul_le_mul (by omega) (by omega) (by omega) (by omega);have h4:sc*sc*1≤sc*sc*U:=Int.mul_le_mul_of_nonneg_left hU (Int.mul_nonneg (by omega) (by omega));omega
  ·exact z
 have b1:=big R1 r1;have b2:=big R2 r2;have f1:flr (-1) (sc*sc*U) R1≤-sc:=by
  unfold flr;rw[if_pos (by decide)]
  split <;> omega
 have f2:flr (-1) (sc*sc*U) R2≤-sc:=by
  unfold flr;rw[if_pos (by decide)]
  split <;> omega
 generalize flr (-1) (sc*sc*U) R1=c1 at *;generalize flr (-1) (sc*sc*U) R2=c2 at *;have d1:=Int.ediv_mul_le (sc*P+c1) (show L≠0 by omega);have d2:=Int.ediv_mul_le (sc * -P+c2) (show L≠0 by omega);generalize (sc*P+c1) / L=F at *;generalize (sc * -P+c2) / L=G at *;have d3:(F+G)*L≤-(4*L):=by
  rw[Int.add_mul];rw[Int.mul_neg]at d2;omega
 have:F+G≤-4:=by
  rcases Int.lt_or_le (-4) (F+G) with z|z
  ·exfalso
   have:=Int.mul_le_mul_of_nonneg_right (show -3≤F+G by omega) (show 0≤L by omega);omega
  ·exact z
 omega
inductive Cv:N4->N4->Prop
 | flat:Cv (0,0,0,1) (1,0,0,1)
 | gate {P U L:Int} (hL:0<L) (hU:0≤U) (h1:0≤ro 1 0 0 1 P (-1) U L) (h2:0≤ro P 1 U L 0 0 0 1):Cv (dU P U L) (cT P U L)
theorem rn{cx cy bx by_ ex ey x y room:Int}{l m:N4}(hr:room=0∨room=1)(hy:0<y)(h:cH cx cy bx by_ ex ey x y room=some (l,m)):Cv l m:=by
 unfold cH at h
 by_cases hN:pwN cx cy bx by_ ex ey x y room=true
 ·rw[if_pos hN]at h
  cases h
 ·rw[if_neg hN]at h
  have hN:pwN cx cy bx by_ ex ey x y room=false:=by simpa using hN
  injection h with h;injection h with e1 e2
  by_cases hs:[bx,by_] = [ex,ey]
  ·rw[decide_eq_true hs,if_pos rfl]at e1 e2
   rw[<- e1,<- e2];exact .flat
  ·rw[decide_eq_false hs,if_neg (by decide)]at e1 e2
   have gv:=oC (cx:=cx) (cy:=cy) (x:=x) hs hy;rw[<- e1,<- e2];unfold pwN at hN;rw[if_neg hs,Bool.or_eq_false_iff,decide_eq_false_iff_not,Bool.or_eq_false_iff,decide_eq_false_iff_not,decide_eq_false_iff_not]at hN;have:=jM (x:=rUn cx cy bx by_ ex ey x y);exact .gate gv.lpos (by rcases hr with rfl|rfl <;> omega) (by rcases hr with rfl|rfl <;> omega) (by rcases hr with rfl|rfl <;> omega)
def PF(l m:N4)(t u:Int):Prop :=
 if ro l.1 l.2.1 l.2.2.1 l.2.2.2 0 0 0 1=0 then t=0∧u=1
 else if ro m.1 m.2.1 m.2.2.1 m.2.2.2 1 0 0 1=0 then t=1∧u=1
 else if l.2.2.1=0 then ze l.1 l.2.2.2 t u
 else Wi l.1 l.2.1 l.2.2.1 l.2.2.2 m.1 m.2.1 m.2.2.1 m.2.2.2 t u
theorem wx{l m:N4}(g:Cv l m)(h:ro l.1 l.2.1 l.2.2.1 l.2.2.2 0 0 0 1=0):bL (some (l,m)) 0 1=true:=by
 unfold bL;dsimp only;rw[Bool.and_eq_true,decide_eq_true_eq,decide_eq_true_eq];refine⟨by unfold Sp5.ltB;rw[h];decide,?_⟩;rw[jT];cases g with
 | flat=>rw[gX.2];decide
 | gate hL hU h1 h2 =>
  unfold cT
  split
  ·rw[gX.2];decide
  ·unfold Sp5.ltB
   dsimp only;omega
theorem wv{l m:N4}(g:Cv l m)(h:ro m.1 m.2.1 m.2.2.1 m.2.2.2 1 0 0 1=0):bL (some (l,m)) 1 1=true:=by
 unfold bL;dsimp only;rw[Bool.and_eq_true,decide_eq_true_eq,decide_eq_true_eq];refine⟨?_,by rw[jT];unfold Sp5.ltB;rw[h];decide⟩;cases g with
 | flat=>rw[gX.1];decide
 | gate hL hU h1 h2 =>
  unfold dU
  split
  ·rw[gX.1];decide
  ·unfold Sp5.ltB
   dsimp only;rw[d7];omega
theorem tH{l m:N4}(g:Cv l m)(n0:¬ro l.1 l.2.1 l.2.2.1 l.2.2.2 0 0 0 1=0)(n1:¬ro m.1 m.2.1 m.2.2.1 m.2.2.2 1 0 0 1=0):∃P U L,0<L∧0≤U∧l=(P,-1,U,L)∧m=(P,1,U,L)∧(0<P∧U<P*P)∧P - L<0∧U<(P - L)*(P - L):=by
 cases g with
 | flat=>exact absurd rfl n0
 | gate hL hU h1 h2 =>
  rename_i P U L;unfold dU at n0 ⊢;unfold cT at n1 ⊢
  by_cases c1:ro P (-1) U L 0 0 0 1<0
  ·rw[if_pos c1]at n0
   exact absurd rfl n0
  ·by_cases c2:ro P 1 U L 1 0 0 1>0
   ·rw[if_pos c2]at n1
    exact absurd rfl n1
   ·rw[if_neg c1]at n0 ⊢
    rw[if_neg c2]at n1 ⊢;dsimp only at n0 n1;have e1:ro P (-1) U L 0 0 0 1=cf P (-1) U 0 0:=by rw[cC];congr 1 <;> omega
    have e2:ro P 1 U L 1 0 0 1=cf (P - L) 1 U 0 0:=by rw[cC];congr 1 <;> omega
    rw[e1]at c1 n0;rw[e2]at c2 n1;exact⟨P,U,L,hL,hU,rfl,rfl,(pD hU).1.mp (by omega),(pC hU).1.mp (by omega)⟩
theorem tD{P L t u:Int}(hL:0<L)(f:ze P L t u):bL (some ((P,-1,0,L),(P,1,0,L))) t u=true:=by
 have e:=f.eq;unfold bL;dsimp only;rw[Bool.and_eq_true,decide_eq_true_eq,decide_eq_true_eq,jT];unfold Sp5.ltB;dsimp only;rw[cC,cC,show P*u - t*L=0 by omega];constructor
 ·unfold cf;simp[sg,swr,ssq]
 ·unfold cf;simp[sg,swr,ssq]
theorem wt{P U L t u:Int}(hL:0<L)(hU:0≤U)(hu:0<u)(p0:0<P∧U<P*P)(p1:P - L<0∧U<(P - L)*(P - L))(w:Wi P (-1) U L P 1 U L t u):bL (some ((P,-1,U,L),(P,1,U,L))) t u=true∧0≤t∧t≤u:=by
 obtain⟨m1,m2⟩:=w.mid hU hL hU hL;have r1:cf (P*u - t*L) (-u) U 0 0<0:=by
  rw[jK,show(-u:Int) = -1*u by omega];rw[lL hU m1];decide
 have r2:cf (t*L - P*u) (-u) U 0 0<0:=by
  rw[jK,show(-u:Int) = -1*u by omega];rw[lL hU m2];decide
 have k1:=(oj (W:=P*u - t*L) hu hU).2.2.mp r1;have k2:=(oj (W:=t*L - P*u) hu hU).2.2.mp r2;refine⟨?_,?_,?_⟩
 ·unfold bL
  dsimp only;rw[Bool.and_eq_true,decide_eq_true_eq,decide_eq_true_eq,jT];unfold Sp5.ltB;dsimp only;rw[cC,cC];constructor
  ·rw[show(-1:Int)*u = -u by omega];omega
  ·rw[Int.one_mul]
   have:0<cf (P*u - t*L) u U 0 0:=(oh hu hU).2.2.mpr (by
    rcases k2 with z|z
    ·exact .inl (by omega)
    ·refine .inr ?_
     have e:(t*L - P*u)*(t*L - P*u)=(P*u - t*L)*(P*u - t*L):=by grind
     rw[<- e];exact z)
   omega
 ·rcases Int.lt_or_le t 0 with z|z
  ·exfalso
   have a1:0<P*u:=Int.mul_pos p0.1 hu;have a2:0 < -t*L:=Int.mul_pos (by omega) hL;have a3:P*u≤P*u - t*L:=by rw[Int.neg_mul]at a2;omega
   rcases k1 with y|y
   ·omega
   ·have b1:(P*u)*(P*u)≤(P*u - t*L)*(P*u - t*L):=Int.mul_le_mul a3 a3 (by omega) (by omega)
    have b2:u*u*U<u*u*(P*P):=Int.mul_lt_mul_of_pos_left p0.2 (Int.mul_pos hu hu);have e:u*u*(P*P)=(P*u)*(P*u):=by grind
    omega
  ·exact z
 ·rcases Int.lt_or_le u t with z|z
  ·exfalso
   have a1:0<(L - P)*u:=Int.mul_pos (by omega) hu;have a2:0<(t - u)*L:=Int.mul_pos (by omega) hL;have e0:t*L - P*u=(L - P)*u+(t - u)*L:=by grind
   rcases k2 with y|y
   ·omega
   ·have b1:((L - P)*u)*((L - P)*u)≤(t*L - P*u)*(t*L - P*u):=Int.mul_le_mul (by omega) (by omega) (by omega) (by omega)
    have b2:u*u*U<u*u*((P - L)*(P - L)):=Int.mul_lt_mul_of_pos_left p1.2 (Int.mul_pos hu hu);have e:u*u*((P - L)*(P - L))=((L - P)*u)*((L - P)*u):=by grind
    omega
  ·exact z
structure Co(H:Hp)(q:Pr):Prop where
 p_:H q.p=some (.tup [.ref q.x,.ref q.y])
 x_:H q.x=some (.tup [.int q.a,.int q.b])
 y_:H q.y=some (.tup [.int q.c,.int q.d])
 lx:AW q.a q.b
 ly:AW q.c q.d
 nx:0≤q.a
 ny:0≤q.c
 ba:au q.a≤1500
 bb:au q.b≤1500
 bc:au q.c≤1500
 bd:au q.d≤1500
theorem Co.t{H H':Hp}{q:Pr}(h:Co H q)(s:SameT H H'):Co H' q:=⟨s _ _ h.p_,s _ _ h.x_,s _ _ h.y_,h.lx,h.ly,h.nx,h.ny,h.ba,h.bb,h.bc,h.bd⟩
theorem _root_.Wk.PrAt.two{H:Hp}{q:Pr}(h:PrAt H q):Co H q:=⟨h.p_,h.x_,h.y_,h.lx,h.ly,h.nx,h.ny,aw h.ba (by decide),aw h.bb (by decide),aw h.bc (by decide),aw h.bd (by decide)⟩
structure CL(H:Hp)(l:Addr)(ps:List Pr):Prop where
 lst:H l=some (.lst (prs ps))
 pr:∀q∈ps,Co H q
theorem CL.mono{H H':Hp}{l:Addr}{ps:List Pr}(h:CL H l ps)(s:Same H H'):CL H' l ps:=⟨s _ _ h.lst,fun q hq=>(h.pr q hq).t s.t⟩
inductive CV (K:W.Frag) (vs:List V) (H:Hp) (Q:VK) (x_3:XK):Prop
 | mk:∀(p q:Addr) (l m:N4),(vs = [.ref p,.ref q])->(Nm K H p l)->(Nm K H q m)->(Cv l m)->(∀(r:Addr) (t u:Int) (H':Hp),Same H H'->Cp H' r t u 740->PF l m t u->bL (some (l,m)) t u=true->0≤t->t≤u->Q (.ref r) H')->CV K vs H Q x_3
def nF(k i j t u:Int)(q:Pr):Prop:=(k=0∧q.a=i∧q.b=1∧q.c=j*u+t∧q.d=u)∨(k=1∧q.a=i*u+t∧q.b=u∧q.c=j∧q.d=1)
inductive B4 (vs:List V) (H:Hp) (Q:VK) (x_3:XK):Prop
 | mk:∀(t p:Addr) (k i j a b:Int),(vs = [.ref t,.ref p])->(H t=some (.tup ((dk k i j).map kV)))->((k=0∨k=1))->((0≤i∧i≤1000))->((0≤j∧j≤1000))->((Cp H p a b 740∧0≤a∧a≤b))->(∀(q:Pr) H',Same H H'->Co H' q->nF k i j a b q->Q (.ref q.p) H')->B4 vs H Q x_3
inductive CU (K:W.Frag) (C:Addr) (vs:List V) (H:Hp) (Q:VK) (x_3:XK):Prop
 | mk:∀(f t:Addr) (n m:Nat) (room:Int) (G:Int->Int->Int->Option (N4×N4)) (F:Int->Int->Bool) (k i j:Int) (l h:N4),(vs = [.ref f,.ref t])->(xI K C H f n m room G F)->(H t=some (.tup ((dk k i j).map kV)))->(DIn n m k i j)->((n≤20∧m≤20))->(G k i j=some (l,h))->(Cv l h)->(∀(q:Pr) (a b:Int) H',Same H H'->Co H' q->PF l h a b->bL (some (l,h)) a b=true->0≤a->a≤b->AW a b->nF k i j a b q->Q (.ref q.p) H')->CU K C vs H Q x_3
def cZ(n m i j:Int):Bool:=(decide (0≤i) && decide (i<n)) && (decide (0≤j) && decide (j<m))
inductive AI (K:W.Frag) (C:Addr) (vs:List V) (H:Hp) (Q:VK) (x_3:XK):Prop
 | mk:∀(f c:Addr) (n m:Nat) (room:Int) (G:Int->Int->Int->Option (N4×N4)) (F:Int->Int->Bool) (i j:Int),(vs = [.ref f,.ref c])->(xI K C H f n m room G F)->(H c=some (.tup [.int i,.int j]))->(Q (.bl (cZ n m i j)) H)->AI K C vs H Q x_3
theorem iU{a b n:Int}(h:AW a b):AW (n*b+a) b:=by
 refine⟨h.pos,?_⟩;have:=h.one;rw[Int.add_comm,Int.mul_comm];rw[Int.gcd_add_mul_left_left];exact this
theorem Bp:xo ["low","high"] ["low","high"] (ai (top 43)):=smk
theorem kK{C pB pE:Addr}(zJ:Df K mg "part_from" (top 43))(zP:mg "BEGIN" = some (.ref pB))(AX:mg "END" = some (.ref pE))(hB:∀H,SqT K H pB [.int 0,.int 0,.int 0,.int 1])(hE:∀H,SqT K H pE [.int 1,.int 0,.int 0,.int 1])(xv:Fn P w K mg base "root_order" ["one","other"] 4 (BZ K))(yJ:Fx P w K mg base "root_between" ["one","other"] 5 [] (CT K C)):Fn P w K mg base "part_from" ["low","high"] 6 (CV K):=by
 refine zJ.fn Bp (fun _ _ _ _ _ _ us hl=>by obtain⟨_,_,rfl⟩:=dI hl;rfl) (fun vs H Q E h=>?_) (fun f cdv A outer s H vs Q E hr h=>?_)
 ·obtain⟨p,q,l,m,rfl,_⟩:=h
  rfl
 ·obtain⟨p,q,l,m,rfl,n1,n2,go,k⟩:=h
  refine⟨_,(ag (aQ (aC bR (aA xv (hr.mono (by decide)) (by rfl) (aa (pv 0) (aa (bw (v:=.ref _) (by rfl) zP rfl) af))) ad (aE _)) (ao (aB (az (aa ad (aa ad af))))) aF) (ag (aQ (aC bR (aA xv (hr.mono (by decide)) (by rfl) (aa (pv 1) (aa (bw (v:=.ref _) (by rfl) AX rfl) af))) ad (aE _)) (ao (aB (az (aa ad (aa ad af))))) aF) (ao (aB (ku yJ (hr.mono (by decide)) (by rfl) (aa (pv 0) (aa (pv 1) af))))))),?_⟩;have RB:∀H,Rt K H pB 0 0 0 1:=fun H=>⟨hB H,by decide,by decide,by decide,by decide⟩;have RE:∀H,Rt K H pE 1 0 0 1:=fun H=>⟨hE H,by decide,by decide,by decide,by decide⟩;have pf:∀{t u:Int},PF l m t u↔if ro l.1 l.2.1 l.2.2.1 l.2.2.2 0 0 0 1=0 then t=0∧u=1 else if ro m.1 m.2.1 m.2.2.1 m.2.2.2 1 0 0 1=0 then t=1∧u=1 else if l.2.2.1=0 then ze l.1 l.2.2.2 t u else Wi l.1 l.2.1 l.2.2.1 l.2.2.2 m.1 m.2.1 m.2.2.1 m.2.2.2 t u:=fun {t u}=>Iff.rfl
  refine⟨_,rfl,_,_,_,_,_,_,_,_,_,_,rfl,n1.rt,RB _,rfl,_,rfl,?_⟩;rw[di];refine aR (fun c1=>?_) (fun c1=>?_)
  ·have c1:=bK c1
   exact⟨sz (by simp),fun r H1 s1 f1 _=>k r 0 1 H1 s1 ⟨f1,⟨by decide,by decide⟩,by decide,by decide⟩ (pf.mpr (by rw[if_pos c1];exact⟨rfl,rfl⟩)) (wx go c1) (by decide) (by decide)⟩
  have c1:=bY c1;refine⟨_,rfl,_,_,_,_,_,_,_,_,_,_,rfl,n2.rt,RE _,rfl,_,rfl,?_⟩;rw[di];refine aR (fun c2=>?_) (fun c2=>?_)
  ·have c2:=bK c2
   exact⟨sz (by simp),fun r H1 s1 f1 _=>k r 1 1 H1 s1 ⟨f1,⟨by decide,by decide⟩,by decide,by decide⟩ (pf.mpr (by rw[if_neg c1,if_pos c2];exact⟨rfl,rfl⟩)) (wv go c2) (by decide) (by decide)⟩
  have c2:=bY c2;obtain⟨P',U,L,hL,hU,rfl,rfl,p0,p1⟩:=tH go c1 c2;have hro:=uG (P:=P') hL hU;refine⟨_,rfl,_,rfl,p,q,P',-1,U,L,P',1,U,L,240,235,8,740,rfl,n1.rt,n2.rt,⟨hU,hL,hU,hL,n1.b0,aw n1.b1 (by decide),n1.b2,n1.b0,by decide,n1.b2,by decide,by decide⟩,⟨by decide,by decide,by decide⟩,fun z=>?_,fun z R r=>?_,fun z=>?_⟩
  ·rw[hro]at z
   split at z <;> omega
  ·have u0:U=0:=by
    rw[hro]at z
    split at z
    ·assumption
    ·omega
   subst u0;have r0:R=0:=by
    have h1:=r.lo;have h2:=r.nn;simp only[Int.mul_zero]at h1;rcases Int.lt_or_eq_of_le h2 with z|z
    ·have:=Int.mul_pos z z
     omega
    ·exact z.symm
   subst r0;refine⟨fun z=>absurd (by simp) z,fun _ r' t u H1 s1 f1 fr _ _=>?_⟩;have fr:ze P' L t u:=by
    have e:P'+sg (-1)*0=P':=by simp
    rw[e]at fr;exact fr
   have b:=pW hL fr n1.b0 n1.b3;have e:=fr.eq;have hu:=fr.low.pos;refine k r' t u H1 s1 ⟨f1,fr.low,aw b.1 (by decide),aw b.2 (by decide)⟩ (pf.mpr (by rw[if_neg c1,if_neg c2,if_pos rfl];exact fr)) (tD hL fr) ?_ ?_
   ·rcases Int.lt_or_le t 0 with z|z
    ·exfalso
     have a1:=Int.mul_pos p0.1 hu;have a2:=Int.mul_neg_of_neg_of_pos z hL;omega
    ·exact z
   ·rcases Int.lt_or_le u t with z|z
    ·exfalso
     have a1:=Int.mul_lt_mul_of_pos_right (show P'<L by omega) hu;have a2:=Int.mul_lt_mul_of_pos_right z hL;rw[Int.mul_comm L u]at a1;omega
    ·exact z
  ·have u1:1≤U:=by
    rw[hro]at z
    split at z
    ·omega
    ·omega
   refine⟨wc hL u1 ?_,fun r t u H1 s1 f1 wi bt bu=>?_⟩
   ·have h1:=cF n1.b3
    have e:scl 8=2^256:=rfl;rw[e];have e2:(2:Int)^256=((2^256:Nat):Int):=by norm_cast
    rw[e2];have e3:(2:Nat)^256=65536*2^240:=by decide
    dsimp only at h1;omega
   ·obtain⟨j,F,G,ts,mm,h1,h2,h3,h4,h5⟩:=id wi
    obtain⟨w1,w2,w3⟩:=wt hL hU h5.low.pos p0 p1 wi;exact k r t u H1 s1 ⟨f1,h5.low,bt,bu⟩ (pf.mpr (by rw[if_neg c1,if_neg c2,if_neg (by dsimp only;omega)];exact wi)) w1 w2 w3
theorem AK:xo ["door","part"] ["door","part"] (ai (top 44)):=smk
theorem hY(yS:Df K mg "pair_in_door" (top 44))(V_UPRIGHT:∃tk,mg "UPRIGHT" = some (.int 0 tk))(Bj:Fn P w K mg base "plus" ["a","b"] 3 (Ch (fun a b c d=>a*d+c*b) (fun a b c d=>b*d))):Fn P w K mg base "pair_in_door" ["door","part"] 4 B4:=by
 refine yS.fn AK (fun _ _ _ _ _ _ us hl=>by obtain⟨_,_,rfl⟩:=dI hl;rfl) (fun vs H Q E h=>?_) (fun f cdv A outer s H vs Q E hr h=>?_)
 ·obtain⟨t,p,k,i,j,a,b,rfl,_⟩:=h
  rfl
 ·obtain⟨t,p,k,i,j,a,b,rfl,ht,hk,bi,bj,⟨fr,a0,ab⟩,kq⟩:=h
  obtain⟨tU,xV⟩:=V_UPRIGHT;refine⟨_,(ag (aQ (aC bR (ar ap (pv 0) ad (fun _ _=>rfl)) (bw (v:=.int 0) (by rfl) xV ⟨_,rfl⟩) (aE _)) (ao (aB (@az _ _ _ _ _ (@aa _ _ _ _ _ (@az _ _ _ _ _ (@aa _ _ _ _ _ (ar ap (pv 0) ad (fun _ _=>rfl)) (@aa _ _ _ _ _ ad af (by rfl)) (by rfl))) (@aa _ _ _ _ _ (aA Bj (hr.mono (by decide)) (by rfl) (aa (az (aa (ar ap (pv 0) ad (fun _ _=>rfl)) (aa ad af))) (aa (pv 1) af))) af (by rfl)) (by rfl))))) aF) (ao (aB (@az _ _ _ _ _ (@aa _ _ _ _ _ (aA Bj (hr.mono (by decide)) (by rfl) (aa (az (aa (ar ap (pv 0) ad (fun _ _=>rfl)) (aa ad af))) (aa (pv 1) af))) (@aa _ _ _ _ _ (@az _ _ _ _ _ (@aa _ _ _ _ _ (ar ap (pv 0) ad (fun _ _=>rfl)) (@aa _ _ _ _ _ ad af (by rfl)) (by rfl))) af (by rfl)) (by rfl)))))),?_⟩;have ht:H t=some (.tup [.int k,.int i,.int j]):=ht;have hb:=fr.low.pos;have T:=fun {H':Hp} (s:Same H H')=>SqT.of (K:=K) (s _ _ ht);have one:au (1:Int)≤740:=by decide
  have sm:∀{x:Int},0≤x∧x≤1000->au x≤740:=fun h=>aw (aW (by omega) h.2) (by decide);have lw:∀x:Int,AW x 1:=fun x=>⟨Int.le_refl 1,by simp⟩;have sum:∀{x y z:Int},ze (x*b+a*1) (1*b) y z->y=x*b+a∧z=b:=fun {x y z} f=>by
   have e:=f.eq;rw[Int.mul_one,Int.one_mul]at e;exact iT f.low (iU fr.low) (by rw[<- e])
  refine⟨_,rfl,t,_,_,_,rfl,rfl,T (Same.refl _),rfl,rfl,_,rfl,?_⟩;rw[di];refine aR (fun c=>?_) (fun c=>?_)
  ·have c:k=0:=bK c
   subst c;refine⟨_,rfl,t,_,_,_,rfl,rfl,T (Same.refl _),rfl,sz (by simp),fun x H1 s1 f1 _=>?_⟩;refine⟨_,rfl,t,_,_,_,rfl,rfl,T s1,rfl,sz (by simp),fun y H2 s2 f2 _=>?_⟩;have S2:=s1.trans s2;refine⟨_,rfl,y,p,j,1,a,b,740,rfl,⟨f2,lw j,sm bj,one⟩,fr.mono S2,by decide,by omega,fun r s' w' H3 ff f3 s3=>?_⟩;obtain⟨rfl,rfl⟩:=sum ff;refine⟨sz (by simp),fun o H4 s4 f4 _=>kq ⟨o,x,r,i,1,j*w'+a,w'⟩ H4 ((S2.trans s3).trans s4) ⟨f4,s4 _ _ (s3 _ _ (s2 _ _ f1)),s4 _ _ f3.at_,lw i,iU fr.low,bi.1,Int.add_nonneg (Int.mul_nonneg bj.1 (by omega)) a0,aw (sm bi) (by decide),(show au (1:Int)≤1500 by decide),aw f3.ba (by decide),aw f3.bb (by decide)⟩ (.inl ⟨rfl,rfl,rfl,rfl,rfl⟩)⟩
  ·have c:¬k=0:=bY c
   have c:k=1:=by omega
   subst c;refine⟨_,rfl,t,_,_,_,rfl,rfl,T (Same.refl _),rfl,sz (by simp),fun x H1 s1 f1 _=>?_⟩;refine⟨_,rfl,x,p,i,1,a,b,740,rfl,⟨f1,lw i,sm bi,one⟩,fr.mono s1,by decide,by omega,fun r s' w' H2 ff f2 s2=>?_⟩;obtain⟨rfl,rfl⟩:=sum ff;have S2:=s1.trans s2;refine⟨_,rfl,t,_,_,_,rfl,rfl,T S2,rfl,sz (by simp),fun y H3 s3 f3 _=>?_⟩;refine⟨sz (by simp),fun o H4 s4 f4 _=>kq ⟨o,r,y,i*w'+a,w',j,1⟩ H4 ((S2.trans s3).trans s4) ⟨f4,s4 _ _ (s3 _ _ f2.at_),s4 _ _ f3,iU fr.low,lw j,Int.add_nonneg (Int.mul_nonneg bi.1 (by omega)) a0,bj.1,aw f2.ba (by decide),aw f2.bb (by decide),aw (sm bj) (by decide),(show au (1:Int)≤1500 by decide)⟩ (.inr ⟨rfl,rfl,rfl,rfl,rfl⟩)⟩
theorem BS:xo ["field","cell"] ["field","cell"] (ai (top 51)):=smk
theorem nB(AB:Df K mg "is_cell" (top 51))(xr:AN K mg "Field" C_Field)(n_last:a9 K C_Field "last")(n_doors:a9 K C_Field "doors")(n_far:a9 K C_Field "far"):Fn P w K mg base "is_cell" ["field","cell"] 1 (AI K C_Field):=by
 refine AB.fn BS (fun _ _ _ _ _ _ us hl=>by obtain⟨_,_,rfl⟩:=dI hl;rfl) (fun vs H Q E h=>?_) (fun f cdv A outer s H vs Q E hr h=>?_)
 ·obtain⟨f,c,n,m,room,G,F,i,j,rfl,_⟩:=h
  rfl
 ·obtain⟨f,c,n,m,room,G,F,i,j,rfl,fa,hc,q⟩:=h
  refine⟨_,(ao (aB (iO (lG oe cS ad (ar ap (pv 1) ad (fun _ _=>rfl)) (ar ap (dF (pv 0) rfl) ad (fun _ _=>rfl))) (fH (lG oe cS ad (ar ap (pv 1) ad (fun _ _=>rfl)) (ar ap (dF (pv 0) rfl) ad (fun _ _=>rfl))))))),?_⟩;obtain⟨dx,lt,d,fr,hf,hl,_,_⟩:=fa.ex;unfold cZ at q;have L:=SqT.of (K:=K) hl;refine⟨_,rfl,c,_,_,_,rfl,rfl,SqT.of hc,rfl,_,_,rfl,rfl,_,rfl,aR (fun c1=>?_) (fun c1=>?_)⟩
  ·rw[c1,Bool.true_and]at q
   refine⟨_,rfl,f,C_Field,dx,_,_,rfl,hf,xr.cls,n_last,rfl,lt,_,_,_,rfl,rfl,L,rfl,_,_,rfl,rfl,_,rfl,aR (fun c2=>?_) (fun c2=>?_)⟩
   ·rw[c2,Bool.true_and]at q
    refine⟨_,rfl,c,_,_,_,rfl,rfl,SqT.of hc,rfl,_,_,rfl,rfl,_,rfl,aR (fun c3=>?_) (fun c3=>?_)⟩
    ·rw[c3,Bool.true_and]at q
     exact⟨_,rfl,f,C_Field,dx,_,_,rfl,hf,xr.cls,n_last,rfl,lt,_,_,_,rfl,rfl,L,rfl,_,_,rfl,rfl,q⟩
    ·rw[c3,Bool.false_and]at q
     exact q
   ·rw[c2,Bool.false_and]at q
    exact q
  ·rw[c1,Bool.false_and,Bool.false_and]at q
   exact⟨_,rfl,fB q⟩
theorem zQ:xo ["field","door","part"] ["field","door"] (ai (top 53)):=smk
theorem jc(za:Df K mg "pair_within" (top 53))(xr:AN K mg "Field" C_Field)(n_last:a9 K C_Field "last")(n_doors:a9 K C_Field "doors")(n_far:a9 K C_Field "far")(zG:Fn P w K mg base "part_from" ["low","high"] 6 (CV K))(yK:Fn P w K mg base "pair_in_door" ["door","part"] 4 B4):Fn P w K mg base "pair_within" ["field","door"] 7 (CU K C_Field):=by
 refine za.fn zQ (fun _ _ _ _ _ _ us hl=>by obtain⟨_,_,rfl⟩:=dI hl;rfl) (fun vs H Q E h=>?_) (fun f cdv A outer s H vs Q E hr h=>?_)
 ·obtain⟨f,t,n,m,room,G,F,k,i,j,l,h,rfl,_⟩:=h
  rfl
 ·obtain⟨f,t,n,m,room,G,F,k,i,j,l,h,rfl,fa,ht,din,⟨hn,hm⟩,eg,go,kq⟩:=h
  refine⟨_,(ag (ax (i:=2) zQ.nd rfl (Or.inl rfl) (ip (dY hr) (dF (pv 0) rfl) (pv 1) (fun _ _=>rfl))) (ao (aB (aA yK (hr.mono (by decide)) (by rfl) (aa (pv 1) (aa (aA zG (hr.mono (by decide)) (by rfl) (aa (ar ap (pv 2) ad (fun _ _=>rfl)) (aa (ar ap (pv 2) ad (fun _ _=>rfl)) af))) af)))))),?_⟩;obtain⟨dx,lt,d,fr,hf,hl,⟨cc,dd⟩,_⟩:=fa.ex;obtain⟨o,dg,hv,_⟩:=dd.get ht;obtain⟨v,rfl,gv⟩:=hv din;rw[eg]at gv;obtain⟨t2,p,q,rfl,e2,m1,m2⟩:=gv;refine⟨_,rfl,f,C_Field,dx,_,_,rfl,hf,xr.cls,n_doors,rfl,_,rfl,d,_,rfl,dg,?_⟩;have E:=SqT.of (K:=K) e2;refine⟨_,rfl,_,rfl,t2,_,_,_,rfl,rfl,E,rfl,_,rfl,t2,_,_,_,rfl,rfl,E,rfl,p,q,l,h,rfl,m1,m2,go,fun r a b H1 s1 f1 pf wi a0 ab=>?_⟩;refine⟨t,r,k,i,j,a,b,rfl,s1 _ _ ht,by unfold DIn at din;omega,by unfold DIn at din;omega,by unfold DIn at din;omega,⟨f1,a0,ab⟩,fun q H2 s2 pq dp=>kq q a b H2 (s1.trans s2) pq pf wi a0 ab f1.low dp⟩
abbrev GF:=Int->Int->Int->Option (N4×N4)
def cR(i j:Int):List (aK×Lb):=[(ck (i - 1) j,.key (dk 0 i j)),(ck i (j - 1),.key (dk 1 i j)),(ck (i+1) j,.key (dk 0 (i+1) j)),(ck i (j+1),.key (dk 1 i (j+1)))]
def lJ(n m:Nat)(G:GF):aK×Lb->Bool
 | ([.inl x,.inl y],.key [.inl k,.inl i,.inl j])=>cZ n m x y && (G k i j).isSome
 | _=>false
def fw(n m:Nat)(G:GF):aK->List (aK×Lb)
 | [.inl i,.inl j]=>(cR i j).filter (lJ n m G)
 | _=>[]
def dJ(i j:Int):List (aK×Lb):=[(ck i (j - 1),.key (dk 0 i (j - 1))),(ck (i - 1) j,.key (dk 1 (i - 1) j)),(ck i (j+1),.key (dk 0 i j)),(ck (i+1) j,.key (dk 1 i j))]
noncomputable def nV(n m:Nat)(G:GF):aK×Lb->Bool
 | (_,.key [.inl k,.inl i,.inl j])=>@decide (DIn n m k i j) (Classical.propDecidable _) && (G k i j).isNone
 | _=>false
noncomputable def fE(n m:Nat)(G:GF):aK->List (aK×Lb)
 | [.inl i,.inl j]=>(dJ i j).filter (nV n m G)
 | _=>[]
def bT(K:W.Frag)(H:Hp)(e:aK×Lb)(v:V):Prop:=∃t sv hv,v = .ref t∧H t=some (.tup [sv,hv])∧bH H sv e.1∧ic K H hv e.2
theorem bT.mono{K:W.Frag}{H H':Hp}{e:aK×Lb}{v:V}(h:bT K H e v)(s:SameT H H'):bT K H' e v:=by
 obtain⟨t,sv,hv,h1,h2,h3,h4⟩:=h;exact⟨t,sv,hv,h1,s _ _ h2,h3.mono s,h4.mono s⟩
theorem bT.mk{K:W.Frag}{H:Hp}{x y k i j:Int}{t a b:Addr}(ht:H t=some (.tup [.ref a,.ref b]))(ha:H a=some (.tup [.int x,.int y]))(hb:H b=some (.tup [.int k,.int i,.int j])):bT K H (ck x y,.key (dk k i j)) (.ref t) :=
 ⟨t,.ref a,.ref b,rfl,ht,⟨a,rfl,ha⟩,⟨b,rfl,hb⟩⟩
inductive Bs (K:W.Frag) (C:Addr) (vs:List V) (H:Hp) (Q:VK) (x_3:XK):Prop
 | mk:∀(f c:Addr) (n m:Nat) (room:Int) (G:GF) (F:Int->Int->Bool) (i j:Int),(vs = [.ref f,.ref c])->(xI K C H f n m room G F)->(H c=some (.tup [.int i,.int j]))->((0≤i∧i<(n:Int)))->((0≤j∧j<(m:Int)))->(∀r H',Same H H'->H r=none->k6 K H' r (fw n m G (ck i j))->Q (.ref r) H')->Bs K C vs H Q x_3
inductive Bc (K:W.Frag) (C:Addr) (vs:List V) (H:Hp) (Q:VK) (x_3:XK):Prop
 | mk:∀(f c:Addr) (n m:Nat) (room:Int) (G:GF) (F:Int->Int->Bool) (i j:Int),(vs = [.ref f,.ref c])->(xI K C H f n m room G F)->(H c=some (.tup [.int i,.int j]))->(∀r H',Same H H'->H r=none->k6 K H' r (fE n m G (ck i j))->Q (.ref r) H')->Bc K C vs H Q x_3
theorem xN:xo ["field","cell","i","j","steps"] ["field","cell"] (ai (top 52)):=smk
theorem gO(yA:Df K mg "steps_through" (top 52))(xr:AN K mg "Field" C_Field)(n_last:a9 K C_Field "last")(n_doors:a9 K C_Field "doors")(n_far:a9 K C_Field "far")(V_UPRIGHT:∃tk,mg "UPRIGHT" = some (.int 0 tk))(V_LEVEL:∃tk,mg "LEVEL" = some (.int 1 tk))(Aw:Fn P w K mg base "is_cell" ["field","cell"] 1 (AI K C_Field)):Fn P w K mg base "steps_through" ["field","cell"] 2 (Bs K C_Field):=by
 refine yA.fn xN (fun _ _ _ _ _ _ us hl=>by obtain⟨_,_,rfl⟩:=dI hl;rfl) (fun vs H Q E h=>?_) (fun f cdv A outer s H vs Q E hr h=>?_)
 ·obtain⟨fo,c,n,m,room,G,F,i,j,rfl,_⟩:=h
  rfl
 ·obtain⟨fo,c,n,m,room,G,F,i,j,rfl,fa,hc,bi,bj,kq⟩:=h
  have CN:AE (a7 CX0 P w K mg base ["field","cell","i","j","steps"] "steps_through" (ai (top 52)) f cdv A outer s H E).nox (Sp7.retScope ((aJ (top 52)).getD 4 (.Pass ⟨0,0,0,0⟩))) [("field",s.heap.objs.size+1)] ["step"] [("field",0)] :=
   ⟨by rfl,rfl,by decide +kernel,by decide +kernel,(fun x hx=>by simp only[List.mem_cons,List.not_mem_nil,or_false]at hx;subst hx;rfl),(fun p hp=>by simp only[List.mem_cons,List.not_mem_nil,or_false]at hp;subst hp;rfl),by rfl,by decide +kernel,(fun p hp=>by simp only[List.mem_cons,List.not_mem_nil,or_false]at hp;subst hp;exact⟨rfl,rfl,.inr (.inl rfl),rfl,rfl⟩),⟨rfl,rfl⟩,rfl⟩
  obtain⟨tU,xV⟩:=V_UPRIGHT;obtain⟨tL,zi⟩:=V_LEVEL;refine⟨_,(ag (ax (i:=2) xN.nd rfl (Or.inl rfl) (ar ap (pv 1) ad (fun _ _=>rfl))) (ag (ax (i:=3) xN.nd rfl (Or.inl rfl) (ar ap (pv 1) ad (fun _ _=>rfl))) (ag (ax (i:=4) xN.nd rfl (Or.inl rfl) (@bD _ _ _ _ (@aa _ _ _ _ _ (@az _ _ _ _ _ (@aa _ _ _ _ _ (@az _ _ _ _ _ (@aa _ _ _ _ _ (aj aH (pv 2) ad) (@aa _ _ _ _ _ (pv 3) af (by rfl)) (by rfl))) (@aa _ _ _ _ _ (@az _ _ _ _ _ (@aa _ _ _ _ _ (bw (v:=.int 0) (by rfl) xV ⟨_,rfl⟩) (@aa _ _ _ _ _ (pv 2) (@aa _ _ _ _ _ (pv 3) af (by rfl)) (by rfl)) (by rfl))) af (by rfl)) (by rfl))) (@aa _ _ _ _ _ (@az _ _ _ _ _ (@aa _ _ _ _ _ (@az _ _ _ _ _ (@aa _ _ _ _ _ (pv 2) (@aa _ _ _ _ _ (aj aH (pv 3) ad) af (by rfl)) (by rfl))) (@aa _ _ _ _ _ (@az _ _ _ _ _ (@aa _ _ _ _ _ (bw (v:=.int 1) (by rfl) zi ⟨_,rfl⟩) (@aa _ _ _ _ _ (pv 2) (@aa _ _ _ _ _ (pv 3) af (by rfl)) (by rfl)) (by rfl))) af (by rfl)) (by rfl))) af (by rfl)) (by rfl)))) (ag (mW (i:=4) xN.nd rfl (Or.inl rfl) (@bD _ _ _ _ (@aa _ _ _ _ _ (@az _ _ _ _ _ (@aa _ _ _ _ _ (@az _ _ _ _ _ (@aa _ _ _ _ _ (aj aN (pv 2) ad) (@aa _ _ _ _ _ (pv 3) af (by rfl)) (by rfl))) (@aa _ _ _ _ _ (@az _ _ _ _ _ (@aa _ _ _ _ _ (bw (v:=.int 0) (by rfl) xV ⟨_,rfl⟩) (@aa _ _ _ _ _ (aj aN (pv 2) ad) (@aa _ _ _ _ _ (pv 3) af (by rfl)) (by rfl)) (by rfl))) af (by rfl)) (by rfl))) (@aa _ _ _ _ _ (@az _ _ _ _ _ (@aa _ _ _ _ _ (@az _ _ _ _ _ (@aa _ _ _ _ _ (pv 2) (@aa _ _ _ _ _ (aj aN (pv 3) ad) af (by rfl)) (by rfl))) (@aa _ _ _ _ _ (@az _ _ _ _ _ (@aa _ _ _ _ _ (bw (v:=.int 1) (by rfl) zi ⟨_,rfl⟩) (@aa _ _ _ _ _ (pv 2) (@aa _ _ _ _ _ (aj aN (pv 3) ad) af (by rfl)) (by rfl)) (by rfl))) af (by rfl)) (by rfl))) af (by rfl)) (by rfl))) oB) (ao (aB (lD rfl CN (cP (pv 4)) (fun fp s₀ H₀=>(aY (i:=0) CN.nd rfl (Or.inl rfl) (Or.inr rfl))) (fun fp s₀ H₀=>(ki (PW.pt (eI (cz (aA Aw (hr.mono (by decide)) (by rfl) (aa (pv 1) (aa (ar (cp (K:=K) rfl) (pv 0) ad (fun _ _=>rfl)) af)))) (dN (aC kA (ip (dY hr) (gk (K:=K) rfl (pv 1) rfl) (ar (cp (K:=K) rfl) (pv 0) ad (fun _ _=>rfl)) (fun _ _=>rfl)) da (aE _))))))) (fun fp s₀ H₀=>(pv 0))))))))),?_⟩;refine⟨_,rfl,c,_,_,_,rfl,rfl,SqT.of hc,rfl,?_⟩;refine⟨_,rfl,c,_,_,_,rfl,rfl,SqT.of hc,rfl,?_⟩;refine⟨_,rfl,_,_,rfl,rfl,_,rfl,sz (by simp),fun p1 H1 s1 f1 n1=>?_⟩;refine⟨_,rfl,_,rfl,sz (by simp),fun p2 H2 s2 f2 n2=>?_⟩;refine⟨sz (by simp),fun p3 H3 s3 f3 n3=>?_⟩;refine⟨_,rfl,_,rfl,_,_,rfl,rfl,sz (by simp),fun p4 H4 s4 f4 n4=>?_⟩;refine⟨_,rfl,_,rfl,sz (by simp),fun p5 H5 s5 f5 n5=>?_⟩;refine⟨sz (by simp),fun p6 H6 s6 f6 n6=>?_⟩;refine⟨sz (by simp),fun p7 H7 s7 f7 n7=>?_⟩;refine⟨_,rfl,?_⟩;refine⟨_,rfl,_,_,rfl,rfl,_,rfl,sz (by simp),fun p8 H8 s8 f8 n8=>?_⟩;refine⟨_,rfl,_,_,rfl,rfl,_,rfl,sz (by simp),fun p9 H9 s9 f9 n9=>?_⟩;refine⟨sz (by simp),fun p10 H10 s10 f10 n10=>?_⟩;refine⟨_,rfl,_,rfl,_,_,rfl,rfl,sz (by simp),fun p11 H11 s11 f11 n11=>?_⟩;refine⟨_,rfl,_,rfl,_,_,rfl,rfl,sz (by simp),fun p12 H12 s12 f12 n12=>?_⟩;refine⟨sz (by simp),fun p13 H13 s13 f13 n13=>?_⟩;refine⟨sz (by simp),fun p14 H14 s14 f14 n14=>?_⟩;refine⟨p7,p14,_,_,rfl,rfl,(((((((s8).trans s9).trans s10).trans s11).trans s12).trans s13).trans s14) _ _ f7,f14,sz (by simp),fun Hu u=>?_⟩;have S14:Same H H14:=((((((((((((((s1).trans s2).trans s3).trans s4).trans s5).trans s6).trans s7).trans s8).trans s9).trans s10).trans s11).trans s12).trans s13).trans s14);have nl:H p7=none:=((((((s1).trans s2).trans s3).trans s4).trans s5).trans s6).free n7;have Su:Same H Hu:=fun b ob e=>u.at (fun z=>by rw[z,nl]at e;cases e) (S14 b ob e);have tu:=u.t;have pr:Paired (bT K Hu) (cR i j) [.ref p3,.ref p6,.ref p10,.ref p13]:=.cons (bT.mono (bT.mk ((((((((((((s4).trans s5).trans s6).trans s7).trans s8).trans s9).trans s10).trans s11).trans s12).trans s13).trans s14) _ _ f3) ((((((((((((((s2).trans s3).trans s4).trans s5).trans s6).trans s7).trans s8).trans s9).trans s10).trans s11).trans s12).trans s13).trans s14) _ _ f1) (((((((((((((s3).trans s4).trans s5).trans s6).trans s7).trans s8).trans s9).trans s10).trans s11).trans s12).trans s13).trans s14) _ _ f2)) tu) (.cons (bT.mono (bT.mk (((((((((s7).trans s8).trans s9).trans s10).trans s11).trans s12).trans s13).trans s14) _ _ f6) (((((((((((s5).trans s6).trans s7).trans s8).trans s9).trans s10).trans s11).trans s12).trans s13).trans s14) _ _ f4) ((((((((((s6).trans s7).trans s8).trans s9).trans s10).trans s11).trans s12).trans s13).trans s14) _ _ f5)) tu) (.cons (bT.mono (bT.mk (((((s11).trans s12).trans s13).trans s14) _ _ f10) (((((((s9).trans s10).trans s11).trans s12).trans s13).trans s14) _ _ f8) ((((((s10).trans s11).trans s12).trans s13).trans s14) _ _ f9)) tu) (.cons (bT.mono (bT.mk ((s14) _ _ f13) ((((s12).trans s13).trans s14) _ _ f11) (((s13).trans s14) _ _ f12)) tu) .nil)));have FU:=fa.mono Su;obtain⟨dx,lt,d,fr,hf,hl,⟨cc,dd⟩,_⟩:=FU.ex;refine⟨_,rfl,p7,rfl,⟨_,SqL.of u.now⟩,jZ (K:=K) (k:=1) u.now (by simp) (bT K Hu) pr (lJ n m G) ?_ ?_⟩
  ·intro e x H2 τ Kc Kn he hre s2 hτ kc kn
   obtain⟨τ0,rfl⟩:∃τ0,τ = [τ0]:=dL hτ;have din:∃x y k i' j',e=(ck x y,.key (dk k i' j'))∧(cZ n m x y=true->DIn n m k i' j'):=by
    unfold cR at he;simp only[List.mem_cons,List.not_mem_nil,or_false]at he;rcases he with rfl|rfl|rfl|rfl <;> exact⟨_,_,_,_,_,rfl,fun z=>by unfold cZ at z;simp only[Bool.and_eq_true,decide_eq_true_eq]at z;unfold DIn;omega⟩
   obtain⟨x1,y1,k1,i1,j1,rfl,hd⟩:=din;obtain⟨t,sv,hv,rfl,ht,⟨pa,rfl,ha⟩,⟨pb,rfl,hb⟩⟩:=hre;have kc':(cZ n m x1 y1 && (G k1 i1 j1).isSome)=true->∀H4,Same H2 H4->Kc (.ref t) H4:=kc;have kn':(cZ n m x1 y1 && (G k1 i1 j1).isSome)=false->∀H4,Same H2 H4->Kn H4:=kn;refine⟨⟨[some (.ref t)],rfl,rfl⟩,?_⟩;refine⟨_,rfl,_,rfl,t,_,_,_,rfl,rfl,SqT.of (s2 _ _ ht),rfl,fo,pa,n,m,room,G,F,x1,y1,rfl,FU.mono s2,s2 _ _ ha,_,rfl,aR (fun c1=>?_) (fun c1=>?_)⟩
   ·rw[c1,Bool.true_and]at kc' kn'
    obtain⟨o,dg,hv,_⟩:=(dd.mono s2).get (s2 _ _ hb);obtain⟨v,rfl,gv⟩:=hv (hd c1);refine⟨_,rfl,fo,C_Field,dx,_,_,rfl,s2 _ _ hf,xr.cls,n_doors,rfl,_,rfl,t,_,_,_,rfl,rfl,SqT.of (s2 _ _ ht),rfl,d,_,rfl,dg,rfl,_,rfl,?_⟩;cases hg:G k1 i1 j1 with
    | none =>
     rw[hg]at gv kn';have gv:v = .non:=gv;rw[gv];exact kn' rfl H2 (Same.refl _)
    | some lm =>
     rw[hg]at gv kc';obtain⟨t2,p,q,rfl,_⟩:=gv;exact⟨_,rfl,kc' rfl H2 (Same.refl _)⟩
   ·rw[c1,Bool.false_and]at kn'
    exact kn' rfl H2 (Same.refl _)
  ·intro r ys H2 nr s2 f2 pr2
   have nr':H r=none:=Su.free nr;exact kq r H2 (Su.trans s2) nr' ⟨ys,f2,Paired.mapP pr2 fun a b x=>bT.mono x s2.t⟩
theorem yc:xo ["field","corner","i","j","steps"] ["field","corner"] (ai (top 55)):=smk
theorem ja(y7:Df K mg "steps_along" (top 55))(xr:AN K mg "Field" C_Field)(n_last:a9 K C_Field "last")(n_doors:a9 K C_Field "doors")(n_far:a9 K C_Field "far")(V_UPRIGHT:∃tk,mg "UPRIGHT" = some (.int 0 tk))(V_LEVEL:∃tk,mg "LEVEL" = some (.int 1 tk)):Fn P w K mg base "steps_along" ["field","corner"] 2 (Bc K C_Field):=by
 refine y7.fn yc (fun _ _ _ _ _ _ us hl=>by obtain⟨_,_,rfl⟩:=dI hl;rfl) (fun vs H Q E h=>?_) (fun f cdv A outer s H vs Q E hr h=>?_)
 ·obtain⟨fo,c,n,m,room,G,F,i,j,rfl,_⟩:=h
  rfl
 ·obtain⟨fo,c,n,m,room,G,F,i,j,rfl,fa,hc,kq⟩:=h
  have CN:AE (a7 CX0 P w K mg base ["field","corner","i","j","steps"] "steps_along" (ai (top 55)) f cdv A outer s H E).nox (Sp7.retScope ((aJ (top 55)).getD 4 (.Pass ⟨0,0,0,0⟩))) [("field",s.heap.objs.size+1)] ["step"] [("field",0)] :=
   ⟨by rfl,rfl,by decide +kernel,by decide +kernel,(fun x hx=>by simp only[List.mem_cons,List.not_mem_nil,or_false]at hx;subst hx;rfl),(fun p hp=>by simp only[List.mem_cons,List.not_mem_nil,or_false]at hp;subst hp;rfl),by rfl,by decide +kernel,(fun p hp=>by simp only[List.mem_cons,List.not_mem_nil,or_false]at hp;subst hp;exact⟨rfl,rfl,.inr (.inl rfl),rfl,rfl⟩),⟨rfl,rfl⟩,rfl⟩
  obtain⟨tU,xV⟩:=V_UPRIGHT;obtain⟨tL,zi⟩:=V_LEVEL;refine⟨_,(ag (ax (i:=2) yc.nd rfl (Or.inl rfl) (ar ap (pv 1) ad (fun _ _=>rfl))) (ag (ax (i:=3) yc.nd rfl (Or.inl rfl) (ar ap (pv 1) ad (fun _ _=>rfl))) (ag (ax (i:=4) yc.nd rfl (Or.inl rfl) (@bD _ _ _ _ (@aa _ _ _ _ _ (@az _ _ _ _ _ (@aa _ _ _ _ _ (@az _ _ _ _ _ (@aa _ _ _ _ _ (pv 2) (@aa _ _ _ _ _ (aj aH (pv 3) ad) af (by rfl)) (by rfl))) (@aa _ _ _ _ _ (@az _ _ _ _ _ (@aa _ _ _ _ _ (bw (v:=.int 0) (by rfl) xV ⟨_,rfl⟩) (@aa _ _ _ _ _ (pv 2) (@aa _ _ _ _ _ (aj aH (pv 3) ad) af (by rfl)) (by rfl)) (by rfl))) af (by rfl)) (by rfl))) (@aa _ _ _ _ _ (@az _ _ _ _ _ (@aa _ _ _ _ _ (@az _ _ _ _ _ (@aa _ _ _ _ _ (aj aH (pv 2) ad) (@aa _ _ _ _ _ (pv 3) af (by rfl)) (by rfl))) (@aa _ _ _ _ _ (@az _ _ _ _ _ (@aa _ _ _ _ _ (bw (v:=.int 1) (by rfl) zi ⟨_,rfl⟩) (@aa _ _ _ _ _ (aj aH (pv 2) ad) (@aa _ _ _ _ _ (pv 3) af (by rfl)) (by rfl)) (by rfl))) af (by rfl)) (by rfl))) af (by rfl)) (by rfl)))) (ag (mW (i:=4) yc.nd rfl (Or.inl rfl) (@bD _ _ _ _ (@aa _ _ _ _ _ (@az _ _ _ _ _ (@aa _ _ _ _ _ (@az _ _ _ _ _ (@aa _ _ _ _ _ (pv 2) (@aa _ _ _ _ _ (aj aN (pv 3) ad) af (by rfl)) (by rfl))) (@aa _ _ _ _ _ (@az _ _ _ _ _ (@aa _ _ _ _ _ (bw (v:=.int 0) (by rfl) xV ⟨_,rfl⟩) (@aa _ _ _ _ _ (pv 2) (@aa _ _ _ _ _ (pv 3) af (by rfl)) (by rfl)) (by rfl))) af (by rfl)) (by rfl))) (@aa _ _ _ _ _ (@az _ _ _ _ _ (@aa _ _ _ _ _ (@az _ _ _ _ _ (@aa _ _ _ _ _ (aj aN (pv 2) ad) (@aa _ _ _ _ _ (pv 3) af (by rfl)) (by rfl))) (@aa _ _ _ _ _ (@az _ _ _ _ _ (@aa _ _ _ _ _ (bw (v:=.int 1) (by rfl) zi ⟨_,rfl⟩) (@aa _ _ _ _ _ (pv 2) (@aa _ _ _ _ _ (pv 3) af (by rfl)) (by rfl)) (by rfl))) af (by rfl)) (by rfl))) af (by rfl)) (by rfl))) oB) (ao (aB (lD rfl CN (cP (pv 4)) (fun fp s₀ H₀=>(aY (i:=0) CN.nd rfl (Or.inl rfl) (Or.inr rfl))) (fun fp s₀ H₀=>(ki (PW.pt (eI (km (mX (dY hr) (ar (cp (K:=K) rfl) (pv 0) ad (fun _ _=>rfl)) (gk (K:=K) rfl (pv 1) rfl)) (by rfl)) (dN (aC qP (ip (dY hr) (gk (K:=K) rfl (pv 1) rfl) (ar (cp (K:=K) rfl) (pv 0) ad (fun _ _=>rfl)) (fun _ _=>rfl)) da (aE _))))))) (fun fp s₀ H₀=>(pv 0))))))))),?_⟩;refine⟨_,rfl,c,_,_,_,rfl,rfl,SqT.of hc,rfl,?_⟩;refine⟨_,rfl,c,_,_,_,rfl,rfl,SqT.of hc,rfl,?_⟩;refine⟨_,rfl,_,rfl,_,_,rfl,rfl,sz (by simp),fun p1 H1 s1 f1 n1=>?_⟩;refine⟨_,rfl,_,rfl,_,_,rfl,rfl,sz (by simp),fun p2 H2 s2 f2 n2=>?_⟩;refine⟨sz (by simp),fun p3 H3 s3 f3 n3=>?_⟩;refine⟨_,rfl,_,_,rfl,rfl,_,rfl,sz (by simp),fun p4 H4 s4 f4 n4=>?_⟩;refine⟨_,rfl,_,_,rfl,rfl,_,rfl,sz (by simp),fun p5 H5 s5 f5 n5=>?_⟩;refine⟨sz (by simp),fun p6 H6 s6 f6 n6=>?_⟩;refine⟨sz (by simp),fun p7 H7 s7 f7 n7=>?_⟩;refine⟨_,rfl,?_⟩;refine⟨_,rfl,_,rfl,_,_,rfl,rfl,sz (by simp),fun p8 H8 s8 f8 n8=>?_⟩;refine⟨_,rfl,_,rfl,sz (by simp),fun p9 H9 s9 f9 n9=>?_⟩;refine⟨sz (by simp),fun p10 H10 s10 f10 n10=>?_⟩;refine⟨_,rfl,_,_,rfl,rfl,_,rfl,sz (by simp),fun p11 H11 s11 f11 n11=>?_⟩;refine⟨_,rfl,_,rfl,sz (by simp),fun p12 H12 s12 f12 n12=>?_⟩;refine⟨sz (by simp),fun p13 H13 s13 f13 n13=>?_⟩;refine⟨sz (by simp),fun p14 H14 s14 f14 n14=>?_⟩;refine⟨p7,p14,_,_,rfl,rfl,(((((((s8).trans s9).trans s10).trans s11).trans s12).trans s13).trans s14) _ _ f7,f14,sz (by simp),fun Hu u=>?_⟩;have S14:Same H H14:=((((((((((((((s1).trans s2).trans s3).trans s4).trans s5).trans s6).trans s7).trans s8).trans s9).trans s10).trans s11).trans s12).trans s13).trans s14);have nl:H p7=none:=((((((s1).trans s2).trans s3).trans s4).trans s5).trans s6).free n7;have Su:Same H Hu:=fun b ob e=>u.at (fun z=>by rw[z,nl]at e;cases e) (S14 b ob e);have tu:=u.t;have pr:Paired (bT K Hu) (dJ i j) [.ref p3,.ref p6,.ref p10,.ref p13]:=.cons (bT.mono (bT.mk ((((((((((((s4).trans s5).trans s6).trans s7).trans s8).trans s9).trans s10).trans s11).trans s12).trans s13).trans s14) _ _ f3) ((((((((((((((s2).trans s3).trans s4).trans s5).trans s6).trans s7).trans s8).trans s9).trans s10).trans s11).trans s12).trans s13).trans s14) _ _ f1) (((((((((((((s3).trans s4).trans s5).trans s6).trans s7).trans s8).trans s9).trans s10).trans s11).trans s12).trans s13).trans s14) _ _ f2)) tu) (.cons (bT.mono (bT.mk (((((((((s7).trans s8).trans s9).trans s10).trans s11).trans s12).trans s13).trans s14) _ _ f6) (((((((((((s5).trans s6).trans s7).trans s8).trans s9).trans s10).trans s11).trans s12).trans s13).trans s14) _ _ f4) ((((((((((s6).trans s7).trans s8).trans s9).trans s10).trans s11).trans s12).trans s13).trans s14) _ _ f5)) tu) (.cons (bT.mono (bT.mk (((((s11).trans s12).trans s13).trans s14) _ _ f10) (((((((s9).trans s10).trans s11).trans s12).trans s13).trans s14) _ _ f8) ((((((s10).trans s11).trans s12).trans s13).trans s14) _ _ f9)) tu) (.cons (bT.mono (bT.mk ((s14) _ _ f13) ((((s12).trans s13).trans s14) _ _ f11) (((s13).trans s14) _ _ f12)) tu) .nil)));have FU:=fa.mono Su;obtain⟨dx,lt,d,fr,hf,hl,⟨cc,dd⟩,_⟩:=FU.ex;refine⟨_,rfl,p7,rfl,⟨_,SqL.of u.now⟩,jZ (K:=K) (k:=1) u.now (by simp) (bT K Hu) pr (nV n m G) ?_ ?_⟩
  ·intro e x H2 τ Kc Kn he hre s2 hτ kc kn
   obtain⟨τ0,rfl⟩:∃τ0,τ = [τ0]:=dL hτ;obtain⟨x1,y1,k1,i1,j1,rfl⟩:∃x y k i' j',e=(ck x y,.key (dk k i' j')):=by
    unfold dJ at he;simp only[List.mem_cons,List.not_mem_nil,or_false]at he;rcases he with rfl|rfl|rfl|rfl <;> exact⟨_,_,_,_,_,rfl⟩
   obtain⟨t,sv,hv,rfl,ht,⟨pa,rfl,ha⟩,⟨pb,rfl,hb⟩⟩:=hre;have kc':(@decide (DIn n m k1 i1 j1) (Classical.propDecidable _) && (G k1 i1 j1).isNone)=true->∀H4,Same H2 H4->Kc (.ref t) H4:=kc;have kn':(@decide (DIn n m k1 i1 j1) (Classical.propDecidable _) && (G k1 i1 j1).isNone)=false->∀H4,Same H2 H4->Kn H4:=kn;refine⟨⟨[some (.ref t)],rfl,rfl⟩,?_⟩;obtain⟨o,dg,hv,hn⟩:=(dd.mono s2).get (s2 _ _ hb);have T2:=SqT.of (K:=K) (s2 _ _ ht);refine⟨_,rfl,t,_,_,_,rfl,rfl,T2,rfl,_,rfl,fo,C_Field,dx,_,_,rfl,s2 _ _ hf,xr.cls,n_doors,rfl,d,_,rfl,dg,_,rfl,?_⟩;rcases Classical.em (DIn n m k1 i1 j1) with z|z
   ·rw[@decide_eq_true _ (Classical.propDecidable _) z,Bool.true_and]at kc' kn'
    obtain⟨v,rfl,gv⟩:=hv z;refine ju ?_;refine⟨_,rfl,fo,C_Field,dx,_,_,rfl,s2 _ _ hf,xr.cls,n_doors,rfl,_,rfl,t,_,_,_,rfl,rfl,T2,rfl,d,_,rfl,dg,rfl,_,rfl,?_⟩;cases hg:G k1 i1 j1 with
    | none =>
     rw[hg]at gv kc';have gv:v = .non:=gv;rw[gv];exact⟨_,rfl,kc' rfl H2 (Same.refl _)⟩
    | some lm =>
     rw[hg]at gv kn';obtain⟨t2,p,q,rfl,_⟩:=gv;exact kn' rfl H2 (Same.refl _)
   ·rw[@decide_eq_false _ (Classical.propDecidable _) z,Bool.false_and]at kn'
    rw[hn z];exact kn' rfl H2 (Same.refl _)
  ·intro r ys H2 nr s2 f2 pr2
   have nr':H r=none:=Su.free nr;exact kq r H2 (Su.trans s2) nr' ⟨ys,f2,Paired.mapP pr2 fun a b x=>bT.mono x s2.t⟩
def jg(n m:Nat):aK->Bool
 | [.inl i,.inl j]=>decide (i=(n:Int) - 1) && decide (j=(m:Int) - 1)
 | _=>false
def pY(n:Nat):aK->Bool
 | [.inl i,.inl j]=>decide (j=0) || decide (i=(n:Int))
 | _=>false
def kZ(m n:Nat)(F:Int->Int->Bool):List (Int×Int):=(kP m n F).filter fun p=>decide (p.2=n) || decide (p.1=0)
def eX(n m:Nat)(G:GF)(F:Int->Int->Bool):Prop:=F 0 0=true∨F n m=true∨mJ [ck 0 0] (fw n m G) (jg n m)
def k7(n m:Nat)(G:GF)(F:Int->Int->Bool):Prop:=(∀i j:Int,(0≤i∧i≤n)->(0≤j∧j<m)->G 0 i j=none->F i j=true∧F i (j+1)=true)∧∀i j:Int,(0≤i∧i<n)->(0≤j∧j≤m)->G 1 i j=none->F i j=true∧F (i+1) j=true
theorem tX{n m:Nat}{i j:Int}(h:(0≤i∧i<n)∧0≤j∧j<m):cZ n m i j=true:=by
 unfold cZ;simp only[Bool.and_eq_true,decide_eq_true_eq];omega
theorem dH{n m:Nat}{G:GF}{i j x y k a b:Int}(h:(ck x y,Lb.key (dk k a b))∈cR i j)(hc:(0≤x∧x<n)∧0≤y∧y<m)(hg:G k a b≠none):(ck x y,Lb.key (dk k a b))∈fw n m G (ck i j):=by
 refine List.mem_filter.mpr ⟨h,?_⟩;show(cZ n m x y && (G k a b).isSome)=true;rw[tX hc,Bool.true_and];cases e:G k a b with
 | none=>exact absurd e hg
 | some _=>rfl
theorem pJ{n m:Nat}{G:GF}{i j x y k a b:Int}(h:(ck x y,Lb.key (dk k a b))∈dJ i j)(hd:DIn n m k a b)(hg:G k a b=none):(ck x y,Lb.key (dk k a b))∈fE n m G (ck i j):=by
 refine List.mem_filter.mpr ⟨h,?_⟩;show(@decide (DIn n m k a b) (Classical.propDecidable _) && (G k a b).isNone)=true;rw[@decide_eq_true _ (Classical.propDecidable _) hd,hg];rfl
theorem nj{n m:Nat}{G:GF}{F:Int->Int->Bool}(hn:1≤n)(hm:1≤m)(sf:k7 n m G F)(h:eX n m G F)(hs:mJ ((kZ n m F).map fun p=>ck p.1 p.2) (fE n m G) (pY n)):False:=by
 obtain⟨S,s0,s1,s2⟩:=hs;have beg:∀i j:Int,(0≤i∧i≤n)->(0≤j∧j≤m)->F i j=true->(j=m∨i=0)->ck i j∈S:=fun i j hi hj hf hb=>by
  refine s0 _ (List.mem_map.mpr ⟨(i,j),List.mem_filter.mpr ⟨dS.mpr ⟨hi.1,hi.2,hj.1,hj.2,hf⟩,?_⟩,rfl⟩);rcases hb with z|z
  ·rw[decide_eq_true (show(i,j).2=(m:Int) from z),Bool.true_or]
  ·rw[decide_eq_true (show(i,j).1=0 from z),Bool.or_true]
 have noend:∀i j:Int,ck i j∈S->¬(j=0∨i=n):=fun i j hi z=>by
  have:=s2 _ hi;unfold pY ck at this;rw[Bool.or_eq_false_iff,decide_eq_false_iff_not,decide_eq_false_iff_not]at this;omega
 rcases h with h|h|⟨R,r0,r1,r2⟩
 ·exact noend 0 0 (beg 0 0 (by omega) (by omega) h (.inr rfl)) (.inl rfl)
 ·exact noend n m (beg n m (by omega) (by omega) h (.inl rfl)) (.inr rfl)
 have rs:∀{i j x y k a b:Int},ck i j∈R->(ck x y,Lb.key (dk k a b))∈cR i j->(0≤x∧x<n)∧0≤y∧y<m->G k a b≠none->ck x y∈R:=fun hi h hc hg=>r1 _ hi _ (dH h hc hg);have ss:∀{i j x y k a b:Int},ck i j∈S->(ck x y,Lb.key (dk k a b))∈dJ i j->DIn n m k a b->G k a b=none->ck x y∈S:=fun hi h hd hg=>s1 _ hi _ (pJ h hd hg)
 let r:Nat->Nat->Bool:=fun i j=>@decide (ck (i:Int) (j:Int)∈R) (Classical.propDecidable _)
 let s:Nat->Nat->Bool:=fun i j=>@decide (ck (i:Int) (j:Int)∈S) (Classical.propDecidable _)
 have rT:∀{i j:Nat},r i j=true↔ck (i:Int) (j:Int)∈R:=fun {i j}=>@decide_eq_true_iff _ (Classical.propDecidable _);have sT:∀{i j:Nat},s i j=true↔ck (i:Int) (j:Int)∈S:=fun {i j}=>@decide_eq_true_iff _ (Classical.propDecidable _);have beq:∀{a b:Bool},(a=true↔b=true)->a=b:=fun {a b} h=>by cases a <;> cases b <;> simp_all
 have shU:∀i j:Nat,0<i->i<n->j<m->r (i - 1) j≠r i j->G 0 i j=none:=fun i j h0 hi hj ne=>by
  refine Classical.byContradiction fun hg=>ne (beq ?_);rw[rT,rT];have e:((i - 1:Nat):Int)=(i:Int) - 1:=by omega
  rw[e];constructor
  ·intro h
   refine rs (x:=(i:Int)) (y:=(j:Int)) (k:=0) (a:=(i:Int)) (b:=(j:Int)) h ?_ (by omega) hg;unfold cR;simp[show(i:Int) - 1+1=i by omega]
  ·intro h
   refine rs (x:=(i:Int) - 1) (y:=(j:Int)) (k:=0) (a:=(i:Int)) (b:=(j:Int)) h ?_ (by omega) hg;unfold cR;simp
 have shL:∀i j:Nat,i<n->0<j->j<m->r i (j - 1)≠r i j->G 1 i j=none:=fun i j hi h0 hj ne=>by
  refine Classical.byContradiction fun hg=>ne (beq ?_);rw[rT,rT];have e:((j - 1:Nat):Int)=(j:Int) - 1:=by omega
  rw[e];constructor
  ·intro h
   refine rs (x:=(i:Int)) (y:=(j:Int)) (k:=1) (a:=(i:Int)) (b:=(j:Int)) h ?_ (by omega) hg;unfold cR;simp[show(j:Int) - 1+1=j by omega]
  ·intro h
   refine rs (x:=(i:Int)) (y:=(j:Int) - 1) (k:=1) (a:=(i:Int)) (b:=(j:Int)) h ?_ (by omega) hg;unfold cR;simp
 refine Fz.dual (n:=n) (m:=m) (r:=r) (s:=s) hn hm (rT.mpr (r0 _ (by simp))) ?_ (fun i j h0 hi hj ne=>?_) (fun i j hi h0 hj ne=>?_) (fun j h0 hj ne=>?_) (fun i h0 hi ne=>?_) (fun i h0 hi=>?_) (fun j h0 hj=>?_)
 ·cases e:r (n - 1) (m - 1) with
  | false=>rfl
  | true =>
   have:=r2 _ (rT.mp e);have this:(decide (((n - 1:Nat):Int)=(n:Int) - 1) && decide (((m - 1:Nat):Int)=(m:Int) - 1))=false:=this;rw[decide_eq_true (show((n - 1:Nat):Int)=(n:Int) - 1 by omega),decide_eq_true (show((m - 1:Nat):Int)=(m:Int) - 1 by omega)]at this;cases this
 ·have hg:=shU i j h0 hi hj ne
  refine beq ?_;rw[sT,sT];have e:((j+1:Nat):Int)=(j:Int)+1:=by omega
  rw[e];constructor
  ·intro h
   refine ss (x:=(i:Int)) (y:=(j:Int)+1) (k:=0) (a:=(i:Int)) (b:=(j:Int)) h ?_ (.inl ⟨rfl,by omega,by omega,by omega⟩) hg;unfold dJ;simp
  ·intro h
   refine ss (x:=(i:Int)) (y:=(j:Int)) (k:=0) (a:=(i:Int)) (b:=(j:Int)) h ?_ (.inl ⟨rfl,by omega,by omega,by omega⟩) hg;unfold dJ;simp[show(j:Int)+1 - 1=j by omega]
 ·have hg:=shL i j hi h0 hj ne
  refine beq ?_;rw[sT,sT];have e:((i+1:Nat):Int)=(i:Int)+1:=by omega
  rw[e];constructor
  ·intro h
   refine ss (x:=(i:Int)+1) (y:=(j:Int)) (k:=1) (a:=(i:Int)) (b:=(j:Int)) h ?_ (.inr ⟨rfl,by omega,by omega,by omega⟩) hg;unfold dJ;simp
  ·intro h
   refine ss (x:=(i:Int)) (y:=(j:Int)) (k:=1) (a:=(i:Int)) (b:=(j:Int)) h ?_ (.inr ⟨rfl,by omega,by omega,by omega⟩) hg;unfold dJ;simp[show(i:Int)+1 - 1=i by omega]
 ·have hg:=shL 0 j (by omega) h0 hj ne
  exact sT.mpr (beg _ _ (by omega) (by omega) (sf.2 ((0:Nat):Int) j (by omega) (by omega) hg).1 (.inr rfl))
 ·have hg:=shU i (m - 1) h0 hi (by omega) ne
  have:=(sf.1 i ((m - 1:Nat):Int) (by omega) (by omega) hg).2;rw[show((m - 1:Nat):Int)+1=(m:Int) by omega]at this;exact sT.mpr (beg _ _ (by omega) (by omega) this (.inl rfl))
 ·cases e:s i 0 with
  | false=>rfl
  | true=>exact absurd (.inl rfl) (noend _ _ (sT.mp e))
 ·cases e:s n j with
  | false=>rfl
  | true=>exact absurd (.inr rfl) (noend _ _ (sT.mp e))
theorem jJ{n m:Nat}{G:GF}(hn:1≤n)(hm:1≤m):∀s∈U (n - 1) (m - 1),∀e∈fw n m G s,e.1∈U (n - 1) (m - 1):=by
 intro s hs e he;obtain⟨x,y,rfl,_⟩:=d9.mp hs;obtain⟨h1,h2⟩:=List.mem_filter.mp (show e∈(cR x y).filter (lJ n m G) from he);obtain⟨x1,y1,k1,i1,j1,rfl⟩:∃x y k i j,e=(ck x y,Lb.key (dk k i j)):=by
  unfold cR at h1;simp only[List.mem_cons,List.not_mem_nil,or_false]at h1;rcases h1 with rfl|rfl|rfl|rfl <;> exact⟨_,_,_,_,_,rfl⟩
 have h2:(cZ n m x1 y1 && (G k1 i1 j1).isSome)=true:=h2;unfold cZ at h2;simp only[Bool.and_eq_true,decide_eq_true_eq]at h2;exact d9.mpr ⟨x1,y1,rfl,by omega,by omega,by omega,by omega⟩
theorem qq{n m:Nat}{G:GF}:∀s,(fw n m G s).length<1000:=by
 intro s;unfold fw
 split
 ·exact Nat.lt_of_le_of_lt (List.length_filter_le _ _) (show 4<1000 by decide)
 ·decide
theorem jm{n m:Nat}{G:GF}:∀s∈U n m,∀e∈fE n m G s,e.1∈U n m:=by
 intro s hs e he;obtain⟨x,y,rfl,_⟩:=d9.mp hs;obtain⟨h1,h2⟩:=List.mem_filter.mp (show e∈(dJ x y).filter (nV n m G) from he);have dn:∀{k i j:Int},nV n m G (e.1,.key (dk k i j))=true->DIn n m k i j:=fun {k i j} z=>by
  have z:(@decide (DIn n m k i j) (Classical.propDecidable _) && (G k i j).isNone)=true:=z;rw[Bool.and_eq_true]at z;exact @of_decide_eq_true _ (Classical.propDecidable _) z.1
 unfold dJ at h1;simp only[List.mem_cons,List.not_mem_nil,or_false]at h1;rcases h1 with rfl|rfl|rfl|rfl <;> (have:=dn h2;unfold DIn at this;exact d9.mpr ⟨_,_,rfl,by omega,by omega,by omega,by omega⟩)
theorem qk{n m:Nat}{G:GF}:∀s,(fE n m G s).length<1000:=by
 intro s;unfold fE
 split
 ·exact Nat.lt_of_le_of_lt (List.length_filter_le _ _) (show 4<1000 by decide)
 ·decide
def qx(G:GF)(e:aK×Lb)(q:Pr):Prop:=∃k i j lo hi a b,e.2 = .key (dk k i j)∧G k i j=some (lo,hi)∧PF lo hi a b∧bL (some (lo,hi)) a b=true∧0≤a∧a≤b∧AW a b∧nF k i j a b q
def sd(n m:Nat)(G:GF)(F:Int->Int->Bool)(ps:List Pr):Prop:=F 0 0=false∧F n m=false∧∃(l:List (aK×Lb)) (ps':List Pr) (q0 q1:Pr),ug [ck 0 0] (fw n m G) (jg n m) l∧si [ck 0 0] (fw n m G) (jg n m) l∧(l.length≤900∧l.length≤(U (n - 1) (m - 1)).length)∧ps=q0::(ps'++[q1])∧prC q0 (0,0)∧prC q1 ((n:Int),(m:Int))∧Paired (qx G) l.tail ps'
def se(n m:Nat)(G:GF)(F:Int->Int->Bool)(ps:List Pr):Prop:=eX n m G F∧∃l:List (aK×Lb),ug ((kZ n m F).map fun p=>ck p.1 p.2) (fE n m G) (pY n) l∧si ((kZ n m F).map fun p=>ck p.1 p.2) (fE n m G) (pY n) l∧(l.length≤900∧l.length≤(U n m).length)∧Paired (fun e q=>prC q (dec e.1)) l ps
theorem lj{K:W.Frag}{H H':Hp}{a:Addr}{xs:List V}(h:SqT K H a xs)(k:∀b o,H b=some o->(∀z,o≠KnO z)->(∀ps,o≠.tbl ps)->H' b=some o):SqT K H' a xs:=by
 rcases h with(h|⟨o,h⟩)|h
 ·exact .inl (.inl (k _ _ h (fun z q=>by cases q) (fun z q=>by cases q)))
 ·exact .inl (.inr ⟨o,k _ _ h (fun z q=>by cases q) (fun z q=>by cases q)⟩)
 ·exact .inr h
theorem xI.keep{K:W.Frag}{C:Addr}{H H':Hp}{f:Addr}{n m:Nat}{room:Int}{G:GF}{F:Int->Int->Bool}(h:xI K C H f n m room G F)(k:∀b o,H b=some o->(∀z,o≠KnO z)->(∀ps,o≠.tbl ps)->H' b=some o):xI K C H' f n m room G F:=by
 obtain⟨dx,lt,d,fr,h1,h2,⟨c,⟨kvs,e,l,a,z⟩⟩,⟨o,h4⟩⟩:=h.ex;refine⟨dx,lt,d,fr,k _ _ h1 (fun z q=>by cases q) (fun z q=>by cases q),k _ _ h2 (fun z q=>by cases q) (fun z q=>by cases q),⟨c,⟨kvs,k _ _ e (fun z q=>by cases q) (fun z q=>by cases q),l,fun kk i j x=>?_,z⟩⟩,⟨o,k _ _ h4 (fun z q=>by cases q) (fun z q=>by cases q)⟩⟩;obtain⟨v,ev,g⟩:=a kk i j x;refine⟨v,ev,?_⟩;cases hg:G kk i j with
 | none=>rw[hg]at g;exact g
 | some lm =>
  rw[hg]at g;obtain⟨t,p,q,e,f,n1,n2⟩:=g;exact⟨t,p,q,e,k _ _ f (fun z q=>by cases q) (fun z q=>by cases q),⟨lj n1.at_ k,n1.b0,n1.b1,n1.b2,n1.b3,n1.p2,n1.p3⟩,⟨lj n2.at_ k,n2.b0,n2.b1,n2.b2,n2.b3,n2.p2,n2.p3⟩⟩
theorem vb{X:Cx}(h:X.A.units<cLine)(hk:X.K=K):OpR X (compareOp .Eq) (C8 K false):=hk▸qQ h
def qW:Str:="free_walk"++".<locals>."++"<lambda>"
def qF:Str:="free_fence"++".<locals>."++"<lambda>"
def laW:Expr:=iA ((aJ (top 54)).getD 2 (.Pass ⟨0,0,0,0⟩)) 1
def lbW:Expr:=iA ((aJ (top 54)).getD 2 (.Pass ⟨0,0,0,0⟩)) 2
def laF:Expr:=iA ((aJ (top 56)).getD 1 (.Pass ⟨0,0,0,0⟩)) 1
def lbF:Expr:=iA ((aJ (top 56)).getD 1 (.Pass ⟨0,0,0,0⟩)) 2
def lsW:List (Pos×Str):=[(bW laW,qW),(bW lbW,qW)]
def lsF:List (Pos×Str):=[(bW laF,qF),(bW lbF,qF)]
def GGk(G:GF):Prop:=∀k i j l h,G k i j=some (l,h)->Cv l h
inductive CW (K:W.Frag) (C t:Addr) (vs:List V) (H:Hp) (Q:VK) (x_3:XK):Prop
 | mk:∀(fo:Addr) (n m:Nat) (room:Int) (G:GF) (F:Int->Int->Bool),(vs = [.ref fo])->(Tab H t lsW)->(xI K C H fo n m room G F)->(((1≤n∧n≤20)∧1≤m∧m≤20))->(GGk G)->((∀H',cO t H H'->Tab H' t lsW->eX n m G F->Q .non H'))->(∀r H' ps,H r=none->cO t H H'->Tab H' t lsW->sd n m G F ps->CL H' r ps->Q (.ref r) H')->CW K C t vs H Q x_3
inductive CZ (K:W.Frag) (C t:Addr) (vs:List V) (H:Hp) (Q:VK) (x_3:XK):Prop
 | mk:∀(fo:Addr) (n m:Nat) (room:Int) (G:GF) (F:Int->Int->Bool),(vs = [.ref fo])->(Tab H t lsF)->(xI K C H fo n m room G F)->(((1≤n∧n≤20)∧1≤m∧m≤20))->(k7 n m G F)->(eX n m G F)->(∀r H' ps,H r=none->cO t H H'->Tab H' t lsF->se n m G F ps->CL H' r ps->Q (.ref r) H')->CZ K C t vs H Q x_3
theorem dD{p:Addr}{H H':Hp}{b:Addr}{ls:List (Pos×Str)}(s:cO p H H')(t:Tab H' p ls)(n:H' b=none):H b=none:=by
 cases e:H b with
 | none=>rfl
 | some o =>
  by_cases z:b=p
  ·obtain⟨ps,e1,_⟩:=t
   rw[z,e1]at n;cases n
  ·rw[s b o z e]at n
   cases n
def ce(H H':Hp):Prop:=∀b o,H b=some o->(∀ps,o≠.tbl ps)->H' b=some o
theorem ce.of{H H':Hp}(s:Same H H'):ce H H':=fun b o e _=>s b o e
theorem ce.refl(H:Hp):ce H H:=fun _ _ e _=>e
theorem ce.trans{H H1 H2:Hp}(a:ce H H1)(b:ce H1 H2):ce H H2:=fun c o e n=>b c o (a c o e n) n
theorem ce.t{H H':Hp}(s:ce H H'){b:Addr}{xs:List V}(e:H b=some (.tup xs)):H' b=some (.tup xs):=s b _ e fun ps q=>by cases q
theorem ce.l{H H':Hp}(s:ce H H'){b:Addr}{xs:List V}(e:H b=some (.lst xs)):H' b=some (.lst xs):=s b _ e fun ps q=>by cases q
theorem ce.line{H H':Hp}(s:ce H H'){l:Addr}{qs:Crn}(L:LineM H l qs):LineM H' l qs:=⟨s.l L.lst,fun q hq=>⟨s.t (L.crn q hq).1,(L.crn q hq).2⟩⟩
theorem ce.seq{H H':Hp}(s:ce H H'){l:Addr}{xs:List V}(L:SqL K H l xs):SqL K H' l xs:=by
 rcases L with(h|⟨o,h⟩)|h
 ·exact .inl (.inl (s.l h))
 ·exact .inl (.inr ⟨o,s _ _ h fun ps q=>by cases q⟩)
 ·exact .inr h
theorem cO.n{p:Addr}{H H':Hp}{ls:List (Pos×Str)}(s:cO p H H')(t:Tab H p ls):ce H H':=fun b o e n=>s.keep t e n
structure Bx(H:Hp)(tw tf:Addr):Prop where
 w:Tab H tw lsW
 f:Tab H tf lsF
 ne:tw≠tf
theorem Bx.same{H H':Hp}{tw tf:Addr}(t:Bx H tw tf)(s:Same H H'):Bx H' tw tf:=⟨t.w.same s,t.f.same s,t.ne⟩
theorem qi{m n:Nat}{F:Int->Int->Bool}:((kZ m n F).map fun p=>ck p.1 p.2).Nodup:=by
 have nd:(kZ m n F).Nodup:=by
  unfold kZ kP;exact List.Pairwise.filter _ nE
 refine List.pairwise_map.mpr (List.Pairwise.imp (fun {a b} h z=>h ?_) nd);obtain⟨z1,z2⟩:=rV z;exact Prod.ext z1 z2
theorem oZ{α:Type}{l:List α}{i:Nat}{e:α}(h:l.tail[i]? = some e):l.tail.take (i+1)=l.tail.take i++[e]:=by rw[List.take_add_one,h];rfl
theorem rO(xs:List V):fC xs (some 1) none=xs.tail:=by
 unfold fC;rw[show(1:Int)=((1:Nat):Int) from rfl,HT.sIx_nat,HT.sIx_none];cases xs with
 | nil=>rfl
 | cons a r =>
  rw[Nat.min_eq_left (by simp),List.take_of_length_le (by rw[List.length_drop];exact Nat.le_refl _)];rfl
theorem lI{α β:Type}{R:α->β->Prop}{l:List α}{m:List β}(h:Paired R l m):Paired R l.tail m.tail:=by
 cases h with
 | nil=>exact .nil
 | cons a r=>exact r
theorem kj{α:Type}{R:α->Pr->Prop}:∀{l:List α} {ys:List V},ys.length=l.length->(∀(i:Nat) y,ys[i]? = some y->∃q e,l[i]? = some e∧y=V.ref q.p∧R e q)->∃ps,ys=prs ps∧Paired R l ps
 | [],[],_,_=>⟨[],rfl,.nil⟩
 | e::l,y::ys,hl,h=>by
  obtain⟨q,e',h1,h2,h3⟩:=h 0 y rfl;cases h1;obtain⟨ps,h4,h5⟩:=kj (R:=R) (l:=l) (ys:=ys) (by simpa using hl) (fun i y hy=>h (i+1) y (by simpa using hy));exact⟨q::ps,by rw[h2,h4];rfl,.cons h3 h5⟩
 | [],_::_,hl,_=>by simp at hl
 | _::_,[],hl,_=>by simp at hl
theorem lC(ps:List Pr)(q:Pr):prs (ps++[q])=prs ps++[V.ref q.p]:=by unfold prs;rw[List.map_append];rfl
theorem yy:xo ["field","end","row","walk","step"] ["field"] (ai (top 54)):=smk
theorem kN{t_free_walk:Addr}(zM:Db K mg "free_walk" (top 54) t_free_walk)(xr:AN K mg "Field" C_Field)(n_last:a9 K C_Field "last")(n_doors:a9 K C_Field "doors")(n_far:a9 K C_Field "far")(BF:sj K mg)(Au:Fn P w K mg base "seek" ["begins","steps_from","is_end"] 5 (mP P w K mg base 3))(yz:Fn P w K mg base "steps_through" ["field","cell"] 2 (Bs K C_Field))(xA:Fn P w K mg base "pair_at_corner" ["corner"] 1 AH)(yZ:Fn P w K mg base "pair_within" ["field","door"] 7 (CU K C_Field))(T:Txt mg):Fn P w K mg base "free_walk" ["field"] 8 (CW K C_Field t_free_walk):=by
 refine zM.fn yy (fun _ _ _ _ _ _ us hl=>by obtain⟨_,rfl⟩:=dL hl;rfl) (fun vs H Q E h=>?_) (fun f cdv A outer s H vs Q E CF hr h=>?_)
 ·obtain⟨fo,n,m,room,G,F,rfl,_⟩:=h
  rfl
 ·obtain⟨fo,n,m,room,G,F,rfl,tb,fa,⟨⟨hn,hn20⟩,hm,hm20⟩,gg,q0,q1⟩:=h
  obtain⟨c,ec,CF⟩:=CF;have CL_a:closureFor (cw laW) (a7 CX0 P w K mg base ["field","end","row","walk","step"] "free_walk" (ai (top 54)) f cdv A outer s H E).nox.env=pure ([("field",s.heap.objs.size+1)]:List (Str×Addr)):=by rfl
  have CL_b:closureFor (cw lbW) (a7 CX0 P w K mg base ["field","end","row","walk","step"] "free_walk" (ai (top 54)) f cdv A outer s H E).nox.env=pure ([("end",s.heap.objs.size+2)]:List (Str×Addr)):=by rfl
  have CM_a:(bW laW,qW)∈lsW:=List.mem_cons_self;have CM_b:(bW lbW,qW)∈lsW:=List.mem_cons_of_mem _ List.mem_cons_self;have CD_a:∀l∈lsW,l≠(bW laW,qW)->¬(l.1.line=(bW laW).line∧l.1.col=(bW laW).col):=by
   intro l hl ne;rcases List.mem_cons.mp hl with rfl|hl
   ·exact absurd rfl ne
   ·rw[List.mem_singleton.mp hl]
    decide +kernel
  have CD_b:∀l∈lsW,l≠(bW lbW,qW)->¬(l.1.line=(bW lbW).line∧l.1.col=(bW lbW).col):=by
   intro l hl ne;rcases List.mem_cons.mp hl with rfl|hl
   ·decide +kernel
   ·rw[List.mem_singleton.mp hl]at ne
    exact absurd rfl ne
  have CS:∀p∈[((s.heap.objs.size+1:Addr),0),(s.heap.objs.size+2,1)],∃y,(a7 CX0 P w K mg base ["field","end","row","walk","step"] "free_walk" (ai (top 54)) f cdv A outer s H E).nox.env.cells.lookup y=some p.1∧(a7 CX0 P w K mg base ["field","end","row","walk","step"] "free_walk" (ai (top 54)) f cdv A outer s H E).nox.N[p.2]? = some y∧(a7 CX0 P w K mg base ["field","end","row","walk","step"] "free_walk" (ai (top 54)) f cdv A outer s H E).nox.env.kindOf y=some .cell∧Vis (a7 CX0 P w K mg base ["field","end","row","walk","step"] "free_walk" (ai (top 54)) f cdv A outer s H E).nox.env.scope y:=by
   intro p hp;simp only[List.mem_cons,List.not_mem_nil,or_false]at hp;rcases hp with rfl|rfl
   ·exact⟨"field",rfl,rfl,rfl,.inr (.inl rfl)⟩
   ·exact⟨"end",rfl,rfl,rfl,.inr (.inl rfl)⟩
  refine⟨_,(ag (ax (i:=1) yy.nd rfl (Or.inr rfl) (az (aa (aj aH (ar ap (dF (pv 0) rfl) ad (fun _ _=>rfl)) ad) (aa (aj aH (ar ap (dF (pv 0) rfl) ad (fun _ _=>rfl)) ad) af)))) (ag (aQ (ga (km (mX (dY hr) (az (aa ad (aa ad af))) (dF (pv 0) rfl)) (by rfl)) (eG (km (mX (dY hr) (dF (pv 0) rfl) (dF (pv 0) rfl)) (by rfl)))).pt (ao (aB da)) aF) (ag (ax (i:=2) yy.nd rfl (Or.inl rfl) (qM Au (hr.mono (by decide)) (by rfl) (fun _=>rfl) CS (aa (@bD _ _ _ _ (@aa _ _ _ _ _ (@az _ _ _ _ _ (@aa _ _ _ _ _ ad (@aa _ _ _ _ _ ad af (by rfl)) (by rfl))) af (by rfl))) (aa (kr CL_a ec CF BF rfl rfl CM_a CD_a) (aa (kr CL_b ec CF BF rfl rfl CM_b CD_b) af))))) (ag (aQ (aC qP (pv 2) da (aE _)) (ao (aB da)) aF) (ag (ax (i:=3) yy.nd rfl (Or.inl rfl) (bD (aa (aA xA (hr.mono (by decide)) (by rfl) (aa (az (aa ad (aa ad af))) af)) af))) (ag (cI PassesOwn.never rfl (cP (gi fW (pv 2) (gh ad) ik)) (aY (i:=4) yy.nd rfl (Or.inl rfl)) (ao (bJ (dz PySem.F.plainAttrs_list PySem.F.slot_list_append PySem.F.type_list_append aX (pv 3) (aa (aA yZ (hr.mono (by decide)) (by rfl) (aa (pv 0) (aa (ar ap (pv 4) ad (fun _ _=>rfl)) af))) af))))) (ag (bJ (dz PySem.F.plainAttrs_list PySem.F.slot_list_append PySem.F.type_list_append aX (pv 3) (aa (aA xA (hr.mono (by decide)) (by rfl) (aa (dF (pv 0) rfl) af)) af))) (ao (aB (pv 3)))))))))),?_⟩;obtain⟨dx,lt,d,fr,hf,hl,_,fd⟩:=fa.ex;have L:=SqT.of (K:=K) hl;refine⟨_,rfl,fo,C_Field,dx,_,_,rfl,hf,xr.cls,n_last,rfl,lt,_,_,_,rfl,rfl,L,rfl,_,_,rfl,rfl,_,rfl,fo,C_Field,dx,_,_,rfl,hf,xr.cls,n_last,rfl,lt,_,_,_,rfl,rfl,L,rfl,_,_,rfl,rfl,sz (by simp),fun le H1 s1 f1 n1=>?_⟩;refine⟨sz (by simp),fun p0 H2 s2 f2 n2=>⟨_,rfl,fo,C_Field,dx,_,_,rfl,s2 _ _ (s1 _ _ hf),xr.cls,n_far,rfl,?_⟩⟩;have S2:=s1.trans s2;obtain⟨o,dg,ho⟩:=(fd.mono S2).get (x:=0) (y:=0) f2;refine⟨fr,o,rfl,dg,_,rfl,aR (fun h0=>?_) (fun h0=>?_)⟩
  ·rw[ho,decide_eq_true_iff]at h0
   exact q0 H2 S2.p (tb.same S2) (.inl (dS.mp h0).2.2.2.2)
  have F0:F 0 0=false:=by
   rw[ho,decide_eq_false_iff_not]at h0;cases e:F 0 0 with
   | false=>rfl
   | true=>exact absurd (dS.mpr ⟨by simp,by simp,by simp,by simp,e⟩) h0
  obtain⟨o',dg',ho'⟩:=(fd.mono S2).get (x:=(n:Int)) (y:=(m:Int)) (S2 _ _ hl);refine⟨_,rfl,fo,C_Field,dx,_,_,rfl,S2 _ _ hf,xr.cls,n_last,rfl,_,rfl,fo,C_Field,dx,_,_,rfl,S2 _ _ hf,xr.cls,n_far,rfl,fr,o',rfl,dg',_,rfl,aR (fun h1=>?_) (fun h1=>?_)⟩
  ·rw[ho',decide_eq_true_iff]at h1
   exact q0 H2 S2.p (tb.same S2) (.inr (.inl (dS.mp h1).2.2.2.2))
  have F1:F n m=false:=by
   rw[ho',decide_eq_false_iff_not]at h1;cases e:F n m with
   | false=>rfl
   | true=>exact absurd (dS.mpr ⟨by simp,by simp,by simp,by simp,e⟩) h1
  refine⟨sz (by simp),fun p1 H2b s2b f2b n2b=>⟨sz (by simp),fun b H3 s3 f3 n3=>?_⟩⟩;have S3:=(S2.trans s2b).trans s3;have tb3:=tb.same S3;refine⟨tb3,fun la_ H4 P4 tb4 la4 nfa=>⟨tb4,fun lb_ H5 P5 tb5 lb5 nfb=>fun H6 s6 cells=>?_⟩⟩;have kp:∀{x:Addr} {ob:HO},H3 x=some ob->(∀ps,ob≠.tbl ps)->H6 x=some ob:=fun e n=>s6 _ _ (P5.keep tb4 (P4.keep tb3 e n) n);have c1:=cells (s.heap.objs.size+1,0) List.mem_cons_self (.ref fo) rfl;have c2:=cells (s.heap.objs.size+2,1) (List.mem_cons_of_mem _ List.mem_cons_self) (.ref le) rfl;have la6:=(la4.same fun x ob e=>P5.keep tb4 e (fun ps q=>by cases q)).same fun x ob e=>s6 _ _ e;have lb6:=lb5.same fun x ob e=>s6 _ _ e;have fa6:xI K C_Field H6 fo n m room G F:=(fa.mono S3).keep fun b o e _ h2=>kp e h2;have e6:=kp (s3 _ _ (s2b _ _ (s2 _ _ f1))) (fun ps q=>by cases q);have FN:Dp P w K mg base 3 H6 la_ lb_ (U (n - 1) (m - 1)) (fw n m G) (jg n m):=by
   refine⟨la6.obj,lb6.obj,?_,?_,jJ hn hm,fun s _=>qq s⟩
   ·obtain⟨pm,cc,ct,ea,ck6⟩:=la6
    have LN:BU "cell" (cw laW) [("field",s.heap.objs.size+1)]:=by
     refine⟨rfl,rfl,rfl,by decide +kernel,rfl,by rfl,?_,fun p hp=>?_,fun p hp q hq e=>?_⟩
     ·show(["cell","field"]:List Str).Nodup
      decide +kernel
     ·rw[List.mem_singleton.mp hp]
      rfl
     ·rw[List.mem_singleton.mp hp,List.mem_singleton.mp hq]
    refine⟨_,⟨_,["cell"],kE (P:=P) (w:=w) (K:=K) (mg:=mg) (base:=base) (x:="cell") (q:=qW) (params:=ir laW) (body:=iq laW) (scope:=cw laW) (pm:=pm) (ctv:=ct) (f:=la_) (c:=cc) (k:=2) LN (fun A2 o2 s2 H2 hr2=>aA yz (hr2.mono (by decide)) (by rfl) (aa (pv 1) (aa (pv 0) af))),.all fun us hl=>by obtain⟨_,rfl⟩:=dL hl;rfl⟩,?_⟩;intro H' v sp Q' s' hv hU k;obtain⟨x,y,rfl,b1,b2,b3,b4⟩:=d9.mp hU;obtain⟨p,rfl,hp⟩:=hv;have cs:Paired (fun (p:Str×Addr) z=>cL H' p.2 z) [("field",s.heap.objs.size+1)] [.ref fo]:=.cons (c1.mono s') .nil;have hC:=gC cs;have CK:fF H' cc qW:=by
     obtain⟨o,vs,t,e,r⟩:=ck6;exact⟨o,vs,t,s' _ _ e,r⟩
    refine⟨.ref p,[.ref fo],rfl,s' _ _ ea,CK,cs,?_⟩;refine⟨_,rfl,_,rfl,fo,p,n,m,room,G,F,x,y,rfl,(fa6.mono s').keep fun b o e h1 _=>cX hC e h1,cX hC hp (fun z q=>by cases q),⟨b1,by omega⟩,⟨b3,by omega⟩,fun r H1 s1 nr st hC1=>?_⟩;refine k r _ (fc s1) ?_ (jN hC1 st);obtain⟨vs,er,_⟩:=st;rw[cD fun z=>by rw[hC1 r z]at er;cases er]at nr;exact nr
   ·obtain⟨pm,cc,ct,ea,ck6⟩:=lb6
    have LN:BU "spot" (cw lbW) [("end",s.heap.objs.size+2)]:=by
     refine⟨rfl,rfl,rfl,by decide +kernel,rfl,by rfl,?_,fun p hp=>?_,fun p hp q hq e=>?_⟩
     ·show(["spot","end"]:List Str).Nodup
      decide +kernel
     ·rw[List.mem_singleton.mp hp]
      rfl
     ·rw[List.mem_singleton.mp hp,List.mem_singleton.mp hq]
    refine⟨_,⟨_,["spot"],kE (P:=P) (w:=w) (K:=K) (mg:=mg) (base:=base) (x:="spot") (q:=qW) (params:=ir lbW) (body:=iq lbW) (scope:=cw lbW) (pm:=pm) (ctv:=ct) (f:=lb_) (c:=cc) (k:=2) LN (fun A2 o2 s2 H2 hr2=>cW (vb hr2.units0 rfl) (pv 0) (pv 1) (aE _)),.all fun us hl=>by obtain⟨_,rfl⟩:=dL hl;rfl⟩,?_⟩;intro H' v sp Q' s' hv hU k;obtain⟨x,y,rfl,_⟩:=d9.mp hU;obtain⟨p,rfl,hp⟩:=hv;have cs:Paired (fun (p:Str×Addr) z=>cL H' p.2 z) [("end",s.heap.objs.size+2)] [.ref le]:=.cons (c2.mono s') .nil;have hC:=gC cs;have CK:fF H' cc qW:=by
     obtain⟨o,vs,t,e,r⟩:=ck6;exact⟨o,vs,t,s' _ _ e,r⟩
    refine⟨.ref p,[.ref le],rfl,s' _ _ ea,CK,cs,?_⟩;refine⟨_,rfl,_,rfl,p,le,[x,y],[(n:Int) - 1,(m:Int) - 1],rfl,rfl,SqT.of (cX hC hp (fun z q=>by cases q)),SqT.of (cX hC (s' _ _ e6) (fun z q=>by cases q)),fun hC1=>?_⟩;have e:(if false=true then !decide ([x,y] = [(n:Int) - 1,(m:Int) - 1]) else decide ([x,y] = [(n:Int) - 1,(m:Int) - 1]))=jg n m (ck x y):=by
     rw[if_neg Bool.false_ne_true];unfold jg ck;simp
    rw[e];exact k _ (fc (Same.refl _))
  have SP5:cO t_free_walk H H5:=(S3.p.trans P4).trans P5;have u0:ck 0 0∈U (n - 1) (m - 1):=d9.mpr ⟨0,0,rfl,by simp,by simp,by simp,by simp⟩;have us:=oS (m:=n - 1) (n:=m - 1) (by omega) (by omega);refine⟨b,la_,lb_,[.ref p1],[ck 0 0],U (n - 1) (m - 1),fw n m G,jg n m,rfl,kp f3 (fun ps q=>by cases q),.cons ⟨p1,rfl,kp (s3 _ _ f2b) (fun ps q=>by cases q)⟩ .nil,by simp,(fun x hx=>by rw[List.mem_singleton.mp hx];exact u0),us,FN,?_,?_⟩
  ·intro H7 s7 sh H8 k1 k2
   have S8:Same H5 H8:=fun x ob e=>k2 x ob e (s7 _ _ (s6 _ _ e));exact⟨_,rfl,rfl,_,rfl,ju (q0 H8 (SP5.trans S8.p) (tb5.same S8) (.inr (.inr sh)))⟩
  ·intro r H7 lst s7 road fnd hlen ra H8 k1 k2
   have S8:Same H5 H8:=fun x ob e=>k2 x ob e (s7 _ _ (s6 _ _ e));obtain⟨vs,hr8,pr8⟩:=nZ (oz k1) ra;have vl:=Paired.length pr8;have fa8:xI K C_Field H8 fo n m room G F:=((fa.mono S3).keep fun b o e _ h2=>P5.keep tb4 (P4.keep tb3 e h2) h2).mono S8;have tb8:=tb5.same S8;have P8:=SP5.trans S8.p;have inU:=kf road (U:=U (n - 1) (m - 1)) (fun s hs=>by rw[List.mem_singleton.mp hs];exact u0) (jJ hn hm);refine⟨_,rfl,rfl,_,rfl,fB ?_⟩;refine⟨sz (by simp),fun c0 H9 s9 f9 n9=>⟨c0,0,0,rfl,f9,⟨by decide,by decide⟩,⟨by decide,by decide⟩,fun q0' H10 s10 pq0 cq0=>⟨sz (by simp),fun wl H11 s11 f11 n11=>?_⟩⟩⟩;have S11:=(s9.trans s10).trans s11;refine⟨_,rfl,_,rfl,r,_,rfl,SqL.of (S11 _ _ hr8),fun sl H12 s12 f12 n12=>?_⟩;rw[rO]at f12;have nw:sl≠wl:=fun z=>by rw[z,f11]at n12;cases n12
   have S12:=S11.trans s12;have fa12:=fa8.mono S12;have pr12:Paired (fun (e:aK×Lb) v=>∃t sv hv,v = .ref t∧H12 t=some (.tup [sv,hv])∧bH H12 sv e.1∧ic K H12 hv e.2) lst.tail vs.tail:=lI (Paired.mapP pr8 fun a b ⟨t,sv,hv,x1,x2,x3,x4⟩=>⟨t,sv,hv,x1,S12 _ _ x2,x3.mono S12.t,x4.mono S12.t⟩);have pl:=Paired.length pr12;have nwl8:H8 wl=none:=(s9.trans s10).free n11;have w12:H12 wl=some (.lst (prs [q0'])):=s12 _ _ f11;have hvl:vs.tail.length<900:=by rw[<- pl,List.length_tail];omega
   refine⟨sl,rfl,⟨_,SqL.of f12⟩,d0 (K:=K) (a:=sl) (xs:=vs.tail) (fun i σ H'=>∃(ps':List Pr) (z4:Option V),σ = [some (.ref fo),some (.ref le),some (.ref r),some (.ref wl),z4]∧cB wl H12 H'∧H' wl=some (.lst (prs (q0'::ps')))∧Paired (fun e q=>qx G e q∧Co H' q) (lst.tail.take i) ps')
    ⟨[],_,rfl,fun b o _ e=>e,w12,.nil⟩ (fun i σ H' _ ⟨_,_,_,b',_,_⟩=>SqL.of (b' _ _ nw f12)) ?_ ?_⟩
   ·rintro i x σ H13 hx ⟨ps',z4,rfl,b13,w13,pp13⟩
    have il:=(List.getElem?_eq_some_iff.mp hx).1;obtain⟨e,he,t,sv,hv,rfl,ht,_,hlb⟩:=bZ pr12 i x hx;have noT:∀xs,H12 wl≠some (.tup xs):=fun xs z=>by rw[w12]at z;cases z
    have t13:=b13.t noT;have S13:Same H8 H13:=b13.same S12 nwl8;have hm':∃e0,lst[i]? = some e0∧lst[i+1]? = some e:=by
     rw[List.getElem?_tail]at he;have:=(List.getElem?_eq_some_iff.mp he).1;exact⟨lst[i]'(by omega),List.getElem?_eq_getElem (by omega),he⟩
    obtain⟨e0,he0,he1⟩:=hm';have hst:=road.2.1 i e0 e he0 he1;obtain⟨x0,y0,ex0,b1,b2,b3,b4⟩:=d9.mp (inU i e0 he0);rw[ex0]at hst;obtain⟨k1,k2'⟩:=List.mem_filter.mp (show e∈(cR x0 y0).filter (lJ n m G) from hst);obtain⟨x1,y1,k_,i_,j_,rfl,din⟩:∃x y k i j,e=(ck x y,Lb.key (dk k i j))∧(cZ n m x y=true->DIn n m k i j):=by
     unfold cR at k1;simp only[List.mem_cons,List.not_mem_nil,or_false]at k1;rcases k1 with rfl|rfl|rfl|rfl <;> exact⟨_,_,_,_,_,rfl,fun z=>by unfold cZ at z;simp only[Bool.and_eq_true,decide_eq_true_eq]at z;unfold DIn;omega⟩
    have k2':(cZ n m x1 y1 && (G k_ i_ j_).isSome)=true:=k2';rw[Bool.and_eq_true]at k2';obtain⟨⟨lo,hi⟩,eg⟩:=Option.isSome_iff_exists.mp k2'.2;obtain⟨pb,rfl,hb⟩:=hlb;refine⟨_,rfl,.inl ⟨rfl,_,SqL.of w13⟩,_,rfl,_,rfl,t,_,_,_,rfl,rfl,SqT.of (t13 _ _ ht),rfl,fo,pb,n,m,room,G,F,k_,i_,j_,lo,hi,rfl,fa8.mono S13,t13 _ _ hb,din k2'.1,⟨hn20,hm20⟩,eg,gg _ _ _ _ _ eg,fun q a b H14 s14 pq pf wi a0 ab lw dp=>?_⟩;have ll:=Paired.length pp13;rw[List.length_take]at ll;refine⟨wl,_,_,rfl,rfl,s14 _ _ w13,aT (by rw[ii,List.length_cons];omega),fun H15 u=>?_⟩;refine⟨ps'++[q],_,rfl,fun b' o' nb e'=>u.at nb (s14 _ _ (b13 _ _ nb e')),?_,?_⟩
    ·rw[u.now,<- lC]
     rfl
    ·rw[oZ he]
     exact Paired.snoc (Paired.mapP pp13 fun a b x=>⟨x.1,(x.2.t s14.t).t u.t⟩) ⟨⟨k_,i_,j_,lo,hi,a,b,rfl,eg,pf,wi,a0,ab,lw,dp⟩,pq.t u.t⟩
   ·rintro σ H13 ⟨ps',z4,rfl,b13,w13,pp13⟩
    rw[List.take_of_length_le (by omega)]at pp13;have S13:Same H8 H13:=b13.same S12 nwl8;have ll:=Paired.length pp13;obtain⟨dx',lt',d',fr',hf',hl',_,_⟩:=(fa8.mono S13).ex;refine⟨_,rfl,.inl ⟨rfl,_,SqL.of w13⟩,_,rfl,fo,C_Field,dx',_,_,rfl,hf',xr.cls,n_last,rfl,lt',(n:Int),(m:Int),rfl,hl',⟨by omega,by omega⟩,⟨by omega,by omega⟩,fun q1' H14 s14 pq1 cq1=>?_⟩;refine⟨wl,_,_,rfl,rfl,s14 _ _ w13,aT (by rw[ii,List.length_cons];omega),fun H15 u=>⟨_,rfl,?_⟩⟩;have b15:cB wl H12 H15:=fun b' o' nb e'=>u.at nb (s14 _ _ (b13 _ _ nb e'));have S15:Same H8 H15:=b15.same S12 nwl8;refine q1 wl H15 (q0'::(ps'++[q1'])) (dD P8 tb8 nwl8) (P8.trans S15.p) (tb8.same S15) ⟨F0,F1,lst,ps',q0',q1',road,fnd,⟨by omega,by omega⟩,rfl,cq0,cq1,Paired.mapP pp13 fun a b x=>x.1⟩ ⟨?_,fun q hq=>?_⟩
    ·rw[u.now,<- lC]
     rfl
    ·rcases List.mem_cons.mp hq with rfl|hq
     ·exact pq0.two.t ((s11.trans s12).t.trans (b15.t (fun xs z=>by rw[w12]at z;cases z)))
     ·rcases List.mem_append.mp hq with hq|hq
      ·obtain⟨i,hi⟩:=List.mem_iff_getElem?.mp hq
       obtain⟨e,_,h2⟩:=bZ pp13 i q hi;exact(h2.2.t s14.t).t u.t
      ·rw[List.mem_singleton.mp hq]
       exact pq1.two.t u.t
theorem zg:xo ["field","begins","row"] ["field"] (ai (top 56)):=smk
theorem jC{t_free_fence:Addr}(zy:Db K mg "free_fence" (top 56) t_free_fence)(xr:AN K mg "Field" C_Field)(n_last:a9 K C_Field "last")(n_doors:a9 K C_Field "doors")(n_far:a9 K C_Field "far")(BF:sj K mg)(Au:Fn P w K mg base "seek" ["begins","steps_from","is_end"] 5 (mP P w K mg base 3))(yY:Fn P w K mg base "steps_along" ["field","corner"] 2 (Bc K C_Field))(yN:Fn P w K mg base "begins_fence" ["corner","last","way"] 1 Cj)(zp:Fn P w K mg base "ends_fence" ["corner","last","way"] 1 Ce)(xA:Fn P w K mg base "pair_at_corner" ["corner"] 1 AH)(T:Txt mg):Fn P w K mg base "free_fence" ["field"] 7 (CZ K C_Field t_free_fence):=by
 refine zy.fn zg (fun _ _ _ _ _ _ us hl=>by obtain⟨_,rfl⟩:=dL hl;rfl) (fun vs H Q E h=>?_) (fun f cdv A outer s H vs Q E CF hr h=>?_)
 ·obtain⟨fo,n,m,room,G,F,rfl,_⟩:=h
  rfl
 ·obtain⟨fo,n,m,room,G,F,rfl,tb,fa,⟨⟨hn,hn20⟩,hm,hm20⟩,sf,nh,q1⟩:=h
  obtain⟨c,ec,CF⟩:=CF;have CL_a:closureFor (cw laF) (a7 CX0 P w K mg base ["field","begins","row"] "free_fence" (ai (top 56)) f cdv A outer s H E).nox.env=pure ([("field",s.heap.objs.size+1)]:List (Str×Addr)):=by rfl
  have CL_b:closureFor (cw lbF) (a7 CX0 P w K mg base ["field","begins","row"] "free_fence" (ai (top 56)) f cdv A outer s H E).nox.env=pure ([("field",s.heap.objs.size+1)]:List (Str×Addr)):=by rfl
  have CM_a:(bW laF,qF)∈lsF:=List.mem_cons_self;have CM_b:(bW lbF,qF)∈lsF:=List.mem_cons_of_mem _ List.mem_cons_self;have CD_a:∀l∈lsF,l≠(bW laF,qF)->¬(l.1.line=(bW laF).line∧l.1.col=(bW laF).col):=by
   intro l hl ne;rcases List.mem_cons.mp hl with rfl|hl
   ·exact absurd rfl ne
   ·rw[List.mem_singleton.mp hl]
    decide +kernel
  have CD_b:∀l∈lsF,l≠(bW lbF,qF)->¬(l.1.line=(bW lbF).line∧l.1.col=(bW lbF).col):=by
   intro l hl ne;rcases List.mem_cons.mp hl with rfl|hl
   ·decide +kernel
   ·rw[List.mem_singleton.mp hl]at ne
    exact absurd rfl ne
  have CS:∀p∈[((s.heap.objs.size+1:Addr),0)],∃y,(a7 CX0 P w K mg base ["field","begins","row"] "free_fence" (ai (top 56)) f cdv A outer s H E).nox.env.cells.lookup y=some p.1∧(a7 CX0 P w K mg base ["field","begins","row"] "free_fence" (ai (top 56)) f cdv A outer s H E).nox.N[p.2]? = some y∧(a7 CX0 P w K mg base ["field","begins","row"] "free_fence" (ai (top 56)) f cdv A outer s H E).nox.env.kindOf y=some .cell∧Vis (a7 CX0 P w K mg base ["field","begins","row"] "free_fence" (ai (top 56)) f cdv A outer s H E).nox.env.scope y:=by
   intro p hp;rw[List.mem_singleton.mp hp];exact⟨"field",rfl,rfl,rfl,.inr (.inl rfl)⟩
  have CB:AE (a7 CX0 P w K mg base ["field","begins","row"] "free_fence" (ai (top 56)) f cdv A outer s H E).nox (fY ((aJ (top 56)).getD 0 (.Pass ⟨0,0,0,0⟩))) [("field",s.heap.objs.size+1)] ["corner"] [("field",0)] :=
   ⟨by rfl,rfl,by decide +kernel,by decide +kernel,(fun x hx=>by simp only[List.mem_cons,List.not_mem_nil,or_false]at hx;subst hx;rfl),(fun p hp=>by simp only[List.mem_cons,List.not_mem_nil,or_false]at hp;subst hp;rfl),by rfl,by decide +kernel,(fun p hp=>by simp only[List.mem_cons,List.not_mem_nil,or_false]at hp;subst hp;exact⟨rfl,rfl,.inr (.inl rfl),rfl,rfl⟩),⟨rfl,rfl⟩,rfl⟩
  have CN:zC (a7 CX0 P w K mg base ["field","begins","row"] "free_fence" (ai (top 56)) f cdv A outer s H E).nox (Sp7.retScope ((aJ (top 56)).getD 2 (.Pass ⟨0,0,0,0⟩))) [] "step" [] :=
   ⟨by rfl,rfl,by decide +kernel,by decide +kernel,rfl,(fun p hp=>nomatch hp),by rfl,by decide +kernel,(fun p hp=>nomatch hp),⟨rfl,rfl⟩,rfl⟩
  refine⟨_,(ag (lB (j:=1) rfl CB zg.nd rfl rfl (sM (dF (pv 0) rfl)) (fun fp s₀ H₀=>(aY (i:=0) CB.nd rfl (Or.inl rfl) (Or.inr rfl))) (fun fp s₀ H₀=>(ki (cz (aA yN (hr.mono (by decide)) (by rfl) (aa (pv 0) (aa (gk (K:=K) rfl (pv 1) rfl) (aa eO af))))))) (fun fp s₀ H₀=>(pv 0))) (ag (ax (i:=2) zg.nd rfl (Or.inl rfl) (qM Au (hr.mono (by decide)) (by rfl) (fun _=>rfl) CS (aa (pv 1) (aa (kr CL_a ec CF BF rfl rfl CM_a CD_a) (aa (kr CL_b ec CF BF rfl rfl CM_b CD_b) af))))) (ao (aB (lE rfl CN (cP (pv 2)) (fun fp s₀ H₀=>(aA xA (hr.mono (by decide)) (by rfl) (aa (ar (cp (K:=K) rfl) (pv 0) ad (fun _ _=>rfl)) af)))))))),?_⟩;obtain⟨dx,lt,d,fr,hf,hl,_,fd⟩:=fa.ex;obtain⟨o,ed⟩:=id fd;refine⟨_,rfl,fo,C_Field,dx,_,_,rfl,hf,xr.cls,n_far,rfl,fr,o,_,rfl,ed,nG (k:=1) ed (by unfold kvF;rw[List.length_map];have:=rG (F:=F) hn20 hm20;omega) (v9 fun p=>decide (p.2=m) || decide (p.1=0)) (fun e y H'=>bH H' y e.1) (fun e v H H' st h=>h.mono st) ?_ ?_⟩
  ·intro k e b H2 τ Kc Kn he hb s2 hτ kc kn
   obtain⟨τ0,rfl⟩:∃τ0,τ = [τ0]:=dL hτ;have he':=List.mem_of_getElem? he;unfold kvF at he';obtain⟨p,hp,rfl⟩:=List.mem_map.mp he';obtain⟨x,y⟩:=p;refine⟨⟨[some (.ref b)],rfl,rfl⟩,?_⟩;refine⟨_,rfl,_,rfl,fo,C_Field,dx,_,_,rfl,s2 _ _ hf,xr.cls,n_last,rfl,b,lt,x,y,n,m,rfl,hb,s2 _ _ hl,_,rfl,aR (fun h=>?_) (fun h=>kn h H2 (Same.refl _))⟩;exact⟨_,rfl,kc h _ H2 (Same.refl _) ⟨b,rfl,hb⟩⟩
  intro bl bvs H3 nb S3 f3 prb;rw[iV]at prb;have pb3:Paired (fun s v=>bH H3 v s) ((kZ n m F).map fun p=>ck p.1 p.2) bvs:=gm (iP (f:=fun (p:Int×Int)=>(ck p.1 p.2,V.bl true)) prb);have tb3:=tb.same S3;refine⟨_,rfl,tb3,fun la_ H4 P4 tb4 la4 nfa=>⟨tb4,fun lb_ H5 P5 tb5 lb5 nfb=>fun H6 s6 cells=>?_⟩⟩;have kp:∀{x:Addr} {ob:HO},H3 x=some ob->(∀ps,ob≠.tbl ps)->H6 x=some ob:=fun e n=>s6 _ _ (P5.keep tb4 (P4.keep tb3 e n) n);have c1:=cells (s.heap.objs.size+1,0) List.mem_cons_self (.ref fo) rfl;have la6:=(la4.same fun x ob e=>P5.keep tb4 e (fun ps q=>by cases q)).same fun x ob e=>s6 _ _ e;have lb6:=lb5.same fun x ob e=>s6 _ _ e;have fa6:xI K C_Field H6 fo n m room G F:=(fa.mono S3).keep fun b o e _ h2=>kp e h2;have bU:∀s∈(kZ n m F).map fun p=>ck p.1 p.2,s∈U n m:=fun s hs=>by
   obtain⟨p,hp,rfl⟩:=List.mem_map.mp hs;obtain⟨g1,g2,g3,g4,_⟩:=dS.mp (List.mem_filter.mp hp).1;exact d9.mpr ⟨_,_,rfl,g1,g2,g3,g4⟩
  have FN:Dp P w K mg base 3 H6 la_ lb_ (U n m) (fE n m G) (pY n):=by
   refine⟨la6.obj,lb6.obj,?_,?_,jm,fun s _=>qk s⟩
   ·obtain⟨pm,cc,ct,ea,ck6⟩:=la6
    have LN:BU "corner" (cw laF) [("field",s.heap.objs.size+1)]:=by
     refine⟨rfl,rfl,rfl,by decide +kernel,rfl,by rfl,?_,fun p hp=>?_,fun p hp q hq e=>?_⟩
     ·show(["corner","field"]:List Str).Nodup
      decide +kernel
     ·rw[List.mem_singleton.mp hp]
      rfl
     ·rw[List.mem_singleton.mp hp,List.mem_singleton.mp hq]
    refine⟨_,⟨_,["corner"],kE (P:=P) (w:=w) (K:=K) (mg:=mg) (base:=base) (x:="corner") (q:=qF) (params:=ir laF) (body:=iq laF) (scope:=cw laF) (pm:=pm) (ctv:=ct) (f:=la_) (c:=cc) (k:=2) LN (fun A2 o2 s2 H2 hr2=>aA yY (hr2.mono (by decide)) (by rfl) (aa (pv 1) (aa (pv 0) af))),.all fun us hl=>by obtain⟨_,rfl⟩:=dL hl;rfl⟩,?_⟩;intro H' v sp Q' s' hv hU k;obtain⟨x,y,rfl,b1,b2,b3,b4⟩:=d9.mp hU;obtain⟨p,rfl,hp⟩:=hv;have cs:Paired (fun (p:Str×Addr) z=>cL H' p.2 z) [("field",s.heap.objs.size+1)] [.ref fo]:=.cons (c1.mono s') .nil;have hC:=gC cs;have CK:fF H' cc qF:=by
     obtain⟨o,vs,t,e,r⟩:=ck6;exact⟨o,vs,t,s' _ _ e,r⟩
    refine⟨.ref p,[.ref fo],rfl,s' _ _ ea,CK,cs,?_⟩;refine⟨_,rfl,_,rfl,fo,p,n,m,room,G,F,x,y,rfl,(fa6.mono s').keep fun b o e h1 _=>cX hC e h1,cX hC hp (fun z q=>by cases q),fun r H1 s1 nr st hC1=>?_⟩;refine k r _ (fc s1) ?_ (jN hC1 st);obtain⟨vs,er,_⟩:=st;rw[cD fun z=>by rw[hC1 r z]at er;cases er]at nr;exact nr
   ·obtain⟨pm,cc,ct,ea,ck6⟩:=lb6
    have LN:BU "spot" (cw lbF) [("field",s.heap.objs.size+1)]:=by
     refine⟨rfl,rfl,rfl,by decide +kernel,rfl,by rfl,?_,fun p hp=>?_,fun p hp q hq e=>?_⟩
     ·show(["spot","field"]:List Str).Nodup
      decide +kernel
     ·rw[List.mem_singleton.mp hp]
      rfl
     ·rw[List.mem_singleton.mp hp,List.mem_singleton.mp hq]
    refine⟨_,⟨_,["spot"],kE (P:=P) (w:=w) (K:=K) (mg:=mg) (base:=base) (x:="spot") (q:=qF) (params:=ir lbF) (body:=iq lbF) (scope:=cw lbF) (pm:=pm) (ctv:=ct) (f:=lb_) (c:=cc) (k:=2) LN (fun A2 o2 s2 H2 hr2=>aA zp (hr2.mono (by decide)) (by rfl) (aa (pv 0) (aa (gk (K:=K) rfl (pv 1) rfl) (aa eO af)))),.all fun us hl=>by obtain⟨_,rfl⟩:=dL hl;rfl⟩,?_⟩;intro H' v sp Q' s' hv hU k;obtain⟨x,y,rfl,_⟩:=d9.mp hU;obtain⟨p,rfl,hp⟩:=hv;have cs:Paired (fun (p:Str×Addr) z=>cL H' p.2 z) [("field",s.heap.objs.size+1)] [.ref fo]:=.cons (c1.mono s') .nil;have hC:=gC cs;have CK:fF H' cc qF:=by
     obtain⟨o,vs,t,e,r⟩:=ck6;exact⟨o,vs,t,s' _ _ e,r⟩
    obtain⟨dx',lt',d',fr',hf',hl',_,_⟩:=(fa6.mono s').ex;refine⟨.ref p,[.ref fo],rfl,s' _ _ ea,CK,cs,?_⟩;exact⟨_,rfl,_,rfl,fo,C_Field,dx',_,_,rfl,cX hC hf' (fun z q=>by cases q),xr.cls,n_last,rfl,p,lt',x,y,n,m,rfl,cX hC hp (fun z q=>by cases q),cX hC hl' (fun z q=>by cases q),fun hC1=>k _ (fc (Same.refl _))⟩
  have SP5:cO t_free_fence H H5:=(S3.p.trans P4).trans P5;have pb6:Paired (fun s v=>bH H6 v s) ((kZ n m F).map fun p=>ck p.1 p.2) bvs:=Paired.mapP pb3 fun a b ⟨p,e1,e2⟩=>⟨p,e1,kp e2 (fun ps q=>by cases q)⟩;have us:=oS hn20 hm20;refine⟨bl,la_,lb_,bvs,_,U n m,fE n m G,pY n,rfl,kp f3 (fun ps q=>by cases q),pb6,qi,bU,us,FN,?_,?_⟩
  ·intro H7 s7 sh
   exact(nj hn hm sf nh sh).elim
  ·intro r H7 lst s7 road fnd hlen ra H8 k1 k2
   have S8:Same H5 H8:=fun x ob e=>k2 x ob e (s7 _ _ (s6 _ _ e));obtain⟨vs,hr8,pr8⟩:=nZ (oz k1) ra;have vl:=Paired.length pr8;have inU:=kf road (U:=U n m) bU jm;refine⟨_,rfl,r,rfl,⟨_,SqL.of hr8⟩,kR (K:=K) (SqL.of hr8) (by omega) (fun i v H'=>∃q e,lst[i]? = some e∧v=V.ref q.p∧(PrAt H' q∧prC q (dec e.1))) (fun i v H H' st h=>by obtain⟨q,e,x1,x2,x3,x4⟩:=h;exact⟨q,e,x1,x2,x3.t st,x4⟩) ?_ ?_⟩
   ·intro i x H9 Kc hx s9 kc
    obtain⟨e,he,t,sv,hv,rfl,ht,⟨c,rfl,hc⟩,_⟩:=bZ pr8 i x hx;obtain⟨x,y,ex,g1,g2,g3,g4⟩:=d9.mp (inU i e he);rw[ex]at hc;refine⟨_,rfl,t,_,_,_,rfl,rfl,SqT.of (s9 _ _ ht),rfl,c,x,y,rfl,s9 _ _ hc,⟨g1,by omega⟩,⟨g3,by omega⟩,fun q H10 s10 pq cq=>kc _ H10 s10 ⟨q,e,he,rfl,pq,?_⟩⟩;rw[ex];exact cq
   ·intro lr ys H9 nl s9 f9 hlen9 hr9
    obtain⟨ps,rfl,hp⟩:=kj (R:=fun (e:aK×Lb) q=>PrAt H9 q∧prC q (dec e.1)) (l:=lst) (ys:=ys) (by omega) hr9;exact q1 lr H9 ps (dD (SP5.trans S8.p) (tb5.same S8) nl) ((SP5.trans S8.p).trans s9.p) (tb5.same (S8.trans s9)) ⟨nh,lst,road,fnd,⟨by omega,by omega⟩,Paired.mapP hp fun a b x=>x.2⟩ ⟨f9,fun q hq=>by
     obtain⟨i,hi⟩:=List.mem_iff_getElem?.mp hq;obtain⟨e,_,h2⟩:=bZ hp i q hi;exact h2.1.two⟩
def onB(n1:Bool)(a b a' b':Int):Prop:=if n1=true then a'=0∧b'=1 else a'=a∧b'=b
inductive B9 (vs:List V) (H:Hp) (Q:VK) (x_3:XK):Prop
 | mk:∀(l p:Addr) (qs:Crn) (a b:Int),(vs = [.ref l,.ref p])->(LineM H l qs)->((Cp H p a b 1500∧0≤a))->(∀(r:Addr) (a' b':Int) (H':Hp),Same H H'->Cp H' r a' b' 1500->0≤a'->onB (decide (qs.length=1)) a b a' b'->Q (.ref r) H')->B9 vs H Q x_3
def sV(o1 o2:Bool)(q q':Pr):Prop:=onB o1 q.a q.b q'.a q'.b∧onB o2 q.c q.d q'.c q'.d
inductive A8 (vs:List V) (H:Hp) (Q:VK) (x_3:XK):Prop
 | mk:∀(l1 l2 l:Addr) (qs rs:Crn) (ps:List Pr),(vs = [.ref l1,.ref l2,.ref l])->(LineM H l1 qs)->(LineM H l2 rs)->(CL H l ps)->(ps.length<990)->(∀(r:Addr) (ps':List Pr) (H':Hp),H r=none->Same H H'->CL H' r ps'->Paired (sV (decide (qs.length=1)) (decide (rs.length=1))) ps ps'->Q (.ref r) H')->A8 vs H Q x_3
def GoF(qs rs:Crn)(a b:Int)(wk:Bool)(ps':List Pr):Prop:=∃ps,Paired (sV (decide (qs.length=1)) (decide (rs.length=1))) ps ps'∧(if wk=true then sd (aU qs) (aU rs) (bo (dbl qs) (dbl rs) a b 0) (eD (dbl qs) (dbl rs) a b 0) ps else se (aU qs) (aU rs) (bo (dbl qs) (dbl rs) a b 0) (eD (dbl qs) (dbl rs) a b 0) ps)
inductive Cc (C tw tf:Addr) (vs:List V) (H:Hp) (Q:VK) (E:XK):Prop
 | mk:∀(l1 l2:Addr) (qs rs:Crn) (x:V),(vs = [.ref l1,.ref l2,x])->(LineM H l1 qs)->(LineM H l2 rs)->((1≤qs.length∧qs.length≤10))->((1≤rs.length∧rs.length≤10))->(Bo H x)->(((sqV H x=false∧E (.ref C) none H)∨(sqV H x=true∧∃(p:Addr) (a b:Int),x = .ref p∧(Sq H p a b∧0<b∧0≤a)∧Bx H tw tf∧∀(t r:Addr) (H':Hp) (ps:List Pr) (wk:Bool),H r=none->H t=none->t≠r->ce H H'->Bx H' tw tf->CL H' r ps->H' t=some (.tup [.str (if wk=true then "walk" else "fence"),.ref r])->GoF qs rs a b wk ps->Q (.ref t) H')))->Cc C tw tf vs H Q E
theorem pU{n m:Nat}{G:GF}{F:Int->Int->Bool}{ps:List Pr}(h:sd n m G F ps):ps.length<990:=by
 obtain⟨_,_,l,ps',q0,q1,_,_,hl,rfl,_,_,pp⟩:=h;have:=Paired.length pp;rw[List.length_tail]at this;simp;omega
theorem pV{n m:Nat}{G:GF}{F:Int->Int->Bool}{ps:List Pr}(h:se n m G F ps):ps.length<990:=by
 obtain⟨_,l,_,_,hl,pp⟩:=h;have:=Paired.length pp;omega
theorem rA{qs rs:Crn}{a b room:Int}(hr:room=0∨room=1)(hb:0<b):GGk (bo qs rs a b room):=by
 intro k i j l h e;unfold bo at e
 split at e
 ·exact rn hr hb e
 ·exact rn hr hb e
theorem vg{x y x' y' a b:Int}:lo x y x' y' a b<0↔a<((x' - x)*(x' - x)+(y' - y)*(y' - y))*b:=by
 unfold lo;have:=(jM (x:=a - ((x' - x)*(x' - x)+(y' - y)*(y' - y))*b)).1;omega
theorem jh{qs rs:Crn}{a b:Int}{i j:Int}(hi:0≤i∧i<(qs.length:Int))(hj:0≤j∧j<(rs.length:Int)):eD qs rs a b 0 i j=decide (a<((cnX rs j - cnX qs i)*(cnX rs j - cnX qs i)+(cnY rs j - cnY qs i)*(cnY rs j - cnY qs i))*b):=by
 have hi':i.toNat<qs.length:=by omega
 have hj':j.toNat<rs.length:=by omega
 have e1:qs[i.toNat]? = some (qs.getD i.toNat (0,0,0)):=by rw[List.getD_eq_getElem?_getD,List.getElem?_eq_getElem hi'];rfl
 have e2:rs[j.toNat]? = some (rs.getD j.toNat (0,0,0)):=by rw[List.getD_eq_getElem?_getD,List.getElem?_eq_getElem hj'];rfl
 unfold eD;rw[e1,e2];dsimp only;have:=vg (x:=cnX qs i) (y:=cnY qs i) (x':=cnX rs j) (y':=cnY rs j) (a:=a) (b:=b)
 by_cases h:a<((cnX rs j - cnX qs i)*(cnX rs j - cnX qs i)+(cnY rs j - cnY qs i)*(cnY rs j - cnY qs i))*b
 ·rw[decide_eq_true h]
  exact decide_eq_true (this.mpr h)
 ·rw[decide_eq_false h]
  exact decide_eq_false (fun z=>h (this.mp z))
theorem fX{cx cy bx by_ ex ey x y t u:Int}(hy:0<y)(h:cH cx cy bx by_ ex ey x y 0=none)(t0:0≤t)(tu:t≤u)(hu:0<u):x*(u*u)<wth cx cy bx by_ ex ey t u*y:=by
 have g:=(pT (cx:=cx) (cy:=cy) (bx:=bx) (by_:=by_) (ex:=ex) (ey:=ey) (x:=x) hy t0 tu hu).1;rw[h]at g;have g:false=decide (wth cx cy bx by_ ex ey t u*y≤x*(u*u)):=g;have:=of_decide_eq_false g.symm;omega
theorem pS{qs rs:Crn}{a b:Int}(hb:0<b)(hq:2≤(dbl qs).length)(hr:2≤(dbl rs).length):k7 (aU qs) (aU rs) (bo (dbl qs) (dbl rs) a b 0) (eD (dbl qs) (dbl rs) a b 0):=by
 have e1:((aU qs:Nat):Int)=((dbl qs).length:Int) - 1:=by unfold aU;omega
 have e2:((aU rs:Nat):Int)=((dbl rs).length:Int) - 1:=by unfold aU;omega
 generalize dbl qs=qs' at *;generalize dbl rs=rs' at *;have w0:∀cx cy bx by_ ex ey:Int,wth cx cy bx by_ ex ey 0 1=(bx - cx)*(bx - cx)+(by_ - cy)*(by_ - cy):=fun cx cy bx by_ ex ey=>by unfold wth;grind
 have w1:∀cx cy bx by_ ex ey:Int,wth cx cy bx by_ ex ey 1 1=(ex - cx)*(ex - cx)+(ey - cy)*(ey - cy):=fun cx cy bx by_ ex ey=>by unfold wth bC rAl;grind
 refine⟨fun i j hi hj hg=>?_,fun i j hi hj hg=>?_⟩
 ·have hg:cH (cnX qs' i) (cnY qs' i) (cnX rs' j) (cnY rs' j) (cnX rs' (j+1)) (cnY rs' (j+1)) a b 0=none:=hg
  have a0:=fX (t:=0) (u:=1) hb hg (by decide) (by decide) (by decide);have a1:=fX (t:=1) (u:=1) hb hg (by decide) (by decide) (by decide);rw[w0]at a0;rw[w1]at a1;rw[jh (by omega) (by omega),jh (by omega) (by omega)];exact⟨decide_eq_true (by omega),decide_eq_true (by omega)⟩
 ·have hg:cH (cnX rs' j) (cnY rs' j) (cnX qs' i) (cnY qs' i) (cnX qs' (i+1)) (cnY qs' (i+1)) a b 0=none:=hg
  have a0:=fX (t:=0) (u:=1) hb hg (by decide) (by decide) (by decide);have a1:=fX (t:=1) (u:=1) hb hg (by decide) (by decide) (by decide);rw[w0]at a0;rw[w1]at a1;rw[jh (by omega) (by omega),jh (by omega) (by omega)];refine⟨decide_eq_true ?_,decide_eq_true ?_⟩
  ·rw[show(cnX rs' j - cnX qs' i)*(cnX rs' j - cnX qs' i)+(cnY rs' j - cnY qs' i)*(cnY rs' j - cnY qs' i)=(cnX qs' i - cnX rs' j)*(cnX qs' i - cnX rs' j)+(cnY qs' i - cnY rs' j)*(cnY qs' i - cnY rs' j) by grind]
   omega
  ·rw[show(cnX rs' j - cnX qs' (i+1))*(cnX rs' j - cnX qs' (i+1))+(cnY rs' j - cnY qs' (i+1))*(cnY rs' j - cnY qs' (i+1))=(cnX qs' (i+1) - cnX rs' j)*(cnX qs' (i+1) - cnX rs' j)+(cnY qs' (i+1) - cnY rs' j)*(cnY qs' (i+1) - cnY rs' j) by grind]
   omega
theorem By:xo ["line","place"] ["line","place"] (ai (top 45)):=smk
theorem l8(Aa:Df K mg "place_on" (top 45))(T:Txt mg):Fn P w K mg base "place_on" ["line","place"] 1 B9:=by
 refine Aa.fn By (fun _ _ _ _ _ _ us hl=>by obtain⟨_,_,rfl⟩:=dI hl;rfl) (fun vs H Q E h=>?_) (fun f cdv A outer s H vs Q E hr h=>?_)
 ·obtain⟨l,p,qs,a,b,rfl,_⟩:=h
  rfl
 ·obtain⟨l,p,qs,a,b,rfl,L,⟨fr,a0⟩,k⟩:=h
  refine⟨_,(ao (aB (gj (aC bR (aG aI (by rfl) T.z_len bE (aa (pv 0) af)) ad (aE _)) (az (aa ad (aa ad af))) (pv 1)))),?_⟩;have hll:(qs.map fun (q:Addr×Int×Int)=>V.ref q.1).length=qs.length:=List.length_map _;unfold onB at k;refine⟨_,rfl,l,_,rfl,.inl (SqL.of L.lst),rfl,_,rfl,?_⟩;rw[hll,di];refine aR (fun c=>?_) (fun c=>?_)
  ·have c:qs.length=1:=by have:((qs.length:Nat):Int)=1:=bK c;omega
   rw[decide_eq_true c]at k;exact⟨sz (by simp),fun r H1 s1 f1 _=>k r 0 1 H1 s1 ⟨f1,⟨by decide,by decide⟩,by decide,by decide⟩ (by decide) ⟨rfl,rfl⟩⟩
  ·have c:¬qs.length=1:=fun z=>bY c (by rw[z];rfl)
   rw[decide_eq_false c]at k;exact⟨_,rfl,k p a b H (Same.refl _) fr a0 ⟨rfl,rfl⟩⟩
theorem Bz:xo ["one","other","pairs"] ["one","other","pairs"] (ai (top 46)):=smk
theorem l9(Ab:Df K mg "pairs_on" (top 46))(zj:Fn P w K mg base "place_on" ["line","place"] 1 B9)(T:Txt mg):Fn P w K mg base "pairs_on" ["one","other","pairs"] 2 A8:=by
 refine Ab.fn Bz (fun _ _ _ _ _ _ us hl=>by obtain⟨_,_,_,rfl⟩:=g9 hl;rfl) (fun vs H Q E h=>?_) (fun f cdv A outer s H vs Q E hr h=>?_)
 ·obtain⟨l1,l2,l,qs,rs,ps,rfl,_⟩:=h
  rfl
 ·obtain⟨l1,l2,l,qs,rs,ps,rfl,L1,L2,PP,hlen,k⟩:=h
  have CN:zC (a7 CX0 P w K mg base ["one","other","pairs"] "pairs_on" (ai (top 46)) f cdv A outer s H E).nox (Sp7.retScope ((aJ (top 46)).getD 0 (.Pass ⟨0,0,0,0⟩))) [("other",s.heap.objs.size+2),("one",s.heap.objs.size+1)] "pair" [("one",0),("other",1)] :=
   ⟨by rfl,rfl,by decide +kernel,by decide +kernel,rfl,(fun p hp=>by simp only[List.mem_cons,List.not_mem_nil,or_false]at hp;rcases hp with rfl|rfl <;> rfl),by rfl,by decide +kernel,(fun p hp=>by simp only[List.mem_cons,List.not_mem_nil,or_false]at hp;rcases hp with rfl|rfl <;> exact⟨rfl,rfl,.inr (.inl rfl),rfl,rfl⟩),⟨rfl,rfl⟩,rfl⟩
  refine⟨_,(ao (aB (lE rfl CN (cP (pv 2)) (fun fp s₀ H₀=>(az (aa (aA zj (hr.mono (by decide)) (by rfl) (aa (pv 1) (aa (ar (cp (K:=K) rfl) (pv 0) ad (fun _ _=>rfl)) af))) (aa (aA zj (hr.mono (by decide)) (by rfl) (aa (pv 2) (aa (ar (cp (K:=K) rfl) (pv 0) ad (fun _ _=>rfl)) af))) af))))))),?_⟩;refine⟨_,rfl,l,rfl,⟨_,SqL.of PP.lst⟩,kR (SqL.of PP.lst) (by rw[ii];omega) (fun i v H'=>∃(q':Pr) (q:Pr),ps[i]? = some q∧v = .ref q'.p∧(Co H' q'∧sV (decide (qs.length=1)) (decide (rs.length=1)) q q')) (fun i v H H' st ⟨q',q,x1,x2,x3,x4⟩=>⟨q',q,x1,x2,x3.t st,x4⟩) ?_ ?_⟩
  ·intro i x H2 Kc hx s2 kk
   obtain⟨q,hq,rfl⟩:=sL hx;have mq:=List.mem_of_getElem? hq;have pq:=(PP.pr q mq).t s2.t;have T:=fun {H':Hp} (s:Same H2 H')=>SqT.of (K:=K) (s _ _ pq.p_);refine⟨_,rfl,_,rfl,q.p,_,_,_,rfl,rfl,T (Same.refl _),rfl,l1,q.x,qs,q.a,q.b,rfl,L1.mono s2,⟨⟨pq.x_,pq.lx,pq.ba,pq.bb⟩,pq.nx⟩,fun r1 a' b' H3 s3 f3 a0 o1=>?_⟩;refine⟨_,rfl,_,rfl,q.p,_,_,_,rfl,rfl,T s3,rfl,l2,q.y,rs,q.c,q.d,rfl,L2.mono (s2.trans s3),⟨⟨s3 _ _ pq.y_,pq.ly,pq.bc,pq.bd⟩,pq.ny⟩,fun r2 c' d' H4 s4 f4 c0 o2=>⟨sz (by simp),fun o H5 s5 f5 n5=>?_⟩⟩;have g3:=(f3.mono s4).mono s5;have g4:=f4.mono s5;exact kk _ H5 ((s3.trans s4).trans s5) ⟨⟨o,r1,r2,a',b',c',d'⟩,q,hq,rfl,⟨f5,g3.at_,g4.at_,g3.low,g4.low,a0,c0,g3.ba,g3.bb,g4.ba,g4.bb⟩,o1,o2⟩
  ·intro lr ys H9 nl s9 f9 hly hr
   rw[ii]at hly;obtain⟨ps',rfl,hp⟩:=kj (R:=fun q q'=>Co H9 q'∧sV (decide (qs.length=1)) (decide (rs.length=1)) q q') (l:=ps) (ys:=ys) hly (fun i y hy=>let ⟨q',q,h1,h2,h3⟩:=hr i y hy;⟨q',q,h1,h2,h3⟩);exact k lr ps' H9 nl s9 ⟨f9,fun q hq=>by
    obtain⟨i,hi⟩:=List.mem_iff_getElem?.mp hq;obtain⟨e,_,h2⟩:=bZ hp i q hi;exact h2.1⟩ (Paired.mapP hp fun a b x=>x.2)
theorem At:xo ["one","other","square","field","walk"] ["one","other","square"] (ai (top 57)):=smk
theorem nD{C_NoSquare t_free_walk t_free_fence:Addr}(AC:Df K mg "go_free" (top 57))(xr:AN K mg "Field" C_Field)(yo:Fx P w K mg base "look_at_square" ["square"] 3 [] (A9 C_NoSquare))(yO:Mt P w K mg base C_Field "__init__" ["self","one","other","square","room"] 7 (AJ K C_Field))(zH:Fn P w K mg base "free_walk" ["field"] 8 (CW K C_Field t_free_walk))(zo:Fn P w K mg base "free_fence" ["field"] 7 (CZ K C_Field t_free_fence))(zk:Fn P w K mg base "pairs_on" ["one","other","pairs"] 2 A8):Fx P w K mg base "go_free" ["one","other","square"] 9 [] (Cc C_NoSquare t_free_walk t_free_fence):=by
 refine AC.fx At (fun _ _ _ _ _ _ us hl=>by obtain⟨_,_,_,rfl⟩:=g9 hl;rfl) (fun vs H Q E h=>?_) (fun f cdv A outer s H vs Q E hr h=>?_)
 ·obtain⟨l1,l2,qs,rs,x,rfl,_⟩:=h
  rfl
 ·obtain⟨l1,l2,qs,rs,x,rfl,L1,L2',b1,b2,th,q⟩:=h
  refine⟨_,(ag (bJ (qL yo (hr.mono (by decide)) (by rfl) (aa (pv 2) af))) (ag (uV (ax (i:=3) At.nd rfl (Or.inl rfl) (wf xr yO (hr.mono (by decide)) (by rfl) (aa (pv 0) (aa (pv 1) (aa (pv 2) (aa ad af))))))) (ag (ax (i:=4) At.nd rfl (Or.inl rfl) (aA zH (hr.mono (by decide)) (by rfl) (aa (pv 3) af))) (ag (aQ (aC kA (pv 4) da (aE _)) (ao (aB (az (aa eO (aa (aA zk (hr.mono (by decide)) (by rfl) (aa (pv 0) (aa (pv 1) (aa (pv 4) af)))) af))))) aF) (ao (aB (az (aa eO (aa (aA zk (hr.mono (by decide)) (by rfl) (aa (pv 0) (aa (pv 1) (aa (aA zo (hr.mono (by decide)) (by rfl) (aa (pv 3) af)) af)))) af))))))))),?_⟩;rcases q with⟨sv,qe⟩|⟨sv,p,a,b,rfl,⟨sq,hb,ha⟩,tb,q⟩
  ·exact⟨_,rfl,x,rfl,th,fun _=>qe,fun z=>by rw[sv]at z;cases z⟩
  refine⟨_,rfl,.ref p,rfl,th,(fun z=>by rw[sv]at z;cases z),fun _=>?_⟩;have d1:=fk b1;have d2:=fk b2;have ln:(1≤aU qs∧aU qs≤20)∧1≤aU rs∧aU rs≤20:=by unfold aU;omega
  refine⟨_,rfl,_,rfl,_,rfl,fun fo dx nf nd ne=>?_⟩;have sX:Same H (upd (upd H dx (.own fo)) fo (.ins C_Field dx [])):=(Same.new nd).trans (Same.new (by rw[aM (fun z=>ne z.symm)];exact nf));refine⟨fo,dx,l1,l2,p,qs,rs,a,b,0,rfl,upd_same,L1.mono sX,L2'.mono sX,b1,b2,⟨sq.mono sX,hb⟩,.inl rfl,fun H2 bt fa=>⟨rfl,?_⟩⟩;have S2:Same H H2:=fun c o e=>bt c o (fun z=>by rw[z,nf]at e;cases e) (sX c o e);have tb2:=tb.same S2;have gg:GGk (bo (dbl qs) (dbl rs) a b 0):=rA (.inl rfl) hb;refine⟨_,rfl,fo,aU qs,aU rs,0,_,_,rfl,tb2.w,fa,ln,gg,fun H3 P3 tb3 nh=>?_,fun r H3 ps nr P3 tb3 hw pp=>?_⟩
  ·have N3:=cO.n P3 tb2.w
   have tf3:Tab H3 t_free_fence lsF:=by
    obtain⟨ps,ew,_⟩:=id tb2.w;exact tb2.f.other ew (fun z=>tb2.ne z.symm) P3
   refine⟨_,rfl,rfl,_,rfl,fB ?_⟩;refine⟨_,rfl,_,rfl,_,rfl,fo,aU qs,aU rs,0,_,_,rfl,tf3,fa.keep fun b o e _ h2=>N3 b o e h2,ln,pS hb (by omega) (by omega),nh,fun r H4 ps nr P4 tb4 hf pp=>?_⟩;have N4:=((ce.of S2).trans N3).trans (cO.n P4 tf3);have tw4:Tab H4 t_free_walk lsW:=by
    obtain⟨ps,ew,_⟩:=id tf3;exact tb3.other ew tb2.ne P4
   refine⟨l1,l2,r,qs,rs,ps,rfl,N4.line L1,N4.line L2',pp,pV hf,fun r' ps' H5 nr' s5 pp' on=>⟨sz (by simp),fun t H6 s6 f6 n6=>?_⟩⟩;have fr:∀{x:Addr},H4 x=none->H x=none:=fun h=>S2.free (dD P3 tb3 (dD P4 tb4 h));have S6:=s5.trans s6;exact q t r' H6 ps' false (fr nr') (fr (s5.free n6)) (fun z=>by rw[z,pp'.lst]at n6;cases n6) (N4.trans (ce.of S6)) ⟨tw4.same S6,tb4.same S6,tb2.ne⟩ (pp'.mono s6) f6 ⟨ps,on,hf⟩
  ·refine⟨_,rfl,rfl,_,rfl,ju ?_⟩
   have N3:=(ce.of S2).trans (cO.n P3 tb2.w);have tf3:Tab H3 t_free_fence lsF:=by
    obtain⟨ps,ew,_⟩:=id tb2.w;exact tb2.f.other ew (fun z=>tb2.ne z.symm) P3
   refine⟨_,rfl,_,rfl,_,rfl,l1,l2,r,qs,rs,ps,rfl,N3.line L1,N3.line L2',pp,pU hw,fun r' ps' H4 nr' s4 pp' on=>⟨sz (by simp),fun t H5 s5 f5 n5=>?_⟩⟩;have fr:∀{x:Addr},H3 x=none->H x=none:=fun h=>S2.free (dD P3 tb3 h);have S5:=s4.trans s5;exact q t r' H5 ps' true (fr nr') (fr (s4.free n5)) (fun z=>by rw[z,pp'.lst]at n5;cases n5) (N3.trans (ce.of S5)) ⟨tb3.same S5,tf3.same S5,tb2.ne⟩ (pp'.mono s5) f5 ⟨ps,on,hw⟩
structure Pl(p:Addr)(H H':Hp):Prop where
 oth:∀b o,b≠p->H b=some o->H' b=some o
 was:∃n:Int,H p=some (.lst [.int n])
 now:∃n:Int,H' p=some (.lst [.int n])
theorem Pl.refl{p:Addr}{H:Hp}{n:Int}(h:H p=some (.lst [.int n])):Pl p H H:=⟨fun _ _ _ e=>e,⟨n,h⟩,⟨n,h⟩⟩
theorem Pl.trans{p:Addr}{H H1 H2:Hp}(a:Pl p H H1)(b:Pl p H1 H2):Pl p H H2:=⟨fun c o n e=>b.oth c o n (a.oth c o n e),a.was,b.now⟩
theorem Pl.same{p:Addr}{H0 H H':Hp}(a:Pl p H H')(s:Same H0 H)(h:H0 p=none):Same H0 H':=fun b o e=>a.oth b o (aV e h) (s b o e)
theorem Pl.t{p:Addr}{H H':Hp}(a:Pl p H H'):SameT H H':=fun b xs e=>by
 obtain⟨n,h⟩:=a.was;exact a.oth b _ (oo e h (by intro z;cases z)) e
theorem Pl.grow{p:Addr}{H H1 H2:Hp}(a:Pl p H H1)(s:Same H1 H2):Pl p H H2:=⟨fun c o n e=>s c o (a.oth c o n e),a.was,let ⟨n,h⟩:=a.now;⟨n,s _ _ h⟩⟩
theorem Pl.lst{p l:Addr}{H H':Hp}{xs:List V}(a:Pl p H H')(n:l≠p)(e:H l=some (.lst xs)):H' l=some (.lst xs):=a.oth l _ n e
inductive Bw (K:W.Frag) (vs:List V) (H:Hp) (Q:VK) (x_3:XK):Prop
 | mk:∀(sa:Addr) (ss:List Int) (k:Int),(vs = [.ref sa,.int k])->(SqL K H sa (ss.map V.int))->(0≤k)->(∀c:Int,Q (.int c) H)->Bw K vs H Q x_3
inductive Bv (K:W.Frag) (vs:List V) (H:Hp) (Q:VK) (x_3:XK):Prop
 | mk:∀(sa:Addr) (ss:List Int) (k:Int),(vs = [.ref sa,.int k])->(SqL K H sa (ss.map V.int))->(0≤k)->(k≤100)->(∀(p:Addr) (n:Int) (H':Hp),Same H H'->H p=none->H' p=some (.lst [.int n])->Q (.ref p) H')->Bv K vs H Q x_3
inductive An (vs:List V) (H:Hp) (Q:VK) (x_3:XK):Prop
 | mk:∀(p:Addr) (n m:Int),(vs = [.ref p,.int m])->(H p=some (.lst [.int n]))->((0<m∧au m≤8000))->(∀(r:Int) (H':Hp),0≤r->r<m->Pl p H H'->Q (.int r) H')->An vs H Q x_3
theorem Pl.line{p l:Addr}{H H':Hp}{qs:Crn}(a:Pl p H H')(L:LineM H l qs)(n:l≠p):LineM H' l qs:=⟨a.lst n L.lst,fun q hq=>⟨a.t _ _ (L.crn q hq).1,(L.crn q hq).2⟩⟩
theorem qy{z:Int}(a:-999999999999≤z)(b:z≤999999999999):Sm z:=⟨a,b⟩
theorem qz{u v:Int}(a:-4≤u∧u≤4)(b:-2≤v∧v≤2):Sm (u*v):=by
 have:v = -2∨v = -1∨v=0∨v=1∨v=2:=by omega
 rcases this with rfl|rfl|rfl|rfl|rfl <;> exact qy (by omega) (by omega)
inductive BM (vs:List V) (H:Hp) (Q:VK) (x_3:XK):Prop
 | mk:∀(p:Addr) (n m:Int),(vs = [.ref p,.int m])->(H p=some (.lst [.int n]))->((0<m∧m≤100))->(∀(l:Addr) (qs:Crn) (H':Hp),LineM H' l qs->1≤qs.length->(qs.length:Int)≤m->H l=none->Pl p H H'->Q (.ref l) H')->BM vs H Q x_3
inductive Ca (vs:List V) (H:Hp) (Q:VK) (x_3:XK):Prop
 | mk:∀(p l:Addr) (n:Int) (qs:Crn),(vs = [.ref p,.ref l])->(H p=some (.lst [.int n]))->(LineM H l qs)->((l≠p∧qs.length≤10))->(∀(r:Addr) (rs:Crn) (H':Hp),LineM H' r rs->rs.length=qs.length->H r=none->Pl p H H'->Q (.ref r) H')->Ca vs H Q x_3
inductive Bu (K:W.Frag) (vs:List V) (H:Hp) (Q:VK) (x_3:XK):Prop
 | mk:∀(p l:Addr) (n:Int) (qs:Crn) (m:Int),(vs = [.ref p,.ref l,.int m])->(H p=some (.lst [.int n]))->(LineM H l qs)->(l≠p)->((1≤qs.length∧(qs.length:Int)≤m))->(m≤10)->(∀(r:Addr) (rs:Crn) (H':Hp),LineM H' r rs->1≤rs.length->(rs.length:Int)≤m->H r=none->Pl p H H'->Q (.ref r) H')->Bu K vs H Q x_3
theorem ud{qs:List (Addr×Int×Int)}{k:Int}(h0:0≤k)(h1:k<(qs.length:Int)):∃q,q∈qs∧atI (qs.map fun (q:Addr×Int×Int)=>V.ref q.1) k=some (.ref q.1):=by
 obtain⟨v,hv,mv⟩:=ue (xs:=qs.map fun (q:Addr×Int×Int)=>V.ref q.1) h0 (by rw[List.length_map];exact h1);obtain⟨q,hq,rfl⟩:=List.mem_map.mp mv;exact⟨q,hq,hv⟩
theorem vF{xs:List V}{k:Nat}(h:k≤xs.length):fC xs none (some (k:Int))=xs.take k:=by
 unfold fC;rw[HT.sIx_nat,HT.sIx_none,Nat.min_eq_left h,List.drop_zero,Nat.sub_zero]
theorem vG{xs:List V}{k:Nat}(h:k≤xs.length):fC xs (some (k:Int)) none=xs.drop k:=by
 unfold fC;rw[HT.sIx_nat,HT.sIx_none,Nat.min_eq_left h,List.take_of_length_le (by rw[List.length_drop];exact Nat.le_refl _)]
theorem im{p r:Addr}{H H':Hp}(a:Pl p H H')(h:H' r=none):H r=none:=by
 obtain⟨n,hn⟩:=a.now;cases e:H r with
 | none=>rfl
 | some o =>
  have np:r≠p:=fun z=>by rw[z,hn]at h;cases h
  rw[a.oth r o np e]at h;cases h
theorem AR:xo ["script","k"] ["script","k"] (ai (top 59)):=smk
theorem je(zc:Df K mg "_law_cell_at" (top 59))(T:Txt mg):Fn P w K mg base "_law_cell_at" ["script","k"] 1 (Bw K):=by
 refine zc.fn AR (fun _ _ _ _ _ _ us hl=>by obtain⟨_,_,rfl⟩:=dI hl;rfl) (fun vs H Q E h=>?_) (fun f cdv A outer s H vs Q E hr h=>?_)
 ·obtain⟨sa,ss,k,rfl,_⟩:=h
  rfl
 ·obtain⟨sa,ss,k,rfl,hS,hk,q⟩:=h
  refine⟨_,(ag (aQ (aC cS (pv 1) (aG aI (by rfl) T.z_len bE (aa (pv 0) af)) (aE _)) (ao (aB (ar aO (pv 0) (pv 1) (fun _ _=>rfl)))) aF) (ao (aB ad))),?_⟩;refine⟨_,rfl,_,rfl,sa,_,rfl,.inl hS,_,_,rfl,rfl,_,rfl,aR (fun h1=>?_) (fun h1=>?_)⟩
  ·have h1:k<(((ss.map V.int).length:Nat):Int):=bK h1
   rw[List.length_map]at h1;exact⟨_,rfl,_,rfl,sa,_,_,_,rfl,rfl,hS,vK k.toNat (by omega) (by omega),q _⟩
  ·exact q _
theorem xR:xo ["script","at","cell","big","turn","one"] ["script","at"] (ai (top 60)):=smk
theorem me(Ad:Df K mg "_law_pool" (top 60))(y3:Fn P w K mg base "_law_cell_at" ["script","k"] 1 (Bw K))(T:Txt mg):Fn P w K mg base "_law_pool" ["script","at"] 2 (Bv K):=by
 refine Ad.fn xR (fun _ _ _ _ _ _ us hl=>by obtain⟨_,_,rfl⟩:=dI hl;rfl) (fun vs H Q E h=>?_) (fun f cdv A outer s H vs Q E hr h=>?_)
 ·obtain⟨sa,ss,k,rfl,_⟩:=h
  rfl
 ·obtain⟨sa,ss,k,rfl,hS,hk,hk2,q⟩:=h
  refine⟨_,(ag (ax (i:=2) xR.nd rfl (Or.inl rfl) (aA y3 (hr.mono (by decide)) (by rfl) (aa (pv 0) (aa (pv 1) af)))) (ag (aQ (aC og (pv 2) (aj dG ad ad) (aE _)) (ao (aB (bD (aa (pv 2) af)))) aF) (ag (ax (i:=3) xR.nd rfl (Or.inl rfl) ad) (ag (cI PassesOwn.never rfl (fg rfl T.z_range (aa ad af)) (aY (i:=4) xR.nd rfl (Or.inl rfl)) (ag (ax (i:=5) xR.nd rfl (Or.inl rfl) (aj eQ (aj ay (aj aN (aj aN (aj aN (aj eQ (pv 2) ad) (aj ay (aj ay ad (pv 4)) (pv 4))) (aj ay ad (pv 1))) ad) ad) ad)) (ag (ax (i:=5) xR.nd rfl (Or.inl rfl) (aj eQ (aj ay (pv 5) (pv 5)) ad)) (ag (ax (i:=5) xR.nd rfl (Or.inl rfl) (aj eQ (aj ay (aj aN (pv 5) (aj ay ad (pv 4))) ad) ad)) (ao (ax (i:=3) xR.nd rfl (Or.inl rfl) (aj aN (aj ay (pv 3) ad) (aj eQ (aj cM (pv 5) ad) ad)))))))) (ao (aB (bD (aa (pv 3) af)))))))),?_⟩;refine⟨_,rfl,_,rfl,sa,ss,k,rfl,hS,hk,fun c=>?_⟩;refine⟨_,rfl,_,_,rfl,rfl,⟨by decide,by decide,by decide⟩,_,_,rfl,rfl,_,rfl,aR (fun h1=>?_) (fun h1=>?_)⟩
  ·exact⟨_,rfl,sz (by simp),fun p H2 s2 f2 n2=>q p c H2 s2 n2 f2⟩
  refine⟨24,rfl,by decide,by decide,dZ (n:=24) (lo:=0) (fun _ σ H1=>∃(b:Int) (z1 z2:Option V),σ = [some (.ref sa),some (.int k),some (.int c),some (.int b),z1,z2]∧H1=H) ⟨_,_,_,rfl,rfl⟩ ?_ ?_⟩
  ·rintro i σ H1 hi ⟨b,z1,z2,rfl,rfl⟩
   have g0:=Int.emod_nonneg c (show(998244353:Int)≠0 by decide);have e64:(2:Int)^64=18446744073709551616:=by decide
   have r1:∀n:Int,0≤n % 2147483647∧n % 2147483647<2147483647:=fun n=>⟨Int.emod_nonneg _ (by decide),Int.emod_lt_of_pos _ (by decide)⟩;refine⟨_,rfl,_,_,rfl,rfl,(by show(0:Int)<998244353;decide),_,rfl,_,_,rfl,rfl,CM.l ⟨by decide,by decide⟩,_,rfl,_,_,rfl,rfl,CM.l (by rw[e64];omega),_,_,rfl,rfl,_,rfl,_,_,rfl,rfl,CM.l ⟨by decide,by decide⟩,_,_,rfl,rfl,_,_,rfl,rfl,_,_,rfl,rfl,CM.r ⟨by decide,by decide⟩,_,_,rfl,rfl,(by show(0:Int)<2147483647;decide),?_⟩;refine⟨_,rfl,_,rfl,_,_,rfl,rfl,CM.l (by rw[e64];have:=r1 ((c % 998244353+89*(0+(i:Int))*(0+(i:Int))+7*k+1)*48271);omega),_,_,rfl,rfl,(by show(0:Int)<1000000007;decide),?_⟩
   walk_at "rd"
   exact⟨_,_,_,rfl,rfl⟩
  ·rintro σ H1 ⟨b,z1,z2,rfl,rfl⟩
   exact⟨_,rfl,sz (by simp),fun p H2 s2 f2 n2=>q p b H2 s2 n2 f2⟩
theorem AL:xo ["pool","many","number"] ["pool","many"] (ai (top 61)):=smk
theorem md(Ac:Df K mg "_law_take" (top 61)):Fn P w K mg base "_law_take" ["pool","many"] 1 An:=by
 refine Ac.fn AL (fun _ _ _ _ _ _ us hl=>by obtain⟨_,_,rfl⟩:=dI hl;rfl) (fun vs H Q E h=>?_) (fun f cdv A outer s H vs Q E hr h=>?_)
 ·obtain⟨p,n,m,rfl,_⟩:=h
  rfl
 ·obtain⟨p,n,m,rfl,ep,⟨hm,bm⟩,q⟩:=h
  refine⟨_,(ag (ax (i:=2) AL.nd rfl (Or.inl rfl) (aj eQ (ar aO (pv 0) ad (fun _ _=>rfl)) (pv 1))) (ag (uW (aj cM (ar aO (pv 0) ad (fun _ _=>rfl)) (pv 1)) (uZ (pv 0) ad o4)) (ao (aB (pv 2))))),?_⟩;refine⟨_,rfl,p,_,_,_,rfl,rfl,SqL.of ep,rfl,_,rfl,_,_,rfl,rfl,hm,?_⟩;refine⟨_,rfl,p,_,_,_,rfl,rfl,SqL.of ep,rfl,_,rfl,_,_,rfl,rfl,⟨hm,bm⟩,_,rfl,p,_,_,0,rfl,rfl,ep,rfl,fun H2 u=>?_⟩;exact⟨_,rfl,q _ _ (Int.emod_nonneg _ (by omega)) (Int.emod_lt_of_pos _ hm) ⟨fun b o nb e=>u.at nb e,⟨n,ep⟩,⟨_,u.now⟩⟩⟩
theorem yd:xo ["pool","most","many","sort","along","corners","k","steps"] ["pool","most"] (ai (top 62)):=smk
theorem mh(Af:Df K mg "_law_line" (top 62))(xp:Fn P w K mg base "_law_take" ["pool","many"] 1 An)(T:Txt mg):Fn P w K mg base "_law_line" ["pool","most"] 2 BM:=by
 refine Af.fn yd (fun _ _ _ _ _ _ us hl=>by obtain⟨_,_,rfl⟩:=dI hl;rfl) (fun vs H Q E h=>?_) (fun f cdv A outer s H vs Q E hr h=>?_)
 ·obtain⟨p,n,m,rfl,_⟩:=h
  rfl
 ·obtain⟨p,n,m,rfl,ep,⟨hm0,hm1⟩,k⟩:=h
  refine⟨_,(ag (ax (i:=2) yd.nd rfl (Or.inl rfl) (aj aN ad (aA xp (hr.mono (by decide)) (by rfl) (aa (pv 0) (aa (pv 1) af))))) (ag (ax (i:=3) yd.nd rfl (Or.inl rfl) (aA xp (hr.mono (by decide)) (by rfl) (aa (pv 0) (aa ad af)))) (ag (ax (i:=4) yd.nd rfl (Or.inl rfl) (az (aa (aj aH (aA xp (hr.mono (by decide)) (by rfl) (aa (pv 0) (aa ad af))) ad) (aa (aj aH (aA xp (hr.mono (by decide)) (by rfl) (aa (pv 0) (aa ad af))) ad) af)))) (ag (ax (i:=5) yd.nd rfl (Or.inl rfl) (bD af)) (ag (cI PassesOwn.never rfl (fg rfl T.z_range (aa (pv 2) af)) (aY (i:=6) yd.nd rfl (Or.inl rfl)) (ao (aQ (aC bR (pv 3) ad (aE _)) (ag (ax (i:=7) yd.nd rfl (Or.inl rfl) (aj aH (aA xp (hr.mono (by decide)) (by rfl) (aa (pv 0) (aa ad af))) ad)) (ao (bJ (dz PySem.F.plainAttrs_list PySem.F.slot_list_append PySem.F.type_list_append aX (pv 5) (aa (az (aa (aj ay (pv 7) (ar ap (pv 4) ad (fun _ _=>rfl))) (aa (aj ay (pv 7) (ar ap (pv 4) ad (fun _ _=>rfl))) af))) af))))) (ao (aQ (aC bR (pv 3) ad (aE _)) (ao (bJ (dz PySem.F.plainAttrs_list PySem.F.slot_list_append PySem.F.type_list_append aX (pv 5) (aa (az (aa (aj aN (aj aH (aA xp (hr.mono (by decide)) (by rfl) (aa (pv 0) (aa (aj aH (aj ay ad (aj dG ad ad)) ad) af))) (aj dG ad ad)) ad) (aa (aj aN (aj aH (aA xp (hr.mono (by decide)) (by rfl) (aa (pv 0) (aa (aj aH (aj ay ad (aj dG ad ad)) ad) af))) (aj dG ad ad)) ad) af))) af)))) (ao (bJ (dz PySem.F.plainAttrs_list PySem.F.slot_list_append PySem.F.type_list_append aX (pv 5) (aa (az (aa (aj aH (aA xp (hr.mono (by decide)) (by rfl) (aa (pv 0) (aa ad af))) (ar ap (pv 4) ad (fun _ _=>rfl))) (aa (aj aH (aA xp (hr.mono (by decide)) (by rfl) (aa (pv 0) (aa ad af))) (ar ap (pv 4) ad (fun _ _=>rfl))) af))) af))))))))) (ao (aB (pv 5)))))))),?_⟩;have bsm:∀{z:Int},-1000≤z->z≤1000->au z≤10:=fun a b=>aW a b;refine⟨_,rfl,_,rfl,p,_,_,rfl,ep,⟨hm0,aw (bsm (by omega) (by omega)) (by decide)⟩,fun r1 H1 a1 b1 P1=>⟨_,_,rfl,rfl,?_⟩⟩;obtain⟨n1,e1⟩:=P1.now;refine⟨_,rfl,p,_,_,rfl,e1,⟨by decide,by decide⟩,fun r2 H2 a2 b2 P2=>?_⟩;obtain⟨n2,e2⟩:=P2.now;refine⟨_,rfl,p,_,_,rfl,e2,⟨by decide,by decide⟩,fun r3 H3 a3 b3 P3=>⟨_,_,rfl,rfl,?_⟩⟩;obtain⟨n3,e3⟩:=P3.now;refine⟨_,rfl,p,_,_,rfl,e3,⟨by decide,by decide⟩,fun r4 H4 a4 b4 P4=>⟨_,_,rfl,rfl,?_⟩⟩;obtain⟨n4,e4⟩:=P4.now;have Q4:Pl p H H4:=P1.trans (P2.trans (P3.trans P4));refine⟨sz (by simp),fun pa H5 s5 f5 _=>?_⟩;refine⟨sz (by simp),fun l H6 s6 f6 n6=>?_⟩;have Q6:Pl p H H6:=(Q4.grow s5).grow s6;have npl:l≠p:=fun z=>by
   have e5:=s5 _ _ e4;subst z;rw[n6]at e5;cases e5
  have h6:H l=none:=by
   cases e:H l with
   | none=>rfl
   | some o =>
    have z:=(Q4.grow s5).oth l o npl e;rw[n6]at z;cases z
  refine⟨_,rfl,_,rfl,by omega,by omega,?_⟩;refine dZ (n:=(1+r1).toNat) (lo:=0) (fun i σ H7=>∃(z1 z2:Option V) (qs:List (Addr×Int×Int)),σ = [some (.ref p),some (.int m),some (.int (1+r1)),some (.int r2),some (.ref pa),some (.ref l),z1,z2]∧qs.length=i∧LineM H7 l qs∧Pl p H H7∧H7 pa=some (.tup [.int (r3 - 2),.int (r4 - 2)])) ⟨_,_,[],rfl,rfl,⟨f6,fun q h=>nomatch h⟩,Q6,s6 _ _ f5⟩ ?_ ?_
  ·rintro i σ H7 hi ⟨z1,z2,qs,rfl,hl,L7,P7,f7⟩
   obtain⟨n7,e7⟩:=P7.now;have add:∀(x y:Int) (pt:Addr) (H8 H9:Hp) (z1 z2:Option V),Sm x->Sm y->Pl p H7 H8->H8 pt=some (.tup [.int x,.int y])->BP H8 H9 l (qs.map fun q=>V.ref q.1) ((qs.map fun q=>V.ref q.1)++[.ref pt]) ->
     ∃(z1' z2':Option V) (qs':List (Addr×Int×Int)),[some (V.ref p),some (.int m),some (.int (1+r1)),some (.int r2),some (.ref pa),some (.ref l),z1,z2] = [some (.ref p),some (.int m),some (.int (1+r1)),some (.int r2),some (.ref pa),some (.ref l),z1',z2']∧qs'.length=i+1∧LineM H9 l qs'∧Pl p H H9∧H9 pa=some (.tup [.int (r3 - 2),.int (r4 - 2)]):=by
    intro x y pt H8 H9 z1 z2 bx by_ P8 f8 u;refine⟨_,_,qs++[(pt,x,y)],rfl,by simp[hl],⟨by rw[u.now];simp,fun q hq=>?_⟩,⟨fun b o nb e=>?_,P7.was,?_⟩,u.t _ _ (P8.t _ _ f7)⟩
    ·rcases List.mem_append.mp hq with hq|hq
     ·exact⟨u.t _ _ (P8.t _ _ (L7.crn q hq).1),(L7.crn q hq).2⟩
     ·rw[List.mem_singleton.mp hq]
      exact⟨u.t _ _ f8,bx,by_⟩
    ·exact u.at (fun z=>by subst z;rw[h6]at e;cases e) (P8.oth b o nb (P7.oth b o nb e))
    ·obtain⟨n8,e8⟩:=P8.now
     exact⟨n8,u.at (Ne.symm npl) e8⟩
   have L8:∀{H8:Hp},Pl p H7 H8->H8 l=some (.lst (qs.map fun q=>V.ref q.1)):=fun P8=>P8.lst npl L7.lst;have len:∀{α:Type},(qs.map fun (q:Addr×Int×Int)=>V.ref q.1).length<sizeLine:=fun {_}=>aT (by rw[List.length_map];omega);have b10:∀{z:Int},-1000≤z->z≤1000->Sm z:=fun a b=>qy (by omega) (by omega);have g3:au (r3 - 2)≤10:=bsm (by omega) (by omega);have g4:au (r4 - 2)≤10:=bsm (by omega) (by omega);refine⟨_,rfl,rfl,_,rfl,aR (fun h1=>?_) (fun h1=>?_)⟩
   ·refine⟨_,rfl,p,_,_,rfl,e7,⟨by decide,by decide⟩,fun r5 H8 a5 b5 P8=>⟨_,_,rfl,rfl,?_⟩⟩
    have f8:=P8.t _ _ f7;have g5:au (r5 - 4)≤10:=bsm (by omega) (by omega);refine⟨_,rfl,.inl ⟨rfl,_,SqL.of (L8 P8)⟩,?_⟩
    walk_at "rd"
    rename_i pt H9 s9 f9 _;exact⟨l,_,_,rfl,rfl,s9 _ _ (L8 P8),len (α:=Unit),fun H10 u=>add _ _ pt H9 H10 _ _ (qz (by omega) (by omega)) (qz (by omega) (by omega)) (P8.grow s9) f9 u⟩
   ·refine⟨_,rfl,rfl,_,rfl,aR (fun h2=>?_) (fun h2=>?_)⟩
    ·have eb:(2*(10:Int)^(12:Int).toNat - 1)=1999999999999:=by decide +kernel
     have e12:(10:Int)^(12:Int).toNat=1000000000000:=by decide +kernel
     have bb:au (2*(10:Int)^(12:Int).toNat - 1)≤8000:=by rw[eb];decide +kernel
     have sm:∀{z:Int},0≤z->z<2*(10:Int)^(12:Int).toNat - 1->Sm (z - (10:Int)^(12:Int).toNat+1):=fun {z} a b=>by
      rw[eb]at b;rw[e12];exact qy (by omega) (by omega)
     refine⟨_,rfl,.inl ⟨rfl,_,SqL.of L7.lst⟩,?_⟩;refine⟨_,rfl,_,_,rfl,rfl,⟨by decide,by decide,by decide⟩,_,_,rfl,rfl,CM.l ⟨by decide,by decide⟩,_,_,rfl,rfl,p,_,_,rfl,e7,⟨by rw[eb];decide,bb⟩,fun r5 H8 a5 b5 P8=>?_⟩;obtain⟨n8,e8⟩:=P8.now;refine⟨_,_,rfl,rfl,⟨by decide,by decide,by decide⟩,_,_,rfl,rfl,_,_,rfl,rfl,?_⟩;refine⟨_,rfl,_,_,rfl,rfl,⟨by decide,by decide,by decide⟩,_,_,rfl,rfl,CM.l ⟨by decide,by decide⟩,_,_,rfl,rfl,p,_,_,rfl,e8,⟨by rw[eb];decide,bb⟩,fun r6 H9 a6 b6 P9=>?_⟩;refine⟨_,_,rfl,rfl,⟨by decide,by decide,by decide⟩,_,_,rfl,rfl,_,_,rfl,rfl,sz (by simp),fun pt H10 s10 f10 _=>?_⟩;have P10:Pl p H7 H10:=(P8.trans P9).grow s10;exact⟨l,_,_,rfl,rfl,L8 P10,len (α:=Unit),fun H11 u=>add _ _ pt H10 H11 _ _ (sm a5 b5) (sm a6 b6) P10 f10 u⟩
    ·refine⟨_,rfl,.inl ⟨rfl,_,SqL.of L7.lst⟩,?_⟩
     refine⟨_,rfl,p,_,_,rfl,e7,⟨by decide,by decide⟩,fun r5 H8 a5 b5 P8=>?_⟩;obtain⟨n8,e8⟩:=P8.now;have f8:=P8.t _ _ f7;refine⟨_,rfl,pa,_,_,_,rfl,rfl,SqT.of f8,rfl,_,_,rfl,rfl,?_⟩;refine⟨_,rfl,p,_,_,rfl,e8,⟨by decide,by decide⟩,fun r6 H9 a6 b6 P9=>?_⟩;refine⟨_,rfl,pa,_,_,_,rfl,rfl,SqT.of (P9.t _ _ f8),rfl,_,_,rfl,rfl,sz (by simp),fun pt H10 s10 f10 _=>?_⟩;have P10:Pl p H7 H10:=(P8.trans P9).grow s10;exact⟨l,_,_,rfl,rfl,L8 P10,len (α:=Unit),fun H11 u=>add _ _ pt H10 H11 _ _ (b10 (by omega) (by omega)) (b10 (by omega) (by omega)) P10 f10 u⟩
  ·rintro σ H7 ⟨z1,z2,qs,rfl,hl,L7,P7,f7⟩
   exact⟨_,rfl,k l qs H7 L7 (by omega) (by omega) h6 P7⟩
theorem ye:xo ["pool","line","found","east","north"] ["pool","line"] (ai (top 63)):=smk
theorem kL(zK:Df K mg "_law_moved" (top 63))(xp:Fn P w K mg base "_law_take" ["pool","many"] 1 An)(T:Txt mg):Fn P w K mg base "_law_moved" ["pool","line"] 2 Ca:=by
 refine zK.fn ye (fun _ _ _ _ _ _ us hl=>by obtain⟨_,_,rfl⟩:=dI hl;rfl) (fun vs H Q E h=>?_) (fun f cdv A outer s H vs Q E hr h=>?_)
 ·obtain⟨p,l,n,qs,rfl,_⟩:=h
  rfl
 ·obtain⟨p,l,n,qs,rfl,ep,L,⟨nlp,h10⟩,k⟩:=h
  refine⟨_,(ag (ax (i:=2) ye.nd rfl (Or.inl rfl) (bD af)) (ag (cI PassesOwn.never rfl (cP (pv 1)) (gJ rfl (cr (aY (i:=3) ye.nd rfl (Or.inl rfl)) (cr (aY (i:=4) ye.nd rfl (Or.inl rfl)) fh))) (ag (ax (i:=3) ye.nd rfl (Or.inl rfl) (aj aH (aj aN (pv 3) (aA xp (hr.mono (by decide)) (by rfl) (aa (pv 0) (aa ad af)))) ad)) (ag (ax (i:=4) ye.nd rfl (Or.inl rfl) (aj aH (aj aN (pv 4) (aA xp (hr.mono (by decide)) (by rfl) (aa (pv 0) (aa ad af)))) ad)) (ao (bJ (dz PySem.F.plainAttrs_list PySem.F.slot_list_append PySem.F.type_list_append aX (pv 2) (aa (az (aa (aG (fm rfl) (by rfl) T.z_max kT (aa (aj aH ad (aj dG ad ad)) (aa (aG (dC rfl) (by rfl) T.z_min fN (aa (aj aH (aj dG ad ad) ad) (aa (pv 3) af))) af))) (aa (aG (fm rfl) (by rfl) T.z_max kT (aa (aj aH ad (aj dG ad ad)) (aa (aG (dC rfl) (by rfl) T.z_min fN (aa (aj aH (aj dG ad ad) ad) (aa (pv 4) af))) af))) af))) af))))))) (ao (aB (pv 2))))),?_⟩;have hll:(qs.map fun (q:Addr×Int×Int)=>V.ref q.1).length=qs.length:=List.length_map _;have e12:(10:Int)^(12:Int).toNat=1000000000000:=by decide +kernel
  refine⟨sz (by simp),fun r H1 s1 f1 n1=>?_⟩;have nr:r≠p:=fun z=>by rw[z,ep]at n1;cases n1
  have nrl:r≠l:=fun z=>by rw[z,L.lst]at n1;cases n1
  refine⟨_,rfl,l,rfl,⟨_,SqL.of (s1 _ _ L.lst)⟩,d0 (K:=K) (a:=l) (xs:=qs.map fun (q:Addr×Int×Int)=>V.ref q.1) (fun i σ H'=>∃(z3 z4:Option V) (rs:Crn),σ = [some (.ref p),some (.ref l),some (.ref r),z3,z4]∧rs.length=i∧LineM H' r rs∧Pl p H H'∧H' l=some (.lst (qs.map fun (q:Addr×Int×Int)=>V.ref q.1)))
   ⟨_,_,[],rfl,rfl,⟨f1,fun q h=>nomatch h⟩,(Pl.refl ep).grow s1,s1 _ _ L.lst⟩ (fun i σ H' _ ⟨_,_,_,_,_,_,_,e'⟩=>SqL.of e') ?_ ?_⟩
  ·rintro i x σ H2 hx ⟨z3,z4,rs,rfl,hl,R2,P2,l2⟩
   have il:=(List.getElem?_eq_some_iff.mp hx).1;rw[hll]at il;rw[List.getElem?_map]at hx;obtain⟨u,hu,rfl⟩:=Option.map_eq_some_iff.mp hx;have cu:=L.crn u (List.mem_of_getElem? hu);obtain⟨n2,e2⟩:=P2.now;refine⟨u.1,_,rfl,SqT.of (P2.t _ _ cu.1),rfl,_,_,rfl,_,_,rfl,rfl,?_⟩;refine⟨_,rfl,_,rfl,p,_,_,rfl,e2,⟨by decide,by decide⟩,fun r3 H3 a3 b3 P3=>⟨_,_,rfl,rfl,_,_,rfl,rfl,?_⟩⟩;obtain⟨n3,e3⟩:=P3.now;refine⟨_,rfl,_,rfl,p,_,_,rfl,e3,⟨by decide,by decide⟩,fun r4 H4 a4 b4 P4=>⟨_,_,rfl,rfl,_,_,rfl,rfl,?_⟩⟩;have P34:=P3.trans P4;have R4:=P34.line R2 nr;have l4:=P34.lst nlp l2;refine⟨_,rfl,.inl ⟨rfl,_,SqL.of R4.lst⟩,_,_,rfl,rfl,⟨by decide,by decide,by decide⟩,_,_,rfl,rfl,_,_,rfl,rfl,⟨by decide,by decide,by decide⟩,_,_,rfl,rfl,_,rfl,_,_,rfl,_,_,rfl,_,_,rfl,rfl,⟨by decide,by decide,by decide⟩,_,_,rfl,rfl,_,_,rfl,rfl,⟨by decide,by decide,by decide⟩,_,_,rfl,rfl,_,rfl,_,_,rfl,_,_,rfl,sz (by simp),fun pt H5 s5 f5 n5=>?_⟩;obtain⟨x,y,fxy,sx,sy⟩:∃x y:Int,H5 pt=some (.tup [.int x,.int y])∧Sm x∧Sm y:=by
    refine⟨_,_,f5,?_,?_⟩
    ·show -999999999999≤_∧_≤999999999999
     rw[e12];constructor <;> (split <;> split <;> omega)
    ·show -999999999999≤_∧_≤999999999999
     rw[e12];constructor <;> (split <;> split <;> omega)
   refine⟨r,_,_,rfl,rfl,s5 _ _ R4.lst,aT (by rw[List.length_map];omega),fun H6 u6=>?_⟩;refine⟨_,_,rs++[(pt,x,y)],rfl,by simp[hl],⟨by rw[u6.now];simp,fun q hq=>?_⟩,?_,u6.at nrl.symm (s5 _ _ l4)⟩
   ·rcases List.mem_append.mp hq with hq|hq
    ·exact⟨u6.t _ _ (s5 _ _ (R4.crn q hq).1),(R4.crn q hq).2⟩
    ·rw[List.mem_singleton.mp hq]
     exact⟨u6.t _ _ fxy,sx,sy⟩
   ·have P5:=(P2.trans P34).grow s5
    obtain⟨n5',e5⟩:=P5.now;exact⟨fun b o nb e=>u6.at (fun z=>by rw[z,n1]at e;cases e) (P5.oth b o nb e),P5.was,⟨n5',u6.at nr.symm e5⟩⟩
  ·rintro σ H2 ⟨z3,z4,rs,rfl,hl,R2,P2,l2⟩
   exact⟨_,rfl,k r rs H2 R2 (by omega) n1 P2⟩
theorem zf:xo ["pool","line","most","sort","at"] ["pool","line","most"] (ai (top 64)):=smk
theorem jy(zt:Df K mg "_law_second" (top 64))(xp:Fn P w K mg base "_law_take" ["pool","many"] 1 An)(yW:Fn P w K mg base "_law_moved" ["pool","line"] 2 Ca)(yq:Fn P w K mg base "_law_line" ["pool","most"] 2 BM)(T:Txt mg):Fn P w K mg base "_law_second" ["pool","line","most"] 3 (Bu K):=by
 refine zt.fn zf (fun _ _ _ _ _ _ us hl=>by obtain⟨_,_,_,rfl⟩:=g9 hl;rfl) (fun vs H Q E h=>?_) (fun f cdv A outer s H vs Q E hr h=>?_)
 ·obtain⟨p,l,n,qs,m,rfl,_⟩:=h
  rfl
 ·obtain⟨p,l,n,qs,m,rfl,ep,L,nlp,⟨h1,hm⟩,m10,k⟩:=h
  have hll:(qs.map fun (q:Addr×Int×Int)=>V.ref q.1).length=qs.length:=List.length_map _;have R:∃u:TS,PSs (a7 CX0 P w K mg base ["pool","line","most","sort","at"] "_law_second" (ai (top 64)) f cdv A outer s H E).nox ((aJ (top 64)).drop 4) u∧∀(H1:Hp) (so:Int) (z:Option V),Pl p H H1->u { nx:=fun _ H'=>Q .non H',rt:=Q } [some (.ref p),some (.ref l),some (.int m),some (.int so),z] H1:=by
   refine⟨_,(ao (aB (aA yq (hr.mono (by decide)) (by rfl) (aa (pv 0) (aa (pv 2) af))))),fun H1 so z P1=>?_⟩;obtain⟨n1,e1⟩:=P1.now;exact⟨_,rfl,_,rfl,p,_,m,rfl,e1,⟨by omega,by omega⟩,fun r rs H2 R2 g1 g2 nr P2=>k r rs H2 R2 g1 g2 (im P1 nr) (P1.trans P2)⟩
  obtain⟨u,hu,fin⟩:=R;refine⟨_,(ag (ax (i:=3) zf.nd rfl (Or.inl rfl) (aA xp (hr.mono (by decide)) (by rfl) (aa (pv 0) (aa ad af)))) (ag (aQ (aC bR (pv 3) ad (aE _)) (ao (aB (aA yW (hr.mono (by decide)) (by rfl) (aa (pv 0) (aa (pv 1) af))))) aF) (ag (aQ (aC bR (pv 3) ad (aE _)) (ao (aB (aA yW (hr.mono (by decide)) (by rfl) (aa (pv 0) (aa (o8 (pv 1) (gh (dE cQ ad))) af))))) aF) (ag (aQ (eI (aC bR (pv 3) ad (aE _)) (dN (aC cS (aG aI (by rfl) T.z_len bE (aa (pv 1) af)) (pv 2) (aE _)))).pt (ag (ax (i:=4) zf.nd rfl (Or.inl rfl) (aA xp (hr.mono (by decide)) (by rfl) (aa (pv 0) (aa (aG aI (by rfl) T.z_len bE (aa (pv 1) af)) af)))) (ao (aB (aj kB (aj kB (gi fW (pv 1) ik (gh (pv 4))) (bD (aa (ar aO (pv 1) (pv 4) (fun _ _=>rfl)) af))) (gi fW (pv 1) (gh (pv 4)) ik))))) aF) hu)))),?_⟩;refine⟨_,rfl,p,_,_,rfl,ep,⟨by decide,by decide⟩,fun so H1 a1 b1 P1=>?_⟩;obtain⟨n1,e1⟩:=P1.now;have L1:=P1.line L nlp;refine⟨_,rfl,rfl,_,rfl,aR (fun c1=>?_) (fun c1=>?_)⟩
  ·exact⟨_,rfl,_,rfl,p,l,_,qs,rfl,e1,L1,⟨nlp,by omega⟩,fun r rs H2 R2 hl nr P2=>k r rs H2 R2 (by omega) (by omega) (im P1 nr) (P1.trans P2)⟩
  refine⟨_,rfl,rfl,_,rfl,aR (fun c2=>?_) (fun c2=>?_)⟩
  ·refine⟨_,rfl,_,rfl,_,rfl,_,rfl,rfl,l,_,rfl,SqL.of L1.lst,fun a H2 s2 f2 n2=>?_⟩
   have LR:LineM H2 a qs.reverse:=⟨by rw[f2,List.map_reverse],fun q hq=>(L1.mono s2).crn q (List.mem_reverse.mp hq)⟩;have nap:a≠p:=fun z=>by rw[z,e1]at n2;cases n2
   refine⟨p,a,_,qs.reverse,rfl,s2 _ _ e1,LR,⟨nap,by rw[List.length_reverse];omega⟩,fun r rs H3 R3 hl nr P3=>?_⟩;rw[List.length_reverse]at hl;exact k r rs H3 R3 (by omega) (by omega) (im P1 (s2.free nr)) ((P1.grow s2).trans P3)
  refine⟨_,rfl,rfl,_,rfl,aR (fun c3=>?_) (fun c3=>?_)⟩
  ·refine⟨_,rfl,l,_,rfl,.inl (SqL.of L1.lst),_,rfl,_,_,rfl,rfl,_,rfl,aR (fun c4=>?_) (fun c4=>fin H1 so _ P1)⟩
   have c4:(qs.length:Int)<m:=by
    have:=bK c4;rw[hll]at this;exact this
   refine⟨_,rfl,_,rfl,l,_,rfl,.inl (SqL.of L1.lst),p,_,_,rfl,e1,⟨by omega,aw (aW (by omega) (by omega)) (by decide)⟩,fun at_ H2 a2 b2 P2=>?_⟩;rw[hll]at b2;obtain⟨ak,rfl⟩:∃ak:Nat,at_=(ak:Int):=⟨at_.toNat,by omega⟩;have L2:=P2.line L1 nlp;have S:=fun {H':Hp} (s:Same H2 H')=>SqL.of (K:=K) (s _ _ L2.lst);obtain⟨q,mq,aq⟩:=ud (qs:=qs) a2 b2;refine⟨_,rfl,_,rfl,_,rfl,l,_,rfl,S (Same.refl _),fun x1 H3 s3 f3 n3=>?_⟩;refine⟨_,rfl,_,rfl,l,_,_,_,rfl,rfl,S s3,aq,sz (by simp),fun x2 H4 s4 f4 n4=>?_⟩;refine⟨x1,x2,_,_,rfl,rfl,s4 _ _ f3,f4,sz (by have:=dO (qs.map fun (q:Addr×Int×Int)=>V.ref q.1) none (some (ak:Int));simp;omega),fun x3 H5 s5 f5 n5=>?_⟩;have S5:=s3.trans (s4.trans s5);refine⟨_,rfl,_,rfl,_,rfl,l,_,rfl,S S5,fun x4 H6 s6 f6 n6=>?_⟩;have ecut:fC (qs.map fun (q:Addr×Int×Int)=>V.ref q.1) none (some (ak:Int))++[V.ref q.1]++fC (qs.map fun (q:Addr×Int×Int)=>V.ref q.1) (some (ak:Int)) none=((qs.take ak++[q]++qs.drop ak).map fun (q:Addr×Int×Int)=>V.ref q.1):=by
    rw[vF (by rw[hll];omega),vG (by rw[hll];omega),<- List.map_take,<- List.map_drop];simp
   refine⟨x3,x4,_,_,rfl,rfl,s6 _ _ f5,f6,sz (by have:=dO (qs.map fun (q:Addr×Int×Int)=>V.ref q.1) none (some (ak:Int));have:=dO (qs.map fun (q:Addr×Int×Int)=>V.ref q.1) (some (ak:Int)) none;rw[List.length_append,List.length_singleton];omega),fun x5 H7 s7 f7 n7=>?_⟩;have S7:=S5.trans (s6.trans s7);rw[ecut]at f7;have L7:=L2.mono S7;have nx5:H2 x5=none:=S5.free (s6.free n7);refine k x5 _ H7 ⟨f7,fun q' hq=>?_⟩ (by simp;omega) (by simp;omega) (im (P1.trans P2) nx5) ((P1.trans P2).grow S7);rcases List.mem_append.mp hq with hq|hq
   ·rcases List.mem_append.mp hq with hq|hq
    ·exact L7.crn q' (List.mem_of_mem_take hq)
    ·rw[List.mem_singleton.mp hq];exact L7.crn q mq
   ·exact L7.crn q' (List.mem_of_mem_drop hq)
  ·exact fin H1 so _ P1
inductive Cf (vs:List V) (H:Hp) (Q:VK) (x_3:XK):Prop
 | mk:∀a b:Int,(vs = [.int a,.int b])->(0≤a)->(0≤b)->(Q (.int (Int.gcd a b:Int)) H)->Cf vs H Q x_3
inductive BL (vs:List V) (H:Hp) (Q:VK) (x_3:XK):Prop
 | mk:∀a b:Int,(vs = [.int a,.int b])->((0≤a∧0<b))->(au b≤1000)->(∀(p:Addr) (t u:Int) (H':Hp),ze a b t u->t≤a->u≤b->0≤t->Same H H'->H' p=some (.tup [.int t,.int u])->Q (.ref p) H')->BL vs H Q x_3
inductive Bm (vs:List V) (H:Hp) (Q:VK) (x_3:XK):Prop
 | mk:∀(p q:Addr) (a b c d:Int),(vs = [.ref p,.ref q])->(H p=some (.tup [.int a,.int b]))->(H q=some (.tup [.int c,.int d]))->((au a≤300∧au b≤300∧au c≤300∧au d≤300))->(Q (.bl (decide (a*d>c*b))) H)->Bm vs H Q x_3
theorem yD:xo ["one","other","rest"] ["one","other"] (ai (top 66)):=smk
theorem jA(zw:Df K mg "_law_common" (top 66)):Fn P w K mg base "_law_common" ["one","other"] 1 Cf:=by
 refine zw.fn yD (fun _ _ _ _ _ _ us hl=>by obtain⟨_,_,rfl⟩:=dI hl;rfl) (fun vs H Q E h=>?_) (fun f cdv A outer s H vs Q E hr h=>?_)
 ·obtain⟨a,b,rfl,_⟩:=h
  rfl
 ·obtain⟨a,b,rfl,ha,hb,q⟩:=h
  refine⟨_,(ag (dw PassesOwn.never (aC gU (pv 1) ad (aE _)) (ag (ax (i:=2) yD.nd rfl (Or.inl rfl) (aj eQ (pv 0) (pv 1))) (ag (ax (i:=0) yD.nd rfl (Or.inl rfl) (pv 1)) (ao (ax (i:=1) yD.nd rfl (Or.inl rfl) (pv 2)))))) (ao (aB (pv 0)))),?_⟩;refine dm (fun σ H'=>∃(x y:Int) (z:Option V),σ = [some (.int x),some (.int y),z]∧H'=H∧0≤x∧0≤y∧Int.gcd x y=Int.gcd a b)
   (fun σ _=>match σ with | [_,some (.int y),_]=>y.toNat|_=>0) ⟨_,_,_,rfl,rfl,ha,hb,rfl⟩ ?_ ?_
  ·rintro σ H' ⟨x,y,z,rfl,rfl,hx,hy,hg⟩
   refine⟨_,rfl,rfl,_,rfl,aR (fun hc=>?_) (fun hc=>?_)⟩
   ·have hy0:¬y=0:=by simpa using hc
    have hy1:0<y:=by omega
    refine⟨_,rfl,_,rfl,x,y,rfl,rfl,hy1,_,rfl,_,rfl,⟨y,x % y,_,rfl,rfl,hy,Int.emod_nonneg _ hy0,?_⟩,?_⟩
    ·rw[l5 hx hy1]
     exact hg
    ·have h1:=Int.emod_lt_of_pos x hy1
     have h2:=Int.emod_nonneg x hy0;show(x % y).toNat<y.toNat;omega
   ·have hy0:y=0:=by simpa using hc
    subst hy0;refine⟨_,rfl,?_⟩;have e:(Int.gcd a b:Int)=x:=by rw[<- hg,Int.gcd_zero];omega
    rw[e]at q;exact q
  ·rintro σ H' Q1 Q2 hq ⟨v,e,hs,k,ek,r⟩
   exact⟨v,e,hs,k,ek,hq _ _ r⟩
theorem Am:xo ["top","bottom","common"] ["top","bottom"] (ai (top 68)):=smk
theorem jz(zu:Df K mg "_law_lowest" (top 68))(zn:Fn P w K mg base "_law_common" ["one","other"] 1 Cf)(T:Txt mg):Fn P w K mg base "_law_lowest" ["top","bottom"] 2 BL:=by
 refine zu.fn Am (fun _ _ _ _ _ _ us hl=>by obtain⟨_,_,rfl⟩:=dI hl;rfl) (fun vs H Q E h=>?_) (fun f cdv A outer s H vs Q E hr h=>?_)
 ·obtain⟨a,b,rfl,_⟩:=h
  rfl
 ·obtain⟨a,b,rfl,⟨ha,hb⟩,bb,q⟩:=h
  refine⟨_,(ag (ax (i:=2) Am.nd rfl (Or.inl rfl) (aA zn (hr.mono (by decide)) (by rfl) (aa (aG gD (by rfl) T.z_abs kY (aa (pv 0) af)) (aa (pv 1) af)))) (ao (aB (az (aa (aj cM (pv 0) (pv 2)) (aa (aj cM (pv 1) (pv 2)) af)))))),?_⟩;have hg:=gt (a:=a) (b:=b) (by omega);have bg:au (Int.gcd a b:Int)≤8000:=aw (jU (by omega) bb) (by decide);refine⟨_,rfl,a,rfl,_,rfl,?_⟩;rw[if_neg (show ¬a<0 by omega)];refine⟨a,b,rfl,ha,by omega,?_⟩;refine⟨_,rfl,_,rfl,_,_,rfl,rfl,⟨hg,bg⟩,_,rfl,_,rfl,_,_,rfl,rfl,⟨hg,bg⟩,sz (by simp),fun p H1 s1 f1 n1=>?_⟩;exact q p _ _ H1 (gu hb) (Int.ediv_le_self _ ha) (Int.ediv_le_self _ (by omega)) (Int.ediv_nonneg ha (by omega)) s1 f1
theorem Bq:xo ["one","other"] ["one","other"] (ai (top 69)):=smk
theorem kM(zL:Df K mg "_law_above" (top 69)):Fn P w K mg base "_law_above" ["one","other"] 1 Bm:=by
 refine zL.fn Bq (fun _ _ _ _ _ _ us hl=>by obtain⟨_,_,rfl⟩:=dI hl;rfl) (fun vs H Q E h=>?_) (fun f cdv A outer s H vs Q E hr h=>?_)
 ·obtain⟨p,q,a,b,c,d,rfl,_⟩:=h
  rfl
 ·obtain⟨p,q,a,b,c,d,rfl,hp,hq,⟨ba,bb,bc,bd⟩,k⟩:=h
  refine⟨_,(ao (aB (cW iQ (aj ay (ar ap (pv 0) ad (fun _ _=>rfl)) (ar ap (pv 1) ad (fun _ _=>rfl))) (aj ay (ar ap (pv 1) ad (fun _ _=>rfl)) (ar ap (pv 0) ad (fun _ _=>rfl))) (aE _)))),?_⟩;refine⟨_,rfl,p,_,_,_,rfl,rfl,SqT.of hp,rfl,_,rfl,q,_,_,_,rfl,rfl,SqT.of hq,rfl,_,_,rfl,rfl,CM.b ba bd (by decide) (by decide),_,rfl,q,_,_,_,rfl,rfl,SqT.of hq,rfl,_,rfl,p,_,_,_,rfl,rfl,SqT.of hp,rfl,_,_,rfl,rfl,CM.b bc bb (by decide) (by decide),_,_,rfl,rfl,k⟩
def nx(qs:Crn)(k:Int):Int:=if (((qs.map fun (q:Addr×Int×Int)=>V.ref q.1).length:Nat):Int) - 1<k+1 then (((qs.map fun (q:Addr×Int×Int)=>V.ref q.1).length:Nat):Int) - 1 else k+1
theorem uw{qs:Crn}{k:Int}(h0:0≤k)(h1:k<(qs.length:Int)):(0≤nx qs k∧nx qs k<(qs.length:Int))∧(nx qs k=k+1∨nx qs k=k)∧k≤nx qs k:=by
 unfold nx;rw[List.length_map]
 split <;> omega
theorem wj{qs:Crn}{k:Int}(h1:k+1<(qs.length:Int)):nx qs k=k+1:=by
 unfold nx;rw[List.length_map,if_neg (by omega)]
theorem dA{H:Hp}{l:Addr}{qs:Crn}{k:Int}(L:LineM H l qs)(h0:0≤k)(h1:k<(qs.length:Int)):∃a:Addr,atI (qs.map fun (q:Addr×Int×Int)=>V.ref q.1) k=some (.ref a)∧H a=some (.tup [.int (cnX qs k),.int (cnY qs k)])∧au (cnX qs k)≤50∧au (cnY qs k)≤50:=by
 obtain⟨j,rfl⟩:∃j:Nat,k=(j:Int):=⟨k.toNat,by omega⟩;have hk:j<qs.length:=by omega
 have e:qs.getD j (0,0,0)=qs[j]:=by rw[List.getD_eq_getElem?_getD,List.getElem?_eq_getElem hk];rfl
 have c:=L.crn _ (List.getElem_mem hk);have e1:cnX qs (j:Int)=qs[j].2.1:=by unfold cnX;rw[Int.toNat_natCast,e]
 have e2:cnY qs (j:Int)=qs[j].2.2:=by unfold cnY;rw[Int.toNat_natCast,e]
 rw[e1,e2];exact⟨qs[j].1,dB (by rw[List.getElem?_map,List.getElem?_eq_getElem hk];rfl),c.1,dM c.2.1,dM c.2.2⟩
def ftX(cx cy bx by_ ex ey:Int):Int:=(ex - bx)*(cy - by_) - (ey - by_)*(cx - bx)
def ftB(cx cy bx by_ ex ey:Int):Int:=(ex - bx)*(cx - bx)+(ey - by_)*(cy - by_)
theorem rC(cx cy bx by_ ex ey:Int):ftB cx cy bx by_ ex ey=rAl cx cy bx by_ ex ey:=by unfold ftB rAl;grind
def FtR(H:Hp)(r:Addr)(A B X:Int):Prop:=(0<B∧B<A∧∃t,H r=some (.lst [.ref t])∧H t=some (.tup [.int (X*X),.int A]))∨(¬(0<B∧B<A)∧H r=some (.lst []))
inductive CY (vs:List V) (H:Hp) (Q:VK) (x_3:XK):Prop
 | mk:∀(pc l pw pn:Addr) (cx cy:Int) (qs:Crn) (k:Int),(vs = [.ref pc,.ref l,.ref pw,.ref pn])->(Cn H pc cx cy)->(LineM H l qs)->((H pw=some (.tup [.int k,.int 1])∧H pn=some (.tup [.int (nx qs k),.int 1])))->((0≤k∧k<(qs.length:Int)∧qs.length≤100))->(∀(r:Addr) (H':Hp),Same H H'->FtR H' r (bC (cnX qs k) (cnY qs k) (cnX qs (nx qs k)) (cnY qs (nx qs k))) (ftB cx cy (cnX qs k) (cnY qs k) (cnX qs (nx qs k)) (cnY qs (nx qs k))) (ftX cx cy (cnX qs k) (cnY qs k) (cnX qs (nx qs k)) (cnY qs (nx qs k)))->Q (.ref r) H')->CY vs H Q x_3
theorem xz:xo ["corner","line","was","now","low","high","k","begin","end","along","off","length","dot","cross"] ["corner","line","was","now"] (ai (top 74)):=smk
theorem mi(Ag:Df K mg "_law_foot" (top 74))(xH:Fn P w K mg base "_law_above" ["one","other"] 1 Bm)(T:Txt mg):Fn P w K mg base "_law_foot" ["corner","line","was","now"] 2 CY:=by
 refine Ag.fn xz (fun _ _ _ _ _ _ us hl=>by obtain⟨_,_,_,_,rfl⟩:=rh hl;rfl) (fun vs H Q E h=>?_) (fun f cdv A outer s H vs Q E hr h=>?_)
 ·obtain⟨pc,l,pw,pn,cx,cy,qs,k,rfl,_⟩:=h
  rfl
 ·obtain⟨pc,l,pw,pn,cx,cy,qs,k,rfl,cc,L,⟨ew,en⟩,⟨k0,kn,n100⟩,q⟩:=h
  refine⟨_,(ag (ax (i:=4) xz.nd rfl (Or.inl rfl) (pv 2)) (ag (ax (i:=5) xz.nd rfl (Or.inl rfl) (pv 3)) (ag (aQ (cz (aA xH (hr.mono (by decide)) (by rfl) (aa (pv 2) (aa (pv 3) af)))) (ag (ax (i:=4) xz.nd rfl (Or.inl rfl) (pv 3)) (ao (ax (i:=5) xz.nd rfl (Or.inl rfl) (pv 2)))) aF) (ag (ax (i:=6) xz.nd rfl (Or.inl rfl) (aj cM (ar ap (pv 4) ad (fun _ _=>rfl)) (ar ap (pv 4) ad (fun _ _=>rfl)))) (ag (ax (i:=7) xz.nd rfl (Or.inl rfl) (ar aO (pv 1) (pv 6) (fun _ _=>rfl))) (ag (ax (i:=8) xz.nd rfl (Or.inl rfl) (ar aO (pv 1) (aG (dC rfl) (by rfl) T.z_min fN (aa (aj aN (pv 6) ad) (aa (aj aH (aG aI (by rfl) T.z_len bE (aa (pv 1) af)) ad) af))) (fun _ _=>rfl))) (ag (ax (i:=9) xz.nd rfl (Or.inl rfl) (az (aa (aj aH (ar ap (pv 8) ad (fun _ _=>rfl)) (ar ap (pv 7) ad (fun _ _=>rfl))) (aa (aj aH (ar ap (pv 8) ad (fun _ _=>rfl)) (ar ap (pv 7) ad (fun _ _=>rfl))) af)))) (ag (ax (i:=10) xz.nd rfl (Or.inl rfl) (az (aa (aj aH (ar ap (pv 0) ad (fun _ _=>rfl)) (ar ap (pv 7) ad (fun _ _=>rfl))) (aa (aj aH (ar ap (pv 0) ad (fun _ _=>rfl)) (ar ap (pv 7) ad (fun _ _=>rfl))) af)))) (ag (ax (i:=11) xz.nd rfl (Or.inl rfl) (aj aN (aj ay (ar ap (pv 9) ad (fun _ _=>rfl)) (ar ap (pv 9) ad (fun _ _=>rfl))) (aj ay (ar ap (pv 9) ad (fun _ _=>rfl)) (ar ap (pv 9) ad (fun _ _=>rfl))))) (ag (ax (i:=12) xz.nd rfl (Or.inl rfl) (aj aN (aj ay (ar ap (pv 9) ad (fun _ _=>rfl)) (ar ap (pv 10) ad (fun _ _=>rfl))) (aj ay (ar ap (pv 9) ad (fun _ _=>rfl)) (ar ap (pv 10) ad (fun _ _=>rfl))))) (ag (aQ (eI (aC cS (aj ay (aj aH (ar ap (pv 4) ad (fun _ _=>rfl)) (aj ay (pv 6) (ar ap (pv 4) ad (fun _ _=>rfl)))) (pv 11)) (aj ay (pv 12) (ar ap (pv 4) ad (fun _ _=>rfl))) (aE _)) (dN (aC cS (aj ay (pv 12) (ar ap (pv 5) ad (fun _ _=>rfl))) (aj ay (aj aH (ar ap (pv 5) ad (fun _ _=>rfl)) (aj ay (pv 6) (ar ap (pv 5) ad (fun _ _=>rfl)))) (pv 11)) (aE _)))).pt (ag (ax (i:=13) xz.nd rfl (Or.inl rfl) (aj aH (aj ay (ar ap (pv 9) ad (fun _ _=>rfl)) (ar ap (pv 10) ad (fun _ _=>rfl))) (aj ay (ar ap (pv 9) ad (fun _ _=>rfl)) (ar ap (pv 10) ad (fun _ _=>rfl))))) (ao (aB (@bD _ _ _ _ (@aa _ _ _ _ _ (@az _ _ _ _ _ (@aa _ _ _ _ _ (aj ay (pv 13) (pv 13)) (@aa _ _ _ _ _ (pv 11) af (by rfl)) (by rfl))) af (by rfl)))))) aF) (ao (aB (bD af)))))))))))))),?_⟩;have ek:k / 1=k:=Int.ediv_one k;obtain⟨⟨e0,el⟩,ee,ke⟩:=uw k0 kn;obtain⟨pb,ab,eb,bb1,bb2⟩:=dA L k0 kn;obtain⟨pe,ae,een,be1,be2⟩:=dA L e0 el;have bk:au k≤10:=aW (by omega) (by omega);have be:au (nx qs k)≤10:=aW (by omega) (by omega);have b1:au (1:Int)≤1:=by decide
  refine⟨_,rfl,_,rfl,?_⟩;refine⟨_,rfl,_,rfl,pw,pn,k,1,nx qs k,1,rfl,ew,en,⟨aw bk (by decide),by decide,aw be (by decide),by decide⟩,?_⟩;refine⟨_,rfl,iX (decide_eq_false (by omega)) ?_⟩;refine⟨_,rfl,pw,_,_,_,rfl,rfl,SqT.of ew,rfl,_,rfl,pw,_,_,_,rfl,rfl,SqT.of ew,rfl,_,_,rfl,rfl,⟨by decide,by decide⟩,?_⟩;rw[ek];refine⟨_,rfl,_,rfl,l,_,_,_,rfl,rfl,SqL.of L.lst,ab,?_⟩;refine⟨_,rfl,_,rfl,_,_,rfl,rfl,_,rfl,l,_,rfl,.inl (SqL.of L.lst),_,_,rfl,rfl,_,_,rfl,l,_,_,_,rfl,rfl,SqL.of L.lst,ae,?_⟩;refine⟨_,rfl,pe,_,_,_,rfl,rfl,SqT.of een,rfl,_,rfl,pb,_,_,_,rfl,rfl,SqT.of eb,rfl,_,_,rfl,rfl,_,rfl,pe,_,_,_,rfl,rfl,SqT.of een,rfl,_,rfl,pb,_,_,_,rfl,rfl,SqT.of eb,rfl,_,_,rfl,rfl,sz (by simp),fun pa H1 s1 f1 n1=>?_⟩;have cc1:=s1 _ _ cc.at_;have eb1:=s1 _ _ eb;refine⟨_,rfl,pc,_,_,_,rfl,rfl,SqT.of cc1,rfl,_,rfl,pb,_,_,_,rfl,rfl,SqT.of eb1,rfl,_,_,rfl,rfl,_,rfl,pc,_,_,_,rfl,rfl,SqT.of cc1,rfl,_,rfl,pb,_,_,_,rfl,rfl,SqT.of eb1,rfl,_,_,rfl,rfl,sz (by simp),fun po H2 s2 f2 n2=>?_⟩;have f1':=s2 _ _ f1;have S2:=s1.trans s2;have w1:=aL be1 bb1;have w2:=aL be2 bb2;have o1:=aL cc.bx bb1;have o2:=aL cc.by_ bb2;refine⟨_,rfl,pa,_,_,_,rfl,rfl,SqT.of f1',rfl,_,rfl,pa,_,_,_,rfl,rfl,SqT.of f1',rfl,_,_,rfl,rfl,CM.b w1 w1 (by decide) (by decide),_,rfl,pa,_,_,_,rfl,rfl,SqT.of f1',rfl,_,rfl,pa,_,_,_,rfl,rfl,SqT.of f1',rfl,_,_,rfl,rfl,CM.b w2 w2 (by decide) (by decide),_,_,rfl,rfl,?_⟩;refine⟨_,rfl,pa,_,_,_,rfl,rfl,SqT.of f1',rfl,_,rfl,po,_,_,_,rfl,rfl,SqT.of f2,rfl,_,_,rfl,rfl,CM.b w1 o1 (by decide) (by decide),_,rfl,pa,_,_,_,rfl,rfl,SqT.of f1',rfl,_,rfl,po,_,_,_,rfl,rfl,SqT.of f2,rfl,_,_,rfl,rfl,CM.b w2 o2 (by decide) (by decide),_,_,rfl,rfl,?_⟩;have bA:=br (bits_mul w1 w1) (bits_mul w2 w2);have bB:=br (bits_mul w1 o1) (bits_mul w2 o2);have ew2:=S2 _ _ ew;have en2:=S2 _ _ en;have z1:k - k*1=0:=by omega
  have bd:au (nx qs k - k*1)≤12:=aw (aW (by omega) (by omega)) (by decide);have bz:au (k - k*1)≤12:=aw (aW (by omega) (by omega)) (by decide);have zz:(0<ftB cx cy (cnX qs k) (cnY qs k) (cnX qs (nx qs k)) (cnY qs (nx qs k))∧ftB cx cy (cnX qs k) (cnY qs k) (cnX qs (nx qs k)) (cnY qs (nx qs k))<bC (cnX qs k) (cnY qs k) (cnX qs (nx qs k)) (cnY qs (nx qs k)))↔((k - k*1)*bC (cnX qs k) (cnY qs k) (cnX qs (nx qs k)) (cnY qs (nx qs k))<ftB cx cy (cnX qs k) (cnY qs k) (cnX qs (nx qs k)) (cnY qs (nx qs k))*1∧ftB cx cy (cnX qs k) (cnY qs k) (cnX qs (nx qs k)) (cnY qs (nx qs k))*1<(nx qs k - k*1)*bC (cnX qs k) (cnY qs k) (cnX qs (nx qs k)) (cnY qs (nx qs k))):=by
   rw[z1,Int.zero_mul,Int.mul_one];rcases ee with e|e
   ·rw[show nx qs k - k*1=1 by omega,Int.one_mul]
   ·rw[show nx qs k - k*1=0 by omega,Int.zero_mul,e]
    have:ftB cx cy (cnX qs k) (cnY qs k) (cnX qs k) (cnY qs k)=0:=by unfold ftB;grind
    omega
  refine⟨_,rfl,pw,_,_,_,rfl,rfl,SqT.of ew2,rfl,_,rfl,_,rfl,pw,_,_,_,rfl,rfl,SqT.of ew2,rfl,_,_,rfl,rfl,CM.b bk b1 (by decide) (by decide),_,_,rfl,rfl,_,rfl,_,_,rfl,rfl,CM.b bz bA (by decide) (by decide),_,rfl,_,rfl,pw,_,_,_,rfl,rfl,SqT.of ew2,rfl,_,_,rfl,rfl,CM.b bB b1 (by decide) (by decide),_,_,rfl,rfl,_,rfl,aR (fun c1=>?_) (fun c1=>?_)⟩
  ·refine⟨_,rfl,_,rfl,pn,_,_,_,rfl,rfl,SqT.of en2,rfl,_,_,rfl,rfl,CM.b bB b1 (by decide) (by decide),_,rfl,pn,_,_,_,rfl,rfl,SqT.of en2,rfl,_,rfl,_,rfl,pn,_,_,_,rfl,rfl,SqT.of en2,rfl,_,_,rfl,rfl,CM.b bk b1 (by decide) (by decide),_,_,rfl,rfl,_,rfl,_,_,rfl,rfl,CM.b bd bA (by decide) (by decide),_,_,rfl,rfl,_,rfl,aR (fun c2=>?_) (fun c2=>?_)⟩
   ·have hz:=zz.mpr ⟨bK c1,bK c2⟩
    have bX:=aL (bits_mul w1 o2) (bits_mul w2 o1);refine⟨_,rfl,pa,_,_,_,rfl,rfl,SqT.of f1',rfl,_,rfl,po,_,_,_,rfl,rfl,SqT.of f2,rfl,_,_,rfl,rfl,CM.b w1 o2 (by decide) (by decide),_,rfl,pa,_,_,_,rfl,rfl,SqT.of f1',rfl,_,rfl,po,_,_,_,rfl,rfl,SqT.of f2,rfl,_,_,rfl,rfl,CM.b w2 o1 (by decide) (by decide),_,_,rfl,rfl,?_⟩;exact⟨_,rfl,_,rfl,_,_,rfl,rfl,CM.b bX bX (by decide) (by decide),_,rfl,sz (by simp),fun t H3 s3 f3 n3=>⟨sz (by simp),fun r H4 s4 f4 n4=>q r H4 (S2.trans (s3.trans s4)) (.inl ⟨hz.1,hz.2,t,f4,s4 _ _ f3⟩)⟩⟩
   ·exact⟨sz (by simp),fun r H3 s3 f3 n3=>q r H3 (S2.trans s3) (.inr ⟨fun z=>bY c2 (zz.mp z).2,f3⟩)⟩
  ·exact⟨sz (by simp),fun r H3 s3 f3 n3=>q r H3 (S2.trans s3) (.inr ⟨fun z=>bY c1 (zz.mp z).1,f3⟩)⟩
def sqE(cx cy x y:Int):Int:=(cx - x)*(cx - x)+(cy - y)*(cy - y)
def bsT(cx cy bx by_ ex ey:Int):Int:=na (bC bx by_ ex ey) (rAl cx cy bx by_ ex ey) (sqE cx cy bx by_)
def bsB(cx cy bx by_ ex ey:Int):Int:=lU (bC bx by_ ex ey) (rAl cx cy bx by_ ex ey)
theorem uQ(cx cy x y:Int):0≤sqE cx cy x y:=Int.add_nonneg (sqx _) (sqx _)
theorem kg(bx by_ ex ey:Int):0≤bC bx by_ ex ey:=Int.add_nonneg (sqx _) (sqx _)
theorem nS{z:Int}(h:z*z=0):z=0:=by
 rcases Int.mul_eq_zero.mp h with h|h <;> exact h
theorem uf{cx cy bx by_ ex ey:Int}(h:bC bx by_ ex ey=0):rAl cx cy bx by_ ex ey=0:=by
 unfold bC at h;have a:=sqx (ex - bx);have b:=sqx (ey - by_);have a1:=nS (z:=ex - bx) (by omega);have b1:=nS (z:=ey - by_) (by omega);unfold rAl;rw[a1,b1];omega
theorem sE(cx cy bx by_ ex ey:Int):bC bx by_ ex ey - 2*rAl cx cy bx by_ ex ey+sqE cx cy bx by_=sqE cx cy ex ey:=by unfold bC rAl sqE;grind
theorem wO{cx cy bx by_ ex ey:Int}(h:0<ftB cx cy bx by_ ex ey∧ftB cx cy bx by_ ex ey<bC bx by_ ex ey):bsT cx cy bx by_ ex ey=ftX cx cy bx by_ ex ey*ftX cx cy bx by_ ex ey∧bsB cx cy bx by_ ex ey=bC bx by_ ex ey:=by
 rw[rC]at h;unfold bsT bsB na lU;rw[if_neg (by omega),if_neg (by omega),if_neg (by omega),if_neg (by omega)];refine⟨?_,rfl⟩;unfold bC rAl sqE ftX
 grind
theorem vH{cx cy bx by_ ex ey m:Int}(h:¬(0<ftB cx cy bx by_ ex ey∧ftB cx cy bx by_ ex ey<bC bx by_ ex ey))(mm:m=sqE cx cy bx by_∨m=sqE cx cy ex ey)(m1:m≤sqE cx cy bx by_)(m2:m≤sqE cx cy ex ey):bsT cx cy bx by_ ex ey=m∧bsB cx cy bx by_ ex ey=1:=by
 rw[rC]at h;have e:=sE cx cy bx by_ ex ey;have n:=kg bx by_ ex ey;have z:=uf (cx:=cx) (cy:=cy) (bx:=bx) (by_:=by_) (ex:=ex) (ey:=ey);unfold bsT bsB na lU;generalize bC bx by_ ex ey=A at *;generalize rAl cx cy bx by_ ex ey=B at *;generalize sqE cx cy bx by_=C at *;generalize sqE cx cy ex ey=D at *
 by_cases h1:A=0∨B≤0
 ·rw[if_pos h1,if_pos h1]
  refine⟨?_,rfl⟩;rcases h1 with h1|h1
  ·have:=z h1
   omega
  ·omega
 ·rw[if_neg h1,if_neg h1]
  by_cases h2:B≥A
  ·rw[if_pos h2,if_pos h2]
   exact⟨by omega,rfl⟩
  ·exact absurd ⟨by omega,by omega⟩ h
inductive BO (vs:List V) (H:Hp) (Q:VK) (x_3:XK):Prop
 | mk:∀(pc l:Addr) (cx cy:Int) (qs:Crn) (k:Int),(vs = [.ref pc,.ref l,.int k])->(Cn H pc cx cy)->(LineM H l qs)->((0≤k∧k<(qs.length:Int)∧qs.length≤100))->(∀(p:Addr) (t u:Int) (H':Hp),Same H H'->H' p=some (.tup [.int t,.int u])->ze (bsT cx cy (cnX qs k) (cnY qs k) (cnX qs (nx qs k)) (cnY qs (nx qs k))) (bsB cx cy (cnX qs k) (cnY qs k) (cnX qs (nx qs k)) (cnY qs (nx qs k))) t u->0≤t->au t≤208->au u≤104->Q (.ref p) H')->BO vs H Q x_3
theorem yi:xo ["corner","line","k","begin","end","foot","squares"] ["corner","line","k"] (ai (top 75)):=smk
theorem jB(zx:Df K mg "_law_beside" (top 75))(zW:Fn P w K mg base "_law_foot" ["corner","line","was","now"] 2 CY)(xG:Fn P w K mg base "_law_lowest" ["top","bottom"] 2 BL)(T:Txt mg):Fn P w K mg base "_law_beside" ["corner","line","k"] 3 BO:=by
 refine zx.fn yi (fun _ _ _ _ _ _ us hl=>by obtain⟨_,_,_,rfl⟩:=g9 hl;rfl) (fun vs H Q E h=>?_) (fun f cdv A outer s H vs Q E hr h=>?_)
 ·obtain⟨pc,l,cx,cy,qs,k,rfl,_⟩:=h
  rfl
 ·obtain⟨pc,l,cx,cy,qs,k,rfl,cc,L,⟨k0,kn,n100⟩,q⟩:=h
  have CN:zC (a7 CX0 P w K mg base ["corner","line","k","begin","end","foot","squares"] "_law_beside" (ai (top 75)) f cdv A outer s H E).nox (fY ((aJ (top 75)).getD 3 (.Pass ⟨0,0,0,0⟩))) [("corner",s.heap.objs.size+1)] "spot" [("corner",0)] :=
   ⟨by rfl,rfl,by decide +kernel,by decide +kernel,rfl,(fun p hp=>by simp only[List.mem_cons,List.not_mem_nil,or_false]at hp;rcases hp with rfl;rfl),by rfl,by decide +kernel,(fun p hp=>by simp only[List.mem_cons,List.not_mem_nil,or_false]at hp;rcases hp with rfl;exact⟨rfl,rfl,.inr (.inl rfl),rfl,rfl⟩),⟨rfl,rfl⟩,rfl⟩
  refine⟨_,(ag (ax (i:=3) yi.nd rfl (Or.inl rfl) (ar aO (pv 1) (pv 2) (fun _ _=>rfl))) (ag (ax (i:=4) yi.nd rfl (Or.inl rfl) (ar aO (pv 1) (aG (dC rfl) (by rfl) T.z_min fN (aa (aj aN (pv 2) ad) (aa (aj aH (aG aI (by rfl) T.z_len bE (aa (pv 1) af)) ad) af))) (fun _ _=>rfl))) (ag (ax (i:=5) yi.nd rfl (Or.inl rfl) (aA zW (hr.mono (by decide)) (by rfl) (aa (pv 0) (aa (pv 1) (aa (az (aa (pv 2) (aa ad af))) (aa (az (aa (aG (dC rfl) (by rfl) T.z_min fN (aa (aj aN (pv 2) ad) (aa (aj aH (aG aI (by rfl) T.z_len bE (aa (pv 1) af)) ad) af))) (aa ad af))) af)))))) (ag (eJ (j:=6) rfl CN yi.nd rfl rfl (uX (az (aa (pv 3) (aa (pv 4) af)))) (fun fp s₀ H₀=>(aj aN (aj ay (aj aH (ar (cp (K:=K) rfl) (pv 1) ad (fun _ _=>rfl)) (ar (cp (K:=K) rfl) (pv 0) ad (fun _ _=>rfl))) (aj aH (ar (cp (K:=K) rfl) (pv 1) ad (fun _ _=>rfl)) (ar (cp (K:=K) rfl) (pv 0) ad (fun _ _=>rfl)))) (aj ay (aj aH (ar (cp (K:=K) rfl) (pv 1) ad (fun _ _=>rfl)) (ar (cp (K:=K) rfl) (pv 0) ad (fun _ _=>rfl))) (aj aH (ar (cp (K:=K) rfl) (pv 1) ad (fun _ _=>rfl)) (ar (cp (K:=K) rfl) (pv 0) ad (fun _ _=>rfl))))))) (ag (aQ (aC (u9 hr.units10) (pv 5) (bD af) (aE _)) (ao (aB (aA xG (hr.mono (by decide)) (by rfl) (aa (ar ap (ar aO (pv 5) ad (fun _ _=>rfl)) ad (fun _ _=>rfl)) (aa (ar ap (ar aO (pv 5) ad (fun _ _=>rfl)) ad (fun _ _=>rfl)) af))))) aF) (ao (aB (az (aa (aG (qg rfl) (by rfl) T.z_min fN (aa (pv 6) af)) (aa ad af)))))))))),?_⟩;obtain⟨⟨e0,el⟩,ee,ke⟩:=uw k0 kn;obtain⟨pb,ab,eb,bb1,bb2⟩:=dA L k0 kn;obtain⟨pe,ae,een,be1,be2⟩:=dA L e0 el;refine⟨_,rfl,_,rfl,l,_,_,_,rfl,rfl,SqL.of L.lst,ab,?_⟩;refine⟨_,rfl,_,rfl,_,_,rfl,rfl,_,rfl,l,_,rfl,.inl (SqL.of L.lst),_,_,rfl,rfl,_,_,rfl,l,_,_,_,rfl,rfl,SqL.of L.lst,ae,?_⟩;refine⟨_,rfl,_,rfl,_,rfl,sz (by simp),fun pw H1 s1 f1 n1=>?_⟩;refine⟨_,rfl,_,_,rfl,rfl,_,rfl,l,_,rfl,.inl (SqL.of (L.mono s1).lst),_,_,rfl,rfl,_,_,rfl,sz (by simp),fun pn H2 s2 f2 n2=>?_⟩;have S2:=s1.trans s2;refine⟨pc,l,pw,pn,cx,cy,qs,k,rfl,cc.mono S2,L.mono S2,⟨s2 _ _ f1,f2⟩,⟨k0,kn,n100⟩,fun ft H3 s3 ftr=>?_⟩;have S3:=S2.trans s3;refine⟨_,rfl,_,rfl,sz (by simp),fun pt H4 s4 f4 n4=>?_⟩;have S4:=S3.trans s4;refine⟨pt,rfl,⟨_,SqT.of f4⟩,tW (SqT.of f4) (by simp) (fun i v H'=>∃y:Int,v = .int y∧((i=0∧y=sqE cx cy (cnX qs k) (cnY qs k))∨(i=1∧y=sqE cx cy (cnX qs (nx qs k)) (cnY qs (nx qs k))))) (fun _ _ _ _ _ h=>h) ?_ ?_⟩
  ·intro i x H5 Kc hx s5 kk
   obtain⟨a,x1,y1,rfl,ha,b1,b2,hi⟩:∃(a:Addr) (x1 y1:Int),x = .ref a∧H4 a=some (.tup [.int x1,.int y1])∧au x1≤50∧au y1≤50∧((i=0∧sqE cx cy x1 y1=sqE cx cy (cnX qs k) (cnY qs k))∨(i=1∧sqE cx cy x1 y1=sqE cx cy (cnX qs (nx qs k)) (cnY qs (nx qs k)))):=by
    match i,hx with
    | 0,hx=>cases hx;exact⟨pb,_,_,rfl,S4 _ _ eb,bb1,bb2,.inl ⟨rfl,rfl⟩⟩
    | 1,hx=>cases hx;exact⟨pe,_,_,rfl,S4 _ _ een,be1,be2,.inr ⟨rfl,rfl⟩⟩
    | n+2,hx=>simp at hx
   have c5:=s5 _ _ (S4 _ _ cc.at_);have a5:=s5 _ _ ha;have w1:=aL cc.bx b1;have w2:=aL cc.by_ b2;exact⟨_,rfl,pc,_,_,_,rfl,rfl,SqT.of c5,rfl,_,rfl,a,_,_,_,rfl,rfl,SqT.of a5,rfl,_,_,rfl,rfl,_,rfl,pc,_,_,_,rfl,rfl,SqT.of c5,rfl,_,rfl,a,_,_,_,rfl,rfl,SqT.of a5,rfl,_,_,rfl,rfl,_,_,rfl,rfl,CM.b w1 w1 (by decide) (by decide),_,rfl,pc,_,_,_,rfl,rfl,SqT.of c5,rfl,_,rfl,a,_,_,_,rfl,rfl,SqT.of a5,rfl,_,_,rfl,rfl,_,rfl,pc,_,_,_,rfl,rfl,SqT.of c5,rfl,_,rfl,a,_,_,_,rfl,rfl,SqT.of a5,rfl,_,_,rfl,rfl,_,_,rfl,rfl,CM.b w2 w2 (by decide) (by decide),_,_,rfl,rfl,kk _ H5 (Same.refl _) ⟨_,rfl,hi⟩⟩
  ·intro lr ys H5 nl s5 f5 hly hr
   obtain⟨ns,rfl,hns⟩:∃ns:List Int,ys=ns.map V.int∧ns = [sqE cx cy (cnX qs k) (cnY qs k),sqE cx cy (cnX qs (nx qs k)) (cnY qs (nx qs k))]:=by
    match ys,hly,hr with
    | [u,v],_,hr =>
     obtain⟨y0,rfl,h0⟩:=hr 0 _ rfl;obtain⟨y1,rfl,h1⟩:=hr 1 _ rfl;refine⟨[y0,y1],rfl,?_⟩;rcases h0 with⟨_,h0⟩|⟨h0,_⟩
     ·rcases h1 with⟨h1,_⟩|⟨_,h1⟩
      ·exact absurd h1 (by decide)
      ·rw[h0,h1]
     ·exact absurd h0 (by decide)
   refine⟨_,rfl,sz (by simp),fun e6 H6 s6 f6 n6=>?_⟩;have S6:=S4.trans (s5.trans s6);have S36:=s4.trans (s5.trans s6);rcases ftr with⟨h1,h2,t,g1,g2⟩|⟨h1,g1⟩
   ·have g1':=S36 _ _ g1
    have g2':=S36 _ _ g2;refine⟨_,_,Rp.l1 (n:=8) g1' (Rp.t2 (n:=7) g2' .int .int),Rp.l0 (n:=8) f6,?_⟩;refine⟨_,rfl,iw (by rfl) ?_⟩;have n:=kg (cnX qs k) (cnY qs k) (cnX qs (nx qs k)) (cnY qs (nx qs k));have w1:=aL be1 bb1;have w2:=aL be2 bb2;have o1:=aL cc.bx bb1;have o2:=aL cc.by_ bb2;have bA:au (bC (cnX qs k) (cnY qs k) (cnX qs (nx qs k)) (cnY qs (nx qs k)))≤103:=br (bits_mul w1 w1) (bits_mul w2 w2);have bX:au (ftX cx cy (cnX qs k) (cnY qs k) (cnX qs (nx qs k)) (cnY qs (nx qs k)))≤103:=aL (bits_mul w1 o2) (bits_mul w2 o1);obtain⟨eT,eB⟩:=wO ⟨h1,h2⟩;rw[eT,eB]at q;refine⟨_,rfl,ft,_,_,_,rfl,rfl,SqL.of g1',rfl,t,_,_,_,rfl,rfl,SqT.of g2',rfl,_,rfl,ft,_,_,_,rfl,rfl,SqL.of g1',rfl,t,_,_,_,rfl,rfl,SqT.of g2',rfl,_,_,rfl,⟨sqx _,by omega⟩,aw bA (by decide),fun p t' u' H7 fr t1 u1 t0 s7 f7=>?_⟩;exact q p t' u' H7 (S6.trans s7) f7 fr t0 (aw (bQ t0 t1 (bits_mul bX bX)) (by decide)) (aw (bQ (by have:=fr.low.pos;omega) u1 bA) (by decide))
   ·refine⟨_,_,Rp.l0 (n:=8) (S36 _ _ g1),Rp.l0 (n:=8) f6,?_⟩
    refine⟨_,rfl,iX (by rfl) ?_⟩;refine⟨_,rfl,lr,ns,rfl,SqL.of (s6 _ _ f5),by rw[hns];simp,fun m mm ml=>⟨sz (by simp),fun p H7 s7 f7 n7=>?_⟩⟩;rw[hns]at mm ml;simp only[List.mem_cons,List.not_mem_nil,or_false]at mm;obtain⟨eT,eB⟩:=vH h1 mm (ml _ (by simp)) (ml _ (by simp));rw[eT,eB]at q;have m0:0≤m:=by rcases mm with rfl|rfl <;> exact uQ _ _ _ _
    have bm:au m≤103:=by
     rcases mm with rfl|rfl
     ·exact br (bits_mul (aL cc.bx bb1) (aL cc.bx bb1)) (bits_mul (aL cc.by_ bb2) (aL cc.by_ bb2))
     ·exact br (bits_mul (aL cc.bx be1) (aL cc.bx be1)) (bits_mul (aL cc.by_ be2) (aL cc.by_ be2))
    exact q p m 1 H7 (S6.trans s7) f7 ⟨⟨by decide,Int.gcd_one⟩,rfl⟩ m0 (aw bm (by decide)) (by decide)
inductive BY (vs:List V) (H:Hp) (Q:VK) (x_3:XK):Prop
 | mk:∀(p l1 l2:Addr) (n:Int) (qs rs:Crn),(vs = [.ref p,.ref l1,.ref l2])->(H p=some (.lst [.int n]))->(LineM H l1 qs)->(LineM H l2 rs)->((l1≠p∧l2≠p))->((1≤qs.length∧qs.length≤10))->((1≤rs.length∧rs.length≤10))->(∀(z:Addr) (a b:Int) (H':Hp),Pl p H H'->Sq H' z a b->AW a b->0≤a->Q (.ref z) H')->BY vs H Q x_3
theorem xF:xo ["pool","one","other","sort","mine","k","found"] ["pool","one","other"] (ai (top 76)):=smk
theorem jx(zr:Df K mg "_law_square" (top 76))(xp:Fn P w K mg base "_law_take" ["pool","many"] 1 An)(xM:Fn P w K mg base "_law_beside" ["corner","line","k"] 3 BO)(xG:Fn P w K mg base "_law_lowest" ["top","bottom"] 2 BL)(T:Txt mg):Fn P w K mg base "_law_square" ["pool","one","other"] 4 BY:=by
 refine zr.fn xF (fun _ _ _ _ _ _ us hl=>by obtain⟨_,_,_,rfl⟩:=g9 hl;rfl) (fun vs H Q E h=>?_) (fun f cdv A outer s H vs Q E hr h=>?_)
 ·obtain⟨p,l1,l2,n,qs,rs,rfl,_⟩:=h
  rfl
 ·obtain⟨p,l1,l2,n,qs,rs,rfl,ep,La,Lb,⟨n1p,n2p⟩,⟨h1,h10⟩,⟨g1,g10⟩,q⟩:=h
  have hlq:(qs.map fun (q:Addr×Int×Int)=>V.ref q.1).length=qs.length:=List.length_map _;have hlr:(rs.map fun (q:Addr×Int×Int)=>V.ref q.1).length=rs.length:=List.length_map _;have e50:(10:Int)^(50:Int).toNat=100000000000000000000000000000000000000000000000000:=by decide +kernel
  have e20:(10:Int)^(20:Int).toNat=100000000000000000000:=by decide +kernel
  have R:∃u:TS,PSs (a7 CX0 P w K mg base ["pool","one","other","sort","mine","k","found"] "_law_square" (ai (top 76)) f cdv A outer s H E).nox ((aJ (top 76)).drop 9) u∧∀(H1:Hp) (so:Int) (mv kv:Option V) (z:Addr) (t v:Int),Pl p H H1->H1 z=some (.tup [.int t,.int v])->AW t v->0≤t->au t≤208->au v≤104->u { nx:=fun _ H'=>Q .non H',rt:=Q } [some (.ref p),some (.ref l1),some (.ref l2),some (.int so),mv,kv,some (.ref z)] H1:=by
   refine⟨_,(ag (aQ (aC bR (pv 3) ad (aE _)) (ao (ax (i:=6) xF.nd rfl (Or.inl rfl) (aA xG (hr.mono (by decide)) (by rfl) (aa (aG (fm rfl) (by rfl) T.z_max kT (aa ad (aa (aj aH (aj aN (aj ay (ar ap (pv 6) ad (fun _ _=>rfl)) ad) (aA xp (hr.mono (by decide)) (by rfl) (aa (pv 0) (aa ad af)))) ad) af))) (aa (aj ay (ar ap (pv 6) ad (fun _ _=>rfl)) ad) af))))) aF) (ao (aB (pv 6)))),fun H1 so mv kv z t v P1 ez lw t0 bt bv=>?_⟩;obtain⟨n1,e1⟩:=P1.now;have b1:au (1000:Int)≤10:=by decide
   have hv:=lw.pos;refine⟨_,rfl,rfl,_,rfl,aR (fun c=>?_) (fun c=>?_)⟩
   ·refine⟨_,rfl,z,_,_,_,rfl,rfl,SqT.of ez,rfl,_,_,rfl,rfl,CM.b bt b1 (by decide) (by decide),_,rfl,p,_,_,rfl,e1,⟨by decide,by decide⟩,fun r2 H2 a2 b2 P2=>?_⟩
    have ez2:=P2.t _ _ ez;refine⟨_,_,rfl,rfl,_,_,rfl,rfl,_,_,rfl,_,rfl,z,_,_,_,rfl,rfl,SqT.of ez2,rfl,_,_,rfl,rfl,CM.b bv b1 (by decide) (by decide),?_⟩;have hM:0≤(if t*1000+r2 - 1>0 then t*1000+r2 - 1 else 0)∧(if t*1000+r2 - 1>0 then t*1000+r2 - 1 else 0)≤t*1000+r2:=by split <;> omega
    generalize (if t*1000+r2 - 1>0 then t*1000+r2 - 1 else 0)=M at hM
    have bM:au M≤219:=bQ hM.1 hM.2 (br (bits_mul bt b1) (aw (aW (by omega) (by omega)) (by decide)));have bV:au (v*1000)≤114:=bits_mul bv b1;refine⟨M,v*1000,rfl,⟨hM.1,by omega⟩,aw bV (by decide),fun z' t' v' H3 fr t1 v1 t0' s3 f3=>⟨_,rfl,?_⟩⟩;exact q z' t' v' H3 ((P1.trans P2).grow s3) ⟨f3,aw (bQ t0' t1 bM) (by decide),aw (bQ (by have:=fr.low.pos;omega) v1 bV) (by decide)⟩ fr.low t0'
   ·exact⟨_,rfl,q z t v H1 P1 ⟨ez,aw bt (by decide),aw bv (by decide)⟩ lw t0⟩
  obtain⟨u,hu,hR⟩:=R;refine⟨_,(ag (ax (i:=3) xF.nd rfl (Or.inl rfl) (aA xp (hr.mono (by decide)) (by rfl) (aa (pv 0) (aa ad af)))) (ag (ax (i:=4) xF.nd rfl (Or.inl rfl) (ar aO (pv 1) (aA xp (hr.mono (by decide)) (by rfl) (aa (pv 0) (aa (aG aI (by rfl) T.z_len bE (aa (pv 1) af)) af))) (fun _ _=>rfl))) (ag (ax (i:=5) xF.nd rfl (Or.inl rfl) (aA xp (hr.mono (by decide)) (by rfl) (aa (pv 0) (aa (aG aI (by rfl) T.z_len bE (aa (pv 2) af)) af)))) (ag (aQ (aC bR (pv 3) ad (aE _)) (ao (aB (az (aa ad (aa ad af))))) aF) (ag (aQ (aC bR (pv 3) ad (aE _)) (ao (aB (aA xG (hr.mono (by decide)) (by rfl) (aa (aA xp (hr.mono (by decide)) (by rfl) (aa (pv 0) (aa ad af))) (aa (aj aN ad (aA xp (hr.mono (by decide)) (by rfl) (aa (pv 0) (aa ad af)))) af))))) aF) (ag (aQ (aC bR (pv 3) ad (aE _)) (ao (aB (aA xG (hr.mono (by decide)) (by rfl) (aa (aA xp (hr.mono (by decide)) (by rfl) (aa (pv 0) (aa (aj dG ad ad) af))) (aa (aj aN ad (aA xp (hr.mono (by decide)) (by rfl) (aa (pv 0) (aa (aj dG ad ad) af)))) af))))) aF) (ag (aQ (aC cS (pv 3) ad (aE _)) (ag (ax (i:=6) xF.nd rfl (Or.inl rfl) (aj aN (aj ay (aj aH (ar ap (pv 4) ad (fun _ _=>rfl)) (ar ap (ar aO (pv 2) (pv 5) (fun _ _=>rfl)) ad (fun _ _=>rfl))) (aj aH (ar ap (pv 4) ad (fun _ _=>rfl)) (ar ap (ar aO (pv 2) (pv 5) (fun _ _=>rfl)) ad (fun _ _=>rfl)))) (aj ay (aj aH (ar ap (pv 4) ad (fun _ _=>rfl)) (ar ap (ar aO (pv 2) (pv 5) (fun _ _=>rfl)) ad (fun _ _=>rfl))) (aj aH (ar ap (pv 4) ad (fun _ _=>rfl)) (ar ap (ar aO (pv 2) (pv 5) (fun _ _=>rfl)) ad (fun _ _=>rfl)))))) (ao (aB (az (aa (pv 6) (aa ad af)))))) aF) (ag (ax (i:=6) xF.nd rfl (Or.inl rfl) (aA xM (hr.mono (by decide)) (by rfl) (aa (pv 4) (aa (pv 2) (aa (pv 5) af))))) (ag (aQ (aC bR (pv 3) ad (aE _)) (ao (ax (i:=6) xF.nd rfl (Or.inl rfl) (aA xM (hr.mono (by decide)) (by rfl) (aa (ar aO (pv 2) (pv 5) (fun _ _=>rfl)) (aa (pv 1) (aa (aA xp (hr.mono (by decide)) (by rfl) (aa (pv 0) (aa (aG aI (by rfl) T.z_len bE (aa (pv 1) af)) af))) af)))))) aF) hu))))))))),?_⟩;refine⟨_,rfl,p,_,_,rfl,ep,⟨by decide,by decide⟩,fun so H1 a1 b1 P1=>?_⟩;obtain⟨n1,e1⟩:=P1.now;refine⟨_,rfl,_,rfl,_,rfl,l1,_,rfl,.inl (SqL.of (P1.line La n1p).lst),p,_,_,rfl,e1,⟨by rw[hlq];omega,by rw[hlq];exact aw (aW (by omega) (by omega)) (by decide)⟩,fun i H2 a2 b2 P2=>?_⟩;rw[hlq]at b2;have P12:=P1.trans P2;obtain⟨n2,e2⟩:=P12.now;obtain⟨pm,am,em,bm1,bm2⟩:=dA (P12.line La n1p) a2 b2;refine⟨l1,_,_,_,rfl,rfl,SqL.of (P12.line La n1p).lst,am,?_⟩;refine⟨_,rfl,_,rfl,l2,_,rfl,.inl (SqL.of (P12.line Lb n2p).lst),p,_,_,rfl,e2,⟨by rw[hlr];omega,by rw[hlr];exact aw (aW (by omega) (by omega)) (by decide)⟩,fun k H3 a3 b3 P3=>?_⟩;rw[hlr]at b3;have P13:=P12.trans P3;obtain⟨n3,e3⟩:=P13.now;have L3:=P13.line La n1p;have R3:=P13.line Lb n2p;obtain⟨pk,ak,ek,bk1,bk2⟩:=dA R3 a3 b3;have em3:=P3.t _ _ em;refine⟨_,rfl,rfl,_,rfl,aR (fun c=>?_) (fun c0=>?_)⟩
  ·exact⟨sz (by simp),fun z H4 s4 f4 n4=>q z 0 1 H4 (P13.grow s4) ⟨f4,by decide,by decide⟩ ⟨by decide,by decide⟩ (by decide)⟩
  refine⟨_,rfl,rfl,_,rfl,aR (fun c=>?_) (fun c1=>?_)⟩
  ·refine⟨_,rfl,p,_,_,rfl,e3,⟨by decide,by decide⟩,fun r4 H4 a4 b4 P4=>?_⟩
   have P14:=P13.trans P4;obtain⟨n4,e4⟩:=P14.now;refine⟨_,rfl,p,_,_,rfl,e4,⟨by decide,by decide⟩,fun r5 H5 a5 b5 P5=>⟨_,_,rfl,rfl,?_⟩⟩;refine⟨_,_,rfl,⟨a4,by omega⟩,aw (aW (by omega) (by omega)) (by decide),fun z t v H6 fr t1 v1 t0 s6 f6=>?_⟩;exact q z t v H6 ((P14.trans P5).grow s6) ⟨f6,aw (aW (by omega) (by omega)) (by decide),aw (aW (by have:=fr.low.pos;omega) (by omega)) (by decide)⟩ fr.low t0
  refine⟨_,rfl,rfl,_,rfl,aR (fun c=>?_) (fun c2=>?_)⟩
  ·refine⟨_,rfl,_,_,rfl,rfl,⟨by decide,by decide,by decide⟩,p,_,_,rfl,e3,⟨by decide,by decide⟩,fun r4 H4 a4 b4 P4=>?_⟩
   have P14:=P13.trans P4;obtain⟨n4,e4⟩:=P14.now;refine⟨_,rfl,_,_,rfl,rfl,⟨by decide,by decide,by decide⟩,p,_,_,rfl,e4,⟨by decide,by decide⟩,fun r5 H5 a5 b5 P5=>⟨_,_,rfl,rfl,?_⟩⟩;rw[e50]at b4;rw[e20]at b5;have x4:au r4≤167:=cE (n:=167) (by show _<187072209578355573530071658587684226515959365500928;omega);have x5:au (1+r5)≤67:=cE (n:=67) (by show _<147573952589676412928;omega);refine⟨_,_,rfl,⟨a4,by omega⟩,aw x5 (by decide),fun z t v H6 fr t1 v1 t0 s6 f6=>?_⟩;exact q z t v H6 ((P14.trans P5).grow s6) ⟨f6,aw (bQ t0 t1 x4) (by decide),aw (bQ (by have:=fr.low.pos;omega) v1 x5) (by decide)⟩ fr.low t0
  refine⟨_,rfl,_,_,rfl,rfl,_,rfl,aR (fun c=>?_) (fun c3=>?_)⟩
  ·have w1:=aL bm1 bk1
   have w2:=aL bm2 bk2;refine⟨_,rfl,pm,_,_,_,rfl,rfl,SqT.of em3,rfl,_,rfl,_,rfl,l2,_,_,_,rfl,rfl,SqL.of R3.lst,ak,pk,_,_,_,rfl,rfl,SqT.of ek,rfl,_,_,rfl,rfl,_,rfl,pm,_,_,_,rfl,rfl,SqT.of em3,rfl,_,rfl,_,rfl,l2,_,_,_,rfl,rfl,SqL.of R3.lst,ak,pk,_,_,_,rfl,rfl,SqT.of ek,rfl,_,_,rfl,rfl,_,_,rfl,rfl,CM.b w1 w1 (by decide) (by decide),_,rfl,pm,_,_,_,rfl,rfl,SqT.of em3,rfl,_,rfl,_,rfl,l2,_,_,_,rfl,rfl,SqL.of R3.lst,ak,pk,_,_,_,rfl,rfl,SqT.of ek,rfl,_,_,rfl,rfl,_,rfl,pm,_,_,_,rfl,rfl,SqT.of em3,rfl,_,rfl,_,rfl,l2,_,_,_,rfl,rfl,SqL.of R3.lst,ak,pk,_,_,_,rfl,rfl,SqT.of ek,rfl,_,_,rfl,rfl,_,_,rfl,rfl,CM.b w2 w2 (by decide) (by decide),_,_,rfl,rfl,?_⟩;have bs:=br (bits_mul w1 w1) (bits_mul w2 w2);exact⟨_,rfl,sz (by simp),fun z H4 s4 f4 n4=>q z _ 1 H4 (P13.grow s4) ⟨f4,aw bs (by decide),by decide⟩ ⟨by decide,Int.gcd_one⟩ (Int.add_nonneg (sqx _) (sqx _))⟩
  refine⟨_,rfl,_,rfl,_,rfl,pm,l2,_,_,rs,k,rfl,⟨em3,bm1,bm2⟩,R3,⟨a3,b3,by omega⟩,fun z t v H4 s4 f4 fr t0 bt bv=>?_⟩;refine⟨_,rfl,rfl,_,rfl,aR (fun c=>?_) (fun c4=>?_)⟩
  ·have P14:=P13.grow s4
   obtain⟨n4,e4⟩:=P14.now;refine⟨_,rfl,_,rfl,l2,_,_,_,rfl,rfl,SqL.of (R3.mono s4).lst,ak,_,rfl,_,rfl,_,rfl,l1,_,rfl,.inl (SqL.of (L3.mono s4).lst),p,_,_,rfl,e4,⟨by rw[hlq];omega,by rw[hlq];exact aw (aW (by omega) (by omega)) (by decide)⟩,fun j H5 a5 b5 P5=>?_⟩;rw[hlq]at b5;exact⟨pk,l1,_,_,qs,j,rfl,⟨P5.t _ _ (s4 _ _ ek),bk1,bk2⟩,P5.line (L3.mono s4) n1p,⟨a5,b5,by omega⟩,fun z' t' v' H6 s6 f6 fr' t0' bt' bv'=>hR H6 so _ _ z' t' v' ((P14.trans P5).grow s6) f6 fr'.low t0' bt' bv'⟩
  ·exact hR H4 so _ _ z t v (P13.grow s4) f4 fr.low t0 bt bv
theorem oH{cx cy bx by_ ex ey a b:Int}(hb:0<b):(cH cx cy bx by_ ex ey a b 0).isSome = !decide (a*bsB cx cy bx by_ ex ey<bsT cx cy bx by_ ex ey*b):=by
 have nn:∀x:Int,sg x<0↔x<0:=fun x=>by
  unfold sg
  split
  ·omega
  ·split <;> omega
 have key:pwN cx cy bx by_ ex ey a b 0=decide (a*bsB cx cy bx by_ ex ey<bsT cx cy bx by_ ex ey*b):=by
  by_cases h:[bx,by_] = [ex,ey]
  ·have h1:bx=ex:=by injection h
   have h2:by_=ey:=by injection h with _ h;injection h
   subst h1 h2;have e0:bC bx by_ bx by_=0:=by unfold bC;rw[Int.sub_self,Int.sub_self];rfl
   unfold pwN bsB bsT na lU;rw[if_pos rfl,if_pos (.inl e0),if_pos (.inl e0),Int.mul_one];unfold lo sqE;rw[show(bx - cx)*(bx - cx)+(by_ - cy)*(by_ - cy)=(cx - bx)*(cx - bx)+(cy - by_)*(cy - by_) by grind];have:=nn (a - ((cx - bx)*(cx - bx)+(cy - by_)*(cy - by_))*b);rw[Bool.eq_iff_iff,Bool.not_eq_true',decide_eq_false_iff_not,decide_eq_true_eq];omega
  ·have g:=(oC (cx:=cx) (cy:=cy) (x:=a) h hb).none_iff
   unfold pwN;rw[if_neg h,Bool.eq_iff_iff,Bool.or_eq_true,Bool.or_eq_true,decide_eq_true_eq,decide_eq_true_eq,decide_eq_true_eq,decide_eq_true_eq];exact g
 unfold cH;rw[key];cases decide (a*bsB cx cy bx by_ ex ey<bsT cx cy bx by_ ex ey*b) <;> rfl
theorem t5(cx cy bx by_ ex ey:Int):0<bsB cx cy bx by_ ex ey:=by
 have:=kg bx by_ ex ey;unfold bsB lU
 split
 ·decide
 ·split
  ·decide
  ·omega
theorem r9{T B t u a b:Int}(fr:ze T B t u)(hB:0<B):decide (t*b>a*u)=decide (a*B<T*b):=by
 have hu:=fr.low.pos;have e:=fr.eq;have e1:B*(t*b)=u*(T*b):=by
  rw[show B*(t*b)=t*B*b by grind,<- e]
  grind
 have e2:B*(a*u)=u*(a*B):=by grind
 rw[Bool.eq_iff_iff,decide_eq_true_eq,decide_eq_true_eq];constructor
 ·intro h
  have:=Int.mul_lt_mul_of_pos_left h hB;rw[e1,e2]at this;exact Int.lt_of_mul_lt_mul_left this (by omega)
 ·intro h
  have:=Int.mul_lt_mul_of_pos_left h hu;rw[<- e1,<- e2]at this;exact Int.lt_of_mul_lt_mul_left this (by omega)
inductive B8 (vs:List V) (H:Hp) (Q:VK) (x_3:XK):Prop
 | mk:∀(pc l ps:Addr) (cx cy:Int) (qs:Crn) (k a b:Int),(vs = [.ref pc,.ref l,.int k,.ref ps])->(Cn H pc cx cy)->(LineM H l qs)->((0≤k∧k+1<(qs.length:Int)∧qs.length≤100))->((Sq H ps a b∧0<b))->(∀H',Same H H'->Q (.bl (cH cx cy (cnX qs k) (cnY qs k) (cnX qs (k+1)) (cnY qs (k+1)) a b 0).isSome) H')->B8 vs H Q x_3
def nb1(c:Prop)[Decidable c](o:Bool)(x y:Int):List (Int×Int):=if c∧o=true then [(x,y)] else []
def nbs(G:GF)(n m i j:Int):List (Int×Int):=nb1 (i>0) (G 0 i j).isSome (i - 1) j++nb1 (j>0) (G 1 i j).isSome i (j - 1)++nb1 (i+2<n) (G 0 (i+1) j).isSome (i+1) j++nb1 (j+2<m) (G 1 i (j+1)).isSome i (j+1)
inductive C0 (vs:List V) (H:Hp) (Q:VK) (x_3:XK):Prop
 | mk:∀(l1 l2 ps:Addr) (qs rs:Crn) (i j a b:Int),(vs = [.ref l1,.ref l2,.int i,.int j,.ref ps])->(LineM H l1 qs)->(LineM H l2 rs)->((Sq H ps a b∧0<b))->((0≤i∧i+1<(qs.length:Int)∧qs.length≤100))->((0≤j∧j+1<(rs.length:Int)∧rs.length≤100))->(∀(r:Addr) (cs:List (Addr×Int×Int)) (H':Hp),Same H H'->H r=none->H' r=some (.lst (cs.map fun q=>V.ref q.1))->PsL H' cs->cs.map (·.2)=nbs (bo qs rs a b 0) qs.length rs.length i j->Q (.ref r) H')->C0 vs H Q x_3
theorem BB:xo ["corner","line","k","square"] ["corner","line","k","square"] (ai (top 77)):=smk
theorem mf(Ae:Df K mg "_law_open" (top 77))(xM:Fn P w K mg base "_law_beside" ["corner","line","k"] 3 BO)(xH:Fn P w K mg base "_law_above" ["one","other"] 1 Bm)(T:Txt mg):Fn P w K mg base "_law_open" ["corner","line","k","square"] 4 B8:=by
 refine Ae.fn BB (fun _ _ _ _ _ _ us hl=>by obtain⟨_,_,_,_,rfl⟩:=rh hl;rfl) (fun vs H Q E h=>?_) (fun f cdv A outer s H vs Q E hr h=>?_)
 ·obtain⟨pc,l,ps,cx,cy,qs,k,a,b,rfl,_⟩:=h
  rfl
 ·obtain⟨pc,l,ps,cx,cy,qs,k,a,b,rfl,cc,L,⟨k0,k1,n100⟩,⟨sq,hb⟩,q⟩:=h
  refine⟨_,(ao (aB (qK (aA xH (hr.mono (by decide)) (by rfl) (aa (aA xM (hr.mono (by decide)) (by rfl) (aa (pv 0) (aa (pv 1) (aa (pv 2) af)))) (aa (pv 3) af)))))),?_⟩;refine⟨_,rfl,_,rfl,_,rfl,pc,l,cx,cy,qs,k,rfl,cc,L,⟨k0,by omega,n100⟩,fun p t u H1 s1 f1 fr t0 bt bu=>?_⟩;rw[wj k1]at fr;have sq1:=sq.mono s1;refine⟨_,rfl,p,ps,t,u,a,b,rfl,f1,sq1.at_,⟨aw bt (by decide),aw bu (by decide),aw sq1.ba (by decide),aw sq1.bb (by decide)⟩,_,rfl,?_⟩;have y:=q H1 s1;rw[oH hb,<- r9 fr (t5 _ _ _ _ _ _)]at y;exact y
theorem gW{c:Prop}[Decidable c]{o:Bool}{x y:Int}(h:¬(c∧o=true)):nb1 c o x y = []:=if_neg h
theorem kC{c:Prop}[Decidable c]{o:Bool}{x y:Int}(h:c)(ho:o=true):nb1 c o x y = [(x,y)]:=if_pos ⟨h,ho⟩
structure CP(H H1:Hp)(r:Addr)(cs:List (Addr×Int×Int)):Prop where
 sm:Same H H1
 nr:H r=none
 lst:H1 r=some (.lst (cs.map fun q=>V.ref q.1))
 ps:PsL H1 cs
 len:cs.length≤8
theorem CP.mono{H H1 H2:Hp}{r:Addr}{cs:List (Addr×Int×Int)}(J:CP H H1 r cs)(s:Same H1 H2):CP H H2 r cs:=⟨J.sm.trans s,J.nr,s _ _ J.lst,fun q hq=>s _ _ (J.ps q hq),J.len⟩
theorem yC:xo ["one","other","i","j","square","found"] ["one","other","i","j","square"] (ai (top 78)):=smk
theorem eR(x9:Df K mg "_law_fields_beside" (top 78))(yp:Fn P w K mg base "_law_open" ["corner","line","k","square"] 4 B8)(T:Txt mg):Fn P w K mg base "_law_fields_beside" ["one","other","i","j","square"] 5 C0:=by
 refine x9.fn yC (fun _ _ _ _ _ _ us hl=>by obtain⟨_,_,_,_,_,rfl⟩:=tm hl;rfl) (fun vs H Q E h=>?_) (fun f cdv A outer s H vs Q E hr h=>?_)
 ·obtain⟨l1,l2,ps,qs,rs,i,j,a,b,rfl,_⟩:=h
  rfl
 ·obtain⟨l1,l2,ps,qs,rs,i,j,a,b,rfl,La,Lb,⟨sq,hb⟩,⟨i0,i1,q100⟩,⟨j0,j1,r100⟩,q⟩:=h
  have hlq:(qs.map fun (q:Addr×Int×Int)=>V.ref q.1).length=qs.length:=List.length_map _;have hlr:(rs.map fun (q:Addr×Int×Int)=>V.ref q.1).length=rs.length:=List.length_map _;have R5:∃u:TS,PSs (a7 CX0 P w K mg base ["one","other","i","j","square","found"] "_law_fields_beside" (ai (top 78)) f cdv A outer s H E).nox ((aJ (top 78)).drop 5) u∧∀(r:Addr) (H1:Hp) (cs:List (Addr×Int×Int)),CP H H1 r cs->cs.length≤4->cs.map (·.2)++[]=nbs (bo qs rs a b 0) qs.length rs.length i j->u { nx:=fun _ H'=>Q .non H',rt:=Q } [some (.ref l1),some (.ref l2),some (.int i),some (.int j),some (.ref ps),some (.ref r)] H1:=by
   refine⟨_,(ao (aB (pv 5))),fun r H1 cs J _ he=>?_⟩;rw[List.append_nil]at he;exact⟨_,rfl,q r cs H1 J.sm J.nr J.lst J.ps he⟩
  obtain⟨u5,hu5,h5⟩:=R5;have R4:∃u:TS,PSs (a7 CX0 P w K mg base ["one","other","i","j","square","found"] "_law_fields_beside" (ai (top 78)) f cdv A outer s H E).nox ((aJ (top 78)).drop 4) u∧∀(r:Addr) (H1:Hp) (cs:List (Addr×Int×Int)),CP H H1 r cs->cs.length≤3->cs.map (·.2)++(nb1 (j+2<(rs.length:Int)) (bo qs rs a b 0 1 i (j+1)).isSome i (j+1)++[])=nbs (bo qs rs a b 0) qs.length rs.length i j->u { nx:=fun _ H'=>Q .non H',rt:=Q } [some (.ref l1),some (.ref l2),some (.int i),some (.int j),some (.ref ps),some (.ref r)] H1:=by
   refine⟨_,ag (aQ (eI (aC cS (aj aN (pv 3) ad) (aG aI (by rfl) T.z_len bE (aa (pv 1) af)) (aE _)) (dN (cz (aA yp (hr.mono (by decide)) (by rfl) (aa (ar aO (pv 1) (aj aN (pv 3) ad) (fun _ _=>rfl)) (aa (pv 0) (aa (pv 2) (aa (pv 4) af)))))))).pt (ao (bJ (dz PySem.F.plainAttrs_list PySem.F.slot_list_append PySem.F.type_list_append aX (pv 5) (aa (az (aa (pv 2) (aa (aj aN (pv 3) ad) af))) af)))) aF) hu5,fun r H1 cs J hl he=>?_⟩;refine⟨_,rfl,_,_,rfl,rfl,_,rfl,l2,_,rfl,.inl (SqL.of (Lb.mono J.sm).lst),_,_,rfl,rfl,_,rfl,aR (fun c=>?_) (fun c=>?_)⟩
   ·have c:j+2<(rs.length:Int):=by
     have c:=bK c;exact by rw[hlr]at c;exact c
    obtain⟨pc,ac,ec,bc1,bc2⟩:=dA (k:=j+1) (Lb.mono J.sm) (by omega) (by omega);refine⟨_,rfl,_,rfl,_,_,rfl,rfl,l2,_,_,_,rfl,rfl,SqL.of (Lb.mono J.sm).lst,ac,_,rfl,_,rfl,_,rfl,pc,l1,ps,_,_,qs,i,a,b,rfl,⟨ec,bc1,bc2⟩,La.mono J.sm,⟨by omega,by omega,by omega⟩,⟨sq.mono J.sm,hb⟩,fun H2 s2=>?_⟩;have eg:(bo qs rs a b 0 1 i (j+1)).isSome=_:=congrArg Option.isSome (if_neg (by decide));rw[<- eg];have J2:=J.mono s2;refine⟨_,rfl,aR (fun o=>?_) (fun o=>?_)⟩
    ·refine⟨_,rfl,.inl ⟨rfl,_,SqL.of J2.lst⟩,_,rfl,_,rfl,_,_,rfl,rfl,sz (by simp),fun t H3 s3 f3 n3=>⟨r,_,_,rfl,rfl,s3 _ _ J2.lst,aT (by rw[List.length_map];have:=J.len;omega),fun H4 u4=>?_⟩⟩
     have J3:=J2.mono s3;refine h5 r H4 (cs++[(t,i,j+1)]) ⟨fun b o e=>u4.at (fun z=>by rw[z,J.nr]at e;cases e) (J3.sm b o e),J.nr,by rw[u4.now];simp,fun q hq=>?_,by rw[List.length_append,List.length_singleton];omega⟩ (by rw[List.length_append,List.length_singleton];omega) ?_
     ·rcases List.mem_append.mp hq with hq|hq
      ·exact u4.t _ _ (J3.ps q hq)
      ·rw[List.mem_singleton.mp hq]
       exact u4.t _ _ f3
     ·rw[kC c o]at he
      rw[List.map_append,List.append_assoc];exact he
    ·rw[gW (fun z=>by rw[o]at z;exact absurd z.2 (by decide))]at he
     exact h5 r H2 cs J2 (by omega) he
   ·rw[gW (fun z=>by
     have c:=bY c
     first|exact c z.1|(rw[hlq]at c;exact c z.1)|(rw[hlr]at c;exact c z.1))]at he
    exact h5 r H1 cs J (by omega) he
  obtain⟨u4,hu4,h4⟩:=R4;have R3:∃u:TS,PSs (a7 CX0 P w K mg base ["one","other","i","j","square","found"] "_law_fields_beside" (ai (top 78)) f cdv A outer s H E).nox ((aJ (top 78)).drop 3) u∧∀(r:Addr) (H1:Hp) (cs:List (Addr×Int×Int)),CP H H1 r cs->cs.length≤2->cs.map (·.2)++(nb1 (i+2<(qs.length:Int)) (bo qs rs a b 0 0 (i+1) j).isSome (i+1) j++(nb1 (j+2<(rs.length:Int)) (bo qs rs a b 0 1 i (j+1)).isSome i (j+1)++[]))=nbs (bo qs rs a b 0) qs.length rs.length i j->u { nx:=fun _ H'=>Q .non H',rt:=Q } [some (.ref l1),some (.ref l2),some (.int i),some (.int j),some (.ref ps),some (.ref r)] H1:=by
   refine⟨_,ag (aQ (eI (aC cS (aj aN (pv 2) ad) (aG aI (by rfl) T.z_len bE (aa (pv 0) af)) (aE _)) (dN (cz (aA yp (hr.mono (by decide)) (by rfl) (aa (ar aO (pv 0) (aj aN (pv 2) ad) (fun _ _=>rfl)) (aa (pv 1) (aa (pv 3) (aa (pv 4) af)))))))).pt (ao (bJ (dz PySem.F.plainAttrs_list PySem.F.slot_list_append PySem.F.type_list_append aX (pv 5) (aa (az (aa (aj aN (pv 2) ad) (aa (pv 3) af))) af)))) aF) hu4,fun r H1 cs J hl he=>?_⟩;refine⟨_,rfl,_,_,rfl,rfl,_,rfl,l1,_,rfl,.inl (SqL.of (La.mono J.sm).lst),_,_,rfl,rfl,_,rfl,aR (fun c=>?_) (fun c=>?_)⟩
   ·have c:i+2<(qs.length:Int):=by
     have c:=bK c;exact by rw[hlq]at c;exact c
    obtain⟨pc,ac,ec,bc1,bc2⟩:=dA (k:=i+1) (La.mono J.sm) (by omega) (by omega);refine⟨_,rfl,_,rfl,_,_,rfl,rfl,l1,_,_,_,rfl,rfl,SqL.of (La.mono J.sm).lst,ac,_,rfl,_,rfl,_,rfl,pc,l2,ps,_,_,rs,j,a,b,rfl,⟨ec,bc1,bc2⟩,Lb.mono J.sm,⟨by omega,by omega,by omega⟩,⟨sq.mono J.sm,hb⟩,fun H2 s2=>?_⟩;have eg:(bo qs rs a b 0 0 (i+1) j).isSome=_:=congrArg Option.isSome (if_pos rfl);rw[<- eg];have J2:=J.mono s2;refine⟨_,rfl,aR (fun o=>?_) (fun o=>?_)⟩
    ·refine⟨_,rfl,.inl ⟨rfl,_,SqL.of J2.lst⟩,_,rfl,_,_,rfl,rfl,_,rfl,sz (by simp),fun t H3 s3 f3 n3=>⟨r,_,_,rfl,rfl,s3 _ _ J2.lst,aT (by rw[List.length_map];have:=J.len;omega),fun H4 u4=>?_⟩⟩
     have J3:=J2.mono s3;refine h4 r H4 (cs++[(t,i+1,j)]) ⟨fun b o e=>u4.at (fun z=>by rw[z,J.nr]at e;cases e) (J3.sm b o e),J.nr,by rw[u4.now];simp,fun q hq=>?_,by rw[List.length_append,List.length_singleton];omega⟩ (by rw[List.length_append,List.length_singleton];omega) ?_
     ·rcases List.mem_append.mp hq with hq|hq
      ·exact u4.t _ _ (J3.ps q hq)
      ·rw[List.mem_singleton.mp hq]
       exact u4.t _ _ f3
     ·rw[kC c o]at he
      rw[List.map_append,List.append_assoc];exact he
    ·rw[gW (fun z=>by rw[o]at z;exact absurd z.2 (by decide))]at he
     exact h4 r H2 cs J2 (by omega) he
   ·rw[gW (fun z=>by
     have c:=bY c
     first|exact c z.1|(rw[hlq]at c;exact c z.1)|(rw[hlr]at c;exact c z.1))]at he
    exact h4 r H1 cs J (by omega) he
  obtain⟨u3,hu3,h3⟩:=R3;have R2:∃u:TS,PSs (a7 CX0 P w K mg base ["one","other","i","j","square","found"] "_law_fields_beside" (ai (top 78)) f cdv A outer s H E).nox ((aJ (top 78)).drop 2) u∧∀(r:Addr) (H1:Hp) (cs:List (Addr×Int×Int)),CP H H1 r cs->cs.length≤1->cs.map (·.2)++(nb1 (j>0) (bo qs rs a b 0 1 i j).isSome i (j - 1)++(nb1 (i+2<(qs.length:Int)) (bo qs rs a b 0 0 (i+1) j).isSome (i+1) j++(nb1 (j+2<(rs.length:Int)) (bo qs rs a b 0 1 i (j+1)).isSome i (j+1)++[])))=nbs (bo qs rs a b 0) qs.length rs.length i j->u { nx:=fun _ H'=>Q .non H',rt:=Q } [some (.ref l1),some (.ref l2),some (.int i),some (.int j),some (.ref ps),some (.ref r)] H1:=by
   refine⟨_,ag (aQ (eI (aC iQ (pv 3) ad (aE _)) (dN (cz (aA yp (hr.mono (by decide)) (by rfl) (aa (ar aO (pv 1) (pv 3) (fun _ _=>rfl)) (aa (pv 0) (aa (pv 2) (aa (pv 4) af)))))))).pt (ao (bJ (dz PySem.F.plainAttrs_list PySem.F.slot_list_append PySem.F.type_list_append aX (pv 5) (aa (az (aa (pv 2) (aa (aj aH (pv 3) ad) af))) af)))) aF) hu3,fun r H1 cs J hl he=>?_⟩;refine⟨_,rfl,_,_,rfl,rfl,_,rfl,aR (fun c=>?_) (fun c=>?_)⟩
   ·have c:j>0:=by
     have c:=bK c;exact c
    obtain⟨pc,ac,ec,bc1,bc2⟩:=dA (k:=j) (Lb.mono J.sm) (by omega) (by omega);refine⟨_,rfl,_,rfl,l2,_,_,_,rfl,rfl,SqL.of (Lb.mono J.sm).lst,ac,_,rfl,_,rfl,_,rfl,pc,l1,ps,_,_,qs,i,a,b,rfl,⟨ec,bc1,bc2⟩,La.mono J.sm,⟨by omega,by omega,by omega⟩,⟨sq.mono J.sm,hb⟩,fun H2 s2=>?_⟩;have eg:(bo qs rs a b 0 1 i j).isSome=_:=congrArg Option.isSome (if_neg (by decide));rw[<- eg];have J2:=J.mono s2;refine⟨_,rfl,aR (fun o=>?_) (fun o=>?_)⟩
    ·refine⟨_,rfl,.inl ⟨rfl,_,SqL.of J2.lst⟩,_,rfl,_,rfl,_,_,rfl,rfl,sz (by simp),fun t H3 s3 f3 n3=>⟨r,_,_,rfl,rfl,s3 _ _ J2.lst,aT (by rw[List.length_map];have:=J.len;omega),fun H4 u4=>?_⟩⟩
     have J3:=J2.mono s3;refine h3 r H4 (cs++[(t,i,j - 1)]) ⟨fun b o e=>u4.at (fun z=>by rw[z,J.nr]at e;cases e) (J3.sm b o e),J.nr,by rw[u4.now];simp,fun q hq=>?_,by rw[List.length_append,List.length_singleton];omega⟩ (by rw[List.length_append,List.length_singleton];omega) ?_
     ·rcases List.mem_append.mp hq with hq|hq
      ·exact u4.t _ _ (J3.ps q hq)
      ·rw[List.mem_singleton.mp hq]
       exact u4.t _ _ f3
     ·rw[kC c o]at he
      rw[List.map_append,List.append_assoc];exact he
    ·rw[gW (fun z=>by rw[o]at z;exact absurd z.2 (by decide))]at he
     exact h3 r H2 cs J2 (by omega) he
   ·rw[gW (fun z=>by
     have c:=bY c
     first|exact c z.1|(rw[hlq]at c;exact c z.1)|(rw[hlr]at c;exact c z.1))]at he
    exact h3 r H1 cs J (by omega) he
  obtain⟨u2,hu2,h2⟩:=R2;have R1:∃u:TS,PSs (a7 CX0 P w K mg base ["one","other","i","j","square","found"] "_law_fields_beside" (ai (top 78)) f cdv A outer s H E).nox ((aJ (top 78)).drop 1) u∧∀(r:Addr) (H1:Hp) (cs:List (Addr×Int×Int)),CP H H1 r cs->cs.length≤0->cs.map (·.2)++(nb1 (i>0) (bo qs rs a b 0 0 i j).isSome (i - 1) j++(nb1 (j>0) (bo qs rs a b 0 1 i j).isSome i (j - 1)++(nb1 (i+2<(qs.length:Int)) (bo qs rs a b 0 0 (i+1) j).isSome (i+1) j++(nb1 (j+2<(rs.length:Int)) (bo qs rs a b 0 1 i (j+1)).isSome i (j+1)++[]))))=nbs (bo qs rs a b 0) qs.length rs.length i j->u { nx:=fun _ H'=>Q .non H',rt:=Q } [some (.ref l1),some (.ref l2),some (.int i),some (.int j),some (.ref ps),some (.ref r)] H1:=by
   refine⟨_,ag (aQ (eI (aC iQ (pv 2) ad (aE _)) (dN (cz (aA yp (hr.mono (by decide)) (by rfl) (aa (ar aO (pv 0) (pv 2) (fun _ _=>rfl)) (aa (pv 1) (aa (pv 3) (aa (pv 4) af)))))))).pt (ao (bJ (dz PySem.F.plainAttrs_list PySem.F.slot_list_append PySem.F.type_list_append aX (pv 5) (aa (az (aa (aj aH (pv 2) ad) (aa (pv 3) af))) af)))) aF) hu2,fun r H1 cs J hl he=>?_⟩;refine⟨_,rfl,_,_,rfl,rfl,_,rfl,aR (fun c=>?_) (fun c=>?_)⟩
   ·have c:i>0:=by
     have c:=bK c;exact c
    obtain⟨pc,ac,ec,bc1,bc2⟩:=dA (k:=i) (La.mono J.sm) (by omega) (by omega);refine⟨_,rfl,_,rfl,l1,_,_,_,rfl,rfl,SqL.of (La.mono J.sm).lst,ac,_,rfl,_,rfl,_,rfl,pc,l2,ps,_,_,rs,j,a,b,rfl,⟨ec,bc1,bc2⟩,Lb.mono J.sm,⟨by omega,by omega,by omega⟩,⟨sq.mono J.sm,hb⟩,fun H2 s2=>?_⟩;have eg:(bo qs rs a b 0 0 i j).isSome=_:=congrArg Option.isSome (if_pos rfl);rw[<- eg];have J2:=J.mono s2;refine⟨_,rfl,aR (fun o=>?_) (fun o=>?_)⟩
    ·refine⟨_,rfl,.inl ⟨rfl,_,SqL.of J2.lst⟩,_,rfl,_,_,rfl,rfl,_,rfl,sz (by simp),fun t H3 s3 f3 n3=>⟨r,_,_,rfl,rfl,s3 _ _ J2.lst,aT (by rw[List.length_map];have:=J.len;omega),fun H4 u4=>?_⟩⟩
     have J3:=J2.mono s3;refine h2 r H4 (cs++[(t,i - 1,j)]) ⟨fun b o e=>u4.at (fun z=>by rw[z,J.nr]at e;cases e) (J3.sm b o e),J.nr,by rw[u4.now];simp,fun q hq=>?_,by rw[List.length_append,List.length_singleton];omega⟩ (by rw[List.length_append,List.length_singleton];omega) ?_
     ·rcases List.mem_append.mp hq with hq|hq
      ·exact u4.t _ _ (J3.ps q hq)
      ·rw[List.mem_singleton.mp hq]
       exact u4.t _ _ f3
     ·rw[kC c o]at he
      rw[List.map_append,List.append_assoc];exact he
    ·rw[gW (fun z=>by rw[o]at z;exact absurd z.2 (by decide))]at he
     exact h2 r H2 cs J2 (by omega) he
   ·rw[gW (fun z=>by
     have c:=bY c
     first|exact c z.1|(rw[hlq]at c;exact c z.1)|(rw[hlr]at c;exact c z.1))]at he
    exact h2 r H1 cs J (by omega) he
  obtain⟨u1,hu1,h1⟩:=R1;refine⟨_,(ag (ax (i:=5) yC.nd rfl (Or.inl rfl) (bD af)) hu1),?_⟩;refine⟨sz (by simp),fun r H1 s1 f1 n1=>?_⟩;refine h1 r H1 [] ⟨s1,n1,f1,(fun q hq=>nomatch hq),by decide⟩ (by decide) ?_
  unfold nbs;simp only[List.append_assoc,List.map_nil,List.nil_append,List.append_nil]
theorem cJ{c:Prop}[Decidable c]{o:Bool}{x y:Int}{d:Int×Int}:d∈nb1 c o x y↔(c∧o=true)∧d=(x,y):=by
 unfold nb1
 split
 ·rename_i h
  rw[List.mem_singleton];exact⟨fun e=>⟨h,e⟩,fun e=>e.2⟩
 ·rename_i h
  exact⟨(fun e=>nomatch e),fun e=>absurd e.1 h⟩
theorem tY{n m:Nat}{i j:Int}(h:cZ n m i j=true):(0≤i∧i<n)∧0≤j∧j<m:=by
 unfold cZ at h;simp only[Bool.and_eq_true,decide_eq_true_eq]at h;omega
theorem fb{α:Type}{o:Option α}(h:o.isSome=true):o≠none:=fun z=>by rw[z]at h;cases h
theorem qT{n m:Nat}{G:GF}{i j:Int}(hi:0≤i∧i<n)(hj:0≤j∧j<m){d:Int×Int}(h:d∈nbs G (n+1) (m+1) i j):((0≤d.1∧d.1<n)∧0≤d.2∧d.2<m)∧∃lb,(ck d.1 d.2,lb)∈fw n m G (ck i j):=by
 unfold nbs at h;rw[List.mem_append,List.mem_append,List.mem_append,cJ,cJ,cJ,cJ]at h;rcases h with((⟨⟨h,o⟩,rfl⟩|⟨⟨h,o⟩,rfl⟩)|⟨⟨h,o⟩,rfl⟩)|⟨⟨h,o⟩,rfl⟩
 ·have z:(0≤i - 1∧i - 1<n)∧0≤j∧j<m:=by omega
  exact⟨z,_,dH (by simp[cR]) z (fb o)⟩
 ·have z:(0≤i∧i<n)∧0≤j - 1∧j - 1<m:=by omega
  exact⟨z,_,dH (by simp[cR]) z (fb o)⟩
 ·have z:(0≤i+1∧i+1<n)∧0≤j∧j<m:=by omega
  exact⟨z,_,dH (by simp[cR]) z (fb o)⟩
 ·have z:(0≤i∧i<n)∧0≤j+1∧j+1<m:=by omega
  exact⟨z,_,dH (by simp[cR]) z (fb o)⟩
theorem iD{n m:Nat}{G:GF}{i j:Int}{e:aK×Lb}(h:e∈fw n m G (ck i j)):∃d:Int×Int,e.1=ck d.1 d.2∧d∈nbs G (n+1) (m+1) i j:=by
 obtain⟨h1,h2⟩:=List.mem_filter.mp h;simp only[cR,List.mem_cons,List.not_mem_nil,or_false]at h1;have mk:∀{x y k a b:Int},lJ n m G (ck x y,Lb.key (dk k a b))=true->((0≤x∧x<n)∧0≤y∧y<m)∧(G k a b).isSome=true:=fun {x y k a b} h=>by
  have h:(cZ n m x y && (G k a b).isSome)=true:=h;rw[Bool.and_eq_true]at h;exact⟨tY h.1,h.2⟩
 rcases h1 with rfl|rfl|rfl|rfl
 ·obtain⟨a,o⟩:=mk h2
  exact⟨(i - 1,j),rfl,List.mem_append_left _ (List.mem_append_left _ (List.mem_append_left _ (cJ.mpr ⟨⟨by omega,o⟩,rfl⟩)))⟩
 ·obtain⟨a,o⟩:=mk h2
  exact⟨(i,j - 1),rfl,List.mem_append_left _ (List.mem_append_left _ (List.mem_append_right _ (cJ.mpr ⟨⟨by omega,o⟩,rfl⟩)))⟩
 ·obtain⟨a,o⟩:=mk h2
  exact⟨(i+1,j),rfl,List.mem_append_left _ (List.mem_append_right _ (cJ.mpr ⟨⟨by omega,o⟩,rfl⟩))⟩
 ·obtain⟨a,o⟩:=mk h2
  exact⟨(i,j+1),rfl,List.mem_append_right _ (cJ.mpr ⟨⟨by omega,o⟩,rfl⟩)⟩
structure Br(n m:Nat)(G:GF)(cs:List (Int×Int)):Prop where
 z:(0,0)∈cs
 rg:∀c∈cs,(0≤c.1∧c.1<n)∧0≤c.2∧c.2<m
 mn:∀S:Int->Int->Prop,S 0 0->(∀i j:Int,((0≤i∧i<n)∧0≤j∧j<m)->S i j->∀d∈nbs G (n+1) (m+1) i j,S d.1 d.2)->∀c∈cs,S c.1 c.2
theorem Br.shut{n m:Nat}{G:GF}{cs:List (Int×Int)}(h:Br n m G cs)(cl:∀c∈cs,∀d∈nbs G (n+1) (m+1) c.1 c.2,d∈cs):mJ [ck 0 0] (fw n m G) (jg n m)↔((n:Int) - 1,(m:Int) - 1)∉cs:=by
 constructor
 ·rintro⟨R,r0,r1,r2⟩ he
  have k:=h.mn (fun i j=>ck i j∈R) (r0 _ (List.mem_singleton.mpr rfl)) (fun i j hr hs d hd=>by
   obtain⟨_,lb,hl⟩:=qT hr.1 hr.2 hd;exact r1 _ hs _ hl) _ he
  have f:=r2 _ k;have f':(decide ((n:Int) - 1=(n:Int) - 1) && decide ((m:Int) - 1=(m:Int) - 1))=false:=f;simp at f'
 ·intro he
  refine⟨cs.map fun c=>ck c.1 c.2,fun s hs=>?_,fun s hs e hd=>?_,fun s hs=>?_⟩
  ·rw[List.mem_singleton.mp hs]
   exact List.mem_map.mpr ⟨(0,0),h.z,rfl⟩
  ·obtain⟨c,hc,rfl⟩:=List.mem_map.mp hs
   obtain⟨d,e1,hd⟩:=iD hd;exact List.mem_map.mpr ⟨d,cl c hc d hd,e1.symm⟩
  ·obtain⟨c,hc,rfl⟩:=List.mem_map.mp hs
   show(decide (c.1=(n:Int) - 1) && decide (c.2=(m:Int) - 1))=false;rw[Bool.eq_false_iff];intro z;rw[Bool.and_eq_true,decide_eq_true_eq,decide_eq_true_eq]at z;exact he (by rw[<- z.1,<- z.2];exact hc)
theorem wN{n m:Nat}{G:GF}(hn:1≤n)(hm:1≤m):Br n m G [(0,0)]:=⟨List.mem_singleton.mpr rfl,fun c hc=>by
 rw[List.mem_singleton.mp hc];exact⟨⟨Int.le_refl _,by show(0:Int)<n;omega⟩,Int.le_refl _,by show(0:Int)<m;omega⟩,fun S s0 _ c hc=>by rw[List.mem_singleton.mp hc];exact s0⟩
theorem Br.add{n m:Nat}{G:GF}{cs:List (Int×Int)}{c d:Int×Int}(h:Br n m G cs)(hc:c∈cs)(hd:d∈nbs G (n+1) (m+1) c.1 c.2):Br n m G (cs++[d]):=by
 have rc:=h.rg c hc;refine⟨List.mem_append_left _ h.z,fun e he=>?_,fun S s0 st e he=>?_⟩
 ·rcases List.mem_append.mp he with he|he
  ·exact h.rg e he
  ·rw[List.mem_singleton.mp he]
   exact(qT rc.1 rc.2 hd).1
 ·rcases List.mem_append.mp he with he|he
  ·exact h.mn S s0 st e he
  ·rw[List.mem_singleton.mp he]
   exact st _ _ rc (h.mn S s0 st c hc) d hd
theorem uN{m:Nat}{G:GF}{F:Int->Int->Bool}(hm:1≤m)(door:∀j:Int,0<j->j<m->((G 1 0 j).isSome=true↔F 0 j=false))(Fn:F 1 m=F 0 m):eX 1 m G F↔∃j:Int,(0≤j∧j≤m)∧F 0 j=true:=by
 constructor
 ·rintro(h|h|⟨R,r0,r1,r2⟩)
  ·exact⟨0,by omega,h⟩
  ·exact⟨m,by omega,by rw[<- Fn];exact h⟩
  ·by_cases hx:∃j:Int,(0≤j∧j≤m)∧F 0 j=true
   ·exact hx
   ·exfalso
    have all:∀j:Nat,j<m->ck 0 (j:Int)∈R:=fun j=>by
     induction j with
     | zero=>exact fun _=>r0 _ (List.mem_singleton.mpr rfl)
     | succ j ih =>
      intro hj;have o:=(door ((j:Int)+1) (by omega) (by omega)).mpr (by
       cases hf:F 0 ((j:Int)+1) with
       | false=>rfl
       | true=>exact absurd ⟨_,by omega,hf⟩ hx)
      have:=r1 _ (ih (by omega)) _ (dH (n:=1) (m:=m) (G:=G) (x:=0) (y:=(j:Int)+1) (k:=1) (a:=0) (b:=(j:Int)+1) (by simp[cR]) (by omega) (fb o));simpa using this
    have f:=r2 _ (all (m - 1) (by omega));have f':(decide ((0:Int)=((1:Nat):Int) - 1) && decide (((m - 1:Nat):Int)=(m:Int) - 1))=false:=f;simp at f';omega
 ·rintro⟨j,⟨j0,j1⟩,hf⟩
  by_cases z0:j=0
  ·subst z0
   exact .inl hf
  by_cases z1:j=m
  ·subst z1
   exact .inr (.inl (Fn.trans hf))
  refine .inr (.inr ⟨(List.range j.toNat).map fun (x:Nat)=>ck 0 (x:Int),fun s hs=>?_,fun s hs e he=>?_,fun s hs=>?_⟩)
  ·rw[List.mem_singleton.mp hs]
   exact List.mem_map.mpr ⟨0,List.mem_range.mpr (by omega),rfl⟩
  ·obtain⟨x,hx,rfl⟩:=List.mem_map.mp hs
   have hx:=List.mem_range.mp hx;obtain⟨d,e1,hd⟩:=iD he;unfold nbs at hd;rw[List.mem_append,List.mem_append,List.mem_append,cJ,cJ,cJ,cJ]at hd;rw[e1];rcases hd with((⟨⟨h,o⟩,rfl⟩|⟨⟨h,o⟩,rfl⟩)|⟨⟨h,o⟩,rfl⟩)|⟨⟨h,o⟩,rfl⟩
   ·omega
   ·refine List.mem_map.mpr ⟨x - 1,List.mem_range.mpr (by omega),?_⟩
    rw[show((x - 1:Nat):Int)=(x:Int) - 1 by omega]
   ·omega
   ·refine List.mem_map.mpr ⟨x+1,List.mem_range.mpr ?_,by rw[show((x+1:Nat):Int)=(x:Int)+1 by omega]⟩
    have:=(door ((x:Int)+1) (by omega) (by omega)).mp o
    by_cases z:(x:Int)+1=j
    ·rw[z,hf]at this
     cases this
    ·omega
  ·obtain⟨x,hx,rfl⟩:=List.mem_map.mp hs
   have hx:=List.mem_range.mp hx;have f':(decide ((0:Int)=((1:Nat):Int) - 1) && decide ((x:Int)=(m:Int) - 1))=false:=by
    rw[Bool.eq_false_iff];intro z;rw[Bool.and_eq_true,decide_eq_true_eq,decide_eq_true_eq]at z;omega
   exact f'
theorem uM{m:Nat}{G:GF}{F:Int->Int->Bool}(hm:1≤m)(door:∀j:Int,0<j->j<m->((G 0 j 0).isSome=true↔F j 0=false))(Fn:F m 1=F m 0):eX m 1 G F↔∃j:Int,(0≤j∧j≤m)∧F j 0=true:=by
 constructor
 ·rintro(h|h|⟨R,r0,r1,r2⟩)
  ·exact⟨0,by omega,h⟩
  ·exact⟨m,by omega,by rw[<- Fn];exact h⟩
  ·by_cases hx:∃j:Int,(0≤j∧j≤m)∧F j 0=true
   ·exact hx
   ·exfalso
    have all:∀j:Nat,j<m->ck (j:Int) 0∈R:=fun j=>by
     induction j with
     | zero=>exact fun _=>r0 _ (List.mem_singleton.mpr rfl)
     | succ j ih =>
      intro hj;have o:=(door ((j:Int)+1) (by omega) (by omega)).mpr (by
       cases hf:F ((j:Int)+1) 0 with
       | false=>rfl
       | true=>exact absurd ⟨_,by omega,hf⟩ hx)
      have:=r1 _ (ih (by omega)) _ (dH (n:=m) (m:=1) (G:=G) (x:=(j:Int)+1) (y:=0) (k:=0) (a:=(j:Int)+1) (b:=0) (by simp[cR]) (by omega) (fb o));simpa using this
    have f:=r2 _ (all (m - 1) (by omega));have f':(decide (((m - 1:Nat):Int)=(m:Int) - 1) && decide ((0:Int)=((1:Nat):Int) - 1))=false:=f;simp at f';omega
 ·rintro⟨j,⟨j0,j1⟩,hf⟩
  by_cases z0:j=0
  ·subst z0
   exact .inl hf
  by_cases z1:j=m
  ·subst z1
   exact .inr (.inl (Fn.trans hf))
  refine .inr (.inr ⟨(List.range j.toNat).map fun (x:Nat)=>ck (x:Int) 0,fun s hs=>?_,fun s hs e he=>?_,fun s hs=>?_⟩)
  ·rw[List.mem_singleton.mp hs]
   exact List.mem_map.mpr ⟨0,List.mem_range.mpr (by omega),rfl⟩
  ·obtain⟨x,hx,rfl⟩:=List.mem_map.mp hs
   have hx:=List.mem_range.mp hx;obtain⟨d,e1,hd⟩:=iD he;unfold nbs at hd;rw[List.mem_append,List.mem_append,List.mem_append,cJ,cJ,cJ,cJ]at hd;rw[e1];rcases hd with((⟨⟨h,o⟩,rfl⟩|⟨⟨h,o⟩,rfl⟩)|⟨⟨h,o⟩,rfl⟩)|⟨⟨h,o⟩,rfl⟩
   ·refine List.mem_map.mpr ⟨x - 1,List.mem_range.mpr (by omega),?_⟩
    rw[show((x - 1:Nat):Int)=(x:Int) - 1 by omega]
   ·omega
   ·refine List.mem_map.mpr ⟨x+1,List.mem_range.mpr ?_,by rw[show((x+1:Nat):Int)=(x:Int)+1 by omega]⟩
    have:=(door ((x:Int)+1) (by omega) (by omega)).mp o
    by_cases z:(x:Int)+1=j
    ·rw[z,hf]at this
     cases this
    ·omega
   ·omega
  ·obtain⟨x,hx,rfl⟩:=List.mem_map.mp hs
   have hx:=List.mem_range.mp hx;have f':(decide ((x:Int)=(m:Int) - 1) && decide ((0:Int)=((1:Nat):Int) - 1))=false:=by
    rw[Bool.eq_false_iff];intro z;rw[Bool.and_eq_true,decide_eq_true_eq,decide_eq_true_eq]at z;omega
   exact f'
theorem dP{qs:Crn}(h:qs.length=1){i:Int}(hi:i=0∨i=1):cnX (dbl qs) i=cnX qs 0∧cnY (dbl qs) i=cnY qs 0:=by
 obtain⟨c,rfl⟩:=dL h;rcases hi with rfl|rfl <;> exact⟨rfl,rfl⟩
theorem kQ{qs:Crn}(h:2≤qs.length):dbl qs=qs:=by
 unfold dbl;rw[if_neg (by omega)]
theorem jj{qs:Crn}(h:qs.length=1):(dbl qs).length=2:=by
 unfold dbl;rw[if_pos h,List.length_append];omega
theorem oF{cx cy bx by_ a b:Int}(hb:0<b):(cH cx cy bx by_ bx by_ a b 0).isSome=true↔¬a<sqE cx cy bx by_*b:=by
 have e0:bC bx by_ bx by_=0:=by unfold bC;rw[Int.sub_self,Int.sub_self];rfl
 rw[oH hb];unfold bsB bsT na lU;rw[if_pos (.inl e0),if_pos (.inl e0),Int.mul_one,Bool.not_eq_true',decide_eq_false_iff_not]
theorem lp(a b c d:Int):sqE a b c d=sqE c d a b:=by unfold sqE;grind
theorem rM{rs:Crn}(hr:1≤rs.length)(X:Int->Int->Prop):(∃j:Int,(0≤j∧j≤((aU rs:Nat):Int))∧X (cnX (dbl rs) j) (cnY (dbl rs) j))↔∃j:Int,(0≤j∧j<(rs.length:Int))∧X (cnX rs j) (cnY rs j):=by
 by_cases h:rs.length=1
 ·have e:=jj h
  have el:aU rs=1:=by unfold aU;omega
  rw[el];constructor
  ·rintro⟨j,hj,x⟩
   have c:=dP h (i:=j) (by omega);rw[c.1,c.2]at x;exact⟨0,by omega,x⟩
  ·rintro⟨j,hj,x⟩
   have:j=0:=by omega
   subst this;have c:=dP h (i:=0) (.inl rfl);exact⟨0,by omega,by rw[c.1,c.2];exact x⟩
 ·have e:=kQ (qs:=rs) (by omega)
  have el:((aU rs:Nat):Int)=(rs.length:Int) - 1:=by unfold aU;rw[e];omega
  rw[el,e];exact⟨fun ⟨j,hj,x⟩=>⟨j,by omega,x⟩,fun ⟨j,hj,x⟩=>⟨j,by omega,x⟩⟩
theorem jW{qs rs:Crn}{a b:Int}{i j:Int}(hi:0≤i∧i<(qs.length:Int))(hj:0≤j∧j<(rs.length:Int)):eD qs rs a b 0 i j=decide (a<sqE (cnX qs i) (cnY qs i) (cnX rs j) (cnY rs j)*b):=by
 rw[jh hi hj,lp];rfl
def noF(qs rs:Crn)(a b:Int):Prop:=eX (aU qs) (aU rs) (bo (dbl qs) (dbl rs) a b 0) (eD (dbl qs) (dbl rs) a b 0)
theorem sU{qs rs:Crn}{a b:Int}(hb:0<b)(h1:qs.length=1)(hr:1≤rs.length∧rs.length≤10):noF qs rs a b↔∃j:Int,(0≤j∧j<(rs.length:Int))∧a<sqE (cnX qs 0) (cnY qs 0) (cnX rs j) (cnY rs j)*b:=by
 have e:=jj h1;have el:aU qs=1:=by unfold aU;omega
 have d:=fk hr;have em:((aU rs:Nat):Int)=((dbl rs).length:Int) - 1:=by unfold aU;omega
 have c0:=dP h1 (i:=0) (.inl rfl);have c1:=dP h1 (i:=0+1) (.inr rfl);have c1':=dP h1 (i:=1) (.inr rfl);have F0:∀j:Int,(0≤j∧j≤((aU rs:Nat):Int))->eD (dbl qs) (dbl rs) a b 0 0 j=decide (a<sqE (cnX qs 0) (cnY qs 0) (cnX (dbl rs) j) (cnY (dbl rs) j)*b):=fun j hj=>by
  rw[jW (by omega) (by omega),c0.1,c0.2]
 have F1:∀j:Int,(0≤j∧j≤((aU rs:Nat):Int))->eD (dbl qs) (dbl rs) a b 0 1 j=decide (a<sqE (cnX qs 0) (cnY qs 0) (cnX (dbl rs) j) (cnY (dbl rs) j)*b):=fun j hj=>by
  rw[jW (by omega) (by omega),c1'.1,c1'.2]
 unfold noF;rw[el,uN (by omega) (fun j j0 j1=>?_) (by rw[F0 _ (by omega),F1 _ (by omega)])]
 ·rw[<- rM hr.1 (fun x y=>a<sqE (cnX qs 0) (cnY qs 0) x y*b)]
  exact⟨fun ⟨j,hj,x⟩=>⟨j,hj,by rw[F0 j hj]at x;exact of_decide_eq_true x⟩,fun ⟨j,hj,x⟩=>⟨j,hj,by rw[F0 j hj];exact decide_eq_true x⟩⟩
 ·rw[F0 j (by omega),decide_eq_false_iff_not]
  have eg:bo (dbl qs) (dbl rs) a b 0 1 0 j=cH (cnX (dbl rs) j) (cnY (dbl rs) j) (cnX (dbl qs) 0) (cnY (dbl qs) 0) (cnX (dbl qs) (0+1)) (cnY (dbl qs) (0+1)) a b 0:=if_neg (by decide);rw[eg,c0.1,c0.2,c1.1,c1.2,oF hb,lp]
theorem sS{qs rs:Crn}{a b:Int}(hb:0<b)(hq:1≤qs.length∧qs.length≤10)(h1:rs.length=1):noF qs rs a b↔∃j:Int,(0≤j∧j<(qs.length:Int))∧a<sqE (cnX qs j) (cnY qs j) (cnX rs 0) (cnY rs 0)*b:=by
 have e:=jj h1;have el:aU rs=1:=by unfold aU;omega
 have d:=fk hq;have em:((aU qs:Nat):Int)=((dbl qs).length:Int) - 1:=by unfold aU;omega
 have c0:=dP h1 (i:=0) (.inl rfl);have c1:=dP h1 (i:=0+1) (.inr rfl);have c1':=dP h1 (i:=1) (.inr rfl);have F0:∀j:Int,(0≤j∧j≤((aU qs:Nat):Int))->eD (dbl qs) (dbl rs) a b 0 j 0=decide (a<sqE (cnX (dbl qs) j) (cnY (dbl qs) j) (cnX rs 0) (cnY rs 0)*b):=fun j hj=>by
  rw[jW (by omega) (by omega),c0.1,c0.2]
 have F1:∀j:Int,(0≤j∧j≤((aU qs:Nat):Int))->eD (dbl qs) (dbl rs) a b 0 j 1=decide (a<sqE (cnX (dbl qs) j) (cnY (dbl qs) j) (cnX rs 0) (cnY rs 0)*b):=fun j hj=>by
  rw[jW (by omega) (by omega),c1'.1,c1'.2]
 unfold noF;rw[el,uM (by omega) (fun j j0 j1=>?_) (by rw[F0 _ (by omega),F1 _ (by omega)])]
 ·rw[<- rM hq.1 (fun x y=>a<sqE x y (cnX rs 0) (cnY rs 0)*b)]
  exact⟨fun ⟨j,hj,x⟩=>⟨j,hj,by rw[F0 j hj]at x;exact of_decide_eq_true x⟩,fun ⟨j,hj,x⟩=>⟨j,hj,by rw[F0 j hj];exact decide_eq_true x⟩⟩
 ·rw[F0 j (by omega),decide_eq_false_iff_not]
  have eg:bo (dbl qs) (dbl rs) a b 0 0 j 0=cH (cnX (dbl qs) j) (cnY (dbl qs) j) (cnX (dbl rs) 0) (cnY (dbl rs) 0) (cnX (dbl rs) (0+1)) (cnY (dbl rs) (0+1)) a b 0:=if_pos rfl;rw[eg,c0.1,c0.2,c1.1,c1.2,oF hb]
def jo(H:Hp)(qs rs:Crn)(q:Addr×Int×Int):Prop:=∃pa pb:Addr,H q.1=some (.tup [.ref pa,.ref pb])∧Cn H pa (cnX qs q.2.1) (cnY qs q.2.1)∧Cn H pb (cnX rs q.2.2) (cnY rs q.2.2)
theorem jo.t{H H':Hp}{qs rs:Crn}{q:Addr×Int×Int}(h:jo H qs rs q)(s:SameT H H'):jo H' qs rs q:=by
 obtain⟨pa,pb,e,c1,c2⟩:=h;exact⟨pa,pb,s _ _ e,⟨s _ _ c1.at_,c1.bx,c1.by_⟩,⟨s _ _ c2.at_,c2.bx,c2.by_⟩⟩
def frS(qs rs:Crn)(a b:Int)(q:Addr×Int×Int):Prop:=a<sqE (cnX qs q.2.1) (cnY qs q.2.1) (cnX rs q.2.2) (cnY rs q.2.2)*b
theorem mD{n m:Nat}{G:GF}{cs:List (Int×Int)}(h:Br n m G cs)(nd:cs.Nodup)(hn:n≤9)(hm:m≤9):cs.length≤100:=by
 have:=iR (U:=(List.range 10).flatMap fun (i:Nat)=>(List.range 10).map fun (j:Nat)=>((i:Int),(j:Int))) nd fun c hc=>by
  have r:=h.rg c hc;refine List.mem_flatMap.mpr ⟨c.1.toNat,List.mem_range.mpr (by omega),List.mem_map.mpr ⟨c.2.toNat,List.mem_range.mpr (by omega),?_⟩⟩;have e1:((c.1.toNat:Nat):Int)=c.1:=by omega
  have e2:((c.2.toNat:Nat):Int)=c.2:=by omega
  rw[e1,e2]
 exact Nat.le_trans this (by decide)
theorem iY{ps:List (Addr×Int×Int)}{i j:Int}:ng ps i j=true↔(i,j)∈ps.map (·.2):=by
 unfold ng;rw[List.any_eq_true,List.mem_map];constructor
 ·rintro⟨q,hq,h⟩
  rw[Bool.and_eq_true,decide_eq_true_eq,decide_eq_true_eq]at h;exact⟨q,hq,Prod.ext h.1 h.2⟩
 ·rintro⟨q,hq,h⟩
  exact⟨q,hq,by rw[h];simp⟩
structure CJ(n m:Nat)(G:GF)(H H1:Hp)(sn:Addr)(cs:List (Addr×Int×Int))(k:Nat):Prop where
 sm:Same H H1
 nr:H sn=none
 lst:H1 sn=some (.lst (cs.map fun q=>V.ref q.1))
 ps:PsL H1 cs
 come:Br n m G (cs.map (·.2))
 nd:(cs.map (·.2)).Nodup
 cl:∀j,j<k->∀c,cs[j]? = some c->∀d∈nbs G (n+1) (m+1) c.2.1 c.2.2,d∈cs.map (·.2)
 kl:k≤cs.length
theorem CJ.mono{n m:Nat}{G:GF}{H H1 H2:Hp}{sn:Addr}{cs:List (Addr×Int×Int)}{k:Nat}(J:CJ n m G H H1 sn cs k)(s:Same H1 H2):CJ n m G H H2 sn cs k:=⟨J.sm.trans s,J.nr,s _ _ J.lst,fun q hq=>s _ _ (J.ps q hq),J.come,J.nd,J.cl,J.kl⟩
theorem CJ.add{n m:Nat}{G:GF}{H H1 H2:Hp}{sn t:Addr}{cs:List (Addr×Int×Int)}{k:Nat}{x y:Int}{c:Addr×Int×Int}(J:CJ n m G H H1 sn cs k)(ht:H1 t=some (.tup [.int x,.int y]))(hc:cs[k]? = some c)(hd:(x,y)∈nbs G (n+1) (m+1) c.2.1 c.2.2)(nw:(x,y)∉cs.map (·.2))(u:BP H1 H2 sn (cs.map fun q=>V.ref q.1) ((cs.map fun q=>V.ref q.1)++[.ref t])):CJ n m G H H2 sn (cs++[(t,x,y)]) k:=by
 refine⟨fun b o e=>u.at (fun z=>by rw[z,J.nr]at e;cases e) (J.sm b o e),J.nr,by rw[u.now];simp,fun q hq=>?_,?_,?_,fun j hj d hd' e he=>?_,by rw[List.length_append];have:=J.kl;omega⟩
 ·rcases List.mem_append.mp hq with hq|hq
  ·exact u.t _ _ (J.ps q hq)
  ·rw[List.mem_singleton.mp hq]
   exact u.t _ _ ht
 ·rw[List.map_append]
  exact J.come.add (List.mem_map.mpr ⟨c,List.mem_of_getElem? hc,rfl⟩) hd
 ·rw[List.map_append,List.nodup_append]
  refine⟨J.nd,by simp,fun a ha b hb=>?_⟩;have hb:b=(x,y):=List.mem_singleton.mp hb;rw[hb];exact fun z=>nw (by rw[<- z];exact ha)
 ·rw[List.getElem?_append_left (by have:=J.kl;omega)]at hd'
  rw[List.map_append];exact List.mem_append_left _ (J.cl j hj d hd' e he)
theorem ox{H:Hp}{l:Addr}{qs:Crn}(L:LineM H l qs)(h1:1≤qs.length):∃a:Addr,atI (qs.map fun (q:Addr×Int×Int)=>V.ref q.1) (-1)=some (.ref a)∧H a=some (.tup [.int (cnX qs ((qs.length:Int) - 1)),.int (cnY qs ((qs.length:Int) - 1))])∧au (cnX qs ((qs.length:Int) - 1))≤50∧au (cnY qs ((qs.length:Int) - 1))≤50:=by
 obtain⟨a,h,r⟩:=dA L (k:=(qs.length:Int) - 1) (by omega) (by omega);refine⟨a,?_,r⟩;rw[<- h];unfold atI;rw[List.length_map]
 congr 1
 unfold ixN
 (repeat' split) <;> first|rfl|omega|(congr 1;omega)
def Gd(qs rs:Crn)(a b:Int)(sp:List (Addr×Int×Int)):Prop:=(∀q∈sp,frS qs rs a b q->noF qs rs a b)∧((∀q∈sp,¬frS qs rs a b q)->((qs.length=1∨rs.length=1)->¬noF qs rs a b)∧(2≤qs.length->2≤rs.length->(noF qs rs a b↔mJ [ck 0 0] (fw (qs.length - 1) (rs.length - 1) (bo qs rs a b 0)) (jg (qs.length - 1) (rs.length - 1)))))
theorem vp{qs rs:Crn}{a b:Int}{t t':Addr}(hq:2≤qs.length)(hr:2≤rs.length):Gd qs rs a b [(t,0,0),(t',(qs.length:Int) - 1,(rs.length:Int) - 1)]:=by
 have e1:=kQ hq;have e2:=kQ hr;have l1:aU qs=qs.length - 1:=by unfold aU;rw[e1]
 have l2:aU rs=rs.length - 1:=by unfold aU;rw[e2]
 have c1:(((qs.length - 1:Nat)):Int)=(qs.length:Int) - 1:=by omega
 have c2:(((rs.length - 1:Nat)):Int)=(rs.length:Int) - 1:=by omega
 have F0:eD qs rs a b 0 0 0=true↔frS qs rs a b (t,0,0):=by
  rw[jW (by omega) (by omega),decide_eq_true_eq];exact Iff.rfl
 have F1:eD qs rs a b 0 ((qs.length - 1:Nat):Int) ((rs.length - 1:Nat):Int)=true↔frS qs rs a b (t',(qs.length:Int) - 1,(rs.length:Int) - 1):=by
  rw[c1,c2,jW (by omega) (by omega),decide_eq_true_eq];exact Iff.rfl
 have N:noF qs rs a b↔(frS qs rs a b (t,0,0)∨frS qs rs a b (t',(qs.length:Int) - 1,(rs.length:Int) - 1)∨mJ [ck 0 0] (fw (qs.length - 1) (rs.length - 1) (bo qs rs a b 0)) (jg (qs.length - 1) (rs.length - 1))):=by
  unfold noF eX;rw[e1,e2,l1,l2,F0,F1]
 refine⟨fun q hq f=>?_,fun f=>⟨fun z=>by omega,fun _ _=>?_⟩⟩
 ·rw[N]
  rcases List.mem_cons.mp hq with h|h
  ·rw[h]at f
   exact .inl f
  ·rw[List.mem_singleton.mp h]at f
   exact .inr (.inl f)
 ·rw[N]
  have f0:=f _ (List.mem_cons_self);have f1:=f _ (List.mem_cons_of_mem _ (List.mem_singleton.mpr rfl));exact⟨fun h=>h.elim (fun z=>absurd z f0) fun h=>h.elim (fun z=>absurd z f1) id,fun h=>.inr (.inr h)⟩
theorem tM{qs rs:Crn}{a b:Int}{sp:List (Addr×Int×Int)}(hb:0<b)(h1:qs.length=1)(hr:1≤rs.length∧rs.length≤10)(hl:sp.length=rs.length)(h:∀(i:Nat) q,sp[i]? = some q->q.2=(0,(i:Int))):Gd qs rs a b sp:=by
 have N:=sU (a:=a) hb h1 hr;refine⟨fun q hq f=>N.mpr ?_,fun f=>⟨fun _ z=>?_,fun z=>by omega⟩⟩
 ·obtain⟨i,hi⟩:=List.mem_iff_getElem?.mp hq
  have:=(List.getElem?_eq_some_iff.mp hi).1;unfold frS at f;rw[h i q hi]at f;exact⟨(i:Int),by omega,f⟩
 ·obtain⟨j,hj,c⟩:=N.mp z
  obtain⟨i,rfl⟩:∃i:Nat,j=(i:Int):=⟨j.toNat,by omega⟩;have hi:=List.getElem?_eq_getElem (l:=sp) (i:=i) (by omega);refine f _ (List.mem_of_getElem? hi) ?_;unfold frS;rw[h i _ hi];exact c
theorem tK{qs rs:Crn}{a b:Int}{sp:List (Addr×Int×Int)}(hb:0<b)(h1:rs.length=1)(hr:1≤qs.length∧qs.length≤10)(hl:sp.length=qs.length)(h:∀(i:Nat) q,sp[i]? = some q->q.2=((i:Int),0)):Gd qs rs a b sp:=by
 have N:=sS (a:=a) hb hr h1;refine⟨fun q hq f=>N.mpr ?_,fun f=>⟨fun _ z=>?_,fun _ z=>by omega⟩⟩
 ·obtain⟨i,hi⟩:=List.mem_iff_getElem?.mp hq
  have:=(List.getElem?_eq_some_iff.mp hi).1;unfold frS at f;rw[h i q hi]at f;exact⟨(i:Int),by omega,f⟩
 ·obtain⟨j,hj,c⟩:=N.mp z
  obtain⟨i,rfl⟩:∃i:Nat,j=(i:Int):=⟨j.toNat,by omega⟩;have hi:=List.getElem?_eq_getElem (l:=sp) (i:=i) (by omega);refine f _ (List.mem_of_getElem? hi) ?_;unfold frS;rw[h i _ hi];exact c
theorem ka(f:Nat->Int×Int):∀{ys:List V} {R:Nat->Addr->Prop} (k:Nat),(∀i y,ys[i]? = some y->∃t,y = .ref t∧R (k+i) t)->∃sp:List (Addr×Int×Int),ys=(sp.map fun q=>V.ref q.1)∧sp.length=ys.length∧∀i q,sp[i]? = some q->q.2=f (k+i)∧R (k+i) q.1
 | [],_,_,_=>⟨[],rfl,rfl,fun i q h=>by simp at h⟩
 | y::ys,R,k,h=>by
  obtain⟨t,e,r⟩:=h 0 y rfl;obtain⟨sp,e1,e2,e3⟩:=ka f (ys:=ys) (R:=R) (k+1) fun i z hz=>by
   obtain⟨u,eu,ru⟩:=h (i+1) z (by rw[List.getElem?_cons_succ];exact hz);exact⟨u,eu,by rw[show k+1+i=k+(i+1) by omega];exact ru⟩
  refine⟨(t,f k)::sp,by rw[List.map_cons,<- e1,e],by rw[List.length_cons,List.length_cons,e2],fun i q hq=>?_⟩;cases i with
  | zero =>
   rw[List.getElem?_cons_zero]at hq;cases hq;exact⟨rfl,r⟩
  | succ i =>
   rw[List.getElem?_cons_succ]at hq;have:=e3 i q hq;rw[show k+1+i=k+(i+1) by omega]at this;exact this
theorem uy{H:Hp}{l:Addr}{qs:Crn}{i:Nat}{v:V}(L:LineM H l qs)(h:(qs.map fun (q:Addr×Int×Int)=>V.ref q.1)[i]? = some v):∃a:Addr,v = .ref a∧Cn H a (cnX qs (i:Int)) (cnY qs (i:Int)):=by
 have hi:i<qs.length:=by
  have:=(List.getElem?_eq_some_iff.mp h).1;rw[List.length_map]at this;exact this
 obtain⟨a,e,r⟩:=dA L (k:=(i:Int)) (by omega) (by omega);rw[dB h]at e;exact⟨a,Option.some.inj e,r.1,r.2.1,r.2.2⟩
inductive Cg (vs:List V) (H:Hp) (Q:VK) (x_3:XK):Prop
 | mk:∀(l1 l2 ps:Addr) (qs rs:Crn) (a b:Int),(vs = [.ref l1,.ref l2,.ref ps])->(LineM H l1 qs)->(LineM H l2 rs)->((1≤qs.length∧qs.length≤10))->((1≤rs.length∧rs.length≤10))->((Sq H ps a b∧0<b))->(∀(c:Bool) (H':Hp),(c=true↔¬noF qs rs a b)->Same H H'->Q (.bl c) H')->Cg vs H Q x_3
theorem xE:xo ["one","other","square","spots","mine","yours","east","north","seen","at","field"] ["one","other","square"] (ai (top 79)):=smk
theorem nu(Az:Df K mg "_law_can" (top 79))(xH:Fn P w K mg base "_law_above" ["one","other"] 1 Bm)(xY:Fn P w K mg base "_law_fields_beside" ["one","other","i","j","square"] 5 C0)(T:Txt mg):Fn P w K mg base "_law_can" ["one","other","square"] 6 Cg:=by
 refine Az.fn xE (fun _ _ _ _ _ _ us hl=>by obtain⟨_,_,_,rfl⟩:=g9 hl;rfl) (fun vs H Q E h=>?_) (fun f cdv A outer s H vs Q E hr h=>?_)
 ·obtain⟨l1,l2,ps,qs,rs,a,b,rfl,_⟩:=h
  rfl
 ·obtain⟨l1,l2,ps,qs,rs,a,b,rfl,La,Lb,⟨h1,h10⟩,⟨g1,g10⟩,⟨sq,hb⟩,q⟩:=h
  have C1:zC (a7 CX0 P w K mg base ["one","other","square","spots","mine","yours","east","north","seen","at","field"] "_law_can" (ai (top 79)) f cdv A outer s H E).nox (fY (rk ((aJ (top 79)).getD 1 (.Pass ⟨0,0,0,0⟩)))) [("one",s.heap.objs.size+1)] "yours" [("one",0)] :=
   ⟨by rfl,rfl,by decide +kernel,by decide +kernel,rfl,(fun p hp=>by simp only[List.mem_cons,List.not_mem_nil,or_false]at hp;rcases hp with rfl;rfl),by rfl,by decide +kernel,(fun p hp=>by simp only[List.mem_cons,List.not_mem_nil,or_false]at hp;rcases hp with rfl;exact⟨rfl,rfl,.inr (.inl rfl),rfl,rfl⟩),⟨rfl,rfl⟩,rfl⟩
  have C2:zC (a7 CX0 P w K mg base ["one","other","square","spots","mine","yours","east","north","seen","at","field"] "_law_can" (ai (top 79)) f cdv A outer s H E).nox (fY (rk ((aJ (top 79)).getD 2 (.Pass ⟨0,0,0,0⟩)))) [("other",s.heap.objs.size+2)] "mine" [("other",1)] :=
   ⟨by rfl,rfl,by decide +kernel,by decide +kernel,rfl,(fun p hp=>by simp only[List.mem_cons,List.not_mem_nil,or_false]at hp;rcases hp with rfl;rfl),by rfl,by decide +kernel,(fun p hp=>by simp only[List.mem_cons,List.not_mem_nil,or_false]at hp;rcases hp with rfl;exact⟨rfl,rfl,.inr (.inl rfl),rfl,rfl⟩),⟨rfl,rfl⟩,rfl⟩
  have hlq:(qs.map fun (q:Addr×Int×Int)=>V.ref q.1).length=qs.length:=List.length_map _;have hlr:(rs.map fun (q:Addr×Int×Int)=>V.ref q.1).length=rs.length:=List.length_map _;have R3:∃u:TS,PSs (a7 CX0 P w K mg base ["one","other","square","spots","mine","yours","east","north","seen","at","field"] "_law_can" (ai (top 79)) f cdv A outer s H E).nox ((aJ (top 79)).drop 3) u∧∀(H1:Hp) (r:Addr) (sp:List (Addr×Int×Int)) (z4 z5 z6 z7 z8 z9 z10:Option V),Same H H1->H1 r=some (.lst (sp.map fun q=>V.ref q.1))->(∀q∈sp,jo H1 qs rs q)->sp.length≤10->(∀q∈sp,frS qs rs a b q->noF qs rs a b)->((∀q∈sp,¬frS qs rs a b q)->((qs.length=1∨rs.length=1)->¬noF qs rs a b)∧(2≤qs.length->2≤rs.length->(noF qs rs a b↔mJ [ck 0 0] (fw (qs.length - 1) (rs.length - 1) (bo qs rs a b 0)) (jg (qs.length - 1) (rs.length - 1)))))->u { nx:=fun _ H'=>Q .non H',rt:=Q } [some (.ref l1),some (.ref l2),some (.ref ps),some (.ref r),z4,z5,z6,z7,z8,z9,z10] H1:=by
   refine⟨_,(ag (cI PassesOwn.never rfl (cP (pv 3)) (gJ rfl (cr (aY (i:=4) xE.nd rfl (Or.inl rfl)) (cr (aY (i:=5) xE.nd rfl (Or.inl rfl)) fh))) (ag (ax (i:=6) xE.nd rfl (Or.inl rfl) (aj aH (ar ap (pv 4) ad (fun _ _=>rfl)) (ar ap (pv 5) ad (fun _ _=>rfl)))) (ag (ax (i:=7) xE.nd rfl (Or.inl rfl) (aj aH (ar ap (pv 4) ad (fun _ _=>rfl)) (ar ap (pv 5) ad (fun _ _=>rfl)))) (ao (aQ (cz (aA xH (hr.mono (by decide)) (by rfl) (aa (az (aa (aj aN (aj ay (pv 6) (pv 6)) (aj ay (pv 7) (pv 7))) (aa ad af))) (aa (pv 2) af)))) (ao (aB fD)) aF))))) (ag (aQ (ga (aC bR (aG aI (by rfl) T.z_len bE (aa (pv 0) af)) ad (aE _)) (eG (aC bR (aG aI (by rfl) T.z_len bE (aa (pv 1) af)) ad (aE _)))).pt (ao (aB fD)) aF) (ag (ax (i:=8) xE.nd rfl (Or.inl rfl) (@bD _ _ _ _ (@aa _ _ _ _ _ (@az _ _ _ _ _ (@aa _ _ _ _ _ ad (@aa _ _ _ _ _ ad af (by rfl)) (by rfl))) af (by rfl)))) (ag (ax (i:=9) xE.nd rfl (Or.inl rfl) ad) (ag (dw PassesOwn.never (aC cS (pv 9) (aG aI (by rfl) T.z_len bE (aa (pv 8) af)) (aE _)) (ag (cI PassesOwn.never rfl (cP (aA xY (hr.mono (by decide)) (by rfl) (aa (pv 0) (aa (pv 1) (aa (ar ap (ar aO (pv 8) (pv 9) (fun _ _=>rfl)) ad (fun _ _=>rfl)) (aa (ar ap (ar aO (pv 8) (pv 9) (fun _ _=>rfl)) ad (fun _ _=>rfl)) (aa (pv 2) af))))))) (aY (i:=10) xE.nd rfl (Or.inl rfl)) (ao (aQ (aC (pA hr.units10) (pv 10) (pv 8) (by rfl)) (ao (bJ (dz PySem.F.plainAttrs_list PySem.F.slot_list_append PySem.F.type_list_append aX (pv 8) (aa (pv 10) af)))) aF))) (ao (ax (i:=9) xE.nd rfl (Or.inl rfl) (aj aN (pv 9) ad))))) (ao (aB (cW (va hr.units10) (az (aa (aj aH (aG aI (by rfl) T.z_len bE (aa (pv 0) af)) ad) (aa (aj aH (aG aI (by rfl) T.z_len bE (aa (pv 1) af)) ad) af))) (pv 8) (by rfl))))))))),fun H1 r sp z4 z5 z6 z7 z8 z9 z10 s1 f1 ok hl10 k1 k2=>?_⟩;refine⟨_,rfl,r,rfl,⟨_,SqL.of f1⟩,d0 (K:=K) (a:=r) (xs:=sp.map fun q=>V.ref q.1) (fun i σ H'=>∃(z4 z5 z6 z7 z8 z9 z10:Option V),σ = [some (.ref l1),some (.ref l2),some (.ref ps),some (.ref r),z4,z5,z6,z7,z8,z9,z10]∧Same H1 H'∧∀j,j<i->∀q,sp[j]? = some q->¬frS qs rs a b q)
    ⟨_,_,_,_,_,_,_,rfl,Same.refl _,fun j hj=>absurd hj (Nat.not_lt_zero _)⟩ (fun i σ H' _ ⟨_,_,_,_,_,_,_,_,s',_⟩=>SqL.of (s' _ _ f1)) ?_ ?_⟩
   ·rintro i x σ H2 hx ⟨z4,z5,z6,z7,z8,z9,z10,rfl,s2,far⟩
    rw[List.getElem?_map]at hx;obtain⟨u,hu,rfl⟩:=Option.map_eq_some_iff.mp hx;obtain⟨pa,pb,e0,ca,cb⟩:=ok u (List.mem_of_getElem? hu);have ea:=s2 _ _ ca.at_;have eb:=s2 _ _ cb.at_;have w1:=aL ca.bx cb.bx;have w2:=aL ca.by_ cb.by_;refine⟨u.1,_,rfl,SqT.of (s2 _ _ e0),rfl,_,_,rfl,_,_,rfl,rfl,?_⟩;refine⟨_,rfl,pa,_,_,_,rfl,rfl,SqT.of ea,rfl,_,rfl,pb,_,_,_,rfl,rfl,SqT.of eb,rfl,_,_,rfl,rfl,?_⟩;refine⟨_,rfl,pa,_,_,_,rfl,rfl,SqT.of ea,rfl,_,rfl,pb,_,_,_,rfl,rfl,SqT.of eb,rfl,_,_,rfl,rfl,?_⟩;refine⟨_,rfl,_,rfl,_,_,rfl,rfl,CM.b w1 w1 (by decide) (by decide),_,rfl,_,rfl,_,_,rfl,rfl,CM.b w2 w2 (by decide) (by decide),_,_,rfl,rfl,sz (by simp),fun t H3 s3 f3 n3=>?_⟩;have sq3:=(sq.mono s1).mono (s2.trans s3);have bs:=br (bits_mul w1 w1) (bits_mul w2 w2);refine⟨_,rfl,t,ps,_,1,a,b,rfl,f3,sq3.at_,⟨aw bs (by decide),by decide,aw sq3.ba (by decide),aw sq3.bb (by decide)⟩,?_⟩;refine⟨_,rfl,aR (fun c=>?_) (fun c=>?_)⟩
    ·have hf:frS qs rs a b u:=by
      have c:=bK c;rw[Int.mul_one]at c;exact c
     exact q false H3 ⟨(fun z=>nomatch z),fun z=>absurd (k1 u (List.mem_of_getElem? hu) hf) z⟩ (s1.trans (s2.trans s3))
    ·have hf:¬frS qs rs a b u:=by
      have c:=bY c;rw[Int.mul_one]at c;exact c
     refine⟨_,_,_,_,_,_,_,rfl,s2.trans s3,fun j hj v hv=>?_⟩;rcases Nat.lt_or_ge j i with z|z
     ·exact far j z v hv
     ·rw[show j=i by omega,hu]at hv
      cases hv;exact hf
   ·rintro σ H2 ⟨z4,z5,z6,z7,z8,z9,z10,rfl,s2,far⟩
    have K2:=k2 fun q hq=>by
     obtain⟨j,hj⟩:=List.mem_iff_getElem?.mp hq;exact far j (by rw[List.length_map];exact(List.getElem?_eq_some_iff.mp hj).1) q hj
    have S2:=s1.trans s2;refine⟨_,rfl,l1,_,rfl,.inl (SqL.of (La.mono S2).lst),rfl,_,rfl,?_⟩;rw[hlq,di];refine aR (fun c=>?_) (fun c=>?_)
    ·have c:qs.length=1:=by have:=bK c;omega
     exact q true H2 ⟨fun _=>K2.1 (.inl c),fun _=>rfl⟩ S2
    refine⟨_,rfl,l2,_,rfl,.inl (SqL.of (Lb.mono S2).lst),rfl,_,rfl,?_⟩;rw[hlr,di];refine aR (fun c'=>?_) (fun c'=>?_)
    ·have c':rs.length=1:=by have:=bK c';omega
     exact q true H2 ⟨fun _=>K2.1 (.inr c'),fun _=>rfl⟩ S2
    have c:¬qs.length=1:=fun z=>bY c (by rw[z];rfl);have c':¬rs.length=1:=fun z=>bY c' (by rw[z];rfl);have K3:=K2.2 (by omega) (by omega);refine⟨sz (by simp),fun t0 H3 s3 f3 n3=>⟨sz (by simp),fun sn H4 s4 f4 n4=>?_⟩⟩;have S4:=S2.trans (s3.trans s4);have eN:(((qs.length - 1:Nat):Int))+1=(qs.length:Int):=by omega
    have eM:(((rs.length - 1:Nat):Int))+1=(rs.length:Int):=by omega
    have nsn:H sn=none:=(S2.trans s3).free n4;refine dm (fun σ H'=>∃(z4 z5 z6 z7 z10:Option V) (cs:List (Addr×Int×Int)) (k:Nat),σ = [some (.ref l1),some (.ref l2),some (.ref ps),some (.ref r),z4,z5,z6,z7,some (.ref sn),some (.int (k:Int)),z10]∧CJ (qs.length - 1) (rs.length - 1) (bo qs rs a b 0) H H' sn cs k)
     (fun σ _=>match σ with | [_,_,_,_,_,_,_,_,_,some (.int k),_]=>200 - k.toNat|_=>0) ⟨_,_,_,_,_,[(t0,0,0)],0,rfl,S4,nsn,f4,fun q hq=>?_,wN (by omega) (by omega),by simp,fun j hj=>absurd hj (Nat.not_lt_zero _),Nat.zero_le _⟩ ?_ ?_
    ·rw[List.mem_singleton.mp hq]
     exact s4 _ _ f3
    ·rintro σ H5 ⟨z4,z5,z6,z7,z10,cs,k,rfl,J⟩
     have cl100:=mD J.come J.nd (by omega) (by omega);rw[List.length_map]at cl100;refine⟨_,rfl,_,rfl,sn,_,rfl,.inl (SqL.of J.lst),_,_,rfl,rfl,_,rfl,aR (fun hk=>?_) (fun hk=>?_)⟩
     ·have hk:k<cs.length:=by
       have:=bK hk;rw[List.length_map]at this;omega
      have ck:=List.getElem?_eq_getElem hk;generalize cs[k]=cc at ck;have mc:=List.mem_of_getElem? ck;have rg:=J.come.rg cc.2 (List.mem_map.mpr ⟨cc,mc,rfl⟩);have at0:atI (cs.map fun q=>V.ref q.1) (k:Int)=some (.ref cc.1):=dB (by rw[List.getElem?_map,ck];rfl);refine⟨_,rfl,_,rfl,_,rfl,_,rfl,sn,_,_,_,rfl,rfl,SqL.of J.lst,at0,cc.1,_,_,_,rfl,rfl,SqT.of (J.ps cc mc),rfl,_,rfl,_,rfl,sn,_,_,_,rfl,rfl,SqL.of J.lst,at0,cc.1,_,_,_,rfl,rfl,SqT.of (J.ps cc mc),rfl,_,rfl,l1,l2,ps,qs,rs,_,_,a,b,rfl,La.mono J.sm,Lb.mono J.sm,⟨sq.mono J.sm,hb⟩,⟨rg.1.1,by omega,by omega⟩,⟨rg.2.1,by omega,by omega⟩,fun fl ds H6 s6 n6 f6 pd ed=>?_⟩;have nfs:sn≠fl:=fun z=>by rw[<- z,J.lst]at n6;cases n6
      have nfh:H fl=none:=by
       cases e:H fl with
       | none=>rfl
       | some o=>rw[J.sm _ _ e]at n6;cases n6
      rw[<- eN,<- eM]at ed;refine⟨fl,rfl,⟨_,SqL.of f6⟩,d0 (K:=K) (a:=fl) (xs:=ds.map fun q=>V.ref q.1) (fun i σ H'=>∃(z4 z5 z6 z7 z10:Option V) (cs':List (Addr×Int×Int)),σ = [some (.ref l1),some (.ref l2),some (.ref ps),some (.ref r),z4,z5,z6,z7,some (.ref sn),some (.int (k:Int)),z10]∧CJ (qs.length - 1) (rs.length - 1) (bo qs rs a b 0) H H' sn cs' k∧cs'[k]? = some cc∧(∀j,j<i->∀d,ds[j]? = some d->d.2∈cs'.map (·.2))∧H' fl=some (.lst (ds.map fun q=>V.ref q.1))∧PsL H' ds)
       ⟨_,_,_,_,_,cs,rfl,J.mono s6,ck,fun j hj=>absurd hj (Nat.not_lt_zero _),f6,pd⟩ (fun i σ H' _ ⟨_,_,_,_,_,_,_,_,_,_,e',_⟩=>SqL.of e') ?_ ?_⟩
      ·rintro i x σ H7 hx ⟨z4,z5,z6,z7,z10,cs',rfl,J7,ck7,in7,f7,pd7⟩
       rw[List.getElem?_map]at hx;obtain⟨u,hu,rfl⟩:=Option.map_eq_some_iff.mp hx;have mu:=List.mem_of_getElem? hu;have c7:=mD J7.come J7.nd (by omega) (by omega);rw[List.length_map]at c7;refine⟨_,rfl,_,rfl,sn,u.1,cs',u.2.1,u.2.2,rfl,rfl,SqL.of J7.lst,J7.ps,pd7 u mu,_,rfl,?_⟩;cases hh:ng cs' u.2.1 u.2.2 with
       | false =>
        refine iw (by rfl) ⟨_,rfl,.inl ⟨rfl,_,SqL.of J7.lst⟩,_,rfl,sn,_,_,rfl,rfl,J7.lst,aT (by rw[List.length_map];omega),fun H8 u8=>?_⟩;have nw:(u.2.1,u.2.2)∉cs'.map (·.2):=fun z=>by rw[iY.mpr z]at hh;cases hh
        refine⟨_,_,_,_,_,cs'++[(u.1,u.2.1,u.2.2)],rfl,J7.add (pd7 u mu) ck7 (by rw[<- ed];exact List.mem_map.mpr ⟨u,mu,rfl⟩) nw u8,by rw[List.getElem?_append_left (List.getElem?_eq_some_iff.mp ck7).1];exact ck7,fun j hj d hd=>?_,u8.at nfs.symm f7,fun q hq=>u8.t _ _ (pd7 q hq)⟩;rw[List.map_append];rcases Nat.lt_or_ge j i with z|z
        ·exact List.mem_append_left _ (in7 j z d hd)
        ·rw[show j=i by omega,hu]at hd
         cases hd;exact List.mem_append_right _ (List.mem_singleton.mpr rfl)
       | true =>
        refine iX (by rfl) ⟨_,_,_,_,_,cs',rfl,J7,ck7,fun j hj d hd=>?_,f7,pd7⟩;rcases Nat.lt_or_ge j i with z|z
        ·exact in7 j z d hd
        ·rw[show j=i by omega,hu]at hd
         cases hd;exact iY.mp hh
      ·rintro σ H7 ⟨z4,z5,z6,z7,z10,cs',rfl,J7,ck7,in7,f7,pd7⟩
       refine⟨_,rfl,_,_,rfl,rfl,⟨_,_,_,_,_,cs',k+1,rfl,J7.sm,J7.nr,J7.lst,J7.ps,J7.come,J7.nd,fun j hj c hc d hd=>?_,by have:=(List.getElem?_eq_some_iff.mp ck7).1;omega⟩,?_⟩
       ·rcases Nat.lt_or_ge j k with z|z
        ·exact J7.cl j z c hc d hd
        ·rw[show j=k by omega,ck7]at hc
         cases hc;rw[<- ed]at hd;obtain⟨e,he,rfl⟩:=List.mem_map.mp hd;obtain⟨j',hj'⟩:=List.mem_iff_getElem?.mp he;exact in7 j' (by rw[List.length_map];exact(List.getElem?_eq_some_iff.mp hj').1) e hj'
       ·show 200 - ((k:Int)+1).toNat<200 - (k:Int).toNat
        omega
     ·have hk:k=cs.length:=by
       have h1:=bY hk;have h2:=J.kl;rw[List.length_map]at h1;omega
      have cl:=J.come.shut fun c hc d hd=>by
       obtain⟨e,he,rfl⟩:=List.mem_map.mp hc;obtain⟨j,hj⟩:=List.mem_iff_getElem?.mp he;exact J.cl j (by rw[hk];exact(List.getElem?_eq_some_iff.mp hj).1) e hj d hd
      refine⟨_,rfl,l1,_,rfl,.inl (SqL.of (La.mono J.sm).lst),_,_,rfl,rfl,_,rfl,l2,_,rfl,.inl (SqL.of (Lb.mono J.sm).lst),_,_,rfl,rfl,sz (by simp),fun t6 H6 s6 f6 n6=>?_⟩;have J6:=J.mono s6;refine⟨_,rfl,sn,t6,cs,_,_,rfl,rfl,SqL.of J6.lst,J6.ps,f6,q _ H6 ?_ J6.sm⟩;rw[hlq,hlr,K3,cl,Classical.not_not,show(((qs.length - 1:Nat):Int)) - 1=(qs.length:Int) - 2 by omega,show(((rs.length - 1:Nat):Int)) - 1=(rs.length:Int) - 2 by omega];exact iY
    ·rintro σ H' Q1 Q2 hq ⟨v,e,v2,e2,p',ys',e3,s',i',j',e4,e5,k',ek,r'⟩
     exact⟨v,e,v2,e2,p',ys',e3,s',i',j',e4,e5,k',ek,hq _ _ r'⟩
  obtain⟨u3,hu3,h3⟩:=R3;have X3:∀(H1:Hp) (r:Addr) (sp:List (Addr×Int×Int)) (z4 z5 z6 z7 z8 z9 z10:Option V),Same H H1->H1 r=some (.lst (sp.map fun q=>V.ref q.1))->(∀q∈sp,jo H1 qs rs q)->sp.length≤10->Gd qs rs a b sp->u3 { nx:=fun _ H'=>Q .non H',rt:=Q } [some (.ref l1),some (.ref l2),some (.ref ps),some (.ref r),z4,z5,z6,z7,z8,z9,z10] H1:=fun H1 r sp z4 z5 z6 z7 z8 z9 z10 e1 e2 e3 e4 e5=>h3 H1 r sp z4 z5 z6 z7 z8 z9 z10 e1 e2 e3 e4 e5.1 e5.2;have R2:∃u:TS,PSs (a7 CX0 P w K mg base ["one","other","square","spots","mine","yours","east","north","seen","at","field"] "_law_can" (ai (top 79)) f cdv A outer s H E).nox ((aJ (top 79)).drop 2) u∧∀(H1:Hp) (r:Addr) (sp:List (Addr×Int×Int)) (z4 z5 z6 z7 z8 z9 z10:Option V),Same H H1->H1 r=some (.lst (sp.map fun q=>V.ref q.1))->(∀q∈sp,jo H1 qs rs q)->sp.length≤10->(rs.length≠1->Gd qs rs a b sp)->u { nx:=fun _ H'=>Q .non H',rt:=Q } [some (.ref l1),some (.ref l2),some (.ref ps),some (.ref r),z4,z5,z6,z7,z8,z9,z10] H1:=by
   refine⟨_,ag (aQ (aC bR (aG aI (by rfl) T.z_len bE (aa (pv 1) af)) ad (aE _)) (ao (eJ (j:=3) rfl C2 xE.nd rfl rfl (cP (pv 0)) (fun fp s₀ H₀=>(az (aa (pv 0) (aa (ar (lY (K:=K) rfl) (pv 1) ad (fun _ _=>rfl)) af)))))) aF) hu3,fun H1 r sp z4 z5 z6 z7 z8 z9 z10 s1 f1 ok hl10 gd=>?_⟩;refine⟨_,rfl,l2,_,rfl,.inl (SqL.of (Lb.mono s1).lst),rfl,_,rfl,?_⟩;rw[hlr,di];refine aR (fun c=>?_) (fun c=>?_)
   ·have c:rs.length=1:=by have:=bK c;omega
    refine⟨_,rfl,l1,rfl,⟨_,SqL.of (La.mono s1).lst⟩,kR (SqL.of (La.mono s1).lst) (by rw[hlq];omega) (fun i v H'=>∃t,v = .ref t∧jo H' qs rs (t,((i:Int),0))) (fun i v H H' st ⟨t,x1,x2⟩=>⟨t,x1,x2.t st⟩) ?_ ?_⟩
    ·intro i x H2 Kc hx s2 kk
     obtain⟨pa,rfl,ca⟩:=uy ((La.mono s1).mono s2) hx;obtain⟨pb,ab,eb⟩:=dA ((Lb.mono s1).mono s2) (k:=0) (by omega) (by omega);refine⟨_,rfl,_,rfl,l2,_,_,_,rfl,rfl,SqL.of ((Lb.mono s1).mono s2).lst,ab,sz (by simp),fun t H3 s3 f3 n3=>?_⟩;exact kk _ H3 s3 ⟨t,rfl,pa,pb,f3,ca.mono s3,Cn.mono ⟨eb.1,eb.2.1,eb.2.2⟩ s3⟩
    ·intro lr ys H9 nl s9 f9 hly hr
     rw[hlq]at hly;obtain⟨sp',rfl,e2,e3⟩:=ka (fun i=>((i:Int),0)) (R:=fun i t=>jo H9 qs rs (t,((i:Int),0))) 0 fun i y hy=>by rw[Nat.zero_add];exact hr i y hy
     simp only[Nat.zero_add]at e3;refine X3 H9 lr sp' _ _ _ _ _ _ _ (s1.trans s9) f9 (fun q hq=>?_) (by omega) (tK hb c ⟨h1,h10⟩ (by omega) fun i q hq=>(e3 i q hq).1);obtain⟨i,hi⟩:=List.mem_iff_getElem?.mp hq;have e:=e3 i q hi;rw[<- e.1]at e;exact e.2
   ·have c:rs.length≠1:=fun z=>bY c (by rw[z];rfl)
    exact X3 H1 r sp _ _ _ _ _ _ _ s1 f1 ok hl10 (gd c)
  obtain⟨u2,hu2,h2⟩:=R2;have R1:∃u:TS,PSs (a7 CX0 P w K mg base ["one","other","square","spots","mine","yours","east","north","seen","at","field"] "_law_can" (ai (top 79)) f cdv A outer s H E).nox ((aJ (top 79)).drop 1) u∧∀(H1:Hp) (r:Addr) (sp:List (Addr×Int×Int)) (z4 z5 z6 z7 z8 z9 z10:Option V),Same H H1->H1 r=some (.lst (sp.map fun q=>V.ref q.1))->(∀q∈sp,jo H1 qs rs q)->sp.length≤10->(qs.length≠1->rs.length≠1->Gd qs rs a b sp)->u { nx:=fun _ H'=>Q .non H',rt:=Q } [some (.ref l1),some (.ref l2),some (.ref ps),some (.ref r),z4,z5,z6,z7,z8,z9,z10] H1:=by
   refine⟨_,ag (aQ (aC bR (aG aI (by rfl) T.z_len bE (aa (pv 0) af)) ad (aE _)) (ao (eJ (j:=3) rfl C1 xE.nd rfl rfl (cP (pv 1)) (fun fp s₀ H₀=>(az (aa (ar (lY (K:=K) rfl) (pv 1) ad (fun _ _=>rfl)) (aa (pv 0) af)))))) aF) hu2,fun H1 r sp z4 z5 z6 z7 z8 z9 z10 s1 f1 ok hl10 gd=>?_⟩;refine⟨_,rfl,l1,_,rfl,.inl (SqL.of (La.mono s1).lst),rfl,_,rfl,?_⟩;rw[hlq,di];refine aR (fun c=>?_) (fun c=>?_)
   ·have c:qs.length=1:=by have:=bK c;omega
    refine⟨_,rfl,l2,rfl,⟨_,SqL.of (Lb.mono s1).lst⟩,kR (SqL.of (Lb.mono s1).lst) (by rw[hlr];omega) (fun i v H'=>∃t,v = .ref t∧jo H' qs rs (t,(0,(i:Int)))) (fun i v H H' st ⟨t,x1,x2⟩=>⟨t,x1,x2.t st⟩) ?_ ?_⟩
    ·intro i x H2 Kc hx s2 kk
     obtain⟨pb,rfl,cb⟩:=uy ((Lb.mono s1).mono s2) hx;obtain⟨pa,ab,eb⟩:=dA ((La.mono s1).mono s2) (k:=0) (by omega) (by omega);refine⟨_,rfl,l1,_,_,_,rfl,rfl,SqL.of ((La.mono s1).mono s2).lst,ab,_,rfl,sz (by simp),fun t H3 s3 f3 n3=>?_⟩;exact kk _ H3 s3 ⟨t,rfl,pa,pb,f3,Cn.mono ⟨eb.1,eb.2.1,eb.2.2⟩ s3,cb.mono s3⟩
    ·intro lr ys H9 nl s9 f9 hly hr
     rw[hlr]at hly;obtain⟨sp',rfl,e2,e3⟩:=ka (fun i=>(0,(i:Int))) (R:=fun i t=>jo H9 qs rs (t,(0,(i:Int)))) 0 fun i y hy=>by rw[Nat.zero_add];exact hr i y hy
     simp only[Nat.zero_add]at e3;refine h2 H9 lr sp' _ _ _ _ _ _ _ (s1.trans s9) f9 (fun q hq=>?_) (by omega) fun _=>tM hb c ⟨g1,g10⟩ (by omega) fun i q hq=>(e3 i q hq).1;obtain⟨i,hi⟩:=List.mem_iff_getElem?.mp hq;have e:=e3 i q hi;rw[<- e.1]at e;exact e.2
   ·have c:qs.length≠1:=fun z=>bY c (by rw[z];rfl)
    exact h2 H1 r sp _ _ _ _ _ _ _ s1 f1 ok hl10 (gd c)
  obtain⟨u1,hu1,h1'⟩:=R1;refine⟨_,(ag (ax (i:=3) xE.nd rfl (Or.inl rfl) (@bD _ _ _ _ (@aa _ _ _ _ _ (@az _ _ _ _ _ (@aa _ _ _ _ _ (ar aO (pv 0) ad (fun _ _=>rfl)) (@aa _ _ _ _ _ (ar aO (pv 1) ad (fun _ _=>rfl)) af (by rfl)) (by rfl))) (@aa _ _ _ _ _ (@az _ _ _ _ _ (@aa _ _ _ _ _ (ar aO (pv 0) (dE cQ ad) (fun _ _=>rfl)) (@aa _ _ _ _ _ (ar aO (pv 1) (dE cQ ad) (fun _ _=>rfl)) af (by rfl)) (by rfl))) af (by rfl)) (by rfl)))) hu1),?_⟩;obtain⟨a0,ea0,ca0⟩:=dA La (k:=0) (by omega) (by omega);obtain⟨b0,eb0,cb0⟩:=dA Lb (k:=0) (by omega) (by omega);obtain⟨a1,ea1,ca1⟩:=ox La h1;obtain⟨b1,eb1,cb1⟩:=ox Lb g1;refine⟨_,rfl,l1,_,_,_,rfl,rfl,SqL.of La.lst,ea0,_,rfl,l2,_,_,_,rfl,rfl,SqL.of Lb.lst,eb0,sz (by simp),fun t0 H1 s1 f1 n1=>?_⟩;refine⟨_,rfl,_,rfl,l1,_,_,_,rfl,rfl,SqL.of (La.mono s1).lst,ea1,_,rfl,_,rfl,l2,_,_,_,rfl,rfl,SqL.of (Lb.mono s1).lst,eb1,sz (by simp),fun t1 H2 s2 f2 n2=>⟨sz (by simp),fun r H3 s3 f3 n3=>?_⟩⟩;have S3:=s1.trans (s2.trans s3);have cm:∀{p:Addr} {x y:Int},(H p=some (.tup [.int x,.int y])∧au x≤50∧au y≤50)->Cn H3 p x y:=fun h=>⟨S3 _ _ h.1,h.2.1,h.2.2⟩;refine h1' H3 r [(t0,0,0),(t1,(qs.length:Int) - 1,(rs.length:Int) - 1)] _ _ _ _ _ _ _ S3 f3 (fun q hq=>?_) (by simp) fun y1 y2=>vp (by omega) (by omega);rcases List.mem_cons.mp hq with h|h
  ·rw[h]
   exact⟨a0,b0,(s2.trans s3) _ _ f1,cm ca0,cm cb0⟩
  ·rw[List.mem_singleton.mp h]
   exact⟨a1,b1,s3 _ _ f2,cm ca1,cm cb1⟩
theorem vd{H:Hp}:∀y∈([]:List V),∃t,Kn H y t:=fun y hy=>nomatch hy
theorem om{H:Hp}{v:V}{vs:List V}{t:String}(k:Kn H v t)(h:∀y∈vs,∃t,Kn H y t):∀y∈v::vs,∃t,Kn H y t:=fun y hy=>by
 rcases List.mem_cons.mp hy with rfl|hy
 ·exact⟨t,k⟩
 ·exact h y hy
theorem nO{H:Hp}{t:Addr}{ls:List (Pos×Str)}(e:H t=some (.tbl #[])):Tab H t ls:=⟨#[],e,trivial,fun _ _=>.inl rfl⟩
theorem uP{H:Hp}{z:Addr}{a b:Int}(sq:Sq H z a b)(lw:lowB a b=true)(ha:0≤a):sqV H (.ref z)=true:=by
 simp only[sqV,sq.at_,lw,Bool.true_and,Bool.not_eq_true',decide_eq_false_iff_not];omega
theorem vO{H:Hp}{z:Addr}{a b:Int}(sq:Sq H z a b):Bo H (.ref z):=th_tup sq.at_ (om (.int _) (om (.int _) vd))
theorem wm{a b:Str}(h:a=b):(!decide (V.str a=V.str b))=false:=by subst h;simp
theorem tI{qs rs:Crn}{a b:Int}{wk:Bool}{ps:List Pr}(h:GoF qs rs a b wk ps):wk=true↔¬noF qs rs a b:=by
 obtain⟨ps',_,h⟩:=h;cases wk with
 | false=>exact⟨(fun z=>nomatch z),fun z=>absurd h.1 z⟩
 | true =>
  refine⟨fun _ z=>?_,fun _=>rfl⟩;obtain⟨f0,f1,l,_,_,_,rd,_⟩:=h;rcases z with z|z|⟨R,r0,r1,r2⟩
  ·rw[f0]at z;cases z
  ·rw[f1]at z;cases z
  ·obtain⟨e,he,hf⟩:=rd.2.2
   have hi:=kf rd r0 r1 (l.length - 1) e (by rw[<- List.getLast?_eq_getElem?];exact he);rw[r2 _ hi]at hf;cases hf
theorem AV:xo ["script","one","other","at","square","found"] ["script"] (ai (top 80)):=smk
theorem vq{C_NoSquare t_free_walk t_free_fence:Addr}(Cl:Df K mg "law" (top 80))(AP:t_free_walk≠t_free_fence)(yq:Fn P w K mg base "_law_line" ["pool","most"] 2 BM)(zm:Fn P w K mg base "_law_second" ["pool","line","most"] 3 (Bu K))(yM:Fn P w K mg base "_law_pool" ["script","at"] 2 (Bv K))(zl:Fn P w K mg base "_law_square" ["pool","one","other"] 4 BY)(Av:Fn P w K mg base "_law_can" ["one","other","square"] 6 Cg)(Ax:Fx P w K mg base "go_free" ["one","other","square"] 9 [] (Cc C_NoSquare t_free_walk t_free_fence))(T:Txt mg):Fn P w K mg base "law" ["script"] 11 (mQ K [t_free_walk,t_free_fence]):=by
 refine Cl.fn AV (fun _ _ _ _ _ _ us hl=>by obtain⟨_,rfl⟩:=dL hl;rfl) (fun vs H Q E h=>?_) (fun f cdv A outer s H vs Q E hr h=>?_)
 ·obtain⟨sa,ss,rfl,_⟩:=h
  rfl
 ·obtain⟨sa,ss,rfl,hS,hlen,htab,fin⟩:=h
  refine⟨_,(ag (ax (i:=1) AV.nd rfl (Or.inl rfl) (aA yq (hr.mono (by decide)) (by rfl) (aa (aA yM (hr.mono (by decide)) (by rfl) (aa (pv 0) (aa ad af))) (aa ad af)))) (ag (ax (i:=2) AV.nd rfl (Or.inl rfl) (aA zm (hr.mono (by decide)) (by rfl) (aa (aA yM (hr.mono (by decide)) (by rfl) (aa (pv 0) (aa ad af))) (aa (pv 1) (aa ad af))))) (ag (cI PassesOwn.never rfl (o7 rfl T.z_range (aa ad (aa (aG (fm rfl) (by rfl) T.z_max kT (aa ad (aa (aG (dC rfl) (by rfl) T.z_min fN (aa ad (aa (aG aI (by rfl) T.z_len bE (aa (pv 0) af)) af))) af))) af))) (aY (i:=3) AV.nd rfl (Or.inl rfl)) (ag (ax (i:=4) AV.nd rfl (Or.inl rfl) (aA zl (hr.mono (by decide)) (by rfl) (aa (aA yM (hr.mono (by decide)) (by rfl) (aa (pv 0) (aa (pv 3) af))) (aa (pv 1) (aa (pv 2) af))))) (ag (ax (i:=5) AV.nd rfl (Or.inl rfl) (ku Ax (hr.mono (by decide)) (by rfl) (aa (fj dR (by rfl) T.z_list kW (aa (pv 1) af)) (aa (fj dR (by rfl) T.z_list kW (aa (pv 2) af)) (aa (pv 4) af))))) (ag (aQ (ga (fG (cz (aG dQ (by rfl) T.z_isinstance dj (aa (pv 5) (aa (oa T.z_tuple mF) af))))) (eG (aC gU (aG aI (by rfl) T.z_len bE (aa (pv 5) af)) ad (aE _)))).pt (ao (aB fD)) aF) (ao (aQ (aC gU (ar ap (pv 5) ad (fun _ _=>rfl)) (ar aO (bD (aa eO (aa eO af))) (fj qh (by rfl) T.z_int rW (aa (aA Av (hr.mono (by decide)) (by rfl) (aa (pv 1) (aa (pv 2) (aa (pv 4) af)))) af)) (fun _ _=>rfl)) (aE _)) (ao (aB fD)) aF)))))) (ao (aB fD))))),?_⟩;have hs63:(ss.map V.int).length≤63:=by rw[List.length_map];exact hlen
  have TB:Bx H t_free_walk t_free_fence:=⟨nO (htab _ List.mem_cons_self),nO (htab _ (List.mem_cons_of_mem _ List.mem_cons_self)),AP⟩;refine⟨_,rfl,sa,ss,0,rfl,hS,by decide,by decide,fun p0 m0 H0 s0 np0 f0=>?_⟩;refine⟨p0,_,5,rfl,f0,⟨by decide,by decide⟩,fun l qs H1 L1 h1 h5 nl P1=>?_⟩;have S1:Same H H1:=P1.same s0 np0;refine⟨_,rfl,sa,ss,1,rfl,S1.seq hS,by decide,by decide,fun p2 m2 H2 s2 np2 f2=>?_⟩;refine⟨_,rfl,p2,l,_,qs,5,rfl,f2,L1.mono s2,aV L1.lst np2,⟨h1,h5⟩,by decide,fun r rs H6 R6 g1 g5 nr P3=>?_⟩;have S3:Same H1 H6:=P3.same s2 np2;have L6:=L1.mono S3;have S6:Same H H6:=S1.trans S3;have T6:=TB.same S6;have Q6:SqL K H6 sa (ss.map V.int):=S6.seq hS;refine⟨_,rfl,sa,_,rfl,.inl Q6,_,_,rfl,_,_,rfl,_,_,rfl,?_⟩;have hJ:3≤(if (if (((ss.map V.int).length:Nat):Int)<8 then (((ss.map V.int).length:Nat):Int) else 8)>3 then (if (((ss.map V.int).length:Nat):Int)<8 then (((ss.map V.int).length:Nat):Int) else 8) else 3)∧(if (if (((ss.map V.int).length:Nat):Int)<8 then (((ss.map V.int).length:Nat):Int) else 8)>3 then (if (((ss.map V.int).length:Nat):Int)<8 then (((ss.map V.int).length:Nat):Int) else 8) else 3)≤8:=by
   split <;> split <;> omega
  generalize (if (if (((ss.map V.int).length:Nat):Int)<8 then (((ss.map V.int).length:Nat):Int) else 8)>3 then (if (((ss.map V.int).length:Nat):Int)<8 then (((ss.map V.int).length:Nat):Int) else 8) else 3)=J at hJ
  have e62:(2:Int)^62=4611686018427387904:=by decide
  refine⟨by rw[e62];omega,dZ (n:=(J - 2).toNat) (lo:=2) (fun _ σ H7=>∃z3 z4 z5,σ = [some (.ref sa),some (.ref l),some (.ref r),z3,z4,z5]∧ce H6 H7∧Bx H7 t_free_walk t_free_fence) ⟨_,_,_,rfl,ce.refl _,T6⟩ ?_ ?_⟩
  ·rintro i σ H7 hi ⟨z3,z4,z5,rfl,N7,T7⟩
   refine⟨_,rfl,_,rfl,sa,ss,_,rfl,N7.seq Q6,by omega,by omega,fun pp np H8 s8 n8 f8=>?_⟩;have L7:=N7.line L6;have R7:=N7.line R6;refine⟨_,rfl,_,rfl,pp,l,r,_,qs,rs,rfl,f8,L7.mono s8,R7.mono s8,⟨aV L7.lst n8,aV R7.lst n8⟩,⟨h1,by omega⟩,⟨g1,by omega⟩,fun z a b H9 P9 sq9 lw a0=>?_⟩;have S9:Same H7 H9:=P9.same s8 n8;have L9:=L7.mono S9;have R9:=R7.mono S9;refine⟨_,rfl,l,_,rfl,.inl (SqL.of L9.lst),fun m1 H10 s10 f10 n10=>?_⟩;refine⟨_,rfl,r,_,rfl,.inl (SqL.of (R9.mono s10).lst),fun m2 H11 s11 f11 n11=>?_⟩;have S11:=s10.trans s11;have M1:LineM H11 m1 qs:=⟨s11 _ _ f10,(L9.mono S11).crn⟩;have M2:LineM H11 m2 rs:=⟨f11,(R9.mono S11).crn⟩;have sq11:=sq9.mono S11;refine⟨_,rfl,m1,m2,qs,rs,.ref z,rfl,M1,M2,⟨h1,by omega⟩,⟨g1,by omega⟩,vO sq11,.inr ⟨uP sq11 (ux lw) a0,z,a,b,rfl,⟨sq11,lw.pos,a0⟩,T7.same (S9.trans S11),fun t rr H12 ps wk _ _ _ N12 T12 _ e12 gof=>?_⟩⟩;have M12:ce H7 H12:=(ce.of (S9.trans S11)).trans N12;refine⟨_,rfl,_,_,_,rfl,.tup e12,.inr (.inr (.inl rfl)),?_⟩;refine⟨_,rfl,fB ?_⟩;refine⟨_,rfl,t,_,rfl,.inr (SqT.of e12),rfl,_,rfl,fB ?_⟩;refine⟨_,rfl,t,_,_,_,rfl,rfl,SqT.of e12,rfl,sz (by simp),fun pl H13 s13 f13 n13=>?_⟩;have M13:=M12.trans (.of s13);have sq13:Sq H13 z a b:=⟨s13 _ _ (N12.t sq11.at_),sq11.ba,sq11.bb⟩;refine⟨_,rfl,_,rfl,_,rfl,l,r,z,qs,rs,a,b,rfl,M13.line L7,M13.line R7,⟨h1,by omega⟩,⟨g1,by omega⟩,⟨sq13,lw.pos⟩,fun c H14 hc s14=>?_⟩;have ec:c=wk:=by
    have:=tI gof;cases c <;> cases wk <;> simp_all
   have idx:atI [V.str "fence",V.str "walk"] (if c=true then 1 else 0)=some (.str (if wk=true then "walk" else "fence")):=by
    rw[ec];cases wk <;> rfl
   refine .inr ⟨_,rfl,pl,_,_,.str (if wk=true then "walk" else "fence"),rfl,rfl,SqL.of (s14 _ _ f13),idx,rfl,_,rfl,?_⟩
   rw[wm rfl];refine fB ?_;exact⟨_,_,_,rfl,N7.trans (M13.trans (.of s14)),T12.same (s13.trans s14)⟩
  ·rintro σ H7 ⟨z3,z4,z5,rfl,N7,T7⟩
   exact fin _
end
theorem hLeft:W.LeftO Challenge.rw_oneleash_k33_free_by_fields.prog hView hLoose (fun _=>true) (W.Hook.obs (Hd.hookT hFacts hGood)) (W.Hook.val (Hd.hookT hFacts hGood)) 100000:=xj
theorem hTabOk{K:W.Frag}(FK:hFacts K=hGood):hTabs.all (Hd.tabFact K)=true:=(congrArg Prod.fst (congrArg Prod.snd (congrArg Prod.snd FK)))
theorem all_of{P:Program}{w:World}{K0 K:W.Frag}(eK:K=Hd.strip K0)(FK0:hFacts K0=hGood){h:Heap}{mg:Str->Option Value}{fa:Addr}(X:K.In h)(G:h.Ns mainGlobals mg)(hfa:mg "law" = some (.ref fa)) :
  ∃fd:FuncData,(∀(s:Shared) (v:Value),BindsTo s fd ⟨[v],[]⟩ [("script",v)])∧∀base:Heap,K.In base->base.Ns mainGlobals mg->zU P w K mg base CX0 11 fa fd ["script"] (mQ K (hTabs.map (Hd.tabP K0))):=by
 have FK:(hF0 K,hF1 K,hF2 K0)=hGood:=by
  rw[eK];exact FK0
 have H0:(iy.map (fun p=>Hd.fnFact K p.1):List (Option (Arguments×List Stmt×Scope×Value)))=iy.map (fun p=>some (a8 (top p.2),aJ (top p.2),ai (top p.2),.none)):=(congrArg Prod.fst FK);have H1:(ix.map (fun p=>Hd.fnFactD K p.1):List (Option (Arguments×List Stmt×Scope×List V)))=ix.map (fun p=>some (a8 (top p.2.1),aJ (top p.2.1),ai (top p.2.1),p.2.2)):=(congrArg Prod.fst (congrArg Prod.fst (congrArg Prod.snd FK)));have H2:(wG.all (Hd.excFact K):Bool)=true:=(congrArg Prod.fst (congrArg Prod.snd (congrArg Prod.fst (congrArg Prod.snd FK))));have H3:(hNo.all (Hd.noFact K):Bool)=true:=(congrArg Prod.fst (congrArg Prod.snd (congrArg Prod.snd (congrArg Prod.fst (congrArg Prod.snd FK)))));have H4:(tE.map (fun p=>Hd.tupFact K p.1):List (Option (List V)))=tE.map (fun p=>some p.2):=(congrArg Prod.fst (congrArg Prod.snd (congrArg Prod.snd (congrArg Prod.snd (congrArg Prod.fst (congrArg Prod.snd FK))))));have H5:(wD.all (Hd.ownFact K):Bool)=true:=(congrArg Prod.fst (congrArg Prod.snd (congrArg Prod.snd (congrArg Prod.snd (congrArg Prod.snd (congrArg Prod.fst (congrArg Prod.snd FK)))))));have H6:(hMt.map (fun p=>Hd.mtFact K p.1 p.2.1 p.2.2.1):List (Option (Arguments×List Stmt×Scope×Value)))=hMt.map (fun p=>some (a8 p.2.2.2,aJ p.2.2.2,ai p.2.2.2,.none)):=(congrArg Prod.fst (congrArg Prod.snd (congrArg Prod.snd (congrArg Prod.snd (congrArg Prod.snd (congrArg Prod.snd (congrArg Prod.fst (congrArg Prod.snd FK))))))));have H7:(wJ K:List (Option (Option V)))=uC:=(congrArg Prod.fst (congrArg Prod.snd (congrArg Prod.snd (congrArg Prod.snd (congrArg Prod.snd (congrArg Prod.snd (congrArg Prod.snd (congrArg Prod.fst (congrArg Prod.snd FK)))))))));have H8:(wI K:List (Option (Option Value)))=uB:=(congrArg Prod.fst (congrArg Prod.snd (congrArg Prod.snd (congrArg Prod.snd (congrArg Prod.snd (congrArg Prod.snd (congrArg Prod.snd (congrArg Prod.snd (congrArg Prod.fst (congrArg Prod.snd FK))))))))));have H9:(wH K:List (Bool))=uA:=(congrArg Prod.snd (congrArg Prod.snd (congrArg Prod.snd (congrArg Prod.snd (congrArg Prod.snd (congrArg Prod.snd (congrArg Prod.snd (congrArg Prod.snd (congrArg Prod.fst (congrArg Prod.snd FK))))))))));have H10:(hTabs.all (Hd.tabFact K0):Bool)=true:=(congrArg Prod.fst (congrArg Prod.snd (congrArg Prod.snd FK)));have H11:(Hd.bltFact (Hd.strip K0):Bool)=true:=(congrArg Prod.fst (congrArg Prod.snd (congrArg Prod.snd (congrArg Prod.snd FK))));have H12:(Hd.apart (hTabs.map (Hd.tabP K0)):Bool)=true:=(congrArg Prod.snd (congrArg Prod.snd (congrArg Prod.snd (congrArg Prod.snd FK))));have Ah:Df K mg "is_whole" (top 5):=Hd.df_of X G (Hd.at_map H0 0 rfl);have yw:Df K mg "common_divisor" (top 6):=Hd.df_of X G (Hd.at_map H0 1 rfl);have BG:Df K mg "plus" (top 8):=Hd.df_of X G (Hd.at_map H0 2 rfl);have Ai:Df K mg "is_ratio" (top 9):=Hd.df_of X G (Hd.at_map H0 3 rfl);have Ay:Df K mg "sign_of" (top 11):=Hd.df_of X G (Hd.at_map H0 4 rfl);have yB:Df K mg "signed_square" (top 12):=Hd.df_of X G (Hd.at_map H0 5 rfl);have yt:Df K mg "sign_with_root" (top 13):=Hd.df_of X G (Hd.at_map H0 6 rfl);have yl:Df K mg "sign_with_roots" (top 14):=Hd.df_of X G (Hd.at_map H0 7 rfl);have zq:Df K mg "root_order" (top 15):=Hd.df_of X G (Hd.at_map H0 8 rfl);have zA:Df K mg "floor_root" (top 16):=Hd.df_of X G (Hd.at_map H0 9 rfl);have yT:Df K mg "own_fraction" (top 17):=Hd.df_of X G (Hd.at_map H0 10 rfl);have yQ:Df K mg "scaled_floor" (top 18):=Hd.df_of X G (Hd.at_map H0 11 rfl);have zN:Df K mg "below_all" (top 19):=Hd.df_of X G (Hd.at_map H0 12 rfl);have yP:Df K mg "shared_terms" (top 20):=Hd.df_of X G (Hd.at_map H0 13 rfl);have yb:Df K mg "fraction_of_terms" (top 21):=Hd.df_of X G (Hd.at_map H0 14 rfl);have ym:Df K mg "fraction_within" (top 22):=Hd.df_of X G (Hd.at_map H0 15 rfl);have yR:Df K mg "root_between" (top 23):=Hd.df_of X G (Hd.at_map H0 16 rfl);have yv:Df K mg "look_at_square" (top 27):=Hd.df_of X G (Hd.at_map H0 17 rfl);have zb:Df K mg "leash_order" (top 28):=Hd.df_of X G (Hd.at_map H0 18 rfl);have zZ:Df K mg "reach_of" (top 29):=Hd.df_of X G (Hd.at_map H0 19 rfl);have y9:Df K mg "part_within" (top 30):=Hd.df_of X G (Hd.at_map H0 20 rfl);have AA:Df K mg "last_of" (top 32):=Hd.df_of X G (Hd.at_map H0 21 rfl);have yr:Df K mg "with_a_stretch" (top 36):=Hd.df_of X G (Hd.at_map H0 22 rfl);have Aj:Df K mg "doors_of" (top 37):=Hd.df_of X G (Hd.at_map H0 23 rfl);have zd:Df K mg "far_corners" (top 38):=Hd.df_of X G (Hd.at_map H0 24 rfl);have yU:Df K mg "begins_fence" (top 40):=Hd.df_of X G (Hd.at_map H0 25 rfl);have zB:Df K mg "ends_fence" (top 41):=Hd.df_of X G (Hd.at_map H0 26 rfl);have yu:Df K mg "pair_at_corner" (top 42):=Hd.df_of X G (Hd.at_map H0 27 rfl);have zJ:Df K mg "part_from" (top 43):=Hd.df_of X G (Hd.at_map H0 28 rfl);have yS:Df K mg "pair_in_door" (top 44):=Hd.df_of X G (Hd.at_map H0 29 rfl);have Aa:Df K mg "place_on" (top 45):=Hd.df_of X G (Hd.at_map H0 30 rfl);have Ab:Df K mg "pairs_on" (top 46):=Hd.df_of X G (Hd.at_map H0 31 rfl);have AQ:Df K mg "row_to" (top 48):=Hd.df_of X G (Hd.at_map H0 32 rfl)
 have BE:Df K mg "seek" (top 49):=Hd.df_of X G (Hd.at_map H0 33 rfl);have AB:Df K mg "is_cell" (top 51):=Hd.df_of X G (Hd.at_map H0 34 rfl);have yA:Df K mg "steps_through" (top 52):=Hd.df_of X G (Hd.at_map H0 35 rfl);have za:Df K mg "pair_within" (top 53):=Hd.df_of X G (Hd.at_map H0 36 rfl);have zM:Db K mg "free_walk" (top 54) (Hd.tabP K0 "free_walk"):=by
  subst eK;exact Hd.dft_of X G (Hd.at_map H0 37 rfl) (Hd.at_all H10 0 rfl)
 have y7:Df K mg "steps_along" (top 55):=Hd.df_of X G (Hd.at_map H0 38 rfl);have zy:Db K mg "free_fence" (top 56) (Hd.tabP K0 "free_fence"):=by
  subst eK;exact Hd.dft_of X G (Hd.at_map H0 39 rfl) (Hd.at_all H10 1 rfl)
 have AC:Df K mg "go_free" (top 57):=Hd.df_of X G (Hd.at_map H0 40 rfl);have zc:Df K mg "_law_cell_at" (top 59):=Hd.df_of X G (Hd.at_map H0 41 rfl);have Ad:Df K mg "_law_pool" (top 60):=Hd.df_of X G (Hd.at_map H0 42 rfl);have Ac:Df K mg "_law_take" (top 61):=Hd.df_of X G (Hd.at_map H0 43 rfl);have Af:Df K mg "_law_line" (top 62):=Hd.df_of X G (Hd.at_map H0 44 rfl);have zK:Df K mg "_law_moved" (top 63):=Hd.df_of X G (Hd.at_map H0 45 rfl);have zt:Df K mg "_law_second" (top 64):=Hd.df_of X G (Hd.at_map H0 46 rfl);have zw:Df K mg "_law_common" (top 66):=Hd.df_of X G (Hd.at_map H0 47 rfl);have zu:Df K mg "_law_lowest" (top 68):=Hd.df_of X G (Hd.at_map H0 48 rfl);have zL:Df K mg "_law_above" (top 69):=Hd.df_of X G (Hd.at_map H0 49 rfl);have Ag:Df K mg "_law_foot" (top 74):=Hd.df_of X G (Hd.at_map H0 50 rfl);have zx:Df K mg "_law_beside" (top 75):=Hd.df_of X G (Hd.at_map H0 51 rfl);have zr:Df K mg "_law_square" (top 76):=Hd.df_of X G (Hd.at_map H0 52 rfl);have Ae:Df K mg "_law_open" (top 77):=Hd.df_of X G (Hd.at_map H0 53 rfl);have x9:Df K mg "_law_fields_beside" (top 78):=Hd.df_of X G (Hd.at_map H0 54 rfl);have Az:Df K mg "_law_can" (top 79):=Hd.df_of X G (Hd.at_map H0 55 rfl);have Cl:Df K mg "law" (top 80):=Hd.df_of X G (Hd.at_map H0 56 rfl);have Bl:Dc K mg "ratio" (top 7) [.int 1]:=Hd.dfd_of X G (Hd.at_map H1 0 rfl);have xU:AS K mg "NoRatio" (Hd.cls K "NoRatio"):=Hd.exc_of X G (Hd.at_all H2 0 rfl);have zT:AS K mg "NoSquare" (Hd.cls K "NoSquare"):=Hd.exc_of X G (Hd.at_all H2 1 rfl);have Cu:AS K mg "LeashError" (Hd.cls K "LeashError"):=Hd.exc_of X G (Hd.at_all H2 2 rfl);have T:Txt mg:=⟨W.mg_none_of X G (Hd.no_of (Hd.at_all H3 0 rfl)),W.mg_none_of X G (Hd.no_of (Hd.at_all H3 1 rfl)),W.mg_none_of X G (Hd.no_of (Hd.at_all H3 2 rfl)),W.mg_none_of X G (Hd.no_of (Hd.at_all H3 3 rfl)),W.mg_none_of X G (Hd.no_of (Hd.at_all H3 4 rfl)),W.mg_none_of X G (Hd.no_of (Hd.at_all H3 5 rfl)),W.mg_none_of X G (Hd.no_of (Hd.at_all H3 6 rfl)),W.mg_none_of X G (Hd.no_of (Hd.at_all H3 7 rfl)),W.mg_none_of X G (Hd.no_of (Hd.at_all H3 8 rfl)),W.mg_none_of X G (Hd.no_of (Hd.at_all H3 9 rfl)),W.mg_none_of X G (Hd.no_of (Hd.at_all H3 10 rfl)),W.mg_none_of X G (Hd.no_of (Hd.at_all H3 11 rfl))⟩;obtain⟨Ct,od_BEGIN,its_BEGIN,n_BEGIN,sl_BEGIN,BH,Cq,BI⟩:=Hd.tup_of (Hd.at_map H4 0 rfl);obtain⟨Dh,od_END,its_END,n_END,sl_END,Cw,Dd,Cy⟩:=Hd.tup_of (Hd.at_map H4 1 rfl);have AP_0_1:Hd.tabP K0 "free_walk"≠Hd.tabP K0 "free_fence":=Hd.apart_ne H12 (i:=0) (j:=1) rfl rfl (by decide);have BF:sj K mg:=by
  subst eK;exact Hd.blt_of X G H11
 have zO:(W.nsIn K mainGlobals "UPRIGHT").map (fun o=>o.map Hd.bareV)=some (some (.int 0)):=Hd.at_two H7 0 rfl rfl;have Be:(W.nsIn K mainGlobals "LEVEL").map (fun o=>o.map Hd.bareV)=some (some (.int 1)):=Hd.at_two H7 1 rfl rfl;have sa_Field:W.findIn K (.ref (Hd.cls K "Field")) "__setattr__" = some (some (.builtin "object.__setattr__")):=Hd.at_two H8 0 rfl rfl;have n_room:W.findIn K (.ref (Hd.cls K "Field")) "room" = some none:=Hd.at_two H8 1 rfl rfl;have n_last:W.findIn K (.ref (Hd.cls K "Field")) "last" = some none:=Hd.at_two H8 2 rfl rfl;have n_doors:W.findIn K (.ref (Hd.cls K "Field")) "doors" = some none:=Hd.at_two H8 3 rfl rfl;have n_far:W.findIn K (.ref (Hd.cls K "Field")) "far" = some none:=Hd.at_two H8 4 rfl rfl;have sm:(K.lookup sysModules).isSome=true:=Hd.at_two H9 0 rfl rfl;have xr:AN K mg "Field" (Hd.cls K "Field"):=Hd.own_of X G (Hd.at_all H5 0 rfl) sa_Field;have yV:Dn K (Hd.cls K "Field") "__init__" "Field.__init__" (sZ 39 0):=Hd.dfm_of (Hd.at_map H6 0 rfl);refine vh h hfa fun base=>?_;have hB:∀H,SqT K H Ct [.int 0,.int 0,.int 0,.int 1]:=fun H=>SqT.mod Cq rfl (Hd.vals_sz BI (by decide)) BI;have hE:∀H,SqT K H Dh [.int 1,.int 0,.int 0,.int 1]:=fun H=>SqT.mod Dd rfl (Hd.vals_sz Cy (by decide)) Cy;have xT:=mj (P:=P) (w:=w) (base:=base) Ah T;have xD:=gB (P:=P) (w:=w) (base:=base) yw T;have yE:=rF (P:=P) (w:=w) (base:=base) Bl xU xT xD;have xu:=nq (P:=P) (w:=w) (base:=base) Ay;have xx:=gP (P:=P) (w:=w) (base:=base) yB T;have yn:=gy (P:=P) (w:=w) (base:=base) yt xu xx;have yj:=fK (P:=P) (w:=w) (base:=base) yl xu xx yn;have xv:=jw (P:=P) (w:=w) (base:=base) zq yj;have xX:=jD (P:=P) (w:=w) (base:=base) zA;have xJ:=hW (P:=P) (w:=w) (base:=base) yQ xX;have zI:=kO (P:=P) (w:=w) (base:=base) zN xJ;have yI:=hV (P:=P) (w:=w) (base:=base) yP T;have xZ:=eS (P:=P) (w:=w) (base:=base) yb yE T;have yk:=fL (P:=P) (w:=w) (base:=base) ym xJ zI xZ yI;have yL:=hZ (P:=P) (w:=w) (base:=base) yT xU xX xu yE;have yJ:=hX (P:=P) (w:=w) (base:=base) yR xU xv yL yk;have Bj:=tP (P:=P) (w:=w) (base:=base) BG yE;have zX:=mo (P:=P) (w:=w) (base:=base) Ai xT xD T;have yf:=nA (P:=P) (w:=w) (base:=base) AA T;have xQ:=jd (P:=P) (w:=w) (base:=base) zb xu;have zV:=l7 (P:=P) (w:=w) (base:=base) zZ;have yo:=gA (P:=P) (w:=w) (base:=base) yv zT zX;have yx:=jb (P:=P) (w:=w) (base:=base) y9 (W.mg_of X G BH) (W.mg_of X G Cw) hB hE xQ zV xu xv;have AO:=pX (P:=P) (w:=w) (base:=base) AQ T;have Au:=tO (P:=P) (w:=w) (base:=base) BE AO T;have yN:=h8 (P:=P) (w:=w) (base:=base) yU;have zp:=jE (P:=P) (w:=w) (base:=base) zB;have xA:=gz (P:=P) (w:=w) (base:=base) yu;have y4:=jf (P:=P) (w:=w) (base:=base) zd xQ T;have xW:=gx (P:=P) (w:=w) (base:=base) yr T;have zY:=mw (P:=P) (w:=w) (base:=base) Aj (Hd.int_of X G zO) (Hd.int_of X G Be) yx yf T;have yO:=ia (P:=P) (w:=w) (base:=base) yV xr n_room n_last n_doors n_far xW yf zY y4 T;have zG:=kK (P:=P) (w:=w) (base:=base) zJ (W.mg_of X G BH) (W.mg_of X G Cw) hB hE xv yJ;have yK:=hY (P:=P) (w:=w) (base:=base) yS (Hd.int_of X G zO) Bj;have Aw:=nB (P:=P) (w:=w) (base:=base) AB xr n_last n_doors n_far;have yZ:=jc (P:=P) (w:=w) (base:=base) za xr n_last n_doors n_far zG yK;have yz:=gO (P:=P) (w:=w) (base:=base) yA xr n_last n_doors n_far (Hd.int_of X G zO) (Hd.int_of X G Be) Aw;have yY:=ja (P:=P) (w:=w) (base:=base) y7 xr n_last n_doors n_far (Hd.int_of X G zO) (Hd.int_of X G Be);have zH:=kN (P:=P) (w:=w) (base:=base) zM xr n_last n_doors n_far BF Au yz xA yZ T;have zo:=jC (P:=P) (w:=w) (base:=base) zy xr n_last n_doors n_far BF Au yY yN zp xA T;have zj:=l8 (P:=P) (w:=w) (base:=base) Aa T;have zk:=l9 (P:=P) (w:=w) (base:=base) Ab zj T;have Ax:=nD (P:=P) (w:=w) (base:=base) AC xr yo yO zH zo zk;have y3:=je (P:=P) (w:=w) (base:=base) zc T;have yM:=me (P:=P) (w:=w) (base:=base) Ad y3 T;have xp:=md (P:=P) (w:=w) (base:=base) Ac;have yq:=mh (P:=P) (w:=w) (base:=base) Af xp T;have yW:=kL (P:=P) (w:=w) (base:=base) zK xp T;have zm:=jy (P:=P) (w:=w) (base:=base) zt xp yW yq T;have zn:=jA (P:=P) (w:=w) (base:=base) zw;have xG:=jz (P:=P) (w:=w) (base:=base) zu zn T;have xH:=kM (P:=P) (w:=w) (base:=base) zL;have zW:=mi (P:=P) (w:=w) (base:=base) Ag xH T;have xM:=jB (P:=P) (w:=w) (base:=base) zx zW xG T;have zl:=jx (P:=P) (w:=w) (base:=base) zr xp xM xG T;have yp:=mf (P:=P) (w:=w) (base:=base) Ae xM xH T;have xY:=eR (P:=P) (w:=w) (base:=base) x9 yp T;have Av:=nu (P:=P) (w:=w) (base:=base) Az xH xY T;exact vq Cl AP_0_1 yq zm yM zl Av Ax T
end K33
end
open PySem PySem.W PyProof.Rows
lay_quick Challenge.pw_oneleash_k33_free_by_fields
set_option maxRecDepth 100000 in
set_option maxHeartbeats 0 in
theorem PySem.Challenge.cw_oneleash_k33_free_by_fields_holds : PySem.Challenge.rw_oneleash_k33_free_by_fields.Holds := by
 w_on;o_law
 refine holds_open (q:=K33.hView) (loose:=K33.hLoose) (Xt:=fun _=>true) (XP:=fun _ _=>True) (Yf:=Hook.obs (Hd.hookT K33.hFacts K33.hGood)) (Ya:=Hook.val (Hd.hookT K33.hFacts K33.hGood)) (YP:=Hook.says (Hd.hookT K33.hFacts K33.hGood)) (N:=100000) K33.hLeft (Hook.of _) (Hook.keeps _) (fun _ _=>trivial) (fun _ _ _ _ _=>trivial) (by rfl) (by rfl) (by rfl) (fun _ _=>recFacts_nil rfl) (by rfl) (by first|assumption|decide +kernel) (by decide +kernel) ⟨rfl,rfl,rfl,rfl,rfl,by decide +kernel⟩ ?hw ?hc
 case hw=>w_witness2
 exact Hd.law_walkT (names:=K33.hTabs) (l:=Challenge.rw_oneleash_k33_free_by_fields) (k:=11) ⟨rfl,by decide,by decide,rfl⟩ rfl rfl (fun K FK=>K33.hTabOk FK) fun K FK w mg fa h KX G hmg=>K33.all_of rfl FK KX G hmg
