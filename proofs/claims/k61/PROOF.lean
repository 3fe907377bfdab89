import PyProof.Rows.All
import Wide.All
import OpenK.AllK
import Wide.FinOn
import Lean
import PyProof.EqAt
import PyProof.EqKinds
import PyProof.TupleCall
import PyProof.ExcArgsOwn
import KE.KTryMore
import PyProof.NsDelKeeps
import PyProof.ConsumeWalk
import PyProof.ZipIter
import PyProof.WalksEnum
import PyProof.EnumMake
import PyProof.NeKinds
import PyProof.CompMap
import KE.KRevIter
import PyProof.ListRange
import KE.KSliceW
import KE.KIntText
import PyProof.StrWalks
import PySem.Challenge.RW_oneleash_k61_whole_written_walks_and_fen
local macro_rules | `(tactic| omega)=>`(tactic| lia)
section
set_option Elab.async false
set_option linter.all false
set_option maxRecDepth 100000
namespace L2
open PySem PySem.Spec PyProof.Rows
noncomputable abbrev Key:=Sum Int Str
noncomputable def xy:Key->Value->Bool
 | .inl k,v=>Value.isInt k v
 | .inr x,v=>Value.isStrOf x v
noncomputable def z8(w:World):Key->Int
 | .inl k=>hashInt k
 | .inr x=>hashStr w x
theorem bW:∀{k:Key} {v:Value},xy k v=true->(∃i t,k=Sum.inl i/\v=Value.int i t)\/(∃x t,k=Sum.inr x/\v=Value.str x t)
 | .inl i,v,h=>by
  obtain⟨t,e⟩:=Value.isInt_shape (k:=i) (v:=v) h;exact .inl ⟨i,t,rfl,e⟩
 | .inr x,v,h=>by
  obtain⟨t,e⟩:=Value.isStrOf_shape (x:=x) (v:=v) h;exact .inr ⟨x,t,rfl,e⟩
theorem yr(a b:Int):decide ((Sum.inl a:Key)=Sum.inl b)=(a == b):=by
 by_cases e:a=b
 ·subst e;simp
 ·have h:¬(Sum.inl a:Key)=Sum.inl b:=λq=>e (Sum.inl.inj q)
  rw[decide_eq_false h];exact(beq_eq_false_iff_ne.mpr e).symm
theorem yo(a b:Str):decide ((Sum.inr a:Key)=Sum.inr b)=decide (a=b):=by
 by_cases e:a=b
 ·subst e;simp
 ·have h:¬(Sum.inr a:Key)=Sum.inr b:=λq=>e (Sum.inr.inj q)
  rw[decide_eq_false h,decide_eq_false e]
theorem yq(a:Int)(b:Str):decide ((Sum.inl a:Key)=Sum.inr b)=false:=decide_eq_false (λq=>nomatch q)
theorem yp(a:Str)(b:Int):decide ((Sum.inr a:Key)=Sum.inl b)=false:=decide_eq_false (λq=>nomatch q)
noncomputable def rl(prog:Program)(w:World):PySem.KeyKind prog w Key where
 is:=xy
 hash:=z8 w
 inj:=λv a b ha hb=>by
  rcases bW ha with⟨i,t,rfl,rfl⟩|⟨x,t,rfl,rfl⟩
  ·rcases bW hb with⟨j,u,rfl,e⟩|⟨y,u,rfl,e⟩
   ·injection e with e1 _;rw[e1]
   ·exact nomatch e
  ·rcases bW hb with⟨j,u,rfl,e⟩|⟨y,u,rfl,e⟩
   ·exact nomatch e
   ·injection e with e1 _;rw[e1]
 byValue:=λk v h=>by
  rcases bW h with⟨i,t,rfl,rfl⟩|⟨x,t,rfl,rfl⟩ <;> rfl
 pyHash:=λhv h=>by
  rcases bW hv with⟨i,t,rfl,rfl⟩|⟨x,t,rfl,rfl⟩
  ·exact wpAny_pyHash_int h
  ·exact wpAny_pyHash_str h
 eqBool:=λhu hv h=>by
  rcases bW hu with⟨i,t,rfl,rfl⟩|⟨x,t,rfl,rfl⟩
  ·rcases bW hv with⟨j,u,rfl,rfl⟩|⟨y,u,rfl,rfl⟩
   ·rw[yr]at h;exact wpAny_eqBool_int h
   ·rw[yq]at h;exact SeqAt.EqAt.int_str i t y u _ _ _ _ h
  ·rcases bW hv with⟨j,u,rfl,rfl⟩|⟨y,u,rfl,rfl⟩
   ·rw[yp]at h;exact SeqAt.EqAt.str_int x t j u _ _ _ _ h
   ·rw[yo]at h;exact wpAny_eqBool_str h
 «strs»:=λk x t v h=>by
  rcases bW h with⟨i,u,rfl,e⟩|⟨y,u,rfl,e⟩
  ·exact nomatch e
  ·injection e with e1 _
   subst e1;cases v <;> rfl
inductive V where
 | non|bl (b:Bool)|int (i:Int)|str (x:Str)|byt (b:Array UInt8)|flt (b:UInt64)|ref (a:Addr)|ty (n:String)
 deriving DecidableEq
noncomputable def a6:V->Value->Prop
 | .non,u=>u=Value.none
 | .bl b,u=>u=Value.bool b
 | .int i,u=>∃t,u=Value.int i t
 | .str x,u=>∃t,u=Value.str x t
 | .byt b,u=>∃t,u=Value.bytes b t
 | .flt b,u=>∃t,u=Value.float b t
 | .ref a,u=>u=Value.ref a
 | .ty n,u=>u=Value.type n
noncomputable abbrev aJ:List V->List Value->Prop:=Paired a6
theorem aJ.length{xs:List V}{us:List Value}(r:aJ xs us):xs.length=us.length:=Paired.length r
theorem aJ.get:∀{xs:List V} {us:List Value} {i:Nat} {x:V},aJ xs us->xs[i]? = some x->∃u,us[i]? = some u/\a6 x u
 | _,_,_,_,.nil,e=>by simp at e
 | _,_,0,_,.cons r _,e=>by simp at e;subst e;exact⟨_,rfl,r⟩
 | _,_,i+1,x,.cons _ t,e=>by
  obtain⟨u,h1,h2⟩:=aJ.get (i:=i) (x:=x) t (by simpa using e);exact⟨u,by simpa using h1,h2⟩
theorem aJ.set{x:V}{u:Value}(r:a6 x u):∀{xs:List V} {us:List Value} (i:Nat),aJ xs us->aJ (xs.set i x) (us.set i u)
 | _,_,_,.nil=>.nil
 | _,_,0,.cons _ t=>.cons r t
 | _,_,i+1,.cons q t=>.cons q (aJ.set r i t)
theorem aJ.append:∀{xs ys:List V} {us ws:List Value},aJ xs us->aJ ys ws->aJ (xs++ys) (us++ws)
 | _,_,_,_,.nil,s=>s
 | _,_,_,_,.cons r t,s=>.cons r (aJ.append t s)
theorem aJ.take:∀{xs:List V} {us:List Value} (n:Nat),aJ xs us->aJ (xs.take n) (us.take n)
 | _,_,0,_=>.nil
 | _,_,_+1,.nil=>.nil
 | _,_,n+1,.cons r t=>.cons r (aJ.take n t)
theorem aJ.drop:∀{xs:List V} {us:List Value} (n:Nat),aJ xs us->aJ (xs.drop n) (us.drop n)
 | _,_,0,r=>r
 | _,_,_+1,.nil=>.nil
 | _,_,n+1,.cons _ t=>aJ.drop n t
noncomputable def yK:Option V->Option Value->Prop
 | some v,some u=>a6 v u
 | none,none=>True
 | _,_=>False
noncomputable def KV{κ:Type}:List (κ×V)->List (κ×Value)->Prop:=Paired λ(p:κ×V) (q:κ×Value)=>p.1=q.1/\a6 p.2 q.2
noncomputable def kV:Key->V
 | .inl i=>.int i
 | .inr x=>.str x
inductive HO where
 /-- a list -/
 | lst (xs:List V)
 /-- a tuple (never changes) -/
 | tup (xs:List V)
 /-- a dict whose keys are ints and texts;one whose keys are tuples of ints and texts (the empty one is both) -/
 | dK (kvs:List (Key×V))|dT (kvs:List (List Key×V))
 /-- a set of ints: its members,its size -/
 | set (S:Int->Bool) (n:Nat)
 /-- an instance of the class at C,its dict at dx,its attributes -/
 | ins (C dx:Addr) (fs:List (Str×V))
 /-- the dict of the instance at x -/
 | own (x:Addr)
 /-- the dict of an exception -/
 | xd (fs:List (Str×V))
 /-- a bound method,f of x -/
 | met (f x:Addr)
 /-- a range object lo,lo+1,.. below hi -/
 | rng (lo hi:Int)
 /-- a thing that is known to the object (the script;a dict while a loop walks it): read,never written while it is so -/
 | frz (o:Obj) (u:HO)
 /-- a code object's table -/
 | tbl (ps:Array Value)
 /-- any other thing,by what is true of its one object (a def of one's own: SetO a S n:=HO.ext λh=>..) -/
 | ext (φ:Heap->Prop)
noncomputable abbrev Hp:=Addr->Option HO
noncomputable def upd(H:Hp)(a:Addr)(o:HO):Hp:=λb=>if b=a then some o else H b
theorem upd_same{H:Hp}{a:Addr}{o:HO}:upd H a o a=some o:=by unfold upd;rw[if_pos rfl]
theorem aP{H:Hp}{a b:Addr}{o:HO}(h:b≠a):upd H a o b=H b:=by unfold upd;rw[if_neg h]
theorem uB{H:Hp}{a b:Addr}{o u:HO}(h:H a=some o)(h':H b=some u)(d:o≠u):a≠b:=by
 intro e;subst e;rw[h]at h';exact d (Option.some.inj h')
theorem aL{H:Hp}{a b:Addr}{o:HO}(h:H a=some o)(h':H b=none):a≠b:=by
 intro e;subst e;rw[h]at h';cases h'
section
variable (P:Program) (w:World)
noncomputable def cJ(H:Hp)(h:Heap)(a:Addr):HO->Prop
 | .lst xs=>xs.length<=sizeLine/\∃(its:List Value) (n:Nat),aJ xs its/\h.get? a=some { cls:=.type "list",data:=.seq its.toArray n }
 | .tup xs=>xs.length<=sizeLine/\∃its:List Value,aJ xs its/\IsTup h a its.toArray
 | .dK kvs=>kvs.length<=sizeLine/\(a == sysModules)=false/\∃vs,KV kvs vs/\h.DictOf (rl P w) a vs
 | .dT kvs=>kvs.length<=sizeLine/\(a == sysModules)=false/\∃xs:List (List Key×Addr×Value),
   Paired (λ(p:List Key×V) (q:List Key×Addr×Value)=>p.1=q.1/\H q.2.1=some (.tup (p.1.map kV))/\a6 p.2 q.2.2) kvs xs /\
   ∃o es ep,h.get? a=some o/\o.ExactDict/\o.data = .dict es ep/\es.toList=xs.map (entryOfKey (tupleKind (rl P w)))/\(xs.map (·.1)).Nodup
 | .set S n=>h.SetOf (intKind P w) a S n
 | .ins C dx fs=>H dx=some (.own a)/\fs.length<=1000/\dx≠a/\h.get? a=some (W.instObj C dx) /\
   ∃mA,h.Ns1 dx mA/\(∀f,yK (fs.lookup f) (mA f))/\PySem.Within mA (fs.map (·.1))
 | .own _=>∃o,h.get? a=some o
 | .xd fs=>∃mA,h.Ns1 a mA/\∀f,yK (fs.lookup f) (mA f)
 | .rng lo hi=>∃t u v,h.get? a=some { cls:=.type "range",data:=.fields #[.int lo t,.int hi u,.int 1 v] }
 | .frz o u=>h.get? a=some o/\cJ H h a u
 | .tbl ps=>h.get? a=some { cls:=.none,data:=.fields ps }
 | .met f x=>h.get? a=some (W.methodObj (.ref f) (.ref x))
 | .ext φ=>φ h/\(∃o,h.get? a=some o)/\∀h1 h2:Heap,φ h1->(∀o,h1.get? a=some o->h2.get? a=some o)->φ h2
noncomputable def HOk(H:Hp)(h:Heap):Prop:=∀a o,H a=some o->cJ P w H h a o
end
section
variable {P:Program} {w:World} {H H':Hp} {h h':Heap} {a:Addr} {o:HO}
theorem cJ.lt(x:cJ P w H h a o):a<h.objs.size:=by
 cases o with
 | lst xs=>obtain⟨_,_,_,_,e⟩:=x;exact Heap.lt_size e
 | tup xs=>obtain⟨_,_,_,p⟩:=x;exact p.lt
 | dK kvs=>obtain⟨_,_,_,_,o,_,_,e,_⟩:=x;exact Heap.lt_size e
 | dT kvs=>obtain⟨_,_,_,_,o,_,_,e,_⟩:=x;exact Heap.lt_size e
 | set S n=>obtain⟨o,_,_,_,e,_⟩:=x;exact Heap.lt_size e
 | ins C dx fs=>obtain⟨_,_,_,e,_⟩:=x;exact Heap.lt_size e
 | own y=>obtain⟨_,e⟩:=x;exact Heap.lt_size e
 | xd fs=>obtain⟨_,⟨_,_,_,e,_⟩,_⟩:=x;exact Heap.lt_size e
 | rng lo hi=>obtain⟨_,_,_,e⟩:=x;exact Heap.lt_size e
 | frz ob u=>obtain⟨e,_⟩:=x;exact Heap.lt_size e
 | tbl ps=>exact Heap.lt_size (show h.get? a=some _ from x)
 | met f y=>exact Heap.lt_size (show h.get? a=some _ from x)
 | ext φ=>obtain⟨_,⟨_,e⟩,_⟩:=x;exact Heap.lt_size e
theorem Paired.mapP{α β:Type}{F G:α->β->Prop}:∀{l₁:List α} {l2:List β},Paired F l₁ l2->(∀a b,F a b->G a b)->Paired G l₁ l2
 | _,_,.nil,_=>.nil
 | _,_,.cons r t,f=>.cons (f _ _ r) (Paired.mapP t f)
theorem cJ.stay(x:cJ P w H h a o)(k:∀b u,(b=a\/H b=some (.own a))->h.get? b=some u->h'.get? b=some u)
  (ho:∀b,H b=some (.own a)->H' b=some (.own a)) (ht:∀b xs,H b=some (.tup xs)->H' b=some (.tup xs)):cJ P w H' h' a o:=by
 induction o with
 | lst xs=>obtain⟨z,its,n,r,e⟩:=x;exact⟨z,its,n,r,k _ _ (.inl rfl) e⟩
 | tup xs=>obtain⟨z,its,r,ob,e,c⟩:=x;exact⟨z,its,r,ob,k _ _ (.inl rfl) e,c⟩
 | dK kvs=>obtain⟨z,y,vs,r,ob,es,ep,e,c⟩:=x;exact⟨z,y,vs,r,ob,es,ep,k _ _ (.inl rfl) e,c⟩
 | dT kvs =>
  obtain⟨z,y,xs,r,ob,es,ep,e,c⟩:=x;exact⟨z,y,xs,Paired.mapP r λp q z=>⟨z.1,ht _ _ z.2.1,z.2.2⟩,ob,es,ep,k _ _ (.inl rfl) e,c⟩
 | set S n=>obtain⟨ob,es,ep,t,e,c⟩:=x;exact⟨ob,es,ep,t,k _ _ (.inl rfl) e,c⟩
 | ins C dx fs =>
  obtain⟨d,z,ne,e,mA,⟨od,es,ep,e2,c⟩,r⟩:=x;exact⟨ho _ d,z,ne,k _ _ (.inl rfl) e,mA,⟨od,es,ep,k _ _ (.inr d) e2,c⟩,r⟩
 | own y=>obtain⟨ob,e⟩:=x;exact⟨ob,k _ _ (.inl rfl) e⟩
 | xd fs=>obtain⟨mA,⟨od,es,ep,e,c⟩,r⟩:=x;exact⟨mA,⟨od,es,ep,k _ _ (.inl rfl) e,c⟩,r⟩
 | rng lo hi=>obtain⟨t,u,v,e⟩:=x;exact⟨t,u,v,k _ _ (.inl rfl) e⟩
 | frz ob u ih=>obtain⟨e,q⟩:=x;exact⟨k _ _ (.inl rfl) e,ih q⟩
 | tbl ps =>
  have e:h.get? a=some { cls:=.none,data:=.fields ps }:=x;show h'.get? a=some { cls:=.none,data:=.fields ps };exact k a _ (.inl rfl) e
 | met f y =>
  have e:h.get? a=some (W.methodObj (.ref f) (.ref y)):=x;show h'.get? a=some (W.methodObj (.ref f) (.ref y));exact k a _ (.inl rfl) e
 | ext φ=>obtain⟨p,⟨o,e⟩,st⟩:=x;exact⟨st _ _ p λo q=>k _ _ (.inl rfl) q,⟨o,k _ _ (.inl rfl) e⟩,st⟩
theorem HOk.lt(x:HOk P w H h)(e:H a=some o):a<h.objs.size:=(x a o e).lt
theorem HOk.fresh(x:HOk P w H h)(e:h.objs.size<=a):H a=none:=by
 cases q:H a with
 | none=>rfl
 | some u=>exact absurd (Nat.lt_of_lt_of_le (x.lt q) e) (Nat.lt_irrefl _)
theorem HOk.kept(x:HOk P w H h)(k:∀b u,h.get? b=some u->h'.get? b=some u):HOk P w H h':=λa o e =>
 (x a o e).stay (λb u _ q=>k b u q) (λ_ q=>q) λ_ _ q=>q
theorem HOk.laid(x:HOk P w H h)(k:∀b u,h.get? b=some u->h'.get? b=some u)(hp:h.objs.size<=a)(new:cJ P w (upd H a o) h' a o):HOk P w (upd H a o) h':=λb u e=>by
 have hn:=x.fresh hp
 by_cases hb:b=a
 ·subst hb;rw[upd_same]at e;cases e;exact new
 ·rw[aP hb]at e
  exact(x b u e).stay (λc v _ q=>k c v q) (λc q=>by rw[aP (aL q hn)];exact q) λc xs q=>by rw[aP (aL q hn)];exact q
end
noncomputable def Rd(H:Hp)(a:Addr)(u:HO):Prop:=H a=some u\/∃o,H a=some (.frz o u)
theorem Rd.ok{P:Program}{w:World}{H:Hp}{h:Heap}{a:Addr}{u:HO}(r:Rd H a u)(x:HOk P w H h):cJ P w H h a u:=by
 rcases r with r|⟨o,r⟩
 ·exact x a u r
 ·obtain⟨_,q⟩:=x a _ r
  exact q
noncomputable def Mut:Option HO->Prop
 | some (.lst _)=>True
 | some (.dK _)=>True
 | some (.dT _)=>True
 | some (.set _ _)=>True
 | some (.ins _ _ _)=>True
 | some (.ext _)=>True
 | _=>False
section
variable {P:Program} {w:World} {H:Hp} {h h':Heap} {x e:Addr} {o':HO}
theorem HOk.write(ok:HOk P w H h)(mu:Mut (H x))(he:e=x\/H e=some (.own x))(k:∀b u,b≠e->h.get? b=some u->h'.get? b=some u)(heo:∃u,h'.get? e=some u)
  (new:cJ P w (upd H x o') h' x o'):HOk P w (upd H x o') h':=λb u q=>by
 have nown:∀c y,H c=some (.own y)->c≠x:=λc y r z=>by subst z;rw[r]at mu;exact mu
 have ntup:∀c xs,H c=some (.tup xs)->c≠x:=λc xs r z=>by subst z;rw[r]at mu;exact mu
 by_cases hb:b=x
 ·subst hb;rw[upd_same]at q;cases q;exact new
 ·rw[aP hb]at q
  by_cases hbe:b=e
  ·have q':H b=some (.own x):=by
    rcases he with z|z
    ·exact absurd (hbe.trans z) hb
    ·rw[hbe];exact z
   rw[q]at q';cases q';obtain⟨v,hv⟩:=heo;exact⟨v,by rw[hbe];exact hv⟩
  ·refine(ok b u q).stay (λc v hc r=>k c v ?_ r) (λc r=>by rw[aP (nown c b r)];exact r) λc xs r=>by rw[aP (ntup c xs r)];exact r
   rcases hc with rfl|hc
   ·exact hbe
   ·rintro rfl
    rcases he with z|z
    ·exact nown c b hc z
    ·rw[hc]at z;cases z;exact hb rfl
end
structure Un(fs ex:List Addr)(H H':Hp)(h h':Heap):Prop where
 keep:∀b o,h.get? b=some o->H b=none->b∉fs->b∉ex->h'.get? b=some o
 slot:∀b o,h.get? b=some o->H b=none->b∈fs->b∉ex->∃sl,h'.get? b=some { o with slots:=sl }
 free:∀b o,h.get? b=some o->H b=none->b∉ex->H' b=none
 there:∀b o,h.get? b=some o->b∉ex->∃o',h'.get? b=some o'
 tups:∀b xs,H b=some (.tup xs)->H' b=some (.tup xs)
 frzs:∀b o u,H b=some (.frz o u)->H' b=some (.frz o u)
 tbls:∀b ps,H b=some (.tbl ps)->∃more,H' b=some (.tbl (ps++more))
section
variable {fs fs' ex ex':List Addr} {H H1 H2:Hp} {h h1 h2 h':Heap} {a x e:Addr} {o:HO}
theorem Un.any(u:Un fs ex H H1 h h1){b:Addr}{ob:Obj}(q:h.get? b=some ob)(n:H b=none)(hx:b∉ex):∃sl,h1.get? b=some { ob with slots:=sl }:=by
 by_cases hb:b∈fs
 ·exact u.slot b ob q n hb hx
 ·exact⟨ob.slots,u.keep b ob q n hb hx⟩
theorem Un.kept(k:∀b u,h.get? b=some u->h'.get? b=some u):Un fs ex H H h h' :=
 ⟨λb ob q _ _ _=>k b ob q,λb ob q _ _ _=>⟨ob.slots,k b ob q⟩,λ_ _ _ n _=>n,λb ob q _=>⟨ob,k b ob q⟩,λ_ _ q=>q,λ_ _ _ q=>q,λ_ ps q=>⟨#[],by rw[q];simp⟩⟩
theorem Un.refl:Un fs ex H H h h:=Un.kept λ_ _ q=>q
theorem Un.laid(k:∀b u,h.get? b=some u->h'.get? b=some u)(hp:h.objs.size<=a)(hn:H a=none):Un fs ex H (upd H a o) h h' where
 keep:=λb u q _ _ _=>k b u q
 slot:=λb u q _ _ _=>⟨u.slots,k b u q⟩
 free:=λb u q n _=>by rw[aP (Nat.ne_of_lt (Nat.lt_of_lt_of_le (Heap.lt_size q) hp))];exact n
 there:=λb u q _=>⟨u,k b u q⟩
 tups:=λb xs q=>by rw[aP (aL q hn)];exact q
 frzs:=λb u xs q=>by rw[aP (aL q hn)];exact q
 tbls:=λb ps q=>⟨#[],by rw[aP (aL q hn),q];simp⟩
theorem Un.write(mu:Mut (H x))(he:e=x\/H e=some (.own x))(k:∀b u,b≠e->h.get? b=some u->h'.get? b=some u)(heo:∃u,h'.get? e=some u):Un fs ex H (upd H x o) h h':=by
 have hx:∀b,H b=none->b≠x:=λb n z=>by subst z;rw[n]at mu;exact mu
 have hb:∀b,H b=none->b≠e:=λb n z=>by
  subst z;rcases he with r|r
  ·exact hx b n r
  ·rw[n]at r;cases r
 have hm:∀b u,H b=some u->¬Mut (some u)->b≠x:=λb u q nm z=>by subst z;rw[q]at mu;exact nm mu
 refine⟨λb u q n _ _=>k b u (hb b n) q,λb u q n _ _=>⟨u.slots,k b u (hb b n) q⟩,λb u q n _=>by rw[aP (hx b n)];exact n,λb u q _=>?_,
  λb xs q=>by rw[aP (hm b _ q λz=>z)];exact q,λb u xs q=>by rw[aP (hm b _ q λz=>z)];exact q,λb ps q=>⟨#[],by rw[aP (hm b _ q λz=>z),q];simp⟩⟩
 by_cases hbe:b=e
 ·subst hbe;exact heo
 ·exact⟨u,k b u hbe q⟩
end
noncomputable def trk(h:Heap)(H:Hp):List Addr:=(List.range h.objs.size).filter λa=>(H a).isSome
noncomputable def mR(h:Heap)(H:Hp):Heap:=W.hideAll h (trk h H)
theorem sZ(h:Heap)(H:Hp):(mR h H).objs.size=h.objs.size:=W.hideAll_size _ _
theorem u6{h:Heap}{H:Hp}{b:Addr}{o:Obj}(e:h.get? b=some o)(n:H b=none):(mR h H).get? b=some o :=
 W.hideAll_get _ e λhm=>by
  have q:(H b).isSome=true:=(List.mem_filter.mp hm).2;rw[n]at q;simp at q
theorem wj{h:Heap}{H:Hp}{b:Addr}{o:Obj}(e:(mR h H).get? b=some o):h.get? b=some o/\H b=none:=by
 have e':h.get? b=some o:=W.of_hideAll (trk h H) e;refine⟨e',?_⟩;cases q:H b with
 | none=>rfl
 | some x =>
  have hm:b∈trk h H:=List.mem_filter.mpr ⟨List.mem_range.mpr (Heap.lt_size e'),by simp[q]⟩;have z:(mR h H).get? b=none:=W.hideAll_none (trk h H) hm;rw[z]at e;cases e
structure Mod(K:W.Frag)(mg:Str->Option Value)(base:Heap):Prop where
 kin:K.In base
 glob:base.Ns mainGlobals mg
 blt:∃mb,base.Ns builtinsNs mb/\∀x:Str,x≠"__name__"->mb x=bootBuiltins x
 nolimit:base.NoLimit
structure Cx where
 prog:Program
 w:World
 K:W.Frag
 mg:Str->Option Value
 base:Heap
 A:Around
 N:List Str
 s₀:Shared
 H₀:Hp
 env:Env
 outer:List Env
 stack:List Env
 ex:List Addr
 fn:Str->Bool
 calm:Bool
 pn:List (Addr×Obj)
 xe:Value->Shared->Prop
noncomputable def frs(l:List Env):List Addr:=l.filterMap (·.frame)
noncomputable abbrev Cx.fs(X:Cx):List Addr:=frs X.outer
noncomputable def Vis(sc:Scope)(x:Str):Prop:=sc.names.lookup x=some .local\/sc.names.lookup x=some .cell\/sc.names.lookup x=some .free
noncomputable def Loc(sc:Scope)(x:Str):Prop:=sc.names.lookup x=some .local\/sc.names.lookup x=some .cell
noncomputable def Af(env:Env)(h:Heap)(m:Str->Option Value)(x:Str)(u:Value):Prop :=
 (env.kindOf x=some .local/\m x=some u)\/((env.kindOf x=some .cell\/env.kindOf x=some .free)/\∃c,env.cells.lookup x=some c/\h.IsCell c (some u))
structure Cx.Ok(X:Cx):Prop where
 mod:Mod X.K X.mg X.base
 kind:X.env.scope.kind = .function
 glob:X.env.globals=mainGlobals
 blt:X.env.builtins=builtinsNs
 above:X.s₀.heap.objs.size<=X.env.locals
 inj:∀x y c,X.env.cells.lookup x=some c->X.env.cells.lookup y=some c->x=y
 has:∀x,(X.env.kindOf x=some .cell\/X.env.kindOf x=some .free)->∃c,X.env.cells.lookup x=some c
 cab:∀x c,X.fn x=true->X.env.cells.lookup x=some c->X.s₀.heap.objs.size<=c
 hd:X.calm=true->X.A.handled=none
 frames:X.A.frames=some X.stack
 stk:X.stack=X.outer\/(X.stack=X.env::X.outer/\X.env.frame=some X.env.locals)
 exf:∀b∈X.ex,b≠X.env.locals/\∀x c,X.env.cells.lookup x=some c->c≠b
 bs:∀b o,X.base.get? b=some o->X.s₀.heap.get? b=some o/\X.H₀ b=none
 bsz:X.base.objs.size<=X.s₀.heap.objs.size
 noex:∀b o,X.base.get? b=some o->b∉X.ex
 exfs:∀b∈X.ex,b∉X.fs
 funs:X.s₀.heap.FunFrames X.base X.outer
 frf:∀b∈X.fs,X.H₀ b=none
structure Aj(X:Cx)(pins:List (Addr×Obj))(σ:List (Option V))(H:Hp)(s:Shared):Prop where
 ok:X.Ok
 os:s.os=X.s₀.os
 bare:AllBare s.gens
 base:Un X.fs X.ex X.H₀ H X.s₀.heap s.heap
 loc:∃m,s.heap.Ns X.env.locals m/\∀(i:Nat) (x:Str) (v:V),X.N[i]? = some x->σ[i]? = some (some v)->Vis X.env.scope x->∃u,a6 v u/\Af X.env s.heap m x u
 cell:∀x c,X.env.cells.lookup x=some c->∃v,s.heap.IsCell c v
 free:H X.env.locals=none
 freeC:∀x c,X.env.cells.lookup x=some c->H c=none
 pin:∀p∈X.pn++pins,s.heap.get? p.1=some p.2/\H p.1=none/\p.1≠X.env.locals/\p.1∉X.fs/\∀v,p.2.data≠.cell v
 hok:HOk X.prog X.w H s.heap
 len:σ.length=X.N.length
section
variable {X:Cx} {pins:List (Addr×Obj)} {σ:List (Option V)} {H H':Hp} {s:Shared} {h':Heap}
theorem Cx.Ok.nofr(ok:X.Ok){b:Addr}{o:Obj}(e:X.base.get? b=some o):b∉X.fs:=λhb=>by
 have:=(ok.funs.mem hb).1;rw[e]at this;cases this
theorem Aj.bs(I:Aj X pins σ H s):∀b o,X.base.get? b=some o->s.heap.get? b=some o/\H b=none:=λb o e =>
 ⟨I.base.keep b o (I.ok.bs b o e).1 (I.ok.bs b o e).2 (I.ok.nofr e) (I.ok.noex b o e),I.base.free b o (I.ok.bs b o e).1 (I.ok.bs b o e).2 (I.ok.noex b o e)⟩
theorem Aj.bk(I:Aj X pins σ H s):∀b o,X.base.get? b=some o->s.heap.get? b=some o:=λb o e=>(I.bs b o e).1
theorem Aj.mod(I:Aj X pins σ H s):Mod X.K X.mg X.base:=I.ok.mod
theorem Aj.kIn(I:Aj X pins σ H s):X.K.In s.heap:=I.ok.mod.kin.keeps I.bk
theorem Aj.lt(I:Aj X pins σ H s):X.env.locals<s.heap.objs.size:=let ⟨_,hn,_⟩:=I.loc;hn.lt
theorem Aj.sz(I:Aj X pins σ H s):X.s₀.heap.objs.size<=s.heap.objs.size:=Nat.le_trans I.ok.above (Nat.le_of_lt I.lt)
theorem Aj.nofs(I:Aj X pins σ H s){a:Addr}(h:s.heap.objs.size<=a):a∉X.fs:=λhb=>by
 obtain⟨_,o,ho,_⟩:=I.ok.funs.mem hb;exact absurd (Nat.lt_of_lt_of_le (Heap.lt_size ho) (Nat.le_trans I.sz h)) (Nat.lt_irrefl _)
theorem Aj.cne(I:Aj X pins σ H s):∀x c,X.env.cells.lookup x=some c->c≠X.env.locals:=λx c e z=>by
 obtain⟨v,o,ho,hd⟩:=I.cell x c e;obtain⟨m,⟨o',es,ep,ho',hd',_⟩,_⟩:=I.loc;rw[z,ho']at ho;cases ho;rw[hd']at hd;cases hd
theorem Aj.funs(I:Aj X pins σ H s):s.heap.FunFrames X.base X.outer:=by
 have all:∀(l:List Env),(∀b∈frs l,b∈X.fs)->X.s₀.heap.FunFrames X.base l->s.heap.FunFrames X.base l:=by
  intro l
  induction l with
  | nil=>intro _ _;trivial
  | cons env r ih =>
   intro hs hl;obtain⟨hk,⟨L,o,hf,hn,ho,hd⟩,hr⟩:=hl;have hL:L∈X.fs:=hs L (by unfold frs;rw[List.filterMap_cons,hf];exact List.mem_cons_self);obtain⟨sl,e⟩:=I.base.slot L o ho (I.ok.frf L hL) hL λz=>I.ok.exfs L z hL;exact⟨hk,⟨L,_,hf,hn,e,hd⟩,ih (λb hb=>hs b (by unfold frs;rw[List.filterMap_cons,hf];exact List.mem_cons_of_mem _ hb)) hr⟩
 exact all X.outer (λ_ hb=>hb) I.ok.funs
theorem Aj.stack(I:Aj X pins σ H s):s.heap.FunFrames X.base X.stack:=by
 rcases I.ok.stk with e|⟨e,hf⟩
 ·rw[e];exact I.funs
 ·rw[e]
  obtain⟨m,hn,_⟩:=I.loc;refine .cons (by rw[I.ok.kind];decide) hf hn ?_ I.funs;exact Heap.get?_none_of_le (Nat.le_trans I.ok.bsz I.ok.above)
theorem Aj.stkSub(I:Aj X pins σ H s):∀b∈frs X.stack,b∈X.env.locals::X.fs:=λb hb=>by
 rcases I.ok.stk with e|⟨e,hf⟩
 ·rw[e]at hb;exact List.mem_cons_of_mem _ hb
 ·rw[e]at hb
  unfold frs at hb;rw[List.filterMap_cons,hf]at hb;exact hb
theorem Aj.stkFree(I:Aj X pins σ H s):∀b∈frs X.stack,H b=none:=λb hb=>by
 rcases List.mem_cons.mp (I.stkSub b hb) with e|hb
 ·rw[e];exact I.free
 ·obtain⟨_,o,ho,_⟩:=I.ok.funs.mem hb
  exact I.base.free b o ho (I.ok.frf b hb) λz=>I.ok.exfs b z hb
theorem Aj.step{g':Array GenState}{t':Nat}{d':Drawn}{ch:List Addr}(I:Aj X pins σ H s)
  (hch:∀b∈ch,(b∈X.ex\/X.s₀.heap.objs.size<=b)/\b≠X.env.locals/\(∀x c,X.env.cells.lookup x=some c->c≠b)/\∀p∈X.pn++pins,p.1≠b)
  (keep:∀b o,b≠X.env.locals->b∉X.fs->b∉ch->s.heap.get? b=some o->H b=none->h'.get? b=some o)
  (slot:∀b o,b≠X.env.locals->b∈X.fs->b∉ch->s.heap.get? b=some o->H b=none->∃sl,h'.get? b=some { o with slots:=sl }) (free:∀b o,b∉ch->s.heap.get? b=some o->H b=none->H' b=none)
  (there:∀b o,b∉ch->s.heap.get? b=some o->∃o',h'.get? b=some o')
  (tups:∀b xs,H b=some (.tup xs)->H' b=some (.tup xs)) (frzs:∀b o u,H b=some (.frz o u)->H' b=some (.frz o u)) (tbls:∀b ps,H b=some (.tbl ps)->∃more,H' b=some (.tbl (ps++more)))
  (ns:∀m,s.heap.Ns X.env.locals m->h'.Ns X.env.locals m) (hok:HOk X.prog X.w H' h') (hg:AllBare g') :
  Aj X pins σ H' { s with heap:=h',gens:=g',drawn:=d',toks:=t' }:=by
 have neL:∀b o,X.s₀.heap.get? b=some o->b≠X.env.locals:=λb o e=>Nat.ne_of_lt (Nat.lt_of_lt_of_le (Heap.lt_size e) I.ok.above);have neC:∀b o,X.s₀.heap.get? b=some o->b∉X.ex->b∉ch:=λb o e hx hb=>by
  rcases(hch b hb).1 with z|z
  ·exact hx z
  ·exact absurd (Nat.lt_of_lt_of_le (Heap.lt_size e) z) (Nat.lt_irrefl _)
 have cellK:∀x c,X.env.cells.lookup x=some c->∀v,s.heap.IsCell c v->h'.IsCell c v:=λx c e v ⟨o,ho,hd⟩=>by
  have nch:c∉ch:=λz=>(hch c z).2.2.1 x c e rfl
  by_cases hc:c∈X.fs
  ·obtain⟨sl,q⟩:=slot c o (I.cne x c e) hc nch ho (I.freeC x c e)
   exact⟨_,q,hd⟩
  ·exact⟨o,keep c o (I.cne x c e) hc nch ho (I.freeC x c e),hd⟩
 refine⟨I.ok,I.os,hg,⟨λb o e n hb hx=>?_,λb o e n hb hx=>?_,λb o e n hx=>?_,λb o e hx=>?_,λb xs e=>tups b xs (I.base.tups b xs e),λb o xs e=>frzs b o xs (I.base.frzs b o xs e),λb ps e=>?_⟩,?_,λx c e=>?_,?_,λx c e=>?_,λp hp=>?_,hok,I.len⟩
 ·exact keep b o (neL b o e) hb (neC b o e hx) (I.base.keep b o e n hb hx) (I.base.free b o e n hx)
 ·obtain⟨sl,e1⟩:=I.base.slot b o e n hb hx
  obtain⟨sl',e2⟩:=slot b _ (neL b o e) hb (neC b o e hx) e1 (I.base.free b o e n hx);exact⟨sl',e2⟩
 ·obtain⟨o',e1⟩:=I.base.there b o e hx
  exact free b o' (neC b o e hx) e1 (I.base.free b o e n hx)
 ·obtain⟨o',e1⟩:=I.base.there b o e hx
  exact there b o' (neC b o e hx) e1
 ·obtain⟨m1,e1⟩:=I.base.tbls b ps e
  obtain⟨m2,e2⟩:=tbls b _ e1;exact⟨m1++m2,by rw[e2,Array.append_assoc]⟩
 ·obtain⟨m,hn,hl⟩:=I.loc
  refine⟨m,ns m hn,λi x v e1 e2 e3=>?_⟩;obtain⟨u,r,l⟩:=hl i x v e1 e2 e3;refine⟨u,r,?_⟩;rcases l with l|⟨k,c,e,z⟩
  ·exact .inl l
  ·exact .inr ⟨k,c,e,cellK x c e _ z⟩
 ·obtain⟨v,z⟩:=I.cell x c e
  exact⟨v,cellK x c e v z⟩
 ·obtain⟨m,⟨o,_,_,ho,_⟩,_⟩:=I.loc
  exact free _ o (λz=>(hch _ z).2.1 rfl) ho I.free
 ·obtain⟨v,o,ho,hd⟩:=I.cell x c e
  exact free c o (λz=>(hch c z).2.2.1 x c e rfl) ho (I.freeC x c e)
 ·obtain⟨e,n,ne,nf,d⟩:=I.pin p hp
  have nch:p.1∉ch:=λz=>(hch p.1 z).2.2.2 p hp rfl;exact⟨keep p.1 p.2 ne nf nch e n,free p.1 p.2 nch e n,ne,nf,d⟩
theorem Aj.un{t':Nat}(I:Aj X pins σ H s)(u:Un X.fs [] H H' s.heap h')(hok:HOk X.prog X.w H' h'):Aj X pins σ H' { s with heap:=h',toks:=t' }:=by
 obtain⟨m,⟨o,es,ep,ho,r⟩,_⟩:=id I.loc;obtain⟨sl,hL⟩:=u.any ho I.free (by simp);exact I.step (g':=s.gens) (d':=s.drawn) (ch:=[]) (λ_ z=>nomatch z) (λb o _ hb _ e n=>u.keep b o e n hb (by simp)) (λb o _ hb _ e n=>u.slot b o e n hb (by simp)) (λb o _ e n=>u.free b o e n (by simp)) (λb o _ e=>u.there b o e (by simp)) u.tups u.frzs u.tbls (λm' hm=>by
  obtain⟨o',es',ep',ho',r'⟩:=hm;rw[ho]at ho';cases ho';exact⟨_,es',ep',hL,r'⟩) hok I.bare
theorem Aj.call{g':Array GenState}{t':Nat}{d':Drawn}{ch:List Addr}(I:Aj X pins σ H s)(u:Un (frs X.stack) ch H H' s.heap h')(hok:HOk X.prog X.w H' h')(hg:AllBare g')
  (hch:∀b∈ch,(b∈X.ex\/X.s₀.heap.objs.size<=b)/\b≠X.env.locals/\(∀x c,X.env.cells.lookup x=some c->c≠b)/\∀p∈X.pn++pins,p.1≠b) :
  Aj X pins σ H' { s with heap:=h',gens:=g',drawn:=d',toks:=t' }:=by
 obtain⟨m,⟨o,es,ep,ho,r⟩,_⟩:=id I.loc;obtain⟨sl,hL⟩:=u.any ho I.free λz=>(hch _ z).2.1 rfl;exact I.step (ch:=ch) hch (λb o hL hb hc e n=>u.keep b o e n (λz=>(List.mem_cons.mp (I.stkSub b z)).elim hL hb) hc) (λb o _ _ hc e n=>u.any e n hc) (λb o hc e n=>u.free b o e n hc) (λb o hc e=>u.there b o e hc) u.tups u.frzs u.tbls (λm' hm=>by
  obtain⟨o',es',ep',ho',r'⟩:=hm;rw[ho]at ho';cases ho';exact⟨_,es',ep',hL,r'⟩) hok hg
theorem Aj.turned{t':Nat}{it:Addr}(I:Aj X pins σ H s)(k:∀b o,b≠it->s.heap.get? b=some o->h'.get? b=some o)(hn:H it=none)(hL:it≠X.env.locals)
  (h1:it∈X.ex\/X.s₀.heap.objs.size<=it) (h2:∀x c,X.env.cells.lookup x=some c->c≠it) (h3:∀p∈X.pn++pins,p.1≠it):Aj X pins σ H { s with heap:=h',toks:=t' }:=by
 have nit:∀b u,H b=some u->b≠it:=λb u e z=>by rw[z,hn]at e;cases e
 refine I.step (g':=s.gens) (d':=s.drawn) (ch:=[it]) (λb hb=>?_) (λb o _ _ hc e _=>k b o (λz=>hc (by simp[z])) e) (λb o _ _ hc e _=>⟨o.slots,k b o (λz=>hc (by simp[z])) e⟩) (λ_ _ _ _ n=>n)
  (λb o hc e=>⟨o,k b o (λz=>hc (by simp[z])) e⟩) (λ_ _ e=>e) (λ_ _ _ e=>e) (λb ps e=>⟨#[],by rw[e];simp⟩) (λm hm=>?_) (λb u e=>?_) I.bare
 ·have e:b=it:=by simpa using hb
  subst e;exact⟨h1,hL,h2,h3⟩
 ·obtain⟨o,es,ep,ho,r⟩:=hm
  exact⟨o,es,ep,k _ o (Ne.symm hL) ho,r⟩
 ·refine(I.hok b u e).stay (λc v hc q=>k c v ?_ q) (λ_ q=>q) λ_ _ q=>q
  rcases hc with z|z
  ·rw[z];exact nit b u e
  ·exact nit c _ z
theorem Aj.tok(I:Aj X pins σ H s)(t:Nat):Aj X pins σ H { s with toks:=t }:=I.un (h':=s.heap) (t':=t) Un.refl I.hok
theorem Aj.kept{t':Nat}(I:Aj X pins σ H s)(k:∀b u,s.heap.get? b=some u->h'.get? b=some u):Aj X pins σ H { s with heap:=h',toks:=t' }:=I.un (Un.kept k) (I.hok.kept k)
theorem Aj.laid{a:Addr}{o:HO}{t':Nat}(I:Aj X pins σ H s)(k:∀b u,s.heap.get? b=some u->h'.get? b=some u)(hp:s.heap.objs.size<=a)(new:cJ X.prog X.w (upd H a o) h' a o) :
  Aj X pins σ (upd H a o) { s with heap:=h',toks:=t' }:=I.un (Un.laid k hp (I.hok.fresh hp)) (I.hok.laid k hp new)
theorem Aj.write{x e:Addr}{o:HO}{t':Nat}(I:Aj X pins σ H s)(mu:Mut (H x))(he:e=x\/H e=some (.own x))(k:∀b u,b≠e->s.heap.get? b=some u->h'.get? b=some u)(heo:∃u,h'.get? e=some u)
  (new:cJ X.prog X.w (upd H x o) h' x o):Aj X pins σ (upd H x o) { s with heap:=h',toks:=t' }:=I.un (Un.write mu he k heo) (I.hok.write mu he k heo new)
theorem Aj.pins_of{pins':List (Addr×Obj)}(I:Aj X pins σ H s)(h:∀p∈pins',s.heap.get? p.1=some p.2/\H p.1=none/\p.1≠X.env.locals/\p.1∉X.fs/\∀v,p.2.data≠.cell v):Aj X pins' σ H s :=
 ⟨I.ok,I.os,I.bare,I.base,I.loc,I.cell,I.free,I.freeC,λp hp=>(List.mem_append.mp hp).elim (λz=>I.pin p (List.mem_append_left _ z)) (h p),I.hok,I.len⟩
theorem oD{N:List Str}(hN:N.Nodup){i j:Nat}{x:Str}(a:N[i]? = some x)(b:N[j]? = some x):i=j:=by
 obtain⟨h1,e1⟩:=List.getElem?_eq_some_iff.mp a;obtain⟨h2,e2⟩:=List.getElem?_eq_some_iff.mp b;exact(List.getElem_inj hN).mp (e1.trans e2.symm)
theorem i4{M:Model}{A:Around}{E:Value->Shared->Prop}{i:Nat}{x:Str}{v:V}{u:Value}{Q:Unit->Shared->Prop}(I:Aj X pins σ H s)(hN:X.N.Nodup)(hi:X.N[i]? = some x)(hx:Loc X.env.scope x)(r:a6 v u)
  (h:∀s',Aj X pins (σ.set i (some v)) H s'->(∃a,Heap.SameBut a s.heap s'.heap/\(a=X.env.locals\/X.env.cells.lookup x=some a))->Q () s') (hf:X.fn x=true\/X.env.scope.names.lookup x=some .local:=by first|exact .inl rfl|exact .inr rfl|assumption):wpAny M A (storeName X.env x u) Q E s:=by
 obtain⟨m,hn,hl⟩:=id I.loc;have hcls:(X.env.scope.kind == .class || (X.env.scope.kind == .module && X.env.locals != X.env.globals))=false:=by rw[I.ok.kind];rfl
 have hiσ:i<σ.length:=by rw[I.len];exact(List.getElem?_eq_some_iff.mp hi).1
 have cne:=I.cne;have tracked:∀{a:Addr} {h':Heap},(∃o,s.heap.get? a=some o/\H a=none)->Heap.SameBut a s.heap h'->HOk X.prog X.w H h':=λ{a h'} ha hs b ob e=>by
  obtain⟨_,_,hfree⟩:=ha;refine(I.hok b ob e).stay (λc w' hc q=>(hs.2 c ?_).trans q) (λ_ q=>q) λ_ _ q=>q;rintro rfl;rcases hc with rfl|hc
  ·rw[hfree]at e;cases e
  ·rw[hfree]at hc;cases hc
 rcases hx with hk|hk
 ·refine wpAny_storeName_local hk hn (λh' hn' hs=>?_) hcls
  obtain⟨oL,_,_,hoL,_⟩:=id hn;refine h _ ⟨I.ok,I.os,I.bare,⟨λb o e n hb hx=>?_,λb o e n hb hx=>?_,I.base.free,λb o e hx=>?_,I.base.tups,I.base.frzs,I.base.tbls⟩,⟨_,hn',λj y v' e1 e2 e3=>?_⟩,λy c e=>?_,I.free,I.freeC,λp hp=>?_,tracked ⟨oL,hoL,I.free⟩ hs,by simpa using I.len⟩ ⟨_,hs,.inl rfl⟩
  ·exact(hs.2 b (Nat.ne_of_lt (Nat.lt_of_lt_of_le (Heap.lt_size e) I.ok.above))).trans (I.base.keep b o e n hb hx)
  ·obtain⟨sl,e1⟩:=I.base.slot b o e n hb hx
   exact⟨sl,(hs.2 b (Nat.ne_of_lt (Nat.lt_of_lt_of_le (Heap.lt_size e) I.ok.above))).trans e1⟩
  ·obtain⟨o',e1⟩:=I.base.there b o e hx
   exact⟨o',(hs.2 b (Nat.ne_of_lt (Nat.lt_of_lt_of_le (Heap.lt_size e) I.ok.above))).trans e1⟩
  ·by_cases hj:j=i
   ·subst hj
    rw[hi]at e1;cases e1;rw[List.getElem?_set_self hiσ]at e2;cases e2;exact⟨u,r,.inl ⟨hk,by simp⟩⟩
   ·rw[List.getElem?_set_ne (Ne.symm hj)]at e2
    obtain⟨u',r',q⟩:=hl j y v' e1 e2 e3;refine⟨u',r',?_⟩;rcases q with⟨k,e⟩|⟨k,c,e,z⟩
    ·refine .inl ⟨k,?_⟩
     have:y≠x:=λe=>hj (oD hN e1 (e▸hi));simp[this,e]
    ·exact .inr ⟨k,c,e,z.sameBut hs (cne y c e)⟩
  ·obtain⟨w',z⟩:=I.cell y c e
   exact⟨w',z.sameBut hs (cne y c e)⟩
  ·obtain⟨e,n,ne,nf,d⟩:=I.pin p hp
   exact⟨(hs.2 p.1 ne).trans e,n,ne,nf,d⟩
 ·have hfn:X.fn x=true:=by
   rcases hf with z|z
   ·exact z
   ·rw[z]at hk;cases hk
  obtain⟨c,hc⟩:=I.ok.has x (.inl hk);obtain⟨w',z⟩:=I.cell x c hc;refine wpAny_storeName_cell I.ok.kind hk hc z (λh' hc' hs=>?_);obtain⟨oc,hoc,hocd⟩:=id z;refine h { s with heap:=h' } ⟨I.ok,I.os,I.bare,⟨λb o e n hb hx=>?_,λb o e n hb hx=>?_,I.base.free,λb o e hx=>?_,I.base.tups,I.base.frzs,I.base.tbls⟩,⟨m,hn.sameBut hs (Ne.symm (cne x c hc)),λj y v' e1 e2 e3=>?_⟩,λy c' e=>?_,I.free,I.freeC,λp hp=>?_,tracked ⟨oc,hoc,I.freeC x c hc⟩ hs,by simpa using I.len⟩ ⟨c,hs,.inr hc⟩
  ·exact(hs.2 b (Nat.ne_of_lt (Nat.lt_of_lt_of_le (Heap.lt_size e) (I.ok.cab x c hfn hc)))).trans (I.base.keep b o e n hb hx)
  ·obtain⟨sl,e1⟩:=I.base.slot b o e n hb hx
   exact⟨sl,(hs.2 b (Nat.ne_of_lt (Nat.lt_of_lt_of_le (Heap.lt_size e) (I.ok.cab x c hfn hc)))).trans e1⟩
  ·obtain⟨o',e1⟩:=I.base.there b o e hx
   exact⟨o',(hs.2 b (Nat.ne_of_lt (Nat.lt_of_lt_of_le (Heap.lt_size e) (I.ok.cab x c hfn hc)))).trans e1⟩
  ·by_cases hj:j=i
   ·subst hj
    rw[hi]at e1;cases e1;rw[List.getElem?_set_self hiσ]at e2;cases e2;exact⟨u,r,.inr ⟨.inl hk,c,hc,hc'⟩⟩
   ·rw[List.getElem?_set_ne (Ne.symm hj)]at e2
    obtain⟨u',r',q⟩:=hl j y v' e1 e2 e3;refine⟨u',r',?_⟩;rcases q with q|⟨k,c',e,z'⟩
    ·exact .inl q
    ·refine .inr ⟨k,c',e,z'.sameBut hs ?_⟩
     rintro rfl;exact hj (oD hN e1 (I.ok.inj _ _ _ e hc▸hi))
  ·by_cases hcc:c'=c
   ·subst hcc;exact⟨_,hc'⟩
   ·obtain⟨w2,z2⟩:=I.cell y c' e
    exact⟨w2,z2.sameBut hs hcc⟩
  ·obtain⟨e,n,ne,nf,d⟩:=I.pin p hp
   refine⟨(hs.2 p.1 ?_).trans e,n,ne,nf,d⟩;intro q;rw[q,hoc]at e;have q':oc=p.2:=Option.some.inj e;exact d w' (by rw[<- q'];exact hocd)
theorem io{M:Model}{A:Around}{E:Value->Shared->Prop}{i:Nat}{x:Str}{v:V}{u:Value}{Q:Unit->Shared->Prop}(I:Aj X pins σ H s)(hN:X.N.Nodup)(hi:X.N[i]? = some x)(hx:Loc X.env.scope x)(r:a6 v u)
  (h:∀s',Aj X pins (σ.set i (some v)) H s'->Q () s') (hf:X.fn x=true\/X.env.scope.names.lookup x=some .local:=by first|exact .inl rfl|exact .inr rfl|assumption):wpAny M A (storeName X.env x u) Q E s :=
 i4 I hN hi hx r (λs' I' _=>h s' I') hf
theorem Aj.call'{s':Shared}{ch:List Addr}(I:Aj X pins σ H s)(ho:s'.os=s.os)(u:Un (frs X.stack) ch H H' s.heap s'.heap)(hok:HOk X.prog X.w H' s'.heap)(hg:AllBare s'.gens)
  (hch:∀b∈ch,(b∈X.ex\/X.s₀.heap.objs.size<=b)/\b≠X.env.locals/\(∀x c,X.env.cells.lookup x=some c->c≠b)/\∀p∈X.pn++pins,p.1≠b):Aj X pins σ H' s':=by
 obtain⟨h',g',d',t',o'⟩:=s';have e:o'=s.os:=ho;subst e;exact I.call (g':=g') (t':=t') (d':=d') u hok hg hch
end
noncomputable abbrev XK:=Value->Option Addr->Hp->Prop
noncomputable abbrev St:=List (Option V)
noncomputable abbrev VK:=V->Hp->Prop
noncomputable abbrev TE:=St->Hp->VK->Prop
noncomputable abbrev TT:=St->Hp->(Bool->Hp->Prop)->Prop
noncomputable abbrev TA:=St->Hp->(List V->Hp->Prop)->Prop
structure fK where
 nx:St->Hp->Prop
 rt:VK
 bk:St->Hp->Prop:=λ_ _=>False
 ct:St->Hp->Prop:=λ_ _=>False
noncomputable abbrev TS:=fK->St->Hp->Prop
noncomputable def EP(X:Cx)(pins:List (Addr×Obj))(σ:St)(Q:VK)(u:Value)(s':Shared):Prop:=∃v H',Aj X pins σ H' s'/\a6 v u/\Q v H'
noncomputable def TP(X:Cx)(pins:List (Addr×Obj))(σ:St)(Q:Bool->Hp->Prop)(b:Bool)(s':Shared):Prop:=∃H',Aj X pins σ H' s'/\Q b H'
noncomputable def AP(X:Cx)(pins:List (Addr×Obj))(σ:St)(Q:List V->Hp->Prop)(us:List Value)(s':Shared):Prop:=∃vs H',Aj X pins σ H' s'/\aJ vs us/\Q vs H'
noncomputable def SP(X:Cx)(pins:List (Addr×Obj))(D:fK)(f:Flow)(s':Shared):Prop :=
 match f with
 | .next=>∃σ' H',Aj X pins σ' H' s'/\D.nx σ' H'
 | .brk=>∃σ' H',Aj X pins σ' H' s'/\D.bk σ' H'
 | .cont=>∃σ' H',Aj X pins σ' H' s'/\D.ct σ' H'
 | .ret u=>∃v σ' H',Aj X pins σ' H' s'/\a6 v u/\D.rt v H'
noncomputable def PE(X:Cx)(e:Expr)(t:TE):Prop :=
 ∀(pins:List (Addr×Obj)) (s:Shared) (σ:St) (H:Hp) (Q:VK),Aj X pins σ H s->t σ H Q->wpAny (model X.prog X.w) X.A (eval e X.env) (EP X pins σ Q) X.xe s
noncomputable def PT(X:Cx)(e:Expr)(t:TT):Prop :=
 ∀(pins:List (Addr×Obj)) (s:Shared) (σ:St) (H:Hp) (Q:Bool->Hp->Prop),Aj X pins σ H s->t σ H Q->wpAny (model X.prog X.w) X.A (isTrue e X.env (eval e X.env)) (TP X pins σ Q) X.xe s
noncomputable def PW(X:Cx)(e:Expr)(t:TT):Prop :=
 ∀(whole:Sem Value) (pins:List (Addr×Obj)) (s:Shared) (σ:St) (H:Hp) (Q:Bool->Hp->Prop),Aj X pins σ H s->t σ H Q->wpAny (model X.prog X.w) X.A (isTrue e X.env whole) (TP X pins σ Q) X.xe s
theorem PW.pt{X:Cx}{e:Expr}{t:TT}(h:PW X e t):PT X e t:=h _
noncomputable def PA(X:Cx)(es:List Expr)(t:TA):Prop :=
 ∀(pos:Pos) (pins:List (Addr×Obj)) (s:Shared) (σ:St) (H:Hp) (Q:List V->Hp->Prop),Aj X pins σ H s->t σ H Q->wpAny (model X.prog X.w) X.A (spliced (backTo pos (starEach es X.env))) (AP X pins σ Q) X.xe s
noncomputable def PS(X:Cx)(st:Stmt)(t:TS):Prop :=
 ∀(pins:List (Addr×Obj)) (s:Shared) (σ:St) (H:Hp) (D:fK),Aj X pins σ H s->t D σ H->wpAny (model X.prog X.w) X.A (exec st X.env) (SP X pins D) X.xe s
noncomputable def PSs(X:Cx)(st:List Stmt)(t:TS):Prop :=
 ∀(pins:List (Addr×Obj)) (s:Shared) (σ:St) (H:Hp) (D:fK),Aj X pins σ H s->t D σ H->wpAny (model X.prog X.w) X.A (execs st X.env) (SP X pins D) X.xe s
theorem thn{α:Type}{t:Sem α}{Q Q':α->Shared->Prop}{M:Model}{A:Around}{E:Value->Shared->Prop}{s:Shared}(h:wpAny M A t Q E s)(hQ:∀a s,Q a s->Q' a s):wpAny M A t Q' E s:=wpAny_mono h hQ λ_ _ x=>x
section
variable {X:Cx}
inductive BF (i:Nat) (σ:St) (H:Hp) (Q:VK):Prop
 | mk (v:V) (e:σ[i]? = some (some v)) (q:Q v H):BF i σ H Q
noncomputable def tC(v:V):TE:=λ_ H Q=>Q v H
theorem x9{i:Nat}{x:Str}{pos:Pos}(hN:X.N[i]? = some x)(hv:Vis X.env.scope x)(hd:(x == ("__debug__" : Str))=false:=by decide)(hcd:(x == ("__classdict__" : Str))=false:=by decide):PE X (.Name x pos) (BF i):=by
 intro pins s σ H Q I h;obtain⟨v,e,h⟩:=h;obtain⟨m,hn,hl⟩:=I.loc;obtain⟨u,r,l⟩:=hl i x v hN e hv;have fin:EP X pins σ Q u s:=⟨v,H,I,r,h⟩;rcases l with⟨hk,hm⟩|⟨hk,c,hc,hcell⟩
 ·exact wpAny_Name (wpAny_loadName_local I.ok.kind hk hn hm fin) hd
 ·rcases hk with hk|hk
  ·exact wpAny_Name (wpAny_loadName_cell I.ok.kind hk hc hcell fin) hd
  ·exact wpAny_Name (wpAny_loadName_free I.ok.kind hk hc hcell fin hcd) hd
theorem ac{i j pos}:PE X (.Constant (.int i) j pos) (tC (.int i)):=λ_ _ _ H _ I h=>wpAny_Constant_int ⟨.int i,H,I.tok _,⟨_,rfl⟩,h⟩
theorem cV{b j pos}:PE X (.Constant (.bool b) j pos) (tC (.bl b)):=λ_ _ _ H _ I h=>Constant_bool ⟨.bl b,H,I,rfl,h⟩
theorem qg{j pos}:PE X (.Constant .none j pos) (tC .non):=λ_ _ _ H _ I h=>Constant_none ⟨.non,H,I,rfl,h⟩
theorem aE{x j pos}:PE X (.Constant (.str x) j pos) (tC (.str x)):=λ_ _ _ H _ I h=>Calls.Constant_str ⟨.str x,H,I.tok _,⟨_,rfl⟩,h⟩
noncomputable def Gl(X:Cx)(x:Str):Prop:=X.env.kindOf x=some .globalImplicit
theorem mP{E:Value->Shared->Prop}{pins:List (Addr×Obj)}{s:Shared}{σ:St}{H:Hp}{x:Str}{u:Value}{pos:Pos}{Q:Value->Shared->Prop}(I:Aj X pins σ H s)(hg:Gl X x)(hm:X.mg x=some u)(h:Q u s)
  (hd:(x == ("__debug__" : Str))=false:=by decide):wpAny (model X.prog X.w) X.A (eval (.Name x pos) X.env) Q E s :=
 Calls.Name_function_global I.ok.kind hg (Calls.loadGlobal_global (by rw[I.ok.glob];exact I.mod.glob.keeps I.bk) hm h) hd
theorem gg{E:Value->Shared->Prop}{pins:List (Addr×Obj)}{s:Shared}{σ:St}{H:Hp}{x:Str}{u:Value}{pos:Pos}{Q:Value->Shared->Prop}(I:Aj X pins σ H s)(hg:Gl X x)(hm:X.mg x=none)(hv:bootBuiltins x=some u)(h:Q u s)
  (hn:x≠"__name__":=by decide) (hd:(x == ("__debug__" : Str))=false:=by decide):wpAny (model X.prog X.w) X.A (eval (.Name x pos) X.env) Q E s:=by
 obtain⟨mb,h1,h2⟩:=I.mod.blt;exact Calls.Name_function_global I.ok.kind hg (Calls.loadGlobal_builtin (by rw[I.ok.glob];exact I.mod.glob.keeps I.bk) hm (by rw[I.ok.blt];exact h1.keeps I.bk) ((h2 x hn).trans hv) h) hd
theorem dD{x:Str}{v:V}{u:Value}{pos:Pos}(hg:Gl X x)(hm:X.mg x=some u)(r:a6 v u)(hd:(x == ("__debug__" : Str))=false:=by decide):PE X (.Name x pos) (tC v) :=
 λ_ _ _ H _ I h=>mP I hg hm ⟨v,H,I,r,h⟩ hd
theorem v6{x:Str}{v:V}{u:Value}{pos:Pos}(hg:Gl X x)(hm:X.mg x=none)(hv:bootBuiltins x=some u)(r:a6 v u)(hn:x≠"__name__":=by decide)(hd:(x == ("__debug__" : Str))=false:=by decide):PE X (.Name x pos) (tC v) :=
 λ_ _ _ H _ I h=>gg I hg hm hv ⟨v,H,I,r,h⟩ hn hd
variable {a b:Expr} {ta tb:TE} {pos:Pos}
noncomputable def tB(t:TE):TT:=λσ H Q=>t σ H λx H1=>∃c,x = .bl c/\Q c H1
theorem aO{e:Expr}{t:TE}(h:PE X e t)(he:∀whole,isTrue e X.env whole=(do let v <- whole;standAt e.pos;holding [v] (truthy v)):=by intro _;rfl):PT X e (tB t):=by
 intro pins s σ H Q I hw;refine isTrue_plain (thn (h pins s σ H _ I hw) λv s1 ⟨x,H1,I1,r1,q1⟩=>?_) (he _);obtain⟨d,rfl,q⟩:=q1;cases r1;exact wpAny_truthy_bool ⟨H1,I1,q⟩
variable {tA tB':TT} {rest:List Expr}
noncomputable def xO(t u:TT):TT:=λσ H Q=>t σ H λc H1=>if c=true then u σ H1 Q else Q false H1
noncomputable def tOr(t u:TT):TT:=λσ H Q=>t σ H λc H1=>if c=true then Q true H1 else u σ H1 Q
noncomputable def zQ(t:TT):TT:=λσ H Q=>t σ H λc H1=>Q (!c) H1
theorem bV(ha:PT X a tA):PW X (.BoolOp .And [a] pos) tA:=by
 intro wh pins s σ H Q I h;refine isTrue_and (thn (ha pins s σ H Q I h) λc s1 e=>?_);cases c with
 | true=>exact isTrue_and_nil e
 | false=>exact e
theorem bQ(ha:PT X a tA):PW X (.BoolOp .Or [a] pos) tA:=by
 intro wh pins s σ H Q I h;refine isTrue_or (thn (ha pins s σ H Q I h) λc s1 e=>?_);cases c with
 | false=>exact isTrue_or_nil e
 | true=>exact e
theorem bK(ha:PT X a tA)(hb:PW X (.BoolOp .And (b::rest) pos) tB'):PW X (.BoolOp .And (a::b::rest) pos) (xO tA tB'):=by
 intro wh pins s σ H Q I h;refine isTrue_and (thn (ha pins s σ H _ I h) λc s1 ⟨H1,I1,q1⟩=>?_);cases c with
 | true=>exact hb wh pins s1 σ H1 Q I1 q1
 | false=>exact⟨H1,I1,q1⟩
theorem cb(ha:PT X a tA)(hb:PW X (.BoolOp .Or (b::rest) pos) tB'):PW X (.BoolOp .Or (a::b::rest) pos) (tOr tA tB'):=by
 intro wh pins s σ H Q I h;refine isTrue_or (thn (ha pins s σ H _ I h) λc s1 ⟨H1,I1,q1⟩=>?_);cases c with
 | true=>exact⟨H1,I1,q1⟩
 | false=>exact hb wh pins s1 σ H1 Q I1 q1
theorem bA(ha:PT X a tA):PT X (.UnaryOp .Not a pos) (zQ tA):=by
 intro pins s σ H Q I h;exact isTrue_not (ha pins s σ H (λc H1=>Q (!c) H1) I h)
noncomputable def yU(ta tb:TE):TE:=λσ H Q=>ta σ H λx H1=>∃c,x = .bl c/\if c=true then tb σ H1 Q else Q (.bl false) H1
noncomputable def zP(ta tb:TE):TE:=λσ H Q=>ta σ H λx H1=>∃c,x = .bl c/\if c=true then Q (.bl true) H1 else tb σ H1 Q
noncomputable def yR(ta:TE):TE:=λσ H Q=>ta σ H λx H1=>∃c,x = .bl c/\Q (.bl (!c)) H1
theorem bD{op}{t:TE}(h:PE X a t):PE X (.BoolOp op [a] pos) t:=λpins s σ H Q I hw=>BoolOp_one (h pins s σ H Q I hw)
theorem bO(ha:PE X a ta)(hb:PE X (.BoolOp .And (b::rest) pos) tb):PE X (.BoolOp .And (a::b::rest) pos) (yU ta tb):=by
 intro pins s σ H Q I h;refine BoolOp_and (thn (ha pins s σ H _ I h) λv s1 ⟨x,H1,I1,r1,q1⟩=>?_);obtain⟨c,rfl,q1⟩:=q1;cases r1;refine wpAny_truthy_bool ?_;cases c with
 | true=>exact hb pins s1 σ H1 Q I1 q1
 | false=>exact⟨.bl false,H1,I1,rfl,q1⟩
theorem lL(ha:PE X a ta)(hb:PE X (.BoolOp .Or (b::rest) pos) tb):PE X (.BoolOp .Or (a::b::rest) pos) (zP ta tb):=by
 intro pins s σ H Q I h;refine BoolOp_or (thn (ha pins s σ H _ I h) λv s1 ⟨x,H1,I1,r1,q1⟩=>?_);obtain⟨c,rfl,q1⟩:=q1;cases r1;refine wpAny_truthy_bool ?_;cases c with
 | false=>exact hb pins s1 σ H1 Q I1 q1
 | true=>exact⟨.bl true,H1,I1,rfl,q1⟩
theorem i8(ha:PE X a ta):PE X (.UnaryOp .Not a pos) (yR ta):=by
 intro pins s σ H Q I h;refine UnaryOp_ (thn (ha pins s σ H _ I h) λv s1 ⟨x,H1,I1,r1,q1⟩=>?_);obtain⟨c,rfl,q1⟩:=q1;cases r1;exact not_of (wpAny_truthy_bool ⟨.bl (!c),H1,I1,rfl,q1⟩)
noncomputable def tIf(t:TT)(ta tb:TE):TE:=λσ H Q=>t σ H λc H1=>if c=true then ta σ H1 Q else tb σ H1 Q
theorem j9{c:Expr}(hc:PT X c tA)(ha:PE X a ta)(hb:PE X b tb):PE X (.IfExp c a b pos) (tIf tA ta tb):=by
 intro pins s σ H Q I h;refine wpAny_IfExp (thn (hc pins s σ H _ I h) λd s1 ⟨H1,I1,q1⟩=>?_);cases d with
 | true=>exact ha pins s1 σ H1 Q I1 q1
 | false=>exact hb pins s1 σ H1 Q I1 q1
end
noncomputable def SqL(K:W.Frag)(H:Hp)(a:Addr)(xs:List V):Prop :=
 Rd H a (.lst xs) \/
  ∃(o:Obj) (its:Array Value) (n:Nat),K.lookup a=some o/\o.cls = .type "list"/\o.dict=none/\o.data = .seq its n/\its.size<=sizeLine/\aJ xs its.toList
noncomputable def SqT(K:W.Frag)(H:Hp)(a:Addr)(xs:List V):Prop :=
 Rd H a (.tup xs) \/
  ∃(o:Obj) (its:Array Value) (n:Nat),K.lookup a=some o/\o.cls = .type "tuple"/\o.data = .seq its n/\its.size<=sizeLine/\aJ xs its.toList
noncomputable def Ae:Value->Option V
 | .none=>some .non
 | .bool b=>some (.bl b)
 | .int i _=>some (.int i)
 | .str x _=>some (.str x)
 | .bytes b _=>some (.byt b)
 | .float b _=>some (.flt b)
 | .ref a=>some (.ref a)
 | .type n=>some (.ty n)
 | _=>none
theorem a6.abs{x:V}{u:Value}(r:a6 x u):Ae u=some x:=by
 cases x with
 | non=>cases r;rfl
 | bl _=>cases r;rfl
 | int _=>obtain⟨t,rfl⟩:=r;rfl
 | str _=>obtain⟨t,rfl⟩:=r;rfl
 | byt _=>obtain⟨t,rfl⟩:=r;rfl
 | flt _=>obtain⟨t,rfl⟩:=r;rfl
 | ref _=>cases r;rfl
 | ty _=>cases r;rfl
theorem a6.inj{x y:V}{u:Value}(r:a6 x u)(q:a6 y u):x=y:=Option.some.inj (r.abs.symm.trans q.abs)
theorem aJ.inj:∀{xs ys:List V} {us:List Value},aJ xs us->aJ ys us->xs=ys
 | _,_,_,.nil,.nil=>rfl
 | _,_,_,.cons r t,.cons r' t'=>by rw[r.inj r',aJ.inj t t']
section
variable {X:Cx} {pins:List (Addr×Obj)} {σ:St} {H:Hp} {s:Shared} {a:Addr} {xs ys:List V}
theorem SqL.of{K:W.Frag}(h:H a=some (.lst xs)):SqL K H a xs:=.inl (.inl h)
theorem SqT.of{K:W.Frag}(h:H a=some (.tup xs)):SqT K H a xs:=.inl (.inl h)
theorem Aj.list(I:Aj X pins σ H s)(h:SqL X.K H a xs):∃its:List Value,aJ xs its/\PlainL s.heap a its.toArray/\xs.length<=sizeLine:=by
 rcases h with h|⟨o,its,n,hk,hc,hd,hs,hz,r⟩
 ·obtain⟨z,its,n,r,e⟩:=h.ok I.hok
  exact⟨its,r,⟨_,n,e,rfl,rfl,rfl⟩,z⟩
 ·refine⟨its.toList,r,⟨o,n,I.kIn a o hk,hc,hd,by simpa using hs⟩,?_⟩
  have e:=r.length;simp only[Array.length_toList]at e;omega
theorem Aj.tuple(I:Aj X pins σ H s)(h:SqT X.K H a xs):∃its:List Value,aJ xs its/\IsTup s.heap a its.toArray/\xs.length<=sizeLine:=by
 rcases h with h|⟨o,its,n,hk,hc,hs,hz,r⟩
 ·obtain⟨z,its,r,p⟩:=h.ok I.hok
  exact⟨its,r,p,z⟩
 ·refine⟨its.toList,r,⟨o,I.kIn a o hk,hc,n,by simpa using hs⟩,?_⟩
  have e:=r.length;simp only[Array.length_toList]at e;omega
theorem Aj.list_inj(I:Aj X pins σ H s)(h:SqL X.K H a xs)(h':SqL X.K H a ys):xs=ys:=by
 obtain⟨its,r,⟨o,n,e,_,_,d⟩,_⟩:=I.list h;obtain⟨its',r',⟨o',n',e',_,_,d'⟩,_⟩:=I.list h';rw[e]at e';cases e';rw[d]at d';injection d' with d1 _
 have:its=its':=by simpa using congrArg Array.toList d1
 subst this;exact r.inj r'
end
noncomputable abbrev Cx.wish(X:Cx)(E:Value->Shared->Prop):Cx:={ X with xe:=E }
noncomputable abbrev Cx.nox(X:Cx):Cx:=X.wish λ_ _=>False
theorem Cx.Ok.wish{X:Cx}(ok:X.Ok)(E:Value->Shared->Prop):(X.wish E).Ok :=
 ⟨ok.mod,ok.kind,ok.glob,ok.blt,ok.above,ok.inj,ok.has,ok.cab,ok.hd,ok.frames,ok.stk,ok.exf,ok.bs,ok.bsz,ok.noex,ok.exfs,ok.funs,ok.frf⟩
theorem Cx.Ok.unwish{X:Cx}{E:Value->Shared->Prop}(ok:(X.wish E).Ok):X.Ok :=
 ⟨ok.mod,ok.kind,ok.glob,ok.blt,ok.above,ok.inj,ok.has,ok.cab,ok.hd,ok.frames,ok.stk,ok.exf,ok.bs,ok.bsz,ok.noex,ok.exfs,ok.funs,ok.frf⟩
section
variable {X:Cx} {pins:List (Addr×Obj)} {σ:St} {H:Hp} {s:Shared} {E:Value->Shared->Prop}
theorem Aj.wish(I:Aj X pins σ H s)(E:Value->Shared->Prop):Aj (X.wish E) pins σ H s:=⟨I.ok.wish E,I.os,I.bare,I.base,I.loc,I.cell,I.free,I.freeC,I.pin,I.hok,I.len⟩
theorem Aj.unwish(I:Aj (X.wish E) pins σ H s):Aj X pins σ H s:=⟨I.ok.unwish,I.os,I.bare,I.base,I.loc,I.cell,I.free,I.freeC,I.pin,I.hok,I.len⟩
theorem SP.unwish{D:fK}{f:Flow}{s':Shared}(h:SP (X.wish E) pins D f s'):SP X pins D f s':=by
 cases f with
 | next=>obtain⟨σ',H',I,q⟩:=h;exact⟨σ',H',I.unwish,q⟩
 | brk=>obtain⟨σ',H',I,q⟩:=h;exact⟨σ',H',I.unwish,q⟩
 | cont=>obtain⟨σ',H',I,q⟩:=h;exact⟨σ',H',I.unwish,q⟩
 | ret u=>obtain⟨v,σ',H',I,r,q⟩:=h;exact⟨v,σ',H',I.unwish,r,q⟩
theorem PSs.nox{st:List Stmt}{t:TS}(h:PSs X.nox st t):PSs X st t:=λpins s σ H D I hw =>
 wpAny_mono (h pins s σ H D (I.wish _) hw) (λ_ _ q=>q.unwish) λ_ _ z=>False.elim z
end
section
variable {X:Cx} {st:Stmt} {rest:List Stmt} {t u:TS} {e:Expr} {te:TE} {pos:Pos}
noncomputable def xl:TS:=λD σ H=>D.nx σ H
noncomputable def su(t u:TS):TS:=λD σ H=>t { D with nx:=u D } σ H
theorem av:PSs X [] xl:=λ_ _ σ H _ I h=>wpAny_execs_nil ⟨σ,H,I,h⟩
theorem af(h1:PS X st t)(h2:PSs X rest u):PSs X (st::rest) (su t u):=by
 intro pins s σ H D I h;refine wpAny_execs_cons (thn (h1 pins s σ H { D with nx:=u D } I h) λf s1 q=>?_);cases f with
 | next =>
  obtain⟨σ',H',I',q⟩:=q;exact h2 pins s1 σ' H' D I' q
 | ret v=>exact q
 | brk=>exact q
 | cont=>exact q
theorem ah(h1:PS X st t):PSs X [st] t:=by
 intro pins s σ H D I h;refine wpAny_execs_cons (thn (h1 pins s σ H D I h) λf s1 q=>?_);cases f with
 | next=>exact wpAny_execs_nil q
 | ret v=>exact q
 | brk=>exact q
 | cont=>exact q
theorem Aj.quiet{pins:List (Addr×Obj)}{σ:St}{H:Hp}{s:Shared}(I:Aj X pins σ H s):interactive X.env=false:=by simp[interactive,I.ok.kind]
noncomputable def tV(te:TE):TS:=λD σ H=>te σ H λ_ H1=>D.nx σ H1
theorem de(he:PE X e te)(hs:swapsWith e none pos.line X.env=pure false:=by rfl):PS X (.Expr e pos) (tV te):=by
 intro pins s σ H D I h;exact wpAny_Expr_any (thn (he pins s σ H _ I h) λv s1 ⟨x,H1,I1,r1,q1⟩=>⟨σ,H1,I1,q1⟩) I.quiet hs
noncomputable def pQ(te:TE):TS:=λD σ H=>te σ H D.rt
theorem ak(he:PE X e te):PS X (.Return (some e) pos) (pQ te):=by
 intro pins s σ H D I h;exact wpAny_Return_some (thn (he pins s σ H _ I h) λv s1 ⟨x,H1,I1,r1,q1⟩=>⟨x,σ,H1,I1,r1,q1⟩)
noncomputable def yT(c:TT)(t u:TS):TS:=λD σ H=>c σ H λb H1=>if b=true then t D σ H1 else u D σ H1
theorem aC{c:Expr}{a b:List Stmt}{tc:TT}(hc:PT X c tc)(ha:PSs X a t)(hb:PSs X b u):PS X (.If c a b pos) (yT tc t u):=by
 intro pins s σ H D I h;refine wpAny_If (thn (hc pins s σ H _ I h) λd s1 ⟨H1,I1,q1⟩=>?_);cases d with
 | true=>exact ha pins s1 σ H1 D I1 q1
 | false=>exact hb pins s1 σ H1 D I1 q1
end
noncomputable abbrev TG:=V->St->Hp->(St->Hp->Prop)->Prop
noncomputable abbrev TGs:=List V->St->Hp->(St->Hp->Prop)->Prop
noncomputable def PG(X:Cx)(target:Expr)(t:TG):Prop :=
 ∀(pins:List (Addr×Obj)) (s:Shared) (σ:St) (H:Hp) (v:V) (u:Value) (Q:St->Hp->Prop),Aj X pins σ H s->a6 v u->t v σ H Q ->
  wpAny (model X.prog X.w) X.A (assign target X.env u) (λ_ s'=>∃σ' H',Aj X pins σ' H' s'/\Q σ' H') X.xe s
noncomputable def PGs(X:Cx)(ts:List Expr)(t:TGs):Prop :=
 ∀(pins:List (Addr×Obj)) (s:Shared) (σ:St) (H:Hp) (vs:List V) (us:List Value) (Q:St->Hp->Prop),Aj X pins σ H s->aJ vs us->t vs σ H Q ->
  wpAny (model X.prog X.w) X.A (assignInOrder ((assignEach ts X.env).map (·.2)) us) (λ_ s'=>∃σ' H',Aj X pins σ' H' s'/\Q σ' H') X.xe s
noncomputable abbrev yJ:=V->V->V->Hp->(Hp->Prop)->Prop
noncomputable def yL(X:Cx)(t:yJ):Prop :=
 ∀(pins:List (Addr×Obj)) (s:Shared) (σ:St) (H:Hp) (o i v:V) (ov iv u:Value) (Q:Hp->Prop),Aj X pins σ H s->a6 o ov->a6 i iv->a6 v u->t o i v H Q ->
  wpAny (model X.prog X.w) X.A (setItem ov iv u) (λ_ s'=>∃H',Aj X pins σ H' s'/\Q H') X.xe s
section
variable {X:Cx} {pos:Pos}
noncomputable def hU(i:Nat):TG:=λv σ H Q=>Q (σ.set i (some v)) H
theorem aZ{i:Nat}{x:Str}(hN:X.N.Nodup)(hi:X.N[i]? = some x)(hx:Loc X.env.scope x)(hf:X.fn x=true\/X.env.scope.names.lookup x=some .local:=by first|exact .inl rfl|exact .inr rfl|assumption):PG X (.Name x pos) (hU i):=by
 intro pins s σ H v u Q I r h;exact wpAny_assign_Name (io I hN hi hx r (λs' I'=>⟨_,H,I',h⟩) hf)
inductive IT (vs:List V) (σ:St) (H:Hp) (Q:St->Hp->Prop):Prop
 | mk (e:vs = []) (q:Q σ H):IT vs σ H Q
inductive Iv (t:TG) (u:TGs) (vs:List V) (σ:St) (H:Hp) (Q:St->Hp->Prop):Prop
 | mk (v:V) (r:List V) (e:vs=v::r) (q:t v σ H λσ' H'=>u r σ' H' Q):Iv t u vs σ H Q
theorem eg:PGs X [] IT:=by
 intro pins s σ H vs us Q I r h;obtain⟨e,h⟩:=h;subst e;cases r;exact assignInOrder_nil ⟨σ,H,I,h⟩
theorem bG{e:Expr}{es:List Expr}{t:TG}{u:TGs}(h1:PG X e t)(h2:PGs X es u)
  (hs:(assignEach (e::es) X.env).map (·.2)=assign e X.env::(assignEach es X.env).map (·.2):=by rfl):PGs X (e::es) (Iv t u):=by
 intro pins s σ H vs us Q I r h;obtain⟨v,vr,e1,h⟩:=h;subst e1;cases r with
 | cons r rr =>
  rw[hs];refine assignInOrder_cons (thn (h1 pins s σ H _ _ _ I r h) λ_ s1 ⟨σ1,H1,I1,q1⟩=>?_);exact h2 pins s1 σ1 H1 _ _ Q I1 rr q1
inductive IF (K:W.Frag) (n:Nat) (t:TGs) (v:V) (σ:St) (H:Hp) (Q:St->Hp->Prop):Prop
 | mk (a:Addr) (xs:List V) (e:v = .ref a) (s:SqT K H a xs) (l:xs.length=n) (q:t xs σ H Q):IF K n t v σ H Q
theorem fY{es:List Expr}{k:Nat}{t:TGs}{n:Nat}(hc:X.calm=true)(h:PGs X es t)
  (hn:(assignEach es X.env).length=n:=by rfl) (hst:(assignEach es X.env).findIdx? (·.1)=none:=by rfl):PG X (.Tuple es k pos) (IF X.K n t):=by
 intro pins s σ H v u Q I r hw;obtain⟨a,xs,e1,hq,hl,hw⟩:=hw;subst e1;cases r;obtain⟨its,rv,ht,hz⟩:=I.tuple hq;refine assign_Tuple_tuple (I.ok.hd hc) ht (by simp[hn,<- hl,rv.length]) hst λh' hx=>?_;have I1:Aj X pins σ H { s with heap:=h' }:=I.kept (t':=s.toks) λb o e=>hx b o (Nat.ne_of_lt (Heap.lt_size e)) e
 exact h pins _ σ H xs _ Q I1 (by simpa using rv) hw
noncomputable def Ac(to ti:TE)(t:yJ):TG:=λv σ H Q=>to σ H λo H1=>ti σ H1 λi H2=>t o i v H2 λH3=>Q σ H3
theorem mH{o i:Expr}{to ti:TE}{t:yJ}(ho:PE X o to)(hi:PE X i ti)(hs:yL X t)
  (ha:∀v,assign (.Subscript o i pos) X.env v=(do
   let ov <- holding [v] (eval o X.env)
   let iv <- holding [v,ov] (eval i X.env)
   standAt pos
   holding [v,ov,iv] (setItem ov iv v)
   release [v,ov,iv] []):=by intro _;rfl):PG X (.Subscript o i pos) (Ac to ti t):=by
 intro pins s σ H v u Q I r h;rw[ha];refine wpAny_bind (wpAny_holding (thn (ho pins s σ H _ I h) λov s1 ⟨x,H1,I1,r1,q1⟩=>?_));refine wpAny_bind (wpAny_holding (thn (hi pins s1 σ H1 _ I1 q1) λiv s2 ⟨y,H2,I2,r2,q2⟩=>?_));refine wpAny_bind (wpAny_standAt (wpAny_bind (wpAny_holding (thn (hs pins s2 σ H2 x y v ov iv u _ I2 r1 r2 r q2) λ_ s3 ⟨H3,I3,q3⟩=>?_))));exact wpAny_release ⟨σ,H3,I3,q3⟩
noncomputable def nY(te:TE)(g:TG):TS:=λD σ H=>te σ H λx H1=>g x σ H1 D.nx
theorem hZ{tg e:Expr}{te:TE}{g:TG}(he:PE X e te)(hg:PG X tg g)(hs:swapsWithSole [tg] e pos.line X.env=pure false:=by rfl)(hw:swappedStores [tg] e X.env=pure none:=by rfl)
  (h1:(assignEach [tg] X.env).map (·.2) = [assign tg X.env]:=by rfl):PS X (.Assign [tg] e pos) (nY te g):=by
 intro pins s σ H D I h;refine wpAny_Assign_stores (thn (he pins s σ H _ I h) λv s1 ⟨x,H1,I1,r1,q1⟩=>?_) hs hw;rw[h1];exact thn (hg pins s1 σ H1 x v _ I1 r1 q1) λ_ s2 q=>q
theorem aq{i:Nat}{x:Str}{e:Expr}{te:TE}{pos':Pos}(hN:X.N.Nodup)(hi:X.N[i]? = some x)(hx:Loc X.env.scope x)(he:PE X e te)(hs:swapsWith e (some (.Name x pos')) pos.line X.env=pure false:=by rfl)(hf:X.fn x=true\/X.env.scope.names.lookup x=some .local:=by first|exact .inl rfl|exact .inr rfl|assumption) :
  PS X (.Assign [.Name x pos'] e pos) (nY te (hU i)):=by
 intro pins s σ H D I h;refine wpAny_Assign_Name (thn (he pins s σ H _ I h) λv s1 ⟨y,H1,I1,r1,q1⟩=>?_) hs;exact io I1 hN hi hx r1 (λs2 I2=>⟨_,H1,I2,q1⟩) hf
noncomputable def zO(i j:Nat)(ta:TA):TS:=λD σ H=>ta σ H λvs H1=>∃v w,vs = [v,w]/\D.nx ((σ.set i (some v)).set j (some w)) H1
theorem xZ{i j:Nat}{x y:Str}{a b:Expr}{ta:TA}{px py pt:Pos}{kt k2 pt2}(hc:X.calm=true)(hN:X.N.Nodup)(hi:X.N[i]? = some x)(hj:X.N[j]? = some y)(hij:i≠j)
  (hx:X.env.scope.names.lookup x=some .local) (hy:X.env.scope.names.lookup y=some .local) (ha:PA X [a,b] ta)
  (hw:swappedStores [.Tuple [.Name x px,.Name y py] kt pt] (.Tuple [a,b] k2 pt2) X.env=pure (some [x,y]))
  (hs:swapsWithSole [.Tuple [.Name x px,.Name y py] kt pt] (.Tuple [a,b] k2 pt2) pos.line X.env=pure false:=by rfl) :
  PS X (.Assign [.Tuple [.Name x px,.Name y py] kt pt] (.Tuple [a,b] k2 pt2) pos) (zO i j ta):=by
 intro pins s σ H D I h;rw[exec_Assign_arm];refine wpAny_bind (wpAny_standAt ?_);rw[hs];refine wpAny_bind (wpAny_pure ?_);rw[if_neg (by decide)];refine wpAny_bind (Tuple_ (thn (ha _ pins s σ H _ I h) λus s1 ⟨vs,H1,I1,r1,q1⟩=>?_));obtain⟨v,w,e1,q1⟩:=q1;subst e1;obtain⟨u1,u2,rfl,rv,rw'⟩:∃u1 u2,us = [u1,u2]/\a6 v u1/\a6 w u2:=by
  cases r1 with
  | cons p q =>
   cases q with
   | cons p' q' =>
    cases q';exact⟨_,_,rfl,p,p'⟩
 refine wpAny_newObj_type ?_ (by show 2<=sizeLine;decide);have I2:Aj X pins σ H1 { s1 with heap:=s1.heap.push { cls:=.type "tuple",data:=.seq [u1,u2].toArray } }:=I1.kept (t':=s1.toks) λb o e=>Heap.get?_push_of_some _ e;rw[hw];refine wpAny_bind (wpAny_pure ?_);show wpAny (model X.prog X.w) X.A (do rule "assign.swapped-stores";let items <- unpackItems (.ref s1.heap.objs.size) 2 none;assignInOrder [λv=>bindName X.env y v,λv=>bindName X.env x v] items.reverse;pure Flow.next) _ _ _
 refine wpAny_bind (wpAny_rule (wpAny_bind (unpackItems_tuple (items:=#[u1,u2]) (I.ok.hd hc) (IsTup.new s1.heap _) λh' hx'=>?_)));have I3:=I2.kept (h':=h') (t':=s1.toks) λb o e=>hx' b o (Nat.ne_of_lt (Heap.lt_size e)) e;show wpAny _ _ (assignInOrder [λv=>bindName X.env y v,λv=>bindName X.env x v] [u2,u1] >>= λ_=>pure Flow.next) _ _ _;refine wpAny_bind (assignInOrder_cons (wpAny_bindName (io I3 hN hj (.inl hy) rw' (λs2 I4=>?_) (.inr hy))));refine assignInOrder_cons (wpAny_bindName (io I4 hN hi (.inl hx) rv (λs3 I5=>assignInOrder_nil (wpAny_pure ?_)) (.inr hx)));rw[List.set_comm _ _ (Ne.symm hij)]at I5;exact⟨_,H1,I5,q1⟩
end
section
variable {X:Cx} {pos:Pos}
noncomputable def tT(c:TT)(tb:TS):TS:=λD σ H=>∃W:Nat->St->Hp->Prop,(∃m,W m σ H)/\∀m σ H,W m σ H ->
 c σ H λb H1=>if b=true then ∃N:St->Hp->Prop,(∀σ' H',N σ' H'->∃m',m'<m/\W m' σ' H')/\tb { D with nx:=N,ct:=N,bk:=D.nx } σ H1 else D.nx σ H1
theorem ir{c:Expr}{body:List Stmt}{tc:TT}{tb:TS}(hp:PassesOwn (model X.prog X.w) X.A X.env X.xe)(hc:PT X c tc)(hb:PSs X body tb):PS X (.While c body [] pos) (tT tc tb):=by
 intro pins s σ H D I h;obtain⟨W,⟨m0,w0⟩,turn⟩:=h;refine wpAny_While (codeAny_whileLoop (λn s'=>∃σ' H',Aj X pins σ' H' s'/\W n σ' H') ?_ m0 ⟨σ,H,I,w0⟩);rintro n s1 ⟨σ1,H1,I1,w1⟩;refine wpAny_passesOwn hp (thn (hc pins s1 σ1 H1 _ I1 (turn n σ1 H1 w1)) λb s2 ⟨H2,I2,q2⟩=>?_);cases b with
 | true =>
  obtain⟨N,hN,q2⟩:=q2;rw[if_pos rfl];refine wpAny_passesOwn hp (thn (hb pins s2 σ1 H2 _ I2 q2) λf s3 q3=>?_);cases f with
  | next =>
   obtain⟨σ3,H3,I3,n3⟩:=q3;obtain⟨m',hm,w3⟩:=hN σ3 H3 n3;exact⟨m',hm,σ3,H3,I3,w3⟩
  | cont =>
   obtain⟨σ3,H3,I3,n3⟩:=q3;obtain⟨m',hm,w3⟩:=hN σ3 H3 n3;exact⟨m',hm,σ3,H3,I3,w3⟩
  | brk=>exact q3
  | ret v=>exact q3
 | false =>
  rw[if_neg Bool.false_ne_true];exact wpAny_execs_nil ⟨σ1,H2,I2,q2⟩
end
structure It where
 go:Nat->Hp->Prop
 yld:Nat->Hp->V->Hp->Prop
 stop:Nat->Hp->Prop
noncomputable def ee(X:Cx)(pins:List (Addr×Obj))(H:Hp)(b:Addr):Prop :=
 H b=none/\b≠X.env.locals/\b∉X.fs/\(b∈X.ex\/X.s₀.heap.objs.size<=b)/\(∀x c,X.env.cells.lookup x=some c->c≠b)/\∀p∈X.pn++pins,p.1≠b
theorem Aj.fpOk{X:Cx}{pins:List (Addr×Obj)}{σ:St}{H H':Hp}{s:Shared}{b:Addr}(I:Aj X pins σ H s)(hb:s.heap.objs.size<=b)(hn:H' b=none):ee X pins H' b:=by
 refine⟨hn,Nat.ne_of_gt (Nat.lt_of_lt_of_le I.lt hb),I.nofs hb,.inr (Nat.le_trans I.sz hb),λx c e z=>?_,λp hp z=>?_⟩
 ·obtain⟨v,q⟩:=I.cell x c e
  exact absurd (Nat.lt_of_lt_of_le q.lt (by rw[z];exact hb)) (Nat.lt_irrefl _)
 ·exact absurd (Nat.lt_of_lt_of_le (Heap.lt_size (I.pin p hp).1) (by rw[z];exact hb)) (Nat.lt_irrefl _)
structure Fr(P:Program)(w:World)(K:W.Frag)(tg:Expr)(J:It)(fp:List Addr)(it:Addr)(tn:Nat->Heap->Prop):Prop where
 mem:it∈fp
 obj:∀i h,tn i h->∀b∈fp,∃o,h.get? b=some o/\∀v,o.data≠.cell v
 keep:∀i h h',tn i h->(∀b∈fp,∀o,h.get? b=some o->h'.get? b=some o)->tn i h'
 item:∀(X:Cx),X.prog=P->X.w=w->X.K=K->X.calm=true->∀(i:Nat) (pins:List (Addr×Obj)) (s:Shared) (σ:St) (H:Hp) (E:Value->Shared->Prop),Aj X pins σ H s->(∀b∈fp,ee X pins H b)->tn i s.heap->J.go i H ->
  wpAny (model P w) X.A (pyNext (.ref it)) (λr s1=>∃u,r=some u /\
   wpAny (model P w) X.A (letOwnedTupleGo tg (.ref it) u) (λ_ s2=>∃x H',Aj X pins σ H' s2/\a6 x u/\J.yld i H x H'/\tn (i+1) s2.heap/\∀b∈fp,H' b=none) E s1) E s
 done:∀(X:Cx),X.prog=P->X.w=w->X.K=K->X.calm=true->∀(i:Nat) (pins:List (Addr×Obj)) (s:Shared) (σ:St) (H:Hp) (E:Value->Shared->Prop),Aj X pins σ H s->(∀b∈fp,ee X pins H b)->tn i s.heap->J.stop i H ->
  wpAny (model P w) X.A (pyNext (.ref it)) (λr s1=>r=none/\Aj X pins σ H s1) E s
 self:∀(A:Around) (i:Nat) (s:Shared) (Q:Value->Shared->Prop) (E:Value->Shared->Prop),tn i s.heap->Q (.ref it) s->wpAny (model P w) A (pyIter (.ref it)) Q E s
noncomputable abbrev TI:=St->Hp->(It->Hp->Prop)->Prop
noncomputable def PIE(X:Cx)(pins:List (Addr×Obj))(σ:St)(tg:Expr)(R:It->Hp->Prop)(itv:Value)(s2:Shared):Prop :=
 ∃(it:Addr) (fp:List Addr) (tn:Nat->Heap->Prop) (J:It) (H':Hp),itv = .ref it/\Aj X pins σ H' s2/\Fr X.prog X.w X.K tg J fp it tn/\tn 0 s2.heap/\(∀b∈fp,ee X pins H' b)/\R J H'
noncomputable def PI(X:Cx)(tg iter:Expr)(wi:TI):Prop :=
 ∀(pins:List (Addr×Obj)) (s:Shared) (σ:St) (H:Hp) (R:It->Hp->Prop),Aj X pins σ H s->wi σ H R ->
  wpAny (model X.prog X.w) X.A (eval iter X.env) (λv s1=>wpAny (model X.prog X.w) X.A (pyIter v) (PIE X pins σ tg R) X.xe s1) X.xe s
theorem ju{M:Model}{A:Around}{E:Value->Shared->Prop}{s:Shared}{tg:Expr}{it:Addr}{u:Value}{o:Obj}{n:String}{vs:Array Value}{Q:Unit->Shared->Prop}(ho:s.heap.get? it=some o)(hc:o.cls = .type n)(hd:o.data = .fields vs)
    (hn:["enumerate","zip","dict_itemiterator","dict_reverseitemiterator","odict_iterator","itertools.zip_longest","itertools.pairwise"].contains n=false) (hQ:Q () s):wpAny M A (letOwnedTupleGo tg (.ref it) u) Q E s:=by
  unfold letOwnedTupleGo;cases tg <;> first
    | exact wpAny_pure hQ
    | (cases u <;> first
        | exact wpAny_pure hQ
        | (refine wpAny_bind (wpAny_load ho ?_)
           rw[hc,hd];show wpAny M A (if (["enumerate","zip","dict_itemiterator","dict_reverseitemiterator","odict_iterator","itertools.zip_longest","itertools.pairwise"].contains n && vs[0]? == some (rawInt _))=true then _ else _) Q E s
           rw[if_neg (by intro h;rw[hn,Bool.false_and]at h;cases h)];exact wpAny_pure hQ))
noncomputable def Itl(K:W.Frag)(a:Addr):It :=
 ⟨λi H=>∃xs x,SqL K H a xs/\xs[i]? = some x,λi H x H'=>H'=H/\∀xs,SqL K H a xs->xs[i]? = some x,λi H=>∃xs,SqL K H a xs/\xs.length<=i⟩
noncomputable def Itr(lo:Int)(n:Nat):It:=⟨λi _=>i<n,λi H x H'=>H'=H/\x = .int (lo+i),λi _=>n<=i⟩
theorem sk{P:Program}{w:World}{K:W.Frag}{tg:Expr}(a it:Addr):Fr P w K tg (Itl K a) [it] it (λi h=>h.IsListIter it a i) where
 mem:=by simp
 obj:=λi h st b hb=>by
  have e:b=it:=by simpa using hb
  subst e;obtain⟨o,e,c,d⟩:=st;exact⟨o,e,λv z=>by rw[d]at z;cases z⟩
 keep:=λi h h' st k=>st.at λo e=>k it (by simp) o e
 item:=by
  intro X hP hw hK hc i pins s σ H E I hf st hg;subst hP hw hK;obtain⟨xs,x,hq,hx⟩:=hg;obtain⟨its,rv,p,hz⟩:=I.list hq;obtain⟨u,hu,ru⟩:=rv.get hx;obtain⟨f0,f1,f2,f3,f4,f5⟩:=hf it (by simp);refine wpAny_pyNext_list_item st p.isList (x:=u) (by simpa using hu) λh' st' sb=>?_;have I1:Aj X pins σ H { s with heap:=h' }:=I.turned (t':=s.toks) (λb o hb e=>(sb.2 b hb).trans e) f0 f1 f3 f4 f5;obtain⟨o,e,c,d⟩:=id st';exact⟨u,rfl,ju (s:={ s with heap:=h' }) e c d (by decide) ⟨x,H,I1,ru,⟨rfl,λys hy=>by rw[I.list_inj hy hq];exact hx⟩,st',λb hb=>(hf b hb).1⟩⟩
 done:=by
  intro X hP hw hK hc i pins s σ H E I hf st hg;subst hP hw hK;obtain⟨xs,hq,hx⟩:=hg;obtain⟨its,rv,p,hz⟩:=I.list hq;obtain⟨f0,f1,f2,f3,f4,f5⟩:=hf it (by simp);have hl:=rv.length;exact wpAny_pyNext_list_end (I.ok.hd hc) st p.isList (by simp;omega) λh' eb=>⟨rfl,I.turned (t':=s.toks) (λb o hb e=>eb b o hb e) f0 f1 f3 f4 f5⟩
 self:=λ_ _ _ _ _ st h=>wpAny_pyIter_listiter st h
theorem pO{P:Program}{w:World}{K:W.Frag}{tg:Expr}(it:Addr)(lo:Int)(n:Nat):Fr P w K tg (Itr lo n) [it] it (λi h=>IsRangeIter h it (lo+(i:Nat)*1) ((n:Int) - (i:Nat)) 1) where
 mem:=by simp
 obj:=λi h st b hb=>by
  have e:b=it:=by simpa using hb
  subst e;exact⟨_,st,λv z=>by
   have z':Data.fields _=Data.cell v:=z;cases z'⟩
 keep:=λi h h' st k=>k it (by simp) _ st
 item:=by
  intro X hP hw hK hc i pins s σ H E I hf st hg;subst hP hw hK;obtain⟨f0,f1,f2,f3,f4,f5⟩:=hf it (by simp);have W:=Walks.range (prog:=X.prog) (w:=X.w) (I.ok.hd hc) it lo 1 n;refine W.item i s _ _ hg st λv h' tk hv st' kk=>?_;obtain⟨t,rfl⟩:=hv;have I1:Aj X pins σ H { s with heap:=h',toks:=tk }:=I.turned (λb o hb e=>kk b o (by simpa using hb) e) f0 f1 f3 f4 f5;refine⟨_,rfl,ju (s:={ s with heap:=h',toks:=tk }) (n:="range_iterator") st' rfl rfl (by decide) ⟨.int (lo+i),H,I1,⟨t,?_⟩,⟨rfl,rfl⟩,st',λb hb=>(hf b hb).1⟩⟩;rw[Int.mul_one]
 done:=by
  intro X hP hw hK hc i pins s σ H E I hf st hg;subst hP hw hK;obtain⟨f0,f1,f2,f3,f4,f5⟩:=hf it (by simp);exact wpAny_pyNext_range_end (I.ok.hd hc) st (by have:n<=i:=hg;omega) λh' eb=>⟨rfl,I.turned (t':=s.toks) (λb o hb e=>eb b o hb e) f0 f1 f3 f4 f5⟩
 self:=λ_ _ _ _ _ st h=>wpAny_pyIter_rangeiter st h
section
variable {X:Cx} {tg:Expr}
noncomputable def zn(K:W.Frag)(tl:TE):TI:=λσ H R=>tl σ H λx H1=>∃a,x = .ref a/\(∃xs,SqL K H1 a xs)/\R (Itl K a) H1
theorem cw{l:Expr}{tl:TE}(hl:PE X l tl):PI X tg l (zn X.K tl):=by
 intro pins s σ H R I h;refine thn (hl pins s σ H _ I h) λv s1 ⟨x,H1,I1,r1,q1⟩=>?_;obtain⟨a,e,⟨xs,hq⟩,q⟩:=q1;subst e;cases r1;obtain⟨its,rv,p,hz⟩:=I1.list hq;refine wpAny_pyIter_list p.isList ?_;refine⟨s1.heap.objs.size,[s1.heap.objs.size],_,_,H1,rfl,I1.kept (t':=s1.toks) λb o e=>Heap.get?_push_of_some _ e,sk a _,⟨_,Heap.get?_push_size _ rfl,rfl,rfl⟩,λb hb=>?_,q⟩;have e:b=s1.heap.objs.size:=by simpa using hb
 subst e;exact I1.fpOk (Nat.le_refl _) (I1.hok.fresh (Nat.le_refl _))
theorem uf{pins:List (Addr×Obj)}{σ:St}{H:Hp}{s:Shared}{R:It->Hp->Prop}{E:Value->Shared->Prop}{lo hi:Int}{t u v:Tok}{tk:Nat}(I:Aj X pins σ H s)(h1:-(2^62)<=lo)(h2:lo<2^62)(h3:-(2^62)<=hi)(h4:hi<2^62)
  (q:R (Itr lo (hi - lo).toNat) H):wpAny (model X.prog X.w) X.A (pyIter (.ref s.heap.objs.size)) (PIE X pins σ tg R) E { s with heap:=s.heap.push { cls:=.type "range",data:=.fields #[.int lo t,.int hi u,.int 1 v] },toks:=tk }:=by
 refine wpAny_pyIter_range (IsRange.new ..) (small_one h1 h2 h3 h4) ?_;have I1:Aj X pins σ H { s with heap:=s.heap.push { cls:=.type "range",data:=.fields #[.int lo t,.int hi u,.int 1 v] },toks:=tk }:=I.kept λb o e=>Heap.get?_push_of_some _ e;refine⟨(s.heap.push { cls:=.type "range",data:=.fields #[.int lo t,.int hi u,.int 1 v] }).objs.size,[(s.heap.push { cls:=.type "range",data:=.fields #[.int lo t,.int hi u,.int 1 v] }).objs.size],_,_,H,rfl,
  I1.kept (t':=tk) λb o e=>Heap.get?_push_of_some _ e,pO _ lo (hi - lo).toNat,?_,λb hb=>?_,q⟩
 ·have e1:lo+((0:Nat):Int)*1=lo:=by simp
  have e2:(((hi - lo).toNat:Nat):Int) - ((0:Nat):Int)=Builtin.Range.rangeSize lo hi 1:=by rw[rangeSize_one];split <;> omega
  show IsRangeIter _ _ (lo+((0:Nat):Int)*1) ((((hi - lo).toNat:Nat):Int) - ((0:Nat):Int)) 1;rw[e1,e2];exact Heap.get?_push_size _ rfl
 ·have e:b=(s.heap.push { cls:=.type "range",data:=.fields #[.int lo t,.int hi u,.int 1 v] }).objs.size:=by simpa using hb
  subst e;exact I1.fpOk (Nat.le_refl _) (I1.hok.fresh (Nat.le_refl _))
noncomputable def zl(ta:TA):TI:=λσ H R=>ta σ H λvs H1=>∃j:Int,vs = [.int j]/\-(2^62)<=j/\j<2^62/\R (Itr 0 j.toNat) H1
theorem gF{a:Expr}{ta:TA}{p pos:Pos}(hg:Gl X "range")(hm:X.mg "range" = none)(ha:PA X [a] ta)(hs:starEach [a] X.env = [(false,eval a X.env)]:=by rfl):PI X tg (.Call (.Name "range" p) [a] [] pos) (zl ta):=by
 intro pins s σ H R I h;refine Call_ (gg I hg hm boot_range (PyProof.Rows.callWith_type1 (thn (ha pos pins s σ H _ I h) λus s1 ⟨vs,H1,I1,r1,q1⟩=>?_) hs rfl));obtain⟨j,e,q1,q2,q⟩:=q1;subst e;cases r1 with
 | cons r rr =>
  cases rr;obtain⟨t,rfl⟩:=r;exact call_range_1 (uf I1 (by omega) (by omega) q1 q2 (by simpa using q))
noncomputable def zR(wi:TI)(g:TG)(tb:TS):TS:=λD σ H=>wi σ H λJ H1=>∃W:Nat->Nat->St->Hp->Prop,(∃m,W 0 m σ H1)/\∀i m σ H,W i m σ H ->
 (J.stop i H/\D.nx σ H)\/(J.go i H/\∃N:St->Hp->Prop,(∀σ' H',N σ' H'->∃m',m'<m/\W (i+1) m' σ' H')/\∀x H',J.yld i H x H'->g x σ H' λσ2 H2=>tb { D with nx:=N,ct:=N,bk:=D.nx } σ2 H2)
noncomputable def j7(fp:List Addr)(h:Heap):List (Addr×Obj):=fp.filterMap λb=>(h.get? b).map λo=>(b,o)
theorem cC{fp:List Addr}{h:Heap}{b:Addr}{o:Obj}(hb:b∈fp)(e:h.get? b=some o):(b,o)∈j7 fp h:=List.mem_filterMap.mpr ⟨b,hb,by rw[e];rfl⟩
theorem sL{fp:List Addr}{h:Heap}{p:Addr×Obj}(hp:p∈j7 fp h):p.1∈fp/\h.get? p.1=some p.2:=by
 obtain⟨b,hb,e⟩:=List.mem_filterMap.mp hp;cases q:h.get? b with
 | none=>rw[q]at e;cases e
 | some o =>
  rw[q]at e;have e':(b,o)=p:=Option.some.inj e;subst e';exact⟨hb,q⟩
theorem Aj.pinned{pins:List (Addr×Obj)}{σ:St}{H:Hp}{s:Shared}{fp:List Addr}(I:Aj X pins σ H s)(hf:∀b∈fp,ee X pins H b)(ho:∀b∈fp,∃o,s.heap.get? b=some o/\∀v,o.data≠.cell v):Aj X (pins++j7 fp s.heap) σ H s :=
 I.pins_of λp hp=>(List.mem_append.mp hp).elim (λz=>I.pin p (List.mem_append_right _ z)) λz=>by
  obtain⟨hb,e⟩:=sL z;obtain⟨f0,f1,f2,_⟩:=hf p.1 hb;obtain⟨o,e',d⟩:=ho p.1 hb;rw[e]at e';cases e';exact⟨e,f0,f1,f2,d⟩
theorem Aj.unpinned{pins pl:List (Addr×Obj)}{σ:St}{H:Hp}{s:Shared}(I:Aj X (pins++pl) σ H s):Aj X pins σ H s:=I.pins_of λp hp=>I.pin p (List.mem_append_right _ (List.mem_append_left _ hp))
theorem fg{iter:Expr}{body:List Stmt}{wi:TI}{g:TG}{tb:TS}{pos:Pos}(hp:PassesOwn (model X.prog X.w) X.A X.env X.xe)(hc:X.calm=true)(hi:PI X tg iter wi)(hg:PG X tg g)(hb:PSs X body tb)
  (hs:∀x,foldedSetIterable iter X.env x=pure x:=by intro _;rfl):PS X (.For tg iter body [] pos) (zR wi g tb):=by
 intro pins s σ H D I h;refine wpAny_For (thn (hi pins s σ H _ I h) λv s1 h1=>thn h1 λitv s2 h2=>?_) hs;obtain⟨it,fp,tn,J,H2,e,I2,T,st2,f2,W,⟨m0,w0⟩,turn⟩:=h2;subst e;have stat:∀{H':Hp},(∀b∈fp,H' b=none)->∀b∈fp,ee X pins H' b:=λhn b hb=>⟨hn b hb,(f2 b hb).2⟩;refine codeAny_forLoop_any (λn s'=>∃i σ' H',Aj X pins σ' H' s'/\tn i s'.heap/\(∀b∈fp,H' b=none)/\W i n σ' H') ?_ m0 ⟨0,σ,H2,I2,st2,λb hb=>(f2 b hb).1,w0⟩;rintro n s3 ⟨i,σ3,H3,I3,st3,fr3,w3⟩;rcases turn i n σ3 H3 w3 with⟨stop,qn⟩|⟨go,N,hN,step⟩
 ·refine wpAny_passesOwn hp (thn (T.done X rfl rfl rfl hc i pins s3 σ3 H3 X.xe I3 (stat fr3) st3 stop) λr s4 ⟨hr,I4⟩=>?_)
  subst hr;exact wpAny_execs_nil ⟨σ3,H3,I4,qn⟩
 ·refine wpAny_passesOwn hp (thn (T.item X rfl rfl rfl hc i pins s3 σ3 H3 X.xe I3 (stat fr3) st3 go) λr s4 ⟨u,hr,h4⟩=>?_)
  subst hr;refine wpAny_passesOwn hp (thn h4 λ_ s5 ⟨x,H5,I5,r5,y5,st5,fr5⟩=>?_);have I5':=I5.pinned (stat fr5) (T.obj _ _ st5);refine wpAny_passesOwn hp (thn (hg _ s5 σ3 H5 x u _ I5' r5 (step x H5 y5)) λ_ s6 ⟨σ6,H6,I6,q6⟩=>?_);refine wpAny_passesOwn hp (thn (hb _ s6 σ6 H6 _ I6 q6) λf s7 q7=>?_);have again:∀{σ7:St} {H7:Hp},Aj X (pins++j7 fp s5.heap) σ7 H7 s7->N σ7 H7->∃m,m<n/\∃i σ' H',Aj X pins σ' H' s7/\tn i s7.heap/\(∀b∈fp,H' b=none)/\W i m σ' H':=λ{σ7 H7} I7 n7=>by
   obtain⟨m',hm,w7⟩:=hN σ7 H7 n7;refine⟨m',hm,i+1,σ7,H7,I7.unpinned,T.keep _ _ _ st5 λb hb o e=>(I7.pin (b,o) (List.mem_append_right _ (List.mem_append_right _ (cC hb e)))).1,λb hb=>?_,w7⟩;obtain⟨o,e,d⟩:=T.obj _ _ st5 b hb;exact(I7.pin (b,o) (List.mem_append_right _ (List.mem_append_right _ (cC hb e)))).2.1
  cases f with
  | next=>obtain⟨σ7,H7,I7,n7⟩:=q7;exact again I7 n7
  | cont=>obtain⟨σ7,H7,I7,n7⟩:=q7;exact again I7 n7
  | brk=>obtain⟨σ7,H7,I7,q7⟩:=q7;exact⟨σ7,H7,I7.unpinned,q7⟩
  | ret v=>obtain⟨x7,σ7,H7,I7,r7,q7⟩:=q7;exact⟨x7,σ7,H7,I7.unpinned,r7,q7⟩
end
theorem vb{K:W.Frag}{a:Addr}{xs:List V}{g:TG}{tb:TS}{D:fK}{σ:St}{H:Hp}(Pv:Nat->St->Hp->Prop)(h0:Pv 0 σ H)(hl:∀i σ H,i<=xs.length->Pv i σ H->SqL K H a xs)
  (hs:∀i x σ H,xs[i]? = some x->Pv i σ H->g x σ H λσ2 H2=>tb { D with nx:=Pv (i+1),ct:=Pv (i+1),bk:=D.nx } σ2 H2) (hd:∀σ H,Pv xs.length σ H->D.nx σ H) :
  ∃W:Nat->Nat->St->Hp->Prop,(∃m,W 0 m σ H)/\∀i m σ H,W i m σ H ->
   ((Itl K a).stop i H/\D.nx σ H)\/((Itl K a).go i H/\∃N:St->Hp->Prop,(∀σ' H',N σ' H'->∃m',m'<m/\W (i+1) m' σ' H')/\∀x H',(Itl K a).yld i H x H'->g x σ H' λσ2 H2=>tb { D with nx:=N,ct:=N,bk:=D.nx } σ2 H2):=by
 refine⟨λi m σ H=>m=xs.length - i/\i<=xs.length/\Pv i σ H,⟨xs.length,by simp,Nat.zero_le _,h0⟩,?_⟩;rintro i m σ H ⟨rfl,hi,p⟩;have q:=hl i σ H hi p
 by_cases hlt:i<xs.length
 ·refine .inr ⟨⟨xs,xs[i],q,by simp[hlt]⟩,Pv (i+1),λσ' H' p'=>⟨xs.length - (i+1),by omega,rfl,hlt,p'⟩,λx H' y=>?_⟩
  obtain⟨e,y⟩:=y;subst e;exact hs i x σ _ (y xs q) p
 ·have e:i=xs.length:=by omega
  subst e;exact .inl ⟨⟨xs,q,Nat.le_refl _⟩,hd σ H p⟩
theorem gM{lo:Int}{n:Nat}{g:TG}{tb:TS}{D:fK}{σ:St}{H:Hp}(Pv:Nat->St->Hp->Prop)(h0:Pv 0 σ H)
  (hs:∀i σ H,i<n->Pv i σ H->g (.int (lo+i)) σ H λσ2 H2=>tb { D with nx:=Pv (i+1),ct:=Pv (i+1),bk:=D.nx } σ2 H2) (hd:∀σ H,Pv n σ H->D.nx σ H) :
  ∃W:Nat->Nat->St->Hp->Prop,(∃m,W 0 m σ H)/\∀i m σ H,W i m σ H ->
   ((Itr lo n).stop i H/\D.nx σ H)\/((Itr lo n).go i H/\∃N:St->Hp->Prop,(∀σ' H',N σ' H'->∃m',m'<m/\W (i+1) m' σ' H')/\∀x H',(Itr lo n).yld i H x H'->g x σ H' λσ2 H2=>tb { D with nx:=N,ct:=N,bk:=D.nx } σ2 H2):=by
 refine⟨λi m σ H=>m=n - i/\i<=n/\Pv i σ H,⟨n,by simp,Nat.zero_le _,h0⟩,?_⟩;rintro i m σ H ⟨rfl,hi,p⟩
 by_cases hlt:i<n
 ·refine .inr ⟨hlt,Pv (i+1),λσ' H' p'=>⟨n - (i+1),by omega,rfl,hlt,p'⟩,λx H' y=>?_⟩
  obtain⟨e,y⟩:=y;subst e y;exact hs i σ _ hlt p
 ·have e:i=n:=by omega
  subst e;exact .inl ⟨Nat.le_refl _,hd σ H p⟩
theorem im{c:TT}{tb:TS}{D:fK}{σ:St}{H:Hp}(Pv:St->Hp->Prop)(μ:St->Hp->Nat)(h0:Pv σ H)
  (hs:∀σ H,Pv σ H->c σ H λb H1=>if b=true then tb { D with nx:=λσ' H'=>Pv σ' H'/\μ σ' H'<μ σ H,ct:=λσ' H'=>Pv σ' H'/\μ σ' H'<μ σ H,bk:=D.nx } σ H1 else D.nx σ H1)
  (mono:∀σ H Q Q',(∀b H1,Q b H1->Q' b H1)->c σ H Q->c σ H Q'):tT c tb D σ H:=by
 refine⟨λm σ H=>m=μ σ H/\Pv σ H,⟨_,rfl,h0⟩,?_⟩;rintro m σ H ⟨rfl,p⟩;refine mono σ H _ _ (λb H1 q=>?_) (hs σ H p);cases b with
 | true=>exact⟨_,λσ' H' ⟨p',l⟩=>⟨_,l,rfl,p'⟩,q⟩
 | false=>exact q
noncomputable abbrev R2:=V->V->Hp->VK->Prop
noncomputable def OpR(X:Cx)(f:Value->Value->Sem Value)(r:R2):Prop :=
 ∀(pins:List (Addr×Obj)) (s:Shared) (σ:St) (H:Hp) (x y:V) (v u:Value) (Q:VK),Aj X pins σ H s->a6 x v->a6 y u->r x y H Q ->
  wpAny (model X.prog X.w) X.A (f v u) (EP X pins σ Q) X.xe s
noncomputable def UnR(X:Cx)(f:Value->Sem Value)(r:V->Hp->VK->Prop):Prop :=
 ∀(pins:List (Addr×Obj)) (s:Shared) (σ:St) (H:Hp) (x:V) (v:Value) (Q:VK),Aj X pins σ H s->a6 x v->r x H Q ->
  wpAny (model X.prog X.w) X.A (f v) (EP X pins σ Q) X.xe s
noncomputable def fH(X:Cx)(f:Value)(r:List V->Hp->VK->Prop):Prop :=
 ∀(pins:List (Addr×Obj)) (s:Shared) (σ:St) (H:Hp) (xs:List V) (us:List Value) (Q:VK),Aj X pins σ H s->aJ xs us->r xs H Q ->
  wpAny (model X.prog X.w) X.A (call f us) (EP X pins σ Q) X.xe s
noncomputable def tOp(r:R2)(ta tb:TE):TE:=λσ H Q=>ta σ H λx H1=>tb σ H1 λy H2=>r x y H2 Q
noncomputable def tUn(r:V->Hp->VK->Prop)(ta:TE):TE:=λσ H Q=>ta σ H λx H1=>r x H1 Q
inductive rI (C:Int->Int->Prop) (g:Int->Int->V) (x y:V) (H:Hp) (Q:VK):Prop
 | mk (i j:Int) (e:x = .int i) (f:y = .int j) (c:C i j) (q:Q (g i j) H):rI C g x y H Q
inductive HQ (g:Int->Int->V) (x y:V) (H:Hp) (Q:VK):Prop
 | mk (i j:Int) (e:x = .int i) (f:y = .int j) (q:Q (g i j) H):HQ g x y H Q
noncomputable def rU(g:Int->V):V->Hp->VK->Prop:=λx H Q=>∃i,x = .int i/\Q (g i) H
section
variable {X:Cx} {a b c:Expr} {ta tb tc:TE} {pos:Pos}
theorem yF(ha:PE X a ta)(hb:PE X b tb){pins:List (Addr×Obj)}{s:Shared}{σ:St}{H:Hp}{R:V->V->Hp->Prop}(I:Aj X pins σ H s)
  (h:ta σ H λx H1=>tb σ H1 λy H2=>R x y H2) {Q:Value->Shared->Prop} {f:Value->Value->Sem Value}
  (hf:∀v u s2 x y H2,Aj X pins σ H2 s2->a6 x v->a6 y u->R x y H2->wpAny (model X.prog X.w) X.A (f v u) Q X.xe s2) :
  wpAny (model X.prog X.w) X.A (eval a X.env) (λv s₁=>wpAny (model X.prog X.w) X.A (eval b X.env) (λu s₂=>wpAny (model X.prog X.w) X.A (f v u) Q X.xe s₂) X.xe s₁) X.xe s:=by
 refine thn (ha pins s σ H _ I h) λv s1 ⟨x,H1,I1,r1,q1⟩=>?_;refine thn (hb pins s1 σ H1 _ I1 q1) λu s2 ⟨y,H2,I2,r2,q2⟩=>?_;exact hf v u s2 x y H2 I2 r1 r2 q2
theorem aw{op:Operator}{r:R2}(ho:OpR X (binaryOp op) r)(ha:PE X a ta)(hb:PE X b tb):PE X (.BinOp a op b pos) (tOp r ta tb):=by
 intro pins s σ H Q I h;exact wpAny_BinOp (yF ha hb I h λv u s2 x y H2 I2 rx ry q=>ho pins s2 σ H2 x y v u Q I2 rx ry q)
theorem iw{op:UnaryOp}{r:V->Hp->VK->Prop}(ho:UnR X (unaryOp op) r)(ha:PE X a ta):PE X (.UnaryOp op a pos) (tUn r ta):=by
 intro pins s σ H Q I h;exact UnaryOp_ (thn (ha pins s σ H _ I h) λv s1 ⟨x,H1,I1,r1,q1⟩=>ho pins s1 σ H1 x v Q I1 r1 q1)
theorem opI{f:Value->Value->Sem Value}{C:Int->Int->Prop}{g:Int->Int->Int}
  (rule:∀(i j:Int) (t u:Tok) (s:Shared) (Q:Value->Shared->Prop) (E:Value->Shared->Prop),C i j->Q (.int (g i j) s.toks) { s with toks:=s.toks+1 }->wpAny (model X.prog X.w) X.A (f (.int i t) (.int j u)) Q E s) :
  OpR X f (rI C λi j=>.int (g i j)):=by
 intro pins s σ H x y v u Q I rx ry h;obtain⟨i,j,rfl,rfl,hc,q⟩:=h;obtain⟨t,rfl⟩:=rx;obtain⟨t',rfl⟩:=ry;exact rule i j t t' s _ _ hc ⟨.int (g i j),H,I.tok _,⟨_,rfl⟩,q⟩
theorem y7{f:Value->Value->Sem Value}{g:Int->Int->Int}
  (rule:∀(i j:Int) (t u:Tok) (s:Shared) (Q:Value->Shared->Prop) (E:Value->Shared->Prop),Q (.int (g i j) s.toks) { s with toks:=s.toks+1 }->wpAny (model X.prog X.w) X.A (f (.int i t) (.int j u)) Q E s) :
  OpR X f (HQ λi j=>.int (g i j)):=by
 intro pins s σ H x y v u Q I rx ry h;obtain⟨i,j,rfl,rfl,q⟩:=h;obtain⟨t,rfl⟩:=rx;obtain⟨t',rfl⟩:=ry;exact rule i j t t' s _ _ ⟨.int (g i j),H,I.tok _,⟨_,rfl⟩,q⟩
theorem wg{f:Value->Value->Sem Value}{g:Int->Int->Bool}
  (rule:∀(i j:Int) (t u:Tok) (s:Shared) (Q:Value->Shared->Prop) (E:Value->Shared->Prop),Q (.bool (g i j)) s->wpAny (model X.prog X.w) X.A (f (.int i t) (.int j u)) Q E s) :
  OpR X f (HQ λi j=>.bl (g i j)):=by
 intro pins s σ H x y v u Q I rx ry h;obtain⟨i,j,rfl,rfl,q⟩:=h;obtain⟨t,rfl⟩:=rx;obtain⟨t',rfl⟩:=ry;exact rule i j t t' s _ _ ⟨.bl (g i j),H,I,rfl,q⟩
noncomputable def Ag(i j:Int):Prop:=0<=j/\j<=1000000/\i.natAbs<2^64
noncomputable def xi(i j:Int):Prop:=(-(2^64)<i/\i<2^64)\/(-(2^64)<j/\j<2^64)
theorem xi.ok{i j:Int}(h:xi i j):IntMulOk i j:=by
 rcases h with⟨h1,h2⟩|⟨h1,h2⟩
 ·exact .of_left (intBits_le_64 h1 h2)
 ·exact .of_right (intBits_le_64 h1 h2)
theorem bP:OpR X (binaryOp .Add) (HQ λi j=>.int (i+j)):=y7 λ_ _ _ _ _ _ _ q=>add_int q
theorem bE:OpR X (binaryOp .Sub) (HQ λi j=>.int (i - j)):=y7 λ_ _ _ _ _ _ _ q=>sub_int q
theorem du:OpR X (binaryOp .Mod) (rI (λ_ j=>0<j) λi j=>.int (i % j)):=opI λi j _ _ _ _ _ hc q=>by
 have h1:(0:Int)<j:=hc;exact mod_int' (by omega) (by rw[Int.fmod_eq_emod_of_nonneg i (by omega)];exact q)
theorem ib:OpR X (binaryOp .Pow) (rI Ag λi j=>.int (i^j.toNat)):=opI λ_ _ _ _ _ _ _ hc q=>pow_int_small hc.1 hc.2.1 hc.2.2 q
theorem unI{f:Value->Sem Value}{g:Int->Int}
  (rule:∀(i:Int) (t:Tok) (s:Shared) (Q:Value->Shared->Prop) (E:Value->Shared->Prop),Q (.int (g i) s.toks) { s with toks:=s.toks+1 }->wpAny (model X.prog X.w) X.A (f (.int i t)) Q E s) :
  UnR X f (rU λi=>.int (g i)):=by
 intro pins s σ H x v Q I rx h;obtain⟨i,rfl,q⟩:=h;obtain⟨t,rfl⟩:=rx;exact rule i t s _ _ ⟨.int (g i),H,I.tok _,⟨_,rfl⟩,q⟩
theorem e8:UnR X (unaryOp .USub) (rU λi=>.int (-i)):=unI λ_ _ _ _ _ q=>neg_int q
end
noncomputable def yW:V->V->Bool
 | .non,.non=>true | .non,.int _=>true | .int _,.non=>true | .non,.bl _=>true | .bl _,.non=>true | .non,.str _=>true | .str _,.non=>true
 | .int _,.int _=>true | .bl _,.bl _=>true | .str _,.str _=>true | .byt _,.byt _=>true
 | .int _,.str _=>true | .str _,.int _=>true | .bl _,.str _=>true | .str _,.bl _=>true
 | _,_=>false
inductive IZ (x y:V) (H:Hp) (Q:VK):Prop
 | mk (s:yW x y=true) (q:Q (.bl (decide (x=y))) H):IZ x y H Q
inductive IX (x y:V) (H:Hp) (Q:VK):Prop
 | mk (s:yW x y=true) (q:Q (.bl (!decide (x=y))) H):IX x y H Q
theorem rR{i j:Int}:decide (V.int i=V.int j)=(i == j):=by
 rw[Bool.eq_iff_iff];simp
theorem vt{i j:Bool}:decide (V.bl i=V.bl j)=(i == j):=by
 rw[Bool.eq_iff_iff];simp
theorem rQ{i j:Str}:decide (V.str i=V.str j)=(i == j):=by
 rw[Bool.eq_iff_iff];simp
theorem rT{i j:Array UInt8}:decide (V.byt i=V.byt j)=(i.toList == j.toList):=by
 rw[Bool.eq_iff_iff];cases i;cases j;simp
section
variable {X:Cx} {a b c:Expr} {ta tb tc:TE} {pos:Pos}
theorem aX{pins:List (Addr×Obj)}{σ:St}{H:Hp}{s:Shared}{Q:VK}{k k':Bool}(I:Aj X pins σ H s)(q:Q (.bl k) H)(e:k=k'):EP X pins σ Q (.bool k') s:=by
 subst e;exact⟨.bl k,H,I,rfl,q⟩
theorem aQ:OpR X (compareOp .Eq) IZ:=by
 intro pins s σ H x y v u Q I rx ry h;obtain⟨hs,q⟩:=h;cases x with
 | non =>
  cases rx;cases y with
  | non=>cases ry;exact PySem.EqNone.eq_none_none (aX I q (by simp))
  | bl j=>cases ry;exact PySem.EqNone.eq_none_bool (aX I q (by simp))
  | int j=>obtain⟨t',rfl⟩:=ry;exact PySem.EqNone.eq_none_int (aX I q (by simp))
  | str j=>obtain⟨t',rfl⟩:=ry;exact PySem.EqNone.eq_none_str (aX I q (by simp))
  | _=>exact absurd (show false=true from hs) Bool.false_ne_true
 | bl i =>
  cases rx;cases y with
  | non=>cases ry;exact PySem.EqNone.eq_bool_none (aX I q (by simp))
  | bl j=>cases ry;exact eq_bool (aX I q vt)
  | str j=>obtain⟨t',rfl⟩:=ry;exact PySem.EqMixed.eq_bool_str (aX I q (by simp))
  | _=>exact absurd (show false=true from hs) Bool.false_ne_true
 | int i =>
  obtain⟨t,rfl⟩:=rx;cases y with
  | non=>cases ry;exact PySem.EqNone.eq_int_none (aX I q (by simp))
  | int j=>obtain⟨t',rfl⟩:=ry;exact eq_int (aX I q rR)
  | str j=>obtain⟨t',rfl⟩:=ry;exact PySem.EqMixed.eq_int_str (aX I q (by simp))
  | _=>exact absurd (show false=true from hs) Bool.false_ne_true
 | str i =>
  obtain⟨t,rfl⟩:=rx;cases y with
  | non=>cases ry;exact PySem.EqNone.eq_str_none (aX I q (by simp))
  | bl j=>cases ry;exact PySem.EqMixed.eq_str_bool (aX I q (by simp))
  | int j=>obtain⟨t',rfl⟩:=ry;exact PySem.EqMixed.eq_str_int (aX I q (by simp))
  | str j=>obtain⟨t',rfl⟩:=ry;exact eq_str (aX I q rQ)
  | _=>exact absurd (show false=true from hs) Bool.false_ne_true
 | byt i =>
  obtain⟨t,rfl⟩:=rx;cases y with
  | byt j=>obtain⟨t',rfl⟩:=ry;exact W.eq_bytes (aX I q rT)
  | _=>exact absurd (show false=true from hs) Bool.false_ne_true
 | _=>cases y <;> exact absurd (show false=true from hs) Bool.false_ne_true
theorem dw:OpR X (compareOp .NotEq) IX:=by
 intro pins s σ H x y v u Q I rx ry h;obtain⟨hs,q⟩:=h;cases x with
 | non =>
  cases rx;cases y with
  | non=>cases ry;exact PySem.EqNone.ne_none_none (aX I q (by simp))
  | bl j=>cases ry;exact PySem.EqNone.ne_none_bool (aX I q (by simp))
  | int j=>obtain⟨t',rfl⟩:=ry;exact PySem.EqNone.ne_none_int (aX I q (by simp))
  | str j=>obtain⟨t',rfl⟩:=ry;exact PySem.EqNone.ne_none_str (aX I q (by simp))
  | _=>exact absurd (show false=true from hs) Bool.false_ne_true
 | bl i =>
  cases rx;cases y with
  | non=>cases ry;exact PySem.EqNone.ne_bool_none (aX I q (by simp))
  | bl j=>cases ry;exact ne_bool (aX I q (congrArg not vt))
  | str j=>obtain⟨t',rfl⟩:=ry;exact PySem.EqMixed.ne_bool_str (aX I q (by simp))
  | _=>exact absurd (show false=true from hs) Bool.false_ne_true
 | int i =>
  obtain⟨t,rfl⟩:=rx;cases y with
  | non=>cases ry;exact PySem.EqNone.ne_int_none (aX I q (by simp))
  | int j=>obtain⟨t',rfl⟩:=ry;exact ne_int (aX I q (congrArg not rR))
  | str j=>obtain⟨t',rfl⟩:=ry;exact PySem.EqMixed.ne_int_str (aX I q (by simp))
  | _=>exact absurd (show false=true from hs) Bool.false_ne_true
 | str i =>
  obtain⟨t,rfl⟩:=rx;cases y with
  | non=>cases ry;exact PySem.EqNone.ne_str_none (aX I q (by simp))
  | bl j=>cases ry;exact PySem.EqMixed.ne_str_bool (aX I q (by simp))
  | int j=>obtain⟨t',rfl⟩:=ry;exact PySem.EqMixed.ne_str_int (aX I q (by simp))
  | str j=>obtain⟨t',rfl⟩:=ry;exact ne_str (aX I q (congrArg not rQ))
  | _=>exact absurd (show false=true from hs) Bool.false_ne_true
 | byt i =>
  obtain⟨t,rfl⟩:=rx;cases y with
  | byt j=>obtain⟨t',rfl⟩:=ry;exact W.ne_bytes (aX I q (congrArg not rT))
  | _=>exact absurd (show false=true from hs) Bool.false_ne_true
 | _=>cases y <;> exact absurd (show false=true from hs) Bool.false_ne_true
theorem oz:OpR X (compareOp .Lt) (HQ λi j=>.bl (decide (i<j))):=wg λ_ _ _ _ _ _ _ q=>lt_int q
theorem eh:OpR X (compareOp .LtE) (HQ λi j=>.bl (decide (i<=j))):=wg λ_ _ _ _ _ _ _ q=>le_int q
theorem eM:OpR X (compareOp .Gt) (HQ λi j=>.bl (decide (j<i))):=wg λ_ _ _ _ _ _ _ q=>gt_int q
theorem xu:OpR X (compareOp .GtE) (HQ λi j=>.bl (decide (j<=i))):=wg λ_ _ _ _ _ _ _ q=>ge_int q
theorem ur:OpR X (compareOp .Is) (λx y H Q=>y = .non/\Q (.bl (decide (x = .non))) H):=by
 intro pins s σ H x y v u Q I rx ry h;obtain⟨rfl,q⟩:=h;cases ry;refine is_none_gen (aX I q ?_);cases x <;> first
  | (cases rx;rfl)
  | (obtain⟨t,rfl⟩:=rx;rfl)
theorem ar(b:Expr){op:CmpOp}(h:op≠.In:=by decide)(h2:op≠.NotIn:=by decide):behindInMarks op b=false:=by
 have e1:(op == CmpOp.In)=false:=by cases op <;> first|rfl|exact absurd rfl h
 have e2:(op == CmpOp.NotIn)=false:=by cases op <;> first|rfl|exact absurd rfl h2
 cases b <;> simp[behindInMarks,e1,e2]
theorem aR{op:CmpOp}{r:R2}(ho:OpR X (compareOp op) r)(ha:PE X a ta)(hb:PE X b tb)(hm:behindInMarks op b=false):PE X (.Compare a [op] [b] pos) (tOp r ta tb):=by
 intro pins s σ H Q I h;exact wpAny_Compare1 (yF ha hb I h λv u s2 x y H2 I2 rx ry q=>ho pins s2 σ H2 x y v u Q I2 rx ry q) hm
inductive I0 (x:V) (H:Hp) (Q:Bool->Hp->Prop):Prop
 | mk (k:Bool) (e:x = .bl k) (q:Q k H):I0 x H Q
noncomputable def qO(t:TE):TT:=λσ H Q=>t σ H λx H'=>I0 x H' Q
theorem ap{op:CmpOp}{r:R2}(ho:OpR X (compareOp op) r)(ha:PE X a ta)(hb:PE X b tb)(hm:behindInMarks op b=false):PT X (.Compare a [op] [b] pos) (qO (tOp r ta tb)):=by
 intro pins s σ H Q I h;refine wpAny_isTrue_Compare1 (thn (ha pins s σ H _ I h) λv s1 ⟨x,H1,I1,r1,q1⟩=>thn (hb pins s1 σ H1 _ I1 q1) λu s2 ⟨y,H2,I2,r2,q2⟩ =>
  thn (ho pins s2 σ H2 x y v u _ I2 r1 r2 q2) λc s3 ⟨z,H3,I3,r3,k,e,q3⟩=>?_) hm
 subst e;cases r3;exact wpAny_truthy_bool ⟨H3,I3,q3⟩
noncomputable def tW(r r':R2)(ta tb tc:TE):TE:=λσ H Q=>ta σ H λx H1=>tb σ H1 λy H2=>r x y H2 λz H3=>∃k,z = .bl k /\
 (if k=true then tc σ H3 λw' H4=>r' y w' H4 Q else Q (.bl false) H3)
theorem ou{op op':CmpOp}{r r':R2}(ho:OpR X (compareOp op) r)(ho':OpR X (compareOp op') r')(ha:PE X a ta)(hb:PE X b tb)(hc:PE X c tc)
  (hm:lastMarks [op,op'] [b,c]=false:=by with_unfolding_all rfl):PE X (.Compare a [op,op'] [b,c] pos) (tW r r' ta tb tc):=by
 intro pins s σ H Q I h;refine Compare_chain (thn (ha pins s σ H _ I h) λv s1 ⟨x,H1,I1,r1,q1⟩=>chain_link (thn (hb pins s1 σ H1 _ I1 q1) λu s2 ⟨y,H2,I2,r2,q2⟩ =>
  thn (ho pins s2 σ H2 x y v u _ I2 r1 r2 q2) λd s3 ⟨z,H3,I3,r3,k,e,q3⟩=>?_)) hm
 subst e;cases r3;refine wpAny_truthy_bool ?_;cases k with
 | false=>exact ite_ff ⟨.bl false,H3,I3,rfl,q3⟩
 | true=>exact ite_tt (chain_last (thn (hc pins s3 σ H3 _ I3 q3) λw' s4 ⟨z',H4,I4,r4,q4⟩=>ho' pins s4 σ H4 y z' u w' Q I4 r2 r4 q4))
theorem jX{op op':CmpOp}{r r':R2}(ho:OpR X (compareOp op) r)(ho':OpR X (compareOp op') r')(ha:PE X a ta)(hb:PE X b tb)(hc:PE X c tc)
  (hm:lastMarks [op,op'] [b,c]=false:=by with_unfolding_all rfl):PT X (.Compare a [op,op'] [b,c] pos) (qO (tW r r' ta tb tc)):=by
 intro pins s σ H Q I h;refine isTrue_chain (thn (ha pins s σ H _ I h) λv s1 ⟨x,H1,I1,r1,q1⟩=>test_link (thn (hb pins s1 σ H1 _ I1 q1) λu s2 ⟨y,H2,I2,r2,q2⟩ =>
  thn (ho pins s2 σ H2 x y v u _ I2 r1 r2 q2) λd s3 ⟨z,H3,I3,r3,k,e,q3⟩=>?_)) hm
 subst e;cases r3;refine wpAny_truthy_bool ?_;cases k with
 | false =>
  obtain⟨k',e',q'⟩:=q3;cases e';exact ite_ff ⟨H3,I3,q'⟩
 | true =>
  refine ite_tt (test_last (thn (hc pins s3 σ H3 _ I3 q3) λw' s4 ⟨z',H4,I4,r4,q4⟩=>thn (ho' pins s4 σ H4 y z' u w' _ I4 r2 r4 q4) λd' s5 ⟨z2,H5,I5,r5,k2,e2,q5⟩=>?_));subst e2;cases r5;exact wpAny_truthy_bool ⟨H5,I5,q5⟩
theorem kj:(sizeLine:Nat)<2^63:=by rw[sizeLine_eq];decide
theorem cE{x:V}{us:List Value}(r:aJ [x] us):∃u,us = [u]/\a6 x u:=by
 cases r with
 | cons r1 r2=>cases r2;exact⟨_,rfl,r1⟩
theorem tN{x y:V}{us:List Value}(r:aJ [x,y] us):∃u w',us = [u,w']/\a6 x u/\a6 y w':=by
 cases r with
 | cons r1 r2 =>
  cases r2 with
  | cons r3 r4=>cases r4;exact⟨_,_,rfl,r1,r3⟩
theorem gz:fH X (.builtin "abs") (λxs H Q=>∃i,xs = [.int i]/\Q (.int (if i<0 then -i else i)) H):=by
 intro pins s σ H xs us Q I r h;obtain⟨i,rfl,q⟩:=h;obtain⟨u,rfl,t,rfl⟩:=cE r;exact call_abs_int λu tk=>⟨.int (if i<0 then -i else i),H,I.tok _,⟨_,rfl⟩,q⟩
theorem jr(hc:X.calm=true):fH X (.builtin "max") (λxs H Q=>∃i j,xs = [.int i,.int j]/\Q (.int (if j>i then j else i)) H):=by
 intro pins s σ H xs us Q I r h;obtain⟨i,j,rfl,q⟩:=h;obtain⟨u,w',rfl,⟨t,rfl⟩,⟨t',rfl⟩⟩:=tN r;refine max_two_ints (I.ok.hd hc) λh' tk k=>⟨_,H,I.kept k,?_,q⟩
 by_cases hj:j>i
 ·rw[if_pos hj,if_pos hj];exact⟨_,rfl⟩
 ·rw[if_neg hj,if_neg hj];exact⟨_,rfl⟩
theorem eX(hc:X.calm=true):fH X (.builtin "min") (λxs H Q=>∃i j,xs = [.int i,.int j]/\Q (.int (if j<i then j else i)) H):=by
 intro pins s σ H xs us Q I r h;obtain⟨i,j,rfl,q⟩:=h;obtain⟨u,w',rfl,⟨t,rfl⟩,⟨t',rfl⟩⟩:=tN r;refine min_two_ints (I.ok.hd hc) λh' tk k=>⟨_,H,I.kept k,?_,q⟩
 by_cases hj:j<i
 ·rw[if_pos hj,if_pos hj];exact⟨_,rfl⟩
 ·rw[if_neg hj,if_neg hj];exact⟨_,rfl⟩
theorem tD:fH X (.type "int") (λxs H Q=>(∃i,xs = [.int i]/\Q (.int i) H)\/∃k,xs = [.bl k]/\Q (.int (if k then 1 else 0)) H):=by
 intro pins s σ H xs us Q I r h;rcases h with⟨i,rfl,q⟩|⟨k,rfl,q⟩
 ·obtain⟨u,rfl,t,rfl⟩:=cE r
  exact call_int_int ⟨.int i,H,I,⟨_,rfl⟩,q⟩
 ·obtain⟨u,rfl,r1⟩:=cE r
  cases r1;exact call_int_bool ⟨.int (if k then 1 else 0),H,I.tok _,⟨_,rfl⟩,q⟩
end
structure IL(h:Heap)(x dx C:Addr)(mA:Str->Option Value):Prop where
 obj:h.get? x=some (W.instObj C dx)
 ns:h.Ns1 dx mA
 ne:dx≠x
theorem sP{h:Heap}{dx:Addr}{mA:Str->Option Value}(n:h.Ns1 dx mA):∃od,h.get? dx=some od/\∀name,W.lookIn name od=some (mA name):=by
 obtain⟨o,es,ep,ho,hd,hk,_,hm⟩:=n;refine⟨o,ho,λname=>?_⟩;have e:=hm name;unfold nsFind findBy at e;rw[<- Array.find?_toList]at e;unfold W.lookIn;rw[hd];dsimp only
 split
 ·rename_i y q
  rw[q]at e;exact congrArg some e
 ·rename_i q
  rw[q]at e;have a:es.toList.any (·.refKey)=false:=by
   rw[List.any_eq_false];intro y hy;obtain⟨z,t,hkey⟩:=hk y (Array.mem_toList_iff.mp hy);simp[DictEntry.refKey,hkey]
  have a':¬es.toList.any (·.refKey)=true:=by rw[a];exact Bool.false_ne_true
  rw[if_neg a'];exact congrArg some e
theorem IL.look{h:Heap}{x dx C:Addr}{mA:Str->Option Value}(I:IL h x dx C mA):∃od,W.InstAt h x (W.instObj C dx) C (some od)/\∀name,W.lookIn name od=some (mA name) :=
 let ⟨od,ho,hl⟩:=sP I.ns
 ⟨od,⟨I.obj,rfl,rfl,ho⟩,hl⟩
section
variable {P:Program} {w:World} {H H':Hp} {h h':Heap} {a C dx:Addr} {fs fs':List (Str×V)}
theorem wE(hok:HOk P w H h)(e:H a=some (.ins C dx fs)):∃mA,IL h a dx C mA/\(∀f,yK (fs.lookup f) (mA f))/\PySem.Within mA (fs.map (·.1))/\fs.length<=1000/\H dx=some (.own a):=by
 obtain⟨d,z,ne,ob,mA,n,r,q⟩:=(show cJ P w H h a (.ins C dx fs) from hok a _ e);exact⟨mA,⟨ob,n,ne⟩,r,q,z,d⟩
end
structure IY(K:W.Frag)(C:Addr):Prop where
 pg:W.plainGet K C Str.empty=true
 hd:W.hasDictIn K C=true
 po:W.plainOver K C=true
 sa:W.findIn K (.ref C) "__setattr__" = some (some (.builtin "object.__setattr__"))
theorem IY.get{K:W.Frag}{C:Addr}(c:IY K C)(f:Str):W.plainGet K C f=true:=c.pg
section
variable {X:Cx} {pins:List (Addr×Obj)} {σ:St} {H:Hp} {s:Shared} {A:Around} {E:Value->Shared->Prop} {Q:Value->Shared->Prop} {c:Value} {b:Bool}
inductive DJ (K:W.Frag) (H:Hp):V->Value->Prop where
 | non:DJ K H .non (.type "NoneType")
 | bl (x:Bool):DJ K H (.bl x) (.type "bool")
 | int (i:Int):DJ K H (.int i) (.type "int")
 | str (x:Str):DJ K H (.str x) (.type "str")
 | flt (x:UInt64):DJ K H (.flt x) (.type "float")
 | lst {a:Addr} {xs:List V} (e:H a=some (.lst xs)):DJ K H (.ref a) (.type "list")
 | frz {a:Addr} {o:Obj} {xs:List V} (e:H a=some (.frz o (.lst xs))):DJ K H (.ref a) (.type "list")
 | tup {a:Addr} {xs:List V} (e:H a=some (.tup xs)):DJ K H (.ref a) (.type "tuple")
 | dK {a:Addr} {kvs:List (Key×V)} (e:H a=some (.dK kvs)):DJ K H (.ref a) (.type "dict")
 | dT {a:Addr} {kvs:List (List Key×V)} (e:H a=some (.dT kvs)):DJ K H (.ref a) (.type "dict")
 | ins {a C dx:Addr} {fs:List (Str×V)} (e:H a=some (.ins C dx fs)) (cl:IY K C) (ha:W.findIn K (.ref C) "__class__" = some (some (.builtin "object.__class__")))
   (hn:W.specialIn K (.builtin "object.__class__") "__get__" = some (some (.builtin "getset_descriptor.__get__"))) (htk:W.takesIn K (.builtin "object.__class__")=some true)
   (hm:W.mroIn K C (.type "object")=some true):DJ K H (.ref a) (.ref C)
theorem sV{x:V}{u t:Value}(I:Aj X pins σ H s)(rx:a6 x u)(ty:DJ X.K H x t)(e:W.kitOne X.K t c=some b)(h:∀tk,Q (.bool b) { s with toks:=tk }) :
  wpAny (model X.prog X.w) A (call (.builtin "isinstance") [u,c]) Q E s:=by
 cases ty with
 | non=>cases (show u=Value.none from rx);exact W.kia_one W.kitx_none I.kIn True.intro e (λz=>nomatch z) h
 | bl y=>cases (show u=Value.bool y from rx);exact W.kia_one W.kitx_bool I.kIn True.intro e (λz=>nomatch z) h
 | int i=>obtain⟨t,q⟩:=(show ∃t,u=Value.int i t from rx);cases q;exact W.kia_one W.kitx_int I.kIn True.intro e (λz=>nomatch z) h
 | str y=>obtain⟨t,q⟩:=(show ∃t,u=Value.str y t from rx);cases q;exact W.kia_one W.kitx_str I.kIn True.intro e (λz=>nomatch z) h
 | flt y=>obtain⟨t,q⟩:=(show ∃t,u=Value.float y t from rx);cases q;exact W.kia_one W.kitx_float I.kIn True.intro e (λz=>nomatch z) h
 | @lst a xs ea =>
  cases (show u=Value.ref a from rx);obtain⟨_,_,n,_,h1⟩:=(show cJ X.prog X.w H s.heap a (.lst xs) from I.hok a _ ea);exact W.kia_one W.kitx_list I.kIn ⟨_,h1,rfl⟩ e (λz=>nomatch z) h
 | @frz a ob xs ea =>
  cases (show u=Value.ref a from rx);obtain⟨_,_,_,n,_,h1⟩:=(show cJ X.prog X.w H s.heap a (.frz ob (.lst xs)) from I.hok a _ ea);exact W.kia_one W.kitx_list I.kIn ⟨_,h1,rfl⟩ e (λz=>nomatch z) h
 | @tup a xs ea =>
  cases (show u=Value.ref a from rx);obtain⟨_,_,_,p⟩:=(show cJ X.prog X.w H s.heap a (.tup xs) from I.hok a _ ea);obtain⟨o,h1,h2,_⟩:=p;exact W.kia_one W.kitx_tuple I.kIn ⟨o,h1,h2⟩ e (λz=>nomatch z) h
 | @dK a kvs ea =>
  cases (show u=Value.ref a from rx);obtain⟨_,_,vs,_,p⟩:=(show cJ X.prog X.w H s.heap a (.dK kvs) from I.hok a _ ea);obtain⟨o,es,ep,h1,h2,_⟩:=p;exact W.kia_one W.kitx_dict I.kIn ⟨o,h1,h2.1⟩ e (λz=>nomatch z) h
 | @dT a kvs ea =>
  cases (show u=Value.ref a from rx);obtain⟨_,_,xs,_,o,es,ep,h1,h2,_⟩:=(show cJ X.prog X.w H s.heap a (.dT kvs) from I.hok a _ ea);exact W.kia_one W.kitx_dict I.kIn ⟨o,h1,h2.1⟩ e (λz=>nomatch z) h
 | @ins a C dx fs ea cl ha hn htk hm =>
  cases (show u=Value.ref a from rx);obtain⟨mA,O,_⟩:=wE I.hok ea;obtain⟨od,J,_⟩:=O.look;exact W.kia_one (W.kitx_own (cl.get _) cl.hd ha hn htk hm) I.kIn J e (λz=>nomatch z) h
end
structure BA(k:Nat)(A:Around):Prop where
 hd:A.handled=none
 dp:A.depth+3*k+5<recursionLimit
 un:A.units+16*k+200<cLine
 gd:A.guards=some []
theorem BA.mono{j k:Nat}{A:Around}(r:BA k A)(h:j<=k):BA j A:=⟨r.hd,by have:=r.dp;omega,by have:=r.un;omega,r.gd⟩
theorem BA.deeper{k:Nat}{A:Around}(r:BA (k+1) A)(env:Env):BA k (A.deeper env) :=
 ⟨r.hd,by have:=r.dp;show A.depth+1+3*k+5<_;omega,by have:=r.un;show A.units+3+16*k+200<_;omega,r.gd⟩
theorem BA.depth{k:Nat}{A:Around}(r:BA k A):A.depth<recursionLimit:=by have:=r.dp;omega
theorem BA.units0{k:Nat}{A:Around}(r:BA k A):A.units<cLine:=by have:=r.un;omega
noncomputable def i3:TA:=λ_ H Q=>Q [] H
noncomputable def cF(ta:TE)(tr:TA):TA:=λσ H Q=>ta σ H λx H1=>tr σ H1 λxs H2=>Q (x::xs) H2
section
variable {X:Cx} {e:Expr} {es:List Expr} {te:TE} {t:TA} {pos:Pos}
theorem ae:PA X [] i3:=λ_ _ _ _ H Q I h=>Calls.spliced_nil ⟨[],H,I,.nil,h⟩
theorem aa(ha:PE X e te)(hr:PA X es t)(hs:starEach (e::es) X.env=(false,eval e X.env)::starEach es X.env:=by rfl):PA X (e::es) (cF te t):=by
 intro pos pins s σ H Q I h;rw[hs];show wpAny _ _ (spliced ((false,eval e X.env)::backTo pos (starEach es X.env))) _ _ s;refine Calls.spliced_cons (thn (ha pins s σ H _ I h) λu s1 ⟨x,H1,I1,r1,q1⟩=>?_);exact thn (hr pos pins s1 σ H1 _ I1 q1) λus s2 ⟨xs,H2,I2,r2,q2⟩=>⟨x::xs,H2,I2,.cons r1 r2,q2⟩
noncomputable def zM(t:TA):TE:=λσ H Q=>t σ H λxs H1=>xs.length<=sizeLine/\∀p,H1 p=none->Q (.ref p) (upd H1 p (.tup xs))
theorem qe{x1}(h:PA X es t):PE X (.Tuple es x1 pos) (zM t):=by
 intro pins s σ H Q I hq;refine wpAny_Tuple_spliced (thn (h pos pins s σ H _ I hq) λus s1 ⟨xs,H1,I1,r,z,q⟩=>⟨by rw[<- r.length];exact z,?_⟩);have hf:H1 s1.heap.objs.size=none:=I1.hok.fresh (Nat.le_refl _);refine⟨.ref s1.heap.objs.size,upd H1 s1.heap.objs.size (.tup xs),I1.laid (t':=s1.toks) (λb u e=>Heap.get?_push_of_some _ e) (Nat.le_refl _) ?_,rfl,q _ hf⟩;exact⟨z,us,r,⟨_,Heap.get?_push_size _ rfl,rfl,_,rfl⟩⟩
end
noncomputable abbrev Sp:=List V->Hp->VK->XK->Prop
noncomputable abbrev CXT:=List Env->Hp->Shared->XK->Value->Shared->Prop
structure Ij(P:Program)(w:World)(K:W.Frag)(mg:Str->Option Value)(base:Heap)(A:Around)(outer:List Env)(s:Shared)(H:Hp):Prop where
 frames:A.frames=some outer
 mod:Mod K mg base
 bs:∀b o,base.get? b=some o->s.heap.get? b=some o/\H b=none
 bsz:base.objs.size<=s.heap.objs.size
 funs:s.heap.FunFrames base outer
 frf:∀b∈frs outer,H b=none
 hok:HOk P w H s.heap
 bare:AllBare s.gens
noncomputable def CE(outer:List Env)(P:Program)(w:World)(H:Hp)(s:Shared)(Q:VK)(u:Value)(s':Shared):Prop :=
 ∃v H',s'.os=s.os/\AllBare s'.gens/\Un (frs outer) [] H H' s.heap s'.heap/\HOk P w H' s'.heap/\a6 v u/\Q v H'
noncomputable def CR(CX:CXT)(outer:List Env)(P:Program)(w:World)(H:Hp)(s:Shared)(Q:VK)(E:XK)(r:Result)(s':Shared):Prop :=
 match r with
 | .ok (.ret u)=>CE outer P w H s Q u s'
 | .ok _=>False
 | .error e=>CX outer H s E e s'
structure Dw(P:Program)(w:World)(K:W.Frag)(mg:Str->Option Value)(base:Heap)(CX:CXT)(k:Nat)(f:Addr)(fd:FuncData)(ps:List Str)(sp:Sp):Prop where
 len:∀vs H Q E,sp vs H Q E->vs.length=ps.length
 run:∀(A:Around) (outer:List Env) (s:Shared) (H:Hp) (args:Args) (us:List Value) (vs:List V) (Q:VK) (E:XK),BA k A->Ij P w K mg base A outer s H->BindsTo s fd args (ps.zip us)->aJ vs us->sp vs H Q E ->
  codeAny (model P w) A (.call (.ref f) args) (CR CX outer P w H s Q E) s
theorem Dw.imp{P:Program}{w:World}{K:W.Frag}{mg:Str->Option Value}{base:Heap}{CX:CXT}{k:Nat}{f:Addr}{fd:FuncData}{ps:List Str}{sp sp':Sp}(F:Dw P w K mg base CX k f fd ps sp)
  (h:∀vs H Q E,sp' vs H Q E->sp vs H Q E):Dw P w K mg base CX k f fd ps sp' :=
 ⟨λvs H Q E q=>F.len vs H Q E (h _ _ _ _ q),λA outer s H args us vs Q E hr he hb hv hs=>F.run A outer s H args us vs Q E hr he hb hv (h _ _ _ _ hs)⟩
section
variable {X:Cx} {pins:List (Addr×Obj)} {σ:St} {H:Hp} {s s':Shared}
theorem Aj.env0(I:Aj X pins σ H s):Ij X.prog X.w X.K X.mg X.base X.A X.stack s H :=
 ⟨I.ok.frames,I.ok.mod,I.bs,Nat.le_trans I.ok.bsz I.sz,I.stack,I.stkFree,I.hok,I.bare⟩
theorem Aj.after{Q:VK}{u:Value}(I:Aj X pins σ H s)(h:CE X.stack X.prog X.w H s Q u s'):EP X pins σ Q u s':=by
 obtain⟨v,H',os,bare,un,hok,r,q⟩:=h;obtain⟨hh,g,d,t,os'⟩:=s';obtain rfl:os'=s.os:=os;exact⟨v,H',I.call (h':=hh) (g':=g) (d':=d) (t':=t) (ch:=[]) un hok bare (λb z=>absurd z (by simp)),r,q⟩
end
noncomputable def fL(sp:Sp)(dvs:List V)(E:XK)(t:TA):TE:=λσ H Q=>t σ H λvs H1=>sp (vs++dvs) H1 Q E
noncomputable def kU(K:W.Frag)(fd:FuncData)(ps:List Str)(ds:List Value):Prop :=
 ∀(s:Shared) (us:List Value),K.In s.heap->(us++ds).length=ps.length->BindsTo s fd ⟨us,[]⟩ (ps.zip (us++ds))
theorem kU.all{K:W.Frag}{fd:FuncData}{ps:List Str}(h:∀us:List Value,us.length=ps.length->bindArgs fd ⟨us,[]⟩=pure (ps.zip us)):kU K fd ps []:=λs us _ hl=>by
 rw[List.append_nil]at hl ⊢;exact .of_eq (h us hl)
noncomputable def kT(CX:CXT)(X:Cx)(E:XK):Prop:=∀(pins:List (Addr×Obj)) (σ:St) (H:Hp) (s:Shared) (e:Value) (s':Shared),Aj X pins σ H s->CX X.stack H s E e s'->X.xe e s'
section
variable {X:Cx} {CX:CXT} {k:Nat} {f C:Addr} {fd:FuncData} {ps:List Str} {sp:Sp} {dvs:List V} {ds:List Value} {E:XK} {x m:Str} {p pos apos:Pos} {e o:Expr} {es:List Expr} {ta:TE} {t:TA}
theorem xS{pins:List (Addr×Obj)}{σ:St}{H:Hp}{s:Shared}{Q:VK}{us:List Value}{vs:List V}(F:Dw X.prog X.w X.K X.mg X.base CX k f fd ps sp)(hr:BA k X.A)(hb:kU X.K fd ps ds)(hd:aJ dvs ds)(hx:kT CX X E)
  (I:Aj X pins σ H s) (r:aJ vs us) (h:sp (vs++dvs) H Q E):wpAny (model X.prog X.w) X.A (call (.ref f) us) (EP X pins σ Q) X.xe s:=by
 have r2:aJ (vs++dvs) (us++ds):=r.append hd;have hl:(us++ds).length=ps.length:=by rw[<- r2.length];exact F.len _ _ _ _ h
 refine wpAny_call (codeAny_mono (F.run X.A X.stack s H ⟨us,[]⟩ (us++ds) (vs++dvs) Q E hr I.env0 (hb s us I.kIn hl) r2 h) λr s' hq=>?_);cases r with
 | error e=>exact hx pins σ H s e s' I hq
 | ok fl =>
  cases fl with
  | ret u=>exact I.after hq
  | next=>exact False.elim hq
  | brk=>exact False.elim hq
  | cont=>exact False.elim hq
theorem iy(F:Dw X.prog X.w X.K X.mg X.base CX k f fd ps sp)(hr:BA k X.A)(hg:Gl X x)(hm:X.mg x=some (.ref f))(hk:W.keepIn X.K (.ref f)=true)(hb:kU X.K fd ps ds)(hd:aJ dvs ds)(hx:kT CX X E)
  (ha:PA X (e::es) t) (hdb:(x == ("__debug__" : Str))=false:=by decide) (he:starEach (e::es) X.env=(false,eval e X.env)::starEach es X.env:=by rfl) (hpl:(backTo pos (starEach es X.env)).any (·.1)=false:=by rfl) :
  PE X (.Call (.Name x p) (e::es) [] pos) (fL sp dvs E t):=by
 intro pins s σ H Q I h;refine wpAny_Call_Name_kw (mP I hg hm ?_ hdb);refine W.callWith_K (h₀:=X.base) I.ok.mod.kin hk (thn (ha pos pins s σ H _ I h) λus s1 ⟨vs,H1,I1,r,q⟩=>⟨I1.kIn,?_⟩) he hpl;exact xS F hr hb hd hx I1 r q
end
structure Ah(N P:List Str)(sc:Scope):Prop where
 kind:sc.kind = .function
 co:sc.isCoroutine=false
 gen:sc.isGenerator=false
 nd:N.Nodup
 pre:N.take P.length=P
 par:∀x∈P,sc.names.lookup x=some .local\/sc.names.lookup x=some .cell
 nofree:∀y∈sc.names,y.2≠.free
theorem mh{kindOf:Str->Option NameKind}{x:Str}:∀{binds:List (Str×Value)} {m:Str->Option Value},(∀v,(x,v)∉binds)->bindL kindOf binds m x=m x
 | [],_,_=>rfl
 | (n,v)::r,m,h=>by
  unfold bindL;rw[mh λw hw=>h w (List.mem_cons_of_mem _ hw)]
  split
  ·have:x≠n:=by rintro rfl;exact h v List.mem_cons_self
   simp[this]
  ·rfl
theorem mj{kindOf:Str->Option NameKind}{x:Str}:∀{binds:List (Str×Value)} {m:Str->Option Value},(∀v,(x,v)∉binds)->bindC kindOf binds m x=m x
 | [],_,_=>rfl
 | (n,v)::r,m,h=>by
  unfold bindC;rw[mj λw hw=>h w (List.mem_cons_of_mem _ hw)]
  split
  ·rfl
  ·have:x≠n:=by rintro rfl;exact h v List.mem_cons_self
   simp[this]
theorem mi{kindOf:Str->Option NameKind}{x:Str}{v:Value}:∀{P:List Str} {vs:List Value} {i:Nat} {m:Str->Option Value},P.Nodup->P[i]? = some x->vs[i]? = some v->kindOf x=some .local ->
  bindL kindOf (P.zip vs) m x=some v
 | [],_,_,_,_,h,_,_=>by simp at h
 | _::_,[],_,_,_,_,h,_=>by simp at h
 | p::P,w::vs,0,m,nd,h1,h2,hk=>by
  simp at h1 h2;subst h1;subst h2;show bindL kindOf ((p,w)::P.zip vs) m p=_;unfold bindL;rw[mh λv hv=>(List.nodup_cons.mp nd).1 (List.of_mem_zip hv).1,if_pos hk];simp
 | p::P,w::vs,i+1,m,nd,h1,h2,hk=>by
  show bindL kindOf ((p,w)::P.zip vs) m x=_;unfold bindL;exact mi (i:=i) (List.nodup_cons.mp nd).2 (by simpa using h1) (by simpa using h2) hk
theorem mm{kindOf:Str->Option NameKind}{x:Str}{v:Value}:∀{P:List Str} {vs:List Value} {i:Nat} {m:Str->Option Value},P.Nodup->P[i]? = some x->vs[i]? = some v->kindOf x≠some .local ->
  bindC kindOf (P.zip vs) m x=some v
 | [],_,_,_,_,h,_,_=>by simp at h
 | _::_,[],_,_,_,_,h,_=>by simp at h
 | p::P,w::vs,0,m,nd,h1,h2,hk=>by
  simp at h1 h2;subst h1;subst h2;show bindC kindOf ((p,w)::P.zip vs) m p=_;unfold bindC;rw[mj λv hv=>(List.nodup_cons.mp nd).1 (List.of_mem_zip hv).1,if_neg hk];simp
 | p::P,w::vs,i+1,m,nd,h1,h2,hk=>by
  show bindC kindOf ((p,w)::P.zip vs) m x=_;unfold bindC;exact mm (i:=i) (List.nodup_cons.mp nd).2 (by simpa using h1) (by simpa using h2) hk
noncomputable def fN(N:List Str)(vs:List V):St:=vs.map some++List.replicate (N.length - vs.length) none
noncomputable def aG(CX:CXT)(P:Program)(w:World)(K:W.Frag)(mg:Str->Option Value)(base:Heap)(N:List Str)(qual:Str)(scope:Scope)(f:Addr)(cd:Value)(A:Around)(outer:List Env)(s:Shared)(H:Hp)(E:XK):Cx where
 prog:=P
 w:=w
 K:=K
 mg:=mg
 base:=base
 A:=A.deeper (envOfC qual scope s.heap.objs.size f cd)
 N:=N
 s₀:=s
 H₀:=H
 env:=envOfC qual scope s.heap.objs.size f cd
 outer:=outer
 stack:=envOfC qual scope s.heap.objs.size f cd::outer
 ex:=[]
 calm:=true
 fn:=λ_=>true
 pn:=[]
 xe:=λe s'=>wpAny (model P w) (A.deeper (envOfC qual scope s.heap.objs.size f cd)) (leaving (envOfC qual scope s.heap.objs.size f cd) e) (λ_ s''=>CX outer H s E e s'') (λe' s''=>CX outer H s E e' s'') s'
theorem pF{sc:Scope}{n:Nat}{x:Str}(h:sc.names.lookup x=some .cell):∃c,(cellsFrom n sc.names []).lookup x=some c:=by
 have q:=W.cellsFrom_some sc.names n [] (.inl h);exact Option.isSome_iff_exists.mp q
theorem sW{CX:CXT}{P:Program}{w:World}{K:W.Frag}{mg:Str->Option Value}{base:Heap}{N ps:List Str}{qual:Str}{scope:Scope}{f:Addr}{cd:Value}{A:Around}{outer:List Env}{s s1:Shared}{H:Hp}{E:XK}{us:List Value}{vs:List V}
  (S:Ah N ps scope) (hd:A.handled=none) (e0:Ij P w K mg base A outer s H) (hl:vs.length=ps.length) (r:aJ vs us)
  (x:InCallC s s.heap.objs.size (bindL (envOfC qual scope s.heap.objs.size f cd).kindOf (ps.zip us) λ_=>none) (cellsFrom (s.heap.objs.size+1) scope.names []) (bindC (envOfC qual scope s.heap.objs.size f cd).kindOf (ps.zip us) λ_=>none) s1) :
  Aj (aG CX P w K mg base N qual scope f cd A outer s H E) [] (fN N vs) H s1:=by
 have hpl:ps.length<=N.length:=by have:=congrArg List.length S.pre;rw[List.length_take]at this;omega
 obtain⟨h1,tk,rfl,hk⟩:=x.done;have noA:∀b:Addr,b∉(aG CX P w K mg base N qual scope f cd A outer s H E).ex:=λb z=>absurd (show b∈([]:List Addr) from z) (by simp);refine⟨⟨e0.mod,S.kind,rfl,rfl,Nat.le_refl _,λy z c h1 h2=>?_,λy hy=>?_,λy c _ h=>?_,λ_=>hd,Around.frames_deeper e0.frames,.inr ⟨rfl,rfl⟩,λb z=>absurd z (noA b),e0.bs,e0.bsz,λb _ _=>noA b,λb z=>absurd z (noA b),e0.funs,e0.frf⟩,
  rfl,e0.bare,Un.kept hk,⟨_,x.toInCall.ns,λi y v h1 h2 h3=>?_⟩,λy c h=>⟨_,x.cell y c h⟩,e0.hok.fresh (Nat.le_refl _),λy c h=>?_,λp hp=>absurd (show p∈([]:List (Addr×Obj)) from hp) (by simp),e0.hok.kept hk,?_⟩
 ·exact name_of_addr x.apart (PySem.mem_of_lookup h1) (PySem.mem_of_lookup h2)
 ·have hy:scope.names.lookup y=some .cell\/scope.names.lookup y=some .free:=hy
  rcases hy with hy|hy
  ·exact pF hy
  ·exact absurd rfl (S.nofree _ (PySem.mem_of_lookup hy))
 ·exact Nat.le_of_lt (x.above y c (PySem.mem_of_lookup h))
 ·have hi:i<vs.length:=by
   unfold fN at h2
   by_cases hi:i<vs.length
   ·exact hi
   ·rw[List.getElem?_append_right (by simpa using hi)]at h2
    rw[List.getElem?_replicate]at h2
    split at h2 <;> cases h2
  have ha:vs[i]? = some v:=by
   unfold fN at h2;rw[List.getElem?_append_left (by simpa using hi),List.getElem?_map]at h2;cases e:vs[i]? with
   | none=>rw[e]at h2;cases h2
   | some a=>rw[e]at h2;cases h2;rfl
  obtain⟨u,hu,rv⟩:=r.get ha;have hp:ps[i]? = some y:=by
   rw[<- S.pre,List.getElem?_take_of_lt (by omega)];exact h1
  have ndP:ps.Nodup:=by rw[<- S.pre];exact S.nd.sublist (List.take_sublist _ _)
  refine⟨u,rv,?_⟩;rcases S.par y (List.mem_of_getElem? hp) with k|k
  ·exact .inl ⟨k,mi ndP hp hu k⟩
  ·obtain⟨c,e⟩:=pF (n:=s.heap.objs.size+1) k
   refine .inr ⟨.inl k,c,e,?_⟩;have q:=x.cell y c e;rw[mm ndP hp hu (by show scope.names.lookup y≠_;rw[k];decide)]at q;exact q
 ·exact e0.hok.fresh (Nat.le_of_lt (x.above y c (PySem.mem_of_lookup h)))
 ·unfold fN
  show _=N.length;rw[List.length_append,List.length_map,List.length_replicate];omega
theorem rM{CX:CXT}{P:Program}{w:World}{K:W.Frag}{mg:Str->Option Value}{base:Heap}{k:Nat}{f:Addr}{name qual:Str}{params:Arguments}{body:List Stmt}{scope:Scope}{dV kV doc pm cdv ct oc:Value}{an od:Option Addr}
  {osl:Array (Option Value)} {N ps:List Str} {sp:Sp} (lk:K.lookup f=some ⟨oc,od,.func (W.fnOf name qual params body scope dV kV doc pm an cdv ct),osl⟩) (hcd:W.codeIn K cdv qual=true) (S:Ah N ps scope)
  (len:∀vs H Q E,sp vs H Q E->vs.length=ps.length)
  (hbody:∀(A:Around) (outer:List Env) (s:Shared) (H:Hp) (vs:List V) (Q:VK) (E:XK),BA k (A.deeper (envOfC qual scope s.heap.objs.size f cdv))->sp vs H Q E ->
   ∃t,PSs (aG CX P w K mg base N qual scope f cdv A outer s H E) body t/\t { nx:=λ_ H'=>Q .non H',rt:=Q } (fN N vs) H) :
  Dw P w K mg base CX (k+1) f (W.fnOf name qual params body scope dV kV doc pm an cdv ct) ps sp:=by
 refine⟨len,λA outer s H args us vs Q E hr e0 hb r hsp=>?_⟩;have hl:=len _ _ _ _ hsp;have KX:K.In s.heap:=e0.mod.kin.keeps λb o e=>(e0.bs b o e).1;have lim:s.heap.NoLimit:=e0.mod.nolimit.keeps λb o e=>(e0.bs b o e).1;have hkind:∀y∈ps.zip us,scope.names.lookup y.1=some .local\/(scope.names.lookup y.1=some .cell/\((cellsFrom (s.heap.objs.size+1) scope.names []).lookup y.1).isSome=true):=λ⟨n,v⟩ hy=>by
  rcases S.par n (List.of_mem_zip hy).1 with q|q
  ·exact .inl q
  ·exact .inr ⟨q,W.cellsFrom_some _ _ _ (.inl q)⟩
 refine codeAny_call_function hr.depth (KX _ _ lk) rfl S.co S.gen rfl (W.codeRec_of KX hcd) (hb _ _ _ _ ?_);refine wpAny_newFunctionEnv_cells S.kind hkind λenv he s1 x=>?_;subst he;refine⟨lim.keeps x.toInCall.keep,codeAny_func ?_⟩;obtain⟨t,ht,hq⟩:=hbody A outer s H vs Q E (hr.deeper _) hsp;have I:Aj (aG CX P w K mg base N qual scope f cdv A outer s H E) [] (fN N vs) H s1:=sW S hr.hd e0 hl r x;refine wpAny_mono (ht [] s1 (fN N vs) H _ I hq) (λfl s' hs=>?_) λe s' hs=>hs;have fin:∀{σ':St} {H':Hp} {v:V} {u:Value},Aj (aG CX P w K mg base N qual scope f cdv A outer s H E) [] σ' H' s'->a6 v u->Q v H'->CE outer P w H s Q u s' :=
  λ{σ' H' v u} J rv q=>⟨v,H',J.os,J.bare,J.base,J.hok,rv,q⟩
 cases fl with
 | ret u =>
  obtain⟨v,σ',H',J,rv,q⟩:=hs;exact fin J rv q
 | next =>
  obtain⟨σ',H',J,q⟩:=hs;exact fin (v:=V.non) (u:=Value.none) J rfl q
 | brk =>
  obtain⟨_,_,_,q⟩:=hs;exact False.elim q
 | cont =>
  obtain⟨_,_,_,q⟩:=hs;exact False.elim q
section
variable {X:Cx} {x:Str} {p pos:Pos} {e:Expr} {es:List Expr} {t:TA} {id T:String} {r:List V->Hp->VK->Prop}
noncomputable def tCB(r:List V->Hp->VK->Prop)(t:TA):TE:=λσ H Q=>t σ H λvs H1=>r vs H1 Q
theorem az(hc:fH X (.builtin id) r)(hg:Gl X x)(hm:X.mg x=none)(hv:bootBuiltins x=some (.builtin id))(ha:PA X (e::es) t)(hn:x≠"__name__":=by decide)(hdb:(x == ("__debug__" : Str))=false:=by decide)
  (he:starEach (e::es) X.env=(false,eval e X.env)::starEach es X.env:=by rfl) (hpl:(backTo pos (starEach es X.env)).any (·.1)=false:=by rfl):PE X (.Call (.Name x p) (e::es) [] pos) (tCB r t):=by
 intro pins s σ H Q I h;refine wpAny_Call_Name_kw (gg I hg hm hv ?_ hn hdb);exact PyProof.Rows.callWith_builtin1 (thn (ha pos pins s σ H _ I h) λus s1 ⟨vs,H1,I1,r1,q1⟩=>hc pins s1 σ H1 vs us Q I1 r1 q1) he hpl
theorem gG(hc:fH X (.type T) r)(hg:Gl X x)(hm:X.mg x=none)(hv:bootBuiltins x=some (.type T))(ha:PA X (e::es) t)(hn:x≠"__name__":=by decide)(hdb:(x == ("__debug__" : Str))=false:=by decide)
  (he:starEach (e::es) X.env=(false,eval e X.env)::starEach es X.env:=by rfl) (hpl:(backTo pos (starEach es X.env)).any (·.1)=false:=by rfl):PE X (.Call (.Name x p) (e::es) [] pos) (tCB r t):=by
 intro pins s σ H Q I h;refine wpAny_Call_Name_kw (gg I hg hm hv ?_ hn hdb);exact PyProof.Rows.callWith_type1 (thn (ha pos pins s σ H _ I h) λus s1 ⟨vs,H1,I1,r1,q1⟩=>hc pins s1 σ H1 vs us Q I1 r1 q1) he hpl
end
end L2
namespace HT
open PySem PyProof.Rows
section
variable {prog:Program} {w:World} {A:Around} {E:Value->Shared->Prop} {s:Shared}
noncomputable def sIx(n d:Nat):Option Int->Nat
 | none=>d
 | some v=>if v<0 then (v+(n:Int)).toNat else min v.toNat n
theorem sIx_none(n d:Nat):sIx n d none=d:=rfl
theorem sIx_nat(n d k:Nat):sIx n d (some (k:Int))=min k n:=by
 show(if (k:Int)<0 then ((k:Int)+(n:Int)).toNat else min (k:Int).toNat n)=min k n
 rw[if_neg (by omega),Int.toNat_natCast]
end
end HT
namespace L2
open PySem PySem.Spec PyProof.Rows
noncomputable abbrev TO:=St->Hp->(Option Int->Hp->Prop)->Prop
noncomputable def PO(X:Cx)(e:Option Expr)(t:TO):Prop :=
 ∀(pins:List (Addr×Obj)) (s:Shared) (σ:St) (H:Hp) (Q:Option Int->Hp->Prop),Aj X pins σ H s->t σ H Q ->
  wpAny (model X.prog X.w) X.A (evalPart e X.env) (λu s'=>∃o H',Aj X pins σ H' s'/\IsPart u o/\Q o H') X.xe s
noncomputable def vS:TO:=λ_ H Q=>Q none H
noncomputable def yQ(t:TE):TO:=λσ H Q=>t σ H λx H1=>∃i,x = .int i/\Q (some i) H1
section
variable {X:Cx} {e:Expr} {te:TE} {lo hi:Option Expr} {tl th:TO} {pos p2:Pos}
theorem fj:PO X none vS:=by
 intro pins s σ H Q I h;rw[evalPart_none];exact wpAny_pure ⟨none,H,I,.none,h⟩
theorem fh(h:PE X e te):PO X (some e) (yQ te):=by
 intro pins s σ H Q I hw;rw[evalPart_some];refine thn (h pins s σ H _ I hw) λu s1 ⟨x,H1,I1,r1,q1⟩=>?_;obtain⟨i,rfl,q⟩:=q1;obtain⟨t,rfl⟩:=r1;exact⟨some i,H1,I1,.int i t,q⟩
noncomputable def SlR(X:Cx)(r:V->Option Int->Option Int->Hp->VK->Prop):Prop :=
 ∀(pins:List (Addr×Obj)) (s:Shared) (σ:St) (H:Hp) (x:V) (v vl vu:Value) (lo hi:Option Int) (sl:Addr) (Q:VK),Aj X pins σ H s->a6 x v->s.heap.IsSliceOf sl vl vu .none->IsPart vl lo->IsPart vu hi->r x lo hi H Q ->
  ∃T id,typeLookup (.type T) "__getitem__" = pure (some (.builtin id))/\s.TypeIs v T/\wpAny (model X.prog X.w) X.A (getItem v (.ref sl)) (EP X pins σ Q) X.xe s
noncomputable def tSl(r:V->Option Int->Option Int->Hp->VK->Prop)(te:TE)(tl th:TO):TE:=λσ H Q=>te σ H λx H1=>tl σ H1 λl H2=>th σ H2 λu H3=>r x l u H3 Q
theorem dQ{r:V->Option Int->Option Int->Hp->VK->Prop}(hr:SlR X r)(he:PE X e te)(hl:PO X lo tl)(hu:PO X hi th):PE X (.Subscript e (.Slice lo hi none p2) pos) (tSl r te tl th):=by
 intro pins s σ H Q I h;refine Subscript_ (thn (he pins s σ H _ I h) λv s1 ⟨x,H1,I1,r1,q1⟩=>?_);refine wpAny_Slice (thn (hl pins s1 σ H1 _ I1 q1) λvl s2 ⟨l,H2,I2,pl,q2⟩=>thn (hu pins s2 σ H2 _ I2 q2) λvu s3 ⟨u,H3,I3,pu,q3⟩=>?_);rw[evalPart_none];refine wpAny_pure ?_;have I4:Aj X pins σ H3 { s3 with heap:=s3.heap.push { cls:=.type "slice",data:=.fields #[vl,vu,.none] } }:=I3.kept (t':=s3.toks) λb ob q=>Heap.get?_push_of_some _ q;obtain⟨T,id,hT,ht,hg⟩:=hr pins { s3 with heap:=s3.heap.push { cls:=.type "slice",data:=.fields #[vl,vu,.none] } } σ H3 x v vl vu l u s3.heap.objs.size Q I4 r1 (Heap.IsSliceOf.new ..) pl pu q3;show wpAny (model X.prog X.w) X.A (subscriptTail e (.Slice lo hi none p2) v (.ref s3.heap.objs.size)) (EP X pins σ Q) X.xe { s3 with heap:=s3.heap.push { cls:=.type "slice",data:=.fields #[vl,vu,.none] } };exact tail_any (ops:=[.ref s3.heap.objs.size,v]) ht hT hg (by with_unfolding_all rfl)
noncomputable def jp(xs:List V)(lo hi:Option Int):List V:=(xs.drop (HT.sIx xs.length 0 lo)).take (HT.sIx xs.length xs.length hi - HT.sIx xs.length 0 lo)
theorem pA(xs:List V)(lo hi:Option Int):(jp xs lo hi).length<=xs.length:=by
 unfold jp;rw[List.length_take,List.length_drop];omega
end
noncomputable def ixN(n:Nat)(i:Int):Option Nat:=if 0<=i then (if i<n then some i.toNat else none) else if -(n:Int)<=i then some (i+n).toNat else none
noncomputable def atI{α:Type}(xs:List α)(i:Int):Option α:=(ixN xs.length i).bind λj=>xs[j]?
theorem rE{n:Nat}{i:Int}{j:Nat}(h:ixN n i=some j):seqIndex? i n=some j/\j<n/\-(n:Int)<=i/\i<n:=by
 unfold ixN at h
 by_cases h0:0<=i
 ·rw[if_pos h0]at h
  by_cases h1:i<n
  ·rw[if_pos h1]at h
   have e:i.toNat=j:=Option.some.inj h;exact⟨by rw[seqIndex_of h0 h1,e],by omega,by omega,h1⟩
  ·rw[if_neg h1]at h;cases h
 ·rw[if_neg h0]at h
  by_cases h1:-(n:Int)<=i
  ·rw[if_pos h1]at h
   have e:(i+n).toNat=j:=Option.some.inj h;exact⟨by rw[seqIndex_neg (by omega) h1,e],by omega,h1,by omega⟩
  ·rw[if_neg h1]at h;cases h
theorem sf{α:Type}{xs:List α}{i:Int}{v:α}(h:atI xs i=some v):∃j,seqIndex? i xs.length=some j/\xs[j]? = some v/\j<xs.length/\-(xs.length:Int)<=i/\i<xs.length:=by
 unfold atI at h;cases e:ixN xs.length i with
 | none=>rw[e]at h;cases h
 | some j =>
  rw[e]at h;obtain⟨h1,h2,h3,h4⟩:=rE e;exact⟨j,h1,h,h2,h3,h4⟩
theorem eE{α:Type}{xs:List α}{j:Nat}{v:α}(h:xs[j]? = some v):atI xs (j:Int)=some v:=by
 have hj:j<xs.length:=(List.getElem?_eq_some_iff.mp h).1;have e:ixN xs.length (j:Int)=some j:=by
  unfold ixN;rw[if_pos (by omega),if_pos (by omega)];simp
 unfold atI;rw[e];exact h
theorem vM{α:Type}(xs:List α)(v:α):atI (xs++[v]) (-1)=some v:=by
 have hl:(xs++[v]).length=xs.length+1:=by simp
 have e:ixN (xs++[v]).length (-1)=some xs.length:=by
  unfold ixN;rw[hl,if_neg (by decide),if_pos (by omega)]
  congr 1
  omega
 unfold atI;rw[e];show(xs++[v])[xs.length]? = some v;simp
noncomputable def xg(b:Expr):Prop:=∀o i,subscripted b false o i=operate [o,i] (getItem o i)
noncomputable def IxR(X:Cx)(r:R2):Prop :=
 ∀(value slice:Expr) (pins:List (Addr×Obj)) (s:Shared) (σ:St) (H:Hp) (x y:V) (v u:Value) (Q:VK),Aj X pins σ H s->a6 x v->a6 y u->r x y H Q ->
  subscripted slice false v u=operate [v,u] (getItem v u)->wpAny (model X.prog X.w) X.A (subscriptTail value slice v u) (EP X pins σ Q) X.xe s
noncomputable def MtR(X:Cx)(id:String)(r:V->List V->Hp->VK->Prop):Prop :=
 ∀(pins:List (Addr×Obj)) (s:Shared) (σ:St) (H:Hp) (x:V) (xs:List V) (v:Value) (us:List Value) (Q:VK),Aj X pins σ H s->a6 x v->aJ xs us->r x xs H Q ->
  wpAny (model X.prog X.w) X.A (call (.builtin id) (v::us)) (EP X pins σ Q) X.xe s
section
variable {X:Cx} {a b:Expr} {ta tb:TE} {pos:Pos}
theorem aj{r:R2}(hr:IxR X r)(ha:PE X a ta)(hb:PE X b tb)(hs:xg b):PE X (.Subscript a b pos) (tOp r ta tb):=by
 intro pins s σ H Q I h;exact Subscript_ (yF ha hb I h λv u s2 x y H2 I2 rx ry q=>hr a b pins s2 σ H2 x y v u Q I2 rx ry q (hs _ _))
inductive HP (K:W.Frag) (x y:V) (H:Hp) (Q:VK):Prop
 | mk (p:Addr) (xs:List V) (i:Int) (v:V) (e:x = .ref p) (f:y = .int i) (s:SqL K H p xs) (a:atI xs i=some v) (q:Q v H):HP K x y H Q
inductive Ia (K:W.Frag) (x y:V) (H:Hp) (Q:VK):Prop
 | mk (p:Addr) (xs:List V) (i:Int) (v:V) (e:x = .ref p) (f:y = .int i) (s:SqT K H p xs) (a:atI xs i=some v) (q:Q v H):Ia K x y H Q
theorem aF:IxR X (HP X.K):=by
 intro value slice pins s σ H x y v u Q I rx ry h hs;obtain⟨p,xs,i,z,rfl,rfl,hq,he,q⟩:=h;cases rx;obtain⟨t,rfl⟩:=ry;obtain⟨its,r,pl,hz⟩:=I.list hq;obtain⟨j,h1,h2,h3,h4,h5⟩:=sf he;obtain⟨w,ew,rw'⟩:=r.get h2;have hl:=r.length;have hn:=kj;have fin:EP X pins σ Q w s:=⟨z,H,I,rw',q⟩
 by_cases h0:0<=i
 ·have hj:i.toNat=j:=by
   rw[seqIndex_of h0 h5]at h1;exact Option.some.inj h1
  exact item_listR pl.isList h0 (by omega) (by rw[hj];simpa using ew) fin hs
 ·have hj:(i+(its.toArray.size:Int)).toNat=j:=by
   rw[seqIndex_neg (by omega) h4]at h1;rw[List.size_toArray,<- hl];exact Option.some.inj h1
  exact subscriptTail_builtinR (x:=w) pl.isList.typeIs slot_list_getitem.lookup
   (wpAny_getItem_list_neg (Q:=λr s'=>r=w/\EP X pins σ Q r s') pl.isList (by omega) (by rw[List.size_toArray] <;> omega) (by omega) (by rw[hj];simpa using ew) ⟨rfl,fin⟩) hs
theorem am:IxR X (Ia X.K):=by
 intro value slice pins s σ H x y v u Q I rx ry h hs;obtain⟨p,xs,i,z,rfl,rfl,hq,he,q⟩:=h;cases rx;obtain⟨t,rfl⟩:=ry;obtain⟨its,r,pl,hz⟩:=I.tuple hq;obtain⟨j,h1,h2,h3,h4,h5⟩:=sf he;obtain⟨w,ew,rw'⟩:=r.get h2;have hl:=r.length;have hn:=kj;have fin:EP X pins σ Q w s:=⟨z,H,I,rw',q⟩;exact subscriptTail_builtinR (x:=w) pl.typeIs slot_tuple_getitem.lookup
  (getItem_tuple (j:=j) (Q:=λr s'=>r=w/\EP X pins σ Q r s') pl (by omega) (by omega) (by rw[List.size_toArray,<- hl];exact h1) (by simpa using ew) ⟨rfl,fin⟩) hs
theorem qw(its:List Value)(n j:Nat)(u:Value):Obj.mapSeq (·.setIfInBounds j u) { cls:=.type "list",data:=.seq its.toArray n }={ cls:=.type "list",data:=.seq (its.set j u).toArray n }:=by
 simp[Obj.mapSeq]
theorem Aj.lst{pins:List (Addr×Obj)}{σ:St}{H:Hp}{s:Shared}{p:Addr}{xs:List V}(I:Aj X pins σ H s)(h:H p=some (.lst xs)) :
  ∃(its:List Value) (n:Nat),aJ xs its/\s.heap.get? p=some { cls:=.type "list",data:=.seq its.toArray n }/\xs.length<=sizeLine:=by
 obtain⟨z,its,n,r,e⟩:=I.hok p _ h;exact⟨its,n,r,e,z⟩
theorem Aj.lstUpd{pins:List (Addr×Obj)}{σ:St}{H:Hp}{s:Shared}{p:Addr}{xs ys:List V}{its its':List Value}{n n':Nat}{f:Obj->Obj}(I:Aj X pins σ H s)(h:H p=some (.lst xs))
  (ho:s.heap.get? p=some { cls:=.type "list",data:=.seq its.toArray n }) (hf:f { cls:=.type "list",data:=.seq its.toArray n }={ cls:=.type "list",data:=.seq its'.toArray n' }) (r:aJ ys its') (hz:ys.length<=sizeLine) (t:Nat) :
  Aj X pins σ (upd H p (.lst ys)) { s with heap:=s.heap.update p f,toks:=t }:=by
 have e:(s.heap.update p f).get? p=some { cls:=.type "list",data:=.seq its'.toArray n' }:=by
  rw[Heap.get?_update_self f ho (by rw[hf] <;> rfl),hf]
 refine I.write (x:=p) (e:=p) (by rw[h];trivial) (.inl rfl) (λb u hb q=>(Heap.get?_update_other _ _ (Ne.symm hb)).trans q) ⟨_,e⟩ ?_;exact⟨hz,its',n',r,e⟩
noncomputable def yY:V->V->V->Hp->(Hp->Prop)->Prop:=λo i v H Q=>∃p xs k j,o = .ref p/\i = .int k/\H p=some (.lst xs)/\ixN xs.length k=some j/\Q (upd H p (.lst (xs.set j v)))
theorem ua:yL X yY:=by
 intro pins s σ H o i v ov iv u Q I ro ri rv h;obtain⟨p,xs,k,j,rfl,rfl,hp,hj,q⟩:=h;cases ro;obtain⟨t,rfl⟩:=ri;obtain⟨its,n,r,ho,hz⟩:=I.lst hp;obtain⟨h1,h2,h3,h4⟩:=rE hj;have hl:=r.length;have hn:=kj;have I':Aj X pins σ (upd H p (.lst (xs.set j v))) { s with heap:=s.heap.update p (Obj.mapSeq (·.setIfInBounds j u)) } :=
  I.lstUpd hp ho (qw its n j u) (r.set rv j) (by rw[List.length_set];exact hz) s.toks
 by_cases h0:0<=k
 ·have hk:k.toNat=j:=by
   rw[seqIndex_of h0 h4]at h1;exact Option.some.inj h1
  exact W.ki_setAt ho h0 (by omega) (by rw[List.size_toArray,<- hl];exact h4) (by rw[hk];exact⟨_,I',q⟩)
 ·have hk:(k+(its.toArray.size:Int)).toNat=j:=by
   rw[seqIndex_neg (by omega) h3]at h1;rw[List.size_toArray,<- hl];exact Option.some.inj h1
  exact W.ki_setBack ho (by omega) (by rw[List.size_toArray,<- hl];exact h3) (by omega) (by rw[hk];exact⟨_,I',q⟩)
theorem mD(lo hi:Option Int)(n:Nat):(sliceBounds lo hi none n).1=((HT.sIx n 0 lo:Nat):Int)/\(sliceBounds lo hi none n).2.1=((HT.sIx n n hi:Nat):Int)/\(sliceBounds lo hi none n).2.2=1:=by
 refine⟨?_,?_,rfl⟩
 ·cases lo with
  | none=>simp[sliceBounds,HT.sIx]
  | some i =>
   simp only[sliceBounds,HT.sIx,Option.getD_none,show(1:Int)>0 by decide,if_true]
   by_cases h:i<0
   ·simp only[h,if_true] <;> omega
   ·simp only[h,if_false] <;> omega
 ·cases hi with
  | none=>simp[sliceBounds,HT.sIx]
  | some i =>
   simp only[sliceBounds,HT.sIx,Option.getD_none,show(1:Int)>0 by decide,if_true]
   by_cases h:i<0
   ·simp only[h,if_true] <;> omega
   ·simp only[h,if_false] <;> omega
theorem kX(its:List Value)(lo hi:Option Int):slicePick its.toArray lo hi none=((its.drop (HT.sIx its.length 0 lo)).take (HT.sIx its.length its.length hi - HT.sIx its.length 0 lo)).toArray:=by
 obtain⟨h1,h2,h3⟩:=mD lo hi its.toArray.size;unfold slicePick;rw[h1,h2,h3];simp only[sliceRange_one,pick_run,List.size_toArray] <;> rfl
noncomputable def zW(K:W.Frag):V->Option Int->Option Int->Hp->VK->Prop:=λx lo hi H Q=>∃a xs,x = .ref a/\SqL K H a xs/\∀p,H p=none->Q (.ref p) (upd H p (.lst (jp xs lo hi)))
theorem vU:SlR X (zW X.K):=by
 intro pins s σ H x v vl vu lo hi sl Q I rx hs pl pu h;obtain⟨a,xs,rfl,hx,q⟩:=h;cases rx;obtain⟨its,r,ht,hz⟩:=I.list hx;have hlen:=r.length;refine⟨"list",_,slot_list_getitem.lookup,ht.isList.typeIs,?_⟩;refine wpAny_getItem_list_slice ht.isList hs pl pu .none (by simp) ?_ (by rw[List.size_toArray] <;> omega);rw[kX,<- hlen];refine⟨.ref s.heap.objs.size,_,I.laid (t':=s.toks) (o:=.lst (jp xs lo hi)) (λb ob q=>Heap.get?_push_of_some _ q) (Nat.le_refl _) ?_,rfl,q _ (I.hok.fresh (Nat.le_refl _))⟩;exact⟨Nat.le_trans (pA xs lo hi) hz,_,0,(r.drop (HT.sIx xs.length 0 lo)).take (HT.sIx xs.length xs.length hi - HT.sIx xs.length 0 lo),Heap.get?_push_size _ rfl⟩
noncomputable def iS:V->Bool
 | .non=>true
 | .bl _=>true
 | .int _=>true
 | .str _=>true
 | _=>false
noncomputable def eqV:V->V->Bool
 | .non,.non=>true
 | .bl a,.bl b=>a == b
 | .bl a,.int b=>(if a then 1 else 0) == b
 | .int a,.bl b=>a == (if b then 1 else 0)
 | .int a,.int b=>a == b
 | .str a,.str b=>a == b
 | _,_=>false
theorem vo{A:Around}{s:Shared}{y x:V}{u v:Value}(ry:a6 y u)(rx:a6 x v)(fy:iS y=true)(fx:iS x=true):SeqAt.EqAt A s u v (eqV y x):=by
 cases y with
 | non =>
  cases ry;cases x with
  | non=>cases rx;exact SeqAt.EqAt.same _
  | bl b=>cases rx;exact SeqAt.EqAt.none_bool b
  | int b=>obtain⟨t,rfl⟩:=rx;exact SeqAt.EqAt.none_int b t
  | str b=>obtain⟨t,rfl⟩:=rx;exact SeqAt.EqAt.none_str b t
  | _=>exact absurd (show false=true from fx) Bool.false_ne_true
 | bl a =>
  cases ry;cases x with
  | non=>cases rx;exact SeqAt.EqAt.bool_none a
  | bl b=>cases rx;exact SeqAt.EqAt.bool_bool a b
  | int b=>obtain⟨t,rfl⟩:=rx;exact SeqAt.EqAt.bool_int a b t
  | str b=>obtain⟨t,rfl⟩:=rx;exact SeqAt.EqAt.bool_str a b t
  | _=>exact absurd (show false=true from fx) Bool.false_ne_true
 | int a =>
  obtain⟨t',rfl⟩:=ry;cases x with
  | non=>cases rx;exact SeqAt.EqAt.int_none a t'
  | bl b=>cases rx;exact SeqAt.EqAt.int_bool a t' b
  | int b=>obtain⟨t,rfl⟩:=rx;exact SeqAt.EqAt.int_int a t' b t
  | str b=>obtain⟨t,rfl⟩:=rx;exact SeqAt.EqAt.int_str a t' b t
  | _=>exact absurd (show false=true from fx) Bool.false_ne_true
 | str a =>
  obtain⟨t',rfl⟩:=ry;cases x with
  | non=>cases rx;exact SeqAt.EqAt.str_none a t'
  | bl b=>cases rx;exact SeqAt.EqAt.str_bool a t' b
  | int b=>obtain⟨t,rfl⟩:=rx;exact SeqAt.EqAt.str_int a t' b t
  | str b=>obtain⟨t,rfl⟩:=rx;exact SeqAt.EqAt.str_str a t' b t
  | _=>exact absurd (show false=true from fx) Bool.false_ne_true
 | _=>exact absurd (show false=true from fy) Bool.false_ne_true
noncomputable def eqU(x:V)(u:Value):Bool:=match u with
 | .none=>eqV .non x
 | .bool b=>eqV (.bl b) x
 | .int i _=>eqV (.int i) x
 | .str z _=>eqV (.str z) x
 | _=>false
theorem vn{x y:V}{u:Value}(r:a6 y u)(f:iS y=true):eqU x u=eqV y x:=by
 cases y with
 | non=>cases r;rfl
 | bl b=>cases r;rfl
 | int i=>obtain⟨t,rfl⟩:=r;rfl
 | str z=>obtain⟨t,rfl⟩:=r;rfl
 | _=>exact absurd (show false=true from f) Bool.false_ne_true
theorem iX{x:V}:∀{xs:List V} {us:List Value},aJ xs us->xs.all iS=true->us.any (eqU x)=xs.any λy=>eqV y x
 | _,_,.nil,_=>rfl
 | y::xs,u::us,.cons r t,f=>by
  rw[List.all_cons,Bool.and_eq_true]at f;rw[List.any_cons,List.any_cons,vn r f.1,iX t f.2]
theorem ga{A:Around}{s:Shared}{x:V}{v:Value}(rx:a6 x v)(fx:iS x=true):∀{xs:List V} {us:List Value},aJ xs us->xs.all iS=true->∀u∈us,SeqAt.EqAt A s u v (eqU x u)
 | _,_,.nil,_=>λu hu=>by cases hu
 | y::xs,u::us,.cons r t,f=>λu' hu=>by
  rw[List.all_cons,Bool.and_eq_true]at f;rcases List.mem_cons.mp hu with rfl|hu
  ·rw[vn r f.1];exact vo r rx f.1 fx
  ·exact ga rx fx t f.2 u' hu
noncomputable def inV(x:V)(xs:List V):Bool:=xs.any λy=>eqV y x
noncomputable def rIn(K:W.Frag)(neg:Bool):R2:=λx y H Q=>∃p xs,y = .ref p/\(SqL K H p xs\/SqT K H p xs)/\iS x=true/\xs.all iS=true/\Q (.bl (if neg then !inV x xs else inV x xs)) H
theorem sK:OpR X (compareOp .In) (rIn X.K false):=by
 intro pins s σ H x y v u Q I rx ry h;obtain⟨p,xs,rfl,hq,fx,fs,q⟩:=h;cases ry;rcases hq with hq|hq
 ·obtain⟨its,r,pl,hz⟩:=I.list hq
  refine SeqAt.in_listAt (eqU x) pl.isList (λw hw=>ga rx fx r fs w (by simpa using hw)) ⟨.bl _,H,I,rfl,?_⟩;rw[show its.toArray.any (eqU x)=its.any (eqU x) by simp,iX r fs];exact q
 ·obtain⟨its,r,pl,hz⟩:=I.tuple hq
  refine SeqAt.in_tupleAt (eqU x) pl (λw hw=>ga rx fx r fs w (by simpa using hw)) ⟨.bl _,H,I,rfl,?_⟩;rw[show its.toArray.any (eqU x)=its.any (eqU x) by simp,iX r fs];exact q
theorem fk:OpR X (compareOp .NotIn) (rIn X.K true):=by
 intro pins s σ H x y v u Q I rx ry h;obtain⟨p,xs,rfl,hq,fx,fs,q⟩:=h;cases ry;rcases hq with hq|hq
 ·obtain⟨its,r,pl,hz⟩:=I.list hq
  refine SeqAt.notIn_listAt (eqU x) pl.isList (λw hw=>ga rx fx r fs w (by simpa using hw)) ⟨.bl _,H,I,rfl,?_⟩;rw[show its.toArray.any (eqU x)=its.any (eqU x) by simp,iX r fs];exact q
 ·obtain⟨its,r,pl,hz⟩:=I.tuple hq
  refine SeqAt.notIn_tupleAt (eqU x) pl (λw hw=>ga rx fx r fs w (by simpa using hw)) ⟨.bl _,H,I,rfl,?_⟩;rw[show its.toArray.any (eqU x)=its.any (eqU x) by simp,iX r fs];exact q
inductive Iq (K:W.Frag) (xs:List V) (H:Hp) (Q:VK):Prop
 | mk (p:Addr) (ys:List V) (e:xs = [.ref p]) (s:SqL K H p ys\/SqT K H p ys) (q:Q (.int ys.length) H):Iq K xs H Q
theorem aI:fH X (.builtin "len") (Iq X.K):=by
 intro pins s σ H xs us Q I r h;obtain⟨p,ys,rfl,hq,q⟩:=h;obtain⟨u,rfl,rx⟩:=cE r;cases rx;have hn:=kj;rcases hq with hq|hq
 ·obtain⟨its,r',pl,hz⟩:=I.list hq
  have hlen:=r'.length;exact Calls.call_len_list pl.isList (by simp only[List.size_toArray] <;> omega) ⟨.int ys.length,H,I.tok _,⟨s.toks+1,by rw[List.size_toArray,hlen]⟩,q⟩
 ·obtain⟨its,r',pl,hz⟩:=I.tuple hq
  have hlen:=r'.length;exact len_tuple pl (by simp only[List.size_toArray] <;> omega) ⟨.int ys.length,H,I.tok _,⟨s.toks+1,by rw[List.size_toArray,hlen]⟩,q⟩
theorem iV:fH X (.builtin "len") (λxs H Q=>∃z,xs = [.str z]/\z.length<=sizeLine/\Q (.int z.length) H):=by
 intro pins s σ H xs us Q I r h;obtain⟨z,rfl,hz,q⟩:=h;obtain⟨u,rfl,t,rfl⟩:=cE r;have hn:=kj;exact len_str (by omega) ⟨.int z.length,H,I.tok _,⟨_,rfl⟩,q⟩
noncomputable def tyV(K:W.Frag)(T:String)(x:V)(H:Hp):Prop:=match x with
 | .str _=>T = "str"
 | .int _=>T = "int"
 | .ref p=>(T = "list"/\∃xs,SqL K H p xs)\/(T = "tuple"/\∃o,K.lookup p=some o/\o.cls = .type "tuple"/\o.dict=none) \/
   (T = "dict"/\((∃kvs,H p=some (.dK kvs))\/∃kvs,H p=some (.dT kvs)))\/(T = "set"/\∃S n,H p=some (.set S n))
 | _=>False
theorem xJ{pins:List (Addr×Obj)}{σ:St}{H:Hp}{s:Shared}{T:String}{x:V}{v:Value}(I:Aj X pins σ H s)(r:a6 x v)(ty:tyV X.K T x H) :
  s.TypeIs v T/\∀a,v = .ref a->∃ob,s.heap.get? a=some ob/\ob.dict=none:=by
 cases x with
 | str z =>
  obtain⟨t,rfl⟩:=r;cases (show T = "str" from ty);exact⟨typeIs_str s z t,λ_ e=>nomatch e⟩
 | int i =>
  obtain⟨t,rfl⟩:=r;cases (show T = "int" from ty);exact⟨typeIs_int s i t,λ_ e=>nomatch e⟩
 | ref p =>
  cases r;rcases ty with⟨rfl,xs,hq⟩|⟨rfl,o,hk,hc,hd⟩|⟨rfl,hk⟩|⟨rfl,S,n,hk⟩
  ·obtain⟨its,_,pl,_⟩:=I.list hq
   refine⟨pl.isList.typeIs,λa e=>?_⟩;cases e;obtain⟨o,n,e,c,hd,_⟩:=pl;exact⟨o,e,hd⟩
  ·refine⟨⟨o,I.kIn p o hk,hc⟩,λa e=>?_⟩
   cases e;exact⟨o,I.kIn _ o hk,hd⟩
  ·have z:∃o,s.heap.get? p=some o/\o.ExactDict:=by
    rcases hk with⟨kvs,hk⟩|⟨kvs,hk⟩
    ·obtain⟨_,_,_,_,o,_,_,e,ex,_⟩:=I.hok p _ hk
     exact⟨o,e,ex⟩
    ·obtain⟨_,_,_,_,o,_,_,e,ex,_⟩:=I.hok p _ hk
     exact⟨o,e,ex⟩
   obtain⟨o,e,ex⟩:=z;refine⟨⟨o,e,ex.1⟩,λa e2=>?_⟩;cases e2;exact⟨o,e,ex.2.1⟩
  ·obtain⟨o,_,_,_,e,ex,_⟩:=I.hok p _ hk
   refine⟨⟨o,e,ex.1⟩,λa e2=>?_⟩;cases e2;exact⟨o,e,ex.2.1⟩
 | _=>exact False.elim ty
noncomputable def tBM(K:W.Frag)(T:String)(r:V->List V->Hp->VK->Prop)(to:TE)(t:TA):TE:=λσ H Q=>to σ H λx H1=>tyV K T x H1/\t σ H1 λxs H2=>r x xs H2 Q
variable {o e:Expr} {es:List Expr} {to:TE} {t:TA} {name:Str} {apos cpos:Pos} {T id:String} {r:V->List V->Hp->VK->Prop}
theorem dU(pa:PlainAttrs T)(slot:Slot T name id)(hty:typeOf (.builtin id)=pure (.type "method_descriptor"))(hm:MtR X id r)(ho:PE X o to)(ha:PA X (e::es) t)
  (hbase:attributeBase o name X.env (eval o X.env)=eval o X.env:=by rfl)
  (hfew:((backTo cpos (starEach (e::es) X.env)).all (λx=>!x.1) && (backToKw cpos (keywordEach [] X.env)).all (λx=>x.1.isSome)
   && decide ((e::es).length+([]:List Keyword).length+(if ([]:List Keyword).isEmpty then 0 else 1)<30))=true:=by rfl)
  (hline:(apos.endLine == cpos.line)=true:=by rfl) (hs:starEach (e::es) X.env=(false,eval e X.env)::starEach es X.env:=by rfl) (hplain:(backTo cpos (starEach es X.env)).any (·.1)=false:=by rfl) :
  PE X (.Call (.Attribute o name apos) (e::es) [] cpos) (tBM X.K T r to t):=by
 intro pins s σ H Q I h;refine wpAny_Call_method_late hbase hfew hline rfl (thn (ho pins s σ H _ I h) λv s1 ⟨x,H1,I1,r1,ty,q1⟩=>?_);obtain⟨h1,h2⟩:=xJ I1 r1 ty;refine⟨T,id,pa,slot,hty,h1,h2,?_⟩;have hA:=ha cpos pins s1 σ H1 _ I1 q1;rw[hs]at hA ⊢;refine Calls.callWith_builtin (by show(false || (backTo cpos (starEach es X.env)).any (·.1))=false;rw[hplain] <;> rfl) (Calls.evalArgs_plain ?_);exact thn hA λus s2 ⟨vs,H2,I2,r2,q2⟩=>hm pins s2 σ H2 x vs v us Q I2 r1 r2 q2
end
noncomputable def MtM(X:Cx)(id:String)(r:V->List V->Hp->VK->Prop):Prop :=
 ∀(pins:List (Addr×Obj)) (s:Shared) (σ:St) (H:Hp) (x:V) (xs:List V) (v:Value) (us:List Value) (Q:VK),Aj X pins σ H s->a6 x v->aJ xs us->r x xs H Q ->
  wpAny (model X.prog X.w) X.A (call (.builtin id) (v::us)) (EP X pins σ Q) X.xe s
theorem aJ.one:∀{x:V} {us:List Value},aJ [x] us->∃u,us = [u]/\a6 x u
 | _,_,.cons r .nil=>⟨_,rfl,r⟩
theorem aJ.reverse{xs:List V}{us:List Value}(h:aJ xs us):aJ xs.reverse us.reverse:=by
 induction h with
 | nil=>exact .nil
 | cons r t ih=>rw[List.reverse_cons,List.reverse_cons];exact aJ.append ih (.cons r .nil)
theorem aJ.rep{xs:List V}{us:List Value}(h:aJ xs us):∀k:Nat,aJ (List.replicate k xs).flatten (List.replicate k us).flatten
 | 0=>.nil
 | k+1=>by
  rw[List.replicate_succ,List.replicate_succ,List.flatten_cons,List.flatten_cons];exact aJ.append h (aJ.rep h k)
theorem lX(its:List Value):∀(k:Nat) (acc:List Value),
  List.foldl (λx1 x2=>x1++x2) acc.toArray (List.replicate k its.toArray)=(acc++(List.replicate k its).flatten).toArray
 | 0,acc=>by simp
 | k+1,acc=>by
  have e:acc.toArray++its.toArray=(acc++its).toArray:=by simp
  have e2:(acc++its)++(List.replicate k its).flatten=acc++(List.replicate (k+1) its).flatten:=by
   rw[List.replicate_succ,List.flatten_cons,List.append_assoc]
  rw[<- e2,<- lX its k (acc++its),<- e,List.replicate_succ,List.foldl_cons]
section
variable {X:Cx} {pins:List (Addr×Obj)} {σ:St} {H:Hp} {s:Shared} {l b:Addr} {xs ys zs:List V}
theorem Aj.lset{its its':List Value}{n:Nat}{f:Array Value->Array Value}{t':Nat}(I:Aj X pins σ H s)(hH:H l=some (.lst xs))
  (e:s.heap.get? l=some { cls:=.type "list",data:=.seq its.toArray n }) (hf:f its.toArray=its'.toArray) (hv:aJ ys its') (hz:ys.length<=sizeLine) :
  Aj X pins σ (upd H l (.lst ys)) { s with heap:=s.heap.update l (Obj.mapSeq f),toks:=t' }:=by
 have q:=PySem.IsL.update e f;rw[hf]at q;refine I.write (x:=l) (e:=l) (by rw[hH];exact trivial) (.inl rfl) (λb' u hb hu=>(Heap.get?_update_other s.heap (Obj.mapSeq f) (Ne.symm hb)).trans hu) ⟨_,q⟩ ?_;exact⟨hz,its',_,hv,q⟩
theorem Aj.lnew{its:List Value}{t':Nat}(I:Aj X pins σ H s)(hv:aJ ys its)(hz:ys.length<=sizeLine) :
  Aj X pins σ (upd H s.heap.objs.size (.lst ys)) { s with heap:=s.heap.push { cls:=.type "list",data:=.seq its.toArray },toks:=t' } :=
 I.laid (λ_ _ q=>Heap.get?_push_of_some _ q) (Nat.le_refl _) ⟨hz,its,0,hv,Heap.get?_push_size _ rfl⟩
theorem Aj.fresh(I:Aj X pins σ H s):H s.heap.objs.size=none:=I.hok.fresh (Nat.le_refl _)
theorem Aj.lstM(I:Aj X pins σ H s)(hH:H l=some (.lst xs)):xs.length<=sizeLine/\∃(its:List Value) (n:Nat),aJ xs its/\xs.length=its.length/\s.heap.get? l=some { cls:=.type "list",data:=.seq its.toArray n }:=by
 obtain⟨z,its,n,r,e⟩:=I.hok l _ hH;exact⟨z,its,n,r,r.length,e⟩
theorem uw{n:Nat}(h:n<=sizeLine):Builtin.List.listTooLong n=false:=by
 unfold Builtin.List.listTooLong;exact decide_eq_false (by omega)
end
section
variable {X:Cx}
noncomputable def vW:V->List V->Hp->VK->Prop:=λx vs H Q=>∃l xs y,x = .ref l/\vs = [y]/\H l=some (.lst xs)/\xs.length<sizeLine/\Q .non (upd H l (.lst (xs++[y])))
theorem gI:MtM X "list.append" vW:=by
 intro pins s σ H x vs v us Q I rx rv h;obtain⟨l,xs,y,rfl,rfl,hH,hz,q⟩:=h;cases rx;obtain⟨u,rfl,ru⟩:=rv.one;obtain⟨z,its,n,r,hl,e⟩:=I.lstM hH;refine call_meets F.slot_list_append ⟨_,e,rfl⟩ F.entry_list_append (F.args_list_append_2 _ _) (PySem.list_append l its.toArray n u (by rw[List.size_toArray];omega)) ⟨e,?_⟩;refine⟨.non,_,I.lset (its':=its++[u]) hH e (by simp) (r.append (.cons ru .nil)) ?_,rfl,q⟩;rw[List.length_append,List.length_singleton];omega
noncomputable def zY:R2:=λx y H Q=>∃l b xs zs,x = .ref l/\y = .ref b/\H l=some (.lst xs)/\H b=some (.lst zs)/\xs.length+zs.length<=sizeLine/\∀p,H p=none->Q (.ref p) (upd H p (.lst (xs++zs)))
theorem yf:OpR X (binaryOp .Add) zY:=by
 intro pins s σ H x y v u Q I rx ry h;obtain⟨l,b,xs,zs,rfl,rfl,hH,hB,hz,q⟩:=h;cases rx;cases ry;obtain⟨z,its,n,r,hl,e⟩:=I.lstM hH;obtain⟨z2,its2,n2,r2,hl2,e2⟩:=I.lstM hB;refine PySem.P.add_list e e2 ?_ (by rw[List.size_toArray,List.size_toArray];omega);have ea:its.toArray++its2.toArray=(its++its2).toArray:=by simp
 rw[ea];exact⟨.ref _,_,I.lnew (t':=s.toks) (r.append r2) (by rw[List.length_append];omega),rfl,q _ I.fresh⟩
noncomputable def zX:R2:=λx y H Q=>∃l k xs,x = .ref l/\y = .int k/\H l=some (.lst xs)/\-(2^63)<=k/\k<2^63/\xs.length*k.toNat<=sizeLine /\
 ∀p,H p=none->Q (.ref p) (upd H p (.lst (List.replicate k.toNat xs).flatten))
theorem wz{α:Type}(xs:List α)(k:Nat):(List.replicate k xs).flatten.length=k*xs.length:=by
 induction k with
 | zero=>simp
 | succ k ih=>rw[List.replicate_succ,List.flatten_cons,List.length_append,ih,Nat.succ_mul,Nat.add_comm]
theorem yd:OpR X (binaryOp .Mult) zX:=by
 intro pins s σ H x y v u Q I rx ry h;obtain⟨l,k,xs,rfl,rfl,hH,h1,h2,hz,q⟩:=h;cases rx;obtain⟨t,rfl⟩:=ry;obtain⟨z,its,n,r,hl,e⟩:=I.lstM hH;have hlen:its.toArray.size*k.toNat<=sizeLine:=by rw[List.size_toArray,<- hl];exact hz
 have hcap:¬its.toArray.size*k.toNat>(2^63 - 1) / 8:=by
  have:(sizeLine:Nat)<=(2^63 - 1) / 8:=by decide
  omega
 have hfit:¬(!Builtin.List.listFitsIndex k)=true:=by
  rw[fitsIndex_both h1 h2];exact Bool.false_ne_true
 have hlong:¬Builtin.List.listTooLong (its.toArray.size*k.toNat)=true:=by
  rw[uw hlen];exact Bool.false_ne_true
 have hnew:List.foldl (λx1 x2=>x1++x2) #[] (List.replicate (if its.toArray.isEmpty=true then 0 else k.toNat) its.toArray)=(List.replicate k.toNat its).flatten.toArray:=by
  have f0:∀m:Nat,List.foldl (λx1 x2=>x1++x2) #[] (List.replicate m its.toArray)=(List.replicate m its).flatten.toArray:=λm=>by
   have:=lX its m [];rw[List.nil_append]at this;exact this
  rw[f0];cases its with
  | nil=>simp
  | cons a r'=>rw[if_neg (by simp)]
 refine wpAny_binaryOp_repeat_ref (T:="list") (U:="int") (by decide) ⟨_,e,rfl⟩ (λs'=>typeIs_int s' k t) noFill_list_mul F.fills_int_mul F.slot_int_rmul repeat_list F.slot_int_index.lookup
  (call_meets F.slot_int_rmul (typeIs_int s k t) F.entry_int_rmul (F.args_int_rmul_2 _ _) (int___rmul___int_list k t l its.toArray n)
   ⟨e,rfl,⟨_,e,rfl⟩,call_meets F.slot_list_mul ⟨_,e,rfl⟩ F.entry_list_mul (F.args_list_mul_2 _ _) (AutoListH.list___mul___list_int_3 l its.toArray n k t hfit hcap hlong) ⟨e,?_⟩⟩)
 rw[hnew];exact⟨.ref _,_,I.lnew (t':=s.toks) (r.rep k.toNat) (by rw[wz,Nat.mul_comm];exact hz),rfl,q _ I.fresh⟩
end
section
variable {prog:Program} {w:World} {A:Around} {E:Value->Shared->Prop} {s:Shared}
set_option maxRecDepth 100000 in
end
end L2
namespace Att
open PySem PySem.W PySem.Calls PyProof.Rows
theorem jz{P:Params}{h:Heap}:∀(ns:List Int) (vs:List Value),WellAll P h vs (ns.map WData.int)->IntsAre vs ns:=by
 intro ns
 induction ns with
 | nil =>
  intro vs w;rw[List.map_nil]at w;cases w;exact .nil
 | cons n ns ih =>
  intro vs w;rw[List.map_cons]at w;cases w with
  | cons a b =>
   cases a;exact .cons _ _ (ih _ b)
theorem sB{l:OpenLaw}{n:Nat}(hn:l.most=some n){P:Params}{h:Heap}{args:List WData}{vals:List Value}
  (hpre:l.row.toRowW.claim.pre args=true) (hwl:WellAll P h vals args) :
  ∃a vs ns,vals = [Value.ref a]/\args = [WData.list (ns.map WData.int)]/\h.get? a=some { cls:=.type "list",data:=.seq vs.toArray }/\IntsAre vs ns/\ns.length<=n:=by
 have hsh:WShape.hasAll [] args [.list .int]=true:=(pre_splitW hpre).1;have hc:l.pre.holds [] { args:=args }=true:=(pre_splitW hpre).2;obtain⟨d,r,rfl,h1,h2⟩:=hasAllW_cons hsh;obtain rfl:=hasAllW_nil h2;obtain⟨xs,rfl,h3⟩:=hasW_list h1;obtain⟨ns,rfl⟩:=items_int h3;have hlen:ns.length<=n:=by
  unfold OpenLaw.pre at hc;have h4:(WTm.not (.lt (.lit (.int (n:Int))) (.len (.arg 0)))).holds [] { args:=[.list (ns.map .int)] }=true:=by
   have h4:=(holds_andW hc).1;rw[hn]at h4;exact h4
  have h5:=condW_of h4 (w_not (w_lt w_lit (w_len_list (w_arg rfl))));rw[List.length_map]at h5;refine Nat.le_of_not_lt λq=>?_;have q':(n:Int)<((ns.length:Nat):Int):=by omega
  first
   | (rw[decide_eq_true q']at h5;exact absurd h5 (by decide))
   | (simp at h5;omega)
 cases hwl with
 | cons w1 w2 =>
  cases w2;cases w1 with
  | list ho hall=>exact⟨_,_,ns,rfl,rfl,ho,jz ns _ hall,hlen⟩
theorem sD(l:OpenLaw)(args:List WData):l.row.toRowW.claim.post args (.bool true) args=true :=
 postW_of (r:=l.row.toRowW) (X:=(true == true))
  (show WShape.has [] (.bool true) .bool=true by first|rfl|decide|simp[WShape.has,WShape.arms,WShape.armsAll])
  (show(WTm.eq .res (.lit (.bool true))).value [] { args:=args,res:=some (.bool true),after:=args }=some (.bool (true == true)) from w_eq_bool (w_res rfl) w_lit) rfl
theorem attach_call{l:OpenLaw}{n:Nat}{q:Program}{loose:List Str}{XP:(Str->Option Value)->Heap->Prop}{YP:World->Heap->Prop}{d:DefRec}
  (hn:l.most=some n) (hdf:d.params.defaults = [])
  (call:∀(w:World) (s₀ s1:Shared) (mg mb:Str->Option Value) (fa:Addr) (o:Obj) (pm cd doc:Value) (a:Addr) (vs:List Value) (ns:List Int),
   Ground q loose [] XP w s₀ mg mb s1.heap->YP w s1.heap ->
   s1.heap.get? fa=some o->o.data = .func (docDef d.name d.params d.body d.scope pm cd doc)->s1.heap.CodeRec cd d.name->mg d.name=some (.ref fa) ->
   s1.heap.get? a=some { cls:=.type "list",data:=.seq vs.toArray }->IntsAre vs ns->ns.length<=n->s1.gens = #[] ->
   codeAny (model l.prog w) callerA (.call (.ref fa) ⟨[.ref a],[]⟩) (λr s'=>r = .ok (.ret (.bool true))/\OldK s1.heap s'.heap/\s'.os=s1.os/\AllBare s'.gens) s1) :
  WalkO q loose XP YP l.row.toRowW d [] (λf vs=>PySem.call f vs):=by
 intro w s₀ s1 mg mb G Y fa o pm cd doc dV kV ho hd hcd hD hmg hg args vals as hpre hlay hrd hwl hlo;obtain rfl:dV = .none:=Dflts.none hD hdf;obtain rfl:kV = .none:=Dflts.noKw hD;obtain⟨a,vs,ns,rfl,rfl,hobj,hints,hlen⟩:=sB hn hpre hwl;refine enter_call (codeAny_mono (call w s₀ s1 mg mb fa o pm cd doc a vs ns G Y ho (fd_plain hd) hcd hmg hobj hints hlen hg) λr s' hq=>?_);obtain⟨rfl,h2,h3,h4⟩:=hq;exact⟨.inl ⟨.bool true,.bool true,[],rfl,λ_=>rfl,.bool true,sD l _,λ_=>⟨List.Pairwise.nil,λ_ hm=>(nomatch hm)⟩⟩,h2,h3,h4⟩
end Att
namespace L2
open PySem PySem.Spec PyProof.Rows
theorem lv:∀{vs:List Value} {ns:List Int},IntsAre vs ns->aJ (ns.map V.int) vs
 | _,_,.nil=>.nil
 | _,_,.cons n t h=>.cons ⟨t,rfl⟩ (lv h)
noncomputable def yM(H:Hp):Prop:=∀b,H b=none\/∃o xs,H b=some (.frz o (.lst xs))
theorem uS{P:Program}{w:World}{K:W.Frag}{mg mb:Str->Option Value}{CX:CXT}{k:Nat}{fa a:Addr}{fd:FuncData}{x:Str}{sp:Sp}{s1:Shared}{vs:List Value}{ns:List Int}
  (KX:K.In s1.heap) (hns:s1.heap.Ns mainGlobals mg) (hb:s1.heap.Ns builtinsNs mb) (hbb:∀x:Str,x≠"__name__"->mb x=bootBuiltins x) (hlim:s1.heap.NoLimit) (hg:s1.gens = #[])
  (ha:s1.heap.get? a=some { cls:=.type "list",data:=.seq vs.toArray }) (hi:IntsAre vs ns) (hl:ns.length<=sizeLine) (hr:BA k callerA)
  (F:∀base:Heap,K.In base->base.Ns mainGlobals mg->Dw P w K mg base CX k fa fd [x] sp) (hbind:∀(s:Shared) (u:Value),BindsTo s fd ⟨[u],[]⟩ [(x,u)])
  (hsp:∀H:Hp,yM H->SqL K H a (ns.map V.int)->sp [.ref a] H (λv _=>v = .bl true) λ_ _ _=>False)
  (hCX:∀H e s',CX [] H s1 (λ_ _ _=>False) e s'->False) :
  codeAny (model P w) callerA (.call (.ref fa) ⟨[.ref a],[]⟩) (λr s'=>r = .ok (.ret (.bool true))/\OldK s1.heap s'.heap/\s'.os=s1.os/\AllBare s'.gens) s1:=by
 have rv:=lv hi;have lenV:=hi.length;have core:∀H:Hp,yM H->SqL K H a (ns.map V.int)->HOk P w H s1.heap->(∀b,H b≠none->b=a)->(H a≠none->K.lookup a=none) ->
   codeAny (model P w) callerA (.call (.ref fa) ⟨[.ref a],[]⟩) (λr s'=>r = .ok (.ret (.bool true))/\OldK s1.heap s'.heap/\s'.os=s1.os/\AllBare s'.gens) s1:=by
  intro H hO hS hok hA hK;have base_of:∀{b:Addr} {o:Obj},s1.heap.get? b=some o->H b=none->(mR s1.heap H).get? b=some o:=λe n=>u6 e n;have noA:∀{b:Addr} {o:Obj} {es:Array DictEntry} {ep:Nat},s1.heap.get? b=some o->o.data = .dict es ep->H b=none:=λ{b o es ep} e d=>by
   cases q:H b with
   | none=>rfl
   | some u =>
    have e':b=a:=hA b (by rw[q];simp);subst e';rw[ha]at e;cases e;have d':Data.seq vs.toArray _=Data.dict es ep:=d;cases d'
  have nsK:∀{b:Addr} {m:Str->Option Value},s1.heap.Ns b m->(mR s1.heap H).Ns b m:=λ{b m} ⟨o,es,ep,e,d,r⟩=>⟨o,es,ep,base_of e (noA e d),d,r⟩;have hKb:K.In (mR s1.heap H):=λb o e=>base_of (KX b o e) (by
   cases q:H b with
   | none=>rfl
   | some u =>
    have e':b=a:=hA b (by rw[q];simp);subst e';rw[hK (by rw[q];simp)]at e;cases e)
  have hM:Mod K mg (mR s1.heap H):=⟨hKb,nsK hns,⟨mb,nsK hb,hbb⟩,let ⟨mc,h1,h2⟩:=hlim;⟨mc,nsK h1,h2⟩⟩;have e0:Ij P w K mg (mR s1.heap H) callerA [] s1 H:=⟨rfl,hM,λb o e=>wj e,Nat.le_of_eq (sZ _ _),trivial,λb hb=>absurd (show b∈([]:List Addr) from hb) (by simp),hok,.of_eq hg⟩;refine codeAny_mono ((F _ hKb (nsK hns)).run callerA [] s1 H ⟨[.ref a],[]⟩ [.ref a] [.ref a] _ _ hr e0 (hbind s1 (.ref a)) (.cons rfl .nil) (hsp H hO hS)) λr s' h=>?_;cases r with
  | error e=>exact(hCX H e s' h).elim
  | ok fl =>
   cases fl with
   | next=>exact False.elim h
   | brk=>exact False.elim h
   | cont=>exact False.elim h
   | ret u =>
    obtain⟨v,H',os,bare,un,hok',r',q⟩:=h;have q':v = .bl true:=q;subst q';obtain rfl:u=Value.bool true:=r';refine⟨rfl,OldK.of_keep λb o e=>?_,os,bare⟩;cases q:H b with
    | none=>exact un.keep b o e q (by intro z;exact absurd (show b∈([]:List Addr) from z) (by simp)) (by simp)
    | some u =>
     rcases hO b with z|⟨ob,xs,z⟩
     ·rw[q]at z;cases z
     ·have z2:=un.frzs b ob _ z
      obtain⟨e1,_⟩:=hok b _ z;obtain⟨e2,_⟩:=hok' b _ z2;rw[e]at e1;cases e1;exact e2
 cases hk:K.lookup a with
 | some o =>
  have e:=KX a o hk;rw[ha]at e;cases e;refine core (λ_=>none) (λ_=>.inl rfl) (.inr ⟨_,vs.toArray,_,hk,rfl,rfl,rfl,by rw[List.size_toArray,lenV];exact hl,by simpa using rv⟩) (λb u z=>by have z':(none:Option HO)=some u:=z;cases z') (λb z=>absurd rfl z) λz=>absurd rfl z
 | none =>
  refine core (λb=>if b=a then some (.frz { cls:=.type "list",data:=.seq vs.toArray } (.lst (ns.map V.int))) else none) (λb=>?_) (.inl (.inr ⟨{ cls:=.type "list",data:=.seq vs.toArray },if_pos rfl⟩)) (λb u z=>?_) (λb z=>?_) λ_=>hk
  ·by_cases hb:b=a
   ·exact .inr ⟨_,_,if_pos hb⟩
   ·exact .inl (if_neg hb)
  ·by_cases hb:b=a
   ·have z':=(if_pos hb).symm.trans z
    cases z';subst hb;exact⟨ha,by rw[List.length_map];exact hl,vs,_,rv,ha⟩
   ·have z':=(if_neg hb).symm.trans z
    cases z'
  ·by_cases hb:b=a
   ·exact hb
   ·exact absurd (if_neg hb) z
theorem walk_of{l:W.OpenLaw}{n k:Nat}{q:Program}{loose:List Str}{XP:(Str->Option Value)->Heap->Prop}{YP:World->Heap->Prop}{d:DefRec}{K:Params->W.Frag}{CX:World->CXT}{sp:World->Sp}{x:Str}
  (hn:l.most=some n) (hn2:n<=sizeLine) (hdf:d.params.defaults = []) (hr:BA k callerA)
  (hY:∀(w:World) (h:Heap),YP w h->(K w.params).In h)
  (F:∀(w:World) (mg:Str->Option Value) (fa:Addr) (h:Heap),(K w.params).In h->h.Ns mainGlobals mg->mg d.name=some (.ref fa) ->
   ∃fd:FuncData,(∀(s:Shared) (u:Value),BindsTo s fd ⟨[u],[]⟩ [(x,u)]) /\
    ∀base:Heap,(K w.params).In base->base.Ns mainGlobals mg->Dw l.prog w (K w.params) mg base (CX w) k fa fd [x] (sp w))
  (hsp:∀(w:World) (H:Hp) (a:Addr) (ns:List Int),ns.length<=n->yM H->SqL (K w.params) H a (ns.map V.int)->sp w [.ref a] H (λv _=>v = .bl true) λ_ _ _=>False)
  (hCX:∀(w:World) (H:Hp) (s:Shared) (e:Value) (s':Shared),CX w [] H s (λ_ _ _=>False) e s'->False) :
  W.WalkO q loose XP YP l.row.toRowW d [] (λf vs=>PySem.call f vs):=by
 refine Att.attach_call hn hdf λw s₀ s1 mg mb fa o pm cd doc a vs ns G Y ho hd hcd hmg hobj hints hlen hg=>?_;have KX:=hY w _ Y;obtain⟨fd,hb,hF⟩:=F w mg fa _ KX G.T.g hmg;exact uS KX G.T.g G.T.b G.T.builtins G.T.nolimit hg hobj hints (Nat.le_trans hlen hn2) hr hF hb (λH hO hS=>hsp w H a ns hlen hO hS) λH e s'=>hCX w H s1 e s'
noncomputable def aS(s:Stmt):Arguments:=match s with
 | .FunctionDef _ a _ _ _ _ _ _ _ _=>a
 | _=>{ posonlyargs:=[],args:=[],vararg:=none,kwonlyargs:=[],kw_defaults:=[],kwarg:=none,defaults:=[] }
noncomputable def ax(s:Stmt):List Stmt:=match s with
 | .FunctionDef _ _ b _ _ _ _ _ _ _=>b
 | _=>[]
noncomputable def ag(s:Stmt):Scope:=match s with
 | .FunctionDef _ _ _ _ _ _ sc _ _ _=>sc
 | _=>{ kind:=.function,names:=[],isGenerator:=false,isCoroutine:=false }
noncomputable abbrev CX0:CXT:=λ_ _ _ _ _ _=>False
noncomputable abbrev E0:XK:=λ_ _ _=>False
theorem y4{X:Cx}:kT CX0 X E0:=λ_ _ _ _ _ _ _ h=>h.elim
theorem bJ{n:Nat}(h:n<=1000):n<sizeLine:=Nat.lt_of_le_of_lt h (by decide)
section
variable {X:Cx}
theorem pv(i:Nat){x:Str}{pos:Pos}(hN:X.N[i]? = some x:=by rfl)(hv:Vis X.env.scope x:=by first|exact Or.inl rfl|exact Or.inr (Or.inl rfl)|exact Or.inr (Or.inr rfl))(hd:(x == ("__debug__" : Str))=false:=by decide)
  (hcd:(x == ("__classdict__" : Str))=false:=by decide):PE X (.Name x pos) (BF i):=x9 hN hv hd hcd
end
theorem km{A B:Prop}(h:B):if false=true then A else B:=by
 rw[if_neg Bool.false_ne_true];exact h
theorem jy{A B:Prop}(h:A):if true=true then A else B:=by
 rw[if_pos rfl];exact h
noncomputable def Same(H H':Hp):Prop:=∀b o,H b=some o->H' b=some o
theorem Same.refl(H:Hp):Same H H:=λ_ _ h=>h
theorem Same.trans{H H1 H2:Hp}(a:Same H H1)(b:Same H1 H2):Same H H2:=λc o h=>b c o (a c o h)
theorem Same.free{H H':Hp}(e:Same H H'){l:Addr}(h:H' l=Option.none):H l=Option.none:=by
 cases q:H l with
 | none=>rfl
 | some o =>
  rw[e l o q]at h;cases h
theorem Same.seq{K:W.Frag}{H H':Hp}{a:Addr}{xs:List V}(e:Same H H')(h:SqL K H a xs):SqL K H' a xs:=by
 rcases h with(h|⟨o,h⟩)|h
 ·exact .inl (.inl (e _ _ h))
 ·exact .inl (.inr ⟨o,e _ _ h⟩)
 ·exact .inr h
end L2
end
section
set_option Elab.async false
set_option linter.all false
set_option maxRecDepth 100000
set_option maxHeartbeats 4000000
namespace Mth
theorem u8{a b:Int}(ha:0<=a)(hb:0<b):Int.gcd b (a % b)=Int.gcd a b:=by
 obtain⟨m,rfl⟩:=Int.eq_ofNat_of_zero_le ha;obtain⟨n,rfl⟩:=Int.eq_ofNat_of_zero_le (Int.le_of_lt hb);rw[<- Int.natCast_emod];show Nat.gcd (n:Int).natAbs ((m % n:Nat):Int).natAbs=Nat.gcd (m:Int).natAbs (n:Int).natAbs;simp only[Int.natAbs_natCast];rw[Nat.gcd_comm m n,Nat.gcd_comm n (m % n)];exact(Nat.gcd_rec n m).symm
theorem rH(a b:Int):Int.gcd (if a<0 then -a else a) b=Int.gcd a b:=by
 split
 ·exact Int.neg_gcd
 ·rfl
theorem va(a b:Int):Int.gcd a (if b<0 then -b else b)=Int.gcd a b:=by
 rw[Int.gcd_comm,rH,Int.gcd_comm]
theorem gcd_zero{a:Int}(ha:0<=a):(Int.gcd a 0:Int)=a:=by
 rw[Int.gcd_zero];omega
structure Bg(t b:Int):Prop where
 pos:1<=b
 one:Int.gcd t b=1
theorem fB{a b:Int}(h:b≠0):0<(Int.gcd a b:Int):=by
 have:=Int.gcd_pos_of_ne_zero_right a h;omega
theorem yy(a b:Int):a=a / (Int.gcd a b:Int)*(Int.gcd a b:Int):=(Int.ediv_mul_cancel (Int.gcd_dvd_left a b)).symm
theorem rN(a b:Int):b=b / (Int.gcd a b:Int)*(Int.gcd a b:Int):=(Int.ediv_mul_cancel (Int.gcd_dvd_right a b)).symm
theorem w6{a b:Int}(hb:0<b):Bg (a / (Int.gcd a b:Int)) (b / (Int.gcd a b:Int)):=by
 have hg:=fB (a:=a) (b:=b) (by omega);refine⟨?_,?_⟩
 ·have h1:=rN a b
  have h2:0<b / (Int.gcd a b:Int):=Int.ediv_pos_of_pos_of_dvd hb (by omega) (Int.gcd_dvd_right a b);omega
 ·rw[Int.gcd_ediv (Int.gcd_dvd_left a b) (Int.gcd_dvd_right a b)]
  simp only[Int.natAbs_natCast];exact Nat.div_self (by omega)
theorem rA{t b t' b':Int}(h:Bg t b)(e:t*b'=t'*b):b∣b':=by
 have h1:b.natAbs∣t.natAbs*b'.natAbs:=by
  rw[<- Int.natAbs_mul,e,Int.natAbs_mul];exact Nat.dvd_mul_left _ _
 have h2:Nat.Coprime b.natAbs t.natAbs:=by
  have:=h.one;unfold Nat.Coprime;rw[Nat.gcd_comm];exact this
 exact Int.natAbs_dvd_natAbs.mp (h2.dvd_of_dvd_mul_left h1)
theorem bF{t b t' b':Int}(h:Bg t b)(h':Bg t' b')(e:t*b'=t'*b):t=t'/\b=b':=by
 have d1:=rA h e;have d2:=rA h' e.symm;have p1:=h.pos;have p2:=h'.pos;have eb:b=b':=Int.le_antisymm (Int.le_of_dvd (by omega) d1) (Int.le_of_dvd (by omega) d2);subst eb;exact⟨Int.eq_of_mul_eq_mul_right (by omega) e,rfl⟩
structure Ak(top bottom t b:Int):Prop where
 low:Bg t b
 eq:top*b=t*bottom
theorem iK{a b:Int}(hb:0<b):Ak a b (a / (Int.gcd a b:Int)) (b / (Int.gcd a b:Int)):=by
 refine⟨w6 hb,?_⟩;have h1:=yy a b;have h2:=rN a b;generalize a / (Int.gcd a b:Int)=x at *;generalize b / (Int.gcd a b:Int)=y at *;generalize (Int.gcd a b:Int)=g at *;subst h1 h2
 grind
theorem lV{a b:Int}(hb:b≠0)(d:Int)(hd:d=if b<0 then -(Int.gcd a b:Int) else (Int.gcd a b:Int)):Ak a b (a.fdiv d) (b.fdiv d):=by
 have hg:=fB (a:=a) (b:=b) hb
 by_cases h:b<0
 ·rw[if_pos h]at hd
  have f:=iK (a:=-a) (b:=-b) (by omega);rw[Int.gcd_neg,Int.neg_gcd]at f;subst hd;have e1:a.fdiv (-(Int.gcd a b:Int)) = -a / (Int.gcd a b:Int):=by
   rw[<- Int.neg_fdiv_neg,Int.neg_neg];exact Int.fdiv_eq_ediv_of_nonneg _ (by omega)
  have e2:b.fdiv (-(Int.gcd a b:Int)) = -b / (Int.gcd a b:Int):=by
   rw[<- Int.neg_fdiv_neg,Int.neg_neg];exact Int.fdiv_eq_ediv_of_nonneg _ (by omega)
  rw[e1,e2];exact⟨f.low,by have:=f.eq;grind⟩
 ·rw[if_neg h]at hd
  subst hd;rw[Int.fdiv_eq_ediv_of_nonneg _ (by omega),Int.fdiv_eq_ediv_of_nonneg _ (by omega)];exact iK (by omega)
theorem jw{a b t u t' u':Int}(hb:b≠0)(h:Ak a b t u)(h':Ak a b t' u'):t=t'/\u=u':=by
 refine bF h.low h'.low ?_;have e1:=h.eq;have e2:=h'.eq;have:b*(t*u')=b*(t'*u):=by grind
 exact Int.eq_of_mul_eq_mul_left hb this
theorem tj{t u:Int}(h:Bg t u):Ak t u t u:=⟨h,rfl⟩
end Mth
namespace L2
open PySem PySem.Spec PyProof.Rows
noncomputable abbrev au(i:Int):Nat:=Builtin.Int.intBits i
theorem dF{i:Int}{n:Nat}(h:i.natAbs<2^n):au i<=n:=intBits_le h
theorem cU{i:Int}{n:Nat}(h:au i<=n):i.natAbs<2^n:=by
 unfold au Builtin.Int.intBits at h
 by_cases h0:i=0
 ·subst h0
  exact Nat.pos_of_ne_zero (by simp)
 ·rw[if_neg (by simpa using h0)]at h
  have h1:i.natAbs≠0:=by omega
  exact(Nat.log2_lt h1).mp (by omega)
theorem gS{i j:Int}{n:Nat}(h:i.natAbs<=j.natAbs)(hj:au j<=n):au i<=n:=dF (Nat.lt_of_le_of_lt h (cU hj))
theorem bits_mul{i j:Int}{m n:Nat}(hi:au i<=m)(hj:au j<=n):au (i*j)<=m+n:=by
 refine dF ?_;rw[Int.natAbs_mul,Nat.pow_add];exact Nat.mul_lt_mul'' (cU hi) (cU hj)
theorem dq{i j:Int}{n:Nat}(hi:au i<=n)(hj:au j<=n):au (i+j)<=n+1:=dF (Nat.lt_of_le_of_lt (Int.natAbs_add_le i j) (by rw[Nat.pow_succ,Nat.mul_two];exact Nat.add_lt_add (cU hi) (cU hj)))
theorem cI{i j:Int}{n:Nat}(hi:au i<=n)(hj:au j<=n):au (i - j)<=n+1:=dF (Nat.lt_of_le_of_lt (Int.natAbs_sub_le i j) (by rw[Nat.pow_succ,Nat.mul_two];exact Nat.add_lt_add (cU hi) (cU hj)))
theorem bits_neg{i:Int}{n:Nat}(hi:au i<=n):au (-i)<=n:=gS (by omega) hi
theorem eY{i j:Int}{n:Nat}(hj:0<j)(hi:au i<=n):au (i / j)<=n:=by
 refine gS ?_ hi;exact Int.natAbs_ediv_le_natAbs i j
theorem gU{i j:Int}{n:Nat}(hi:au i<=n):au (i.fdiv j)<=n:=PySem.intBits_fdiv_le hi
theorem d7{i b:Int}{n:Nat}(h0:0<=i)(h1:i<=b)(hb:au b<=n):au i<=n:=gS (by omega) hb
theorem ai{i:Int}{m n:Nat}(h:au i<=m)(hm:m<=n):au i<=n:=Nat.le_trans h hm
section
variable {X:Cx} {pos:Pos}
noncomputable def CM(i j:Int):Prop:=IntMulOk i j
theorem CM.b{i j:Int}{m n:Nat}(hi:au i<=m)(hj:au j<=n)(hm:m<=2^20)(hn:n<=2^20):CM i j:=IntMulOk.of_bits (Nat.le_trans hi hm) (Nat.le_trans hj hn)
theorem CM.l{i j:Int}(h:-(2^64)<i/\i<2^64):CM i j:=xi.ok (.inl h)
theorem CM.r{i j:Int}(h:-(2^64)<j/\j<2^64):CM i j:=xi.ok (.inr h)
theorem aT:OpR X (binaryOp .Mult) (rI CM λi j=>.int (i*j)):=opI λ_ _ _ _ _ _ _ hc q=>mul_int q hc
noncomputable def CD(_ j:Int):Prop:=0<j/\au j<=8000
theorem iD{j:Int}{n:Nat}(hj:j≠0)(h:au j<=n)(hn:n<=9000):j.natAbs.log2<9000:=by
 have h1:j.natAbs≠0:=by omega
 have h2:=(Nat.log2_lt h1).mpr (cU h);omega
theorem ca:OpR X (binaryOp .FloorDiv) (rI CD λi j=>.int (i / j)):=opI λi j _ _ _ _ _ hc q=>by
 have h1:(0:Int)<j:=hc.1;exact floordiv_int (by omega) (by rw[Int.fdiv_eq_ediv_of_nonneg i (by omega)];exact q) (.inl (PyProof.noPylong_of_log2 (iD (by omega) hc.2 (by decide))))
noncomputable def CDZ(_ j:Int):Prop:=j≠0/\au j<=8000
theorem oA:OpR X (binaryOp .FloorDiv) (rI CDZ λi j=>.int (i.fdiv j)):=opI λi j _ _ _ _ _ hc q =>
 floordiv_int hc.1 q (.inl (PyProof.noPylong_of_log2 (iD hc.1 hc.2 (by decide))))
end
theorem qM:bootBuiltins "int" = some (.type "int"):=by decide +kernel
theorem xb:bootBuiltins "bool" = some (.type "bool"):=by decide +kernel
theorem nF:bootBuiltins "str" = some (.type "str"):=by decide +kernel
theorem kN:bootBuiltins "tuple" = some (.type "tuple"):=by decide +kernel
theorem nG:bootBuiltins "list" = some (.type "list"):=by decide +kernel
theorem bo:bootBuiltins "isinstance" = some (.builtin "isinstance"):=by decide +kernel
theorem kR:bootBuiltins "abs" = some (.builtin "abs"):=by decide +kernel
theorem ci:bootBuiltins "len" = some (.builtin "len"):=by decide +kernel
theorem kO:bootBuiltins "min" = some (.builtin "min"):=by decide +kernel
theorem qL:bootBuiltins "max" = some (.builtin "max"):=by decide +kernel
theorem ix{X:Cx}{x:Str}{T:String}{pos:Pos}(hm:X.mg x=none)(hv:bootBuiltins x=some (.type T))(hg:Gl X x:=by rfl)(hn:x≠"__name__":=by decide)(hd:(x == ("__debug__" : Str))=false:=by decide) :
  PE X (.Name x pos) (tC (.ty T)):=v6 hg hm hv rfl hn hd
inductive Kn (H:Hp):V->String->Prop where
 | non:Kn H .non "NoneType"
 | bl (b:Bool):Kn H (.bl b) "bool"
 | int (i:Int):Kn H (.int i) "int"
 | str (x:Str):Kn H (.str x) "str"
 | lst {a:Addr} {xs:List V} (e:H a=some (.lst xs)):Kn H (.ref a) "list"
 | tup {a:Addr} {xs:List V} (e:H a=some (.tup xs)):Kn H (.ref a) "tuple"
 | dict {a:Addr} {kvs:List (Key×V)} (e:H a=some (.dK kvs)):Kn H (.ref a) "dict"
theorem Kn.ty{K:W.Frag}{H:Hp}{x:V}{t:String}(k:Kn H x t):DJ K H x (.type t):=by
 cases k with
 | non=>exact .non
 | bl b=>exact .bl b
 | int i=>exact .int i
 | str x=>exact .str x
 | lst e=>exact .lst e
 | tup e=>exact .tup e
 | dict e=>exact .dK e
theorem Kn.mono{H H':Hp}{x:V}{t:String}(k:Kn H x t)(s:Same H H'):Kn H' x t:=by
 cases k with
 | non=>exact .non
 | bl b=>exact .bl b
 | int i=>exact .int i
 | str x=>exact .str x
 | lst e=>exact .lst (s _ _ e)
 | tup e=>exact .tup (s _ _ e)
 | dict e=>exact .dict (s _ _ e)
noncomputable def eS(t T:String):Bool:=t == T || (t == "bool" && T == "int")
noncomputable def vO(T:String):Prop:=T = "int"\/T = "bool"\/T = "tuple"\/T = "list"\/T = "str"
theorem yn(K:W.Frag){H:Hp}{x:V}{t T:String}(k:Kn H x t)(n:vO T):W.kitOne K (.type t) (.type T)=some (eS t T):=by
 rcases n with rfl|rfl|rfl|rfl|rfl <;> cases k <;> kernel_rfl
inductive IS (xs:List V) (H:Hp) (Q:VK):Prop
 | mk (x:V) (t T:String) (e:xs = [x,.ty T]) (k:Kn H x t) (n:vO T) (q:Q (.bl (eS t T)) H):IS xs H Q
theorem bY{X:Cx}:fH X (.builtin "isinstance") IS:=by
 intro pins s σ H xs us Q I rs h;obtain⟨x,t,T,rfl,k,n,q⟩:=h;obtain⟨u,v,rfl,ru,rv⟩:=tN rs;cases (show v=Value.type T from rv);exact sV I ru k.ty (yn X.K k n) λtk=>⟨.bl _,H,I.tok _,rfl,q⟩
structure Fn(P:Program)(w:World)(K:W.Frag)(mg:Str->Option Value)(base:Heap)(x:Str)(ps:List Str)(k:Nat)(sp:Sp):Prop where
 ex:∃(f:Addr) (fd:FuncData) (o:Obj),mg x=some (.ref f)/\W.keepIn K (.ref f)=true/\(∀us:List Value,us.length=ps.length->bindArgs fd ⟨us,[]⟩=pure (ps.zip us))/\(K.lookup f=some o/\o.data = .func fd)/\Dw P w K mg base CX0 k f fd ps sp
theorem ao{X:Cx}{x:Str}{ps:List Str}{k:Nat}{sp:Sp}{p pos:Pos}{e:Expr}{es:List Expr}{t:TA}(F:Fn X.prog X.w X.K X.mg X.base x ps k sp)(hr:BA k X.A)(hg:Gl X x)(ha:PA X (e::es) t)
  (hdb:(x == ("__debug__" : Str))=false:=by decide) (he:starEach (e::es) X.env=(false,eval e X.env)::starEach es X.env:=by rfl) (hpl:(backTo pos (starEach es X.env)).any (·.1)=false:=by rfl) :
  PE X (.Call (.Name x p) (e::es) [] pos) (fL sp [] E0 t):=by
 obtain⟨f,fd,o,hm,hk,hb,_,G⟩:=F.ex;exact iy G hr hg hm hk (.all hb) .nil y4 ha hdb he hpl
structure Df(K:W.Frag)(mg:Str->Option Value)(x:Str)(st:Stmt):Prop where
 ex:∃(f:Addr) (oc:Value) (od:Option Addr) (kV doc pm:Value) (an:Option Addr) (cdv ct:Value) (osl:Array (Option Value)),
  mg x=some (.ref f)/\K.lookup f=some ⟨oc,od,.func (W.fnOf x x (aS st) (ax st) (ag st) .none kV doc pm an cdv ct),osl⟩/\W.codeIn K cdv x=true/\W.keepIn K (.ref f)=true
theorem zG{K:W.Frag}{mg:Str->Option Value}{h:Heap}{x:Str}{st:Stmt}{f:Addr}{oc:Value}{od an:Option Addr}{osl:Array (Option Value)}{kV doc pm cdv ct:Value}(X:K.In h)(G:h.Ns mainGlobals mg)
  (a:W.nsIn K mainGlobals x=some (some (.ref f))) (l:K.lookup f=some ⟨oc,od,.func (W.fnOf x x (aS st) (ax st) (ag st) .none kV doc pm an cdv ct),osl⟩) (c:W.codeIn K cdv x=true) (k:W.keepIn K (.ref f)=true) :
  Df K mg x st:=⟨⟨f,oc,od,kV,doc,pm,an,cdv,ct,osl,W.mg_of X G a,l,c,k⟩⟩
theorem Df.fn{P:Program}{w:World}{K:W.Frag}{mg:Str->Option Value}{base:Heap}{x:Str}{st:Stmt}{N ps:List Str}{k:Nat}{sp:Sp}(D:Df K mg x st)(S:Ah N ps (ag st))
  (hbind:∀(kV doc pm:Value) (an:Option Addr) (cdv ct:Value) (us:List Value),us.length=ps.length->bindArgs (W.fnOf x x (aS st) (ax st) (ag st) .none kV doc pm an cdv ct) ⟨us,[]⟩=pure (ps.zip us))
  (len:∀vs H Q E,sp vs H Q E->vs.length=ps.length)
  (hbody:∀(f:Addr) (cdv:Value) (A:Around) (outer:List Env) (s:Shared) (H:Hp) (vs:List V) (Q:VK) (E:XK),BA k (A.deeper (envOfC x (ag st) s.heap.objs.size f cdv))->sp vs H Q E ->
   ∃t,PSs (aG CX0 P w K mg base N x (ag st) f cdv A outer s H E).nox (ax st) t/\t { nx:=λ_ H'=>Q .non H',rt:=Q } (fN N vs) H):Fn P w K mg base x ps (k+1) sp:=by
 obtain⟨f,oc,od,kV,doc,pm,an,cdv,ct,osl,hm,lk,hcd,hk⟩:=D.ex;refine⟨⟨f,_,_,hm,hk,hbind kV doc pm an cdv ct,⟨lk,rfl⟩,rM lk hcd S len λA outer s H vs Q E hr hsp=>?_⟩⟩;obtain⟨t,h,q⟩:=hbody f cdv A outer s H vs Q E hr hsp;exact⟨t,h.nox,q⟩
theorem ym{P:Program}{w:World}{K:W.Frag}{mg:Str->Option Value}{fa:Addr}{k:Nat}{sp:Sp}(h:Heap)(hfa:mg "law" = some (.ref fa))(F:∀base:Heap,Fn P w K mg base "law" ["script"] k sp) :
  ∃fd:FuncData,(∀(s:Shared) (v:Value),BindsTo s fd ⟨[v],[]⟩ [("script",v)])/\∀base:Heap,K.In base->base.Ns mainGlobals mg->Dw P w K mg base CX0 k fa fd ["script"] sp:=by
 obtain⟨f,fd,o,hm,_,hb,⟨hl,hd⟩,_⟩:=(F h).ex;rw[hfa]at hm;cases hm;refine⟨fd,λs v=>.of_eq (hb [v] rfl),λbase _ _=>?_⟩;obtain⟨f',fd',o',hm',_,_,⟨hl',hd'⟩,G⟩:=(F base).ex;rw[hfa]at hm';cases hm';rw[hl]at hl';cases hl';rw[hd]at hd';cases hd';exact G
noncomputable def oa(K:W.Frag):Sp:=λvs H Q _=>∃(a:Addr) (ns:List Int),vs = [.ref a]/\SqL K H a (ns.map V.int)/\ns.length<=63/\∀H',Q (.bl true) H'
theorem law_walk{l:W.OpenLaw}{k:Nat}{q:Program}{loose:List Str}{XP:(Str->Option Value)->Heap->Prop}{YP:World->Heap->Prop}{d:DefRec}{K:Params->W.Frag}(hk:BA k callerA)(hn:l.most=some 63)(hdf:d.params.defaults = [])
  (hY:∀(w:World) (h:Heap),YP w h->(K w.params).In h)
  (F:∀(w:World) (mg:Str->Option Value) (fa:Addr) (h:Heap),(K w.params).In h->h.Ns mainGlobals mg->mg d.name=some (.ref fa) ->
   ∃fd:FuncData,(∀(s:Shared) (u:Value),BindsTo s fd ⟨[u],[]⟩ [("script",u)])/\∀base:Heap,(K w.params).In base->base.Ns mainGlobals mg->Dw l.prog w (K w.params) mg base CX0 k fa fd ["script"] (oa (K w.params))) :
  W.WalkO q loose XP YP l.row.toRowW d [] (λf vs=>PySem.call f vs) :=
 L2.walk_of (n:=63) (k:=k) (x:="script") (CX:=λ_=>CX0) (sp:=λw=>oa (K w.params)) hn (by decide) hdf hk hY F (λ_ _ a ns hl _ hS=>⟨a,ns,rfl,hS,hl,λ_=>rfl⟩) λ_ _ _ _ _ z=>z
theorem Same.new{H:Hp}{p:Addr}{o:HO}(h:H p=none):Same H (upd H p o):=λb o' e=>by
 rw[aP (aL e h)];exact e
theorem ay{c:Bool}{A B:Prop}(h1:c=true->A)(h2:c=false->B):if c=true then A else B:=by
 cases c with
 | true=>exact jy (h1 rfl)
 | false=>exact km (h2 rfl)
theorem bC{b:Bool}{A B:Prop}(hb:b=false)(h:B):if b=true then A else B:=by
 subst hb;exact km h
theorem gK{b:Bool}{A B:Prop}(hb:b=true)(h:A):if b=true then A else B:=by
 subst hb;exact jy h
noncomputable def mQ:V->Bool
 | .int _=>true
 | _=>false
end L2
namespace Sp1
open PySem PySem.Spec L2 Mth
inductive Dm (vs:List V) (H:Hp) (Q:VK) (x_3:XK):Prop
 | mk:∀x t,(vs = [x])->(Kn H x t)->(Q (.bl (mQ x)) H)->Dm vs H Q x_3
inductive G6 (vs:List V) (H:Hp) (Q:VK) (x_3:XK):Prop
 | mk:∀a b:Int,(vs = [.int a,.int b])->(Q (.int (Int.gcd a b:Int)) H)->G6 vs H Q x_3
inductive BP (vs:List V) (H:Hp) (Q:VK) (x_3:XK):Prop
 | mk:∀(p q:Addr) (a b c d:Int),(vs = [.ref p,.ref q])->(H p=some (.tup [.int a,.int b]))->(H q=some (.tup [.int c,.int d]))->((au a<=2000/\au b<=2000/\au c<=2000/\au d<=2000))->(Q (.bl (decide (a*d<c*b))) H)->BP vs H Q x_3
inductive En (vs:List V) (H:Hp) (Q:VK) (x_3:XK):Prop
 | mk:∀(p:Addr) (a b:Int),(vs = [.ref p])->(H p=some (.tup [.int a,.int b]))->((0<b/\au b<=2000))->(Q (.int (a / b)) H)->En vs H Q x_3
noncomputable def kh(a b:Int):Bool:=decide (1<=b) && decide (Int.gcd a b=1)
noncomputable def kY:List V->Bool
 | [.int a,.int b]=>kh a b
 | _=>false
noncomputable def iC(H:Hp):V->Bool
 | .ref p=>match H p with
  | some (.tup xs)=>kY xs
  | _=>false
 | _=>false
structure AN(H:Hp)(x:V):Prop where
 kn:∃t,Kn H x t
 parts:∀p xs,x = .ref p->H p=some (.tup xs)->∀y∈xs,∃t,Kn H y t
inductive G3 (vs:List V) (H:Hp) (Q:VK) (x_3:XK):Prop
 | mk:∀x,(vs = [x])->(AN H x)->(Q (.bl (iC H x)) H)->G3 vs H Q x_3
theorem ls{H:Hp}{x:V}{t:String}(k:Kn H x t):(eS t "int" = true->(!eS t "bool")=mQ x)/\(eS t "int" = false->mQ x=false):=by
 cases k with
 | non=>exact⟨λh=>absurd h (by decide),λ_=>rfl⟩
 | bl b=>exact⟨λ_=>(show(!eS "bool" "bool")=false by decide),λh=>absurd h (by decide)⟩
 | int i=>exact⟨λ_=>(show(!eS "int" "bool")=true by decide),λh=>absurd h (by decide)⟩
 | str x=>exact⟨λh=>absurd h (by decide),λ_=>rfl⟩
 | lst e=>exact⟨λh=>absurd h (by decide),λ_=>rfl⟩
 | tup e=>exact⟨λh=>absurd h (by decide),λ_=>rfl⟩
 | dict e=>exact⟨λh=>absurd h (by decide),λ_=>rfl⟩
theorem kS(a:Int):0<=(if a<0 then -a else a):=by split <;> omega
theorem Kn.cases_int{H:Hp}{y:V}{t:String}(k:Kn H y t):(∃a,y = .int a/\t = "int")\/((∀a,y≠.int a)/\mQ y=false):=by
 cases k with
 | int a=>exact .inl ⟨a,rfl,rfl⟩
 | non=>exact .inr ⟨λa e=>(nomatch e),rfl⟩
 | bl b=>exact .inr ⟨λa e=>(nomatch e),rfl⟩
 | str x=>exact .inr ⟨λa e=>(nomatch e),rfl⟩
 | lst e=>exact .inr ⟨λa e=>(nomatch e),rfl⟩
 | tup e=>exact .inr ⟨λa e=>(nomatch e),rfl⟩
 | dict e=>exact .inr ⟨λa e=>(nomatch e),rfl⟩
theorem Kn.cases_tup{H:Hp}{y:V}{t:String}(k:Kn H y t):(∃p xs,y = .ref p/\H p=some (.tup xs)/\t = "tuple")\/(iC H y=false/\eS t "tuple" = false):=by
 cases k with
 | tup e=>exact .inl ⟨_,_,rfl,e,rfl⟩
 | non=>exact .inr ⟨rfl,by decide⟩
 | bl b=>exact .inr ⟨rfl,by decide⟩
 | str x=>exact .inr ⟨rfl,by decide⟩
 | int a=>exact .inr ⟨rfl,by decide⟩
 | lst e=>exact .inr ⟨by simp only[iC,e],by decide⟩
 | dict e=>exact .inr ⟨by simp only[iC,e],by decide⟩
theorem uL{H:Hp}{p:Addr}{xs:List V}(e:H p=some (.tup xs)):iC H (.ref p)=kY xs:=by simp only[iC,e]
theorem uN{xs:List V}(h:xs.length≠2):kY xs=false:=by
 unfold kY
 split
 ·exact absurd rfl h
 ·rfl
theorem uO{y z:V}(h:∀a,y≠.int a):kY [y,z]=false:=by
 unfold kY
 split
 ·rename_i a b e
  cases e;exact absurd rfl (h a)
 ·rfl
theorem uM{y z:V}(h:∀a,z≠.int a):kY [y,z]=false:=by
 unfold kY
 split
 ·rename_i a b e
  cases e;exact absurd rfl (h b)
 ·rfl
theorem sz{n:Nat}(h:n<=1000):n<=sizeLine:=Nat.le_of_lt (bJ h)
theorem oP{H:Hp}{p:Addr}{o:HO}(h:H p=none):∃H1,upd H p o=H1/\Same H H1/\H1 p=some o:=⟨_,rfl,Same.new h,upd_same⟩
theorem atI_mem{α:Type}{xs:List α}{k:Int}(h0:0<=k)(h1:k<(xs.length:Int)):∃v,atI xs k=some v/\v∈xs:=by
 have hk:k.toNat<xs.length:=by omega
 have ek:k=((k.toNat:Nat):Int):=by omega
 have q:=eE (xs:=xs) (j:=k.toNat) (List.getElem?_eq_getElem hk);rw[<- ek]at q;exact⟨xs[k.toNat],q,List.getElem_mem hk⟩
theorem th_tup{H:Hp}{p:Addr}{xs:List V}(e:H p=some (.tup xs))(h:∀y∈xs,∃t,Kn H y t):AN H (.ref p):=⟨⟨_,.tup e⟩,λp' ys e1 e2=>by
 cases e1;rw[e]at e2;cases e2;exact h⟩
inductive Fc (C:Addr) (vs:List V) (H:Hp) (Q:VK) (E:XK):Prop
 | mk:∀a b:Int,(vs = [.int a,.int b])->((au a<=2000/\au b<=2000))->((b=0->E (.ref C) none H))->((b≠0->∀(p:Addr) (t u:Int),Ak a b t u->au t<=2000->au u<=2000->H p=none->Q (.ref p) (upd H p (.tup [.int t,.int u]))))->Fc C vs H Q E
theorem lU{a b:Int}{n:Nat}(hb:b≠0)(h:au b<=n):au (Int.gcd a b:Int)<=n:=by
 refine gS ?_ h;have h1:(Int.gcd a b)∣b.natAbs:=Int.gcd_dvd_natAbs_right a b;have h2:=Nat.le_of_dvd (by omega) h1;omega
end Sp1
namespace L2
open PySem PySem.Spec PyProof.Rows
theorem pK(ns ms:List Int):((List.range (min ns.length ms.length)).all (λj=>decide (ns[j]? = ms[j]?)) && ns.length == ms.length)=decide (ns=ms):=by
 rw[Bool.eq_iff_iff];simp only[Bool.and_eq_true,List.all_eq_true,List.mem_range,decide_eq_true_eq,beq_iff_eq];constructor
 ·rintro⟨h1,h2⟩
  refine List.ext_getElem? λj=>?_
  by_cases hj:j<ns.length
  ·exact h1 j (by omega)
  ·rw[List.getElem?_eq_none (by omega),List.getElem?_eq_none (by omega)]
 ·rintro rfl
  exact⟨λ_ _=>rfl,rfl⟩
theorem tO{ns:List Int}{us:List Value}{j:Nat}(r:aJ (ns.map V.int) us)(h:j<us.length):∃a,ns[j]? = some a/\a6 (.int a) us[j]:=by
 have hl:=r.length;rw[List.length_map]at hl;have hj:j<ns.length:=by omega
 obtain⟨u,e,q⟩:=r.get (i:=j) (x:=.int ns[j]) (by rw[List.getElem?_map,List.getElem?_eq_getElem hj];rfl);rw[List.getElem?_eq_getElem h]at e;cases e;exact⟨ns[j],List.getElem?_eq_getElem hj,q⟩
section
variable {X:Cx}
inductive Ib (K:W.Frag) (neg:Bool) (x:V) (y:V) (H:Hp) (Q:VK):Prop
 | mk:∀(p q:Addr) (ns ms:List Int),(x = .ref p)->(y = .ref q)->(SqT K H p (ns.map V.int))->(SqT K H q (ms.map V.int))->(Q (.bl (if neg then !decide (ns=ms) else decide (ns=ms))) H)->Ib K neg x y H Q
theorem oO{A:Around}{s:Shared}{ns ms:List Int}{us vs:List Value}(r:aJ (ns.map V.int) us)(r':aJ (ms.map V.int) vs)(j:Nat)(h1:j<us.toArray.size)(h2:j<vs.toArray.size) :
  SeqAt.EqAt A s us.toArray[j] vs.toArray[j] (decide (ns[j]? = ms[j]?)):=by
 rw[List.size_toArray]at h1 h2;obtain⟨a,ea,ra⟩:=tO r h1;obtain⟨b,eb,rb⟩:=tO r' h2;have q:=vo (A:=A) (s:=s) ra rb rfl rfl;have e:eqV (.int a) (.int b)=decide (ns[j]? = ms[j]?):=by
  rw[ea,eb];show(a == b)=decide (some a=some b);rw[Bool.eq_iff_iff];simp
 rw[e]at q;exact q
theorem ic(hu:X.A.units<cLine):OpR X (compareOp .Eq) (Ib X.K false):=by
 intro pins s σ H x y v u Q I rx ry h;obtain⟨p,q,ns,ms,rfl,rfl,hp,hq,k⟩:=h;cases rx;cases ry;obtain⟨its,r,pl,_⟩:=I.tuple hp;obtain⟨jts,r',pl',_⟩:=I.tuple hq;refine SeqAt.eq_tupleAt pl pl' hu (oO r r') ⟨.bl _,H,I,rfl,?_⟩;have e1:=r.length;have e2:=r'.length;rw[List.length_map]at e1 e2;rw[List.size_toArray,List.size_toArray,<- e1,<- e2,pK];exact k
theorem ja(hu:X.A.units<cLine):OpR X (compareOp .NotEq) (Ib X.K true):=by
 intro pins s σ H x y v u Q I rx ry h;obtain⟨p,q,ns,ms,rfl,rfl,hp,hq,k⟩:=h;cases rx;cases ry;obtain⟨its,r,pl,_⟩:=I.tuple hp;obtain⟨jts,r',pl',_⟩:=I.tuple hq;refine SeqAt.RcNeAt.tuples pl pl' hu (oO r r') _ _ _ _ ⟨.bl _,H,I,rfl,?_⟩;have e1:=r.length;have e2:=r'.length;rw[List.length_map]at e1 e2;rw[List.size_toArray,List.size_toArray,<- e1,<- e2,pK];exact k
end
theorem cJ.has{P:Program}{w:World}{H:Hp}{h:Heap}{a:Addr}{o:HO}(x:cJ P w H h a o):∃ob,h.get? a=some ob:=by
 cases o with
 | lst xs=>obtain⟨_,_,_,_,e⟩:=x;exact⟨_,e⟩
 | tup xs=>obtain⟨_,_,_,ob,e,_⟩:=x;exact⟨_,e⟩
 | dK kvs=>obtain⟨_,_,_,_,ob,_,_,e,_⟩:=x;exact⟨_,e⟩
 | dT kvs=>obtain⟨_,_,_,_,ob,_,_,e,_⟩:=x;exact⟨_,e⟩
 | set S n=>obtain⟨ob,_,_,_,e,_⟩:=x;exact⟨_,e⟩
 | ins C dx fs=>obtain⟨_,_,_,e,_⟩:=x;exact⟨_,e⟩
 | own y=>obtain⟨ob,e⟩:=x;exact⟨_,e⟩
 | xd fs=>obtain⟨_,⟨od,_,_,e,_⟩,_⟩:=x;exact⟨_,e⟩
 | rng lo hi=>obtain⟨_,_,_,e⟩:=x;exact⟨_,e⟩
 | frz ob u=>obtain⟨e,_⟩:=x;exact⟨_,e⟩
 | tbl ps=>exact⟨_,(show h.get? a=some _ from x)⟩
 | met f y=>exact⟨_,(show h.get? a=some _ from x)⟩
 | ext φ=>obtain⟨_,⟨ob,e⟩,_⟩:=x;exact⟨_,e⟩
structure IQ(B:Heap)(fs:List Addr)(H':Hp)(h:Heap):Prop where
 tr:∀b o,H' b=some o->∃ob,B.get? b=some ob
 old:∀b o,h.get? b=some o->b∉fs->∃ob,B.get? b=some ob
section
variable {P:Program} {w:World} {fs fs':List Addr} {H H1 H':Hp} {h h1 h2 B:Heap}
theorem Un.fly(un:Un fs [] H H' h h1)(big:IQ B fs H' h)(st1:B.StaysIn h1)(st2:B.StaysIn h2)(sl:h1.UpToSlots h2)
  (fr:∀b∈fs,H b=none/\∀o,h1.get? b=some o->∀vs,o.data≠.fields vs):Un fs [] H H' h h2 where
 keep:=λb o e n hb hx=>by
  have e1:=un.keep b o e n hb hx;obtain⟨ob,eb⟩:=big.old b o e hb;have e2:=st1 b ob eb;rw[e1]at e2;cases e2;exact st2 b _ eb
 slot:=λb o e n hb hx=>by
  obtain⟨s1,e1⟩:=un.slot b o e n hb hx;obtain⟨s2,e2⟩:=sl b _ e1 ((fr b hb).2 _ e1);exact⟨s2,e2⟩
 free:=un.free
 there:=λb o e hx=>by
  by_cases hb:b∈fs
  ·obtain⟨s1,e1⟩:=un.slot b o e (fr b hb).1 hb hx
   obtain⟨s2,e2⟩:=sl b _ e1 ((fr b hb).2 _ e1);exact⟨_,e2⟩
  ·obtain⟨ob,eb⟩:=big.old b o e hb
   exact⟨_,st2 b ob eb⟩
 tups:=un.tups
 frzs:=un.frzs
 tbls:=un.tbls
theorem HOk.fly(hok:HOk P w H' h1)(big:IQ B fs H' h)(st1:B.StaysIn h1)(st2:B.StaysIn h2):HOk P w H' h2:=λa o e=>by
 refine(hok a o e).stay (λb u hb q=>?_) (λ_ q=>q) λ_ _ q=>q;have hb':∃ob,B.get? b=some ob:=by
  rcases hb with z|z
  ·rw[z]
   exact big.tr a o e
  ·exact big.tr b _ z
 obtain⟨ob,eb⟩:=hb';have e2:=st1 b ob eb;rw[q]at e2;cases e2;exact st2 b _ eb
theorem Un.shed(a:Un fs [] H H1 h h1)(b:Un fs' [] H1 H' h1 h2)(sub:∀x∈fs,x∈fs')(out:∀x o,h.get? x=some o->x∈fs'->x∈fs):Un fs [] H H' h h2 where
 keep:=λx o e n hx hn=>b.keep x o (a.keep x o e n hx hn) (a.free x o e n hn) (λz=>hx (out x o e z)) hn
 slot:=λx o e n hx hn=>by
  obtain⟨s1,e1⟩:=a.slot x o e n hx hn;obtain⟨s2,e2⟩:=b.slot x _ e1 (a.free x o e n hn) (sub x hx) hn;exact⟨s2,e2⟩
 free:=λx o e n hn=>by
  obtain⟨o1,e1⟩:=a.there x o e hn;exact b.free x o1 e1 (a.free x o e n hn) hn
 there:=λx o e hn=>by
  obtain⟨o1,e1⟩:=a.there x o e hn;exact b.there x o1 e1 hn
 tups:=λx xs e=>b.tups x xs (a.tups x xs e)
 frzs:=λx o xs e=>b.frzs x o xs (a.frzs x o xs e)
 tbls:=λx ps e=>by
  obtain⟨m1,e1⟩:=a.tbls x ps e;obtain⟨m2,e2⟩:=b.tbls x _ e1;exact⟨m1++m2,by rw[e2,Array.append_assoc]⟩
end
noncomputable def Tr(base h:Heap)(e:Addr)(cls:Value)(g:Nat->Option Value)(fl:Value):Prop :=
 ∃oe vs T oT ts,h.get? e=some oe/\oe.cls=cls/\oe.data = .fields vs/\(∀i,i≠1->vs[i]? = g i)/\vs[1]? = some (.ref T)/\base.get? T=none/\T≠e/\h.get? T=some oT/\oT.data = .fields ts/\ts[3]? = some fl
noncomputable def Cn(h:Heap)(e:Addr):Prop:=∃oe vs,h.get? e=some oe/\oe.data = .fields vs/\vs[2]? = some .none
theorem Tr.w{base h:Heap}{e:Addr}{cls a0 fl:Value}{g:Nat->Option Value}(x:Tr base h e cls g fl)(h0:g 0=some a0):h.TracedAtW base e cls a0 fl:=by
 obtain⟨oe,vs,T,oT,ts,he,hc,hd,hg,r⟩:=x;exact⟨oe,vs,T,oT,ts,he,⟨hc,(hg 0 (by decide)).trans h0⟩,hd,r⟩
theorem Tr.of{base h:Heap}{e:Addr}{cls a0 fl:Value}(x:h.TracedAtW base e cls a0 fl):∃g,Tr base h e cls g fl/\g 0=some a0/\(Cn h e->g 2=some .none):=by
 obtain⟨oe,vs,T,oT,ts,he,⟨hc,h0⟩,hd,r⟩:=x;refine⟨λi=>vs[i]?,⟨oe,vs,T,oT,ts,he,hc,hd,λ_ _=>rfl,r⟩,h0,λ⟨o2,ws,h1,h2,h3⟩=>?_⟩;rw[he]at h1;cases h1;rw[hd]at h2;cases h2;exact h3
theorem Tr.cn{base h:Heap}{e:Addr}{cls fl:Value}{g:Nat->Option Value}(x:Tr base h e cls g fl)(h2:g 2=some .none):Cn h e:=by
 obtain⟨oe,vs,T,oT,ts,he,hc,hd,hg,r⟩:=x;exact⟨oe,vs,he,hd,(hg 2 (by decide)).trans h2⟩
section
variable {M:Model} {A:Around} {E:Value->Shared->Prop} {s:Shared} {base:Heap} {env:Env} {outer l:List Env} {L e:Addr} {cls:Value} {g:Nat->Option Value}
theorem ph{oe:Obj}{vs:Array Value}{head:Value}{hadNext:Bool}{Q:Unit->Shared->Prop}(hfr:A.frames=some (env::outer))(hf:env.frame=some L)(f1:base.StaysIn s.heap)(f2:base.get? e=none)(f3:s.heap.FunFrames base (env::outer))
  (he:s.heap.get? e=some oe) (hc:oe.cls=cls) (hd:oe.data = .fields vs) (hz:1<vs.size) (hg:∀i,i≠1->vs[i]? = g i)
  (hQ:∀h',base.StaysIn h'->h'.FunFrames base (env::outer)->Tr base h' e cls g (rawInt L)->s.heap.UpToSlots h'->Q () { s with heap:=h' }) :
  wpAny M A (do let a <- frameOf env;let pl <- entryPlaceOf L hadNext;let b <- EntryCells.newEntry head a .none (rawInt L) .none pl;setField (.ref e) 1 b) Q E s:=by
 have ne:e∉(env::outer).filterMap (·.frame):=λhm=>by
  obtain⟨_,o,ho,nf⟩:=f3.mem hm;rw[he]at ho;cases ho;exact nf vs hd
 refine wpAny_bind (wpAny_frameOf_fun hfr f3 hf λh1 so=>?_);refine wpAny_bind (wpAny_entryPlaceOf λpl hpl=>?_);unfold EntryCells.newEntry newFields;refine wpAny_bind (wpAny_newObj_type ?_ (hpl.sizeOk5 _ _ _ _ _));have e1:h1.get? e=some oe:=(so.2.1 e ne).trans he;have b1:base.StaysIn h1:=λb o hb=>(so.2.1 b λhm=>by rw[(f3.mem hm).1]at hb;cases hb).trans (f1 b o hb);generalize hT:(List.toArray ([head,Value.ref L,Value.none,rawInt L,Value.none]++if pl.isEmpty=true then List.replicate 6 Value.none else pl))=TT
 have t3:TT[3]? = some (rawInt L):=by
  rw[<- hT];rfl
 have e2:=Heap.get?_push_of_some (h:=h1) { cls:=.type "traceback",dict:=none,data:=.fields TT } e1;have nT:h1.objs.size≠e:=Nat.ne_of_gt (Heap.lt_size e1);have keep:∀b o,b≠e->h1.get? b=some o->((h1.push { cls:=.type "traceback",dict:=none,data:=.fields TT }).update e (Obj.mapFields (·.setIfInBounds 1 (Value.ref h1.objs.size)))).get? b=some o:=λb o hb eb=>(Heap.get?_update_other _ _ (Ne.symm hb)).trans (Heap.get?_push_of_some _ eb);have nr:∀b o,s.heap.get? b=some o->(∀ws,o.data≠.fields ws)->b≠e:=λb o hb nf q=>by
  rw[q,he]at hb;cases hb;exact nf vs hd
 refine wpAny_setField e2 hd hz (hQ _ ?_ ?_ ?_ ?_)
 ·exact λb o hb=>keep b o (λq=>by rw[q,f2]at hb;cases hb) (b1 b o hb)
 ·refine f3.of_keeps λb o hb nf=>?_
  obtain⟨sl,q⟩:=so.2.2 b o hb;exact⟨_,keep b _ (nr b o hb nf) q,rfl⟩
 ·have hd3:=Obj.data_mapFields hd (·.setIfInBounds 1 (Value.ref h1.objs.size))
  refine⟨_,_,h1.objs.size,_,_,Heap.get?_update_self (Obj.mapFields (·.setIfInBounds 1 (Value.ref h1.objs.size))) e2 (Obj.isFreed_of_fields hd3),(Obj.cls_mapFields _ _).trans hc,hd3,λi hi=>?_,by simp[hz],b1.fresh,nT,(Heap.get?_update_other _ _ (Ne.symm nT)).trans (Heap.get?_push_size h1 rfl),rfl,t3⟩;rw[Array.getElem?_setIfInBounds_ne (Ne.symm hi)];exact hg i hi
 ·intro b o hb nf
  obtain⟨sl,q⟩:=so.2.2 b o hb;exact⟨sl,keep b _ (nr b o hb nf) q⟩
theorem rj{Q:Unit->Shared->Prop}(hfr:A.frames=some (env::outer))(hf:env.frame=some L)(f1:base.StaysIn s.heap)(f2:base.get? e=none)(f3:s.heap.FunFrames base (env::outer))
  (f4:(∃oe vs,s.heap.get? e=some oe/\oe.cls=cls/\oe.data = .fields vs/\(∀i,i≠1->vs[i]? = g i)/\vs[1]? = some .none)\/∃fl,Tr base s.heap e cls g fl)
  (hQ:∀h',base.StaysIn h'->h'.FunFrames base (env::outer)->Tr base h' e cls g (rawInt L)->s.heap.UpToSlots h'->Q () { s with heap:=h' }):wpAny M A (noteFrame (.ref e) env) Q E s:=by
 unfold noteFrame;simp only[hf];rcases f4 with⟨oe,vs,he,hc,hd,hg,h1⟩|⟨fl,oe,vs,T,oT,ts,he,hc,hd,hg,h1,hn,hTe,hT,hdT,h3⟩
 ·refine wpAny_bind (wpAny_field he hd h1 ?_)
  rw[if_neg (by decide)];exact ph hfr hf f1 f2 f3 he hc hd (Array.getElem?_eq_some_iff.mp h1).1 hg hQ
 ·refine wpAny_bind (wpAny_field he hd h1 ?_)
  rw[if_pos (by simp)];refine wpAny_bind (wpAny_field hT hdT h3 ?_)
  by_cases c:(fl == rawInt L)=true
  ·rw[if_pos c]
   refine wpAny_pure (hQ s.heap f1 f3 ⟨oe,vs,T,oT,ts,he,hc,hd,hg,h1,hn,hTe,hT,hdT,?_⟩ (.refl _));rw[h3,eq_of_beq c]
  ·rw[if_neg c]
   refine wpAny_bind (wpAny_setField hT hdT (Array.getElem?_eq_some_iff.mp h3).1 ?_);have oth:∀b,b≠T->(s.heap.update T (Obj.mapFields (·.setIfInBounds 3 Value.none))).get? b=s.heap.get? b:=λb hb=>Heap.get?_update_other _ _ (Ne.symm hb);have nr:∀b o,s.heap.get? b=some o->(∀ws,o.data≠.fields ws)->b≠T:=λb o hb nf q=>by
    rw[q,hT]at hb;cases hb;exact nf ts hdT
   exact ph hfr hf (λb o hb=>(oth b λq=>by rw[q,hn]at hb;cases hb).trans (f1 b o hb)) f2 (f3.of_keeps λb o hb nf=>⟨o,(oth b (nr b o hb nf)).trans hb,rfl⟩) ((oth e (Ne.symm hTe)).trans he) hc hd (Array.getElem?_eq_some_iff.mp h1).1 hg
    λh' k1 k2 k3 k4=>hQ h' k1 k2 k3 λb o hb nf=>k4 b o ((oth b (nr b o hb nf)).trans hb) nf
theorem lY{fl:Value}{fr:Option Addr}{Q:Unit->Shared->Prop}(f1:base.StaysIn s.heap)(f3:s.heap.FunFrames base l)(f4:Tr base s.heap e cls g fl)
  (hQ:∀h',base.StaysIn h'->h'.FunFrames base l->Tr base h' e cls g (fr.elim Value.none λf=>rawInt f)->(∀b o,s.heap.get? b=some o->(∀vs,o.data≠.fields vs)->h'.get? b=some o)->Q () { s with heap:=h' }) :
  wpAny M A (setFlight (.ref e) fr) Q E s:=by
 obtain⟨oe,vs,T,oT,ts,he,hc,hd,hg,h1,hn,hTe,hT,hdT,h3⟩:=f4;have z3:3<ts.size:=(Array.getElem?_eq_some_iff.mp h3).1;have oth:∀b,b≠T->(s.heap.update T (Obj.mapFields (·.setIfInBounds 3 (fr.elim Value.none λf=>rawInt f)))).get? b=s.heap.get? b:=λb hb=>Heap.get?_update_other _ _ (Ne.symm hb);have nr:∀b o,s.heap.get? b=some o->(∀ws,o.data≠.fields ws)->b≠T:=λb o hb nf q=>by
  rw[q,hT]at hb;cases hb;exact nf ts hdT
 unfold setFlight;refine wpAny_bind (wpAny_field he hd h1 ?_);rw[if_pos (by simp)];refine wpAny_setField hT hdT z3 (hQ _ (λb o hb=>(oth b λq=>by rw[q,hn]at hb;cases hb).trans (f1 b o hb)) (f3.of_keeps λb o hb nf=>⟨o,(oth b (nr b o hb nf)).trans hb,rfl⟩) ?_ λb o hb nf=>(oth b (nr b o hb nf)).trans hb);exact⟨oe,vs,T,_,_,(oth e (Ne.symm hTe)).trans he,hc,hd,hg,h1,hn,hTe,Heap.get?_update_self _ hT (Obj.isFreed_of_fields (Obj.data_mapFields hdT _)),Obj.data_mapFields hdT _,by simp[z3]⟩
theorem kl{Q:Unit->Shared->Prop}(hfr:A.frames=some (env::outer))(hf:env.frame=some L)(f1:base.StaysIn s.heap)(f2:base.get? e=none)(f3:s.heap.FunFrames base (env::outer))
  (f4:(∃oe vs,s.heap.get? e=some oe/\oe.cls=cls/\oe.data = .fields vs/\(∀i,i≠1->vs[i]? = g i)/\vs[1]? = some .none)\/∃fl,Tr base s.heap e cls g fl)
  (hQ:∀h',base.StaysIn h'->h'.FunFrames base outer->Tr base h' e cls g .none->s.heap.UpToSlots h'->Q () { s with heap:=h' }):wpAny M A (leaving env (.ref e)) Q E s:=by
 unfold leaving;refine wpAny_bind (rj hfr hf f1 f2 f3 f4 λh1 k1 k2 k3 k4=>?_);refine lY (s:={ s with heap:=h1 }) k1 k2 k3 λh2 m1 m2 m3 m4=>hQ h2 m1 m2.2.2 m3 (k4.trans λb o hb nf=>⟨o.slots,m4 b o hb nf⟩)
theorem sQ{a0 fl:Value}{Q:Unit->Shared->Prop}(hfr:A.frames=some (env::outer))(hf:env.frame=some L)(f1:base.StaysIn s.heap)(f2:base.get? e=none)(f3:s.heap.FunFrames base (env::outer))(f4:s.heap.TracedAtW base e cls a0 fl)
  (hQ:∀h',Heap.FlyingW base outer e cls a0 h'->s.heap.UpToSlots h'->(Cn s.heap e->Cn h' e)->Q () { s with heap:=h' }):wpAny M A (leaving env (.ref e)) Q E s:=by
 obtain⟨g,t,g0,g2⟩:=Tr.of f4;exact kl hfr hf f1 f2 f3 (.inr ⟨_,t⟩) λh' k1 k2 k3 k4=>hQ h' ⟨k1,f2,k2,k3.w g0⟩ k4 λc=>k3.cn (g2 c)
end
noncomputable def CXE(P:Program)(w:World):CXT:=λouter H s E e s'=>∃(ea t:Addr) (cls:Value) (H':Hp) (B:Heap),
 e = .ref ea/\s'.os=s.os/\AllBare s'.gens/\Un (frs outer) [] H H' s.heap s'.heap/\HOk P w H' s'.heap/\Heap.FlyingW B outer ea cls (.ref t) s'.heap/\IQ B (frs outer) H' s.heap/\∃o,E cls o H'/\(o=none->Cn s'.heap ea)
section
variable {P:Program} {w:World} {K:W.Frag} {mg:Str->Option Value} {base:Heap} {N:List Str} {qual:Str} {scope:Scope} {f:Addr} {cdv:Value} {A:Around} {outer:List Env} {s₀:Shared} {H₀:Hp} {E:XK}
theorem oR{env:Env}{L:Addr}(hf:env.frame=some L)(l:List Env):frs (env::l)=L::frs l:=by
 unfold frs;rw[List.filterMap_cons,hf]
noncomputable abbrev jA(X:Cx)(h:Heap):Heap:=W.hideAll h (frs X.stack)
theorem yc{pins:List (Addr×Obj)}{σ:St}{H:Hp}{s:Shared}{h'':Heap}{e t:Addr}{cls:Value}{g:Nat->Option Value}{o:Option Addr}(I:Aj (aG (CXE P w) P w K mg base N qual scope f cdv A outer s₀ H₀ E) pins σ H s)
  (n:s.heap.get? e=none) (k1:(jA (aG (CXE P w) P w K mg base N qual scope f cdv A outer s₀ H₀ E) s.heap).StaysIn h'') (k2:h''.FunFrames (jA (aG (CXE P w) P w K mg base N qual scope f cdv A outer s₀ H₀ E) s.heap) outer) (k3:Tr (jA (aG (CXE P w) P w K mg base N qual scope f cdv A outer s₀ H₀ E) s.heap) h'' e cls g .none) (g0:g 0=some (.ref t)) (sl:s.heap.UpToSlots h'') (q:E cls o H) (g2:o=none->g 2=some .none):CXE P w outer H₀ s₀ E (.ref e) { s with heap:=h'' }:=by
 have neL:∀b o,s₀.heap.get? b=some o->b∉frs outer->b∉frs (aG (CXE P w) P w K mg base N qual scope f cdv A outer s₀ H₀ E).stack:=λb o eb hb hm=>by
  rcases List.mem_cons.mp (I.stkSub b hm) with z|z
  ·exact absurd z (Nat.ne_of_lt (Nat.lt_of_lt_of_le (Heap.lt_size eb) I.ok.above))
  ·exact hb z
 have big:IQ (jA (aG (CXE P w) P w K mg base N qual scope f cdv A outer s₀ H₀ E) s.heap) (frs outer) H s₀.heap:=by
  refine⟨λb o eb=>?_,λb o eb hb=>?_⟩
  ·obtain⟨ob,z⟩:=(I.hok b o eb).has
   refine⟨ob,W.hideAll_get _ z λhm=>?_⟩;rw[I.stkFree b hm]at eb;cases eb
  ·obtain⟨ob,z⟩:=I.base.there b o eb (by intro z;cases z)
   exact⟨ob,W.hideAll_get _ z (neL b o eb hb)⟩
 have st1:(jA (aG (CXE P w) P w K mg base N qual scope f cdv A outer s₀ H₀ E) s.heap).StaysIn s.heap:=λb o z=>W.of_hideAll _ z;have nb:(jA (aG (CXE P w) P w K mg base N qual scope f cdv A outer s₀ H₀ E) s.heap).get? e=none:=by
  cases z:(jA (aG (CXE P w) P w K mg base N qual scope f cdv A outer s₀ H₀ E) s.heap).get? e with
  | none=>rfl
  | some o =>
   rw[st1 e o z]at n;cases n
 exact⟨e,t,cls,H,_,rfl,I.os,I.bare,Un.fly I.base big st1 k1 sl λb hb=>⟨I.ok.frf b hb,λo eo=>by
   obtain⟨_,o',eo',nf⟩:=I.funs.mem hb;rw[eo]at eo';cases eo';exact nf⟩,HOk.fly I.hok big st1 k1,⟨k1,nb,k2,k3.w g0⟩,big,o,q,λz=>k3.cn (g2 z)⟩
theorem qz{pins:List (Addr×Obj)}{σ:St}{H:Hp}{s:Shared}(I:Aj (aG (CXE P w) P w K mg base N qual scope f cdv A outer s₀ H₀ E) pins σ H s):s.heap.FunFrames (jA (aG (CXE P w) P w K mg base N qual scope f cdv A outer s₀ H₀ E) s.heap) (aG (CXE P w) P w K mg base N qual scope f cdv A outer s₀ H₀ E).stack :=
 W.funFrames_hide I.stack λenv he a ha=>List.mem_filterMap.mpr ⟨env,he,ha⟩
theorem wI{X:Cx}{h:Heap}{e:Addr}(n:h.get? e=none):(jA X h).get? e=none:=by
 cases z:(jA X h).get? e with
 | none=>rfl
 | some o =>
  rw[W.of_hideAll _ z]at n;cases n
theorem xX{pins:List (Addr×Obj)}{σ:St}{H:Hp}{s:Shared}{h':Heap}{e:Addr}{cls:Value}{vs:List Value}(I:Aj (aG (CXE P w) P w K mg base N qual scope f cdv A outer s₀ H₀ E) pins σ H s)
  (hx:Heap.MadeExcOf s.heap h' e cls vs) (q:E cls none H):(aG (CXE P w) P w K mg base N qual scope f cdv A outer s₀ H₀ E).xe (.ref e) { s with heap:=h' }:=by
 obtain⟨t,ht,_,_⟩:=hx.there;have st1:(jA (aG (CXE P w) P w K mg base N qual scope f cdv A outer s₀ H₀ E) s.heap).StaysIn h':=λb o z=>hx.keeps b o (W.of_hideAll _ z);refine kl (s:={ s with heap:=h' }) (base:=jA (aG (CXE P w) P w K mg base N qual scope f cdv A outer s₀ H₀ E) s.heap) (L:=s₀.heap.objs.size) I.ok.frames rfl st1 (wI hx.new) ((qz I).of_keeps λb o z _=>⟨o,hx.keeps b o z,rfl⟩) (.inl ⟨_,_,ht,rfl,rfl,λ_ _=>rfl,rfl⟩) λh'' k1 k2 k3 k4=>?_;exact yc (s:=s) (h'':=h'') I hx.new k1 k2 k3 rfl ((Heap.UpToSlots.of_keeps hx.keeps).trans k4) q λ_=>rfl
theorem v9{E1:XK}(hE:∀c o H',E1 c o H'->E c o H'):kT (CXE P w) (aG (CXE P w) P w K mg base N qual scope f cdv A outer s₀ H₀ E) E1:=by
 intro pins σ H s e s' I h;obtain⟨ea,t,cls,H',B,rfl,os,bare,un,hok,fl,big,oq,q,cq⟩:=h;refine sQ (L:=s₀.heap.objs.size) I.ok.frames rfl fl.1 fl.2.1 fl.2.2.1 fl.2.2.2 λh'' fl' up cn=>?_;have out:∀x o,s₀.heap.get? x=some o->x∈frs (aG (CXE P w) P w K mg base N qual scope f cdv A outer s₀ H₀ E).stack->x∈frs outer:=λx o ex hm=>by
  rcases List.mem_cons.mp (I.stkSub x hm) with z|z
  ·exact absurd z (Nat.ne_of_lt (Nat.lt_of_lt_of_le (Heap.lt_size ex) I.ok.above))
  ·exact z
 have sub:∀x∈frs outer,x∈frs (aG (CXE P w) P w K mg base N qual scope f cdv A outer s₀ H₀ E).stack:=λx hx=>by
  show x∈frs (_::outer);rw[oR (L:=s₀.heap.objs.size) rfl];exact List.mem_cons_of_mem _ hx
 have un1:Un (frs outer) [] H₀ H' s₀.heap s'.heap:=Un.shed I.base un sub out;have big1:IQ B (frs outer) H' s₀.heap:=by
  refine⟨big.tr,λb o eb hb=>?_⟩;obtain⟨ob,z⟩:=I.base.there b o eb (by intro z;cases z);exact big.old b ob z λhm=>hb (out b o eb hm)
 refine⟨ea,t,cls,H',B,rfl,os.trans I.os,bare,Un.fly un1 big1 fl.1 fl'.1 up λb hb=>⟨I.ok.frf b hb,λo eo=>?_⟩,HOk.fly hok big1 fl.1 fl'.1,fl',big1,oq,hE _ _ _ q,λz=>cn (cq z)⟩;obtain⟨_,o',eo',nf⟩:=fl'.2.2.1.mem hb;obtain⟨_,o2,eo2,nf2⟩:=fl.2.2.1.mem (sub b hb);rw[eo]at eo2;cases eo2;exact nf2
end
structure Dz(K:W.Frag)(mg:Str->Option Value)(x:Str)(C:Addr):Prop where
 bound:mg x=some (.ref C)
 obj:∀h:Heap,K.In h->∃bm N nm qn bs hd sn sub ab col dd k0 k1 k2 k3 k5 mN,h.get? C=some (excClassObj nm qn C N bs bm hd sn sub ab col dd k0 k1 k2 k3 k5 "ValueError.__new__")/\h.Ns N mN/\mN "__init__" = none /\
  OwnTail h [.type "ValueError",.type "Exception",.type "BaseException",.type "object"] bm
theorem wW{K:W.Frag}{h:Heap}{C:Addr}{bmB:List Value}{newId:String}(X:K.In h)(q:W.excIn K C bmB newId=true) :
  ∃bm N nm qn bs hd sn sub ab col dd k0 k1 k2 k3 k5 mN,h.get? C=some (excClassObj nm qn C N bs bm hd sn sub ab col dd k0 k1 k2 k3 k5 newId)/\h.Ns N mN/\mN "__init__" = none/\OwnTail h bmB bm:=by
 unfold W.excIn at q
 split at q
 next dct cl sls look =>
  split at q
  next C2 bms a0 a1 a2 a3 nid a5 hmro hsls =>
   simp only[Bool.not_eq_true',beq_iff_eq,Bool.and_eq_true]at q;obtain⟨⟨⟨⟨⟨q1,q2⟩,q3⟩,q4⟩,q5⟩,q6⟩:=q;subst q1 q2;obtain⟨c1,c2,c3,c4,c5,c6,c7,c8,c9,c10,c11⟩:=cl;dsimp only at hmro q3 q5 q6;subst hmro q3;obtain⟨lst⟩:=sls;simp only at hsls;subst hsls;exact⟨bms,c4,c1,c5,c2,c6,c7,c8,c9,c10,dct,a0,a1,a2,a3,a5,_,X _ _ look,.of_isNs (W.isNs_of_in X q5),W.nsMap_none_of_in X q5 q6,W.tail_of_in X q4⟩
  next=>cases q
 next=>cases q
theorem yw{K:W.Frag}{mg:Str->Option Value}{h:Heap}{x:Str}{C:Addr}(X:K.In h)(G:h.Ns mainGlobals mg)(a:W.nsIn K mainGlobals x=some (some (.ref C)))
  (q:W.excIn K C [.type "ValueError",.type "Exception",.type "BaseException",.type "object"] "ValueError.__new__" = true):Dz K mg x C:=⟨W.mg_of X G a,λ_ Y=>wW Y q⟩
section
variable {P:Program} {w:World} {K:W.Frag} {mg:Str->Option Value} {base:Heap} {N:List Str} {qual:Str} {scope:Scope} {f:Addr} {cdv:Value} {A:Around} {outer:List Env} {s₀:Shared} {H₀:Hp} {E:XK}
theorem cB{x:Str}{C:Addr}{np cpos pos:Pos}(O:Dz K mg x C)(hg:Gl (aG (CXE P w) P w K mg base N qual scope f cdv A outer s₀ H₀ E) x)(hdb:(x == ("__debug__" : Str))=false:=by decide) :
  PS (aG (CXE P w) P w K mg base N qual scope f cdv A outer s₀ H₀ E) (.Raise (some (.Call (.Name x np) [] [] cpos)) none pos) (λ_ _ H=>E (.ref C) none H):=by
 intro pins s σ H D I h;obtain⟨bm,N',nm,qn,bs,hd,sn,sub,ab,col,dd,k0,k1,k2,k3,k5,mN,hC,hN,hni,T⟩:=O.obj s.heap I.kIn;refine wpAny_Raise_call_subT (C:=C) (nm:=nm) (q:=qn) (N:=N') (bs:=bs) (bm:=bm) (hdct:=hd) (sn:=sn) (sub:=sub) (ab:=ab) (col:=col) (dd:=dd) (k0:=k0) (k1:=k1) (k2:=k2) (k3:=k3) (k5:=k5) PySem.F.excBase_ValueError (mN:=mN) (T.hasType (by decide +kernel)) (I.ok.hd rfl) rfl hni (mP I hg O.bound ⟨rfl,?_⟩ hdb);exact evalArgs_empty ⟨rfl,Nat.zero_le _,hC,hN,T,λh' e hx=>xX I hx h⟩
end
structure Fx(P:Program)(w:World)(K:W.Frag)(mg:Str->Option Value)(base:Heap)(x:Str)(ps:List Str)(k:Nat)(ds:List V)(sp:Sp):Prop where
 ex:∃(f:Addr) (fd:FuncData) (its:List Value),mg x=some (.ref f)/\W.keepIn K (.ref f)=true/\kU K fd ps []/\kU K fd ps its/\aJ ds its/\Dw P w K mg base (CXE P w) k f fd ps sp
structure Hf(K:W.Frag)(mg:Str->Option Value)(x:Str)(st:Stmt)(ds:List V):Prop where
 ex:∃(f T:Addr) (oT:Obj) (n:Nat) (its:List Value) (oc:Value) (od:Option Addr) (kV doc pm:Value) (an:Option Addr) (cdv ct:Value) (osl:Array (Option Value)),
  mg x=some (.ref f)/\K.lookup f=some ⟨oc,od,.func (W.fnOf x x (aS st) (ax st) (ag st) (.ref T) kV doc pm an cdv ct),osl⟩/\W.codeIn K cdv x=true/\W.keepIn K (.ref f)=true/\K.lookup T=some oT/\oT.data = .seq its.toArray n/\aJ ds its
theorem yz{K:W.Frag}{mg:Str->Option Value}{h:Heap}{x:Str}{st:Stmt}{ds:List V}{its:List Value}{f T:Addr}{oT:Obj}{n:Nat}{oc:Value}{od an:Option Addr}{osl:Array (Option Value)}{kV doc pm cdv ct:Value}(X:K.In h)(G:h.Ns mainGlobals mg)
  (a:W.nsIn K mainGlobals x=some (some (.ref f))) (l:K.lookup f=some ⟨oc,od,.func (W.fnOf x x (aS st) (ax st) (ag st) (.ref T) kV doc pm an cdv ct),osl⟩) (c:W.codeIn K cdv x=true) (k:W.keepIn K (.ref f)=true)
  (t:K.lookup T=some oT) (d:oT.data = .seq its.toArray n) (v:aJ ds its):Hf K mg x st ds:=⟨⟨f,T,oT,n,its,oc,od,kV,doc,pm,an,cdv,ct,osl,W.mg_of X G a,l,c,k,t,d,v⟩⟩
theorem Hf.fx{P:Program}{w:World}{K:W.Frag}{mg:Str->Option Value}{base:Heap}{x:Str}{st:Stmt}{ds:List V}{N ps:List Str}{k:Nat}{sp:Sp}(D:Hf K mg x st ds)(S:Ah N ps (ag st))
  (hb:∀(T:Addr) (kV doc pm:Value) (an:Option Addr) (cdv ct:Value) (us its:List Value) (oT:Obj) (n:Nat) (s:Shared),aJ ds its->us.length=ps.length->s.heap.get? T=some oT->oT.data = .seq its.toArray n ->
   BindsTo s (W.fnOf x x (aS st) (ax st) (ag st) (.ref T) kV doc pm an cdv ct) ⟨us,[]⟩ (ps.zip us))
  (hd:∀(T:Addr) (kV doc pm:Value) (an:Option Addr) (cdv ct:Value) (us its:List Value) (oT:Obj) (n:Nat) (s:Shared),aJ ds its->(us++its).length=ps.length->s.heap.get? T=some oT->oT.data = .seq its.toArray n ->
   BindsTo s (W.fnOf x x (aS st) (ax st) (ag st) (.ref T) kV doc pm an cdv ct) ⟨us,[]⟩ (ps.zip (us++its)))
  (len:∀vs H Q E,sp vs H Q E->vs.length=ps.length)
  (hbody:∀(f:Addr) (cdv:Value) (A:Around) (outer:List Env) (s:Shared) (H:Hp) (vs:List V) (Q:VK) (E:XK),BA k (A.deeper (envOfC x (ag st) s.heap.objs.size f cdv))->sp vs H Q E ->
   ∃t,PSs (aG (CXE P w) P w K mg base N x (ag st) f cdv A outer s H E) (ax st) t/\t { nx:=λ_ H'=>Q .non H',rt:=Q } (fN N vs) H):Fx P w K mg base x ps (k+1) ds sp:=by
 obtain⟨f,T,oT,n,its,oc,od,kV,doc,pm,an,cdv,ct,osl,hm,lk,hcd,hk,hT,hs,hv⟩:=D.ex;refine⟨⟨f,_,its,hm,hk,λs us KX hl=>?_,λs us KX hl=>hd T kV doc pm an cdv ct us its oT n s hv hl (KX _ _ hT) hs,hv,rM lk hcd S len λA outer s H vs Q E hr hsp=>hbody f cdv A outer s H vs Q E hr hsp⟩⟩;rw[List.append_nil]at hl ⊢;exact hb T kV doc pm an cdv ct us its oT n s hv hl (KX _ _ hT) hs
theorem Df.fx{P:Program}{w:World}{K:W.Frag}{mg:Str->Option Value}{base:Heap}{x:Str}{st:Stmt}{N ps:List Str}{k:Nat}{sp:Sp}(D:Df K mg x st)(S:Ah N ps (ag st))
  (hbind:∀(kV doc pm:Value) (an:Option Addr) (cdv ct:Value) (us:List Value),us.length=ps.length->bindArgs (W.fnOf x x (aS st) (ax st) (ag st) .none kV doc pm an cdv ct) ⟨us,[]⟩=pure (ps.zip us))
  (len:∀vs H Q E,sp vs H Q E->vs.length=ps.length)
  (hbody:∀(f:Addr) (cdv:Value) (A:Around) (outer:List Env) (s:Shared) (H:Hp) (vs:List V) (Q:VK) (E:XK),BA k (A.deeper (envOfC x (ag st) s.heap.objs.size f cdv))->sp vs H Q E ->
   ∃t,PSs (aG (CXE P w) P w K mg base N x (ag st) f cdv A outer s H E) (ax st) t/\t { nx:=λ_ H'=>Q .non H',rt:=Q } (fN N vs) H):Fx P w K mg base x ps (k+1) [] sp:=by
 obtain⟨f,oc,od,kV,doc,pm,an,cdv,ct,osl,hm,lk,hcd,hk⟩:=D.ex;have hb:kU K (W.fnOf x x (aS st) (ax st) (ag st) .none kV doc pm an cdv ct) ps []:=.all (hbind kV doc pm an cdv ct);exact⟨⟨f,_,[],hm,hk,hb,hb,.nil,rM lk hcd S len λA outer s H vs Q E hr hsp=>hbody f cdv A outer s H vs Q E hr hsp⟩⟩
theorem dj{P:Program}{w:World}{K:W.Frag}{mg:Str->Option Value}{base:Heap}{N:List Str}{qual:Str}{scope:Scope}{f:Addr}{cdv:Value}{A:Around}{outer:List Env}{s₀:Shared}{H₀:Hp}{E:XK}
  {x:Str} {ps:List Str} {k:Nat} {ds:List V} {sp:Sp} {p pos:Pos} {e:Expr} {es:List Expr} {t:TA} (F:Fx P w K mg base x ps k ds sp) (hr:BA k (aG (CXE P w) P w K mg base N qual scope f cdv A outer s₀ H₀ E).A) (hg:Gl (aG (CXE P w) P w K mg base N qual scope f cdv A outer s₀ H₀ E) x)
  (ha:PA (aG (CXE P w) P w K mg base N qual scope f cdv A outer s₀ H₀ E) (e::es) t)
  (hdb:(x == ("__debug__" : Str))=false:=by decide) (he:starEach (e::es) (aG (CXE P w) P w K mg base N qual scope f cdv A outer s₀ H₀ E).env=(false,eval e (aG (CXE P w) P w K mg base N qual scope f cdv A outer s₀ H₀ E).env)::starEach es (aG (CXE P w) P w K mg base N qual scope f cdv A outer s₀ H₀ E).env:=by rfl)
  (hpl:(backTo pos (starEach es (aG (CXE P w) P w K mg base N qual scope f cdv A outer s₀ H₀ E).env)).any (·.1)=false:=by rfl) :
  PE (aG (CXE P w) P w K mg base N qual scope f cdv A outer s₀ H₀ E) (.Call (.Name x p) (e::es) [] pos) (fL sp [] E t):=by
 obtain⟨g,fd,its,hm,hk,hb,_,_,G⟩:=F.ex;exact iy G hr hg hm hk hb .nil (v9 λ_ _ _ z=>z) ha hdb he hpl
theorem lM{P:Program}{w:World}{X:Cx}:kT (CXE P w) X E0:=λ_ _ _ _ _ _ _ h=>by
 obtain⟨_,_,_,_,_,_,_,_,_,_,_,_,_,q,_⟩:=h;exact q.elim
theorem bZ{X:Cx}{x:Str}{ps:List Str}{k:Nat}{ds:List V}{sp:Sp}{p pos:Pos}{e:Expr}{es:List Expr}{t:TA}(F:Fx X.prog X.w X.K X.mg X.base x ps k ds sp)(hr:BA k X.A)(hg:Gl X x)(ha:PA X (e::es) t)
  (hdb:(x == ("__debug__" : Str))=false:=by decide) (he:starEach (e::es) X.env=(false,eval e X.env)::starEach es X.env:=by rfl) (hpl:(backTo pos (starEach es X.env)).any (·.1)=false:=by rfl) :
  PE X (.Call (.Name x p) (e::es) [] pos) (fL sp [] E0 t):=by
 obtain⟨g,fd,its,hm,hk,hb,_,_,G⟩:=F.ex;exact iy G hr hg hm hk hb .nil lM ha hdb he hpl
theorem v5{X:Cx}{x:Str}{ps:List Str}{k:Nat}{ds:List V}{sp:Sp}{p pos:Pos}{e:Expr}{es:List Expr}{t:TA}(F:Fx X.prog X.w X.K X.mg X.base x ps k ds sp)(hr:BA k X.A)(hg:Gl X x)(ha:PA X (e::es) t)
  (hdb:(x == ("__debug__" : Str))=false:=by decide) (he:starEach (e::es) X.env=(false,eval e X.env)::starEach es X.env:=by rfl) (hpl:(backTo pos (starEach es X.env)).any (·.1)=false:=by rfl) :
  PE X (.Call (.Name x p) (e::es) [] pos) (fL sp ds E0 t):=by
 obtain⟨g,fd,its,hm,hk,_,hb,hv,G⟩:=F.ex;exact iy G hr hg hm hk hb hv lM ha hdb he hpl
end L2
namespace Sp2
open PySem PySem.Spec L2 Mth Sp1
noncomputable def qc(n:Int):List V->Bool
 | [.int a,.int b]=>kh a b && (decide (0<=a) && decide (a<=n*b))
 | _=>false
noncomputable def aN(n:Int)(H:Hp):V->Bool
 | .ref p=>match H p with
  | some (.tup xs)=>qc n xs
  | _=>false
 | _=>false
theorem oG{H:Hp}{x:V}(h:iC H x=true):∃p a b,x = .ref p/\H p=some (.tup [.int a,.int b])/\Bg a b:=by
 unfold iC at h
 split at h
 ·split at h
  ·rename_i p _ xs e
   unfold kY at h
   split at h
   ·rename_i a b
    unfold kh at h;rw[Bool.and_eq_true,decide_eq_true_eq,decide_eq_true_eq]at h;exact⟨p,a,b,rfl,e,h.1,h.2⟩
   ·cases h
  ·cases h
 ·cases h
theorem dP{n:Int}{H:Hp}{p:Addr}{a b:Int}(e:H p=some (.tup [.int a,.int b])):aN n H (.ref p)=(kh a b && (decide (0<=a) && decide (a<=n*b))):=by
 simp only[aN,e,qc]
theorem kg{H:Hp}{p:Addr}{a b:Int}(e:H p=some (.tup [.int a,.int b])):iC H (.ref p)=kh a b:=by
 simp only[iC,e,kY]
theorem j6{n:Int}{H:Hp}{x:V}(h:iC H x=false):aN n H x=false:=by
 unfold aN
 split
 ·split
  ·rename_i p _ xs e
   unfold qc
   split
   ·rename_i a b
    rw[kg e]at h;rw[h,Bool.false_and]
   ·rfl
  ·rfl
 ·rfl
theorem oF{a b:Int}(h:Bg a b):kh a b=true:=by
 unfold kh;rw[decide_eq_true h.pos,decide_eq_true h.one];rfl
theorem gE{n:Int}{H:Hp}{p:Addr}{a b:Int}(e:H p=some (.tup [.int a,.int b]))(h:Bg a b)(h0:0<=a)(h1:a<=n*b):aN n H (.ref p)=true:=by
 rw[dP e,oF h,decide_eq_true h0,decide_eq_true h1];rfl
theorem ia{n:Int}{H:Hp}{x:V}(h:aN n H x=true):∃p a b,x = .ref p/\H p=some (.tup [.int a,.int b])/\Bg a b/\0<=a/\a<=n*b:=by
 cases hl:iC H x with
 | false =>
  rw[j6 hl]at h;cases h
 | true =>
  obtain⟨p,a,b,rfl,e,lw⟩:=oG hl;rw[dP e,oF lw,Bool.true_and,Bool.and_eq_true,decide_eq_true_eq,decide_eq_true_eq]at h;exact⟨p,a,b,rfl,e,lw,h.1,h.2⟩
inductive DF (vs:List V) (H:Hp) (Q:VK) (x_3:XK):Prop
 | mk:∀(p:Addr) (xs:List V),(vs = [.ref p])->(H p=some (.lst xs))->(Q (.int ((xs.length:Int) - 1)) H)->DF vs H Q x_3
inductive C6 (vs:List V) (H:Hp) (Q:VK) (x_3:XK):Prop
 | mk:∀(p:Addr) (xs:List V) (x:V),(vs = [.ref p,x])->(H p=some (.lst xs))->(xs.length<=100)->(AN H x)->(Q (.bl (aN ((xs.length:Int) - 1) H x)) H)->C6 vs H Q x_3
inductive Gx (C:Addr) (vs:List V) (H:Hp) (Q:VK) (E:XK):Prop
 | mk:∀(p:Addr) (xs:List V) (x:V),(vs = [.ref p,x])->(H p=some (.lst xs))->(xs.length<=100)->(AN H x)->((aN ((xs.length:Int) - 1) H x=false->E (.ref C) none H))->((aN ((xs.length:Int) - 1) H x=true->Q .non H))->Gx C vs H Q E
noncomputable def aK(a b c d:Int):Bool:=if c*b<a*d then !decide ((c / d+1)*b<a*1) else !decide ((a / b+1)*d<c*1)
structure C7(a b:Int):Prop where
 pos:0<b
 ba:au a<=1000
 bb:au b<=1000
inductive Do (vs:List V) (H:Hp) (Q:VK) (x_3:XK):Prop
 | mk:∀(p q:Addr) (a b c d:Int),(vs = [.ref p,.ref q])->(H p=some (.tup [.int a,.int b]))->(H q=some (.tup [.int c,.int d]))->(C7 a b)->(C7 c d)->(∀H',Same H H'->Q (.bl (aK a b c d)) H')->Do vs H Q x_3
structure At(H:Hp)(l:Addr)(qs:List (Addr×Int×Int)):Prop where
 lst:H l=some (.lst (qs.map λq=>V.ref q.1))
 crn:∀q∈qs,H q.1=some (.tup [.int q.2.1,.int q.2.2])/\au q.2.1<=50/\au q.2.2<=50
theorem At.mono{H H':Hp}{l:Addr}{qs:List (Addr×Int×Int)}(L:At H l qs)(s:Same H H'):At H' l qs:=⟨s _ _ L.lst,λq h=>⟨s _ _ (L.crn q h).1,(L.crn q h).2⟩⟩
theorem xw{n:Int}(h0:-1000<=n)(h1:n<=1000):-(2^64)<n/\n<2^64:=by
 have e:(2:Int)^64=18446744073709551616:=by decide
 rw[e];omega
theorem vL{ns:List Int}{k:Int}(j:Nat)(e:k=(j:Int))(h:j<ns.length):atI (ns.map V.int) k=some (.int ns[j]):=by
 subst e;exact eE (by rw[List.getElem?_map,List.getElem?_eq_getElem h];rfl)
theorem se(x:V)(xs:List V):atI (x::xs) 0=some x:=eE (j:=0) rfl
theorem vw{ns:List Int}(k:Nat):jp (ns.map V.int) (some (k:Int)) none=(ns.drop k).map V.int:=by
 unfold jp;rw[HT.sIx_nat,HT.sIx_none,List.length_map,<- List.map_drop]
 by_cases h:k<=ns.length
 ·rw[Nat.min_eq_left h,List.take_of_length_le (by rw[List.length_map,List.length_drop];exact Nat.le_refl _)]
 ·rw[Nat.min_eq_right (by omega),List.drop_eq_nil_of_le (Nat.le_refl _),List.drop_eq_nil_of_le (by omega)]
  simp
theorem bi{n:Int}(h0:-1000<=n)(h1:n<=1000):au n<=10:=by
 refine dF (n:=10) ?_;show _<1024;omega
theorem ck{a b:Int}(hb:0<b):a / b*b<=a:=by
 have h1:=Int.emod_nonneg a (show b≠0 by omega);have h2:=Int.emod_add_mul_ediv a b;rw[Int.mul_comm]at h2;omega
theorem cH{a b:Int}(hb:0<b):a<(a / b+1)*b:=by
 have h1:=Int.emod_lt_of_pos a hb;have h2:=Int.emod_add_mul_ediv a b;rw[Int.add_mul,Int.one_mul,Int.mul_comm];omega
theorem vg{a b k:Int}(hb:0<b)(h:k*b<=a):k<=a / b:=(Int.le_ediv_iff_mul_le hb).mpr h
theorem gi{a b:Int}(hb:0<b)(h:0<=a):0<=a / b:=Int.ediv_nonneg h (by omega)
end Sp2
namespace L2
open PySem PySem.Spec PyProof.Rows
noncomputable abbrev Cx.blk(X:Cx)(N':List Str)(scope:Scope)(cl:List (Str×Addr))(fp:List Addr)(s₀:Shared)(H₀:Hp):Cx :=
 { X with N:=N',s₀:=s₀,H₀:=H₀,env:=compEnvC scope cl s₀.heap.objs.size X.env,outer:=X.stack,ex:=fp,fn:=λ_=>false,pn:=[],xe:=λ_ _=>False }
theorem cg{α:Type}{y:Str}{c:α}:∀{l:List (Str×α)},l.lookup y=some c->(y,c)∈l
 | [],h=>by simp at h
 | (n,d)::r,h=>by
  rw[List.lookup_cons]at h;cases e:y == n with
  | true =>
   rw[e]at h;cases h;rw[beq_iff_eq.mp e];exact List.mem_cons_self
  | false =>
   rw[e]at h;exact List.mem_cons_of_mem _ (cg h)
structure Bd(X:Cx)(scope:Scope)(cl:List (Str×Addr))(x:Str)(fv:List (Str×Nat)):Prop where
 clos:closureFor scope X.env=pure cl
 kind:scope.kind = .function
 cell:∀y∈scope.names,y.2≠.cell
 names:∀y∈scope.names,y.2 = .local->scope.names.lookup y.1=some .local
 own:scope.names.lookup x=some .local
 cells:∀p∈cl,X.env.cells.lookup p.1=some p.2
 has:((relabel scope X.env).names.all λq=>!(q.2 == .cell || q.2 == .free) || (cl.lookup q.1).isSome)=true
 nd:(x::fv.map (·.1)).Nodup
 slot:∀p∈fv,X.N[p.2]? = some p.1/\X.env.kindOf p.1=some .cell/\Vis X.env.scope p.1/\(cl.lookup p.1).isSome=true/\((relabel scope X.env).names.lookup p.1=some .cell)
 stk:X.stack=X.env::X.outer/\X.env.frame=some X.env.locals
 noex:X.ex = []
noncomputable def fvs(fv:List (Str×Nat))(σ:St):St:=fv.map λp=>(σ[p.2]?).join
noncomputable def xm(wi:TI)(fv:List (Str×Nat))(te:TE):TE:=λσ H Q=>wi σ H λJ H1=>∀p,H1 p=none->∃W:Nat->Nat->List V->Hp->Prop,(∃m,W 0 m [] (upd H1 p (.lst [])))/\∀i m acc H2,W i m acc H2 ->
 H2 p=some (.lst acc)/\acc.length<sizeLine/\((J.stop i H2/\Q (.ref p) H2)\/(J.go i H2/\∀x H3,J.yld i H2 x H3->te (some x::fvs fv σ) H3 λy H4=>H4 p=some (.lst acc)/\∃m',m'<m/\W (i+1) m' (acc++[y]) (upd H4 p (.lst (acc++[y])))))
section
variable {X:Cx} {scope:Scope} {cl:List (Str×Addr)} {x:Str} {fv:List (Str×Nat)} {elt iter:Expr} {px pos:Pos} {te:TE}
theorem yE{pins:List (Addr×Obj)}{σ:St}{H:Hp}{s:Shared}{fp:List Addr}(C:Bd X scope cl x fv)(I:Aj X pins σ H s)(hf:∀b∈fp,ee X pins H b)(ho:∀b∈fp,b<s.heap.objs.size):(X.blk (x::fv.map (·.1)) scope cl fp s H).Ok:=by
 have hcl:∀y c,cl.lookup y=some c->X.env.cells.lookup y=some c:=λy c h=>C.cells _ (cg h);have old:∀b∈fp,X.s₀.heap.objs.size<=b:=λb hb=>by
  rcases(hf b hb).2.2.2.1 with z|z
  ·rw[C.noex]at z
   cases z
  ·exact z
 refine⟨I.ok.mod,by show(relabel scope X.env).kind=_;exact C.kind,I.ok.glob,I.ok.blt,Nat.le_refl _,λy z c h1 h2=>I.ok.inj y z c (hcl y c h1) (hcl z c h2),λy hy=>?_,(λy c h=>by cases h),I.ok.hd,I.ok.frames,.inl rfl,λb hb=>?_,λb o e=>I.bs b o e,Nat.le_trans I.ok.bsz I.sz,λb o e hb=>?_,λb hb hm=>?_,I.stack,I.stkFree⟩
 ·have q:=C.has
  rw[List.all_eq_true]at q;have hm:∃k,(y,k)∈(relabel scope X.env).names/\(k = .cell\/k = .free):=by
   rcases hy with hy|hy
   ·exact⟨_,cg hy,.inl rfl⟩
   ·exact⟨_,cg hy,.inr rfl⟩
  obtain⟨k,hk,hk2⟩:=hm;have q2:=q _ hk;have q3:(cl.lookup y).isSome=true:=by
   rcases hk2 with rfl|rfl
   ·simpa using q2
   ·simpa using q2
  exact Option.isSome_iff_exists.mp q3
 ·obtain⟨f0,f1,f2,f3,f4,f5⟩:=hf b hb
  refine⟨?_,λy c h=>f4 y c (hcl y c h)⟩;exact Nat.ne_of_lt (ho b hb)
 ·have z:=Heap.lt_size e
  have z2:=old b hb;exact absurd (Nat.lt_of_lt_of_le z (Nat.le_trans I.ok.bsz z2)) (Nat.lt_irrefl _)
 ·obtain⟨f0,f1,f2,f3,f4,f5⟩:=hf b hb
  rcases List.mem_cons.mp (I.stkSub b hm) with z|z
  ·exact f1 z
  ·exact f2 z
theorem sd{pins:List (Addr×Obj)}{σ:St}{H:Hp}{s s4:Shared}{fp:List Addr}(C:Bd X scope cl x fv)(I:Aj X pins σ H s)(hf:∀b∈fp,ee X pins H b)(ho:∀b∈fp,b<s.heap.objs.size)
  (hs:s4.os=s.os/\s4.gens=s.gens) (ns:s4.heap.Ns s.heap.objs.size λ_=>none) (kp:∀b o,s.heap.get? b=some o->s4.heap.get? b=some o) :
  Aj (X.blk (x::fv.map (·.1)) scope cl fp s H) [] (none::fvs fv σ) H s4:=by
 have hcl:∀y c,cl.lookup y=some c->X.env.cells.lookup y=some c:=λy c h=>C.cells _ (cg h);refine⟨yE C I hf ho,hs.1,by rw[hs.2];exact I.bare,Un.kept kp,⟨_,ns,λi y v e1 e2 e3=>?_⟩,λy c h=>?_,I.hok.fresh (Nat.le_refl _),λy c h=>I.freeC y c (hcl y c h),λp hp=>by simp at hp,I.hok.kept kp,by simp[fvs]⟩
 ·cases i with
  | zero=>simp at e2
  | succ j =>
   have e1':(fv.map (·.1))[j]? = some y:=by simpa using e1
   have e2':(fvs fv σ)[j]? = some (some v):=by simpa using e2
   rw[List.getElem?_map]at e1';unfold fvs at e2';rw[List.getElem?_map]at e2';cases hq:fv[j]? with
   | none =>
    rw[hq]at e1';cases e1'
   | some q =>
    rw[hq]at e1' e2';have ey:q.1=y:=Option.some.inj e1';have ev:(σ[q.2]?).join=some v:=Option.some.inj e2';have hm:q∈fv:=List.mem_of_getElem? hq;obtain⟨s1,s2,s3,s4',s5⟩:=C.slot q hm;have ev2:σ[q.2]? = some (some v):=by
     cases hz:σ[q.2]? with
     | none =>
      rw[hz]at ev;cases ev
     | some z =>
      rw[hz]at ev;have ev':z=some v:=ev;rw[ev']
    obtain⟨m,hn,hl⟩:=I.loc;obtain⟨u,r,lk⟩:=hl q.2 q.1 v s1 ev2 s3;obtain⟨c,hc⟩:=Option.isSome_iff_exists.mp s4';refine⟨u,r,.inr ⟨.inl (by rw[<- ey];exact s5),c,by rw[<- ey];exact hc,?_⟩⟩;rcases lk with⟨k,_⟩|⟨_,c',hc',z⟩
    ·rw[s2]at k
     cases k
    ·rw[hcl _ _ hc]at hc'
     cases hc';obtain⟨o,ho',hd⟩:=z;exact⟨o,kp _ _ ho',hd⟩
 ·obtain⟨v,o,ho',hd⟩:=I.cell y c (hcl y c h)
  exact⟨v,o,kp _ _ ho',hd⟩
theorem rZ{pins:List (Addr×Obj)}{σ:St}{H2:Hp}{s2:Shared}{it:Addr}{fp:List Addr}{tn:Nat->Heap->Prop}{J:It}{RR:Value->Addr->Result->Shared->Prop}{E:Value->Shared->Prop}{Qf:V->Hp->Prop}
  (hcalm:X.calm=true) (C:Bd X scope cl x fv) (I2:Aj X pins σ H2 s2) (T:Fr X.prog X.w X.K (.Name x px) J fp it tn) (st:tn 0 s2.heap) (f2:∀b∈fp,ee X pins H2 b)
  (rd:∀p,H2 p=none->∃W:Nat->Nat->List V->Hp->Prop,(∃m,W 0 m [] (upd H2 p (.lst [])))/\∀i m acc H2,W i m acc H2 ->
   H2 p=some (.lst acc)/\acc.length<sizeLine/\((J.stop i H2/\Qf (.ref p) H2)\/(J.go i H2/\∀x H3,J.yld i H2 x H3->te (some x::fvs fv σ) H3 λy H4=>H4 p=some (.lst acc)/\∃m',m'<m/\W (i+1) m' (acc++[y]) (upd H4 p (.lst (acc++[y]))))))
  (he:∀(s₀:Shared) (H₀:Hp),PE (X.blk (x::fv.map (·.1)) scope cl fp s₀ H₀) elt te)
  (hRR:∀(p C:Addr) (H':Hp) (s':Shared),(∃m,s'.heap.Ns C m)->C≠X.env.locals->H' C=none->X.s₀.heap.objs.size<=C->(∀y c,X.env.cells.lookup y=some c->c≠C)->(∀q∈X.pn++pins,q.1≠C)->Aj X pins σ H' s'->Qf (.ref p) H'->RR (.ref p) C (.ok .next) s') :
  wpAny (model X.prog X.w) X.A (newList []) (λacc s₃=>wpAny (model X.prog X.w) X.A (newFunctionEnv scope X.env.globals cl [] X.env.qual none .none (some X.env)) (λcenv s₄ =>
   codeAny (model X.prog X.w) X.A (.compStart (.ListComp elt [⟨.Name x px,iter,[],0⟩] scope pos) 0 (.ref it) acc { cenv with scope:=relabel scope X.env }) (RR acc cenv.locals) s₄) E s₃) E s2:=by
 refine wpAny_newObj_type ?_;have hfresh:=I2.fresh;have I3:Aj X pins σ (upd H2 s2.heap.objs.size (.lst [])) { s2 with heap:=s2.heap.push { cls:=.type "list",data:=.seq ([]:List Value).toArray } } :=
  I2.laid (t':=s2.toks) (λb u q=>Heap.get?_push_of_some _ q) (Nat.le_refl _) ⟨Nat.zero_le _,[],0,.nil,Heap.get?_push_size _ rfl⟩
 generalize hs3:({ s2 with heap:=s2.heap.push { cls:=.type "list",data:=.seq ([]:List Value).toArray } }:Shared)=s3 at I3 ⊢;have hp3:s2.heap.objs.size<s3.heap.objs.size:=by rw[<- hs3];exact Nat.lt_of_lt_of_le (Nat.lt_succ_self _) (Nat.le_of_eq (Heap.size_push _ _).symm)
 have k23:∀b o,s2.heap.get? b=some o->s3.heap.get? b=some o:=λb o e=>by rw[<- hs3];exact Heap.get?_push_of_some _ e
 have fpo:∀b∈fp,b<s2.heap.objs.size:=λb hb=>by
  obtain⟨o,e,_⟩:=T.obj 0 _ st b hb;exact Heap.lt_size e
 have f3:∀b∈fp,ee X pins (upd H2 s2.heap.objs.size (.lst [])) b:=λb hb=>⟨by rw[aP (Nat.ne_of_lt (fpo b hb))];exact(f2 b hb).1,(f2 b hb).2⟩;refine wpAny_newFunctionEnv C.cell (by intro y hy;simp at hy) (λh1 hns1 hsb1=>?_) C.kind;have kp:∀b o,s3.heap.get? b=some o->h1.get? b=some o:=λb o e=>(hsb1.2 b (Nat.ne_of_lt (Heap.lt_size e))).trans (Heap.get?_push_of_some _ e);have I4:=sd (s4:={ s3 with heap:=h1,toks:=s3.toks+([]:List (Str×Value)).length }) C I3 f3 (λb hb=>Nat.lt_trans (fpo b hb) hp3) ⟨rfl,rfl⟩ hns1 kp;have st4:tn 0 h1:=T.keep 0 _ _ st λb _ o e=>kp b o (k23 b o e);obtain⟨W,⟨m0,w0⟩,step⟩:=rd _ hfresh;have loop:codeAny (model X.prog X.w) X.A (.compLoop (.ListComp elt [⟨.Name x px,iter,[],0⟩] scope pos) 0 (.ref it) (.ref s2.heap.objs.size) (compEnvC scope cl s3.heap.objs.size X.env)) (RR (.ref s2.heap.objs.size) s3.heap.objs.size)
   { s3 with heap:=h1,toks:=s3.toks+([]:List (Str×Value)).length }:=by
  refine codeAny_compLoop_list (λn s=>∃i acc σv H',Aj (X.blk (x::fv.map (·.1)) scope cl fp s3 (upd H2 s2.heap.objs.size (.lst []))) [] (σv::fvs fv σ) H' s/\tn i s.heap/\(∀b∈fp,H' b=none)/\W i n acc H') ?_ m0 ⟨0,[],none,_,I4,st4,λb hb=>(f3 b hb).1,w0⟩;rintro n s ⟨i,acc,σv,H',I',st',fr',w'⟩;obtain⟨hp,hlen,alt⟩:=step i n acc H' w';have fpk:∀{H5:Hp},(∀b∈fp,H5 b=none)->∀b∈fp,ee (X.blk (x::fv.map (·.1)) scope cl fp s3 (upd H2 s2.heap.objs.size (.lst []))) [] H5 b:=λh5 b hb =>
   ⟨h5 b hb,(I'.ok.exf b hb).1,I'.ok.exfs b hb,.inl hb,λy c e=>(I'.ok.exf b hb).2 y c e,λq hq=>by simp at hq⟩
  rcases alt with⟨stop,qf⟩|⟨go,turn⟩
  ·refine wpAny_mono (T.done (X.blk (x::fv.map (·.1)) scope cl fp s3 (upd H2 s2.heap.objs.size (.lst []))) rfl rfl rfl hcalm i [] s _ H' (λ_ _=>False) I' (fpk fr') st' stop) (λr s5 ⟨hr,I5⟩=>?_) λ_ _ z=>False.elim z
   subst hr;refine hRR _ _ H' s5 (let ⟨m,hn,_⟩:=I5.loc;⟨m,hn⟩) (Nat.ne_of_gt I3.lt) I5.free I3.sz (λy c e=>?_) (λq hq=>?_) ?_ qf
   ·obtain⟨v,z⟩:=I3.cell y c e
    exact Nat.ne_of_lt z.lt
   ·exact Nat.ne_of_lt (Heap.lt_size (I3.pin q hq).1)
   ·exact I3.call' (s':=s5) (ch:=fp) I5.os I5.base I5.hok I5.bare λb hb=>⟨(f2 b hb).2.2.2.1,(f2 b hb).2.1,(f2 b hb).2.2.2.2.1,(f2 b hb).2.2.2.2.2⟩
  ·refine wpAny_mono (T.item (X.blk (x::fv.map (·.1)) scope cl fp s3 (upd H2 s2.heap.objs.size (.lst []))) rfl rfl rfl hcalm i [] s _ H' (λ_ _=>False) I' (fpk fr') st' go) (λr s5 ⟨u,hr,h5⟩=>?_) λ_ _ z=>False.elim z
   subst hr;have e5:assign (.Name x px) (compEnvC scope cl s3.heap.objs.size X.env) u=(letOwnedTupleGo (.Name x px) (.ref it) u >>= λ_=>assign (.Name x px) (compEnvC scope cl s3.heap.objs.size X.env) u):=by
    rw[show letOwnedTupleGo (.Name x px) (.ref it) u=pure () from rfl];rfl
   show wpAny _ _ (assign (.Name x px) (compEnvC scope cl s3.heap.objs.size X.env) u) _ _ _;rw[e5];refine wpAny_bind (wpAny_mono h5 (λ_ s6 ⟨y,H6,I6,r6,y6,st6,fr6⟩=>?_) λ_ _ z=>False.elim z);have I6':=I6.pinned (fpk fr6) (T.obj _ _ st6);have lx:(relabel scope X.env).names.lookup x=some .local:=lookup_relabel_local C.own;refine wpAny_mono (aZ (X:=X.blk (x::fv.map (·.1)) scope cl fp s3 (upd H2 s2.heap.objs.size (.lst []))) (i:=0) C.nd rfl (.inl lx) (.inr lx) _ s6 _ H6 y u (λσ7 H7=>σ7=some y::fvs fv σ/\H7=H6) I6' r6 ⟨rfl,rfl⟩) (λ_ s7 ⟨σ7,H7,I7,e7,e7'⟩=>?_) λ_ _ z=>False.elim z;subst e7 e7';refine wpAny_mono (he s3 _ _ s7 _ _ _ I7 (turn y _ y6)) (λv8 s8 ⟨y8,H8,I8,r8,q8,m',hm',w8⟩=>?_) λ_ _ z=>False.elim z;refine wpAny_mono (gI (X:=X.blk (x::fv.map (·.1)) scope cl fp s3 (upd H2 s2.heap.objs.size (.lst []))) _ s8 _ H8 (.ref s2.heap.objs.size) [y8] (.ref s2.heap.objs.size) [v8] (λ_ H9=>H9=upd H8 s2.heap.objs.size (.lst (acc++[y8]))) I8 rfl (.cons r8 .nil) ⟨_,acc,y8,rfl,rfl,q8,hlen,rfl⟩) (λ_ s9 ⟨_,H9,I9,_,e9⟩=>?_) λ_ _ z=>False.elim z;subst e9;refine⟨m',hm',i+1,acc++[y8],some y,_,I9.unpinned,T.keep _ _ _ st6 λb hb o e=>(I9.pin (b,o) (List.mem_append_right _ (List.mem_append_right _ (cC hb e)))).1,λb hb=>?_,w8⟩;obtain⟨o,e,d⟩:=T.obj _ _ st6 b hb;exact(I9.pin (b,o) (List.mem_append_right _ (List.mem_append_right _ (cC hb e)))).2.1
 exact codeAny_compStart_list loop (T.self _ 0 _ _ _ st4 loop)
theorem qX{wi:TI}(hcalm:X.calm=true)(C:Bd X scope cl x fv)(hi:PI X (.Name x px) iter wi)(he:∀(fp:List Addr) (s₀:Shared) (H₀:Hp),PE (X.blk (x::fv.map (·.1)) scope cl fp s₀ H₀) elt te)
  (hs:∀v,foldedSetIterable iter X.env v=pure v:=by intro _;rfl):PE X (.ListComp elt [⟨.Name x px,iter,[],0⟩] scope pos) (xm wi fv te):=by
 intro pins s σ H Q I h;rw[eval_ListComp];refine wpAny_comprehension_free (use:=none) rfl hs C.clos C.kind C.names (wpAny_mono (hi pins s σ H _ I h) (λv s1 h1=>wpAny_mono h1 (λitv s2 h2=>?_) λ_ _ z=>z) λ_ _ z=>z);obtain⟨it,fp,tn,J,H2,rfl,I2,T,st2,f2,rd⟩:=h2;refine rZ (Qf:=Q) hcalm C I2 T st2 f2 rd (he fp) λp D H' s' ns nL nH n0 nC nP I8 q=>?_;obtain⟨m,hn⟩:=ns;exact⟨m,hn,λh'' sb=>⟨.ref p,H',I8.turned (t':=s'.toks) (λb o hb e=>(sb.2 b hb).trans e) nH nL (.inr n0) nC nP,rfl,q⟩⟩
theorem pZ{wi:TI}{y:Str}{j:Nat}{py spos:Pos}(hcalm:X.calm=true)(C:Bd X scope cl x fv)(hN:X.N.Nodup)(hj:X.N[j]? = some y)(hy:X.env.scope.names.lookup y=some .local)(hi:PI X (.Name x px) iter wi)(he:∀(fp:List Addr) (s₀:Shared) (H₀:Hp),PE (X.blk (x::fv.map (·.1)) scope cl fp s₀ H₀) elt te)
  (hsw:swapsWith (.ListComp elt [⟨.Name x px,iter,[],0⟩] scope pos) (some (.Name y py)) spos.line X.env=pure true:=by rfl)
  (hs:∀v,foldedSetIterable iter X.env v=pure v:=by intro _;rfl):PS X (.Assign [.Name y py] (.ListComp elt [⟨.Name x px,iter,[],0⟩] scope pos) spos) (nY (xm wi fv te) (hU j)):=by
 intro pins s σ H D I h;rw[exec_Assign_Name_used _ _ _ _ hsw];refine wpAny_bind (wpAny_standAt (wpAny_bind ?_));show wpAny _ _ (do let _ <- comprehension (.ListComp elt [⟨.Name x px,iter,[],0⟩] scope pos) scope X.env _ (newList []) false (eval iter X.env) (some (assign (.Name y py) X.env))) _ _ s
 refine wpAny_bind (wpAny_mono (wpAny_comprehension_free (use:=some (assign (.Name y py) X.env)) (Q:=λ_ s'=>SP X pins D .next s') rfl hs C.clos C.kind C.names
  (wpAny_mono (hi pins s σ H _ I h) (λv s1 h1=>wpAny_mono h1 (λitv s2 h2=>?_) λ_ _ z=>z) λ_ _ z=>z)) (λ_ s' hq=>wpAny_pure (wpAny_pure hq)) λ_ _ z=>z)
 obtain⟨it,fp,tn,J,H2,rfl,I2,T,st2,f2,rd⟩:=h2;refine rZ (Qf:=λv H'=>hU j v σ H' D.nx) hcalm C I2 T st2 f2 rd (he fp) λp D' H' s' ns nL nH n0 nC nP I8 q=>?_;obtain⟨m,hn⟩:=ns;show wpAny _ _ (assign (.Name y py) X.env (.ref p)) _ _ _;refine wpAny_assign_Name (i4 I8 hN hj (.inl hy) (v:=.ref p) rfl (λs9 I9 ⟨a,sb,ha⟩=>?_) (.inr hy));have aD:D'≠a:=by
  rintro rfl;rcases ha with z|z
  ·exact nL z
  ·exact nC y _ z rfl
 exact⟨m,hn.sameBut sb aD,λh'' sb2=>⟨_,H',I9.turned (t':=s9.toks) (λb o hb e=>(sb2.2 b hb).trans e) nH nL (.inr n0) nC nP,q⟩⟩
end
noncomputable def fV(s:Stmt):Scope:=match s with
 | .Assign _ (.ListComp _ _ sc _) _=>sc
 | _=>{ kind:=.function,names:=[],isGenerator:=false,isCoroutine:=false }
theorem dE{X:Cx}{K:W.Frag}(h:X.K=K):IxR X (Ia K):=h▸am
theorem gP{K:W.Frag}{a:Addr}{xs:List V}{fv:List (Str×Nat)}{te:TE}{σ:St}{H1:Hp}{Qp:Hp->Prop}{l:Addr}(Pv:Nat->List V->Hp->Prop)(h0:Pv 0 [] (upd H1 l (.lst [])))(hp:∀i acc H2,i<=xs.length->Pv i acc H2->SqL K H2 a xs/\H2 l=some (.lst acc)/\acc.length<sizeLine)
  (hs:∀i x acc H2 (Kc:VK),xs[i]? = some x->Pv i acc H2->(∀y H4,H4 l=some (.lst acc)->Pv (i+1) (acc++[y]) (upd H4 l (.lst (acc++[y])))->Kc y H4)->te (some x::fvs fv σ) H2 Kc) (hd:∀acc H2,Pv xs.length acc H2->Qp H2) :
  ∃W:Nat->Nat->List V->Hp->Prop,(∃m,W 0 m [] (upd H1 l (.lst [])))/\∀i m acc H2,W i m acc H2 ->
   H2 l=some (.lst acc)/\acc.length<sizeLine/\(((Itl K a).stop i H2/\Qp H2)\/((Itl K a).go i H2/\∀x H3,(Itl K a).yld i H2 x H3->te (some x::fvs fv σ) H3 λy H4=>H4 l=some (.lst acc)/\∃m',m'<m/\W (i+1) m' (acc++[y]) (upd H4 l (.lst (acc++[y]))))):=by
 refine⟨λi m acc H2=>m=xs.length - i/\i<=xs.length/\Pv i acc H2,⟨xs.length,by simp,Nat.zero_le _,h0⟩,?_⟩;rintro i m acc H2 ⟨rfl,hi,p⟩;obtain⟨q1,q2,q3⟩:=hp i acc H2 hi p;refine⟨q2,q3,?_⟩
 by_cases hlt:i<xs.length
 ·refine .inr ⟨⟨xs,xs[i],q1,List.getElem?_eq_getElem hlt⟩,λx H3 y=>?_⟩
  obtain⟨e1,e2⟩:=y;subst e1;exact hs i x acc _ _ (e2 xs q1) p λy H4 z1 z2=>⟨z1,xs.length - (i+1),by omega,rfl,hlt,z2⟩
 ·have e:i=xs.length:=by omega
  subst e;exact .inl ⟨⟨xs,q1,Nat.le_refl _⟩,hd acc H2 p⟩
theorem qN{xs:List V}{us:List Value}{j:Nat}(r:aJ xs us)(h:j<us.length):∃a,xs[j]? = some a/\a6 a us[j]:=by
 have hl:=r.length;have hj:j<xs.length:=by omega
 obtain⟨u,e,q⟩:=r.get (i:=j) (x:=xs[j]) (List.getElem?_eq_getElem hj);rw[List.getElem?_eq_getElem h]at e;cases e;exact⟨xs[j],List.getElem?_eq_getElem hj,q⟩
end L2
namespace L2
open PySem
theorem BA.units10{k:Nat}{A:Around}(r:BA k A):A.units+10<cLine:=by have:=r.un;omega
end L2
namespace Sp3
open PySem PySem.Spec L2 Mth Sp1 Sp2
theorem AN.mono{H H':Hp}{x:V}(h:AN H x)(s:Same H H'):AN H' x:=by
 obtain⟨⟨t,k⟩,pt⟩:=h;refine⟨⟨t,k.mono s⟩,λp xs e1 e2 y hy=>?_⟩;subst e1;have e3:H p=some (.tup xs):=by
  cases k with
  | lst e=>rw[s _ _ e]at e2;cases e2
  | tup e=>rw[s _ _ e]at e2;cases e2;exact e
  | dict e=>rw[s _ _ e]at e2;cases e2
 obtain⟨t',k'⟩:=pt p xs rfl e3 y hy;exact⟨t',k'.mono s⟩
noncomputable abbrev Crn:=List (Addr×Int×Int)
end Sp3
namespace L2
open PySem PySem.Spec PyProof.Rows
section
variable {X:Cx} {pins:List (Addr×Obj)} {σ:St} {H:Hp} {s:Shared}
theorem Aj.track{a:Addr}{o:HO}(I:Aj X pins σ H s)(hn:H a=none)(h0:X.s₀.heap.get? a=none)(hl:a≠X.env.locals)(hc:∀x c,X.env.cells.lookup x=some c->c≠a)(hp:∀p∈X.pn++pins,p.1≠a)
  (ho:cJ X.prog X.w (upd H a o) s.heap a o):Aj X pins σ (upd H a o) s where
 ok:=I.ok
 os:=I.os
 bare:=I.bare
 base:={
  keep:=I.base.keep
  slot:=I.base.slot
  free:=λb ob e n hx=>by
   rw[aP (λz=>by subst z;rw[h0]at e;cases e)];exact I.base.free b ob e n hx
  there:=I.base.there
  tups:=λb xs q=>by
   have z:=I.base.tups b xs q;rw[aP (aL z hn)];exact z
  frzs:=λb ob u q=>by
   have z:=I.base.frzs b ob u q;rw[aP (aL z hn)];exact z
  tbls:=λb ps q=>by
   obtain⟨m,z⟩:=I.base.tbls b ps q;exact⟨m,by rw[aP (aL z hn)];exact z⟩ }
 loc:=I.loc
 cell:=I.cell
 free:=by rw[aP (Ne.symm hl)];exact I.free
 freeC:=λx c e=>by rw[aP (hc x c e)];exact I.freeC x c e
 pin:=λp m=>by
  obtain⟨p1,p2,p3⟩:=I.pin p m;exact⟨p1,by rw[aP (hp p m)];exact p2,p3⟩
 hok:=λb u q=>by
  by_cases hb:b=a
  ·subst hb
   rw[upd_same]at q;cases q;exact ho
  ·rw[aP hb]at q
   exact(I.hok b u q).stay (λ_ _ _ r=>r) (λc r=>by rw[aP (aL r hn)];exact r) λc xs r=>by rw[aP (aL r hn)];exact r
 len:=I.len
end
end L2
namespace Sp8
open PySem PySem.Spec L2 Mth Sp1 Sp2 Sp3
end Sp8
namespace L2
open PySem PySem.Spec PyProof.Rows
theorem SqT.mod{K:W.Frag}{H:Hp}{a:Addr}{oc:Value}{od:Option Addr}{its:Array Value}{n:Nat}{sl:Array (Option Value)}{xs:List V}(hk:K.lookup a=some ⟨oc,od,.seq its n,sl⟩)(hc:oc = .type "tuple")(hz:its.size<=100)(r:aJ xs its.toList):SqT K H a xs :=
 .inr ⟨_,its,n,hk,hc,rfl,Nat.le_of_lt (bJ (by omega)),r⟩
end L2
namespace Sp24
open PySem PySem.Spec L2 Mth Sp1 Sp2 Sp3 Sp8
end Sp24
namespace L2
open PySem PySem.Spec PyProof.Rows
theorem kP:bootBuiltins "all" = some (.builtin "all"):=by decide +kernel
theorem zK{bs:List Bool}{us:List Value}{i:Nat}{v:Value}(r:aJ (bs.map V.bl) us)(h:us[i]? = some v):∃b,bs[i]? = some b/\v = .bool b:=by
 have hl:=r.length;rw[List.length_map]at hl;have hi:i<us.length:=(List.getElem?_eq_some_iff.mp h).1;have hj:i<bs.length:=by omega
 obtain⟨u,e,q⟩:=r.get (i:=i) (x:=.bl bs[i]) (by rw[List.getElem?_map,List.getElem?_eq_getElem hj];rfl);rw[h]at e;cases e;exact⟨bs[i],List.getElem?_eq_getElem hj,q⟩
theorem tH(bs:List Bool):((List.range bs.length).all λi=>(bs[i]?).getD true)=bs.all id:=by
 rw[Bool.eq_iff_iff];simp only[List.all_eq_true,List.mem_range,id];constructor
 ·intro h b hb
  obtain⟨i,hi,rfl⟩:=List.mem_iff_getElem.mp hb;have z:=h i hi;rw[List.getElem?_eq_getElem hi]at z;exact z
 ·intro h i hi
  rw[List.getElem?_eq_getElem hi];exact h _ (List.getElem_mem hi)
theorem gw{X:Cx}(hc:X.calm=true):fH X (.builtin "all") (λxs H Q=>∃(p:Addr) (bs:List Bool),xs = [.ref p]/\SqL X.K H p (bs.map V.bl)/\Q (.bl (bs.all id)) H):=by
 intro pins s σ H xs us Q I r h;obtain⟨p,bs,rfl,hq,q⟩:=h;obtain⟨u,rfl,rx⟩:=cE r;cases rx;obtain⟨its,rv,pl,_⟩:=I.list hq;have hl:=pl.isList;have lt:p<s.heap.objs.size:=by
  obtain⟨_,e,_⟩:=hl;exact Heap.lt_size e
 refine call_all_walk (wpAny_pyIter_list hl ?_);refine⟨s.heap.objs.size,[s.heap.objs.size,p],[s.heap.objs.size],its.toArray.size,_,_,λi=>(bs[i]?).getD true,rfl,Walks.list (A:=X.A.in1) (I.ok.hd hc) _ p (Nat.ne_of_lt lt) its.toArray,?_⟩;refine⟨⟨⟨_,Heap.get?_push_size _ rfl,rfl,rfl⟩,hl.push _⟩,λi v s' Q' E' hP hQ=>?_,λh' tk hk=>?_⟩
 ·obtain⟨b,e,rfl⟩:=zK rv (by simpa using hP)
  simp only[e,Option.getD_some]at hQ;exact wpAny_truthy_bool hQ
 ·have el:its.toArray.size=bs.length:=by
   have:=rv.length;rw[List.length_map]at this;rw[List.size_toArray];omega
  rw[el,tH];refine⟨.bl _,H,I.kept (t':=tk) λb o e=>?_,rfl,q⟩;exact hk b o (λhm=>by rw[List.mem_singleton.mp hm]at e;exact Nat.lt_irrefl _ (Heap.lt_size e)) (Heap.get?_push_of_some _ e)
end L2
namespace Sp7
open PySem PySem.Spec L2 Mth Sp1 Sp2 Sp3
noncomputable def ie:Int:=999999999999
noncomputable def cQ:V->Bool
 | .int a=>decide (-ie<=a) && decide (a<=ie)
 | _=>false
noncomputable def rY:List V->Bool
 | [y,z]=>cQ y && cQ z
 | _=>false
noncomputable def dB(H:Hp):V->Bool
 | .ref p=>match H p with
  | some (.tup xs)=>rY xs
  | _=>false
 | _=>false
noncomputable def rB(H:Hp)(xs:List V):Bool:=(decide ((1:Int)<=(xs.length:Int)) && decide ((xs.length:Int)<=10)) && xs.all (dB H)
noncomputable def ki(H:Hp):V->Bool
 | .ref p=>match H p with
  | some (.lst xs)=>rB H xs
  | _=>false
 | _=>false
theorem jq{H:Hp}{p:Addr}{xs:List V}(e:H p=some (.tup xs)):dB H (.ref p)=rY xs:=by simp only[dB,e]
theorem qK{H H':Hp}{x:V}{k:String}(kn:Kn H x k)(s:Same H H'):dB H' x=dB H x:=by
 cases kn with
 | non=>rfl
 | bl b=>rfl
 | int i=>rfl
 | str x=>rfl
 | lst e=>simp only[dB,e,s _ _ e]
 | tup e=>simp only[dB,e,s _ _ e]
 | dict e=>simp only[dB,e,s _ _ e]
theorem tt{xs:List V}(h:xs.length≠2):rY xs=false:=by
 unfold rY
 split
 ·exact absurd rfl h
 ·rfl
theorem sv{v:V}(h:∀a,v≠.int a):cQ v=false:=by
 unfold cQ
 split
 ·exact absurd rfl (h _)
 ·rfl
theorem lR{H:Hp}{p:Addr}{xs:List V}(e:H p=some (.lst xs)):ki H (.ref p)=rB H xs:=by simp only[ki,e]
theorem Kn.cases_lst{H:Hp}{y:V}{t:String}(k:Kn H y t):(∃p xs,y = .ref p/\H p=some (.lst xs)/\t = "list")\/(ki H y=false/\eS t "list" = false):=by
 cases k with
 | lst e=>exact .inl ⟨_,_,rfl,e,rfl⟩
 | non=>exact .inr ⟨rfl,by decide⟩
 | bl b=>exact .inr ⟨rfl,by decide⟩
 | str x=>exact .inr ⟨rfl,by decide⟩
 | int a=>exact .inr ⟨rfl,by decide⟩
 | tup e=>exact .inr ⟨by simp only[ki,e],by decide⟩
 | dict e=>exact .inr ⟨by simp only[ki,e],by decide⟩
theorem Kn.cases_tp{H:Hp}{y:V}{t:String}(k:Kn H y t):(∃p xs,y = .ref p/\H p=some (.tup xs)/\t = "tuple")\/(dB H y=false/\eS t "tuple" = false):=by
 cases k with
 | tup e=>exact .inl ⟨_,_,rfl,e,rfl⟩
 | non=>exact .inr ⟨rfl,by decide⟩
 | bl b=>exact .inr ⟨rfl,by decide⟩
 | str x=>exact .inr ⟨rfl,by decide⟩
 | int a=>exact .inr ⟨rfl,by decide⟩
 | lst e=>exact .inr ⟨by simp only[dB,e],by decide⟩
 | dict e=>exact .inr ⟨by simp only[dB,e],by decide⟩
noncomputable def Sm(x:Int):Prop:=-ie<=x/\x<=ie
structure LineM(H:Hp)(l:Addr)(qs:Crn):Prop where
 lst:H l=some (.lst (qs.map λq=>V.ref q.1))
 crn:∀q∈qs,H q.1=some (.tup [.int q.2.1,.int q.2.2])/\Sm q.2.1/\Sm q.2.2
theorem LineM.mono{H H':Hp}{l:Addr}{qs:Crn}(L:LineM H l qs)(s:Same H H'):LineM H' l qs:=⟨s _ _ L.lst,λq h=>⟨s _ _ (L.crn q h).1,(L.crn q h).2⟩⟩
inductive E8 (vs:List V) (H:Hp) (Q:VK) (x_3:XK):Prop
 | mk:∀x t,(vs = [x])->(Kn H x t)->(Q (.bl (cQ x)) H)->E8 vs H Q x_3
inductive Ez (vs:List V) (H:Hp) (Q:VK) (x_3:XK):Prop
 | mk:∀x,(vs = [x])->(AN H x)->(Q (.bl (dB H x)) H)->Ez vs H Q x_3
noncomputable def retScope(s:Stmt):Scope:=match s with
 | .Return (some (.Call _ [.ListComp _ _ sc _] _ _)) _=>sc
 | .Return (some (.ListComp _ _ sc _)) _=>sc
 | _=>{ kind:=.function,names:=[],isGenerator:=false,isCoroutine:=false }
end Sp7
namespace L2
open PySem PySem.Spec PyProof.Rows
theorem bits_add2{i j:Int}{m n:Nat}(hi:au i<=m)(hj:au j<=n):au (i+j)<=max m n+1:=dq (ai hi (Nat.le_max_left _ _)) (ai hj (Nat.le_max_right _ _))
theorem bH{p:Prop}[Decidable p](h:decide p=true):p:=of_decide_eq_true h
theorem dn{p:Prop}[Decidable p](h:decide p=false):¬p:=of_decide_eq_false h
theorem CM.of{i j:Int}{m n:Nat}(hi:au i<=m)(hj:au j<=n)(h:m<=1000000/\n<=1000000):CM i j:=CM.b hi hj (by have:(2:Nat)^20=1048576:=(by decide);omega) (by have:(2:Nat)^20=1048576:=(by decide);omega)
theorem bits_of_le{i:Int}{m n:Nat}(h:au i<=m)(hm:m<=n):au i<=n:=Nat.le_trans h hm
noncomputable def SameT(H H':Hp):Prop:=∀b xs,H b=some (.tup xs)->H' b=some (.tup xs)
theorem Same.t{H H':Hp}(s:Same H H'):SameT H H':=λb xs e=>s b _ e
theorem SameT.trans{H H1 H2:Hp}(a:SameT H H1)(b:SameT H1 H2):SameT H H2:=λc xs e=>b c xs (a c xs e)
theorem SameT.upd{H:Hp}{l:Addr}{xs ys:List V}(hl:H l=some (.lst xs)):SameT H (upd H l (.lst ys)):=λb zs e=>by
 rw[aP (uB e hl (by intro z;cases z))];exact e
theorem Same.upd{H0 H:Hp}{l:Addr}{o:HO}(s:Same H0 H)(hl:H0 l=none):Same H0 (upd H l o):=λb u e=>by
 rw[aP (aL e hl)];exact s b u e
noncomputable def nR(J:It)(fv:List (Str×Nat))(te:TE)(σ:St)(H1:Hp)(Q:VK):Prop:=∀p,H1 p=none->∃W:Nat->Nat->List V->Hp->Prop,(∃m,W 0 m [] (upd H1 p (.lst [])))/\∀i m acc H2,W i m acc H2 ->
 H2 p=some (.lst acc)/\acc.length<sizeLine/\((J.stop i H2/\Q (.ref p) H2)\/(J.go i H2/\∀x H3,J.yld i H2 x H3->te (some x::fvs fv σ) H3 λy H4=>H4 p=some (.lst acc)/\∃m',m'<m/\W (i+1) m' (acc++[y]) (upd H4 p (.lst (acc++[y])))))
noncomputable def mz(wi:TI)(fv:List (Str×Nat))(te:TE):TE:=λσ H Q=>wi σ H λJ H1=>nR J fv te σ H1 Q
section
variable {X:Cx} {scope:Scope} {cl:List (Str×Addr)} {x:Str} {fv:List (Str×Nat)} {elt iter:Expr} {px pos:Pos} {te:TE}
theorem dR{wi:TI}(hcalm:X.calm=true)(C:Bd X scope cl x fv)(hi:PI X (.Name x px) iter wi)(he:∀(fp:List Addr) (s₀:Shared) (H₀:Hp),PE (X.blk (x::fv.map (·.1)) scope cl fp s₀ H₀) elt te)
  (hs:∀v,foldedSetIterable iter X.env v=pure v:=by intro _;rfl):PE X (.ListComp elt [⟨.Name x px,iter,[],0⟩] scope pos) (mz wi fv te):=qX hcalm C hi he hs
theorem fX{wi:TI}{y:Str}{j:Nat}{py spos:Pos}(hcalm:X.calm=true)(C:Bd X scope cl x fv)(hN:X.N.Nodup)(hj:X.N[j]? = some y)(hy:X.env.scope.names.lookup y=some .local)(hi:PI X (.Name x px) iter wi)(he:∀(fp:List Addr) (s₀:Shared) (H₀:Hp),PE (X.blk (x::fv.map (·.1)) scope cl fp s₀ H₀) elt te)
  (hsw:swapsWith (.ListComp elt [⟨.Name x px,iter,[],0⟩] scope pos) (some (.Name y py)) spos.line X.env=pure true:=by rfl)
  (hs:∀v,foldedSetIterable iter X.env v=pure v:=by intro _;rfl):PS X (.Assign [.Name y py] (.ListComp elt [⟨.Name x px,iter,[],0⟩] scope pos) spos) (nY (mz wi fv te) (hU j)):=pZ hcalm C hN hj hy hi he hsw hs
end
theorem gj{K:W.Frag}{a:Addr}{xs:List V}{fv:List (Str×Nat)}{te:TE}{σ:St}{H1:Hp}{Q:VK}(hL:SqL K H1 a xs)(hlen:xs.length<1000)(R:Nat->V->Hp->Prop)(hR:∀i v H H',SameT H H'->R i v H->R i v H')
  (hs:∀i x H2 (Kc:VK),xs[i]? = some x->Same H1 H2->(∀y H4,Same H2 H4->R i y H4->Kc y H4)->te (some x::fvs fv σ) H2 Kc)
  (hd:∀l ys H',H1 l=none->Same H1 H'->H' l=some (.lst ys)->ys.length=xs.length->(∀i y,ys[i]? = some y->R i y H')->Q (.ref l) H') :
  nR (Itl K a) fv te σ H1 Q:=by
 intro l hl;refine gP (K:=K) (a:=a) (xs:=xs) (l:=l) (fv:=fv) (Qp:=λH2=>Q (.ref l) H2) (λi acc H2=>acc.length=i/\Same H1 H2/\H2 l=some (.lst acc)/\∀j y,acc[j]? = some y->R j y H2)
  ⟨rfl,Same.new hl,upd_same,λj y h=>by simp at h⟩ ?_ ?_ ?_
 ·rintro i acc H2 hi ⟨e1,sm,e3,_⟩
  exact⟨sm.seq hL,e3,bJ (by omega)⟩
 ·rintro i x acc H2 Kc hx ⟨e1,sm,e3,hr⟩ kk
  refine hs i x H2 Kc hx sm λy H4 s4 ry=>kk y H4 (s4 _ _ e3) ⟨by simp[e1],(sm.trans s4).upd hl,upd_same,λj z hz=>?_⟩;have t4:=SameT.upd (ys:=acc++[y]) (s4 _ _ e3);rcases Nat.lt_trichotomy j acc.length with h|h|h
  ·rw[List.getElem?_append_left h]at hz
   exact hR _ _ _ _ (s4.t.trans t4) (hr j z hz)
  ·subst h
   rw[List.getElem?_append_right (Nat.le_refl _),Nat.sub_self]at hz;cases hz;rw[e1];exact hR _ _ _ _ t4 ry
  ·rw[List.getElem?_eq_none (by simp;omega)]at hz
   cases hz
 ·rintro acc H2 ⟨e1,sm,e3,hr⟩
  exact hd l acc H2 hl sm e3 e1 hr
theorem nice_tuple:vO "tuple":=.inr (.inr (.inl rfl))
theorem nice_list:vO "list":=.inr (.inr (.inr (.inl rfl)))
theorem nice_str:vO "str":=.inr (.inr (.inr (.inr rfl)))
section
variable {X:Cx} {pos:Pos} {es:List Expr} {ta:TA}
inductive IE (f:List V->HO) (xs:List V) (H1:Hp) (Q:VK):Prop
 | mk (z:xs.length<=sizeLine) (q:∀p H2,Same H1 H2->H2 p=some (f xs)->H1 p=none->Q (.ref p) H2):IE f xs H1 Q
noncomputable def nX(t:TA):TE:=λσ H Q=>t σ H λxs H1=>IE .tup xs H1 Q
noncomputable def yS(t:TA):TE:=λσ H Q=>t σ H λxs H1=>IE .lst xs H1 Q
theorem aA{x1}(h:PA X es ta):PE X (.Tuple es x1 pos) (nX ta):=by
 intro pins s σ H Q I hq;refine wpAny_Tuple_spliced (thn (h pos pins s σ H _ I hq) λus s1 ⟨xs,H1,I1,r,z,q⟩=>⟨by rw[<- r.length];exact z,?_⟩);have hf:H1 s1.heap.objs.size=none:=I1.hok.fresh (Nat.le_refl _);refine⟨.ref s1.heap.objs.size,upd H1 s1.heap.objs.size (.tup xs),I1.laid (t':=s1.toks) (λb u e=>Heap.get?_push_of_some _ e) (Nat.le_refl _) ?_,rfl,q _ _ (Same.new hf) upd_same hf⟩;exact⟨z,us,r,⟨_,Heap.get?_push_size _ rfl,rfl,_,rfl⟩⟩
theorem cK(h:PA X es ta):PE X (.List es pos) (yS ta):=by
 intro pins s σ H Q I hq;refine wpAny_List_spliced (thn (h pos pins s σ H _ I hq) λus s1 ⟨xs,H1,I1,r,z,q⟩=>⟨by rw[<- r.length];exact z,?_⟩);have hf:H1 s1.heap.objs.size=none:=I1.hok.fresh (Nat.le_refl _);refine⟨.ref s1.heap.objs.size,upd H1 s1.heap.objs.size (.lst xs),I1.laid (t':=s1.toks) (λb u e=>Heap.get?_push_of_some _ e) (Nat.le_refl _) ?_,rfl,q _ _ (Same.new hf) upd_same hf⟩;exact⟨z,us,0,r,Heap.get?_push_size _ rfl⟩
inductive Io (K:W.Frag) (x:V) (lo:Option Int) (hi:Option Int) (H:Hp) (Q:VK):Prop
 | mk:∀a xs,(x = .ref a)->(SqL K H a xs)->(∀p H2,Same H H2->H2 p=some (.lst (jp xs lo hi))->H p=none->Q (.ref p) H2)->Io K x lo hi H Q
theorem fU:SlR X (Io X.K):=λpins s σ H x v vl vu lo hi sl Q I rx hs pl pu ⟨a,xs,e,hx,q⟩ =>
 vU pins s σ H x v vl vu lo hi sl Q I rx hs pl pu ⟨a,xs,e,hx,λp hp=>q p _ (Same.new hp) upd_same hp⟩
inductive HR (x:V) (y:V) (H:Hp) (Q:VK):Prop
 | mk:∀l b xs zs,(x = .ref l)->(y = .ref b)->(H l=some (.lst xs))->(H b=some (.lst zs))->(xs.length+zs.length<=sizeLine)->(∀p H2,Same H H2->H2 p=some (.lst (xs++zs))->H p=none->Q (.ref p) H2)->HR x y H Q
theorem q9:OpR X (binaryOp .Add) HR:=λpins s σ H x y v u Q I rx ry ⟨l,b,xs,zs,e1,e2,h1,h2,hz,q⟩ =>
 yf pins s σ H x y v u Q I rx ry ⟨l,b,xs,zs,e1,e2,h1,h2,hz,λp hp=>q p _ (Same.new hp) upd_same hp⟩
inductive Ip (x:V) (y:V) (H:Hp) (Q:VK):Prop
 | mk:∀l k xs,(x = .ref l)->(y = .int k)->(H l=some (.lst xs))->(-(2^63)<=k)->(k<2^63)->(xs.length*k.toNat<=sizeLine)->(∀p H2,Same H H2->H2 p=some (.lst (List.replicate k.toNat xs).flatten)->H p=none->Q (.ref p) H2)->Ip x y H Q
theorem we:OpR X (binaryOp .Mult) Ip:=λpins s σ H x y v u Q I rx ry ⟨l,k,xs,e1,e2,h1,h2,h3,hz,q⟩ =>
 yd pins s σ H x y v u Q I rx ry ⟨l,k,xs,e1,e2,h1,h2,h3,hz,λp hp=>q p _ (Same.new hp) upd_same hp⟩
structure Hw(H H':Hp)(l:Addr)(xs ys:List V):Prop where
 was:H l=some (.lst xs)
 now:H' l=some (.lst ys)
 oth:∀b,b≠l->H' b=H b
theorem Hw.mk'{H:Hp}{l:Addr}{xs ys:List V}(h:H l=some (.lst xs)):Hw H (L2.upd H l (.lst ys)) l xs ys:=⟨h,upd_same,λ_ n=>aP n⟩
theorem Hw.t{H H':Hp}{l:Addr}{xs ys:List V}(u:Hw H H' l xs ys):SameT H H':=λb zs e=>by
 rw[u.oth b (uB e u.was (by intro z;cases z))];exact e
theorem Hw.same{H0 H H':Hp}{l:Addr}{xs ys:List V}(u:Hw H H' l xs ys)(s:Same H0 H)(h:H0 l=none):Same H0 H':=λb o e=>by
 rw[u.oth b (aL e h)];exact s b o e
theorem Hw.at{H H':Hp}{l b:Addr}{xs ys:List V}{o:HO}(u:Hw H H' l xs ys)(n:b≠l)(e:H b=some o):H' b=some o:=by
 rw[u.oth b n];exact e
inductive Dt (x:V) (vs:List V) (H:Hp) (Q:VK):Prop
 | mk:∀l xs y,(x = .ref l)->(vs = [y])->(H l=some (.lst xs))->(xs.length<sizeLine)->(∀H',Hw H H' l xs (xs++[y])->Q .non H')->Dt x vs H Q
theorem cO:MtM X "list.append" Dt:=λpins s σ H x xs v us Q I rx rs ⟨l,ys,y,e1,e2,h,hz,q⟩ =>
 gI pins s σ H x xs v us Q I rx rs ⟨l,ys,y,e1,e2,h,hz,q _ (.mk' h)⟩
inductive HN (o:V) (i:V) (v:V) (H:Hp) (Q:(Hp->Prop)):Prop
 | mk:∀p xs k j,(o = .ref p)->(i = .int k)->(H p=some (.lst xs))->(ixN xs.length k=some j)->(∀H',Hw H H' p xs (xs.set j v)->Q H')->HN o i v H Q
theorem gD:yL X HN:=λpins s σ H o i v uo ui uv Q I ro ri rv ⟨p,xs,k,j,e1,e2,h,hj,q⟩ =>
 ua pins s σ H o i v uo ui uv Q I ro ri rv ⟨p,xs,k,j,e1,e2,h,hj,q _ (.mk' h)⟩
end
theorem zi{K:W.Frag}{H:Hp}{l:Addr}{xs:List V}{i:Int}{Q:VK}(e:H l=some (.lst xs))(h0:0<=i)(h1:i<(xs.length:Int))(h:∀v∈xs,Q v H):HP K (.ref l) (.int i) H Q:=by
 obtain⟨v,hv,mv⟩:=Sp1.atI_mem h0 h1;exact⟨l,xs,i,v,rfl,rfl,SqL.of e,hv,h v mv⟩
theorem je{α:Type}{xs:List α}(h:xs.length=3):∃a b c,xs = [a,b,c]:=match xs,h with | [a,b,c],_=>⟨a,b,c,rfl⟩
theorem cj{α:Type}{xs:List α}(h:xs.length=2):∃a b,xs = [a,b]:=match xs,h with | [a,b],_=>⟨a,b,rfl⟩
theorem mO{α:Type}{xs:List α}(h:xs.length=4):∃a b c d,xs = [a,b,c,d]:=match xs,h with | [a,b,c,d],_=>⟨a,b,c,d,rfl⟩
theorem wA{α:Type}{xs:List α}(h:xs.length=5):∃a b c d e,xs = [a,b,c,d,e]:=match xs,h with | [a,b,c,d,e],_=>⟨a,b,c,d,e,rfl⟩
theorem len6{α:Type}{xs:List α}(h:xs.length=6):∃a b c d e f,xs = [a,b,c,d,e,f]:=match xs,h with | [a,b,c,d,e,f],_=>⟨a,b,c,d,e,f,rfl⟩
section
variable {X:Cx} {pins:List (Addr×Obj)} {σ:St} {H:Hp} {s:Shared}
theorem Aj.turnedL{h':Heap}{t':Nat}{ch:List Addr}(I:Aj X pins σ H s)(k:∀b o,b∉ch->s.heap.get? b=some o->h'.get? b=some o)(hf:∀b∈ch,ee X pins H b):Aj X pins σ H { s with heap:=h',toks:=t' }:=by
 have nit:∀b u,H b=some u->b∉ch:=λb u e z=>by
  have n:=(hf b z).1;rw[n]at e;cases e
 refine I.step (g':=s.gens) (d':=s.drawn) (ch:=ch) (λb hb=>?_) (λb o _ _ hc e _=>k b o hc e) (λb o _ _ hc e _=>⟨o.slots,k b o hc e⟩) (λ_ _ _ _ n=>n)
  (λb o hc e=>⟨o,k b o hc e⟩) (λ_ _ e=>e) (λ_ _ _ e=>e) (λb ps e=>⟨#[],by rw[e];simp⟩) (λm hm=>?_) (λb u e=>?_) I.bare
 ·obtain⟨f0,f1,f2,f3,f4,f5⟩:=hf b hb
  exact⟨f3,f1,f4,f5⟩
 ·obtain⟨o,es,ep,ho,r⟩:=hm
  exact⟨o,es,ep,k _ o (λz=>(hf _ z).2.1 rfl) ho,r⟩
 ·refine(I.hok b u e).stay (λc v hc q=>k c v ?_ q) (λ_ q=>q) λ_ _ q=>q
  rcases hc with z|z
  ·rw[z];exact nit b u e
  ·exact nit c _ z
theorem lz{E:Value->Shared->Prop}{elts:List Expr}{kt:Nat}{pos:Pos}{i n:Nat}{z:Addr}{fpw wr:List Addr}{Pt:Nat->Array Value->Prop}{Stt:Nat->Heap->Prop}{Mid:Nat->Addr->Heap->Prop}{R:Value->Shared->Prop}
  (W:WalksT X.prog X.w X.A z fpw wr n Pt Stt Mid) (I:Aj X pins σ H s) (hwr:∀b∈wr,ee X pins H b) (hi:i<n) (st:Stt i s.heap)
  (k:∀T vals s2,Pt i vals->s.heap.objs.size<=T->s2.heap.IsTuple T vals->Stt (i+1) s2.heap->Aj X pins σ H s2->(∀b o,b∉wr->s.heap.get? b=some o->s2.heap.get? b=some o)->R (.ref T) s2) :
  wpAny (model X.prog X.w) X.A (pyNext (.ref z)) (λr s1=>∃u,r=some u/\wpAny (model X.prog X.w) X.A (letOwnedTupleGo (.Tuple elts kt pos) (.ref z) u) (λ_ s2=>R u s2) E s1) E s:=by
 refine W.item i s _ E hi st λT vals h' tk hp hT tup mid kk=>⟨.ref T,rfl,?_⟩;refine W.go elts kt pos i T _ _ E mid λh2 st2 k2=>?_;have kall:∀b o,b∉wr->s.heap.get? b=some o->h2.get? b=some o:=λb o hb e=>k2 b o hb (kk b o hb e);obtain⟨o,eo,ro⟩:=tup;exact k T vals _ hp hT ⟨o,k2 T o (W.apart i T _ mid) eo,ro⟩ st2 (I.turnedL (t':=tk) kall hwr) kall
theorem lA{T:Addr}{s2:Shared}{xs:List V}{us:List Value}(I:Aj X pins σ H s)(J:Aj X pins σ H s2)(hT:s.heap.objs.size<=T)(ht:s2.heap.IsTuple T us.toArray)(r:aJ xs us)(hz:xs.length<=sizeLine):Aj X pins σ (upd H T (.tup xs)) s2/\H T=none:=by
 have hn:H T=none:=I.hok.fresh hT;obtain⟨f0,f1,f2,f3,f4,f5⟩:=I.fpOk hT hn;refine⟨J.track hn ?_ f1 f4 f5 ⟨hz,us,r,ht⟩,hn⟩;cases e:X.s₀.heap.get? T with
 | none=>rfl
 | some o =>
  have h1:=Heap.lt_size e;have h2:=I.sz;exact absurd (Nat.lt_of_lt_of_le h1 (Nat.le_trans h2 hT)) (Nat.lt_irrefl _)
end
noncomputable def Itz(K:W.Frag)(l1 l2:Addr):It :=
  ⟨λi H=>∃xs ys x y,SqL K H l1 xs/\SqL K H l2 ys/\xs[i]? = some x/\ys[i]? = some y,
   λi H v H'=>∃p x y,v = .ref p/\H p=none/\H'=upd H p (.tup [x,y])/\∀xs ys,SqL K H l1 xs->SqL K H l2 ys->xs[i]? = some x/\ys[i]? = some y,
   λi H=>∃xs ys,SqL K H l1 xs/\SqL K H l2 ys/\i=min xs.length ys.length⟩
noncomputable def Ite(K:W.Frag)(l:Addr):It :=
  ⟨λi H=>∃xs x,SqL K H l xs/\xs[i]? = some x,
   λi H v H'=>∃p x,v = .ref p/\H p=none/\H'=upd H p (.tup [.int (i:Int),x])/\∀xs,SqL K H l xs->xs[i]? = some x,
   λi H=>∃xs,SqL K H l xs/\i=xs.length⟩
theorem tP{P:Program}{w:World}{K:W.Frag}{elts:List Expr}{kt:Nat}{pos:Pos}(z TI TO i1 i2 l1 l2:Addr)(D:ZipApart z TI TO i1 i2 l1 l2) :
  Fr P w K (.Tuple elts kt pos) (Itz K l1 l2) [z,TI,TO,i1,i2] z (λi h=>IsZip h z TI TO .none/\IsPair h TI (.ref i1) (.ref i2)/\(∃a b,IsPair h TO a b)/\h.IsListIter i1 l1 i/\h.IsListIter i2 l2 i) where
 mem:=by simp
 obj:=λi h st b hb=>by
  obtain⟨hz,hTI,⟨a,c,hTO⟩,⟨o1,e1,c1,d1⟩,⟨o2,e2,c2,d2⟩⟩:=st;simp only[List.mem_cons,List.not_mem_nil,or_false]at hb;rcases hb with rfl|rfl|rfl|rfl|rfl
  ·exact⟨_,hz,λv y=>by cases y⟩
  ·exact⟨_,hTI,λv y=>by cases y⟩
  ·exact⟨_,hTO,λv y=>by cases y⟩
  ·exact⟨o1,e1,λv y=>by rw[d1]at y;cases y⟩
  ·exact⟨o2,e2,λv y=>by rw[d2]at y;cases y⟩
 keep:=λi h h' st k=>by
  obtain⟨hz,hTI,⟨a,c,hTO⟩,h1,h2⟩:=st;exact⟨k z (by simp) _ hz,k TI (by simp) _ hTI,⟨a,c,k TO (by simp) _ hTO⟩,h1.at λo e=>k i1 (by simp) o e,h2.at λo e=>k i2 (by simp) o e⟩
 item:=by
  intro X hP hw hK hc i pins s σ H E I hf st hg;subst hP hw hK;obtain⟨xs,ys,x,y,q1,q2,hx,hy⟩:=hg;obtain⟨its,r1,p1,_⟩:=I.list q1;obtain⟨jts,r2,p2,_⟩:=I.list q2;obtain⟨u1,hu1,ru1⟩:=r1.get hx;obtain⟨u2,hu2,ru2⟩:=r2.get hy;have W:=WalksT.zip2 (prog:=X.prog) (w:=X.w) (I.ok.hd hc) z TI TO i1 i2 l1 l2 D its.toArray jts.toArray;have hn:i<min its.toArray.size jts.toArray.size:=by
   have g1:=(List.getElem?_eq_some_iff.mp hu1).1;have g2:=(List.getElem?_eq_some_iff.mp hu2).1;simp only[List.size_toArray];omega
  obtain⟨hz,hTI,hTO,h1,h2⟩:=st;refine lz W I (λb hb=>hf b (by simp at hb ⊢;rcases hb with h|h|h|h <;> simp[h])) hn ⟨hz,hTI,hTO,h1,h2,p1.isList,p2.isList⟩ λT vals s2 hp hT tup st2 J2 kall=>?_;obtain⟨v1,v2,e1,e2,rfl⟩:=hp;have e1':its[i]? = some v1:=by simpa using e1
  have e2':jts[i]? = some v2:=by simpa using e2
  rw[hu1]at e1';rw[hu2]at e2';cases e1';cases e2';obtain⟨J3,nT⟩:=lA (xs:=[x,y]) (us:=[u1,u2]) I J2 hT tup (.cons ru1 (.cons ru2 .nil)) (Sp1.sz (by simp));obtain⟨hz2,hTI2,hTO2,h12,h22,_,_⟩:=st2;refine⟨.ref T,upd H T (.tup [x,y]),J3,rfl,⟨T,x,y,rfl,nT,rfl,λas bs qa qb=>?_⟩,⟨hz2,hTI2,hTO2,h12,h22⟩,λb hb=>?_⟩
  ·rw[I.list_inj qa q1,I.list_inj qb q2]
   exact⟨hx,hy⟩
  ·have hb':∃o,s.heap.get? b=some o:=by
    obtain⟨a,c,hTO⟩:=hTO;obtain⟨o1,e1,_⟩:=h1;obtain⟨o2,e2,_⟩:=h2;simp only[List.mem_cons,List.not_mem_nil,or_false]at hb;rcases hb with rfl|rfl|rfl|rfl|rfl
    ·exact⟨_,hz⟩
    ·exact⟨_,hTI⟩
    ·exact⟨_,hTO⟩
    ·exact⟨_,e1⟩
    ·exact⟨_,e2⟩
   obtain⟨o,eo⟩:=hb';rw[aP (Nat.ne_of_lt (Nat.lt_of_lt_of_le (Heap.lt_size eo) hT))];exact(hf b hb).1
 done:=by
  intro X hP hw hK hc i pins s σ H E I hf st hg;subst hP hw hK;obtain⟨xs,ys,q1,q2,rfl⟩:=hg;obtain⟨its,r1,p1,_⟩:=I.list q1;obtain⟨jts,r2,p2,_⟩:=I.list q2;have W:=WalksT.zip2 (prog:=X.prog) (w:=X.w) (I.ok.hd hc) z TI TO i1 i2 l1 l2 D its.toArray jts.toArray;obtain⟨hz,hTI,hTO,h1,h2⟩:=st;have el:min its.toArray.size jts.toArray.size=min xs.length ys.length:=by
   rw[List.size_toArray,List.size_toArray,r1.length,r2.length]
  refine W.done s _ E ?_ λh' tk kk=>⟨rfl,I.turnedL (t':=tk) kk λb hb=>hf b (by simp at hb ⊢;rcases hb with h|h|h|h <;> simp[h])⟩;rw[el];exact⟨hz,hTI,hTO,h1,h2,p1.isList,p2.isList⟩
 self:=λ_ _ _ _ _ st h=>wpAny_pyIter_zip st.1 h
theorem sr{P:Program}{w:World}{K:W.Frag}{elts:List Expr}{kt:Nat}{pos:Pos}(e it l:Addr)(hei:e≠it)(hle:l≠e)(hli:l≠it) :
  Fr P w K (.Tuple elts kt pos) (Ite K l) [e,it] e (λi h=>(∃old,IsEnum h e it i old)/\h.IsListIter it l i) where
 mem:=by simp
 obj:=λi h st b hb=>by
  obtain⟨⟨old,he⟩,⟨o1,e1,c1,d1⟩⟩:=st;simp only[List.mem_cons,List.not_mem_nil,or_false]at hb;rcases hb with rfl|rfl
  ·exact⟨_,he,λv y=>by cases y⟩
  ·exact⟨o1,e1,λv y=>by rw[d1]at y;cases y⟩
 keep:=λi h h' st k=>by
  obtain⟨⟨old,he⟩,h1⟩:=st;exact⟨⟨old,k e (by simp) _ he⟩,h1.at λo x=>k it (by simp) o x⟩
 item:=by
  intro X hP hw hK hc i pins s σ H E I hf st hg;subst hP hw hK;obtain⟨xs,x,q1,hx⟩:=hg;obtain⟨its,r1,p1,_⟩:=I.list q1;obtain⟨u1,hu1,ru1⟩:=r1.get hx;have W:=WalksT.enumerate (prog:=X.prog) (w:=X.w) (I.ok.hd hc) e it l hei hle hli its.toArray;have hn:i<its.toArray.size:=by
   have g1:=(List.getElem?_eq_some_iff.mp hu1).1;simp only[List.size_toArray];omega
  obtain⟨he,h1⟩:=st;refine lz W I (λb hb=>hf b (by simpa using hb)) hn ⟨he,h1,p1.isList⟩ λT vals s2 hp hT tup st2 J2 kall=>?_;obtain⟨tk,v1,e1,rfl⟩:=hp;have e1':its[i]? = some v1:=by simpa using e1
  rw[hu1]at e1';cases e1';obtain⟨J3,nT⟩:=lA (xs:=[.int (i:Int),x]) (us:=[.int i tk,u1]) I J2 hT tup (.cons ⟨_,rfl⟩ (.cons ru1 .nil)) (Sp1.sz (by simp));obtain⟨he2,h12,_⟩:=st2;refine⟨.ref T,upd H T (.tup [.int (i:Int),x]),J3,rfl,⟨T,x,rfl,nT,rfl,λas qa=>?_⟩,⟨he2,h12⟩,λb hb=>?_⟩
  ·rw[I.list_inj qa q1]
   exact hx
  ·have hb':∃o,s.heap.get? b=some o:=by
    obtain⟨old,he⟩:=he;obtain⟨o1,e1,_⟩:=h1;simp only[List.mem_cons,List.not_mem_nil,or_false]at hb;rcases hb with rfl|rfl
    ·exact⟨_,he⟩
    ·exact⟨_,e1⟩
   obtain⟨o,eo⟩:=hb';rw[aP (Nat.ne_of_lt (Nat.lt_of_lt_of_le (Heap.lt_size eo) hT))];exact(hf b hb).1
 done:=by
  intro X hP hw hK hc i pins s σ H E I hf st hg;subst hP hw hK;obtain⟨xs,q1,rfl⟩:=hg;obtain⟨its,r1,p1,_⟩:=I.list q1;have W:=WalksT.enumerate (prog:=X.prog) (w:=X.w) (I.ok.hd hc) e it l hei hle hli its.toArray;obtain⟨he,h1⟩:=st;refine W.done s _ E ?_ λh' tk kk=>⟨rfl,I.turnedL (t':=tk) kk λb hb=>hf b (by simpa using hb)⟩;rw[List.size_toArray,<- r1.length];exact⟨he,h1,p1.isList⟩
 self:=λ_ _ _ _ _ st h=>by
  obtain⟨⟨old,he⟩,_⟩:=st;exact wpAny_pyIter_enum he h
section
variable {X:Cx} {elts:List Expr} {kt:Nat} {tpos:Pos}
noncomputable def z9(K:W.Frag)(ta:TA):TI:=λσ H R=>ta σ H λvs H1=>∃a b,vs = [.ref a,.ref b]/\(∃xs,SqL K H1 a xs)/\(∃ys,SqL K H1 b ys)/\R (Itz K a b) H1
noncomputable def zo(K:W.Frag)(ta:TA):TI:=λσ H R=>ta σ H λvs H1=>∃a,vs = [.ref a]/\(∃xs,SqL K H1 a xs)/\R (Ite K a) H1
theorem yD:bootBuiltins "zip" = some (.type "zip"):=by decide +kernel
theorem nI:bootBuiltins "enumerate" = some (.type "enumerate"):=by decide +kernel
theorem qd{a b:Expr}{ta:TA}{p pos:Pos}(hg:Gl X "zip")(hm:X.mg "zip" = none)(ha:PA X [a,b] ta)(hs:starEach [a,b] X.env = [(false,eval a X.env),(false,eval b X.env)]:=by rfl)(hs2:starEach [b] X.env = [(false,eval b X.env)]:=by rfl) :
  PI X (.Tuple elts kt tpos) (.Call (.Name "zip" p) [a,b] [] pos) (z9 X.K ta):=by
 intro pins s σ H R I h;refine Call_ (gg I hg hm yD (PyProof.Rows.callWith_type1 (thn (ha pos pins s σ H _ I h) λus s1 ⟨vs,H1,I1,r1,q1⟩=>?_) (by rw[hs,hs2]) (by rw[hs2];rfl)));obtain⟨l1,l2,e,⟨xs,hx⟩,⟨ys,hy⟩,q⟩:=q1;subst e;cases r1 with
 | cons r rr =>
  cases rr with
  | cons r' rr =>
   cases rr;cases r;cases r';obtain⟨its,_,p1,_⟩:=I1.list hx;obtain⟨jts,_,p2,_⟩:=I1.list hy;refine call_zip_2 p1.isList p2.isList λh' hz hTI hTO hi1 hi2 hsz hk=>?_;refine wpAny_pyIter_zip hz ?_;have a1:l1<s1.heap.objs.size:=by obtain⟨_,e,_⟩:=p1.isList;exact Heap.lt_size e
   have a2:l2<s1.heap.objs.size:=by obtain⟨_,e,_⟩:=p2.isList;exact Heap.lt_size e
   refine⟨s1.heap.objs.size+4,[s1.heap.objs.size+4,s1.heap.objs.size+2,s1.heap.objs.size+3,s1.heap.objs.size,s1.heap.objs.size+1],_,_,H1,rfl,I1.kept (t':=s1.toks) hk,tP _ _ _ _ _ l1 l2 (zipApart_new a1 a2),⟨hz,hTI,⟨_,_,hTO⟩,hi1,hi2⟩,λb hb=>?_,q⟩;have hb':s1.heap.objs.size<=b:=by
    simp only[List.mem_cons,List.not_mem_nil,or_false]at hb;rcases hb with rfl|rfl|rfl|rfl|rfl <;> omega
   exact I1.fpOk hb' (I1.hok.fresh hb')
theorem qW{a:Expr}{ta:TA}{p pos:Pos}(hg:Gl X "enumerate")(hm:X.mg "enumerate" = none)(ha:PA X [a] ta)(hs:starEach [a] X.env = [(false,eval a X.env)]:=by rfl) :
  PI X (.Tuple elts kt tpos) (.Call (.Name "enumerate" p) [a] [] pos) (zo X.K ta):=by
 intro pins s σ H R I h;refine Call_ (gg I hg hm nI (PyProof.Rows.callWith_type1 (thn (ha pos pins s σ H _ I h) λus s1 ⟨vs,H1,I1,r1,q1⟩=>?_) hs rfl));obtain⟨l,e,⟨xs,hx⟩,q⟩:=q1;subst e;cases r1 with
 | cons r rr =>
  cases rr;cases r;obtain⟨its,_,p1,_⟩:=I1.list hx;refine call_enumerate_list p1.isList λh' he hi hsz hk=>?_;refine wpAny_pyIter_enum he ?_;have a1:l<s1.heap.objs.size:=by obtain⟨_,e,_⟩:=p1.isList;exact Heap.lt_size e
  refine⟨s1.heap.objs.size+1,[s1.heap.objs.size+1,s1.heap.objs.size],_,_,H1,rfl,I1.kept (t':=s1.toks) hk,sr _ _ l (Nat.succ_ne_self _) (Nat.ne_of_lt (Nat.lt_succ_of_lt a1)) (Nat.ne_of_lt a1),⟨⟨_,he⟩,hi⟩,λb hb=>?_,q⟩;have hb':s1.heap.objs.size<=b:=by
   simp only[List.mem_cons,List.not_mem_nil,or_false]at hb;rcases hb with rfl|rfl <;> omega
  exact I1.fpOk hb' (I1.hok.fresh hb')
end
theorem rL{K:W.Frag}{a b:Addr}{xs ys:List V}{g:TG}{tb:TS}{D:fK}{σ:St}{H:Hp}(Pv:Nat->St->Hp->Prop)(h0:Pv 0 σ H)(hl:∀i σ H,i<=min xs.length ys.length->Pv i σ H->SqL K H a xs/\SqL K H b ys)
  (hs:∀i x y p σ H H1,xs[i]? = some x->ys[i]? = some y->Pv i σ H->Same H H1->H1 p=some (.tup [x,y])->g (.ref p) σ H1 λσ2 H2=>tb { D with nx:=Pv (i+1),ct:=Pv (i+1),bk:=D.nx } σ2 H2) (hd:∀σ H,Pv (min xs.length ys.length) σ H->D.nx σ H) :
  ∃W:Nat->Nat->St->Hp->Prop,(∃m,W 0 m σ H)/\∀i m σ H,W i m σ H ->
   ((Itz K a b).stop i H/\D.nx σ H)\/((Itz K a b).go i H/\∃N:St->Hp->Prop,(∀σ' H',N σ' H'->∃m',m'<m/\W (i+1) m' σ' H')/\∀x H',(Itz K a b).yld i H x H'->g x σ H' λσ2 H2=>tb { D with nx:=N,ct:=N,bk:=D.nx } σ2 H2):=by
 refine⟨λi m σ H=>m=min xs.length ys.length - i/\i<=min xs.length ys.length/\Pv i σ H,⟨_,rfl,Nat.zero_le _,h0⟩,?_⟩;rintro i m σ H ⟨rfl,hi,p⟩;obtain⟨q1,q2⟩:=hl i σ H hi p
 by_cases hlt:i<min xs.length ys.length
 ·have h1:i<xs.length:=by omega
  have h2:i<ys.length:=by omega
  refine .inr ⟨⟨xs,ys,xs[i],ys[i],q1,q2,by simp[h1],by simp[h2]⟩,Pv (i+1),λσ' H' p'=>⟨_,by omega,rfl,hlt,p'⟩,λv H' y=>?_⟩;obtain⟨t,x,y,rfl,nt,rfl,e⟩:=y;obtain⟨e1,e2⟩:=e xs ys q1 q2;exact hs i x y t σ H _ e1 e2 p (Same.new nt) upd_same
 ·have e:i=min xs.length ys.length:=by omega
  subst e;exact .inl ⟨⟨xs,ys,q1,q2,rfl⟩,hd σ H p⟩
theorem oS{K:W.Frag}{a:Addr}{xs:List V}{g:TG}{tb:TS}{D:fK}{σ:St}{H:Hp}(Pv:Nat->St->Hp->Prop)(h0:Pv 0 σ H)(hl:∀i σ H,i<=xs.length->Pv i σ H->SqL K H a xs)
  (hs:∀i x p σ H H1,xs[i]? = some x->Pv i σ H->Same H H1->H1 p=some (.tup [.int (i:Int),x])->g (.ref p) σ H1 λσ2 H2=>tb { D with nx:=Pv (i+1),ct:=Pv (i+1),bk:=D.nx } σ2 H2) (hd:∀σ H,Pv xs.length σ H->D.nx σ H) :
  ∃W:Nat->Nat->St->Hp->Prop,(∃m,W 0 m σ H)/\∀i m σ H,W i m σ H ->
   ((Ite K a).stop i H/\D.nx σ H)\/((Ite K a).go i H/\∃N:St->Hp->Prop,(∀σ' H',N σ' H'->∃m',m'<m/\W (i+1) m' σ' H')/\∀x H',(Ite K a).yld i H x H'->g x σ H' λσ2 H2=>tb { D with nx:=N,ct:=N,bk:=D.nx } σ2 H2):=by
 refine⟨λi m σ H=>m=xs.length - i/\i<=xs.length/\Pv i σ H,⟨_,rfl,Nat.zero_le _,h0⟩,?_⟩;rintro i m σ H ⟨rfl,hi,p⟩;have q1:=hl i σ H hi p
 by_cases hlt:i<xs.length
 ·refine .inr ⟨⟨xs,xs[i],q1,by simp[hlt]⟩,Pv (i+1),λσ' H' p'=>⟨_,by omega,rfl,hlt,p'⟩,λv H' y=>?_⟩
  obtain⟨t,x,rfl,nt,rfl,e⟩:=y;exact hs i x t σ H _ (e xs q1) p (Same.new nt) upd_same
 ·have e:i=xs.length:=by omega
  subst e;exact .inl ⟨⟨xs,q1,rfl⟩,hd σ H p⟩
inductive D where
 | non|bl (b:Bool)|int (i:Int)|str (x:Str)|tup (ds:List D)|lst (ds:List D)
inductive Rp (H:Hp):Nat->V->D->Prop where
 | non {n:Nat}:Rp H n .non .non
 | bl {n:Nat} {b:Bool}:Rp H n (.bl b) (.bl b)
 | int {n:Nat} {i:Int}:Rp H n (.int i) (.int i)
 | str {n:Nat} {x:Str}:Rp H n (.str x) (.str x)
 | tup {n:Nat} {p:Addr} {xs:List V} {ds:List D} (e:H p=some (.tup xs)) (hl:xs.length=ds.length) (h:∀(j:Nat) x d,xs[j]? = some x->ds[j]? = some d->Rp H n x d):Rp H (n+1) (.ref p) (.tup ds)
 | lst {n:Nat} {p:Addr} {xs:List V} {ds:List D} (e:H p=some (.lst xs)) (hl:xs.length=ds.length) (h:∀(j:Nat) x d,xs[j]? = some x->ds[j]? = some d->Rp H n x d):Rp H (n+1) (.ref p) (.lst ds)
mutual
noncomputable def deq:D->D->Bool
 | .non,.non=>true
 | .bl a,.bl b=>a == b
 | .bl a,.int b=>(if a then 1 else 0) == b
 | .int a,.bl b=>a == (if b then 1 else 0)
 | .int a,.int b=>a == b
 | .str a,.str b=>a == b
 | .tup xs,.tup ys=>gY xs ys
 | .lst xs,.lst ys=>gY xs ys
 | _,_=>false
noncomputable def gY:List D->List D->Bool
 | [],[]=>true
 | x::xs,y::ys=>deq x y && gY xs ys
 | _,_=>false
end
theorem eV:∀(ds es:List D),((List.range (min ds.length es.length)).all (λj=>deq (ds.getD j .non) (es.getD j .non)) && ds.length == es.length)=gY ds es
 | [],[]=>by simp[gY]
 | [],e::es=>by simp[gY]
 | d::ds,[]=>by simp[gY]
 | d::ds,e::es=>by
  have ih:=eV ds es;have hm:min (d::ds).length (e::es).length=min ds.length es.length+1:=by simp only[List.length_cons];omega
  rw[hm,List.range_succ_eq_map,List.all_cons,List.all_map];simp only[gY,List.getD_cons_zero,List.length_cons];rw[<- ih,Bool.and_assoc]
  congr 1
  simp[Function.comp_def]
theorem kM{ds es:List D}(h:ds.length≠es.length):gY ds es=false:=by
 rw[<- eV];simp[h]
theorem gO{ds es:List D}(h:ds.length=es.length):(List.range ds.length).all (λj=>deq (ds.getD j .non) (es.getD j .non))=gY ds es:=by
 rw[<- eV,h];simp
theorem rP{ds es:List D}(hl:ds.length=es.length)(h:∀(j:Nat) d e,ds[j]? = some d->es[j]? = some e->deq d e=true):gY ds es=true:=by
 rw[<- gO hl,List.all_eq_true];intro j hj;have hj':j<ds.length:=List.mem_range.mp hj;have hj2:j<es.length:=by omega
 have e1:ds[j]? = some ds[j]:=List.getElem?_eq_getElem hj';have e2:es[j]? = some es[j]:=List.getElem?_eq_getElem hj2;rw[List.getD_eq_getElem?_getD,List.getD_eq_getElem?_getD,e1,e2];exact h j _ _ e1 e2
theorem kr{α β:Type}{xs:List α}{ds:List β}{j:Nat}{d:β}(hl:xs.length=ds.length)(h:ds[j]? = some d):∃x,xs[j]? = some x:=by
 have:=(List.getElem?_eq_some_iff.mp h).1;exact⟨xs[j],List.getElem?_eq_getElem (by omega)⟩
theorem Rp.self{H:Hp}{n m:Nat}{v:V}{d e:D}(r:Rp H n v d)(q:Rp H m v e):deq d e=true:=by
 induction r generalizing m e with
 | non=>cases q;rfl
 | bl=>cases q;simp[deq]
 | int=>cases q;simp[deq]
 | str=>cases q;simp[deq]
 | tup e1 hl h ih =>
  cases q with
  | tup e2 hl2 h2 =>
   rw[e1]at e2;cases e2;refine rP (by omega) λj a b ea eb=>?_;obtain⟨x,hx⟩:=kr hl ea;exact ih j x a hx ea (h2 j x b hx eb)
  | lst e2 hl2 h2=>rw[e1]at e2;cases e2
 | lst e1 hl h ih =>
  cases q with
  | tup e2 hl2 h2=>rw[e1]at e2;cases e2
  | lst e2 hl2 h2 =>
   rw[e1]at e2;cases e2;refine rP (by omega) λj a b ea eb=>?_;obtain⟨x,hx⟩:=kr hl ea;exact ih j x a hx ea (h2 j x b hx eb)
section
variable {X:Cx} {pins:List (Addr×Obj)} {σ:St} {H:Hp} {s:Shared}
theorem gN{A:Around}{xs ys:List V}{us ws:List Value}{ds es:List D}(r:aJ xs us)(r':aJ ys ws)(hl:xs.length=ds.length)(hl':ys.length=es.length)
  (h:∀(j:Nat) x y d e u w,xs[j]? = some x->ys[j]? = some y->ds[j]? = some d->es[j]? = some e->a6 x u->a6 y w->SeqAt.EqAt A s u w (deq d e))
  (j:Nat) (h1:j<us.toArray.size) (h2:j<ws.toArray.size):SeqAt.EqAt A s us.toArray[j] ws.toArray[j] (deq (ds.getD j .non) (es.getD j .non)):=by
 rw[List.size_toArray]at h1 h2;obtain⟨a,ea,ra⟩:=qN r h1;obtain⟨c,ec,rc⟩:=qN r' h2;have g1:=(List.getElem?_eq_some_iff.mp ea).1;have g2:=(List.getElem?_eq_some_iff.mp ec).1;have e1:ds[j]? = some ds[j]:=List.getElem?_eq_getElem (by omega);have e2:es[j]? = some es[j]:=List.getElem?_eq_getElem (by omega);rw[List.getD_eq_getElem?_getD,List.getD_eq_getElem?_getD,e1,e2];exact h j a c _ _ _ _ ea ec e1 e2 ra rc
theorem Rp.eqAt{n:Nat}{x:V}{d:D}(r:Rp H n x d):∀{m:Nat} {y:V} {e:D} {A:Around} {u v:Value},Rp H m y e->Aj X pins σ H s->a6 x u->a6 y v->A.units+n<cLine->SeqAt.EqAt A s u v (deq d e):=by
 induction r with
 | non =>
  intro m y e A u v q I ru rv hu;cases ru;cases q with
  | non=>cases rv;exact SeqAt.EqAt.same _
  | bl=>cases rv;exact SeqAt.EqAt.none_bool _
  | int=>obtain⟨_,rfl⟩:=rv;exact SeqAt.EqAt.none_int _ _
  | str=>obtain⟨_,rfl⟩:=rv;exact SeqAt.EqAt.none_str _ _
  | tup e1 hl h=>cases rv;obtain⟨its,_,pl,_⟩:=I.tuple (SqT.of e1);exact SeqAt.EqAt.none_tuple pl (by omega)
  | lst e1 hl h=>cases rv;obtain⟨its,_,pl,_⟩:=I.list (SqL.of e1);exact SeqAt.EqAt.none_list pl.isList (by omega)
 | bl =>
  intro m y e A u v q I ru rv hu;cases ru;cases q with
  | non=>cases rv;exact SeqAt.EqAt.bool_none _
  | bl=>cases rv;exact SeqAt.EqAt.bool_bool _ _
  | int=>obtain⟨_,rfl⟩:=rv;exact SeqAt.EqAt.bool_int _ _ _
  | str=>obtain⟨_,rfl⟩:=rv;exact SeqAt.EqAt.bool_str _ _ _
  | tup e1 hl h=>cases rv;obtain⟨its,_,pl,_⟩:=I.tuple (SqT.of e1);exact SeqAt.EqAt.bool_tuple _ pl (by omega)
  | lst e1 hl h=>cases rv;obtain⟨its,_,pl,_⟩:=I.list (SqL.of e1);exact SeqAt.EqAt.bool_list _ pl.isList (by omega)
 | int =>
  intro m y e A u v q I ru rv hu;obtain⟨_,rfl⟩:=ru;cases q with
  | non=>cases rv;exact SeqAt.EqAt.int_none _ _
  | bl=>cases rv;exact SeqAt.EqAt.int_bool _ _ _
  | int=>obtain⟨_,rfl⟩:=rv;exact SeqAt.EqAt.int_int _ _ _ _
  | str=>obtain⟨_,rfl⟩:=rv;exact SeqAt.EqAt.int_str _ _ _ _
  | tup e1 hl h=>cases rv;obtain⟨its,_,pl,_⟩:=I.tuple (SqT.of e1);exact SeqAt.EqAt.int_tuple _ _ pl (by omega)
  | lst e1 hl h=>cases rv;obtain⟨its,_,pl,_⟩:=I.list (SqL.of e1);exact SeqAt.EqAt.int_list _ _ pl.isList (by omega)
 | str =>
  intro m y e A u v q I ru rv hu;obtain⟨_,rfl⟩:=ru;cases q with
  | non=>cases rv;exact SeqAt.EqAt.str_none _ _
  | bl=>cases rv;exact SeqAt.EqAt.str_bool _ _ _
  | int=>obtain⟨_,rfl⟩:=rv;exact SeqAt.EqAt.str_int _ _ _ _
  | str=>obtain⟨_,rfl⟩:=rv;exact SeqAt.EqAt.str_str _ _ _ _
  | tup e1 hl h=>cases rv;obtain⟨its,_,pl,_⟩:=I.tuple (SqT.of e1);exact SeqAt.EqAt.str_tuple _ _ pl (by omega)
  | lst e1 hl h=>cases rv;obtain⟨its,_,pl,_⟩:=I.list (SqL.of e1);exact SeqAt.EqAt.str_list _ _ pl.isList (by omega)
 | @tup n p xs ds e0 hl h ih =>
  intro m y e A u v q I ru rv hu;cases ru;obtain⟨its,r1,pl,_⟩:=I.tuple (SqT.of e0);cases q with
  | non=>cases rv;exact SeqAt.EqAt.tuple_none pl (by omega)
  | bl=>cases rv;exact SeqAt.EqAt.tuple_bool _ pl (by omega)
  | int=>obtain⟨_,rfl⟩:=rv;exact SeqAt.EqAt.tuple_int _ _ pl (by omega)
  | str=>obtain⟨_,rfl⟩:=rv;exact SeqAt.EqAt.tuple_str _ _ pl (by omega)
  | lst e1 hl1 h1=>cases rv;obtain⟨jts,_,pl',_⟩:=I.list (SqL.of e1);exact SeqAt.EqAt.tuple_list pl pl'.isList (by omega)
  | @tup m p' ys es e1 hl1 h1 =>
   cases rv
   by_cases hne:p=p'
   ·subst hne
    have z:deq (.tup ds) (.tup es)=true:=Rp.self (Rp.tup e0 hl h) (Rp.tup e1 hl1 h1);rw[z];exact SeqAt.EqAt.same _
   ·obtain⟨jts,r2,pl',_⟩:=I.tuple (SqT.of e1)
    have y:=SeqAt.RcAt.tuples (A:=A) (e:=λj=>deq (ds.getD j .non) (es.getD j .non)) pl pl' (by omega) (gN r1 r2 hl hl1 λj x y d e u w a b c k ra rb=>ih j x d a c (h1 j y e b k) I ra rb (by show A.units+1+n<cLine;omega));rw[List.size_toArray,List.size_toArray,<- r1.length,<- r2.length,hl,hl1,eV]at y;exact SeqAt.EqAt.of_refs hne y
 | @lst n p xs ds e0 hl h ih =>
  intro m y e A u v q I ru rv hu;cases ru;obtain⟨its,r1,pl,_⟩:=I.list (SqL.of e0);cases q with
  | non=>cases rv;exact SeqAt.EqAt.list_none pl.isList (by omega)
  | bl=>cases rv;exact SeqAt.EqAt.list_bool _ pl.isList (by omega)
  | int=>obtain⟨_,rfl⟩:=rv;exact SeqAt.EqAt.list_int _ _ pl.isList (by omega)
  | str=>obtain⟨_,rfl⟩:=rv;exact SeqAt.EqAt.list_str _ _ pl.isList (by omega)
  | tup e1 hl1 h1=>cases rv;obtain⟨jts,_,pl',_⟩:=I.tuple (SqT.of e1);exact SeqAt.EqAt.list_tuple pl.isList pl' (by omega)
  | @lst m p' ys es e1 hl1 h1 =>
   cases rv
   by_cases hne:p=p'
   ·subst hne
    have z:deq (.lst ds) (.lst es)=true:=Rp.self (Rp.lst e0 hl h) (Rp.lst e1 hl1 h1);rw[z];exact SeqAt.EqAt.same _
   ·obtain⟨jts,r2,pl',_⟩:=I.list (SqL.of e1)
    have g1:=r1.length;have g2:=r2.length
    by_cases hz:ds.length=es.length
    ·have y:=SeqAt.RcAt.lists (A:=A) (e:=λj=>deq (ds.getD j .non) (es.getD j .non)) pl.isList pl'.isList (by rw[List.size_toArray,List.size_toArray];omega) (by omega) (gN r1 r2 hl hl1 λj x y d e u w a b c k ra rb=>ih j x d a c (h1 j y e b k) I ra rb (by show A.units+1+n<cLine;omega))
     rw[List.size_toArray,<- r1.length,hl,gO hz]at y;exact SeqAt.EqAt.of_refs hne y
    ·rw[show deq (.lst ds) (.lst es)=false from kM hz]
     exact SeqAt.EqAt.of_refs hne (SeqAt.RcAt.lists_lengths pl.isList pl'.isList (by rw[List.size_toArray,List.size_toArray];simp;omega) (by omega))
end
section
variable {X:Cx} {pins:List (Addr×Obj)} {σ:St} {H:Hp} {s:Shared}
theorem Rp.rcAt{A:Around}{n m:Nat}{x y:V}{d e:D}{u v:Value}(r:Rp H n x d)(q:Rp H m y e)(I:Aj X pins σ H s)(ru:a6 x u)(rv:a6 y v)(hu:A.units+n+1<cLine):SeqAt.RcAt A s u v (deq d e):=by
 cases r with
 | non =>
  cases q with
  | non =>
   cases ru;cases rv;exact SeqAt.RcAt.none_none
  | bl =>
   cases ru;cases rv;exact SeqAt.RcAt.none_bool _
  | int =>
   cases ru;obtain⟨_,rfl⟩:=rv;exact SeqAt.RcAt.none_int _ _
  | str =>
   cases ru;obtain⟨_,rfl⟩:=rv;exact SeqAt.RcAt.none_str _ _
  | @tup m p' ys es e1 hl1 h1 =>
   cases ru;cases rv;obtain⟨jts,r2,pl',_⟩:=I.tuple (SqT.of e1);exact SeqAt.RcAt.none_tuple pl' (by omega)
  | @lst m p' ys es e1 hl1 h1 =>
   cases ru;cases rv;obtain⟨jts,r2,pl',_⟩:=I.list (SqL.of e1);exact SeqAt.RcAt.none_list pl'.isList (by omega)
 | bl =>
  cases q with
  | non =>
   cases ru;cases rv;exact SeqAt.RcAt.bool_none _
  | bl =>
   cases ru;cases rv;exact SeqAt.RcAt.bool_bool _ _
  | int =>
   cases ru;obtain⟨_,rfl⟩:=rv;exact SeqAt.RcAt.bool_int _ _ _
  | str =>
   cases ru;obtain⟨_,rfl⟩:=rv;exact SeqAt.RcAt.bool_str _ _ _
  | @tup m p' ys es e1 hl1 h1 =>
   cases ru;cases rv;obtain⟨jts,r2,pl',_⟩:=I.tuple (SqT.of e1);exact SeqAt.RcAt.bool_tuple _ pl' (by omega)
  | @lst m p' ys es e1 hl1 h1 =>
   cases ru;cases rv;obtain⟨jts,r2,pl',_⟩:=I.list (SqL.of e1);exact SeqAt.RcAt.bool_list _ pl'.isList (by omega)
 | int =>
  cases q with
  | non =>
   obtain⟨_,rfl⟩:=ru;cases rv;exact SeqAt.RcAt.int_none _ _
  | bl =>
   obtain⟨_,rfl⟩:=ru;cases rv;exact SeqAt.RcAt.int_bool _ _ _
  | int =>
   obtain⟨_,rfl⟩:=ru;obtain⟨_,rfl⟩:=rv;exact SeqAt.RcAt.int_int _ _ _ _
  | str =>
   obtain⟨_,rfl⟩:=ru;obtain⟨_,rfl⟩:=rv;exact SeqAt.RcAt.int_str _ _ _ _
  | @tup m p' ys es e1 hl1 h1 =>
   obtain⟨_,rfl⟩:=ru;cases rv;obtain⟨jts,r2,pl',_⟩:=I.tuple (SqT.of e1);exact SeqAt.RcAt.int_tuple _ _ pl' (by omega)
  | @lst m p' ys es e1 hl1 h1 =>
   obtain⟨_,rfl⟩:=ru;cases rv;obtain⟨jts,r2,pl',_⟩:=I.list (SqL.of e1);exact SeqAt.RcAt.int_list _ _ pl'.isList (by omega)
 | str =>
  cases q with
  | non =>
   obtain⟨_,rfl⟩:=ru;cases rv;exact SeqAt.RcAt.str_none _ _
  | bl =>
   obtain⟨_,rfl⟩:=ru;cases rv;exact SeqAt.RcAt.str_bool _ _ _
  | int =>
   obtain⟨_,rfl⟩:=ru;obtain⟨_,rfl⟩:=rv;exact SeqAt.RcAt.str_int _ _ _ _
  | str =>
   obtain⟨_,rfl⟩:=ru;obtain⟨_,rfl⟩:=rv;exact SeqAt.RcAt.str_str _ _ _ _
  | @tup m p' ys es e1 hl1 h1 =>
   obtain⟨_,rfl⟩:=ru;cases rv;obtain⟨jts,r2,pl',_⟩:=I.tuple (SqT.of e1);exact SeqAt.RcAt.str_tuple _ _ pl' (by omega)
  | @lst m p' ys es e1 hl1 h1 =>
   obtain⟨_,rfl⟩:=ru;cases rv;obtain⟨jts,r2,pl',_⟩:=I.list (SqL.of e1);exact SeqAt.RcAt.str_list _ _ pl'.isList (by omega)
 | @tup n p xs ds e0 hl h =>
  cases q with
  | non =>
   cases ru;cases rv;obtain⟨its,r1,pl,_⟩:=I.tuple (SqT.of e0);exact SeqAt.RcAt.tuple_none pl (by omega)
  | bl =>
   cases ru;cases rv;obtain⟨its,r1,pl,_⟩:=I.tuple (SqT.of e0);exact SeqAt.RcAt.tuple_bool _ pl (by omega)
  | int =>
   cases ru;obtain⟨_,rfl⟩:=rv;obtain⟨its,r1,pl,_⟩:=I.tuple (SqT.of e0);exact SeqAt.RcAt.tuple_int _ _ pl (by omega)
  | str =>
   cases ru;obtain⟨_,rfl⟩:=rv;obtain⟨its,r1,pl,_⟩:=I.tuple (SqT.of e0);exact SeqAt.RcAt.tuple_str _ _ pl (by omega)
  | @tup m p' ys es e1 hl1 h1 =>
   cases ru;cases rv;obtain⟨its,r1,pl,_⟩:=I.tuple (SqT.of e0);obtain⟨jts,r2,pl',_⟩:=I.tuple (SqT.of e1);have y:=SeqAt.RcAt.tuples (A:=A) (e:=λj=>deq (ds.getD j .non) (es.getD j .non)) pl pl' (by omega) (gN r1 r2 hl hl1 λj x y d e u w a b c k ra rb=>(h j x d a c).eqAt (h1 j y e b k) I ra rb (by show A.units+1+_<cLine;omega));rw[List.size_toArray,List.size_toArray,<- r1.length,<- r2.length,hl,hl1,eV]at y;exact y
  | @lst m p' ys es e1 hl1 h1 =>
   cases ru;cases rv;obtain⟨its,r1,pl,_⟩:=I.tuple (SqT.of e0);obtain⟨jts,r2,pl',_⟩:=I.list (SqL.of e1);exact SeqAt.RcAt.tuple_list pl pl'.isList (by omega)
 | @lst n p xs ds e0 hl h =>
  cases q with
  | non =>
   cases ru;cases rv;obtain⟨its,r1,pl,_⟩:=I.list (SqL.of e0);exact SeqAt.RcAt.list_none pl.isList (by omega)
  | bl =>
   cases ru;cases rv;obtain⟨its,r1,pl,_⟩:=I.list (SqL.of e0);exact SeqAt.RcAt.list_bool _ pl.isList (by omega)
  | int =>
   cases ru;obtain⟨_,rfl⟩:=rv;obtain⟨its,r1,pl,_⟩:=I.list (SqL.of e0);exact SeqAt.RcAt.list_int _ _ pl.isList (by omega)
  | str =>
   cases ru;obtain⟨_,rfl⟩:=rv;obtain⟨its,r1,pl,_⟩:=I.list (SqL.of e0);exact SeqAt.RcAt.list_str _ _ pl.isList (by omega)
  | @tup m p' ys es e1 hl1 h1 =>
   cases ru;cases rv;obtain⟨its,r1,pl,_⟩:=I.list (SqL.of e0);obtain⟨jts,r2,pl',_⟩:=I.tuple (SqT.of e1);exact SeqAt.RcAt.list_tuple pl.isList pl' (by omega)
  | @lst m p' ys es e1 hl1 h1 =>
   cases ru;cases rv;obtain⟨its,r1,pl,_⟩:=I.list (SqL.of e0);obtain⟨jts,r2,pl',_⟩:=I.list (SqL.of e1);have g1:=r1.length;have g2:=r2.length
   by_cases hz:ds.length=es.length
   ·have y:=SeqAt.RcAt.lists (A:=A) (e:=λj=>deq (ds.getD j .non) (es.getD j .non)) pl.isList pl'.isList (by rw[List.size_toArray,List.size_toArray];omega) (by omega) (gN r1 r2 hl hl1 λj x y d e u w a b c k ra rb=>(h j x d a c).eqAt (h1 j y e b k) I ra rb (by show A.units+1+_<cLine;omega))
    rw[List.size_toArray,<- r1.length,hl,gO hz]at y;exact y
   ·rw[show deq (.lst ds) (.lst es)=false from kM hz]
    exact SeqAt.RcAt.lists_lengths pl.isList pl'.isList (by rw[List.size_toArray,List.size_toArray];simp;omega) (by omega)
theorem Rp.rcNeAt{A:Around}{n m:Nat}{x y:V}{d e:D}{u v:Value}(r:Rp H n x d)(q:Rp H m y e)(I:Aj X pins σ H s)(ru:a6 x u)(rv:a6 y v)(hu:A.units+n+1<cLine):SeqAt.RcNeAt A s u v (!(deq d e)):=by
 cases r with
 | non =>
  cases q with
  | non =>
   cases ru;cases rv;exact SeqAt.RcNeAt.none_none
  | bl =>
   cases ru;cases rv;exact SeqAt.RcNeAt.none_bool _
  | int =>
   cases ru;obtain⟨_,rfl⟩:=rv;exact SeqAt.RcNeAt.none_int _ _
  | str =>
   cases ru;obtain⟨_,rfl⟩:=rv;exact SeqAt.RcNeAt.none_str _ _
  | @tup m p' ys es e1 hl1 h1 =>
   cases ru;cases rv;obtain⟨jts,r2,pl',_⟩:=I.tuple (SqT.of e1);exact SeqAt.RcNeAt.none_tuple pl' (by omega)
  | @lst m p' ys es e1 hl1 h1 =>
   cases ru;cases rv;obtain⟨jts,r2,pl',_⟩:=I.list (SqL.of e1);exact SeqAt.RcNeAt.none_list pl'.isList (by omega)
 | bl =>
  cases q with
  | non =>
   cases ru;cases rv;exact SeqAt.RcNeAt.bool_none _
  | bl =>
   cases ru;cases rv;exact SeqAt.RcNeAt.bool_bool _ _
  | int =>
   cases ru;obtain⟨_,rfl⟩:=rv;exact SeqAt.RcNeAt.bool_int _ _ _
  | str =>
   cases ru;obtain⟨_,rfl⟩:=rv;exact SeqAt.RcNeAt.bool_str _ _ _
  | @tup m p' ys es e1 hl1 h1 =>
   cases ru;cases rv;obtain⟨jts,r2,pl',_⟩:=I.tuple (SqT.of e1);exact SeqAt.RcNeAt.bool_tuple _ pl' (by omega)
  | @lst m p' ys es e1 hl1 h1 =>
   cases ru;cases rv;obtain⟨jts,r2,pl',_⟩:=I.list (SqL.of e1);exact SeqAt.RcNeAt.bool_list _ pl'.isList (by omega)
 | int =>
  cases q with
  | non =>
   obtain⟨_,rfl⟩:=ru;cases rv;exact SeqAt.RcNeAt.int_none _ _
  | bl =>
   obtain⟨_,rfl⟩:=ru;cases rv;exact SeqAt.RcNeAt.int_bool _ _ _
  | int =>
   obtain⟨_,rfl⟩:=ru;obtain⟨_,rfl⟩:=rv;exact SeqAt.RcNeAt.int_int _ _ _ _
  | str =>
   obtain⟨_,rfl⟩:=ru;obtain⟨_,rfl⟩:=rv;exact SeqAt.RcNeAt.int_str _ _ _ _
  | @tup m p' ys es e1 hl1 h1 =>
   obtain⟨_,rfl⟩:=ru;cases rv;obtain⟨jts,r2,pl',_⟩:=I.tuple (SqT.of e1);exact SeqAt.RcNeAt.int_tuple _ _ pl' (by omega)
  | @lst m p' ys es e1 hl1 h1 =>
   obtain⟨_,rfl⟩:=ru;cases rv;obtain⟨jts,r2,pl',_⟩:=I.list (SqL.of e1);exact SeqAt.RcNeAt.int_list _ _ pl'.isList (by omega)
 | str =>
  cases q with
  | non =>
   obtain⟨_,rfl⟩:=ru;cases rv;exact SeqAt.RcNeAt.str_none _ _
  | bl =>
   obtain⟨_,rfl⟩:=ru;cases rv;exact SeqAt.RcNeAt.str_bool _ _ _
  | int =>
   obtain⟨_,rfl⟩:=ru;obtain⟨_,rfl⟩:=rv;exact SeqAt.RcNeAt.str_int _ _ _ _
  | str =>
   obtain⟨_,rfl⟩:=ru;obtain⟨_,rfl⟩:=rv;exact SeqAt.RcNeAt.str_str _ _ _ _
  | @tup m p' ys es e1 hl1 h1 =>
   obtain⟨_,rfl⟩:=ru;cases rv;obtain⟨jts,r2,pl',_⟩:=I.tuple (SqT.of e1);exact SeqAt.RcNeAt.str_tuple _ _ pl' (by omega)
  | @lst m p' ys es e1 hl1 h1 =>
   obtain⟨_,rfl⟩:=ru;cases rv;obtain⟨jts,r2,pl',_⟩:=I.list (SqL.of e1);exact SeqAt.RcNeAt.str_list _ _ pl'.isList (by omega)
 | @tup n p xs ds e0 hl h =>
  cases q with
  | non =>
   cases ru;cases rv;obtain⟨its,r1,pl,_⟩:=I.tuple (SqT.of e0);exact SeqAt.RcNeAt.tuple_none pl (by omega)
  | bl =>
   cases ru;cases rv;obtain⟨its,r1,pl,_⟩:=I.tuple (SqT.of e0);exact SeqAt.RcNeAt.tuple_bool _ pl (by omega)
  | int =>
   cases ru;obtain⟨_,rfl⟩:=rv;obtain⟨its,r1,pl,_⟩:=I.tuple (SqT.of e0);exact SeqAt.RcNeAt.tuple_int _ _ pl (by omega)
  | str =>
   cases ru;obtain⟨_,rfl⟩:=rv;obtain⟨its,r1,pl,_⟩:=I.tuple (SqT.of e0);exact SeqAt.RcNeAt.tuple_str _ _ pl (by omega)
  | @tup m p' ys es e1 hl1 h1 =>
   cases ru;cases rv;obtain⟨its,r1,pl,_⟩:=I.tuple (SqT.of e0);obtain⟨jts,r2,pl',_⟩:=I.tuple (SqT.of e1);have y:=SeqAt.RcNeAt.tuples (A:=A) (e:=λj=>deq (ds.getD j .non) (es.getD j .non)) pl pl' (by omega) (gN r1 r2 hl hl1 λj x y d e u w a b c k ra rb=>(h j x d a c).eqAt (h1 j y e b k) I ra rb (by show A.units+1+_<cLine;omega));rw[List.size_toArray,List.size_toArray,<- r1.length,<- r2.length,hl,hl1,eV]at y;exact y
  | @lst m p' ys es e1 hl1 h1 =>
   cases ru;cases rv;obtain⟨its,r1,pl,_⟩:=I.tuple (SqT.of e0);obtain⟨jts,r2,pl',_⟩:=I.list (SqL.of e1);exact SeqAt.RcNeAt.tuple_list pl pl'.isList (by omega)
 | @lst n p xs ds e0 hl h =>
  cases q with
  | non =>
   cases ru;cases rv;obtain⟨its,r1,pl,_⟩:=I.list (SqL.of e0);exact SeqAt.RcNeAt.list_none pl.isList (by omega)
  | bl =>
   cases ru;cases rv;obtain⟨its,r1,pl,_⟩:=I.list (SqL.of e0);exact SeqAt.RcNeAt.list_bool _ pl.isList (by omega)
  | int =>
   cases ru;obtain⟨_,rfl⟩:=rv;obtain⟨its,r1,pl,_⟩:=I.list (SqL.of e0);exact SeqAt.RcNeAt.list_int _ _ pl.isList (by omega)
  | str =>
   cases ru;obtain⟨_,rfl⟩:=rv;obtain⟨its,r1,pl,_⟩:=I.list (SqL.of e0);exact SeqAt.RcNeAt.list_str _ _ pl.isList (by omega)
  | @tup m p' ys es e1 hl1 h1 =>
   cases ru;cases rv;obtain⟨its,r1,pl,_⟩:=I.list (SqL.of e0);obtain⟨jts,r2,pl',_⟩:=I.tuple (SqT.of e1);exact SeqAt.RcNeAt.list_tuple pl.isList pl' (by omega)
  | @lst m p' ys es e1 hl1 h1 =>
   cases ru;cases rv;obtain⟨its,r1,pl,_⟩:=I.list (SqL.of e0);obtain⟨jts,r2,pl',_⟩:=I.list (SqL.of e1);have g1:=r1.length;have g2:=r2.length
   by_cases hz:ds.length=es.length
   ·have y:=SeqAt.RcNeAt.lists (A:=A) (e:=λj=>deq (ds.getD j .non) (es.getD j .non)) pl.isList pl'.isList (by rw[List.size_toArray,List.size_toArray];omega) (by omega) (gN r1 r2 hl hl1 λj x y d e u w a b c k ra rb=>(h j x d a c).eqAt (h1 j y e b k) I ra rb (by show A.units+1+_<cLine;omega))
    rw[List.size_toArray,<- r1.length,hl,gO hz]at y;exact y
   ·rw[show deq (.lst ds) (.lst es)=false from kM hz]
    exact SeqAt.RcNeAt.lists_lengths pl.isList pl'.isList (by rw[List.size_toArray,List.size_toArray];simp;omega) (by omega)
end
section
variable {X:Cx}
inductive IC (neg:Bool) (x:V) (y:V) (H:Hp) (Q:VK):Prop
 | mk:∀d e,(Rp H 9 x d)->(Rp H 9 y e)->(Q (.bl (if neg then !(deq d e) else deq d e)) H)->IC neg x y H Q
theorem qo(hu:X.A.units+10<cLine):OpR X (compareOp .Eq) (IC false):=by
 intro pins s σ H x y v u Q I rx ry h;obtain⟨d,e,rd,re,k⟩:=h;exact rd.rcAt re I rx ry (by omega) _ _ _ _ ⟨.bl _,H,I,rfl,k⟩
theorem mJ(hu:X.A.units+10<cLine):OpR X (compareOp .NotEq) (IC true):=by
 intro pins s σ H x y v u Q I rx ry h;obtain⟨d,e,rd,re,k⟩:=h;exact rd.rcNeAt re I rx ry (by omega) _ _ _ _ ⟨.bl _,H,I,rfl,k⟩
end
section
variable {H:Hp} {n:Nat} {p:Addr} {x y z w:V} {a b c d:D}
theorem Rp.t2(e:H p=some (.tup [x,y]))(ha:Rp H n x a)(hb:Rp H n y b):Rp H (n+1) (.ref p) (.tup [a,b]):=.tup e rfl λj x d h k=>by
 match j with
 | 0=>cases h;cases k;exact ha
 | 1=>cases h;cases k;exact hb
 | j+2=>simp at h
theorem Rp.t3(e:H p=some (.tup [x,y,z]))(ha:Rp H n x a)(hb:Rp H n y b)(hc:Rp H n z c):Rp H (n+1) (.ref p) (.tup [a,b,c]):=.tup e rfl λj x d h k=>by
 match j with
 | 0=>cases h;cases k;exact ha
 | 1=>cases h;cases k;exact hb
 | 2=>cases h;cases k;exact hc
 | j+3=>simp at h
mutual
theorem d5:∀d:D,deq d d=true
 | .non=>rfl
 | .bl b=>by simp[deq]
 | .int i=>by simp[deq]
 | .str x=>by simp[deq]
 | .tup ds=>by simp only[deq];exact jn ds
 | .lst ds=>by simp only[deq];exact jn ds
theorem jn:∀ds:List D,gY ds ds=true
 | []=>by simp[gY]
 | d::ds=>by simp only[gY,Bool.and_eq_true];exact⟨d5 d,jn ds⟩
end
end
structure Go(X:Cx)(scope:Scope)(cl:List (Str×Addr))(xs:List Str)(fv:List (Str×Nat)):Prop where
 clos:closureFor scope X.env=pure cl
 kind:scope.kind = .function
 cell:∀y∈scope.names,y.2≠.cell
 names:∀y∈scope.names,y.2 = .local->scope.names.lookup y.1=some .local
 own:∀x∈xs,scope.names.lookup x=some .local
 cells:∀p∈cl,X.env.cells.lookup p.1=some p.2
 has:((relabel scope X.env).names.all λq=>!(q.2 == .cell || q.2 == .free) || (cl.lookup q.1).isSome)=true
 nd:(xs++fv.map (·.1)).Nodup
 slot:∀p∈fv,X.N[p.2]? = some p.1/\X.env.kindOf p.1=some .cell/\Vis X.env.scope p.1/\(cl.lookup p.1).isSome=true/\((relabel scope X.env).names.lookup p.1=some .cell)
 stk:X.stack=X.env::X.outer/\X.env.frame=some X.env.locals
 noex:X.ex = []
noncomputable def PTs(X:Cx)(ifs:List Expr)(tc:TT):Prop :=
 ∀(pins:List (Addr×Obj)) (s:Shared) (σ:St) (H:Hp) (Q:Bool->Hp->Prop),Aj X pins σ H s->tc σ H Q ->
  wpAny (model X.prog X.w) X.A (forIn ifs true λc r=>if r=true then do let ok <- isTrue c X.env (eval c X.env);pure (ForInStep.yield ok) else pure (ForInStep.yield r)) (λb s'=>∃H',Aj X pins σ H' s'/\Q b H') X.xe s
noncomputable def xK:TT:=λ_ H Q=>Q true H
theorem vX{X:Cx}:PTs X [] xK:=λpins s σ H Q I h=>wpAny_tests_nil ⟨H,I,h⟩
theorem pE{prog:Program}{w:World}{A:Around}{R:Result->Shared->Prop}{s:Shared}{elt target iter:Expr}{ifs:List Expr}{scope:Scope}{pos:Pos}{it acc:Value}{env:Env}(I:Nat->Shared->Prop)
  (turn:∀n s,I n s->wpAny (model prog w) A (pyNext it) (λr s1=>match r with
   | none=>R (.ok .next) s1
   | some v=>wpAny (model prog w) A (letOwnedTupleGo target it v) (λ_ s₀=>wpAny (model prog w) A (assign target env v) (λ_ s2 =>
     wpAny (model prog w) A (forIn ifs true λc r=>if r=true then do let ok <- isTrue c env (eval c env);pure (ForInStep.yield ok) else pure (ForInStep.yield r)) (λok s3 =>
      if ok=true then wpAny (model prog w) A (eval elt env) (λx s4 =>
       wpAny (model prog w) A (call (.builtin "list.append") [acc,x]) (λ_ s5=>∃m,m<n/\I m s5) (notedBy (model prog w) A env λe s'=>R (.error e) s') s4) (notedBy (model prog w) A env λe s'=>R (.error e) s') s3
      else ∃m,m<n/\I m s3) (notedBy (model prog w) A env λe s'=>R (.error e) s') s2) (notedBy (model prog w) A env λe s'=>R (.error e) s') s₀) (notedBy (model prog w) A env λe s'=>R (.error e) s') s1) (notedBy (model prog w) A env λe s'=>R (.error e) s') s)
  (n:Nat) (h:I n s):codeAny (model prog w) A (.compLoop (.ListComp elt [⟨target,iter,ifs,0⟩] scope pos) 0 it acc env) R s:=by
 refine codeAny_loop rfl I (λn s hI=>?_) n h;show wpAny _ A ((compTurn (.ListComp elt [⟨target,iter,ifs,0⟩] scope pos) 0 it acc env).onRaise (λx=>do noteFrame x env;theTreesLotGoes x)) _ _ s
 refine wpAny_noted ?_;rw[compTurn_list];refine wpAny_bind (wpAny_standAt (wpAny_bind (wpAny_mono (turn n s hI) (λr s1 h1=>?_) λ_ _ h'=>h')));cases r with
 | none=>exact wpAny_pure h1
 | some v =>
  refine wpAny_bind (wpAny_mono h1 (λ_ s₀ h₀=>?_) λ_ _ h'=>h');refine wpAny_bind (wpAny_mono h₀ (λ_ s2 h2=>wpAny_bind (wpAny_mono h2 (λok s3 h3=>?_) λ_ _ h'=>h')) λ_ _ h'=>h');cases ok with
  | false=>exact wpAny_pure ⟨rfl,h3⟩
  | true=>exact wpAny_bind (wpAny_bind (wpAny_mono h3 (λx s4 h4=>wpAny_bind (wpAny_mono h4 (λ_ s5 h5=>wpAny_pure (wpAny_pure ⟨rfl,h5⟩)) λ_ _ h'=>h')) λ_ _ h'=>h'))
noncomputable def jQ(J:It)(n:Nat)(fv:List (Str×Nat))(g:TG)(tc:TT)(te:TE)(σ:St)(H1:Hp)(Q:VK):Prop:=∀p,H1 p=none->∃W:Nat->Nat->List V->Hp->Prop,(∃m,W 0 m [] (upd H1 p (.lst [])))/\∀i m acc H2,W i m acc H2 ->
 H2 p=some (.lst acc)/\acc.length<sizeLine/\((J.stop i H2/\Q (.ref p) H2)\/(J.go i H2/\∀x H3,J.yld i H2 x H3->∀τ:St,τ.length=n->g x (τ++fvs fv σ) H3 λσ2 H4=>(∃τ':St,τ'.length=n/\σ2=τ'++fvs fv σ) /\
  tc σ2 H4 λb H5=>if b=true then te σ2 H5 (λy H6=>H6 p=some (.lst acc)/\∃m',m'<m/\W (i+1) m' (acc++[y]) (upd H6 p (.lst (acc++[y])))) else ∃m',m'<m/\W (i+1) m' acc H5))
noncomputable def xN(wi:TI)(n:Nat)(fv:List (Str×Nat))(g:TG)(tc:TT)(te:TE):TE:=λσ H Q=>wi σ H λJ H1=>jQ J n fv g tc te σ H1 Q
section
variable {X:Cx} {scope:Scope} {cl:List (Str×Addr)} {xs:List Str} {fv:List (Str×Nat)} {elt iter tg:Expr} {ifs:List Expr} {pos:Pos} {te:TE} {tc:TT} {g:TG}
theorem xc{pins:List (Addr×Obj)}{σ:St}{H:Hp}{s:Shared}{fp:List Addr}(C:Go X scope cl xs fv)(I:Aj X pins σ H s)(hf:∀b∈fp,ee X pins H b)(ho:∀b∈fp,b<s.heap.objs.size):(X.blk (xs++fv.map (·.1)) scope cl fp s H).Ok:=by
 have hcl:∀y c,cl.lookup y=some c->X.env.cells.lookup y=some c:=λy c h=>C.cells _ (cg h);have old:∀b∈fp,X.s₀.heap.objs.size<=b:=λb hb=>by
  rcases(hf b hb).2.2.2.1 with z|z
  ·rw[C.noex]at z
   cases z
  ·exact z
 refine⟨I.ok.mod,by show(relabel scope X.env).kind=_;exact C.kind,I.ok.glob,I.ok.blt,Nat.le_refl _,λy z c h1 h2=>I.ok.inj y z c (hcl y c h1) (hcl z c h2),λy hy=>?_,(λy c h=>by cases h),I.ok.hd,I.ok.frames,.inl rfl,λb hb=>?_,λb o e=>I.bs b o e,Nat.le_trans I.ok.bsz I.sz,λb o e hb=>?_,λb hb hm=>?_,I.stack,I.stkFree⟩
 ·have q:=C.has
  rw[List.all_eq_true]at q;have hm:∃k,(y,k)∈(relabel scope X.env).names/\(k = .cell\/k = .free):=by
   rcases hy with hy|hy
   ·exact⟨_,cg hy,.inl rfl⟩
   ·exact⟨_,cg hy,.inr rfl⟩
  obtain⟨k,hk,hk2⟩:=hm;have q2:=q _ hk;have q3:(cl.lookup y).isSome=true:=by
   rcases hk2 with rfl|rfl
   ·simpa using q2
   ·simpa using q2
  exact Option.isSome_iff_exists.mp q3
 ·obtain⟨f0,f1,f2,f3,f4,f5⟩:=hf b hb
  refine⟨?_,λy c h=>f4 y c (hcl y c h)⟩;exact Nat.ne_of_lt (ho b hb)
 ·have z:=Heap.lt_size e
  have z2:=old b hb;exact absurd (Nat.lt_of_lt_of_le z (Nat.le_trans I.ok.bsz z2)) (Nat.lt_irrefl _)
 ·obtain⟨f0,f1,f2,f3,f4,f5⟩:=hf b hb
  rcases List.mem_cons.mp (I.stkSub b hm) with z|z
  ·exact f1 z
  ·exact f2 z
theorem vH{pins:List (Addr×Obj)}{σ:St}{H:Hp}{s s4:Shared}{fp:List Addr}(C:Go X scope cl xs fv)(I:Aj X pins σ H s)(hf:∀b∈fp,ee X pins H b)(ho:∀b∈fp,b<s.heap.objs.size)
  (hs:s4.os=s.os/\s4.gens=s.gens) (ns:s4.heap.Ns s.heap.objs.size λ_=>none) (kp:∀b o,s.heap.get? b=some o->s4.heap.get? b=some o) :
  Aj (X.blk (xs++fv.map (·.1)) scope cl fp s H) [] (List.replicate xs.length none++fvs fv σ) H s4:=by
 have hcl:∀y c,cl.lookup y=some c->X.env.cells.lookup y=some c:=λy c h=>C.cells _ (cg h);refine⟨xc C I hf ho,hs.1,by rw[hs.2];exact I.bare,Un.kept kp,⟨_,ns,λi y v e1 e2 e3=>?_⟩,λy c h=>?_,I.hok.fresh (Nat.le_refl _),λy c h=>I.freeC y c (hcl y c h),λp hp=>by simp at hp,I.hok.kept kp,by simp[fvs]⟩
 ·by_cases hi:i<xs.length
  ·rw[List.getElem?_append_left (by rw[List.length_replicate];exact hi),List.getElem?_replicate]at e2
   simp[hi]at e2
  ·obtain⟨j,rfl⟩:∃j,i=xs.length+j:=⟨i - xs.length,by omega⟩
   have e1':(fv.map (·.1))[j]? = some y:=by
    have z:(xs++fv.map (·.1))[xs.length+j]? = some y:=e1;rw[List.getElem?_append_right (by omega)]at z;simpa using z
   have e2':(fvs fv σ)[j]? = some (some v):=by
    rw[List.getElem?_append_right (by rw[List.length_replicate];omega),List.length_replicate]at e2;simpa using e2
   rw[List.getElem?_map]at e1';unfold fvs at e2';rw[List.getElem?_map]at e2';cases hq:fv[j]? with
   | none =>
    rw[hq]at e1';cases e1'
   | some q =>
    rw[hq]at e1' e2';have ey:q.1=y:=Option.some.inj e1';have ev:(σ[q.2]?).join=some v:=Option.some.inj e2';have hm:q∈fv:=List.mem_of_getElem? hq;obtain⟨s1,s2,s3,s4',s5⟩:=C.slot q hm;have ev2:σ[q.2]? = some (some v):=by
     cases hz:σ[q.2]? with
     | none =>
      rw[hz]at ev;cases ev
     | some z =>
      rw[hz]at ev;have ev':z=some v:=ev;rw[ev']
    obtain⟨m,hn,hl⟩:=I.loc;obtain⟨u,r,lk⟩:=hl q.2 q.1 v s1 ev2 s3;obtain⟨c,hc⟩:=Option.isSome_iff_exists.mp s4';refine⟨u,r,.inr ⟨.inl (by rw[<- ey];exact s5),c,by rw[<- ey];exact hc,?_⟩⟩;rcases lk with⟨k,_⟩|⟨_,c',hc',z⟩
    ·rw[s2]at k
     cases k
    ·rw[hcl _ _ hc]at hc'
     cases hc';obtain⟨o,ho',hd⟩:=z;exact⟨o,kp _ _ ho',hd⟩
 ·obtain⟨v,o,ho',hd⟩:=I.cell y c (hcl y c h)
  exact⟨v,o,kp _ _ ho',hd⟩
theorem vG{pins:List (Addr×Obj)}{σ:St}{H2:Hp}{s2:Shared}{it:Addr}{fp:List Addr}{tn:Nat->Heap->Prop}{J:It}{RR:Value->Addr->Result->Shared->Prop}{E:Value->Shared->Prop}{Qf:V->Hp->Prop}
  (hcalm:X.calm=true) (C:Go X scope cl xs fv) (I2:Aj X pins σ H2 s2) (T:Fr X.prog X.w X.K tg J fp it tn) (st:tn 0 s2.heap) (f2:∀b∈fp,ee X pins H2 b)
  (rd:jQ J xs.length fv g tc te σ H2 Qf)
  (hg:∀(s₀:Shared) (H₀:Hp),PG (X.blk (xs++fv.map (·.1)) scope cl fp s₀ H₀) tg g) (ht:∀(s₀:Shared) (H₀:Hp),PTs (X.blk (xs++fv.map (·.1)) scope cl fp s₀ H₀) ifs tc)
  (he:∀(s₀:Shared) (H₀:Hp),PE (X.blk (xs++fv.map (·.1)) scope cl fp s₀ H₀) elt te)
  (hRR:∀(p C:Addr) (H':Hp) (s':Shared),(∃m,s'.heap.Ns C m)->C≠X.env.locals->H' C=none->X.s₀.heap.objs.size<=C->(∀y c,X.env.cells.lookup y=some c->c≠C)->(∀q∈X.pn++pins,q.1≠C)->Aj X pins σ H' s'->Qf (.ref p) H'->RR (.ref p) C (.ok .next) s') :
  wpAny (model X.prog X.w) X.A (newList []) (λacc s₃=>wpAny (model X.prog X.w) X.A (newFunctionEnv scope X.env.globals cl [] X.env.qual none .none (some X.env)) (λcenv s₄ =>
   codeAny (model X.prog X.w) X.A (.compStart (.ListComp elt [⟨tg,iter,ifs,0⟩] scope pos) 0 (.ref it) acc { cenv with scope:=relabel scope X.env }) (RR acc cenv.locals) s₄) E s₃) E s2:=by
 refine wpAny_newObj_type ?_;have hfresh:=I2.fresh;have I3:Aj X pins σ (upd H2 s2.heap.objs.size (.lst [])) { s2 with heap:=s2.heap.push { cls:=.type "list",data:=.seq ([]:List Value).toArray } } :=
  I2.laid (t':=s2.toks) (λb u q=>Heap.get?_push_of_some _ q) (Nat.le_refl _) ⟨Nat.zero_le _,[],0,.nil,Heap.get?_push_size _ rfl⟩
 generalize hs3:({ s2 with heap:=s2.heap.push { cls:=.type "list",data:=.seq ([]:List Value).toArray } }:Shared)=s3 at I3 ⊢;have hp3:s2.heap.objs.size<s3.heap.objs.size:=by rw[<- hs3];exact Nat.lt_of_lt_of_le (Nat.lt_succ_self _) (Nat.le_of_eq (Heap.size_push _ _).symm)
 have k23:∀b o,s2.heap.get? b=some o->s3.heap.get? b=some o:=λb o e=>by rw[<- hs3];exact Heap.get?_push_of_some _ e
 have fpo:∀b∈fp,b<s2.heap.objs.size:=λb hb=>by
  obtain⟨o,e,_⟩:=T.obj 0 _ st b hb;exact Heap.lt_size e
 have f3:∀b∈fp,ee X pins (upd H2 s2.heap.objs.size (.lst [])) b:=λb hb=>⟨by rw[aP (Nat.ne_of_lt (fpo b hb))];exact(f2 b hb).1,(f2 b hb).2⟩;refine wpAny_newFunctionEnv C.cell (by intro y hy;simp at hy) (λh1 hns1 hsb1=>?_) C.kind;have kp:∀b o,s3.heap.get? b=some o->h1.get? b=some o:=λb o e=>(hsb1.2 b (Nat.ne_of_lt (Heap.lt_size e))).trans (Heap.get?_push_of_some _ e);have I4:=vH (s4:={ s3 with heap:=h1,toks:=s3.toks+([]:List (Str×Value)).length }) C I3 f3 (λb hb=>Nat.lt_trans (fpo b hb) hp3) ⟨rfl,rfl⟩ hns1 kp;have st4:tn 0 h1:=T.keep 0 _ _ st λb _ o e=>kp b o (k23 b o e);obtain⟨W,⟨m0,w0⟩,step⟩:=rd _ hfresh;have loop:codeAny (model X.prog X.w) X.A (.compLoop (.ListComp elt [⟨tg,iter,ifs,0⟩] scope pos) 0 (.ref it) (.ref s2.heap.objs.size) (compEnvC scope cl s3.heap.objs.size X.env)) (RR (.ref s2.heap.objs.size) s3.heap.objs.size)
   { s3 with heap:=h1,toks:=s3.toks+([]:List (Str×Value)).length }:=by
  refine pE (λn s=>∃i acc τ H',τ.length=xs.length/\Aj (X.blk (xs++fv.map (·.1)) scope cl fp s3 (upd H2 s2.heap.objs.size (.lst []))) [] (τ++fvs fv σ) H' s/\tn i s.heap/\(∀b∈fp,H' b=none)/\W i n acc H') ?_ m0 ⟨0,[],List.replicate xs.length none,_,List.length_replicate,I4,st4,λb hb=>(f3 b hb).1,w0⟩;rintro n s ⟨i,acc,τ,H',hτ,I',st',fr',w'⟩;obtain⟨hp,hlen,alt⟩:=step i n acc H' w';have fpk:∀{H5:Hp},(∀b∈fp,H5 b=none)->∀b∈fp,ee (X.blk (xs++fv.map (·.1)) scope cl fp s3 (upd H2 s2.heap.objs.size (.lst []))) [] H5 b:=λh5 b hb =>
   ⟨h5 b hb,(I'.ok.exf b hb).1,I'.ok.exfs b hb,.inl hb,λy c e=>(I'.ok.exf b hb).2 y c e,λq hq=>by simp at hq⟩
  rcases alt with⟨stop,qf⟩|⟨go,turn⟩
  ·refine wpAny_mono (T.done (X.blk (xs++fv.map (·.1)) scope cl fp s3 (upd H2 s2.heap.objs.size (.lst []))) rfl rfl rfl hcalm i [] s _ H' (λ_ _=>False) I' (fpk fr') st' stop) (λr s5 ⟨hr,I5⟩=>?_) λ_ _ z=>False.elim z
   subst hr;refine hRR _ _ H' s5 (let ⟨m,hn,_⟩:=I5.loc;⟨m,hn⟩) (Nat.ne_of_gt I3.lt) I5.free I3.sz (λy c e=>?_) (λq hq=>?_) ?_ qf
   ·obtain⟨v,z⟩:=I3.cell y c e
    exact Nat.ne_of_lt z.lt
   ·exact Nat.ne_of_lt (Heap.lt_size (I3.pin q hq).1)
   ·exact I3.call' (s':=s5) (ch:=fp) I5.os I5.base I5.hok I5.bare λb hb=>⟨(f2 b hb).2.2.2.1,(f2 b hb).2.1,(f2 b hb).2.2.2.2.1,(f2 b hb).2.2.2.2.2⟩
  ·refine wpAny_mono (T.item (X.blk (xs++fv.map (·.1)) scope cl fp s3 (upd H2 s2.heap.objs.size (.lst []))) rfl rfl rfl hcalm i [] s _ H' (λ_ _=>False) I' (fpk fr') st' go) (λr s5 ⟨u,hr,h5⟩=>?_) λ_ _ z=>False.elim z
   subst hr;refine wpAny_mono h5 (λ_ s6 ⟨y,H6,I6,r6,y6,st6,fr6⟩=>?_) λ_ _ z=>False.elim z;have I6':=I6.pinned (fpk fr6) (T.obj _ _ st6);have rt:=turn y _ y6 τ hτ;refine wpAny_mono (hg s3 _ _ s6 _ H6 y u _ I6' r6 rt) (λ_ s7 ⟨σ7,H7,I7,⟨τ',hτ',e7⟩,q7⟩=>?_) λ_ _ z=>False.elim z;subst e7;refine wpAny_mono (ht s3 _ _ s7 _ _ _ I7 q7) (λb s7b ⟨H7b,I7b,q7b⟩=>?_) λ_ _ z=>False.elim z;have kp6:∀{σ9:St} {H9:Hp} {s9:Shared},Aj (X.blk (xs++fv.map (·.1)) scope cl fp s3 (upd H2 s2.heap.objs.size (.lst []))) ([]++j7 fp s6.heap) σ9 H9 s9->tn (i+1) s9.heap/\∀b∈fp,H9 b=none:=λ{σ9 H9 s9} I9=>by
    refine⟨T.keep _ _ _ st6 λb hb o e=>(I9.pin (b,o) (List.mem_append_right _ (List.mem_append_right _ (cC hb e)))).1,λb hb=>?_⟩;obtain⟨o,e,d⟩:=T.obj _ _ st6 b hb;exact(I9.pin (b,o) (List.mem_append_right _ (List.mem_append_right _ (cC hb e)))).2.1
   cases b with
   | false =>
    obtain⟨m',hm',w8⟩:=q7b;exact⟨m',hm',i+1,acc,τ',_,hτ',I7b.unpinned,(kp6 I7b).1,(kp6 I7b).2,w8⟩
   | true =>
    refine wpAny_mono (he s3 _ _ s7b _ _ _ I7b q7b) (λv8 s8 ⟨y8,H8,I8,r8,q8,m',hm',w8⟩=>?_) λ_ _ z=>False.elim z;refine wpAny_mono (gI (X:=X.blk (xs++fv.map (·.1)) scope cl fp s3 (upd H2 s2.heap.objs.size (.lst []))) _ s8 _ H8 (.ref s2.heap.objs.size) [y8] (.ref s2.heap.objs.size) [v8] (λ_ H9=>H9=upd H8 s2.heap.objs.size (.lst (acc++[y8]))) I8 rfl (.cons r8 .nil) ⟨_,acc,y8,rfl,rfl,q8,hlen,rfl⟩) (λ_ s9 ⟨_,H9,I9,_,e9⟩=>?_) λ_ _ z=>False.elim z;subst e9;exact⟨m',hm',i+1,acc++[y8],τ',_,hτ',I9.unpinned,(kp6 I9).1,(kp6 I9).2,w8⟩
 exact codeAny_compStart_list loop (T.self _ 0 _ _ _ st4 loop)
theorem uk{wi:TI}(hcalm:X.calm=true)(C:Go X scope cl xs fv)(hi:PI X tg iter wi)(hg:∀(fp:List Addr) (s₀:Shared) (H₀:Hp),PG (X.blk (xs++fv.map (·.1)) scope cl fp s₀ H₀) tg g)(ht:∀(fp:List Addr) (s₀:Shared) (H₀:Hp),PTs (X.blk (xs++fv.map (·.1)) scope cl fp s₀ H₀) ifs tc)(he:∀(fp:List Addr) (s₀:Shared) (H₀:Hp),PE (X.blk (xs++fv.map (·.1)) scope cl fp s₀ H₀) elt te)
  (hs:∀v,foldedSetIterable iter X.env v=pure v:=by intro _;rfl):PE X (.ListComp elt [⟨tg,iter,ifs,0⟩] scope pos) (xN wi xs.length fv g tc te):=by
 intro pins s σ H Q I h;rw[eval_ListComp];refine wpAny_comprehension_free (use:=none) rfl hs C.clos C.kind C.names (wpAny_mono (hi pins s σ H _ I h) (λv s1 h1=>wpAny_mono h1 (λitv s2 h2=>?_) λ_ _ z=>z) λ_ _ z=>z);obtain⟨it,fp,tn,J,H2,rfl,I2,T,st2,f2,rd⟩:=h2;refine vG (Qf:=Q) hcalm C I2 T st2 f2 rd (hg fp) (ht fp) (he fp) λp D H' s' ns nL nH n0 nC nP I8 q=>?_;obtain⟨m,hn⟩:=ns;exact⟨m,hn,λh'' sb=>⟨.ref p,H',I8.turned (t':=s'.toks) (λb o hb e=>(sb.2 b hb).trans e) nH nL (.inr n0) nC nP,rfl,q⟩⟩
end
theorem xa{J:It}{n k:Nat}{fv:List (Str×Nat)}{g:TG}{te:TE}{σ:St}{H1:Hp}{Q:VK}(hlen:n<1000)(R:Nat->V->Hp->Prop)(hR:∀i v H H',SameT H H'->R i v H->R i v H')
  (hst:∀H2,Same H1 H2->J.stop n H2) (hgo:∀i H2,i<n->Same H1 H2->J.go i H2)
  (hs:∀i x H2 H3 (τ:St) (Kc:VK),i<n->Same H1 H2->J.yld i H2 x H3->τ.length=k->(∀y H4,Same H2 H4->R i y H4->Kc y H4)->g x (τ++fvs fv σ) H3 λσ2 H4=>(∃τ':St,τ'.length=k/\σ2=τ'++fvs fv σ)/\te σ2 H4 Kc)
  (hd:∀l ys H',H1 l=none->Same H1 H'->H' l=some (.lst ys)->ys.length=n->(∀i y,ys[i]? = some y->R i y H')->Q (.ref l) H') :
  jQ J k fv g xK te σ H1 Q:=by
 intro l hl;refine⟨λi m acc H2=>m=n - i/\i<=n/\acc.length=i/\Same H1 H2/\H2 l=some (.lst acc)/\∀j y,acc[j]? = some y->R j y H2,⟨n,rfl,Nat.zero_le _,rfl,Same.new hl,upd_same,λj y h=>by simp at h⟩,?_⟩;rintro i m acc H2 ⟨rfl,hi,e1,sm,e3,hr⟩;refine⟨e3,bJ (by omega),?_⟩
 by_cases hlt:i<n
 ·refine .inr ⟨hgo i H2 hlt sm,λx H3 y τ hτ=>?_⟩
  refine hs i x H2 H3 τ _ hlt sm y hτ λy H4 s4 ry=>⟨s4 _ _ e3,n - (i+1),by omega,rfl,hlt,by simp[e1],(sm.trans s4).upd hl,upd_same,λj z hz=>?_⟩;have t4:=SameT.upd (ys:=acc++[y]) (s4 _ _ e3);rcases Nat.lt_trichotomy j acc.length with h|h|h
  ·rw[List.getElem?_append_left h]at hz
   exact hR _ _ _ _ (s4.t.trans t4) (hr j z hz)
  ·subst h
   rw[List.getElem?_append_right (Nat.le_refl _),Nat.sub_self]at hz;cases hz;rw[e1];exact hR _ _ _ _ t4 ry
  ·rw[List.getElem?_eq_none (by simp;omega)]at hz
   cases hz
 ·have e:i=n:=by omega
  subst e;exact .inl ⟨hst H2 sm,hd l acc H2 hl sm e3 e1 hr⟩
theorem tu{K:W.Frag}{a b:Addr}{xs ys:List V}{fv:List (Str×Nat)}{te:TE}{σ:St}{H1:Hp}{Q:VK}{g:TG}{k:Nat}(q1:SqL K H1 a xs)(q2:SqL K H1 b ys)(hlen:min xs.length ys.length<1000)(R:Nat->V->Hp->Prop)(hR:∀i v H H',SameT H H'->R i v H->R i v H')
  (hs:∀i x y p H2 (τ:St) (Kc:VK),xs[i]? = some x->ys[i]? = some y->Same H1 H2->H2 p=some (.tup [x,y])->τ.length=k->(∀y H4,Same H2 H4->R i y H4->Kc y H4)->g (.ref p) (τ++fvs fv σ) H2 λσ2 H4=>(∃τ':St,τ'.length=k/\σ2=τ'++fvs fv σ)/\te σ2 H4 Kc)
  (hd:∀l zs H',H1 l=none->Same H1 H'->H' l=some (.lst zs)->zs.length=min xs.length ys.length->(∀i y,zs[i]? = some y->R i y H')->Q (.ref l) H') :
  jQ (Itz K a b) k fv g xK te σ H1 Q:=by
 refine xa (n:=min xs.length ys.length) hlen R hR (λH2 s2=>⟨xs,ys,s2.seq q1,s2.seq q2,rfl⟩) (λi H2 hi s2=>⟨xs,ys,xs[i],ys[i],s2.seq q1,s2.seq q2,by simp[show i<xs.length by omega],by simp[show i<ys.length by omega]⟩) ?_ hd;intro i x H2 H3 τ Kc hi s2 y hτ kk;obtain⟨p,u,v,rfl,np,rfl,e⟩:=y;obtain⟨e1,e2⟩:=e xs ys (s2.seq q1) (s2.seq q2);have s3:Same H2 (upd H2 p (.tup [u,v])):=Same.new np;exact hs i u v p _ τ Kc e1 e2 (s2.trans s3) upd_same hτ λy H4 s4 r=>kk y H4 (s3.trans s4) r
noncomputable def om(e:Expr):Scope:=match e with
 | .ListComp _ _ sc _=>sc
 | .Call _ [.ListComp _ _ sc _] _ _=>sc
 | _=>{ kind:=.function,names:=[],isGenerator:=false,isCoroutine:=false }
theorem Un.flyF{fs:List Addr}{H H':Hp}{h h1 h2 B:Heap}(un:Un fs [] H H' h h1)(big:IQ B fs H' h)(st1:B.StaysIn h1)(st2:B.StaysIn h2)
  (fr:∀b∈fs,H b=none/\∀o,h1.get? b=some o->∃sl,h2.get? b=some { o with slots:=sl }):Un fs [] H H' h h2 where
 keep:=λb o e n hb hx=>by
  have e1:=un.keep b o e n hb hx;obtain⟨ob,eb⟩:=big.old b o e hb;have e2:=st1 b ob eb;rw[e1]at e2;cases e2;exact st2 b _ eb
 slot:=λb o e n hb hx=>by
  obtain⟨s1,e1⟩:=un.slot b o e n hb hx;obtain⟨s2,e2⟩:=(fr b hb).2 _ e1;exact⟨s2,e2⟩
 free:=un.free
 there:=λb o e hx=>by
  by_cases hb:b∈fs
  ·obtain⟨s1,e1⟩:=un.slot b o e (fr b hb).1 hb hx
   obtain⟨s2,e2⟩:=(fr b hb).2 _ e1;exact⟨_,e2⟩
  ·obtain⟨ob,eb⟩:=big.old b o e hb
   exact⟨_,st2 b ob eb⟩
 tups:=un.tups
 frzs:=un.frzs
 tbls:=un.tbls
theorem jv{h h' base base':Heap}:∀{l:List Env},h.FunFrames base l->(∀b,base.get? b=none->base'.get? b=none)->(∀b∈frs l,∀o,h.get? b=some o->h'.get? b=some o)->h'.FunFrames base' l
 | [],_,_,_=>trivial
 | env::r,⟨hk,⟨L,o,hf,hn,ho,hd⟩,hr⟩,h1,h2=>⟨hk,⟨L,o,hf,h1 L hn,h2 L (List.mem_filterMap.mpr ⟨env,.head _,hf⟩) o ho,hd⟩,jv hr h1 λb hb o e=>h2 b (by
   obtain⟨x,hx,hy⟩:=List.mem_filterMap.mp hb;exact List.mem_filterMap.mpr ⟨x,.tail _ hx,hy⟩) o e⟩
theorem uu{h h':Heap}{C:Addr}{m:Str->Option Value}(n:h.Ns C m)(up:h.UpToSlots h'):h'.Ns C m:=by
 obtain⟨o,es,ep,ho,hd,hr⟩:=n;obtain⟨sl,e⟩:=up C o ho (λvs z=>by rw[hd]at z;cases z);exact⟨_,es,ep,e,hd,hr⟩
section
variable {P:Program} {w:World} {K:W.Frag} {mg:Str->Option Value} {base:Heap} {N:List Str} {qual:Str} {scope:Scope} {f:Addr} {cdv:Value} {A:Around} {outer:List Env} {s₀:Shared} {H₀:Hp} {E:XK}
noncomputable def xh(M:Model)(A:Around)(E:Value->Shared->Prop)(C:Addr)(ev:Value)(s':Shared):Prop :=
 ∃m,s'.heap.Ns C m/\∀h',Heap.SameBut C s'.heap h'->∀cenv:Env,cenv.locals=C->wpAny M A (PySem.passOn "comprehension.variables-let-go" ev cenv:Sem Value) (λ_ _=>False) E { s' with heap:=h' }
theorem iF{B:Heap}{C b:Addr}{o:Obj}(e:(W.hideAll B [C]).get? b=some o):b≠C/\B.get? b=some o:=by
 refine⟨λz=>?_,W.of_hideAll _ e⟩;subst z;rw[W.hideAll_none _ (List.mem_singleton.mpr rfl)]at e;cases e
theorem gL{B:Heap}{C b:Addr}(e:B.get? b=none):(W.hideAll B [C]).get? b=none:=by
 cases q:(W.hideAll B [C]).get? b with
 | none=>rfl
 | some o =>
  rw[(iF q).2]at e;cases e
theorem sE{h4 h5 B:Heap}{l:List Env}{C ea:Addr}{cls fl:Value}{g:Nat->Option Value}{m:Str->Option Value}(ns4:h4.Ns C m)(sb:Heap.SameBut C h4 h5)(k1:B.StaysIn h4)(k3:h4.FunFrames B l)(k4:Tr B h4 ea cls g fl)(hCs:C∉frs l) :
  (W.hideAll B [C]).StaysIn h5/\h5.FunFrames (W.hideAll B [C]) l/\Tr (W.hideAll B [C]) h5 ea cls g fl:=by
 have ndC:∀b o,h4.get? b=some o->∀vs,o.data = .fields vs->b≠C:=λb o eb vs hd z=>by
  subst z;obtain⟨o2,es,ep,ho2,hd2,_⟩:=ns4;rw[eb]at ho2;cases ho2;rw[hd]at hd2;cases hd2
 refine⟨λb o eb=>(sb.2 b (iF eb).1).trans (k1 b o (iF eb).2),jv k3 (λb z=>gL z) λb hb o e=>(sb.2 b (λz=>hCs (z▸hb))).trans e,?_⟩;obtain⟨oe,vs,T,oT,ts,he,hc,hd,hg,h1,hnT,hTe,hT,hdT,h3⟩:=k4;exact⟨oe,vs,T,oT,ts,(sb.2 _ (ndC _ _ he _ hd)).trans he,hc,hd,hg,h1,gL hnT,hTe,(sb.2 _ (ndC _ _ hT _ hdT)).trans hT,hdT,h3⟩
theorem v7{α:Type}{M:Model}{A:Around}{E:Value->Shared->Prop}{s:Shared}{base:Heap}{l:List Env}{e:Addr}{cls fl:Value}{g:Nat->Option Value}{env:Env}{what:String}{Q:α->Shared->Prop}(f1:base.StaysIn s.heap)(f3:s.heap.FunFrames base l)(f4:Tr base s.heap e cls g fl)
  (hE:∀h',base.StaysIn h'->h'.FunFrames base l->Tr base h' e cls g (env.frame.elim Value.none λf=>rawInt f)->(∀b o,s.heap.get? b=some o->(∀vs,o.data≠.fields vs)->h'.get? b=some o)->E (.ref e) { s with heap:=h' }):wpAny M A (PySem.passOn what (.ref e) env:Sem α) Q E s:=by
 unfold PySem.passOn;obtain⟨oe,vs,T,oT,ts,he,hc,hd,hg,h1,r⟩:=id f4;refine wpAny_bind (wpAny_field he hd h1 ?_);rw[if_neg (by simp)];exact wpAny_bind (lY f1 f3 f4 λh' a b c d=>wpAny_throw (hE h' a b c d))
theorem lN{E1:XK}{pins:List (Addr×Obj)}{σ:St}{H:Hp}{s s':Shared}{ev:Value}{C:Addr}{m:Str->Option Value}{cenv:Env}(I:Aj (aG (CXE P w) P w K mg base N qual scope f cdv A outer s₀ H₀ E) pins σ H s)
  (h:CXE P w (aG (CXE P w) P w K mg base N qual scope f cdv A outer s₀ H₀ E).stack H s E1 ev s') (hE:∀c o H',E1 c o H'->E c o H')
  (hcf:cenv.frame=(aG (CXE P w) P w K mg base N qual scope f cdv A outer s₀ H₀ E).env.frame) (hns:s.heap.Ns C m) (hCn:H C=none) (hCs:C∉frs (aG (CXE P w) P w K mg base N qual scope f cdv A outer s₀ H₀ E).stack) (hC0:s₀.heap.objs.size<=C) :
  notedBy (model P w) (aG (CXE P w) P w K mg base N qual scope f cdv A outer s₀ H₀ E).A cenv (xh (model P w) (aG (CXE P w) P w K mg base N qual scope f cdv A outer s₀ H₀ E).A (aG (CXE P w) P w K mg base N qual scope f cdv A outer s₀ H₀ E).xe C) ev s':=by
 obtain⟨ea,t,cls,H',B,rfl,os,bare,un,hok,fl,big,oq,q,cq⟩:=h;have ns1:s'.heap.Ns C m:=by
  obtain⟨o,es,ep,ho,hd,hr⟩:=hns;exact⟨o,es,ep,un.keep C o ho hCn hCs (by simp),hd,hr⟩
 have hC':H' C=none:=by
  obtain⟨o,es,ep,ho,hd,hr⟩:=hns;exact un.free C o ho hCn (by simp)
 unfold notedBy;have en:noteFrame (.ref ea) cenv=noteFrame (.ref ea) (aG (CXE P w) P w K mg base N qual scope f cdv A outer s₀ H₀ E).env:=by
  unfold noteFrame PySem.frameOf;rw[hcf]
 rw[en];obtain⟨g,tg,g0,g2⟩:=Tr.of fl.2.2.2;refine rj (L:=s₀.heap.objs.size) I.ok.frames rfl fl.1 fl.2.1 fl.2.2.1 (.inr ⟨_,tg⟩) λh4 k1 k3 k4 up4=>?_;have ns4:h4.Ns C m:=uu ns1 up4;refine⟨m,ns4,λh5 sb cenv' _=>?_⟩;obtain⟨st5,ff5,tr5⟩:=sE ns4 sb k1 k3 k4 hCs;refine v7 (s:={ s' with heap:=h5 }) st5 ff5 tr5 λh6 st6 ff6 tr6 kp6=>?_;refine kl (s:={ s' with heap:=h6 }) (L:=s₀.heap.objs.size) I.ok.frames rfl st6 (gL fl.2.1) ff6 (.inr ⟨_,tr6⟩) λh7 fl7a fl7b tr7 up7=>?_;have fl7:Heap.FlyingW (W.hideAll B [C]) outer ea cls (.ref t) h7:=⟨fl7a,gL fl.2.1,fl7b,tr7.w g0⟩;have out:∀x o,s₀.heap.get? x=some o->x∈frs (aG (CXE P w) P w K mg base N qual scope f cdv A outer s₀ H₀ E).stack->x∈frs outer:=λx o ex hm=>by
  rcases List.mem_cons.mp (I.stkSub x hm) with z|z
  ·exact absurd z (Nat.ne_of_lt (Nat.lt_of_lt_of_le (Heap.lt_size ex) I.ok.above))
  ·exact z
 have sub:∀x∈frs outer,x∈frs (aG (CXE P w) P w K mg base N qual scope f cdv A outer s₀ H₀ E).stack:=λx hx=>by
  show x∈frs (_::outer);rw[oR (L:=s₀.heap.objs.size) rfl];exact List.mem_cons_of_mem _ hx
 have un1:Un (frs outer) [] H₀ H' s₀.heap s'.heap:=Un.shed I.base un sub out;have keepB:∀b ob,b≠C->B.get? b=some ob->∃ob,(W.hideAll B [C]).get? b=some ob:=λb ob nb eb=>⟨ob,W.hideAll_get _ eb (by simpa using nb)⟩;have big1:IQ (W.hideAll B [C]) (frs outer) H' s₀.heap:=by
  refine⟨λb o eb=>?_,λb o eb hb=>?_⟩
  ·obtain⟨ob,z⟩:=big.tr b o eb
   refine keepB b ob (λe=>?_) z;subst e;rw[hC']at eb;cases eb
  ·obtain⟨ob,z⟩:=I.base.there b o eb (by intro z;cases z)
   obtain⟨ob2,z2⟩:=big.old b ob z λhm=>hb (out b o eb hm);exact keepB b ob2 (Nat.ne_of_lt (Nat.lt_of_lt_of_le (Heap.lt_size eb) hC0)) z2
 have st1:(W.hideAll B [C]).StaysIn s'.heap:=λb o eb=>fl.1 b o (iF eb).2;refine⟨ea,t,cls,H',W.hideAll B [C],rfl,os.trans I.os,bare,Un.flyF un1 big1 st1 fl7.1 λb hb=>⟨I.ok.frf b hb,λo eo=>?_⟩,HOk.fly hok big1 st1 fl7.1,fl7,big1,oq,hE _ _ _ q,λz=>tr7.cn (g2 (cq z))⟩;have nf:∀vs,o.data≠.fields vs:=by
  obtain⟨_,o2,eo2,nf2⟩:=fl.2.2.1.mem (sub b hb);rw[eo]at eo2;cases eo2;exact nf2
 obtain⟨s1,e1⟩:=up4 b o eo nf;have e5:h5.get? b=some { o with slots:=s1 }:=(sb.2 b (λz=>hCs (z▸sub b hb))).trans e1;have e6:=kp6 b _ e5 nf;obtain⟨s2,e7⟩:=up7 b _ e6 nf;exact⟨s2,e7⟩
end
noncomputable abbrev Cx.blkX(X:Cx)(Ex:XK)(N':List Str)(scope:Scope)(cl:List (Str×Addr))(fp:List Addr)(s₀:Shared)(H₀:Hp):Cx :=
 (X.blk N' scope cl fp s₀ H₀).wish λev s'=>∃(sc:Shared) (Hc:Hp) (τ:St) (pc:List (Addr×Obj)) (E1:XK),Aj (X.blk N' scope cl fp s₀ H₀) pc τ Hc sc/\CXE X.prog X.w X.stack Hc sc E1 ev s'/\∀c o H',E1 c o H'->Ex c o H'
section
variable {X:Cx} {scope:Scope} {cl:List (Str×Addr)} {x:Str} {fv:List (Str×Nat)} {elt iter:Expr} {px pos:Pos} {te:TE}
theorem pI{pins:List (Addr×Obj)}{σ:St}{H2:Hp}{s2:Shared}{it:Addr}{fp:List Addr}{tn:Nat->Heap->Prop}{J:It}{RR:Value->Addr->Result->Shared->Prop}{E:Value->Shared->Prop}{Qf:V->Hp->Prop}{Ex:XK}
  (hcalm:X.calm=true) (C:Bd X scope cl x fv) (I2:Aj X pins σ H2 s2) (T:Fr X.prog X.w X.K (.Name x px) J fp it tn) (st:tn 0 s2.heap) (f2:∀b∈fp,ee X pins H2 b)
  (rd:∀p,H2 p=none->∃W:Nat->Nat->List V->Hp->Prop,(∃m,W 0 m [] (upd H2 p (.lst [])))/\∀i m acc H2,W i m acc H2 ->
   H2 p=some (.lst acc)/\acc.length<sizeLine/\((J.stop i H2/\Qf (.ref p) H2)\/(J.go i H2/\∀x H3,J.yld i H2 x H3->te (some x::fvs fv σ) H3 λy H4=>H4 p=some (.lst acc)/\∃m',m'<m/\W (i+1) m' (acc++[y]) (upd H4 p (.lst (acc++[y]))))))
  (he:∀(s₀:Shared) (H₀:Hp),PE (X.blkX Ex (x::fv.map (·.1)) scope cl fp s₀ H₀) elt te)
  (hRR:∀(p C:Addr) (H':Hp) (s':Shared),(∃m,s'.heap.Ns C m)->C≠X.env.locals->H' C=none->X.s₀.heap.objs.size<=C->(∀y c,X.env.cells.lookup y=some c->c≠C)->(∀q∈X.pn++pins,q.1≠C)->Aj X pins σ H' s'->Qf (.ref p) H'->RR (.ref p) C (.ok .next) s')
  (hEE:∀(p C:Addr) (Hc:Hp) (sc s':Shared) (ev:Value) (E1:XK) (m:Str->Option Value) (cenv:Env),Aj X pins σ Hc sc->CXE X.prog X.w X.stack Hc sc E1 ev s'->(∀c o H',E1 c o H'->Ex c o H')->cenv.frame=X.env.frame->sc.heap.Ns C m->Hc C=none->C∉frs X.stack->X.s₀.heap.objs.size<=C->notedBy (model X.prog X.w) X.A cenv (λe s''=>RR (.ref p) C (.error e) s'') ev s') :
  wpAny (model X.prog X.w) X.A (newList []) (λacc s₃=>wpAny (model X.prog X.w) X.A (newFunctionEnv scope X.env.globals cl [] X.env.qual none .none (some X.env)) (λcenv s₄ =>
   codeAny (model X.prog X.w) X.A (.compStart (.ListComp elt [⟨.Name x px,iter,[],0⟩] scope pos) 0 (.ref it) acc { cenv with scope:=relabel scope X.env }) (RR acc cenv.locals) s₄) E s₃) E s2:=by
 refine wpAny_newObj_type ?_;have hfresh:=I2.fresh;have I3:Aj X pins σ (upd H2 s2.heap.objs.size (.lst [])) { s2 with heap:=s2.heap.push { cls:=.type "list",data:=.seq ([]:List Value).toArray } } :=
  I2.laid (t':=s2.toks) (λb u q=>Heap.get?_push_of_some _ q) (Nat.le_refl _) ⟨Nat.zero_le _,[],0,.nil,Heap.get?_push_size _ rfl⟩
 generalize hs3:({ s2 with heap:=s2.heap.push { cls:=.type "list",data:=.seq ([]:List Value).toArray } }:Shared)=s3 at I3 ⊢;have hp3:s2.heap.objs.size<s3.heap.objs.size:=by rw[<- hs3];exact Nat.lt_of_lt_of_le (Nat.lt_succ_self _) (Nat.le_of_eq (Heap.size_push _ _).symm)
 have k23:∀b o,s2.heap.get? b=some o->s3.heap.get? b=some o:=λb o e=>by rw[<- hs3];exact Heap.get?_push_of_some _ e
 have fpo:∀b∈fp,b<s2.heap.objs.size:=λb hb=>by
  obtain⟨o,e,_⟩:=T.obj 0 _ st b hb;exact Heap.lt_size e
 have f3:∀b∈fp,ee X pins (upd H2 s2.heap.objs.size (.lst [])) b:=λb hb=>⟨by rw[aP (Nat.ne_of_lt (fpo b hb))];exact(f2 b hb).1,(f2 b hb).2⟩;refine wpAny_newFunctionEnv C.cell (by intro y hy;simp at hy) (λh1 hns1 hsb1=>?_) C.kind;have kp:∀b o,s3.heap.get? b=some o->h1.get? b=some o:=λb o e=>(hsb1.2 b (Nat.ne_of_lt (Heap.lt_size e))).trans (Heap.get?_push_of_some _ e);have I4:=sd (s4:={ s3 with heap:=h1,toks:=s3.toks+([]:List (Str×Value)).length }) C I3 f3 (λb hb=>Nat.lt_trans (fpo b hb) hp3) ⟨rfl,rfl⟩ hns1 kp;have st4:tn 0 h1:=T.keep 0 _ _ st λb _ o e=>kp b o (k23 b o e);obtain⟨W,⟨m0,w0⟩,step⟩:=rd _ hfresh;have loop:codeAny (model X.prog X.w) X.A (.compLoop (.ListComp elt [⟨.Name x px,iter,[],0⟩] scope pos) 0 (.ref it) (.ref s2.heap.objs.size) (compEnvC scope cl s3.heap.objs.size X.env)) (RR (.ref s2.heap.objs.size) s3.heap.objs.size)
   { s3 with heap:=h1,toks:=s3.toks+([]:List (Str×Value)).length }:=by
  refine codeAny_compLoop_list (λn s=>∃i acc σv H',Aj (X.blk (x::fv.map (·.1)) scope cl fp s3 (upd H2 s2.heap.objs.size (.lst []))) [] (σv::fvs fv σ) H' s/\tn i s.heap/\(∀b∈fp,H' b=none)/\W i n acc H') ?_ m0 ⟨0,[],none,_,I4,st4,λb hb=>(f3 b hb).1,w0⟩;rintro n s ⟨i,acc,σv,H',I',st',fr',w'⟩;obtain⟨hp,hlen,alt⟩:=step i n acc H' w';have fpk:∀{H5:Hp},(∀b∈fp,H5 b=none)->∀b∈fp,ee (X.blk (x::fv.map (·.1)) scope cl fp s3 (upd H2 s2.heap.objs.size (.lst []))) [] H5 b:=λh5 b hb =>
   ⟨h5 b hb,(I'.ok.exf b hb).1,I'.ok.exfs b hb,.inl hb,λy c e=>(I'.ok.exf b hb).2 y c e,λq hq=>by simp at hq⟩
  rcases alt with⟨stop,qf⟩|⟨go,turn⟩
  ·refine wpAny_mono (T.done (X.blk (x::fv.map (·.1)) scope cl fp s3 (upd H2 s2.heap.objs.size (.lst []))) rfl rfl rfl hcalm i [] s _ H' (λ_ _=>False) I' (fpk fr') st' stop) (λr s5 ⟨hr,I5⟩=>?_) λ_ _ z=>False.elim z
   subst hr;refine hRR _ _ H' s5 (let ⟨m,hn,_⟩:=I5.loc;⟨m,hn⟩) (Nat.ne_of_gt I3.lt) I5.free I3.sz (λy c e=>?_) (λq hq=>?_) ?_ qf
   ·obtain⟨v,z⟩:=I3.cell y c e
    exact Nat.ne_of_lt z.lt
   ·exact Nat.ne_of_lt (Heap.lt_size (I3.pin q hq).1)
   ·exact I3.call' (s':=s5) (ch:=fp) I5.os I5.base I5.hok I5.bare λb hb=>⟨(f2 b hb).2.2.2.1,(f2 b hb).2.1,(f2 b hb).2.2.2.2.1,(f2 b hb).2.2.2.2.2⟩
  ·refine wpAny_mono (T.item (X.blk (x::fv.map (·.1)) scope cl fp s3 (upd H2 s2.heap.objs.size (.lst []))) rfl rfl rfl hcalm i [] s _ H' (λ_ _=>False) I' (fpk fr') st' go) (λr s5 ⟨u,hr,h5⟩=>?_) λ_ _ z=>False.elim z
   subst hr;have e5:assign (.Name x px) (compEnvC scope cl s3.heap.objs.size X.env) u=(letOwnedTupleGo (.Name x px) (.ref it) u >>= λ_=>assign (.Name x px) (compEnvC scope cl s3.heap.objs.size X.env) u):=by
    rw[show letOwnedTupleGo (.Name x px) (.ref it) u=pure () from rfl];rfl
   show wpAny _ _ (assign (.Name x px) (compEnvC scope cl s3.heap.objs.size X.env) u) _ _ _;rw[e5];refine wpAny_bind (wpAny_mono h5 (λ_ s6 ⟨y,H6,I6,r6,y6,st6,fr6⟩=>?_) λ_ _ z=>False.elim z);have I6':=I6.pinned (fpk fr6) (T.obj _ _ st6);have lx:(relabel scope X.env).names.lookup x=some .local:=lookup_relabel_local C.own;refine wpAny_mono (aZ (X:=X.blk (x::fv.map (·.1)) scope cl fp s3 (upd H2 s2.heap.objs.size (.lst []))) (i:=0) C.nd rfl (.inl lx) (.inr lx) _ s6 _ H6 y u (λσ7 H7=>σ7=some y::fvs fv σ/\H7=H6) I6' r6 ⟨rfl,rfl⟩) (λ_ s7 ⟨σ7,H7,I7,e7,e7'⟩=>?_) λ_ _ z=>False.elim z;subst e7 e7';refine wpAny_mono (he s3 _ _ s7 _ _ _ (I7.wish _) (turn y _ y6)) (λv8 s8 ⟨y8,H8,I8',r8,q8,m',hm',w8⟩=>?_) λev s8 z=>?_
   rotate_left
   ·obtain⟨sc,Hc,τ,pc,E1,Ic,cx,hE⟩:=z
    have J:Aj X pins σ Hc sc:=I3.call' (s':=sc) (ch:=fp) Ic.os Ic.base Ic.hok Ic.bare λb hb=>⟨(f2 b hb).2.2.2.1,(f2 b hb).2.1,(f2 b hb).2.2.2.2.1,(f2 b hb).2.2.2.2.2⟩;obtain⟨mc,hmc,_⟩:=Ic.loc;refine hEE _ _ Hc sc s8 ev E1 mc _ J cx hE rfl hmc Ic.free (λhb=>?_) I3.sz;obtain⟨_,o,ho,_⟩:=I3.stack.mem hb;exact absurd (Heap.lt_size ho) (Nat.lt_irrefl _)
   have I8:=I8'.unwish;refine wpAny_mono (gI (X:=X.blk (x::fv.map (·.1)) scope cl fp s3 (upd H2 s2.heap.objs.size (.lst []))) _ s8 _ H8 (.ref s2.heap.objs.size) [y8] (.ref s2.heap.objs.size) [v8] (λ_ H9=>H9=upd H8 s2.heap.objs.size (.lst (acc++[y8]))) I8 rfl (.cons r8 .nil) ⟨_,acc,y8,rfl,rfl,q8,hlen,rfl⟩) (λ_ s9 ⟨_,H9,I9,_,e9⟩=>?_) λ_ _ z=>False.elim z;subst e9;refine⟨m',hm',i+1,acc++[y8],some y,_,I9.unpinned,T.keep _ _ _ st6 λb hb o e=>(I9.pin (b,o) (List.mem_append_right _ (List.mem_append_right _ (cC hb e)))).1,λb hb=>?_,w8⟩;obtain⟨o,e,d⟩:=T.obj _ _ st6 b hb;exact(I9.pin (b,o) (List.mem_append_right _ (List.mem_append_right _ (cC hb e)))).2.1
 exact codeAny_compStart_list loop (T.self _ 0 _ _ _ st4 loop)
end
section
variable {P:Program} {w:World} {K:W.Frag} {mg:Str->Option Value} {base:Heap} {N:List Str} {qual:Str} {scope':Scope} {f:Addr} {cdv:Value} {A:Around} {outer:List Env} {s₀:Shared} {H₀:Hp} {E:XK}
variable {scope:Scope} {cl:List (Str×Addr)} {x:Str} {fv:List (Str×Nat)} {elt iter:Expr} {px pos:Pos} {te:TE}
theorem qh{X:Cx}{Ex:XK}{N':List Str}{fp:List Addr}{s1:Shared}{H1:Hp}{y:Str}{ps:List Str}{k:Nat}{ds:List V}{sp:Sp}{p pos:Pos}{e:Expr}{es:List Expr}{t:TA}(F:Fx X.prog X.w X.K X.mg X.base y ps k ds sp)(hr:BA k X.A)(hg:Gl (X.blkX Ex N' scope cl fp s1 H1) y)(ha:PA (X.blkX Ex N' scope cl fp s1 H1) (e::es) t)
  (hdb:(y == ("__debug__" : Str))=false:=by decide) (he:starEach (e::es) (X.blkX Ex N' scope cl fp s1 H1).env=(false,eval e (X.blkX Ex N' scope cl fp s1 H1).env)::starEach es (X.blkX Ex N' scope cl fp s1 H1).env:=by rfl) (hpl:(backTo pos (starEach es (X.blkX Ex N' scope cl fp s1 H1).env)).any (·.1)=false:=by rfl) :
  PE (X.blkX Ex N' scope cl fp s1 H1) (.Call (.Name y p) (e::es) [] pos) (fL sp [] Ex t):=by
 obtain⟨g,fd,its,hm,hk,hb,_,_,G⟩:=F.ex;exact iy G hr hg hm hk hb .nil (λpins σ H s e s' I h=>⟨s,H,σ,pins,Ex,I.unwish,h,λ_ _ _ z=>z⟩) ha hdb he hpl
theorem js{wi:TI}{y:Str}{j:Nat}{py spos:Pos}(C:Bd (aG (CXE P w) P w K mg base N qual scope' f cdv A outer s₀ H₀ E) scope cl x fv)(hN:N.Nodup)(hj:N[j]? = some y)(hy:(aG (CXE P w) P w K mg base N qual scope' f cdv A outer s₀ H₀ E).env.scope.names.lookup y=some .local)
  (hi:PI (aG (CXE P w) P w K mg base N qual scope' f cdv A outer s₀ H₀ E) (.Name x px) iter wi) (he:∀(fp:List Addr) (s₁:Shared) (H1:Hp),PE ((aG (CXE P w) P w K mg base N qual scope' f cdv A outer s₀ H₀ E).blkX E (x::fv.map (·.1)) scope cl fp s₁ H1) elt te)
  (hsw:swapsWith (.ListComp elt [⟨.Name x px,iter,[],0⟩] scope pos) (some (.Name y py)) spos.line (aG (CXE P w) P w K mg base N qual scope' f cdv A outer s₀ H₀ E).env=pure true:=by rfl)
  (hs:∀v,foldedSetIterable iter (aG (CXE P w) P w K mg base N qual scope' f cdv A outer s₀ H₀ E).env v=pure v:=by intro _;rfl):PS (aG (CXE P w) P w K mg base N qual scope' f cdv A outer s₀ H₀ E) (.Assign [.Name y py] (.ListComp elt [⟨.Name x px,iter,[],0⟩] scope pos) spos) (nY (mz wi fv te) (hU j)):=by
 intro pins s σ H D I h;rw[exec_Assign_Name_used _ _ _ _ hsw];refine wpAny_bind (wpAny_standAt (wpAny_bind ?_));show wpAny _ _ (do let _ <- comprehension (.ListComp elt [⟨.Name x px,iter,[],0⟩] scope pos) scope (aG (CXE P w) P w K mg base N qual scope' f cdv A outer s₀ H₀ E).env _ (newList []) false (eval iter (aG (CXE P w) P w K mg base N qual scope' f cdv A outer s₀ H₀ E).env) (some (assign (.Name y py) (aG (CXE P w) P w K mg base N qual scope' f cdv A outer s₀ H₀ E).env))) _ _ s
 refine wpAny_bind (wpAny_mono (wpAny_comprehension_free (use:=some (assign (.Name y py) (aG (CXE P w) P w K mg base N qual scope' f cdv A outer s₀ H₀ E).env)) (Q:=λ_ s'=>SP (aG (CXE P w) P w K mg base N qual scope' f cdv A outer s₀ H₀ E) pins D .next s') rfl hs C.clos C.kind C.names
  (wpAny_mono (hi pins s σ H _ I h) (λv s1 h1=>wpAny_mono h1 (λitv s2 h2=>?_) λ_ _ z=>z) λ_ _ z=>z)) (λ_ s' hq=>wpAny_pure (wpAny_pure hq)) λ_ _ z=>z)
 obtain⟨it,fp,tn,J,H2,rfl,I2,T,st2,f2,rd⟩:=h2;refine pI (Ex:=E) (Qf:=λv H'=>hU j v σ H' D.nx) rfl C I2 T st2 f2 rd (he fp) (λp D' H' s' ns nL nH n0 nC nP I8 q=>?_) λp D' Hc sc s' ev E1 m cenv Ic cx hE hcf hns hCn hCs hC0=>lN Ic cx hE hcf hns hCn hCs hC0;obtain⟨m,hn⟩:=ns;show wpAny _ _ (assign (.Name y py) (aG (CXE P w) P w K mg base N qual scope' f cdv A outer s₀ H₀ E).env (.ref p)) _ _ _;refine wpAny_assign_Name (i4 I8 hN hj (.inl hy) (v:=.ref p) rfl (λs9 I9 ⟨a,sb,ha⟩=>?_) (.inr hy));have aD:D'≠a:=by
  rintro rfl;rcases ha with z|z
  ·exact nL z
  ·exact nC y _ z rfl
 exact⟨m,hn.sameBut sb aD,λh'' sb2=>⟨_,H',I9.turned (t':=s9.toks) (λb o hb e=>(sb2.2 b hb).trans e) nH nL (.inr n0) nC nP,q⟩⟩
theorem uj{wi:TI}(C:Bd (aG (CXE P w) P w K mg base N qual scope' f cdv A outer s₀ H₀ E) scope cl x fv)
  (hi:PI (aG (CXE P w) P w K mg base N qual scope' f cdv A outer s₀ H₀ E) (.Name x px) iter wi) (he:∀(fp:List Addr) (s₁:Shared) (H1:Hp),PE ((aG (CXE P w) P w K mg base N qual scope' f cdv A outer s₀ H₀ E).blkX E (x::fv.map (·.1)) scope cl fp s₁ H1) elt te)
  (hs:∀v,foldedSetIterable iter (aG (CXE P w) P w K mg base N qual scope' f cdv A outer s₀ H₀ E).env v=pure v:=by intro _;rfl):PE (aG (CXE P w) P w K mg base N qual scope' f cdv A outer s₀ H₀ E) (.ListComp elt [⟨.Name x px,iter,[],0⟩] scope pos) (mz wi fv te):=by
 intro pins s σ H Q I h;rw[eval_ListComp];refine wpAny_comprehension_free (use:=none) rfl hs C.clos C.kind C.names (wpAny_mono (hi pins s σ H _ I h) (λv s1 h1=>wpAny_mono h1 (λitv s2 h2=>?_) λ_ _ z=>z) λ_ _ z=>z);obtain⟨it,fp,tn,J,H2,rfl,I2,T,st2,f2,rd⟩:=h2;refine pI (Ex:=E) (Qf:=Q) rfl C I2 T st2 f2 rd (he fp) (λp D H' s' ns nL nH n0 nC nP I8 q=>?_) λp D' Hc sc s' ev E1 m cenv Ic cx hE hcf hns hCn hCs hC0=>lN Ic cx hE hcf hns hCn hCs hC0;obtain⟨m,hn⟩:=ns;exact⟨m,hn,λh'' sb=>⟨.ref p,H',I8.turned (t':=s'.toks) (λb o hb e=>(sb.2 b hb).trans e) nH nL (.inr n0) nC nP,rfl,q⟩⟩
end
theorem nE{K:W.Frag}{a:Addr}{xs:List V}{fv:List (Str×Nat)}{te:TE}{σ:St}{H1:Hp}{Q:VK}(hL:SqL K H1 a xs)(hlen:xs.length<1000000)(R:Nat->V->Hp->Prop)(hR:∀i v H H',SameT H H'->R i v H->R i v H')
  (hs:∀i x H2 (Kc:VK),xs[i]? = some x->Same H1 H2->(∀y H4,Same H2 H4->R i y H4->Kc y H4)->te (some x::fvs fv σ) H2 Kc)
  (hd:∀l ys H',H1 l=none->Same H1 H'->H' l=some (.lst ys)->ys.length=xs.length->(∀i y,ys[i]? = some y->R i y H')->Q (.ref l) H') :
  nR (Itl K a) fv te σ H1 Q:=by
 intro l hl;have hz:sizeLine=16777216:=sizeLine_eq;refine gP (K:=K) (a:=a) (xs:=xs) (l:=l) (fv:=fv) (Qp:=λH2=>Q (.ref l) H2) (λi acc H2=>acc.length=i/\Same H1 H2/\H2 l=some (.lst acc)/\∀j y,acc[j]? = some y->R j y H2)
  ⟨rfl,Same.new hl,upd_same,λj y h=>by simp at h⟩ ?_ ?_ ?_
 ·rintro i acc H2 hi ⟨e1,sm,e3,_⟩
  exact⟨sm.seq hL,e3,by omega⟩
 ·rintro i x acc H2 Kc hx ⟨e1,sm,e3,hr⟩ kk
  refine hs i x H2 Kc hx sm λy H4 s4 ry=>kk y H4 (s4 _ _ e3) ⟨by simp[e1],(sm.trans s4).upd hl,upd_same,λj z hz=>?_⟩;have t4:=SameT.upd (ys:=acc++[y]) (s4 _ _ e3);rcases Nat.lt_trichotomy j acc.length with h|h|h
  ·rw[List.getElem?_append_left h]at hz
   exact hR _ _ _ _ (s4.t.trans t4) (hr j z hz)
  ·subst h
   rw[List.getElem?_append_right (Nat.le_refl _),Nat.sub_self]at hz;cases hz;rw[e1];exact hR _ _ _ _ t4 ry
  ·rw[List.getElem?_eq_none (by simp;omega)]at hz
   cases hz
 ·rintro acc H2 ⟨e1,sm,e3,hr⟩
  exact hd l acc H2 hl sm e3 e1 hr
end L2
namespace Dr
open PySem PySem.Spec L2 Mth Sp1 Sp2 Sp3 Sp7
noncomputable def Pot(H:Hp)(p:Addr)(k:Int):Prop:=∃a b c:Int,H p=some (.lst [.int a,.int b,.int c])/\0<=b/\b<=k/\0<=c/\c<2147483647
noncomputable def But(p:Addr)(H H':Hp):Prop:=∀b o,b≠p->H b=some o->H' b=some o
theorem But.refl{p:Addr}{H:Hp}:But p H H:=λ_ _ _ e=>e
theorem But.trans{p:Addr}{H H1 H2:Hp}(a:But p H H1)(b:But p H1 H2):But p H H2:=λc o n e=>b c o n (a c o n e)
theorem But.of{p:Addr}{H H':Hp}(s:Same H H'):But p H H':=λc o _ e=>s c o e
theorem But.same{p:Addr}{H0 H H':Hp}(b:But p H H')(s:Same H0 H)(h:H0 p=none):Same H0 H':=λc o e=>b c o (aL e h) (s c o e)
theorem Pot.mono{H:Hp}{p:Addr}{k k':Int}(h:Pot H p k)(hk:k<=k'):Pot H p k':=by
 obtain⟨a,b,c,e,h0,h1,h2,h3⟩:=h;exact⟨a,b,c,e,h0,by omega,h2,h3⟩
theorem Pot.same{H H':Hp}{p:Addr}{k:Int}(h:Pot H p k)(s:Same H H'):Pot H' p k:=by
 obtain⟨a,b,c,e,h0⟩:=h;exact⟨a,b,c,s _ _ e,h0⟩
theorem But.t{p:Addr}{H H':Hp}{k:Int}(b:But p H H')(h:Pot H p k):SameT H H':=λc xs e=>by
 obtain⟨x,y,z,ep,_⟩:=h;exact b c _ (uB e ep (by intro z;cases z)) e
theorem Pot.ne{H:Hp}{p l:Addr}{k:Int}(h:Pot H p k)(hl:H l=none):l≠p:=λz=>by
 obtain⟨x,y,w,ep,_⟩:=h;subst z;rw[hl]at ep;cases ep
theorem But.none{p l:Addr}{H H':Hp}(b:But p H H')(n:l≠p)(h:H' l=none):H l=none:=by
 cases e:H l with
 | none=>rfl
 | some o =>
  rw[b l o n e]at h;cases h
inductive spCell (K:W.Frag) (vs:List V) (H:Hp) (Q:VK) (x_3:XK):Prop
 | mk:∀(sa:Addr) (ss:List Int) (k:Int),(vs = [.ref sa,.int k])->(SqL K H sa (ss.map V.int))->(0<=k)->(∀c:Int,Q (.int c) H)->spCell K vs H Q x_3
inductive spBegun (vs:List V) (H:Hp) (Q:VK) (x_3:XK):Prop
 | mk:∀c:Int,(vs = [.int c])->(∀(p:Addr) (H':Hp),Same H H'->H p=none->Pot H' p 0->Q (.ref p) H')->spBegun vs H Q x_3
inductive spTk (vs:List V) (H:Hp) (Q:VK) (x_3:XK):Prop
 | mk:∀(p:Addr) (m k:Int),(vs = [.ref p,.int m])->(Pot H p k)->(k<=1000000)->((0<m/\au m<=8000))->(∀(r:Int) (H':Hp),0<=r->r<m->But p H H'->Pot H' p (k+1)->Q (.int r) H')->spTk vs H Q x_3
inductive spWd (vs:List V) (H:Hp) (Q:VK) (x_3:XK):Prop
 | mk:∀(p:Addr) (m k:Int),(vs = [.ref p,.int m])->(Pot H p k)->(k<=900000)->((0<m/\au m<=8000))->(∀(r:Int) (H':Hp),0<=r->r<m->But p H H'->Pot H' p (k+4)->Q (.int r) H')->spWd vs H Q x_3
inductive spDLine (vs:List V) (H:Hp) (Q:VK) (x_3:XK):Prop
 | mk:∀(p:Addr) (k:Int),(vs = [.ref p])->(Pot H p k)->(k<=800000)->(∀(l:Addr) (qs:Crn) (H':Hp),LineM H' l qs->1<=qs.length->qs.length<=10->H l=none->But p H H'->Pot H' p (k+100)->Q (.ref l) H')->spDLine vs H Q x_3
inductive Fg (vs:List V) (H:Hp) (Q:VK) (x_3:XK):Prop
 | mk:∀(p:Addr) (n k:Int),(vs = [.ref p,.int n])->(Pot H p k)->(k<=900000)->(∀(r:Int) (H':Hp),Sm r->But p H H'->Pot H' p (k+1)->Q (.int r) H')->Fg vs H Q x_3
inductive Fd (vs:List V) (H:Hp) (Q:VK) (x_3:XK):Prop
 | mk:∀(p l:Addr) (qs:Crn) (k:Int),(vs = [.ref p,.ref l])->(Pot H p k)->(k<=700000)->(LineM H l qs)->((1<=qs.length/\qs.length<=10))->(∀(r:Addr) (rs:Crn) (H':Hp),LineM H' r rs->1<=rs.length->rs.length<=10->H r=none->But p H H'->Q (.ref r) H')->Fd vs H Q x_3
inductive Fi (K:W.Frag) (vs:List V) (H:Hp) (Q:VK) (x_3:XK):Prop
 | mk:∀(sa:Addr) (ss:List Int),(vs = [.ref sa])->(SqL K H sa (ss.map V.int))->(∀(t l r:Addr) (qs rs:Crn) (H':Hp),Same H H'->H' t=some (.tup [.ref l,.ref r])->LineM H' l qs->(1<=qs.length/\qs.length<=10)->LineM H' r rs->(1<=rs.length/\rs.length<=10)->H l=none->H r=none->l≠r->Q (.ref t) H')->Fi K vs H Q x_3
theorem _root_.Sp7.LineM.but{p l:Addr}{H H':Hp}{qs:Crn}{k:Int}(L:LineM H l qs)(b:But p H H')(h:Pot H p k)(n:l≠p):LineM H' l qs:=⟨b l _ n L.lst,λq hq=>⟨b.t h _ _ (L.crn q hq).1,(L.crn q hq).2⟩⟩
theorem uU{n:Nat}{i:Int}(h0:0<=i)(h1:i<(n:Int)):ixN n i=some i.toNat:=by
 unfold ixN;rw[if_pos h0,if_pos h1]
theorem uF{K:W.Frag}{H:Hp}{l:Addr}{xs:List V}{i:Int}{Q:VK}(C:Int->Prop)(e:H l=some (.lst xs))(h0:0<=i)(h1:i<(xs.length:Int))(hC:∀v∈xs,∃m,v = .int m/\C m)(h:∀m,C m->Q (.int m) H):HP K (.ref l) (.int i) H Q :=
 zi e h0 h1 λv hv=>by
  obtain⟨m,rfl,hc⟩:=hC v hv;exact h m hc
theorem yI{qs:Crn}{k:Int}(h0:0<=k)(h1:k<(qs.length:Int)):∃q,qs[k.toNat]? = some q/\atI (qs.map λ(q:Addr×Int×Int)=>V.ref q.1) k=some (.ref q.1):=by
 have hk:k.toNat<qs.length:=by omega
 refine⟨qs[k.toNat],List.getElem?_eq_getElem hk,?_⟩;have:=eE (xs:=qs.map λ(q:Addr×Int×Int)=>V.ref q.1) (j:=k.toNat) (v:=.ref qs[k.toNat].1) (by rw[List.getElem?_map,List.getElem?_eq_getElem hk];rfl);rw[show((k.toNat:Nat):Int)=k by omega]at this;exact this
noncomputable def uX(s:Stmt):Stmt:=match s with
 | .If _ (b::_) _ _=>b
 | _=>.Pass ⟨0,0,0,0⟩
noncomputable def jG(s:Stmt):Expr:=match s with
 | .Return (some e) _=>e
 | .Assign _ e _=>e
 | .If e _ _ _=>e
 | _=>.Name "" ⟨0,0,0,0⟩
end Dr
namespace Dr
open PySem
noncomputable def compScope(e:Expr):Scope:=match e with
 | .ListComp _ _ sc _=>sc
 | .Call _ [.ListComp _ _ sc _] _ _=>sc
 | _=>{ kind:=.function,names:=[],isGenerator:=false,isCoroutine:=false }
end Dr
namespace PySem
namespace F
theorem lri_no_len:typeLookup (.type "list_reverseiterator") (Str.ofString "__len__")=pure none:=by rw[typeLookup_type,builtinLookup_eq_fast];kernel_rfl
theorem lri_hint:typeLookup (.type "list_reverseiterator") (Str.ofString "__length_hint__")=pure (some (.builtin "list_reverseiterator.__length_hint__")):=by rw[typeLookup_type,builtinLookup_eq_fast];kernel_rfl
end F
section
variable {prog:Program} {w:World} {A:Around} {E:Value->Shared->Prop} {s:Shared}
theorem jR{it:Addr}{Q:Bool->Shared->Prop}(hT:s.TypeIs (.ref it) "list_reverseiterator")(h:Q false s):wpAny (model prog w) A (Builtin.List.listLengthHint (.ref it)) Q E s:=by
 unfold Builtin.List.listLengthHint;refine wpAny_bind (wpAny_specialOf hT F.lri_no_len ?_);show wpAny _ A (specialOf (Value.ref it) (Str.ofString "__length_hint__") >>= _) _ _ _;refine wpAny_bind (wpAny_specialOf hT F.lri_hint ?_);generalize hid:("list_reverseiterator.__length_hint__" : String)=id0
 wp_delta
 rw[show splitId id0=some ("list_reverseiterator","__length_hint__") from by subst hid;decide +kernel];subst hid;refine wpAny_bind (wpAny_isInstance (T:="list_reverseiterator") (b:=true) hT (by rw[isSubtype_type];kernel_rfl) ?_);refine wpAny_ite_split (λhab=>absurd hab (by decide)) (λ_=>?_);refine wpAny_ite_split (λ_=>?_) (λhab=>absurd (by decide +kernel) hab);refine wpAny_ite_split (λhab=>absurd hab (by decide +kernel)) (λ_=>?_);exact wpAny_pure h
theorem iY{R:Result->Shared->Prop}{it l:Addr}{items:Array Value}(hh:A.handled=none)(hit:s.heap.IsRevIter it l ((items.size:Int) - 1))(hl:s.heap.IsList l items)(hne:l≠it)(hn:items.size<=sizeLine)(S:Addr)(res:Value)(c0:Nat)(hSi:S≠it)(hSl:S≠l)
  (hS:s.heap.get? S=some { cls:=.type "list",data:=.seq #[] c0 })
  (hR:∀h' tk acc' c',(∀b o,b≠S->b≠it->s.heap.get? b=some o->h'.get? b=some o)->h'.get? S=some { cls:=.type "list",dict:=none,data:=.seq acc' c',slots:=#[] } ->
   ItemsOf (λi v=>items[items.size - 1 - i]? = some v) acc' items.size->R (.ok (.ret res)) { s with heap:=h',toks:=tk }) :
  wpAny (model prog w) A.in1 (Builtin.List.listExtendWith (.ref S) (.ref it) res)
   (λfin s'=>match fin with | .done f=>R (.ok f) s' | .again c'=>c'.quiet=true/\codeAny (model prog w) A c' R s') (λe s'=>R (.error e) s') s:=by
 have W:=(Walks.listRev (prog:=prog) (w:=w) (A:=A.in1) hh it l hne items).toS;have hSf:S∉[it,l]:=λhm=>by
  simp only[List.mem_cons,List.not_mem_nil,or_false]at hm;rcases hm with e|e
  ·exact hSi e
  ·exact hSl e
 unfold Builtin.List.listExtendWith;refine wpAny_bind (wpAny_typeOf hit.typeIs ?_);have h1:Builtin.List.listSameRef (.ref S) (.ref it)=false:=by simp[Builtin.List.listSameRef,hSi]
 have h2:(Value.type "list_reverseiterator" == Value.type "list")=false:=by decide
 have h3:(Value.type "list_reverseiterator" == Value.type "tuple")=false:=by decide
 simp only[h1,h2,h3,Bool.or_false,Bool.false_eq_true,if_false];refine wpAny_bind (wpAny_pyIter_revIter hit ?_);refine wpAny_bind (wpAny_holding (jR hit.typeIs ?_));refine wpAny_ite_split (λhab=>absurd hab (by decide +kernel)) (λ_=>?_);refine wpAny_pure ⟨plainId_quiet F.plain_extend_loop _,codeAny_extend_loopS W hn S hSf res items.size 0 s #[] c0 rfl (Nat.zero_le _) ⟨Nat.zero_le _,by simpa using hit,hl⟩ hS (ItemsOf.nil _) λs' acc' c' hm hS' hacc=>?_⟩;rw[Moved.eq_with hm];refine hR s'.heap s'.toks acc' c' (λb o hb hi e=>hm.heap b o (λhmem=>?_) e) hS' hacc;rcases List.mem_cons.mp hmem with e'|hmem
 ·exact hb e'
 ·exact hi (List.mem_singleton.mp hmem)
theorem lq{Q:Value->Shared->Prop}{it l:Addr}{items:Array Value}(hh:A.handled=none)(hit:s.heap.IsRevIter it l ((items.size:Int) - 1))(hl:s.heap.IsList l items)(hne:l≠it)(hn:items.size<=sizeLine)
  (hQ:∀h' tk acc' c',(∀b o,b≠it->s.heap.get? b=some o->h'.get? b=some o) ->
   h'.get? s.heap.objs.size=some { cls:=.type "list",dict:=none,data:=.seq acc' c',slots:=#[] }->ItemsOf (λi v=>items[items.size - 1 - i]? = some v) acc' items.size->Q (.ref s.heap.objs.size) { s with heap:=h',toks:=tk }) :
  wpAny (model prog w) A (call (.type "list") [.ref it]) Q E s:=by
 obtain⟨oi,hoi,_⟩:=id hit;obtain⟨ol,hol,_⟩:=id hl;have hi:=Heap.lt_size hoi;have hll:=Heap.lt_size hol;refine callType_codes (Q₁:=λobj s1=>obj = .ref s.heap.objs.size/\s1={ s with heap:=s.heap.push { cls:=.type "list",data:=.seq #[] } }) F.called_list (F.typeCall_list_1 _) F.entry_list_init
  (code_list_new _ ⟨rfl,rfl⟩) λobj s1 h1=>?_
 obtain⟨rfl,rfl⟩:=h1;have hS:(s.heap.push { cls:=.type "list",data:=.seq #[] }).get? s.heap.objs.size=some { cls:=.type "list",data:=.seq #[] }:=Heap.get?_push_size _ rfl;refine⟨⟨_,hS,rfl⟩,F.args_list_init_2 _ _,?_⟩;show wpAny _ _ (do let old <- Builtin.List.listItems (.ref s.heap.objs.size);Builtin.List.listUpdate (.ref s.heap.objs.size) (λ_=>#[]);letGo old.toList.reverse;Builtin.List.listExtendWith (.ref s.heap.objs.size) (.ref it) .none) _ _ _
 refine wpAny_bind ?_;unfold Builtin.List.listItems;refine wpAny_bind (wpAny_seqItems hS rfl (wpAny_pure ?_));show wpAny _ _ (updateSeq s.heap.objs.size (λ_=>#[]) >>= λ_=>letGo (#[]:Array Value).toList.reverse >>= λ_=>Builtin.List.listExtendWith (.ref s.heap.objs.size) (.ref it) .none) _ _ _;refine wpAny_bind (wpAny_updateSeq hS rfl ?_);have hS2:=Heap.get?_update_self (Obj.mapSeq (λ_=>(#[]:Array Value))) hS rfl;have oth:∀b o,b≠s.heap.objs.size->s.heap.get? b=some o->((s.heap.push { cls:=.type "list",data:=.seq #[] }).update s.heap.objs.size (Obj.mapSeq (λ_=>(#[]:Array Value)))).get? b=some o :=
  λb o hb e=>(Heap.get?_update_other _ _ (Ne.symm hb)).trans (Heap.get?_push_of_some _ e)
 refine wpAny_bind (wpAny_letGo ?_);refine iY (A:=A.in1) hh (hit.at λo e=>oth it o (Nat.ne_of_lt hi) e) (hl.at λo e=>oth l o (Nat.ne_of_lt hll) e) hne hn _ .none _ (Nat.ne_of_gt hi) (Nat.ne_of_gt hll) hS2 λh' tk acc' c' hk hS' hacc=>?_;exact⟨rfl,hQ h' tk acc' c' (λb o hb e=>hk b o (Nat.ne_of_lt (Heap.lt_size e)) hb (oth b o (Nat.ne_of_lt (Heap.lt_size e)) e)) hS' hacc⟩
end
end PySem
namespace L2
open PySem PySem.Spec PyProof.Rows
section
variable {X:Cx} {e:Expr} {te:TE} {p1 p2 q1 q2:Pos}
theorem pH:bootBuiltins "reversed" = some (.type "reversed"):=by decide +kernel
noncomputable def tU(K:W.Frag)(te:TE):TE:=λσ H Q=>te σ H λx H1=>∃a xs,[x] = [.ref a]/\SqL K H1 a xs/\∀l H2,Same H1 H2->H2 l=some (.lst xs.reverse)->H1 l=none->Q (.ref l) H2
theorem oo(hcalm:X.calm=true)(gl:Gl X "list")(ml:X.mg "list" = none)(gr:Gl X "reversed")(mr:X.mg "reversed" = none)(he:PE X e te)
  (h1:starEach [.Call (.Name "reversed" p1) [e] [] q1] X.env = [(false,eval (.Call (.Name "reversed" p1) [e] [] q1) X.env)]:=by rfl) (h2:starEach [e] X.env = [(false,eval e X.env)]:=by rfl) :
  PE X (.Call (.Name "list" p2) [.Call (.Name "reversed" p1) [e] [] q1] [] q2) (tU X.K te):=by
 intro pins s σ H Q I h;have h':(cF te i3) σ H (λvs H1=>∃a xs,vs = [.ref a]/\SqL X.K H1 a xs/\∀l H2,Same H1 H2->H2 l=some (.lst xs.reverse)->H1 l=none->Q (.ref l) H2):=h;have inner:wpAny (model X.prog X.w) X.A (eval (.Call (.Name "reversed" p1) [e] [] q1) X.env) (λu s1=>∃(it a:Addr) (xs:List V) (its:List Value) (H1:Hp),u = .ref it/\Aj X pins σ H1 s1/\aJ xs its/\s1.heap.IsList a its.toArray/\xs.length<=sizeLine/\a≠it/\ee X pins H1 it/\s1.heap.IsRevIter it a ((its.toArray.size:Int) - 1) /\
   ∀l H2,Same H1 H2->H2 l=some (.lst xs.reverse)->H1 l=none->Q (.ref l) H2) X.xe s:=by
  refine wpAny_Call_Name_kw (gg I gr mr pH (PyProof.Rows.callWith_type1 (thn ((aa he ae h2) q1 pins s σ H (λvs H1=>∃a xs,vs = [.ref a]/\SqL X.K H1 a xs/\∀l H2,Same H1 H2->H2 l=some (.lst xs.reverse)->H1 l=none->Q (.ref l) H2) I ?_) λus s1 ⟨vs,H1,I1,r1,q⟩=>?_) h2 rfl))
  ·exact h'
  ·obtain⟨a,xs,rfl,hx,k⟩:=q
   obtain⟨u,rfl,ru⟩:=cE r1;cases ru;obtain⟨its,rv,pl,hz⟩:=I1.list hx;refine call_reversed_list pl.isList ?_;have al:a<s1.heap.objs.size:=by obtain⟨_,e,_⟩:=pl.isList;exact Heap.lt_size e
   have kp:∀b o,s1.heap.get? b=some o->(s1.heap.push (revObj a ((its.toArray.size:Int) - 1))).get? b=some o:=λb o e=>Heap.get?_push_of_some _ e;exact⟨_,a,xs,its,H1,rfl,I1.kept (t':=s1.toks) kp,rv,pl.isList.at λo e=>kp _ o e,hz,Nat.ne_of_lt al,I1.fpOk (Nat.le_refl _) (I1.hok.fresh (Nat.le_refl _)),⟨_,Heap.get?_push_size _ rfl,rfl,rfl⟩,k⟩
 refine wpAny_Call_Name_kw (gg I gl ml nG (PyProof.Rows.callWith_type1 ?_ h1 rfl));rw[h1];refine Calls.spliced_cons (thn inner λu s1 ⟨it,a,xs,its,H1,eu,I1,rv,hl,hz,hne,fp,hrev,k⟩=>?_);subst eu;refine Calls.spliced_nil ?_;have hlen:=rv.length;refine lq (I.ok.hd hcalm) hrev hl hne (by rw[List.size_toArray];omega) λh' tk acc' c' hk hS hacc=>?_;obtain⟨f0,f1,f2,f3,f4,f5⟩:=fp;have hfr:H1 s1.heap.objs.size=none:=I1.hok.fresh (Nat.le_refl _);have J1:Aj X pins σ H1 { s1 with heap:=h',toks:=tk }:=I1.turned (λb o hb e=>hk b o hb e) f0 f1 f3 f4 f5;have hv:aJ xs.reverse acc'.toList:=by
  have e:acc'=its.reverse.toArray:=by
   obtain⟨h3,h4⟩:=hacc;refine Array.ext ?_ λj hj1 hj2=>?_
   ·rw[h3];simp
   ·have z:=h4 j _ (Array.getElem?_eq_getElem hj1)
    rw[List.size_toArray]at z;have hj:j<its.length:=by simpa using hj2
    have z':its[its.length - 1 - j]? = some acc'[j]:=by simpa using z
    have y:its.reverse[j]? = its[its.length - 1 - j]?:=by rw[List.getElem?_reverse hj]
    rw[z']at y;have y2:its.reverse.toArray[j]? = some acc'[j]:=by simpa using y
    rw[Array.getElem?_eq_getElem hj2]at y2;exact(Option.some.inj y2).symm
  rw[e];exact rv.reverse
 have hn:X.s₀.heap.get? s1.heap.objs.size=none:=by
  cases e:X.s₀.heap.get? s1.heap.objs.size with
  | none=>rfl
  | some o=>exact absurd (Nat.lt_of_lt_of_le (Heap.lt_size e) I1.sz) (Nat.lt_irrefl _)
 obtain⟨g0,g1,g2,g3,g4,g5⟩:=I1.fpOk (H':=H1) (Nat.le_refl _) hfr;have J2:=J1.track (o:=.lst xs.reverse) hfr hn g1 g4 g5 ⟨by rw[List.length_reverse];exact hz,acc'.toList,c',hv,by simpa using hS⟩;exact⟨.ref s1.heap.objs.size,_,J2,rfl,k _ _ (Same.new hfr) upd_same hfr⟩
end
end L2
namespace Wk
open PySem PySem.Spec L2 Mth Sp1 Sp2 Sp3 Sp7 Dr
structure Pr where
 p:Addr
 x:Addr
 y:Addr
 a:Int
 b:Int
 c:Int
 d:Int
structure PrAt(H:Hp)(q:Pr):Prop where
 p_:H q.p=some (.tup [.ref q.x,.ref q.y])
 x_:H q.x=some (.tup [.int q.a,.int q.b])
 y_:H q.y=some (.tup [.int q.c,.int q.d])
 lx:Bg q.a q.b
 ly:Bg q.c q.d
 nx:0<=q.a
 ny:0<=q.c
 ba:au q.a<=200
 bb:au q.b<=60
 bc:au q.c<=200
 bd:au q.d<=60
theorem PrAt.t{H H':Hp}{q:Pr}(h:PrAt H q)(s:SameT H H'):PrAt H' q:=⟨s _ _ h.p_,s _ _ h.x_,s _ _ h.y_,h.lx,h.ly,h.nx,h.ny,h.ba,h.bb,h.bc,h.bd⟩
theorem PrAt.sx{H:Hp}{q:Pr}(h:PrAt H q):C7 q.a q.b:=⟨h.lx.pos,ai h.ba (by decide),ai h.bb (by decide)⟩
theorem PrAt.sy{H:Hp}{q:Pr}(h:PrAt H q):C7 q.c q.d:=⟨h.ly.pos,ai h.bc (by decide),ai h.bd (by decide)⟩
noncomputable def prs(ps:List Pr):List V:=ps.map λq=>V.ref q.p
structure Am(H:Hp)(l:Addr)(ps:List Pr):Prop where
 lst:H l=some (.lst (prs ps))
 pr:∀q∈ps,PrAt H q
theorem Am.mono{H H':Hp}{l:Addr}{ps:List Pr}(h:Am H l ps)(s:Same H H'):Am H' l ps:=⟨s _ _ h.lst,λq hq=>(h.pr q hq).t s.t⟩
theorem a7(ps:List Pr):(prs ps).length=ps.length:=List.length_map _
theorem dC{ps:List Pr}{i:Nat}{v:V}(h:(prs ps)[i]? = some v):∃q,ps[i]? = some q/\v = .ref q.p:=by
 unfold prs at h;rw[List.getElem?_map]at h;obtain⟨q,hq,rfl⟩:=Option.map_eq_some_iff.mp h;exact⟨q,hq,rfl⟩
noncomputable def aB:Str:="hops"
noncomputable def aM:Str:="free"
noncomputable def bz:Str:="part"
noncomputable def wOn:Str:="on"
noncomputable def goB(way:Str)(a b c d:Int):Bool :=
 if way=aB then (decide (b=1) && (decide (d=1) && (decide (c - a=0) || decide (c - a=1))))
 else if way=aM then aK a b c d
 else (!decide (c*b<a*d)) && aK a b c d
noncomputable def dJ(way:Str)(u v:Pr):Bool:=goB way u.a u.b v.a v.b && goB way u.c u.d v.c v.d
noncomputable def cf(way:Str):List Pr->Bool
 | u::v::r=>dJ way u v && cf way (v::r)
 | _=>true
noncomputable def isP(a b n:Int):Bool:=decide (a=n) && decide (b=1)
noncomputable def hV(n m:Int)(way:Str)(f l:Pr):Bool :=
 if isP f.a f.b 0 && isP l.a l.b n then (if way=bz then true else isP f.c f.d 0 && isP l.c l.d m) else false
noncomputable def inB(n m:Int)(q:Pr):Bool:=(decide (q.a<=n*q.b)) && (decide (q.c<=m*q.d))
noncomputable def bR(n m:Int)(way:Str)(ps:List Pr):Bool :=
 match ps with
 | []=>false
 | f::r=>(f::r).all (inB n m) && (hV n m way f ((f::r).getLast (by simp)) && cf way (f::r))
theorem cL(n m:Int)(way:Str)(f:Pr)(r:List Pr):bR n m way (f::r)=((f::r).all (inB n m) && (hV n m way f ((f::r).getLast (by simp)) && cf way (f::r))):=rfl
noncomputable def cy(n m:Int)(H:Hp):V->Bool
 | .ref p=>match H p with
  | some (.tup [x,y])=>aN n H x && aN m H y
  | _=>false
 | _=>false
noncomputable def cW(n m:Int)(H:Hp):V->Bool
 | .ref p=>match H p with
  | some (.lst xs)=>!xs.isEmpty && xs.all (cy n m H)
  | _=>false
 | _=>false
structure Ih(H:Hp)(v:V):Prop where
 kn:∃t,Kn H v t
 parts:∀p xs,v = .ref p->H p=some (.tup xs)->∀y∈xs,AN H y/\∀q a b,y = .ref q->H q=some (.tup [.int a,.int b])->au a<=200/\au b<=60
structure HV(H:Hp)(v:V):Prop where
 kn:∃t,Kn H v t
 parts:∀p xs,v = .ref p->H p=some (.lst xs)->xs.length<900/\∀y∈xs,Ih H y
inductive Gr (vs:List V) (H:Hp) (Q:VK) (x_3:XK):Prop
 | mk:∀(l1 l2:Addr) (xs1 xs2:List V) (v:V),(vs = [.ref l1,.ref l2,v])->((H l1=some (.lst xs1)/\xs1.length<=100))->((H l2=some (.lst xs2)/\xs2.length<=100))->(Ih H v)->(Q (.bl (cy ((xs1.length:Int) - 1) ((xs2.length:Int) - 1) H v)) H)->Gr vs H Q x_3
inductive El (vs:List V) (H:Hp) (Q:VK) (x_3:XK):Prop
 | mk:∀(l1 l2:Addr) (xs1 xs2:List V) (v:V),(vs = [.ref l1,.ref l2,v])->((H l1=some (.lst xs1)/\xs1.length<=100))->((H l2=some (.lst xs2)/\xs2.length<=100))->(HV H v)->(∀H',Same H H'->Q (.bl (cW ((xs1.length:Int) - 1) ((xs2.length:Int) - 1) H v)) H')->El vs H Q x_3
theorem rD{H H':Hp}{p:Addr}{t:String}{o:HO}(k:Kn H (.ref p) t)(s:Same H H')(e:H' p=some o):H p=some o:=by
 cases k with
 | lst e1=>rw[s _ _ e1]at e;rw[e1];exact e
 | tup e1=>rw[s _ _ e1]at e;rw[e1];exact e
 | dict e1=>rw[s _ _ e1]at e;rw[e1];exact e
theorem Ih.mono{H H':Hp}{v:V}(h:Ih H v)(s:Same H H'):Ih H' v:=by
 obtain⟨⟨t,k⟩,pt⟩:=h;refine⟨⟨t,k.mono s⟩,λp xs e1 e2 y hy=>?_⟩;subst e1;obtain⟨th,bd⟩:=pt p xs rfl (rD k s e2) y hy;refine⟨AN.mono th s,λq a b e3 e4=>?_⟩;subst e3;obtain⟨t2,k2⟩:=th.kn;exact bd q a b rfl (rD k2 s e4)
theorem cP{n:Int}{H H':Hp}{v:V}(h:AN H v)(s:Same H H'):aN n H' v=aN n H v:=by
 obtain⟨t,k⟩:=h.kn;cases k with
 | non=>rfl
 | bl b=>rfl
 | int i=>rfl
 | str x=>rfl
 | lst e=>simp only[aN,e,s _ _ e]
 | tup e=>simp only[aN,e,s _ _ e]
 | dict e=>simp only[aN,e,s _ _ e]
theorem gH{n m:Int}{H:Hp}{p:Addr}{x y:V}(e:H p=some (.tup [x,y])):cy n m H (.ref p)=(aN n H x && aN m H y):=by simp only[cy,e]
theorem ql{n m:Int}{H H':Hp}{v:V}(h:Ih H v)(s:Same H H'):cy n m H' v=cy n m H v:=by
 obtain⟨⟨t,k⟩,pt⟩:=h;cases k with
 | non=>rfl
 | bl b=>rfl
 | int i=>rfl
 | str x=>rfl
 | lst e=>simp only[cy,e,s _ _ e]
 | dict e=>simp only[cy,e,s _ _ e]
 | @tup p xs e =>
  match xs,e with
  | [],e=>simp only[cy,e,s _ _ e]
  | [x],e=>simp only[cy,e,s _ _ e]
  | [x,y],e =>
   rw[gH e,gH (s _ _ e),cP (pt _ _ rfl e x (by simp)).1 s,cP (pt _ _ rfl e y (by simp)).1 s]
  | x::y::z::r,e=>simp only[cy,e,s _ _ e]
theorem sJ{n m:Int}{H:Hp}{v:V}(h:Ih H v)(hv:cy n m H v=true):∃q:Pr,v = .ref q.p/\PrAt H q/\inB n m q=true:=by
 unfold cy at hv
 split at hv
 ·split at hv
  ·rename_i p _ x y e
   rw[Bool.and_eq_true]at hv;obtain⟨p1,a,b,rfl,e1,lw1,n1,r1⟩:=ia hv.1;obtain⟨p2,c,d,rfl,e2,lw2,n2,r2⟩:=ia hv.2;have b1:=(h.parts p _ rfl e (.ref p1) (by simp)).2 p1 a b rfl e1;have b2:=(h.parts p _ rfl e (.ref p2) (by simp)).2 p2 c d rfl e2;refine⟨⟨p,p1,p2,a,b,c,d⟩,rfl,⟨e,e1,e2,lw1,lw2,n1,n2,b1.1,b1.2,b2.1,b2.2⟩,?_⟩;unfold inB;rw[Bool.and_eq_true,decide_eq_true_eq,decide_eq_true_eq];exact⟨r1,r2⟩
  ·cases hv
 ·cases hv
theorem kc{n m:Int}{H:Hp}{p:Addr}{xs:List V}(e:H p=some (.lst xs)):cW n m H (.ref p)=(!xs.isEmpty && xs.all (cy n m H)):=by simp only[cW,e]
theorem ke{n m:Int}{H:Hp}{v:V}(h:HV H v)(hv:cW n m H v=true):∃(l:Addr) (ps:List Pr),v = .ref l/\Am H l ps/\ps≠[]/\ps.all (inB n m)=true/\ps.length<900:=by
 have hv0:=hv;unfold cW at hv
 split at hv
 ·split at hv
  ·rename_i p _ xs e
   rw[Bool.and_eq_true]at hv;obtain⟨hl,hy⟩:=h.parts p xs rfl e;have ch:∀xs:List V,(∀y∈xs,Ih H y)->xs.all (cy n m H)=true->∃ps:List Pr,xs=prs ps/\(∀q∈ps,PrAt H q)/\ps.all (inB n m)=true:=by
    intro xs
    induction xs with
    | nil=>exact λ_ _=>⟨[],rfl,(λq h=>nomatch h),rfl⟩
    | cons x xs ih =>
     intro h1 h2;rw[List.all_cons,Bool.and_eq_true]at h2;obtain⟨ps,e1,e2,e3⟩:=ih (λy hy=>h1 y (List.mem_cons_of_mem _ hy)) h2.2;obtain⟨q,rfl,pq,iq⟩:=sJ (h1 x List.mem_cons_self) h2.1;refine⟨q::ps,by rw[e1];rfl,λr hr=>?_,by rw[List.all_cons,iq,e3];rfl⟩;rcases List.mem_cons.mp hr with rfl|hr
     ·exact pq
     ·exact e2 r hr
   obtain⟨ps,rfl,e2,e3⟩:=ch xs hy hv.2;refine⟨p,ps,rfl,⟨e,e2⟩,λz=>?_,e3,by rw[a7]at hl;exact hl⟩;subst z;exact absurd hv.1 (by simp[prs])
  ·cases hv
 ·cases hv
theorem Kn.cases_lst'{H:Hp}{n m:Int}{y:V}{t:String}(k:Kn H y t):(∃p xs,y = .ref p/\H p=some (.lst xs)/\t = "list")\/(cW n m H y=false/\eS t "list" = false):=by
 cases k with
 | lst e=>exact .inl ⟨_,_,rfl,e,rfl⟩
 | non=>exact .inr ⟨rfl,by decide⟩
 | bl b=>exact .inr ⟨rfl,by decide⟩
 | str x=>exact .inr ⟨rfl,by decide⟩
 | int a=>exact .inr ⟨rfl,by decide⟩
 | tup e=>exact .inr ⟨by simp only[cW,e],by decide⟩
 | dict e=>exact .inr ⟨by simp only[cW,e],by decide⟩
theorem Kn.cases_tp'{H:Hp}{n m:Int}{y:V}{t:String}(k:Kn H y t):(∃p xs,y = .ref p/\H p=some (.tup xs)/\t = "tuple")\/(cy n m H y=false/\eS t "tuple" = false):=by
 cases k with
 | tup e=>exact .inl ⟨_,_,rfl,e,rfl⟩
 | non=>exact .inr ⟨rfl,by decide⟩
 | bl b=>exact .inr ⟨rfl,by decide⟩
 | str x=>exact .inr ⟨rfl,by decide⟩
 | int a=>exact .inr ⟨rfl,by decide⟩
 | lst e=>exact .inr ⟨by simp only[cy,e],by decide⟩
 | dict e=>exact .inr ⟨by simp only[cy,e],by decide⟩
theorem PrAt.th{H:Hp}{q:Pr}(h:PrAt H q):Ih H (.ref q.p):=by
 refine⟨⟨_,.tup h.p_⟩,λp xs e1 e2 y hy=>?_⟩;cases e1;rw[h.p_]at e2;cases e2;have two:∀{a b:Int} {z:Addr},H z=some (.tup [.int a,.int b])->au a<=200->au b<=60->AN H (.ref z)/\∀q a b,V.ref z = .ref q->H q=some (.tup [.int a,.int b])->au a<=200/\au b<=60:=λ{a b z} e ha hb=>by
  refine⟨th_tup e λv hv=>?_,λq a' b' e1 e2=>?_⟩
  ·simp only[List.mem_cons,List.not_mem_nil,or_false]at hv
   rcases hv with rfl|rfl <;> exact⟨_,.int _⟩
  ·cases e1
   rw[e]at e2;cases e2;exact⟨ha,hb⟩
 simp only[List.mem_cons,List.not_mem_nil,or_false]at hy;rcases hy with rfl|rfl
 ·exact two h.x_ h.ba h.bb
 ·exact two h.y_ h.bc h.bd
theorem Am.th{H:Hp}{l:Addr}{ps:List Pr}(h:Am H l ps)(hl:ps.length<900):HV H (.ref l):=by
 refine⟨⟨_,.lst h.lst⟩,λp xs e1 e2=>?_⟩;cases e1;rw[h.lst]at e2;cases e2;refine⟨by rw[a7];exact hl,λy hy=>?_⟩;obtain⟨q,hq,rfl⟩:=List.mem_map.mp hy;exact(h.pr q hq).th
theorem PrAt.pv{n m:Int}{H:Hp}{q:Pr}(h:PrAt H q):cy n m H (.ref q.p)=inB n m q:=by
 rw[gH h.p_,dP h.x_,dP h.y_,oF h.lx,oF h.ly,decide_eq_true h.nx,decide_eq_true h.ny];rfl
theorem Am.pv{n m:Int}{H:Hp}{l:Addr}{ps:List Pr}(h:Am H l ps):cW n m H (.ref l)=(!ps.isEmpty && ps.all (inB n m)):=by
 rw[kc h.lst];unfold prs;rw[List.all_map]
 congr 1
 ·cases ps <;> rfl
 ·apply Bool.eq_iff_iff.mpr
  rw[List.all_eq_true,List.all_eq_true];exact⟨λz q hq=>by rw[<- (h.pr q hq).pv];exact z q hq,λz q hq=>by show cy n m H (.ref q.p)=true;rw[(h.pr q hq).pv];exact z q hq⟩
noncomputable def eB(w:Str):Prop:=w=wOn\/w=bz\/w=aM\/w=aB
noncomputable instance (w:Str):Decidable (eB w):=inferInstanceAs (Decidable (_\/_))
inductive E4 (C:Addr) (vs:List V) (H:Hp) (Q:VK) (E:XK):Prop
 | mk:∀(x:V) (t:String),(vs = [x])->(Kn H x t)->(((∃w,x = .str w/\eB w/\Q .non H)\/((∀w,x = .str w->¬eB w)/\E (.ref C) none H)))->E4 C vs H Q E
inductive Gz (vs:List V) (H:Hp) (Q:VK) (x_3:XK):Prop
 | mk:∀(l1 l2 l:Addr) (xs1 xs2:List V) (f:Pr) (r:List Pr) (w:Str),(vs = [.ref l1,.ref l2,.ref l,.str w])->(H l1=some (.lst xs1))->(H l2=some (.lst xs2))->(Am H l (f::r))->(∀H',Same H H'->Q (.bl (hV ((xs1.length:Int) - 1) ((xs2.length:Int) - 1) w f ((f::r).getLast (by simp)))) H')->Gz vs H Q x_3
inductive Eu (g:Int->Int->Int->Int->Bool) (vs:List V) (H:Hp) (Q:VK) (x_3:XK):Prop
 | mk:∀(p q:Addr) (a b c d:Int),(vs = [.ref p,.ref q])->(H p=some (.tup [.int a,.int b]))->(H q=some (.tup [.int c,.int d]))->(C7 a b)->(C7 c d)->(∀H',Same H H'->Q (.bl (g a b c d)) H')->Eu g vs H Q x_3
inductive HK (vs:List V) (H:Hp) (Q:VK) (x_3:XK):Prop
 | mk:∀(p q:Addr) (a b c d:Int) (w:Str),(vs = [.ref p,.ref q,.str w])->(H p=some (.tup [.int a,.int b]))->(H q=some (.tup [.int c,.int d]))->(C7 a b)->(C7 c d)->(∀H',Same H H'->Q (.bl (goB w a b c d)) H')->HK vs H Q x_3
inductive E6 (vs:List V) (H:Hp) (Q:VK) (x_3:XK):Prop
 | mk:∀(l:Addr) (ps:List Pr) (w:Str),(vs = [.ref l,.str w])->(Am H l ps)->(ps.length<900)->(∀H',Same H H'->Q (.bl (cf w ps)) H')->E6 vs H Q x_3
noncomputable def xk(n m:Int)(w:Str)(H:Hp)(v:V)(b:Bool):Prop:=(cW n m H v=false/\b=false)\/∃(l:Addr) (ps:List Pr),v = .ref l/\Am H l ps/\b=bR n m w ps
inductive Es (C:Addr) (vs:List V) (H:Hp) (Q:VK) (E:XK):Prop
 | mk:∀(l1 l2:Addr) (xs1 xs2:List V) (v x:V) (t:String),(vs = [.ref l1,.ref l2,v,x])->((H l1=some (.lst xs1)/\xs1.length<=100))->((H l2=some (.lst xs2)/\xs2.length<=100))->(HV H v)->(Kn H x t)->(((∃w,x = .str w/\eB w/\∀(b:Bool) (H':Hp),Same H H'->xk ((xs1.length:Int) - 1) ((xs2.length:Int) - 1) w H v b->Q (.bl b) H')\/((∀w,x = .str w->¬eB w)/\E (.ref C) none H)))->Es C vs H Q E
end Wk
namespace L2
open PySem PySem.Spec PyProof.Rows
theorem v0{X:Cx}{K:W.Frag}{pos:Pos}{es:List Expr}{k:Nat}{t:TGs}{n:Nat}(hK:X.K=K)(hc:X.calm=true)(h:PGs X es t)
  (hn:(assignEach es X.env).length=n:=by rfl) (hst:(assignEach es X.env).findIdx? (·.1)=none:=by rfl):PG X (.Tuple es k pos) (IF K n t):=by
 subst hK;exact fY hc h hn hst
end L2
namespace Fnc
open PySem PySem.Spec L2 Mth Sp1 Sp2 Sp3 Sp7 Dr Wk
noncomputable def ltB(a b c d:Int):Bool:=decide (a*d<c*b)
noncomputable def eC(u v:Pr):Bool:=!ltB u.a u.b v.a v.b && !ltB v.c v.d u.c u.d
noncomputable def hJ(u v:Pr):Bool:=decide ([u.a,u.b] = [v.a,v.b]) && (decide (u.b=1) && aK u.c u.d v.c v.d)
noncomputable def jt(u v:Pr):Bool:=decide ([u.c,u.d] = [v.c,v.d]) && (decide (u.d=1) && aK u.a u.b v.a v.b)
noncomputable def oN(n:Int)(u v:Pr):Bool:=if n=0 then hJ u v else jt u v
noncomputable def cR(u v:Pr):Bool:=hJ u v || jt u v
noncomputable def eJ(u v:Pr):Bool:=(decide (v.a - u.a<=0) && decide (u.c - v.c<=1)) || (decide (v.a - u.a<=1) && decide (u.c - v.c<=0))
noncomputable def cT(way:Str)(u v:Pr):Bool:=if way=aB then eJ u v else if way=aM then cR u v else (eC u v || cR u v)
noncomputable def aV(way:Str):List Pr->Bool
 | u::v::r=>cT way u v && aV way (v::r)
 | _=>true
noncomputable def dY(n m:Int)(way:Str)(f l:Pr):Bool:=if way=bz then (isP f.c f.d m && isP l.c l.d 0) else ((isP f.c f.d m || isP f.a f.b 0) && (isP l.c l.d 0 || isP l.a l.b n))
noncomputable def bq(q:Pr):Bool:=decide (q.b=1) && decide (q.d=1)
noncomputable def bh(n m:Int)(way:Str)(ps:List Pr):Bool :=
 match ps with
 | []=>false
 | f::r=>(f::r).all (inB n m) && ((if way=aB then (f::r).all bq else true) && (dY n m way f ((f::r).getLast (by simp)) && aV way (f::r)))
theorem ce(n m:Int)(way:Str)(f:Pr)(r:List Pr):bh n m way (f::r)=((f::r).all (inB n m) && ((if way=aB then (f::r).all bq else true) && (dY n m way f ((f::r).getLast (by simp)) && aV way (f::r)))):=rfl
theorem dX{w:Str}:∀{ps:List Pr},aV w ps=true↔∀(j:Nat) u v,ps[j]? = some u->ps[j+1]? = some v->cT w u v=true
 | []=>by simp[aV]
 | [u]=>by simp[aV]
 | u::v::r=>by
  unfold aV;rw[Bool.and_eq_true,dX (ps:=v::r)];constructor
  ·rintro⟨h1,h2⟩ j x y ex ey
   cases j with
   | zero=>cases ex;cases ey;exact h1
   | succ j=>exact h2 j x y (by simpa using ex) (by simpa using ey)
  ·intro h
   exact⟨h 0 u v rfl rfl,λj x y ex ey=>h (j+1) x y (by simpa using ex) (by simpa using ey)⟩
inductive DZ (g:Pr->Pr->Bool) (vs:List V) (H:Hp) (Q:VK) (x_3:XK):Prop
 | mk:∀u v:Pr,(vs = [.ref u.p,.ref v.p])->(PrAt H u)->(PrAt H v)->(∀H',Same H H'->Q (.bl (g u v)) H')->DZ g vs H Q x_3
inductive Fk (vs:List V) (H:Hp) (Q:VK) (x_3:XK):Prop
 | mk:∀(u v:Pr) (n:Int),(vs = [.ref u.p,.ref v.p,.int n])->((n=0\/n=1))->(PrAt H u)->(PrAt H v)->(∀H',Same H H'->Q (.bl (oN n u v)) H')->Fk vs H Q x_3
inductive Gw (vs:List V) (H:Hp) (Q:VK) (x_3:XK):Prop
 | mk:∀(u v:Pr) (wy:Str),(vs = [.ref u.p,.ref v.p,.str wy])->(PrAt H u)->(PrAt H v)->(∀H',Same H H'->Q (.bl (cT wy u v)) H')->Gw vs H Q x_3
inductive HD (vs:List V) (H:Hp) (Q:VK) (x_3:XK):Prop
 | mk:∀u:Pr,(vs = [.ref u.p])->(PrAt H u)->(Q (.bl (bq u)) H)->HD vs H Q x_3
inductive Fl (vs:List V) (H:Hp) (Q:VK) (x_3:XK):Prop
 | mk:∀(l1 l2 l:Addr) (xs1 xs2:List V) (f:Pr) (r:List Pr) (wy:Str),(vs = [.ref l1,.ref l2,.ref l,.str wy])->(H l1=some (.lst xs1))->(H l2=some (.lst xs2))->(Am H l (f::r))->(∀H',Same H H'->Q (.bl (dY ((xs1.length:Int) - 1) ((xs2.length:Int) - 1) wy f ((f::r).getLast (by simp)))) H')->Fl vs H Q x_3
inductive Ew (vs:List V) (H:Hp) (Q:VK) (x_3:XK):Prop
 | mk:∀(l:Addr) (ps:List Pr) (wy:Str),(vs = [.ref l,.str wy])->(Am H l ps)->(ps.length<900)->(∀H',Same H H'->Q (.bl (aV wy ps)) H')->Ew vs H Q x_3
noncomputable def vk(n m:Int)(wy:Str)(H:Hp)(v:V)(b:Bool):Prop:=(cW n m H v=false/\b=false)\/∃(l:Addr) (ps:List Pr),v = .ref l/\Am H l ps/\b=bh n m wy ps
inductive DI (C:Addr) (vs:List V) (H:Hp) (Q:VK) (E:XK):Prop
 | mk:∀(l1 l2:Addr) (xs1 xs2:List V) (v x:V) (t:String),(vs = [.ref l1,.ref l2,v,x])->((H l1=some (.lst xs1)/\xs1.length<=100))->((H l2=some (.lst xs2)/\xs2.length<=100))->(HV H v)->(Kn H x t)->(((∃wy,x = .str wy/\eB wy/\∀(b:Bool) (H':Hp),Same H H'->vk ((xs1.length:Int) - 1) ((xs2.length:Int) - 1) wy H v b->Q (.bl b) H')\/((∀wy,x = .str wy->¬eB wy)/\E (.ref C) none H)))->DI C vs H Q E
theorem di(i j:Int):decide (V.int i=V.int j)=decide (i=j):=by
 rw[Bool.eq_iff_iff];simp
theorem ds{u v:Str}{b:Bool}(h:decide (V.str u=V.str v)=b):decide (u=v)=b:=by
 rw[<- h,Bool.eq_iff_iff];simp
theorem uK{H:Hp}{u v:Pr}(pu:PrAt H u)(pv:PrAt H v):(au u.a<=2000/\au u.b<=2000/\au v.a<=2000/\au v.b<=2000)/\(au v.c<=2000/\au v.d<=2000/\au u.c<=2000/\au u.d<=2000) :=
 ⟨⟨ai pu.ba (by decide),ai pu.bb (by decide),ai pv.ba (by decide),ai pv.bb (by decide)⟩,⟨ai pv.bc (by decide),ai pv.bd (by decide),ai pu.bc (by decide),ai pu.bd (by decide)⟩⟩
noncomputable def ptB(wy:Str):Bool:=decide (wy=bz)
noncomputable def e1B(m:Int)(wy:Str)(f:Pr):Bool:=isP f.c f.d m || (!ptB wy && isP f.a f.b 0)
noncomputable def e2B(n:Int)(wy:Str)(z:Pr):Bool:=isP z.c z.d 0 || (!ptB wy && isP z.a z.b n)
theorem vi(n m:Int)(wy:Str)(f z:Pr):dY n m wy f z=(e1B m wy f && e2B n wy z):=by
 unfold dY e1B e2B ptB
 by_cases h:wy=bz
 ·rw[if_pos h,decide_eq_true h]
  simp
 ·rw[if_neg h,decide_eq_false h]
  simp
end Fnc
namespace Sp11
open PySem PySem.Spec L2 Mth Sp1 Sp2
inductive BM (C:Addr) (vs:List V) (H:Hp) (Q:VK) (E:XK):Prop
 | mk:∀(a b:Int) (n:Nat),(vs = [.int a,.int b])->((au a<=n/\au b<=n/\n<=7900))->((b=0->E (.ref C) none H))->((b≠0->∀(p:Addr) (t u:Int),Ak a b t u->au t<=n->au u<=n->H p=none->Q (.ref p) (upd H p (.tup [.int t,.int u]))))->BM C vs H Q E
structure Dd(H:Hp)(p:Addr)(a b:Int)(n:Nat):Prop where
 at_:H p=some (.tup [.int a,.int b])
 low:Bg a b
 ba:au a<=n
 bb:au b<=n
theorem Dd.mono{H H':Hp}{p:Addr}{a b:Int}{n:Nat}(f:Dd H p a b n)(s:Same H H'):Dd H' p a b n:=⟨s _ _ f.at_,f.low,f.ba,f.bb⟩
theorem Dd.wide{H:Hp}{p:Addr}{a b:Int}{m n:Nat}(f:Dd H p a b m)(h:m<=n):Dd H p a b n:=⟨f.at_,f.low,ai f.ba h,ai f.bb h⟩
inductive CJ (num den:Int->Int->Int->Int->Int) (vs:List V) (H:Hp) (Q:VK) (x_3:XK):Prop
 | mk:∀(p q:Addr) (a b c d:Int) (n:Nat),(vs = [.ref p,.ref q])->(Dd H p a b n)->(Dd H q c d n)->(n<=3900)->(den a b c d≠0)->(∀(r:Addr) (t u:Int) (H':Hp),Ak (num a b c d) (den a b c d) t u->Dd H' r t u (2*n+1)->Same H H'->Q (.ref r) H')->CJ num den vs H Q x_3
noncomputable def numAt(x y t b:Int):Int:=x*b+(y - x)*(t % b)
inductive Ff (vs:List V) (H:Hp) (Q:VK) (x_3:XK):Prop
 | mk:∀(x y:Int) (p:Addr) (t b:Int),(vs = [.int x,.int y,.ref p])->(Dd H p t b 200)->(au x<=60)->(au y<=60)->(∀(r:Addr) (u v:Int) (H':Hp),Ak (numAt x y t b) b u v->Dd H' r u v 262->Same H H'->Q (.ref r) H')->Ff vs H Q x_3
noncomputable def jV(qs:List (Addr×Int×Int))(t b:Int):Int×Int:=(qs.getD (t / b).toNat (0,0,0)).2
noncomputable def jU(qs:List (Addr×Int×Int))(t b:Int):Int×Int:=(qs.getD (min ((t / b).toNat+1) (qs.length - 1)) (0,0,0)).2
noncomputable def ptX(qs:List (Addr×Int×Int))(t b:Int):Int:=numAt (jV qs t b).1 (jU qs t b).1 t b
noncomputable def ptY(qs:List (Addr×Int×Int))(t b:Int):Int:=numAt (jV qs t b).2 (jU qs t b).2 t b
structure EE(H:Hp)(r:Addr)(X Y b:Int)(n:Nat):Prop where
 ex:∃(rx ry:Addr) (u v c d:Int),H r=some (.tup [.ref rx,.ref ry])/\Dd H rx u v n/\Dd H ry c d n/\Ak X b u v/\Ak Y b c d
theorem EE.mono{H H':Hp}{r:Addr}{X Y b:Int}{n:Nat}(p:EE H r X Y b n)(s:Same H H'):EE H' r X Y b n:=by
 obtain⟨rx,ry,u,v,c,d,e,f,g,h,k⟩:=p.ex;exact⟨⟨rx,ry,u,v,c,d,s _ _ e,f.mono s,g.mono s,h,k⟩⟩
inductive Ek (C:Addr) (vs:List V) (H:Hp) (Q:VK) (E:XK):Prop
 | mk:∀(l:Addr) (qs:List (Addr×Int×Int)) (x:V),(vs = [.ref l,x])->(At H l qs)->(1<=qs.length)->(qs.length<=20)->(AN H x)->((aN ((qs.length:Int) - 1) H x=false->E (.ref C) none H))->((∀(p:Addr) (t b:Int),x = .ref p->H p=some (.tup [.int t,.int b])->Bg t b->0<=t->t<=((qs.length:Int) - 1)*b->au t<=200/\au b<=200 /\
  ∀(r:Addr) (H':Hp),EE H' r (ptX qs t b) (ptY qs t b) b 262->Same H H'->Q (.ref r) H'))->Ek C vs H Q E
structure Hx(H:Hp)(r:Addr)(u v c d:Int)(n:Nat):Prop where
 ex:∃rx ry:Addr,H r=some (.tup [.ref rx,.ref ry])/\Dd H rx u v n/\Dd H ry c d n
theorem Hx.mono{H H':Hp}{r:Addr}{u v c d:Int}{n:Nat}(p:Hx H r u v c d n)(s:Same H H'):Hx H' r u v c d n:=by
 obtain⟨rx,ry,e,f,g⟩:=p.ex;exact⟨⟨rx,ry,s _ _ e,f.mono s,g.mono s⟩⟩
inductive E7 (vs:List V) (H:Hp) (Q:VK) (x_3:XK):Prop
 | mk:∀(p q:Addr) (u v c d u' v' c' d':Int),(vs = [.ref p,.ref q])->(Hx H p u v c d 262)->(Hx H q u' v' c' d' 262)->(∀(r:Addr) (a b e f:Int) (H':Hp),Ak (u'*v - u*v') (v'*v) a b->Ak (c'*d - c*d') (d'*d) e f->Hx H' r a b e f 525->Same H H'->Q (.ref r) H')->E7 vs H Q x_3
inductive Em (vs:List V) (H:Hp) (Q:VK) (x_3:XK):Prop
 | mk:∀(p q:Addr) (a b e f a' b' e' f':Int),(vs = [.ref p,.ref q])->(Hx H p a b e f 525)->(Hx H q a' b' e' f' 525)->(∀(r:Addr) (m n m' n' s w:Int) (H':Hp),Ak (a*a') (b*b') m n->Ak (e*e') (f*f') m' n'->Ak (m*n'+m'*n) (n*n') s w->Dd H' r s w 2103->Same H H'->Q (.ref r) H')->Em vs H Q x_3
noncomputable def sqN(X Y b X' Y' b':Int):Int:=(X'*b - X*b')*(X'*b - X*b')+(Y'*b - Y*b')*(Y'*b - Y*b')
noncomputable def sqD(b b':Int):Int:=(b*b')*(b*b')
inductive GZ (vs:List V) (H:Hp) (Q:VK) (x_3:XK):Prop
 | mk:∀(p q:Addr) (X Y b X' Y' b':Int),(vs = [.ref p,.ref q])->(EE H p X Y b 262)->(EE H q X' Y' b' 262)->(0<b)->(0<b')->(∀(r:Addr) (s w:Int) (H':Hp),Ak (sqN X Y b X' Y' b') (sqD b b') s w->Dd H' r s w 2103->Same H H'->Q (.ref r) H')->GZ vs H Q x_3
theorem rO{X b X' b' u v u' v' a e:Int}(hv:v≠0)(hv':v'≠0)(h1:X*v=u*b)(h2:X'*v'=u'*b')(h3:(u'*v - u*v')*e=a*(v'*v)):(X'*b - X*b')*e=a*(b*b'):=by
 have z:(v*v')*((X'*b - X*b')*e)=(v*v')*(a*(b*b')):=by
  have z1:(v*v')*((X'*b - X*b')*e)=(X'*v'*(b*v) - X*v*(b'*v'))*e:=by grind
  rw[z1,h1,h2];have z2:(u'*b'*(b*v) - u*b*(b'*v'))*e=b*b'*((u'*v - u*v')*e):=by grind
  rw[z2,h3]
  grind
 exact Int.eq_of_mul_eq_mul_left (Int.mul_ne_zero hv hv') z
theorem xn{D B a e m n:Int}(he:e≠0)(h1:D*e=a*B)(h2:a*a*n=m*(e*e)):D*D*n=m*(B*B):=by
 have z:(e*e)*(D*D*n)=(e*e)*(m*(B*B)):=by
  have z1:(e*e)*(D*D*n)=(D*e)*(D*e)*n:=by grind
  rw[z1,h1];have z2:a*B*(a*B)*n=B*B*(a*a*n):=by grind
  rw[z2,h2]
  grind
 exact Int.eq_of_mul_eq_mul_left (Int.mul_ne_zero he he) z
theorem xP{S T G m n m' n' s w:Int}(hn:n≠0)(hn':n'≠0)(h1:S*n=m*G)(h2:T*n'=m'*G)(h3:(m*n'+m'*n)*w=s*(n*n')):(S+T)*w=s*G:=by
 have z:(n*n')*((S+T)*w)=(n*n')*(s*G):=by
  have z1:(n*n')*((S+T)*w)=(S*n*n'+T*n'*n)*w:=by grind
  rw[z1,h1,h2];have z2:(m*G*n'+m'*G*n)*w=G*((m*n'+m'*n)*w):=by grind
  rw[z2,h3]
  grind
 exact Int.eq_of_mul_eq_mul_left (Int.mul_ne_zero hn hn') z
theorem qQ{X Y b X' Y' b' u v c d u' v' c' d' a e a' e' m n m' n' s w:Int}(f1:Ak X b u v)(f2:Ak Y b c d)(f3:Ak X' b' u' v')(f4:Ak Y' b' c' d')(g1:Ak (u'*v - u*v') (v'*v) a e)(g2:Ak (c'*d - c*d') (d'*d) a' e')
  (k1:Ak (a*a) (e*e) m n) (k2:Ak (a'*a') (e'*e') m' n') (k3:Ak (m*n'+m'*n) (n*n') s w):Ak (sqN X Y b X' Y' b') (sqD b b') s w:=by
 refine⟨k3.low,?_⟩;have p1:=f1.low.pos;have p2:=f2.low.pos;have p3:=f3.low.pos;have p4:=f4.low.pos;have p5:=g1.low.pos;have p6:=g2.low.pos;have p7:=k1.low.pos;have p8:=k2.low.pos;have q1:=rO (by omega) (by omega) f1.eq f3.eq g1.eq;have q2:=rO (by omega) (by omega) f2.eq f4.eq g2.eq;have q3:=xn (by omega) q1 k1.eq;have q4:=xn (by omega) q2 k2.eq;exact xP (by omega) (by omega) q3 q4 k3.eq
structure DL(H:Hp)(p:Addr)(t b n:Int):Prop where
 at_:H p=some (.tup [.int t,.int b])
 low:Bg t b
 lo:0<=t
 hi:t<=n*b
 bt:au t<=200
 bb:au b<=200
theorem DL.mono{H H':Hp}{p:Addr}{t b n:Int}(f:DL H p t b n)(s:Same H H'):DL H' p t b n:=⟨s _ _ f.at_,f.low,f.lo,f.hi,f.bt,f.bb⟩
theorem DL.th{H:Hp}{p:Addr}{t b n:Int}(f:DL H p t b n):AN H (.ref p):=th_tup f.at_ λv hv=>by
 simp only[List.mem_cons,List.not_mem_nil,or_false]at hv;rcases hv with rfl|rfl <;> exact⟨_,.int _⟩
theorem DL.place{H:Hp}{p:Addr}{t b n:Int}(f:DL H p t b n):aN n H (.ref p)=true:=gE f.at_ f.low f.lo f.hi
theorem cP{n:Int}{H H':Hp}{x:V}{k:String}(kn:Kn H x k)(s:Same H H'):aN n H' x=aN n H x:=by
 cases kn with
 | non=>rfl
 | bl b=>rfl
 | int i=>rfl
 | str x=>rfl
 | lst e=>simp only[aN,e,s _ _ e]
 | tup e=>simp only[aN,e,s _ _ e]
 | dict e=>simp only[aN,e,s _ _ e]
theorem AN.mono{H H':Hp}{x:V}(h:AN H x)(s:Same H H'):AN H' x:=by
 obtain⟨⟨t,k⟩,pt⟩:=h;refine⟨⟨t,k.mono s⟩,λp xs e1 e2 y hy=>?_⟩;subst e1;have e3:H p=some (.tup xs):=by
  cases k with
  | lst e=>rw[s _ _ e]at e2;cases e2
  | tup e=>rw[s _ _ e]at e2;cases e2;exact e
  | dict e=>rw[s _ _ e]at e2;cases e2
 obtain⟨t',k'⟩:=pt p xs rfl e3 y hy;exact⟨t',k'.mono s⟩
noncomputable abbrev Crn:=List (Addr×Int×Int)
noncomputable def sqF(qs:Crn)(t b:Int)(qs':Crn)(t' b':Int):Int:=sqN (ptX qs t b) (ptY qs t b) b (ptX qs' t' b') (ptY qs' t' b') b'
noncomputable def aH(qs:Crn):Int:=(qs.length:Int) - 1
inductive Dn (C:Addr) (vs:List V) (H:Hp) (Q:VK) (E:XK):Prop
  | mk:∀(l l':Addr) (qs qs':Crn) (x y:V),(vs = [.ref l,x,.ref l',y])->(At H l qs)->(At H l' qs')->((1<=qs.length/\qs.length<=20))->((1<=qs'.length/\qs'.length<=20))->(AN H x)->(AN H y)->(((aN (aH qs) H x=false/\E (.ref C) none H) \/
   (∃(p:Addr) (t b:Int),x = .ref p/\DL H p t b (aH qs) /\
     ((aN (aH qs') H y=false/\∀H',Same H H'->E (.ref C) none H') \/
      (∃(q:Addr) (t' b':Int),y = .ref q/\DL H q t' b' (aH qs') /\
        ∀(r:Addr) (s w:Int) (H':Hp),Ak (sqF qs t b qs' t' b') (sqD b b') s w->Dd H' r s w 2103->Same H H'->Q (.ref r) H')))))->Dn C vs H Q E
theorem eW{H:Hp}{l:Addr}{qs:Crn}(L:At H l qs)(j:Nat):au (qs.getD j (0,0,0)).2.1<=50/\au (qs.getD j (0,0,0)).2.2<=50:=by
 rw[List.getD_eq_getElem?_getD]
 by_cases h:j<qs.length
 ·rw[List.getElem?_eq_getElem h]
  exact(L.crn _ (List.getElem_mem h)).2
 ·rw[List.getElem?_eq_none (by omega)]
  exact⟨by decide,by decide⟩
theorem oC{x y t b:Int}(hb:0<b)(bx:au x<=50)(by':au y<=50)(bb:au b<=200):au (numAt x y t b)<=262:=by
 have br:au (t % b)<=200:=d7 (Int.emod_nonneg _ (by omega)) (Int.le_of_lt (Int.emod_lt_of_pos _ hb)) bb;exact ai (dq (n:=251) (ai (bits_mul bx bb) (by decide)) (bits_mul (cI by' bx) br)) (by decide)
theorem mF{H:Hp}{l:Addr}{qs:Crn}{t b:Int}(L:At H l qs)(hb:0<b)(bb:au b<=200):au (ptX qs t b)<=262/\au (ptY qs t b)<=262 :=
 ⟨oC hb (eW L _).1 (eW L _).1 bb,oC hb (eW L _).2 (eW L _).2 bb⟩
noncomputable def cr(c:Int×Int->Int)(qs:Crn)(j:Nat):Int:=c (qs.getD j (0,0,0)).2
noncomputable def ptC(c:Int×Int->Int)(qs:Crn)(t b:Int):Int:=numAt (c (jV qs t b)) (c (jU qs t b)) t b
theorem xr{c:Int×Int->Int}{qs:Crn}{t b:Int}{k:Nat}(hb:0<b)(hk:k+1<qs.length)(h1:(k:Int)*b<=t)(h2:t<=((k:Int)+1)*b) :
  ptC c qs t b=cr c qs k*b+(cr c qs (k+1) - cr c qs k)*(t - (k:Int)*b):=by
 have e0:=Int.emod_add_mul_ediv t b;rw[Int.mul_comm]at e0;have r0:=Int.emod_nonneg t (show b≠0 by omega);have r1:=Int.emod_lt_of_pos t hb;unfold ptC Sp11.numAt jV jU
 by_cases hlt:t<((k:Int)+1)*b
 ·have ek:t / b=(k:Int):=by
   refine Int.le_antisymm ?_ (vg hb h1);have h3:t / b<(k:Int)+1:=Int.ediv_lt_of_lt_mul hb hlt;omega
  have er:t % b=t - (k:Int)*b:=by rw[ek]at e0;omega
  rw[ek,er,Int.toNat_natCast,Nat.min_eq_left (by omega)];rfl
 ·have et:t=((k:Int)+1)*b:=by omega
  have ek:t / b=(k:Int)+1:=by rw[et];exact Int.mul_ediv_cancel _ (by omega)
  have er:t % b=0:=by rw[et];exact Int.mul_emod_left _ _
  rw[ek,er,show((k:Int)+1).toNat=k+1 by omega,Int.mul_zero,Int.add_zero];have e2:t - (k:Int)*b=b:=by rw[et,Int.add_mul,Int.one_mul];omega
  rw[e2];show cr c qs (k+1)*b=_;generalize cr c qs (k+1)=x;generalize cr c qs k=y;rw[Int.sub_mul];omega
noncomputable def rq(a b:Int):Rat:=(a:Rat) / (b:Rat)
theorem cz{a:Int}(h:a≠0):(a:Rat)≠0:=λz=>h (Rat.intCast_eq_zero_iff.mp z)
theorem fF{m n u v:Int}(f:Ak m n u v)(hn:n≠0):rq u v=rq m n:=by
 have h1:(m:Rat)*(v:Rat)=(u:Rat)*(n:Rat):=by rw[<- Rat.intCast_mul,<- Rat.intCast_mul,f.eq]
 have h2:=cz hn;have h3:=cz (show v≠0 by have:=f.low.pos;omega);unfold rq
 grind
theorem lK{u v m n:Int}(hv:v≠0)(hn:n≠0)(h:rq u v=rq m n):u*n=m*v:=by
 have h2:=cz hn;have h3:=cz hv;unfold rq at h;have h1:(u:Rat)*(n:Rat)=(m:Rat)*(v:Rat):=by grind
 rw[<- Rat.intCast_mul,<- Rat.intCast_mul]at h1;exact Rat.intCast_inj.mp h1
theorem xT{a b c d:Int}(hb:b≠0)(hd:d≠0):rq (a*d - c*b) (b*d)=rq a b - rq c d:=by
 have:=cz hb;have:=cz hd;unfold rq;rw[Rat.intCast_sub,Rat.intCast_mul,Rat.intCast_mul,Rat.intCast_mul]
 grind
theorem xW{a b c d:Int}(hb:b≠0)(hd:d≠0):rq (a*d+c*b) (b*d)=rq a b+rq c d:=by
 have:=cz hb;have:=cz hd;unfold rq;rw[Rat.intCast_add,Rat.intCast_mul,Rat.intCast_mul,Rat.intCast_mul]
 grind
theorem xU{a b c d:Int}:rq (a*c) (b*d)=rq a b*rq c d:=by
 unfold rq;rw[Rat.intCast_mul,Rat.intCast_mul]
 grind
theorem xV{a b c d:Int}:rq (a*d) (b*c)=rq a b / rq c d:=by
 unfold rq;rw[Rat.intCast_mul,Rat.intCast_mul]
 grind
theorem pb{a b c d s w:Int}(hb:b≠0)(hd:d≠0)(f:Ak (a*d - c*b) (b*d) s w):rq s w=rq a b - rq c d:=by
 rw[fF f (Int.mul_ne_zero hb hd),xT hb hd]
theorem vm{a b c d s w:Int}(hb:b≠0)(hd:d≠0)(f:Ak (a*d+c*b) (b*d) s w):rq s w=rq a b+rq c d:=by
 rw[fF f (Int.mul_ne_zero hb hd),xW hb hd]
theorem pd{a b c d s w:Int}(hb:b≠0)(hd:d≠0)(f:Ak (a*c) (b*d) s w):rq s w=rq a b*rq c d:=by
 rw[fF f (Int.mul_ne_zero hb hd),xU]
theorem zD{a b c d s w:Int}(hb:b≠0)(hc:c≠0)(f:Ak (a*d) (b*c) s w):rq s w=rq a b / rq c d:=by
 rw[fF f (Int.mul_ne_zero hb hc),xV]
theorem nzl{a b:Int}(h:Bg a b):b≠0:=by have:=h.pos;omega
theorem lW{m n u v:Int}{i j:Nat}(hn:0<n)(f:Ak m n u v)(hm:au m<=i)(hj:au n<=j):au u<=i/\au v<=j:=by
 have hg:=fB (a:=m) (b:=n) (by omega);obtain⟨e1,e2⟩:=jw (by omega) f (iK hn);subst e1 e2;exact⟨eY hg hm,eY hg hj⟩
noncomputable def nM(X Y b X1 Y1 b1 X2 Y2 b2:Int):Int:=((X2*b1 - X1*b2)*(X*b1 - X1*b)+(Y2*b1 - Y1*b2)*(Y*b1 - Y1*b))*b2
noncomputable def nN(b X1 Y1 b1 X2 Y2 b2:Int):Int:=b*((X2*b1 - X1*b2)*(X2*b1 - X1*b2)+(Y2*b1 - Y1*b2)*(Y2*b1 - Y1*b2))
theorem ue{x y z X1 Y1 z1 X2 Y2 z2:Rat}(hz:z≠0)(h1:z1≠0)(h2:z2≠0)(hN:z*((X2*z1 - X1*z2)*(X2*z1 - X1*z2)+(Y2*z1 - Y1*z2)*(Y2*z1 - Y1*z2))≠0) :
  ((x / z - X1 / z1)*(X2 / z2 - X1 / z1)+(y / z - Y1 / z1)*(Y2 / z2 - Y1 / z1)) / ((X2 / z2 - X1 / z1)*(X2 / z2 - X1 / z1)+(Y2 / z2 - Y1 / z1)*(Y2 / z2 - Y1 / z1)) =
   (((X2*z1 - X1*z2)*(x*z1 - X1*z)+(Y2*z1 - Y1*z2)*(y*z1 - Y1*z))*z2) / (z*((X2*z1 - X1*z2)*(X2*z1 - X1*z2)+(Y2*z1 - Y1*z2)*(Y2*z1 - Y1*z2))):=by
 have k1:x=x / z*z:=by grind
 have k2:y=y / z*z:=by grind
 have k3:X1=X1 / z1*z1:=by grind
 have k4:Y1=Y1 / z1*z1:=by grind
 have k5:X2=X2 / z2*z2:=by grind
 have k6:Y2=Y2 / z2*z2:=by grind
 generalize x / z=p at *;generalize y / z=q at *;generalize X1 / z1=a at *;generalize Y1 / z1=a' at *;generalize X2 / z2=c at *;generalize Y2 / z2=c' at *;subst k1 k2 k3 k4 k5 k6;have m0:∀{u v:Rat},u≠0->v≠0->u*v≠0:=λhu hv z=>by
  rcases Rat.mul_eq_zero.mp z with z|z
  ·exact hu z
  ·exact hv z
 have hK:z*(z1*z1)*(z2*z2)≠0:=m0 (m0 hz (m0 h1 h1)) (m0 h2 h2);have e1:((c*z2*z1 - a*z1*z2)*(p*z*z1 - a*z1*z)+(c'*z2*z1 - a'*z1*z2)*(q*z*z1 - a'*z1*z))*z2=(z*(z1*z1)*(z2*z2))*((p - a)*(c - a)+(q - a')*(c' - a')):=by grind
 have e2:z*((c*z2*z1 - a*z1*z2)*(c*z2*z1 - a*z1*z2)+(c'*z2*z1 - a'*z1*z2)*(c'*z2*z1 - a'*z1*z2))=(z*(z1*z1)*(z2*z2))*((c - a)*(c - a)+(c' - a')*(c' - a')):=by grind
 rw[e2]at hN;rw[e1,e2];generalize (p - a)*(c - a)+(q - a')*(c' - a')=T at *;generalize (c - a)*(c - a)+(c' - a')*(c' - a')=S at *;generalize z*(z1*z1)*(z2*z2)=k at *;have hS:S≠0:=λz=>hN (by rw[z,Rat.mul_zero])
 grind
theorem wm{X Y b X1 Y1 b1 X2 Y2 b2 u v c d u1 v1 c1 d1 u2 v2 c2 d2 a e a' e' g h g' h' m n m' n' i j m2 n2 m2' n2' i2 j2 s w:Int}(hb:b≠0)(hb1:b1≠0)(hb2:b2≠0)
  (f1:Ak X b u v) (f2:Ak Y b c d) (f3:Ak X1 b1 u1 v1) (f4:Ak Y1 b1 c1 d1) (f5:Ak X2 b2 u2 v2) (f6:Ak Y2 b2 c2 d2)
  (g1:Ak (u2*v1 - u1*v2) (v2*v1) a e) (g2:Ak (c2*d1 - c1*d2) (d2*d1) a' e') (g3:Ak (u*v1 - u1*v) (v*v1) g h) (g4:Ak (c*d1 - c1*d) (d*d1) g' h')
  (k1:Ak (g*a) (h*e) m n) (k2:Ak (g'*a') (h'*e') m' n') (k3:Ak (m*n'+m'*n) (n*n') i j) (l1:Ak (a*a) (e*e) m2 n2) (l2:Ak (a'*a') (e'*e') m2' n2') (l3:Ak (m2*n2'+m2'*n2) (n2*n2') i2 j2)
  (hi:i2≠0) (fin:Ak (i*j2) (j*i2) s w) (hN:nN b X1 Y1 b1 X2 Y2 b2≠0):s*nN b X1 Y1 b1 X2 Y2 b2=nM X Y b X1 Y1 b1 X2 Y2 b2*w:=by
 refine lK (nzl fin.low) hN ?_;have q1:=fF f1 hb;have q2:=fF f2 hb;have q3:=fF f3 hb1;have q4:=fF f4 hb1;have q5:=fF f5 hb2;have q6:=fF f6 hb2;have r1:=pb (nzl f5.low) (nzl f3.low) g1;have r2:=pb (nzl f6.low) (nzl f4.low) g2;have r3:=pb (nzl f1.low) (nzl f3.low) g3;have r4:=pb (nzl f2.low) (nzl f4.low) g4;have s1:=pd (nzl g3.low) (nzl g1.low) k1;have s2:=pd (nzl g4.low) (nzl g2.low) k2;have s3:=vm (nzl k1.low) (nzl k2.low) k3;have t1:=pd (nzl g1.low) (nzl g1.low) l1;have t2:=pd (nzl g2.low) (nzl g2.low) l2;have t3:=vm (nzl l1.low) (nzl l2.low) l3;have w1:=zD (nzl k3.low) hi fin;rw[w1,s3,t3,s1,s2,t1,t2,r1,r2,r3,r4,q1,q2,q3,q4,q5,q6];have hN':=cz hN;unfold nN at hN';unfold rq nM nN;simp only[Rat.intCast_mul,Rat.intCast_add,Rat.intCast_sub]at hN' ⊢;exact ue (cz hb) (cz hb1) (cz hb2) hN'
theorem uA{X1 Y1 b1 X2 Y2 b2 u1 v1 c1 d1 u2 v2 c2 d2 a e a' e' m2 n2 m2' n2' i2 j2:Int}(hb1:0<b1)(hb2:0<b2)(f3:Ak X1 b1 u1 v1)(f4:Ak Y1 b1 c1 d1)(f5:Ak X2 b2 u2 v2)(f6:Ak Y2 b2 c2 d2)
  (g1:Ak (u2*v1 - u1*v2) (v2*v1) a e) (g2:Ak (c2*d1 - c1*d2) (d2*d1) a' e') (l1:Ak (a*a) (e*e) m2 n2) (l2:Ak (a'*a') (e'*e') m2' n2') (l3:Ak (m2*n2'+m2'*n2) (n2*n2') i2 j2)
  (hS:0<(X2*b1 - X1*b2)*(X2*b1 - X1*b2)+(Y2*b1 - Y1*b2)*(Y2*b1 - Y1*b2)):0<i2:=by
 have f:=qQ f3 f4 f5 f6 g1 g2 l1 l2 l3;have e:=f.eq;unfold sqN at e;have hj:=f.low.pos;have hd:0<sqD b1 b2:=Int.mul_pos (Int.mul_pos hb1 hb2) (Int.mul_pos hb1 hb2);have h:0<i2*sqD b1 b2:=by rw[<- e];exact Int.mul_pos hS (by omega)
 exact Int.pos_of_mul_pos_left h hd
noncomputable def cX(qs:Crn)(k:Nat):Int:=(qs.getD k (0,0,0)).2.1
noncomputable def cY(qs:Crn)(k:Nat):Int:=(qs.getD k (0,0,0)).2.2
noncomputable def dL(dx dy:Int):Int:=dx*dx+dy*dy
noncomputable def dA(X Y b bx by_ dx dy:Int):Int:=(X - bx*b)*dx+(Y - by_*b)*dy
structure IG(n k:Nat)(l1 l2 h1 h2:Int):Prop where
 kn:k+1<n
 lo:(k:Int)*l2<=l1
 lt:l1*h2<h1*l2
 hi:h1<=((k:Int)+1)*h2
noncomputable def Cl(L al b lu l2 hu h2 Tu B:Int):Prop:=(Tu=lu/\B=l2/\(L=0\/al*l2<lu*(L*b)))\/(Tu=hu/\B=h2/\L≠0/\¬al*l2<lu*(L*b)/\hu*(L*b)<al*h2) \/
 (L≠0/\¬al*l2<lu*(L*b)/\¬hu*(L*b)<al*h2/\Tu*(L*b)=al*B)
noncomputable def kL(qs:Crn)(k:Nat):Int:=dL (cX qs (k+1) - cX qs k) (cY qs (k+1) - cY qs k)
noncomputable def kA(X Y b:Int)(qs:Crn)(k:Nat):Int:=dA X Y b (cX qs k) (cY qs k) (cX qs (k+1) - cX qs k) (cY qs (k+1) - cY qs k)
noncomputable def LPc(X Y b:Int)(qs:Crn)(l1 l2 h1 h2 T B:Int):Prop:=(l1=h1/\l2=h2/\T=l1/\B=l2) \/
 ∃k:Nat,IG qs.length k l1 l2 h1 h2/\Cl (kL qs k) (kA X Y b qs k) b (l1 - (k:Int)*l2) l2 (h1 - (k:Int)*h2) h2 (T - (k:Int)*B) B
noncomputable def InS(n:Nat)(l1 l2 h1 h2:Int):Prop:=(l1=h1/\l2=h2)\/∃k:Nat,IG n k l1 l2 h1 h2
theorem jZ{qs:Crn}{t b:Int}{k:Nat}(hb:0<b)(hk:k+1<qs.length)(h1:(k:Int)*b<=t)(h2:t<=((k:Int)+1)*b):ptX qs t b=cX qs k*b+(cX qs (k+1) - cX qs k)*(t - (k:Int)*b):=xr (c:=λz=>z.1) hb hk h1 h2
theorem jY{qs:Crn}{t b:Int}{k:Nat}(hb:0<b)(hk:k+1<qs.length)(h1:(k:Int)*b<=t)(h2:t<=((k:Int)+1)*b):ptY qs t b=cY qs k*b+(cY qs (k+1) - cY qs k)*(t - (k:Int)*b):=xr (c:=λz=>z.2) hb hk h1 h2
theorem zd{X Y b bx by_ dx dy lu l2 hu h2:Int}:nM X Y b (bx*l2+dx*lu) (by_*l2+dy*lu) l2 (bx*h2+dx*hu) (by_*h2+dy*hu) h2=(hu*l2 - lu*h2)*h2*(l2*dA X Y b bx by_ dx dy - lu*(dL dx dy*b)):=by
 unfold nM dA dL
 grind
theorem zc{b bx by_ dx dy lu l2 hu h2:Int}:nN b (bx*l2+dx*lu) (by_*l2+dy*lu) l2 (bx*h2+dx*hu) (by_*h2+dy*hu) h2=b*((hu*l2 - lu*h2)*(hu*l2 - lu*h2)*dL dx dy):=by
 unfold nN dL
 grind
theorem uh{l1 l2 h1 h2 s w a e m n T B:Int}(hl:l2≠0)(hh:h2≠0)(hw:w≠0)(f1:Ak (h1*l2 - l1*h2) (h2*l2) a e)(f2:Ak (s*a) (w*e) m n)(f3:Ak (l1*n+m*l2) (l2*n) T B):rq T B=rq l1 l2+rq s w*(rq h1 h2 - rq l1 l2):=by
 rw[vm hl (nzl f2.low) f3,pd hw (nzl f1.low) f2,pb hh hl f1]
theorem zV:rq 0 1=0:=by decide +kernel
theorem zU:rq 1 1=1:=by decide +kernel
theorem xt{l1 l2 h1 h2 a e m n T B:Int}(Ll:Bg l1 l2)(hh:h2≠0)(f1:Ak (h1*l2 - l1*h2) (h2*l2) a e)(f2:Ak (0*a) (1*e) m n)(f3:Ak (l1*n+m*l2) (l2*n) T B):T=l1/\B=l2:=by
 have e:=uh (nzl Ll) hh (by decide) f1 f2 f3;rw[zV,Rat.zero_mul,Rat.add_zero]at e;exact bF f3.low Ll (lK (nzl f3.low) (nzl Ll) e)
theorem yZ{l1 l2 h1 h2 a e m n T B:Int}(hl:l2≠0)(Lh:Bg h1 h2)(f1:Ak (h1*l2 - l1*h2) (h2*l2) a e)(f2:Ak (1*a) (1*e) m n)(f3:Ak (l1*n+m*l2) (l2*n) T B):T=h1/\B=h2:=by
 have e:=uh hl (nzl Lh) (by decide) f1 f2 f3;rw[zU,Rat.one_mul,show rq l1 l2+(rq h1 h2 - rq l1 l2)=rq h1 h2 by grind]at e;exact bF f3.low Lh (lK (nzl f3.low) (nzl Lh) e)
theorem x6{l1 l2 h1 h2 s w a e m n T B k L al b:Int}(hl:0<l2)(hh:0<h2)(hw:w≠0)(hL:0<L)(hb:0<b)(hd:0<h1*l2 - l1*h2)(f1:Ak (h1*l2 - l1*h2) (h2*l2) a e)(f2:Ak (s*a) (w*e) m n)(f3:Ak (l1*n+m*l2) (l2*n) T B)
  (hs:s*(b*((h1*l2 - l1*h2)*(h1*l2 - l1*h2)*L))=(h1*l2 - l1*h2)*h2*(l2*al - (l1 - k*l2)*(L*b))*w):(T - k*B)*(L*b)=al*B:=by
 have e:=uh (by omega) (by omega) hw f1 f2 f3;have hB:=nzl f3.low;have hBq:=cz hB;have q1:=cz (show l2≠0 by omega);have q2:=cz (show h2≠0 by omega);have q3:=cz hw;have q4:=cz (show L≠0 by omega);have q5:=cz (show b≠0 by omega);have q6:=cz (show h1*l2 - l1*h2≠0 by omega);have e2:rq h1 h2 - rq l1 l2=((h1*l2 - l1*h2:Int):Rat)*((h2:Rat)⁻¹*(l2:Rat)⁻¹):=by
  unfold rq;rw[Rat.intCast_sub,Rat.intCast_mul,Rat.intCast_mul]
  grind
 rw[e2]at e;generalize h1*l2 - l1*h2=D at *;have hs':(s:Rat)*(b*(D*D*L))=D*h2*(l2*al - (l1 - k*l2)*(L*b))*w:=by
  have:=congrArg (λz:Int=>(z:Rat)) hs;simpa only[Rat.intCast_mul,Rat.intCast_sub]using this
 have e3:rq s w*D=h2*(l2*al - (l1 - k*l2)*(L*b))*((L:Rat)⁻¹*(b:Rat)⁻¹):=by
  unfold rq
  grind
 have e4:rq T B=k+al*((L:Rat)⁻¹*(b:Rat)⁻¹):=by
  rw[e,show rq s w*(D*((h2:Rat)⁻¹*(l2:Rat)⁻¹))=(rq s w*D)*((h2:Rat)⁻¹*(l2:Rat)⁻¹) by grind,e3];unfold rq
  grind
 have e5:(T - k*B)*((L:Rat)*b)=al*(B:Rat):=by
  unfold rq at e4
  grind
 have e6:(((T - k*B)*(L*b):Int):Rat)=((al*B:Int):Rat):=by
  simp only[Rat.intCast_mul,Rat.intCast_sub];exact e5
 exact Rat.intCast_inj.mp e6
theorem sqS(X Y b bx by_ dx dy u B:Int):sqN X Y b (bx*B+dx*u) (by_*B+dy*u) B=B*B*((X - bx*b)*(X - bx*b)+(Y - by_*b)*(Y - by_*b)) - 2*B*u*b*dA X Y b bx by_ dx dy+u*u*b*b*dL dx dy:=by
 unfold sqN dA dL
 grind
theorem gJ{D E:Int}(h:(0<=D/\0<=E)\/(D<=0/\E<=0)):0<=D*E:=by
 rcases h with⟨h1,h2⟩|⟨h1,h2⟩
 ·exact Int.mul_nonneg h1 h2
 ·have:=Int.mul_nonneg (show 0<=-D by omega) (show 0<=-E by omega)
  rwa [Int.neg_mul_neg]at this
theorem yB{L al b lu l2 hu h2 u B um Bm:Int}(hb:0<b)(hl:0<l2)(hh:0<h2)(hB:0<B)(hm:0<Bm)(hL:0<=L)(zL:L=0->al=0)(h:Cl L al b lu l2 hu h2 u B)(m1:lu*Bm<=um*l2)(m2:um*h2<=hu*Bm) :
  0<=(B*um - Bm*u)*(b*L*(B*um+Bm*u) - 2*B*Bm*al):=by
 have zero:L=0->0<=(B*um - Bm*u)*(b*L*(B*um+Bm*u) - 2*B*Bm*al):=λz=>by
  rw[zL z,z];simp
 have bL:0<=b*L:=Int.mul_nonneg (by omega) hL;rcases h with⟨rfl,rfl,h|h⟩|⟨rfl,rfl,h0,_,h⟩|⟨h0,_,_,h⟩
 ·exact zero h
 ·refine gJ (.inl ⟨by have:=Int.mul_comm u Bm;have:=Int.mul_comm um B;omega,?_⟩)
  have a1:=Int.mul_le_mul_of_nonneg_left (Int.le_of_lt h) (show 0<=Bm by omega);have a2:=Int.mul_le_mul_of_nonneg_left m1 bL
  grind
 ·refine gJ (.inr ⟨by have:=Int.mul_comm u Bm;have:=Int.mul_comm um B;omega,?_⟩)
  have a1:=Int.mul_le_mul_of_nonneg_left (Int.le_of_lt h) (show 0<=Bm by omega);have a2:=Int.mul_le_mul_of_nonneg_left m2 bL
  grind
 ·have hLb:0<L*b:=Int.mul_pos (by omega) hb
  have e:(L*b)*((B*um - Bm*u)*(b*L*(B*um+Bm*u) - 2*B*Bm*al))=(B*(um*(L*b) - Bm*al))*(B*(um*(L*b) - Bm*al)):=by
   have e1:(B*um - Bm*u)*(L*b)=B*um*(L*b) - Bm*(u*(L*b)):=by grind
   have e2:b*L*(B*um+Bm*u) - 2*B*Bm*al=B*um*(L*b)+Bm*(u*(L*b)) - 2*B*Bm*al:=by grind
   rw[e2,show(L*b)*((B*um - Bm*u)*(B*um*(L*b)+Bm*(u*(L*b)) - 2*B*Bm*al))=((B*um - Bm*u)*(L*b))*(B*um*(L*b)+Bm*(u*(L*b)) - 2*B*Bm*al) by grind,e1,h]
   grind
  have:0<=(L*b)*((B*um - Bm*u)*(b*L*(B*um+Bm*u) - 2*B*Bm*al)):=by rw[e];exact gJ (by omega)
  exact Int.nonneg_of_mul_nonneg_right this hLb
theorem uT(qs:Crn)(k:Nat):0<=kL qs k:=by
 unfold kL dL;have h1:∀x:Int,0<=x*x:=λx=>gJ (by omega);have:=h1 (cX qs (k+1) - cX qs k);have:=h1 (cY qs (k+1) - cY qs k);omega
theorem qP{x y:Int}(h:x*x+y*y=0):x=0/\y=0:=by
 have h1:∀x:Int,0<=x*x:=λx=>gJ (by omega);have a:=h1 x;have b:=h1 y;constructor
 ·have:x*x=0:=by omega
  rcases Int.mul_eq_zero.mp this with z|z <;> exact z
 ·have:y*y=0:=by omega
  rcases Int.mul_eq_zero.mp this with z|z <;> exact z
theorem wC{X Y b:Int}{qs:Crn}{k:Nat}(h:kL qs k=0):kA X Y b qs k=0:=by
 obtain⟨h1,h2⟩:=qP (h:(cX qs (k+1) - cX qs k)*(cX qs (k+1) - cX qs k)+(cY qs (k+1) - cY qs k)*(cY qs (k+1) - cY qs k)=0);unfold kA dA;rw[h1,h2];simp
theorem yx{N D s w:Int}(e:N*w=s*D):¬N*w<s*D:=by omega
theorem yi{qs qs':Crn}{t b l1 l2 h1 h2 T B m1 m2 s w:Int}(hb:0<b)(Ll:Bg l1 l2)(Lh:Bg h1 h2)(hB:Bg T B)(hm:Bg m1 m2)(h:LPc (ptX qs t b) (ptY qs t b) b qs' l1 l2 h1 h2 T B)(a1:l1*m2<=m1*l2)(a2:m1*h2<=h1*m2)(f:Ak (sqF qs t b qs' T B) (sqD b B) s w)
  (t0:l1*B<=T*l2) (t1:T*h2<=h1*B):¬sqF qs t b qs' m1 m2*w<s*sqD b m2:=by
 have hB:=hB.pos;have hl:=Ll.pos;have hh:=Lh.pos;rcases h with⟨rfl,rfl,rfl,rfl⟩|⟨k,st,cl⟩
 ·obtain⟨rfl,rfl⟩:=bF hm Ll (by omega)
  exact yx f.eq
 ·have hm:=hm.pos
  have i1:∀{u v:Int},0<v->l1*v<=u*l2->(k:Int)*v<=u:=λ{u v} hv z=>by
   have z1:=Int.mul_le_mul_of_nonneg_right st.lo (show 0<=v by omega);have:(k:Int)*v*l2<=u*l2:=by grind
   exact Int.le_of_mul_le_mul_right this (by omega)
  have i2:∀{u v:Int},0<v->u*h2<=h1*v->u<=((k:Int)+1)*v:=λ{u v} hv z=>by
   have z1:=Int.mul_le_mul_of_nonneg_right st.hi (show 0<=v by omega);have:u*h2<=((k:Int)+1)*v*h2:=by grind
   exact Int.le_of_mul_le_mul_right this (by omega)
  have e:=f.eq;have hw:=f.low.pos;unfold sqF at e ⊢;rw[jZ (by omega) st.kn (i1 (by omega) t0) (i2 (by omega) t1),jY (by omega) st.kn (i1 (by omega) t0) (i2 (by omega) t1),sqS]at e;rw[jZ (by omega) st.kn (i1 (by omega) a1) (i2 (by omega) a2),jY (by omega) st.kn (i1 (by omega) a1) (i2 (by omega) a2),sqS];have z:=yB (um:=m1 - (k:Int)*m2) (Bm:=m2) hb (by omega) (by omega) (by omega) (by omega) (uT qs' k) wC cl (by grind) (by grind)
  change _*w=_ at e
  unfold kA kL at z;generalize dA (ptX qs t b) (ptY qs t b) b (cX qs' k) (cY qs' k) (cX qs' (k+1) - cX qs' k) (cY qs' (k+1) - cY qs' k)=al at *;generalize dL (cX qs' (k+1) - cX qs' k) (cY qs' (k+1) - cY qs' k)=L at *;generalize (ptX qs t b - cX qs' k*b)*(ptX qs t b - cX qs' k*b)+(ptY qs t b - cY qs' k*b)*(ptY qs t b - cY qs' k*b)=G at *;generalize T - (k:Int)*B=u at *;generalize m1 - (k:Int)*m2=um at *;unfold sqD at e ⊢;intro c;have z2:0<=b*((B*um - m2*u)*(b*L*(B*um+m2*u) - 2*B*m2*al)):=Int.mul_nonneg (by omega) z;have z3:(B*B*G - 2*B*u*b*al+u*u*b*b*L)*(m2*m2)<=(m2*m2*G - 2*m2*um*b*al+um*um*b*b*L)*(B*B):=by grind
  generalize B*B*G - 2*B*u*b*al+u*u*b*b*L=NT at *;generalize m2*m2*G - 2*m2*um*b*al+um*um*b*b*L=Nm at *;have hp:0<b*b:=Int.mul_pos hb hb;have c2:=Int.mul_lt_mul_of_pos_right c (Int.mul_pos hp (Int.mul_pos (show 0<B by omega) (show 0<B by omega)));have z4:=Int.mul_le_mul_of_nonneg_right z3 (show 0<=b*b*w from Int.mul_nonneg (by omega) (by omega));have e2:s*(b*m2*(b*m2))*(b*b*(B*B))=NT*w*(m2*m2)*(b*b):=by rw[e];grind
  have e3:Nm*w*(b*b*(B*B))=Nm*(B*B)*(b*b*w):=by grind
  have e4:NT*(m2*m2)*(b*b*w)=NT*w*(m2*m2)*(b*b):=by grind
  omega
noncomputable def NP(X Y b X1 Y1 b1 X2 Y2 b2 s w:Int):Prop:=((X1*b2=X2*b1/\Y1*b2=Y2*b1)/\s=0/\w=1) \/
 (0<nN b X1 Y1 b1 X2 Y2 b2/\((nM X Y b X1 Y1 b1 X2 Y2 b2<0/\s=0/\w=1)\/(nN b X1 Y1 b1 X2 Y2 b2<nM X Y b X1 Y1 b1 X2 Y2 b2/\s=1/\w=1) \/
  (0<=nM X Y b X1 Y1 b1 X2 Y2 b2/\nM X Y b X1 Y1 b1 X2 Y2 b2<=nN b X1 Y1 b1 X2 Y2 b2/\0<w/\s*nN b X1 Y1 b1 X2 Y2 b2=nM X Y b X1 Y1 b1 X2 Y2 b2*w)))
theorem y9{s w M N:Int}(hw:0<w)(hN:0<N)(e:s*N=M*w):(s<0↔M<0)/\(w<s↔N<M):=by
 have sg:∀{a c:Int},0<c->(a<0↔a*c<0):=λ{a c} hc=>⟨λh=>Int.mul_neg_of_neg_of_pos h hc,λh=>by
  by_cases z:a<0
  ·exact z
  ·exact absurd h (by have:=Int.mul_nonneg (show 0<=a by omega) (show 0<=c by omega);omega)⟩
 constructor
 ·rw[sg hN,e,<- sg hw]
 ·have h1:w<s↔(w - s)*N<0:=by rw[<- sg hN];omega
  have h2:N<M↔(N - M)*w<0:=by rw[<- sg hw];omega
  rw[h1,h2,Int.sub_mul,Int.sub_mul,e,Int.mul_comm w N]
theorem uR{X Y b:Int}{qs:Crn}{l1 l2 h1 h2 s w a e m n T B:Int}(hb:0<b)(Ll:Bg l1 l2)(Lh:Bg h1 h2)(ins:InS qs.length l1 l2 h1 h2)(np:NP X Y b (ptX qs l1 l2) (ptY qs l1 l2) l2 (ptX qs h1 h2) (ptY qs h1 h2) h2 s w)
  (f1:Ak (h1*l2 - l1*h2) (h2*l2) a e) (f2:Ak (s*a) (w*e) m n) (f3:Ak (l1*n+m*l2) (l2*n) T B):LPc X Y b qs l1 l2 h1 h2 T B/\l1*B<=T*l2/\T*h2<=h1*B:=by
 have hl:=Ll.pos;have hh:=Lh.pos;rcases ins with⟨rfl,rfl⟩|⟨k,st⟩
 ·rcases np with⟨_,rfl,rfl⟩|⟨h,_⟩
  ·obtain⟨rfl,rfl⟩:=xt Ll (nzl Ll) f1 f2 f3
   exact⟨.inl ⟨rfl,rfl,rfl,rfl⟩,Int.le_refl _,Int.le_refl _⟩
  ·unfold nN at h
   simp at h
 have hlt:=st.lt;have up:l1<=((k:Int)+1)*l2:=by
  have a:l1*h2<=((k:Int)+1)*l2*h2:=by
   have:=Int.mul_le_mul_of_nonneg_right st.hi (show 0<=l2 by omega)
   grind
  exact Int.le_of_mul_le_mul_right a (by omega)
 have lo:(k:Int)*h2<=h1:=by
  have a:(k:Int)*h2*l2<=h1*l2:=by
   have:=Int.mul_le_mul_of_nonneg_right st.lo (show 0<=h2 by omega)
   grind
  exact Int.le_of_mul_le_mul_right a (by omega)
 unfold NP at np;rw[jZ (by omega) st.kn st.lo up,jY (by omega) st.kn st.lo up,jZ (by omega) st.kn lo st.hi,jY (by omega) st.kn lo st.hi,zc,zd]at np;have eD:(h1 - (k:Int)*h2)*l2 - (l1 - (k:Int)*l2)*h2=h1*l2 - l1*h2:=by grind
 rw[eD]at np;have hD:0<h1*l2 - l1*h2:=by omega
 have lowC:(kL qs k=0\/kA X Y b qs k*l2<(l1 - (k:Int)*l2)*(kL qs k*b))->s=0->w=1->LPc X Y b qs l1 l2 h1 h2 T B/\l1*B<=T*l2/\T*h2<=h1*B:=λc es ew=>by
  subst es ew;obtain⟨rfl,rfl⟩:=xt Ll (nzl Lh) f1 f2 f3;exact⟨.inr ⟨k,st,.inl ⟨rfl,rfl,c⟩⟩,Int.le_refl _,by omega⟩
 rcases np with⟨⟨e1,e2⟩,es,ew⟩|⟨hN,np⟩
 ·refine lowC (.inl ?_) es ew
  have g:∀{x d:Int},(x*l2+d*(l1 - (k:Int)*l2))*h2=(x*h2+d*(h1 - (k:Int)*h2))*l2->d=0:=λ{x d} h=>by
   have:d*(h1*l2 - l1*h2)=0:=by grind
   rcases Int.mul_eq_zero.mp this with z|z
   ·exact z
   ·omega
  unfold kL dL;rw[g e1,g e2];rfl
 have hL:0<kL qs k:=by
  have h:=uT qs k
  by_cases z:kL qs k=0
  ·unfold kL at z
   rw[z]at hN;simp at hN
  ·omega
 have hal:kA X Y b qs k=dA X Y b (cX qs k) (cY qs k) (cX qs (k+1) - cX qs k) (cY qs (k+1) - cY qs k):=rfl;have hkl:kL qs k=dL (cX qs (k+1) - cX qs k) (cY qs (k+1) - cY qs k):=rfl;rw[<- hal,<- hkl]at np;have sgn:∀{D x:Int},0<D->(D*x<0↔x<0):=λ{D x} hd=>⟨λh=>by
  by_cases z:x<0
  ·exact z
  ·exact absurd h (by have:=Int.mul_nonneg (show 0<=D by omega) (show 0<=x by omega);omega),λh=>Int.mul_neg_of_pos_of_neg hd h⟩
 have hDh:0<(h1*l2 - l1*h2)*h2:=Int.mul_pos hD (by omega);have hDl:0<(h1*l2 - l1*h2)*l2:=Int.mul_pos hD (by omega);have cM:(h1*l2 - l1*h2)*h2*(l2*kA X Y b qs k - (l1 - (k:Int)*l2)*(kL qs k*b))<0↔kA X Y b qs k*l2<(l1 - (k:Int)*l2)*(kL qs k*b):=by
  rw[sgn hDh,Int.mul_comm l2];omega
 have cN:b*((h1*l2 - l1*h2)*(h1*l2 - l1*h2)*kL qs k)<(h1*l2 - l1*h2)*h2*(l2*kA X Y b qs k - (l1 - (k:Int)*l2)*(kL qs k*b))↔(h1 - (k:Int)*h2)*(kL qs k*b)<kA X Y b qs k*h2:=by
  have z:b*((h1*l2 - l1*h2)*(h1*l2 - l1*h2)*kL qs k) - (h1*l2 - l1*h2)*h2*(l2*kA X Y b qs k - (l1 - (k:Int)*l2)*(kL qs k*b))=(h1*l2 - l1*h2)*l2*((h1 - (k:Int)*h2)*(kL qs k*b) - kA X Y b qs k*h2):=by grind
  have y:=sgn (x:=(h1 - (k:Int)*h2)*(kL qs k*b) - kA X Y b qs k*h2) hDl;rw[<- z]at y;omega
 have nneg:∀{x:Int},0<=x->¬x<0:=λh=>by omega
 rcases np with⟨h,es,ew⟩|⟨h,es,ew⟩|⟨h,h',hw,es⟩
 ·exact lowC (.inr (cM.mp h)) es ew
 ·subst es ew
  obtain⟨rfl,rfl⟩:=yZ (nzl Ll) Lh f1 f2 f3;refine⟨.inr ⟨k,st,.inr (.inl ⟨rfl,rfl,by omega,λc=>?_,cN.mp h⟩)⟩,by omega,Int.le_refl _⟩;have:=cM.mpr c;have hN':0<b*((T*l2 - l1*B)*(T*l2 - l1*B)*kL qs k):=hN;omega
 ·have c1:¬kA X Y b qs k*l2<(l1 - (k:Int)*l2)*(kL qs k*b):=λc=>nneg h (cM.mpr c)
  have c2:¬(h1 - (k:Int)*h2)*(kL qs k*b)<kA X Y b qs k*h2:=λc=>by have:=cN.mpr c;omega
  have e:=x6 (k:=(k:Int)) (L:=kL qs k) (al:=kA X Y b qs k) (b:=b) (by omega) (by omega) (by omega) hL hb hD f1 f2 f3 es;have hB:=f3.low.pos;have hLb:0<kL qs k*b:=Int.mul_pos hL hb;refine⟨.inr ⟨k,st,.inr (.inr ⟨by omega,c1,c2,e⟩)⟩,?_,?_⟩
  ·have z:=Int.mul_le_mul_of_nonneg_right (Int.not_lt.mp c1) (show 0<=B by omega)
   have r1:(T - (k:Int)*B)*l2*(kL qs k*b)=kA X Y b qs k*l2*B:=by rw[Int.mul_right_comm,e,Int.mul_right_comm]
   have r2:(l1 - (k:Int)*l2)*B*(kL qs k*b)=(l1 - (k:Int)*l2)*(kL qs k*b)*B:=Int.mul_right_comm _ _ _;have z2:(l1 - (k:Int)*l2)*B*(kL qs k*b)<=(T - (k:Int)*B)*l2*(kL qs k*b):=by omega
   have:=Int.le_of_mul_le_mul_right z2 hLb
   grind
  ·have z:=Int.mul_le_mul_of_nonneg_right (Int.not_lt.mp c2) (show 0<=B by omega)
   have r1:(T - (k:Int)*B)*h2*(kL qs k*b)=kA X Y b qs k*h2*B:=by rw[Int.mul_right_comm,e,Int.mul_right_comm]
   have r2:(h1 - (k:Int)*h2)*B*(kL qs k*b)=(h1 - (k:Int)*h2)*(kL qs k*b)*B:=Int.mul_right_comm _ _ _;have z2:(T - (k:Int)*B)*h2*(kL qs k*b)<=(h1 - (k:Int)*h2)*B*(kL qs k*b):=by omega
   have:=Int.le_of_mul_le_mul_right z2 hLb
   grind
theorem wB{H:Hp}{l:Addr}{qs:Crn}(L:At H l qs)(k:Nat):au (kL qs k)<=103:=by
 have h1:=eW L k;have h2:=eW L (k+1);have a:=cI h2.1 h1.1;have b:=cI h2.2 h1.2;exact ai (dq (bits_mul a a) (bits_mul b b)) (by decide)
theorem ww{H:Hp}{l:Addr}{qs:Crn}{X Y b l1 l2 h1 h2 T B:Int}(L:At H l qs)(h20:qs.length<=20)(hb:0<b)(bb:au b<=60)(lw:Bg T B)(h:LPc X Y b qs l1 l2 h1 h2 T B)(b2:au l2<=60)(b4:au h2<=60)(t0:0<=T)(t1:T<=aH qs*B):au T<=200/\au B<=163:=by
 have hB:=lw.pos;have b3:au B<=163:=by
  rcases h with⟨_,_,rfl,rfl⟩|⟨k,st,⟨_,rfl,_⟩|⟨_,rfl,_⟩|⟨h0,_,_,e⟩⟩
  ·exact ai b2 (by decide)
  ·exact ai b2 (by decide)
  ·exact ai b4 (by decide)
  ·have hL:=uT qs k
   have hLb:0<kL qs k*b:=Int.mul_pos (by omega) hb;have f:Ak (kA X Y b qs k+(k:Int)*(kL qs k*b)) (kL qs k*b) T B:=⟨lw,by grind⟩;exact(lW hLb f (Nat.le_refl _) (bits_mul (wB L k) bb)).2
 refine⟨?_,b3⟩;have:aH qs*B<=20*B:=Int.mul_le_mul_of_nonneg_right (by unfold aH;omega) (by omega);exact ai (d7 t0 (Int.le_trans t1 this) (bits_mul (show au 20<=5 by decide) b3)) (by decide)
theorem sF{H:Hp}{l:Addr}{qs:Crn}{X Y b l1 l2 h1 h2 s w:Int}{k:Nat}(L:At H l qs)(hb:0<b)(hl:0<l2)(hh:0<h2)(bb:au b<=60)(b2:au l2<=60)(b4:au h2<=60)(st:IG qs.length k l1 l2 h1 h2)(bX:au X<=262/\au Y<=262)(lw:Bg s w)
  (hN:0<nN b (ptX qs l1 l2) (ptY qs l1 l2) l2 (ptX qs h1 h2) (ptY qs h1 h2) h2) (e:s*nN b (ptX qs l1 l2) (ptY qs l1 l2) l2 (ptX qs h1 h2) (ptY qs h1 h2) h2=nM X Y b (ptX qs l1 l2) (ptY qs l1 l2) l2 (ptX qs h1 h2) (ptY qs h1 h2) h2*w):au s<=900/\au w<=900:=by
 have hlt:=st.lt;have p1:=mF (t:=l1) L hl (ai b2 (by decide));have p2:=mF (t:=h1) L hh (ai b4 (by decide));have q:∀{x:Int} {z:Int},0<z->au z<=60->∀{x:Int},au x<=262->au (x*z)<=322:=λ_ hz _ hx=>bits_mul hx hz;have u1:=cI (bits_mul p2.1 b2) (bits_mul p1.1 b4);have u2:=cI (bits_mul p2.2 b2) (bits_mul p1.2 b4);have v1:=cI (bits_mul bX.1 b2) (bits_mul p1.1 bb);have v2:=cI (bits_mul bX.2 b2) (bits_mul p1.2 bb);have bM:au (nM X Y b (ptX qs l1 l2) (ptY qs l1 l2) l2 (ptX qs h1 h2) (ptY qs h1 h2) h2)<=900:=ai (bits_mul (dq (bits_mul u1 v1) (bits_mul u2 v2)) b4) (by decide);have bN:au (nN b (ptX qs l1 l2) (ptY qs l1 l2) l2 (ptX qs h1 h2) (ptY qs h1 h2) h2)<=900:=ai (bits_mul bb (dq (bits_mul u1 u1) (bits_mul u2 u2))) (by decide);exact lW hN ⟨lw,e.symm⟩ bM bN
end Sp11
namespace Crs
noncomputable abbrev Pt:=Rat×Rat
noncomputable def Sh(s t:Rat):Prop:=∃k:Int,(k:Rat)<=s/\s<=(k:Rat)+1/\(k:Rat)<=t/\t<=(k:Rat)+1
noncomputable def Bw(a b c:Rat):Prop:=(a<=c/\c<=b)\/(b<=c/\c<=a)
noncomputable def Bx(f g p:Pt):Prop:=Bw f.1 g.1 p.1/\Bw f.2 g.2 p.2
noncomputable def Wh(x:Rat):Prop:=∃i:Int,x=(i:Rat)
noncomputable def Vs(f g:Pt):Prop:=f.1=g.1/\Wh f.1/\Sh f.2 g.2
noncomputable def Hs(f g:Pt):Prop:=f.2=g.2/\Wh f.2/\Sh f.1 g.1
noncomputable def Bk(f g:Pt):Prop:=g.1<=f.1/\f.2<=g.2
theorem uW{i j:Int}:((i:Rat)<(j:Rat))↔i<j:=Rat.intCast_lt_intCast
theorem int_le{i j:Int}:((i:Rat)<=(j:Rat))↔i<=j:=Rat.intCast_le_intCast
theorem int_add1(i:Int):((i+1:Int):Rat)=(i:Rat)+1:=by rw[Rat.intCast_add];rfl
theorem xp{s t:Rat}{i:Int}(h:Sh s t)(h1:s<(i:Rat))(h2:(i:Rat)<t):False:=by
 obtain⟨k,a1,a2,a3,a4⟩:=h;have b1:(k:Rat)<(i:Rat):=by grind
 have b2:(i:Rat)<((k+1:Int):Rat):=by rw[int_add1];grind
 rw[uW]at b1 b2;omega
theorem first_of{α:Type}{P:α->Prop}:∀{W:List α},(∃p∈W,P p)->∃s p,W[s]? = some p/\P p/\∀(j:Nat) q,j<s->W[j]? = some q->¬P q
 | [],⟨p,h,_⟩=>absurd h (by simp)
 | a::r,⟨p,h,hp⟩=>by
  rcases Classical.em (P a) with ha|ha
  ·exact⟨0,a,rfl,ha,λj q h=>absurd h (by omega)⟩
  ·have h':∃p∈r,P p:=by
    rcases List.mem_cons.mp h with e|h
    ·subst e;exact absurd hp ha
    ·exact⟨p,h,hp⟩
   obtain⟨s,q,e,hq,hl⟩:=first_of h';refine⟨s+1,q,by simpa using e,hq,λj z hj hz=>?_⟩;cases j with
   | zero=>cases hz;exact ha
   | succ j=>exact hl j z (by omega) (by simpa using hz)
theorem last_of{α:Type}{P:α->Prop}:∀{W:List α},(∃p∈W,P p)->∃s p,W[s]? = some p/\P p/\∀(j:Nat) q,s<j->W[j]? = some q->¬P q
 | [],⟨p,h,_⟩=>absurd h (by simp)
 | a::r,⟨p,h,hp⟩=>by
  rcases Classical.em (∃p∈r,P p) with h'|h'
  ·obtain⟨s,q,e,hq,hl⟩:=last_of h'
   refine⟨s+1,q,by simpa using e,hq,λj z hj hz=>?_⟩;cases j with
   | zero=>omega
   | succ j=>exact hl j z (by omega) (by simpa using hz)
  ·have e:p=a:=by
    rcases List.mem_cons.mp h with e|h
    ·exact e
    ·exact absurd ⟨p,h,hp⟩ h'
   subst e;refine⟨0,p,rfl,hp,λj z hj hz hz'=>?_⟩;cases j with
   | zero=>omega
   | succ j=>exact h' ⟨z,List.mem_of_getElem? (by simpa using hz),hz'⟩
structure Mono(W:List Pt):Prop where
 st:∀(j:Nat) u v,W[j]? = some u->W[j+1]? = some v->(u.1<=v.1/\u.2<=v.2)/\Sh u.1 v.1/\Sh u.2 v.2
theorem Mono.le{W:List Pt}(h:Mono W):∀(d i:Nat) u v,W[i]? = some u->W[i+d]? = some v->u.1<=v.1/\u.2<=v.2
 | 0,i,u,v,e1,e2=>by
  rw[Nat.add_zero,e1]at e2;cases e2;exact⟨Rat.le_refl,Rat.le_refl⟩
 | d+1,i,u,v,e1,e2=>by
  have hl:=(List.getElem?_eq_some_iff.mp e2).1;have e3:W[i+d]? = some (W[i+d]'(by omega)):=List.getElem?_eq_getElem (by omega);obtain⟨a1,a2⟩:=h.le d i u _ e1 e3;obtain⟨⟨b1,b2⟩,_⟩:=h.st (i+d) _ v e3 e2;exact⟨Rat.le_trans a1 b1,Rat.le_trans a2 b2⟩
theorem Mono.le'{W:List Pt}(h:Mono W){i j:Nat}{u v:Pt}(hij:i<=j)(e1:W[i]? = some u)(e2:W[j]? = some v):u.1<=v.1/\u.2<=v.2:=by
 obtain⟨d,rfl⟩:=Nat.exists_eq_add_of_le hij;exact h.le d i u v e1 e2
theorem Mono.hitx{W:List Pt}(h:Mono W){p:Pt}{i:Int}(mp:p∈W)(hp:(i:Rat)<=p.1)(h0:∀u,W[0]? = some u->u.1<=(i:Rat)):∃q∈W,q.1=(i:Rat)/\q.2<=p.2:=by
 obtain⟨k,hk⟩:=List.mem_iff_getElem?.mp mp;obtain⟨s,q,e,hq,hl⟩:=first_of (P:=λz:Pt=>(i:Rat)<=z.1) ⟨p,mp,hp⟩;have hsk:s<=k:=by
  rcases Nat.lt_or_ge k s with z|z
  ·exact absurd hp (hl k p z hk)
  ·exact z
 refine⟨q,List.mem_of_getElem? e,?_,(h.le' hsk e hk).2⟩;cases s with
 | zero=>exact Rat.le_antisymm (h0 q e) hq
 | succ s =>
  have e3:W[s]? = some (W[s]'(by have:=(List.getElem?_eq_some_iff.mp e).1;omega)):=List.getElem?_eq_getElem _;have n:=hl s _ (by omega) e3;obtain⟨_,sh,_⟩:=h.st s _ q e3 e;rcases Classical.em (q.1=(i:Rat)) with z|z
  ·exact z
  ·exact(xp sh (i:=i) (by grind) (by grind)).elim
noncomputable def Eg(W:List Pt)(f:Pt):Prop:=f∈W\/∃(j:Nat) (u v:Pt),W[j]? = some u/\W[j+1]? = some v/\((u.2=f.2/\v.2=f.2/\Bw u.1 v.1 f.1/\Sh u.1 v.1)\/(u.1=f.1/\v.1=f.1/\Bw u.2 v.2 f.2/\Sh u.2 v.2))
structure FOn(G:List Pt):Prop where
 st:∀(j:Nat) f g,G[j]? = some f->G[j+1]? = some g->Bk f g\/Vs f g\/Hs f g
theorem cross_on{W G:List Pt}{N M:Int}(hW:Mono W)(hG:FOn G)(wn:0<W.length)(gn:0<G.length)
  (win:∀p∈W,(0<=p.1/\p.1<=(N:Rat))/\0<=p.2/\p.2<=(M:Rat)) (gin:∀p∈G,(0<=p.1/\p.1<=(N:Rat))/\0<=p.2/\p.2<=(M:Rat))
  (w0:∀u,W[0]? = some u->u.1=0) (wl:∀u,W[W.length - 1]? = some u->u.1=(N:Rat))
  (g0:∀f,G[0]? = some f->f.2=(M:Rat)\/(f.1=0/\∀u,W[0]? = some u->u.2=0))
  (gl:∀f,G[G.length - 1]? = some f->f.2=0\/(f.1=(N:Rat)/\∀u,W[W.length - 1]? = some u->u.2=(M:Rat))) :
  (∃f∈G,Eg W f)\/∃p∈W,∃(j:Nat) (f g:Pt),G[j]? = some f/\G[j+1]? = some g/\¬Bk f g/\Bx f g p:=by
 have eW0:W[0]? = some W[0]:=List.getElem?_eq_getElem wn;have eWl:W[W.length - 1]? = some W[W.length - 1]:=List.getElem?_eq_getElem (by omega);have mW0:=List.mem_of_getElem? eW0;have mWl:=List.mem_of_getElem? eWl;have eG0:G[0]? = some G[0]:=List.getElem?_eq_getElem gn
 let A:Pt->Prop:=λf=>∃p∈W,f.1<=p.1/\p.2<=f.2
 have A0:A G[0]:=by
  rcases g0 _ eG0 with h|⟨h,k⟩
  ·refine⟨_,mWl,?_,?_⟩
   ·rw[wl _ eWl];exact(gin _ (List.mem_of_getElem? eG0)).1.2
   ·rw[h];exact(win _ mWl).2.2
  ·refine⟨_,mW0,?_,?_⟩
   ·rw[h];exact(win _ mW0).1.1
   ·rw[k _ eW0];exact(gin _ (List.mem_of_getElem? eG0)).2.1
 obtain⟨s,f,e,hA,hl⟩:=last_of (P:=A) ⟨_,List.mem_of_getElem? eG0,A0⟩;have hs:=(List.getElem?_eq_some_iff.mp e).1;have mf:=List.mem_of_getElem? e;obtain⟨p,mp,p1,p2⟩:=hA;rcases Nat.lt_or_ge (s+1) G.length with z|z
 ·have e3:G[s+1]? = some G[s+1]:=List.getElem?_eq_getElem z
  have n:=hl (s+1) _ (by omega) e3;have nA:∀q∈W,G[s+1].1<=q.1->G[s+1].2<q.2:=λq mq h1=>by
   rcases Classical.em (G[s+1].2<q.2) with h|h
   ·exact h
   ·exact absurd ⟨q,mq,h1,by grind⟩ n
  generalize G[s+1]=g at *;have nb:¬Bk f g:=λ⟨b1,b2⟩=>n ⟨p,mp,by grind,by grind⟩;refine .inr ?_;rcases hG.st s f g e e3 with h|⟨h1,⟨i,hi⟩,h3⟩|⟨h1,⟨i,hi⟩,h3⟩
  ·exact absurd h nb
  ·obtain⟨q,mq,q1,q2⟩:=hW.hitx mp (i:=i) (by grind) (λu hu=>by
    rw[w0 u hu,<- hi];exact(gin f mf).1.1)
   have:=nA q mq (by grind);exact⟨q,mq,s,f,g,e,e3,nb,.inl ⟨by grind,by grind⟩,.inr ⟨by grind,by grind⟩⟩
  ·have p1':=nA p mp
   obtain⟨k,hk⟩:=List.mem_iff_getElem?.mp mp;obtain⟨t,q,eq,hq,hlq⟩:=last_of (P:=λz:Pt=>z.2<=(i:Rat)) ⟨p,mp,by grind⟩;have hkt:k<=t:=by
    rcases Nat.lt_or_ge t k with y|y
    ·exact absurd (show p.2<=(i:Rat) by grind) (hlq k p y hk)
    ·exact y
   have mq:=List.mem_of_getElem? eq;have le:=(hW.le' hkt hk eq).1;have qx:q.1<g.1:=by
    rcases Classical.em (q.1<g.1) with y|y
    ·exact y
    ·have:=nA q mq (by grind)
     grind
   have qy:q.2=(i:Rat):=by
    rcases Nat.lt_or_ge (t+1) W.length with y|y
    ·have e5:W[t+1]? = some W[t+1]:=List.getElem?_eq_getElem y
     have n5:=hlq (t+1) _ (by omega) e5;obtain⟨_,_,sh⟩:=hW.st t q _ eq e5;rcases Classical.em (q.2=(i:Rat)) with x|x
     ·exact x
     ·exact(xp sh (i:=i) (by grind) (by grind)).elim
    ·have ht:=(List.getElem?_eq_some_iff.mp eq).1
     have ex:=wl q (by rw[show W.length - 1=t by omega];exact eq);have:=(gin g (List.mem_of_getElem? e3)).1.2
     grind
   exact⟨q,mq,s,f,g,e,e3,nb,.inl ⟨by grind,by grind⟩,.inl ⟨by grind,by grind⟩⟩
 ·have ef:G[G.length - 1]? = some f:=by rw[show G.length - 1=s by omega];exact e
  refine .inl ⟨f,mf,?_⟩;obtain⟨k,hk⟩:=List.mem_iff_getElem?.mp mp;rcases gl f ef with h|⟨h,hm⟩
  ·obtain⟨t,q,eq,hq,hlq⟩:=first_of (P:=λz:Pt=>f.1<=z.1) ⟨p,mp,p1⟩
   have htk:t<=k:=by
    rcases Nat.lt_or_ge k t with y|y
    ·exact absurd p1 (hlq k p y hk)
    ·exact y
   have mq:=List.mem_of_getElem? eq;have le:=(hW.le' htk eq hk).2;have q0:=(win q mq).2.1;have qy:q.2=f.2:=by grind
   rcases Classical.em (q.1=f.1) with y|y
   ·exact .inl (by rw[show f=q from Prod.ext y.symm qy.symm];exact mq)
   ·cases t with
    | zero =>
     have:=w0 q eq;have:=(gin f mf).1.1
     grind
    | succ t =>
     have e5:W[t]? = some (W[t]'(by have:=(List.getElem?_eq_some_iff.mp eq).1;omega)):=List.getElem?_eq_getElem _;have n5:=hlq t _ (by omega) e5;obtain⟨⟨_,le2⟩,sh,_⟩:=hW.st t _ q e5 eq;have u0:=(win _ (List.mem_of_getElem? e5)).2.1;exact .inr ⟨t,_,q,e5,eq,.inl ⟨by grind,qy,.inl ⟨by grind,hq⟩,sh⟩⟩
  ·obtain⟨t,q,eq,hq,hlq⟩:=last_of (P:=λz:Pt=>z.2<=f.2) ⟨p,mp,p2⟩
   have hkt:k<=t:=by
    rcases Nat.lt_or_ge t k with y|y
    ·exact absurd p2 (hlq k p y hk)
    ·exact y
   have mq:=List.mem_of_getElem? eq;have le:=(hW.le' hkt hk eq).1;have q1:=(win q mq).1.2;have qx:q.1=f.1:=by grind
   rcases Classical.em (q.2=f.2) with y|y
   ·exact .inl (by rw[show f=q from Prod.ext qx.symm y.symm];exact mq)
   ·rcases Nat.lt_or_ge (t+1) W.length with x|x
    ·have e5:W[t+1]? = some W[t+1]:=List.getElem?_eq_getElem x
     have n5:=hlq (t+1) _ (by omega) e5;obtain⟨⟨le2,_⟩,_,sh⟩:=hW.st t q _ eq e5;have u1:=(win _ (List.mem_of_getElem? e5)).1.2;exact .inr ⟨t,q,_,eq,e5,.inr ⟨qx,by grind,.inl ⟨hq,by grind⟩,sh⟩⟩
    ·have ht:=(List.getElem?_eq_some_iff.mp eq).1
     have:=hm q (by rw[show W.length - 1=t by omega];exact eq);have:=(gin f mf).2.2
     grind
noncomputable def pt1(x t:Rat)(f g:Pt):Bool:=decide (x<f.1) && (decide (f.2<=t) ^^ decide (g.2<=t))
noncomputable def dt1(x t:Rat)(f g:Pt):Bool:=(decide (x<f.1) ^^ decide (x<g.1)) && decide (g.2<=t)
noncomputable def par(x t:Rat):List Pt->Bool
 | f::g::r=>pt1 x t f g ^^ par x t (g::r)
 | _=>false
noncomputable def dal(x t:Rat):List Pt->Bool
 | f::g::r=>dt1 x t f g ^^ dal x t (g::r)
 | _=>false
theorem ul{x t x' t':Rat}:∀{G:List Pt},(∀(j:Nat) f g,G[j]? = some f->G[j+1]? = some g->pt1 x t f g=pt1 x' t' f g)->par x t G=par x' t' G
 | [],_=>rfl
 | [_],_=>rfl
 | f::g::r,h=>by
  unfold par;rw[h 0 f g rfl rfl,ul (G:=g::r) λj f g e1 e2=>h (j+1) f g (by simpa using e1) (by simpa using e2)]
theorem vv{x t x' t':Rat}:∀{G:List Pt},(∀(j:Nat) f g,G[j]? = some f->G[j+1]? = some g->dt1 x t f g=dt1 x' t' f g)->dal x t G=dal x' t' G
 | [],_=>rfl
 | [_],_=>rfl
 | f::g::r,h=>by
  unfold dal;rw[h 0 f g rfl rfl,vv (G:=g::r) λj f g e1 e2=>h (j+1) f g (by simpa using e1) (by simpa using e2)]
theorem nZ(x t:Rat):∀(f l:Pt) (r:List Pt),(f::r).getLast? = some l->par x t (f::r)=(((decide (x<f.1) && decide (f.2<=t)) ^^ (decide (x<l.1) && decide (l.2<=t))) ^^ dal x t (f::r))
 | f,l,[],h=>by
  cases h;show false=(((decide (x<f.1) && decide (f.2<=t)) ^^ (decide (x<f.1) && decide (f.2<=t))) ^^ false);rw[Bool.xor_self];rfl
 | f,l,g::r,h=>by
  have ih:=nZ x t g l r (by rw[<- h,List.getLast?_cons_cons]);unfold par dal;rw[ih];unfold pt1 dt1;generalize decide (x<f.1)=a;generalize decide (x<g.1)=b;generalize decide (x<l.1)=c;generalize decide (f.2<=t)=d;generalize decide (g.2<=t)=e;generalize decide (l.2<=t)=k;generalize dal x t (g::r)=y;revert a b c d e k y;decide
noncomputable def On(G:List Pt)(p:Pt):Prop:=p∈G\/∃(j:Nat) (f g:Pt),G[j]? = some f/\G[j+1]? = some g/\Bx f g p
structure FFr(G:List Pt):Prop where
 st:∀(j:Nat) f g,G[j]? = some f->G[j+1]? = some g->Vs f g\/Hs f g
theorem jo{p q:Prop}[Decidable p][Decidable q](h:p↔q):decide p=decide q:=by
 by_cases hp:p
 ·rw[decide_eq_true hp,decide_eq_true (h.mp hp)]
 ·rw[decide_eq_false hp,decide_eq_false (λz=>hp (h.mpr z))]
theorem pJ(c lo:Rat)(h:lo<c):∀G:List Pt,∃z,lo<=z/\z<c/\∀f∈G,f.1<c->f.1<=z
 | []=>⟨lo,Rat.le_refl,h,λf hf=>absurd hf (by simp)⟩
 | f::r=>by
  obtain⟨z,z1,z2,z3⟩:=pJ c lo h r;rcases Classical.em (f.1<c/\z<f.1) with k|k
  ·refine⟨f.1,by grind,k.1,λg hg gc=>?_⟩
   rcases List.mem_cons.mp hg with e|hg
   ·rw[e];exact Rat.le_refl
   ·have:=z3 g hg gc;grind
  ·refine⟨z,z1,z2,λg hg gc=>?_⟩
   rcases List.mem_cons.mp hg with e|hg
   ·subst e;grind
   ·exact z3 g hg gc
structure Sd(N M:Int)(G:List Pt)(f l:Pt):Prop where
 h0:G[0]? = some f
 hl:G[G.length - 1]? = some l
 st:FFr G
 gin:∀p∈G,(0<=p.1/\p.1<=(N:Rat))/\0<=p.2/\p.2<=(M:Rat)
 b:f.2=(M:Rat)\/f.1=0
 e:l.2=0\/l.1=(N:Rat)
noncomputable def ext(l:Pt)(t:Rat):Bool:=if l.2=0 then false else !decide (l.2<=t)
noncomputable def dO(G:List Pt)(f l:Pt)(x t:Rat):Bool:=(par x t G ^^ (decide (x<f.1) && decide (f.2<=t))) ^^ ext l t
theorem lE{N M:Int}{G:List Pt}{f l:Pt}(S:Sd N M G f l)(x t:Rat):dO G f l x t=(((decide (x<l.1) && decide (l.2<=t)) ^^ dal x t G) ^^ ext l t):=by
 have h0:=S.h0;have hl:=S.hl;cases G with
 | nil=>cases h0
 | cons a r =>
  cases h0;unfold dO;rw[nZ x t f l r (by rw[List.getLast?_eq_getElem?];exact hl)];generalize (decide (x<f.1) && decide (f.2<=t))=u;generalize (decide (x<l.1) && decide (l.2<=t))=v;generalize dal x t (f::r)=y;generalize ext l t=z;revert u v y z;decide
theorem i6{N M:Int}{G:List Pt}{f l:Pt}(S:Sd N M G f l){x x' t:Rat}(hx:x<=x')(h1:∀(j:Nat) f g,G[j]? = some f->G[j+1]? = some g->Vs f g->x<f.1->f.1<=x'->decide (f.2<=t)=decide (g.2<=t))(h2:x<f.1->f.1<=x'->¬f.2<=t):dO G f l x t=dO G f l x' t:=by
 unfold dO;have e1:par x t G=par x' t G:=ul λj a b ea eb=>by
  unfold pt1;rcases S.st.st j a b ea eb with h|h
  ·rcases Classical.em (x<a.1/\a.1<=x') with k|k
   ·rw[h1 j a b ea eb h k.1 k.2]
    simp
   ·rw[jo (show x<a.1↔x'<a.1 by constructor <;> intro z <;> grind)]
  ·rw[h.1]
   simp
 have e2:(decide (x<f.1) && decide (f.2<=t))=(decide (x'<f.1) && decide (f.2<=t)):=by
  rcases Classical.em (x<f.1/\f.1<=x') with k|k
  ·rw[decide_eq_false (h2 k.1 k.2),Bool.and_false,Bool.and_false]
  ·rw[jo (show x<f.1↔x'<f.1 by constructor <;> intro z <;> grind)]
 rw[e1,e2]
theorem lG{N M:Int}{G:List Pt}{f l:Pt}(S:Sd N M G f l){x t t':Rat}(h0:0<=t)(ht:t<=t')(hx:x<(N:Rat))(h1:∀(j:Nat) f g,G[j]? = some f->G[j+1]? = some g->Hs f g->t<g.2->g.2<=t'->decide (x<f.1)=decide (x<g.1)):dO G f l x t=dO G f l x t':=by
 rw[lE S,lE S];have e1:dal x t G=dal x t' G:=vv λj a b ea eb=>by
  unfold dt1;rcases S.st.st j a b ea eb with h|h
  ·rw[h.1]
   simp
  ·rcases Classical.em (t<b.2/\b.2<=t') with k|k
   ·rw[h1 j a b ea eb h k.1 k.2]
    simp
   ·rw[jo (show b.2<=t↔b.2<=t' by constructor <;> intro z <;> grind)]
 rw[e1];unfold ext;rcases Classical.em (l.2=0) with z|z
 ·rw[if_pos z,if_pos z,jo (show l.2<=t↔l.2<=t' by constructor <;> intro y <;> grind)]
 ·rw[if_neg z,if_neg z]
  have hn:l.1=(N:Rat):=by
   rcases S.e with h|h
   ·exact absurd h z
   ·exact h
  rw[hn,decide_eq_true hx];generalize decide (l.2<=t)=u;generalize decide (l.2<=t')=v;generalize dal x t' G=y;revert u v y;decide
theorem pN{a:Rat}{i:Int}(h:Wh a)(h1:(i:Rat)<a)(h2:a<(i:Rat)+1):False:=by
 obtain⟨k,rfl⟩:=h;rw[<- int_add1]at h2;rw[uW]at h1 h2;omega
theorem lH{N M:Int}{G:List Pt}{f l:Pt}(S:Sd N M G f l){i j:Int}(i0:0<=i)(i1:i+1<=N)(j0:0<=j)(j1:j+1<=M){p:Pt}(x0:(i:Rat)<=p.1)(x1:p.1<=(i:Rat)+1)(y0:(j:Rat)<=p.2)(y1:p.2<=(j:Rat)+1)(off:¬On G p) :
  dO G f l p.1 p.2=dO G f l ((i:Rat)+1 / 2) ((j:Rat)+1 / 2):=by
 have iN:(i:Rat)+1<=(N:Rat):=by rw[<- int_add1,int_le];exact i1
 have jM:(j:Rat)+1<=(M:Rat):=by rw[<- int_add1,int_le];exact j1
 have i0':(0:Rat)<=(i:Rat):=by rw[show(0:Rat)=((0:Int):Rat) from rfl,int_le];exact i0
 have j0':(0:Rat)<=(j:Rat):=by rw[show(0:Rat)=((0:Int):Rat) from rfl,int_le];exact j0
 obtain⟨z,z1,z2,z3⟩:=pJ ((i:Rat)+1) (i:Rat) (by grind) G;have mf:=List.mem_of_getElem? S.h0;obtain⟨x,hx0,hx1,hxp,hxe⟩:∃x:Rat,(i:Rat)<=x/\x<(i:Rat)+1/\x<=p.1/\(x=p.1\/(p.1=(i:Rat)+1/\∀f∈G,f.1<(i:Rat)+1->f.1<=x)):=by
  rcases Classical.em (p.1=(i:Rat)+1) with h|h
  ·exact⟨z,z1,z2,by grind,.inr ⟨h,z3⟩⟩
  ·exact⟨p.1,x0,by grind,Rat.le_refl,.inl rfl⟩
 have s1:dO G f l x p.2=dO G f l p.1 p.2:=by
  refine i6 S hxp (λk a b ea eb v a1 a2=>?_) (λa1 a2 a3=>?_)
  ·have ha:a.1=p.1:=by
    rcases hxe with h|⟨h,h'⟩
    ·grind
    ·rcases Classical.em (a.1<(i:Rat)+1) with y|y
     ·have:=h' a (List.mem_of_getElem? ea) y
      grind
     ·grind
   refine jo ?_;have v1:=v.1;constructor
   ·intro h
    rcases Classical.em (b.2<=p.2) with y|y
    ·exact y
    ·exact absurd (.inr ⟨k,a,b,ea,eb,.inl ⟨by grind,by grind⟩,.inl ⟨h,by grind⟩⟩) off
   ·intro h
    rcases Classical.em (a.2<=p.2) with y|y
    ·exact y
    ·exact absurd (.inr ⟨k,a,b,ea,eb,.inl ⟨by grind,by grind⟩,.inr ⟨h,by grind⟩⟩) off
  ·rcases S.b with h|h
   ·have:=(S.gin f mf).2.2
    have ha:f.1=p.1:=by
     rcases hxe with h|⟨h,h'⟩
     ·grind
     ·rcases Classical.em (f.1<(i:Rat)+1) with y|y
      ·have:=h' f mf y
       grind
      ·grind
    have hb:f.2=p.2:=by grind
    exact off (.inl (by rw[show p=f from Prod.ext ha.symm hb.symm];exact mf))
   ·grind
 have s2:dO G f l x p.2=dO G f l x ((j:Rat)+1 / 2):=by
  have key:∀(k:Nat) a b,G[k]? = some a->G[k+1]? = some b->Hs a b->b.2=p.2->p.2=(j:Rat)+1->decide (x<a.1)=decide (x<b.1):=λk a b ea eb h e1 e2=>by
   have h1:=h.1;refine jo ?_;have far:∀c∈G,x<c.1->p.1<=c.1:=λc mc hc=>by
    rcases hxe with h|⟨h,h'⟩
    ·grind
    ·rcases Classical.em (c.1<(i:Rat)+1) with y|y
     ·have:=h' c mc y
      grind
     ·grind
   have ma:=List.mem_of_getElem? ea;have mb:=List.mem_of_getElem? eb;constructor
   ·intro g
    rcases Classical.em (x<b.1) with y|y
    ·exact y
    ·have:=far a ma g
     exact absurd (.inr ⟨k,a,b,ea,eb,.inr ⟨by grind,by grind⟩,.inl ⟨by grind,by grind⟩⟩) off
   ·intro g
    rcases Classical.em (x<a.1) with y|y
    ·exact y
    ·have:=far b mb g
     exact absurd (.inr ⟨k,a,b,ea,eb,.inl ⟨by grind,by grind⟩,.inl ⟨by grind,by grind⟩⟩) off
  have whole:∀(k:Nat) a b,G[k]? = some a->G[k+1]? = some b->Hs a b->(j:Rat)<b.2->b.2<=(j:Rat)+1->b.2=(j:Rat)+1:=λk a b ea eb h e1 e2=>by
   rcases Classical.em (b.2=(j:Rat)+1) with y|y
   ·exact y
   ·exact(pN (i:=j) (a:=b.2) (by rw[<- h.1];exact h.2.1) e1 (by grind)).elim
  rcases Classical.em (p.2<=(j:Rat)+1 / 2) with y|y
  ·refine lG S (by grind) y (by grind) λk a b ea eb h e1 e2=>?_
   have:=whole k a b ea eb h (by grind) (by grind)
   grind
  ·refine(lG S (by grind) (by grind) (by grind) λk a b ea eb h e1 e2=>?_).symm
   have:=whole k a b ea eb h (by grind) (by grind);exact key k a b ea eb h (by grind) (by grind)
 have s3:dO G f l x ((j:Rat)+1 / 2)=dO G f l ((i:Rat)+1 / 2) ((j:Rat)+1 / 2):=by
  have nf:∀y:Rat,(i:Rat)<=y->y<f.1->¬f.2<=(j:Rat)+1 / 2:=λy a1 a2=>by
   rcases S.b with h|h
   ·grind
   ·grind
  rcases Classical.em (x<=(i:Rat)+1 / 2) with y|y
  ·refine i6 S y (λk a b ea eb v a1 a2=>(pN (i:=i) v.2.1 (by grind) (by grind)).elim) (λa1 a2=>nf x hx0 a1)
  ·refine(i6 S (by grind) (λk a b ea eb v a1 a2=>(pN (i:=i) v.2.1 (by grind) (by grind)).elim) (λa1 a2=>nf _ (by grind) a1)).symm
 rw[<- s1,s2,s3]
theorem qY{x t:Rat}:∀{G:List Pt},(∀p∈G,p.1<=x)->par x t G=false
 | [],_=>rfl
 | [_],_=>rfl
 | f::g::r,h=>by
  unfold par;rw[qY (G:=g::r) λp hp=>h p (List.mem_cons_of_mem _ hp)];unfold pt1;have:=h f (by simp);rw[decide_eq_false (by grind)];rfl
theorem qZ{t:Rat}:∀{G:List Pt} {f l:Pt},G[0]? = some f->G[G.length - 1]? = some l->(∀(j:Nat) f g,G[j]? = some f->G[j+1]? = some g->decide (f.2<=t)≠decide (g.2<=t)->0<f.1)->par 0 t G=(decide (f.2<=t) ^^ decide (l.2<=t))
 | [],f,l,h,_,_=>by cases h
 | [a],f,l,h1,h2,_=>by
  cases h1;cases h2;simp[par]
 | a::b::r,f,l,h1,h2,h=>by
  cases h1;have ih:=qZ (G:=b::r) (f:=b) (l:=l) rfl (by rw[<- h2];simp) λj f g e1 e2=>h (j+1) f g (by simpa using e1) (by simpa using e2);unfold par;rw[ih];unfold pt1;rcases Classical.em (decide (a.2<=t)=decide (b.2<=t)) with z|z
  ·rw[z]
   generalize decide (b.2<=t)=u;generalize decide (l.2<=t)=v;generalize decide ((0:Rat)<a.1)=y;revert u v y;decide
  ·rw[decide_eq_true (h 0 a b rfl rfl z)]
   generalize decide (a.2<=t)=x;generalize decide (b.2<=t)=u;generalize decide (l.2<=t)=v;revert x u v;decide
theorem fit{N:Int}{s t:Rat}(hN:1<=N)(h:Sh s t)(s0:0<=s)(s1:s<=(N:Rat))(t0:0<=t)(t1:t<=(N:Rat)):∃i:Int,0<=i/\i+1<=N/\((i:Rat)<=s/\s<=(i:Rat)+1)/\(i:Rat)<=t/\t<=(i:Rat)+1:=by
 obtain⟨k,a1,a2,a3,a4⟩:=h;rcases Int.lt_or_le k 0 with z|z
 ·have e:(k:Rat)+1<=0:=by rw[<- int_add1,show(0:Rat)=((0:Int):Rat) from rfl,int_le];omega
  refine⟨0,Int.le_refl _,by omega,⟨?_,?_⟩,?_,?_⟩ <;> rw[show((0:Int):Rat)=0 from rfl] <;> grind
 ·rcases Int.lt_or_le k N with y|y
  ·exact⟨k,z,by omega,⟨a1,a2⟩,a3,a4⟩
  ·have e:(N:Rat)<=(k:Rat):=by rw[int_le];exact y
   have e2:((N - 1:Int):Rat)+1=(N:Rat):=by rw[<- int_add1];congr 1;omega
   refine⟨N - 1,by omega,by omega,⟨?_,?_⟩,?_,?_⟩ <;> grind
theorem cross_free{W G:List Pt}{N M:Int}{f l:Pt}(hN:1<=N)(hM:1<=M)(S:Sd N M G f l)(wn:0<W.length)
  (win:∀p∈W,(0<=p.1/\p.1<=(N:Rat))/\0<=p.2/\p.2<=(M:Rat)) (ws:∀(j:Nat) u v,W[j]? = some u->W[j+1]? = some v->Sh u.1 v.1/\Sh u.2 v.2)
  (w0:∀u,W[0]? = some u->u=(0,0)) (wl:∀u,W[W.length - 1]? = some u->u=((N:Rat),(M:Rat))):∃p∈W,On G p:=by
 refine Classical.byContradiction λno=>?_;have off:∀p∈W,¬On G p:=λp hp h=>no ⟨p,hp,h⟩;have eW0:W[0]? = some W[0]:=List.getElem?_eq_getElem wn;have eWl:W[W.length - 1]? = some W[W.length - 1]:=List.getElem?_eq_getElem (by omega);have same:∀(k:Nat) u,W[k]? = some u->dO G f l u.1 u.2=dO G f l W[0].1 W[0].2:=λk=>by
  induction k with
  | zero=>intro u hu;rw[eW0]at hu;cases hu;rfl
  | succ k ih =>
   intro v hv;have hk:=(List.getElem?_eq_some_iff.mp hv).1;have eu:W[k]? = some W[k]:=List.getElem?_eq_getElem (by omega);rw[<- ih _ eu];obtain⟨sx,sy⟩:=ws k _ v eu hv;have mu:=List.mem_of_getElem? eu;have mv:=List.mem_of_getElem? hv;obtain⟨⟨u1,u2⟩,u3,u4⟩:=win _ mu;obtain⟨⟨v1,v2⟩,v3,v4⟩:=win _ mv;obtain⟨i,i0,i1,⟨a1,a2⟩,a3,a4⟩:=fit hN sx u1 u2 v1 v2;obtain⟨j,j0,j1,⟨b1,b2⟩,b3,b4⟩:=fit hM sy u3 u4 v3 v4;rw[lH S i0 i1 j0 j1 a1 a2 b1 b2 (off _ mu),lH S i0 i1 j0 j1 a3 a4 b3 b4 (off _ mv)]
 have e:=same _ _ eWl;rw[w0 _ eW0,wl _ eWl]at e;have mf:=List.mem_of_getElem? S.h0;have ml:=List.mem_of_getElem? S.hl;have o0:=off _ (List.mem_of_getElem? eW0);rw[w0 _ eW0]at o0;have last:dO G f l (N:Rat) (M:Rat)=false:=by
  unfold dO ext;rw[qY λp hp=>(S.gin p hp).1.2,decide_eq_false (show ¬(N:Rat)<f.1 by have:=(S.gin f mf).1.2;grind),decide_eq_true (show l.2<=(M:Rat) from(S.gin l ml).2.2)]
  split <;> rfl
 have first:dO G f l 0 0=true:=by
  unfold dO ext;rw[qZ S.h0 S.hl λj a b ea eb ne=>by
   rcases Classical.em (0<a.1) with z|z
   ·exact z
   ·exfalso
    have a0:=(S.gin a (List.mem_of_getElem? ea)).1.1;have ea1:a.1=0:=by grind
    have ya:=(S.gin a (List.mem_of_getElem? ea)).2.1;have yb:=(S.gin b (List.mem_of_getElem? eb)).2.1;rcases S.st.st j a b ea eb with h|h
    ·have h1:=h.1
     refine o0 (.inr ⟨j,a,b,ea,eb,.inl ⟨by show a.1<=0;grind,by show 0<=b.1;grind⟩,?_⟩);rcases Classical.em (a.2<=0) with y|y
     ·exact .inl ⟨y,yb⟩
     ·rcases Classical.em (b.2<=0) with x|x
      ·exact .inr ⟨x,ya⟩
      ·rw[decide_eq_false y,decide_eq_false x]at ne
       exact absurd rfl ne
    ·rw[h.1]at ne
     exact ne rfl]
  have key:(decide (f.2<=0))=(decide ((0:Rat)<f.1) && decide (f.2<=0)):=by
   rcases Classical.em (f.2<=0) with y|y
   ·have y0:=(S.gin f mf).2.1
    have x0:=(S.gin f mf).1.1;have:(0:Rat)<f.1:=by
     rcases Classical.em ((0:Rat)<f.1) with z|z
     ·exact z
     ·exact absurd (.inl (by rw[show((0:Rat),(0:Rat))=f from Prod.ext (show(0:Rat)=f.1 by grind) (show(0:Rat)=f.2 by grind)];exact mf)) o0
    rw[decide_eq_true y,decide_eq_true this];rfl
   ·rw[decide_eq_false y,Bool.and_false]
  rw[<- key];rcases Classical.em (l.2=0) with z|z
  ·rw[if_pos z,decide_eq_true (show l.2<=0 by grind)]
   generalize decide (f.2<=0)=u;revert u;decide
  ·rw[if_neg z]
   generalize decide (f.2<=0)=u;generalize decide (l.2<=0)=v;revert u v;decide
 have e':dO G f l (N:Rat) (M:Rat)=dO G f l 0 0:=e;rw[last,first]at e'
 cases e'
end Crs
namespace L2
open PySem PySem.Spec PyProof.Rows
section
variable {X:Cx}
inductive IR (x:V) (lo:Option Int) (hi:Option Int) (H:Hp) (Q:VK):Prop
 | mk:∀z,(x = .str z)->((Txt.slice z lo hi).length<=sizeLine)->(Q (.str (Txt.slice z lo hi)) H)->IR x lo hi H Q
theorem qT:SlR X IR:=by
 intro pins s σ H x v vl vu lo hi sl Q I rx hs pl pu h;obtain⟨z,rfl,hz,q⟩:=h;obtain⟨t,rfl⟩:=rx;refine⟨"str",_,slot_str_getitem.lookup,typeIs_str s z t,?_⟩;obtain⟨l,el,ml⟩:∃l:Option (Int×Tok),partValue l=vl/\l.map (·.1)=lo:=by
  cases pl with
  | none=>exact⟨none,rfl,rfl⟩
  | int i t=>exact⟨some (i,t),rfl,rfl⟩
 obtain⟨u,eu,mu⟩:∃l:Option (Int×Tok),partValue l=vu/\l.map (·.1)=hi:=by
  cases pu with
  | none=>exact⟨none,rfl,rfl⟩
  | int i t=>exact⟨some (i,t),rfl,rfl⟩
 refine wpAny_getItem_str_slice (l:=l) (u:=u) (st:=none) (by rw[<- el,<- eu]at hs;exact hs) rfl ?_;subst ml mu;unfold Txt.slice at q hz;unfold sliceMade;have e:slicePicked z l u none=Builtin.Str.strSliceIndices (l.map (·.1)) (u.map (·.1)) 1 z.length:=rfl;rw[e]
 by_cases c:(Builtin.Str.strSliceIndices (l.map (·.1)) (u.map (·.1)) 1 z.length).length == z.length
 ·rw[if_pos (show(((none:Option (Int×Tok)).map (·.1)).getD 1 == 1 && _)=true by rw[c];rfl)]
  rw[if_pos (show((1:Int) == 1 && _)=true by rw[c];rfl)]at q;exact⟨.str z,H,I,⟨t,rfl⟩,q⟩
 ·have c:((Builtin.Str.strSliceIndices (l.map (·.1)) (u.map (·.1)) 1 z.length).length == z.length)=false:=by simpa using c
  rw[if_neg (show ¬(((none:Option (Int×Tok)).map (·.1)).getD 1 == 1 && _)=true by rw[c];simp)];rw[if_neg (show ¬((1:Int) == 1 && _)=true by rw[c];simp)]at q hz;exact⟨hz,.str _,H,I.tok _,⟨_,rfl⟩,q⟩
theorem n9:∀{ys:List Str} {us:List Value},aJ (ys.map V.str) us->StrsAre us ys
 | [],_,r=>by
  cases r;exact .nil
 | y::r,_,h=>by
  cases h with
  | cons a b =>
   obtain⟨t,rfl⟩:=a;exact .cons y t (n9 b)
inductive Ir (K:W.Frag) (x:V) (xs:List V) (H:Hp) (Q:VK):Prop
 | mk:∀z l ys,(x = .str z)->(xs = [.ref l])->(SqL K H l (ys.map V.str))->(((ys.map λx=>x.length).sum+ys.length*z.length<=16777216))->(Q (.str (Txt.join z ys)) H)->Ir K x xs H Q
theorem rk:MtR X "str.join" (Ir X.K):=by
 intro pins s σ H x xs v us Q I rx rs h;obtain⟨z,l,ys,rfl,rfl,hl,hz,q⟩:=h;obtain⟨t,rfl⟩:=rx;obtain⟨u,rfl,ru⟩:=cE rs;cases ru;obtain⟨its,r,pl,_⟩:=I.list hl;exact join_list pl.isList (n9 r) hz λt' k=>⟨.str _,H,I.kept (t':=k) λb ob q=>q,⟨_,rfl⟩,q⟩
end
end L2
namespace L2
open PySem PySem.Spec PyProof.Rows PySem.NumText
noncomputable def Dig(K:W.Frag):Prop:=W.nsIn K cStatics "sys.int_max_str_digits" = some none
theorem vq{K:W.Frag}{h:Heap}(X:K.In h)(l:h.NoLimit)(d:Dig K):h.NoDigits:=by
 obtain⟨mc,G,_⟩:=l;refine⟨mc,G,?_⟩;obtain⟨o,es,ep,ho,hd,_,hf⟩:=G;have e:=d;unfold Dig W.nsIn at e
 split at e
 ·rename_i c d es' n' sl q
  have:=X _ _ q;rw[ho]at this;cases this;cases hd
  split at e
  ·cases e
  ·rename_i he
   rw[<- hf];unfold nsFind findBy;rw[<- Array.find?_toList,he];rfl
 ·cases e
section
variable {X:Cx} {pins:List (Addr×Obj)} {σ:St} {H:Hp} {s:Shared}
theorem Aj.nodig(I:Aj X pins σ H s)(d:Dig X.K):s.heap.NoDigits:=(vq I.ok.mod.kin I.ok.mod.nolimit d).keeps I.bk
end
noncomputable def num(n:Int):Str:=Str.ofString (toString n)
noncomputable def Dg(n:Int):Prop:=n.natAbs<10^4300
section
variable {prog:Program} {w:World} {A:Around} {E:Value->Shared->Prop} {s:Shared} {Q:Value->Shared->Prop} {x:PySem.Str} {t:Tok} {n:Int}
theorem vQ{M:Model}{A:Around}{E:Value->Shared->Prop}{s:Shared}{Q:Value->Shared->Prop}{v:Value}{text:List Nat}{n:Int}
  (hs:¬(text.takeWhile (· != 0)).length<=640) (hn:s.heap.NoDigits) (hr:(int_private% "readNumeral") 4300 10 (text.takeWhile (· != 0))=(int_private% "Numeral.value") n)
  (ha:((text.takeWhile (· != 0)).length == text.length)=true) (h:Q (.int n s.toks) { s with toks:=s.toks+1 }) :
  wpAny M A ((int_private% "intFromText") v text 10) Q E s:=by
 show wpAny M A (do
  let limit <- if (text.takeWhile (· != 0)).length<=640 then pure 0 else Builtin.intMaxStrDigits
  _) Q E s
 rw[if_neg hs];unfold Builtin.intMaxStrDigits;obtain⟨mc,hns,hnone⟩:=hn;refine wpAny_bind (wpAny_bind (wpAny_nsGet hns ?_));rw[hnone];refine wpAny_pure ?_;dsimp only;rw[hr];dsimp only
 repeat (any_goals (first
  | assumption
  | (with_reducible refine wpAny_ite_true (decide_eq_true ha) ?_)
  | wp_step))
set_option maxHeartbeats 4000000 in
theorem qp{x:PySem.Str}{u:Tok}{n:Int}(hl:x.length<=4300)(hn:PySem.intText? x=some n)(h6:¬(numSeenOf x).length<=640):Meets (Builtin.«int.__new__» ⟨[.type "int",.str x u],[]⟩) (λ_ R s=>s.heap.NoDigits/\R (.ok (.ret (.int n s.toks))) { s with toks:=s.toks+1 }) :=
 Meets.of_wp λprog w A R s ⟨nd,h⟩=>by
  have f1:=F.conv_sub_int;have f2:=F.madeHere_int;have f3:=W.KIN.str_int;have f4:=W.KIN.str_idx;have f5:=W.KIN.str_trunc;have f6:typeOf (.str x u)=pure (.type "str"):=rfl;have hr:(int_private% "readNumeral") 4300 10 (numSeenOf x)=(int_private% "Numeral.value") n/\((numSeenOf x).length == (numTextOf x).length)=true:=by
   rcases read4300 x (Nat.le_trans hl (by decide)) with⟨m,h1,h2,h3⟩|⟨h1,_⟩
   ·rw[hn]at h1
    injection h1 with h1;subst h1;exact⟨h3,h2⟩
   ·rw[hn]at h1
    cases h1
  have hk:=W.KIN.Hid.mk (And.intro h6 hr);have nk:=W.KIN.Hid.mk nd;have hq:=W.KIN.Hid.mk h;clear h6 hr hl hn nd h;obtain⟨hp,g,d,tk,os⟩:=s
  repeat (any_goals (first
   | assumption
   | ((with_reducible show wpAny _ _ ((int_private% "intFromText") _ _ _) _ _ _);refine vQ hk.out.1 nk.out hk.out.2.1 hk.out.2.2 ?_)
   | wp_step))
  all_goals first|exact⟨_,rfl,hq.out⟩|skip
theorem uV(hn:s.heap.NoDigits)(hc:∀c∈x.cps.toList,c=45\/(48<=c/\c<=57))(hl:x.length<=4300)(e:PySem.intText? x=some n)(h:∀t' k,Q (.int n t') { s with toks:=k }):wpAny (model prog w) A (call (.type "int") [.str x t]) Q E s:=by
 by_cases h7:x.length<=640
 ·exact W.KIN.call_text e h7 (h _ _)
 ·refine PySem.call_int_1 (qp hl e ?_) ⟨hn,rfl,h _ _⟩
  rw[(numText_signs hc).2];have:x.cps.toList.length=x.length:=Array.length_toList;omega
end
section
variable {X:Cx}
inductive Im (xs:List V) (H:Hp) (Q:VK):Prop
 | mk:∀n:Int,(xs = [.int n])->(Dg n)->(Q (.str (num n)) H)->Im xs H Q
theorem me{K:W.Frag}(hK:X.K=K)(d:Dig K)(hc:X.calm=true):fH X (.type "str") Im:=by
 subst hK;intro pins s σ H xs us Q I rs q;obtain⟨n,rfl,hd,q⟩:=q;obtain⟨u,rfl,ru⟩:=cE rs;obtain⟨t,rfl⟩:=ru;exact str_of_int_or (I.ok.hd hc) (I.nodig d) (λ_=>⟨.str _,H,I.tok _,⟨_,rfl⟩,q⟩) λhge=>absurd hd (Nat.not_lt.mpr hge)
inductive Iu (xs:List V) (H:Hp) (Q:VK):Prop
 | mk:∀(x:Str) (n:Int),(xs = [.str x])->((∀c∈x.cps.toList,c=45\/(48<=c/\c<=57)))->(x.length<=4300)->(PySem.intText? x=some n)->(Q (.int n) H)->Iu xs H Q
theorem tw{K:W.Frag}(hK:X.K=K)(d:Dig K):fH X (.type "int") Iu:=by
 subst hK;intro pins s σ H xs us Q I rs q;obtain⟨x,n,rfl,hc,hl,e,q⟩:=q;obtain⟨u,rfl,ru⟩:=cE rs;obtain⟨t,rfl⟩:=ru;exact uV (I.nodig d) hc hl e λt' k=>⟨.int n,H,I.kept (t':=k) λb ob z=>z,⟨_,rfl⟩,q⟩
theorem gZ:MtR X "str.startswith" (λx xs H Q=>∃z y,x = .str z/\xs = [.str y]/\Q (.bl (Txt.startswith z y)) H):=by
 intro pins s σ H x xs v us Q I rx rs h;obtain⟨z,y,rfl,rfl,q⟩:=h;obtain⟨t,rfl⟩:=rx;obtain⟨u,rfl,ru⟩:=cE rs;obtain⟨t',rfl⟩:=ru;exact SC.startswith ⟨.bl _,H,I,rfl,q⟩
end
section
variable {X:Cx}
noncomputable def zT(te:TE):TE:=λσ H Q=>te σ H λv H1=>(∃n,v = .int n/\Dg n/\Q (.str (num n)) H1)\/∃z,v = .str z/\z.length<=sizeLine/\Q (.str z) H1
theorem fZ{K:W.Frag}{e:Expr}{te:TE}{pos:Pos}(hK:X.K=K)(d:Dig K)(hc:X.calm=true)(h:PE X e te):PE X (.FormattedValue e (-1) none pos) (zT te):=by
 subst hK;intro pins s σ H Q I q;refine FormattedValue_plain (thn (h pins s σ H _ I q) λv s1 ⟨x,H1,I1,r1,q1⟩=>?_);rcases q1 with⟨n,rfl,hd,q1⟩|⟨z,rfl,hz,q1⟩
 ·obtain⟨t,rfl⟩:=r1
  exact formatField_int (I1.ok.hd hc) (I1.nodig d) (λ_=>⟨.str _,H1,I1.kept (t':=s1.toks+1+1) λb ob z=>z,⟨_,rfl⟩,q1⟩) λhge=>absurd hd (Nat.not_lt.mpr hge)
 ·obtain⟨t,rfl⟩:=r1
  exact formatField_str (λt' tk=>⟨.str _,H1,I1.kept (t':=tk) λb ob z=>z,⟨_,rfl⟩,q1⟩) hz
noncomputable def xL(t1 t2 t3:TE):TE:=λσ H Q=>t1 σ H λv1 H1=>∃y1,v1 = .str y1/\y1.length<=sizeLine/\t2 σ H1 λv2 H2=>∃y2,v2 = .str y2/\y1.length+y2.length<=sizeLine/\t3 σ H2 λv3 H3=>∃y3,v3 = .str y3/\y1.length+y2.length+y3.length<=sizeLine/\Q (.str (y1++y2++y3)) H3
theorem md(y:Str):Str.empty++y=y:=by
 show(⟨#[]++y.cps⟩:Str)=y;rw[Array.empty_append]
theorem j8{e1 e2 e3:Expr}{t1 t2 t3:TE}{pos:Pos}(h1:PE X e1 t1)(h2:PE X e2 t2)(h3:PE X e3 t3):PE X (.JoinedStr [e1,e2,e3] pos) (xL t1 t2 t3):=by
 intro pins s σ H Q I q;refine JoinedStr_many (joinParts_cons (thn (h1 pins s σ H _ I q) λv s1 ⟨x1,H1,I1,r1,y1,e1,z1,q1⟩=>?_));subst e1;obtain⟨t,rfl⟩:=r1;dsimp only;rw[md];refine⟨z1,joinParts_cons (thn (h2 pins s1 σ H1 _ I1 q1) λv s2 ⟨x2,H2,I2,r2,y2,e2,z2,q2⟩=>?_)⟩;subst e2;obtain⟨t,rfl⟩:=r2;refine⟨by rw[Str.length_append];exact z2,?_⟩;show wpAny _ _ (joinParts (y1++y2) [eval _ X.env]) _ _ _;refine joinParts_cons (thn (h3 pins s2 σ H2 _ I2 q2) λv s3 ⟨x3,H3,I3,r3,y3,e3,z3,q3⟩=>?_);subst e3;obtain⟨t,rfl⟩:=r3;refine⟨by rw[Str.length_append,Str.length_append];exact z3,joinParts_nil ⟨.str _,H3,I3.tok _,⟨_,rfl⟩,q3⟩ (by rw[Str.length_append,Str.length_append];exact z3)⟩
noncomputable def xM(t1 t2:TE):TE:=λσ H Q=>t1 σ H λv1 H1=>∃y1,v1 = .str y1/\y1.length<=sizeLine/\t2 σ H1 λv2 H2=>∃y2,v2 = .str y2/\y1.length+y2.length<=sizeLine/\Q (.str (y1++y2)) H2
theorem ot{e1 e2:Expr}{t1 t2:TE}{pos:Pos}(h1:PE X e1 t1)(h2:PE X e2 t2):PE X (.JoinedStr [e1,e2] pos) (xM t1 t2):=by
 intro pins s σ H Q I q;refine JoinedStr_many (joinParts_cons (thn (h1 pins s σ H _ I q) λv s1 ⟨x1,H1,I1,r1,y1,e1,z1,q1⟩=>?_));subst e1;obtain⟨t,rfl⟩:=r1;dsimp only;rw[md];refine⟨z1,?_⟩;refine joinParts_cons (thn (h2 pins s1 σ H1 _ I1 q1) λv s2 ⟨x2,H2,I2,r2,y2,e2,z2,q2⟩=>?_);subst e2;obtain⟨t,rfl⟩:=r2;exact⟨by rw[Str.length_append];exact z2,joinParts_nil ⟨.str _,H2,I2.tok _,⟨_,rfl⟩,q2⟩ (by rw[Str.length_append];exact z2)⟩
theorem ye:OpR X (compareOp .In) (λx y H Q=>∃a b,x = .str a/\y = .str b/\Q (.bl (Txt.contains b a)) H):=by
 intro pins s σ H x y v u Q I rx ry h;obtain⟨a,b,rfl,rfl,q⟩:=h;obtain⟨t,rfl⟩:=rx;obtain⟨t',rfl⟩:=ry;exact SB.contains ⟨.bl _,H,I,rfl,q⟩
theorem lB:∀{l:List (Str×Tok)},aJ ((l.map (·.1)).map V.str) (strValues l)
 | []=>.nil
 | (x,t)::l=>.cons ⟨t,rfl⟩ (lB (l:=l))
theorem iz:MtR X "str.split" (λx xs H Q=>∃z y,x = .str z/\xs = [.str y]/\(y.length == 0)=false/\z.length<=100000/\∀p H2,Same H H2->H2 p=some (.lst ((Txt.split z y).map V.str))->H p=none->Q (.ref p) H2):=by
 intro pins s σ H x xs v us Q I rx rs h;obtain⟨z,y,rfl,rfl,hy,hz,q⟩:=h;obtain⟨t,rfl⟩:=rx;obtain⟨u,rfl,ru⟩:=cE rs;obtain⟨t',rfl⟩:=ru;have hs:sizeLine=16777216:=sizeLine_eq;have hle:=split_le z y;have fin:∀(l:List (Str×Tok)) (k:Nat),l.map (·.1)=Txt.split z y->EP X pins σ Q (.ref s.heap.objs.size) { s with toks:=k,heap:=s.heap.push { cls:=.type "list",data:=.seq (strValues l).toArray } }:=λl k e=>by
  have vs:=lB (l:=l);rw[e]at vs;exact⟨.ref _,_,I.lnew (t':=k) vs (by rw[List.length_map];omega),rfl,q _ _ (Same.new I.fresh) upd_same I.fresh⟩
 cases h1:(decide (z.length<y.length) || decide (Builtin.Str.strKind z<Builtin.Str.strKind y))
 ·cases hf:(Builtin.Str.occurrences z y 0 z.length (z.length+1)).isEmpty
  ·have es:Txt.split z y=Builtin.Str.partsBetween z (Builtin.Str.occurrences z y 0 z.length (z.length+1)) y.length:=(if_neg (ne_true_of_eq_false h1)).trans (if_neg (ne_true_of_eq_false hf))
   refine call_meets F.slot_str_split (typeIs_str _ _ _) F.entry_str_split (F.args_str_split_2 _ _) (meets_str_split_sep z y t t' h1 hy hf (by omega) (by rw[<- es];omega)) ?_;show wants _ _ _ { s with toks:=_,heap:=s.heap.push { cls:=.type "list",data:=.seq (strsFrom s.toks (Builtin.Str.partsBetween z (Builtin.Str.occurrences z y 0 z.length (z.length+1)) y.length)).toArray } };rw[strsFrom_eq];exact fin _ _ ((numbered_texts _ _).trans es.symm)
  ·exact call_meets F.slot_str_split (typeIs_str _ _ _) F.entry_str_split (F.args_str_split_2 _ _) (meets_str_split_not_found z y t t' h1 hy hf) (fin [(z,t)] s.toks ((if_neg (ne_true_of_eq_false h1)).trans (if_pos hf)).symm)
 ·exact call_meets F.slot_str_split (typeIs_str _ _ _) F.entry_str_split (F.args_str_split_2 _ _) (meets_str_split_cannot_occur z y t t' h1) (fin [(z,t)] s.toks (if_pos h1).symm)
end
noncomputable def Its(x:Str):It:=⟨λi _=>i<x.cps.size,λi H v H'=>H'=H/\∃c,x.cps.toList[i]? = some c/\v = .str ⟨#[c]⟩,λi _=>x.cps.size<=i⟩
theorem tQ{P:Program}{w:World}{K:W.Frag}{tg:Expr}(x:Str)(t:Tok)(it:Addr)(ty:String)(hty:ty = "str_ascii_iterator"\/ty = "str_iterator"):Fr P w K tg (Its x) [it] it (λi h=>h.IsStrIter it ty x t i) where
 mem:=by simp
 obj:=λi h st b hb=>by
  have e:b=it:=by simpa using hb
  subst e;obtain⟨o,e,c,d⟩:=st;exact⟨o,e,λv z=>by rw[d]at z;cases z⟩
 keep:=λi h h' st k=>by
  obtain⟨o,e,c,d⟩:=st;exact⟨o,k it (by simp) o e,c,d⟩
 item:=by
  intro X hP hw hK hc i pins s σ H E I hf st hg;subst hP hw hK;obtain⟨f0,f1,f2,f3,f4,f5⟩:=hf it (by simp);have hi:i<x.cps.size:=hg;have hx:x.cps[i]? = some x.cps[i]:=by simp[hi]
  have hx2:x.cps.toList[i]? = some x.cps[i]:=by simp[hi]
  have go:∀h' tk,h'.IsStrIter it ty x t (i+1)->Heap.SameBut it s.heap h'->∃u,some (Value.str ⟨#[x.cps[i]]⟩ s.toks)=some u/\wpAny (model X.prog X.w) X.A (letOwnedTupleGo tg (.ref it) u) (λ_ s2=>∃v H',Aj X pins σ H' s2/\a6 v u/\(Its x).yld i H v H'/\s2.heap.IsStrIter it ty x t (i+1)/\∀b∈[it],H' b=none) E { s with heap:=h',toks:=tk }:=λh' tk st' sb=>by
   have I1:Aj X pins σ H { s with heap:=h',toks:=tk }:=I.turned (t':=tk) (λb o hb e=>(sb.2 b hb).trans e) f0 f1 f3 f4 f5;obtain⟨o,e,c,d⟩:=id st';exact⟨_,rfl,ju (s:={ s with heap:=h',toks:=tk }) e c d (by rcases hty with rfl|rfl <;> decide) ⟨.str ⟨#[x.cps[i]]⟩,H,I1,⟨_,rfl⟩,⟨rfl,_,hx2,rfl⟩,st',λb hb=>(hf b hb).1⟩⟩
  rcases hty with rfl|rfl
  ·exact wpAny_pyNext_ascii_item st hx λh' st' sb=>go h' _ st' sb
  ·exact wpAny_pyNext_wide_item st hx λh' st' sb=>go h' _ st' sb
 done:=by
  intro X hP hw hK hc i pins s σ H E I hf st hg;subst hP hw hK;obtain⟨f0,f1,f2,f3,f4,f5⟩:=hf it (by simp);have hi:x.cps.size<=i:=hg;have hx:x.cps[i]? = none:=by simp[hi]
  rcases hty with rfl|rfl
  ·exact wpAny_pyNext_ascii_end (I.ok.hd hc) st hx λh' eb=>⟨rfl,I.turned (t':=s.toks) (λb o hb e=>eb b o hb e) f0 f1 f3 f4 f5⟩
  ·exact wpAny_pyNext_wide_end (I.ok.hd hc) st hx λh' eb=>⟨rfl,I.turned (t':=s.toks) (λb o hb e=>eb b o hb e) f0 f1 f3 f4 f5⟩
 self:=λ_ _ _ _ _ st h=>by
  rcases hty with rfl|rfl
  ·exact wpAny_pyIter_striter_ascii st h
  ·exact wpAny_pyIter_striter_wide st h
section
variable {X:Cx} {tg:Expr}
noncomputable def Aa(tl:TE):TI:=λσ H R=>tl σ H λv H1=>∃x,v = .str x/\R (Its x) H1
theorem x8{l:Expr}{tl:TE}(hl:PE X l tl):PI X tg l (Aa tl):=by
 intro pins s σ H R I h;refine thn (hl pins s σ H _ I h) λv s1 ⟨y,H1,I1,r1,q1⟩=>?_;obtain⟨x,e,q⟩:=q1;subst e;obtain⟨t,rfl⟩:=r1;refine wpAny_pyIter_strU ?_;refine⟨s1.heap.objs.size,[s1.heap.objs.size],_,_,H1,rfl,I1.kept (t':=s1.toks) λb o e=>Heap.get?_push_of_some _ e,tQ x t _ (strIterType x) (by unfold strIterType;split <;> simp),⟨_,Heap.get?_push_size _ rfl,rfl,rfl⟩,λb hb=>?_,q⟩;have e:b=s1.heap.objs.size:=by simpa using hb
 subst e;exact I1.fpOk (Nat.le_refl _) (I1.hok.fresh (Nat.le_refl _))
end
theorem w9{x:Str}{fv:List (Str×Nat)}{te:TE}{σ:St}{H1:Hp}{Q:VK}(hlen:x.cps.size<1000000)(R:Nat->V->Hp->Prop)(hR:∀i v H H',SameT H H'->R i v H->R i v H')
  (hs:∀i c H2 (Kc:VK),x.cps.toList[i]? = some c->Same H1 H2->(∀y H4,Same H2 H4->R i y H4->Kc y H4)->te (some (.str ⟨#[c]⟩)::fvs fv σ) H2 Kc)
  (hd:∀l ys H',H1 l=none->Same H1 H'->H' l=some (.lst ys)->ys.length=x.cps.size->(∀i y,ys[i]? = some y->R i y H')->Q (.ref l) H') :
  nR (Its x) fv te σ H1 Q:=by
 intro l hl;have hz:sizeLine=16777216:=sizeLine_eq;refine⟨λi m acc H2=>m=x.cps.size - i/\i<=x.cps.size/\acc.length=i/\Same H1 H2/\H2 l=some (.lst acc)/\∀j y,acc[j]? = some y->R j y H2,⟨x.cps.size,by simp,Nat.zero_le _,rfl,Same.new hl,upd_same,λj y h=>by simp at h⟩,?_⟩;rintro i m acc H2 ⟨rfl,hi,e1,sm,e3,hr⟩;refine⟨e3,by omega,?_⟩
 by_cases hlt:i<x.cps.size
 ·refine .inr ⟨hlt,λv H3 y=>?_⟩
  obtain⟨rfl,c,hc,rfl⟩:=y;refine hs i c _ _ hc sm λy H4 s4 ry=>⟨s4 _ _ e3,x.cps.size - (i+1),by omega,rfl,hlt,by simp[e1],(sm.trans s4).upd hl,upd_same,λj z hz=>?_⟩;have t4:=SameT.upd (ys:=acc++[y]) (s4 _ _ e3);rcases Nat.lt_trichotomy j acc.length with h|h|h
  ·rw[List.getElem?_append_left h]at hz
   exact hR _ _ _ _ (s4.t.trans t4) (hr j z hz)
  ·subst h
   rw[List.getElem?_append_right (Nat.le_refl _),Nat.sub_self]at hz;cases hz;rw[e1];exact hR _ _ _ _ t4 ry
  ·rw[List.getElem?_eq_none (by simp;omega)]at hz
   cases hz
 ·have e:i=x.cps.size:=by omega
  subst e;exact .inl ⟨Nat.le_refl _,hd l acc H2 hl sm e3 e1 hr⟩
end L2
namespace L2
open PySem PySem.NumText
noncomputable def fJ(m:Nat):List Nat:=(Nat.toDigits 10 m).map Char.toNat
theorem dl(m:Nat):AllDigits (fJ m):=by
 intro c hc;obtain⟨ch,hch,e⟩:=List.mem_map.mp hc;have r:=PyProof.Rows.digit_range (Nat.isDigit_of_mem_toDigits (by decide) (by decide) hch);rw[<- e];exact r
theorem nB(m:Nat):fJ m≠[]:=λe=>by
 have h:=Nat.length_toDigits_pos (b:=10) (n:=m);rw[List.map_eq_nil_iff.mp e]at h;exact absurd h (by decide)
theorem iT(m:Nat):digitsVal (fJ m)=m:=W.KIN.val_back m
theorem pk{m k:Nat}(hk:0<k):(fJ m).length<=k↔m<10^k:=by
 unfold fJ;rw[List.length_map];exact Nat.length_toDigits_le_iff (by decide) hk
theorem vp{a b:Nat}(h:fJ a=fJ b):a=b:=by rw[<- iT a,<- iT b,h]
theorem iU:∀(cs:List Nat) (a:Nat),AllDigits cs->cs.foldl (λacc c=>acc*10+(c - 48)) a<(a+1)*10^cs.length
 | [],a,_=>by simp
 | c::cs,a,h=>by
  have ih:=iU cs (a*10+(c - 48)) h.tail;have hc:=h.head;rw[List.foldl_cons,List.length_cons,Nat.pow_succ];refine Nat.lt_of_lt_of_le ih ?_;have:a*10+(c - 48)+1<=(a+1)*10:=by omega
  calc (a*10+(c - 48)+1)*10^cs.length<=((a+1)*10)*10^cs.length:=Nat.mul_le_mul_right _ this
   _=(a+1)*(10^cs.length*10):=by rw[Nat.mul_assoc,Nat.mul_comm 10]
theorem xI{cs:List Nat}(h:AllDigits cs):digitsVal cs<10^cs.length:=by
 have:=iU cs 0 h;simpa[digitsVal]using this
theorem rh(m:Nat):(num (m:Int)).cps.toList=fJ m:=W.KIN.signs_num m
theorem rg(m:Nat):(num (-((m+1:Nat):Int))).cps.toList=45::fJ (m+1):=by
 unfold num;rw[PyProof.Rows.signs_ofString];show(Int.repr (Int.negSucc m)).toList.map Char.toNat=_;have e:Int.repr (Int.negSucc m) = "-"++Nat.repr (m+1):=rfl;rw[e,String.toList_append,List.map_append,Nat.toList_repr];rfl
noncomputable def ln:List Nat->List Nat
 | 45::r=>r
 | l=>l
theorem qH(r:List Nat):ln (45::r)=r:=rfl
theorem nu{l:List Nat}(h:∀r,l≠45::r):ln l=l:=by
 unfold ln
 split
 ·rename_i r
  exact absurd rfl (h r)
 ·rfl
theorem dZ{l:List Nat}(h:AllDigits l):∀r,l≠45::r:=λr e=>by
 subst e;have:=h.head;omega
theorem mK(n:Int):ln (num n).cps.toList=fJ n.natAbs:=by
 cases n with
 | ofNat m =>
  rw[show Int.ofNat m=(m:Int) from rfl,rh];exact nu (dZ (dl m))
 | negSucc m =>
  rw[show Int.negSucc m = -((m+1:Nat):Int) from rfl,rg];rfl
theorem eP(n:Int):(num n).cps.toList=fJ n.natAbs/\0<=n\/(num n).cps.toList=45::fJ n.natAbs/\n<0:=by
 cases n with
 | ofNat m=>exact .inl ⟨rh m,Int.natCast_nonneg m⟩
 | negSucc m =>
  refine .inr ⟨?_,by omega⟩;rw[show Int.negSucc m = -((m+1:Nat):Int) from rfl,rg];rfl
theorem lO(n:Int):∀c∈(num n).cps.toList,c=45\/(48<=c/\c<=57):=by
 rcases eP n with⟨e,_⟩|⟨e,_⟩
 ·rw[e]
  exact λc hc=>.inr (dl _ c hc)
 ·rw[e]
  intro c hc;rcases List.mem_cons.mp hc with rfl|hc
  ·exact .inl rfl
  ·exact .inr (dl _ c hc)
theorem cD(x:Str):x.cps.toList.length=x.length:=Array.length_toList
theorem eA{n:Int}{k:Nat}(hk:0<k)(h:n.natAbs<10^k):(num n).length<=k+1:=by
 have:=(pk hk).mpr h;rw[<- cD];rcases eP n with⟨e,_⟩|⟨e,_⟩
 ·rw[e];omega
 ·rw[e,List.length_cons];omega
theorem wD{n:Int}(h:(num n).length<=4300):intText? (num n)=some n:=by
 rcases eP n with⟨e,h0⟩|⟨e,h0⟩
 ·have:=intText_digits (x:=num n) (by rw[e];exact dl _) (by rw[e];exact nB _) h
  rw[this,e,iT]
  congr 1
  omega
 ·have:=intText_neg (x:=num n) e (dl _) (nB _) h
  rw[this,iT]
  congr 1
  omega
theorem jH{a b:Int}(h:num a=num b):a=b:=by
 have e:=congrArg (λx=>x.cps.toList) h;have f:fJ a.natAbs=fJ b.natAbs:=by rw[<- mK a,<- mK b,h]
 have g:=vp f;rcases eP a with⟨e1,h1⟩|⟨e1,h1⟩ <;> rcases eP b with⟨e2,h2⟩|⟨e2,h2⟩
 ·omega
 ·exact absurd (show(num a).cps.toList=45::fJ b.natAbs from e.trans e2) (by rw[e1];exact dZ (dl _) _)
 ·exact absurd (show(num b).cps.toList=45::fJ a.natAbs from e.symm.trans e1) (by rw[e2];exact dZ (dl _) _)
 ·omega
theorem pM{x:Str}{k:Nat}(h:AllDigits (ln x.cps.toList))(hne:ln x.cps.toList≠[])(hl:(ln x.cps.toList).length<=k)(hk:k<=4000) :
  ∃v:Int,(∀c∈x.cps.toList,c=45\/(48<=c/\c<=57))/\x.length<=4300/\intText? x=some v/\v.natAbs<10^k/\∀n,x=num n->n=v:=by
 have ll:=cD x;have fin:∀v:Int,x.length<=4300->intText? x=some v->∀n,x=num n->n=v:=λv h1 h2 n e=>by
  subst e;rw[wD h1]at h2;exact Option.some.inj h2
 have lt:digitsVal (ln x.cps.toList)<10^k:=Nat.lt_of_lt_of_le (xI h) (Nat.pow_le_pow_right (by decide) hl)
 by_cases hm:∃r,x.cps.toList=45::r
 ·obtain⟨r,e⟩:=hm
  rw[e,qH]at h hne hl lt;have h43:x.length<=4300:=by rw[<- ll,e,List.length_cons];omega
  have it:=intText_neg e h hne h43;refine⟨_,?_,h43,it,by omega,fin _ h43 it⟩;rw[e];intro c hc;rcases List.mem_cons.mp hc with rfl|hc
  ·exact .inl rfl
  ·exact .inr (h c hc)
 ·have ef:=nu (l:=x.cps.toList) λr e=>hm ⟨r,e⟩
  rw[ef]at h hne hl lt;have h43:x.length<=4300:=by omega
  have it:=intText_digits h hne h43;exact⟨_,λc hc=>.inr (h c hc),h43,it,by omega,fin _ h43 it⟩
theorem Dg.of{n:Int}{k:Nat}(h:n.natAbs<10^k)(hk:k<=4300):Dg n:=Nat.lt_of_lt_of_le h (Nat.pow_le_pow_right (by decide) hk)
theorem rW{c:Nat}:∀{a b r s:List Nat},c∉a->c∉b->a++c::r=b++c::s->a=b/\r=s
 | [],[],r,s,_,_,e=>⟨rfl,(List.cons.inj e).2⟩
 | [],y::b,r,s,_,hb,e=>absurd (show c∈y::b by rw[(List.cons.inj e).1];exact List.mem_cons_self) hb
 | x::a,[],r,s,ha,_,e=>absurd (show c∈x::a by rw[<- (List.cons.inj e).1];exact List.mem_cons_self) ha
 | x::a,y::b,r,s,ha,hb,e=>by
  obtain⟨h1,h2⟩:=List.cons.inj e;obtain⟨h3,h4⟩:=rW (λz=>ha (List.mem_cons_of_mem _ z)) (λz=>hb (List.mem_cons_of_mem _ z)) h2;exact⟨by rw[h1,h3],h4⟩
theorem cp(a y:Str):(a++y).cps.toList=a.cps.toList++y.cps.toList:=by rw[Str.cps_append,Array.toList_append]
theorem lT{c:Nat}:∀{ps qs:List Str},ps≠[]->qs≠[]->(∀p∈ps,c∉p.cps.toList)->(∀q∈qs,c∉q.cps.toList)->Str.join ⟨#[c]⟩ ps=Str.join ⟨#[c]⟩ qs->ps=qs
 | [],_,h,_,_,_,_=>absurd rfl h
 | _,[],_,h,_,_,_=>absurd rfl h
 | [a],[b],_,_,_,_,e=>by
  have e:a=b:=e;rw[e]
 | [a],b::b2::r,_,_,h1,h2,e=>by
  have e:a=b++⟨#[c]⟩++Str.join ⟨#[c]⟩ (b2::r):=e;refine absurd ?_ (h1 a (List.mem_singleton.mpr rfl));rw[e,cp,cp];simp
 | a::a2::r,[b],_,_,h1,h2,e=>by
  have e:a++⟨#[c]⟩++Str.join ⟨#[c]⟩ (a2::r)=b:=e;refine absurd ?_ (h2 b (List.mem_singleton.mpr rfl));rw[<- e,cp,cp];simp
 | a::a2::r,b::b2::s,_,_,h1,h2,e=>by
  have e:(a++⟨#[c]⟩++Str.join ⟨#[c]⟩ (a2::r)).cps.toList=(b++⟨#[c]⟩++Str.join ⟨#[c]⟩ (b2::s)).cps.toList:=congrArg (λx=>x.cps.toList) e;simp only[cp]at e;rw[List.append_assoc,List.append_assoc]at e;obtain⟨e1,e2⟩:=rW (c:=c) (h1 a List.mem_cons_self) (h2 b List.mem_cons_self) e;have e3:=lT (ps:=a2::r) (qs:=b2::s) (by simp) (by simp) (λp hp=>h1 p (List.mem_cons_of_mem _ hp)) (λp hp=>h2 p (List.mem_cons_of_mem _ hp)) (PyProof.Rows.ext_toList e2);rw[PyProof.Rows.ext_toList e1,e3]
theorem fS{c:Nat}{qs:List Str}(h:qs≠[])(h2:∀q∈qs,c∉q.cps.toList):Txt.split (Str.join ⟨#[c]⟩ qs) ⟨#[c]⟩=qs :=
 lT (λe=>by have:=PyProof.Rows.split_pos (Str.join ⟨#[c]⟩ qs) ⟨#[c]⟩;rw[e]at this;exact absurd this (by decide)) h (StrLaws.split_free _ c) h2 (StrLaws.join_split _ _)
end L2
namespace Hd
open PySem PySem.W PySem.Spec L2
noncomputable def wx(o:Obj):Bool:=match o.data with
 | .freed=>false
 | _=>true
noncomputable def sM:Nat->List Obj->Frag
 | _,[]=>[]
 | n,a::r=>bif wx a then (n,a)::sM (n+1) r else sM (n+1) r
theorem rf:∀(l:List Obj) (n a:Nat) (o:Obj),(sM n l).lookup a=some o->n<=a/\l[a - n]? = some o/\wx o=true
 | [],_,_,_,e=>by cases e
 | x::r,n,a,o,e=>by
  have up:(sM (n+1) r).lookup a=some o->n<=a/\(x::r)[a - n]? = some o/\wx o=true:=λe=>by
   obtain⟨h1,h2,h3⟩:=rf r (n+1) a o e;refine⟨by omega,?_,h3⟩;have:a - n=(a - (n+1))+1:=by omega
   rw[this];exact h2
  unfold sM at e;cases hl:wx x with
  | false =>
   rw[hl]at e;exact up e
  | true =>
   rw[hl,cond_true,List.lookup_cons]at e;cases hb:a == n with
   | true =>
    rw[hb]at e;have hb:=beq_iff_eq.mp hb;subst hb;cases e;exact⟨Nat.le_refl _,by simp,hl⟩
   | false =>
    rw[hb]at e;exact up e
noncomputable def frag(h:Heap):Frag:=sM 0 h.objs.toList
theorem wQ(h:Heap):(frag h).In h:=by
 intro a o e;obtain⟨_,q,hl⟩:=rf _ _ _ _ e;have q:h.objs[a]? = some o:=by simpa using q
 unfold Heap.get?;rw[q];obtain⟨c,d,dt,sl⟩:=o;cases dt <;> first|rfl|cases hl
noncomputable def fnFact(K:Frag)(x:Str):Option (Arguments×List Stmt×Scope×Value):=match nsIn K mainGlobals x with
 | some (some (.ref f))=>(match K.lookup f with
  | some ⟨_,_,.func fd,_⟩=>(match fd.body,fd.closure with
   | .stmts b,[]=>bif (fd.name == x && (fd.qualname == x && (Nat.beq fd.globals mainGlobals && (Nat.beq fd.builtins builtinsNs && codeIn K fd.code x)))) then some (fd.params,b,fd.scope,fd.defaults) else none
   | _,_=>none)
  | _=>none)
 | _=>none
theorem jx{K:Frag}{x:Str}{a:Arguments}{b:List Stmt}{sc:Scope}{dv:Value}(e:fnFact K x=some (a,b,sc,dv)) :
  ∃(f:Addr) (oc:Value) (od:Option Addr) (kV doc pm:Value) (an:Option Addr) (cdv ct:Value) (osl:Array (Option Value)),
   nsIn K mainGlobals x=some (some (.ref f))/\K.lookup f=some ⟨oc,od,.func (fnOf x x a b sc dv kV doc pm an cdv ct),osl⟩/\codeIn K cdv x=true/\keepIn K (.ref f)=true:=by
 unfold fnFact at e
 split at e
 ·rename_i f hf
  split at e
  ·rename_i oc od fd osl hl
   split at e
   ·rename_i b' hb hc
    cases hq:(fd.name == x && (fd.qualname == x && (Nat.beq fd.globals mainGlobals && (Nat.beq fd.builtins builtinsNs && codeIn K fd.code x)))) with
    | false=>rw[hq]at e;cases e
    | true =>
     rw[hq]at e;simp only[Bool.and_eq_true]at hq;obtain⟨h1,h2,h3,h4,h5⟩:=hq
     replace h1:=eq_of_beq h1
     replace h2:=eq_of_beq h2
     replace h3:=Nat.eq_of_beq_eq_true h3
     replace h4:=Nat.eq_of_beq_eq_true h4
     simp only[cond_true,Option.some.injEq,Prod.mk.injEq]at e;obtain⟨e1,e2,e3,e4⟩:=e;obtain⟨n,qn,ps,bd,s,gl,cl,df,kw,dc,pm,an,cd,ct,bl⟩:=fd;simp only at h1 h2 h3 h4 h5 e1 e2 e3 e4 hb hc;subst h1 h2 h3 h4 e1 e2 e3 e4 hb hc;refine⟨f,oc,od,kw,dc,pm,an,cd,ct,osl,hf,hl,h5,?_⟩;unfold keepIn;dsimp only;rw[hl]
   ·cases e
  ·cases e
 ·cases e
theorem df_of{K:Frag}{mg:Str->Option Value}{h:Heap}{x:Str}{st:Stmt}(X:K.In h)(G:h.Ns mainGlobals mg)(e:fnFact K x=some (aS st,ax st,ag st,.none)):Df K mg x st:=by
 obtain⟨f,oc,od,kV,doc,pm,an,cdv,ct,osl,h1,h2,h3,h4⟩:=jx e;exact zG X G h1 h2 h3 h4
noncomputable def bareV:Value->V
 | .none=>.non
 | .bool b=>.bl b
 | .int i _=>.int i
 | .str x _=>.str x
 | .bytes b _=>.byt b
 | .float b _=>.flt b
 | .ref a=>.ref a
 | .type n=>.ty n
 | _=>.ty "no plain value"
noncomputable def i7:Value->Bool
 | .ellipsis | .notImplemented | .builtin _=>false
 | _=>true
theorem tE:∀{v:Value},i7 v=true->a6 (bareV v) v
 | .none,_=>rfl
 | .bool _,_=>rfl
 | .int _ t,_=>⟨t,rfl⟩
 | .str _ t,_=>⟨t,rfl⟩
 | .bytes _ t,_=>⟨t,rfl⟩
 | .float _ t,_=>⟨t,rfl⟩
 | .ref _,_=>rfl
 | .type _,_=>rfl
 | .ellipsis,h=>by cases h
 | .notImplemented,h=>by cases h
 | .builtin _,h=>by cases h
theorem iZ:∀{l:List Value},l.all i7=true->aJ (l.map bareV) l
 | [],_=>.nil
 | _::_,h=>by
  rw[List.all_cons,Bool.and_eq_true]at h;exact .cons (tE h.1) (iZ h.2)
noncomputable def uc(K:Frag)(v:Value):Option (List V):=match v with
 | .ref a=>(match K.lookup a with
  | some ⟨_,_,.seq its _,_⟩=>bif its.toList.all i7 then some (its.toList.map bareV) else none
  | _=>none)
 | _=>none
theorem pX{K:Frag}{v:Value}{ds:List V}(e:uc K v=some ds):∃(a:Addr) (o:Obj) (its:List Value) (n:Nat),v = .ref a/\K.lookup a=some o/\o.data = .seq its.toArray n/\aJ ds its:=by
 unfold uc at e
 split at e
 ·rename_i a
  split at e
  ·rename_i oc od its n osl hl
   cases hq:its.toList.all i7 with
   | false=>rw[hq]at e;cases e
   | true =>
    rw[hq]at e;cases e;exact⟨a,_,its.toList,n,rfl,hl,rfl,iZ hq⟩
  ·cases e
 ·cases e
noncomputable def fnFactD(K:Frag)(x:Str):Option (Arguments×List Stmt×Scope×List V):=match fnFact K x with
 | some (a,b,s,dv)=>(match uc K dv with
  | some ds=>some (a,b,s,ds)
  | none=>none)
 | none=>none
theorem dfd_of{K:Frag}{mg:Str->Option Value}{h:Heap}{x:Str}{st:Stmt}{ds:List V}(X:K.In h)(G:h.Ns mainGlobals mg)(e:fnFactD K x=some (aS st,ax st,ag st,ds)):Hf K mg x st ds:=by
 unfold fnFactD at e
 split at e
 ·rename_i a b s dv hf
  split at e
  ·rename_i ds' hs
   simp only[Option.some.injEq,Prod.mk.injEq]at e;obtain⟨e1,e2,e3,e4⟩:=e;subst e1 e2 e3 e4;obtain⟨f,oc,od,kV,doc,pm,an,cdv,ct,osl,h1,h2,h3,h4⟩:=jx hf;obtain⟨T,oT,its,n,rfl,hl,hd,hv⟩:=pX hs;exact yz X G h1 h2 h3 h4 hl hd hv
  ·cases e
 ·cases e
noncomputable def cls(K:Frag)(x:Str):Addr:=match nsIn K mainGlobals x with
 | some (some (.ref C))=>C
 | _=>0
noncomputable def excFact(K:Frag)(x:Str):Bool:=match nsIn K mainGlobals x with
 | some (some (.ref C))=>excIn K C [.type "ValueError",.type "Exception",.type "BaseException",.type "object"] "ValueError.__new__"
 | _=>false
theorem exc_of{K:Frag}{mg:Str->Option Value}{h:Heap}{x:Str}(X:K.In h)(G:h.Ns mainGlobals mg)(e:excFact K x=true):Dz K mg x (cls K x):=by
 unfold excFact at e
 split at e
 ·rename_i C hC
  have:cls K x=C:=by unfold cls;rw[hC]
  rw[this];exact yw X G hC e
 ·cases e
noncomputable def tupFact(K:Frag)(x:Str):Option (List V):=match nsIn K mainGlobals x with
 | some (some (.ref a))=>(match K.lookup a with
  | some ⟨.type "tuple",_,.seq its _,_⟩=>bif its.toList.all i7 then some (its.toList.map bareV) else none
  | _=>none)
 | _=>none
theorem tup_of{K:Frag}{x:Str}{ds:List V}(e:tupFact K x=some ds):∃(a:Addr) (od:Option Addr) (its:List Value) (n:Nat) (osl:Array (Option Value)),nsIn K mainGlobals x=some (some (.ref a))/\K.lookup a=some ⟨.type "tuple",od,.seq its.toArray n,osl⟩/\aJ ds its:=by
 unfold tupFact at e
 split at e
 ·rename_i a ha
  split at e
  ·rename_i od its n osl hl
   cases hq:its.toList.all i7 with
   | false=>rw[hq]at e;cases e
   | true =>
    rw[hq]at e;cases e;exact⟨a,od,its.toList,n,osl,ha,hl,iZ hq⟩
  ·cases e
 ·cases e
noncomputable def noFact(K:Frag)(x:Str):Bool:=match nsIn K mainGlobals x with
 | some none=>true
 | _=>false
theorem no_of{K:Frag}{x:Str}(e:noFact K x=true):nsIn K mainGlobals x=some none:=by
 unfold noFact at e
 split at e
 ·rename_i h
  exact h
 ·cases e
theorem at_map{α β:Type}{f g:α->β}{l:List α}(e:l.map f=l.map g)(i:Nat){a:α}(h:l[i]? = some a):f a=g a:=by
 have q:=congrArg (λl:List β=>l[i]?) e;simp only[List.getElem?_map,h,Option.map_some,Option.some.injEq]at q;exact q
theorem at_all{α:Type}{f:α->Bool}{l:List α}(e:l.all f=true)(i:Nat){a:α}(h:l[i]? = some a):f a=true :=
 List.all_eq_true.mp e a (List.mem_of_getElem? h)
theorem at_two{α:Type}{l m:List α}(e:l=m)(i:Nat){a b:α}(h:l[i]? = some a)(h':m[i]? = some b):a=b:=by
 subst e;rw[h]at h';exact Option.some.inj h'
noncomputable def hook{α:Type}(facts:Frag->α)(val:α):Hook :=
 ⟨α,λs=>facts (frag s.heap),λ_=>val,λ_ h=>∃K:Frag,K.In h/\facts K=val,λ_ s e=>⟨_,wQ s.heap,e⟩,λ_ _ _ ⟨K,hi,e⟩ k=>⟨K,Frag.In.keeps hi k,e⟩⟩
theorem law_walk{l:OpenLaw}{k:Nat}{q:Program}{loose:List Str}{XP:(Str->Option Value)->Heap->Prop}{d:DefRec}{α:Type}{facts:Frag->α}{val:α}(hk:BA k callerA)(hn:l.most=some 63)(hdf:d.params.defaults = [])
  (F:∀(K:Frag),facts K=val->∀(w:World) (mg:Str->Option Value) (fa:Addr) (h:Heap),K.In h->h.Ns mainGlobals mg->mg d.name=some (.ref fa) ->
   ∃fd:FuncData,(∀(s:Shared) (u:Value),BindsTo s fd ⟨[u],[]⟩ [("script",u)])/\∀base:Heap,K.In base->base.Ns mainGlobals mg->Dw l.prog w K mg base CX0 k fa fd ["script"] (oa K)) :
  WalkO q loose XP (Hook.says (hook facts val)) l.row.toRowW d [] (λf vs=>PySem.call f vs):=by
 intro w s₀ s1 mg mb G Y;obtain⟨K,hin,hf⟩:=Y;exact L2.law_walk (l:=l) (k:=k) (q:=q) (loose:=loose) (XP:=XP) (YP:=λ_ h=>K.In h) (d:=d) (K:=λ_=>K) hk hn hdf (λ_ _ y=>y) (λw mg fa h=>F K hf w mg fa h) w s₀ s1 mg mb G hin
theorem vals_sz{ds:List V}{its:List Value}(u:aJ ds its)(h:ds.length<=100):its.toArray.size<=100:=by
 rw[List.size_toArray,<- u.length];exact h
end Hd
namespace L2
open PySem PySem.Spec PyProof.Rows
structure Gp(K:W.Frag)(mg:Str->Option Value)(x y:Str)(st:Stmt):Prop where
 ex:∃(f:Addr) (oc:Value) (od:Option Addr) (kV doc pm:Value) (an:Option Addr) (cdv ct:Value) (osl:Array (Option Value)),
  mg x=some (.ref f)/\K.lookup f=some ⟨oc,od,.func (W.fnOf y y (aS st) (ax st) (ag st) .none kV doc pm an cdv ct),osl⟩/\W.codeIn K cdv y=true/\W.keepIn K (.ref f)=true
theorem yA{K:W.Frag}{mg:Str->Option Value}{h:Heap}{x y:Str}{st:Stmt}{f:Addr}{oc:Value}{od an:Option Addr}{osl:Array (Option Value)}{kV doc pm cdv ct:Value}(X:K.In h)(G:h.Ns mainGlobals mg)
  (a:W.nsIn K mainGlobals x=some (some (.ref f))) (l:K.lookup f=some ⟨oc,od,.func (W.fnOf y y (aS st) (ax st) (ag st) .none kV doc pm an cdv ct),osl⟩) (c:W.codeIn K cdv y=true) (k:W.keepIn K (.ref f)=true) :
  Gp K mg x y st:=⟨⟨f,oc,od,kV,doc,pm,an,cdv,ct,osl,W.mg_of X G a,l,c,k⟩⟩
theorem Gp.fn{P:Program}{w:World}{K:W.Frag}{mg:Str->Option Value}{base:Heap}{x y:Str}{st:Stmt}{N ps:List Str}{k:Nat}{sp:Sp}(D:Gp K mg x y st)(S:Ah N ps (ag st))
  (hbind:∀(kV doc pm:Value) (an:Option Addr) (cdv ct:Value) (us:List Value),us.length=ps.length->bindArgs (W.fnOf y y (aS st) (ax st) (ag st) .none kV doc pm an cdv ct) ⟨us,[]⟩=pure (ps.zip us))
  (len:∀vs H Q E,sp vs H Q E->vs.length=ps.length)
  (hbody:∀(f:Addr) (cdv:Value) (A:Around) (outer:List Env) (s:Shared) (H:Hp) (vs:List V) (Q:VK) (E:XK),BA k (A.deeper (envOfC y (ag st) s.heap.objs.size f cdv))->sp vs H Q E ->
   ∃t,PSs (aG CX0 P w K mg base N y (ag st) f cdv A outer s H E).nox (ax st) t/\t { nx:=λ_ H'=>Q .non H',rt:=Q } (fN N vs) H):Fn P w K mg base x ps (k+1) sp:=by
 obtain⟨f,oc,od,kV,doc,pm,an,cdv,ct,osl,hm,lk,hcd,hk⟩:=D.ex;refine⟨⟨f,_,_,hm,hk,hbind kV doc pm an cdv ct,⟨lk,rfl⟩,rM lk hcd S len λA outer s H vs Q E hr hsp=>?_⟩⟩;obtain⟨t,h,q⟩:=hbody f cdv A outer s H vs Q E hr hsp;exact⟨t,h.nox,q⟩
end L2
namespace Hd
open PySem PySem.W PySem.Spec L2
theorem pair2{α β:Type _}{a a':α}{b b':β}(h:a=a')(g:b=b'):(a,b)=(a',b'):=by rw[h,g]
noncomputable def fnFactA(K:Frag)(x y:Str):Option (Arguments×List Stmt×Scope×Value):=match nsIn K mainGlobals x with
 | some (some (.ref f))=>(match K.lookup f with
  | some ⟨_,_,.func fd,_⟩=>(match fd.body,fd.closure with
   | .stmts b,[]=>bif (fd.name == y && (fd.qualname == y && (Nat.beq fd.globals mainGlobals && (Nat.beq fd.builtins builtinsNs && codeIn K fd.code y)))) then some (fd.params,b,fd.scope,fd.defaults) else none
   | _,_=>none)
  | _=>none)
 | _=>none
theorem nq{K:Frag}{x y:Str}{a:Arguments}{b:List Stmt}{sc:Scope}{dv:Value}(e:fnFactA K x y=some (a,b,sc,dv)) :
  ∃(f:Addr) (oc:Value) (od:Option Addr) (kV doc pm:Value) (an:Option Addr) (cdv ct:Value) (osl:Array (Option Value)),
   nsIn K mainGlobals x=some (some (.ref f))/\K.lookup f=some ⟨oc,od,.func (fnOf y y a b sc dv kV doc pm an cdv ct),osl⟩/\codeIn K cdv y=true/\keepIn K (.ref f)=true:=by
 unfold fnFactA at e
 split at e
 ·rename_i f hf
  split at e
  ·rename_i oc od fd osl hl
   split at e
   ·rename_i b' hb hc
    cases hq:(fd.name == y && (fd.qualname == y && (Nat.beq fd.globals mainGlobals && (Nat.beq fd.builtins builtinsNs && codeIn K fd.code y)))) with
    | false=>rw[hq]at e;cases e
    | true =>
     rw[hq]at e;simp only[Bool.and_eq_true]at hq;obtain⟨h1,h2,h3,h4,h5⟩:=hq
     replace h1:=eq_of_beq h1
     replace h2:=eq_of_beq h2
     replace h3:=Nat.eq_of_beq_eq_true h3
     replace h4:=Nat.eq_of_beq_eq_true h4
     simp only[cond_true,Option.some.injEq,Prod.mk.injEq]at e;obtain⟨e1,e2,e3,e4⟩:=e;obtain⟨n,qn,ps,bd,s,gl,cl,df,kw,dc,pm,an,cd,ct,bl⟩:=fd;simp only at h1 h2 h3 h4 h5 e1 e2 e3 e4 hb hc;subst h1 h2 h3 h4 e1 e2 e3 e4 hb hc;refine⟨f,oc,od,kw,dc,pm,an,cd,ct,osl,hf,hl,h5,?_⟩;unfold keepIn;dsimp only;rw[hl]
   ·cases e
  ·cases e
 ·cases e
theorem dfa_of{K:Frag}{mg:Str->Option Value}{h:Heap}{x y:Str}{st:Stmt}(X:K.In h)(G:h.Ns mainGlobals mg)(e:fnFactA K x y=some (aS st,ax st,ag st,.none)):Gp K mg x y st:=by
 obtain⟨f,oc,od,kV,doc,pm,an,cdv,ct,osl,h1,h2,h3,h4⟩:=nq e;exact yA X G h1 h2 h3 h4
theorem pD{K:Frag}{mg:Str->Option Value}{h:Heap}{x:Str}{v:V}(X:K.In h)(G:h.Ns mainGlobals mg)(e:(nsIn K mainGlobals x).map (λo=>o.map bareV)=some (some v)):∃u,mg x=some u/\bareV u=v:=by
 cases hn:nsIn K mainGlobals x with
 | none =>
  rw[hn]at e;cases e
 | some o =>
  cases o with
  | none =>
   rw[hn]at e;cases e
  | some u =>
   rw[hn]at e;exact⟨u,mg_of X G hn,Option.some.inj (Option.some.inj e)⟩
theorem int_of{K:Frag}{mg:Str->Option Value}{h:Heap}{x:Str}{i:Int}(X:K.In h)(G:h.Ns mainGlobals mg)(e:(nsIn K mainGlobals x).map (λo=>o.map bareV)=some (some (.int i))):∃tk,mg x=some (.int i tk):=by
 obtain⟨u,h1,h2⟩:=pD X G e;cases u <;> first|(cases h2;exact⟨_,h1⟩)|cases h2
theorem str_of{K:Frag}{mg:Str->Option Value}{h:Heap}{x z:Str}(X:K.In h)(G:h.Ns mainGlobals mg)(e:(nsIn K mainGlobals x).map (λo=>o.map bareV)=some (some (.str z))):∃tk,mg x=some (.str z tk):=by
 obtain⟨u,h1,h2⟩:=pD X G e;cases u <;> first|(cases h2;exact⟨_,h1⟩)|cases h2
end Hd
local macro_rules | `(tactic| omega)=>`(tactic| lia)
local macro_rules | `(tactic| walk_at "bt")=>`(tactic| first
 | assumption
 | (apply L2.bits_mul <;> walk_at "bt")
 | (apply L2.bits_add2 <;> walk_at "bt")
 | (apply L2.bits_sub2 <;> walk_at "bt")
 | (apply L2.bits_neg;walk_at "bt")
 | (apply L2.bits_abs;walk_at "bt")
 | exact L2.bits_lit)
local macro_rules | `(tactic| walk_at "bl")=>`(tactic| (apply L2.bits_of_le;(walk_at "bt");decide))
local macro_rules | `(tactic| walk_at "cm")=>`(tactic| first
 | exact L2.CM.l ⟨by decide,by decide⟩
 | exact L2.CM.r ⟨by decide,by decide⟩
 | (apply L2.CM.of;(walk_at "bt");(walk_at "bt");decide))
local macro_rules | `(tactic| walk_at "at")=>`(tactic| first
 | assumption
 | exact L2.upd_same
 | (refine L2.Same.at (by assumption) ?_;walk_at "at")
 | (refine L2.SameT.at (by assumption) ?_;walk_at "at"))
local macro_rules | `(tactic| walk_at "sm")=>`(tactic| first
 | assumption
 | exact L2.Same.rfl'
 | (refine L2.Same.trans ?_ (by assumption);walk_at "sm"))
local macro_rules | `(tactic| walk_at "kn")=>`(tactic| first
 | assumption
 | exact⟨_,.int _⟩|exact⟨_,.bl _⟩|exact⟨_,.str _⟩|exact⟨_,.non⟩
 | exact⟨_,.tup (by walk_at "at")⟩|exact⟨_,.lst (by walk_at "at")⟩|exact⟨_,.dict (by walk_at "at")⟩)
local macro_rules | `(tactic| walk_at "nice")=>`(tactic| first
 | exact L2.nice_int|exact L2.nice_bool|exact L2.nice_tuple|exact L2.nice_list|exact L2.nice_str)
local macro_rules | `(tactic| walk_at "th")=>`(tactic| first
 | assumption
 | exact Sp1.th_flat .non (fun p e=>nomatch e)|exact Sp1.th_flat (.int _) (fun p e=>nomatch e)|exact Sp1.th_flat (.bl _) (fun p e=>nomatch e)|exact Sp1.th_flat (.str _) (fun p e=>nomatch e)
 | exact Sp1.th_lst (by walk_at "at")
 | (refine' Sp1.th_tup ?hat ?hkn;(case hat=>walk_at "at");(case hkn=>(simp only[List.mem_cons,List.not_mem_nil,or_false,forall_eq_or_imp,forall_eq,false_imp_iff,implies_true];(try (first|(walk_at "kn")|(repeat' apply And.intro) <;> walk_at "kn")))))
 )
local macro_rules | `(tactic| walk_at "r1")=>`(tactic| first
 | (refine⟨_,rfl,?_⟩)
 | (refine⟨_,_,rfl,rfl,?_⟩)
 | (refine⟨_,_,rfl,rfl,by walk_at "cm",?_⟩)
 | (refine⟨_,_,rfl,rfl,(by show(0:Int)<_;decide),?_⟩)
 | (refine⟨_,_,rfl,rfl,⟨by decide,by decide⟩,?_⟩)
 | (refine⟨_,_,rfl,rfl,⟨by decide,by decide,by decide⟩,?_⟩)
 | (refine' ⟨_,_,_,_,rfl,rfl,L2.SqT.of ?hat,?hix,?nxt⟩;(case hat=>walk_at "at");(case hix=>exact rfl))
 | (refine' ⟨_,_,_,_,rfl,rfl,L2.SqL.of ?hat,?hix,?nxt⟩;(case hat=>walk_at "at");(case hix=>exact rfl))
 | (refine⟨by walk_at "cm",?_⟩)
 | (refine⟨(by show(0:Int)<_;decide),?_⟩)
 | (refine⟨⟨by decide,by decide⟩,?_⟩)
 | (refine⟨⟨by decide,by decide,by decide⟩,?_⟩)
 | (refine⟨Sp1.sz (by simp),fun _ _ _ _ _=>?_⟩)
 | (refine⟨Sp1.sz (by simp),L2.alloc fun _ _ _ _=>?_⟩)
 | (refine' ⟨_,_,_,_,rfl,rfl,?hat,?hbt,Sp1.sz ?hsz,fun _ _ _ _ _=>?nxt⟩;(case hat=>walk_at "at");(case hbt=>walk_at "at");(case hsz=>simp))
 | (refine' ⟨_,_,_,_,rfl,rfl,?hat,?hbt,Sp1.sz ?hsz,L2.alloc fun _ _ _ _=>?nxt⟩;(case hat=>walk_at "at");(case hbt=>walk_at "at");(case hsz=>simp))
 | (refine' ⟨_,_,rfl,.inl (L2.SqL.of ?hat),?nxt⟩;(case hat=>walk_at "at"))
 | (refine' ⟨_,_,rfl,.inr (L2.SqT.of ?hat),?nxt⟩;(case hat=>walk_at "at"))
 | (refine' L2.alloc fun _ _ _ _=>?nxt))
local macro_rules | `(tactic| walk_at "rd")=>`(tactic| repeat (walk_at "r1"))
namespace K61
open PySem PySem.Spec L2 Mth Sp1 Sp2 Sp11 Sp7 Dr Wk Fnc
noncomputable def top(i:Nat):Stmt:=Challenge.pw_oneleash_k61_whole_written_walks_and_fen.main.body.getD i (.Pass ⟨0,0,0,0⟩)
noncomputable def iJ:List (Str×Nat):=[(Str.ofString "is_whole",9),(Str.ofString "common_divisor",10),(Str.ofString "plus",12),(Str.ofString "minus",13),(Str.ofString "times",14),(Str.ofString "over",15),(Str.ofString "less",16),(Str.ofString "floor_of",17),(Str.ofString "number_of_least",18),(Str.ofString "number_of_greatest",19),(Str.ofString "is_ratio",20),(Str.ofString "is_small",24),(Str.ofString "is_corner",25),(Str.ofString "is_line",26),(Str.ofString "last_of",27),(Str.ofString "is_place",29),(Str.ofString "look_at_place",30),(Str.ofString "is_pair",31),(Str.ofString "are_pairs",32),(Str.ofString "number_at",33),(Str.ofString "point_at",34)]
noncomputable def iI:List (Str×Nat):=[(Str.ofString "share_a_stretch",35),(Str.ofString "step_from",36),(Str.ofString "inner_product",37),(Str.ofString "square_between",38),(Str.ofString "square_of",39),(Str.ofString "nearest_part",40),(Str.ofString "least_along",41),(Str.ofString "look_at_way",44),(Str.ofString "steps_back",48),(Str.ofString "keeps_corner",49),(Str.ofString "slides",50),(Str.ofString "has_whole_places",51),(Str.ofString "hops_aside",52),(Str.ofString "is_measured_between",58),(Str.ofString "least_between",59),(Str.ofString "slide_square",60),(Str.ofString "measured_squares",61),(Str.ofString "show_ratio",68),(Str.ofString "show_corner",69),(Str.ofString "show_line",70),(Str.ofString "show_pair",71)]
noncomputable def iH:List (Str×Nat):=[(Str.ofString "show_paper",72),(Str.ofString "read_whole",73),(Str.ofString "read_ratio",74),(Str.ofString "two_parts",75),(Str.ofString "read_corner",76),(Str.ofString "read_line",77),(Str.ofString "read_pair",78),(Str.ofString "read_paper",79),(Str.ofString "goes_on",83),(Str.ofString "goes_freely",84),(Str.ofString "hops",85),(Str.ofString "judged",93),(Str.ofString "_law_cell_at",95),(Str.ofString "_law_folded",96),(Str.ofString "_law_begun",97),(Str.ofString "_law_take",98),(Str.ofString "_law_wide",99),(Str.ofString "_law_drawn_line",100),(Str.ofString "_law_moved",101),(Str.ofString "_law_drawn_other",102),(Str.ofString "_law_lines",103)]
noncomputable def iG:List (Str×Nat):=[(Str.ofString "_law_divisor",104),(Str.ofString "_law_ratio",105),(Str.ofString "_law_below",106),(Str.ofString "_law_lesser",107),(Str.ofString "_law_greater",108),(Str.ofString "_law_spot_on",109),(Str.ofString "_law_any",110),(Str.ofString "_law_ahead",111),(Str.ofString "_law_home",112),(Str.ofString "_law_drawn_walk",113),(Str.ofString "_law_down",114),(Str.ofString "_law_over",115),(Str.ofString "_law_next",116),(Str.ofString "_law_ended",117),(Str.ofString "_law_drawn_fence",118),(Str.ofString "_law_drawn_way",119),(Str.ofString "_law_number_in",120),(Str.ofString "_law_right",121),(Str.ofString "law",122)]
noncomputable def jL:List (Str×Nat×List V):=[(Str.ofString "ratio",11,[.int 1]),(Str.ofString "is_fence",57,[.str "on"]),(Str.ofString "fence_square",62,[.str "on"]),(Str.ofString "is_walk",90,[.str "on"]),(Str.ofString "walk_square",91,[.str "on"])]
noncomputable def yt:List Str:=[Str.ofString "NoRatio",Str.ofString "NoWay",Str.ofString "NoWalk",Str.ofString "NoFence",Str.ofString "NoPlace",Str.ofString "NoText"]
noncomputable def hNo:List Str:=[Str.ofString "abs",Str.ofString "all",Str.ofString "bool",Str.ofString "enumerate",Str.ofString "int",Str.ofString "isinstance",Str.ofString "len",Str.ofString "list",Str.ofString "max",Str.ofString "min",Str.ofString "range",Str.ofString "reversed",Str.ofString "str",Str.ofString "tuple",Str.ofString "zip"]
noncomputable def wJ:List (Str×List V):=[(Str.ofString "WAYS",[.str "on",.str "part",.str "free",.str "hops"]),(Str.ofString "PAPERS",[.str "walk",.str "fence"])]
noncomputable def zC(K:W.Frag):List (Option (Option Value)):=[W.nsIn K cStatics "sys.int_max_str_digits"]
noncomputable def xA:List (Option (Option Value)):=[some none]
noncomputable def zB(K:W.Frag):List (Option (Option V)):=[(W.nsIn K mainGlobals "FIGURES").map (λo=>o.map Hd.bareV),(W.nsIn K mainGlobals "MOST_FIGURES").map (λo=>o.map Hd.bareV),(W.nsIn K mainGlobals "MOST_PAIRS").map (λo=>o.map Hd.bareV),(W.nsIn K mainGlobals "MOST_CORNERS").map (λo=>o.map Hd.bareV),(W.nsIn K mainGlobals "LARGEST").map (λo=>o.map Hd.bareV)]
noncomputable def xz:List (Option (Option V)):=[some (some (.str (Str.ofString "0123456789"))),some (some (.int 1000)),some (some (.int 200)),some (some (.int 10)),some (some (.int 999999999999))]
noncomputable def jN:List (Str×Str×Nat):=[(Str.ofString "has_right_ends_fences",Str.ofString "has_right_ends",46),(Str.ofString "may_step_fences",Str.ofString "may_step",53),(Str.ofString "has_right_steps_fences",Str.ofString "has_right_steps",55),(Str.ofString "has_right_ends_walks",Str.ofString "has_right_ends",81),(Str.ofString "may_step_walks",Str.ofString "may_step",86),(Str.ofString "has_right_steps_walks",Str.ofString "has_right_steps",88)]
noncomputable def hF0(K:W.Frag):List (Option (Arguments×List Stmt×Scope×Value)):=iJ.map (λp=>Hd.fnFact K p.1)
noncomputable def hG0:List (Option (Arguments×List Stmt×Scope×Value)):=iJ.map (λp=>some (aS (top p.2),ax (top p.2),ag (top p.2),.none))
noncomputable def hF1(K:W.Frag):List (Option (Arguments×List Stmt×Scope×Value)):=iI.map (λp=>Hd.fnFact K p.1)
noncomputable def hG1:List (Option (Arguments×List Stmt×Scope×Value)):=iI.map (λp=>some (aS (top p.2),ax (top p.2),ag (top p.2),.none))
noncomputable def hF2(K:W.Frag):List (Option (Arguments×List Stmt×Scope×Value)):=iH.map (λp=>Hd.fnFact K p.1)
noncomputable def hG2:List (Option (Arguments×List Stmt×Scope×Value)):=iH.map (λp=>some (aS (top p.2),ax (top p.2),ag (top p.2),.none))
noncomputable def hF3(K:W.Frag):List (Option (Arguments×List Stmt×Scope×Value)):=iG.map (λp=>Hd.fnFact K p.1)
noncomputable def hG3:List (Option (Arguments×List Stmt×Scope×Value)):=iG.map (λp=>some (aS (top p.2),ax (top p.2),ag (top p.2),.none))
noncomputable def hF4(K:W.Frag):List (Option (Arguments×List Stmt×Scope×List V))×Bool×Bool×List (Option (List V))×List (Option (Arguments×List Stmt×Scope×Value))×List (Option (Option Value))×List (Option (Option V)):=(jL.map (λp=>Hd.fnFactD K p.1),yt.all (Hd.excFact K),hNo.all (Hd.noFact K),wJ.map (λp=>Hd.tupFact K p.1),jN.map (λp=>Hd.fnFactA K p.1 p.2.1),zC K,zB K)
noncomputable def hG4:List (Option (Arguments×List Stmt×Scope×List V))×Bool×Bool×List (Option (List V))×List (Option (Arguments×List Stmt×Scope×Value))×List (Option (Option Value))×List (Option (Option V)):=(jL.map (λp=>some (aS (top p.2.1),ax (top p.2.1),ag (top p.2.1),p.2.2)),true,true,wJ.map (λp=>some p.2),jN.map (λp=>some (aS (top p.2.2),ax (top p.2.2),ag (top p.2.2),.none)),xA,xz)
noncomputable def hFacts(K:W.Frag):(List (Option (Arguments×List Stmt×Scope×Value)))×(List (Option (Arguments×List Stmt×Scope×Value)))×(List (Option (Arguments×List Stmt×Scope×Value)))×(List (Option (Arguments×List Stmt×Scope×Value)))×(List (Option (Arguments×List Stmt×Scope×List V))×Bool×Bool×List (Option (List V))×List (Option (Arguments×List Stmt×Scope×Value))×List (Option (Option Value))×List (Option (Option V))):=(hF0 (K),hF1 (K),hF2 (K),hF3 (K),hF4 (K))
noncomputable def hGood:(List (Option (Arguments×List Stmt×Scope×Value)))×(List (Option (Arguments×List Stmt×Scope×Value)))×(List (Option (Arguments×List Stmt×Scope×Value)))×(List (Option (Arguments×List Stmt×Scope×Value)))×(List (Option (Arguments×List Stmt×Scope×List V))×Bool×Bool×List (Option (List V))×List (Option (Arguments×List Stmt×Scope×Value))×List (Option (Option Value))×List (Option (Option V))):=(hG0,hG1,hG2,hG3,hG4)
noncomputable def hView:Program:=W.view Challenge.pw_oneleash_k61_whole_written_walks_and_fen [122]
noncomputable def hLoose:List Str:=[Str.ofString "LeashError",Str.ofString "NoRatio",Str.ofString "NoPlace",Str.ofString "NoWay",Str.ofString "NoWalk",Str.ofString "NoFence",Str.ofString "NoText",Str.ofString "is_whole",Str.ofString "common_divisor",Str.ofString "ratio",Str.ofString "plus",Str.ofString "minus",Str.ofString "times",Str.ofString "over",Str.ofString "less",Str.ofString "floor_of",Str.ofString "number_of_least",Str.ofString "number_of_greatest",Str.ofString "is_ratio",Str.ofString "MOST_CORNERS",Str.ofString "LARGEST",Str.ofString "is_small",Str.ofString "is_corner",Str.ofString "is_line",Str.ofString "last_of",Str.ofString "is_place",Str.ofString "look_at_place",Str.ofString "is_pair",Str.ofString "are_pairs",Str.ofString "number_at",Str.ofString "point_at",Str.ofString "share_a_stretch",Str.ofString "step_from",Str.ofString "inner_product",Str.ofString "square_between",Str.ofString "square_of",Str.ofString "nearest_part",Str.ofString "least_along",Str.ofString "WAYS",Str.ofString "look_at_way",Str.ofString "has_right_ends",Str.ofString "has_right_ends_fences",Str.ofString "steps_back",Str.ofString "keeps_corner",Str.ofString "slides",Str.ofString "has_whole_places",Str.ofString "hops_aside",Str.ofString "may_step",Str.ofString "may_step_fences",Str.ofString "has_right_steps",Str.ofString "has_right_steps_fences",Str.ofString "is_fence",Str.ofString "is_measured_between",Str.ofString "least_between",Str.ofString "slide_square",Str.ofString "measured_squares",Str.ofString "fence_square",Str.ofString "MOST_FIGURES",Str.ofString "MOST_PAIRS",Str.ofString "FIGURES",Str.ofString "PAPERS",Str.ofString "show_ratio",Str.ofString "show_corner",Str.ofString "show_line",Str.ofString "show_pair",Str.ofString "show_paper",Str.ofString "read_whole",Str.ofString "read_ratio",Str.ofString "two_parts",Str.ofString "read_corner",Str.ofString "read_line",Str.ofString "read_pair",Str.ofString "read_paper",Str.ofString "has_right_ends_walks",Str.ofString "goes_on",Str.ofString "goes_freely",Str.ofString "hops",Str.ofString "may_step_walks",Str.ofString "has_right_steps_walks",Str.ofString "is_walk",Str.ofString "walk_square",Str.ofString "judged",Str.ofString "_law_cell_at",Str.ofString "_law_folded",Str.ofString "_law_begun",Str.ofString "_law_take",Str.ofString "_law_wide",Str.ofString "_law_drawn_line",Str.ofString "_law_moved",Str.ofString "_law_drawn_other",Str.ofString "_law_lines",Str.ofString "_law_divisor",Str.ofString "_law_ratio",Str.ofString "_law_below",Str.ofString "_law_lesser",Str.ofString "_law_greater",Str.ofString "_law_spot_on",Str.ofString "_law_any",Str.ofString "_law_ahead",Str.ofString "_law_home",Str.ofString "_law_drawn_walk",Str.ofString "_law_down",Str.ofString "_law_over",Str.ofString "_law_next",Str.ofString "_law_ended",Str.ofString "_law_drawn_fence",Str.ofString "_law_drawn_way",Str.ofString "_law_number_in",Str.ofString "_law_right"]
noncomputable def hRunS(w:World):=(W.openEnds treeTable Challenge.pw_oneleash_k61_whole_written_walks_and_fen w 100000).map (λs=>(W.openSeen hView hLoose (importedModules Challenge.pw_oneleash_k61_whole_written_walks_and_fen.main.body) (λ_=>true) true s,hF4 (Hd.frag s.heap)))
noncomputable def hEndS:=some ((W.openGood hView hLoose,hG4))
theorem hRunS_self:@hRunS = @hRunS:=rfl
theorem hEndS_self:@hEndS = @hEndS:=rfl
noncomputable def _root_.PySem.W.Fast.tw15627571503396512381:Program:=Challenge.pw_oneleash_k61_whole_written_walks_and_fen
theorem _root_.PySem.W.Fast.te15627571503396512381:Challenge.pw_oneleash_k61_whole_written_walks_and_fen=W.Fast.tw15627571503396512381:=rfl
set_option maxHeartbeats 0 in
lay_quick K61.hRunS K61.hEndS
name_quick hRunSQ for K61.hRunS by K61.hRunS_self
name_quick hEndSQ for K61.hEndS by K61.hEndS_self
set_option maxHeartbeats 0 in
theorem wK(w:World):W.Fast.hRunSQ w=W.Fast.hEndSQ:=by kernel_rfl
theorem zq(w:World):hRunS w=hEndS:=(congrFun W.Fast.hRunSQ_eq w).trans ((wK w).trans (W.Fast.hEndSQ_eq).symm)
noncomputable def hRun0(w:World):=(W.openEnds treeTable Challenge.pw_oneleash_k61_whole_written_walks_and_fen w 100000).map (λs=>hF0 (Hd.frag s.heap))
noncomputable def hEnd0:=some (hG0)
theorem hRun0_self:@hRun0 = @hRun0:=rfl
theorem hEnd0_self:@hEnd0 = @hEnd0:=rfl
set_option maxHeartbeats 0 in
lay_quick K61.hRun0 K61.hEnd0
name_quick hRun0Q for K61.hRun0 by K61.hRun0_self
name_quick hEnd0Q for K61.hEnd0 by K61.hEnd0_self
set_option maxHeartbeats 0 in
theorem wO(w:World):W.Fast.hRun0Q w=W.Fast.hEnd0Q:=by kernel_rfl
theorem zA(w:World):hRun0 w=hEnd0:=(congrFun W.Fast.hRun0Q_eq w).trans ((wO w).trans (W.Fast.hEnd0Q_eq).symm)
noncomputable def hRun1(w:World):=(W.openEnds treeTable Challenge.pw_oneleash_k61_whole_written_walks_and_fen w 100000).map (λs=>hF1 (Hd.frag s.heap))
noncomputable def hEnd1:=some (hG1)
theorem hRun1_self:@hRun1 = @hRun1:=rfl
theorem hEnd1_self:@hEnd1 = @hEnd1:=rfl
set_option maxHeartbeats 0 in
lay_quick K61.hRun1 K61.hEnd1
name_quick hRun1Q for K61.hRun1 by K61.hRun1_self
name_quick hEnd1Q for K61.hEnd1 by K61.hEnd1_self
set_option maxHeartbeats 0 in
theorem wN(w:World):W.Fast.hRun1Q w=W.Fast.hEnd1Q:=by kernel_rfl
theorem zv(w:World):hRun1 w=hEnd1:=(congrFun W.Fast.hRun1Q_eq w).trans ((wN w).trans (W.Fast.hEnd1Q_eq).symm)
noncomputable def hRun2(w:World):=(W.openEnds treeTable Challenge.pw_oneleash_k61_whole_written_walks_and_fen w 100000).map (λs=>hF2 (Hd.frag s.heap))
noncomputable def hEnd2:=some (hG2)
theorem hRun2_self:@hRun2 = @hRun2:=rfl
theorem hEnd2_self:@hEnd2 = @hEnd2:=rfl
set_option maxHeartbeats 0 in
lay_quick K61.hRun2 K61.hEnd2
name_quick hRun2Q for K61.hRun2 by K61.hRun2_self
name_quick hEnd2Q for K61.hEnd2 by K61.hEnd2_self
set_option maxHeartbeats 0 in
theorem wM(w:World):W.Fast.hRun2Q w=W.Fast.hEnd2Q:=by kernel_rfl
theorem zu(w:World):hRun2 w=hEnd2:=(congrFun W.Fast.hRun2Q_eq w).trans ((wM w).trans (W.Fast.hEnd2Q_eq).symm)
noncomputable def hRun3(w:World):=(W.openEnds treeTable Challenge.pw_oneleash_k61_whole_written_walks_and_fen w 100000).map (λs=>hF3 (Hd.frag s.heap))
noncomputable def hEnd3:=some (hG3)
theorem hRun3_self:@hRun3 = @hRun3:=rfl
theorem hEnd3_self:@hEnd3 = @hEnd3:=rfl
set_option maxHeartbeats 0 in
lay_quick K61.hRun3 K61.hEnd3
name_quick hRun3Q for K61.hRun3 by K61.hRun3_self
name_quick hEnd3Q for K61.hEnd3 by K61.hEnd3_self
set_option maxHeartbeats 0 in
theorem wL(w:World):W.Fast.hRun3Q w=W.Fast.hEnd3Q:=by kernel_rfl
theorem zr(w:World):hRun3 w=hEnd3:=(congrFun W.Fast.hRun3Q_eq w).trans ((wL w).trans (W.Fast.hEnd3Q_eq).symm)
theorem Ab(w:World):(W.openEnds treeTable Challenge.pw_oneleash_k61_whole_written_walks_and_fen w 100000).map (λs=>(W.openSeen hView hLoose (importedModules Challenge.pw_oneleash_k61_whole_written_walks_and_fen.main.body) (λ_=>true) true s,hFacts (Hd.frag s.heap)))=some (W.openGood hView hLoose,hGood):=by
 have rS:(W.openEnds treeTable Challenge.pw_oneleash_k61_whole_written_walks_and_fen w 100000).map (λs=>(W.openSeen hView hLoose (importedModules Challenge.pw_oneleash_k61_whole_written_walks_and_fen.main.body) (λ_=>true) true s,hF4 (Hd.frag s.heap)))=some ((W.openGood hView hLoose,hG4)):=zq w;have r0:(W.openEnds treeTable Challenge.pw_oneleash_k61_whole_written_walks_and_fen w 100000).map (λs=>hF0 (Hd.frag s.heap))=some (hG0):=zA w;have r1:(W.openEnds treeTable Challenge.pw_oneleash_k61_whole_written_walks_and_fen w 100000).map (λs=>hF1 (Hd.frag s.heap))=some (hG1):=zv w;have r2:(W.openEnds treeTable Challenge.pw_oneleash_k61_whole_written_walks_and_fen w 100000).map (λs=>hF2 (Hd.frag s.heap))=some (hG2):=zu w;have r3:(W.openEnds treeTable Challenge.pw_oneleash_k61_whole_written_walks_and_fen w 100000).map (λs=>hF3 (Hd.frag s.heap))=some (hG3):=zr w
 skip
 generalize (W.openEnds treeTable Challenge.pw_oneleash_k61_whole_written_walks_and_fen w 100000)=x at *;cases x with
 | none=>cases rS
 | some s =>
  have zS:=Option.some.inj rS;have z0:=Option.some.inj r0;have z1:=Option.some.inj r1;have z2:=Option.some.inj r2;have z3:=Option.some.inj r3;show some (W.openSeen hView hLoose (importedModules Challenge.pw_oneleash_k61_whole_written_walks_and_fen.main.body) (λ_=>true) true s,hFacts (Hd.frag s.heap))=_;unfold hFacts hGood;have z:=(congrArg Prod.fst zS);have q4:=(congrArg Prod.snd zS);have q0:=z0;have q1:=z1;have q2:=z2;have q3:=z3;exact congrArg some (Hd.pair2 z (Hd.pair2 q0 (Hd.pair2 q1 (Hd.pair2 q2 (Hd.pair2 q3 q4)))))
structure Txt(mg:Str->Option Value):Prop where
 z_abs:mg "abs" = none
 z_all:mg "all" = none
 z_bool:mg "bool" = none
 z_enumerate:mg "enumerate" = none
 z_int:mg "int" = none
 z_isinstance:mg "isinstance" = none
 z_len:mg "len" = none
 z_list:mg "list" = none
 z_max:mg "max" = none
 z_min:mg "min" = none
 z_range:mg "range" = none
 z_reversed:mg "reversed" = none
 z_str:mg "str" = none
 z_tuple:mg "tuple" = none
 z_zip:mg "zip" = none
section
variable {P:Program} {w:World} {K:W.Frag} {mg:Str->Option Value} {base:Heap}
theorem dk{α:Type}{xs:List α}(h:xs.length=1):∃a,xs = [a]:=match xs,h with | [a],_=>⟨a,rfl⟩
inductive Fh (vs:List V) (H:Hp) (Q:VK) (x_3:XK):Prop
 | mk:∀(p q:Addr) (a b c d:Int),(vs = [.ref p,.ref q])->(H p=some (.tup [.int a,.int b]))->(H q=some (.tup [.int c,.int d]))->((au a<=5000/\au b<=5000/\au c<=5000/\au d<=5000))->(Q (.bl (decide (a*d<c*b))) H)->Fh vs H Q x_3
inductive Gv (vs:List V) (H:Hp) (Q:VK) (x_3:XK):Prop
 | mk:∀(p p1 p2:Addr) (X Y b X1 Y1 b1 X2 Y2 b2:Int),(vs = [.ref p,.ref p1,.ref p2])->(EE H p X Y b 262)->(EE H p1 X1 Y1 b1 262)->(EE H p2 X2 Y2 b2 262)->(0<b)->(0<b1)->(0<b2)->(∀(r:Addr) (t u:Int) (H':Hp),Dd H' r t u 4207->NP X Y b X1 Y1 b1 X2 Y2 b2 t u->Same H H'->Q (.ref r) H')->Gv vs H Q x_3
noncomputable def yN(l l':Addr)(qs qs':Crn)(t b l1 l2 h1 h2:Int)(H:Hp)(Q:VK):Prop:=au b<=60/\au l2<=60/\au h2<=60/\InS qs'.length l1 l2 h1 h2 /\
 ∀(r rs rp:Addr) (s w T B:Int) (H':Hp),H' r=some (.tup [.ref rs,.ref rp])->Dd H' rs s w 2103->DL H' rp T B (aH qs')->LPc (ptX qs t b) (ptY qs t b) b qs' l1 l2 h1 h2 T B->l1*B<=T*l2->T*h2<=h1*B->Ak (sqF qs t b qs' T B) (sqD b B) s w->Same H H'->Q (.ref r) H'
inductive Fj (C:Addr) (vs:List V) (H:Hp) (Q:VK) (E:XK):Prop
 | mk:∀(l l':Addr) (qs qs':Crn) (x y z:V),(vs = [.ref l,x,.ref l',y,z])->(At H l qs)->(At H l' qs')->((1<=qs.length/\qs.length<=20))->((1<=qs'.length/\qs'.length<=20))->(AN H x)->(AN H y)->(AN H z)->(((aN (aH qs) H x=false/\E (.ref C) none H)\/∃(p:Addr) (t b:Int),x = .ref p/\DL H p t b (aH qs) /\
  ((aN (aH qs') H y=false/\∀H',Same H H'->E (.ref C) none H')\/∃(q:Addr) (l1 l2:Int),y = .ref q/\DL H q l1 l2 (aH qs') /\
   ((aN (aH qs') H z=false/\∀H',Same H H'->E (.ref C) none H')\/∃(q':Addr) (h1 h2:Int),z = .ref q'/\DL H q' h1 h2 (aH qs')/\yN l l' qs qs' t b l1 l2 h1 h2 H Q))))->Fj C vs H Q E
theorem vZ{p:Addr}{qs:Crn}{t b:Int}{H:Hp}{G:Prop}(pl:DL H p t b (aH qs))(z:aN ((qs.length:Int) - 1) H (.ref p)=false):G:=by
 rw[show aN ((qs.length:Int) - 1) H (.ref p)=true from pl.place]at z;cases z
theorem vY{p:Addr}{qs:Crn}{t b:Int}{H:Hp}{G:Addr->Hp->Prop}(pl:DL H p t b (aH qs))(k:∀(r:Addr) (H':Hp),EE H' r (ptX qs t b) (ptY qs t b) b 262->Same H H'->G r H')(p0:Addr)(t0 b0:Int)(e0:V.ref p = .ref p0)(eH:H p0=some (.tup [.int t0,.int b0]))(_:Bg t0 b0)(_:0<=t0)(_:t0<=((qs.length:Int) - 1)*b0) :
  au t0<=200/\au b0<=200/\∀(r:Addr) (H':Hp),EE H' r (ptX qs t0 b0) (ptY qs t0 b0) b0 262->Same H H'->G r H':=by
 cases e0;have e2:=pl.at_;rw[eH]at e2;cases e2;exact⟨pl.bt,pl.bb,k⟩
theorem xY{qs:Crn}{x:V}{H:Hp}(no:aN (aH qs) H x=false){p0:Addr}{t0 b0:Int}(e0:x = .ref p0)(eH:H p0=some (.tup [.int t0,.int b0]))(lw:Bg t0 b0)(t00:0<=t0)(t01:t0<=((qs.length:Int) - 1)*b0){G:Prop}:G:=by
 subst e0;rw[show aN (aH qs) H (.ref p0)=true from gE eH lw t00 t01]at no;cases no
theorem xq{H:Hp}{r:Addr}{u v c d:Int}{n:Nat}(p:Hx H r u v c d n):Rp H 9 (.ref r) (.tup [.tup [.int u,.int v],.tup [.int c,.int d]]):=by
 obtain⟨rx,ry,e,f,g⟩:=p.ex;exact Rp.t2 e (Rp.t2 f.at_ .int .int) (Rp.t2 g.at_ .int .int)
theorem jO{X1 b1 X2 b2 u1 v1 u2 v2:Int}(h1:b1≠0)(h2:b2≠0)(f:Ak X1 b1 u1 v1)(g:Ak X2 b2 u2 v2):X1*b2=X2*b1↔(u1=u2/\v1=v2):=by
 have e1:=fF f h1;have e2:=fF g h2;constructor
 ·intro h
  refine bF f.low g.low (lK (nzl f.low) (nzl g.low) ?_);rw[e1,e2];have q1:=cz h1;have q2:=cz h2;have h3:(X1:Rat)*(b2:Rat)=(X2:Rat)*(b1:Rat):=by rw[<- Rat.intCast_mul,<- Rat.intCast_mul,h]
  unfold rq
  grind
 ·rintro⟨rfl,rfl⟩
  exact lK h1 h2 (by rw[<- e1,<- e2])
theorem yu{x:Str}{ps:List Str}{k:Nat}{ds:List V}{sp sp':Sp}(F:Fx P w K mg base x ps k ds sp)(h:∀vs H Q E,sp' vs H Q E->sp vs H Q E):Fx P w K mg base x ps k ds sp':=by
 obtain⟨f,fd,its,h1,h2,h3,h4,h5,h6⟩:=F.ex;exact⟨⟨f,fd,its,h1,h2,h3,h4,h5,h6.imp h⟩⟩
theorem pY{C:Addr}(F:Fx P w K mg base "ratio" ["top","bottom"] 2 [.int 1] (BM C)):Fx P w K mg base "ratio" ["top","bottom"] 2 [.int 1] (Fc C) :=
 yu F λvs H Q E ⟨a,b,e,bd,h0,h1⟩=>⟨a,b,2000,e,⟨bd.1,bd.2,by decide⟩,h0,h1⟩
theorem vf{x:Str}{ps:List Str}{k:Nat}{sp sp':Sp}(F:Fn P w K mg base x ps k sp)(h:∀vs H Q E,sp' vs H Q E->sp vs H Q E):Fn P w K mg base x ps k sp':=by
 obtain⟨f,fd,o,h1,h2,h3,h4,h6⟩:=F.ex;exact⟨⟨f,fd,o,h1,h2,h3,h4,h6.imp h⟩⟩
theorem jd(F:Fn P w K mg base "less" ["a","b"] 1 Fh):Fn P w K mg base "less" ["a","b"] 1 BP :=
 vf F λvs H Q E ⟨p,q,a,b,c,d,e,h1,h2,⟨b1,b2,b3,b4⟩,k⟩=>⟨p,q,a,b,c,d,e,h1,h2,⟨ai b1 (by decide),ai b2 (by decide),ai b3 (by decide),ai b4 (by decide)⟩,k⟩
theorem smk{N M:List Str}{c:Scope}(a:c.kind=.function:=by rfl)(b:c.isCoroutine=false:=by rfl)(d:c.isGenerator=false:=by rfl)(e:N.Nodup:=by decide +kernel)(f:N.take M.length=M:=by rfl)(g:∀x∈M,c.names.lookup x=some .local\/c.names.lookup x=some .cell:=by decide +kernel)(h:∀y∈c.names,y.2≠.free:=by decide +kernel):Ah N M c:=⟨a,b,d,e,f,g,h⟩
theorem GD:Ah ["thing"] ["thing"] (ag (top 9)):=smk
theorem o4(GT:Df K mg "is_whole" (top 9))(T:Txt mg):Fn P w K mg base "is_whole" ["thing"] 1 Dm:=by
 refine GT.fn GD (λ_ _ _ _ _ _ us hl=>by obtain⟨_,rfl⟩:=dk hl;rfl) (λvs H Q E h=>?_) (λf cdv A outer s H vs Q E hr h=>?_)
 ·obtain⟨x,t,rfl,_⟩:=h
  rfl
 ·obtain⟨x,t,rfl,k,q⟩:=h
  refine⟨_,(ah (ak (bO (az bY (by rfl) T.z_isinstance bo (aa (pv 0) (aa (ix T.z_int qM) ae))) (bD (i8 (az bY (by rfl) T.z_isinstance bo (aa (pv 0) (aa (ix T.z_bool xb) ae)))))))),?_⟩;refine⟨_,rfl,x,t,"int",rfl,k,.inl rfl,_,rfl,?_⟩;refine ay (λhc=>?_) (λhc=>?_)
  ·refine⟨_,rfl,x,t,"bool",rfl,k,.inr (.inl rfl),_,rfl,?_⟩
   rw[(ls k).1 hc];exact q
  ·rw[(ls k).2 hc]at q
   exact q
theorem Az:Ah ["one","other","rest"] ["one","other"] (ag (top 10)):=smk
theorem iR(DY:Df K mg "common_divisor" (top 10))(T:Txt mg):Fn P w K mg base "common_divisor" ["one","other"] 1 G6:=by
 refine DY.fn Az (λ_ _ _ _ _ _ us hl=>by obtain⟨_,_,rfl⟩:=cj hl;rfl) (λvs H Q E h=>?_) (λf cdv A outer s H vs Q E hr h=>?_)
 ·obtain⟨a,b,rfl,_⟩:=h
  rfl
 ·obtain⟨a,b,rfl,q⟩:=h
  refine⟨_,(af (aq (i:=0) Az.nd rfl (Or.inl rfl) (az gz (by rfl) T.z_abs kR (aa (pv 0) ae))) (af (aq (i:=1) Az.nd rfl (Or.inl rfl) (az gz (by rfl) T.z_abs kR (aa (pv 1) ae))) (af (ir PassesOwn.never (ap dw (pv 1) ac (ar _)) (af (aq (i:=2) Az.nd rfl (Or.inl rfl) (aw du (pv 0) (pv 1))) (af (aq (i:=0) Az.nd rfl (Or.inl rfl) (pv 1)) (ah (aq (i:=1) Az.nd rfl (Or.inl rfl) (pv 2)))))) (ah (ak (pv 0)))))),?_⟩;refine⟨_,rfl,a,rfl,_,rfl,b,rfl,?_⟩;refine im (λσ H'=>∃x y r,σ = [some (.int x),some (.int y),r]/\H'=H/\0<=x/\0<=y/\Int.gcd x y=Int.gcd a b)
   (λσ _=>match σ with | [_,some (.int y),_]=>y.toNat|_=>0) ⟨_,_,_,rfl,rfl,kS a,kS b,by rw[rH,va]⟩ ?_ ?_
  ·rintro σ H' ⟨x,y,r,rfl,rfl,hx,hy,hg⟩
   refine⟨_,rfl,rfl,_,rfl,?_⟩;refine ay (λhc=>?_) (λhc=>?_)
   ·have hy0:¬y=0:=by simpa using hc
    have hy1:0<y:=by omega
    refine⟨_,rfl,_,rfl,x,y,rfl,rfl,hy1,_,rfl,_,rfl,⟨y,x % y,_,rfl,rfl,hy,Int.emod_nonneg _ hy0,?_⟩,?_⟩
    ·rw[u8 hx hy1]
     exact hg
    ·have h1:=Int.emod_lt_of_pos x hy1
     have h2:=Int.emod_nonneg x hy0;show(x % y).toNat<y.toNat;omega
   ·have hy0:y=0:=by simpa using hc
    subst hy0;refine⟨_,rfl,?_⟩;have e:(Int.gcd a b:Int)=x:=by rw[<- hg];exact gcd_zero hx
    rw[e]at q;exact q
  ·rintro σ H' Q1 Q2 hq ⟨v,e,hs,k,ek,r⟩
   exact⟨v,e,hs,k,ek,hq _ _ r⟩
theorem Fu:Ah ["top","bottom","divisor"] ["top","bottom"] (ag (top 11)):=smk
theorem vd{C:Addr}(FF:Hf K mg "ratio" (top 11) [.int 1])(DM:Dz K mg "NoRatio" C)(AF:Fn P w K mg base "is_whole" ["thing"] 1 Dm)(AD:Fn P w K mg base "common_divisor" ["one","other"] 1 G6):Fx P w K mg base "ratio" ["top","bottom"] 2 [.int 1] (BM C):=by
 refine FF.fx Fu (λT kV doc pm an cdv ct us its oT n s hv hl ho hs=>?_) (λT kV doc pm an cdv ct us its oT n s hv hl ho hs=>?_) (λvs H Q E h=>?_) (λf cdv A outer s H vs Q E hr h=>?_)
 ·obtain⟨u,rfl,_⟩:=cE hv
  match us,hl with
  | [_,_],_=>exact BindsTo.of_defaults rfl ho hs rfl rfl
 ·obtain⟨u,rfl,_⟩:=cE hv
  have hl1:us.length=1:=by simpa using hl
  match us,hl1 with
  | [_],_=>exact BindsTo.of_defaults rfl ho hs rfl rfl
 ·obtain⟨a,b,nb,rfl,_⟩:=h
  rfl
 ·obtain⟨a,b,nb,rfl,⟨ba,bb,hnb⟩,k0,k1⟩:=h
  refine⟨_,(af (aC (cb (bA (aO (ao AF (hr.mono (by decide)) (by rfl) (aa (pv 0) ae)))) (cb (bA (aO (ao AF (hr.mono (by decide)) (by rfl) (aa (pv 1) ae)))) (bQ (ap aQ (pv 1) ac (ar _))))).pt (ah (cB DM (by rfl))) av) (af (aq (i:=2) Fu.nd rfl (Or.inl rfl) (ao AD (hr.mono (by decide)) (by rfl) (aa (pv 0) (aa (pv 1) ae)))) (af (aC (ap oz (pv 1) ac (ar _)) (ah (aq (i:=2) Fu.nd rfl (Or.inl rfl) (iw e8 (pv 2)))) av) (ah (ak (qe (aa (aw oA (pv 0) (pv 2)) (aa (aw oA (pv 1) (pv 2)) ae)))))))),?_⟩;refine⟨_,rfl,_,_,rfl,.int a,_,rfl,km ?_⟩;refine⟨_,rfl,_,_,rfl,.int b,_,rfl,km ?_⟩;refine⟨_,rfl,rfl,_,rfl,?_⟩;refine ay (λhc=>?_) (λhc=>?_)
  ·exact k0 (by simpa using hc)
  ·have hb:b≠0:=by simpa using hc
   have hg:=fB (a:=a) (b:=b) hb;have bg:au (Int.gcd a b:Int)<=8000:=ai (lU hb bb) (by omega);refine⟨_,rfl,_,rfl,a,b,rfl,?_⟩;refine⟨_,rfl,_,_,rfl,rfl,_,rfl,?_⟩;refine ay (λhd=>?_) (λhd=>?_)
   ·have hlt:b<0:=by simpa using hd
    refine⟨_,rfl,_,rfl,?_⟩;refine⟨_,rfl,_,rfl,_,_,rfl,rfl,⟨by omega,bits_neg bg⟩,_,rfl,_,rfl,_,_,rfl,rfl,⟨by omega,bits_neg bg⟩,sz (by simp),λp hp=>?_⟩;exact k1 hb p _ _ (lV hb _ (by rw[if_pos hlt])) (gU ba) (gU bb) hp
   ·have hlt:¬b<0:=by simpa using hd
    refine⟨_,rfl,_,rfl,_,_,rfl,rfl,⟨by omega,bg⟩,_,rfl,_,rfl,_,_,rfl,rfl,⟨by omega,bg⟩,sz (by simp),λp hp=>?_⟩;exact k1 hb p _ _ (lV hb _ (by rw[if_neg hlt])) (gU ba) (gU bb) hp
theorem GI:Ah ["a"] ["a"] (ag (top 17)):=smk
theorem o9(GX:Df K mg "floor_of" (top 17)):Fn P w K mg base "floor_of" ["a"] 1 En:=by
 refine GX.fn GI (λ_ _ _ _ _ _ us hl=>by obtain⟨_,rfl⟩:=dk hl;rfl) (λvs H Q E h=>?_) (λf cdv A outer s H vs Q E hr h=>?_)
 ·obtain⟨p,a,b,rfl,_⟩:=h
  rfl
 ·obtain⟨p,a,b,rfl,hp,⟨hb,bb⟩,k⟩:=h
  refine⟨_,(ah (ak (aw ca (aj am (pv 0) ac (λ_ _=>rfl)) (aj am (pv 0) ac (λ_ _=>rfl))))),?_⟩;exact⟨_,rfl,p,_,_,_,rfl,rfl,SqT.of hp,rfl,_,rfl,p,_,_,_,rfl,rfl,SqT.of hp,rfl,a,b,rfl,rfl,⟨hb,ai bb (by decide)⟩,k⟩
theorem GF:Ah ["thing"] ["thing"] (ag (top 20)):=smk
theorem o6(GV:Df K mg "is_ratio" (top 20))(AF:Fn P w K mg base "is_whole" ["thing"] 1 Dm)(AD:Fn P w K mg base "common_divisor" ["one","other"] 1 G6)(T:Txt mg):Fn P w K mg base "is_ratio" ["thing"] 2 G3:=by
 refine GV.fn GF (λ_ _ _ _ _ _ us hl=>by obtain⟨_,rfl⟩:=dk hl;rfl) (λvs H Q E h=>?_) (λf cdv A outer s H vs Q E hr h=>?_)
 ·obtain⟨x,rfl,_⟩:=h
  rfl
 ·obtain⟨x,rfl,th,q⟩:=h
  obtain⟨t,k⟩:=th.kn;refine⟨_,(af (aC (cb (bA (aO (az bY (by rfl) T.z_isinstance bo (aa (pv 0) (aa (ix T.z_tuple kN) ae))))) (bQ (ap dw (az aI (by rfl) T.z_len ci (aa (pv 0) ae)) ac (ar _)))).pt (ah (ak cV)) av) (af (aC (cb (bA (aO (ao AF (hr.mono (by decide)) (by rfl) (aa (aj am (pv 0) ac (λ_ _=>rfl)) ae)))) (bQ (bA (aO (ao AF (hr.mono (by decide)) (by rfl) (aa (aj am (pv 0) ac (λ_ _=>rfl)) ae)))))).pt (ah (ak cV)) av) (ah (ak (bO (aR xu (aj am (pv 0) ac (λ_ _=>rfl)) ac (ar _)) (bD (aR aQ (ao AD (hr.mono (by decide)) (by rfl) (aa (aj am (pv 0) ac (λ_ _=>rfl)) (aa (aj am (pv 0) ac (λ_ _=>rfl)) ae))) ac (ar _)))))))),?_⟩;refine⟨_,rfl,x,t,"tuple",rfl,k,.inr (.inr (.inl rfl)),_,rfl,?_⟩;rcases Kn.cases_tup k with⟨p,xs,rfl,e,rfl⟩|⟨hl,hs⟩
  ·-- a tuple
   rw[uL e]at q;refine km ?_;refine⟨_,rfl,p,xs,rfl,.inr (SqT.of e),rfl,_,rfl,?_⟩;refine ay (λhc=>?_) (λhc=>?_)
   ·have hn:xs.length≠2:=by
     intro z;rw[z]at hc;exact absurd hc (by decide)
    rw[uN hn]at q;exact q
   ·have hn:xs.length=2:=by
     have z:(xs.length:Int)=2:=by simpa using hc
     omega
    match xs,hn,e,q with
    | [y,z],_,e,q =>
     obtain⟨ty,ky⟩:=th.parts p _ rfl e y (by simp);obtain⟨tz,kz⟩:=th.parts p _ rfl e z (by simp);refine⟨_,rfl,p,_,_,_,rfl,rfl,SqT.of e,rfl,y,ty,rfl,ky,_,rfl,?_⟩;rcases Kn.cases_int ky with⟨a,rfl,rfl⟩|⟨ny,ey⟩
     ·refine km ?_
      refine⟨_,rfl,p,_,_,_,rfl,rfl,SqT.of e,rfl,z,tz,rfl,kz,_,rfl,?_⟩;rcases Kn.cases_int kz with⟨b,rfl,rfl⟩|⟨nz,ez⟩
      ·refine km ?_
       refine⟨_,rfl,p,_,_,_,rfl,rfl,SqT.of e,rfl,b,1,rfl,rfl,_,rfl,?_⟩;have q':Q (.bl (kh a b)) H:=q;unfold kh at q';refine ay (λhc=>?_) (λhc=>?_)
       ·refine⟨_,rfl,p,_,_,_,rfl,rfl,SqT.of e,rfl,_,rfl,p,_,_,_,rfl,rfl,SqT.of e,rfl,a,b,rfl,rfl,?_⟩
        rw[hc,Bool.true_and]at q';have e1:decide (V.int (Int.gcd a b:Int)=V.int 1)=decide (Int.gcd a b=1):=by
         rw[Bool.eq_iff_iff];simp;omega
        rw[<- e1]at q';exact q'
       ·rw[hc,Bool.false_and]at q'
        exact q'
      ·rw[ez,uM nz]at *
       exact q
     ·rw[ey,uO ny]at *
      exact q
  ·rw[hs]
   rw[hl]at q;exact q
theorem Hj:Ah ["line"] ["line"] (ag (top 27)):=smk
theorem qC(Hr:Df K mg "last_of" (top 27))(T:Txt mg):Fn P w K mg base "last_of" ["line"] 1 DF:=by
 refine Hr.fn Hj (λ_ _ _ _ _ _ us hl=>by obtain⟨_,rfl⟩:=dk hl;rfl) (λvs H Q E h=>?_) (λf cdv A outer s H vs Q E hr h=>?_)
 ·obtain⟨p,xs,rfl,_⟩:=h
  rfl
 ·obtain⟨p,xs,rfl,e,q⟩:=h
  exact⟨_,(ah (ak (aw bE (az aI (by rfl) T.z_len ci (aa (pv 0) ae)) ac))),_,rfl,p,xs,rfl,.inl (SqL.of e),_,_,rfl,rfl,q⟩
theorem GG:Ah ["line","thing"] ["line","thing"] (ag (top 29)):=smk
theorem o7(GW:Df K mg "is_place" (top 29))(BH:Fn P w K mg base "is_ratio" ["thing"] 2 G3)(Aw:Fn P w K mg base "last_of" ["line"] 1 DF):Fn P w K mg base "is_place" ["line","thing"] 3 C6:=by
 refine GW.fn GG (λ_ _ _ _ _ _ us hl=>by obtain⟨_,_,rfl⟩:=cj hl;rfl) (λvs H Q E h=>?_) (λf cdv A outer s H vs Q E hr h=>?_)
 ·obtain⟨p,xs,x,rfl,_⟩:=h
  rfl
 ·obtain⟨p,xs,x,rfl,e,hl,th,q⟩:=h
  refine⟨_,(ah (ak (bO (ao BH (hr.mono (by decide)) (by rfl) (aa (pv 1) ae)) (bD (ou eh eh ac (aj am (pv 1) ac (λ_ _=>rfl)) (aw aT (ao Aw (hr.mono (by decide)) (by rfl) (aa (pv 0) ae)) (aj am (pv 1) ac (λ_ _=>rfl)))))))),?_⟩;refine⟨_,rfl,x,rfl,th,_,rfl,ay (λhc=>?_) (λhc=>?_)⟩
  ·obtain⟨u,a,b,rfl,eu,lw⟩:=oG hc
   rw[dP eu,oF lw,Bool.true_and]at q;refine⟨_,rfl,u,_,_,_,rfl,rfl,SqT.of eu,rfl,_,_,rfl,rfl,_,rfl,ay (λhd=>?_) (λhd=>?_)⟩
   ·rw[hd,Bool.true_and]at q
    exact⟨_,rfl,p,xs,rfl,e,_,rfl,u,_,_,_,rfl,rfl,SqT.of eu,rfl,_,_,rfl,rfl,CM.l (xw (by omega) (by omega)),_,_,rfl,rfl,q⟩
   ·rw[hd,Bool.false_and]at q
    exact q
  ·rw[j6 hc]at q
   exact q
theorem D8:Ah ["line","thing"] ["line","thing"] (ag (top 30)):=smk
theorem jg{C:Addr}(Ec:Df K mg "look_at_place" (top 30))(DN:Dz K mg "NoPlace" C)(Bs:Fn P w K mg base "is_place" ["line","thing"] 3 C6):Fx P w K mg base "look_at_place" ["line","thing"] 4 [] (Gx C):=by
 refine Ec.fx D8 (λ_ _ _ _ _ _ us hl=>by obtain⟨_,_,rfl⟩:=cj hl;rfl) (λvs H Q E h=>?_) (λf cdv A outer s H vs Q E hr h=>?_)
 ·obtain⟨p,xs,x,rfl,_⟩:=h
  rfl
 ·obtain⟨p,xs,x,rfl,e,hl,th,k0,k1⟩:=h
  refine⟨_,(ah (aC (bA (aO (ao Bs (hr.mono (by decide)) (by rfl) (aa (pv 0) (aa (pv 1) ae))))) (ah (cB DN (by rfl))) av)),?_⟩;refine⟨_,rfl,_,rfl,p,xs,x,rfl,e,hl,th,_,rfl,ay (λhc=>?_) (λhc=>?_)⟩
  ·exact k0 (by simpa using hc)
  ·exact k1 (by simpa using hc)
theorem IH:Ah ["a","b"] ["a","b"] (ag (top 12)):=smk
theorem wS{C:Addr}(IM:Df K mg "plus" (top 12))(AG:Fx P w K mg base "ratio" ["top","bottom"] 2 [.int 1] (BM C)):Fn P w K mg base "plus" ["a","b"] 3 (CJ (λa b c d=>a*d+c*b) (λa b c d=>b*d)):=by
 refine IM.fn IH (λ_ _ _ _ _ _ us hl=>by obtain⟨_,_,rfl⟩:=cj hl;rfl) (λvs H Q E h=>?_) (λf cdv A outer s H vs Q E hr h=>?_)
 ·obtain⟨p,q,a,b,c,d,n,rfl,_⟩:=h
  rfl
 ·obtain⟨p,q,a,b,c,d,n,rfl,fp,fq,hn,hden,k⟩:=h
  have ep:=fp.at_;have eq:=fq.at_;have cm:∀{i j:Int},au i<=n->au j<=n->CM i j:=λhi hj=>CM.b hi hj (Nat.le_trans hn (by decide)) (Nat.le_trans hn (by decide));have fin:∀(r:Addr) (t u:Int),Ak (a*d+c*b) (b*d) t u->au t<=2*n+1->au u<=2*n+1->H r=none->Q (.ref r) (upd H r (.tup [.int t,.int u])):=λr t u fr bt bu hr'=>by
   obtain⟨H1,e1,s1,f1⟩:=oP (o:=.tup [.int t,.int u]) hr';rw[e1];exact k r t u H1 fr ⟨f1,fr.low,bt,bu⟩ s1
  refine⟨_,(ah (ak (bZ AG (hr.mono (by decide)) (by rfl) (aa (aw bP (aw aT (aj am (pv 0) ac (λ_ _=>rfl)) (aj am (pv 1) ac (λ_ _=>rfl))) (aw aT (aj am (pv 1) ac (λ_ _=>rfl)) (aj am (pv 0) ac (λ_ _=>rfl)))) (aa (aw aT (aj am (pv 0) ac (λ_ _=>rfl)) (aj am (pv 1) ac (λ_ _=>rfl))) ae))))),?_⟩;refine⟨_,rfl,p,_,_,_,rfl,rfl,SqT.of ep,rfl,_,rfl,q,_,_,_,rfl,rfl,SqT.of eq,rfl,_,_,rfl,rfl,cm fp.ba fq.bb,_,rfl,q,_,_,_,rfl,rfl,SqT.of eq,rfl,_,rfl,p,_,_,_,rfl,rfl,SqT.of ep,rfl,_,_,rfl,rfl,cm fq.ba fp.bb,_,_,rfl,rfl,?_⟩;refine⟨_,rfl,p,_,_,_,rfl,rfl,SqT.of ep,rfl,_,rfl,q,_,_,_,rfl,rfl,SqT.of eq,rfl,_,_,rfl,rfl,cm fp.bb fq.bb,_,_,2*n+1,rfl,⟨ai (dq (n:=2*n) (ai (bits_mul fp.ba fq.bb) (by omega)) (ai (bits_mul fq.ba fp.bb) (by omega))) (by omega),ai (bits_mul fp.bb fq.bb) (by omega),by omega⟩,λz=>absurd z hden,λ_ r t u fr bt bu hr'=>fin r t u fr bt bu hr'⟩
theorem Ie:Ah ["a","b"] ["a","b"] (ag (top 13)):=smk
theorem ve{C:Addr}(Il:Df K mg "minus" (top 13))(AG:Fx P w K mg base "ratio" ["top","bottom"] 2 [.int 1] (BM C)):Fn P w K mg base "minus" ["a","b"] 3 (CJ (λa b c d=>a*d - c*b) (λa b c d=>b*d)):=by
 refine Il.fn Ie (λ_ _ _ _ _ _ us hl=>by obtain⟨_,_,rfl⟩:=cj hl;rfl) (λvs H Q E h=>?_) (λf cdv A outer s H vs Q E hr h=>?_)
 ·obtain⟨p,q,a,b,c,d,n,rfl,_⟩:=h
  rfl
 ·obtain⟨p,q,a,b,c,d,n,rfl,fp,fq,hn,hden,k⟩:=h
  have ep:=fp.at_;have eq:=fq.at_;have cm:∀{i j:Int},au i<=n->au j<=n->CM i j:=λhi hj=>CM.b hi hj (Nat.le_trans hn (by decide)) (Nat.le_trans hn (by decide));have fin:∀(r:Addr) (t u:Int),Ak (a*d - c*b) (b*d) t u->au t<=2*n+1->au u<=2*n+1->H r=none->Q (.ref r) (upd H r (.tup [.int t,.int u])):=λr t u fr bt bu hr'=>by
   obtain⟨H1,e1,s1,f1⟩:=oP (o:=.tup [.int t,.int u]) hr';rw[e1];exact k r t u H1 fr ⟨f1,fr.low,bt,bu⟩ s1
  refine⟨_,(ah (ak (bZ AG (hr.mono (by decide)) (by rfl) (aa (aw bE (aw aT (aj am (pv 0) ac (λ_ _=>rfl)) (aj am (pv 1) ac (λ_ _=>rfl))) (aw aT (aj am (pv 1) ac (λ_ _=>rfl)) (aj am (pv 0) ac (λ_ _=>rfl)))) (aa (aw aT (aj am (pv 0) ac (λ_ _=>rfl)) (aj am (pv 1) ac (λ_ _=>rfl))) ae))))),?_⟩;refine⟨_,rfl,p,_,_,_,rfl,rfl,SqT.of ep,rfl,_,rfl,q,_,_,_,rfl,rfl,SqT.of eq,rfl,_,_,rfl,rfl,cm fp.ba fq.bb,_,rfl,q,_,_,_,rfl,rfl,SqT.of eq,rfl,_,rfl,p,_,_,_,rfl,rfl,SqT.of ep,rfl,_,_,rfl,rfl,cm fq.ba fp.bb,_,_,rfl,rfl,?_⟩;refine⟨_,rfl,p,_,_,_,rfl,rfl,SqT.of ep,rfl,_,rfl,q,_,_,_,rfl,rfl,SqT.of eq,rfl,_,_,rfl,rfl,cm fp.bb fq.bb,_,_,2*n+1,rfl,⟨ai (cI (n:=2*n) (ai (bits_mul fp.ba fq.bb) (by omega)) (ai (bits_mul fq.ba fp.bb) (by omega))) (by omega),ai (bits_mul fp.bb fq.bb) (by omega),by omega⟩,λz=>absurd z hden,λ_ r t u fr bt bu hr'=>fin r t u fr bt bu hr'⟩
theorem Id:Ah ["a","b"] ["a","b"] (ag (top 14)):=smk
theorem vc{C:Addr}(Ik:Df K mg "times" (top 14))(AG:Fx P w K mg base "ratio" ["top","bottom"] 2 [.int 1] (BM C)):Fn P w K mg base "times" ["a","b"] 3 (CJ (λa b c d=>a*c) (λa b c d=>b*d)):=by
 refine Ik.fn Id (λ_ _ _ _ _ _ us hl=>by obtain⟨_,_,rfl⟩:=cj hl;rfl) (λvs H Q E h=>?_) (λf cdv A outer s H vs Q E hr h=>?_)
 ·obtain⟨p,q,a,b,c,d,n,rfl,_⟩:=h
  rfl
 ·obtain⟨p,q,a,b,c,d,n,rfl,fp,fq,hn,hden,k⟩:=h
  have ep:=fp.at_;have eq:=fq.at_;have cm:∀{i j:Int},au i<=n->au j<=n->CM i j:=λhi hj=>CM.b hi hj (Nat.le_trans hn (by decide)) (Nat.le_trans hn (by decide));have fin:∀(r:Addr) (t u:Int),Ak (a*c) (b*d) t u->au t<=2*n+1->au u<=2*n+1->H r=none->Q (.ref r) (upd H r (.tup [.int t,.int u])):=λr t u fr bt bu hr'=>by
   obtain⟨H1,e1,s1,f1⟩:=oP (o:=.tup [.int t,.int u]) hr';rw[e1];exact k r t u H1 fr ⟨f1,fr.low,bt,bu⟩ s1
  refine⟨_,(ah (ak (bZ AG (hr.mono (by decide)) (by rfl) (aa (aw aT (aj am (pv 0) ac (λ_ _=>rfl)) (aj am (pv 1) ac (λ_ _=>rfl))) (aa (aw aT (aj am (pv 0) ac (λ_ _=>rfl)) (aj am (pv 1) ac (λ_ _=>rfl))) ae))))),?_⟩;exact⟨_,rfl,p,_,_,_,rfl,rfl,SqT.of ep,rfl,_,rfl,q,_,_,_,rfl,rfl,SqT.of eq,rfl,_,_,rfl,rfl,cm fp.ba fq.ba,_,rfl,p,_,_,_,rfl,rfl,SqT.of ep,rfl,_,rfl,q,_,_,_,rfl,rfl,SqT.of eq,rfl,_,_,rfl,rfl,cm fp.bb fq.bb,_,_,2*n+1,rfl,⟨ai (bits_mul fp.ba fq.ba) (by omega),ai (bits_mul fp.bb fq.bb) (by omega),by omega⟩,λz=>absurd z hden,λ_ r t u fr bt bu hr'=>fin r t u fr bt bu hr'⟩
theorem II:Ah ["a","b"] ["a","b"] (ag (top 15)):=smk
theorem wT{C:Addr}(IN:Df K mg "over" (top 15))(AG:Fx P w K mg base "ratio" ["top","bottom"] 2 [.int 1] (BM C)):Fn P w K mg base "over" ["a","b"] 3 (CJ (λa b c d=>a*d) (λa b c d=>b*c)):=by
 refine IN.fn II (λ_ _ _ _ _ _ us hl=>by obtain⟨_,_,rfl⟩:=cj hl;rfl) (λvs H Q E h=>?_) (λf cdv A outer s H vs Q E hr h=>?_)
 ·obtain⟨p,q,a,b,c,d,n,rfl,_⟩:=h
  rfl
 ·obtain⟨p,q,a,b,c,d,n,rfl,fp,fq,hn,hden,k⟩:=h
  have ep:=fp.at_;have eq:=fq.at_;have cm:∀{i j:Int},au i<=n->au j<=n->CM i j:=λhi hj=>CM.b hi hj (Nat.le_trans hn (by decide)) (Nat.le_trans hn (by decide));have fin:∀(r:Addr) (t u:Int),Ak (a*d) (b*c) t u->au t<=2*n+1->au u<=2*n+1->H r=none->Q (.ref r) (upd H r (.tup [.int t,.int u])):=λr t u fr bt bu hr'=>by
   obtain⟨H1,e1,s1,f1⟩:=oP (o:=.tup [.int t,.int u]) hr';rw[e1];exact k r t u H1 fr ⟨f1,fr.low,bt,bu⟩ s1
  refine⟨_,(ah (ak (bZ AG (hr.mono (by decide)) (by rfl) (aa (aw aT (aj am (pv 0) ac (λ_ _=>rfl)) (aj am (pv 1) ac (λ_ _=>rfl))) (aa (aw aT (aj am (pv 0) ac (λ_ _=>rfl)) (aj am (pv 1) ac (λ_ _=>rfl))) ae))))),?_⟩;exact⟨_,rfl,p,_,_,_,rfl,rfl,SqT.of ep,rfl,_,rfl,q,_,_,_,rfl,rfl,SqT.of eq,rfl,_,_,rfl,rfl,cm fp.ba fq.bb,_,rfl,p,_,_,_,rfl,rfl,SqT.of ep,rfl,_,rfl,q,_,_,_,rfl,rfl,SqT.of eq,rfl,_,_,rfl,rfl,cm fp.bb fq.ba,_,_,2*n+1,rfl,⟨ai (bits_mul fp.ba fq.bb) (by omega),ai (bits_mul fp.bb fq.ba) (by omega),by omega⟩,λz=>absurd z hden,λ_ r t u fr bt bu hr'=>fin r t u fr bt bu hr'⟩
theorem IJ:Ah ["a","b"] ["a","b"] (ag (top 16)):=smk
theorem wU(IO:Df K mg "less" (top 16)):Fn P w K mg base "less" ["a","b"] 1 Fh:=by
 refine IO.fn IJ (λ_ _ _ _ _ _ us hl=>by obtain⟨_,_,rfl⟩:=cj hl;rfl) (λvs H Q E h=>?_) (λf cdv A outer s H vs Q E hr h=>?_)
 ·obtain⟨p,q,a,b,c,d,rfl,_⟩:=h
  rfl
 ·obtain⟨p,q,a,b,c,d,rfl,hp,hq,⟨ba,bb,bc,bd⟩,k⟩:=h
  refine⟨_,(ah (ak (aR oz (aw aT (aj am (pv 0) ac (λ_ _=>rfl)) (aj am (pv 1) ac (λ_ _=>rfl))) (aw aT (aj am (pv 1) ac (λ_ _=>rfl)) (aj am (pv 0) ac (λ_ _=>rfl))) (ar _)))),?_⟩;refine⟨_,rfl,p,_,_,_,rfl,rfl,SqT.of hp,rfl,_,rfl,q,_,_,_,rfl,rfl,SqT.of hq,rfl,a,d,rfl,rfl,CM.b ba bd (by decide) (by decide),?_⟩;refine⟨_,rfl,q,_,_,_,rfl,rfl,SqT.of hq,rfl,_,rfl,p,_,_,_,rfl,rfl,SqT.of hp,rfl,c,b,rfl,rfl,CM.b bc bb (by decide) (by decide),?_⟩;exact⟨_,_,rfl,rfl,k⟩
theorem D3:Ah ["begin","end","place","rest"] ["begin","end","place"] (ag (top 33)):=smk
theorem mZ{C:Addr}(Gb:Df K mg "number_at" (top 33))(AG:Fx P w K mg base "ratio" ["top","bottom"] 2 [.int 1] (BM C)):Fn P w K mg base "number_at" ["begin","end","place"] 3 Ff:=by
 refine Gb.fn D3 (λ_ _ _ _ _ _ us hl=>by obtain⟨_,_,_,rfl⟩:=je hl;rfl) (λvs H Q E h=>?_) (λf cdv A outer s H vs Q E hr h=>?_)
 ·obtain⟨x,y,p,t,b,rfl,_⟩:=h
  rfl
 ·obtain⟨x,y,p,t,b,rfl,fp,bx,by',k⟩:=h
  have hb:=fp.low.pos;have ep:=fp.at_;have br:au (t % b)<=200:=d7 (Int.emod_nonneg _ (by omega)) (Int.le_of_lt (Int.emod_lt_of_pos _ (by omega))) fp.bb;refine⟨_,(af (aq (i:=3) D3.nd rfl (Or.inl rfl) (aw du (aj am (pv 2) ac (λ_ _=>rfl)) (aj am (pv 2) ac (λ_ _=>rfl)))) (ah (ak (bZ AG (hr.mono (by decide)) (by rfl) (aa (aw bP (aw aT (pv 0) (aj am (pv 2) ac (λ_ _=>rfl))) (aw aT (aw bE (pv 1) (pv 0)) (pv 3))) (aa (aj am (pv 2) ac (λ_ _=>rfl)) ae)))))),?_⟩;refine⟨_,rfl,p,_,_,_,rfl,rfl,SqT.of ep,rfl,_,rfl,p,_,_,_,rfl,rfl,SqT.of ep,rfl,_,_,rfl,rfl,(by show(0:Int)<b;omega),?_⟩;refine⟨_,rfl,_,rfl,p,_,_,_,rfl,rfl,SqT.of ep,rfl,_,_,rfl,rfl,CM.b bx fp.bb (by decide) (by decide),_,rfl,_,rfl,_,_,rfl,rfl,_,rfl,_,_,rfl,rfl,CM.b (cI by' bx) br (by decide) (by decide),_,_,rfl,rfl,?_⟩;refine⟨_,rfl,p,_,_,_,rfl,rfl,SqT.of ep,rfl,_,_,262,rfl,⟨ai (dq (n:=261) (ai (bits_mul bx fp.bb) (by decide)) (bits_mul (cI by' bx) br)) (by decide),ai fp.bb (by decide),by decide⟩,λz=>absurd z (by omega),λ_ r u v fr bu bv hr'=>?_⟩;obtain⟨H1,e1,s1,f1⟩:=oP (o:=.tup [.int u,.int v]) hr';rw[e1];exact k r u v H1 fr ⟨f1,fr.low,bu,bv⟩ s1
theorem Co:Ah ["line","place","corner","begin","end"] ["line","place"] (ag (top 34)):=smk
theorem oU{C:Addr}(GM:Df K mg "point_at" (top 34))(BQ:Fx P w K mg base "look_at_place" ["line","thing"] 4 [] (Gx C))(BI:Fn P w K mg base "floor_of" ["a"] 1 En)(Aw:Fn P w K mg base "last_of" ["line"] 1 DF)(B0:Fn P w K mg base "number_at" ["begin","end","place"] 3 Ff)(T:Txt mg) :
  Fx P w K mg base "point_at" ["line","place"] 5 [] (Ek C):=by
 refine GM.fx Co (λ_ _ _ _ _ _ us hl=>by obtain⟨_,_,rfl⟩:=cj hl;rfl) (λvs H Q E h=>?_) (λf cdv A outer s H vs Q E hr h=>?_)
 ·obtain⟨l,qs,x,rfl,_⟩:=h
  rfl
 ·obtain⟨l,qs,x,rfl,L,h1,h20,th,k0,k1⟩:=h
  have hll:(qs.map λ(q:Addr×Int×Int)=>V.ref q.1).length=qs.length:=List.length_map _;refine⟨_,(af (de (dj BQ (hr.mono (by decide)) (by rfl) (aa (pv 0) (aa (pv 1) ae)))) (af (aq (i:=2) Co.nd rfl (Or.inl rfl) (ao BI (hr.mono (by decide)) (by rfl) (aa (pv 1) ae))) (af (aq (i:=3) Co.nd rfl (Or.inl rfl) (aj aF (pv 0) (pv 2) (λ_ _=>rfl))) (af (aq (i:=4) Co.nd rfl (Or.inl rfl) (aj aF (pv 0) (az (eX rfl) (by rfl) T.z_min kO (aa (aw bP (pv 2) ac) (aa (ao Aw (hr.mono (by decide)) (by rfl) (aa (pv 0) ae)) ae))) (λ_ _=>rfl))) (ah (ak (qe (aa (ao B0 (hr.mono (by decide)) (by rfl) (aa (aj am (pv 3) ac (λ_ _=>rfl)) (aa (aj am (pv 4) ac (λ_ _=>rfl)) (aa (pv 1) ae)))) (aa (ao B0 (hr.mono (by decide)) (by rfl) (aa (aj am (pv 3) ac (λ_ _=>rfl)) (aa (aj am (pv 4) ac (λ_ _=>rfl)) (aa (pv 1) ae)))) ae))))))))),?_⟩;refine⟨_,rfl,_,rfl,l,_,x,rfl,L.lst,by rw[hll];omega,th,λz=>k0 (by rw[hll]at z;exact z),λhx=>?_⟩;rw[hll]at hx;obtain⟨p,t,b,rfl,ep,lw,t0,t1⟩:=ia hx;obtain⟨bt,bb,k⟩:=k1 p t b rfl ep lw t0 t1;have hb:=lw.pos;have fp:Dd H p t b 200:=⟨ep,lw,bt,bb⟩;have q0:0<=t / b:=gi (by omega) t0;have qn:t / b<=(qs.length:Int) - 1:=Int.ediv_le_of_le_mul (by omega) t1;refine⟨_,rfl,p,t,b,rfl,ep,⟨by omega,ai bb (by decide)⟩,?_⟩;have atq:∀(j:Nat) (k:Int),k=(j:Int)->j<qs.length->atI (qs.map λ(q:Addr×Int×Int)=>V.ref q.1) k=some (.ref (qs.getD j (0,0,0)).1)/\qs.getD j (0,0,0)∈qs:=λj k ek hj=>by
   have e1:qs.getD j (0,0,0)=qs[j]:=by rw[List.getD_eq_getElem?_getD,List.getElem?_eq_getElem hj];rfl
   rw[e1];subst ek;exact⟨eE (by rw[List.getElem?_map,List.getElem?_eq_getElem hj];rfl),List.getElem_mem hj⟩
  obtain⟨a0,m0⟩:=atq (t / b).toNat (t / b) (by omega) (by omega);refine⟨_,rfl,_,rfl,l,_,_,_,rfl,rfl,SqL.of L.lst,a0,?_⟩;obtain⟨a1,m1⟩:=atq (min ((t / b).toNat+1) (qs.length - 1)) (if ((((qs.map λ(q:Addr×Int×Int)=>V.ref q.1).length:Nat):Int) - 1)<t / b+1 then ((((qs.map λ(q:Addr×Int×Int)=>V.ref q.1).length:Nat):Int) - 1) else t / b+1) (by rw[hll];split <;> omega) (by omega)
  refine⟨_,rfl,_,rfl,_,_,rfl,rfl,_,rfl,l,_,rfl,L.lst,_,_,rfl,l,_,_,_,rfl,rfl,SqL.of L.lst,a1,?_⟩;have c0:=L.crn _ m0;have c1:=L.crn _ m1;refine⟨_,rfl,_,_,_,_,rfl,rfl,SqT.of c0.1,rfl,_,rfl,_,_,_,_,rfl,rfl,SqT.of c1.1,rfl,_,rfl,_,_,p,t,b,rfl,fp,ai c0.2.1 (by decide),ai c1.2.1 (by decide),λrx u v H1 fr1 g1 s1=>?_⟩;refine⟨_,rfl,_,_,_,_,rfl,rfl,SqT.of (s1 _ _ c0.1),rfl,_,rfl,_,_,_,_,rfl,rfl,SqT.of (s1 _ _ c1.1),rfl,_,rfl,_,_,p,t,b,rfl,fp.mono s1,ai c0.2.2 (by decide),ai c1.2.2 (by decide),λry c d H2 fr2 g2 s2=>?_⟩;refine⟨sz (by simp),λr hr'=>?_⟩;obtain⟨H3,e3,s3,f3⟩:=oP (o:=.tup [.ref rx,.ref ry]) hr';rw[e3];exact k r H3 ⟨⟨rx,ry,u,v,c,d,f3,(g1.mono s2).mono s3,g2.mono s3,fr1,fr2⟩⟩ (s1.trans (s2.trans s3))
theorem FN:Ah ["begin","end"] ["begin","end"] (ag (top 36)):=smk
theorem mT(FW:Df K mg "step_from" (top 36))(Cw:Fn P w K mg base "minus" ["a","b"] 3 (CJ (λa b c d=>a*d - c*b) (λa b c d=>b*d))):Fn P w K mg base "step_from" ["begin","end"] 4 E7:=by
 refine FW.fn FN (λ_ _ _ _ _ _ us hl=>by obtain⟨_,_,rfl⟩:=cj hl;rfl) (λvs H Q E h=>?_) (λf cdv A outer s H vs Q E hr h=>?_)
 ·obtain⟨p,q,u,v,c,d,u',v',c',d',rfl,_⟩:=h
  rfl
 ·obtain⟨p,q,u,v,c,d,u',v',c',d',rfl,fp,fq,k⟩:=h
  obtain⟨px,py,ep,gx,gy⟩:=fp.ex;obtain⟨qx,qy,eq,hx,hy⟩:=fq.ex;have nz:∀{x y:Int},1<=x->1<=y->x*y≠0:=λhx hy=>Int.mul_ne_zero (by omega) (by omega);refine⟨_,(ah (ak (qe (aa (ao Cw (hr.mono (by decide)) (by rfl) (aa (aj am (pv 1) ac (λ_ _=>rfl)) (aa (aj am (pv 0) ac (λ_ _=>rfl)) ae))) (aa (ao Cw (hr.mono (by decide)) (by rfl) (aa (aj am (pv 1) ac (λ_ _=>rfl)) (aa (aj am (pv 0) ac (λ_ _=>rfl)) ae))) ae))))),?_⟩;refine⟨_,rfl,q,_,_,_,rfl,rfl,SqT.of eq,rfl,_,rfl,p,_,_,_,rfl,rfl,SqT.of ep,rfl,qx,px,u',v',u,v,262,rfl,hx,gx,by decide,nz hx.low.pos gx.low.pos,λr1 a b H1 fr1 g1 s1=>?_⟩;refine⟨_,rfl,q,_,_,_,rfl,rfl,SqT.of (s1 _ _ eq),rfl,_,rfl,p,_,_,_,rfl,rfl,SqT.of (s1 _ _ ep),rfl,qy,py,c',d',c,d,262,rfl,hy.mono s1,gy.mono s1,by decide,nz hy.low.pos gy.low.pos,λr2 e f H2 fr2 g2 s2=>?_⟩;refine⟨sz (by simp),λr hr'=>?_⟩;obtain⟨H3,e3,s3,f3⟩:=oP (o:=.tup [.ref r1,.ref r2]) hr';rw[e3];exact k r a b e f H3 fr1 fr2 ⟨⟨r1,r2,f3,(g1.mono s2).mono s3,g2.mono s3⟩⟩ (s1.trans (s2.trans s3))
theorem Eb:Ah ["one","other"] ["one","other"] (ag (top 37)):=smk
theorem jl(Eh:Df K mg "inner_product" (top 37))(DP:Fn P w K mg base "plus" ["a","b"] 3 (CJ (λa b c d=>a*d+c*b) (λa b c d=>b*d)))(Cv:Fn P w K mg base "times" ["a","b"] 3 (CJ (λa b c d=>a*c) (λa b c d=>b*d))):Fn P w K mg base "inner_product" ["one","other"] 4 Em:=by
 refine Eh.fn Eb (λ_ _ _ _ _ _ us hl=>by obtain⟨_,_,rfl⟩:=cj hl;rfl) (λvs H Q E h=>?_) (λf cdv A outer s H vs Q E hr h=>?_)
 ·obtain⟨p,q,a,b,e,f,a',b',e',f',rfl,_⟩:=h
  rfl
 ·obtain⟨p,q,a,b,e,f,a',b',e',f',rfl,fp,fq,k⟩:=h
  obtain⟨qx,qy,eq,hx,hy⟩:=fq.ex;obtain⟨px,py,ep,gx,gy⟩:=fp.ex;have nz:∀{x y:Int},1<=x->1<=y->x*y≠0:=λhx hy=>Int.mul_ne_zero (by omega) (by omega);refine⟨_,(ah (ak (ao DP (hr.mono (by decide)) (by rfl) (aa (ao Cv (hr.mono (by decide)) (by rfl) (aa (aj am (pv 0) ac (λ_ _=>rfl)) (aa (aj am (pv 1) ac (λ_ _=>rfl)) ae))) (aa (ao Cv (hr.mono (by decide)) (by rfl) (aa (aj am (pv 0) ac (λ_ _=>rfl)) (aa (aj am (pv 1) ac (λ_ _=>rfl)) ae))) ae))))),?_⟩;refine⟨_,rfl,p,_,_,_,rfl,rfl,SqT.of ep,rfl,_,rfl,q,_,_,_,rfl,rfl,SqT.of eq,rfl,px,qx,a,b,a',b',525,rfl,gx,hx,by decide,nz gx.low.pos hx.low.pos,λr1 m n H1 fr1 g1 s1=>?_⟩;refine⟨_,rfl,p,_,_,_,rfl,rfl,SqT.of (s1 _ _ ep),rfl,_,rfl,q,_,_,_,rfl,rfl,SqT.of (s1 _ _ eq),rfl,py,qy,e,f,e',f',525,rfl,gy.mono s1,hy.mono s1,by decide,nz gy.low.pos hy.low.pos,λr2 m' n' H2 fr2 g2 s2=>?_⟩;exact⟨r1,r2,m,n,m',n',1051,rfl,g1.mono s2,g2,by decide,nz g1.low.pos g2.low.pos,λr s' w' H3 fr3 g3 s3=>k r m n m' n' s' w' H3 fr1 fr2 fr3 g3 (s1.trans (s2.trans s3))⟩
theorem Ci:Ah ["begin","end","step"] ["begin","end"] (ag (top 38)):=smk
theorem iM(DU:Df K mg "square_between" (top 38))(Bh:Fn P w K mg base "step_from" ["begin","end"] 4 E7)(Ax:Fn P w K mg base "inner_product" ["one","other"] 4 Em):Fn P w K mg base "square_between" ["begin","end"] 5 GZ:=by
 refine DU.fn Ci (λ_ _ _ _ _ _ us hl=>by obtain⟨_,_,rfl⟩:=cj hl;rfl) (λvs H Q E h=>?_) (λf cdv A outer s H vs Q E hr h=>?_)
 ·obtain⟨p,q,X,Y,b,X',Y',b',rfl,_⟩:=h
  rfl
 ·obtain⟨p,q,X,Y,b,X',Y',b',rfl,fp,fq,hb,hb',k⟩:=h
  obtain⟨px,py,u,v,c,d,ep,gx,gy,f1,f2⟩:=fp.ex;obtain⟨qx,qy,u',v',c',d',eq,hx,hy,f3,f4⟩:=fq.ex;refine⟨_,(af (aq (i:=2) Ci.nd rfl (Or.inl rfl) (ao Bh (hr.mono (by decide)) (by rfl) (aa (pv 0) (aa (pv 1) ae)))) (ah (ak (ao Ax (hr.mono (by decide)) (by rfl) (aa (pv 2) (aa (pv 2) ae)))))),?_⟩;refine⟨_,rfl,_,rfl,p,q,u,v,c,d,u',v',c',d',rfl,⟨⟨px,py,ep,gx,gy⟩⟩,⟨⟨qx,qy,eq,hx,hy⟩⟩,λr a e a' e' H1 g1 g2 pf s1=>?_⟩;exact⟨_,rfl,_,rfl,r,r,a,e,a',e',a,e,a',e',rfl,pf,pf,λr2 m n m' n' s' w' H2 k1 k2 k3 g3 s2=>k r2 s' w' H2 (qQ f1 f2 f3 f4 g1 g2 k1 k2 k3) g3 (s1.trans s2)⟩
theorem FO:Ah ["one","x","other","y"] ["one","x","other","y"] (ag (top 39)):=smk
theorem mU{C:Addr}(FX:Df K mg "square_of" (top 39))(AB:Fn P w K mg base "square_between" ["begin","end"] 5 GZ)(AJ:Fx P w K mg base "point_at" ["line","place"] 5 [] (Ek C)):Fx P w K mg base "square_of" ["one","x","other","y"] 6 [] (Dn C):=by
 refine FX.fx FO (λ_ _ _ _ _ _ us hl=>by obtain⟨_,_,_,_,rfl⟩:=mO hl;rfl) (λvs H Q E h=>?_) (λf cdv A outer s H vs Q E hr h=>?_)
 ·obtain⟨l,l',qs,qs',x,y,rfl,_⟩:=h
  rfl
 ·obtain⟨l,l',qs,qs',x,y,rfl,L,L',h1,h1',tx,ty,h⟩:=h
  refine⟨_,(ah (ak (ao AB (hr.mono (by decide)) (by rfl) (aa (dj AJ (hr.mono (by decide)) (by rfl) (aa (pv 0) (aa (pv 1) ae))) (aa (dj AJ (hr.mono (by decide)) (by rfl) (aa (pv 2) (aa (pv 3) ae))) ae))))),?_⟩;refine⟨_,rfl,_,rfl,l,qs,x,rfl,L,h1.1,h1.2,tx,λz=>?_,λp t b ep eH lw t0 t1=>?_⟩
  ·rcases h with h|⟨p,t,b,rfl,pl,_⟩
   ·exact h.2
   ·rw[show aN ((qs.length:Int) - 1) H (.ref p)=true from pl.place]at z
    cases z
  rcases h with h|⟨p',t',b',rfl,pl,h⟩
  ·subst ep
   have z:=h.1;rw[show aN (aH qs) H (.ref p)=true from gE eH lw t0 t1]at z;cases z
  cases ep;have e2:=pl.at_;rw[eH]at e2;cases e2;refine⟨pl.bt,pl.bb,λr H1 pt s1=>?_⟩;refine⟨_,rfl,_,rfl,l',qs',y,rfl,L'.mono s1,h1'.1,h1'.2,AN.mono ty s1,λz=>?_,λq u c eq' eH' lw' u0 u1=>?_⟩
  ·rcases h with h|⟨q,u,c,rfl,pl',_⟩
   ·exact h.2 H1 s1
   ·rw[show aN ((qs'.length:Int) - 1) H1 (.ref q)=true from(pl'.mono s1).place]at z
    cases z
  rcases h with h|⟨q',u',c',rfl,pl',k⟩
  ·subst eq'
   have z:=h.1;obtain⟨kd,kn⟩:=ty.kn;rw[<- cP kn s1,show aN (aH qs') H1 (.ref q)=true from gE eH' lw' u0 u1]at z;cases z
  cases eq';have e3:=(pl'.mono s1).at_;rw[eH']at e3;cases e3;refine⟨pl'.bt,pl'.bb,λr' H2 pt' s2=>?_⟩;have hb:=lw.pos;have hc:=lw'.pos;exact⟨r,r',_,_,_,_,_,_,rfl,pt.mono s2,pt',by omega,by omega,λr2 s' w' H3 fr f3 s3=>k r2 s' w' H3 fr f3 (s1.trans (s2.trans s3))⟩
theorem AH:Ah ["one","other","low","high"] ["one","other"] (ag (top 35)):=smk
theorem ig{C:Addr}(DA:Df K mg "share_a_stretch" (top 35))(AK:Fn P w K mg base "less" ["a","b"] 1 BP)(BI:Fn P w K mg base "floor_of" ["a"] 1 En)(AG:Fx P w K mg base "ratio" ["top","bottom"] 2 [.int 1] (Fc C)):Fn P w K mg base "share_a_stretch" ["one","other"] 3 Do:=by
 refine DA.fn AH (λ_ _ _ _ _ _ us hl=>by obtain⟨_,_,rfl⟩:=cj hl;rfl) (λvs H Q E h=>?_) (λf cdv A outer s H vs Q E hr h=>?_)
 ·obtain⟨p,q,a,b,c,d,rfl,_⟩:=h
  rfl
 ·obtain⟨p,q,a,b,c,d,rfl,ep,eq,sa,sc,k⟩:=h
  have R:∃u:TS,PSs (aG CX0 P w K mg base ["one","other","low","high"] "share_a_stretch" (ag (top 35)) f cdv A outer s H E).nox ((ax (top 35)).drop 3) u/\∀(z1 z2:Option V) (lo hi:Addr) (a b c d:Int),H lo=some (.tup [.int a,.int b])->H hi=some (.tup [.int c,.int d])->C7 a b->C7 c d ->
    (∀H',Same H H'->Q (.bl (!decide ((a / b+1)*d<c*1))) H')->u { nx:=λ_ H'=>Q .non H',rt:=Q } [z1,z2,some (.ref lo),some (.ref hi)] H:=by
   refine⟨_,(ah (ak (i8 (ao AK (hr.mono (by decide)) (by rfl) (aa (v5 AG (hr.mono (by decide)) (by rfl) (aa (aw bP (ao BI (hr.mono (by decide)) (by rfl) (aa (pv 2) ae)) ac) ae)) (aa (pv 3) ae)))))),?_⟩;intro z1 z2 lo hi a b c d elo ehi sa sc k;have b1:au 1<=2000:=ai (m:=1) (by decide) (by decide);have bf:au (a / b+1)<=1001:=dq (eY sa.pos sa.ba) (ai (m:=1) (by decide) (by decide));refine⟨_,rfl,lo,a,b,rfl,elo,⟨sa.pos,ai sa.bb (by decide)⟩,_,_,rfl,rfl,_,1,rfl,⟨ai bf (by decide),b1⟩,λz=>absurd z (by decide),λ_ r t u fr bt bu hr'=>?_⟩;obtain⟨et,eu⟩:=jw (by decide) fr (tj ⟨Int.le_refl 1,Int.gcd_one⟩);subst et eu;obtain⟨H1,e1,s1,f1⟩:=oP (o:=.tup [.int (a / b+1),.int 1]) hr';rw[e1];exact⟨_,rfl,r,hi,a / b+1,1,c,d,rfl,f1,s1 _ _ ehi,⟨ai bf (by decide),b1,ai sc.ba (by decide),ai sc.bb (by decide)⟩,_,rfl,k H1 s1⟩
  obtain⟨u,hu,rd⟩:=R;refine⟨_,(af (aq (i:=2) AH.nd rfl (Or.inl rfl) (pv 0)) (af (aq (i:=3) AH.nd rfl (Or.inl rfl) (pv 1)) (af (aC (aO (ao AK (hr.mono (by decide)) (by rfl) (aa (pv 1) (aa (pv 0) ae)))) (af (aq (i:=2) AH.nd rfl (Or.inl rfl) (pv 1)) (ah (aq (i:=3) AH.nd rfl (Or.inl rfl) (pv 0)))) av) hu))),?_⟩;refine⟨_,rfl,_,rfl,?_⟩;refine⟨_,rfl,_,rfl,q,p,c,d,a,b,rfl,eq,ep,⟨ai sc.ba (by decide),ai sc.bb (by decide),ai sa.ba (by decide),ai sa.bb (by decide)⟩,_,rfl,ay (λhc=>?_) (λhc=>?_)⟩
  ·have h:c*b<a*d:=by simpa using hc
   refine⟨_,rfl,_,rfl,rd _ _ q p c d a b eq ep sc sa λH' s'=>?_⟩;have z:=k H' s';unfold aK at z;rw[if_pos h]at z;exact z
  ·have h:¬c*b<a*d:=by simpa using hc
   refine rd _ _ p q a b c d ep eq sa sc λH' s'=>?_;have z:=k H' s';unfold aK at z;rw[if_neg h]at z;exact z
theorem BU:Ah ["point","begin","end","step","part"] ["point","begin","end"] (ag (top 40)):=smk
theorem jC(EK:Df K mg "nearest_part" (top 40))(Bh:Fn P w K mg base "step_from" ["begin","end"] 4 E7)(Ax:Fn P w K mg base "inner_product" ["one","other"] 4 Em)(GK:Fn P w K mg base "over" ["a","b"] 3 (CJ (λa b c d=>a*d) (λa b c d=>b*c)))(AK:Fn P w K mg base "less" ["a","b"] 1 Fh):Fn P w K mg base "nearest_part" ["point","begin","end"] 5 Gv:=by
 refine EK.fn BU (λ_ _ _ _ _ _ us hl=>by obtain⟨_,_,_,rfl⟩:=je hl;rfl) (λvs H Q E h=>?_) (λf cdv A outer s H vs Q E hr h=>?_)
 ·obtain⟨p,p1,p2,X,Y,b,X1,Y1,b1,X2,Y2,b2,rfl,_⟩:=h
  rfl
 ·obtain⟨p,p1,p2,X,Y,b,X1,Y1,b1,X2,Y2,b2,rfl,pt,pt1,pt2,hb,hb1,hb2,k⟩:=h
  refine⟨_,(af (aC (ap (qo hr.units10) (pv 1) (pv 2) (ar _)) (ah (ak (aA (aa ac (aa ac ae))))) av) (af (aq (i:=3) BU.nd rfl (Or.inl rfl) (ao Bh (hr.mono (by decide)) (by rfl) (aa (pv 1) (aa (pv 2) ae)))) (af (aq (i:=4) BU.nd rfl (Or.inl rfl) (ao GK (hr.mono (by decide)) (by rfl) (aa (ao Ax (hr.mono (by decide)) (by rfl) (aa (ao Bh (hr.mono (by decide)) (by rfl) (aa (pv 1) (aa (pv 0) ae))) (aa (pv 3) ae))) (aa (ao Ax (hr.mono (by decide)) (by rfl) (aa (pv 3) (aa (pv 3) ae))) ae)))) (af (aC (aO (ao AK (hr.mono (by decide)) (by rfl) (aa (pv 4) (aa (aA (aa ac (aa ac ae))) ae)))) (ah (ak (aA (aa ac (aa ac ae))))) av) (af (aC (aO (ao AK (hr.mono (by decide)) (by rfl) (aa (aA (aa ac (aa ac ae))) (aa (pv 4) ae)))) (ah (ak (aA (aa ac (aa ac ae))))) av) (ah (ak (pv 4)))))))),?_⟩;obtain⟨px,py,u,v,c,d,ep,gx,gy,f1,f2⟩:=pt.ex;obtain⟨qx,qy,u1,v1,c1,d1,eq,hx,hy,f3,f4⟩:=pt1.ex;obtain⟨rx,ry,u2,v2,c2,d2,er,kx,ky,f5,f6⟩:=pt2.ex;have F0:Hx H p u v c d 262:=⟨⟨px,py,ep,gx,gy⟩⟩;have F1:Hx H p1 u1 v1 c1 d1 262:=⟨⟨qx,qy,eq,hx,hy⟩⟩;have F2:Hx H p2 u2 v2 c2 d2 262:=⟨⟨rx,ry,er,kx,ky⟩⟩;have b01:au 0<=4207/\au 1<=4207:=⟨by decide,by decide⟩;have Z:∀{H':Hp} {r:Addr},H' r=some (.tup [.int 0,.int 1])->Dd H' r 0 1 4207:=λe=>⟨e,⟨by decide,by decide⟩,b01.1,b01.2⟩;have O:∀{H':Hp} {r:Addr},H' r=some (.tup [.int 1,.int 1])->Dd H' r 1 1 4207:=λe=>⟨e,⟨by decide,by decide⟩,b01.2,b01.2⟩;refine⟨_,rfl,_,rfl,_,_,xq F1,xq F2,_,rfl,ay (λh1=>?_) (λh1=>?_)⟩
  ·have h1:(u1=u2/\v1=v2)/\(c1=c2/\d1=d2):=by simpa[deq,gY]using h1
   exact⟨sz (by simp),λr H1 s1 f1' _=>k r 0 1 H1 (Z f1') (.inl ⟨⟨(jO (by omega) (by omega) f3 f5).mpr h1.1,(jO (by omega) (by omega) f4 f6).mpr h1.2⟩,rfl,rfl⟩) s1⟩
  have h1:¬((u1=u2/\v1=v2)/\(c1=c2/\d1=d2)):=by simpa[deq,gY]using h1
  have hS:0<(X2*b1 - X1*b2)*(X2*b1 - X1*b2)+(Y2*b1 - Y1*b2)*(Y2*b1 - Y1*b2):=by
   have q:∀x:Int,0<=x*x:=λx=>gJ (by omega);have q1:=q (X2*b1 - X1*b2);have q2:=q (Y2*b1 - Y1*b2)
   by_cases z:(X2*b1 - X1*b2)*(X2*b1 - X1*b2)+(Y2*b1 - Y1*b2)*(Y2*b1 - Y1*b2)=0
   ·obtain⟨z1,z2⟩:=qP z
    exact absurd ⟨(jO (by omega) (by omega) f3 f5).mp (by omega),(jO (by omega) (by omega) f4 f6).mp (by omega)⟩ h1
   ·omega
  have hN:0<nN b X1 Y1 b1 X2 Y2 b2:=Int.mul_pos hb hS;refine⟨_,rfl,_,rfl,p1,p2,u1,v1,c1,d1,u2,v2,c2,d2,rfl,F1,F2,λst a e a' e' H1 g1 g2 pf s1=>?_⟩;refine⟨_,rfl,_,rfl,p1,p,u1,v1,c1,d1,u,v,c,d,rfl,F1.mono s1,F0.mono s1,λst2 a2 e2 a2' e2' H2 g3 g4 pf2 s2=>?_⟩;refine⟨_,rfl,st2,st,a2,e2,a2',e2',a,e,a',e',rfl,pf2,pf.mono s2,λr1 m n m' n' i j H3 k1 k2 k3 g5 s3=>?_⟩;refine⟨_,rfl,_,rfl,st,st,a,e,a',e',a,e,a',e',rfl,(pf.mono s2).mono s3,(pf.mono s2).mono s3,λr2 m2 n2 m2' n2' i2 j2 H4 l1 l2 l3 g6 s4=>?_⟩;have hi:=uA hb1 hb2 f3 f4 f5 f6 g1 g2 l1 l2 l3 hS;have hj:=k3.low.pos;refine⟨r1,r2,i,j,i2,j2,2103,rfl,g5.mono s4,g6,by decide,Int.mul_ne_zero (by omega) (by omega),λrp t w' H5 fin g7 s5=>?_⟩;have eN:=wm (by omega) (by omega) (by omega) f1 f2 f3 f4 f5 f6 g1 g2 g3 g4 k1 k2 k3 l1 l2 l3 (by omega) fin (by omega);have hw:=fin.low.pos;obtain⟨c1',c2'⟩:=y9 (by omega) hN eN;have S5:=s1.trans (s2.trans (s3.trans (s4.trans s5)));have bt:=g7.ba;have bw:=g7.bb;refine⟨_,rfl,sz (by simp),λzp H6 s6 f6' _=>?_⟩;refine⟨rp,zp,t,w',0,1,rfl,(g7.mono s6).at_,f6',⟨ai bt (by decide),ai bw (by decide),by decide,by decide⟩,_,rfl,ay (λh2=>?_) (λh2=>?_)⟩
  ·have h2:t*1<0*w':=bH h2
   exact⟨sz (by simp),λr H7 s7 f7 _=>k r 0 1 H7 (Z f7) (.inr ⟨hN,.inl ⟨c1'.mp (by omega),rfl,rfl⟩⟩) (S5.trans (s6.trans s7))⟩
  have h2:¬t*1<0*w':=dn h2;refine⟨sz (by simp),λop H7 s7 f7 _=>?_⟩;have G7:=(g7.mono s6).mono s7;refine⟨_,rfl,op,rp,1,1,t,w',rfl,f7,G7.at_,⟨by decide,by decide,ai bt (by decide),ai bw (by decide)⟩,_,rfl,ay (λh3=>?_) (λh3=>?_)⟩
  ·have h3:1*w'<t*1:=bH h3
   exact⟨sz (by simp),λr H8 s8 f8 _=>k r 1 1 H8 (O f8) (.inr ⟨hN,.inr (.inl ⟨c2'.mp (by omega),rfl,rfl⟩)⟩) (S5.trans (s6.trans (s7.trans s8)))⟩
  have h3:¬1*w'<t*1:=dn h3;exact⟨_,rfl,k rp t w' H7 G7 (.inr ⟨hN,.inr (.inr ⟨by omega,by omega,by omega,eN⟩)⟩) (S5.trans (s6.trans s7))⟩
theorem BK:Ah ["one","x","other","low","high","point","part","place"] ["one","x","other","low","high"] (ag (top 41)):=smk
theorem kF{C:Addr}(EU:Df K mg "least_along" (top 41))(AJ:Fx P w K mg base "point_at" ["line","place"] 5 [] (Ek C))(BW:Fn P w K mg base "nearest_part" ["point","begin","end"] 5 Gv)(DP:Fn P w K mg base "plus" ["a","b"] 3 (CJ (λa b c d=>a*d+c*b) (λa b c d=>b*d)))(Cv:Fn P w K mg base "times" ["a","b"] 3 (CJ (λa b c d=>a*c) (λa b c d=>b*d)))(Cw:Fn P w K mg base "minus" ["a","b"] 3 (CJ (λa b c d=>a*d - c*b) (λa b c d=>b*d)))(AB:Fn P w K mg base "square_between" ["begin","end"] 5 GZ):Fx P w K mg base "least_along" ["one","x","other","low","high"] 6 [] (Fj C):=by
 refine EU.fx BK (λ_ _ _ _ _ _ us hl=>by obtain⟨_,_,_,_,_,rfl⟩:=wA hl;rfl) (λvs H Q E h=>?_) (λf cdv A outer s H vs Q E hr h=>?_)
 ·obtain⟨l,l',qs,qs',x,y,z,rfl,_⟩:=h
  rfl
 ·obtain⟨l,l',qs,qs',x,y,z,rfl,L,L',h1,h1',tx,ty,tz,h⟩:=h
  refine⟨_,(af (aq (i:=5) BK.nd rfl (Or.inl rfl) (dj AJ (hr.mono (by decide)) (by rfl) (aa (pv 0) (aa (pv 1) ae)))) (af (aq (i:=6) BK.nd rfl (Or.inl rfl) (ao BW (hr.mono (by decide)) (by rfl) (aa (pv 5) (aa (dj AJ (hr.mono (by decide)) (by rfl) (aa (pv 2) (aa (pv 3) ae))) (aa (dj AJ (hr.mono (by decide)) (by rfl) (aa (pv 2) (aa (pv 4) ae))) ae))))) (af (aq (i:=7) BK.nd rfl (Or.inl rfl) (ao DP (hr.mono (by decide)) (by rfl) (aa (pv 3) (aa (ao Cv (hr.mono (by decide)) (by rfl) (aa (pv 6) (aa (ao Cw (hr.mono (by decide)) (by rfl) (aa (pv 4) (aa (pv 3) ae))) ae))) ae)))) (ah (ak (aA (aa (ao AB (hr.mono (by decide)) (by rfl) (aa (pv 5) (aa (dj AJ (hr.mono (by decide)) (by rfl) (aa (pv 2) (aa (pv 7) ae))) ae))) (aa (pv 7) ae)))))))),?_⟩;rcases h with h|⟨p,t,b,rfl,pl,h⟩
  ·exact⟨_,rfl,_,rfl,_,_,_,rfl,L,h1.1,h1.2,tx,λ_=>h.2,λ_ _ _ e0 eH lw t0 t1=>xY h.1 e0 eH lw t0 t1⟩
  refine⟨_,rfl,_,rfl,_,_,_,rfl,L,h1.1,h1.2,DL.th pl,vZ pl,vY pl λr H1 pt s1=>?_⟩;obtain⟨ky,ny⟩:=ty.kn;obtain⟨kz,nz⟩:=tz.kn;rcases h with h|⟨q,l1,l2,rfl,pq,h⟩
  ·exact⟨_,rfl,_,rfl,_,rfl,_,_,_,rfl,(L'.mono s1),h1'.1,h1'.2,(AN.mono ty s1),λ_=>(h.2 H1 s1),λ_ _ _ e0 eH lw t0 t1=>xY (by rw[cP ny s1];exact h.1) e0 eH lw t0 t1⟩
  refine⟨_,rfl,_,rfl,_,rfl,_,_,_,rfl,(L'.mono s1),h1'.1,h1'.2,DL.th (pq.mono s1),vZ (pq.mono s1),vY (pq.mono s1) λr1 H2 pt1 s2=>?_⟩;have S2:=s1.trans s2;rcases h with h|⟨q',hi1,hi2,rfl,pq',bb,b2,b4,ins,k⟩
  ·exact⟨_,rfl,_,rfl,_,_,_,rfl,(L'.mono S2),h1'.1,h1'.2,(AN.mono tz S2),λ_=>(h.2 H2 S2),λ_ _ _ e0 eH lw t0 t1=>xY (by rw[cP nz S2];exact h.1) e0 eH lw t0 t1⟩
  have hb:(0:Int)<b:=pl.low.pos;have hl:(0:Int)<l2:=pq.low.pos;have hh:(0:Int)<hi2:=pq'.low.pos;refine⟨_,rfl,_,rfl,_,_,_,rfl,(L'.mono S2),h1'.1,h1'.2,DL.th (pq'.mono S2),vZ (pq'.mono S2),vY (pq'.mono S2) λr2 H3 pt2 s3=>?_⟩;refine⟨r,r1,r2,_,_,_,_,_,_,_,_,_,rfl,(pt.mono s2).mono s3,pt1.mono s3,pt2,hb,hl,hh,λrp ps pw H4 gp np s4=>?_⟩;have S4:=S2.trans (s3.trans s4);have G1:Dd H4 q l1 l2 200:=⟨(pq.mono S4).at_,pq.low,pq.bt,pq.bb⟩;have G2:Dd H4 q' hi1 hi2 200:=⟨(pq'.mono S4).at_,pq'.low,pq'.bt,pq'.bb⟩;have hpb:au ps<=900/\au pw<=900:=by
   have z1:au 0<=900/\au 1<=900:=⟨by decide,by decide⟩;rcases np with⟨_,rfl,rfl⟩|⟨hN,⟨_,rfl,rfl⟩|⟨_,rfl,rfl⟩|⟨_,_,_,e⟩⟩
   ·exact z1
   ·exact z1
   ·exact⟨z1.2,z1.2⟩
   ·rcases ins with⟨rfl,rfl⟩|⟨kk,st⟩
    ·unfold nN at hN
     simp at hN
    ·exact sF (L'.mono S4) hb hl hh bb b2 b4 st (mF L hb pl.bb) gp.low hN e
  have gpb:Dd H4 rp ps pw 900:=⟨gp.at_,gp.low,hpb.1,hpb.2⟩;refine⟨_,rfl,_,rfl,_,rfl,_,rfl,q',q,hi1,hi2,l1,l2,200,rfl,G2,G1,by decide,Int.mul_ne_zero (by omega) (by omega),λrm a e H5 fm gm s5=>?_⟩;refine⟨rp,rm,ps,pw,a,e,900,rfl,gpb.mono s5,gm.wide (by decide),by decide,Int.mul_ne_zero (nzl gp.low) (nzl gm.low),λrt m n H6 ft gt s6=>?_⟩;refine⟨q,rt,l1,l2,m,n,1801,rfl,((G1.mono s5).mono s6).wide (by decide),gt,by decide,Int.mul_ne_zero (by omega) (nzl gt.low),λrpl T B H7 fT gT s7=>?_⟩;obtain⟨lp,r0,r1'⟩:=uR hb pq.low pq'.low ins np fm ft fT;have S7:=S4.trans (s5.trans (s6.trans s7));have hB:(0:Int)<B:=fT.low.pos;have t0:0<=T:=by
   have z:=Int.mul_nonneg pq.lo (show 0<=B by omega)
   by_cases c:0<=T
   ·exact c
   ·have:=Int.mul_neg_of_neg_of_pos (show T<0 by omega) hl
    omega
  have t1:T<=aH qs'*B:=by
   have z:=Int.mul_le_mul_of_nonneg_right pq'.hi (show 0<=B by omega);have:T*hi2<=aH qs'*B*hi2:=by rw[Int.mul_right_comm];omega
   exact Int.le_of_mul_le_mul_right this hh
  obtain⟨bT,bB⟩:=ww L' h1'.2 hb bb fT.low lp b2 b4 t0 t1;have PL:DL H7 rpl T B (aH qs'):=⟨gT.at_,fT.low,t0,t1,bT,ai bB (by decide)⟩;refine⟨_,rfl,_,rfl,_,rfl,_,_,_,rfl,(L'.mono S7),h1'.1,h1'.2,DL.th PL,vZ PL,vY PL λr3 H8 pt3 s8=>?_⟩;refine⟨r,r3,_,_,_,_,_,_,rfl,(pt.mono (s2.trans (s3.trans (s4.trans (s5.trans (s6.trans s7)))))).mono s8,pt3,hb,hB,λrs sn sw H9 fs gs s9=>?_⟩;refine⟨_,rfl,sz (by simp),λrr H10 s10 f10 _=>?_⟩;exact k rr rs rpl sn sw T B H10 f10 (gs.mono s10) (PL.mono (s8.trans (s9.trans s10))) lp r0 r1' fs (S7.trans (s8.trans (s9.trans s10)))
theorem d8(F:Fn P w K mg base "_law_below" ["one","other"] 1 Fh):Fn P w K mg base "_law_below" ["one","other"] 1 BP :=
 vf F λvs H Q E ⟨p,q,a,b,c,d,e,h1,h2,⟨b1,b2,b3,b4⟩,k⟩=>⟨p,q,a,b,c,d,e,h1,h2,⟨ai b1 (by decide),ai b2 (by decide),ai b3 (by decide),ai b4 (by decide)⟩,k⟩
theorem EO:Ah ["script","k"] ["script","k"] (ag (top 95)):=smk
theorem kJ(EY:Df K mg "_law_cell_at" (top 95))(T:Txt mg):Fn P w K mg base "_law_cell_at" ["script","k"] 1 (Dr.spCell K):=by
 refine EY.fn EO (λ_ _ _ _ _ _ us hl=>by obtain⟨_,_,rfl⟩:=cj hl;rfl) (λvs H Q E h=>?_) (λf cdv A outer s H vs Q E hr h=>?_)
 ·obtain⟨sa,ss,k,rfl,_⟩:=h
  rfl
 ·obtain⟨sa,ss,k,rfl,hS,hk,q⟩:=h
  refine⟨_,(af (aC (ap oz (pv 1) (az aI (by rfl) T.z_len ci (aa (pv 0) ae)) (ar _)) (ah (ak (aj aF (pv 0) (pv 1) (λ_ _=>rfl)))) av) (ah (ak ac))),?_⟩;refine⟨_,rfl,_,rfl,sa,_,rfl,.inl hS,_,_,rfl,rfl,_,rfl,ay (λh1=>?_) (λh1=>?_)⟩
  ·have h1:k<(((ss.map V.int).length:Nat):Int):=bH h1
   rw[List.length_map]at h1;exact⟨_,rfl,_,rfl,sa,_,_,_,rfl,rfl,hS,vL k.toNat (by omega) (by omega),q _⟩
  ·exact q _
theorem CQ:Ah ["cell","rest"] ["cell"] (ag (top 97)):=smk
theorem ng(Gj:Df K mg "_law_begun" (top 97))(T:Txt mg):Fn P w K mg base "_law_begun" ["cell"] 1 Dr.spBegun:=by
 refine Gj.fn CQ (λ_ _ _ _ _ _ us hl=>by obtain⟨_,rfl⟩:=dk hl;rfl) (λvs H Q E h=>?_) (λf cdv A outer s H vs Q E hr h=>?_)
 ·obtain⟨c,rfl,_⟩:=h
  rfl
 ·obtain⟨c,rfl,q⟩:=h
  refine⟨_,(af (aq (i:=1) CQ.nd rfl (Or.inl rfl) ac) (af (aC (ap xu (az gz (by rfl) T.z_abs kR (aa (pv 0) ae)) (aw ib ac ac) (ar _)) (ah (aq (i:=1) CQ.nd rfl (Or.inl rfl) (aw bP (aw bE (az gz (by rfl) T.z_abs kR (aa (pv 0) ae)) (aw ib ac ac)) ac))) av) (ah (ak (cK (aa (pv 1) (aa ac (aa (aw du (pv 0) ac) ae)))))))),?_⟩;refine⟨_,rfl,_,rfl,_,_,rfl,rfl,⟨by decide,by decide,by decide⟩,_,_,rfl,rfl,_,rfl,ay (λh1=>?_) (λh1=>?_)⟩
  ·refine⟨_,rfl,_,rfl,_,_,rfl,rfl,⟨by decide,by decide,by decide⟩,_,_,rfl,rfl,_,_,rfl,rfl,?_⟩
   refine⟨_,rfl,_,rfl,_,_,rfl,rfl,(by show(0:Int)<2147483647;decide),sz (by simp),λp H2 s2 f2 n2=>?_⟩;exact q p H2 s2 n2 ⟨_,_,_,f2,Int.le_refl 0,Int.le_refl 0,Int.emod_nonneg _ (by decide),Int.emod_lt_of_pos _ (by decide)⟩
  ·refine⟨_,rfl,_,rfl,_,_,rfl,rfl,(by show(0:Int)<2147483647;decide),sz (by simp),λp H2 s2 f2 n2=>?_⟩
   exact q p H2 s2 n2 ⟨_,_,_,f2,Int.le_refl 0,Int.le_refl 0,Int.emod_nonneg _ (by decide),Int.emod_lt_of_pos _ (by decide)⟩
theorem Cq:Ah ["pot","size","digit","mixed"] ["pot","size"] (ag (top 98)):=smk
theorem oW(GO:Df K mg "_law_take" (top 98)):Fn P w K mg base "_law_take" ["pot","size"] 1 Dr.spTk:=by
 refine GO.fn Cq (λ_ _ _ _ _ _ us hl=>by obtain⟨_,_,rfl⟩:=cj hl;rfl) (λvs H Q E h=>?_) (λf cdv A outer s H vs Q E hr h=>?_)
 ·obtain⟨p,m,k,rfl,_⟩:=h
  rfl
 ·obtain⟨p,m,k,rfl,⟨a,b,c,e,hb0,hb1,hc0,hc1⟩,hk,⟨hm,bm⟩,q⟩:=h
  refine⟨_,(af (aC (ap eM (aj aF (pv 0) ac (λ_ _=>rfl)) ac (ar _)) (af (aq (i:=2) Cq.nd rfl (Or.inl rfl) (aw du (aj aF (pv 0) ac (λ_ _=>rfl)) (pv 1))) (af (hZ (aw ca (aj aF (pv 0) ac (λ_ _=>rfl)) (pv 1)) (mH (pv 0) ac gD)) (ah (ak (pv 2))))) av) (af (hZ (aw bP (aj aF (pv 0) ac (λ_ _=>rfl)) ac) (mH (pv 0) ac gD)) (af (aq (i:=3) Cq.nd rfl (Or.inl rfl) (aw du (aw bP (aw bP (aw bP (aj aF (pv 0) ac (λ_ _=>rfl)) (aw aT (aw aT ac (aj aF (pv 0) ac (λ_ _=>rfl))) (aj aF (pv 0) ac (λ_ _=>rfl)))) (aw aT ac (aj aF (pv 0) ac (λ_ _=>rfl)))) ac) ac)) (af (aq (i:=3) Cq.nd rfl (Or.inl rfl) (aw du (aw aT (aw du (aw aT (pv 3) (pv 3)) ac) ac) ac)) (ah (ak (aw du (aw ca (pv 3) ac) (pv 1)))))))),?_⟩;refine⟨_,rfl,p,_,_,_,rfl,rfl,SqL.of e,rfl,_,_,rfl,rfl,_,rfl,ay (λh1=>?_) (λh1=>?_)⟩
  ·refine⟨_,rfl,p,_,_,_,rfl,rfl,SqL.of e,rfl,_,rfl,_,_,rfl,rfl,hm,?_⟩
   refine⟨_,rfl,p,_,_,_,rfl,rfl,SqL.of e,rfl,_,rfl,_,_,rfl,rfl,⟨hm,bm⟩,_,rfl,p,_,_,0,rfl,rfl,e,rfl,λH2 u=>?_⟩;exact⟨_,rfl,q _ _ (Int.emod_nonneg _ (by omega)) (Int.emod_lt_of_pos _ hm) (λb o nb e=>u.at nb e) ⟨_,_,_,u.now,hb0,by omega,hc0,hc1⟩⟩
  ·have e64:(2:Int)^64=18446744073709551616:=by decide
   refine⟨_,rfl,p,_,_,_,rfl,rfl,SqL.of e,rfl,_,_,rfl,rfl,_,rfl,p,_,_,1,rfl,rfl,e,rfl,λH2 u=>?_⟩;have e2:H2 p=some (.lst [.int a,.int (b+1),.int c]):=u.now;refine⟨_,rfl,p,_,_,_,rfl,rfl,SqL.of e2,rfl,_,rfl,p,_,_,_,rfl,rfl,SqL.of e2,rfl,_,_,rfl,rfl,CM.l ⟨by decide,by decide⟩,_,rfl,p,_,_,_,rfl,rfl,SqL.of e2,rfl,_,_,rfl,rfl,CM.l (by rw[e64];omega),_,_,rfl,rfl,_,rfl,p,_,_,_,rfl,rfl,SqL.of e2,rfl,_,_,rfl,rfl,CM.l ⟨by decide,by decide⟩,_,_,rfl,rfl,_,_,rfl,rfl,_,_,rfl,rfl,(by show(0:Int)<2147483647;decide),?_⟩;have r0:=Int.emod_nonneg (c+977*(b+1)*(b+1)+40693*(b+1)+1) (show(2147483647:Int)≠0 by decide);have r1:=Int.emod_lt_of_pos (c+977*(b+1)*(b+1)+40693*(b+1)+1) (show(0:Int)<2147483647 by decide);refine⟨_,rfl,_,rfl,_,_,rfl,rfl,CM.l (by rw[e64];omega),_,_,rfl,rfl,(by show(0:Int)<1000000007;decide),_,_,rfl,rfl,CM.r ⟨by decide,by decide⟩,_,_,rfl,rfl,(by show(0:Int)<998244353;decide),?_⟩;refine⟨_,rfl,_,_,rfl,rfl,⟨by decide,by decide⟩,_,rfl,_,_,rfl,rfl,hm,?_⟩;exact q _ _ (Int.emod_nonneg _ (by omega)) (Int.emod_lt_of_pos _ hm) (λb o nb e=>u.at nb e) ⟨_,_,_,u.now,by omega,by omega,hc0,hc1⟩
theorem Cp:Ah ["pot","size","number","turn"] ["pot","size"] (ag (top 99)):=smk
theorem oV(GN:Df K mg "_law_wide" (top 99))(Ai:Fn P w K mg base "_law_take" ["pot","size"] 1 Dr.spTk)(T:Txt mg):Fn P w K mg base "_law_wide" ["pot","size"] 2 Dr.spWd:=by
 refine GN.fn Cp (λ_ _ _ _ _ _ us hl=>by obtain⟨_,_,rfl⟩:=cj hl;rfl) (λvs H Q E h=>?_) (λf cdv A outer s H vs Q E hr h=>?_)
 ·obtain⟨p,m,k,rfl,_⟩:=h
  rfl
 ·obtain⟨p,m,k,rfl,pt,hk,⟨hm,bm⟩,q⟩:=h
  refine⟨_,(af (aC (cb (ap eM (aj aF (pv 0) ac (λ_ _=>rfl)) ac (ar _)) (bQ (ap oz (pv 1) (aw ib ac ac) (ar _)))).pt (ah (ak (ao Ai (hr.mono (by decide)) (by rfl) (aa (pv 0) (aa (pv 1) ae))))) av) (af (aq (i:=2) Cp.nd rfl (Or.inl rfl) ac) (af (fg PassesOwn.never rfl (gF rfl T.z_range (aa ac ae)) (aZ (i:=3) Cp.nd rfl (Or.inl rfl)) (ah (aq (i:=2) Cp.nd rfl (Or.inl rfl) (aw bP (aw aT (pv 2) ac) (ao Ai (hr.mono (by decide)) (by rfl) (aa (pv 0) (aa ac ae))))))) (ah (ak (aw du (pv 2) (pv 1))))))),?_⟩;obtain⟨a,b,c,e,rest⟩:=id pt;have tk:∀H1,H1=H->spTk [.ref p,.int m] H1 Q E0:=λH1 e1=>by
   subst e1;exact⟨p,m,k,rfl,pt,by omega,⟨hm,bm⟩,λr H2 h0 h1 b2 p2=>q r H2 h0 h1 b2 (p2.mono (by omega))⟩
  refine⟨_,rfl,p,_,_,_,rfl,rfl,SqL.of e,rfl,_,_,rfl,rfl,_,rfl,ay (λh1=>?_) (λh1=>?_)⟩
  ·exact⟨_,rfl,_,rfl,tk _ rfl⟩
  refine⟨_,rfl,_,_,rfl,rfl,⟨by decide,by decide,by decide⟩,_,_,rfl,rfl,_,rfl,ay (λh2=>?_) (λh2=>?_)⟩
  ·exact⟨_,rfl,_,rfl,tk _ rfl⟩
  refine⟨4,rfl,by decide,by decide,gM (n:=4) (lo:=0) (λi σ H2=>∃(n:Int) (z:Option V),σ = [some (.ref p),some (.int m),some (.int n),z]/\But p H H2/\Pot H2 p (k+(i:Int))) ⟨_,_,rfl,But.refl,by simpa using pt⟩ ?_ ?_⟩
  ·rintro i σ H2 hi ⟨n,z,rfl,b2,p2⟩
   refine⟨_,rfl,_,_,rfl,rfl,CM.r ⟨by decide,by decide⟩,_,rfl,p,_,_,rfl,p2,by omega,⟨by decide,by decide⟩,λr H3 h0 h1 b3 p3=>⟨_,_,rfl,rfl,_,_,rfl,b2.trans b3,p3.mono (by omega)⟩⟩
  ·rintro σ H2 ⟨n,z,rfl,b2,p2⟩
   exact⟨_,rfl,_,rfl,_,_,rfl,rfl,hm,q _ _ (Int.emod_nonneg _ (by omega)) (Int.emod_lt_of_pos _ hm) b2 p2⟩
theorem Aq:Ah ["pot","many","span","half","line","k","at"] ["pot"] (ag (top 100)):=smk
theorem iQ(DW:Df K mg "_law_drawn_line" (top 100))(Ai:Fn P w K mg base "_law_take" ["pot","size"] 1 Dr.spTk)(Bj:Fn P w K mg base "_law_wide" ["pot","size"] 2 Dr.spWd)(T:Txt mg):Fn P w K mg base "_law_drawn_line" ["pot"] 3 Dr.spDLine:=by
 refine DW.fn Aq (λ_ _ _ _ _ _ us hl=>by obtain⟨_,rfl⟩:=dk hl;rfl) (λvs H Q E h=>?_) (λf cdv A outer s H vs Q E hr h=>?_)
 ·obtain⟨p,k,rfl,_⟩:=h
  rfl
 ·obtain⟨p,k,rfl,pt,hk,q⟩:=h
  have CN:Bd (aG CX0 P w K mg base ["pot","many","span","half","line","k","at"] "_law_drawn_line" (ag (top 100)) f cdv A outer s H E).nox (fV (uX ((ax (top 100)).getD 5 (.Pass ⟨0,0,0,0⟩)))) [] "corner" [] :=
   ⟨by rfl,rfl,by decide +kernel,by decide +kernel,rfl,(λp hp=>nomatch hp),by rfl,by decide +kernel,(λp hp=>nomatch hp),⟨rfl,rfl⟩,rfl⟩
  have R:∃u,PSs (aG CX0 P w K mg base ["pot","many","span","half","line","k","at"] "_law_drawn_line" (ag (top 100)) f cdv A outer s H E).nox ((ax (top 100)).drop 6) u/\∀(l:Addr) (qs:Crn) (H1:Hp) (S F:Int) (z5 z6:Option V),LineM H1 l qs->1<=qs.length->qs.length<=10->H l=none->l≠p->But p H H1->Pot H1 p (k+90) ->
    u { nx:=λ_ H'=>Q .non H',rt:=Q } [some (.ref p),some (.int (qs.length:Int)),some (.int S),some (.int F),some (.ref l),z5,z6] H1:=by
   refine⟨_,(af (aC (bK (ap eM (pv 1) ac (ar _)) (bV (ap aQ (ao Ai (hr.mono (by decide)) (by rfl) (aa (pv 0) (aa ac ae))) ac (ar _)))).pt (af (aq (i:=6) Aq.nd rfl (Or.inl rfl) (aw bP ac (ao Ai (hr.mono (by decide)) (by rfl) (aa (pv 0) (aa (aw bE (pv 1) ac) ae))))) (ah (hZ (aj aF (pv 4) (aw bE (pv 6) ac) (λ_ _=>rfl)) (mH (pv 4) (pv 6) gD)))) av) (ah (ak (pv 4)))),λl qs H1 S F z5 z6 L1 h1 h10 nl np b1 p1=>?_⟩;have hll:(qs.map λ(q:Addr×Int×Int)=>V.ref q.1).length=qs.length:=List.length_map _;have fin:∀{z5 z6:Option V} {H2:Hp},LineM H2 l qs->But p H H2->Pot H2 p (k+95)->(pQ (BF 4)) { nx:=λ_ H'=>Q .non H',rt:=Q } [some (.ref p),some (.int (qs.length:Int)),some (.int S),some (.int F),some (.ref l),z5,z6] H2:=λL2 b2 p2=>⟨_,rfl,q l qs _ L2 h1 h10 nl b2 (p2.mono (by omega))⟩;refine⟨_,rfl,_,_,rfl,rfl,_,rfl,ay (λg1=>?_) (λg1=>?_)⟩
   ·have g1:1<(qs.length:Int):=bH g1
    refine⟨_,rfl,p,_,_,rfl,p1,by omega,⟨by decide,by decide⟩,λr2 H2 _ _ b2 p2=>?_⟩;have L2':=L1.but b2 p1 np;refine⟨rfl,_,rfl,ay (λg2=>?_) (λg2=>?_)⟩
    ·refine⟨_,rfl,_,rfl,_,_,rfl,rfl,p,_,_,rfl,p2,by omega,⟨by omega,ai (bi (by omega) (by omega)) (by decide)⟩,λr3 H3 a3 b3' b3 p3=>⟨_,_,rfl,rfl,?_⟩⟩
     have L3:=L2'.but b3 p2 np;obtain⟨qa,hqa,eqa⟩:=yI (qs:=qs) (k:=1+r3 - 1) (by omega) (by omega);refine⟨_,rfl,_,rfl,_,_,rfl,rfl,l,_,_,_,rfl,rfl,SqL.of L3.lst,eqa,_,rfl,_,rfl,l,_,_,_,rfl,rfl,L3.lst,uU (by omega) (by rw[hll];omega),λH4 u=>?_⟩;have e4:(qs.map λ(q:Addr×Int×Int)=>V.ref q.1).set (1+r3).toNat (.ref qa.1)=(qs.set (1+r3).toNat qa).map λ(q:Addr×Int×Int)=>V.ref q.1:=by rw[List.map_set]
     have L4:LineM H4 l (qs.set (1+r3).toNat qa):=by
      refine⟨by rw[<- e4];exact u.now,λq hq=>?_⟩;rcases List.mem_or_eq_of_mem_set hq with hq|rfl
      ·exact⟨u.t _ _ (L3.crn q hq).1,(L3.crn q hq).2⟩
      ·have m:=List.mem_of_getElem? hqa
       exact⟨u.t _ _ (L3.crn _ m).1,(L3.crn _ m).2⟩
     have b4:But p H H4:=λb o nb e=>u.at (λz=>by subst z;rw[nl]at e;cases e) (b3 b o nb (b2 b o nb (b1 b o nb e)));obtain⟨x,y,z,ep,rest⟩:=p3;have p4:Pot H4 p (k+90+1+1):=⟨x,y,z,u.at (Ne.symm np) ep,rest⟩;exact⟨_,rfl,q l _ _ L4 (by rw[List.length_set];exact h1) (by rw[List.length_set];exact h10) nl b4 (p4.mono (by omega))⟩
    ·exact fin L2' (b1.trans b2) (p2.mono (by omega))
   ·exact fin L1 b1 (p1.mono (by omega))
  obtain⟨u,hu,ru⟩:=R;refine⟨_,(af (aq (i:=1) Aq.nd rfl (Or.inl rfl) (aw bP ac (ao Ai (hr.mono (by decide)) (by rfl) (aa (pv 0) (aa (aj aF (@cK _ _ _ _ (@aa _ _ _ _ _ ac (@aa _ _ _ _ _ ac (@aa _ _ _ _ _ ac (@aa _ _ _ _ _ ac (@aa _ _ _ _ _ ac (@aa _ _ _ _ _ ac (@aa _ _ _ _ _ ac (@aa _ _ _ _ _ ac ae (by rfl)) (by rfl)) (by rfl)) (by rfl)) (by rfl)) (by rfl)) (by rfl)) (by rfl))) (ao Ai (hr.mono (by decide)) (by rfl) (aa (pv 0) (aa ac ae))) (λ_ _=>rfl)) ae))))) (@af _ _ _ _ _ (@aq _ _ 2 _ _ _ _ Aq.nd rfl (Or.inl rfl) (@aj _ _ _ _ _ _ _ aF (@cK _ _ _ _ (@aa _ _ _ _ _ ac (@aa _ _ _ _ _ ac (@aa _ _ _ _ _ ac (@aa _ _ _ _ _ (aw bE (aw aT ac (aw ib ac ac)) ac) ae (by rfl)) (by rfl)) (by rfl)) (by rfl))) (ao Ai (hr.mono (by decide)) (by rfl) (aa (pv 0) (aa ac ae))) (λ_ _=>rfl)) (by rfl) (by first|exact .inl rfl|exact .inr rfl|assumption)) (af (aq (i:=3) Aq.nd rfl (Or.inl rfl) (aw ca (pv 2) ac)) (af (aq (i:=4) Aq.nd rfl (Or.inl rfl) (cK ae)) (af (fg PassesOwn.never rfl (gF rfl T.z_range (aa (pv 1) ae)) (aZ (i:=5) Aq.nd rfl (Or.inl rfl)) (ah (de (dU PySem.F.plainAttrs_list PySem.F.slot_list_append PySem.F.type_list_append cO (pv 4) (aa (aA (aa (aw bE (ao Bj (hr.mono (by decide)) (by rfl) (aa (pv 0) (aa (pv 2) ae))) (pv 3)) (aa (aw bE (ao Bj (hr.mono (by decide)) (by rfl) (aa (pv 0) (aa (pv 2) ae))) (pv 3)) ae))) ae))))) (af (aC (ap aQ (ao Ai (hr.mono (by decide)) (by rfl) (aa (pv 0) (aa ac ae))) ac (ar _)) (ah (fX (j:=4) rfl CN Aq.nd rfl rfl (cw (pv 4)) (λfp s₀ H₀=>(aA (aa (aj (dE (K:=K) rfl) (pv 0) ac (λ_ _=>rfl)) (aa ac ae)))))) av) hu)))))),?_⟩
  refine⟨_,rfl,sz (by simp),λpl H1 s1 f1 n1=>?_⟩;have np1:=Pot.ne pt n1;have p1:=pt.same s1;refine⟨_,rfl,p,_,_,rfl,p1,by omega,⟨by decide,by decide⟩,λr2 H2 a2 b2' b2 p2=>?_⟩;refine uF (λm=>2<=m/\m<=10) (b2 _ _ np1 f1) a2 (by simpa using b2') (λv hv=>?_) λm hm=>?_
  ·simp only[List.mem_cons,List.not_mem_nil,or_false]at hv
   rcases hv with rfl|rfl|rfl|rfl|rfl|rfl|rfl|rfl <;> exact⟨_,rfl,by decide,by decide⟩
  refine⟨p,_,_,rfl,p2,by omega,⟨by omega,ai (bi (by omega) (by omega)) (by decide)⟩,λr3 H3 a3 b3' b3 p3=>⟨_,_,rfl,rfl,?_⟩⟩;have B3:But p H H3:=(But.of s1).trans (b2.trans b3);refine⟨_,_,rfl,rfl,⟨by decide,by decide,by decide⟩,_,_,rfl,rfl,CM.l ⟨by decide,by decide⟩,_,_,rfl,rfl,sz (by simp),λps H4 s4 f4 n4=>?_⟩;have np4:=Pot.ne p3 n4;have p4:=p3.same s4;have e12:(2*(10:Int)^(12:Int).toNat - 1)=1999999999999:=by decide +kernel
  refine⟨_,rfl,p,_,_,rfl,p4,by omega,⟨by decide,by decide⟩,λr5 H5 a5 b5' b5 p5=>?_⟩;refine uF (λm=>3<=m/\m<=1999999999999) (b5 _ _ np4 f4) a5 (by simpa using b5') (λv hv=>?_) λS hS=>?_
  ·simp only[List.mem_cons,List.not_mem_nil,or_false]at hv
   rcases hv with rfl|rfl|rfl|rfl
   ·exact⟨_,rfl,by decide,by decide⟩
   ·exact⟨_,rfl,by decide,by decide⟩
   ·exact⟨_,rfl,by decide,by decide⟩
   ·exact⟨_,rfl,by rw[e12];decide,by rw[e12];decide⟩
  have B5:But p H H5:=(B3.trans (But.of s4)).trans b5;have bS:au S<=8000:=ai (m:=50) (dF (by show _<1125899906842624;omega)) (by decide);refine⟨_,rfl,_,_,rfl,rfl,⟨by decide,by decide⟩,?_⟩;refine⟨sz (by simp),λl H6 s6 f6 n6=>?_⟩;have npl:=Pot.ne p5 n6;have nl:H l=none:=B5.none npl n6;have p6:=p5.same s6;refine⟨_,rfl,_,rfl,by omega,by omega,?_⟩;refine gM (n:=(1+r3).toNat) (lo:=0) (λi σ H7=>∃(z5 z6:Option V) (qs:Crn),σ = [some (.ref p),some (.int (1+r3)),some (.int S),some (.int (S / 2)),some (.ref l),z5,z6]/\qs.length=i/\LineM H7 l qs/\But p H H7/\Pot H7 p (k+3+8*(i:Int)))
   ⟨_,_,[],rfl,rfl,⟨f6,λq h=>nomatch h⟩,B5.trans (But.of s6),p6.mono (by omega)⟩ ?_ ?_
  ·rintro i σ H7 hi ⟨z5,z6,qs,rfl,hl,L7,b7,p7⟩
   have hi10:i<10:=by omega
   refine⟨_,rfl,.inl ⟨rfl,_,SqL.of L7.lst⟩,?_⟩;refine⟨_,rfl,_,rfl,p,_,_,rfl,p7,by omega,⟨by omega,bS⟩,λr8 H8 a8 b8' b8 p8=>⟨_,rfl,_,_,rfl,rfl,?_⟩⟩;refine⟨_,rfl,_,rfl,p,_,_,rfl,p8,by omega,⟨by omega,bS⟩,λr9 H9 a9 b9' b9 p9=>⟨_,rfl,_,_,rfl,rfl,sz (by simp),λpp H10 s10 f10 n10=>?_⟩⟩;have L10:=((L7.but b8 p7 npl).but b9 p8 npl).mono s10;refine⟨l,_,_,rfl,rfl,L10.lst,bJ (by rw[List.length_map];omega),λH11 u=>⟨_,_,qs++[(pp,r8 - S / 2,r9 - S / 2)],rfl,by simp[hl],⟨by rw[u.now];simp,λq hq=>?_⟩,λb o nb e=>?_,?_⟩⟩
   ·rcases List.mem_append.mp hq with hq|hq
    ·exact⟨u.t _ _ (L10.crn q hq).1,(L10.crn q hq).2⟩
    ·rw[List.mem_singleton.mp hq]
     refine⟨u.t _ _ f10,?_,?_⟩ <;> (show -999999999999<=_/\_<=999999999999;dsimp only;omega)
   ·exact u.at (λz=>by subst z;rw[nl]at e;cases e) (s10 _ _ (b9 b o nb (b8 b o nb (b7 b o nb e))))
   ·obtain⟨x,y,z,ep,rest⟩:=(p9.same s10).mono (k':=k+3+8*((i+1:Nat):Int)) (by omega)
    exact⟨x,y,z,u.at (Ne.symm npl) ep,rest⟩
  ·rintro σ H7 ⟨z5,z6,qs,rfl,hl,L7,b7,p7⟩
   have hmany:(qs.length:Int)=1+r3:=by omega
   refine⟨_,rfl,p,_,_,rfl,p7,by omega,⟨by decide,by decide⟩,λr8 H8 _ _ b8 p8=>?_⟩;have L8:=L7.but b8 p7 npl;rw[<- hmany];refine⟨rfl,_,rfl,ay (λg1=>?_) (λg1=>?_)⟩
   ·refine⟨_,rfl,l,rfl,⟨_,SqL.of L8.lst⟩,gj (SqL.of L8.lst) (by rw[List.length_map];omega) (λ_ v H=>∃p x,v = .ref p/\H p=some (.tup [.int x,.int 0])/\Sm x) (λi v H H' st ⟨p,x,e,c,s⟩=>⟨p,x,e,st _ _ c,s⟩) ?_ ?_⟩
    ·intro i x H9 Kc hx s9 kk
     rw[List.getElem?_map]at hx;obtain⟨q,hq,rfl⟩:=Option.map_eq_some_iff.mp hx;have c:=s9 _ _ (L8.crn q (List.mem_of_getElem? hq)).1;refine⟨_,rfl,q.1,_,_,_,rfl,rfl,SqT.of c,rfl,sz (by simp),λpp H10 s10 f10 n10=>kk _ _ s10 ⟨pp,_,rfl,f10,(L8.crn q (List.mem_of_getElem? hq)).2.1⟩⟩
    ·intro l2 ys H9 nl2 s9 f9 hly hr
     rw[List.length_map]at hly;have np2:=Pot.ne p8 nl2;have ex:∃rs:Crn,rs.length=qs.length/\LineM H9 l2 rs:=by
      have hch:∀ys:List V,(∀y∈ys,∃(p:Addr) (x:Int),y = .ref p/\H9 p=some (.tup [.int x,.int 0])/\Sm x)->∃rs:Crn,ys=rs.map (λq=>V.ref q.1)/\∀q∈rs,H9 q.1=some (.tup [.int q.2.1,.int q.2.2])/\Sm q.2.1/\Sm q.2.2:=by
       intro ys
       induction ys with
       | nil=>exact λ_=>⟨[],rfl,λq h=>nomatch h⟩
       | cons y ys ih =>
        intro h;obtain⟨rs,e,hrs⟩:=ih λz hz=>h z (List.mem_cons_of_mem _ hz);obtain⟨pp,x,rfl,c,sx⟩:=h y List.mem_cons_self;refine⟨(pp,x,0)::rs,by rw[e];rfl,λq hq=>?_⟩;rcases List.mem_cons.mp hq with rfl|hq
        ·exact⟨c,sx,by show -999999999999<=(0:Int)/\(0:Int)<=999999999999;decide⟩
        ·exact hrs q hq
      obtain⟨rs,e,hrs⟩:=hch ys λy hy=>by
       obtain⟨i,hi⟩:=List.getElem?_of_mem hy;exact hr i y hi
      refine⟨rs,?_,⟨by rw[f9,e],hrs⟩⟩;rw[e,List.length_map]at hly;exact hly
     obtain⟨rs,hrl,L9⟩:=ex;have:=ru l2 rs H9 S (S / 2) z5 z6 L9 (by omega) (by omega) ((b7.trans b8).none np2 nl2) np2 ((b7.trans b8).trans (But.of s9)) ((p8.same s9).mono (by omega));rw[hrl]at this;exact this
   ·exact ru l qs H8 S (S / 2) z5 z6 L8 (by omega) (by omega) nl npl (b7.trans b8) (p8.mono (by omega))
theorem EM:Ah ["way"] ["way"] (ag (top 44)):=smk
theorem kD{C pW:Addr}(ET:Df K mg "look_at_way" (top 44))(Fw:Dz K mg "NoWay" C)(GJ:mg "WAYS" = some (.ref pW))(hW:∀H,SqT K H pW [.str wOn,.str bz,.str aM,.str aB])(T:Txt mg):Fx P w K mg base "look_at_way" ["way"] 1 [] (E4 C):=by
 refine ET.fx EM (λ_ _ _ _ _ _ us hl=>by obtain⟨_,rfl⟩:=dk hl;rfl) (λvs H Q E h=>?_) (λf cdv A outer s H vs Q E hr h=>?_)
 ·obtain⟨x,t,rfl,_⟩:=h
  rfl
 ·obtain⟨x,t,rfl,kn,h⟩:=h
  refine⟨_,(ah (aC (cb (bA (aO (az bY (by rfl) T.z_isinstance bo (aa (pv 0) (aa (ix T.z_str nF) ae))))) (bQ (ap fk (pv 0) (dD (v:=.ref _) (by rfl) GJ rfl) (by rfl)))).pt (ah (cB Fw (by rfl))) av)),?_⟩;refine⟨_,rfl,x,t,"str",rfl,kn,nice_str,_,rfl,?_⟩;rcases h with⟨w,rfl,hw,q⟩|⟨hn,hE⟩
  ·cases kn
   refine bC (by decide) ?_;refine⟨_,rfl,pW,_,rfl,.inr (hW _),rfl,rfl,_,rfl,bC ?_ q⟩;rcases hw with rfl|rfl|rfl|rfl <;> decide
  ·cases hs:eS t "str" with
   | false=>exact jy hE
   | true =>
    obtain⟨w,rfl⟩:∃w,x = .str w:=by
     cases kn with
     | str w=>exact⟨w,rfl⟩
     | non=>exact absurd hs (by decide)
     | bl b=>exact absurd hs (by decide)
     | int i=>exact absurd hs (by decide)
     | lst e=>exact absurd hs (by decide)
     | tup e=>exact absurd hs (by decide)
     | dict e=>exact absurd hs (by decide)
    refine km ?_;refine⟨_,rfl,pW,_,rfl,.inr (hW _),rfl,rfl,_,rfl,gK ?_ hE⟩;have hn':=hn w rfl;have e:inV (.str w) [.str wOn,.str bz,.str aM,.str aB]=false:=by
     rw[Bool.eq_false_iff];intro z;apply hn';have z':(wOn == w || (bz == w || (aM == w || (aB == w || false))))=true:=z;simp only[Bool.or_eq_true,beq_iff_eq,Bool.false_eq_true,or_false]at z';rcases z' with h|h|h|h
     ·exact .inl h.symm
     ·exact .inr (.inl h.symm)
     ·exact .inr (.inr (.inl h.symm))
     ·exact .inr (.inr (.inr h.symm))
    show(if true=true then !inV (.str w) _ else _)=true
    rw[e];rfl
theorem Hl:Ah ["one","other","thing"] ["one","other","thing"] (ag (top 31)):=smk
theorem qE(Ht:Df K mg "is_pair" (top 31))(Bs:Fn P w K mg base "is_place" ["line","thing"] 3 C6)(T:Txt mg):Fn P w K mg base "is_pair" ["one","other","thing"] 4 Gr:=by
 refine Ht.fn Hl (λ_ _ _ _ _ _ us hl=>by obtain⟨_,_,_,rfl⟩:=je hl;rfl) (λvs H Q E h=>?_) (λf cdv A outer s H vs Q E hr h=>?_)
 ·obtain⟨l1,l2,xs1,xs2,v,rfl,_⟩:=h
  rfl
 ·obtain⟨l1,l2,xs1,xs2,v,rfl,⟨e1,n1⟩,⟨e2,n2⟩,pt,q⟩:=h
  refine⟨_,(af (aC (cb (bA (aO (az bY (by rfl) T.z_isinstance bo (aa (pv 2) (aa (ix T.z_tuple kN) ae))))) (bQ (ap dw (az aI (by rfl) T.z_len ci (aa (pv 2) ae)) ac (ar _)))).pt (ah (ak cV)) av) (ah (ak (bO (ao Bs (hr.mono (by decide)) (by rfl) (aa (pv 0) (aa (aj am (pv 2) ac (λ_ _=>rfl)) ae))) (bD (ao Bs (hr.mono (by decide)) (by rfl) (aa (pv 1) (aa (aj am (pv 2) ac (λ_ _=>rfl)) ae)))))))),?_⟩;obtain⟨t,kn⟩:=pt.kn;refine⟨_,rfl,v,t,"tuple",rfl,kn,nice_tuple,_,rfl,?_⟩;rcases Kn.cases_tp' (n:=(xs1.length:Int) - 1) (m:=(xs2.length:Int) - 1) kn with⟨p,xs,rfl,e,rfl⟩|⟨hv,hs⟩
  ·refine bC (by decide) ?_
   refine⟨_,rfl,p,xs,rfl,.inr (SqT.of e),rfl,_,rfl,ay (λhc=>?_) (λhc=>?_)⟩
   ·have hn:xs.length≠2:=by
     intro z;rw[z]at hc;exact absurd hc (by decide)
    have z:cy ((xs1.length:Int) - 1) ((xs2.length:Int) - 1) H (.ref p)=false:=by
     unfold cy;simp only[e]
     split
     ·rename_i h
      cases h;exact absurd rfl hn
     ·rfl
    rw[z]at q;exact q
   ·have hn:xs.length=2:=by
     have z:(xs.length:Int)=2:=by simpa using hc
     omega
    obtain⟨x,y,rfl⟩:=cj hn;rw[gH e]at q;have tx:=(pt.parts p _ rfl e x (by simp)).1;have ty:=(pt.parts p _ rfl e y (by simp)).1;refine⟨_,rfl,_,rfl,p,_,_,_,rfl,rfl,SqT.of e,rfl,l1,_,_,rfl,e1,n1,tx,_,rfl,ay (λh1=>?_) (λh1=>?_)⟩
    ·rw[h1,Bool.true_and]at q
     exact⟨_,rfl,_,rfl,p,_,_,_,rfl,rfl,SqT.of e,rfl,l2,_,_,rfl,e2,n2,ty,q⟩
    ·rw[h1,Bool.false_and]at q
     exact q
  ·rw[hv]at q
   rw[hs];exact jy q
theorem FU:Ah ["one","other","thing"] ["one","other","thing"] (ag (top 32)):=smk
theorem nn(Gn:Df K mg "are_pairs" (top 32))(DR:Fn P w K mg base "is_pair" ["one","other","thing"] 4 Gr)(T:Txt mg):Fn P w K mg base "are_pairs" ["one","other","thing"] 5 El:=by
 refine Gn.fn FU (λ_ _ _ _ _ _ us hl=>by obtain⟨_,_,_,rfl⟩:=je hl;rfl) (λvs H Q E h=>?_) (λf cdv A outer s H vs Q E hr h=>?_)
 ·obtain⟨l1,l2,xs1,xs2,v,rfl,_⟩:=h
  rfl
 ·obtain⟨l1,l2,xs1,xs2,v,rfl,⟨e1,n1⟩,⟨e2,n2⟩,pt,q⟩:=h
  have CN:Bd (aG CX0 P w K mg base ["one","other","thing"] "are_pairs" (ag (top 32)) f cdv A outer s H E).nox (Dr.compScope (jG ((ax (top 32)).getD 1 (.Pass ⟨0,0,0,0⟩)))) [("other",s.heap.objs.size+2),("one",s.heap.objs.size+1)] "pair" [("one",0),("other",1)] :=
   ⟨by rfl,rfl,by decide +kernel,by decide +kernel,rfl,(λp hp=>by simp only[List.mem_cons,List.not_mem_nil,or_false]at hp;rcases hp with rfl|rfl <;> rfl),by rfl,by decide +kernel,(λp hp=>by simp only[List.mem_cons,List.not_mem_nil,or_false]at hp;rcases hp with rfl|rfl <;> exact⟨rfl,rfl,.inr (.inl rfl),rfl,rfl⟩),⟨rfl,rfl⟩,rfl⟩
  refine⟨_,(af (aC (cb (bA (aO (az bY (by rfl) T.z_isinstance bo (aa (pv 2) (aa (ix T.z_list nG) ae))))) (bQ (ap aQ (az aI (by rfl) T.z_len ci (aa (pv 2) ae)) ac (ar _)))).pt (ah (ak cV)) av) (ah (ak (az (gw rfl) (by rfl) T.z_all kP (aa (dR rfl CN (cw (pv 2)) (λfp s₀ H₀=>(ao DR (hr.mono (by decide)) (by rfl) (aa (pv 1) (aa (pv 2) (aa (pv 0) ae)))))) ae))))),?_⟩;obtain⟨t,kn⟩:=pt.kn;refine⟨_,rfl,v,t,"list",rfl,kn,nice_list,_,rfl,?_⟩;rcases Kn.cases_lst' (n:=(xs1.length:Int) - 1) (m:=(xs2.length:Int) - 1) kn with⟨p,xs,rfl,e,rfl⟩|⟨hv,hs⟩
  ·refine bC (by decide) ?_
   rw[kc e]at q;obtain⟨hlen,hth⟩:=pt.parts p xs rfl e;refine⟨_,rfl,p,xs,rfl,.inl (SqL.of e),rfl,_,rfl,ay (λhc=>?_) (λhc=>?_)⟩
   ·have hn:xs = []:=by
     have z:(xs.length:Int)=0:=by simpa using hc
     exact List.length_eq_zero_iff.mp (by omega)
    subst hn;exact q H (Same.refl _)
   ·have hn:xs≠[]:=λz=>by
     subst z;exact absurd hc (by decide)
    have hne:xs.isEmpty=false:=by cases xs with|nil=>exact absurd rfl hn|cons x r=>rfl
    rw[hne]at q;refine⟨_,rfl,p,rfl,⟨_,SqL.of e⟩,gj (SqL.of e) (by omega) (λi v' _=>v' = .bl (cy ((xs1.length:Int) - 1) ((xs2.length:Int) - 1) H (xs.getD i .non))) (λ_ _ _ _ _ h=>h) ?_ ?_⟩
    ·intro i x H2 Kc hx s2 kk
     have hm:=List.mem_of_getElem? hx;refine⟨_,rfl,_,rfl,_,rfl,l1,l2,_,_,_,rfl,⟨s2 _ _ e1,n1⟩,⟨s2 _ _ e2,n2⟩,(hth x hm).mono s2,kk _ _ (Same.refl _) ?_⟩;rw[ql (hth x hm) s2,List.getD_eq_getElem?_getD,hx];rfl
    ·intro l ys H2 nl s2 f2 hl hr
     have ey:ys=(xs.map (cy ((xs1.length:Int) - 1) ((xs2.length:Int) - 1) H)).map V.bl:=by
      refine List.ext_getElem? λi=>?_
      by_cases hi:i<xs.length
      ·have h1:ys[i]? = some ys[i]:=List.getElem?_eq_getElem (by omega)
       rw[h1,hr i _ h1,List.getElem?_map,List.getElem?_map,List.getElem?_eq_getElem hi,List.getD_eq_getElem?_getD,List.getElem?_eq_getElem hi];rfl
      ·rw[List.getElem?_eq_none (by omega),List.getElem?_eq_none (by simp;omega)]
     rw[ey]at f2;refine⟨l,_,rfl,SqL.of f2,?_⟩;have z:=q H2 s2;rw[List.all_map];exact z
  ·rw[hs]
   have z:=q H (Same.refl _);rw[hv]at z;exact jy z
theorem iW(f:Pr)(r:List Pr):atI (prs (f::r)) (-1)=some (.ref ((f::r).getLast (by simp)).p):=by
 have h:prs (f::r)=prs ((f::r).dropLast)++[V.ref ((f::r).getLast (by simp)).p]:=by
  unfold prs;rw[<- List.map_singleton (f:=λ(q:Pr)=>V.ref q.p),<- List.map_append,List.dropLast_concat_getLast]
 rw[h];exact vM _ _
theorem fc(a b n:Int):decide ([a,b] = [n,1])=isP a b n:=by
 unfold isP;rw[Bool.eq_iff_iff];simp
theorem dG{w:Str}:∀{ps:List Pr},cf w ps=true↔∀(j:Nat) u v,ps[j]? = some u->ps[j+1]? = some v->dJ w u v=true
 | []=>by simp[cf]
 | [u]=>by simp[cf]
 | u::v::r=>by
  unfold cf;rw[Bool.and_eq_true,dG (ps:=v::r)];constructor
  ·rintro⟨h1,h2⟩ j x y ex ey
   cases j with
   | zero=>cases ex;cases ey;exact h1
   | succ j=>exact h2 j x y (by simpa using ex) (by simpa using ey)
  ·intro h
   exact⟨h 0 u v rfl rfl,λj x y ex ey=>h (j+1) x y (by simpa using ex) (by simpa using ey)⟩
theorem AY:Ah ["one","other","walk","way","first","last"] ["one","other","walk","way"] (ag (top 81)):=smk
theorem eT(A8:Gp K mg "has_right_ends_walks" "has_right_ends" (top 81))(Aw:Fn P w K mg base "last_of" ["line"] 1 DF):Fn P w K mg base "has_right_ends_walks" ["one","other","walk","way"] 2 Gz:=by
 refine A8.fn AY (λ_ _ _ _ _ _ us hl=>by obtain⟨_,_,_,_,rfl⟩:=mO hl;rfl) (λvs H Q E h=>?_) (λf cdv A outer s H vs Q E hr h=>?_)
 ·obtain⟨l1,l2,l,xs1,xs2,f,r,w,rfl,_⟩:=h
  rfl
 ·obtain⟨l1,l2,l,xs1,xs2,f,r,w,rfl,e1,e2,P,q⟩:=h
  refine⟨_,(af (aq (i:=4) AY.nd rfl (Or.inl rfl) (aj aF (pv 2) ac (λ_ _=>rfl))) (af (aq (i:=5) AY.nd rfl (Or.inl rfl) (aj aF (pv 2) (iw e8 ac) (λ_ _=>rfl))) (af (aC (cb (ap (ja hr.units0) (aj am (pv 4) ac (λ_ _=>rfl)) (aA (aa ac (aa ac ae))) (ar _)) (bQ (ap (ja hr.units0) (aj am (pv 5) ac (λ_ _=>rfl)) (aA (aa (ao Aw (hr.mono (by decide)) (by rfl) (aa (pv 0) ae)) (aa ac ae))) (ar _)))).pt (ah (ak cV)) av) (af (aC (ap aQ (pv 3) aE (ar _)) (ah (ak cV)) av) (ah (ak (bO (aR (ic hr.units0) (aj am (pv 4) ac (λ_ _=>rfl)) (aA (aa ac (aa ac ae))) (ar _)) (bD (aR (ic hr.units0) (aj am (pv 5) ac (λ_ _=>rfl)) (aA (aa (ao Aw (hr.mono (by decide)) (by rfl) (aa (pv 1) ae)) (aa ac ae))) (ar _)))))))))),?_⟩;have hf:=P.pr f (by simp);have hl:=P.pr _ (List.getLast_mem (l:=f::r) (by simp));refine⟨_,rfl,l,_,_,_,rfl,rfl,SqL.of P.lst,se (V.ref f.p) (prs r),?_⟩;refine⟨_,rfl,_,rfl,l,_,_,_,rfl,rfl,SqL.of P.lst,iW f r,?_⟩;generalize (f::r).getLast (by simp)=z at *;unfold hV at q;refine⟨_,rfl,f.p,_,_,_,rfl,rfl,SqT.of hf.p_,rfl,sz (by simp),λt1 H1 s1 g1 _=>?_⟩;refine⟨f.x,t1,[f.a,f.b],[0,1],rfl,rfl,SqT.of (s1 _ _ hf.x_),SqT.of g1,_,rfl,?_⟩;show if (!decide ([f.a,f.b] = [0,1]))=true then _ else _
  rw[fc];refine ay (λc1=>?_) (λc1=>?_)
  ·have c1':isP f.a f.b 0=false:=by simpa using c1
   have y:=q H1 s1;rw[c1']at y;exact y
  have c1':isP f.a f.b 0=true:=by simpa using c1
  rw[c1',Bool.true_and]at q;have hl1:=hl.t s1.t;refine⟨_,rfl,z.p,_,_,_,rfl,rfl,SqT.of hl1.p_,rfl,_,rfl,l1,xs1,rfl,s1 _ _ e1,sz (by simp),λt2 H2 s2 g2 _=>?_⟩;refine⟨z.x,t2,[z.a,z.b],[(xs1.length:Int) - 1,1],rfl,rfl,SqT.of (s2 _ _ hl1.x_),SqT.of g2,_,rfl,?_⟩;show if (!decide ([z.a,z.b] = [(xs1.length:Int) - 1,1]))=true then _ else _
  rw[fc];refine ay (λc2=>?_) (λc2=>?_)
  ·have c2':isP z.a z.b ((xs1.length:Int) - 1)=false:=by simpa using c2
   have y:=q H2 (s1.trans s2);rw[c2']at y;exact y
  have c2':isP z.a z.b ((xs1.length:Int) - 1)=true:=by simpa using c2
  rw[c2']at q;refine⟨_,rfl,rfl,_,rfl,ay (λc3=>?_) (λc3=>?_)⟩
  ·have e:w=bz:=by
    have:V.str w=V.str bz:=bH c3;cases this;rfl
   have y:=q H2 (s1.trans s2);rw[if_pos rfl,if_pos e]at y;exact y
  ·have e:¬w=bz:=λz=>by
    subst z;exact absurd c3 (by decide)
   rw[if_pos rfl,if_neg e]at q;have hf2:=hf.t (s1.trans s2).t;have hl2:=hl1.t s2.t;refine⟨_,rfl,f.p,_,_,_,rfl,rfl,SqT.of hf2.p_,rfl,sz (by simp),λt3 H3 s3 g3 _=>?_⟩;refine⟨f.y,t3,[f.c,f.d],[0,1],rfl,rfl,SqT.of (s3 _ _ hf2.y_),SqT.of g3,_,rfl,?_⟩;show if (decide ([f.c,f.d] = [0,1]))=true then _ else _
   rw[fc];refine ay (λc4=>?_) (λc4=>?_)
   ·rw[c4,Bool.true_and]at q
    have hl3:=hl2.t s3.t;refine⟨_,rfl,z.p,_,_,_,rfl,rfl,SqT.of hl3.p_,rfl,_,rfl,l2,xs2,rfl,(s1.trans (s2.trans s3)) _ _ e2,sz (by simp),λt4 H4 s4 g4 _=>?_⟩;refine⟨z.y,t4,[z.c,z.d],[(xs2.length:Int) - 1,1],rfl,rfl,SqT.of (s4 _ _ hl3.y_),SqT.of g4,?_⟩;show Q (.bl (decide ([z.c,z.d] = [(xs2.length:Int) - 1,1]))) H4;rw[fc];exact q H4 (s1.trans (s2.trans (s3.trans s4)))
   ·have y:=q H3 (s1.trans (s2.trans s3))
    rw[c4]at y;exact y
theorem Hn:Ah ["begin","end"] ["begin","end"] (ag (top 83)):=smk
theorem qG(Hv:Df K mg "goes_on" (top 83))(AK:Fn P w K mg base "less" ["a","b"] 1 BP)(Ap:Fn P w K mg base "share_a_stretch" ["one","other"] 3 Do):Fn P w K mg base "goes_on" ["begin","end"] 4 (Eu λa b c d=>(!decide (c*b<a*d)) && aK a b c d):=by
 refine Hv.fn Hn (λ_ _ _ _ _ _ us hl=>by obtain⟨_,_,rfl⟩:=cj hl;rfl) (λvs H Q E h=>?_) (λf cdv A outer s H vs Q E hr h=>?_)
 ·obtain⟨p,q,a,b,c,d,rfl,_⟩:=h
  rfl
 ·obtain⟨p,q,a,b,c,d,rfl,ep,eq,sa,sc,k⟩:=h
  refine⟨_,(ah (ak (bO (i8 (ao AK (hr.mono (by decide)) (by rfl) (aa (pv 1) (aa (pv 0) ae)))) (bD (ao Ap (hr.mono (by decide)) (by rfl) (aa (pv 0) (aa (pv 1) ae))))))),?_⟩
  try dsimp only at k
  refine⟨_,rfl,_,rfl,q,p,c,d,a,b,rfl,eq,ep,⟨ai sc.ba (by decide),ai sc.bb (by decide),ai sa.ba (by decide),ai sa.bb (by decide)⟩,_,rfl,_,rfl,ay (λh1=>?_) (λh1=>?_)⟩
  ·refine⟨_,rfl,_,rfl,p,q,a,b,c,d,rfl,ep,eq,sa,sc,λH' s'=>?_⟩
   have y:=k H' s';rw[h1,Bool.true_and]at y;exact y
  ·have y:=k H (Same.refl _)
   rw[h1,Bool.false_and]at y;exact y
theorem EQ:Ah ["begin","end"] ["begin","end"] (ag (top 84)):=smk
theorem kK(EZ:Df K mg "goes_freely" (top 84))(Ap:Fn P w K mg base "share_a_stretch" ["one","other"] 3 Do):Fn P w K mg base "goes_freely" ["begin","end"] 4 (Eu aK):=by
 refine EZ.fn EQ (λ_ _ _ _ _ _ us hl=>by obtain⟨_,_,rfl⟩:=cj hl;rfl) (λvs H Q E h=>?_) (λf cdv A outer s H vs Q E hr h=>?_)
 ·obtain⟨p,q,a,b,c,d,rfl,_⟩:=h
  rfl
 ·obtain⟨p,q,a,b,c,d,rfl,ep,eq,sa,sc,k⟩:=h
  refine⟨_,(ah (ak (ao Ap (hr.mono (by decide)) (by rfl) (aa (pv 0) (aa (pv 1) ae))))),?_⟩;exact⟨_,rfl,_,rfl,p,q,a,b,c,d,rfl,ep,eq,sa,sc,k⟩
theorem IK:Ah ["begin","end"] ["begin","end"] (ag (top 85)):=smk
theorem wV(IP:Df K mg "hops" (top 85)):Fn P w K mg base "hops" ["begin","end"] 1 (Eu λa b c d=>decide (b=1) && (decide (d=1) && (decide (c - a=0) || decide (c - a=1)))):=by
 refine IP.fn IK (λ_ _ _ _ _ _ us hl=>by obtain⟨_,_,rfl⟩:=cj hl;rfl) (λvs H Q E h=>?_) (λf cdv A outer s H vs Q E hr h=>?_)
 ·obtain⟨p,q,a,b,c,d,rfl,_⟩:=h
  rfl
 ·obtain⟨p,q,a,b,c,d,rfl,ep,eq,sa,sc,k⟩:=h
  refine⟨_,(ah (ak (bO (aR aQ (aj am (pv 0) ac (λ_ _=>rfl)) ac (ar _)) (bO (aR aQ (aj am (pv 1) ac (λ_ _=>rfl)) ac (ar _)) (bD (aR sK (aw bE (aj am (pv 1) ac (λ_ _=>rfl)) (aj am (pv 0) ac (λ_ _=>rfl))) (aA (aa ac (aa ac ae))) (by rfl))))))),?_⟩
  try dsimp only at k
  have di:∀i j:Int,decide (V.int i=V.int j)=decide (i=j):=λi j=>by
   rw[Bool.eq_iff_iff];simp
  refine⟨_,rfl,p,_,_,_,rfl,rfl,SqT.of ep,rfl,rfl,_,rfl,?_⟩;rw[di];refine ay (λh1=>?_) (λh1=>?_)
  ·rw[h1,Bool.true_and]at k
   refine⟨_,rfl,q,_,_,_,rfl,rfl,SqT.of eq,rfl,rfl,_,rfl,?_⟩;rw[di];refine ay (λh2=>?_) (λh2=>?_)
   ·rw[h2,Bool.true_and]at k
    refine⟨_,rfl,q,_,_,_,rfl,rfl,SqT.of eq,rfl,_,rfl,p,_,_,_,rfl,rfl,SqT.of ep,rfl,_,_,rfl,rfl,sz (by simp),λt H1 s1 g1 _=>?_⟩;refine⟨t,_,rfl,.inr (SqT.of g1),rfl,rfl,?_⟩;have e:inV (.int (c - a)) [.int 0,.int 1]=(decide (c - a=0) || decide (c - a=1)):=by
     show((0:Int) == (c - a) || ((1:Int) == (c - a) || false))=_;rw[Bool.eq_iff_iff];simp only[Bool.or_eq_true,beq_iff_eq,decide_eq_true_eq,Bool.false_eq_true,or_false];omega
    show Q (.bl (inV (.int (c - a)) [.int 0,.int 1])) H1;rw[e];exact k H1 s1
   ·have y:=k H (Same.refl _)
    rw[h2,Bool.false_and]at y;exact y
  ·have y:=k H (Same.refl _)
   rw[h1,Bool.false_and]at y;exact y
theorem DK:Ah ["begin","end","way"] ["begin","end","way"] (ag (top 86)):=smk
theorem iO(BJ:Gp K mg "may_step_walks" "may_step" (top 86))(GL:Fn P w K mg base "hops" ["begin","end"] 1 (Eu λa b c d=>decide (b=1) && (decide (d=1) && (decide (c - a=0) || decide (c - a=1)))))(Cg:Fn P w K mg base "goes_freely" ["begin","end"] 4 (Eu aK))(DT:Fn P w K mg base "goes_on" ["begin","end"] 4 (Eu λa b c d=>(!decide (c*b<a*d)) && aK a b c d)):Fn P w K mg base "may_step_walks" ["begin","end","way"] 5 HK:=by
 refine BJ.fn DK (λ_ _ _ _ _ _ us hl=>by obtain⟨_,_,_,rfl⟩:=je hl;rfl) (λvs H Q E h=>?_) (λf cdv A outer s H vs Q E hr h=>?_)
 ·obtain⟨p,q,a,b,c,d,w,rfl,_⟩:=h
  rfl
 ·obtain⟨p,q,a,b,c,d,w,rfl,ep,eq,sa,sc,k⟩:=h
  refine⟨_,(af (aC (ap aQ (pv 2) aE (ar _)) (ah (ak (ao GL (hr.mono (by decide)) (by rfl) (aa (pv 0) (aa (pv 1) ae))))) av) (af (aC (ap aQ (pv 2) aE (ar _)) (ah (ak (ao Cg (hr.mono (by decide)) (by rfl) (aa (pv 0) (aa (pv 1) ae))))) av) (ah (ak (ao DT (hr.mono (by decide)) (by rfl) (aa (pv 0) (aa (pv 1) ae))))))),?_⟩;have ds:∀{u v:Str} {b:Bool},decide (V.str u=V.str v)=b->decide (u=v)=b:=λ{u v b} h=>by
   rw[<- h,Bool.eq_iff_iff];simp
  unfold goB at k;refine⟨_,rfl,rfl,_,rfl,ay (λh1=>?_) (λh1=>?_)⟩
  ·rw[if_pos (show w=aB from bH (ds h1))]at k
   exact⟨_,rfl,_,rfl,p,q,a,b,c,d,rfl,ep,eq,sa,sc,k⟩
  rw[if_neg (show ¬w=aB from dn (ds h1))]at k;refine⟨_,rfl,rfl,_,rfl,ay (λh2=>?_) (λh2=>?_)⟩
  ·rw[if_pos (show w=aM from bH (ds h2))]at k
   exact⟨_,rfl,_,rfl,p,q,a,b,c,d,rfl,ep,eq,sa,sc,k⟩
  rw[if_neg (show ¬w=aM from dn (ds h2))]at k;exact⟨_,rfl,_,rfl,p,q,a,b,c,d,rfl,ep,eq,sa,sc,k⟩
theorem AO:Ah ["walk","way","begin","end"] ["walk","way"] (ag (top 88)):=smk
theorem eG(AU:Gp K mg "has_right_steps_walks" "has_right_steps" (top 88))(Bo:Fn P w K mg base "may_step_walks" ["begin","end","way"] 5 HK)(T:Txt mg):Fn P w K mg base "has_right_steps_walks" ["walk","way"] 6 E6:=by
 refine AU.fn AO (λ_ _ _ _ _ _ us hl=>by obtain⟨_,_,rfl⟩:=cj hl;rfl) (λvs H Q E h=>?_) (λf cdv A outer s H vs Q E hr h=>?_)
 ·obtain⟨l,ps,w,rfl,_⟩:=h
  rfl
 ·obtain⟨l,ps,w,rfl,P,hlen,k⟩:=h
  refine⟨_,(af (fg PassesOwn.never rfl (qd rfl T.z_zip (aa (pv 0) (aa (dQ fU (pv 0) (fh ac) fj) ae))) (fY rfl (bG (aZ (i:=2) AO.nd rfl (Or.inl rfl)) (bG (aZ (i:=3) AO.nd rfl (Or.inl rfl)) eg))) (ah (aC (cb (bA (aO (ao Bo (hr.mono (by decide)) (by rfl) (aa (aj am (pv 2) ac (λ_ _=>rfl)) (aa (aj am (pv 3) ac (λ_ _=>rfl)) (aa (pv 1) ae)))))) (bQ (bA (aO (ao Bo (hr.mono (by decide)) (by rfl) (aa (aj am (pv 2) ac (λ_ _=>rfl)) (aa (aj am (pv 3) ac (λ_ _=>rfl)) (aa (pv 1) ae)))))))).pt (ah (ak cV)) av))) (ah (ak cV))),?_⟩;have ec:jp (prs ps) (some 1) none=prs (ps.drop 1):=by
   unfold jp prs;rw[show(1:Int)=((1:Nat):Int) from rfl,HT.sIx_nat,HT.sIx_none,List.length_map,<- List.map_drop]
   by_cases h:1<=ps.length
   ·rw[Nat.min_eq_left h,List.take_of_length_le (by rw[List.length_map,List.length_drop];exact Nat.le_refl _)]
   ·have e0:ps = []:=List.length_eq_zero_iff.mp (by omega)
    subst e0;rfl
  refine⟨_,rfl,_,rfl,_,rfl,l,_,rfl,SqL.of P.lst,λl2 H1 s1 f1 n1=>?_⟩;rw[ec]at f1;have P1:=P.mono s1;have lmin:min (prs ps).length (prs (ps.drop 1)).length=ps.length - 1:=by rw[a7,a7,List.length_drop];omega
  refine⟨l,l2,rfl,⟨_,SqL.of P1.lst⟩,⟨_,SqL.of f1⟩,rL (K:=K) (xs:=prs ps) (ys:=prs (ps.drop 1)) (λi σ H2=>∃z1 z2,σ = [some (.ref l),some (.str w),z1,z2]/\Same H1 H2/\∀(j:Nat) u v,j<i->ps[j]? = some u->ps[j+1]? = some v->dJ w u v=true)
   ⟨_,_,rfl,Same.refl _,λj u v h=>absurd h (by omega)⟩ (λi σ H2 _ ⟨_,_,_,s2,_⟩=>⟨SqL.of (s2 _ _ P1.lst),SqL.of (s2 _ _ f1)⟩) ?_ ?_⟩
  ·rintro i x y pp σ H2 H3 hx hy ⟨z1,z2,rfl,s2,hst⟩ s3 f3
   obtain⟨u,hu,rfl⟩:=dC hx;obtain⟨v,hv,rfl⟩:=dC hy;have hv':ps[i+1]? = some v:=by rw[List.getElem?_drop]at hv;rw[Nat.add_comm];exact hv
   have pu:=(P1.pr u (List.mem_of_getElem? hu)).t (s2.trans s3).t;have pv:=(P1.pr v (List.mem_of_getElem? hv')).t (s2.trans s3).t;have bad:dJ w u v=false->∀H',Same H3 H'->Q (.bl false) H':=λhb H' s'=>by
    have y:=k H' (s1.trans (s2.trans (s3.trans s')));have z:cf w ps=false:=by
     rw[Bool.eq_false_iff];intro z;rw[dG.mp z i u v hu hv']at hb;cases hb
    rw[z]at y;exact y
   refine⟨pp,_,rfl,SqT.of f3,rfl,_,_,rfl,_,_,rfl,rfl,?_⟩;refine⟨_,rfl,u.p,_,_,_,rfl,rfl,SqT.of pu.p_,rfl,_,rfl,v.p,_,_,_,rfl,rfl,SqT.of pv.p_,rfl,_,rfl,u.x,v.x,_,_,_,_,w,rfl,pu.x_,pv.x_,pu.sx,pv.sx,λH4 s4=>⟨_,rfl,ay (λh1=>?_) (λh1=>?_)⟩⟩
   ·have h1:goB w u.a u.b v.a v.b=false:=by simpa using h1
    exact bad (by unfold dJ;rw[h1,Bool.false_and]) H4 s4
   have h1:goB w u.a u.b v.a v.b=true:=by simpa using h1
   have pu4:=pu.t s4.t;have pv4:=pv.t s4.t;refine⟨_,rfl,u.p,_,_,_,rfl,rfl,SqT.of pu4.p_,rfl,_,rfl,v.p,_,_,_,rfl,rfl,SqT.of pv4.p_,rfl,_,rfl,u.y,v.y,_,_,_,_,w,rfl,pu4.y_,pv4.y_,pu4.sy,pv4.sy,λH5 s5=>⟨_,rfl,ay (λh2=>?_) (λh2=>?_)⟩⟩
   ·have h2:goB w u.c u.d v.c v.d=false:=by simpa using h2
    exact bad (by unfold dJ;rw[h2,Bool.and_false]) H5 (s4.trans s5)
   have h2:goB w u.c u.d v.c v.d=true:=by simpa using h2
   refine⟨_,_,rfl,s2.trans (s3.trans (s4.trans s5)),λj u' v' hj eu ev=>?_⟩
   by_cases hji:j<i
   ·exact hst j u' v' hji eu ev
   ·have:j=i:=by omega
    subst this;rw[hu]at eu;rw[hv']at ev;cases eu;cases ev;unfold dJ;rw[h1,h2];rfl
  ·rintro σ H2 ⟨z1,z2,rfl,s2,hst⟩
   have y:=k H2 (s1.trans s2);have z:cf w ps=true:=dG.mpr λj u v eu ev=>hst j u v (by
    have:=(List.getElem?_eq_some_iff.mp ev).1;rw[lmin];omega) eu ev
   rw[z]at y;exact y
theorem Hk:Ah ["one","other","thing","way"] ["one","other","thing","way"] (ag (top 90)):=smk
theorem qD{C:Addr}(DX:Hf K mg "is_walk" (top 90) [.str "on"])(Bb:Fx P w K mg base "look_at_way" ["way"] 1 [] (E4 C))(Bz:Fn P w K mg base "are_pairs" ["one","other","thing"] 5 El)(A7:Fn P w K mg base "has_right_ends_walks" ["one","other","walk","way"] 2 Gz)(AR:Fn P w K mg base "has_right_steps_walks" ["walk","way"] 6 E6):Fx P w K mg base "is_walk" ["one","other","thing","way"] 7 [.str "on"] (Es C):=by
 refine DX.fx Hk (λT kV doc pm an cdv ct us its oT n s hv hl ho hs=>?_) (λT kV doc pm an cdv ct us its oT n s hv hl ho hs=>?_) (λvs H Q E h=>?_) (λf cdv A outer s H vs Q E hr h=>?_)
 ·obtain⟨u,rfl,_⟩:=cE hv
  match us,hl with
  | [_,_,_,_],_=>exact BindsTo.of_defaults rfl ho hs rfl rfl
 ·obtain⟨u,rfl,_⟩:=cE hv
  have hl1:us.length=3:=by simpa using hl
  match us,hl1 with
  | [_,_,_],_=>exact BindsTo.of_defaults rfl ho hs rfl rfl
 ·obtain⟨l1,l2,xs1,xs2,v,x,t,rfl,_⟩:=h
  rfl
 ·obtain⟨l1,l2,xs1,xs2,v,x,t,rfl,⟨e1,n1⟩,⟨e2,n2⟩,pt,kn,h⟩:=h
  refine⟨_,(af (de (dj Bb (hr.mono (by decide)) (by rfl) (aa (pv 3) ae))) (af (aC (bA (aO (ao Bz (hr.mono (by decide)) (by rfl) (aa (pv 0) (aa (pv 1) (aa (pv 2) ae)))))) (ah (ak cV)) av) (ah (ak (bO (ao A7 (hr.mono (by decide)) (by rfl) (aa (pv 0) (aa (pv 1) (aa (pv 2) (aa (pv 3) ae))))) (bD (ao AR (hr.mono (by decide)) (by rfl) (aa (pv 2) (aa (pv 3) ae))))))))),?_⟩;rcases h with⟨w,rfl,hw,q⟩|⟨hn,hE⟩
  ·refine⟨_,rfl,_,_,rfl,kn,.inl ⟨w,rfl,hw,?_⟩⟩
   refine⟨_,rfl,_,rfl,_,rfl,l1,l2,xs1,xs2,v,rfl,⟨e1,n1⟩,⟨e2,n2⟩,pt,λH1 s1=>⟨_,rfl,ay (λh1=>?_) (λh1=>?_)⟩⟩
   ·exact q false H1 s1 (.inl ⟨by simpa using h1,rfl⟩)
   ·have h1:cW ((xs1.length:Int) - 1) ((xs2.length:Int) - 1) H v=true:=by simpa using h1
    obtain⟨l,ps,rfl,P,hne,hin,hlen⟩:=ke pt h1
    match ps,hne,P,hin,hlen with
    | f::r,_,P,hin,hlen =>
     refine⟨_,rfl,_,rfl,_,rfl,_,rfl,l1,l2,l,xs1,xs2,f,r,w,rfl,s1 _ _ e1,s1 _ _ e2,P.mono s1,λH2 s2=>⟨_,rfl,ay (λh2=>?_) (λh2=>?_)⟩⟩
     ·refine⟨_,rfl,_,rfl,l,f::r,w,rfl,(P.mono s1).mono s2,hlen,λH3 s3=>q _ H3 (s1.trans (s2.trans s3)) (.inr ⟨l,f::r,rfl,P,?_⟩)⟩
      rw[cL,hin,h2];rfl
     ·refine q _ H2 (s1.trans s2) (.inr ⟨l,f::r,rfl,P,?_⟩)
      rw[cL,hin,h2];rfl
  ·exact⟨_,rfl,_,_,rfl,kn,.inr ⟨hn,hE⟩⟩
theorem Ar:Ah ["one","other","fence","way","first","last","begins_on_top","ends_on_ground"] ["one","other","fence","way"] (ag (top 46)):=smk
theorem eI(AV:Gp K mg "has_right_ends_fences" "has_right_ends" (top 46))(Aw:Fn P w K mg base "last_of" ["line"] 1 DF):Fn P w K mg base "has_right_ends_fences" ["one","other","fence","way"] 2 Fl:=by
 refine AV.fn Ar (λ_ _ _ _ _ _ us hl=>by obtain⟨_,_,_,_,rfl⟩:=mO hl;rfl) (λvs H Q E h=>?_) (λf cdv A outer s H vs Q E hr h=>?_)
 ·obtain⟨l1,l2,l,xs1,xs2,f,r,wy,rfl,_⟩:=h
  rfl
 ·obtain⟨l1,l2,l,xs1,xs2,f,r,wy,rfl,e1,e2,P,q⟩:=h
  refine⟨_,(af (aq (i:=4) Ar.nd rfl (Or.inl rfl) (aj aF (pv 2) ac (λ_ _=>rfl))) (af (aq (i:=5) Ar.nd rfl (Or.inl rfl) (aj aF (pv 2) (iw e8 ac) (λ_ _=>rfl))) (af (aq (i:=6) Ar.nd rfl (Or.inl rfl) (aR (ic hr.units0) (aj am (pv 4) ac (λ_ _=>rfl)) (aA (aa (ao Aw (hr.mono (by decide)) (by rfl) (aa (pv 1) ae)) (aa ac ae))) (ar _))) (af (aq (i:=7) Ar.nd rfl (Or.inl rfl) (aR (ic hr.units0) (aj am (pv 5) ac (λ_ _=>rfl)) (aA (aa ac (aa ac ae))) (ar _))) (af (aC (ap aQ (pv 3) aE (ar _)) (ah (ak (bO (pv 6) (bD (pv 7))))) av) (ah (ak (bO (lL (pv 6) (bD (aR (ic hr.units0) (aj am (pv 4) ac (λ_ _=>rfl)) (aA (aa ac (aa ac ae))) (ar _)))) (bD (lL (pv 7) (bD (aR (ic hr.units0) (aj am (pv 5) ac (λ_ _=>rfl)) (aA (aa (ao Aw (hr.mono (by decide)) (by rfl) (aa (pv 0) ae)) (aa ac ae))) (ar _))))))))))))),?_⟩;have hf:=P.pr f (by simp);have hl:=P.pr _ (List.getLast_mem (l:=f::r) (by simp));refine⟨_,rfl,l,_,_,_,rfl,rfl,SqL.of P.lst,se (V.ref f.p) (prs r),?_⟩;refine⟨_,rfl,_,rfl,l,_,_,_,rfl,rfl,SqL.of P.lst,iW f r,?_⟩;generalize (f::r).getLast (by simp)=z at *;refine⟨_,rfl,f.p,_,_,_,rfl,rfl,SqT.of hf.p_,rfl,_,rfl,l2,xs2,rfl,e2,sz (by simp),λt1 H1 s1 g1 _=>?_⟩;refine⟨f.y,t1,[f.c,f.d],[(xs2.length:Int) - 1,1],rfl,rfl,SqT.of (s1 _ _ hf.y_),SqT.of g1,?_⟩;have hl1:=hl.t s1.t;refine⟨_,rfl,z.p,_,_,_,rfl,rfl,SqT.of hl1.p_,rfl,sz (by simp),λt2 H2 s2 g2 _=>?_⟩;refine⟨z.y,t2,[z.c,z.d],[0,1],rfl,rfl,SqT.of (s2 _ _ hl1.y_),SqT.of g2,?_⟩;have S2:=s1.trans s2;have hf2:=hf.t S2.t;have hl2:=hl.t S2.t;have ef:(if false=true then !decide ([f.c,f.d] = [(xs2.length:Int) - 1,1]) else decide ([f.c,f.d] = [(xs2.length:Int) - 1,1]))=isP f.c f.d ((xs2.length:Int) - 1):=by rw[if_neg (by decide),fc]
  have ez:(if false=true then !decide ([z.c,z.d] = [(0:Int),1]) else decide ([z.c,z.d] = [(0:Int),1]))=isP z.c z.d 0:=by rw[if_neg (by decide),fc]
  unfold dY at q;refine⟨_,rfl,rfl,_,rfl,ay (λc3=>?_) (λc3=>?_)⟩
  ·rw[if_pos (show wy=bz from bH (ds c3))]at q
   refine⟨_,rfl,_,rfl,ay (λc4=>?_) (λc4=>?_)⟩
   ·rw[ef]at c4
    rw[c4,Bool.true_and,<- ez]at q;exact⟨_,rfl,q H2 S2⟩
   ·have y:=q H2 S2
    rw[ef]at c4;rw[c4,Bool.false_and]at y;exact y
  rw[if_neg (show ¬wy=bz from dn (ds c3))]at q;refine⟨_,rfl,_,rfl,ay (λc4=>?_) (λc4=>?_)⟩
  ·rw[ef]at c4
   have E1:(isP f.c f.d ((xs2.length:Int) - 1) || isP f.a f.b 0)=true:=by rw[c4,Bool.true_or]
   refine⟨_,rfl,jy ?_⟩;refine⟨_,rfl,_,rfl,ay (λc5=>?_) (λc5=>?_)⟩
   ·rw[ez]at c5
    have y:=q H2 S2;rw[E1,c5]at y;exact y
   ·rw[ez]at c5
    refine⟨_,rfl,z.p,_,_,_,rfl,rfl,SqT.of (hl.t S2.t).p_,rfl,_,rfl,l1,xs1,rfl,S2 _ _ e1,sz (by simp),λt5 H5 s5 g5 _=>?_⟩;refine⟨z.x,t5,[z.a,z.b],[(xs1.length:Int) - 1,1],rfl,rfl,SqT.of (s5 _ _ (hl.t S2.t).x_),SqT.of g5,?_⟩;have y:=q H5 (S2.trans s5);rw[E1,c5,Bool.true_and,Bool.false_or,<- fc]at y;exact y
  ·rw[ef]at c4
   refine⟨_,rfl,f.p,_,_,_,rfl,rfl,SqT.of hf2.p_,rfl,sz (by simp),λt3 H3 s3 g3 _=>?_⟩;refine⟨f.x,t3,[f.a,f.b],[0,1],rfl,rfl,SqT.of (s3 _ _ hf2.x_),SqT.of g3,_,rfl,?_⟩;show if (decide ([f.a,f.b] = [(0:Int),1]))=true then _ else _
   rw[fc];have S3:=S2.trans s3;refine ay (λc6=>?_) (λc6=>?_)
   ·have E1:(isP f.c f.d ((xs2.length:Int) - 1) || isP f.a f.b 0)=true:=by rw[c6,Bool.or_true]
    refine⟨_,rfl,_,rfl,ay (λc5=>?_) (λc5=>?_)⟩
    ·rw[ez]at c5
     have y:=q H3 S3;rw[E1,c5]at y;exact y
    ·rw[ez]at c5
     refine⟨_,rfl,z.p,_,_,_,rfl,rfl,SqT.of (hl.t S3.t).p_,rfl,_,rfl,l1,xs1,rfl,S3 _ _ e1,sz (by simp),λt5 H5 s5 g5 _=>?_⟩;refine⟨z.x,t5,[z.a,z.b],[(xs1.length:Int) - 1,1],rfl,rfl,SqT.of (s5 _ _ (hl.t S3.t).x_),SqT.of g5,?_⟩;have y:=q H5 (S3.trans s5);rw[E1,c5,Bool.true_and,Bool.false_or,<- fc]at y;exact y
   ·have y:=q H3 S3
    rw[c4,c6]at y;exact y
theorem Fs:Ah ["begin","end"] ["begin","end"] (ag (top 48)):=smk
theorem kZ(Fz:Df K mg "steps_back" (top 48))(AK:Fn P w K mg base "less" ["a","b"] 1 BP):Fn P w K mg base "steps_back" ["begin","end"] 2 (DZ eC):=by
 refine Fz.fn Fs (λ_ _ _ _ _ _ us hl=>by obtain⟨_,_,rfl⟩:=cj hl;rfl) (λvs H Q E h=>?_) (λf cdv A outer s H vs Q E hr h=>?_)
 ·obtain⟨u,v,rfl,_⟩:=h
  rfl
 ·obtain⟨u,v,rfl,pu,qv,q⟩:=h
  refine⟨_,(ah (ak (bO (i8 (ao AK (hr.mono (by decide)) (by rfl) (aa (aj am (pv 0) ac (λ_ _=>rfl)) (aa (aj am (pv 1) ac (λ_ _=>rfl)) ae)))) (bD (i8 (ao AK (hr.mono (by decide)) (by rfl) (aa (aj am (pv 1) ac (λ_ _=>rfl)) (aa (aj am (pv 0) ac (λ_ _=>rfl)) ae)))))))),?_⟩;unfold eC ltB at q;have b:=uK pu qv;refine⟨_,rfl,u.p,_,_,_,rfl,rfl,SqT.of pu.p_,rfl,_,rfl,v.p,_,_,_,rfl,rfl,SqT.of qv.p_,rfl,u.x,v.x,_,_,_,_,rfl,pu.x_,qv.x_,b.1,_,rfl,_,rfl,ay (λh1=>?_) (λh1=>?_)⟩
  ·have y:=q H (Same.refl _)
   rw[h1,Bool.true_and]at y;exact⟨_,rfl,v.p,_,_,_,rfl,rfl,SqT.of qv.p_,rfl,_,rfl,u.p,_,_,_,rfl,rfl,SqT.of pu.p_,rfl,v.y,u.y,_,_,_,_,rfl,qv.y_,pu.y_,b.2,_,rfl,y⟩
  ·have y:=q H (Same.refl _)
   rw[h1,Bool.false_and]at y;exact y
theorem CS:Ah ["begin","end","number","kept"] ["begin","end","number"] (ag (top 49)):=smk
theorem jD(EL:Df K mg "keeps_corner" (top 49))(Ap:Fn P w K mg base "share_a_stretch" ["one","other"] 3 Do):Fn P w K mg base "keeps_corner" ["begin","end","number"] 4 Fk:=by
 refine EL.fn CS (λ_ _ _ _ _ _ us hl=>by obtain⟨_,_,_,rfl⟩:=je hl;rfl) (λvs H Q E h=>?_) (λf cdv A outer s H vs Q E hr h=>?_)
 ·obtain⟨u,v,n,rfl,_⟩:=h
  rfl
 ·obtain⟨u,v,n,rfl,hn,pu,qv,q⟩:=h
  refine⟨_,(af (aq (i:=3) CS.nd rfl (Or.inl rfl) (aj am (pv 0) (pv 2) (λ_ _=>rfl))) (ah (ak (bO (aR (ic hr.units0) (pv 3) (aj am (pv 1) (pv 2) (λ_ _=>rfl)) (ar _)) (bO (aR aQ (aj am (pv 3) ac (λ_ _=>rfl)) ac (ar _)) (bD (ao Ap (hr.mono (by decide)) (by rfl) (aa (aj am (pv 0) (aw bE ac (pv 2)) (λ_ _=>rfl)) (aa (aj am (pv 1) (aw bE ac (pv 2)) (λ_ _=>rfl)) ae))))))))),?_⟩;rcases hn with rfl|rfl
  ·unfold oN at q
   rw[if_pos rfl]at q;refine⟨_,rfl,_,rfl,u.p,_,_,_,rfl,rfl,SqT.of pu.p_,rfl,?_⟩;unfold hJ at q;refine⟨_,rfl,_,rfl,_,rfl,v.p,_,_,_,rfl,rfl,SqT.of qv.p_,rfl,u.x,v.x,[u.a,u.b],[v.a,v.b],rfl,rfl,SqT.of pu.x_,SqT.of qv.x_,_,rfl,?_⟩;rw[if_neg (show ¬(false=true) by decide)];refine ay (λh1=>?_) (λh1=>?_)
   ·rw[h1,Bool.true_and]at q
    refine⟨_,rfl,u.x,_,_,_,rfl,rfl,SqT.of pu.x_,rfl,rfl,_,rfl,?_⟩;rw[di];refine ay (λh2=>?_) (λh2=>?_)
    ·rw[h2,Bool.true_and]at q
     exact⟨_,rfl,_,rfl,_,_,rfl,rfl,u.p,_,_,_,rfl,rfl,SqT.of pu.p_,rfl,_,rfl,_,rfl,_,_,rfl,rfl,v.p,_,_,_,rfl,rfl,SqT.of qv.p_,rfl,u.y,v.y,_,_,_,_,rfl,pu.y_,qv.y_,pu.sy,qv.sy,q⟩
    ·have y:=q H (Same.refl _)
     rw[h2,Bool.false_and]at y;exact y
   ·have y:=q H (Same.refl _)
    rw[h1,Bool.false_and]at y;exact y
  ·unfold oN at q
   rw[if_neg (show ¬(1:Int)=0 by decide)]at q;refine⟨_,rfl,_,rfl,u.p,_,_,_,rfl,rfl,SqT.of pu.p_,rfl,?_⟩;unfold jt at q;refine⟨_,rfl,_,rfl,_,rfl,v.p,_,_,_,rfl,rfl,SqT.of qv.p_,rfl,u.y,v.y,[u.c,u.d],[v.c,v.d],rfl,rfl,SqT.of pu.y_,SqT.of qv.y_,_,rfl,?_⟩;rw[if_neg (show ¬(false=true) by decide)];refine ay (λh1=>?_) (λh1=>?_)
   ·rw[h1,Bool.true_and]at q
    refine⟨_,rfl,u.y,_,_,_,rfl,rfl,SqT.of pu.y_,rfl,rfl,_,rfl,?_⟩;rw[di];refine ay (λh2=>?_) (λh2=>?_)
    ·rw[h2,Bool.true_and]at q
     exact⟨_,rfl,_,rfl,_,_,rfl,rfl,u.p,_,_,_,rfl,rfl,SqT.of pu.p_,rfl,_,rfl,_,rfl,_,_,rfl,rfl,v.p,_,_,_,rfl,rfl,SqT.of qv.p_,rfl,u.x,v.x,_,_,_,_,rfl,pu.x_,qv.x_,pu.sx,qv.sx,q⟩
    ·have y:=q H (Same.refl _)
     rw[h2,Bool.false_and]at y;exact y
   ·have y:=q H (Same.refl _)
    rw[h1,Bool.false_and]at y;exact y
theorem HU:Ah ["begin","end"] ["begin","end"] (ag (top 50)):=smk
theorem tm(HX:Df K mg "slides" (top 50))(AE:Fn P w K mg base "keeps_corner" ["begin","end","number"] 4 Fk):Fn P w K mg base "slides" ["begin","end"] 5 (DZ cR):=by
 refine HX.fn HU (λ_ _ _ _ _ _ us hl=>by obtain⟨_,_,rfl⟩:=cj hl;rfl) (λvs H Q E h=>?_) (λf cdv A outer s H vs Q E hr h=>?_)
 ·obtain⟨u,v,rfl,_⟩:=h
  rfl
 ·obtain⟨u,v,rfl,pu,qv,q⟩:=h
  refine⟨_,(ah (ak (lL (ao AE (hr.mono (by decide)) (by rfl) (aa (pv 0) (aa (pv 1) (aa ac ae)))) (bD (ao AE (hr.mono (by decide)) (by rfl) (aa (pv 0) (aa (pv 1) (aa ac ae)))))))),?_⟩;unfold cR at q;refine⟨_,rfl,_,rfl,u,v,0,rfl,.inl rfl,pu,qv,λH1 s1=>⟨_,rfl,?_⟩⟩;rw[show oN 0 u v=hJ u v from rfl];refine ay (λh1=>?_) (λh1=>?_)
  ·have y:=q H1 s1
   rw[h1,Bool.true_or]at y;exact y
  ·rw[h1,Bool.false_or]at q
   exact⟨_,rfl,_,rfl,u,v,1,rfl,.inr rfl,pu.t s1.t,qv.t s1.t,λH2 s2=>q H2 (s1.trans s2)⟩
theorem De:Ah ["pair"] ["pair"] (ag (top 51)):=smk
theorem gX(Dl:Df K mg "has_whole_places" (top 51)):Fn P w K mg base "has_whole_places" ["pair"] 1 HD:=by
 refine Dl.fn De (λ_ _ _ _ _ _ us hl=>by obtain⟨_,rfl⟩:=dk hl;rfl) (λvs H Q E h=>?_) (λf cdv A outer s H vs Q E hr h=>?_)
 ·obtain⟨u,rfl,_⟩:=h
  rfl
 ·obtain⟨u,rfl,pu,q⟩:=h
  refine⟨_,(ah (ak (bO (aR aQ (aj am (aj am (pv 0) ac (λ_ _=>rfl)) ac (λ_ _=>rfl)) ac (ar _)) (bD (aR aQ (aj am (aj am (pv 0) ac (λ_ _=>rfl)) ac (λ_ _=>rfl)) ac (ar _)))))),?_⟩;unfold bq at q;refine⟨_,rfl,u.p,_,_,_,rfl,rfl,SqT.of pu.p_,rfl,u.x,_,_,_,rfl,rfl,SqT.of pu.x_,rfl,rfl,_,rfl,?_⟩;rw[di];refine ay (λh1=>?_) (λh1=>?_)
  ·rw[h1,Bool.true_and,<- di]at q
   exact⟨_,rfl,u.p,_,_,_,rfl,rfl,SqT.of pu.p_,rfl,u.y,_,_,_,rfl,rfl,SqT.of pu.y_,rfl,rfl,q⟩
  ·rw[h1,Bool.false_and]at q
   exact q
theorem Cu:Ah ["begin","end","rise","fall"] ["begin","end"] (ag (top 52)):=smk
theorem lj(FJ:Df K mg "hops_aside" (top 52)):Fn P w K mg base "hops_aside" ["begin","end"] 1 (DZ eJ):=by
 refine FJ.fn Cu (λ_ _ _ _ _ _ us hl=>by obtain⟨_,_,rfl⟩:=cj hl;rfl) (λvs H Q E h=>?_) (λf cdv A outer s H vs Q E hr h=>?_)
 ·obtain⟨u,v,rfl,_⟩:=h
  rfl
 ·obtain⟨u,v,rfl,pu,qv,q⟩:=h
  refine⟨_,(af (aq (i:=2) Cu.nd rfl (Or.inl rfl) (aw bE (aj am (aj am (pv 1) ac (λ_ _=>rfl)) ac (λ_ _=>rfl)) (aj am (aj am (pv 0) ac (λ_ _=>rfl)) ac (λ_ _=>rfl)))) (af (aq (i:=3) Cu.nd rfl (Or.inl rfl) (aw bE (aj am (aj am (pv 0) ac (λ_ _=>rfl)) ac (λ_ _=>rfl)) (aj am (aj am (pv 1) ac (λ_ _=>rfl)) ac (λ_ _=>rfl)))) (ah (ak (lL (bO (aR eh (pv 2) ac (ar _)) (bD (aR eh (pv 3) ac (ar _)))) (bD (bO (aR eh (pv 2) ac (ar _)) (bD (aR eh (pv 3) ac (ar _)))))))))),?_⟩;have q:=q H (Same.refl _);unfold eJ at q;have P1:=SqT.of (K:=K) pu.p_;have P2:=SqT.of (K:=K) qv.p_;refine⟨_,rfl,v.p,_,_,_,rfl,rfl,P2,rfl,v.x,_,_,_,rfl,rfl,SqT.of qv.x_,rfl,_,rfl,u.p,_,_,_,rfl,rfl,P1,rfl,u.x,_,_,_,rfl,rfl,SqT.of pu.x_,rfl,_,_,rfl,rfl,?_⟩;refine⟨_,rfl,u.p,_,_,_,rfl,rfl,P1,rfl,u.y,_,_,_,rfl,rfl,SqT.of pu.y_,rfl,_,rfl,v.p,_,_,_,rfl,rfl,P2,rfl,v.y,_,_,_,rfl,rfl,SqT.of qv.y_,rfl,_,_,rfl,rfl,?_⟩;have tl:(decide (v.a - u.a<=0) && decide (u.c - v.c<=1))=false->Q (.bl (decide (v.a - u.a<=1) && decide (u.c - v.c<=0))) H:=λe=>by rw[e,Bool.false_or]at q;exact q
  refine⟨_,rfl,_,_,rfl,rfl,_,rfl,ay (λh1=>?_) (λh1=>?_)⟩
  ·refine⟨_,rfl,_,_,rfl,rfl,_,rfl,ay (λh2=>?_) (λh2=>?_)⟩
   ·rw[h1,h2]at q
    exact q
   ·have t:=tl (by rw[h1,h2];rfl)
    refine⟨_,rfl,_,_,rfl,rfl,_,rfl,ay (λh3=>?_) (λh3=>?_)⟩
    ·rw[h3,Bool.true_and]at t
     exact⟨_,rfl,_,_,rfl,rfl,t⟩
    ·rw[h3,Bool.false_and]at t
     exact t
  ·have t:=tl (by rw[h1];rfl)
   refine⟨_,rfl,km ?_⟩;refine⟨_,rfl,_,_,rfl,rfl,_,rfl,ay (λh3=>?_) (λh3=>?_)⟩
   ·rw[h3,Bool.true_and]at t
    exact⟨_,rfl,_,_,rfl,rfl,t⟩
   ·rw[h3,Bool.false_and]at t
    exact t
theorem Dv:Ah ["begin","end","way"] ["begin","end","way"] (ag (top 53)):=smk
theorem ij(BE:Gp K mg "may_step_fences" "may_step" (top 53))(CI:Fn P w K mg base "hops_aside" ["begin","end"] 1 (DZ eJ))(Dx:Fn P w K mg base "slides" ["begin","end"] 5 (DZ cR))(Bn:Fn P w K mg base "steps_back" ["begin","end"] 2 (DZ eC)):Fn P w K mg base "may_step_fences" ["begin","end","way"] 6 Gw:=by
 refine BE.fn Dv (λ_ _ _ _ _ _ us hl=>by obtain⟨_,_,_,rfl⟩:=je hl;rfl) (λvs H Q E h=>?_) (λf cdv A outer s H vs Q E hr h=>?_)
 ·obtain⟨u,v,wy,rfl,_⟩:=h
  rfl
 ·obtain⟨u,v,wy,rfl,pu,qv,k⟩:=h
  refine⟨_,(af (aC (ap aQ (pv 2) aE (ar _)) (ah (ak (ao CI (hr.mono (by decide)) (by rfl) (aa (pv 0) (aa (pv 1) ae))))) av) (af (aC (ap aQ (pv 2) aE (ar _)) (ah (ak (ao Dx (hr.mono (by decide)) (by rfl) (aa (pv 0) (aa (pv 1) ae))))) av) (ah (ak (lL (ao Bn (hr.mono (by decide)) (by rfl) (aa (pv 0) (aa (pv 1) ae))) (bD (ao Dx (hr.mono (by decide)) (by rfl) (aa (pv 0) (aa (pv 1) ae))))))))),?_⟩;unfold cT at k;refine⟨_,rfl,rfl,_,rfl,ay (λh1=>?_) (λh1=>?_)⟩
  ·rw[if_pos (show wy=aB from bH (ds h1))]at k
   exact⟨_,rfl,_,rfl,u,v,rfl,pu,qv,k⟩
  rw[if_neg (show ¬wy=aB from dn (ds h1))]at k;refine⟨_,rfl,rfl,_,rfl,ay (λh2=>?_) (λh2=>?_)⟩
  ·rw[if_pos (show wy=aM from bH (ds h2))]at k
   exact⟨_,rfl,_,rfl,u,v,rfl,pu,qv,k⟩
  rw[if_neg (show ¬wy=aM from dn (ds h2))]at k;refine⟨_,rfl,_,rfl,u,v,rfl,pu,qv,λH1 s1=>⟨_,rfl,ay (λh3=>?_) (λh3=>?_)⟩⟩
  ·have y:=k H1 s1
   rw[h3,Bool.true_or]at y;exact y
  ·rw[h3,Bool.false_or]at k
   exact⟨_,rfl,_,rfl,u,v,rfl,pu.t s1.t,qv.t s1.t,λH2 s2=>k H2 (s1.trans s2)⟩
noncomputable def wk(s:Stmt):Expr:=match s with
 | .If (.BoolOp _ [_,.UnaryOp _ e _] _) _ _ _=>e
 | _=>.Name "" ⟨0,0,0,0⟩
noncomputable def pr0:Pr:=⟨0,0,0,0,0,0,0⟩
noncomputable def uI(wy:Str)(ps:List Pr):List Bool:=(List.range (ps.length - 1)).map λi=>cT wy (ps.getD i pr0) (ps.getD (i+1) pr0)
theorem uH(wy:Str)(ps:List Pr):(uI wy ps).all id=aV wy ps:=by
 rw[Bool.eq_iff_iff,List.all_eq_true,dX];unfold uI;constructor
 ·intro h j u v eu ev
  have hj:=(List.getElem?_eq_some_iff.mp ev).1;have z:=h _ (List.mem_map.mpr ⟨j,List.mem_range.mpr (by omega),rfl⟩);rw[List.getD_eq_getElem?_getD,List.getD_eq_getElem?_getD,eu,ev]at z;exact z
 ·intro h x hx
  obtain⟨j,hj,rfl⟩:=List.mem_map.mp hx;have hj:=List.mem_range.mp hj;have eu:ps[j]? = some ps[j]:=List.getElem?_eq_getElem (by omega);have ev:ps[j+1]? = some ps[j+1]:=List.getElem?_eq_getElem (by omega);rw[List.getD_eq_getElem?_getD,List.getD_eq_getElem?_getD,eu,ev];exact h j _ _ eu ev
theorem rV(ps:List Pr):jp (prs ps) (some 1) none=prs (ps.drop 1):=by
 unfold jp prs;rw[show(1:Int)=((1:Nat):Int) from rfl,HT.sIx_nat,HT.sIx_none,List.length_map,<- List.map_drop]
 by_cases h:1<=ps.length
 ·rw[Nat.min_eq_left h,List.take_of_length_le (by rw[List.length_map,List.length_drop];exact Nat.le_refl _)]
 ·have e0:ps = []:=List.length_eq_zero_iff.mp (by omega)
  subst e0;rfl
theorem Ca:Ah ["fence","way"] ["fence","way"] (ag (top 55)):=smk
theorem d9(AM:Gp K mg "has_right_steps_fences" "has_right_steps" (top 55))(BB:Fn P w K mg base "may_step_fences" ["begin","end","way"] 6 Gw)(T:Txt mg):Fn P w K mg base "has_right_steps_fences" ["fence","way"] 7 Ew:=by
 refine AM.fn Ca (λ_ _ _ _ _ _ us hl=>by obtain⟨_,_,rfl⟩:=cj hl;rfl) (λvs H Q E h=>?_) (λf cdv A outer s H vs Q E hr h=>?_)
 ·obtain⟨l,ps,wy,rfl,_⟩:=h
  rfl
 ·obtain⟨l,ps,wy,rfl,PP,hlen,k⟩:=h
  have CM2:Go (aG CX0 P w K mg base ["fence","way"] "has_right_steps" (ag (top 55)) f cdv A outer s H E).nox (Sp7.retScope ((ax (top 55)).getD 0 (.Pass ⟨0,0,0,0⟩))) [("way",s.heap.objs.size+1)] ["begin","end"] [("way",1)] :=
   ⟨by rfl,rfl,by decide +kernel,by decide +kernel,(λx hx=>by simp only[List.mem_cons,List.not_mem_nil,or_false]at hx;rcases hx with rfl|rfl <;> rfl),(λp hp=>by simp only[List.mem_cons,List.not_mem_nil,or_false]at hp;subst hp;rfl),by rfl,by decide +kernel,(λp hp=>by simp only[List.mem_cons,List.not_mem_nil,or_false]at hp;subst hp;exact⟨rfl,rfl,.inr (.inl rfl),rfl,rfl⟩),⟨rfl,rfl⟩,rfl⟩
  refine⟨_,(ah (ak (az (gw rfl) (by rfl) T.z_all kP (aa (uk rfl CM2 (qd rfl T.z_zip (aa (pv 0) (aa (dQ fU (pv 0) (fh ac) fj) ae))) (λfp s₀ H₀=>(v0 (K:=K) (n:=2) rfl rfl (bG (aZ (i:=0) CM2.nd rfl (Or.inl rfl) (Or.inr rfl)) (bG (aZ (i:=1) CM2.nd rfl (Or.inl rfl) (Or.inr rfl)) eg)))) (λfp s₀ H₀=>vX) (λfp s₀ H₀=>(ao BB (hr.mono (by decide)) (by rfl) (aa (pv 0) (aa (pv 1) (aa (pv 2) ae)))))) ae)))),?_⟩;refine⟨_,rfl,_,rfl,_,rfl,l,_,rfl,SqL.of PP.lst,λl2 H1 s1 f1 n1=>?_⟩;rw[rV]at f1;have P1:=PP.mono s1;have lmin:min (prs ps).length (prs (ps.drop 1)).length=ps.length - 1:=by rw[a7,a7,List.length_drop];omega
  refine⟨l,l2,rfl,⟨_,SqL.of P1.lst⟩,⟨_,SqL.of f1⟩,tu (K:=K) (k:=2) (SqL.of P1.lst) (SqL.of f1) (by rw[lmin];omega) (λi v _=>v = .bl (cT wy (ps.getD i pr0) (ps.getD (i+1) pr0))) (λ_ _ _ _ _ h=>h) ?_ ?_⟩
  ·intro i x y p H2 τ Kc hx hy s2 ep hτ kk
   obtain⟨τ0,τ1,rfl⟩:∃τ0 τ1,τ = [τ0,τ1]:=by
    match τ,hτ with
    | [a,b],_=>exact⟨a,b,rfl⟩
   obtain⟨u,hu,rfl⟩:=dC hx;obtain⟨v,hv,rfl⟩:=dC hy;have hv':ps[i+1]? = some v:=by rw[List.getElem?_drop]at hv;rw[Nat.add_comm];exact hv
   have qu:=(P1.pr u (List.mem_of_getElem? hu)).t s2.t;have qv:=(P1.pr v (List.mem_of_getElem? hv')).t s2.t;refine⟨p,_,rfl,SqT.of ep,rfl,_,_,rfl,_,_,rfl,rfl,⟨[some (.ref u.p),some (.ref v.p)],rfl,rfl⟩,?_⟩;refine⟨_,rfl,_,rfl,_,rfl,u,v,wy,rfl,qu,qv,λH4 s4=>kk _ H4 s4 ?_⟩;rw[List.getD_eq_getElem?_getD,List.getD_eq_getElem?_getD,hu,hv'];rfl
  ·intro l3 zs H2 nl s2 f2 hl hr
   have ey:zs=(uI wy ps).map V.bl:=by
    rw[lmin]at hl;refine List.ext_getElem? λi=>?_;unfold uI
    by_cases hi:i<ps.length - 1
    ·have h1:zs[i]? = some zs[i]:=List.getElem?_eq_getElem (by omega)
     rw[h1,hr i _ h1,List.getElem?_map,List.getElem?_map,List.getElem?_range hi];rfl
    ·rw[List.getElem?_eq_none (by omega),List.getElem?_eq_none (by simp;omega)]
   rw[ey]at f2;refine⟨l3,uI wy ps,rfl,SqL.of f2,?_⟩;rw[uH];exact k H2 (s1.trans s2)
theorem GH:Ah ["one","other","thing","way"] ["one","other","thing","way"] (ag (top 57)):=smk
theorem o8{C:Addr}(Dk:Hf K mg "is_fence" (top 57) [.str "on"])(Bb:Fx P w K mg base "look_at_way" ["way"] 1 [] (E4 C))(Bz:Fn P w K mg base "are_pairs" ["one","other","thing"] 5 El)(Bt:Fn P w K mg base "has_whole_places" ["pair"] 1 HD)(AS:Fn P w K mg base "has_right_ends_fences" ["one","other","fence","way"] 2 Fl)(AL:Fn P w K mg base "has_right_steps_fences" ["fence","way"] 7 Ew)(T:Txt mg):Fx P w K mg base "is_fence" ["one","other","thing","way"] 8 [.str "on"] (DI C):=by
 refine Dk.fx GH (λT kV doc pm an cdv ct us its oT n s hv hl ho hs=>?_) (λT kV doc pm an cdv ct us its oT n s hv hl ho hs=>?_) (λvs H Q E h=>?_) (λf cdv A outer s H vs Q E hr h=>?_)
 ·obtain⟨u,rfl,_⟩:=cE hv
  match us,hl with
  | [_,_,_,_],_=>exact BindsTo.of_defaults rfl ho hs rfl rfl
 ·obtain⟨u,rfl,_⟩:=cE hv
  have hl1:us.length=3:=by simpa using hl
  match us,hl1 with
  | [_,_,_],_=>exact BindsTo.of_defaults rfl ho hs rfl rfl
 ·obtain⟨l1,l2,xs1,xs2,v,x,t,rfl,_⟩:=h
  rfl
 ·obtain⟨l1,l2,xs1,xs2,v,x,t,rfl,⟨e1,n1⟩,⟨e2,n2⟩,pt,kn,h⟩:=h
  have CN:Bd (aG (CXE P w) P w K mg base ["one","other","thing","way"] "is_fence" (ag (top 57)) f cdv A outer s H E) (Dr.compScope (wk ((ax (top 57)).getD 2 (.Pass ⟨0,0,0,0⟩)))) [] "pair" [] :=
   ⟨by rfl,rfl,by decide +kernel,by decide +kernel,rfl,(λp hp=>nomatch hp),by rfl,by decide +kernel,(λp hp=>nomatch hp),⟨rfl,rfl⟩,rfl⟩
  refine⟨_,(af (de (dj Bb (hr.mono (by decide)) (by rfl) (aa (pv 3) ae))) (af (aC (bA (aO (ao Bz (hr.mono (by decide)) (by rfl) (aa (pv 0) (aa (pv 1) (aa (pv 2) ae)))))) (ah (ak cV)) av) (af (aC (bK (ap aQ (pv 3) aE (ar _)) (bV (bA (aO (az (gw rfl) (by rfl) T.z_all kP (aa (dR rfl CN (cw (pv 2)) (λfp s₀ H₀=>(ao Bt (hr.mono (by decide)) (by rfl) (aa (pv 0) ae)))) ae)))))).pt (ah (ak cV)) av) (ah (ak (bO (ao AS (hr.mono (by decide)) (by rfl) (aa (pv 0) (aa (pv 1) (aa (pv 2) (aa (pv 3) ae))))) (bD (ao AL (hr.mono (by decide)) (by rfl) (aa (pv 2) (aa (pv 3) ae)))))))))),?_⟩;rcases h with⟨wy,rfl,hw,q⟩|⟨hn,hE⟩
  ·refine⟨_,rfl,_,_,rfl,kn,.inl ⟨wy,rfl,hw,?_⟩⟩
   refine⟨_,rfl,_,rfl,_,rfl,l1,l2,xs1,xs2,v,rfl,⟨e1,n1⟩,⟨e2,n2⟩,pt,λH1 s1=>⟨_,rfl,ay (λh1=>?_) (λh1=>?_)⟩⟩
   ·exact q false H1 s1 (.inl ⟨by simpa using h1,rfl⟩)
   have h1:cW ((xs1.length:Int) - 1) ((xs2.length:Int) - 1) H v=true:=by simpa using h1
   obtain⟨l,ps,rfl,PP,hne,hin,hlen⟩:=ke pt h1
   match ps,hne,PP,hin,hlen with
   | f::r,_,PP,hin,hlen =>
   refine⟨_,rfl,rfl,_,rfl,ay (λc1=>?_) (λc1=>?_)⟩
   ·have ew:wy=aB:=bH (ds c1)
    have P1:=PP.mono s1;refine⟨_,rfl,l,rfl,⟨_,SqL.of P1.lst⟩,gj (SqL.of P1.lst) (by rw[a7];omega) (λi v' _=>v' = .bl (bq ((f::r).getD i pr0))) (λ_ _ _ _ _ h=>h) ?_ ?_⟩
    ·intro i x H2 Kc hx s2 kk
     obtain⟨u,hu,rfl⟩:=dC hx;refine⟨_,rfl,u,rfl,(P1.pr u (List.mem_of_getElem? hu)).t s2.t,kk _ _ (Same.refl _) ?_⟩;rw[List.getD_eq_getElem?_getD,hu];rfl
    ·intro l3 ys H2 nl s2 f2 hl hr
     have ey:ys=((f::r).map bq).map V.bl:=by
      rw[a7]at hl;refine List.ext_getElem? λi=>?_
      by_cases hi:i<(f::r).length
      ·have g1:ys[i]? = some ys[i]:=List.getElem?_eq_getElem (by omega)
       rw[g1,hr i _ g1,List.getElem?_map,List.getElem?_map,List.getElem?_eq_getElem hi,List.getD_eq_getElem?_getD,List.getElem?_eq_getElem hi];rfl
      ·rw[List.getElem?_eq_none (by omega),List.getElem?_eq_none (by simp at hi ⊢;omega)]
     rw[ey]at f2;refine⟨l3,(f::r).map bq,rfl,SqL.of f2,_,rfl,?_⟩;rw[List.all_map];have S2:=s1.trans s2;refine ay (λc2=>?_) (λc2=>?_)
     ·have c2:(f::r).all (id ∘ bq)=false:=by simpa only[Bool.not_eq_true']using c2
      have c2:(f::r).all bq=false:=c2;refine q false H2 S2 (.inr ⟨l,f::r,rfl,PP,?_⟩);rw[ce,hin,if_pos ew,c2];rfl
     ·have c2:(f::r).all (id ∘ bq)=true:=by simpa only[Bool.not_eq_false']using c2
      have c2:(f::r).all bq=true:=c2;have E3:(if wy=aB then (f::r).all bq else true)=true:=by rw[if_pos ew,c2]
      refine⟨_,rfl,_,rfl,_,rfl,_,rfl,l1,l2,l,xs1,xs2,f,r,wy,rfl,S2 _ _ e1,S2 _ _ e2,PP.mono S2,λH5 s5=>⟨_,rfl,ay (λh2=>?_) (λh2=>?_)⟩⟩
      ·refine⟨_,rfl,_,rfl,l,f::r,wy,rfl,(PP.mono S2).mono s5,hlen,λH6 s6=>q _ H6 (S2.trans (s5.trans s6)) (.inr ⟨l,f::r,rfl,PP,?_⟩)⟩
       rw[ce,hin,E3,h2];rfl
      ·refine q _ H5 (S2.trans s5) (.inr ⟨l,f::r,rfl,PP,?_⟩)
       rw[ce,hin,E3,h2];rfl
   ·have ew:¬wy=aB:=dn (ds c1)
    have E3:(if wy=aB then (f::r).all bq else true)=true:=by rw[if_neg ew]
    refine⟨_,rfl,_,rfl,_,rfl,_,rfl,l1,l2,l,xs1,xs2,f,r,wy,rfl,s1 _ _ e1,s1 _ _ e2,PP.mono s1,λH5 s5=>⟨_,rfl,ay (λh2=>?_) (λh2=>?_)⟩⟩
    ·refine⟨_,rfl,_,rfl,l,f::r,wy,rfl,(PP.mono s1).mono s5,hlen,λH6 s6=>q _ H6 (s1.trans (s5.trans s6)) (.inr ⟨l,f::r,rfl,PP,?_⟩)⟩
     rw[ce,hin,E3,h2];rfl
    ·refine q _ H5 (s1.trans s5) (.inr ⟨l,f::r,rfl,PP,?_⟩)
     rw[ce,hin,E3,h2];rfl
  ·exact⟨_,rfl,_,_,rfl,kn,.inr ⟨hn,hE⟩⟩
theorem tf{a b:Int}(hb:0<b):Int.gcd b (a % b)=Int.gcd a b:=by
 have e:a=a % b+a / b*b:=by
  have:=Int.emod_add_mul_ediv a b;rw[Int.mul_comm]at this;omega
 have h:=Int.gcd_add_mul_right_right b (a % b) (a / b);rw[<- e]at h;rw[Int.gcd_comm a b,h]
inductive HM (vs:List V) (H:Hp) (Q:VK) (x_3:XK):Prop
 | mk:∀a b:Int,(vs = [.int a,.int b])->(0<=b)->(Q (.int (Int.gcd a b:Int)) H)->HM vs H Q x_3
inductive Gy (vs:List V) (H:Hp) (Q:VK) (x_3:XK):Prop
 | mk:∀a b:Int,(vs = [.int a,.int b])->((0<b/\au b<=2000))->(∀(p:Addr) (t u:Int) (H':Hp),Ak a b t u->t=a / (Int.gcd a b:Int)->u=b / (Int.gcd a b:Int)->Same H H'->H' p=some (.tup [.int t,.int u])->H p=none->Q (.ref p) H')->Gy vs H Q x_3
inductive DE (vs:List V) (H:Hp) (Q:VK) (x_3:XK):Prop
 | mk:∀(p:Addr) (n k:Int),(vs = [.ref p,.int n])->(Pot H p k)->(k<=800000)->((0<=n/\n<=100))->(∀(z:Addr) (t b:Int) (H':Hp),Bg t b->n*b<=t->t<=(n+1)*b->au t<=200->au b<=60->But p H H'->H' z=some (.tup [.int t,.int b])->Pot H' p (k+10)->Q (.ref z) H')->DE vs H Q x_3
structure Dp(H:Hp)(z:Addr)(t b n:Int)(w:Str):Prop where
 at_:H z=some (.tup [.int t,.int b])
 low:Bg t b
 n0:0<=t
 n1:t<=n*b
 bt:au t<=200
 bb:au b<=60
 hop:w=aB->b=1
theorem Dp.t'{H H':Hp}{z:Addr}{t b n:Int}{w:Str}(d:Dp H z t b n w)(s:SameT H H'):Dp H' z t b n w:=⟨s _ _ d.at_,d.low,d.n0,d.n1,d.bt,d.bb,d.hop⟩
inductive FM (vs:List V) (H:Hp) (Q:VK) (x_3:XK):Prop
 | mk:∀(p:Addr) (n k:Int) (w:Str),(vs = [.ref p,.int n,.str w])->(Pot H p k)->(k<=700000)->((0<=n/\n<=50))->(∀(z:Addr) (t b:Int) (H':Hp),Dp H' z t b n w->But p H H'->Pot H' p (k+20)->Q (.ref z) H')->FM vs H Q x_3
inductive Fo (vs:List V) (H:Hp) (Q:VK) (x_3:XK):Prop
 | mk:∀(p z0:Addr) (t0 b0 n k:Int) (w:Str),(vs = [.ref p,.ref z0,.int n,.str w])->(Pot H p k)->(k<=700000)->((0<=n/\n<=50))->(Dp H z0 t0 b0 n w)->(∀(z:Addr) (t b:Int) (H':Hp),Dp H' z t b n w->goB w t0 b0 t b=true->But p H H'->Pot H' p (k+20)->Q (.ref z) H')->Fo vs H Q x_3
noncomputable def cA(t b n:Int):Int:=if t / b+1<n then t / b+1 else n
inductive Et (vs:List V) (H:Hp) (Q:VK) (x_3:XK):Prop
 | mk:∀(z0:Addr) (t0 b0 n:Int) (w:Str),(vs = [.ref z0,.int n])->((0<=n/\n<=50))->(Dp H z0 t0 b0 n w)->(∀(z:Addr) (H':Hp),Dp H' z (cA t0 b0 n) 1 n w->goB w t0 b0 (cA t0 b0 n) 1=true->Same H H'->Q (.ref z) H')->Et vs H Q x_3
theorem bU{k a b c d:Int}(hb:0<b)(hd:0<d)(h1:k*b<=a)(h2:a<=(k+1)*b)(h3:k*d<=c)(h4:c<=(k+1)*d):aK a b c d=true:=by
 unfold aK
 split
 ·have q:=vg hd h3
  have q2:(k+1)*b<=(c / d+1)*b:=Int.mul_le_mul_of_nonneg_right (by omega) (by omega);rw[decide_eq_false (by rw[Int.mul_one];omega)];rfl
 ·have q:=vg hb h1
  have q2:(k+1)*d<=(a / b+1)*d:=Int.mul_le_mul_of_nonneg_right (by omega) (by omega);rw[decide_eq_false (by rw[Int.mul_one];omega)];rfl
theorem ju{w:Str}{k a b c d:Int}(hb:0<b)(hd:0<d)(h1:k*b<=a)(h2:a<=(k+1)*b)(h3:k*d<=c)(h4:c<=(k+1)*d)(hw:w=aB->b=1/\d=1/\(c - a=0\/c - a=1))(hf:w≠aM->¬c*b<a*d):goB w a b c d=true:=by
 unfold goB
 split
 ·rename_i h
  obtain⟨e1,e2,e3⟩:=hw h;rw[decide_eq_true e1,decide_eq_true e2,Bool.true_and,Bool.true_and,Bool.or_eq_true,decide_eq_true_eq,decide_eq_true_eq];exact e3
 ·split
  ·exact bU hb hd h1 h2 h3 h4
  ·rename_i h
   rw[decide_eq_false (hf h),bU hb hd h1 h2 h3 h4];rfl
theorem rG{w:Str}{a b:Int}(hb:0<b)(hw:w=aB->b=1):goB w a b a b=true :=
 ju (k:=a / b) hb hb (ck hb) (by have:=cH (a:=a) hb;omega) (ck hb) (by have:=cH (a:=a) hb;omega) (λh=>⟨hw h,hw h,.inl (by omega)⟩) (λ_=>by omega)
theorem fD{t b n:Int}(hb:0<b)(h:t<=n*b):t / b<=n:=Int.ediv_le_of_le_mul hb h
theorem jP{t b n:Int}(h:Bg t b)(h1:t<=n*b)(e:t / b=n):t=n/\b=1:=by
 have hb:0<b:=h.pos;have q:=ck (a:=t) hb;rw[e]at q;have et:t=n*b:=by omega
 have z:=bF h (⟨by decide,Int.gcd_one⟩:Bg n 1) (by rw[et];rw[Int.mul_one]);exact z
theorem uZ(t b n:Int):cA t b n<=n:=by unfold cA;split <;> omega
theorem wH{w:Str}{t b n:Int}(h:Bg t b)(h0:0<=t)(h1:t<=n*b)(hw:w=aB->b=1):goB w t b (cA t b n) 1=true/\0<=cA t b n:=by
 have hb:0<b:=h.pos;have f0:=gi hb h0;have f1:=fD hb h1;have g1:=ck (a:=t) hb;have g2:=cH (a:=t) hb
 by_cases hlt:t / b+1<=n
 ·have e:cA t b n=t / b+1:=by unfold cA;split <;> omega
  rw[e];refine⟨ju (k:=t / b) hb (by decide) g1 (by omega) (by omega) (by omega) (λz=>?_) (λ_=>by rw[Int.mul_one];omega),by omega⟩;have eb:=hw z;subst eb;rw[Int.ediv_one];exact⟨rfl,rfl,.inr (by omega)⟩
 ·have ef:t / b=n:=by omega
  obtain⟨rfl,rfl⟩:=jP h h1 ef;have e:cA t 1 t=t:=by unfold cA;rw[Int.ediv_one];split <;> omega
  rw[e];exact⟨rG (by decide) (λ_=>rfl),h0⟩
theorem FQ:Ah ["pot","number"] ["pot","number"] (ag (top 101)):=smk
theorem m8(Gf:Df K mg "_law_moved" (top 101))(Ai:Fn P w K mg base "_law_take" ["pot","size"] 1 Dr.spTk)(T:Txt mg):Fn P w K mg base "_law_moved" ["pot","number"] 2 Fg:=by
 refine Gf.fn FQ (λ_ _ _ _ _ _ us hl=>by obtain⟨_,_,rfl⟩:=cj hl;rfl) (λvs H Q E h=>?_) (λf cdv A outer s H vs Q E hr h=>?_)
 ·obtain⟨p,n,k,rfl,_⟩:=h
  rfl
 ·obtain⟨p,n,k,rfl,pt,hk,q⟩:=h
  refine⟨_,(ah (ak (az (jr rfl) (by rfl) T.z_max qL (aa (aw bE ac (aw ib ac ac)) (aa (az (eX rfl) (by rfl) T.z_min kO (aa (aw bE (aw ib ac ac) ac) (aa (aw bE (aw bP (pv 1) (ao Ai (hr.mono (by decide)) (by rfl) (aa (pv 0) (aa ac ae)))) ac) ae))) ae))))),?_⟩;have e12:(10:Int)^(12:Int).toNat=1000000000000:=by decide +kernel
  refine⟨_,_,rfl,rfl,⟨by decide,by decide,by decide⟩,_,_,rfl,rfl,_,_,rfl,rfl,⟨by decide,by decide,by decide⟩,_,_,rfl,rfl,_,rfl,_,rfl,p,_,_,rfl,pt,by omega,⟨by decide,by decide⟩,λr H1 a1 b1 b2 p2=>?_⟩;refine⟨_,_,rfl,rfl,_,_,rfl,rfl,_,_,rfl,_,_,rfl,q _ _ ?_ b2 p2⟩;show -999999999999<=_/\_<=999999999999;rw[e12];constructor <;> (split <;> split <;> omega)
theorem BY:Ah ["pot","line","way"] ["pot","line"] (ag (top 102)):=smk
theorem ik(DC:Df K mg "_law_drawn_other" (top 102))(Ai:Fn P w K mg base "_law_take" ["pot","size"] 1 Dr.spTk)(B1:Fn P w K mg base "_law_moved" ["pot","number"] 2 Fg)(AC:Fn P w K mg base "_law_drawn_line" ["pot"] 3 Dr.spDLine)(T:Txt mg):Fn P w K mg base "_law_drawn_other" ["pot","line"] 4 Fd:=by
 refine DC.fn BY (λ_ _ _ _ _ _ us hl=>by obtain⟨_,_,rfl⟩:=cj hl;rfl) (λvs H Q E h=>?_) (λf cdv A outer s H vs Q E hr h=>?_)
 ·obtain⟨p,l,qs,k,rfl,_⟩:=h
  rfl
 ·obtain⟨p,l,qs,k,rfl,pt,hk,L,⟨hq1,hq10⟩,q⟩:=h
  have CN:Bd (aG CX0 P w K mg base ["pot","line","way"] "_law_drawn_other" (ag (top 102)) f cdv A outer s H E).nox (compScope (jG (uX ((ax (top 102)).getD 1 (.Pass ⟨0,0,0,0⟩))))) [("pot",s.heap.objs.size+1)] "corner" [("pot",0)] :=
   ⟨by rfl,rfl,by decide +kernel,by decide +kernel,rfl,(λp hp=>by rw[List.mem_singleton.mp hp];rfl),by rfl,by decide +kernel,(λp hp=>by rw[List.mem_singleton.mp hp];exact⟨rfl,rfl,.inr (.inl rfl),rfl,rfl⟩),⟨rfl,rfl⟩,rfl⟩
  refine⟨_,(af (aq (i:=2) BY.nd rfl (Or.inl rfl) (ao Ai (hr.mono (by decide)) (by rfl) (aa (pv 0) (aa ac ae)))) (af (aC (ap aQ (pv 2) ac (ar _)) (ah (ak (dR rfl CN (cw (pv 1)) (λfp s₀ H₀=>(aA (aa (ao B1 (hr.mono (by decide)) (by rfl) (aa (pv 1) (aa (aj (dE (K:=K) rfl) (pv 0) ac (λ_ _=>rfl)) ae))) (aa (ao B1 (hr.mono (by decide)) (by rfl) (aa (pv 1) (aa (aj (dE (K:=K) rfl) (pv 0) ac (λ_ _=>rfl)) ae))) ae))))))) av) (af (aC (ap aQ (pv 2) ac (ar _)) (ah (ak (oo rfl rfl T.z_list rfl T.z_reversed (pv 1)))) av) (ah (ak (ao AC (hr.mono (by decide)) (by rfl) (aa (pv 0) ae))))))),?_⟩;have npl:l≠p:=λz=>by
   obtain⟨x,y,w,ep,_⟩:=pt;subst z;have e:=L.lst;rw[ep]at e;cases qs with
   | nil=>exact absurd hq1 (by simp)
   | cons c cs =>
    have e':=congrArg (λo=>match o with|some (HO.lst (V.ref _::_))=>true|_=>false) e
    exact absurd e' (by simp)
  have hll:(qs.map λ(q:Addr×Int×Int)=>V.ref q.1).length=qs.length:=List.length_map _;refine⟨_,rfl,p,_,_,rfl,pt,by omega,⟨by decide,by decide⟩,λr1 H1 _ _ b1 p1=>?_⟩;have L1:=L.but b1 pt npl;refine⟨_,rfl,rfl,_,rfl,ay (λh1=>?_) (λh1=>?_)⟩
  ·refine⟨_,rfl,l,rfl,⟨_,SqL.of L1.lst⟩,λr nr=>?_⟩
   have npr:=Pot.ne p1 nr;have nlr:l≠r:=aL L1.lst nr;refine gP (K:=K) (a:=l) (xs:=qs.map λ(q:Addr×Int×Int)=>V.ref q.1) (l:=r) (fv:=[("pot",0)]) (σ:=[some (.ref p),some (.ref l),some (.int r1)]) (Qp:=λH2=>Q (.ref r) H2) (λi acc H2=>∃rs:Crn,i<=qs.length/\acc=rs.map (λz=>V.ref z.1)/\rs.length=i/\(∀z∈rs,H2 z.1=some (.tup [.int z.2.1,.int z.2.2])/\Sm z.2.1/\Sm z.2.2)/\But p H1 H2/\Pot H2 p (k+1+2*(i:Int))/\H2 r=some (.lst acc))
    ⟨[],Nat.zero_le _,rfl,rfl,(λz h=>nomatch h),But.of (Same.new nr),by simpa using p1.same (Same.new nr),upd_same⟩ ?_ ?_ ?_
   ·rintro i acc H2 hi ⟨rs,hi',rfl,hl,_,b2,_,e3⟩
    exact⟨SqL.of (b2 _ _ npl L1.lst),e3,bJ (by rw[List.length_map];omega)⟩
   ·rintro i y acc H2 Kc hy ⟨rs,hi,rfl,hl,hrs,b2,p2,e3⟩ kk
    rw[List.getElem?_map]at hy;obtain⟨qq,hqi,rfl⟩:=Option.map_eq_some_iff.mp hy;have hlt:i<qs.length:=(List.getElem?_eq_some_iff.mp hqi).1;have c:=b2.t p1 _ _ (L1.crn qq (List.mem_of_getElem? hqi)).1;refine⟨_,rfl,_,rfl,qq.1,_,_,_,rfl,rfl,SqT.of c,rfl,p,_,_,rfl,p2,by omega,λx3 H3 sm3 b3 p3=>?_⟩;have c3:=b3.t p2 _ _ c;refine⟨_,rfl,_,rfl,qq.1,_,_,_,rfl,rfl,SqT.of c3,rfl,p,_,_,rfl,p3,by omega,λx4 H4 sm4 b4 p4=>?_⟩;refine⟨sz (by simp),λpt' H5 s5 f5 n5=>?_⟩;have e5:=s5 _ _ (b4 _ _ npr (b3 _ _ npr e3));refine kk (.ref pt') H5 e5 ⟨rs++[(pt',x3,x4)],hlt,by rw[List.map_append];rfl,by simp[hl],λz hz=>?_,λb o nb e=>?_,?_,upd_same⟩
    ·have u:=SameT.upd (ys:=(rs.map λz=>V.ref z.1)++[V.ref pt']) e5
     rcases List.mem_append.mp hz with hz|hz
     ·exact⟨u _ _ (s5 _ _ (b4.t p3 _ _ (b3.t p2 _ _ (hrs z hz).1))),(hrs z hz).2⟩
     ·rw[List.mem_singleton.mp hz]
      exact⟨u _ _ f5,sm3,sm4⟩
    ·by_cases hbr:b=r
     ·subst hbr
      rw[nr]at e;cases e
     ·rw[aP hbr]
      exact s5 _ _ (b4 b o nb (b3 b o nb (b2 b o nb e)))
    ·obtain⟨x,y,z,ep,rest⟩:=(p4.same s5).mono (k':=k+1+2*((i+1:Nat):Int)) (by omega)
     exact⟨x,y,z,by rw[aP (Ne.symm npr)];exact ep,rest⟩
   ·rintro acc H2 ⟨rs,_,rfl,hl,hrs,b2,p2,e3⟩
    rw[hll]at hl;exact q r rs H2 ⟨e3,hrs⟩ (by omega) (by omega) (b1.none npr nr) (b1.trans b2)
  ·refine⟨_,rfl,rfl,_,rfl,ay (λh2=>?_) (λh2=>?_)⟩
   ·refine⟨_,rfl,l,_,rfl,SqL.of L1.lst,λr H2 s2 f2 n2=>?_⟩
    have npr:=Pot.ne p1 n2;have er:(qs.map λ(q:Addr×Int×Int)=>V.ref q.1).reverse=qs.reverse.map λ(q:Addr×Int×Int)=>V.ref q.1:=by rw[List.map_reverse]
    rw[er]at f2;exact q r qs.reverse H2 ⟨f2,λz hz=>⟨s2 _ _ (L1.crn z (List.mem_reverse.mp hz)).1,(L1.crn z (List.mem_reverse.mp hz)).2⟩⟩ (by rw[List.length_reverse];exact hq1) (by rw[List.length_reverse];exact hq10) (b1.none npr n2) (b1.trans (But.of s2))
   ·refine⟨_,rfl,p,_,rfl,p1,by omega,λr rs H2 L2 h1' h2' n2 b2 p2=>?_⟩
    have npr:=Pot.ne p1 n2;exact q r rs H2 L2 h1' h2' (b1.none npr n2) (b1.trans b2)
theorem D5:Ah ["script","one"] ["script"] (ag (top 103)):=smk
theorem m9(Gg:Df K mg "_law_lines" (top 103))(BL:Fn P w K mg base "_law_cell_at" ["script","k"] 1 (Dr.spCell K))(Bl:Fn P w K mg base "_law_begun" ["cell"] 1 Dr.spBegun)(AC:Fn P w K mg base "_law_drawn_line" ["pot"] 3 Dr.spDLine)(BC:Fn P w K mg base "_law_drawn_other" ["pot","line"] 4 Fd):Fn P w K mg base "_law_lines" ["script"] 5 (Fi K):=by
 refine Gg.fn D5 (λ_ _ _ _ _ _ us hl=>by obtain⟨_,rfl⟩:=dk hl;rfl) (λvs H Q E h=>?_) (λf cdv A outer s H vs Q E hr h=>?_)
 ·obtain⟨sa,ss,rfl,_⟩:=h
  rfl
 ·obtain⟨sa,ss,rfl,hS,q⟩:=h
  refine⟨_,(af (aq (i:=1) D5.nd rfl (Or.inl rfl) (ao AC (hr.mono (by decide)) (by rfl) (aa (ao Bl (hr.mono (by decide)) (by rfl) (aa (ao BL (hr.mono (by decide)) (by rfl) (aa (pv 0) (aa ac ae))) ae)) ae))) (ah (ak (aA (aa (pv 1) (aa (ao BC (hr.mono (by decide)) (by rfl) (aa (ao Bl (hr.mono (by decide)) (by rfl) (aa (ao BL (hr.mono (by decide)) (by rfl) (aa (pv 0) (aa ac ae))) ae)) (aa (pv 1) ae))) ae)))))),?_⟩;refine⟨_,rfl,sa,ss,0,rfl,hS,by decide,λc0=>?_⟩;refine⟨c0,rfl,λp0 H0 s0 n0 pt0=>?_⟩;refine⟨p0,0,rfl,pt0,by decide,λl qs H1 L1 h1 h10 nl b1 _=>?_⟩;have s1:Same H H1:=b1.same s0 n0;refine⟨_,rfl,_,rfl,sa,ss,1,rfl,s1.seq hS,by decide,λc1=>?_⟩;refine⟨c1,rfl,λp2 H2 s2 n2 pt2=>⟨_,rfl,p2,l,qs,0,rfl,pt2,by decide,L1.mono s2,⟨h1,h10⟩,λr rs H3 L3 h3 h30 nr b3=>?_⟩⟩;have nlp:l≠p2:=aL L1.lst n2;have s3:Same H1 H3:=b3.same s2 n2;have L3':LineM H3 l qs:=L1.mono s3;refine⟨sz (by simp),λt H4 s4 f4 n4=>?_⟩;exact q t l r qs rs H4 (s1.trans (s3.trans s4)) f4 (L3'.mono s4) ⟨h1,h10⟩ (L3.mono s4) ⟨h3,h30⟩ (s0.free nl) (s1.free (s2.free nr)) (aL (s2 _ _ L1.lst) nr)
theorem Dc:Ah ["one","other"] ["one","other"] (ag (top 104)):=smk
theorem kI(EX:Df K mg "_law_divisor" (top 104))(T:Txt mg):Fn P w K mg base "_law_divisor" ["one","other"] 1 HM:=by
 refine EX.fn Dc (λ_ _ _ _ _ _ us hl=>by obtain⟨_,_,rfl⟩:=cj hl;rfl) (λvs H Q E h=>?_) (λf cdv A outer s H vs Q E hr h=>?_)
 ·obtain⟨a,b,rfl,_⟩:=h
  rfl
 ·obtain⟨a,b,rfl,hb,q⟩:=h
  refine⟨_,(af (ir PassesOwn.never (ap dw (pv 1) ac (ar _)) (ah (xZ (i:=0) (j:=1) rfl Dc.nd rfl rfl (by decide) rfl rfl (aa (pv 1) (aa (aw du (pv 0) (pv 1)) ae)) (by rfl)))) (ah (ak (az gz (by rfl) T.z_abs kR (aa (pv 0) ae))))),?_⟩;refine im (λσ H'=>∃x y:Int,σ = [some (.int x),some (.int y)]/\H'=H/\0<=y/\Int.gcd x y=Int.gcd a b)
   (λσ _=>match σ with | [_,some (.int y)]=>y.toNat|_=>0) ⟨_,_,rfl,rfl,hb,rfl⟩ ?_ ?_
  ·rintro σ H' ⟨x,y,rfl,rfl,hy,hg⟩
   refine⟨_,rfl,rfl,_,rfl,?_⟩;refine ay (λhc=>?_) (λhc=>?_)
   ·have hy0:¬y=0:=by simpa using hc
    have hy1:0<y:=by omega
    refine⟨_,rfl,_,rfl,_,rfl,x,y,rfl,rfl,hy1,_,_,rfl,⟨y,x % y,rfl,rfl,Int.emod_nonneg _ hy0,?_⟩,?_⟩
    ·rw[tf hy1]
     exact hg
    ·have h1:=Int.emod_lt_of_pos x hy1
     have h2:=Int.emod_nonneg x hy0;show(x % y).toNat<y.toNat;omega
   ·have hy0:y=0:=by simpa using hc
    subst hy0;refine⟨_,rfl,x,rfl,?_⟩;have e:(Int.gcd a b:Int)=(if x<0 then -x else x):=by rw[<- hg,Int.gcd_zero];split <;> omega
    rw[e]at q;exact q
  ·rintro σ H' Q1 Q2 hq ⟨v,e,hs,k,ek,r⟩
   exact⟨v,e,hs,k,ek,hq _ _ r⟩
theorem D4:Ah ["top","bottom","by"] ["top","bottom"] (ag (top 105)):=smk
theorem m6(Ge:Df K mg "_law_ratio" (top 105))(Cf:Fn P w K mg base "_law_divisor" ["one","other"] 1 HM):Fn P w K mg base "_law_ratio" ["top","bottom"] 2 Gy:=by
 refine Ge.fn D4 (λ_ _ _ _ _ _ us hl=>by obtain⟨_,_,rfl⟩:=cj hl;rfl) (λvs H Q E h=>?_) (λf cdv A outer s H vs Q E hr h=>?_)
 ·obtain⟨a,b,rfl,_⟩:=h
  rfl
 ·obtain⟨a,b,rfl,⟨hb,bb⟩,q⟩:=h
  refine⟨_,(af (aq (i:=2) D4.nd rfl (Or.inl rfl) (ao Cf (hr.mono (by decide)) (by rfl) (aa (pv 0) (aa (pv 1) ae)))) (ah (ak (aA (aa (aw ca (pv 0) (pv 2)) (aa (aw ca (pv 1) (pv 2)) ae)))))),?_⟩;refine⟨_,rfl,_,rfl,a,b,rfl,by omega,?_⟩;have hg:=fB (a:=a) (b:=b) (by omega);have bg:au (Int.gcd a b:Int)<=8000:=ai (lU (by omega) bb) (by decide);refine⟨_,rfl,_,rfl,_,_,rfl,rfl,⟨hg,bg⟩,_,rfl,_,rfl,_,_,rfl,rfl,⟨hg,bg⟩,sz (by simp),λp H1 s1 f1 n1=>?_⟩;exact q p _ _ H1 (iK hb) rfl rfl s1 f1 n1
theorem FR:Ah ["one","other"] ["one","other"] (ag (top 106)):=smk
theorem nc(Gi:Df K mg "_law_below" (top 106)):Fn P w K mg base "_law_below" ["one","other"] 1 Fh:=by
 refine Gi.fn FR (λ_ _ _ _ _ _ us hl=>by obtain⟨_,_,rfl⟩:=cj hl;rfl) (λvs H Q E h=>?_) (λf cdv A outer s H vs Q E hr h=>?_)
 ·obtain⟨p,q,a,b,c,d,rfl,_⟩:=h
  rfl
 ·obtain⟨p,q,a,b,c,d,rfl,hp,hq,⟨ba,bb,bc,bd⟩,k⟩:=h
  refine⟨_,(ah (ak (aR oz (aw aT (aj am (pv 0) ac (λ_ _=>rfl)) (aj am (pv 1) ac (λ_ _=>rfl))) (aw aT (aj am (pv 1) ac (λ_ _=>rfl)) (aj am (pv 0) ac (λ_ _=>rfl))) (ar _)))),?_⟩
  walk_at "rd"
  exact k
theorem Db:Ah ["pot","at","parts"] ["pot","at"] (ag (top 109)):=smk
theorem kG(EV:Df K mg "_law_spot_on" (top 109))(Ai:Fn P w K mg base "_law_take" ["pot","size"] 1 Dr.spTk)(Bj:Fn P w K mg base "_law_wide" ["pot","size"] 2 Dr.spWd)(C0:Fn P w K mg base "_law_ratio" ["top","bottom"] 2 Gy):Fn P w K mg base "_law_spot_on" ["pot","at"] 3 DE:=by
 refine EV.fn Db (λ_ _ _ _ _ _ us hl=>by obtain⟨_,_,rfl⟩:=cj hl;rfl) (λvs H Q E h=>?_) (λf cdv A outer s H vs Q E hr h=>?_)
 ·obtain⟨p,n,k,rfl,_⟩:=h
  rfl
 ·obtain⟨p,n,k,rfl,pt,hk,⟨hn0,hn1⟩,q⟩:=h
  refine⟨_,(af (aq (i:=2) Db.nd rfl (Or.inl rfl) (aw bP ac (ao Bj (hr.mono (by decide)) (by rfl) (aa (pv 0) (aa (aj aF (@cK _ _ _ _ (@aa _ _ _ _ _ ac (@aa _ _ _ _ _ ac (@aa _ _ _ _ _ ac (@aa _ _ _ _ _ (aw ib ac ac) ae (by rfl)) (by rfl)) (by rfl)) (by rfl))) (ao Ai (hr.mono (by decide)) (by rfl) (aa (pv 0) (aa ac ae))) (λ_ _=>rfl)) ae))))) (ah (ak (ao C0 (hr.mono (by decide)) (by rfl) (aa (aw bP (aw aT (pv 1) (pv 2)) (ao Bj (hr.mono (by decide)) (by rfl) (aa (pv 0) (aa (aw bP (pv 2) ac) ae)))) (aa (pv 2) ae)))))),?_⟩;have e18:(10:Int)^(18:Int).toNat=1000000000000000000:=by decide +kernel
  refine⟨_,rfl,_,_,rfl,rfl,⟨by decide,by decide,by decide⟩,sz (by simp),λpl H1 s1 f1 n1=>?_⟩;have np1:=Pot.ne pt n1;have p1:=pt.same s1;refine⟨_,rfl,p,_,_,rfl,p1,by omega,⟨by decide,by decide⟩,λr2 H2 a2 b2' b2 p2=>?_⟩;refine uF (λm=>1<=m/\m<=1000000000000000000) (b2 _ _ np1 f1) a2 (by simpa using b2') (λv hv=>?_) λm hm=>?_
  ·simp only[List.mem_cons,List.not_mem_nil,or_false]at hv
   rcases hv with rfl|rfl|rfl|rfl
   ·exact⟨_,rfl,by decide,by decide⟩
   ·exact⟨_,rfl,by decide,by decide⟩
   ·exact⟨_,rfl,by decide,by decide⟩
   ·exact⟨_,rfl,by rw[e18];decide,by rw[e18];decide⟩
  have bits61:∀{z:Int},0<=z->z<=1000000000000000001->au z<=61:=λ{z} h0 h1=>dF (n:=61) (by show _<2305843009213693952;omega);refine⟨p,_,_,rfl,p2,by omega,⟨by omega,ai (bits61 (by omega) (by omega)) (by decide)⟩,λr3 H3 a3 b3' b3 p3=>⟨_,_,rfl,rfl,?_⟩⟩;have bn:au n<=10:=bi (by omega) (by omega);have bp:au (1+r3)<=61:=bits61 (by omega) (by omega);have bp60:au (1+r3)<=60:=dF (n:=60) (by show _<1152921504606846976;omega);refine⟨_,rfl,_,rfl,_,_,rfl,rfl,CM.l (xw (by omega) (by omega)),_,rfl,_,rfl,_,_,rfl,rfl,p,_,_,rfl,p3,by omega,⟨by omega,ai (bits61 (by omega) (by omega)) (by decide)⟩,λr4 H4 a4 b4' b4 p4=>⟨_,_,rfl,rfl,?_⟩⟩;have B4:But p H H4:=((But.of s1).trans b2).trans (b3.trans b4);refine⟨_,rfl,_,_,rfl,⟨by omega,ai bp (by decide)⟩,λz t b H5 fr et eb s5 f5 n5=>?_⟩;have hb:0<b:=fr.low.pos;have hpp:0<1+r3:=by omega
  have heq:=fr.eq;have br4:au r4<=61:=bits61 (by omega) (by omega);have btop:au (n*(1+r3)+r4)<=100:=by walk_at "bl"
  refine q z t b H5 fr.low ?_ ?_ ?_ ?_ (B4.trans (But.of s5)) f5 ((p4.same s5).mono (by omega))
  ·have h1:n*b*(1+r3)<=t*(1+r3):=by
    rw[<- heq];have:0<=r4*b:=Int.mul_nonneg a4 (by omega);have e:(n*(1+r3)+r4)*b=n*b*(1+r3)+r4*b:=by grind
    omega
   exact Int.le_of_mul_le_mul_right h1 hpp
  ·have h1:t*(1+r3)<=(n+1)*b*(1+r3):=by
    rw[<- heq];have:r4*b<=(1+r3)*b:=Int.mul_le_mul_of_nonneg_right (by omega) (by omega);have e:(n*(1+r3)+r4)*b=n*b*(1+r3)+r4*b:=by grind
    have e2:(n+1)*b*(1+r3)=n*b*(1+r3)+(1+r3)*b:=by grind
    omega
   exact Int.le_of_mul_le_mul_right h1 hpp
  ·rw[et]
   exact ai (eY (fB (by omega)) btop) (by decide)
  ·rw[eb]
   exact eY (fB (by omega)) bp60
theorem Hi:Ah ["pot","last","way"] ["pot","last","way"] (ag (top 110)):=smk
theorem qB(Hq:Df K mg "_law_any" (top 110))(Ai:Fn P w K mg base "_law_take" ["pot","size"] 1 Dr.spTk)(Ao:Fn P w K mg base "_law_spot_on" ["pot","at"] 3 DE):Fn P w K mg base "_law_any" ["pot","last","way"] 4 FM:=by
 refine Hq.fn Hi (λ_ _ _ _ _ _ us hl=>by obtain⟨_,_,_,rfl⟩:=je hl;rfl) (λvs H Q E h=>?_) (λf cdv A outer s H vs Q E hr h=>?_)
 ·obtain⟨p,n,k,w,rfl,_⟩:=h
  rfl
 ·obtain⟨p,n,k,w,rfl,pt,hk,⟨hn0,hn1⟩,q⟩:=h
  refine⟨_,(af (aC (cb (ap aQ (pv 1) ac (ar _)) (cb (ap aQ (pv 2) aE (ar _)) (bQ (ap aQ (ao Ai (hr.mono (by decide)) (by rfl) (aa (pv 0) (aa ac ae))) ac (ar _))))).pt (ah (ak (aA (aa (ao Ai (hr.mono (by decide)) (by rfl) (aa (pv 0) (aa (aw bP (pv 1) ac) ae))) (aa ac ae))))) av) (ah (ak (ao Ao (hr.mono (by decide)) (by rfl) (aa (pv 0) (aa (ao Ai (hr.mono (by decide)) (by rfl) (aa (pv 0) (aa (pv 1) ae))) ae)))))),?_⟩;have whole:∀(H1:Hp) (k':Int),But p H H1->Pot H1 p k'->k'<=k+5->(pQ (nX (cF (fL spTk [] E0 (cF (BF 0) (cF (tOp (HQ λi j=>.int (i+j)) (BF 1) (tC (.int 1))) i3))) (cF (tC (.int 1)) i3)))) { nx:=λ_ H'=>Q .non H',rt:=Q } [some (.ref p),some (.int n),some (.str w)] H1:=λH1 k' b1 p1 hk'=>by
   refine⟨_,rfl,_,rfl,_,_,rfl,rfl,p,_,_,rfl,p1,by omega,⟨by omega,ai (bi (by omega) (by omega)) (by decide)⟩,λr2 H2 a2 b2' b2 p2=>?_⟩;refine⟨sz (by simp),λz H3 s3 f3 n3=>q z r2 1 H3 ⟨f3,⟨by decide,Int.gcd_one⟩,a2,by omega,ai (bi (by omega) (by omega)) (by decide),by decide,λ_=>rfl⟩ (b1.trans (b2.trans (But.of s3))) ((p2.same s3).mono (by omega))⟩
  refine⟨_,rfl,rfl,_,rfl,ay (λh1=>?_) (λh1=>?_)⟩
  ·exact whole H k But.refl pt (by omega)
  have hn:n≠0:=by
   intro z;subst z;exact absurd h1 (by decide)
  refine⟨_,rfl,rfl,_,rfl,ay (λh2=>?_) (λh2=>?_)⟩
  ·exact whole H k But.refl pt (by omega)
  have hw:w≠aB:=λz=>by
   subst z;exact absurd h2 (by decide)
  refine⟨_,rfl,p,_,_,rfl,pt,by omega,⟨by decide,by decide⟩,λr1 H1 _ _ b1 p1=>?_⟩;refine⟨rfl,_,rfl,ay (λh3=>?_) (λh3=>?_)⟩
  ·exact whole H1 (k+1) b1 p1 (by omega)
  refine⟨_,rfl,_,rfl,_,rfl,p,_,_,rfl,p1,by omega,⟨by omega,ai (bi (by omega) (by omega)) (by decide)⟩,λr2 H2 a2 b2' b2 p2=>?_⟩;refine⟨p,_,_,rfl,p2,by omega,⟨a2,by omega⟩,λz t b H3 lw g1 g2 bt bb b3 f3 p3=>?_⟩;have hb:=lw.pos;have h0:0<=r2*b:=Int.mul_nonneg a2 (by omega);have h9:(r2+1)*b<=n*b:=Int.mul_le_mul_of_nonneg_right (by omega) (by omega);exact q z t b H3 ⟨f3,lw,by omega,by omega,bt,bb,λz=>absurd z hw⟩ (b1.trans (b2.trans b3)) (p3.mono (by omega))
theorem BN:Ah ["pot","place","last","way","at","turn","spot"] ["pot","place","last","way"] (ag (top 111)):=smk
theorem ni(Gk:Df K mg "_law_ahead" (top 111))(Ai:Fn P w K mg base "_law_take" ["pot","size"] 1 Dr.spTk)(Ao:Fn P w K mg base "_law_spot_on" ["pot","at"] 3 DE)(Al:Fn P w K mg base "_law_below" ["one","other"] 1 BP):Fn P w K mg base "_law_ahead" ["pot","place","last","way"] 4 Fo:=by
 refine Gk.fn BN (λ_ _ _ _ _ _ us hl=>by obtain⟨_,_,_,_,rfl⟩:=mO hl;rfl) (λvs H Q E h=>?_) (λf cdv A outer s H vs Q E hr h=>?_)
 ·obtain⟨p,z0,t0,b0,n,k,wy,rfl,_⟩:=h
  rfl
 ·obtain⟨p,z0,t0,b0,n,k,wy,rfl,pt,hk,⟨hn0,hn1⟩,d0,q⟩:=h
  have hb:=d0.low.pos;have bb0:au b0<=8000:=ai d0.bb (by decide);have f0:=gi hb d0.n0;have f1:=fD hb d0.n1;have g1:=ck (a:=t0) hb;have g2:=cH (a:=t0) hb;have stay:∀{H1:Hp} {k':Int},But p H H1->Pot H1 p k'->k'<=k+20->Q (.ref z0) H1:=λb1 p1 hk'=>q z0 t0 b0 _ (d0.t' (b1.t pt)) (rG hb d0.hop) b1 (p1.mono hk');have R:∃u,PSs (aG CX0 P w K mg base ["pot","place","last","way","at","turn","spot"] "_law_ahead" (ag (top 111)) f cdv A outer s H E).nox ((ax (top 111)).drop 4) u/\∀(r1:Int) (H2:Hp) (k':Int),But p H H2->Pot H2 p k'->k'<=k+3->u { nx:=λ_ H'=>Q .non H',rt:=Q } [some (.ref p),some (.ref z0),some (.int n),some (.str wy),some (.int (t0 / b0)),some (.int r1),none] H2:=by
   refine⟨_,(af (aC (ap aQ (pv 4) (pv 2) (ar _)) (ah (ak (pv 1))) av) (af (aq (i:=6) BN.nd rfl (Or.inl rfl) (aA (aa (aw bP (pv 4) ac) (aa ac ae)))) (af (aC (bK (ap aQ (pv 5) ac (ar _)) (bV (ap dw (pv 3) aE (ar _)))).pt (ah (aq (i:=6) BN.nd rfl (Or.inl rfl) (ao Ao (hr.mono (by decide)) (by rfl) (aa (pv 0) (aa (pv 4) ae))))) av) (af (aC (bK (ap dw (pv 3) aE (ar _)) (bV (aO (ao Al (hr.mono (by decide)) (by rfl) (aa (pv 6) (aa (pv 1) ae)))))).pt (ah (ak (pv 1))) av) (ah (ak (pv 6))))))),λr1 H2 k' b2 p2 hk2=>?_⟩;have d2:=d0.t' (b2.t pt);refine⟨_,rfl,_,rfl,rfl,_,rfl,ay (λh2=>?_) (λh2=>?_)⟩
   ·exact⟨_,rfl,stay b2 p2 (by omega)⟩
   have hne:t0 / b0≠n:=λz=>by
    rw[z]at h2;exact absurd h2 (by simp)
   refine⟨_,rfl,_,_,rfl,rfl,sz (by simp),λzs H3 s3 f3 n3=>?_⟩;have fin:∀(zs:Addr) (t b:Int) (H4:Hp) (k4:Int),Dp H4 zs t b n wy->(t0 / b0)*b<=t->t<=(t0 / b0+1)*b->(wy=aB->t=t0 / b0+1/\b=1)->But p H H4->Pot H4 p k4->k4<=k+20 ->
     (su (yT (xO (qO (tOp IX (BF 3) (tC (.str aM)))) (tB (fL BP [] E0 (cF (BF 6) (cF (BF 1) i3))))) (pQ (BF 1)) xl) (pQ (BF 6))) { nx:=λ_ H'=>Q .non H',rt:=Q } [some (.ref p),some (.ref z0),some (.int n),some (.str wy),some (.int (t0 / b0)),some (.int r1),some (.ref zs)] H4:=by
    intro zs t b H4 k4 d4 j1 j2 jh b4 p4 hk4;have d04:=d0.t' (b4.t pt);have hb4:=d4.low.pos;have go:(wy≠aM->¬t*b0<t0*b)->goB wy t0 b0 t b=true:=λhf=>ju (k:=t0 / b0) hb hb4 g1 (by omega) j1 j2 (λz=>by
     obtain⟨e1,e2⟩:=jh z;have e3:=d0.hop z;subst e2 e3;rw[Int.ediv_one]at e1;exact⟨rfl,rfl,.inr (by omega)⟩) hf
    refine⟨_,rfl,rfl,_,rfl,ay (λh3=>?_) (λh3=>?_)⟩
    ·refine⟨_,rfl,_,rfl,zs,z0,_,_,_,_,rfl,d4.at_,d04.at_,⟨ai d4.bt (by decide),ai d4.bb (by decide),ai d04.bt (by decide),ai d04.bb (by decide)⟩,_,rfl,ay (λh4=>?_) (λh4=>?_)⟩
     ·exact⟨_,rfl,stay b4 p4 hk4⟩
     ·exact⟨_,rfl,q zs t b H4 d4 (go λ_=>dn h4) b4 (p4.mono hk4)⟩
    ·have ew:wy=aM:=by
      have h3':decide (V.str wy=V.str aM)=true:=by simpa using h3
      have:=bH h3';cases this;rfl
     exact⟨_,rfl,q zs t b H4 d4 (go λz=>absurd ew z) b4 (p4.mono hk4)⟩
   have b3:But p H H3:=b2.trans (But.of s3);have p3:=p2.same s3;have hm:(t0 / b0+1)<=n:=by omega
   have dS:Dp H3 zs (t0 / b0+1) 1 n wy:=⟨f3,⟨by decide,Int.gcd_one⟩,by omega,by omega,ai (bi (by omega) (by omega)) (by decide),by decide,λ_=>rfl⟩;refine⟨_,rfl,rfl,_,rfl,ay (λh5=>?_) (λh5=>?_)⟩
   ·refine⟨_,rfl,rfl,_,rfl,ay (λh6=>?_) (λh6=>?_)⟩
    ·have nw:wy≠aB:=λz=>by
      subst z;exact absurd h6 (by decide)
     refine⟨_,rfl,_,rfl,p,_,_,rfl,p3,by omega,⟨f0,by omega⟩,λzt t b H4 lw c1 c2 bt bb b4 f4 p4=>?_⟩;have hbz:=lw.pos;have m0:0<=t0 / b0*b:=Int.mul_nonneg f0 (by omega);have m1:(t0 / b0+1)*b<=n*b:=Int.mul_le_mul_of_nonneg_right hm (by omega);exact fin zt t b H4 _ ⟨f4,lw,by omega,by omega,bt,bb,λz=>absurd z nw⟩ c1 c2 (λz=>absurd z nw) (b3.trans b4) p4 (by omega)
    ·exact fin zs _ 1 H3 _ dS (by omega) (by omega) (λ_=>⟨rfl,rfl⟩) b3 p3 (by omega)
   ·exact fin zs _ 1 H3 _ dS (by omega) (by omega) (λ_=>⟨rfl,rfl⟩) b3 p3 (by omega)
  obtain⟨u,hu,ru⟩:=R;refine⟨_,(af (aq (i:=4) BN.nd rfl (Or.inl rfl) (aw ca (aj am (pv 1) ac (λ_ _=>rfl)) (aj am (pv 1) ac (λ_ _=>rfl)))) (af (aq (i:=5) BN.nd rfl (Or.inl rfl) (ao Ai (hr.mono (by decide)) (by rfl) (aa (pv 0) (aa ac ae)))) (af (aC (ap aQ (pv 5) ac (ar _)) (ah (ak (pv 1))) av) (af (aC (bK (ap aQ (pv 3) aE (ar _)) (bK (ap eM (pv 4) ac (ar _)) (bK (ap aQ (aj am (pv 1) ac (λ_ _=>rfl)) ac (ar _)) (bV (ap aQ (ao Ai (hr.mono (by decide)) (by rfl) (aa (pv 0) (aa ac ae))) ac (ar _)))))).pt (ah (ak (ao Ao (hr.mono (by decide)) (by rfl) (aa (pv 0) (aa (aw bE (pv 4) ac) ae))))) av) hu)))),?_⟩;refine⟨_,rfl,z0,_,_,_,rfl,rfl,SqT.of d0.at_,rfl,_,rfl,z0,_,_,_,rfl,rfl,SqT.of d0.at_,rfl,_,_,rfl,rfl,⟨hb,bb0⟩,?_⟩;refine⟨_,rfl,p,_,_,rfl,pt,by omega,⟨by decide,by decide⟩,λr1 H1 a1 b1' b1 p1=>?_⟩;have d1:=d0.t' (b1.t pt);refine⟨_,rfl,rfl,_,rfl,ay (λh1=>?_) (λh1=>?_)⟩
  ·exact⟨_,rfl,stay b1 p1 (by omega)⟩
  refine⟨_,rfl,rfl,_,rfl,ay (λh2=>?_) (λh2=>?_)⟩
  ·have ew:wy=aM:=by
    have:=bH h2;cases this;rfl
   refine⟨_,rfl,_,_,rfl,rfl,_,rfl,ay (λh3=>?_) (λh3=>?_)⟩
   ·have h3:0<t0 / b0:=bH h3
    refine⟨_,rfl,z0,_,_,_,rfl,rfl,SqT.of d1.at_,rfl,rfl,_,rfl,ay (λh4=>?_) (λh4=>?_)⟩
    ·have h4:b0=1:=by
      have:=bH h4;cases this;rfl
     refine⟨_,rfl,p,_,_,rfl,p1,by omega,⟨by decide,by decide⟩,λr2 H2 _ _ b2 p2=>?_⟩;refine⟨rfl,_,rfl,ay (λh5=>?_) (λh5=>?_)⟩
     ·refine⟨_,rfl,_,rfl,_,_,rfl,rfl,p,_,_,rfl,p2,by omega,⟨by omega,by omega⟩,λzt t b H4 lw c1 c2 bt bb b4 f4 p4=>?_⟩
      have hbz:=lw.pos;subst h4;rw[Int.ediv_one]at c1 c2 h3 f1;have m0:0<=(t0 - 1)*b:=Int.mul_nonneg (by omega) (by omega);have m1:t0*b<=n*b:=Int.mul_le_mul_of_nonneg_right f1 (by omega);have e1:t0 - 1+1=t0:=by omega
      have c2':t<=t0*b:=by rw[e1]at c2;exact c2
      have hgo:(wy≠aM->¬t*1<t0*b)->(wy=aB->(1:Int)=1/\b=1/\(t - t0=0\/t - t0=1))->goB wy t0 1 t b=true:=λhf hh=>ju (k:=t0 - 1) (by decide) hbz (by omega) (by omega) c1 c2 hh hf;have nh:wy≠aB:=λz=>by
       rw[ew]at z;exact absurd z (by decide)
      exact q zt t b H4 ⟨f4,lw,by omega,by omega,bt,bb,λz=>absurd z nh⟩ (hgo (λz=>absurd ew z) λz=>absurd z nh) (b1.trans (b2.trans b4)) (p4.mono (by omega))
     ·exact ru r1 H2 _ (b1.trans b2) p2 (by omega)
    ·exact ru r1 H1 _ b1 p1 (by omega)
   ·exact ru r1 H1 _ b1 p1 (by omega)
  ·exact ru r1 H1 _ b1 p1 (by omega)
theorem GC:Ah ["place","last"] ["place","last"] (ag (top 112)):=smk
theorem oZ(GR:Df K mg "_law_home" (top 112))(T:Txt mg):Fn P w K mg base "_law_home" ["place","last"] 1 Et:=by
 refine GR.fn GC (λ_ _ _ _ _ _ us hl=>by obtain⟨_,_,rfl⟩:=cj hl;rfl) (λvs H Q E h=>?_) (λf cdv A outer s H vs Q E hr h=>?_)
 ·obtain⟨z0,t0,b0,n,w,rfl,_⟩:=h
  rfl
 ·obtain⟨z0,t0,b0,n,w,rfl,⟨hn0,hn1⟩,d0,q⟩:=h
  refine⟨_,(ah (ak (aA (aa (az (eX rfl) (by rfl) T.z_min kO (aa (pv 1) (aa (aw bP (aw ca (aj am (pv 0) ac (λ_ _=>rfl)) (aj am (pv 0) ac (λ_ _=>rfl))) ac) ae))) (aa ac ae))))),?_⟩;have hb:=d0.low.pos;obtain⟨hg,h0⟩:=wH (w:=w) d0.low d0.n0 d0.n1 d0.hop;have hle:=uZ t0 b0 n;refine⟨_,rfl,_,rfl,z0,_,_,_,rfl,rfl,SqT.of d0.at_,rfl,_,rfl,z0,_,_,_,rfl,rfl,SqT.of d0.at_,rfl,_,_,rfl,rfl,⟨hb,ai d0.bb (by decide)⟩,_,_,rfl,rfl,_,_,rfl,sz (by simp),λz H1 s1 f1 _=>?_⟩;have e:(if t0 / b0+1<n then t0 / b0+1 else n)=cA t0 b0 n:=rfl
  have f1':H1 z=some (.tup [.int (cA t0 b0 n),.int 1]):=f1;exact q z H1 ⟨f1',⟨by decide,Int.gcd_one⟩,h0,by omega,ai (bi (by omega) (by omega)) (by decide),by decide,λ_=>rfl⟩ hg s1
noncomputable def ME(t:TE):Prop:=∀σ H Q Q',(∀v H1,Q v H1->Q' v H1)->t σ H Q->t σ H Q'
noncomputable def MT(t:TT):Prop:=∀σ H Q Q',(∀b H1,Q b H1->Q' b H1)->t σ H Q->t σ H Q'
noncomputable def MA(t:TA):Prop:=∀σ H Q Q',(∀v H1,Q v H1->Q' v H1)->t σ H Q->t σ H Q'
noncomputable def MR(r:R2):Prop:=∀x y H Q Q',(∀v H1,Q v H1->Q' v H1)->r x y H Q->r x y H Q'
theorem jc{i:Nat}:ME (BF i):=λσ H Q Q' hq ⟨v,e,h⟩=>⟨v,e,hq _ _ h⟩
theorem uG{v:V}:ME (tC v):=λσ H Q Q' hq h=>hq _ _ h
theorem oE{r:R2}{a b:TE}(hr:MR r)(ha:ME a)(hb:ME b):ME (tOp r a b):=λσ H Q Q' hq h=>ha σ H _ _ (λx H1 h1=>hb σ H1 _ _ (λy H2 h2=>hr x y H2 Q Q' hq h2) h1) h
theorem uE{K:W.Frag}{neg:Bool}:MR (Ib K neg):=λx y H Q Q' hq ⟨p,q,ns,ms,e1,e2,h1,h2,k⟩=>⟨p,q,ns,ms,e1,e2,h1,h2,hq _ _ k⟩
theorem zg:MR IX:=λx y H Q Q' hq ⟨h,k⟩=>⟨h,hq _ _ k⟩
theorem uJ:MA i3:=λσ H Q Q' hq h=>hq _ _ h
theorem jJ{a:TE}{r:TA}(ha:ME a)(hr:MA r):MA (cF a r):=λσ H Q Q' hq h=>ha σ H _ _ (λx H1 h1=>hr σ H1 _ _ (λxs H2 h2=>hq _ _ h2) h1) h
theorem rz{t:TA}(h:MA t):ME (nX t):=λσ H Q Q' hq k=>h σ H _ _ (λxs H1 ⟨z,f⟩=>⟨z,λp H2 s e n=>hq _ _ (f p H2 s e n)⟩) k
theorem jI{t:TE}(h:ME t):MT (qO t):=λσ H Q Q' hq k=>h σ H _ _ (λx H1 ⟨b,e,f⟩=>⟨b,e,hq _ _ f⟩) k
theorem ze{a b:TT}(ha:MT a)(hb:MT b):MT (tOr a b):=λσ H Q Q' hq k=>ha σ H _ _ (λc H1 f=>by
 cases c with
 | true=>exact hq _ _ f
 | false=>exact hb σ H1 Q Q' hq f) k
theorem yg{a b:TT}(ha:MT a)(hb:MT b):MT (xO a b):=λσ H Q Q' hq k=>ha σ H _ _ (λc H1 f=>by
 cases c with
 | true=>exact hb σ H1 Q Q' hq f
 | false=>exact hq _ _ f) k
structure EC(H:Hp)(l:Addr)(n m:Int)(w:Str)(ps:List Pr)(q:Pr):Prop where
 at_:Am H l (ps++[q])
 st:cf w (ps++[q])=true
 inn:(ps++[q]).all (inB n m)=true
 fst:∀f,(ps++[q]).head? = some f->f.a=0/\f.b=1/\(w≠bz->f.c=0/\f.d=1)
 hop:w=aB->∀r∈ps++[q],r.b=1/\r.d=1
theorem pR{w:Str}{ps:List Pr}{q r:Pr}(h:cf w (ps++[q])=true)(h2:dJ w q r=true):cf w (ps++[q]++[r])=true:=by
 rw[dG]at h ⊢;intro j u v eu ev;have hv:=(List.getElem?_eq_some_iff.mp ev).1;rw[List.length_append,List.length_append]at hv;simp only[List.length_cons,List.length_nil]at hv
 by_cases hj:j+1<ps.length+1
 ·rw[List.getElem?_append_left (by rw[List.length_append];simp only[List.length_cons,List.length_nil];omega)]at eu ev
  exact h j u v eu ev
 ·have ej:j=ps.length:=by omega
  subst ej;rw[List.getElem?_append_left (by simp),List.getElem?_append_right (Nat.le_refl _),Nat.sub_self]at eu;rw[List.getElem?_append_right (by simp)]at ev;simp at ev;cases eu;subst ev;exact h2
theorem td{ps:List Pr}{q r f:Pr}(h:(ps++[q]++[r]).head? = some f):(ps++[q]).head? = some f:=by
 cases ps with
 | nil=>exact h
 | cons a b=>exact h
theorem EC.step{H H2 H3:Hp}{l:Addr}{n m:Int}{w:Str}{ps:List Pr}{q r:Pr}(W:EC H l n m w ps q)(s:SameT H H2)(u:Hw H2 H3 l (prs (ps++[q])) (prs (ps++[q])++[.ref r.p]))(pr:PrAt H2 r)(hs:dJ w q r=true)(hi:inB n m r=true)(hh:w=aB->r.b=1/\r.d=1):EC H3 l n m w (ps++[q]) r:=by
 refine⟨⟨by rw[u.now];unfold prs;rw[List.map_append (l₁:=ps++[q])];rfl,λz hz=>?_⟩,pR W.st hs,by rw[List.all_append,W.inn,Bool.true_and];simp[hi],λf hf=>W.fst f (td hf),λz x hx=>?_⟩
 ·rcases List.mem_append.mp hz with hz|hz
  ·exact((W.at_.pr z hz).t s).t u.t
  ·rw[List.mem_singleton.mp hz]
   exact pr.t u.t
 ·rcases List.mem_append.mp hx with hx|hx
  ·exact W.hop z x hx
  ·rw[List.mem_singleton.mp hx]
   exact hh z
structure Iw(n m:Int)(w:Str)(ps:List Pr):Prop where
 walk:bR n m w ps=true
 hop:w=aB->∀r∈ps,r.b=1/\r.d=1
theorem fA{ps:List Pr}{q:Pr}(h:ps++[q]≠[]):(ps++[q]).getLast h=q:=by simp
theorem EC.good{H:Hp}{l:Addr}{n m:Int}{w:Str}{ps:List Pr}{q:Pr}(W:EC H l n m w ps q)(hx:q.a=n/\q.b=1)(hy:w=bz\/(q.c=m/\q.d=1)):Iw n m w (ps++[q]):=by
 refine⟨?_,W.hop⟩;have hne:ps++[q]≠[]:=by simp
 have key:∀(xs:List Pr) (h:xs≠[]),xs.all (inB n m)=true->cf w xs=true->(∀f,xs.head? = some f->f.a=0/\f.b=1/\(w≠bz->f.c=0/\f.d=1))->((xs.getLast h).a=n/\(xs.getLast h).b=1)->(w=bz\/((xs.getLast h).c=m/\(xs.getLast h).d=1))->bR n m w xs=true:=by
  intro xs h h1 h2 h3 h4 h5
  match xs,h,h1,h2,h3,h4,h5 with
  | f::r,h,h1,h2,h3,h4,h5 =>
   rw[cL,h1,h2,Bool.true_and,Bool.and_true];obtain⟨f1,f2,f3⟩:=h3 f rfl;unfold hV isP;rw[f1,f2,h4.1,h4.2];simp only[decide_true,Bool.and_self,if_true]
   by_cases hw:w=bz
   ·rw[if_pos hw]
   ·rw[if_neg hw]
    obtain⟨g1,g2⟩:=f3 hw;rcases h5 with h5|⟨h5,h6⟩
    ·exact absurd h5 hw
    ·rw[g1,g2,h5,h6]
     simp
 exact key _ hne W.inn W.st W.fst (by rw[fA];exact hx) (by rw[fA];exact hy)
noncomputable def muP(n:Int)(H:Hp)(z:V):Nat:=match z with
 | .ref p=>match H p with
  | some (.tup [.int t,.int b])=>(n - t / b).toNat
  | _=>0
 | _=>0
inductive Fm (vs:List V) (H:Hp) (Q:VK) (x_3:XK):Prop
 | mk:∀(p:Addr) (n m k:Int) (w:Str),(vs = [.ref p,.int n,.int m,.str w])->(Pot H p k)->(k<=400000)->((0<=n/\n<=20))->((0<=m/\m<=20))->(∀(l:Addr) (ps:List Pr) (H':Hp),Am H' l ps->Iw n m w ps->ps.length<=60->H l=none->But p H H'->Pot H' p (k+500)->Q (.ref l) H')->Fm vs H Q x_3
theorem Dp.pr{H:Hp}{pp zx zy:Addr}{t b c d n m:Int}{w:Str}(e:H pp=some (.tup [.ref zx,.ref zy]))(dx:Dp H zx t b n w)(dy:Dp H zy c d m w):PrAt H ⟨pp,zx,zy,t,b,c,d⟩/\inB n m ⟨pp,zx,zy,t,b,c,d⟩=true/\(w=aB->b=1/\d=1):=by
 refine⟨⟨e,dx.at_,dy.at_,dx.low,dy.low,dx.n0,dy.n0,ai dx.bt (by decide),ai dx.bb (by decide),ai dy.bt (by decide),ai dy.bb (by decide)⟩,?_,λz=>⟨dx.hop z,dy.hop z⟩⟩;unfold inB;rw[decide_eq_true dx.n1,decide_eq_true dy.n1];rfl
theorem An:Ah ["pot","n","m","way","x","y","walk","turn"] ["pot","n","m","way"] (ag (top 113)):=smk
theorem iP(DV:Df K mg "_law_drawn_walk" (top 113))(Ai:Fn P w K mg base "_law_take" ["pot","size"] 1 Dr.spTk)(AQ:Fn P w K mg base "_law_any" ["pot","last","way"] 4 FM)(B6:Fn P w K mg base "_law_ahead" ["pot","place","last","way"] 4 Fo)(CA:Fn P w K mg base "_law_home" ["place","last"] 1 Et)(T:Txt mg):Fn P w K mg base "_law_drawn_walk" ["pot","n","m","way"] 5 Fm:=by
 refine DV.fn An (λ_ _ _ _ _ _ us hl=>by obtain⟨_,_,_,_,rfl⟩:=mO hl;rfl) (λvs H Q E h=>?_) (λf cdv A outer s H vs Q E hr h=>?_)
 ·obtain⟨p,n,m,k,wy,rfl,_⟩:=h
  rfl
 ·obtain⟨p,n,m,k,wy,rfl,pt,hk,⟨hn0,hn1⟩,⟨hm0,hm1⟩,q⟩:=h
  have R:∃u,PSs (aG CX0 P w K mg base ["pot","n","m","way","x","y","walk","turn"] "_law_drawn_walk" (ag (top 113)) f cdv A outer s H E).nox ((ax (top 113)).drop 3) u/\∀(zx zy:Addr) (c d:Int) (H1:Hp),Dp H1 zx 0 1 n wy->Dp H1 zy c d m wy->(wy≠bz->c=0/\d=1)->But p H H1->Pot H1 p (k+20)->u { nx:=λ_ H'=>Q .non H',rt:=Q } [some (.ref p),some (.int n),some (.int m),some (.str wy),some (.ref zx),some (.ref zy),none,none] H1:=by
   refine⟨_,(af (aq (i:=6) An.nd rfl (Or.inl rfl) (@cK _ _ _ _ (@aa _ _ _ _ _ (@aA _ _ _ _ _ (@aa _ _ _ _ _ (pv 4) (@aa _ _ _ _ _ (pv 5) ae (by rfl)) (by rfl))) ae (by rfl)))) (af (fg PassesOwn.never rfl (gF rfl T.z_range (aa (ao Ai (hr.mono (by decide)) (by rfl) (aa (pv 0) (aa ac ae))) ae)) (aZ (i:=7) An.nd rfl (Or.inl rfl)) (af (aq (i:=4) An.nd rfl (Or.inl rfl) (ao B6 (hr.mono (by decide)) (by rfl) (aa (pv 0) (aa (pv 4) (aa (pv 1) (aa (pv 3) ae)))))) (af (aq (i:=5) An.nd rfl (Or.inl rfl) (ao B6 (hr.mono (by decide)) (by rfl) (aa (pv 0) (aa (pv 5) (aa (pv 2) (aa (pv 3) ae)))))) (ah (de (dU PySem.F.plainAttrs_list PySem.F.slot_list_append PySem.F.type_list_append cO (pv 6) (aa (aA (aa (pv 4) (aa (pv 5) ae))) ae))))))) (af (ir PassesOwn.never (cb (ap (ja hr.units0) (pv 4) (aA (aa (pv 1) (aa ac ae))) (ar _)) (bQ (bK (ap (ja hr.units0) (pv 5) (aA (aa (pv 2) (aa ac ae))) (ar _)) (bV (ap dw (pv 3) aE (ar _)))).pt)).pt (af (aq (i:=4) An.nd rfl (Or.inl rfl) (ao CA (hr.mono (by decide)) (by rfl) (aa (pv 4) (aa (pv 1) ae)))) (af (aq (i:=5) An.nd rfl (Or.inl rfl) (ao CA (hr.mono (by decide)) (by rfl) (aa (pv 5) (aa (pv 2) ae)))) (ah (de (dU PySem.F.plainAttrs_list PySem.F.slot_list_append PySem.F.type_list_append cO (pv 6) (aa (aA (aa (pv 4) (aa (pv 5) ae))) ae))))))) (ah (ak (pv 6)))))),λzx zy c d H1 dx dy hcd b1 p1=>?_⟩;refine⟨_,rfl,_,rfl,sz (by simp),λpp H2 s2 f2 n2=>?_⟩;refine⟨sz (by simp),λl H3 s3 f3 n3=>?_⟩;have p3:=(p1.same s2).same s3;have npl:=Pot.ne (p1.same s2) n3;have nl:H l=none:=b1.none npl (s2.free n3);obtain⟨pr0,in0,hp0⟩:=Dp.pr (s3 _ _ f2) ((dx.t' s2.t).t' s3.t) ((dy.t' s2.t).t' s3.t);have b3:But p H H3:=b1.trans ((But.of s2).trans (But.of s3));have W3:EC H3 l n m wy [] ⟨pp,zx,zy,0,1,c,d⟩:=⟨⟨f3,λz hz=>by rw[List.mem_singleton.mp hz];exact pr0⟩,rfl,by simp[in0],λf hf=>by cases hf;exact⟨rfl,rfl,hcd⟩,λz r hr=>by rw[List.mem_singleton.mp hr];exact hp0 z⟩;refine⟨_,rfl,p,_,_,rfl,p3,by omega,⟨by decide,by decide⟩,λr4 H4 a4 b4' b4 p4=>?_⟩;have upW:∀{Ha Hb:Hp} {ps:List Pr} {qq:Pr} {ka:Int},EC Ha l n m wy ps qq->But p Ha Hb->Pot Ha p ka->EC Hb l n m wy ps qq:=λW b pa=>⟨⟨b _ _ npl W.at_.lst,λz hz=>(W.at_.pr z hz).t (b.t pa)⟩,W.st,W.inn,W.fst,W.hop⟩;refine⟨_,rfl,by omega,by omega,?_⟩;refine gM (n:=r4.toNat) (lo:=0) (λi σ H5=>∃(zx zy:Addr) (a b c d:Int) (ps:List Pr) (pp:Addr) (z7:Option V),σ = [some (.ref p),some (.int n),some (.int m),some (.str wy),some (.ref zx),some (.ref zy),some (.ref l),z7]/\EC H5 l n m wy ps ⟨pp,zx,zy,a,b,c,d⟩/\Dp H5 zx a b n wy/\Dp H5 zy c d m wy/\ps.length=i/\But p H H5/\Pot H5 p (k+30+40*(i:Int)))
    ⟨zx,zy,0,1,c,d,[],pp,_,rfl,upW W3 b4 p3,((dx.t' s2.t).t' s3.t).t' (b4.t p3),((dy.t' s2.t).t' s3.t).t' (b4.t p3),rfl,b3.trans b4,p4.mono (by omega)⟩ ?_ ?_
   ·rintro i σ H5 hi ⟨zx,zy,a,b,c,d,ps,pp,z7,rfl,W5,dx5,dy5,hl,b5,p5⟩
    refine⟨_,rfl,_,rfl,_,rfl,_,rfl,p,zx,a,b,n,_,wy,rfl,p5,by omega,⟨hn0,by omega⟩,dx5,λzx' a' b' H6 dx6 g6 b6 p6=>?_⟩;have dy6:=dy5.t' (b6.t p5);refine⟨_,rfl,_,rfl,_,rfl,_,rfl,p,zy,c,d,m,_,wy,rfl,p6,by omega,⟨hm0,by omega⟩,dy6,λzy' c' d' H7 dy7 g7 b7 p7=>?_⟩;have dx7:=dx6.t' (b7.t p6);have W7:=upW (upW W5 b6 p5) b7 p6;refine⟨_,rfl,.inl ⟨rfl,_,SqL.of W7.at_.lst⟩,_,rfl,_,rfl,sz (by simp),λpp' H8 s8 f8 n8=>?_⟩;obtain⟨pr',in',hp'⟩:=Dp.pr f8 (dx7.t' s8.t) (dy7.t' s8.t);refine⟨l,_,_,rfl,rfl,s8 _ _ W7.at_.lst,bJ (by rw[a7,List.length_append];simp only[List.length_cons,List.length_nil];omega),λH9 u=>?_⟩;refine⟨zx',zy',a',b',c',d',ps++[⟨pp,zx,zy,a,b,c,d⟩],pp',_,rfl,W7.step s8.t u pr' (by unfold dJ;rw[g6,g7];rfl) in' hp',(dx7.t' s8.t).t' u.t,(dy7.t' s8.t).t' u.t,by simp[hl],λb o nb e=>?_,?_⟩
    ·exact u.at (λz=>by subst z;rw[nl]at e;cases e) (s8 _ _ (b7 b o nb (b6 b o nb (b5 b o nb e))))
    ·obtain⟨x,y,z,ep,rest⟩:=(p7.same s8).mono (k':=k+30+40*((i+1:Nat):Int)) (by omega)
     exact⟨x,y,z,u.at (Ne.symm npl) ep,rest⟩
   ·rintro σ H5 ⟨zx,zy,a,b,c,d,ps,pp,z7,rfl,W5,dx5,dy5,hl,b5,p5⟩
    refine im (λσ H6=>∃(zx zy:Addr) (a b c d:Int) (ps:List Pr) (pp:Addr),σ = [some (.ref p),some (.int n),some (.int m),some (.str wy),some (.ref zx),some (.ref zy),some (.ref l),z7]/\EC H6 l n m wy ps ⟨pp,zx,zy,a,b,c,d⟩/\Dp H6 zx a b n wy/\Dp H6 zy c d m wy/\(ps.length:Int)+(n - a / b)+(m - c / d)<=8+n+m/\But p H H6/\Pot H6 p (k+400))
     (λσ H6=>match σ with | [_,_,_,_,some zx,some zy,_,_]=>muP n H6 zx+muP m H6 zy|_=>0)
     ⟨zx,zy,a,b,c,d,ps,pp,rfl,W5,dx5,dy5,by have:=gi dx5.low.pos dx5.n0;have:=gi dy5.low.pos dy5.n0;omega,b5,p5.mono (by omega)⟩ ?_ ?_
    ·rintro σ H6 ⟨zx,zy,a,b,c,d,ps,pp,rfl,W6,dx6,dy6,hl6,b6,p6⟩
     have fx0:=gi dx6.low.pos dx6.n0;have fx1:=fD dx6.low.pos dx6.n1;have fy0:=gi dy6.low.pos dy6.n0;have fy1:=fD dy6.low.pos dy6.n1;have mu6:∀{Ha:Hp} {z:Addr} {t b n':Int},Ha z=some (.tup [.int t,.int b])->muP n' Ha (.ref z)=(n' - t / b).toNat:=λe=>by simp only[muP,e]
     have turn:∀(H7:Hp),Same H6 H7->(a / b<n\/c / d<m)->(su (nY (fL Et [] E0 (cF (BF 4) (cF (BF 1) i3))) (hU 4)) (su (nY (fL Et [] E0 (cF (BF 5) (cF (BF 2) i3))) (hU 5)) (tV (tBM K "list" Dt (BF 6) (cF (nX (cF (BF 4) (cF (BF 5) i3))) i3)))))
       { nx:=λσ' H'=>(∃(zx zy:Addr) (a b c d:Int) (ps:List Pr) (pp:Addr),σ' = [some (.ref p),some (.int n),some (.int m),some (.str wy),some (.ref zx),some (.ref zy),some (.ref l),z7]/\EC H' l n m wy ps ⟨pp,zx,zy,a,b,c,d⟩/\Dp H' zx a b n wy/\Dp H' zy c d m wy/\(ps.length:Int)+(n - a / b)+(m - c / d)<=8+n+m/\But p H H'/\Pot H' p (k+400))/\(match σ' with | [_,_,_,_,some zx,some zy,_,_]=>muP n H' zx+muP m H' zy|_=>0)<muP n H6 (.ref zx)+muP m H6 (.ref zy),rt:=Q } [some (.ref p),some (.int n),some (.int m),some (.str wy),some (.ref zx),some (.ref zy),some (.ref l),z7] H7:=by
      intro H7 s7 hlt;refine⟨_,rfl,_,rfl,zx,a,b,n,wy,rfl,⟨hn0,by omega⟩,dx6.t' s7.t,λzx' H8 dx8 g8 s8=>?_⟩;refine⟨_,rfl,_,rfl,zy,c,d,m,wy,rfl,⟨hm0,by omega⟩,(dy6.t' s7.t).t' s8.t,λzy' H9 dy9 g9 s9=>?_⟩;have S9:Same H6 H9:=s7.trans (s8.trans s9);refine⟨_,rfl,.inl ⟨rfl,_,SqL.of (S9 _ _ W6.at_.lst)⟩,_,rfl,_,rfl,sz (by simp),λpp' H10 s10 f10 n10=>?_⟩;have S10:=S9.trans s10;have dx10:=(dx8.t' s9.t).t' s10.t;have dy10:=dy9.t' s10.t;obtain⟨pr',in',hp'⟩:=Dp.pr f10 dx10 dy10;refine⟨l,_,_,rfl,rfl,S10 _ _ W6.at_.lst,bJ (by rw[a7,List.length_append];simp only[List.length_cons,List.length_nil];omega),λH11 u=>?_⟩;have dx11:=dx10.t' u.t;have dy11:=dy10.t' u.t;have hx:cA a b n / 1=cA a b n:=Int.ediv_one _;have hy:cA c d m / 1=cA c d m:=Int.ediv_one _;have ux:cA a b n=a / b+1\/(cA a b n=n/\a / b=n):=by unfold cA;split <;> omega
      have uy:cA c d m=c / d+1\/(cA c d m=m/\c / d=m):=by unfold cA;split <;> omega
      refine⟨⟨zx',zy',cA a b n,1,cA c d m,1,ps++[⟨pp,zx,zy,a,b,c,d⟩],pp',rfl,W6.step S10.t u pr' (by unfold dJ;rw[g8,g9];rfl) in' hp',dx11,dy11,?_,λb o nb e=>?_,?_⟩,?_⟩
      ·rw[hx,hy,List.length_append]
       simp only[List.length_cons,List.length_nil];omega
      ·exact u.at (λz=>by subst z;rw[nl]at e;cases e) (S10 _ _ (b6 b o nb e))
      ·obtain⟨x,y,z,ep,rest⟩:=p6.same S10
       exact⟨x,y,z,u.at (Ne.symm npl) ep,rest⟩
      ·show muP n H11 (.ref zx')+muP m H11 (.ref zy')<_
       rw[mu6 dx11.at_,mu6 dy11.at_,mu6 dx6.at_,mu6 dy6.at_,hx,hy];omega
     have fin:∀(H7:Hp),Same H6 H7->(a=n/\b=1)->(wy=bz\/(c=m/\d=1))->(pQ (BF 6)) { nx:=λ_ H'=>Q .non H',rt:=Q } [some (.ref p),some (.int n),some (.int m),some (.str wy),some (.ref zx),some (.ref zy),some (.ref l),z7] H7:=λH7 s7 hx hy =>
      ⟨_,rfl,q l _ H7 (W6.at_.mono s7) (W6.good hx hy) (by rw[List.length_append];simp only[List.length_cons,List.length_nil];omega) nl (b6.trans (But.of s7)) ((p6.same s7).mono (by omega))⟩
     have full:∀{t b n':Int},Bg t b->t<=n'*b->0<=t->decide ([t,b] = [n',1])=false->t / b<n':=λ{t b n'} lw h1 h0 hc=>by
      have hle:=fD lw.pos h1
      by_cases e:t / b=n'
      ·obtain⟨rfl,rfl⟩:=jP lw h1 e
       simp at hc
      ·omega
     refine⟨_,rfl,_,rfl,sz (by simp),λt1 H7 s7 g7 _=>?_⟩;refine⟨zx,t1,[a,b],[n,1],rfl,rfl,SqT.of (s7 _ _ dx6.at_),SqT.of g7,_,rfl,?_⟩;show if (!decide ([a,b] = [n,1]))=true then _ else _
     refine ay (λc1=>?_) (λc1=>?_)
     ·exact turn H7 s7 (.inl (full dx6.low dx6.n1 dx6.n0 (by simpa only[Bool.not_eq_true']using c1)))
     have ex:a=n/\b=1:=by simpa using c1
     refine⟨_,rfl,_,rfl,sz (by simp),λt2 H8 s8 g8 _=>?_⟩;refine⟨zy,t2,[c,d],[m,1],rfl,rfl,SqT.of (s8 _ _ (s7 _ _ dy6.at_)),SqT.of g8,_,rfl,?_⟩;show if (!decide ([c,d] = [m,1]))=true then _ else _
     refine ay (λc2=>?_) (λc2=>?_)
     ·refine⟨_,rfl,rfl,_,rfl,ay (λc3=>?_) (λc3=>?_)⟩
      ·exact turn H8 (s7.trans s8) (.inr (full dy6.low dy6.n1 dy6.n0 (by simpa only[Bool.not_eq_true']using c2)))
      ·have ew:wy=bz:=by
        have h3':decide (V.str wy=V.str (Str.ofString "part"))=true:=by simpa only[Bool.not_eq_true',Bool.not_eq_false',Bool.not_eq_false]using c3
        have:=bH h3';cases this;rfl
       exact fin H8 (s7.trans s8) ex (.inl ew)
     ·have ey:c=m/\d=1:=by simpa using c2
      exact fin H8 (s7.trans s8) ex (.inr ey)
    ·exact ze (jI (oE uE jc (rz (jJ jc (jJ uG uJ))))) (yg (jI (oE uE jc (rz (jJ jc (jJ uG uJ))))) (jI (oE zg jc uG)))
  obtain⟨u,hu,ru⟩:=R;refine⟨_,(af (aq (i:=4) An.nd rfl (Or.inl rfl) (aA (aa ac (aa ac ae)))) (af (aq (i:=5) An.nd rfl (Or.inl rfl) (aA (aa ac (aa ac ae)))) (af (aC (ap aQ (pv 3) aE (ar _)) (ah (aq (i:=5) An.nd rfl (Or.inl rfl) (ao AQ (hr.mono (by decide)) (by rfl) (aa (pv 0) (aa (pv 2) (aa (pv 3) ae)))))) av) hu))),?_⟩;refine⟨sz (by simp),λzx H1 s1 f1 n1=>?_⟩;refine⟨sz (by simp),λzy H2 s2 f2 n2=>?_⟩;have dz:∀{Ha:Hp} {z:Addr} {n':Int},0<=n'->Ha z=some (.tup [.int 0,.int 1])->Dp Ha z 0 1 n' wy:=λh e=>⟨e,⟨by decide,by decide⟩,by decide,by omega,by decide,by decide,λ_=>rfl⟩;have p2:=(pt.same s1).same s2;have b2:But p H H2:=(But.of s1).trans (But.of s2);refine⟨_,rfl,rfl,_,rfl,ay (λh1=>?_) (λh1=>?_)⟩
  ·have ew:wy=bz:=by
    have:=bH h1;cases this;rfl
   refine⟨_,rfl,_,rfl,_,rfl,p,m,_,wy,rfl,p2,by omega,⟨hm0,by omega⟩,λz t b H3 d3 b3 p3=>?_⟩;exact ru zx z t b H3 ((dz hn0 (s2 _ _ f1)).t' (b3.t p2)) d3 (λz=>absurd ew z) (b2.trans b3) p3
  ·exact ru zx zy 0 1 H2 (dz hn0 (s2 _ _ f1)) (dz hm0 f2) (λ_=>⟨rfl,rfl⟩) b2 (p2.mono (by omega))
inductive GA (vs:List V) (H:Hp) (Q:VK) (x_3:XK):Prop
 | mk:∀(p z0:Addr) (t0 b0 n k:Int) (wy:Str),(vs = [.ref p,.ref z0,.str wy])->(Pot H p k)->(k<=700000)->((0<=n/\n<=50))->(Dp H z0 t0 b0 n wy)->(∀(z:Addr) (t b:Int) (H':Hp),Dp H' z t b n wy->aK t0 b0 t b=true->(wy=aB->t0 - t<=1)->But p H H'->Pot H' p (k+20)->Q (.ref z) H')->GA vs H Q x_3
inductive Gs (vs:List V) (H:Hp) (Q:VK) (x_3:XK):Prop
 | mk:∀(p z0:Addr) (t0 b0 n k:Int) (wy:Str),(vs = [.ref p,.ref z0,.int n,.str wy])->(Pot H p k)->(k<=700000)->((0<=n/\n<=50))->(Dp H z0 t0 b0 n wy)->(∀(z:Addr) (t b:Int) (H':Hp),Dp H' z t b n wy->aK t0 b0 t b=true->(wy=aB->t - t0<=1)->But p H H'->Pot H' p (k+20)->Q (.ref z) H')->Gs vs H Q x_3
inductive Er (g:Int->Int->Int->Int->Bool) (vs:List V) (H:Hp) (Q:VK) (x_3:XK):Prop
 | mk:∀(p q:Addr) (a b c d:Int),(vs = [.ref p,.ref q])->(H p=some (.tup [.int a,.int b]))->(H q=some (.tup [.int c,.int d]))->((au a<=2000/\au b<=2000/\au c<=2000/\au d<=2000))->(Q (.ref (if g a b c d=true then q else p)) H)->Er g vs H Q x_3
theorem wZ{t b n:Int}(hb:0<b)(h0:0<=t)(h1:t<=n*b):(0<=(if (t - 1) / b>0 then (t - 1) / b else 0)/\(if (t - 1) / b>0 then (t - 1) / b else 0)*b<=t/\t<=((if (t - 1) / b>0 then (t - 1) / b else 0)+1)*b)/\(0<t->(if (t - 1) / b>0 then (t - 1) / b else 0)+1<=n):=by
 have q1:=ck (a:=t - 1) hb;have q2:=cH (a:=t - 1) hb;have q3:t - 1<n*b->(t - 1) / b<n:=λh=>Int.ediv_lt_of_lt_mul hb h;have q4:0<=n:=by
  by_cases c:0<=n
  ·exact c
  ·have:=Int.mul_neg_of_neg_of_pos (show n<0 by omega) hb
   omega
 have q5:0<t->0<=(t - 1) / b:=λh=>gi hb (by omega)
 split
 ·rename_i h
  exact⟨⟨by omega,by omega,by omega⟩,λ_=>by have:=q3 (by omega);omega⟩
 ·rename_i h
  refine⟨⟨by omega,by omega,?_⟩,λz=>?_⟩
  ·have:((t - 1) / b+1)*b<=(0+1)*b:=Int.mul_le_mul_of_nonneg_right (by omega) (by omega)
   omega
  ·have:=q3 (by omega)
   have:=q5 z;omega
theorem Fv:Ah ["one","other"] ["one","other"] (ag (top 107)):=smk
theorem lh(FG:Df K mg "_law_lesser" (top 107))(Al:Fn P w K mg base "_law_below" ["one","other"] 1 BP):Fn P w K mg base "_law_lesser" ["one","other"] 2 (Er λa b c d=>ltB c d a b):=by
 refine FG.fn Fv (λ_ _ _ _ _ _ us hl=>by obtain⟨_,_,rfl⟩:=cj hl;rfl) (λvs H Q E h=>?_) (λf cdv A outer s H vs Q E hr h=>?_)
 ·obtain⟨p,q,a,b,c,d,rfl,_⟩:=h
  rfl
 ·obtain⟨p,q,a,b,c,d,rfl,ep,eq,⟨ba,bb,bc,bd⟩,k⟩:=h
  refine⟨_,(af (aC (aO (ao Al (hr.mono (by decide)) (by rfl) (aa (pv 1) (aa (pv 0) ae)))) (ah (ak (pv 1))) av) (ah (ak (pv 0)))),?_⟩
  try dsimp only at k
  unfold ltB at k;refine⟨_,rfl,_,rfl,q,p,c,d,a,b,rfl,eq,ep,⟨bc,bd,ba,bb⟩,_,rfl,ay (λh1=>?_) (λh1=>?_)⟩
  ·rw[if_pos h1]at k
   exact⟨_,rfl,k⟩
  ·rw[if_neg (by rw[h1];decide)]at k
   exact⟨_,rfl,k⟩
theorem EN:Ah ["one","other"] ["one","other"] (ag (top 108)):=smk
theorem kH(EW:Df K mg "_law_greater" (top 108))(Al:Fn P w K mg base "_law_below" ["one","other"] 1 BP):Fn P w K mg base "_law_greater" ["one","other"] 2 (Er λa b c d=>ltB a b c d):=by
 refine EW.fn EN (λ_ _ _ _ _ _ us hl=>by obtain⟨_,_,rfl⟩:=cj hl;rfl) (λvs H Q E h=>?_) (λf cdv A outer s H vs Q E hr h=>?_)
 ·obtain⟨p,q,a,b,c,d,rfl,_⟩:=h
  rfl
 ·obtain⟨p,q,a,b,c,d,rfl,ep,eq,⟨ba,bb,bc,bd⟩,k⟩:=h
  refine⟨_,(af (aC (aO (ao Al (hr.mono (by decide)) (by rfl) (aa (pv 0) (aa (pv 1) ae)))) (ah (ak (pv 1))) av) (ah (ak (pv 0)))),?_⟩
  try dsimp only at k
  unfold ltB at k;refine⟨_,rfl,_,rfl,p,q,a,b,c,d,rfl,ep,eq,⟨ba,bb,bc,bd⟩,_,rfl,ay (λh1=>?_) (λh1=>?_)⟩
  ·rw[if_pos h1]at k
   exact⟨_,rfl,k⟩
  ·rw[if_neg (by rw[h1];decide)]at k
   exact⟨_,rfl,k⟩
theorem Ct:Ah ["pot","y","way","at","spot"] ["pot","y","way"] (ag (top 114)):=smk
theorem o3(GS:Df K mg "_law_down" (top 114))(Ai:Fn P w K mg base "_law_take" ["pot","size"] 1 Dr.spTk)(Ao:Fn P w K mg base "_law_spot_on" ["pot","at"] 3 DE)(Al:Fn P w K mg base "_law_below" ["one","other"] 1 BP)(T:Txt mg):Fn P w K mg base "_law_down" ["pot","y","way"] 4 GA:=by
 refine GS.fn Ct (λ_ _ _ _ _ _ us hl=>by obtain⟨_,_,_,rfl⟩:=je hl;rfl) (λvs H Q E h=>?_) (λf cdv A outer s H vs Q E hr h=>?_)
 ·obtain⟨p,z0,t0,b0,n,k,wy,rfl,_⟩:=h
  rfl
 ·obtain⟨p,z0,t0,b0,n,k,wy,rfl,pt,hk,⟨hn0,hn1⟩,d0,q⟩:=h
  have hb:(0:Int)<b0:=d0.low.pos;have bb0:au b0<=8000:=ai d0.bb (by decide);obtain⟨⟨A0,A1,A2⟩,A3⟩:=wZ hb d0.n0 d0.n1;have R4:∃p4,PSs (aG CX0 P w K mg base ["pot","y","way","at","spot"] "_law_down" (ag (top 114)) f cdv A outer s H E).nox ((ax (top 114)).drop 3) p4/\∀(H4:Hp) (at_:Option V) (zs:Addr) (t b:Int),Dp H4 zs t b n wy->aK t0 b0 t b=true->(wy=aB->t0 - t<=1)->But p H H4->Pot H4 p (k+20)->p4 { nx:=λ_ H'=>Q .non H',rt:=Q } [some (.ref p),some (.ref z0),some (.str wy),at_,some (.ref zs)] H4:=by
   refine⟨_,(af (aC (bK (ap dw (pv 2) aE (ar _)) (bV (aO (ao Al (hr.mono (by decide)) (by rfl) (aa (pv 1) (aa (pv 4) ae)))))).pt (ah (ak (pv 1))) av) (ah (ak (pv 4)))),λH4 at_ zs t b d4 sh hp b4 p4=>?_⟩;have d04:=d0.t' (b4.t pt);have stay:Q (.ref z0) H4:=q z0 t0 b0 H4 d04 (bU (k:=t0 / b0) hb hb (ck hb) (by have:=cH (a:=t0) hb;omega) (ck hb) (by have:=cH (a:=t0) hb;omega)) (λ_=>by omega) b4 p4;refine⟨_,rfl,rfl,_,rfl,ay (λh3=>?_) (λh3=>?_)⟩
   ·refine⟨_,rfl,_,rfl,z0,zs,_,_,_,_,rfl,d04.at_,d4.at_,⟨ai d04.bt (by decide),ai d04.bb (by decide),ai d4.bt (by decide),ai d4.bb (by decide)⟩,_,rfl,ay (λh4=>?_) (λh4=>?_)⟩
    ·exact⟨_,rfl,stay⟩
    ·exact⟨_,rfl,q zs t b H4 d4 sh hp b4 p4⟩
   ·exact⟨_,rfl,q zs t b H4 d4 sh hp b4 p4⟩
  obtain⟨p4,hp4,rd4⟩:=R4;refine⟨_,(af (aq (i:=3) Ct.nd rfl (Or.inl rfl) (az (jr rfl) (by rfl) T.z_max qL (aa ac (aa (aw ca (aw bE (aj am (pv 1) ac (λ_ _=>rfl)) ac) (aj am (pv 1) ac (λ_ _=>rfl))) ae)))) (af (aq (i:=4) Ct.nd rfl (Or.inl rfl) (aA (aa (pv 3) (aa ac ae)))) (af (aC (bK (ap dw (pv 2) aE (ar _)) (bK (ap eM (aj am (pv 1) ac (λ_ _=>rfl)) ac (ar _)) (bV (ap aQ (ao Ai (hr.mono (by decide)) (by rfl) (aa (pv 0) (aa ac ae))) ac (ar _))))).pt (ah (aq (i:=4) Ct.nd rfl (Or.inl rfl) (ao Ao (hr.mono (by decide)) (by rfl) (aa (pv 0) (aa (pv 3) ae))))) av) hp4))),?_⟩;have TZ:=SqT.of (K:=K) d0.at_;refine⟨_,rfl,z0,_,_,_,rfl,rfl,TZ,rfl,_,_,rfl,rfl,_,rfl,z0,_,_,_,rfl,rfl,TZ,rfl,_,_,rfl,rfl,⟨hb,bb0⟩,_,_,rfl,?_⟩;generalize (if (t0 - 1) / b0>0 then (t0 - 1) / b0 else 0)=at1 at *
  refine⟨_,rfl,sz (by simp),λzs H3 s3 f3 n3=>?_⟩;have hA:at1<=n:=by
   by_cases z:0<t0
   ·have:=A3 z
    omega
   ·have e:t0=0:=by have:=d0.n0;omega
    by_cases c:at1<=0
    ·omega
    ·have:=Int.mul_pos (show 0<at1 by omega) hb
     omega
  have dS:Dp H3 zs at1 1 n wy:=⟨f3,⟨by decide,Int.gcd_one⟩,A0,by omega,ai (bi (by omega) (by omega)) (by decide),by decide,λ_=>rfl⟩;have shS:aK t0 b0 at1 1=true:=bU (k:=at1) hb (by decide) A1 A2 (by omega) (by omega);have hpS:wy=aB->t0 - at1<=1:=λz=>by
   have e:=d0.hop z;subst e;omega
  have b3:But p H H3:=But.of s3;have p3:=pt.same s3;have T3:=SqT.of (K:=K) (s3 _ _ d0.at_);refine⟨_,rfl,rfl,_,rfl,ay (λh1=>?_) (λh1=>?_)⟩
  ·have hw:¬wy=aB:=dn (ds (show decide (V.str wy=V.str (Str.ofString "hops"))=false by simpa only[Bool.not_eq_true']using h1))
   refine⟨_,rfl,z0,_,_,_,rfl,rfl,T3,rfl,_,_,rfl,rfl,_,rfl,ay (λh2=>?_) (λh2=>?_)⟩
   ·have h2:t0>0:=bH h2
    refine⟨_,rfl,p,_,_,rfl,p3,by omega,⟨by decide,by decide⟩,λr1 H4 _ _ b4 p4=>?_⟩;have B4:=b3.trans b4;refine⟨rfl,_,rfl,ay (λh3=>?_) (λh3=>?_)⟩
    ·refine⟨_,rfl,_,rfl,p,_,_,rfl,p4,by omega,⟨A0,by omega⟩,λz t b H5 lw g1 g2 bt bb b5 f5 p5=>?_⟩
     have hbz:=lw.pos;have m0:0<=at1*b:=Int.mul_nonneg A0 (by omega);have m1:(at1+1)*b<=n*b:=Int.mul_le_mul_of_nonneg_right (A3 h2) (by omega);exact rd4 H5 _ z t b ⟨f5,lw,by omega,by omega,bt,bb,λz=>absurd z hw⟩ (bU (k:=at1) hb (by omega) A1 A2 g1 g2) (λz=>absurd z hw) (B4.trans b5) (p5.mono (by omega))
    ·exact rd4 H4 _ zs at1 1 (dS.t' (b4.t p3)) shS hpS B4 (p4.mono (by omega))
   ·exact rd4 H3 _ zs at1 1 dS shS hpS b3 (p3.mono (by omega))
  ·exact rd4 H3 _ zs at1 1 dS shS hpS b3 (p3.mono (by omega))
theorem Cr:Ah ["pot","x","last","way","at","spot"] ["pot","x","last","way"] (ag (top 115)):=smk
theorem oX(GP:Df K mg "_law_over" (top 115))(Ai:Fn P w K mg base "_law_take" ["pot","size"] 1 Dr.spTk)(Ao:Fn P w K mg base "_law_spot_on" ["pot","at"] 3 DE)(Al:Fn P w K mg base "_law_below" ["one","other"] 1 BP)(T:Txt mg):Fn P w K mg base "_law_over" ["pot","x","last","way"] 4 Gs:=by
 refine GP.fn Cr (λ_ _ _ _ _ _ us hl=>by obtain⟨_,_,_,_,rfl⟩:=mO hl;rfl) (λvs H Q E h=>?_) (λf cdv A outer s H vs Q E hr h=>?_)
 ·obtain⟨p,z0,t0,b0,n,k,wy,rfl,_⟩:=h
  rfl
 ·obtain⟨p,z0,t0,b0,n,k,wy,rfl,pt,hk,⟨hn0,hn1⟩,d0,q⟩:=h
  have hb:(0:Int)<b0:=d0.low.pos;have bb0:au b0<=8000:=ai d0.bb (by decide);have f0:=gi hb d0.n0;have f1:=fD hb d0.n1;have g1:=ck (a:=t0) hb;have g2:=cH (a:=t0) hb;have R4:∃p4,PSs (aG CX0 P w K mg base ["pot","x","last","way","at","spot"] "_law_over" (ag (top 115)) f cdv A outer s H E).nox ((ax (top 115)).drop 3) p4/\∀(H4:Hp) (at_:Option V) (zs:Addr) (t b:Int),Dp H4 zs t b n wy->aK t0 b0 t b=true->(wy=aB->t - t0<=1)->But p H H4->Pot H4 p (k+20)->p4 { nx:=λ_ H'=>Q .non H',rt:=Q } [some (.ref p),some (.ref z0),some (.int n),some (.str wy),at_,some (.ref zs)] H4:=by
   refine⟨_,(af (aC (bK (ap dw (pv 3) aE (ar _)) (bV (aO (ao Al (hr.mono (by decide)) (by rfl) (aa (pv 5) (aa (pv 1) ae)))))).pt (ah (ak (pv 1))) av) (ah (ak (pv 5)))),λH4 at_ zs t b d4 sh hp b4 p4=>?_⟩;have d04:=d0.t' (b4.t pt);have stay:Q (.ref z0) H4:=q z0 t0 b0 H4 d04 (bU (k:=t0 / b0) hb hb g1 (by omega) g1 (by omega)) (λ_=>by omega) b4 p4;refine⟨_,rfl,rfl,_,rfl,ay (λh3=>?_) (λh3=>?_)⟩
   ·refine⟨_,rfl,_,rfl,zs,z0,_,_,_,_,rfl,d4.at_,d04.at_,⟨ai d4.bt (by decide),ai d4.bb (by decide),ai d04.bt (by decide),ai d04.bb (by decide)⟩,_,rfl,ay (λh4=>?_) (λh4=>?_)⟩
    ·exact⟨_,rfl,stay⟩
    ·exact⟨_,rfl,q zs t b H4 d4 sh hp b4 p4⟩
   ·exact⟨_,rfl,q zs t b H4 d4 sh hp b4 p4⟩
  obtain⟨p4,hp4,rd4⟩:=R4;refine⟨_,(af (aq (i:=4) Cr.nd rfl (Or.inl rfl) (az (eX rfl) (by rfl) T.z_min kO (aa (pv 2) (aa (aw bP (aw ca (aj am (pv 1) ac (λ_ _=>rfl)) (aj am (pv 1) ac (λ_ _=>rfl))) ac) ae)))) (af (aq (i:=5) Cr.nd rfl (Or.inl rfl) (aA (aa (pv 4) (aa ac ae)))) (af (aC (bK (ap dw (pv 3) aE (ar _)) (bK (ap eM (pv 4) ac (ar _)) (bK (ap (ja hr.units0) (pv 1) (aA (aa (pv 2) (aa ac ae))) (ar _)) (bV (ap aQ (ao Ai (hr.mono (by decide)) (by rfl) (aa (pv 0) (aa ac ae))) ac (ar _)))))).pt (ah (aq (i:=5) Cr.nd rfl (Or.inl rfl) (ao Ao (hr.mono (by decide)) (by rfl) (aa (pv 0) (aa (aw bE (pv 4) ac) ae))))) av) hp4))),?_⟩;have TZ:=SqT.of (K:=K) d0.at_;refine⟨_,rfl,_,rfl,z0,_,_,_,rfl,rfl,TZ,rfl,_,rfl,z0,_,_,_,rfl,rfl,TZ,rfl,_,_,rfl,rfl,⟨hb,bb0⟩,_,_,rfl,rfl,_,_,rfl,?_⟩;have A0:t0 / b0<=(if t0 / b0+1<n then t0 / b0+1 else n)/\(if t0 / b0+1<n then t0 / b0+1 else n)<=t0 / b0+1/\(if t0 / b0+1<n then t0 / b0+1 else n)<=n/\(t0 / b0<n->(if t0 / b0+1<n then t0 / b0+1 else n)=t0 / b0+1):=by
   split <;> omega
  generalize (if t0 / b0+1<n then t0 / b0+1 else n)=at1 at *
  obtain⟨A1,A2,A3,A4⟩:=A0;refine⟨_,rfl,sz (by simp),λzs H3 s3 f3 n3=>?_⟩;have dS:Dp H3 zs at1 1 n wy:=⟨f3,⟨by decide,Int.gcd_one⟩,by omega,by omega,ai (bi (by omega) (by omega)) (by decide),by decide,λ_=>rfl⟩;have shS:aK t0 b0 at1 1=true:=bU (k:=t0 / b0) hb (by decide) g1 (by omega) (by omega) (by omega);have hpS:wy=aB->at1 - t0<=1:=λz=>by
   have e:=d0.hop z;subst e;rw[Int.ediv_one]at A2;omega
  have b3:But p H H3:=But.of s3;have p3:=pt.same s3;refine⟨_,rfl,rfl,_,rfl,ay (λh1=>?_) (λh1=>?_)⟩
  ·have hw:¬wy=aB:=dn (ds (show decide (V.str wy=V.str (Str.ofString "hops"))=false by simpa only[Bool.not_eq_true']using h1))
   refine⟨_,rfl,_,_,rfl,rfl,_,rfl,ay (λh2=>?_) (λh2=>?_)⟩
   ·refine⟨_,rfl,_,rfl,sz (by simp),λt2 H4 s4 f4 _=>?_⟩
    have B4:=b3.trans (But.of (p:=p) s4);have p4:=p3.same s4;have d4:=d0.t' (B4.t pt);refine⟨z0,t2,[t0,b0],[n,1],rfl,rfl,SqT.of d4.at_,SqT.of f4,_,rfl,?_⟩;show if (!decide ([t0,b0] = [n,1]))=true then _ else _
    refine ay (λh5=>?_) (λh5=>?_)
    ·have h5:¬[t0,b0] = [n,1]:=of_decide_eq_false (by simpa only[Bool.not_eq_true']using h5)
     have hlt:t0 / b0<n:=by
      by_cases c:t0 / b0=n
      ·obtain⟨e1,e2⟩:=jP d0.low d0.n1 c
       rw[e1,e2]at h5;exact absurd rfl h5
      ·omega
     have e4:=A4 hlt;refine⟨_,rfl,p,_,_,rfl,p4,by omega,⟨by decide,by decide⟩,λr1 H5 _ _ b5 p5=>?_⟩;have B5:=B4.trans b5;refine⟨rfl,_,rfl,ay (λh3=>?_) (λh3=>?_)⟩
     ·refine⟨_,rfl,_,rfl,_,_,rfl,rfl,p,_,_,rfl,p5,by omega,⟨by omega,by omega⟩,λz t b H6 lw j1 j2 bt bb b6 f6 p6=>?_⟩
      have hbz:=lw.pos;have ea:at1 - 1=t0 / b0:=by omega
      rw[ea]at j1 j2;have m0:0<=t0 / b0*b:=Int.mul_nonneg f0 (by omega);have m1:(t0 / b0+1)*b<=n*b:=Int.mul_le_mul_of_nonneg_right (by omega) (by omega);exact rd4 H6 _ z t b ⟨f6,lw,by omega,by omega,bt,bb,λz=>absurd z hw⟩ (bU (k:=t0 / b0) hb (by omega) g1 (by omega) j1 j2) (λz=>absurd z hw) (B5.trans b6) (p6.mono (by omega))
     ·exact rd4 H5 _ zs at1 1 ((dS.t' s4.t).t' (b5.t p4)) shS hpS B5 (p5.mono (by omega))
    ·exact rd4 H4 _ zs at1 1 (dS.t' s4.t) shS hpS B4 (p4.mono (by omega))
   ·exact rd4 H3 _ zs at1 1 dS shS hpS b3 (p3.mono (by omega))
  ·exact rd4 H3 _ zs at1 1 dS shS hpS b3 (p3.mono (by omega))
structure Fp(H:Hp)(v:Pr)(n m:Int)(wy:Str):Prop where
 e:H v.p=some (.tup [.ref v.x,.ref v.y])
 dx:Dp H v.x v.a v.b n wy
 dy:Dp H v.y v.c v.d m wy
 fr:wy=aM->v.b=1\/v.d=1
theorem Fp.t{H H':Hp}{v:Pr}{n m:Int}{wy:Str}(h:Fp H v n m wy)(s:SameT H H'):Fp H' v n m wy:=⟨s _ _ h.e,h.dx.t' s,h.dy.t' s,h.fr⟩
theorem dH{wy:Str}{u v:Pr}(h1:u.b=1)(e1:v.a=u.a)(e2:v.b=u.b)(sh:aK u.c u.d v.c v.d=true)(hp:wy=aB->u.c - v.c<=1):cT wy u v=true:=by
 have k:hJ u v=true:=by
  unfold hJ;rw[e1,e2,sh,decide_eq_true rfl,decide_eq_true h1];rfl
 unfold cT cR;rw[k]
 by_cases h:wy=aB
 ·rw[if_pos h]
  unfold eJ;rw[decide_eq_true (show v.a - u.a<=0 by omega),decide_eq_true (hp h)];rfl
 ·rw[if_neg h]
  by_cases hf:wy=aM
  ·rw[if_pos hf];rfl
  ·rw[if_neg hf];simp
theorem eQ{wy:Str}{u v:Pr}(h1:u.d=1)(e1:v.c=u.c)(e2:v.d=u.d)(sh:aK u.a u.b v.a v.b=true)(hp:wy=aB->v.a - u.a<=1):cT wy u v=true:=by
 have k:jt u v=true:=by
  unfold jt;rw[e1,e2,sh,decide_eq_true rfl,decide_eq_true h1];rfl
 unfold cT cR;rw[k]
 by_cases h:wy=aB
 ·rw[if_pos h]
  unfold eJ;rw[decide_eq_true (hp h),decide_eq_true (show u.c - v.c<=0 by omega)];simp
 ·rw[if_neg h]
  by_cases hf:wy=aM
  ·rw[if_pos hf];simp
  ·rw[if_neg hf];simp
theorem gb{wy:Str}{u v:Pr}(hf:¬wy=aM)(h1:¬u.a*v.b<v.a*u.b)(h2:¬v.c*u.d<u.c*v.d)(hp:wy=aB->u.b=1/\u.d=1/\v.b=1/\v.d=1):cT wy u v=true:=by
 unfold cT
 by_cases h:wy=aB
 ·obtain⟨a1,a2,a3,a4⟩:=hp h
  rw[a1,a3]at h1;rw[a2,a4]at h2;rw[if_pos h];unfold eJ;rw[decide_eq_true (show v.a - u.a<=0 by omega),decide_eq_true (show u.c - v.c<=1 by omega)];rfl
 ·rw[if_neg h,if_neg hf]
  unfold eC ltB;rw[decide_eq_false h1,decide_eq_false h2];rfl
inductive Gu (vs:List V) (H:Hp) (Q:VK) (x_3:XK):Prop
 | mk:∀(p:Addr) (u:Pr) (n m k:Int) (wy:Str),(vs = [.ref p,.ref u.p,.int n,.int m,.str wy])->(Pot H p k)->(k<=600000)->((0<=n/\n<=50))->((0<=m/\m<=50))->(Fp H u n m wy)->(∀(v:Pr) (H':Hp),Fp H' v n m wy->cT wy u v=true->But p H H'->Pot H' p (k+50)->Q (.ref v.p) H')->Gu vs H Q x_3
theorem Cs:Ah ["pot","pair","n","m","way","x","y","turn"] ["pot","pair","n","m","way"] (ag (top 116)):=smk
theorem oY(GQ:Df K mg "_law_next" (top 116))(Ai:Fn P w K mg base "_law_take" ["pot","size"] 1 Dr.spTk)(AQ:Fn P w K mg base "_law_any" ["pot","last","way"] 4 FM)(Cz:Fn P w K mg base "_law_lesser" ["one","other"] 2 (Er λa b c d=>ltB c d a b))(Ce:Fn P w K mg base "_law_greater" ["one","other"] 2 (Er λa b c d=>ltB a b c d))(CC:Fn P w K mg base "_law_down" ["pot","y","way"] 4 GA)(Cy:Fn P w K mg base "_law_over" ["pot","x","last","way"] 4 Gs):Fn P w K mg base "_law_next" ["pot","pair","n","m","way"] 5 Gu:=by
 refine GQ.fn Cs (λ_ _ _ _ _ _ us hl=>by obtain⟨_,_,_,_,_,rfl⟩:=wA hl;rfl) (λvs H Q E h=>?_) (λf cdv A outer s H vs Q E hr h=>?_)
 ·obtain⟨p,u,n,m,k,wy,rfl,_⟩:=h
  rfl
 ·obtain⟨p,u,n,m,k,wy,rfl,pt,hk,⟨hn0,hn1⟩,⟨hm0,hm1⟩,fu,q⟩:=h
  have ub:(0:Int)<u.b:=fu.dx.low.pos;have ud:(0:Int)<u.d:=fu.dy.low.pos;have sX:aK u.a u.b u.a u.b=true:=bU (k:=u.a / u.b) ub ub (ck ub) (by have:=cH (a:=u.a) ub;omega) (ck ub) (by have:=cH (a:=u.a) ub;omega);have sY:aK u.c u.d u.c u.d=true:=bU (k:=u.c / u.d) ud ud (ck ud) (by have:=cH (a:=u.c) ud;omega) (ck ud) (by have:=cH (a:=u.c) ud;omega);have R7:∃p7,PSs (aG CX0 P w K mg base ["pot","pair","n","m","way","x","y","turn"] "_law_next" (ag (top 116)) f cdv A outer s H E).nox ((ax (top 116)).drop 7) p7/\∀(tn:Int) (H2:Hp),But p H H2->Pot H2 p (k+1)->p7 { nx:=λ_ H'=>Q .non H',rt:=Q } [some (.ref p),some (.ref u.p),some (.int n),some (.int m),some (.str wy),some (.ref u.x),some (.ref u.y),some (.int tn)] H2:=by
   refine⟨_,(ah (ak (pv 1))),λtn H2 b2 p2=>?_⟩;have f2:=fu.t (b2.t pt);have X2:=SqT.of (K:=K) f2.dx.at_;have Y2:=SqT.of (K:=K) f2.dy.at_;refine⟨_,rfl,q u H2 f2 ?_ b2 (p2.mono (by omega))⟩
   by_cases hf:wy=aM
   ·have nh:¬wy=aB:=λz=>absurd (z.symm.trans hf) (by decide)
    rcases fu.fr hf with h1|h1
    ·exact dH h1 rfl rfl sY (λz=>absurd z nh)
    ·exact eQ h1 rfl rfl sX (λz=>absurd z nh)
   ·exact gb hf (by omega) (by omega) λz=>⟨fu.dx.hop z,fu.dy.hop z,fu.dx.hop z,fu.dy.hop z⟩
  obtain⟨p7,hp7,rd7⟩:=R7;have R6:∃p6,PSs (aG CX0 P w K mg base ["pot","pair","n","m","way","x","y","turn"] "_law_next" (ag (top 116)) f cdv A outer s H E).nox ((ax (top 116)).drop 6) p6/\∀(tn:Int) (H2:Hp),But p H H2->Pot H2 p (k+1)->p6 { nx:=λ_ H'=>Q .non H',rt:=Q } [some (.ref p),some (.ref u.p),some (.int n),some (.int m),some (.str wy),some (.ref u.x),some (.ref u.y),some (.int tn)] H2:=by
   refine⟨_,af (aC (bK (ap aQ (aj am (pv 6) ac (λ_ _=>rfl)) ac (ar _)) (bV (ap aQ (pv 4) aE (ar _)))).pt (ah (ak (aA (aa (ao CC (hr.mono (by decide)) (by rfl) (aa (pv 0) (aa (pv 5) (aa (pv 4) ae)))) (aa (pv 6) ae))))) av) hp7,λtn H2 b2 p2=>?_⟩;have f2:=fu.t (b2.t pt);have X2:=SqT.of (K:=K) f2.dx.at_;have Y2:=SqT.of (K:=K) f2.dy.at_;refine⟨_,rfl,u.y,_,_,_,rfl,rfl,Y2,rfl,rfl,_,rfl,?_⟩;rw[di];refine ay (λh1=>?_) (λh1=>?_)
   ·have h1:u.d=1:=bH h1
    refine⟨_,rfl,rfl,_,rfl,ay (λc3=>?_) (λc3=>?_)⟩
    ·refine⟨_,rfl,_,rfl,_,rfl,p,u.x,_,_,n,_,_,rfl,p2,by omega,⟨hn0,hn1⟩,f2.dx,λz t b H3 d3 sh hp b3 p3=>?_⟩
     refine⟨_,rfl,sz (by simp),λpp H4 s4 f4 _=>?_⟩;exact q ⟨pp,z,u.y,t,b,u.c,u.d⟩ H4 ⟨f4,d3.t' s4.t,(f2.dy.t' (b3.t p2)).t' s4.t,λ_=>.inr h1⟩ (eQ h1 rfl rfl sh (λz=>absurd (z.symm.trans (show wy=aM from bH (ds c3))) (by decide))) (b2.trans (b3.trans (But.of s4))) ((p3.same s4).mono (by omega))
    ·exact rd7 tn H2 b2 p2
   ·exact rd7 tn H2 b2 p2
  obtain⟨p6,hp6,rd6⟩:=R6;have R5:∃p5,PSs (aG CX0 P w K mg base ["pot","pair","n","m","way","x","y","turn"] "_law_next" (ag (top 116)) f cdv A outer s H E).nox ((ax (top 116)).drop 5) p5/\∀(tn:Int) (H2:Hp),But p H H2->Pot H2 p (k+1)->p5 { nx:=λ_ H'=>Q .non H',rt:=Q } [some (.ref p),some (.ref u.p),some (.int n),some (.int m),some (.str wy),some (.ref u.x),some (.ref u.y),some (.int tn)] H2:=by
   refine⟨_,af (aC (bK (ap aQ (aj am (pv 6) ac (λ_ _=>rfl)) ac (ar _)) (bV (ap eM (pv 7) ac (ar _)))).pt (ah (ak (aA (aa (ao Cy (hr.mono (by decide)) (by rfl) (aa (pv 0) (aa (pv 5) (aa (pv 2) (aa (pv 4) ae))))) (aa (pv 6) ae))))) av) hp6,λtn H2 b2 p2=>?_⟩;have f2:=fu.t (b2.t pt);have X2:=SqT.of (K:=K) f2.dx.at_;have Y2:=SqT.of (K:=K) f2.dy.at_;refine⟨_,rfl,u.y,_,_,_,rfl,rfl,Y2,rfl,rfl,_,rfl,?_⟩;rw[di];refine ay (λh1=>?_) (λh1=>?_)
   ·have h1:u.d=1:=bH h1
    refine⟨_,rfl,_,_,rfl,rfl,_,rfl,ay (λc3=>?_) (λc3=>?_)⟩
    ·refine⟨_,rfl,_,rfl,_,rfl,_,rfl,p,u.x,_,_,n,_,_,rfl,p2,by omega,⟨hn0,hn1⟩,f2.dx,λz t b H3 d3 sh hp b3 p3=>?_⟩
     refine⟨_,rfl,sz (by simp),λpp H4 s4 f4 _=>?_⟩;exact q ⟨pp,z,u.y,t,b,u.c,u.d⟩ H4 ⟨f4,d3.t' s4.t,(f2.dy.t' (b3.t p2)).t' s4.t,λ_=>.inr h1⟩ (eQ h1 rfl rfl sh hp) (b2.trans (b3.trans (But.of s4))) ((p3.same s4).mono (by omega))
    ·exact rd6 tn H2 b2 p2
   ·exact rd6 tn H2 b2 p2
  obtain⟨p5,hp5,rd5⟩:=R5;have R4:∃p4,PSs (aG CX0 P w K mg base ["pot","pair","n","m","way","x","y","turn"] "_law_next" (ag (top 116)) f cdv A outer s H E).nox ((ax (top 116)).drop 4) p4/\∀(tn:Int) (H2:Hp),But p H H2->Pot H2 p (k+1)->p4 { nx:=λ_ H'=>Q .non H',rt:=Q } [some (.ref p),some (.ref u.p),some (.int n),some (.int m),some (.str wy),some (.ref u.x),some (.ref u.y),some (.int tn)] H2:=by
   refine⟨_,af (aC (bK (ap aQ (aj am (pv 5) ac (λ_ _=>rfl)) ac (ar _)) (bK (ap aQ (pv 7) ac (ar _)) (bV (ap aQ (pv 4) aE (ar _))))).pt (ah (ak (aA (aa (pv 5) (aa (ao Cy (hr.mono (by decide)) (by rfl) (aa (pv 0) (aa (pv 6) (aa (pv 3) (aa (pv 4) ae))))) ae))))) av) hp5,λtn H2 b2 p2=>?_⟩;have f2:=fu.t (b2.t pt);have X2:=SqT.of (K:=K) f2.dx.at_;have Y2:=SqT.of (K:=K) f2.dy.at_;refine⟨_,rfl,u.x,_,_,_,rfl,rfl,X2,rfl,rfl,_,rfl,?_⟩;rw[di];refine ay (λh1=>?_) (λh1=>?_)
   ·have h1:u.b=1:=bH h1
    refine⟨_,rfl,rfl,_,rfl,ay (λc2=>?_) (λc2=>?_)⟩
    ·refine⟨_,rfl,rfl,_,rfl,ay (λc3=>?_) (λc3=>?_)⟩
     ·refine⟨_,rfl,_,rfl,_,rfl,_,rfl,_,rfl,p,u.y,_,_,m,_,_,rfl,p2,by omega,⟨hm0,hm1⟩,f2.dy,λz t b H3 d3 sh hp b3 p3=>?_⟩
      refine⟨sz (by simp),λpp H4 s4 f4 _=>?_⟩;exact q ⟨pp,u.x,z,u.a,u.b,t,b⟩ H4 ⟨f4,(f2.dx.t' (b3.t p2)).t' s4.t,d3.t' s4.t,λ_=>.inl h1⟩ (dH h1 rfl rfl sh (λz=>absurd (z.symm.trans (show wy=aM from bH (ds c3))) (by decide))) (b2.trans (b3.trans (But.of s4))) ((p3.same s4).mono (by omega))
     ·exact rd5 tn H2 b2 p2
    ·exact rd5 tn H2 b2 p2
   ·exact rd5 tn H2 b2 p2
  obtain⟨p4,hp4,rd4⟩:=R4;have R3:∃p3,PSs (aG CX0 P w K mg base ["pot","pair","n","m","way","x","y","turn"] "_law_next" (ag (top 116)) f cdv A outer s H E).nox ((ax (top 116)).drop 3) p3/\∀(tn:Int) (H2:Hp),But p H H2->Pot H2 p (k+1)->p3 { nx:=λ_ H'=>Q .non H',rt:=Q } [some (.ref p),some (.ref u.p),some (.int n),some (.int m),some (.str wy),some (.ref u.x),some (.ref u.y),some (.int tn)] H2:=by
   refine⟨_,af (aC (bK (ap aQ (aj am (pv 5) ac (λ_ _=>rfl)) ac (ar _)) (bV (cb (ap aQ (pv 7) ac (ar _)) (bQ (ap eM (aj am (pv 6) ac (λ_ _=>rfl)) ac (ar _)))).pt)).pt (ah (ak (aA (aa (pv 5) (aa (ao CC (hr.mono (by decide)) (by rfl) (aa (pv 0) (aa (pv 6) (aa (pv 4) ae)))) ae))))) av) hp4,λtn H2 b2 p2=>?_⟩;have f2:=fu.t (b2.t pt);have X2:=SqT.of (K:=K) f2.dx.at_;have Y2:=SqT.of (K:=K) f2.dy.at_;refine⟨_,rfl,u.x,_,_,_,rfl,rfl,X2,rfl,rfl,_,rfl,?_⟩;rw[di];refine ay (λh1=>?_) (λh1=>?_)
   ·have h1:u.b=1:=bH h1
    refine⟨_,rfl,rfl,_,rfl,ay (λc2=>?_) (λc2=>?_)⟩
    ·refine⟨_,rfl,_,rfl,_,rfl,_,rfl,p,u.y,_,_,m,_,_,rfl,p2,by omega,⟨hm0,hm1⟩,f2.dy,λz t b H3 d3 sh hp b3 p3=>?_⟩
     refine⟨sz (by simp),λpp H4 s4 f4 _=>?_⟩;exact q ⟨pp,u.x,z,u.a,u.b,t,b⟩ H4 ⟨f4,(f2.dx.t' (b3.t p2)).t' s4.t,d3.t' s4.t,λ_=>.inl h1⟩ (dH h1 rfl rfl sh hp) (b2.trans (b3.trans (But.of s4))) ((p3.same s4).mono (by omega))
    ·refine⟨_,rfl,u.y,_,_,_,rfl,rfl,Y2,rfl,_,_,rfl,rfl,_,rfl,ay (λc3=>?_) (λc3=>?_)⟩
     ·refine⟨_,rfl,_,rfl,_,rfl,_,rfl,p,u.y,_,_,m,_,_,rfl,p2,by omega,⟨hm0,hm1⟩,f2.dy,λz t b H3 d3 sh hp b3 p3=>?_⟩
      refine⟨sz (by simp),λpp H4 s4 f4 _=>?_⟩;exact q ⟨pp,u.x,z,u.a,u.b,t,b⟩ H4 ⟨f4,(f2.dx.t' (b3.t p2)).t' s4.t,d3.t' s4.t,λ_=>.inl h1⟩ (dH h1 rfl rfl sh hp) (b2.trans (b3.trans (But.of s4))) ((p3.same s4).mono (by omega))
     ·exact rd4 tn H2 b2 p2
   ·exact rd4 tn H2 b2 p2
  obtain⟨p3,hp3,rd3⟩:=R3;refine⟨_,(af (hZ (pv 1) (fY rfl (bG (aZ (i:=5) Cs.nd rfl (Or.inl rfl)) (bG (aZ (i:=6) Cs.nd rfl (Or.inl rfl)) eg)))) (af (aq (i:=7) Cs.nd rfl (Or.inl rfl) (ao Ai (hr.mono (by decide)) (by rfl) (aa (pv 0) (aa ac ae)))) (af (aC (bK (ap dw (pv 4) aE (ar _)) (bV (cb (ap aQ (pv 7) ac (ar _)) (bQ (bK (ap eM (aj am (pv 5) ac (λ_ _=>rfl)) ac (ar _)) (bV (ap eM (aj am (pv 6) ac (λ_ _=>rfl)) ac (ar _)))).pt)).pt)).pt (ah (ak (aA (aa (ao Cz (hr.mono (by decide)) (by rfl) (aa (pv 5) (aa (ao AQ (hr.mono (by decide)) (by rfl) (aa (pv 0) (aa (pv 2) (aa (pv 4) ae)))) ae))) (aa (ao Ce (hr.mono (by decide)) (by rfl) (aa (pv 6) (aa (ao AQ (hr.mono (by decide)) (by rfl) (aa (pv 0) (aa (pv 3) (aa (pv 4) ae)))) ae))) ae))))) av) hp3))),?_⟩;refine⟨_,rfl,u.p,_,rfl,SqT.of fu.e,rfl,_,_,rfl,_,_,rfl,rfl,?_⟩;refine⟨_,rfl,p,_,_,rfl,pt,by omega,⟨by decide,by decide⟩,λtn H2 tn0 tn1 b2 p2=>?_⟩;have f2:=fu.t (b2.t pt);have X2:=SqT.of (K:=K) f2.dx.at_;have Y2:=SqT.of (K:=K) f2.dy.at_;refine⟨_,rfl,rfl,_,rfl,ay (λc1=>?_) (λc1=>?_)⟩
  ·have hf:¬wy=aM:=dn (ds (show decide (V.str wy=V.str (Str.ofString "free"))=false by simpa only[Bool.not_eq_true']using c1))
   refine⟨_,rfl,rfl,_,rfl,ay (λc2=>?_) (λc2=>?_)⟩
   ·refine⟨_,rfl,_,rfl,_,rfl,_,rfl,p,n,_,_,rfl,p2,by omega,⟨hn0,hn1⟩,λz1 t1 b1 H3 d1 b3 p3=>?_⟩
    have f3:=f2.t (b3.t p2);refine⟨u.x,z1,u.a,u.b,t1,b1,rfl,f3.dx.at_,d1.at_,⟨ai f3.dx.bt (by decide),ai f3.dx.bb (by decide),ai d1.bt (by decide),ai d1.bb (by decide)⟩,?_⟩;obtain⟨zx,tx,bx,ez,dxx,hx⟩:∃(zx:Addr) (tx bx:Int),(if ltB t1 b1 u.a u.b=true then z1 else u.x)=zx/\Dp H3 zx tx bx n wy/\¬u.a*bx<tx*u.b:=by
     split
     ·rename_i hh
      exact⟨z1,t1,b1,rfl,d1,by have:=bH hh;omega⟩
     ·exact⟨u.x,u.a,u.b,rfl,f3.dx,by omega⟩
    dsimp only;rw[ez];refine⟨_,rfl,_,rfl,_,rfl,_,rfl,p,m,_,_,rfl,p3,by omega,⟨hm0,hm1⟩,λz2 t2 b2' H4 d2 b4 p4=>?_⟩;have f4:=f3.t (b4.t p3);refine⟨u.y,z2,u.c,u.d,t2,b2',rfl,f4.dy.at_,d2.at_,⟨ai f4.dy.bt (by decide),ai f4.dy.bb (by decide),ai d2.bt (by decide),ai d2.bb (by decide)⟩,?_⟩;obtain⟨zy,ty,by_,ey,dyy,hy⟩:∃(zy:Addr) (ty by_:Int),(if ltB u.c u.d t2 b2'=true then z2 else u.y)=zy/\Dp H4 zy ty by_ m wy/\¬ty*u.d<u.c*by_:=by
     split
     ·rename_i hh
      exact⟨z2,t2,b2',rfl,d2,by have:=bH hh;omega⟩
     ·exact⟨u.y,u.c,u.d,rfl,f4.dy,by omega⟩
    dsimp only;rw[ey];refine⟨sz (by simp),λpp H5 s5 f5 _=>?_⟩;exact q ⟨pp,zx,zy,tx,bx,ty,by_⟩ H5 ⟨f5,(dxx.t' (b4.t p3)).t' s5.t,dyy.t' s5.t,λz=>absurd z hf⟩ (gb hf hx hy λz=>⟨fu.dx.hop z,fu.dy.hop z,dxx.hop z,dyy.hop z⟩) (b2.trans (b3.trans (b4.trans (But.of s5)))) ((p4.same s5).mono (by omega))
   refine⟨_,rfl,u.x,_,_,_,rfl,rfl,X2,rfl,_,_,rfl,rfl,_,rfl,ay (λc3=>?_) (λc3=>?_)⟩
   ·refine⟨_,rfl,u.y,_,_,_,rfl,rfl,Y2,rfl,_,_,rfl,rfl,_,rfl,ay (λc4=>?_) (λc4=>?_)⟩
    ·refine⟨_,rfl,_,rfl,_,rfl,_,rfl,p,n,_,_,rfl,p2,by omega,⟨hn0,hn1⟩,λz1 t1 b1 H3 d1 b3 p3=>?_⟩
     have f3:=f2.t (b3.t p2);refine⟨u.x,z1,u.a,u.b,t1,b1,rfl,f3.dx.at_,d1.at_,⟨ai f3.dx.bt (by decide),ai f3.dx.bb (by decide),ai d1.bt (by decide),ai d1.bb (by decide)⟩,?_⟩;obtain⟨zx,tx,bx,ez,dxx,hx⟩:∃(zx:Addr) (tx bx:Int),(if ltB t1 b1 u.a u.b=true then z1 else u.x)=zx/\Dp H3 zx tx bx n wy/\¬u.a*bx<tx*u.b:=by
      split
      ·rename_i hh
       exact⟨z1,t1,b1,rfl,d1,by have:=bH hh;omega⟩
      ·exact⟨u.x,u.a,u.b,rfl,f3.dx,by omega⟩
     dsimp only;rw[ez];refine⟨_,rfl,_,rfl,_,rfl,_,rfl,p,m,_,_,rfl,p3,by omega,⟨hm0,hm1⟩,λz2 t2 b2' H4 d2 b4 p4=>?_⟩;have f4:=f3.t (b4.t p3);refine⟨u.y,z2,u.c,u.d,t2,b2',rfl,f4.dy.at_,d2.at_,⟨ai f4.dy.bt (by decide),ai f4.dy.bb (by decide),ai d2.bt (by decide),ai d2.bb (by decide)⟩,?_⟩;obtain⟨zy,ty,by_,ey,dyy,hy⟩:∃(zy:Addr) (ty by_:Int),(if ltB u.c u.d t2 b2'=true then z2 else u.y)=zy/\Dp H4 zy ty by_ m wy/\¬ty*u.d<u.c*by_:=by
      split
      ·rename_i hh
       exact⟨z2,t2,b2',rfl,d2,by have:=bH hh;omega⟩
      ·exact⟨u.y,u.c,u.d,rfl,f4.dy,by omega⟩
     dsimp only;rw[ey];refine⟨sz (by simp),λpp H5 s5 f5 _=>?_⟩;exact q ⟨pp,zx,zy,tx,bx,ty,by_⟩ H5 ⟨f5,(dxx.t' (b4.t p3)).t' s5.t,dyy.t' s5.t,λz=>absurd z hf⟩ (gb hf hx hy λz=>⟨fu.dx.hop z,fu.dy.hop z,dxx.hop z,dyy.hop z⟩) (b2.trans (b3.trans (b4.trans (But.of s5)))) ((p4.same s5).mono (by omega))
    ·exact rd3 tn H2 b2 p2
   ·exact rd3 tn H2 b2 p2
  ·exact rd3 tn H2 b2 p2
theorem zh{f:Int->Int->V}:MR (HQ f):=λx y H Q Q' hq ⟨i,j,e1,e2,k⟩=>⟨i,j,e1,e2,hq _ _ k⟩
theorem yh{K:W.Frag}:MR (Ia K):=λx y H Q Q' hq ⟨p,xs,i,v,e1,e2,h,a,k⟩=>⟨p,xs,i,v,e1,e2,h,a,hq _ _ k⟩
structure FI(H:Hp)(n m:Int)(wy:Str)(ps:List Pr)(q:Pr):Prop where
 all:∀r∈ps++[q],Fp H r n m wy
 st:aV wy (ps++[q])=true
theorem gh{w:Str}{v:Pr}{ys:List Pr}:∀xs:List Pr,aV w (xs++[v])=true->aV w (v::ys)=true->aV w (xs++v::ys)=true
 | [],_,h=>h
 | [a],h,g=>by
  have h':(cT w a v && aV w [v])=true:=h;rw[Bool.and_eq_true]at h';show(cT w a v && aV w (v::ys))=true;rw[h'.1,g];rfl
 | a::b::r,h,g=>by
  have h':(cT w a b && aV w (b::r++[v]))=true:=h;rw[Bool.and_eq_true]at h';show(cT w a b && aV w (b::r++v::ys))=true;rw[h'.1,gh (b::r) h'.2 g];rfl
theorem FI.last{H:Hp}{n m:Int}{wy:Str}{ps:List Pr}{q:Pr}(F:FI H n m wy ps q):Fp H q n m wy:=F.all q (by simp)
theorem FI.t{H H':Hp}{n m:Int}{wy:Str}{ps:List Pr}{q:Pr}(F:FI H n m wy ps q)(s:SameT H H'):FI H' n m wy ps q:=⟨λr hr=>(F.all r hr).t s,F.st⟩
theorem FI.step{H H':Hp}{n m:Int}{wy:Str}{ps:List Pr}{q r:Pr}(F:FI H n m wy ps q)(s:SameT H H')(fr:Fp H' r n m wy)(h:cT wy q r=true):FI H' n m wy (ps++[q]) r:=by
 refine⟨λz hz=>?_,?_⟩
 ·rcases List.mem_append.mp hz with hz|hz
  ·exact(F.all z hz).t s
  ·rw[List.mem_singleton.mp hz]
   exact fr
 ·rw[List.append_assoc]
  refine gh ps F.st ?_;show(cT wy q r && aV wy [r])=true;rw[h];rfl
theorem FI.pairs{H:Hp}{l:Addr}{n m:Int}{wy:Str}{ps:List Pr}{q:Pr}(F:FI H n m wy ps q)(e:H l=some (.lst (prs (ps++[q])))):Am H l (ps++[q]):=⟨e,λr hr=>(Dp.pr (F.all r hr).e (F.all r hr).dx (F.all r hr).dy).1⟩
theorem FI.join{H:Hp}{n m:Int}{wy:Str}{ps qs xs:List Pr}{q v:Pr}(F:FI H n m wy ps q)(G:FI H n m wy qs v)(e:q::xs=qs++[v]):FI H n m wy (ps++qs) v:=by
 have h:=F.st;have g:=G.st;rw[<- e]at g;refine⟨λz hz=>?_,?_⟩
 ·rw[List.append_assoc]at hz
  rcases List.mem_append.mp hz with hz|hz
  ·exact F.all z (by simp[hz])
  ·exact G.all z hz
 ·rw[List.append_assoc,<- e]
  exact gh ps h g
theorem Fp.self{H:Hp}{n m:Int}{wy:Str}{q:Pr}(f:Fp H q n m wy):cT wy q q=true:=by
 have ub:(0:Int)<q.b:=f.dx.low.pos;have ud:(0:Int)<q.d:=f.dy.low.pos;have sX:aK q.a q.b q.a q.b=true:=bU (k:=q.a / q.b) ub ub (ck ub) (by have:=cH (a:=q.a) ub;omega) (ck ub) (by have:=cH (a:=q.a) ub;omega);have sY:aK q.c q.d q.c q.d=true:=bU (k:=q.c / q.d) ud ud (ck ud) (by have:=cH (a:=q.c) ud;omega) (ck ud) (by have:=cH (a:=q.c) ud;omega)
 by_cases hf:wy=aM
 ·have nh:¬wy=aB:=λz=>absurd (z.symm.trans hf) (by decide)
  rcases f.fr hf with h1|h1
  ·exact dH h1 rfl rfl sY (λz=>absurd z nh)
  ·exact eQ h1 rfl rfl sX (λz=>absurd z nh)
 ·exact gb hf (by omega) (by omega) λz=>⟨f.dx.hop z,f.dy.hop z,f.dx.hop z,f.dy.hop z⟩
structure Ix(n m:Int)(w:Str)(ps:List Pr):Prop where
 fence:bh n m w ps=true
 self:∀q∈ps,cT w q q=true
theorem jm{n m:Int}{w:Str}{L:List Pr}:bh n m w L=true↔∃f l,L.head? = some f/\L.getLast? = some l/\L.all (inB n m)=true/\(if w=aB then L.all bq else true)=true/\dY n m w f l=true/\aV w L=true:=by
 cases L with
 | nil=>simp[bh]
 | cons f r =>
  rw[ce,Bool.and_eq_true,Bool.and_eq_true,Bool.and_eq_true];constructor
  ·rintro⟨h1,h2,h3,h4⟩
   exact⟨f,_,rfl,List.getLast?_eq_some_getLast (by simp),h1,h2,h3,h4⟩
  ·rintro⟨f',l,e1,e2,h1,h2,h3,h4⟩
   cases e1;rw[List.getLast?_eq_some_getLast (by simp)]at e2;cases e2;exact⟨h1,h2,h3,h4⟩
theorem FI.good{H:Hp}{n m:Int}{wy:Str}{qs:List Pr}{v:Pr}(F:FI H n m wy qs v)(h1:∀f,(qs++[v]).head? = some f->e1B m wy f=true)(h2:e2B n wy v=true):Ix n m wy (qs++[v]):=by
 refine⟨jm.mpr ?_,λq hq=>(F.all q hq).self⟩;have hi:(qs++[v]).all (inB n m)=true:=List.all_eq_true.mpr λq hq=>(Dp.pr (F.all q hq).e (F.all q hq).dx (F.all q hq).dy).2.1;have hw:(if wy=aB then (qs++[v]).all bq else true)=true:=by
  by_cases z:wy=aB
  ·rw[if_pos z]
   refine List.all_eq_true.mpr λq hq=>?_;unfold bq;rw[(F.all q hq).dx.hop z,(F.all q hq).dy.hop z];rfl
  ·rw[if_neg z]
 cases ef:(qs++[v]).head? with
 | none=>simp at ef
 | some f =>
  refine⟨f,v,rfl,by simp,hi,hw,?_,F.st⟩;rw[vi,h1 f ef,h2];rfl
theorem nK(qs:List Pr)(v:Pr):atI (prs (qs++[v])) (-1)=some (.ref v.p):=by
 cases qs with
 | nil=>exact iW v []
 | cons f r =>
  have h:=iW f (r++[v]);have e:(f::(r++[v])).getLast (List.cons_ne_nil _ _)=v:=fA (ps:=f::r) _;rw[e]at h;exact h
noncomputable def muD(H:Hp)(z:V):Nat:=match z with
 | .ref p=>match H p with
  | some (.tup [.int t,.int b])=>((t - 1) / b+1).toNat
  | _=>0
 | _=>0
theorem uC{H:Hp}{z:Addr}{t b:Int}(e:H z=some (.tup [.int t,.int b])):muD H (.ref z)=((t - 1) / b+1).toNat:=by simp only[muD,e]
inductive Eo (vs:List V) (H:Hp) (Q:VK) (x_3:XK):Prop
 | mk:∀(u:Pr) (n m:Int) (wy:Str),(vs = [.ref u.p,.int n,.str wy])->((0<=n/\n<=50))->((0<=m/\m<=20))->(Fp H u n m wy)->(∀(l:Addr) (qs ps:List Pr) (v:Pr) (H':Hp),u::ps=qs++[v]->H' l=some (.lst (prs ps))->FI H' n m wy qs v->v.c=0/\v.d=1->ps.length<=30->H l=none->Same H H'->Q (.ref l) H')->Eo vs H Q x_3
inductive Ey (vs:List V) (H:Hp) (Q:VK) (x_3:XK):Prop
 | mk:∀(p:Addr) (n m k:Int) (w:Str),(vs = [.ref p,.int n,.int m,.str w])->(Pot H p k)->(k<=400000)->((0<=n/\n<=20))->((0<=m/\m<=20))->(∀(l:Addr) (ps:List Pr) (H':Hp),Am H' l ps->Ix n m w ps->ps.length<=60->H l=none->But p H H'->Pot H' p (k+500)->Q (.ref l) H')->Ey vs H Q x_3
theorem Bu:Ah ["pair","n","way","x","y","more"] ["pair","n","way"] (ag (top 117)):=smk
theorem na(Gh:Df K mg "_law_ended" (top 117))(T:Txt mg):Fn P w K mg base "_law_ended" ["pair","n","way"] 2 Eo:=by
 refine Gh.fn Bu (λ_ _ _ _ _ _ us hl=>by obtain⟨_,_,_,rfl⟩:=je hl;rfl) (λvs H Q E h=>?_) (λf cdv A outer s H vs Q E hr h=>?_)
 ·obtain⟨u,n,m,wy,rfl,_⟩:=h
  rfl
 ·obtain⟨u,n,m,wy,rfl,⟨hn0,hn1⟩,⟨hm0,hm1⟩,fu,q⟩:=h
  have R:∃u',PSs (aG CX0 P w K mg base ["pair","n","way","x","y","more"] "_law_ended" (ag (top 117)) f cdv A outer s H E).nox ((ax (top 117)).drop 3) u'/\∀(H3:Hp) (l:Addr) (v:Pr) (qs ps:List Pr),Same H H3->H l=none->H3 l=some (.lst (prs ps))->FI H3 n m wy qs v->u::ps=qs++[v]->v.b=1->ps.length<=1->u' { nx:=λ_ H'=>Q .non H',rt:=Q } [some (.ref u.p),some (.int n),some (.str wy),some (.ref v.x),some (.ref v.y),some (.ref l)] H3:=by
   refine⟨_,(af (ir PassesOwn.never (ap eM (aj am (pv 4) ac (λ_ _=>rfl)) ac (ar _)) (af (aq (i:=4) Bu.nd rfl (Or.inl rfl) (aA (aa (aw ca (aw bE (aj am (pv 4) ac (λ_ _=>rfl)) ac) (aj am (pv 4) ac (λ_ _=>rfl))) (aa ac ae)))) (ah (de (dU PySem.F.plainAttrs_list PySem.F.slot_list_append PySem.F.type_list_append cO (pv 5) (aa (aA (aa (pv 3) (aa (pv 4) ae))) ae)))))) (ah (ak (pv 5)))),λH3 l v qs ps s3 nl el fi hu hb hl=>?_⟩;have cap:∀{H4:Hp} {v:Pr},Fp H4 v n m wy->(v.c - 1) / v.d+1<=m/\(0<v.c->0<=(v.c - 1) / v.d):=λ{H4 v} f=>by
    have hd:(0:Int)<v.d:=f.dy.low.pos;have h1:=f.dy.n1;have h2:(v.c - 1) / v.d<m:=Int.ediv_lt_of_lt_mul hd (by omega);exact⟨by omega,λh=>Int.ediv_nonneg (by omega) (by omega)⟩
   refine im (λσ H4=>∃(v:Pr) (qs ps:List Pr),σ = [some (.ref u.p),some (.int n),some (.str wy),some (.ref v.x),some (.ref v.y),some (.ref l)]/\Same H H4/\H4 l=some (.lst (prs ps))/\FI H4 n m wy qs v/\u::ps=qs++[v]/\v.b=1/\(ps.length:Int)+((v.c - 1) / v.d+1)<=21)
    (λσ H4=>match σ with | [_,_,_,_,some z,_]=>muD H4 z|_=>0)
    ⟨v,qs,ps,rfl,s3,el,fi,hu,hb,by have:=(cap fi.last).1;omega⟩ ?_ ?_
   ·rintro σ H4 ⟨v,qs,ps,rfl,s4,el,fi,hu,hb,hl⟩
    have fv:=fi.last;have hd:(0:Int)<v.d:=fv.dy.low.pos;have Y:=SqT.of (K:=K) fv.dy.at_;refine⟨_,rfl,v.y,_,_,_,rfl,rfl,Y,rfl,_,_,rfl,rfl,_,rfl,ay (λc1=>?_) (λc1=>?_)⟩
    ·have c1:0<v.c:=bH c1
     have k0:=(cap fv).2 c1;have k1:=(cap fv).1;have j1:=ck (a:=v.c - 1) hd;have j2:=cH (a:=v.c - 1) hd;refine⟨_,rfl,v.y,_,_,_,rfl,rfl,Y,rfl,_,_,rfl,rfl,_,rfl,v.y,_,_,_,rfl,rfl,Y,rfl,_,_,rfl,rfl,⟨hd,ai fv.dy.bb (by decide)⟩,sz (by simp),λzy H5 s5 f5 n5=>?_⟩;refine⟨_,rfl,.inl ⟨rfl,_,SqL.of (s5 _ _ el)⟩,_,rfl,_,rfl,sz (by simp),λpp H6 s6 f6 n6=>?_⟩;refine⟨l,_,_,rfl,rfl,s6 _ _ (s5 _ _ el),bJ (by rw[a7];omega),λH7 u7=>?_⟩;have f5:H5 zy=some (.tup [.int ((v.c - 1) / v.d),.int 1]):=f5;generalize ek:(v.c - 1) / v.d=kk at *;have s46:SameT H4 H7:=λa xs e=>u7.t _ _ (s6 _ _ (s5 _ _ e));have dy7:Dp H7 zy kk 1 m wy:=⟨u7.t _ _ (s6 _ _ f5),⟨by decide,Int.gcd_one⟩,k0,by omega,ai (bi (by omega) (by omega)) (by decide),by decide,λ_=>rfl⟩;have f7:Fp H7 ⟨pp,v.x,zy,v.a,v.b,kk,1⟩ n m wy:=⟨u7.t _ _ f6,fv.dx.t' s46,dy7,λ_=>.inl hb⟩;have j3:v.c<=(kk+1)*v.d:=by omega
     have sh:aK v.c v.d kk 1=true:=bU (k:=kk) hd (by decide) (by omega) j3 (by omega) (by omega);have hm:cT wy v ⟨pp,v.x,zy,v.a,v.b,kk,1⟩=true:=dH hb rfl rfl sh (λz=>by
      have e:=fv.dy.hop z;rw[e,Int.ediv_one]at ek;show v.c - kk<=1;omega)
     refine⟨⟨⟨pp,v.x,zy,v.a,v.b,kk,1⟩,qs++[v],ps++[⟨pp,v.x,zy,v.a,v.b,kk,1⟩],rfl,u7.same (s4.trans (s5.trans s6)) nl,by rw[u7.now];unfold prs;rw[List.map_append];rfl,fi.step s46 f7 hm,?_,hb,?_⟩,?_⟩
     ·rw[<- hu];rfl
     ·rw[List.length_append]
      simp only[List.length_cons,List.length_nil];show((ps.length+1:Nat):Int)+((kk - 1) / 1+1)<=21;rw[Int.ediv_one];omega
     ·show muD H7 (.ref zy)<muD H4 (.ref v.y)
      rw[uC f7.dy.at_,uC fv.dy.at_,ek];show((kk - 1) / 1+1).toNat<_;rw[Int.ediv_one];omega
    ·have c1:¬0<v.c:=dn c1
     have c0:v.c=0:=by have:=fv.dy.n0;omega
     have d1:v.d=1:=by
      have h:=fv.dy.low.one;rw[c0,Int.gcd_zero_left]at h;omega
     exact⟨_,rfl,q l qs ps v H4 hu el fi ⟨c0,d1⟩ (by have:=(cap fv).1;rw[c0,d1]at hl;omega) nl s4⟩
   ·exact jI (oE zh (oE yh jc uG) uG)
  obtain⟨u',hu',fin⟩:=R;refine⟨_,(af (hZ (pv 0) (fY rfl (bG (aZ (i:=3) Bu.nd rfl (Or.inl rfl)) (bG (aZ (i:=4) Bu.nd rfl (Or.inl rfl)) eg)))) (af (aq (i:=5) Bu.nd rfl (Or.inl rfl) (cK ae)) (af (aC (ap eM (aj am (pv 3) ac (λ_ _=>rfl)) ac (ar _)) (@af _ _ _ _ _ (@aq _ _ 3 _ _ _ _ Bu.nd rfl (Or.inl rfl) (@aj _ _ _ _ _ _ _ aF (@cK _ _ _ _ (@aa _ _ _ _ _ (@aA _ _ _ _ _ (@aa _ _ _ _ _ (aw ca (aj am (pv 3) ac (λ_ _=>rfl)) (aj am (pv 3) ac (λ_ _=>rfl))) (@aa _ _ _ _ _ ac ae (by rfl)) (by rfl))) (@aa _ _ _ _ _ (@aA _ _ _ _ _ (@aa _ _ _ _ _ (aw bP (aw ca (aj am (pv 3) ac (λ_ _=>rfl)) (aj am (pv 3) ac (λ_ _=>rfl))) ac) (@aa _ _ _ _ _ ac ae (by rfl)) (by rfl))) ae (by rfl)) (by rfl))) (gG tD (by rfl) T.z_int qM (aa (aR aQ (pv 2) aE (ar _)) ae)) (λ_ _=>rfl)) (by rfl) (by first|exact .inl rfl|exact .inr rfl|assumption)) (ah (de (dU PySem.F.plainAttrs_list PySem.F.slot_list_append PySem.F.type_list_append cO (pv 5) (aa (aA (aa (pv 3) (aa (pv 4) ae))) ae))))) av) hu'))),?_⟩
  have ub:(0:Int)<u.b:=fu.dx.low.pos;have ud:(0:Int)<u.d:=fu.dy.low.pos;refine⟨_,rfl,u.p,_,rfl,SqT.of fu.e,rfl,_,_,rfl,_,_,rfl,rfl,?_⟩;refine⟨sz (by simp),λl H1 s1 f1 n1=>?_⟩;have fu1:=fu.t s1.t;have X1:=SqT.of (K:=K) fu1.dx.at_;refine⟨_,rfl,u.x,_,_,_,rfl,rfl,X1,rfl,_,_,rfl,rfl,_,rfl,ay (λc1=>?_) (λc1=>?_)⟩
  ·have c1:1<u.b:=bH c1
   have nb:u.b≠1:=by omega
   have nh:¬wy=aB:=λz=>nb (fu.dx.hop z);have bb:au u.b<=8000:=ai fu.dx.bb (by decide);have j1:=ck (a:=u.a) ub;have j2:=cH (a:=u.a) ub;have k0:=gi ub fu.dx.n0;have k1:=fD ub fu.dx.n1;have k2:u.a / u.b<n:=by
    by_cases c:u.a / u.b=n
    ·exact absurd (jP fu.dx.low fu.dx.n1 c).2 nb
    ·omega
   have go:∀(H5:Hp) (z:Addr) (t:Int),Same H1 H5->H5 z=some (.tup [.int t,.int 1])->0<=t->t<=n->(∀pp,cT wy u ⟨pp,z,u.y,t,1,u.c,u.d⟩=true)->(su (tV (tBM K "list" Dt (BF 5) (cF (nX (cF (BF 3) (cF (BF 4) i3))) i3))) u') { nx:=λ_ H'=>Q .non H',rt:=Q } [some (.ref u.p),some (.int n),some (.str wy),some (.ref z),some (.ref u.y),some (.ref l)] H5:=by
    intro H5 z t s5 e5 t0 t1 hm;refine⟨_,rfl,.inl ⟨rfl,_,SqL.of (s5 _ _ f1)⟩,_,rfl,_,rfl,sz (by simp),λpp H6 s6 f6 n6=>?_⟩;refine⟨l,_,_,rfl,rfl,s6 _ _ (s5 _ _ f1),bJ (by simp),λH7 u7=>?_⟩;have s17:SameT H1 H7:=λa xs e=>u7.t _ _ (s6 _ _ (s5 _ _ e));have fu7:=fu1.t s17;have dx7:Dp H7 z t 1 n wy:=⟨u7.t _ _ (s6 _ _ e5),⟨by decide,Int.gcd_one⟩,t0,by omega,ai (bi (by omega) (by omega)) (by decide),by decide,λ_=>rfl⟩;have f7:Fp H7 ⟨pp,z,u.y,t,1,u.c,u.d⟩ n m wy:=⟨u7.t _ _ f6,dx7,fu7.dy,λ_=>.inl rfl⟩;have fi:FI H7 n m wy [] u:=⟨λr hr=>by rw[List.mem_singleton.mp hr];exact fu7,rfl⟩;exact fin H7 l ⟨pp,z,u.y,t,1,u.c,u.d⟩ [u] [⟨pp,z,u.y,t,1,u.c,u.d⟩] (u7.same (s1.trans (s5.trans s6)) n1) n1 (by rw[u7.now];rfl) (fi.step (λ_ _ e=>e) f7 (hm pp)) rfl rfl (by simp)
   refine⟨_,rfl,u.x,_,_,_,rfl,rfl,X1,rfl,_,rfl,u.x,_,_,_,rfl,rfl,X1,rfl,_,_,rfl,rfl,⟨ub,bb⟩,sz (by simp),λt1 H2 s2 f2 n2=>?_⟩;have X2:=SqT.of (K:=K) (s2 _ _ fu1.dx.at_);refine⟨_,rfl,u.x,_,_,_,rfl,rfl,X2,rfl,_,rfl,u.x,_,_,_,rfl,rfl,X2,rfl,_,_,rfl,rfl,⟨ub,bb⟩,_,_,rfl,rfl,sz (by simp),λt2 H3 s3 f3 n3=>?_⟩;refine⟨sz (by simp),λlm H4 s4 f4 n4=>?_⟩;refine⟨_,rfl,rfl,.inr ⟨_,rfl,?_⟩⟩;have S4:Same H1 H4:=s2.trans (s3.trans s4)
   by_cases hf:wy=aM
   ·have ed:decide (V.str wy=V.str (Str.ofString "free"))=true:=decide_eq_true (by rw[hf];rfl)
    rw[ed];refine⟨lm,_,_,_,rfl,rfl,SqL.of f4,rfl,?_⟩;have hd:u.d=1:=by
     rcases fu.fr hf with h|h
     ·exact absurd h nb
     ·exact h
    have sh:aK u.a u.b (u.a / u.b+1) 1=true:=bU (k:=u.a / u.b) ub (by decide) j1 (by omega) (by omega) (by omega);exact go H4 t2 (u.a / u.b+1) S4 (s4 _ _ f3) (by omega) (by omega) λpp=>eQ hd rfl rfl sh λz=>absurd z nh
   ·have ed:decide (V.str wy=V.str (Str.ofString "free"))=false:=decide_eq_false (λz=>hf (by cases z;rfl))
    rw[ed];refine⟨lm,_,_,_,rfl,rfl,SqL.of f4,rfl,?_⟩;exact go H4 t1 (u.a / u.b) S4 (s4 _ _ (s3 _ _ f2)) (by omega) (by omega) λpp=>gb hf (by show ¬u.a*1<u.a / u.b*u.b;omega) (by show ¬u.c*u.d<u.c*u.d;omega) λz=>absurd z nh
  ·have hb1:u.b=1:=by have:=dn c1;omega
   exact fin H1 l u [] [] s1 n1 f1 ⟨λr hr=>by rw[List.mem_singleton.mp hr];exact fu1,rfl⟩ rfl hb1 (by simp)
theorem Au:Ah ["pot","n","m","way","pair","fence","turn"] ["pot","n","m","way"] (ag (top 118)):=smk
theorem il(DD:Df K mg "_law_drawn_fence" (top 118))(Ai:Fn P w K mg base "_law_take" ["pot","size"] 1 Dr.spTk)(AQ:Fn P w K mg base "_law_any" ["pot","last","way"] 4 FM)(Dh:Fn P w K mg base "_law_next" ["pot","pair","n","m","way"] 5 Gu)(C3:Fn P w K mg base "_law_ended" ["pair","n","way"] 2 Eo)(T:Txt mg):Fn P w K mg base "_law_drawn_fence" ["pot","n","m","way"] 6 Ey:=by
 refine DD.fn Au (λ_ _ _ _ _ _ us hl=>by obtain⟨_,_,_,_,rfl⟩:=mO hl;rfl) (λvs H Q E h=>?_) (λf cdv A outer s H vs Q E hr h=>?_)
 ·obtain⟨p,n,m,k,wy,rfl,_⟩:=h
  rfl
 ·obtain⟨p,n,m,k,wy,rfl,pt,hk,⟨hn0,hn1⟩,⟨hm0,hm1⟩,q⟩:=h
  have R:∃u',PSs (aG CX0 P w K mg base ["pot","n","m","way","pair","fence","turn"] "_law_drawn_fence" (ag (top 118)) f cdv A outer s H E).nox ((ax (top 118)).drop 2) u'/\∀(v:Pr) (H1:Hp),Fp H1 v n m wy->e1B m wy v=true->But p H H1->Pot H1 p (k+45)->u' { nx:=λ_ H'=>Q .non H',rt:=Q } [some (.ref p),some (.int n),some (.int m),some (.str wy),some (.ref v.p),none,none] H1:=by
   refine⟨_,(af (aq (i:=5) Au.nd rfl (Or.inl rfl) (cK (aa (pv 4) ae))) (af (fg PassesOwn.never rfl (gF rfl T.z_range (aa (ao Ai (hr.mono (by decide)) (by rfl) (aa (pv 0) (aa ac ae))) ae)) (aZ (i:=6) Au.nd rfl (Or.inl rfl)) (ah (de (dU PySem.F.plainAttrs_list PySem.F.slot_list_append PySem.F.type_list_append cO (pv 5) (aa (ao Dh (hr.mono (by decide)) (by rfl) (aa (pv 0) (aa (aj aF (pv 5) (iw e8 ac) (λ_ _=>rfl)) (aa (pv 1) (aa (pv 2) (aa (pv 3) ae)))))) ae))))) (af (aC (cb (ap aQ (pv 3) aE (ar _)) (bQ (ap (ja hr.units0) (aj am (aj aF (pv 5) (iw e8 ac) (λ_ _=>rfl)) ac (λ_ _=>rfl)) (aA (aa (pv 1) (aa ac ae))) (ar _)))).pt (ah (aq (i:=5) Au.nd rfl (Or.inl rfl) (aw q9 (pv 5) (ao C3 (hr.mono (by decide)) (by rfl) (aa (aj aF (pv 5) (iw e8 ac) (λ_ _=>rfl)) (aa (pv 1) (aa (pv 3) ae))))))) av) (ah (ak (pv 5)))))),λv H1 f1 hv b1 p1=>?_⟩;refine⟨_,rfl,sz (by simp),λl H3 s3 f3 n3=>?_⟩;have p3:=p1.same s3;have npl:=Pot.ne p1 n3;have nl:H l=none:=b1.none npl n3;have b3:But p H H3:=b1.trans (But.of s3);refine⟨_,rfl,p,_,_,rfl,p3,by omega,⟨by decide,by decide⟩,λr4 H4 a4 b4' b4 p4=>?_⟩;refine⟨_,rfl,by omega,by omega,?_⟩;refine gM (n:=r4.toNat) (lo:=0) (λi σ H5=>∃(qs:List Pr) (w:Pr) (z7:Option V),σ = [some (.ref p),some (.int n),some (.int m),some (.str wy),some (.ref v.p),some (.ref l),z7]/\H5 l=some (.lst (prs (qs++[w])))/\FI H5 n m wy qs w/\(∀f,(qs++[w]).head? = some f->e1B m wy f=true)/\qs.length=i/\But p H H5/\Pot H5 p (k+50+50*(i:Int)))
    ⟨[],v,_,rfl,b4 _ _ npl f3,⟨λr hr=>by rw[List.mem_singleton.mp hr];exact(f1.t s3.t).t (b4.t p3),rfl⟩,λf hf=>by cases hf;exact hv,rfl,b3.trans b4,p4.mono (by omega)⟩ ?_ ?_
   ·rintro i σ H5 hi ⟨qs,w,z7,rfl,e5,F5,hd5,hl,b5,p5⟩
    refine⟨_,rfl,.inl ⟨rfl,_,SqL.of e5⟩,_,rfl,_,rfl,_,rfl,l,_,_,_,rfl,rfl,SqL.of e5,nK qs w,_,rfl,_,rfl,_,rfl,p,w,n,m,_,wy,rfl,p5,by omega,⟨hn0,by omega⟩,⟨hm0,by omega⟩,F5.last,λr H6 f6 h6 b6 p6=>?_⟩;have e6:=b6 _ _ npl e5;refine⟨l,_,_,rfl,rfl,e6,bJ (by rw[a7,List.length_append];simp only[List.length_cons,List.length_nil];omega),λH7 u7=>?_⟩;refine⟨qs++[w],r,_,rfl,by rw[u7.now];unfold prs;rw[List.map_append (l₁:=qs++[w])];rfl,(F5.t (b6.t p5)).step u7.t (f6.t u7.t) h6,λf hf=>hd5 f ?_,by simp[hl],λb o nb e=>?_,?_⟩
    ·cases qs with
     | nil=>exact hf
     | cons a b=>exact hf
    ·exact u7.at (λz=>by subst z;rw[nl]at e;cases e) (b6 b o nb (b5 b o nb e))
    ·obtain⟨x,y,z,ep,rest⟩:=p6.mono (k':=k+50+50*((i+1:Nat):Int)) (by omega)
     exact⟨x,y,z,u7.at (Ne.symm npl) ep,rest⟩
   ·rintro σ H5 ⟨qs,w,z7,rfl,e5,F5,hd5,hl,b5,p5⟩
    have hq8:qs.length<=7:=by omega
    have more:∀(H6:Hp),Same H5 H6->(su (nY (tOp HR (BF 5) (fL Eo [] E0 (cF (tOp (HP K) (BF 5) (tUn (rU λi=>V.int (-i)) (tC (V.int 1)))) (cF (BF 1) (cF (BF 3) i3))))) (hU 5)) (pQ (BF 5))) { nx:=λ_ H'=>Q .non H',rt:=Q } [some (.ref p),some (.int n),some (.int m),some (.str wy),some (.ref v.p),some (.ref l),z7] H6:=by
     intro H6 s6;refine⟨_,rfl,_,rfl,_,rfl,l,_,_,_,rfl,rfl,SqL.of (s6 _ _ e5),nK qs w,_,rfl,_,rfl,w,n,m,wy,rfl,⟨hn0,by omega⟩,⟨hm0,hm1⟩,F5.last.t s6.t,λl2 qs2 ps2 v2 H7 e7 el7 F7 hz hl7 n7 s7=>?_⟩;refine⟨l,l2,_,_,rfl,rfl,s7 _ _ (s6 _ _ e5),el7,sz (by rw[a7,a7,List.length_append];simp only[List.length_cons,List.length_nil];omega),λl3 H8 s8 f8 n8=>?_⟩;have F8:=FI.join (F5.t (s6.trans (s7.trans s8)).t) (F7.t s8.t) e7;have ef:prs (qs++[w])++prs ps2=prs (qs++qs2++[v2]):=by
      rw[List.append_assoc,<- e7];unfold prs;simp
     have B7:But p H H7:=b5.trans (But.of (s6.trans s7));have p7:=p5.same (s6.trans s7);refine⟨_,rfl,q l3 _ H8 (F8.pairs (by rw[<- ef];exact f8)) (F8.good (λf hf=>hd5 f ?_) ?_) ?_ (B7.none (Pot.ne p7 n8) n8) (B7.trans (But.of s8)) ((p7.same s8).mono (by omega))⟩
     ·rw[List.append_assoc,<- e7]at hf
      cases qs with
      | nil=>exact hf
      | cons a b=>exact hf
     ·unfold e2B isP
      rw[hz.1,hz.2];simp
     ·have:=congrArg List.length e7
      simp only[List.length_cons,List.length_append,List.length_nil]at this ⊢;omega
    refine⟨_,rfl,rfl,_,rfl,ay (λc1=>?_) (λc1=>?_)⟩
    ·exact more H5 (Same.refl _)
    refine⟨_,rfl,_,rfl,l,_,_,_,rfl,rfl,SqL.of e5,nK qs w,w.p,_,_,_,rfl,rfl,SqT.of F5.last.e,rfl,_,rfl,sz (by simp),λt2 H6 s6 f6 _=>?_⟩;refine⟨w.x,t2,[w.a,w.b],[n,1],rfl,rfl,SqT.of (s6 _ _ F5.last.dx.at_),SqT.of f6,_,rfl,?_⟩;show if (!decide ([w.a,w.b] = [n,1]))=true then _ else _
    refine ay (λc2=>?_) (λc2=>?_)
    ·exact more H6 s6
    have c2:w.a=n/\w.b=1:=by simpa using c2
    have c1:ptB wy=false:=ds c1;refine⟨_,rfl,q l _ H6 ((F5.t s6.t).pairs (s6 _ _ e5)) (F5.good hd5 ?_) ?_ nl (b5.trans (But.of s6)) ((p5.same s6).mono (by omega))⟩
    ·unfold e2B isP
     rw[c1,c2.1,c2.2];simp
    ·simp only[List.length_append,List.length_cons,List.length_nil]
     omega
  obtain⟨u',hu',fin⟩:=R;refine⟨_,(af (aq (i:=4) Au.nd rfl (Or.inl rfl) (@aA _ _ _ _ _ (@aa _ _ _ _ _ (ao AQ (hr.mono (by decide)) (by rfl) (aa (pv 0) (aa (pv 1) (aa (pv 3) ae)))) (@aa _ _ _ _ _ (@aA _ _ _ _ _ (@aa _ _ _ _ _ (pv 2) (@aa _ _ _ _ _ ac ae (by rfl)) (by rfl))) ae (by rfl)) (by rfl)))) (af (aC (bK (ap dw (pv 3) aE (ar _)) (bV (ap aQ (ao Ai (hr.mono (by decide)) (by rfl) (aa (pv 0) (aa ac ae))) ac (ar _)))).pt (ah (aq (i:=4) Au.nd rfl (Or.inl rfl) (@aA _ _ _ _ _ (@aa _ _ _ _ _ (@aA _ _ _ _ _ (@aa _ _ _ _ _ ac (@aa _ _ _ _ _ ac ae (by rfl)) (by rfl))) (@aa _ _ _ _ _ (ao AQ (hr.mono (by decide)) (by rfl) (aa (pv 0) (aa (pv 2) (aa (pv 3) ae)))) ae (by rfl)) (by rfl))))) av) hu')),?_⟩;refine⟨_,rfl,_,rfl,_,rfl,p,n,_,wy,rfl,pt,by omega,⟨hn0,by omega⟩,λz t b H1 d1 b1 p1=>?_⟩;refine⟨_,rfl,sz (by simp),λzm H2 s2 f2 _=>?_⟩;refine⟨sz (by simp),λpp H3 s3 f3 _=>?_⟩;have S3:Same H1 H3:=s2.trans s3;have p3:=p1.same S3;have b3:But p H H3:=b1.trans (But.of S3);have dm:Dp H3 zm m 1 m wy:=⟨s3 _ _ f2,⟨by decide,Int.gcd_one⟩,hm0,by omega,ai (bi (by omega) (by omega)) (by decide),by decide,λ_=>rfl⟩;have fp:Fp H3 ⟨pp,z,zm,t,b,m,1⟩ n m wy:=⟨f3,d1.t' S3.t,dm,λ_=>.inr rfl⟩;have ep:e1B m wy ⟨pp,z,zm,t,b,m,1⟩=true:=by
   unfold e1B isP;simp
  refine⟨_,rfl,rfl,_,rfl,ay (λc1=>?_) (λc1=>?_)⟩
  ·have c1:ptB wy=false:=ds (show decide (V.str wy=V.str (Str.ofString "part"))=false by simpa only[Bool.not_eq_true']using c1)
   refine⟨_,rfl,p,_,_,rfl,p3,by omega,⟨by decide,by decide⟩,λr4 H4 _ _ b4 p4=>?_⟩;refine⟨rfl,_,rfl,ay (λc2=>?_) (λc2=>?_)⟩
   ·refine⟨sz (by simp),λz0 H5 s5 f5 _=>?_⟩
    have p5:=p4.same s5;refine⟨_,rfl,_,rfl,_,rfl,p,m,_,wy,rfl,p5,by omega,⟨hm0,by omega⟩,λz2 t2 b2 H6 d6 b6 p6=>?_⟩;refine⟨sz (by simp),λpq H7 s7 f7 _=>?_⟩;have d0:Dp H5 z0 0 1 n wy:=⟨f5,⟨by decide,by decide⟩,by decide,by omega,by decide,by decide,λ_=>rfl⟩;have e0:e1B m wy ⟨pq,z0,z2,0,1,t2,b2⟩=true:=by
     unfold e1B isP;rw[c1];simp
    exact fin ⟨pq,z0,z2,0,1,t2,b2⟩ H7 ⟨f7,(d0.t' (b6.t p5)).t' s7.t,d6.t' s7.t,λ_=>.inl rfl⟩ e0 (b3.trans (b4.trans ((But.of s5).trans (b6.trans (But.of s7))))) ((p6.same s7).mono (by omega))
   ·exact fin _ H4 (fp.t (b4.t p3)) ep (b3.trans b4) (p4.mono (by omega))
  ·exact fin _ H3 fp ep b3 (p3.mono (by omega))
inductive GB (vs:List V) (H:Hp) (Q:VK) (x_3:XK):Prop
 | mk:∀(p:Addr) (k:Int),(vs = [.ref p])->(Pot H p k)->(k<=600000)->(∀(wy:Str) (H':Hp),eB wy->But p H H'->Pot H' p (k+1)->Q (.str wy) H')->GB vs H Q x_3
inductive Ev (vs:List V) (H:Hp) (Q:VK) (x_3:XK):Prop
 | mk:∀(a:Addr) (cs:List Int),(vs = [.ref a,.int 3])->(H a=some (.lst (cs.map V.int)))->(cs.length<=100)->(∀(r:Addr) (zs:List Int) (H':Hp),H' r=some (.lst (zs.map V.int))->Same H H'->Q (.ref r) H')->Ev vs H Q x_3
theorem mG{H:Hp}:∀{ps rs:List Pr},(∀q∈ps,PrAt H q)->(∀q∈rs,PrAt H q)->prs ps=prs rs->ps=rs
 | [],[],_,_,_=>rfl
 | [],b::s,_,_,e=>by cases e
 | a::r,[],_,_,e=>by cases e
 | a::r,b::s,h1,h2,e=>by
  have e':V.ref a.p::prs r=V.ref b.p::prs s:=e;injection e' with e1 e2;have ih:=mG (λq hq=>h1 q (List.mem_cons_of_mem _ hq)) (λq hq=>h2 q (List.mem_cons_of_mem _ hq)) e2;have ha:=h1 a List.mem_cons_self;have hb:=h2 b List.mem_cons_self;injection e1 with e1;obtain⟨p,x,y,a1,a2,a3,a4⟩:=a;obtain⟨p',x',y',b1,b2,b3,b4⟩:=b;dsimp only at e1;subst e1;have q1:=ha.p_;rw[hb.p_]at q1;simp only[Option.some.injEq,HO.tup.injEq,List.cons.injEq,V.ref.injEq,and_true]at q1;obtain⟨rfl,rfl⟩:=q1;have q2:=ha.x_;rw[hb.x_]at q2;have q3:=ha.y_;rw[hb.y_]at q3;simp only[Option.some.injEq,HO.tup.injEq,List.cons.injEq,V.int.injEq,and_true]at q2 q3;obtain⟨rfl,rfl⟩:=q2;obtain⟨rfl,rfl⟩:=q3;rw[ih]
theorem l9{n m:Int}{w:Str}{H:Hp}{l:Addr}{ps:List Pr}{b:Bool}(P:Am H l ps)(h:vk n m w H (.ref l) b):b=bh n m w ps:=by
 rcases h with⟨h1,rfl⟩|⟨l',rs,e,P',rfl⟩
 ·rw[P.pv]at h1
  cases ps with
  | nil=>rfl
  | cons f r =>
   rw[ce,show(f::r).all (inB n m)=false from h1,Bool.false_and]
 ·cases e
  have e2:=P.lst;rw[P'.lst]at e2;have e3:prs rs=prs ps:=by injection e2 with e2;injection e2
  rw[mG P'.pr P.pr e3]
theorem Ea:Ah ["pot"] ["pot"] (ag (top 119)):=smk
theorem jk(Ef:Df K mg "_law_drawn_way" (top 119))(Ai:Fn P w K mg base "_law_take" ["pot","size"] 1 Dr.spTk):Fn P w K mg base "_law_drawn_way" ["pot"] 2 GB:=by
 refine Ef.fn Ea (λ_ _ _ _ _ _ us hl=>by obtain⟨_,rfl⟩:=dk hl;rfl) (λvs H Q E h=>?_) (λf cdv A outer s H vs Q E hr h=>?_)
 ·obtain⟨p,k,rfl,_⟩:=h
  rfl
 ·obtain⟨p,k,rfl,pt,hk,q⟩:=h
  refine⟨_,(ah (ak (aj aF (@cK _ _ _ _ (@aa _ _ _ _ _ aE (@aa _ _ _ _ _ aE (@aa _ _ _ _ _ aE (@aa _ _ _ _ _ aE ae (by rfl)) (by rfl)) (by rfl)) (by rfl))) (ao Ai (hr.mono (by decide)) (by rfl) (aa (pv 0) (aa ac ae))) (λ_ _=>rfl)))),?_⟩;refine⟨sz (by simp),λlw H1 s1 f1 n1=>?_⟩;have np1:=Pot.ne pt n1;refine⟨_,rfl,p,_,_,rfl,pt.same s1,by omega,⟨by decide,by decide⟩,λr2 H2 a2 b2' b2 p2=>?_⟩;refine zi (b2 _ _ np1 f1) a2 (by simpa using b2') λv hv=>?_;have B2:But p H H2:=(But.of s1).trans b2;simp only[List.mem_cons,List.not_mem_nil,or_false]at hv;rcases hv with rfl|rfl|rfl|rfl
  ·exact q _ H2 (.inl rfl) B2 p2
  ·exact q _ H2 (.inr (.inl rfl)) B2 p2
  ·exact q _ H2 (.inr (.inr (.inl rfl))) B2 p2
  ·exact q _ H2 (.inr (.inr (.inr rfl))) B2 p2
theorem BS:Ah ["cells","many","found","k","cell"] ["cells","many"] (ag (top 96)):=smk
theorem li(FH:Df K mg "_law_folded" (top 96))(T:Txt mg):Fn P w K mg base "_law_folded" ["cells","many"] 1 Ev:=by
 refine FH.fn BS (λ_ _ _ _ _ _ us hl=>by obtain⟨_,_,rfl⟩:=cj hl;rfl) (λvs H Q E h=>?_) (λf cdv A outer s H vs Q E hr h=>?_)
 ·obtain⟨a,cs,rfl,_⟩:=h
  rfl
 ·obtain⟨a,cs,rfl,ea,hc,q⟩:=h
  refine⟨_,(af (aq (i:=2) BS.nd rfl (Or.inl rfl) (aw we (cK (aa ac ae)) (az (eX rfl) (by rfl) T.z_min kO (aa (pv 1) (aa (az (jr rfl) (by rfl) T.z_max qL (aa ac (aa (az aI (by rfl) T.z_len ci (aa (pv 0) ae)) ae))) ae))))) (af (fg PassesOwn.never rfl (qW rfl T.z_enumerate (aa (pv 0) ae)) (fY rfl (bG (aZ (i:=3) BS.nd rfl (Or.inl rfl)) (bG (aZ (i:=4) BS.nd rfl (Or.inl rfl)) eg))) (ah (hZ (aw bP (aw aT (aj aF (pv 2) (aw du (pv 3) (az aI (by rfl) T.z_len ci (aa (pv 2) ae))) (λ_ _=>rfl)) ac) (pv 4)) (mH (pv 2) (aw du (pv 3) (az aI (by rfl) T.z_len ci (aa (pv 2) ae))) gD)))) (ah (ak (pv 2))))),?_⟩;have e63:(2:Int)^63=9223372036854775808:=by decide
  have hcl:(cs.map V.int).length=cs.length:=List.length_map _;refine⟨sz (by simp),λc1 H1 s1 f1 n1=>?_⟩;refine⟨_,rfl,_,rfl,a,_,rfl,.inl (SqL.of (s1 _ _ ea)),_,_,rfl,_,_,rfl,?_⟩;have hM:1<=(if (if (((cs.map V.int).length:Nat):Int)>1 then (((cs.map V.int).length:Nat):Int) else 1)<3 then (if (((cs.map V.int).length:Nat):Int)>1 then (((cs.map V.int).length:Nat):Int) else 1) else 3)/\(if (if (((cs.map V.int).length:Nat):Int)>1 then (((cs.map V.int).length:Nat):Int) else 1)<3 then (if (((cs.map V.int).length:Nat):Int)>1 then (((cs.map V.int).length:Nat):Int) else 1) else 3)<=3:=by
   split <;> split <;> omega
  generalize (if (if (((cs.map V.int).length:Nat):Int)>1 then (((cs.map V.int).length:Nat):Int) else 1)<3 then (if (((cs.map V.int).length:Nat):Int)>1 then (((cs.map V.int).length:Nat):Int) else 1) else 3)=M at hM
  refine⟨c1,_,_,rfl,rfl,f1,by rw[e63];omega,by rw[e63];omega,sz (by simp;omega),λr H2 s2 f2 n2=>?_⟩;rw[List.flatten_replicate_singleton,show List.replicate M.toNat (V.int 0)=(List.replicate M.toNat 0).map V.int from List.map_replicate.symm]at f2;have nr:H r=none:=s1.free n2;have ea2:=(s1.trans s2) _ _ ea;have nar:a≠r:=aL ((s1) _ _ ea) n2;refine⟨_,rfl,a,rfl,⟨_,SqL.of ea2⟩,oS (K:=K) (a:=a) (xs:=cs.map V.int) (λi σ H3=>∃(z1 z2:Option V) (zs:List Int),σ = [some (.ref a),some (.int 3),some (.ref r),z1,z2]/\zs.length=M.toNat/\H3 r=some (.lst (zs.map V.int))/\Same H H3)
   ⟨_,_,_,rfl,by simp,f2,s1.trans s2⟩ (λi σ H3 _ ⟨_,_,_,_,_,_,s3⟩=>SqL.of (s3 _ _ ea)) ?_ ?_⟩
  ·rintro i x pp σ H3 H4 hx ⟨z1,z2,zs,rfl,hz,e3,s3⟩ s4 f4
   rw[List.getElem?_map]at hx;obtain⟨c,hc',rfl⟩:=Option.map_eq_some_iff.mp hx;have e4:=s4 _ _ e3;have hzl:(((zs.map V.int).length:Nat):Int)=M:=by rw[List.length_map,hz];omega
   have m0:=Int.emod_nonneg (i:Int) (show M≠0 by omega);have m1:=Int.emod_lt_of_pos (i:Int) (show 0<M by omega);refine⟨pp,_,rfl,SqT.of f4,rfl,_,_,rfl,_,_,rfl,rfl,?_⟩;refine⟨_,rfl,_,rfl,_,rfl,r,_,rfl,.inl (SqL.of e4),_,_,rfl,rfl,by rw[hzl];omega,?_⟩;rw[hzl];refine⟨r,_,_,_,rfl,rfl,SqL.of e4,vL ((i:Int) % M).toNat (by omega) (by omega),_,_,rfl,rfl,CM.r ⟨by decide,by decide⟩,_,rfl,_,_,rfl,rfl,?_⟩;refine⟨_,rfl,_,rfl,_,rfl,r,_,rfl,.inl (SqL.of e4),_,_,rfl,rfl,by rw[hzl];omega,?_⟩;rw[hzl];refine⟨r,_,_,_,rfl,rfl,e4,uU m0 (by rw[hzl];exact m1),λH5 u=>?_⟩;exact⟨_,_,zs.set ((i:Int) % M).toNat (zs[((i:Int) % M).toNat]'(by omega)*7+c),rfl,by rw[List.length_set];exact hz,by rw[u.now,<- List.map_set],u.same (s3.trans s4) nr⟩
  ·rintro σ H3 ⟨z1,z2,zs,rfl,hz,e3,s3⟩
   exact⟨_,rfl,q r zs H3 e3 s3⟩
theorem cZ{b d:Int}(hb:0<b)(hd:0<d):0<sqD b d:=Int.mul_pos (Int.mul_pos hb hd) (Int.mul_pos hb hd)
structure HZ(H:Hp)(l:Addr)(fs:Crn):Prop where
 lst:H l=some (.lst (fs.map λq=>V.ref q.1))
 fr:∀q∈fs,H q.1=some (.tup [.int q.2.1,.int q.2.2])/\0<q.2.2/\au q.2.1<=2200/\au q.2.2<=2200
theorem HZ.mono{H H':Hp}{l:Addr}{fs:Crn}(L:HZ H l fs)(s:Same H H'):HZ H' l fs:=⟨s _ _ L.lst,λq h=>⟨s _ _ (L.fr q h).1,(L.fr q h).2⟩⟩
noncomputable def leF(p q:Addr×Int×Int):Prop:=p.2.1*q.2.2<=q.2.1*p.2.2
theorem lS{p q r:Addr×Int×Int}(hq:0<q.2.2)(hp:0<p.2.2)(hr:0<r.2.2)(h1:leF p q)(h2:leF q r):leF p r:=by
 unfold leF at *;refine Int.le_of_mul_le_mul_left (a:=q.2.2) ?_ hq;have a1:p.2.1*q.2.2*r.2.2<=q.2.1*p.2.2*r.2.2:=Int.mul_le_mul_of_nonneg_right h1 (by omega);have a2:q.2.1*r.2.2*p.2.2<=r.2.1*q.2.2*p.2.2:=Int.mul_le_mul_of_nonneg_right h2 (by omega);have e1:q.2.2*(p.2.1*r.2.2)=p.2.1*q.2.2*r.2.2:=by grind
 have e2:q.2.2*(r.2.1*p.2.2)=r.2.1*q.2.2*p.2.2:=by grind
 have e3:q.2.1*p.2.2*r.2.2=q.2.1*r.2.2*p.2.2:=by grind
 rw[e1,e2];rw[e3]at a1;exact Int.le_trans a1 a2
theorem jK{α β:Type}:∀(xs:List α) (R:Nat->α->β->Prop),(∀i x,xs[i]? = some x->∃b,R i x b)->∃bs:List β,bs.length=xs.length/\∀i x b,xs[i]? = some x->bs[i]? = some b->R i x b
 | [],R,_=>⟨[],rfl,λi x b h=>by simp at h⟩
 | a::r,R,h=>by
  obtain⟨bs,hl,hb⟩:=jK r (λi=>R (i+1)) (λi x hx=>h (i+1) x (by simpa using hx));obtain⟨b0,h0⟩:=h 0 a rfl;refine⟨b0::bs,by simp[hl],λi x b hx hb'=>?_⟩;cases i with
  | zero=>cases hx;cases hb';exact h0
  | succ i=>exact hb i x b (by simpa using hx) (by simpa using hb')
theorem jf{α β:Type}{xs:List α}{ys:List β}{i:Nat}{x:α}(hl:ys.length=xs.length)(h:xs[i]? = some x):∃y,ys[i]? = some y:=by
 have:=(List.getElem?_eq_some_iff.mp h).1;exact⟨ys[i],List.getElem?_eq_getElem (by omega)⟩
theorem qr{ys:List V}{gs:Crn}(hl:gs.length=ys.length)(h:∀(i:Nat) x g,ys[i]? = some x->gs[i]? = some g->x = .ref g.1):ys=gs.map λq=>V.ref q.1:=by
 refine List.ext_getElem? λi=>?_;rw[List.getElem?_map]
 by_cases hi:i<ys.length
 ·rw[List.getElem?_eq_getElem hi,List.getElem?_eq_getElem (show i<gs.length by omega),h i _ _ (List.getElem?_eq_getElem hi) (List.getElem?_eq_getElem (show i<gs.length by omega))]
  rfl
 ·rw[List.getElem?_eq_none (by omega),List.getElem?_eq_none (by omega)]
  rfl
inductive G0 (vs:List V) (H:Hp) (Q:VK) (x_3:XK):Prop
 | mk:∀(l:Addr) (fs:Crn),(vs = [.ref l])->(HZ H l fs)->((1<=fs.length/\fs.length<900))->(∀(k:Nat) (p:Addr×Int×Int) (H':Hp),fs[k]? = some p->(∀q∈fs,leF p q)->(∀(j:Nat) q,j<k->fs[j]? = some q->¬leF q p)->Same H H'->Q (.int (k:Int)) H')->G0 vs H Q x_3
theorem qR{x:Int}(h:Sm x):au x<=50:=by
 have h':-999999999999<=x/\x<=999999999999:=h;exact dF (n:=50) (by show _<1125899906842624;omega)
theorem _root_.Sp7.LineM.la{H:Hp}{l:Addr}{qs:Crn}(L:LineM H l qs):At H l qs:=⟨L.lst,λq hq=>⟨(L.crn q hq).1,qR (L.crn q hq).2.1,qR (L.crn q hq).2.2⟩⟩
theorem _root_.Wk.PrAt.plx{H:Hp}{q:Pr}{n m:Int}(h:PrAt H q)(hi:inB n m q=true)(hn:n<=100):DL H q.x q.a q.b n:=by
 unfold inB at hi;rw[Bool.and_eq_true,decide_eq_true_eq,decide_eq_true_eq]at hi;have hb:0<q.b:=h.lx.pos;refine⟨h.x_,h.lx,h.nx,hi.1,?_,ai h.bb (by decide)⟩;have h2:n*q.b<=100*q.b:=Int.mul_le_mul_of_nonneg_right hn (by omega);have h3:au (100*q.b)<=7+60:=bits_mul (by decide) h.bb;exact ai (d7 h.nx (by omega) h3) (by decide)
theorem _root_.Wk.PrAt.ply{H:Hp}{q:Pr}{n m:Int}(h:PrAt H q)(hi:inB n m q=true)(hm:m<=100):DL H q.y q.c q.d m:=by
 unfold inB at hi;rw[Bool.and_eq_true,decide_eq_true_eq,decide_eq_true_eq]at hi;have hb:0<q.d:=h.ly.pos;refine⟨h.y_,h.ly,h.ny,hi.2,?_,ai h.bd (by decide)⟩;have h2:m*q.d<=100*q.d:=Int.mul_le_mul_of_nonneg_right hm (by omega);have h3:au (100*q.d)<=7+60:=bits_mul (by decide) h.bd;exact ai (d7 h.ny (by omega) h3) (by decide)
theorem fO(qs:Crn)(t b:Int)(rs:Crn)(t' b':Int):sqF qs t b rs t' b'=sqF rs t' b' qs t b:=by
 unfold sqF sqN
 grind
theorem fP(b d:Int):sqD b d=sqD d b:=by
 unfold sqD
 grind
theorem vA{F D s w s0 w0:Int}(hD:0<D)(hw0:0<w0)(e:F*w0=s0*D)(h:s*D<=F*w):s*w0<=s0*w:=by
 have h1:=Int.mul_le_mul_of_nonneg_right h (show 0<=w0 by omega);have e1:F*w*w0=s0*w*D:=by
  rw[show F*w*w0=F*w0*w by grind,e]
  grind
 refine Int.le_of_mul_le_mul_right (a:=D) ?_ hD;rw[<- e1];rw[show s*w0*D=s*D*w0 by grind];exact h1
theorem yC{F D s w s0 w0:Int}(hw0:0<w0)(hw:0<w)(hD:0<D)(h0:s0*D<=F*w0)(h:s*w0<=s0*w):s*D<=F*w:=by
 refine Int.le_of_mul_le_mul_right (a:=w0) ?_ hw0;have h1:=Int.mul_le_mul_of_nonneg_right h (show 0<=D by omega);have h2:=Int.mul_le_mul_of_nonneg_right h0 (show 0<=w by omega);rw[show s*D*w0=s*w0*D by grind,show F*w*w0=F*w0*w by grind];rw[show s0*w*D=s0*D*w by grind]at h1;exact Int.le_trans h1 h2
structure Bf(qs rs:Crn)(S:Int->Int->Int->Int->Prop)(s w:Int):Prop where
 low:Bg s w
 least:∀a b c d,Bg a b->Bg c d->S a b c d->s*sqD b d<=sqF qs a b rs c d*w
 att:∃a b c d,Bg a b/\Bg c d/\S a b c d/\sqF qs a b rs c d*w=s*sqD b d
theorem Bf.uniq{qs rs:Crn}{S:Int->Int->Int->Int->Prop}{s w s' w':Int}(h:Bf qs rs S s w)(h':Bf qs rs S s' w'):s=s'/\w=w':=by
 refine bF h.low h'.low (Int.le_antisymm ?_ ?_)
 ·obtain⟨a,b,c,d,l1,l2,hs,e⟩:=h'.att
  exact vA (cZ l1.pos l2.pos) h'.low.pos e (h.least a b c d l1 l2 hs)
 ·obtain⟨a,b,c,d,l1,l2,hs,e⟩:=h.att
  exact vA (cZ l1.pos l2.pos) h.low.pos e (h'.least a b c d l1 l2 hs)
theorem Bf.congr{qs rs:Crn}{S S':Int->Int->Int->Int->Prop}{s w:Int}(h:Bf qs rs S s w)(e:∀a b c d,Bg a b->Bg c d->(S a b c d↔S' a b c d)):Bf qs rs S' s w:=by
 refine⟨h.low,λa b c d l1 l2 hs=>h.least a b c d l1 l2 ((e a b c d l1 l2).mpr hs),?_⟩;obtain⟨a,b,c,d,l1,l2,hs,z⟩:=h.att;exact⟨a,b,c,d,l1,l2,(e a b c d l1 l2).mp hs,z⟩
theorem Bf.swap{qs rs:Crn}{S:Int->Int->Int->Int->Prop}{s w:Int}(h:Bf rs qs S s w):Bf qs rs (λa b c d=>S c d a b) s w:=by
 refine⟨h.low,λa b c d l1 l2 hs=>?_,?_⟩
 ·have:=h.least c d a b l2 l1 hs
  rw[fO,fP];exact this
 ·obtain⟨a,b,c,d,l1,l2,hs,z⟩:=h.att
  refine⟨c,d,a,b,l2,l1,hs,?_⟩;rw[fO,fP];exact z
noncomputable def One(t b t' b':Int)(a b0 c d:Int):Prop:=(a=t/\b0=b)/\c=t'/\d=b'
theorem rn{qs rs:Crn}{t b t' b' s w:Int}(l:Bg t b)(l':Bg t' b')(f:Ak (sqF qs t b rs t' b') (sqD b b') s w):Bf qs rs (One t b t' b') s w:=by
 refine⟨f.low,?_,t,b,t',b',l,l',⟨⟨rfl,rfl⟩,rfl,rfl⟩,f.eq⟩;rintro a b0 c d _ _ ⟨⟨rfl,rfl⟩,rfl,rfl⟩;exact Int.le_of_eq f.eq.symm
noncomputable def btw(p q r s c d:Int):Prop:=(p*d<=c*q/\c*s<=r*d)\/(r*d<=c*s/\c*q<=p*d)
noncomputable def Seg(t b l1 l2 h1 h2:Int)(a b' c d:Int):Prop:=(a=t/\b'=b)/\l1*d<=c*l2/\c*h2<=h1*d
noncomputable def Box(u v:Pr)(a b c d:Int):Prop:=btw u.a u.b v.a v.b a b/\btw u.c u.d v.c v.d c d
theorem vE{p q r s c d:Int}:btw p q r s c d↔btw r s p q c d:=Or.comm
theorem vD{p q r s c d:Int}(hq:0<q)(hs:0<s)(hd:0<d)(hle:p*s<=r*q):btw p q r s c d↔(p*d<=c*q/\c*s<=r*d):=by
 refine⟨λh=>?_,λh=>.inl h⟩;rcases h with h|⟨h1,h2⟩
 ·exact h
 have m:=Int.mul_le_mul_of_nonneg_right hle (show 0<=d by omega);have m1:=Int.mul_le_mul_of_nonneg_right h1 (show 0<=q by omega);have m2:=Int.mul_le_mul_of_nonneg_right h2 (show 0<=s by omega);constructor
 ·refine Int.le_of_mul_le_mul_right (a:=s) ?_ hs
  rw[show p*d*s=p*s*d by grind,show c*q*s=c*s*q by grind];rw[show r*q*d=r*d*q by grind]at m;exact Int.le_trans m m1
 ·refine Int.le_of_mul_le_mul_right (a:=q) ?_ hq
  rw[show c*s*q=c*q*s by grind,show r*d*q=r*q*d by grind];rw[show p*s*d=p*d*s by grind]at m;exact Int.le_trans m2 m
theorem pG{p q c d:Int}(l:Bg p q)(l':Bg c d):btw p q p q c d↔(c=p/\d=q):=by
 constructor
 ·intro h
  have e:c*q=p*d:=by
   rcases h with h|h <;> omega
  exact bF l' l e
 ·rintro⟨rfl,rfl⟩
  exact .inl ⟨Int.le_refl _,Int.le_refl _⟩
noncomputable def fK(c1 c2 e1 e2 l1 l2 h1 h2:Int):Prop:=l1*h2<=h1*l2/\((l1=c1/\l2=c2/\h1=e1/\h2=e2)\/(l1=e1/\l2=e2/\h1=c1/\h2=c2))
theorem pj{c1 c2 e1 e2 l1 l2 h1 h2 c d:Int}(hc:0<c2)(he:0<e2)(hd:0<d)(E:fK c1 c2 e1 e2 l1 l2 h1 h2):btw c1 c2 e1 e2 c d↔(l1*d<=c*l2/\c*h2<=h1*d):=by
 obtain⟨hle,h|h⟩:=E
 ·obtain⟨rfl,rfl,rfl,rfl⟩:=h
  exact vD hc he hd hle
 ·obtain⟨rfl,rfl,rfl,rfl⟩:=h
  rw[vE];exact vD he hc hd hle
theorem zJ{H:Hp}{u v:Pr}{l1 l2 h1 h2:Int}(pu:PrAt H u)(pv:PrAt H v)(e1:u.a=v.a)(e2:u.b=v.b)(E:fK u.c u.d v.c v.d l1 l2 h1 h2):∀a b c d,Bg a b->Bg c d->(Seg u.a u.b l1 l2 h1 h2 a b c d↔Box u v a b c d):=λa b c d lab lcd=>by
 unfold Seg Box;rw[<- e1,<- e2,pG pu.lx lab,pj pu.ly.pos pv.ly.pos lcd.pos E]
theorem zI{H:Hp}{u v:Pr}{l1 l2 h1 h2:Int}(pu:PrAt H u)(pv:PrAt H v)(e1:u.c=v.c)(e2:u.d=v.d)(E:fK u.a u.b v.a v.b l1 l2 h1 h2):∀a b c d,Bg a b->Bg c d->(Seg u.c u.d l1 l2 h1 h2 c d a b↔Box u v a b c d):=λa b c d lab lcd=>by
 unfold Seg Box;rw[<- e1,<- e2,pG pu.ly lcd,pj pu.lx.pos pv.lx.pos lab.pos E];exact And.comm
theorem lJ{n:Nat}{l1 l2 h1 h2:Int}(Ll:Bg l1 l2)(Lh:Bg h1 h2)(l0:0<=l1)(hn:h1<=((n:Int) - 1)*h2)(sh:aK l1 l2 h1 h2=true)(hle:l1*h2<=h1*l2):InS n l1 l2 h1 h2:=by
 have hl:(0:Int)<l2:=Ll.pos;have hh:(0:Int)<h2:=Lh.pos
 by_cases e:l1*h2=h1*l2
 ·exact .inl (bF Ll Lh e)
 have lt:l1*h2<h1*l2:=by omega
 have q0:=gi hl l0;have q1:=ck (a:=l1) hl;unfold aK at sh;rw[if_neg (by omega)]at sh;have hi:h1<=(l1 / l2+1)*h2:=by
  have:¬(l1 / l2+1)*h2<h1*1:=by simpa using sh
  omega
 have kn:l1 / l2<(n:Int) - 1:=by
  by_cases c:l1 / l2<(n:Int) - 1
  ·exact c
  ·exfalso
   have c1:=Int.mul_le_mul_of_nonneg_right (show(n:Int) - 1<=l1 / l2 by omega) (show 0<=h2 by omega);have c2:=Int.mul_le_mul_of_nonneg_right (Int.le_trans hn c1) (show 0<=l2 by omega);have c3:=Int.mul_le_mul_of_nonneg_right q1 (show 0<=h2 by omega);rw[show l1 / l2*h2*l2=l1 / l2*l2*h2 by grind]at c2;omega
 refine .inr ⟨(l1 / l2).toNat,by omega,?_,lt,?_⟩
 ·rw[show(((l1 / l2).toNat:Nat):Int)=l1 / l2 by omega]
  exact q1
 ·rw[show(((l1 / l2).toNat:Nat):Int)=l1 / l2 by omega]
  exact hi
theorem pV{a b c d:Int}(hb:0<b)(hd:0<d)(la:Bg a b)(lc:Bg c d):aK a b c d=aK c d a b:=by
 unfold aK
 by_cases h:c*b<a*d
 ·rw[if_pos h,if_neg (by omega)]
 ·rw[if_neg h]
  by_cases h2:a*d<c*b
  ·rw[if_pos h2]
  ·rw[if_neg h2]
   obtain⟨rfl,rfl⟩:=bF la lc (by omega);rfl
theorem wY{c1 c2 e1 e2:Int}(le:¬e1*c2<c1*e2):fK c1 c2 e1 e2 c1 c2 e1 e2:=⟨by omega,.inl ⟨rfl,rfl,rfl,rfl⟩⟩
theorem wX{c1 c2 e1 e2:Int}(le:e1*c2<c1*e2):fK c1 c2 e1 e2 e1 e2 c1 c2:=⟨by omega,.inr ⟨rfl,rfl,rfl,rfl⟩⟩
theorem sR{qs qs':Crn}{t b l1 l2 h1 h2 T B s w:Int}(lt:Bg t b)(Ll:Bg l1 l2)(Lh:Bg h1 h2)(hB:Bg T B)(h:LPc (ptX qs t b) (ptY qs t b) b qs' l1 l2 h1 h2 T B)(f:Ak (sqF qs t b qs' T B) (sqD b B) s w)
  (t0:l1*B<=T*l2) (t1:T*h2<=h1*B):Bf qs qs' (Seg t b l1 l2 h1 h2) s w:=by
 refine⟨f.low,?_,t,b,T,B,lt,hB,⟨⟨rfl,rfl⟩,t0,t1⟩,f.eq⟩;rintro a b' c d _ lcd ⟨⟨rfl,rfl⟩,a1,a2⟩;have:=yi lt.pos Ll Lh hB lcd h a1 a2 f t0 t1;omega
noncomputable def msB(wy:Str)(u v:Pr):Bool:=if wy=aB then false else (decide (wy=aM) || !eC u v)
theorem uD{wy:Str}{u v:Pr}(h:msB wy u v=true)(hm:cT wy u v=true):cR u v=true:=by
 unfold msB at h;unfold cT at hm
 by_cases h1:wy=aB
 ·rw[if_pos h1]at h
  cases h
 rw[if_neg h1]at h hm
 by_cases h2:wy=aM
 ·rw[if_pos h2]at hm
  exact hm
 ·rw[if_neg h2]at hm
  rw[decide_eq_false h2,Bool.false_or]at h;have h:eC u v=false:=by simpa using h
  rw[h,Bool.false_or]at hm;exact hm
noncomputable def FS(wy:Str)(ps:List Pr)(a b c d:Int):Prop:=(∃q∈ps,One q.a q.b q.c q.d a b c d)\/∃(j:Nat) (u v:Pr),ps[j]? = some u/\ps[j+1]? = some v/\msB wy u v=true/\Box u v a b c d
theorem tq{n m:Int}{w:Str}{ps:List Pr}(h:bh n m w ps=true):ps≠[]/\(∀q∈ps,inB n m q=true)/\aV w ps=true:=by
 obtain⟨f,l,h1,h2,h3,h4,h5,h6⟩:=jm.mp h;exact⟨(λz=>by rw[z]at h1;cases h1),List.all_eq_true.mp h3,h6⟩
inductive HJ (vs:List V) (H:Hp) (Q:VK) (x_3:XK):Prop
 | mk:∀(u v:Pr) (wy:Str),(vs = [.ref u.p,.ref v.p,.str wy])->(PrAt H u)->(PrAt H v)->(∀H',Same H H'->Q (.bl (msB wy u v)) H')->HJ vs H Q x_3
inductive IB (vs:List V) (H:Hp) (Q:VK) (x_3:XK):Prop
 | mk:∀(l l' p q q':Addr) (qs qs':Crn) (t b c1 c2 e1 e2:Int),(vs = [.ref l,.ref p,.ref l',.ref q,.ref q'])->((At H l qs/\1<=qs.length/\qs.length<=20))->((At H l' qs'/\1<=qs'.length/\qs'.length<=20))->((DL H p t b (aH qs)/\au b<=60))->((DL H q c1 c2 (aH qs')/\au c2<=60))->((DL H q' e1 e2 (aH qs')/\au e2<=60))->(aK c1 c2 e1 e2=true)->(∀(r:Addr) (s w l1 l2 h1 h2:Int) (H':Hp),Dd H' r s w 2103->fK c1 c2 e1 e2 l1 l2 h1 h2->Bf qs qs' (Seg t b l1 l2 h1 h2) s w->Same H H'->Q (.ref r) H')->IB vs H Q x_3
inductive E9 (n:Nat) (vs:List V) (H:Hp) (Q:VK) (x_3:XK):Prop
 | mk:∀(l1 l2:Addr) (qs rs:Crn) (u v:Pr),(vs = [.ref l1,.ref l2,.ref u.p,.ref v.p])->((At H l1 qs/\1<=qs.length/\qs.length<=20))->((At H l2 rs/\1<=rs.length/\rs.length<=20))->((PrAt H u/\inB (aH qs) (aH rs) u=true))->((PrAt H v/\inB (aH qs) (aH rs) v=true))->(cR u v=true)->(∀(r:Addr) (s w:Int) (H':Hp),Dd H' r s w n->Bf qs rs (Box u v) s w->Same H H'->Q (.ref r) H')->E9 n vs H Q x_3
inductive IA (vs:List V) (H:Hp) (Q:VK) (x_3:XK):Prop
 | mk:∀(l1 l2 l:Addr) (qs rs:Crn) (ps:List Pr) (wy:Str),(vs = [.ref l1,.ref l2,.ref l,.str wy])->((At H l1 qs/\1<=qs.length/\qs.length<=20))->((At H l2 rs/\1<=rs.length/\rs.length<=20))->(Am H l ps)->(ps.length<400)->((ps≠[]/\(∀q∈ps,inB (aH qs) (aH rs) q=true)/\aV wy ps=true))->(∀(r:Addr) (gs:Crn) (H':Hp),HZ H' r gs->(1<=gs.length/\gs.length<900)->(∀g∈gs,au g.2.1<=2103/\au g.2.2<=2103/\∃S,Bf qs rs S g.2.1 g.2.2/\∀a b c d,S a b c d->FS wy ps a b c d)->(∀a b c d,FS wy ps a b c d->∃g∈gs,∃S,Bf qs rs S g.2.1 g.2.2/\S a b c d)->Same H H'->Q (.ref r) H')->IA vs H Q x_3
inductive He (C:Addr) (vs:List V) (H:Hp) (Q:VK) (E:XK):Prop
 | mk:∀(l1 l2 l:Addr) (qs rs:Crn) (ps:List Pr) (wy:Str),(vs = [.ref l1,.ref l2,.ref l,.str wy])->((At H l1 qs/\1<=qs.length/\qs.length<=20))->((At H l2 rs/\1<=rs.length/\rs.length<=20))->(Am H l ps)->(ps.length<400)->(eB wy)->((bh (aH qs) (aH rs) wy ps=false->∀H',Same H H'->E (.ref C) none H'))->((bh (aH qs) (aH rs) wy ps=true->∀(r:Addr) (s w:Int) (H':Hp),Dd H' r s w 2103->Bf qs rs (FS wy ps) s w->Same H H'->Q (.ref r) H'))->He C vs H Q E
theorem AI:Ah ["fractions","found","number","fraction"] ["fractions"] (ag (top 18)):=smk
theorem ii(DB:Df K mg "number_of_least" (top 18))(AK:Fn P w K mg base "less" ["a","b"] 1 Fh)(T:Txt mg):Fn P w K mg base "number_of_least" ["fractions"] 2 G0:=by
 refine DB.fn AI (λ_ _ _ _ _ _ us hl=>by obtain⟨_,rfl⟩:=dk hl;rfl) (λvs H Q E h=>?_) (λf cdv A outer s H vs Q E hr h=>?_)
 ·obtain⟨l,fs,rfl,_⟩:=h
  rfl
 ·obtain⟨l,fs,rfl,F0,⟨h1,h9⟩,q⟩:=h
  refine⟨_,(af (aq (i:=1) AI.nd rfl (Or.inl rfl) ac) (af (fg PassesOwn.never rfl (qW rfl T.z_enumerate (aa (pv 0) ae)) (fY rfl (bG (aZ (i:=2) AI.nd rfl (Or.inl rfl)) (bG (aZ (i:=3) AI.nd rfl (Or.inl rfl)) eg))) (ah (aC (aO (ao AK (hr.mono (by decide)) (by rfl) (aa (pv 3) (aa (aj aF (pv 0) (pv 1) (λ_ _=>rfl)) ae)))) (ah (aq (i:=1) AI.nd rfl (Or.inl rfl) (pv 2))) av))) (ah (ak (pv 1))))),?_⟩;have hll:(fs.map λ(q:Addr×Int×Int)=>V.ref q.1).length=fs.length:=List.length_map _;refine⟨_,rfl,l,rfl,⟨_,SqL.of F0.lst⟩,oS (K:=K) (a:=l) (xs:=fs.map λ(q:Addr×Int×Int)=>V.ref q.1) (λi σ H3=>∃(z1 z2:Option V) (k:Nat) (p:Addr×Int×Int),σ = [some (.ref l),some (.int (k:Int)),z1,z2]/\fs[k]? = some p/\(∀(j:Nat) q,j<i->fs[j]? = some q->leF p q)/\(∀(j:Nat) q,j<k->fs[j]? = some q->¬leF q p)/\(k<=i)/\Same H H3)
   ⟨_,_,0,fs[0],rfl,List.getElem?_eq_getElem (by omega),λj q h=>absurd h (by omega),λj q h=>absurd h (by omega),Nat.le_refl _,Same.refl _⟩ (λi σ H3 _ ⟨_,_,_,_,_,_,_,_,_,s3⟩=>SqL.of (s3 _ _ F0.lst)) ?_ ?_⟩
  ·rintro i x pp σ H3 H4 hx ⟨z1,z2,k,p,rfl,hk,hle,hlt,hki,s3⟩ s4 f4
   rw[List.getElem?_map]at hx;obtain⟨u,hu,rfl⟩:=Option.map_eq_some_iff.mp hx;have F4:=F0.mono (s3.trans s4);have fu:=F4.fr u (List.mem_of_getElem? hu);have fp:=F4.fr p (List.mem_of_getElem? hk);have ea:atI (fs.map λ(q:Addr×Int×Int)=>V.ref q.1) (k:Int)=some (.ref p.1):=eE (by rw[List.getElem?_map,hk];rfl);refine⟨pp,_,rfl,SqT.of f4,rfl,_,_,rfl,_,_,rfl,rfl,?_⟩;refine⟨_,rfl,_,rfl,_,rfl,l,_,_,_,rfl,rfl,SqL.of F4.lst,ea,u.1,p.1,_,_,_,_,rfl,fu.1,fp.1,⟨ai fu.2.2.1 (by decide),ai fu.2.2.2 (by decide),ai fp.2.2.1 (by decide),ai fp.2.2.2 (by decide)⟩,_,rfl,ay (λc=>?_) (λc=>?_)⟩
   ·have c:u.2.1*p.2.2<p.2.1*u.2.2:=bH c
    refine⟨_,rfl,_,_,i,u,rfl,hu,λj v hj hv=>?_,λj v hj hv z=>?_,Nat.le_succ _,s3.trans s4⟩
    ·by_cases hji:j=i
     ·subst hji
      rw[hu]at hv;cases hv;exact Int.le_refl _
     ·exact lS fp.2.1 fu.2.1 (F4.fr v (List.mem_of_getElem? hv)).2.1 (Int.le_of_lt c) (hle j v (by omega) hv)
    ·have:=lS (F4.fr v (List.mem_of_getElem? hv)).2.1 fp.2.1 fu.2.1 (hle j v hj hv) z
     unfold leF at this;omega
   ·have c:¬u.2.1*p.2.2<p.2.1*u.2.2:=dn c
    refine⟨_,_,k,p,rfl,hk,λj v hj hv=>?_,hlt,by omega,s3.trans s4⟩
    by_cases hji:j=i
    ·subst hji
     rw[hu]at hv;cases hv;unfold leF;omega
    ·exact hle j v (by omega) hv
  ·rintro σ H3 ⟨z1,z2,k,p,rfl,hk,hle,hlt,hki,s3⟩
   refine⟨_,rfl,q k p H3 hk (λr hr=>?_) hlt s3⟩;obtain⟨j,hj,e⟩:=List.getElem_of_mem hr;exact hle j r (by rw[hll];exact hj) (by rw[List.getElem?_eq_getElem hj,e])
theorem CK:Ah ["begin","end","way"] ["begin","end","way"] (ag (top 58)):=smk
theorem fC(CL:Df K mg "is_measured_between" (top 58))(Bn:Fn P w K mg base "steps_back" ["begin","end"] 2 (DZ eC)):Fn P w K mg base "is_measured_between" ["begin","end","way"] 3 HJ:=by
 refine CL.fn CK (λ_ _ _ _ _ _ us hl=>by obtain⟨_,_,_,rfl⟩:=je hl;rfl) (λvs H Q E h=>?_) (λf cdv A outer s H vs Q E hr h=>?_)
 ·obtain⟨u,v,wy,rfl,_⟩:=h
  rfl
 ·obtain⟨u,v,wy,rfl,pu,qv,k⟩:=h
  refine⟨_,(af (aC (ap aQ (pv 2) aE (ar _)) (ah (ak cV)) av) (ah (ak (lL (aR aQ (pv 2) aE (ar _)) (bD (i8 (ao Bn (hr.mono (by decide)) (by rfl) (aa (pv 0) (aa (pv 1) ae))))))))),?_⟩;unfold msB at k;refine⟨_,rfl,rfl,_,rfl,ay (λh1=>?_) (λh1=>?_)⟩
  ·rw[if_pos (show wy=aB from bH (ds h1))]at k
   exact k H (Same.refl _)
  rw[if_neg (show ¬wy=aB from dn (ds h1))]at k;refine⟨_,rfl,rfl,_,rfl,ay (λh2=>?_) (λh2=>?_)⟩
  ·rw[show decide (wy=aM)=true from ds h2,Bool.true_or]at k
   exact k H (Same.refl _)
  ·rw[show decide (wy=aM)=false from ds h2,Bool.false_or]at k
   exact⟨_,rfl,_,rfl,u,v,rfl,pu,qv,λH1 s1=>⟨_,rfl,k H1 s1⟩⟩
theorem A9:Ah ["corner_line","corner","line","begin","end","low","high"] ["corner_line","corner","line","begin","end"] (ag (top 59)):=smk
theorem ji{C:Addr}(Ed:Df K mg "least_between" (top 59))(AK:Fn P w K mg base "less" ["a","b"] 1 Fh)(Cd:Fx P w K mg base "least_along" ["one","x","other","low","high"] 6 [] (Fj C)):Fn P w K mg base "least_between" ["corner_line","corner","line","begin","end"] 7 IB:=by
 refine Ed.fn A9 (λ_ _ _ _ _ _ us hl=>by obtain⟨_,_,_,_,_,rfl⟩:=wA hl;rfl) (λvs H Q E h=>?_) (λf cdv A outer s H vs Q E hr h=>?_)
 ·obtain⟨l,l',p,q,q',qs,qs',t,b,c1,c2,e1,e2,rfl,_⟩:=h
  rfl
 ·obtain⟨l,l',p,q,q',qs,qs',t,b,c1,c2,e1,e2,rfl,⟨L,n1,n20⟩,⟨L',m1,m20⟩,⟨pl,bb⟩,⟨pc,bc⟩,⟨pe,be⟩,sh,k⟩:=h
  have R:∃u,PSs (aG CX0 P w K mg base ["corner_line","corner","line","begin","end","low","high"] "least_between" (ag (top 59)) f cdv A outer s H E).nox ((ax (top 59)).drop 3) u/\∀(y z:Addr) (l1 l2 h1 h2:Int),DL H y l1 l2 (aH qs')->DL H z h1 h2 (aH qs')->au l2<=60->au h2<=60->InS qs'.length l1 l2 h1 h2->fK c1 c2 e1 e2 l1 l2 h1 h2->u { nx:=λ_ H'=>Q .non H',rt:=Q } [some (.ref l),some (.ref p),some (.ref l'),some (.ref q),some (.ref q'),some (.ref y),some (.ref z)] H:=by
   refine⟨_,(ah (ak (aj am (bZ Cd (hr.mono (by decide)) (by rfl) (aa (pv 0) (aa (pv 1) (aa (pv 2) (aa (pv 5) (aa (pv 6) ae)))))) ac (λ_ _=>rfl)))),λy z l1 l2 h1 h2 py pz b1 b2 ins en=>?_⟩;refine⟨_,rfl,_,rfl,_,rfl,_,rfl,_,rfl,l,l',qs,qs',_,_,_,rfl,L,L',⟨n1,n20⟩,⟨m1,m20⟩,pl.th,py.th,pz.th,.inr ⟨p,t,b,rfl,pl,.inr ⟨y,l1,l2,rfl,py,.inr ⟨z,h1,h2,rfl,pz,bb,b1,b2,ins,λr rs rp s' w' T B H1 fr fs pT lp r0 r1 fq s1=>?_⟩⟩⟩⟩;exact⟨r,_,_,_,rfl,rfl,SqT.of fr,rfl,k rs s' w' l1 l2 h1 h2 H1 fs en (sR pl.low py.low pz.low pT.low lp fq r0 r1) s1⟩
  obtain⟨u,hu,fin⟩:=R;refine⟨_,(af (aq (i:=5) A9.nd rfl (Or.inl rfl) (pv 3)) (af (aq (i:=6) A9.nd rfl (Or.inl rfl) (pv 4)) (af (aC (aO (ao AK (hr.mono (by decide)) (by rfl) (aa (pv 4) (aa (pv 3) ae)))) (af (aq (i:=5) A9.nd rfl (Or.inl rfl) (pv 4)) (ah (aq (i:=6) A9.nd rfl (Or.inl rfl) (pv 3)))) av) hu))),?_⟩;refine⟨_,rfl,_,rfl,?_⟩;refine⟨_,rfl,_,rfl,q',q,e1,e2,c1,c2,rfl,pe.at_,pc.at_,⟨ai pe.bt (by decide),ai pe.bb (by decide),ai pc.bt (by decide),ai pc.bb (by decide)⟩,_,rfl,ay (λh=>?_) (λh=>?_)⟩
  ·have h:e1*c2<c1*e2:=bH h
   refine⟨_,rfl,_,rfl,fin q' q e1 e2 c1 c2 pe pc be bc (lJ pe.low pc.low pe.lo pc.hi ?_ (by omega)) (wX h)⟩;rw[pV pe.low.pos pc.low.pos pe.low pc.low];exact sh
  ·have h:¬e1*c2<c1*e2:=dn h
   exact fin q q' c1 c2 e1 e2 pc pe bc be (lJ pc.low pe.low pc.lo pe.hi sh (by omega)) (wY h)
theorem ED:Ah ["one","other","begin","end"] ["one","other","begin","end"] (ag (top 60)):=smk
theorem jB(EJ:Df K mg "slide_square" (top 60))(AE:Fn P w K mg base "keeps_corner" ["begin","end","number"] 4 Fk)(Bp:Fn P w K mg base "least_between" ["corner_line","corner","line","begin","end"] 7 IB):Fn P w K mg base "slide_square" ["one","other","begin","end"] 8 (E9 2103):=by
 refine EJ.fn ED (λ_ _ _ _ _ _ us hl=>by obtain⟨_,_,_,_,rfl⟩:=mO hl;rfl) (λvs H Q E h=>?_) (λf cdv A outer s H vs Q E hr h=>?_)
 ·obtain⟨l1,l2,qs,rs,u,v,rfl,_⟩:=h
  rfl
 ·obtain⟨l1,l2,qs,rs,u,v,rfl,⟨L1,n1,n20⟩,⟨L2,m1,m20⟩,⟨pu,iu⟩,⟨qv,iv⟩,sl,k⟩:=h
  refine⟨_,(af (aC (aO (ao AE (hr.mono (by decide)) (by rfl) (aa (pv 2) (aa (pv 3) (aa ac ae))))) (ah (ak (ao Bp (hr.mono (by decide)) (by rfl) (aa (pv 0) (aa (aj am (pv 2) ac (λ_ _=>rfl)) (aa (pv 1) (aa (aj am (pv 2) ac (λ_ _=>rfl)) (aa (aj am (pv 3) ac (λ_ _=>rfl)) ae)))))))) av) (ah (ak (ao Bp (hr.mono (by decide)) (by rfl) (aa (pv 1) (aa (aj am (pv 2) ac (λ_ _=>rfl)) (aa (pv 0) (aa (aj am (pv 2) ac (λ_ _=>rfl)) (aa (aj am (pv 3) ac (λ_ _=>rfl)) ae))))))))),?_⟩;have hq100:aH qs<=100:=by unfold aH;omega
  have hr100:aH rs<=100:=by unfold aH;omega
  refine⟨_,rfl,_,rfl,u,v,0,rfl,.inl rfl,pu,qv,λH1 s1=>⟨_,rfl,?_⟩⟩;rw[show oN 0 u v=hJ u v from rfl];have pu1:=pu.t s1.t;have qv1:=qv.t s1.t;have la:(At H1 l1 qs/\1<=qs.length/\qs.length<=20):=⟨L1.mono s1,n1,n20⟩;have lb:(At H1 l2 rs/\1<=rs.length/\rs.length<=20):=⟨L2.mono s1,m1,m20⟩;have ux:=pu1.plx iu hq100;have uy:=pu1.ply iu hr100;have vx:=qv1.plx iv hq100;have vy:=qv1.ply iv hr100;have PU:=SqT.of (K:=K) pu1.p_;have PV:=SqT.of (K:=K) qv1.p_;refine ay (λc=>?_) (λc=>?_)
  ·unfold hJ at c
   rw[Bool.and_eq_true,Bool.and_eq_true]at c;have z:=of_decide_eq_true c.1;simp only[List.cons.injEq,and_true]at z;exact⟨_,rfl,_,rfl,u.p,_,_,_,rfl,rfl,PU,rfl,_,rfl,_,rfl,u.p,_,_,_,rfl,rfl,PU,rfl,_,rfl,v.p,_,_,_,rfl,rfl,PV,rfl,l1,l2,u.x,u.y,v.y,qs,rs,_,_,_,_,_,_,rfl,la,lb,⟨ux,pu1.bb⟩,⟨uy,pu1.bd⟩,⟨vy,qv1.bd⟩,c.2.2,λr s' w' l1' l2' h1' h2' H2 fr en ms s2=>k r s' w' H2 fr (ms.congr (zJ pu qv z.1 z.2 en)) (s1.trans s2)⟩
  ·unfold cR at sl
   rw[c,Bool.false_or]at sl;unfold jt at sl;rw[Bool.and_eq_true,Bool.and_eq_true]at sl;have z:=of_decide_eq_true sl.1;simp only[List.cons.injEq,and_true]at z;exact⟨_,rfl,_,rfl,u.p,_,_,_,rfl,rfl,PU,rfl,_,rfl,_,rfl,u.p,_,_,_,rfl,rfl,PU,rfl,_,rfl,v.p,_,_,_,rfl,rfl,PV,rfl,l2,l1,u.y,u.x,v.x,rs,qs,_,_,_,_,_,_,rfl,lb,la,⟨uy,pu1.bd⟩,⟨ux,pu1.bb⟩,⟨vx,qv1.bb⟩,sl.2.2,λr s' w' l1' l2' h1' h2' H2 fr en ms s2=>k r s' w' H2 fr (ms.swap.congr (zI pu qv z.1 z.2 en)) (s1.trans s2)⟩
noncomputable def FSi(wy:Str)(ps:List Pr)(i:Nat)(a b c d:Int):Prop:=(∃q∈ps,One q.a q.b q.c q.d a b c d)\/∃(j:Nat) (u v:Pr),j<i/\ps[j]? = some u/\ps[j+1]? = some v/\msB wy u v=true/\Box u v a b c d
structure Hz(H:Hp)(l:Addr)(qs rs:Crn)(wy:Str)(ps:List Pr)(i:Nat)(gs:Crn):Prop where
 fr:HZ H l gs
 len:ps.length<=gs.length/\gs.length<=ps.length+i
 a:∀g∈gs,au g.2.1<=2103/\au g.2.2<=2103/\∃S,Bf qs rs S g.2.1 g.2.2/\∀a b c d,S a b c d->FS wy ps a b c d
 b:∀a b c d,FSi wy ps i a b c d->∃g∈gs,∃S,Bf qs rs S g.2.1 g.2.2/\S a b c d
theorem Hz.skip{H:Hp}{l:Addr}{qs rs:Crn}{wy:Str}{ps:List Pr}{i:Nat}{gs:Crn}{u v:Pr}(G:Hz H l qs rs wy ps i gs)(hu:ps[i]? = some u)(hv:ps[i+1]? = some v)(hm:msB wy u v=false):Hz H l qs rs wy ps (i+1) gs:=by
 refine⟨G.fr,⟨G.len.1,by have:=G.len.2;omega⟩,G.a,λa b c d h=>G.b a b c d ?_⟩;rcases h with h|⟨j,u',v',hj,e1,e2,m,bx⟩
 ·exact .inl h
 ·by_cases hji:j=i
  ·subst hji
   rw[hu]at e1;rw[hv]at e2;cases e1;cases e2;rw[hm]at m;cases m
  ·exact .inr ⟨j,u',v',by omega,e1,e2,m,bx⟩
theorem Hz.step{H:Hp}{l r:Addr}{qs rs:Crn}{wy:Str}{ps:List Pr}{i:Nat}{gs:Crn}{u v:Pr}{s w:Int}{H':Hp}(G:Hz H l qs rs wy ps i gs)(hu:ps[i]? = some u)(hv:ps[i+1]? = some v)(hm:msB wy u v=true)(f:Dd H r s w 2103)(ms:Bf qs rs (Box u v) s w)(up:Hw H H' l (gs.map λq=>V.ref q.1) ((gs.map λq=>V.ref q.1)++[V.ref r])):Hz H' l qs rs wy ps (i+1) (gs++[(r,s,w)]):=by
 refine⟨⟨by rw[up.now];simp,λq hq=>?_⟩,?_,λg hg=>?_,λa b c d h=>?_⟩
 ·rcases List.mem_append.mp hq with hq|hq
  ·exact⟨up.t _ _ (G.fr.fr q hq).1,(G.fr.fr q hq).2⟩
  ·rw[List.mem_singleton.mp hq]
   exact⟨up.t _ _ f.at_,f.low.pos,ai f.ba (by decide),ai f.bb (by decide)⟩
 ·have:=G.len
  rw[List.length_append];simp only[List.length_cons,List.length_nil];omega
 ·rcases List.mem_append.mp hg with hg|hg
  ·exact G.a g hg
  ·rw[List.mem_singleton.mp hg]
   exact⟨f.ba,f.bb,_,ms,λa b c d h=>.inr ⟨i,u,v,hu,hv,hm,h⟩⟩
 ·by_cases hb:FSi wy ps i a b c d
  ·obtain⟨g,hg,S,h1,h2⟩:=G.b a b c d hb
   exact⟨g,List.mem_append_left _ hg,S,h1,h2⟩
  ·rcases h with h|⟨j,u',v',hj,e1,e2,m,bx⟩
   ·exact absurd (.inl h) hb
   ·by_cases hji:j=i
    ·subst hji
     rw[hu]at e1;rw[hv]at e2;cases e1;cases e2;exact⟨(r,s,w),List.mem_append_right _ (by simp),_,ms,bx⟩
    ·exact absurd (.inr ⟨j,u',v',by omega,e1,e2,m,bx⟩) hb
theorem wP{wy:Str}{ps:List Pr}{i:Nat}(hi:ps.length<=i+1){a b c d:Int}(h:FS wy ps a b c d):FSi wy ps i a b c d:=by
 rcases h with h|⟨j,u,v,e1,e2,m,bx⟩
 ·exact .inl h
 ·have:=(List.getElem?_eq_some_iff.mp e2).1
  exact .inr ⟨j,u,v,by omega,e1,e2,m,bx⟩
theorem AX:Ah ["one","other","fence","way","squares","begin","end"] ["one","other","fence","way"] (ag (top 61)):=smk
theorem gW{C2:Addr}(Dj:Df K mg "measured_squares" (top 61))(By:Fx P w K mg base "square_of" ["one","x","other","y"] 6 [] (Dn C2))(Bc:Fn P w K mg base "is_measured_between" ["begin","end","way"] 3 HJ)(BV:Fn P w K mg base "slide_square" ["one","other","begin","end"] 8 (E9 2103))(T:Txt mg):Fn P w K mg base "measured_squares" ["one","other","fence","way"] 9 IA:=by
 refine Dj.fn AX (λ_ _ _ _ _ _ us hl=>by obtain⟨_,_,_,_,rfl⟩:=mO hl;rfl) (λvs H Q E h=>?_) (λf cdv A outer s H vs Q E hr h=>?_)
 ·obtain⟨l1,l2,l,qs,rs,ps,wy,rfl,_⟩:=h
  rfl
 ·obtain⟨l1,l2,l,qs,rs,ps,wy,rfl,⟨L1,n1,n20⟩,⟨L2,m1,m20⟩,PP,hlen,⟨hne,hin,hst⟩,k⟩:=h
  have hq100:aH qs<=100:=by unfold aH;omega
  have hr100:aH rs<=100:=by unfold aH;omega
  have CN:Bd (aG CX0 P w K mg base ["one","other","fence","way","squares","begin","end"] "measured_squares" (ag (top 61)) f cdv A outer s H E).nox (fV ((ax (top 61)).getD 0 (.Pass ⟨0,0,0,0⟩))) [("other",s.heap.objs.size+2),("one",s.heap.objs.size+1)] "pair" [("one",0),("other",1)] :=
   ⟨by rfl,rfl,by decide +kernel,by decide +kernel,rfl,(λp hp=>by simp only[List.mem_cons,List.not_mem_nil,or_false]at hp;rcases hp with rfl|rfl <;> rfl),by rfl,by decide +kernel,(λp hp=>by simp only[List.mem_cons,List.not_mem_nil,or_false]at hp;rcases hp with rfl|rfl <;> exact⟨rfl,rfl,.inr (.inl rfl),rfl,rfl⟩),⟨rfl,rfl⟩,rfl⟩
  refine⟨_,(af (fX (j:=4) rfl CN AX.nd rfl rfl (cw (pv 2)) (λfp s₀ H₀=>(bZ By (hr.mono (by decide)) (by rfl) (aa (pv 1) (aa (aj (dE (K:=K) rfl) (pv 0) ac (λ_ _=>rfl)) (aa (pv 2) (aa (aj (dE (K:=K) rfl) (pv 0) ac (λ_ _=>rfl)) ae))))))) (af (fg PassesOwn.never rfl (qd rfl T.z_zip (aa (pv 2) (aa (dQ fU (pv 2) (fh ac) fj) ae))) (fY rfl (bG (aZ (i:=5) AX.nd rfl (Or.inl rfl)) (bG (aZ (i:=6) AX.nd rfl (Or.inl rfl)) eg))) (ah (aC (aO (ao Bc (hr.mono (by decide)) (by rfl) (aa (pv 5) (aa (pv 6) (aa (pv 3) ae))))) (ah (de (dU PySem.F.plainAttrs_list PySem.F.slot_list_append PySem.F.type_list_append cO (pv 4) (aa (ao BV (hr.mono (by decide)) (by rfl) (aa (pv 0) (aa (pv 1) (aa (pv 5) (aa (pv 6) ae))))) ae)))) av))) (ah (ak (pv 4))))),?_⟩;refine⟨_,rfl,l,rfl,⟨_,SqL.of PP.lst⟩,gj (SqL.of PP.lst) (by rw[a7];omega) (λi v H'=>∃(q:Pr) (r:Addr) (s w:Int),v = .ref r/\ps[i]? = some q/\Ak (sqF qs q.a q.b rs q.c q.d) (sqD q.b q.d) s w/\(au s<=2103/\au w<=2103)/\H' r=some (.tup [.int s,.int w])) (λi v H H' st ⟨q,r,s,w,e,hq,fr,bd,c⟩=>⟨q,r,s,w,e,hq,fr,bd,st _ _ c⟩) ?_ ?_⟩
  ·intro i x H2 Kc hx s2 kk
   obtain⟨q,hq,rfl⟩:=dC hx;have mq:=List.mem_of_getElem? hq;have pq:=(PP.mono s2).pr q mq;have hi:=hin q mq;have plx:=pq.plx hi hq100;have ply:=pq.ply hi hr100;refine⟨_,rfl,_,rfl,q.p,_,_,_,rfl,rfl,SqT.of pq.p_,rfl,_,rfl,_,rfl,q.p,_,_,_,rfl,rfl,SqT.of pq.p_,rfl,l1,l2,qs,rs,_,_,rfl,L1.mono s2,L2.mono s2,⟨n1,n20⟩,⟨m1,m20⟩,plx.th,ply.th,.inr ⟨q.x,q.a,q.b,rfl,plx,.inr ⟨q.y,q.c,q.d,rfl,ply,λr s' w' H3 fr f3 s3=>?_⟩⟩⟩;exact kk _ _ s3 ⟨q,r,s',w',rfl,hq,fr,⟨f3.ba,f3.bb⟩,f3.at_⟩
  ·intro l5 ys H9 nl5 s9 f9 hly hr
   rw[a7]at hly;obtain⟨gs,hgl,hg⟩:=jK (β:=Addr×Int×Int) ys (λi v g=>v = .ref g.1/\∃q,ps[i]? = some q/\Ak (sqF qs q.a q.b rs q.c q.d) (sqD q.b q.d) g.2.1 g.2.2/\(au g.2.1<=2103/\au g.2.2<=2103)/\H9 g.1=some (.tup [.int g.2.1,.int g.2.2])) λi x hx=>by
    obtain⟨q,r,s',w',rfl,hq,fr,bd,c⟩:=hr i x hx;exact⟨(r,s',w'),rfl,q,hq,fr,bd,c⟩
   have hgi:∀(i:Nat) g,gs[i]? = some g->∃q,ps[i]? = some q/\Ak (sqF qs q.a q.b rs q.c q.d) (sqD q.b q.d) g.2.1 g.2.2/\(au g.2.1<=2103/\au g.2.2<=2103)/\H9 g.1=some (.tup [.int g.2.1,.int g.2.2]):=λi g hg'=>by
    obtain⟨y,hy⟩:=jf hgl.symm hg';exact(hg i y g hy hg').2
   have F9:HZ H9 l5 gs:=by
    refine⟨by rw[f9];exact congrArg _ (congrArg _ (qr hgl λi x g hx hg'=>(hg i x g hx hg').1)),λg hgm=>?_⟩;obtain⟨i,hi,e⟩:=List.getElem_of_mem hgm;obtain⟨q,hq,fr,bd,c⟩:=hgi i g (by rw[List.getElem?_eq_getElem hi,e]);exact⟨c,fr.low.pos,ai bd.1 (by decide),ai bd.2 (by decide)⟩
   have G9:Hz H9 l5 qs rs wy ps 0 gs:=by
    refine⟨F9,⟨by omega,by omega⟩,λg hgm=>?_,λa b c d h=>?_⟩
    ·obtain⟨i,hi,e⟩:=List.getElem_of_mem hgm
     obtain⟨q,hq,fr,bd,c⟩:=hgi i g (by rw[List.getElem?_eq_getElem hi,e]);have mq:=List.mem_of_getElem? hq;exact⟨bd.1,bd.2,_,rn (PP.pr q mq).lx (PP.pr q mq).ly fr,λa b c d h=>.inl ⟨q,mq,h⟩⟩
    ·rcases h with⟨q,hq,h⟩|⟨j,u',v',hj,_⟩
     ·obtain⟨j,hj,e⟩:=List.getElem_of_mem hq
      have hj':ps[j]? = some q:=by rw[List.getElem?_eq_getElem hj,e]
      obtain⟨g',hg'⟩:=jf (ys:=gs) (by omega) hj';obtain⟨q',hq',fr',_,_⟩:=hgi j g' hg';rw[hj']at hq';cases hq';exact⟨g',List.mem_of_getElem? hg',_,rn (PP.pr q hq).lx (PP.pr q hq).ly fr',h⟩
     ·omega
   have P9:=PP.mono s9;refine⟨_,rfl,_,rfl,_,rfl,l,_,rfl,SqL.of P9.lst,λl2' H4 s4 f4 n4=>?_⟩;rw[rV]at f4;have n25:l2'≠l5:=(aL F9.lst n4).symm;have G4:Hz H4 l5 qs rs wy ps 0 gs:=⟨G9.fr.mono s4,G9.len,G9.a,G9.b⟩;have P4:=P9.mono s4;refine⟨l,l2',rfl,⟨_,SqL.of P4.lst⟩,⟨_,SqL.of f4⟩,rL (K:=K) (xs:=prs ps) (ys:=prs (ps.drop 1)) (λi σ H5=>∃z1 z2 gs,σ = [some (.ref l1),some (.ref l2),some (.ref l),some (.str wy),some (.ref l5),z1,z2]/\Hz H5 l5 qs rs wy ps i gs/\H5 l2'=some (.lst (prs (ps.drop 1)))/\Same H H5)
    ⟨_,_,gs,rfl,G4,f4,s9.trans s4⟩ (λi σ H5 _ ⟨_,_,_,_,_,f5,s5⟩=>⟨SqL.of (s5 _ _ PP.lst),SqL.of f5⟩) ?_ ?_⟩
   ·rintro i x y pp σ H5 H6 hx hy ⟨z1,z2,gs,rfl,G5,f5,s5⟩ s6 f6
    obtain⟨u,hu,rfl⟩:=dC hx;obtain⟨v,hv,rfl⟩:=dC hy;have hv':ps[i+1]? = some v:=by rw[List.getElem?_drop]at hv;rw[Nat.add_comm];exact hv
    have S6:=s5.trans s6;have mu:=List.mem_of_getElem? hu;have mv:=List.mem_of_getElem? hv';have hi:=(List.getElem?_eq_some_iff.mp hv').1;have pu:=(PP.pr u mu).t S6.t;have qv:=(PP.pr v mv).t S6.t;refine⟨pp,_,rfl,SqT.of f6,rfl,_,_,rfl,_,_,rfl,rfl,?_⟩;refine⟨_,rfl,_,rfl,_,rfl,u,v,wy,rfl,pu,qv,λH7 s7=>⟨_,rfl,ay (λc=>?_) (λc=>?_)⟩⟩
    ·have S7:=S6.trans s7
     have G7:Hz H7 l5 qs rs wy ps i gs:=⟨G5.fr.mono (s6.trans s7),G5.len,G5.a,G5.b⟩;refine⟨_,rfl,.inl ⟨rfl,_,SqL.of G7.fr.lst⟩,_,rfl,_,rfl,_,rfl,_,rfl,l1,l2,qs,rs,u,v,rfl,⟨L1.mono S7,n1,n20⟩,⟨L2.mono S7,m1,m20⟩,⟨pu.t s7.t,hin u mu⟩,⟨qv.t s7.t,hin v mv⟩,uD c (dX.mp hst i u v hu hv'),λr s' w' H8 fr ms s8=>?_⟩;have G8:Hz H8 l5 qs rs wy ps i gs:=⟨G7.fr.mono s8,G7.len,G7.a,G7.b⟩;refine⟨l5,_,_,rfl,rfl,G8.fr.lst,bJ (by rw[List.length_map];have:=G8.len;omega),λH9 u9=>?_⟩;exact⟨_,_,_,rfl,G8.step hu hv' c fr ms u9,u9.at n25 (s8 _ _ (s7 _ _ (s6 _ _ f5))),u9.same (S7.trans s8) nl5⟩
    ·exact⟨_,_,gs,rfl,(⟨G5.fr.mono (s6.trans s7),G5.len,G5.a,G5.b⟩:Hz H7 l5 qs rs wy ps i gs).skip hu hv' c,s7 _ _ (s6 _ _ f5),S6.trans s7⟩
   ·rintro σ H5 ⟨z1,z2,gs,rfl,G5,f5,s5⟩
    have h0:=List.length_pos_iff.mpr hne;exact⟨_,rfl,k l5 gs H5 G5.fr ⟨by have:=G5.len;omega,by have:=G5.len;rw[a7,a7,List.length_drop]at this;omega⟩ G5.a (λa b c d h=>G5.b a b c d (wP (by rw[a7,a7,List.length_drop];omega) h)) s5⟩
theorem CU:Ah ["one","other","fence","way","squares"] ["one","other","fence","way"] (ag (top 62)):=smk
theorem jE{C C9:Addr}(BX:Hf K mg "fence_square" (top 62) [.str "on"])(DO:Dz K mg "NoFence" C9)(Di:Fx P w K mg base "is_fence" ["one","other","thing","way"] 8 [.str "on"] (DI C))(Br:Fn P w K mg base "measured_squares" ["one","other","fence","way"] 9 IA)(Av:Fn P w K mg base "number_of_least" ["fractions"] 2 G0):Fx P w K mg base "fence_square" ["one","other","fence","way"] 10 [.str "on"] (He C9):=by
 refine BX.fx CU (λT kV doc pm an cdv ct us its oT n s hv hl ho hs=>?_) (λT kV doc pm an cdv ct us its oT n s hv hl ho hs=>?_) (λvs H Q E h=>?_) (λf cdv A outer s H vs Q E hr h=>?_)
 ·obtain⟨u,rfl,_⟩:=cE hv
  match us,hl with
  | [_,_,_,_],_=>exact BindsTo.of_defaults rfl ho hs rfl rfl
 ·obtain⟨u,rfl,_⟩:=cE hv
  have hl1:us.length=3:=by simpa using hl
  match us,hl1 with
  | [_,_,_],_=>exact BindsTo.of_defaults rfl ho hs rfl rfl
 ·obtain⟨l1,l2,l,qs,rs,ps,wy,rfl,_⟩:=h
  rfl
 ·obtain⟨l1,l2,l,qs,rs,ps,wy,rfl,⟨L1,h1,h20⟩,⟨L2,g1,g20⟩,PP,hlen,hw,kE,kQ⟩:=h
  refine⟨_,(af (aC (bA (aO (dj Di (hr.mono (by decide)) (by rfl) (aa (pv 0) (aa (pv 1) (aa (pv 2) (aa (pv 3) ae))))))) (ah (cB DO (by rfl))) av) (af (aq (i:=4) CU.nd rfl (Or.inl rfl) (ao Br (hr.mono (by decide)) (by rfl) (aa (pv 0) (aa (pv 1) (aa (pv 2) (aa (pv 3) ae)))))) (ah (ak (aj aF (pv 4) (ao Av (hr.mono (by decide)) (by rfl) (aa (pv 4) ae)) (λ_ _=>rfl)))))),?_⟩;have hql:(qs.map λ(q:Addr×Int×Int)=>V.ref q.1).length=qs.length:=List.length_map _;have hrl:(rs.map λ(q:Addr×Int×Int)=>V.ref q.1).length=rs.length:=List.length_map _;refine⟨_,rfl,_,rfl,_,rfl,_,rfl,l1,l2,_,_,_,_,_,rfl,⟨L1.lst,by rw[hql];omega⟩,⟨L2.lst,by rw[hrl];omega⟩,PP.th (by omega),.str _,.inl ⟨wy,rfl,hw,λb H1 s1 wv=>⟨_,rfl,ay (λc=>?_) (λc=>?_)⟩⟩⟩
  ·have hb:b=false:=by simpa only[Bool.not_eq_true']using c
   rw[hql,hrl]at wv;exact kE (by rw[<- hb];exact(l9 PP wv).symm) H1 s1
  have hb:b=true:=by simpa only[Bool.not_eq_false']using c
  rw[hql,hrl]at wv;have hwB:bh (aH qs) (aH rs) wy ps=true:=by rw[<- hb];exact(l9 PP wv).symm
  refine⟨_,rfl,_,rfl,_,rfl,_,rfl,l1,l2,l,qs,rs,ps,wy,rfl,⟨L1.mono s1,h1,h20⟩,⟨L2.mono s1,g1,g20⟩,PP.mono s1,hlen,tq hwB,λr gs H2 F2 hg A B s2=>?_⟩;refine⟨_,rfl,_,rfl,r,gs,rfl,F2,hg,λk p H3 hk hle _ s3=>?_⟩;have F3:=F2.mono s3;have mp:=List.mem_of_getElem? hk;obtain⟨b1,b2,S,ms,sub⟩:=A p mp;refine⟨r,_,_,_,rfl,rfl,SqL.of F3.lst,eE (j:=k) (v:=.ref p.1) (by rw[List.getElem?_map,hk];rfl),kQ hwB p.1 p.2.1 p.2.2 H3 ⟨(F3.fr p mp).1,ms.low,b1,b2⟩ ⟨ms.low,λa b c d la lc h=>?_,?_⟩ (s1.trans (s2.trans s3))⟩
  ·obtain⟨g,hg,S',ms',h'⟩:=B a b c d h
   exact yC ms'.low.pos ms.low.pos (cZ la.pos lc.pos) (ms'.least a b c d la lc h') (hle g hg)
  ·obtain⟨a,b,c,d,la,lc,h,e⟩:=ms.att
   exact⟨a,b,c,d,la,lc,sub a b c d h,e⟩
theorem nV{n m:Int}{w:Str}{H:Hp}{l:Addr}{ps:List Pr}{b:Bool}(P:Am H l ps)(h:xk n m w H (.ref l) b):b=bR n m w ps:=by
 rcases h with⟨h1,rfl⟩|⟨l',rs,e,P',rfl⟩
 ·rw[P.pv]at h1
  cases ps with
  | nil=>rfl
  | cons f r =>
   rw[cL,show(f::r).all (inB n m)=false from h1,Bool.false_and]
 ·cases e
  have e2:=P.lst;rw[P'.lst]at e2;have e3:prs rs=prs ps:=by injection e2 with e2;injection e2
  rw[mG P'.pr P.pr e3]
structure D7(qs rs:Crn)(ps:List Pr)(s w:Int):Prop where
 low:Bg s w
 most:∀q∈ps,sqF qs q.a q.b rs q.c q.d*w<=s*sqD q.b q.d
 att:∃q∈ps,sqF qs q.a q.b rs q.c q.d*w=s*sqD q.b q.d
theorem rK{F D s w s' w':Int}(hD:0<D)(hw:0<w)(e:F*w=s*D)(h:F*w'<=s'*D):s*w'<=s'*w:=by
 refine Int.le_of_mul_le_mul_left (a:=D) ?_ hD;have h1:F*w'*w<=s'*D*w:=Int.mul_le_mul_of_nonneg_right h (by omega);have e1:D*(s*w')=F*w'*w:=by
  have:D*(s*w')=(s*D)*w':=by grind
  rw[this,<- e]
  grind
 have e2:D*(s'*w)=s'*D*w:=by grind
 rw[e1,e2];exact h1
theorem D7.uniq{qs rs:Crn}{ps:List Pr}{s w s' w':Int}(pos:∀q∈ps,0<q.b/\0<q.d)(h:D7 qs rs ps s w)(h':D7 qs rs ps s' w'):s=s'/\w=w':=by
 refine bF h.low h'.low (Int.le_antisymm ?_ ?_)
 ·obtain⟨q,hq,e⟩:=h.att
  exact rK (cZ (pos q hq).1 (pos q hq).2) h.low.pos e (h'.most q hq)
 ·obtain⟨q,hq,e⟩:=h'.att
  exact rK (cZ (pos q hq).1 (pos q hq).2) h'.low.pos e (h.most q hq)
theorem wR{F D s w s' w':Int}(hD:0<D)(hw:0<w)(e:F*w=s*D)(h:s*w'<=s'*w):F*w'<=s'*D:=by
 refine Int.le_of_mul_le_mul_left (a:=w) ?_ hw;have h1:s*w'*D<=s'*w*D:=Int.mul_le_mul_of_nonneg_right h (by omega);have e1:w*(F*w')=s*w'*D:=by
  have:w*(F*w')=(F*w)*w':=by grind
  rw[this,e]
  grind
 have e2:w*(s'*D)=s'*w*D:=by grind
 rw[e1,e2];exact h1
inductive HI (vs:List V) (H:Hp) (Q:VK) (x_3:XK):Prop
 | mk:∀(l:Addr) (fs:Crn),(vs = [.ref l])->(HZ H l fs)->((1<=fs.length/\fs.length<900))->(∀(k:Nat) (p:Addr×Int×Int) (H':Hp),fs[k]? = some p->(∀q∈fs,leF q p)->Same H H'->Q (.int (k:Int)) H')->HI vs H Q x_3
theorem nU{n m:Int}{w:Str}{ps:List Pr}(h:bR n m w ps=true):ps≠[]/\∀q∈ps,inB n m q=true:=by
 cases ps with
 | nil=>cases h
 | cons f r =>
  rw[cL,Bool.and_eq_true]at h;exact⟨by simp,List.all_eq_true.mp h.1⟩
inductive GY (C:Addr) (vs:List V) (H:Hp) (Q:VK) (E:XK):Prop
 | mk:∀(l1 l2 l:Addr) (qs rs:Crn) (ps:List Pr) (wy:Str),(vs = [.ref l1,.ref l2,.ref l,.str wy])->((At H l1 qs/\1<=qs.length/\qs.length<=20))->((At H l2 rs/\1<=rs.length/\rs.length<=20))->(Am H l ps)->(ps.length<900)->(eB wy)->((bR (aH qs) (aH rs) wy ps=false->∀H',Same H H'->E (.ref C) none H'))->((bR (aH qs) (aH rs) wy ps=true->∀(r:Addr) (s w:Int) (H':Hp),Dd H' r s w 2103->D7 qs rs ps s w->Same H H'->Q (.ref r) H'))->GY C vs H Q E
theorem CP:Ah ["fractions"] ["fractions"] (ag (top 19)):=smk
theorem fI(C5:Df K mg "number_of_greatest" (top 19))(Av:Fn P w K mg base "number_of_least" ["fractions"] 2 G0):Fn P w K mg base "number_of_greatest" ["fractions"] 3 HI:=by
 refine C5.fn CP (λ_ _ _ _ _ _ us hl=>by obtain⟨_,rfl⟩:=dk hl;rfl) (λvs H Q E h=>?_) (λf cdv A outer s H vs Q E hr h=>?_)
 ·obtain⟨l,fs,rfl,_⟩:=h
  rfl
 ·obtain⟨l,fs,rfl,F0,⟨h1,h9⟩,q⟩:=h
  have CN:Bd (aG CX0 P w K mg base ["fractions"] "number_of_greatest" (ag (top 19)) f cdv A outer s H E).nox (Dr.compScope (jG ((ax (top 19)).getD 0 (.Pass ⟨0,0,0,0⟩)))) [] "fraction" [] :=
   ⟨by rfl,rfl,by decide +kernel,by decide +kernel,rfl,(λp hp=>nomatch hp),by rfl,by decide +kernel,(λp hp=>nomatch hp),⟨rfl,rfl⟩,rfl⟩
  refine⟨_,(ah (ak (ao Av (hr.mono (by decide)) (by rfl) (aa (dR rfl CN (cw (pv 0)) (λfp s₀ H₀=>(aA (aa (iw e8 (aj (dE (K:=K) rfl) (pv 0) ac (λ_ _=>rfl))) (aa (aj (dE (K:=K) rfl) (pv 0) ac (λ_ _=>rfl)) ae))))) ae)))),?_⟩;refine⟨_,rfl,l,rfl,⟨_,SqL.of F0.lst⟩,gj (SqL.of F0.lst) (by rw[List.length_map];omega) (λi v H'=>∃(pa:Addr) (u:Addr×Int×Int),v = .ref pa/\fs[i]? = some u/\H' pa=some (.tup [.int (-u.2.1),.int u.2.2])) (λi v H H' st ⟨pa,u,e,hu,c⟩=>⟨pa,u,e,hu,st _ _ c⟩) ?_ ?_⟩
  ·intro i x H2 Kc hx s2 kk
   rw[List.getElem?_map]at hx;obtain⟨u,hu,rfl⟩:=Option.map_eq_some_iff.mp hx;have c:=s2 _ _ (F0.fr u (List.mem_of_getElem? hu)).1;refine⟨_,rfl,u.1,_,_,_,rfl,rfl,SqT.of c,rfl,_,rfl,_,rfl,u.1,_,_,_,rfl,rfl,SqT.of c,rfl,sz (by simp),λpp H3 s3 f3 n3=>kk _ _ s3 ⟨pp,u,rfl,hu,f3⟩⟩
  ·intro l2 ys H9 nl2 s9 f9 hly hr
   rw[List.length_map]at hly;obtain⟨gs,hgl,hg⟩:=jK (β:=Addr×Int×Int) ys (λi v g=>v = .ref g.1/\∃u,fs[i]? = some u/\g.2.1 = -u.2.1/\g.2.2=u.2.2/\H9 g.1=some (.tup [.int g.2.1,.int g.2.2])) λi x hx=>by
    obtain⟨pa,u,rfl,hu,c⟩:=hr i x hx;exact⟨(pa,-u.2.1,u.2.2),rfl,u,hu,rfl,rfl,c⟩
   have hgi:∀(i:Nat) g,gs[i]? = some g->∃u,fs[i]? = some u/\g.2.1 = -u.2.1/\g.2.2=u.2.2/\H9 g.1=some (.tup [.int g.2.1,.int g.2.2]):=λi g hg'=>by
    obtain⟨y,hy⟩:=jf hgl.symm hg';exact(hg i y g hy hg').2
   have F9:HZ H9 l2 gs:=by
    refine⟨by rw[f9];exact congrArg _ (congrArg _ (qr hgl λi x g hx hg'=>(hg i x g hx hg').1)),λg hgm=>?_⟩;obtain⟨i,hi,e⟩:=List.getElem_of_mem hgm;obtain⟨u,hu,e1,e2,c⟩:=hgi i g (by rw[List.getElem?_eq_getElem hi,e]);have fu:=F0.fr u (List.mem_of_getElem? hu);exact⟨c,by rw[e2];exact fu.2.1,by rw[e1];exact bits_neg fu.2.2.1,by rw[e2];exact fu.2.2.2⟩
   refine⟨l2,gs,rfl,F9,⟨by omega,by omega⟩,λk p H' hk hle _ s'=>?_⟩;obtain⟨u,hu,e1,e2,_⟩:=hgi k p hk;refine q k u H' hu (λv hv=>?_) (s9.trans s');obtain⟨j,hj,e⟩:=List.getElem_of_mem hv;have hj':fs[j]? = some v:=by rw[List.getElem?_eq_getElem hj,e]
   obtain⟨g,hg'⟩:=jf (ys:=gs) (by omega) hj';obtain⟨v',hv',f1,f2,_⟩:=hgi j g hg';rw[hj']at hv';cases hv';have z:=hle g (List.mem_of_getElem? hg');unfold leF at z ⊢;rw[e1,e2,f1,f2,Int.neg_mul,Int.neg_mul]at z;omega
theorem C8:Ah ["one","other","walk","way","squares"] ["one","other","walk","way"] (ag (top 91)):=smk
theorem kv{C C2 C9:Addr}(Ch:Hf K mg "walk_square" (top 91) [.str "on"])(EF:Dz K mg "NoWalk" C9)(DQ:Fx P w K mg base "is_walk" ["one","other","thing","way"] 7 [.str "on"] (Es C))(By:Fx P w K mg base "square_of" ["one","x","other","y"] 6 [] (Dn C2))(Bi:Fn P w K mg base "number_of_greatest" ["fractions"] 3 HI):Fx P w K mg base "walk_square" ["one","other","walk","way"] 8 [.str "on"] (GY C9):=by
 refine Ch.fx C8 (λT kV doc pm an cdv ct us its oT n s hv hl ho hs=>?_) (λT kV doc pm an cdv ct us its oT n s hv hl ho hs=>?_) (λvs H Q E h=>?_) (λf cdv A outer s H vs Q E hr h=>?_)
 ·obtain⟨u,rfl,_⟩:=cE hv
  match us,hl with
  | [_,_,_,_],_=>exact BindsTo.of_defaults rfl ho hs rfl rfl
 ·obtain⟨u,rfl,_⟩:=cE hv
  have hl1:us.length=3:=by simpa using hl
  match us,hl1 with
  | [_,_,_],_=>exact BindsTo.of_defaults rfl ho hs rfl rfl
 ·obtain⟨l1,l2,l,qs,rs,ps,wy,rfl,_⟩:=h
  rfl
 ·obtain⟨l1,l2,l,qs,rs,ps,wy,rfl,⟨L1,h1,h20⟩,⟨L2,g1,g20⟩,PP,hlen,hw,kE,kQ⟩:=h
  have hql:(qs.map λ(q:Addr×Int×Int)=>V.ref q.1).length=qs.length:=List.length_map _;have hrl:(rs.map λ(q:Addr×Int×Int)=>V.ref q.1).length=rs.length:=List.length_map _;have CN:Bd (aG (CXE P w) P w K mg base ["one","other","walk","way","squares"] "walk_square" (ag (top 91)) f cdv A outer s H E) (fV ((ax (top 91)).getD 1 (.Pass ⟨0,0,0,0⟩))) [("other",s.heap.objs.size+2),("one",s.heap.objs.size+1)] "pair" [("one",0),("other",1)] :=
   ⟨by rfl,rfl,by decide +kernel,by decide +kernel,rfl,(λp hp=>by simp only[List.mem_cons,List.not_mem_nil,or_false]at hp;rcases hp with rfl|rfl <;> rfl),by rfl,by decide +kernel,(λp hp=>by simp only[List.mem_cons,List.not_mem_nil,or_false]at hp;rcases hp with rfl|rfl <;> exact⟨rfl,rfl,.inr (.inl rfl),rfl,rfl⟩),⟨rfl,rfl⟩,rfl⟩
  refine⟨_,(af (aC (bA (aO (dj DQ (hr.mono (by decide)) (by rfl) (aa (pv 0) (aa (pv 1) (aa (pv 2) (aa (pv 3) ae))))))) (ah (cB EF (by rfl))) av) (af (fX (j:=4) rfl CN C8.nd rfl rfl (cw (pv 2)) (λfp s₀ H₀=>(bZ By (hr.mono (by decide)) (by rfl) (aa (pv 1) (aa (aj (dE (K:=K) rfl) (pv 0) ac (λ_ _=>rfl)) (aa (pv 2) (aa (aj (dE (K:=K) rfl) (pv 0) ac (λ_ _=>rfl)) ae))))))) (ah (ak (aj aF (pv 4) (ao Bi (hr.mono (by decide)) (by rfl) (aa (pv 4) ae)) (λ_ _=>rfl)))))),?_⟩;refine⟨_,rfl,_,rfl,_,rfl,_,rfl,l1,l2,_,_,_,_,_,rfl,⟨L1.lst,by rw[hql];omega⟩,⟨L2.lst,by rw[hrl];omega⟩,PP.th hlen,.str _,.inl ⟨wy,rfl,hw,λb H1 s1 wv=>⟨_,rfl,ay (λc=>?_) (λc=>?_)⟩⟩⟩
  ·have hb:b=false:=by simpa only[Bool.not_eq_true']using c
   rw[hql,hrl]at wv;exact kE (by rw[<- hb];exact(nV PP wv).symm) H1 s1
  have hb:b=true:=by simpa only[Bool.not_eq_false']using c
  rw[hql,hrl]at wv;have hwB:bR (aH qs) (aH rs) wy ps=true:=by rw[<- hb];exact(nV PP wv).symm
  obtain⟨hne,hin⟩:=nU hwB;have P1:=PP.mono s1;refine⟨_,rfl,l,rfl,⟨_,SqL.of P1.lst⟩,gj (SqL.of P1.lst) (by rw[a7];omega) (λi v H'=>∃(q:Pr) (r:Addr) (s w:Int),v = .ref r/\ps[i]? = some q/\Ak (sqF qs q.a q.b rs q.c q.d) (sqD q.b q.d) s w/\(au s<=2103/\au w<=2103)/\H' r=some (.tup [.int s,.int w])) (λi v H H' st ⟨q,r,s,w,e,hq,fr,bd,c⟩=>⟨q,r,s,w,e,hq,fr,bd,st _ _ c⟩) ?_ ?_⟩
  ·intro i x H2 Kc hx s2 kk
   obtain⟨q,hq,rfl⟩:=dC hx;have mq:=List.mem_of_getElem? hq;have pq:=(P1.mono s2).pr q mq;have hi:=hin q mq;have plx:=pq.plx hi (show aH qs<=100 by unfold aH;omega);have ply:=pq.ply hi (show aH rs<=100 by unfold aH;omega);refine⟨_,rfl,_,rfl,q.p,_,_,_,rfl,rfl,SqT.of pq.p_,rfl,_,rfl,_,rfl,q.p,_,_,_,rfl,rfl,SqT.of pq.p_,rfl,l1,l2,qs,rs,_,_,rfl,(L1.mono s1).mono s2,(L2.mono s1).mono s2,⟨h1,h20⟩,⟨g1,g20⟩,plx.th,ply.th,.inr ⟨q.x,q.a,q.b,rfl,plx,.inr ⟨q.y,q.c,q.d,rfl,ply,λr s' w' H3 fr f3 s3=>?_⟩⟩⟩;exact kk _ _ s3 ⟨q,r,s',w',rfl,hq,fr,⟨f3.ba,f3.bb⟩,f3.at_⟩
  ·intro l5 ys H9 nl5 s9 f9 hly hr
   rw[a7]at hly;obtain⟨gs,hgl,hg⟩:=jK (β:=Addr×Int×Int) ys (λi v g=>v = .ref g.1/\∃q,ps[i]? = some q/\Ak (sqF qs q.a q.b rs q.c q.d) (sqD q.b q.d) g.2.1 g.2.2/\(au g.2.1<=2103/\au g.2.2<=2103)/\H9 g.1=some (.tup [.int g.2.1,.int g.2.2])) λi x hx=>by
    obtain⟨q,r,s',w',rfl,hq,fr,bd,c⟩:=hr i x hx;exact⟨(r,s',w'),rfl,q,hq,fr,bd,c⟩
   have hgi:∀(i:Nat) g,gs[i]? = some g->∃q,ps[i]? = some q/\Ak (sqF qs q.a q.b rs q.c q.d) (sqD q.b q.d) g.2.1 g.2.2/\(au g.2.1<=2103/\au g.2.2<=2103)/\H9 g.1=some (.tup [.int g.2.1,.int g.2.2]):=λi g hg'=>by
    obtain⟨y,hy⟩:=jf hgl.symm hg';exact(hg i y g hy hg').2
   have F9:HZ H9 l5 gs:=by
    refine⟨by rw[f9];exact congrArg _ (congrArg _ (qr hgl λi x g hx hg'=>(hg i x g hx hg').1)),λg hgm=>?_⟩;obtain⟨i,hi,e⟩:=List.getElem_of_mem hgm;obtain⟨q,hq,fr,bd,c⟩:=hgi i g (by rw[List.getElem?_eq_getElem hi,e]);exact⟨c,fr.low.pos,ai bd.1 (by decide),ai bd.2 (by decide)⟩
   have hp0:0<ps.length:=List.length_pos_iff.mpr hne;refine⟨_,rfl,_,rfl,l5,gs,rfl,F9,⟨by omega,by omega⟩,λk p H' hk hle s'=>?_⟩;have F10:=F9.mono s';obtain⟨q,hq,fr,bd,c⟩:=hgi k p hk;refine⟨l5,_,_,_,rfl,rfl,SqL.of F10.lst,eE (j:=k) (v:=.ref p.1) (by rw[List.getElem?_map,hk];rfl),kQ hwB p.1 p.2.1 p.2.2 H' ⟨(F10.fr p (List.mem_of_getElem? hk)).1,fr.low,bd.1,bd.2⟩ ⟨fr.low,λu hu=>?_,q,List.mem_of_getElem? hq,fr.eq⟩ (s1.trans (s9.trans s'))⟩;obtain⟨j,hj,e⟩:=List.getElem_of_mem hu;have hj':ps[j]? = some u:=by rw[List.getElem?_eq_getElem hj,e]
   obtain⟨g,hg'⟩:=jf (ys:=gs) (by omega) hj';obtain⟨u',hu',fr',_,_⟩:=hgi j g hg';rw[hj']at hu';cases hu';have pu:=PP.pr u hu;exact wR (cZ pu.lx.pos pu.ly.pos) fr'.low.pos fr'.eq (hle g (List.mem_of_getElem? hg'))
theorem t6{a b c d:Int}(hb:0<b)(hd:0<d)(h:aK a b c d=true):∃k:Int,k*b<=a/\a<=(k+1)*b/\k*d<=c/\c<=(k+1)*d:=by
 unfold aK at h
 by_cases g:c*b<a*d
 ·rw[if_pos g]at h
  have h:¬(c / d+1)*b<a*1:=by simpa using h
  refine⟨c / d,?_,by omega,ck hd,by have:=cH (a:=c) hd;omega⟩;have q:=Int.mul_le_mul_of_nonneg_right (ck (a:=c) hd) (show 0<=b by omega);refine Int.le_of_mul_le_mul_right (a:=d) ?_ hd;rw[show c / d*b*d=c / d*d*b by grind];omega
 ·rw[if_neg g]at h
  have h:¬(a / b+1)*d<c*1:=by simpa using h
  refine⟨a / b,ck hb,by have:=cH (a:=a) hb;omega,?_,by omega⟩;have q:=Int.mul_le_mul_of_nonneg_right (ck (a:=a) hb) (show 0<=d by omega);refine Int.le_of_mul_le_mul_right (a:=b) ?_ hb;rw[show a / b*d*b=a / b*b*d by grind];omega
theorem qA{wy:Str}{a b c d:Int}:goB wy a b c d=true↔(wy=aB/\b=1/\d=1/\(c - a=0\/c - a=1))\/(¬wy=aB/\wy=aM/\aK a b c d=true)\/(¬wy=aB/\¬wy=aM/\¬c*b<a*d/\aK a b c d=true):=by
 unfold goB
 by_cases h1:wy=aB
 ·rw[if_pos h1]
  simp[h1]
 ·rw[if_neg h1]
  by_cases h2:wy=aM
  ·rw[if_pos h2]
   exact⟨λh=>.inr (.inl ⟨h1,h2,h⟩),λh=>by
    rcases h with⟨z,_⟩|⟨_,_,h⟩|⟨_,z,_⟩
    ·exact absurd z h1
    ·exact h
    ·exact absurd h2 z⟩
  ·rw[if_neg h2]
   simp[h1,h2]
theorem tK{n m:Int}{w:Str}{L:List Pr}:bR n m w L=true↔∃f l,L.head? = some f/\L.getLast? = some l/\L.all (inB n m)=true/\hV n m w f l=true/\cf w L=true:=by
 cases L with
 | nil=>simp[bR]
 | cons f r =>
  rw[cL,Bool.and_eq_true,Bool.and_eq_true];constructor
  ·rintro⟨h1,h2,h3⟩
   exact⟨f,_,rfl,List.getLast?_eq_some_getLast (by simp),h1,h2,h3⟩
  ·rintro⟨f',l,e1,e2,h1,h2,h3⟩
   cases e1;rw[List.getLast?_eq_some_getLast (by simp)]at e2;cases e2;exact⟨h1,h2,h3⟩
structure Gd(q:Pr):Prop where
 lx:Bg q.a q.b
 ly:Bg q.c q.d
 nx:0<=q.a
 ny:0<=q.c
theorem xC{H:Hp}{q:Pr}(h:PrAt H q):Gd q:=⟨h.lx,h.ly,h.nx,h.ny⟩
structure CH(I:Pr->Prop)(E S:Pr->Pr->Prop)(ps:List Pr):Prop where
 ne:0<ps.length
 i:∀q∈ps,I q
 e:∀f l,ps[0]? = some f->ps[ps.length - 1]? = some l->E f l
 s:∀(j:Nat) u v,ps[j]? = some u->ps[j+1]? = some v->S u v
theorem eZ{n m:Int}{wy:Str}{ps:List Pr}:bR n m wy ps=true↔CH (λq=>inB n m q=true) (λf l=>hV n m wy f l=true) (λu v=>dJ wy u v=true) ps:=by
 rw[tK];constructor
 ·rintro⟨f,l,h1,h2,h3,h4,h5⟩
  rw[List.head?_eq_getElem?]at h1;rw[List.getLast?_eq_getElem?]at h2;refine⟨(List.getElem?_eq_some_iff.mp h1).1,List.all_eq_true.mp h3,λf' l' e1 e2=>?_,dG.mp h5⟩;rw[h1]at e1;rw[h2]at e2;cases e1;cases e2;exact h4
 ·rintro⟨h1,h2,h3,h4⟩
  have e1:ps[0]? = some ps[0]:=List.getElem?_eq_getElem h1;have e2:ps[ps.length - 1]? = some ps[ps.length - 1]:=List.getElem?_eq_getElem (by omega);exact⟨ps[0],ps[ps.length - 1],by rw[List.head?_eq_getElem?];exact e1,by rw[List.getLast?_eq_getElem?];exact e2,List.all_eq_true.mpr h2,h3 _ _ e1 e2,dG.mpr h4⟩
theorem eU{n m:Int}{wy:Str}{ps:List Pr}:bh n m wy ps=true↔CH (λq=>inB n m q=true/\(wy=aB->bq q=true)) (λf l=>dY n m wy f l=true) (λu v=>cT wy u v=true) ps:=by
 rw[jm];constructor
 ·rintro⟨f,l,h1,h2,h3,h4,h5,h6⟩
  rw[List.head?_eq_getElem?]at h1;rw[List.getLast?_eq_getElem?]at h2;refine⟨(List.getElem?_eq_some_iff.mp h1).1,λq hq=>⟨List.all_eq_true.mp h3 q hq,λz=>?_⟩,λf' l' e1 e2=>?_,dX.mp h6⟩
  ·rw[if_pos z]at h4
   exact List.all_eq_true.mp h4 q hq
  ·rw[h1]at e1;rw[h2]at e2;cases e1;cases e2
   exact h5
 ·rintro⟨h1,h2,h3,h4⟩
  have e1:ps[0]? = some ps[0]:=List.getElem?_eq_getElem h1;have e2:ps[ps.length - 1]? = some ps[ps.length - 1]:=List.getElem?_eq_getElem (by omega);refine⟨ps[0],ps[ps.length - 1],by rw[List.head?_eq_getElem?];exact e1,by rw[List.getLast?_eq_getElem?];exact e2,List.all_eq_true.mpr λq hq=>(h2 q hq).1,?_,h3 _ _ e1 e2,dX.mpr h4⟩
  by_cases z:wy=aB
  ·rw[if_pos z]
   exact List.all_eq_true.mpr λq hq=>(h2 q hq).2 z
  ·rw[if_neg z]
theorem kq{n m:Int}{q:Pr}:inB n m q=true↔q.a<=n*q.b/\q.c<=m*q.d:=by
 unfold inB;simp
theorem pi{n m:Int}{wy:Str}{f l:Pr}:hV n m wy f l=true↔((f.a=0/\f.b=1)/\l.a=n/\l.b=1)/\(¬wy=bz->(f.c=0/\f.d=1)/\l.c=m/\l.d=1):=by
 unfold hV isP
 by_cases h:wy=bz
 ·simp[h]
 ·simp[h]
theorem fM{wy:Str}{u v:Pr}:dJ wy u v=true↔goB wy u.a u.b v.a v.b=true/\goB wy u.c u.d v.c v.d=true:=by
 unfold dJ;rw[Bool.and_eq_true]
theorem vJ{u v:Pr}:eC u v=true↔v.a*u.b<=u.a*v.b/\u.c*v.d<=v.c*u.d:=by
 unfold eC ltB;simp[Int.not_lt]
theorem sT{u v:Pr}:hJ u v=true↔(u.a=v.a/\u.b=v.b)/\u.b=1/\aK u.c u.d v.c v.d=true:=by
 unfold hJ;simp
theorem sS{u v:Pr}:jt u v=true↔(u.c=v.c/\u.d=v.d)/\u.d=1/\aK u.a u.b v.a v.b=true:=by
 unfold jt;simp
theorem sA{u v:Pr}:cR u v=true↔((u.a=v.a/\u.b=v.b)/\u.b=1/\aK u.c u.d v.c v.d=true)\/((u.c=v.c/\u.d=v.d)/\u.d=1/\aK u.a u.b v.a v.b=true):=by
 unfold cR;rw[Bool.or_eq_true,sT,sS]
theorem tG{u v:Pr}:eJ u v=true↔(v.a - u.a<=0/\u.c - v.c<=1)\/(v.a - u.a<=1/\u.c - v.c<=0):=by
 unfold eJ;simp
theorem mL{wy:Str}{u v:Pr}:cT wy u v=true↔(wy=aB/\eJ u v=true)\/(¬wy=aB/\cR u v=true)\/(¬wy=aB/\¬wy=aM/\eC u v=true):=by
 unfold cT
 by_cases h1:wy=aB
 ·rw[if_pos h1]
  exact⟨λh=>.inl ⟨h1,h⟩,λh=>by
   rcases h with⟨_,h⟩|⟨z,_⟩|⟨z,_⟩
   ·exact h
   ·exact absurd h1 z
   ·exact absurd h1 z⟩
 ·rw[if_neg h1]
  by_cases h2:wy=aM
  ·rw[if_pos h2]
   exact⟨λh=>.inr (.inl ⟨h1,h⟩),λh=>by
    rcases h with⟨z,_⟩|⟨_,h⟩|⟨_,z,_⟩
    ·exact absurd z h1
    ·exact h
    ·exact absurd h2 z⟩
  ·rw[if_neg h2,Bool.or_eq_true]
   exact⟨λh=>by
    rcases h with h|h
    ·exact .inr (.inr ⟨h1,h2,h⟩)
    ·exact .inr (.inl ⟨h1,h⟩),λh=>by
    rcases h with⟨z,_⟩|⟨_,h⟩|⟨_,_,h⟩
    ·exact absurd z h1
    ·exact .inr h
    ·exact .inl h⟩
theorem l4{n m:Int}{wy:Str}{f l:Pr}:dY n m wy f l=true↔((f.c=m/\f.d=1)\/(¬wy=bz/\f.a=0/\f.b=1))/\((l.c=0/\l.d=1)\/(¬wy=bz/\l.a=n/\l.b=1)):=by
 unfold dY isP
 by_cases h:wy=bz
 ·simp[h]
 ·simp[h]
theorem si{q:Pr}:bq q=true↔q.b=1/\q.d=1:=by
 unfold bq;simp
theorem j5{b:Int}(h:0<b):(0:Rat)<(b:Rat):=Rat.intCast_lt_intCast.mpr h
theorem yX{a b c d:Int}(hb:0<b)(hd:0<d):rq a b<rq c d↔a*d<c*b:=by
 unfold rq;have e:(c:Rat) / (d:Rat)*(b:Rat)=(c:Rat)*(b:Rat) / (d:Rat):=by
  rw[Rat.div_def,Rat.div_def];grind
 rw[Rat.div_lt_iff (j5 hb),e,Rat.lt_div_iff (j5 hd),<- Rat.intCast_mul,<- Rat.intCast_mul,Rat.intCast_lt_intCast]
theorem dh{a b c d:Int}(hb:0<b)(hd:0<d):rq a b<=rq c d↔a*d<=c*b:=by
 rw[<- Rat.not_lt,yX hd hb,Int.not_lt]
theorem eF(n:Int):rq n 1=(n:Rat):=by
 unfold rq;rw[Rat.div_def];show(n:Rat)*(1:Rat)⁻¹=_
 grind
theorem cv{n a b:Int}(hb:0<b):(n:Rat)<=rq a b↔n*b<=a:=by
 rw[<- eF,dh (by decide) hb,Int.mul_one]
theorem cu{n a b:Int}(hb:0<b):rq a b<=(n:Rat)↔a<=n*b:=by
 rw[<- eF,dh hb (by decide),Int.mul_one]
theorem fe{a b c d:Int}(l1:Bg a b)(l2:Bg c d)(h:rq a b=rq c d):a=c/\b=d :=
 bF l1 l2 (lK (nzl l1) (nzl l2) h)
theorem qU{a b c d:Int}(hb:0<b)(hd:0<d)(h:aK a b c d=true):Crs.Sh (rq a b) (rq c d):=by
 obtain⟨k,h1,h2,h3,h4⟩:=t6 hb hd h;refine⟨k,(cv hb).mpr h1,?_,(cv hd).mpr h3,?_⟩
 ·rw[<- Crs.int_add1];exact(cu hb).mpr h2
 ·rw[<- Crs.int_add1];exact(cu hd).mpr h4
noncomputable def px(q:Pr):Crs.Pt:=(rq q.a q.b,rq q.c q.d)
theorem cG{ps:List Pr}{j:Nat}{u:Crs.Pt}(h:(ps.map px)[j]? = some u):∃q,ps[j]? = some q/\u=px q:=by
 rw[List.getElem?_map]at h;obtain⟨q,h1,h2⟩:=Option.map_eq_some_iff.mp h;exact⟨q,h1,h2.symm⟩
theorem ff{ps:List Pr}{u:Crs.Pt}(h:u∈ps.map px):∃q∈ps,u=px q:=by
 obtain⟨q,h1,h2⟩:=List.mem_map.mp h;exact⟨q,h1,h2.symm⟩
noncomputable def EgP(ps:List Pr)(f:Pr):Prop:=∃u∈ps,∃v∈ps,((u.c=f.c/\u.d=f.d)/\(v.c=f.c/\v.d=f.d)/\Crs.Bw (rq u.a u.b) (rq v.a v.b) (rq f.a f.b)/\Crs.Sh (rq u.a u.b) (rq v.a v.b))\/((u.a=f.a/\u.b=f.b)/\(v.a=f.a/\v.b=f.b)/\Crs.Bw (rq u.c u.d) (rq v.c v.d) (rq f.c f.d)/\Crs.Sh (rq u.c u.d) (rq v.c v.d))
theorem vV(a:Rat)(b:Int)(h1:(b:Rat)<=a)(h2:a<=(b:Rat)+1):Crs.Sh a a:=⟨b,h1,h2,h1,h2⟩
theorem xR{a b:Int}(hb:0<b):Crs.Sh (rq a b) (rq a b):=vV _ (a / b) ((cv hb).mpr (ck hb)) (by rw[<- Crs.int_add1];exact(cu hb).mpr (by have:=cH (a:=a) hb;omega))
theorem xE{ps:List Pr}{f:Pr}(gp:∀q∈ps,Gd q)(gf:Gd f)(h:Crs.Eg (ps.map px) (px f)):EgP ps f:=by
 rcases h with h|⟨j,u,v,hu,hv,h⟩
 ·obtain⟨q,hq,e⟩:=ff h
  have g:=gp q hq;have e1:rq f.a f.b=rq q.a q.b:=congrArg Prod.fst e;have e2:rq f.c f.d=rq q.c q.d:=congrArg Prod.snd e;obtain⟨a1,a2⟩:=fe gf.lx g.lx e1;obtain⟨a3,a4⟩:=fe gf.ly g.ly e2;exact⟨q,hq,q,hq,.inl ⟨⟨a3.symm,a4.symm⟩,⟨a3.symm,a4.symm⟩,.inl ⟨by rw[e1];exact Rat.le_refl,by rw[e1];exact Rat.le_refl⟩,xR g.lx.pos⟩⟩
 ·obtain⟨p,hp,rfl⟩:=cG hu
  obtain⟨q,hq,rfl⟩:=cG hv;have mp:=List.mem_of_getElem? hp;have mq:=List.mem_of_getElem? hq;refine⟨p,mp,q,mq,?_⟩;rcases h with⟨e1,e2,b,s⟩|⟨e1,e2,b,s⟩
  ·exact .inl ⟨fe (gp p mp).ly gf.ly e1,fe (gp q mq).ly gf.ly e2,b,s⟩
  ·exact .inr ⟨fe (gp p mp).lx gf.lx e1,fe (gp q mq).lx gf.lx e2,b,s⟩
theorem vC{p q r s c d:Int}(hq:0<q)(hs:0<s)(hd:0<d):Crs.Bw (rq p q) (rq r s) (rq c d)↔btw p q r s c d:=by
 unfold Crs.Bw btw;rw[dh hq hd,dh hd hs,dh hs hd,dh hd hq]
theorem vI{u v:Pr}(gu:Gd u)(gv:Gd v):Crs.Bk (px u) (px v)↔eC u v=true:=by
 unfold Crs.Bk px;rw[vJ,dh gv.lx.pos gu.lx.pos,dh gu.ly.pos gv.ly.pos]
theorem xj{a b:Int}(h:b=1):Crs.Wh (rq a b):=⟨a,by rw[h,eF]⟩
theorem og{u v:Pr}(gu:Gd u)(gv:Gd v)(h:cR u v=true):Crs.Vs (px u) (px v)\/Crs.Hs (px u) (px v):=by
 rcases sA.mp h with⟨⟨e1,e2⟩,b1,sh⟩|⟨⟨e1,e2⟩,b1,sh⟩
 ·exact .inl ⟨by show rq u.a u.b=rq v.a v.b;rw[e1,e2],xj b1,qU gu.ly.pos gv.ly.pos sh⟩
 ·exact .inr ⟨by show rq u.c u.d=rq v.c v.d;rw[e1,e2],xj b1,qU gu.lx.pos gv.lx.pos sh⟩
theorem xF{u v p:Pr}(gu:Gd u)(gv:Gd v)(gp:Gd p)(h:Crs.Bx (px u) (px v) (px p)):Box u v p.a p.b p.c p.d :=
 ⟨(vC gu.lx.pos gv.lx.pos gp.lx.pos).mp h.1,(vC gu.ly.pos gv.ly.pos gp.ly.pos).mp h.2⟩
theorem ko{n m:Int}{q:Pr}(g:Gd q)(h:inB n m q=true):(0<=(px q).1/\(px q).1<=(n:Rat))/\0<=(px q).2/\(px q).2<=(m:Rat):=by
 have i:=kq.mp h;refine⟨⟨(cv (n:=0) g.lx.pos).mpr ?_,(cu g.lx.pos).mpr i.1⟩,(cv (n:=0) g.ly.pos).mpr ?_,(cu g.ly.pos).mpr i.2⟩
 ·have:=g.nx;omega
 ·have:=g.ny;omega
theorem fW(ps:List Pr):(ps.map px).length=ps.length:=List.length_map _
theorem zk{a b c d:Int}(hb:0<b)(hd:0<d)(h:¬c*b<a*d):rq a b<=rq c d:=(dh hb hd).mpr (by omega)
theorem xB{wy:Str}{a b c d:Int}(hb:0<b)(hd:0<d)(nf:¬wy=aM)(h:goB wy a b c d=true):rq a b<=rq c d/\Crs.Sh (rq a b) (rq c d):=by
 rcases qA.mp h with⟨_,b1,d1,e⟩|⟨_,z,_⟩|⟨_,_,l,s⟩
 ·subst b1 d1
  refine⟨(dh (by decide) (by decide)).mpr (by omega),a,?_,?_,?_,?_⟩
  ·rw[eF];exact Rat.le_refl
  ·rw[eF];grind
  ·rw[eF,Crs.int_le];omega
  ·rw[eF,<- Crs.int_add1,Crs.int_le];omega
 ·exact absurd z nf
 ·exact⟨zk hb hd l,qU hb hd s⟩
theorem rF{wy:Str}{a b c d:Int}(hb:0<b)(hd:0<d)(f:wy=aM)(h:goB wy a b c d=true):Crs.Sh (rq a b) (rq c d):=by
 rcases qA.mp h with⟨z,_⟩|⟨_,_,s⟩|⟨_,z,_⟩
 ·rw[f]at z;exact absurd z (by decide)
 ·exact qU hb hd s
 ·exact absurd f z
theorem wt{n m:Int}{wy:Str}{ps:List Pr}(nf:¬wy=aM)(gp:∀q∈ps,Gd q)(h:bR n m wy ps=true):Crs.Mono (ps.map px):=by
 have W:=eZ.mp h;refine⟨λj u v hu hv=>?_⟩;obtain⟨p,hp,rfl⟩:=cG hu;obtain⟨q,hq,rfl⟩:=cG hv;obtain⟨s1,s2⟩:=fM.mp (W.s j p q hp hq);have g1:=gp p (List.mem_of_getElem? hp);have g2:=gp q (List.mem_of_getElem? hq);obtain⟨a1,a2⟩:=xB g1.lx.pos g2.lx.pos nf s1;obtain⟨a3,a4⟩:=xB g1.ly.pos g2.ly.pos nf s2;exact⟨⟨a1,a3⟩,a2,a4⟩
theorem gA{n m:Int}{wy:Str}{ps:List Pr}(h:bR n m wy ps=true){u:Pr}(hu:ps[0]? = some u):(u.a=0/\u.b=1)/\(¬wy=bz->u.c=0/\u.d=1):=by
 have W:=eZ.mp h;have e2:ps[ps.length - 1]? = some (ps[ps.length - 1]'(by have:=W.ne;omega)):=List.getElem?_eq_getElem (by have:=W.ne;omega);have e:=pi.mp (W.e u _ hu e2);exact⟨e.1.1,λz=>(e.2 z).1⟩
theorem jS{n m:Int}{wy:Str}{ps:List Pr}(h:bR n m wy ps=true){u:Pr}(hu:ps[ps.length - 1]? = some u):(u.a=n/\u.b=1)/\(¬wy=bz->u.c=m/\u.d=1):=by
 have W:=eZ.mp h;have e2:ps[0]? = some (ps[0]'W.ne):=List.getElem?_eq_getElem W.ne;have e:=pi.mp (W.e _ u e2 hu);exact⟨⟨e.1.2.1,e.1.2.2⟩,λz=>(e.2 z).2⟩
theorem nv{n m:Int}{wy:Str}{ps:List Pr}(h:bh n m wy ps=true){u:Pr}(hu:ps[0]? = some u):(u.c=m/\u.d=1)\/(¬wy=bz/\u.a=0/\u.b=1):=by
 have W:=eU.mp h;have e2:ps[ps.length - 1]? = some (ps[ps.length - 1]'(by have:=W.ne;omega)):=List.getElem?_eq_getElem (by have:=W.ne;omega);exact(l4.mp (W.e u _ hu e2)).1
theorem qJ{n m:Int}{wy:Str}{ps:List Pr}(h:bh n m wy ps=true){u:Pr}(hu:ps[ps.length - 1]? = some u):(u.c=0/\u.d=1)\/(¬wy=bz/\u.a=n/\u.b=1):=by
 have W:=eU.mp h;have e2:ps[0]? = some (ps[0]'W.ne):=List.getElem?_eq_getElem W.ne;exact(l4.mp (W.e _ u e2 hu)).2
theorem eK{a b n:Int}(h:a=n/\b=1):rq a b=(n:Rat):=by rw[h.1,h.2,eF]
noncomputable def vP(wy:Str)(ps fs:List Pr):Prop:=(∃f∈fs,EgP ps f)\/∃p∈ps,FS wy fs p.a p.b p.c p.d
theorem wu{n m:Int}{wy:Str}{ps fs:List Pr}(nf:¬wy=aM)(nh:¬wy=aB)(gp:∀q∈ps,Gd q)(gf:∀q∈fs,Gd q)(h:bR n m wy ps=true)(k:bh n m wy fs=true):vP wy ps fs:=by
 have W:=eZ.mp h;have F:=eU.mp k;have key:=Crs.cross_on (W:=ps.map px) (G:=fs.map px) (N:=n) (M:=m) (wt nf gp h) ⟨λj f g hf hg=>?_⟩ (by rw[fW];exact W.ne) (by rw[fW];exact F.ne)
  (λp hp=>?_) (λp hp=>?_) (λu hu=>?_) (λu hu=>?_) (λf hf=>?_) (λf hf=>?_)
 ·rcases key with⟨f,hf,e⟩|⟨p,hp,j,f,g,hf,hg,nb,bx⟩
  ·obtain⟨q,hq,rfl⟩:=ff hf
   exact .inl ⟨q,hq,xE gp (gf q hq) e⟩
  ·obtain⟨q,hq,rfl⟩:=ff hp
   obtain⟨u,hu,rfl⟩:=cG hf;obtain⟨v,hv,rfl⟩:=cG hg;have gu:=gf u (List.mem_of_getElem? hu);have gv:=gf v (List.mem_of_getElem? hv);refine .inr ⟨q,hq,.inr ⟨j,u,v,hu,hv,?_,xF gu gv (gp q hq) bx⟩⟩;have:eC u v=false:=by
    cases e:eC u v with
    | false=>rfl
    | true=>exact absurd ((vI gu gv).mpr e) nb
   unfold msB;rw[if_neg nh,this];simp
 ·obtain⟨u,hu,rfl⟩:=cG hf
  obtain⟨v,hv,rfl⟩:=cG hg;have gu:=gf u (List.mem_of_getElem? hu);have gv:=gf v (List.mem_of_getElem? hv);rcases mL.mp (F.s j u v hu hv) with⟨z,_⟩|⟨_,s⟩|⟨_,_,b⟩
  ·exact absurd z nh
  ·exact .inr (og gu gv s)
  ·exact .inl ((vI gu gv).mpr b)
 ·obtain⟨q,hq,rfl⟩:=ff hp
  exact ko (gp q hq) (W.i q hq)
 ·obtain⟨q,hq,rfl⟩:=ff hp
  exact ko (gf q hq) (F.i q hq).1
 ·obtain⟨q,hq,rfl⟩:=cG hu
  exact eK (gA h hq).1
 ·rw[fW]at hu
  obtain⟨q,hq,rfl⟩:=cG hu;exact eK (jS h hq).1
 ·obtain⟨q,hq,rfl⟩:=cG hf
  rcases nv k hq with e|⟨np,e⟩
  ·exact .inl (eK e)
  ·refine .inr ⟨eK e,λu hu=>?_⟩
   obtain⟨r,hr,rfl⟩:=cG hu;exact eK ((gA h hr).2 np)
 ·rw[fW]at hf
  obtain⟨q,hq,rfl⟩:=cG hf;rcases qJ k hq with e|⟨np,e⟩
  ·exact .inl (eK e)
  ·refine .inr ⟨eK e,λu hu=>?_⟩
   rw[fW]at hu;obtain⟨r,hr,rfl⟩:=cG hu;exact eK ((jS h hr).2 np)
theorem hit{L:List Rat}{y:Rat}(h0:∀u,L[0]? = some u->u<=y)(h1:∃u∈L,y<=u):L[0]? = some y\/∃(j:Nat) (u v:Rat),L[j]? = some u/\L[j+1]? = some v/\u<=y/\y<=v:=by
 obtain⟨s,q,e,hq,hl⟩:=Crs.first_of (P:=λz=>y<=z) h1;cases s with
 | zero=>exact .inl (by rw[e,Rat.le_antisymm (h0 q e) hq])
 | succ s =>
  have hs:=(List.getElem?_eq_some_iff.mp e).1;have e':L[s]? = some (L[s]'(by omega)):=List.getElem?_eq_getElem (by omega);have:=hl s _ (by omega) e';exact .inr ⟨s,_,q,e',e,by grind,hq⟩
theorem lQ{n m:Int}{ps fs:List Pr}(hnm:n=0\/m=0)(n0:0<=n)(m0:0<=m)(gp:∀q∈ps,Gd q)(gf:∀q∈fs,Gd q)(h:bR n m aM ps=true)(k:bh n m aM fs=true):vP aM ps fs:=by
 have W:=eZ.mp h;have F:=eU.mp k;have np:¬aM=bz:=by decide
 have e0:ps[0]? = some (ps[0]'W.ne):=List.getElem?_eq_getElem W.ne;have el:ps[ps.length - 1]? = some (ps[ps.length - 1]'(by have:=W.ne;omega)):=List.getElem?_eq_getElem (by have:=W.ne;omega);have ef:fs[0]? = some (fs[0]'F.ne):=List.getElem?_eq_getElem F.ne;generalize ps[0]'W.ne=w0 at e0;generalize ps[ps.length - 1]'(by have:=W.ne;omega)=wl at el;generalize fs[0]'F.ne=f at ef;have mf:=List.mem_of_getElem? ef;have m0':=List.mem_of_getElem? e0;have ml:=List.mem_of_getElem? el;obtain⟨⟨f1,f2⟩,f3,f4⟩:=ko (gf f mf) (F.i f mf).1;have A:=gA h e0;have Z:=jS h el;have zero:∀{x:Rat},0<=x->x<=((0:Int):Rat)->x=0:=λa b=>Rat.le_antisymm b a;refine .inl ⟨f,mf,xE gp (gf f mf) ?_⟩;have sx:∀(j:Nat) u v,ps[j]? = some u->ps[j+1]? = some v->Crs.Sh (rq u.a u.b) (rq v.a v.b)/\Crs.Sh (rq u.c u.d) (rq v.c v.d):=λj u v hu hv=>by
  obtain⟨s1,s2⟩:=fM.mp (W.s j u v hu hv);have g1:=gp u (List.mem_of_getElem? hu);have g2:=gp v (List.mem_of_getElem? hv);exact⟨rF g1.lx.pos g2.lx.pos rfl s1,rF g1.ly.pos g2.ly.pos rfl s2⟩
 rcases hnm with rfl|rfl
 ·have all:∀q∈ps,rq q.a q.b=(px f).1:=λq hq=>by
   obtain⟨⟨a1,a2⟩,_⟩:=ko (gp q hq) (W.i q hq);rw[zero f1 f2];exact zero a1 a2
  have h0:∀u,(ps.map λq=>rq q.c q.d)[0]? = some u->u<=(px f).2:=λu hu=>by
   rw[List.getElem?_map,e0]at hu;cases hu;show rq w0.c w0.d<=_;rw[eK (A.2 np)];exact f3
  have h1:(px f).2<=rq wl.c wl.d:=by
   rw[eK (Z.2 np)];exact f4
  rcases hit (L:=ps.map λq=>rq q.c q.d) h0 ⟨_,List.mem_map.mpr ⟨wl,ml,rfl⟩,h1⟩ with z|⟨j,u,v,hu,hv,a1,a2⟩
  ·rw[List.getElem?_map,e0]at z
   injection z with z;refine .inl (List.mem_map.mpr ⟨w0,m0',Prod.ext (all w0 m0') z⟩)
  ·rw[List.getElem?_map]at hu hv
   obtain⟨p,hp,rfl⟩:=Option.map_eq_some_iff.mp hu;obtain⟨q,hq,rfl⟩:=Option.map_eq_some_iff.mp hv;exact .inr ⟨j,px p,px q,by rw[List.getElem?_map,hp];rfl,by rw[List.getElem?_map,hq];rfl,.inr ⟨all p (List.mem_of_getElem? hp),all q (List.mem_of_getElem? hq),.inl ⟨a1,a2⟩,(sx j p q hp hq).2⟩⟩
 ·have all:∀q∈ps,rq q.c q.d=(px f).2:=λq hq=>by
   obtain⟨_,a1,a2⟩:=ko (gp q hq) (W.i q hq);rw[zero f3 f4];exact zero a1 a2
  have h0:∀u,(ps.map λq=>rq q.a q.b)[0]? = some u->u<=(px f).1:=λu hu=>by
   rw[List.getElem?_map,e0]at hu;cases hu;show rq w0.a w0.b<=_;rw[eK A.1];exact f1
  have h1:(px f).1<=rq wl.a wl.b:=by
   rw[eK Z.1];exact f2
  rcases hit (L:=ps.map λq=>rq q.a q.b) h0 ⟨_,List.mem_map.mpr ⟨wl,ml,rfl⟩,h1⟩ with z|⟨j,u,v,hu,hv,a1,a2⟩
  ·rw[List.getElem?_map,e0]at z
   injection z with z;refine .inl (List.mem_map.mpr ⟨w0,m0',Prod.ext z (all w0 m0')⟩)
  ·rw[List.getElem?_map]at hu hv
   obtain⟨p,hp,rfl⟩:=Option.map_eq_some_iff.mp hu;obtain⟨q,hq,rfl⟩:=Option.map_eq_some_iff.mp hv;exact .inr ⟨j,px p,px q,by rw[List.getElem?_map,hp];rfl,by rw[List.getElem?_map,hq];rfl,.inl ⟨all p (List.mem_of_getElem? hp),all q (List.mem_of_getElem? hq),.inl ⟨a1,a2⟩,(sx j p q hp hq).1⟩⟩
theorem wo(u v:Pr):msB aM u v=true:=by
 unfold msB;rw[if_neg (by decide)];rfl
theorem sO{n m:Int}{ps fs:List Pr}(n0:0<=n)(m0:0<=m)(gp:∀q∈ps,Gd q)(gf:∀q∈fs,Gd q)(h:bR n m aM ps=true)(k:bh n m aM fs=true):vP aM ps fs:=by
 rcases Int.lt_or_le 0 n with hn|hn
 ·rcases Int.lt_or_le 0 m with hm|hm
  ·have W:=eZ.mp h
   have F:=eU.mp k;have np:¬aM=bz:=by decide
   have ef:fs[0]? = some (fs[0]'F.ne):=List.getElem?_eq_getElem F.ne;have el:fs[fs.length - 1]? = some (fs[fs.length - 1]'(by have:=F.ne;omega)):=List.getElem?_eq_getElem (by have:=F.ne;omega);generalize fs[0]'F.ne=f at ef;generalize fs[fs.length - 1]'(by have:=F.ne;omega)=l at el;have S:Crs.Sd n m (fs.map px) (px f) (px l):=by
    refine⟨by rw[List.getElem?_map,ef];rfl,by rw[fW,List.getElem?_map,el];rfl,⟨λj a b ha hb=>?_⟩,λp hp=>?_,?_,?_⟩
    ·obtain⟨u,hu,rfl⟩:=cG ha
     obtain⟨v,hv,rfl⟩:=cG hb;rcases mL.mp (F.s j u v hu hv) with⟨z,_⟩|⟨_,s⟩|⟨_,z,_⟩
     ·exact absurd z (by decide)
     ·exact og (gf u (List.mem_of_getElem? hu)) (gf v (List.mem_of_getElem? hv)) s
     ·exact absurd rfl z
    ·obtain⟨q,hq,rfl⟩:=ff hp
     exact ko (gf q hq) (F.i q hq).1
    ·rcases nv k ef with e|⟨_,e⟩
     ·exact .inl (eK e)
     ·exact .inr (eK e)
    ·rcases qJ k el with e|⟨_,e⟩
     ·exact .inl (eK e)
     ·exact .inr (eK e)
   obtain⟨p,hp,on⟩:=Crs.cross_free (W:=ps.map px) (by omega) (by omega) S (by rw[fW];exact W.ne) (λp hp=>by
     obtain⟨q,hq,rfl⟩:=ff hp;exact ko (gp q hq) (W.i q hq)) (λj u v hu hv=>by
     obtain⟨p,hp,rfl⟩:=cG hu;obtain⟨q,hq,rfl⟩:=cG hv;obtain⟨s1,s2⟩:=fM.mp (W.s j p q hp hq);have g1:=gp p (List.mem_of_getElem? hp);have g2:=gp q (List.mem_of_getElem? hq);exact⟨rF g1.lx.pos g2.lx.pos rfl s1,rF g1.ly.pos g2.ly.pos rfl s2⟩) (λu hu=>by
     obtain⟨q,hq,rfl⟩:=cG hu;have A:=gA h hq;exact Prod.ext (eK A.1) (eK (A.2 np))) (λu hu=>by
     rw[fW]at hu;obtain⟨q,hq,rfl⟩:=cG hu;have A:=jS h hq;exact Prod.ext (eK A.1) (eK (A.2 np)))
   obtain⟨q,hq,rfl⟩:=ff hp;refine .inr ⟨q,hq,?_⟩;rcases on with on|⟨j,a,b,ha,hb,bx⟩
   ·obtain⟨r,hr,e⟩:=ff on
    have e1:rq q.a q.b=rq r.a r.b:=congrArg Prod.fst e;have e2:rq q.c q.d=rq r.c r.d:=congrArg Prod.snd e;exact .inl ⟨r,hr,fe (gp q hq).lx (gf r hr).lx e1,fe (gp q hq).ly (gf r hr).ly e2⟩
   ·obtain⟨u,hu,rfl⟩:=cG ha
    obtain⟨v,hv,rfl⟩:=cG hb;exact .inr ⟨j,u,v,hu,hv,wo u v,xF (gf u (List.mem_of_getElem? hu)) (gf v (List.mem_of_getElem? hv)) (gp q hq) bx⟩
  ·exact lQ (.inr (by omega)) n0 m0 gp gf h k
 ·exact lQ (.inl (by omega)) n0 m0 gp gf h k
noncomputable def Hp1(ps:List Pr):Prop:=∀(j:Nat) u v,ps[j]? = some u->ps[j+1]? = some v->(v.a - u.a=0\/v.a - u.a=1)/\(v.c - u.c=0\/v.c - u.c=1)
theorem uY{ps:List Pr}(st:Hp1 ps):∀(d i:Nat) u v,ps[i]? = some u->ps[i+d]? = some v->u.a<=v.a/\u.c<=v.c
 | 0,i,u,v,e1,e2=>by
  rw[Nat.add_zero,e1]at e2;cases e2;exact⟨Int.le_refl _,Int.le_refl _⟩
 | d+1,i,u,v,e1,e2=>by
  have hl:=(List.getElem?_eq_some_iff.mp e2).1;have e3:ps[i+d]? = some (ps[i+d]'(by omega)):=List.getElem?_eq_getElem (by omega);obtain⟨a1,a2⟩:=uY st d i u _ e1 e3;obtain⟨b1,b2⟩:=st (i+d) _ v e3 e2;omega
theorem wG{ps:List Pr}{x y:Int}(st:Hp1 ps)(h0:∀u,ps[0]? = some u->u.a=0/\u.c=0)(hx:0<=x)(hy:0<=y)(top:∃p∈ps,x<=p.a/\y<=p.c)(A:∃p∈ps,x<=p.a/\p.c<=y)(C:(∀p∈ps,x<=p.a->y<=p.c)\/(∀p∈ps,x+1<=p.a->y<p.c)):∃p∈ps,p.a=x/\p.c=y:=by
 obtain⟨s,t,e,ht,hl⟩:=Crs.first_of (P:=λp:Pr=>x<=p.a/\y<=p.c) top;have mt:=List.mem_of_getElem? e;cases s with
 | zero =>
  have:=h0 t e;exact⟨t,mt,by omega,by omega⟩
 | succ s =>
  have hs:=(List.getElem?_eq_some_iff.mp e).1;have e':ps[s]? = some (ps[s]'(by omega)):=List.getElem?_eq_getElem (by omega);generalize ps[s]'(by omega)=p' at e';have n:=hl s p' (by omega) e';obtain⟨s1,s2⟩:=st s p' t e' e;have mp:=List.mem_of_getElem? e'
  by_cases c:p'.a<x
  ·obtain⟨p,hp,p1,p2⟩:=A
   obtain⟨k,hk⟩:=List.mem_iff_getElem?.mp hp;have:t.c<=p.c:=by
    rcases Nat.lt_or_ge s k with z|z
    ·obtain⟨d,rfl⟩:=Nat.exists_eq_add_of_le (show s+1<=k from z)
     exact(uY st d (s+1) t p e hk).2
    ·obtain⟨d,rfl⟩:=Nat.exists_eq_add_of_le z
     have:=(uY st d k p p' hk e').1;omega
   exact⟨t,mt,by omega,by omega⟩
  ·refine⟨t,mt,?_,by omega⟩
   rcases C with C|C
   ·have:=C p' mp (by omega)
    omega
   ·by_cases z:x+1<=t.a
    ·have:=C t mt z
     omega
    ·omega
theorem sN{n m:Int}{ps fs:List Pr}(gp:∀q∈ps,Gd q)(gf:∀q∈fs,Gd q)(h:bR n m aB ps=true)(k:bh n m aB fs=true):vP aB ps fs:=by
 have W:=eZ.mp h;have F:=eU.mp k;have np:¬aB=bz:=by decide
 have hop:∀{a b c d:Int},goB aB a b c d=true->b=1/\d=1/\(c - a=0\/c - a=1):=λhg=>by
  rcases qA.mp hg with⟨_,z⟩|⟨z,_⟩|⟨z,_⟩
  ·exact z
  ·exact absurd rfl z
  ·exact absurd rfl z
 have st:Hp1 ps:=λj u v hu hv=>by
  obtain⟨s1,s2⟩:=fM.mp (W.s j u v hu hv);exact⟨(hop s1).2.2,(hop s2).2.2⟩
 have e0:ps[0]? = some (ps[0]'W.ne):=List.getElem?_eq_getElem W.ne;have el:ps[ps.length - 1]? = some (ps[ps.length - 1]'(by have:=W.ne;omega)):=List.getElem?_eq_getElem (by have:=W.ne;omega);generalize ps[0]'W.ne=w0 at e0;generalize ps[ps.length - 1]'(by have:=W.ne;omega)=wl at el;have A0:=gA h e0;have Z0:=jS h el;have m0:=List.mem_of_getElem? e0;have ml:=List.mem_of_getElem? el;have whole:∀q∈ps,q.b=1/\q.d=1:=λq hq=>by
  obtain⟨j,hj⟩:=List.mem_iff_getElem?.mp hq;cases j with
  | zero =>
   rw[e0]at hj;cases hj;exact⟨A0.1.2,(A0.2 np).2⟩
  | succ j =>
   have hs:=(List.getElem?_eq_some_iff.mp hj).1;have e':ps[j]? = some (ps[j]'(by omega)):=List.getElem?_eq_getElem (by omega);obtain⟨s1,s2⟩:=fM.mp (W.s j _ q e' hj);exact⟨(hop s1).2.1,(hop s2).2.1⟩
 have fw:∀q∈fs,(q.b=1/\q.d=1)/\q.a<=n/\q.c<=m:=λq hq=>by
  have:=F.i q hq;have w1:=si.mp (this.2 rfl);have i1:=kq.mp this.1;rw[w1.1,w1.2]at i1;exact⟨w1,by omega,by omega⟩
 have h0:∀u,ps[0]? = some u->u.a=0/\u.c=0:=λu hu=>by
  have:=gA h hu;exact⟨this.1.1,(this.2 np).1⟩
 have wa:wl.a=n:=Z0.1.1;have wc:wl.c=m:=(Z0.2 np).1
 let A:Pr->Prop:=λf=>∃p∈ps,f.a<=p.a/\p.c<=f.c
 have ef:fs[0]? = some (fs[0]'F.ne):=List.getElem?_eq_getElem F.ne;generalize fs[0]'F.ne=f0 at ef;have mf0:=List.mem_of_getElem? ef;have AA:A f0:=by
  rcases nv k ef with e|⟨_,e⟩
  ·exact⟨wl,ml,by have:=(fw f0 mf0).2.1;omega,by omega⟩
  ·exact⟨w0,m0,by have:=A0.1.1;omega,by have:=(A0.2 np).1;have:=(gf f0 mf0).ny;omega⟩
 obtain⟨s,f,e,hA,hl⟩:=Crs.last_of (P:=A) ⟨f0,mf0,AA⟩;have hs:=(List.getElem?_eq_some_iff.mp e).1;have mf:=List.mem_of_getElem? e;have wf:=fw f mf;have C:(∀p∈ps,f.a<=p.a->f.c<=p.c)\/(∀p∈ps,f.a+1<=p.a->f.c<p.c):=by
  rcases Nat.lt_or_ge (s+1) fs.length with z|z
  ·have e3:fs[s+1]? = some (fs[s+1]'z):=List.getElem?_eq_getElem z
   generalize fs[s+1]'z=g at e3;have nA:=hl (s+1) g (by omega) e3;have nA':∀p∈ps,g.a<=p.a->g.c<p.c:=λp hp h1=>by
    rcases Int.lt_or_le g.c p.c with h2|h2
    ·exact h2
    ·exact absurd ⟨p,hp,h1,h2⟩ nA
   rcases mL.mp (F.s s f g e e3) with⟨_,z⟩|⟨z,_⟩|⟨z,_⟩
   ·rcases tG.mp z with⟨a1,a2⟩|⟨a1,a2⟩
    ·exact .inl λp hp h1=>by have:=nA' p hp (by omega);omega
    ·exact .inr λp hp h1=>by have:=nA' p hp (by omega);omega
   ·exact absurd rfl z
   ·exact absurd rfl z
  ·have es:fs[fs.length - 1]? = some f:=by rw[show fs.length - 1=s by omega];exact e
   rcases qJ k es with e|⟨_,e⟩
   ·exact .inl λp hp h1=>by have:=(gp p hp).ny;omega
   ·refine .inr λp hp h1=>?_
    have:=(kq.mp (W.i p hp)).1;rw[(whole p hp).1]at this;omega
 obtain⟨p,hp,p1,p2⟩:=wG st h0 (gf f mf).nx (gf f mf).ny ⟨wl,ml,by omega,by omega⟩ hA C;refine .inr ⟨p,hp,.inl ⟨f,mf,⟨p1,?_⟩,p2,?_⟩⟩
 ·rw[(whole p hp).1,wf.1.1]
 ·rw[(whole p hp).2,wf.1.2]
theorem zZ{n m:Int}{wy:Str}{ps fs:List Pr}(n0:0<=n)(m0:0<=m)(gp:∀q∈ps,Gd q)(gf:∀q∈fs,Gd q)(h:bR n m wy ps=true)(k:bh n m wy fs=true):vP wy ps fs:=by
 by_cases h1:wy=aB
 ·subst h1;exact sN gp gf h k
 by_cases h2:wy=aM
 ·subst h2;exact sO n0 m0 gp gf h k
 exact wu h2 h1 gp gf h k
theorem cvx{A B C D t1 t t2 M:Rat}(h1:t1<=t)(h2:t<=t2)(g1:(A+B*t1)*(A+B*t1)+(C+D*t1)*(C+D*t1)<=M)(g2:(A+B*t2)*(A+B*t2)+(C+D*t2)*(C+D*t2)<=M):(A+B*t)*(A+B*t)+(C+D*t)*(C+D*t)<=M:=by
 rcases Classical.em (t1=t2) with e|e
 ·have:t=t1:=by grind
  rw[this];exact g1
 have hp:0<t2 - t1:=by grind
 refine Rat.le_of_mul_le_mul_left ?_ hp;have a1:=Rat.mul_le_mul_of_nonneg_left g1 (show 0<=t2 - t by grind);have a2:=Rat.mul_le_mul_of_nonneg_left g2 (show 0<=t - t1 by grind);have sq:∀x:Rat,0<=x*x:=λx=>by
  rcases Classical.em (0<=x) with z|z
  ·exact Rat.mul_nonneg z z
  ·have:=Rat.mul_nonneg (show 0<=-x by grind) (show 0<=-x by grind)
   grind
 have a3:0<=(t - t1)*(t2 - t)*(t2 - t1)*(B*B+D*D):=Rat.mul_nonneg (Rat.mul_nonneg (Rat.mul_nonneg (by grind) (by grind)) (by grind)) (Rat.add_nonneg (sq B) (sq D));have e:(t2 - t1)*((A+B*t)*(A+B*t)+(C+D*t)*(C+D*t))=(t2 - t)*((A+B*t1)*(A+B*t1)+(C+D*t1)*(C+D*t1))+(t - t1)*((A+B*t2)*(A+B*t2)+(C+D*t2)*(C+D*t2)) - (t - t1)*(t2 - t)*(t2 - t1)*(B*B+D*D):=by grind
 have e2:(t2 - t1)*M=(t2 - t)*M+(t - t1)*M:=by grind
 rw[e,e2];generalize (t2 - t)*((A+B*t1)*(A+B*t1)+(C+D*t1)*(C+D*t1))=u1 at *;generalize (t - t1)*((A+B*t2)*(A+B*t2)+(C+D*t2)*(C+D*t2))=u2 at *;generalize (t - t1)*(t2 - t)*(t2 - t1)*(B*B+D*D)=u3 at *;generalize (t2 - t)*M=u4 at *;generalize (t - t1)*M=u5 at *
 grind
theorem xQ{X Y b X' Y' d:Int}{x y x' y':Rat}(hb:0<b)(hd:0<d)(e1:(X:Rat)=x*b)(e2:(Y:Rat)=y*b)(e3:(X':Rat)=x'*d)(e4:(Y':Rat)=y'*d):rq (sqN X Y b X' Y' d) (sqD b d)=(x' - x)*(x' - x)+(y' - y)*(y' - y):=by
 have hz:((b:Rat)*d)*(b*d)≠0:=by
  have:=Rat.mul_pos (Rat.mul_pos (j5 hb) (j5 hd)) (Rat.mul_pos (j5 hb) (j5 hd))
  grind
 unfold rq sqN sqD;simp only[Rat.intCast_mul,Rat.intCast_add,Rat.intCast_sub];rw[e1,e2,e3,e4];have:(x'*d*b - x*b*d)*(x'*d*b - x*b*d)+(y'*d*b - y*b*d)*(y'*d*b - y*b*d)=((x' - x)*(x' - x)+(y' - y)*(y' - y))*((b:Rat)*d*(b*d)):=by grind
 rw[this];exact Rat.mul_div_cancel hz
theorem mE{a b:Int}(hb:0<b):(a:Rat)=rq a b*(b:Rat):=by
 unfold rq;have:=j5 hb;exact(Rat.div_mul_cancel (by grind)).symm
theorem rC{c0 c1 a b X:Int}{k:Nat}(hb:0<b)(e:X=c0*b+(c1 - c0)*(a - (k:Int)*b)):(X:Rat)=((c0:Rat)+((c1:Rat) - c0)*(rq a b - ((k:Int):Rat)))*b:=by
 rw[e];simp only[Rat.intCast_mul,Rat.intCast_add,Rat.intCast_sub];have:=mE (a:=a) hb
 grind
theorem xH{qs rs:Crn}{k:Nat}{c d:Int}(hk:k+1<qs.length)(hd:0<d):∃A B C D:Rat,∀a b:Int,0<b->(k:Int)*b<=a->a<=((k:Int)+1)*b->rq (sqF qs a b rs c d) (sqD b d)=(A+B*rq a b)*(A+B*rq a b)+(C+D*rq a b)*(C+D*rq a b):=by
 refine⟨rq (ptX rs c d) d - (cX qs k:Rat)+((cX qs (k+1):Rat) - cX qs k)*((k:Int):Rat),- ((cX qs (k+1):Rat) - cX qs k),rq (ptY rs c d) d - (cY qs k:Rat)+((cY qs (k+1):Rat) - cY qs k)*((k:Int):Rat),- ((cY qs (k+1):Rat) - cY qs k),λa b hb h1 h2=>?_⟩;have e:=xQ hb hd (rC hb (jZ hb hk h1 h2)) (rC hb (jY hb hk h1 h2)) (mE (a:=ptX rs c d) hd) (mE (a:=ptY rs c d) hd);unfold sqF;rw[e];generalize rq (ptX rs c d) d=x';generalize rq (ptY rs c d) d=y';generalize (cX qs k:Rat)=x0;generalize (cX qs (k+1):Rat)=x1;generalize (cY qs k:Rat)=y0;generalize (cY qs (k+1):Rat)=y1;generalize rq a b=t;generalize ((k:Int):Rat)=z
 grind
theorem zE{qs rs:Crn}{a1 b1 a2 b2 a b c d s w:Int}(g1:1<=qs.length)(l1:Bg a1 b1)(l2:Bg a2 b2)(l:Bg a b)(hd:0<d)(hw:0<w)(i1:0<=a1/\a1<=aH qs*b1)(i2:0<=a2/\a2<=aH qs*b2)(bw:Crs.Bw (rq a1 b1) (rq a2 b2) (rq a b))(sh:Crs.Sh (rq a1 b1) (rq a2 b2))
  (m1:sqF qs a1 b1 rs c d*w<=s*sqD b1 d) (m2:sqF qs a2 b2 rs c d*w<=s*sqD b2 d):sqF qs a b rs c d*w<=s*sqD b d:=by
 have p1:=l1.pos;have p2:=l2.pos;have p:=l.pos
 by_cases c1:qs.length=1
 ·have z:aH qs=0:=by unfold aH;omega
  rw[z]at i1 i2;have e1:a1=0:=by omega
  have e2:a2=0:=by omega
  have r1:rq a1 b1=((0:Int):Rat):=by
   rw[<- eF,e1];exact Rat.le_antisymm ((dh p1 (by decide)).mpr (by omega)) ((dh (by decide) p1).mpr (by omega))
  have r2:rq a2 b2=((0:Int):Rat):=by
   rw[<- eF,e2];exact Rat.le_antisymm ((dh p2 (by decide)).mpr (by omega)) ((dh (by decide) p2).mpr (by omega))
  have r:rq a b=rq a1 b1:=by
   rw[r2,<- r1]at bw;rcases bw with⟨x,y⟩|⟨x,y⟩
   ·exact Rat.le_antisymm y x
   ·exact Rat.le_antisymm y x
  obtain⟨rfl,rfl⟩:=fe l l1 r;exact m1
 have n1:1<=aH qs:=by unfold aH;omega
 obtain⟨i,k0,k1,⟨f1,f2⟩,f3,f4⟩:=Crs.fit n1 sh ((cv (n:=0) p1).mpr (by omega)) ((cu p1).mpr i1.2) ((cv (n:=0) p2).mpr (by omega)) ((cu p2).mpr i2.2);have hk:i.toNat+1<qs.length:=by unfold aH at k1;omega
 have ei:((i.toNat:Nat):Int)=i:=by omega
 obtain⟨A,B,C,D,V⟩:=xH (qs:=qs) (rs:=rs) (k:=i.toNat) (c:=c) hk hd;rw[ei]at V;have f0:(i:Rat)<=rq a b/\rq a b<=(i:Rat)+1:=by
  rcases bw with⟨x,y⟩|⟨x,y⟩
  ·exact⟨Rat.le_trans f1 x,Rat.le_trans y f4⟩
  ·exact⟨Rat.le_trans f3 x,Rat.le_trans y f2⟩
 rw[<- Crs.int_add1]at f0 f2 f4;have v1:=V a1 b1 p1 ((cv p1).mp f1) ((cu p1).mp f2);have v2:=V a2 b2 p2 ((cv p2).mp f3) ((cu p2).mp f4);have v:=V a b p ((cv p).mp f0.1) ((cu p).mp f0.2);have q1:=(dh (cZ p1 hd) hw).mpr m1;have q2:=(dh (cZ p2 hd) hw).mpr m2;refine(dh (cZ p hd) hw).mp ?_;rw[v1]at q1;rw[v2]at q2;rw[v];rcases bw with⟨x,y⟩|⟨x,y⟩
 ·exact cvx x y q1 q2
 ·exact cvx x y q2 q1
theorem zF{qs rs:Crn}{ps:List Pr}{f:Pr}{s w:Int}(g1:1<=qs.length)(g2:1<=rs.length)(gp:∀q∈ps,Gd q/\inB (aH qs) (aH rs) q=true)(gf:Gd f)(hw:0<w)(h:EgP ps f)(m:∀q∈ps,sqF qs q.a q.b rs q.c q.d*w<=s*sqD q.b q.d):sqF qs f.a f.b rs f.c f.d*w<=s*sqD f.b f.d:=by
 obtain⟨u,hu,v,hv,h⟩:=h;have mu:=m u hu;have mv:=m v hv;obtain⟨gu,iu⟩:=gp u hu;obtain⟨gv,iv⟩:=gp v hv;have iu:=kq.mp iu;have iv:=kq.mp iv;rcases h with⟨⟨e1,e2⟩,⟨e3,e4⟩,bw,sh⟩|⟨⟨e1,e2⟩,⟨e3,e4⟩,bw,sh⟩
 ·rw[e1,e2]at mu
  rw[e3,e4]at mv;exact zE g1 gu.lx gv.lx gf.lx gf.ly.pos hw ⟨gu.nx,iu.1⟩ ⟨gv.nx,iv.1⟩ bw sh mu mv
 ·rw[e1,e2,fO,fP]at mu
  rw[e3,e4,fO,fP]at mv;rw[fO,fP];exact zE g2 gu.ly gv.ly gf.ly gf.lx.pos hw ⟨gu.ny,iu.2⟩ ⟨gv.ny,iv.2⟩ bw sh mu mv
theorem uz{qs rs:Crn}{wy:Str}{ps fs:List Pr}{s w s' w':Int}(g1:1<=qs.length)(g2:1<=rs.length)(gp:∀q∈ps,Gd q)(gf:∀q∈fs,Gd q)(h:bR (aH qs) (aH rs) wy ps=true)(k:bh (aH qs) (aH rs) wy fs=true)(mx:D7 qs rs ps s w)(mn:Bf qs rs (FS wy fs) s' w'):¬s*w'<s'*w:=by
 have hw:=mx.low.pos;have hw':=mn.low.pos;have key:∀q:Pr,Gd q->sqF qs q.a q.b rs q.c q.d*w<=s*sqD q.b q.d->s'*sqD q.b q.d<=sqF qs q.a q.b rs q.c q.d*w'->¬s*w'<s'*w:=λq gq u l=>by
  have hD:=cZ gq.lx.pos gq.ly.pos;have x1:=Int.mul_le_mul_of_nonneg_right u (show 0<=w' by omega);have x2:=Int.mul_le_mul_of_nonneg_right l (show 0<=w by omega);have x3:s'*w*sqD q.b q.d<=s*w'*sqD q.b q.d:=by
   generalize sqD q.b q.d=D at *;generalize sqF qs q.a q.b rs q.c q.d=F at *;rw[show F*w*w'=F*w'*w by grind,show s*D*w'=s*w'*D by grind]at x1;rw[show s'*D*w=s'*w*D by grind]at x2;exact Int.le_trans x2 x1
  have:=Int.le_of_mul_le_mul_right x3 hD;omega
 rcases zZ (n:=aH qs) (m:=aH rs) (by unfold aH;omega) (by unfold aH;omega) gp gf h k with⟨f,hf,e⟩|⟨p,hp,e⟩
 ·exact key f (gf f hf) (zF g1 g2 (λq hq=>⟨gp q hq,(nU h).2 q hq⟩) (gf f hf) hw e mx.most) (mn.least _ _ _ _ (gf f hf).lx (gf f hf).ly (.inl ⟨f,hf,⟨rfl,rfl⟩,rfl,rfl⟩))
 ·exact key p (gp p hp) (mx.most p hp) (mn.least _ _ _ _ (gp p hp).lx (gp p hp).ly e)
theorem GE:Ah ["thing"] ["thing"] (ag (top 24)):=smk
theorem o5(GU:Df K mg "is_small" (top 24))(V_LARGEST:∃tk,mg "LARGEST" = some (.int 999999999999 tk))(AF:Fn P w K mg base "is_whole" ["thing"] 1 Dm):Fn P w K mg base "is_small" ["thing"] 2 E8:=by
 obtain⟨tL,E2⟩:=V_LARGEST;refine GU.fn GE (λ_ _ _ _ _ _ us hl=>by obtain⟨_,rfl⟩:=dk hl;rfl) (λvs H Q E h=>?_) (λf cdv A outer s H vs Q E hr h=>?_)
 ·obtain⟨x,t,rfl,_⟩:=h
  rfl
 ·obtain⟨x,t,rfl,k,q⟩:=h
  refine⟨_,(ah (ak (bO (ao AF (hr.mono (by decide)) (by rfl) (aa (pv 0) ae)) (bD (ou eh eh (iw e8 (dD (v:=.int 999999999999) (by rfl) E2 ⟨_,rfl⟩)) (pv 0) (dD (v:=.int 999999999999) (by rfl) E2 ⟨_,rfl⟩)))))),?_⟩;refine⟨_,rfl,x,t,rfl,k,_,rfl,?_⟩;rcases Kn.cases_int k with⟨a,rfl,rfl⟩|⟨nx,ex⟩
  ·refine gK rfl ?_
   refine⟨_,rfl,_,rfl,_,_,rfl,rfl,_,rfl,ay (λhd=>?_) (λhd=>?_)⟩
   ·have z:cQ (.int a)=decide (a<=999999999999):=by
     show(decide (-ie<=a) && decide (a<=ie))=_;rw[show decide (-ie<=a)=true from hd];rfl
    rw[z]at q;exact⟨_,_,rfl,rfl,q⟩
   ·have z:cQ (.int a)=false:=by
     show(decide (-ie<=a) && decide (a<=ie))=_;rw[show decide (-ie<=a)=false from hd];rfl
    rw[z]at q;exact q
  ·rw[sv nx]at q
   rw[ex];exact km q
theorem FT:Ah ["thing"] ["thing"] (ag (top 25)):=smk
theorem nj(Gm:Df K mg "is_corner" (top 25))(CG:Fn P w K mg base "is_small" ["thing"] 2 E8)(T:Txt mg):Fn P w K mg base "is_corner" ["thing"] 3 Ez:=by
 refine Gm.fn FT (λ_ _ _ _ _ _ us hl=>by obtain⟨_,rfl⟩:=dk hl;rfl) (λvs H Q E h=>?_) (λf cdv A outer s H vs Q E hr h=>?_)
 ·obtain⟨x,rfl,_⟩:=h
  rfl
 ·obtain⟨x,rfl,th,q⟩:=h
  obtain⟨t,k⟩:=th.kn;refine⟨_,(ah (ak (bO (az bY (by rfl) T.z_isinstance bo (aa (pv 0) (aa (ix T.z_tuple kN) ae))) (bO (aR aQ (az aI (by rfl) T.z_len ci (aa (pv 0) ae)) ac (ar _)) (bO (ao CG (hr.mono (by decide)) (by rfl) (aa (aj am (pv 0) ac (λ_ _=>rfl)) ae)) (bD (ao CG (hr.mono (by decide)) (by rfl) (aa (aj am (pv 0) ac (λ_ _=>rfl)) ae)))))))),?_⟩;refine⟨_,rfl,x,t,"tuple",rfl,k,.inr (.inr (.inl rfl)),_,rfl,?_⟩;rcases Kn.cases_tp k with⟨p,xs,rfl,e,rfl⟩|⟨hl,hs⟩
  ·rw[jq e]at q
   refine gK (by decide) ?_;refine⟨_,rfl,p,xs,rfl,.inr (SqT.of e),rfl,_,rfl,ay (λhc=>?_) (λhc=>?_)⟩
   ·have hn:xs.length=2:=by
     have z:(xs.length:Int)=2:=by simpa using hc
     omega
    match xs,hn,e,q with
    | [y,z],_,e,q =>
     obtain⟨ty,ky⟩:=th.parts p _ rfl e y (by simp);obtain⟨tz,kz⟩:=th.parts p _ rfl e z (by simp);have q:Q (.bl (cQ y && cQ z)) H:=q;refine⟨_,rfl,p,_,_,_,rfl,rfl,SqT.of e,rfl,y,ty,rfl,ky,_,rfl,ay (λh1=>?_) (λh1=>?_)⟩
     ·rw[h1,Bool.true_and]at q
      exact⟨_,rfl,p,_,_,_,rfl,rfl,SqT.of e,rfl,z,tz,rfl,kz,q⟩
     ·rw[h1,Bool.false_and]at q
      exact q
   ·have hn:xs.length≠2:=by
     intro z;rw[z]at hc;exact absurd hc (by decide)
    rw[tt hn]at q;exact q
  ·rw[hl]at q
   rw[hs];exact km q
noncomputable def qS:Str:=Str.ofString "/"
noncomputable def aW(a b:Int):Str:=if b=1 then num a else num a++qS++num b
inductive Ep (vs:List V) (H:Hp) (Q:VK) (x_3:XK):Prop
 | mk:∀(p:Addr) (a b:Int),(vs = [.ref p])->(H p=some (.tup [.int a,.int b]))->((Dg a/\Dg b))->(Q (.str (aW a b)) H)->Ep vs H Q x_3
theorem tX{n:Int}(h:Dg n):(num n).length<=4301:=eA (by decide) h
theorem bj{n:Nat}(h:n<=100000):n<=sizeLine:=by
 have:sizeLine=16777216:=sizeLine_eq;omega
inductive Ei (C:Addr) (vs:List V) (H:Hp) (Q:VK) (E:XK):Prop
 | mk:∀x:Str,(vs = [.str x])->(x.length<=60000)->(((∃n:Int,x=num n/\n.natAbs<10^1000/\∀H',Same H H'->Q (.int n) H')\/((∀n:Int,n.natAbs<10^1000->x≠num n)/\∀H',Same H H'->E (.ref C) none H')))->Ei C vs H Q E
theorem Cj:Ah ["a","top","bottom"] ["a"] (ag (top 68)):=smk
theorem k7(FA:Df K mg "show_ratio" (top 68))(DG:Dig K)(T:Txt mg):Fn P w K mg base "show_ratio" ["a"] 1 Ep:=by
 refine FA.fn Cj (λ_ _ _ _ _ _ us hl=>by obtain⟨_,rfl⟩:=dk hl;rfl) (λvs H Q E h=>?_) (λf cdv A outer s H vs Q E hr h=>?_)
 ·obtain⟨p,a,b,rfl,_⟩:=h
  rfl
 ·obtain⟨p,a,b,rfl,e,⟨da,db⟩,q⟩:=h
  refine⟨_,(af (aq (i:=1) Cj.nd rfl (Or.inl rfl) (aj am (pv 0) ac (λ_ _=>rfl))) (af (aq (i:=2) Cj.nd rfl (Or.inl rfl) (aj am (pv 0) ac (λ_ _=>rfl))) (ah (ak (j9 (ap aQ (pv 2) ac (ar _)) (gG (me (K:=K) rfl DG rfl) (by rfl) T.z_str nF (aa (pv 1) ae)) (j8 (fZ (K:=K) rfl DG rfl (pv 1)) aE (fZ (K:=K) rfl DG rfl (pv 2)))))))),?_⟩;refine⟨_,rfl,p,_,_,_,rfl,rfl,SqT.of e,rfl,?_⟩;refine⟨_,rfl,p,_,_,_,rfl,rfl,SqT.of e,rfl,?_⟩;refine⟨_,rfl,rfl,_,rfl,ay (λh=>?_) (λh=>?_)⟩
  ·have h:b=1:=by simpa using h
   refine⟨_,rfl,a,rfl,da,?_⟩;unfold aW at q;rw[if_pos h]at q;exact q
  ·have h:¬b=1:=by simpa using h
   unfold aW at q;rw[if_neg h]at q;have za:=tX da;have zb:=tX db;have zs:(Str.ofString "/").length=1:=rfl;refine⟨_,rfl,.inl ⟨a,rfl,da,_,rfl,bj (by omega),_,rfl,bj (by omega),_,rfl,.inl ⟨b,rfl,db,_,rfl,bj (by omega),q⟩⟩⟩
theorem pS(x:Str)(c:Nat):Txt.startswith x ⟨#[c]⟩=true↔x.cps.toList[0]? = some c:=by
 rw[<- StrLaws.subAt_one];unfold Txt.startswith;rw[Bool.and_eq_true,decide_eq_true_eq]
theorem lD{x:Str}{c:Nat}:Txt.startswith x ⟨#[c]⟩=true↔∃r,x.cps.toList=c::r:=by
 rw[pS];cases x.cps.toList with
 | nil=>simp
 | cons a l=>simp
theorem oj{x:Str}{c:Nat}{r:List Nat}(e:x.cps.toList=c::r):(Txt.slice x (some 1) none).cps.toList=r:=by
 have hl:=cD x;rw[e,List.length_cons]at hl;rw[PyProof.Rows.slice_from_eq (x:=x) (i:=1) (b:=x.length) (by decide) (by omega) rfl,e];show List.take ((x.length:Int) - 1).toNat r=r;exact List.take_of_length_le (by omega)
noncomputable def qm(s:Stmt):Scope:=match s with
 | .If (.BoolOp _ [_,.UnaryOp _ (.Call _ [.ListComp _ _ sc _] _ _) _] _) _ _ _=>sc
 | _=>{ kind:=.function,names:=[],isGenerator:=false,isCoroutine:=false }
theorem vh:(Str.ofString "0123456789").cps.toList = [48,49,50,51,52,53,54,55,56,57]:=by decide +kernel
theorem wF(c:Nat):Txt.contains (Str.ofString "0123456789") ⟨#[c]⟩=decide (48<=c/\c<=57):=by
 refine(StrLaws.found_one (Str.ofString "0123456789") c).trans ?_;rw[vh,decide_eq_decide];simp only[List.mem_cons,List.not_mem_nil,or_false];omega
theorem lP:Str.ofString "-" = ⟨#[45]⟩:=by decide +kernel
theorem Ck:Ah ["text","figures","number"] ["text"] (ag (top 73)):=smk
theorem k9{C:Addr}(FC:Df K mg "read_whole" (top 73))(Ay:Dz K mg "NoText" C)(DG:Dig K)(V_FIGURES:∃tk,mg "FIGURES" = some (.str (Str.ofString "0123456789") tk))(V_MOST:∃tk,mg "MOST_FIGURES" = some (.int 1000 tk))(T:Txt mg):Fx P w K mg base "read_whole" ["text"] 2 [] (Ei C):=by
 refine FC.fx Ck (λ_ _ _ _ _ _ us hl=>by obtain⟨_,rfl⟩:=dk hl;rfl) (λvs H Q E h=>?_) (λf cdv A outer s H vs Q E hr h=>?_)
 ·obtain⟨x,rfl,_⟩:=h
  rfl
 ·obtain⟨x,rfl,hl,h⟩:=h
  obtain⟨tF,Ho⟩:=V_FIGURES;obtain⟨tM,EH⟩:=V_MOST;have CN:Bd (aG (CXE P w) P w K mg base ["text","figures","number"] "read_whole" (ag (top 73)) f cdv A outer s H E) (qm ((ax (top 73)).getD 1 (.Pass ⟨0,0,0,0⟩))) [] "sign" [] :=
   ⟨by rfl,rfl,by decide +kernel,by decide +kernel,rfl,(λp hp=>nomatch hp),by rfl,by decide +kernel,(λp hp=>nomatch hp),⟨rfl,rfl⟩,rfl⟩
  have no:(∀n:Int,n.natAbs<10^1000->x≠num n)->∀H',Same H H'->E (.ref C) none H':=λz H' s'=>by
   rcases h with⟨n,e,hn,_⟩|⟨_,k⟩
   ·exact absurd e (z n hn)
   ·exact k H' s'
  have R:∃u:TS,PSs (aG (CXE P w) P w K mg base ["text","figures","number"] "read_whole" (ag (top 73)) f cdv A outer s H E) ((ax (top 73)).drop 1) u/\∀(F:Str),F.cps.toList=ln x.cps.toList->F.length<=60000->u { nx:=λ_ H'=>Q .non H',rt:=Q } [some (.str x),some (.str F),none] H:=by
   refine⟨_,(af (aC (cb (bA (jX eh eh ac (az iV (by rfl) T.z_len ci (aa (pv 1) ae)) (dD (v:=.int 1000) (by rfl) EH ⟨_,rfl⟩))) (bQ (bA (aO (az (gw rfl) (by rfl) T.z_all kP (aa (dR rfl CN (x8 (pv 1)) (λfp s₀ H₀=>(aR ye (pv 0) (dD (v:=.str (Str.ofString "0123456789")) (by rfl) Ho ⟨_,rfl⟩) (by rfl)))) ae)))))).pt (ah (cB Ay (by rfl))) av) (af (aq (i:=2) Ck.nd rfl (Or.inl rfl) (gG (tw (K:=K) rfl DG) (by rfl) T.z_int qM (aa (pv 0) ae))) (af (aC (ap dw (gG (me (K:=K) rfl DG rfl) (by rfl) T.z_str nF (aa (pv 2) ae)) (pv 0) (ar _)) (ah (cB Ay (by rfl))) av) (ah (ak (pv 2)))))),λF hF hz=>?_⟩;have lF:=cD F;have nf:∀n:Int,n.natAbs<10^1000->x=num n->F.cps.toList=fJ n.natAbs:=λn hn e=>by rw[hF,e,mK]
   refine⟨_,rfl,F,rfl,bj (by omega),_,_,rfl,rfl,_,rfl,ay (λc1=>?_) (λc1=>?_)⟩
   rotate_left
   ·refine⟨_,rfl,jy (no (λn hn e=>?_) H (Same.refl _))⟩
    have z:=nf n hn e;have c1:¬(1:Int)<=(F.length:Int):=by simpa using c1
    refine nB n.natAbs ?_;rw[<- z];exact List.length_eq_zero_iff.mp (by omega)
   have c1:(1:Int)<=(F.length:Int):=by simpa using c1
   refine⟨_,_,rfl,rfl,_,rfl,ay (λc2=>no (λn hn e=>?_) H (Same.refl _)) (λc2=>?_)⟩
   ·have c2:¬(F.length:Int)<=1000:=by simpa using c2
    have z:=nf n hn e;have:=(pk (k:=1000) (by decide)).mpr hn;rw[<- z]at this;omega
   have c2:(F.length:Int)<=1000:=by simpa using c2
   refine⟨_,rfl,F,rfl,w9 (x:=F) (by show F.length<_;omega) (λi v H'=>∃c,F.cps.toList[i]? = some c/\v = .bl (decide (48<=c/\c<=57))) (λi v H H' _ z=>z) ?_ ?_⟩
   ·intro i c H2 Kc hc s2 kk
    refine⟨_,rfl,_,_,rfl,rfl,kk _ _ (Same.refl _) ⟨c,hc,?_⟩⟩;rw[wF]
   ·intro l ys H2 nl s2 f2 hly hr
    have ey:ys=(F.cps.toList.map λc=>decide (48<=c/\c<=57)).map V.bl:=by
     apply List.ext_getElem?;intro i;rw[List.map_map,List.getElem?_map];cases hy:ys[i]? with
     | none =>
      have:F.cps.toList.length<=i:=by
       have:=List.getElem?_eq_none_iff.mp hy;have e9:F.cps.size=F.cps.toList.length:=by simp
       omega
      rw[List.getElem?_eq_none this];rfl
     | some y =>
      obtain⟨c,hc,rfl⟩:=hr i y hy;rw[hc];rfl
    subst ey;refine⟨l,_,rfl,SqL.of f2,_,rfl,ay (λc3=>no (λn hn e=>?_) H2 s2) (λc3=>?_)⟩
    ·have z:=nf n hn e
     have c3:((F.cps.toList.map λc=>decide (48<=c/\c<=57)).all id)=false:=by simpa only[Bool.not_eq_true']using c3
     rw[z,List.all_map]at c3;have:(fJ n.natAbs).all (id ∘ λc=>decide (48<=c/\c<=57))=true:=List.all_eq_true.mpr λc hc=>decide_eq_true (dl _ c hc);rw[this]at c3;cases c3
    have c3:((F.cps.toList.map λc=>decide (48<=c/\c<=57)).all id)=true:=by simpa only[Bool.not_eq_false']using c3
    have ad:PySem.NumText.AllDigits (ln x.cps.toList):=λc hc=>by
     rw[<- hF]at hc;rw[List.all_map,List.all_eq_true]at c3;exact of_decide_eq_true (c3 c hc)
    obtain⟨v,hs,h43,it,hv,hu⟩:=pM (x:=x) (k:=1000) ad (by rw[<- hF];intro z;rw[z]at lF;simp at lF;omega) (by rw[<- hF];omega) (by decide);refine⟨_,rfl,x,v,rfl,hs,h43,it,?_⟩;refine⟨_,rfl,v,rfl,Dg.of hv (by decide),_,rfl,rfl,_,rfl,ay (λc4=>no (λn hn e=>?_) H2 s2) (λc4=>?_)⟩
    ·have:=hu n e
     subst this;rw[e]at c4;simp at c4
    ·have c4:num v=x:=by simpa using c4
     refine⟨_,rfl,?_⟩;rcases h with⟨n,e,hn,k⟩|⟨hno,_⟩
     ·have:=hu n e
      subst this;exact k H2 s2
     ·exact absurd c4.symm (hno v hv)
  obtain⟨u,hu,rd⟩:=R;refine⟨_,(af (aq (i:=1) Ck.nd rfl (Or.inl rfl) (j9 (aO (dU PySem.F.plainAttrs_str PySem.F.slot_str_startswith PySem.F.type_str_startswith gZ (pv 0) (aa aE ae))) (dQ qT (pv 0) (fh ac) fj) (pv 0))) hu),?_⟩;refine⟨_,rfl,rfl,x,_,rfl,rfl,_,rfl,ay (λh1=>?_) (λh1=>?_)⟩
  ·rw[lP]at h1
   obtain⟨r,e⟩:=lD.mp h1;have es:=oj e;have l1:=cD (Txt.slice x (some 1) none);have l2:=cD x;rw[es]at l1;rw[e,List.length_cons]at l2;refine⟨_,rfl,_,rfl,x,rfl,bj (by omega),?_⟩;exact rd _ (by rw[es,e];rfl) (by omega)
  ·refine⟨_,rfl,rd x (nu λr e=>?_).symm hl⟩
   rw[lP,lD.mpr ⟨r,e⟩]at h1;cases h1
theorem i5:qS=⟨#[47]⟩:=by decide +kernel
theorem oB(n:Int):47∉(num n).cps.toList:=λh=>by
 have:=lO n 47 h;omega
noncomputable def parts(a b:Int):List Int:=if b=1 then [a] else [a,b]
theorem pU(a b:Int):aW a b=Str.join ⟨#[47]⟩ ((parts a b).map num):=by
 unfold aW parts
 split
 ·rfl
 ·rw[i5]
  rfl
theorem fQ(a b:Int):Txt.split (aW a b) (Str.ofString "/")=(parts a b).map num:=by
 rw[pU];rw[show Str.ofString "/" = (⟨#[47]⟩:Str) from i5];refine fS ?_ ?_
 ·unfold parts
  split <;> simp
 ·intro q hq
  obtain⟨n,_,rfl⟩:=List.mem_map.mp hq;exact oB n
theorem gC{a b:Int}(ha:a.natAbs<10^1000)(hb:b.natAbs<10^1000):(aW a b).length<=2010:=by
 have l1:=eA (k:=1000) (by decide) ha;have l2:=eA (k:=1000) (by decide) hb;have l3:qS.length=1:=rfl;unfold aW
 split
 ·omega
 ·rw[Str.length_append,Str.length_append]
  omega
structure Wr(a b:Int):Prop where
 low:Bg a b
 top:a.natAbs<10^1000
 bot:b.natAbs<10^1000
theorem Wr.dg{a b:Int}(h:Wr a b):Dg a/\Dg b:=⟨Dg.of h.top (by decide),Dg.of h.bot (by decide)⟩
theorem fz{H H':Hp}{t:Addr}(s:Same H H')(n:H' t=none):H t=none:=by
 cases e:H t with
 | none=>rfl
 | some o =>
  rw[s _ _ e]at n;cases n
theorem tS{H:Hp}{p:Addr}{a b:Int}(e:H p=some (.tup [.int a,.int b])):AN H (.ref p):=⟨⟨_,.tup e⟩,λq xs e1 e2 y hy=>by
 cases e1;rw[e]at e2;cases e2;simp only[List.mem_cons,List.not_mem_nil,or_false]at hy;rcases hy with rfl|rfl <;> exact⟨_,.int _⟩⟩
theorem zj{H:Hp}{p:Addr}{a b:Int}(e:H p=some (.tup [.int a,.int b]))(l:Bg a b):iC H (.ref p)=true:=by
 rw[kg e];unfold kh;rw[decide_eq_true l.pos,decide_eq_true l.one];rfl
inductive Dq (C:Addr) (vs:List V) (H:Hp) (Q:VK) (E:XK):Prop
 | mk:∀x:Str,(vs = [.str x])->(x.length<=60000)->(((∃a b:Int,x=aW a b/\Wr a b/\∀(p:Addr) (H':Hp),Same H H'->H' p=some (.tup [.int a,.int b])->H p=none->Q (.ref p) H')\/((∀a b:Int,Wr a b->x≠aW a b)/\∀H',Same H H'->E (.ref C) none H')))->Dq C vs H Q E
theorem ge:∀{as bs:List Int},as.map num=bs.map num->as=bs
 | [],[],_=>rfl
 | [],_::_,h=>by simp at h
 | _::_,[],h=>by simp at h
 | a::as,b::bs,h=>by
  simp only[List.map_cons,List.cons.injEq]at h;rw[jH h.1,ge h.2]
theorem pL:∀{ps:List Str},(∀p∈ps,∃n:Int,p=num n/\n.natAbs<10^1000)->∃ns:List Int,ps=ns.map num/\∀n∈ns,n.natAbs<10^1000
 | [],_=>⟨[],rfl,λ_ h=>nomatch h⟩
 | p::ps,h=>by
  obtain⟨n,e,hn⟩:=h p List.mem_cons_self;obtain⟨ns,e2,h2⟩:=pL (ps:=ps) λq hq=>h q (List.mem_cons_of_mem _ hq);exact⟨n::ns,by rw[e,e2];rfl,λm hm=>by
   rcases List.mem_cons.mp hm with rfl|hm
   ·exact hn
   ·exact h2 m hm⟩
noncomputable def oH(ns:List Int):Int:=if 1<ns.length then ns.getLast?.getD 1 else 1
theorem kb{a b:Int}{ns:List Int}(h:ns=parts a b):ns.head?.getD 0=a/\oH ns=b:=by
 subst h;unfold parts oH
 split
 ·rename_i e
  exact⟨rfl,e.symm⟩
 ·exact⟨rfl,rfl⟩
theorem ow{a b:Int}(h:Wr a b):∀n∈parts a b,n.natAbs<10^1000:=λn hn=>by
 unfold parts at hn
 split at hn
 ·rw[List.mem_singleton.mp hn]
  exact h.top
 ·simp only[List.mem_cons,List.not_mem_nil,or_false]at hn
  rcases hn with rfl|rfl
  ·exact h.top
  ·exact h.bot
theorem nJ{α:Type}(x:α)(xs:List α):atI (x::xs) 0=some x:=by
 unfold atI ixN;rw[if_pos (Int.le_refl 0),if_pos (by rw[List.length_cons];omega)];rfl
theorem xf{α:Type}{xs:List α}{b:α}(h:xs.getLast? = some b):atI xs (-1)=some b:=by
 have hl:0<xs.length:=by
  cases xs with
  | nil=>cases h
  | cons _ _=>simp
 unfold atI ixN;rw[List.getLast?_eq_getElem?]at h;rw[if_neg (by decide),if_pos (by omega),show((-1:Int)+(xs.length:Int)).toNat=xs.length - 1 by omega];exact h
theorem mC{x y p:Str}(h:p∈Txt.split x y):p.length<=x.length:=PyProof.Rows.part_short h
theorem Cm:Ah ["text","numbers","fraction"] ["text"] (ag (top 74)):=smk
theorem ld{C:Addr}(FD:Df K mg "read_ratio" (top 74))(Ay:Dz K mg "NoText" C)(BH:Fn P w K mg base "is_ratio" ["thing"] 2 G3)(As:Fn P w K mg base "show_ratio" ["a"] 1 Ep)(AZ:Fx P w K mg base "read_whole" ["text"] 2 [] (Ei C))(T:Txt mg):Fx P w K mg base "read_ratio" ["text"] 3 [] (Dq C):=by
 refine FD.fx Cm (λ_ _ _ _ _ _ us hl=>by obtain⟨_,rfl⟩:=dk hl;rfl) (λvs H Q E h=>?_) (λf cdv A outer s H vs Q E hr h=>?_)
 ·obtain⟨x,rfl,_⟩:=h
  rfl
 ·obtain⟨x,rfl,hl,h⟩:=h
  have CN:Bd (aG (CXE P w) P w K mg base ["text","numbers","fraction"] "read_ratio" (ag (top 74)) f cdv A outer s H E) (fV ((ax (top 74)).getD 0 (.Pass ⟨0,0,0,0⟩))) [] "part" [] :=
   ⟨by rfl,rfl,by decide +kernel,by decide +kernel,rfl,(λp hp=>nomatch hp),by rfl,by decide +kernel,(λp hp=>nomatch hp),⟨rfl,rfl⟩,rfl⟩
  have no:(∀a b:Int,Wr a b->x≠aW a b)->∀H',Same H H'->E (.ref C) none H':=λz H' s'=>by
   rcases h with⟨a,b,e,wr,_⟩|⟨_,k⟩
   ·exact absurd e (z a b wr)
   ·exact k H' s'
  have hsp:∀a b:Int,x=aW a b->Txt.split x (Str.ofString "/")=(parts a b).map num:=λa b e=>by rw[e,fQ]
  have R:∃u:TS,PSs (aG (CXE P w) P w K mg base ["text","numbers","fraction"] "read_ratio" (ag (top 74)) f cdv A outer s H E) ((ax (top 74)).drop 2) u/\∀(l t:Addr) (a b:Int) (H3:Hp),(∀a' b',Wr a' b'->x=aW a' b'->a=a'/\b=b')->a.natAbs<10^1000->b.natAbs<10^1000->Same H H3->H3 t=some (.tup [.int a,.int b])->H t=none->u { nx:=λ_ H'=>Q .non H',rt:=Q } [some (.str x),some (.ref l),some (.ref t)] H3:=by
   refine⟨_,(af (aC (cb (bA (aO (ao BH (hr.mono (by decide)) (by rfl) (aa (pv 2) ae)))) (bQ (ap dw (ao As (hr.mono (by decide)) (by rfl) (aa (pv 2) ae)) (pv 0) (ar _)))).pt (ah (cB Ay (by rfl))) av) (ah (ak (pv 2)))),λl t a b H3 hu ha hb s3 f3 n3=>?_⟩;refine⟨_,rfl,_,rfl,tS f3,_,rfl,ay (λc1=>no (λa' b' w' e=>?_) H3 s3) (λc1=>?_)⟩
   ·obtain⟨rfl,rfl⟩:=hu a' b' w' e
    rw[zj f3 w'.low]at c1;cases c1
   have lw:Bg a b:=by
    have c1:iC H3 (.ref t)=true:=by simpa using c1
    rw[kg f3]at c1;unfold kh at c1;rw[Bool.and_eq_true,decide_eq_true_eq,decide_eq_true_eq]at c1;exact⟨c1.1,c1.2⟩
   have wr:Wr a b:=⟨lw,ha,hb⟩;refine⟨_,rfl,t,a,b,rfl,f3,wr.dg,_,rfl,rfl,_,rfl,ay (λc2=>no (λa' b' w' e=>?_) H3 s3) (λc2=>?_)⟩
   ·obtain⟨rfl,rfl⟩:=hu a' b' w' e
    rw[e]at c2;simp at c2
   ·have c2:aW a b=x:=by simpa using c2
    rcases h with⟨a',b',e,w',k⟩|⟨z,_⟩
    ·obtain⟨rfl,rfl⟩:=hu a' b' w' e
     exact⟨_,rfl,k t H3 s3 f3 n3⟩
    ·exact absurd c2.symm (z a b wr)
  obtain⟨u,hu,rd⟩:=R;refine⟨_,(af (js (j:=1) CN Cm.nd rfl rfl (cw (dU PySem.F.plainAttrs_str PySem.F.slot_str_split PySem.F.type_str_split iz (pv 0) (aa aE ae))) (λfp s₀ H₀=>(qh AZ (hr.mono (by decide)) (by rfl) (aa (pv 0) ae)))) (af (aq (i:=2) Cm.nd rfl (Or.inl rfl) (aA (aa (aj aF (pv 1) ac (λ_ _=>rfl)) (aa (j9 (ap eM (az aI (by rfl) T.z_len ci (aa (pv 1) ae)) ac (ar _)) (aj aF (pv 1) (iw e8 ac) (λ_ _=>rfl)) ac) ae)))) hu)),?_⟩;refine⟨_,rfl,rfl,_,_,rfl,rfl,rfl,by omega,λl1 H1 s1 f1 n1=>?_⟩;have hpl:=PyProof.Rows.split_le x (Str.ofString "/");refine⟨l1,rfl,⟨_,SqL.of f1⟩,nE (SqL.of f1) (by rw[List.length_map];omega) (λi v H'=>∃n:Int,(Txt.split x (Str.ofString "/"))[i]? = some (num n)/\n.natAbs<10^1000/\v = .int n) (λi v H H' _ z=>z) ?_ ?_⟩
  ·intro i y H2 Kc hx s2 kk
   rw[List.getElem?_map]at hx;obtain⟨pt,hp,rfl⟩:=Option.map_eq_some_iff.mp hx;have hm:=List.mem_of_getElem? hp;have hsz:=mC hm
   by_cases hn:∃n:Int,pt=num n/\n.natAbs<10^1000
   ·obtain⟨n,rfl,hn⟩:=hn
    exact⟨_,rfl,num n,rfl,by omega,.inl ⟨n,rfl,hn,λH3 s3=>kk _ _ s3 ⟨n,hp,hn,rfl⟩⟩⟩
   ·refine⟨_,rfl,pt,rfl,by omega,.inr ⟨λn hb e=>hn ⟨n,e,hb⟩,λH3 s3=>no (λa b w' e=>?_) H3 (s1.trans (s2.trans s3))⟩⟩
    rw[hsp a b e]at hm;obtain⟨n,hn2,e2⟩:=List.mem_map.mp hm;exact hn ⟨n,e2.symm,ow w' n hn2⟩
  ·intro l ys H2 nl s2 f2 hly hr
   rw[List.length_map]at hly;obtain⟨ns,e1,hsm⟩:=pL (ps:=Txt.split x (Str.ofString "/")) λp hp=>by
    obtain⟨i,hi,e⟩:=List.mem_iff_getElem.mp hp;have hy:i<ys.length:=by omega
    obtain⟨n,h1,h2,_⟩:=hr i _ (List.getElem?_eq_getElem hy);rw[List.getElem?_eq_getElem hi,e]at h1;exact⟨n,Option.some.inj h1,h2⟩
   have ey:ys=ns.map V.int:=by
    apply List.ext_getElem?;intro i;rw[List.getElem?_map];cases hy:ys[i]? with
    | none =>
     have h2:=List.getElem?_eq_none_iff.mp hy;have:(Txt.split x (Str.ofString "/")).length=ns.length:=by rw[e1,List.length_map]
     rw[List.getElem?_eq_none (by omega)];rfl
    | some y =>
     obtain⟨n,h1,_,rfl⟩:=hr i y hy;rw[e1,List.getElem?_map]at h1;obtain⟨m,hm,e2⟩:=Option.map_eq_some_iff.mp h1;rw[hm,jH e2];rfl
   subst ey;have hun:∀a' b',Wr a' b'->x=aW a' b'->ns.head?.getD 0=a'/\oH ns=b':=λa' b' _ e=>kb (ge (by rw[<- e1,hsp a' b' e]));have S2:=s1.trans s2
   match hns:ns with
   | [] =>
    have:=PyProof.Rows.split_pos x (Str.ofString "/");rw[e1]at this;exact absurd this (by simp)
   | [a] =>
    have f2:H2 l=some (.lst [.int a]):=f2;refine⟨_,rfl,l,_,_,_,rfl,rfl,SqL.of f2,rfl,_,rfl,l,_,rfl,.inl (SqL.of f2),_,_,rfl,rfl,_,rfl,bC (by simp) ?_⟩;exact⟨sz (by simp),λt H3 s3 f3 n3=>rd l t a 1 H3 hun (hsm a (by simp)) (by show 1<10^1000;exact Nat.one_lt_pow (by decide) (by decide)) (S2.trans s3) f3 (fz S2 n3)⟩
   | a::c::r =>
    have f2:H2 l=some (.lst (.int a::.int c::r.map V.int)):=f2;obtain⟨b,hb1,hb2⟩:∃b,(a::c::r).getLast? = some b/\b∈a::c::r:=⟨_,List.getLast?_eq_some_getLast (by simp),List.getLast_mem (by simp)⟩;have hat:atI ((a::c::r).map V.int) (-1)=some (.int b):=by
     refine xf ?_;rw[List.getLast?_map,hb1];rfl
    have hlo:oH (a::c::r)=b:=by
     unfold oH;rw[if_pos (by simp),hb1];rfl
    refine⟨_,rfl,l,_,_,_,rfl,rfl,SqL.of f2,nJ _ _,_,rfl,l,_,rfl,.inl (SqL.of f2),_,_,rfl,rfl,_,rfl,gK (by simp;omega) ?_⟩;refine⟨_,rfl,_,rfl,l,_,_,_,rfl,rfl,SqL.of f2,hat,?_⟩;exact⟨sz (by simp),λt H3 s3 f3 n3=>rd l t a b H3 (λa' b' w' e=>by rw[<- hlo];exact hun a' b' w' e) (hsm a (by simp)) (hsm b hb2) (S2.trans s3) f3 (fz S2 n3)⟩
theorem my{H:Hp}{r:Addr}{a b:Int}(e:H r=some (.tup [.int a,.int b])):Rp H 9 (.ref r) (.tup [.int a,.int b]):=Rp.t2 e .int .int
theorem lI{a b a' b':Int}(h:aW a b=aW a' b'):a=a'/\b=b':=by
 have e:(parts a b).map num=(parts a' b').map num:=by rw[<- fQ,<- fQ,h]
 have e2:=ge e;obtain⟨h1,h2⟩:=kb (a:=a) (b:=b) rfl;obtain⟨h3,h4⟩:=kb e2;exact⟨h1.symm.trans h3,h2.symm.trans h4⟩
theorem dI:Str.ofString " " = ⟨#[32]⟩:=by decide +kernel
theorem jb{n:Int}{c:Nat}(h:c≠45/\(c<48\/57<c)):c∉(num n).cps.toList:=λhm=>by
 have:=lO n c hm;omega
inductive E5 (C:Addr) (vs:List V) (H:Hp) (Q:VK) (E:XK):Prop
 | mk:∀(x y:Str),(vs = [.str x,.str y])->((y.length == 0)=false)->(x.length<=60000)->(((∃a b,Txt.split x y = [a,b]/\∀(l:Addr) (H':Hp),Same H H'->H' l=some (.lst [.str a,.str b])->Q (.ref l) H')\/((∀a b,Txt.split x y≠[a,b])/\∀H',Same H H'->E (.ref C) none H')))->E5 C vs H Q E
noncomputable def fG:Str:=Str.ofString ":"
theorem gR:fG=⟨#[58]⟩:=by decide +kernel
noncomputable abbrev R4:=(Int×Int)×(Int×Int)
noncomputable def aU(r:R4):Str:=aW r.1.1 r.1.2++fG++aW r.2.1 r.2.2
noncomputable def cS(w y:Str)(rs:List R4):Str:=Str.join ⟨#[32]⟩ (w::y::rs.map aU)
noncomputable def Wr4(r:R4):Prop:=Wr r.1.1 r.1.2/\Wr r.2.1 r.2.2
theorem jW{a b:Int}{c:Nat}(h:c≠45/\c≠47/\(c<48\/57<c)):c∉(aW a b).cps.toList:=λhm=>by
 unfold aW at hm
 split at hm
 ·exact jb ⟨h.1,h.2.2⟩ hm
 ·rw[cp,cp,i5]at hm
  rcases List.mem_append.mp hm with hm|hm
  ·rcases List.mem_append.mp hm with hm|hm
   ·exact jb ⟨h.1,h.2.2⟩ hm
   ·exact h.2.1 (List.mem_singleton.mp hm)
  ·exact jb ⟨h.1,h.2.2⟩ hm
theorem uq(r:R4):(aU r).cps.toList=(aW r.1.1 r.1.2).cps.toList++58::(aW r.2.1 r.2.2).cps.toList:=by
 unfold aU;rw[cp,cp,gR,List.append_assoc];rfl
theorem dM(r:R4):Txt.split (aU r) fG = [aW r.1.1 r.1.2,aW r.2.1 r.2.2]:=by
 rw[gR];have e:aU r=Str.join ⟨#[58]⟩ [aW r.1.1 r.1.2,aW r.2.1 r.2.2]:=by
  unfold aU;rw[gR];rfl
 rw[e];refine fS (by simp) λq hq=>?_;simp only[List.mem_cons,List.not_mem_nil,or_false]at hq;rcases hq with rfl|rfl <;> exact jW (by decide)
theorem oy{r s:R4}(h:aU r=aU s):r=s:=by
 have e:[aW r.1.1 r.1.2,aW r.2.1 r.2.2] = [aW s.1.1 s.1.2,aW s.2.1 s.2.2]:=by rw[<- dM,<- dM,h]
 simp only[List.cons.injEq,and_true]at e;obtain⟨e1,e2⟩:=lI e.1;obtain⟨e3,e4⟩:=lI e.2;exact Prod.ext (Prod.ext e1 e2) (Prod.ext e3 e4)
theorem mI(r:R4):32∉(aU r).cps.toList:=by
 rw[uq];intro h;rcases List.mem_append.mp h with h|h
 ·exact jW (by decide) h
 ·rcases List.mem_cons.mp h with h|h
  ·cases h
  ·exact jW (by decide) h
theorem iA:∀{as bs:List R4},as.map aU=bs.map aU->as=bs
 | [],[],_=>rfl
 | [],_::_,h=>by simp at h
 | _::_,[],h=>by simp at h
 | a::as,b::bs,h=>by
  simp only[List.map_cons,List.cons.injEq]at h;rw[oy h.1,iA h.2]
noncomputable def dr:List Str:=[Str.ofString "walk",Str.ofString "fence"]
noncomputable def fE:List Str:=[Str.ofString "on",Str.ofString "part",Str.ofString "free",Str.ofString "hops"]
theorem kW:∀w∈dr,32∉w.cps.toList:=by decide +kernel
theorem mo:∀w∈fE,32∉w.cps.toList:=by decide +kernel
structure Ii(w y:Str)(rs:List R4):Prop where
 word:w∈dr
 way:y∈fE
 one:1<=rs.length
 most:rs.length<=200
 prs:∀r∈rs,Wr4 r
theorem fR{w y:Str}{rs:List R4}(hw:w∈dr)(hy:y∈fE):Txt.split (cS w y rs) (Str.ofString " ")=w::y::rs.map aU:=by
 rw[dI];refine fS (by simp) λq hq=>?_;rcases List.mem_cons.mp hq with rfl|hq
 ·exact kW _ hw
 ·rcases List.mem_cons.mp hq with rfl|hq
  ·exact mo _ hy
  ·obtain⟨c,_,rfl⟩:=List.mem_map.mp hq
   exact mI c
theorem sH{w y w' y':Str}{rs rs':List R4}(h1:Ii w y rs)(h2:Ii w' y' rs')(h:cS w y rs=cS w' y' rs'):w=w'/\y=y'/\rs=rs':=by
 have e:w::y::rs.map aU=w'::y'::rs'.map aU:=by rw[<- fR h1.word h1.way,<- fR h2.word h2.way,h]
 simp only[List.cons.injEq]at e;exact⟨e.1,e.2.1,iA e.2.2⟩
noncomputable def PrT(H:Hp)(v:V)(r:R4):Prop:=∃p a b,v = .ref p/\H p=some (.tup [.ref a,.ref b])/\H a=some (.tup [.int r.1.1,.int r.1.2])/\H b=some (.tup [.int r.2.1,.int r.2.2])
theorem PrT.t{H H':Hp}{v:V}{r:R4}(h:PrT H v r)(s:SameT H H'):PrT H' v r:=by
 obtain⟨p,a,b,e,e1,e2,e3⟩:=h;exact⟨p,a,b,e,s _ _ e1,s _ _ e2,s _ _ e3⟩
structure Ig(H:Hp)(l:Addr)(qs:List (V×R4)):Prop where
 lst:H l=some (.lst (qs.map (·.1)))
 prs:∀q∈qs,PrT H q.1 q.2
theorem Ig.mono{H H':Hp}{l:Addr}{qs:List (V×R4)}(L:Ig H l qs)(s:Same H H'):Ig H' l qs:=⟨s _ _ L.lst,λq h=>(L.prs q h).t s.t⟩
inductive HE (vs:List V) (H:Hp) (Q:VK) (x_3:XK):Prop
 | mk:∀(v:V) (r:R4),(vs = [v])->(PrT H v r)->(Wr4 r)->(Q (.str (aU r)) H)->HE vs H Q x_3
inductive Fa (C:Addr) (vs:List V) (H:Hp) (Q:VK) (E:XK):Prop
 | mk:∀x:Str,(vs = [.str x])->(x.length<=60000)->(((∃r,x=aU r/\Wr4 r/\∀(v:V) (H':Hp),Same H H'->PrT H' v r->Q v H')\/((∀r,Wr4 r->x≠aU r)/\∀H',Same H H'->E (.ref C) none H')))->Fa C vs H Q E
theorem D0:Ah ["text","sign","parts"] ["text","sign"] (ag (top 75)):=smk
theorem mS{C:Addr}(FV:Df K mg "two_parts" (top 75))(Ay:Dz K mg "NoText" C)(T:Txt mg):Fx P w K mg base "two_parts" ["text","sign"] 1 [] (E5 C):=by
 refine FV.fx D0 (λ_ _ _ _ _ _ us hl=>by obtain⟨_,_,rfl⟩:=cj hl;rfl) (λvs H Q E h=>?_) (λf cdv A outer s H vs Q E hr h=>?_)
 ·obtain⟨x,y,rfl,_⟩:=h
  rfl
 ·obtain⟨x,y,rfl,hy,hl,h⟩:=h
  refine⟨_,(af (aq (i:=2) D0.nd rfl (Or.inl rfl) (dU PySem.F.plainAttrs_str PySem.F.slot_str_split PySem.F.type_str_split iz (pv 0) (aa (pv 1) ae))) (af (aC (ap dw (az aI (by rfl) T.z_len ci (aa (pv 2) ae)) ac (ar _)) (ah (cB Ay (by rfl))) av) (ah (ak (pv 2))))),?_⟩;have hpl:=PyProof.Rows.split_le x y;refine⟨_,rfl,rfl,_,rfl,x,y,rfl,rfl,hy,by omega,λl1 H1 s1 f1 n1=>?_⟩;refine⟨_,rfl,l1,_,rfl,.inl (SqL.of f1),rfl,_,rfl,ay (λc1=>?_) (λc1=>?_)⟩
  ·rcases h with⟨a,b,e,_⟩|⟨_,k⟩
   ·rw[e]at c1
    simp at c1
   ·exact k H1 s1
  ·have c1:((Txt.split x y).map V.str).length=2:=by
    have:((((Txt.split x y).map V.str).length:Nat):Int)=2:=by simpa using c1
    omega
   rw[List.length_map]at c1;obtain⟨a,b,e⟩:=cj c1;refine⟨_,rfl,?_⟩;rcases h with⟨a',b',e',k⟩|⟨z,_⟩
   ·rw[e']at f1
    exact k l1 H1 s1 f1
   ·exact absurd e (z a b)
theorem CO:Ah ["pair","x","y"] ["pair"] (ag (top 71)):=smk
theorem mV(FY:Df K mg "show_pair" (top 71))(DG:Dig K)(As:Fn P w K mg base "show_ratio" ["a"] 1 Ep):Fn P w K mg base "show_pair" ["pair"] 2 HE:=by
 refine FY.fn CO (λ_ _ _ _ _ _ us hl=>by obtain⟨_,rfl⟩:=dk hl;rfl) (λvs H Q E h=>?_) (λf cdv A outer s H vs Q E hr h=>?_)
 ·obtain⟨v,r,rfl,_⟩:=h
  rfl
 ·obtain⟨v,r,rfl,⟨p,a,b,rfl,e,e1,e2⟩,⟨w1,w2⟩,q⟩:=h
  refine⟨_,(af (aq (i:=1) CO.nd rfl (Or.inl rfl) (ao As (hr.mono (by decide)) (by rfl) (aa (aj am (pv 0) ac (λ_ _=>rfl)) ae))) (af (aq (i:=2) CO.nd rfl (Or.inl rfl) (ao As (hr.mono (by decide)) (by rfl) (aa (aj am (pv 0) ac (λ_ _=>rfl)) ae))) (ah (ak (j8 (fZ (K:=K) rfl DG rfl (pv 1)) aE (fZ (K:=K) rfl DG rfl (pv 2))))))),?_⟩;have za:=gC w1.top w1.bot;have zb:=gC w2.top w2.bot;have zs:(Str.ofString ":").length=1:=rfl;refine⟨_,rfl,p,_,_,_,rfl,rfl,SqT.of e,rfl,a,_,_,rfl,e1,w1.dg,?_⟩;refine⟨_,rfl,p,_,_,_,rfl,rfl,SqT.of e,rfl,b,_,_,rfl,e2,w2.dg,?_⟩;exact⟨_,rfl,.inr ⟨_,rfl,bj (by omega),_,rfl,bj (by omega),_,rfl,bj (by omega),_,rfl,.inr ⟨_,rfl,bj (by omega),_,rfl,bj (by omega),q⟩⟩⟩
theorem D1:Ah ["text","parts"] ["text"] (ag (top 78)):=smk
theorem mX{C:Addr}(F6:Df K mg "read_pair" (top 78))(Bv:Fx P w K mg base "two_parts" ["text","sign"] 1 [] (E5 C))(A5:Fx P w K mg base "read_ratio" ["text"] 3 [] (Dq C)):Fx P w K mg base "read_pair" ["text"] 4 [] (Fa C):=by
 refine F6.fx D1 (λ_ _ _ _ _ _ us hl=>by obtain⟨_,rfl⟩:=dk hl;rfl) (λvs H Q E h=>?_) (λf cdv A outer s H vs Q E hr h=>?_)
 ·obtain⟨x,rfl,_⟩:=h
  rfl
 ·obtain⟨x,rfl,hl,h⟩:=h
  refine⟨_,(af (aq (i:=1) D1.nd rfl (Or.inl rfl) (dj Bv (hr.mono (by decide)) (by rfl) (aa (pv 0) (aa aE ae)))) (ah (ak (aA (aa (dj A5 (hr.mono (by decide)) (by rfl) (aa (aj aF (pv 1) ac (λ_ _=>rfl)) ae)) (aa (dj A5 (hr.mono (by decide)) (by rfl) (aa (aj aF (pv 1) ac (λ_ _=>rfl)) ae)) ae)))))),?_⟩;have no:(∀r,Wr4 r->x≠aU r)->∀H',Same H H'->E (.ref C) none H':=λz H' s'=>by
   rcases h with⟨c,e,th,_⟩|⟨_,k⟩
   ·exact absurd e (z c th)
   ·exact k H' s'
  have hjo:=StrLaws.join_split x fG;have yl:(fG.length == 0)=false:=rfl
  by_cases hsp:∃a b,Txt.split x fG = [a,b]
  ·obtain⟨a,b,e⟩:=hsp
   have la:a.length<=x.length:=PyProof.Rows.part_short (x:=x) (y:=fG) (by rw[e];simp);have lb:b.length<=x.length:=PyProof.Rows.part_short (x:=x) (y:=fG) (by rw[e];simp);refine⟨_,rfl,x,fG,rfl,yl,hl,.inl ⟨a,b,e,λl H1 s1 f1=>?_⟩⟩;refine⟨_,rfl,l,_,_,_,rfl,rfl,SqL.of f1,rfl,a,rfl,by omega,?_⟩
   by_cases ha:∃m n:Int,a=aW m n/\Wr m n
   ·obtain⟨m,n,rfl,w1⟩:=ha
    refine .inl ⟨m,n,rfl,w1,λp2 H2 s2 f2 n2=>?_⟩;refine⟨_,rfl,l,_,_,_,rfl,rfl,SqL.of (s2 _ _ f1),rfl,b,rfl,by omega,?_⟩
    by_cases hb:∃m n:Int,b=aW m n/\Wr m n
    ·obtain⟨m',n',rfl,w2⟩:=hb
     refine .inl ⟨m',n',rfl,w2,λp3 H3 s3 f3 n3=>⟨sz (by simp),λp H4 s4 f4 n4=>?_⟩⟩;have S3:=s1.trans (s2.trans s3);have ex:x=aU ((m,n),(m',n')):=by
      rw[<- hjo,e];unfold aU;rw[gR];rfl
     rcases h with⟨c,e',th,k⟩|⟨z,_⟩
     ·have:=oy (ex.symm.trans e')
      subst this;exact k (.ref p) H4 (S3.trans s4) ⟨p,p2,p3,rfl,f4,s4 _ _ (s3 _ _ f2),s4 _ _ f3⟩
     ·exact absurd ex (z ((m,n),(m',n')) ⟨w1,w2⟩)
    ·refine .inr ⟨λm n hm e2=>hb ⟨m,n,e2,hm⟩,λH3 s3=>no (λc th e'=>?_) H3 (s1.trans (s2.trans s3))⟩
     rw[e',dM]at e;simp only[List.cons.injEq,and_true]at e;exact hb ⟨_,_,e.2.symm,th.2⟩
   ·refine .inr ⟨λm n hm e2=>ha ⟨m,n,e2,hm⟩,λH3 s3=>no (λc th e'=>?_) H3 (s1.trans s3)⟩
    rw[e',dM]at e;simp only[List.cons.injEq,and_true]at e;exact ha ⟨_,_,e.1.symm,th.1⟩
  ·refine⟨_,rfl,x,fG,rfl,yl,hl,.inr ⟨λa b e=>hsp ⟨a,b,e⟩,λH1 s1=>no (λc th e'=>?_) H1 s1⟩⟩
   exact hsp ⟨_,_,by rw[e',dM]⟩
noncomputable def vB(s:Stmt):Scope:=match s with
 | .Return (some (.Call _ [.BinOp _ _ (.ListComp _ _ sc _) _] _ _)) _=>sc
 | _=>{ kind:=.function,names:=[],isGenerator:=false,isCoroutine:=false }
noncomputable def Ok4(r:R4):Prop:=Wr4 r/\(aU r).length<=249
inductive Gq (vs:List V) (H:Hp) (Q:VK) (x_3:XK):Prop
 | mk:∀(w y:Str) (l:Addr) (qs:List (V×R4)),(vs = [.str w,.str y,.ref l])->(Ig H l qs)->(qs.length<=200)->((∀q∈qs,Ok4 q.2))->((w.length<=5/\y.length<=5))->(∀H',Same H H'->Q (.str (cS w y (qs.map (·.2)))) H')->Gq vs H Q x_3
theorem tY{qs:List (V×R4)}{ys:List V}(hl:ys.length=(qs.map (·.1)).length)(hr:∀(i:Nat) y,ys[i]? = some y->∃q,qs[i]? = some q/\y = .str (aU q.2)):ys=((qs.map (·.2)).map aU).map V.str:=by
 rw[List.length_map]at hl;apply List.ext_getElem?;intro i;rw[List.map_map,List.map_map,List.getElem?_map];cases hy:ys[i]? with
 | none =>
  have:=List.getElem?_eq_none_iff.mp hy;rw[List.getElem?_eq_none (by omega)];rfl
 | some y =>
  obtain⟨q,hq,rfl⟩:=hr i y hy;rw[hq];rfl
theorem sG{w y:Str}{rs:List R4}(h:∀r∈rs,(aU r).length<=249)(hl:rs.length<=200)(hw:w.length<=5/\y.length<=5):((w::y::rs.map aU).map λx=>x.length).sum<=49810:=by
 have h2:=StrLaws.sumLen_le (B:=249) (rs.map aU) λy hy=>by
  obtain⟨c,hc,rfl⟩:=List.mem_map.mp hy;exact h c hc
 rw[List.length_map]at h2;simp only[List.map_cons,List.sum_cons];omega
theorem qj{w y:Str}{rs:List R4}:Txt.join (Str.ofString " ") (w::y::rs.map aU)=cS w y rs:=by
 rw[dI];exact StrLaws.glued_eq_join _ _
theorem Ft:Ah ["word","way","pairs"] ["word","way","pairs"] (ag (top 72)):=smk
theorem k8(FB:Df K mg "show_paper" (top 72))(CV:Fn P w K mg base "show_pair" ["pair"] 2 HE):Fn P w K mg base "show_paper" ["word","way","pairs"] 3 Gq:=by
 refine FB.fn Ft (λ_ _ _ _ _ _ us hl=>by obtain⟨_,_,_,rfl⟩:=je hl;rfl) (λvs H Q E h=>?_) (λf cdv A outer s H vs Q E hr h=>?_)
 ·obtain⟨wd,wy,l,qs,rfl,_⟩:=h
  rfl
 ·obtain⟨wd,wy,l,qs,rfl,L,hl,hs,hwy,q⟩:=h
  have CN:Bd (aG CX0 P w K mg base ["word","way","pairs"] "show_paper" (ag (top 72)) f cdv A outer s H E).nox (vB ((ax (top 72)).getD 0 (.Pass ⟨0,0,0,0⟩))) [] "pair" [] :=
   ⟨by rfl,rfl,by decide +kernel,by decide +kernel,rfl,(λp hp=>nomatch hp),by rfl,by decide +kernel,(λp hp=>nomatch hp),⟨rfl,rfl⟩,rfl⟩
  refine⟨_,(ah (ak (dU PySem.F.plainAttrs_str PySem.F.slot_str_join PySem.F.type_str_join rk aE (aa (aw q9 (cK (aa (pv 0) (aa (pv 1) ae))) (dR rfl CN (cw (pv 2)) (λfp s₀ H₀=>(ao CV (hr.mono (by decide)) (by rfl) (aa (pv 0) ae))))) ae)))),?_⟩;refine⟨rfl,_,rfl,_,rfl,sz (by simp),λl1 H1 s1 f1 n1=>?_⟩;have L1:=L.mono s1;refine⟨_,rfl,l,rfl,⟨_,SqL.of L1.lst⟩,gj (SqL.of L1.lst) (by rw[List.length_map];omega) (λi v H'=>∃q,qs[i]? = some q/\v = .str (aU q.2)) (λi v H H' _ z=>z) ?_ ?_⟩
  ·intro i y H2 Kc hx s2 kk
   rw[List.getElem?_map]at hx;obtain⟨q',hq,rfl⟩:=Option.map_eq_some_iff.mp hx;have hm:=List.mem_of_getElem? hq;have c1:=(L1.mono s2).prs q' hm;have c2:=(hs q' hm).1;exact⟨_,rfl,q'.1,q'.2,rfl,c1,c2,kk _ _ (Same.refl _) ⟨q',hq,rfl⟩⟩
  ·intro l2 ys H2 nl s2 f2 hly hr
   have ey:=tY hly hr;subst ey;have hs2:∀c∈qs.map (·.2),(aU c).length<=249:=λc hc=>by
    obtain⟨q',hq,rfl⟩:=List.mem_map.mp hc;exact(hs q' hq).2
   have hz:=sG hs2 (by rw[List.length_map];exact hl) hwy;refine⟨l1,l2,_,_,rfl,rfl,s2 _ _ f1,f2,sz (by simp;omega),λl3 H3 s3 f3 n3=>?_⟩;have f3:H3 l3=some (.lst ((wd::wy::(qs.map (·.2)).map aU).map V.str)):=f3;refine⟨_,l3,_,rfl,rfl,SqL.of f3,?_,?_⟩
   ·have h3:(Str.ofString " ").length=1:=rfl
    have h4:(wd::wy::(qs.map (·.2)).map aU).length<=202:=by simp;omega
    rw[h3];omega
   rw[qj];exact q H3 (s1.trans (s2.trans s3))
noncomputable def tR(s:Stmt):Scope:=match s with
 | .Return (some (.Tuple [_,_,.ListComp _ _ sc _] _ _)) _=>sc
 | _=>{ kind:=.function,names:=[],isGenerator:=false,isCoroutine:=false }
theorem iE{x:Str}{ws:List Str}:inV (.str x) (ws.map V.str)=decide (x∈ws):=by
 induction ws with
 | nil=>rfl
 | cons a ws ih =>
  have e:inV (.str x) ((a::ws).map V.str)=((a == x) || inV (.str x) (ws.map V.str)):=rfl;rw[e,ih,Bool.eq_iff_iff];simp only[Bool.or_eq_true,beq_iff_eq,decide_eq_true_eq,List.mem_cons];exact⟨λh=>h.imp Eq.symm id,λh=>h.imp Eq.symm id⟩
theorem Ad{a b:V}{xs:List V}:jp (a::b::xs) (some 2) none=xs:=by
 unfold jp HT.sIx;simp
theorem lZ(ws:List Str):(ws.map V.str).all iS=true:=by
 rw[List.all_eq_true];intro v hv;obtain⟨o,_,rfl⟩:=List.mem_map.mp hv;rfl
theorem ug:∀{ws:List Str} {ys:List V} {H:Hp},ys.length=ws.length->(∀(i:Nat) y,ys[i]? = some y->∃r,ws[i]? = some (aU r)/\Wr4 r/\PrT H y r) ->
  ∃qs:List (V×R4),ys=qs.map (·.1)/\ws=(qs.map (·.2)).map aU/\∀q∈qs,PrT H q.1 q.2/\Wr4 q.2
 | [],[],_,_,_=>⟨[],rfl,rfl,λ_ h=>nomatch h⟩
 | [],_::_,_,h,_=>by simp at h
 | _::_,[],_,h,_=>by simp at h
 | w::ws,y::ys,H,h,hr=>by
  obtain⟨rs,e1,e2,e3⟩:=ug (ws:=ws) (ys:=ys) (H:=H) (by simpa using h) λi y hy=>by simpa using hr (i+1) y (by simpa using hy)
  obtain⟨r,ew,wr,ep⟩:=hr 0 y rfl;cases ew;refine⟨(y,r)::rs,by rw[e1];rfl,by rw[e2];rfl,λq hq=>?_⟩;rcases List.mem_cons.mp hq with rfl|hq
  ·exact⟨ep,wr⟩
  ·exact e3 q hq
noncomputable def Pap(H:Hp)(p:Addr)(w y:Str)(rs:List R4):Prop:=∃l qs,H p=some (.tup [.str w,.str y,.ref l])/\Ig H l qs/\qs.map (·.2)=rs
theorem Pap.mono{H H':Hp}{p:Addr}{w y:Str}{rs:List R4}(h:Pap H p w y rs)(s:Same H H'):Pap H' p w y rs:=by
 obtain⟨l,qs,e,L,e2⟩:=h;exact⟨l,qs,s _ _ e,L.mono s,e2⟩
inductive Ds (C:Addr) (vs:List V) (H:Hp) (Q:VK) (E:XK):Prop
 | mk:∀x:Str,(vs = [.str x])->(x.length<=60000)->(((∃w y rs,x=cS w y rs/\Ii w y rs/\∀(p:Addr) (H':Hp),Same H H'->Pap H' p w y rs->Q (.ref p) H')\/((∀w y rs,Ii w y rs->x≠cS w y rs)/\∀H',Same H H'->E (.ref C) none H')))->Ds C vs H Q E
theorem vK{α:Type}(x y:α)(xs:List α):atI (x::y::xs) 1=some y:=by
 unfold atI ixN;rw[if_pos (by decide),if_pos (by simp only[List.length_cons];omega)];rfl
theorem yP{ws:List Str}(h:3<=ws.length):∃a b c r,ws=a::b::c::r:=match ws,h with
 | a::b::c::r,_=>⟨a,b,c,r,rfl⟩
theorem Du:Ah ["text","words"] ["text"] (ag (top 79)):=smk
theorem lg{C pW pP:Addr}(FE:Df K mg "read_paper" (top 79))(Ay:Dz K mg "NoText" C)(V_MOSTP:∃tk,mg "MOST_PAIRS" = some (.int 200 tk))(GJ:mg "WAYS" = some (.ref pW))(hW:∀H,SqT K H pW (fE.map V.str))(HW:mg "PAPERS" = some (.ref pP))(hP:∀H,SqT K H pP (dr.map V.str))(CY:Fx P w K mg base "read_pair" ["text"] 4 [] (Fa C))(T:Txt mg):Fx P w K mg base "read_paper" ["text"] 5 [] (Ds C):=by
 refine FE.fx Du (λ_ _ _ _ _ _ us hl=>by obtain⟨_,rfl⟩:=dk hl;rfl) (λvs H Q E h=>?_) (λf cdv A outer s H vs Q E hr h=>?_)
 ·obtain⟨x,rfl,_⟩:=h
  rfl
 ·obtain⟨x,rfl,hl,h⟩:=h
  obtain⟨tM,Fy⟩:=V_MOSTP;have CN:Bd (aG (CXE P w) P w K mg base ["text","words"] "read_paper" (ag (top 79)) f cdv A outer s H E) (tR ((ax (top 79)).getD 2 (.Pass ⟨0,0,0,0⟩))) [] "word" [] :=
   ⟨by rfl,rfl,by decide +kernel,by decide +kernel,rfl,(λp hp=>nomatch hp),by rfl,by decide +kernel,(λp hp=>nomatch hp),⟨rfl,rfl⟩,rfl⟩
  refine⟨_,(af (aq (i:=1) Du.nd rfl (Or.inl rfl) (dU PySem.F.plainAttrs_str PySem.F.slot_str_split PySem.F.type_str_split iz (pv 0) (aa aE ae))) (af (aC (cb (bA (jX eh eh ac (az aI (by rfl) T.z_len ci (aa (pv 1) ae)) (aw bP (dD (v:=.int 200) (by rfl) Fy ⟨_,rfl⟩) ac))) (cb (ap fk (aj aF (pv 1) ac (λ_ _=>rfl)) (dD (v:=.ref _) (by rfl) HW rfl) (by rfl)) (bQ (ap fk (aj aF (pv 1) ac (λ_ _=>rfl)) (dD (v:=.ref _) (by rfl) GJ rfl) (by rfl))))).pt (ah (cB Ay (by rfl))) av) (ah (ak (aA (aa (aj aF (pv 1) ac (λ_ _=>rfl)) (aa (aj aF (pv 1) ac (λ_ _=>rfl)) (aa (uj CN (cw (dQ fU (pv 1) (fh ac) fj)) (λfp s₀ H₀=>(qh CY (hr.mono (by decide)) (by rfl) (aa (pv 0) ae)))) ae)))))))),?_⟩;have no:(∀w y rs,Ii w y rs->x≠cS w y rs)->∀H',Same H H'->E (.ref C) none H':=λz H' s'=>by
   rcases h with⟨a,b,c,e,th,_⟩|⟨_,k⟩
   ·exact absurd e (z a b c th)
   ·exact k H' s'
  have hpl:=PyProof.Rows.split_le x (Str.ofString " ");have hjo:Str.join ⟨#[32]⟩ (Txt.split x (Str.ofString " "))=x:=by
   rw[dI];exact StrLaws.join_split x _
  have hbad:∀w y rs,Ii w y rs->x=cS w y rs->Txt.split x (Str.ofString " ")=w::y::rs.map aU:=λw y rs ok e=>by rw[e,fR ok.word ok.way]
  have hsh:∀q∈Txt.split x (Str.ofString " "),q.length<=x.length:=λq hq=>PyProof.Rows.part_short hq;refine⟨_,rfl,rfl,_,_,rfl,rfl,rfl,by omega,λl1 H1 s1 f1 n1=>?_⟩;generalize hws:Txt.split x (Str.ofString " ")=ws at *;refine⟨_,rfl,l1,_,rfl,.inl (SqL.of f1),_,_,rfl,rfl,_,rfl,ay (λc1=>?_) (λc1=>?_)⟩
  rotate_left
  ·refine⟨_,rfl,jy (no (λw y rs ok e=>?_) H1 s1)⟩
   have c1:¬(3:Int)<=(((ws.map V.str).length:Nat):Int):=by simpa using c1
   have h1:=hbad w y rs ok e;have h2:=ok.one;rw[List.length_map,h1]at c1;simp at c1;omega
  have c1:(3:Int)<=(((ws.map V.str).length:Nat):Int):=by simpa using c1
  rw[List.length_map]at c1;refine⟨_,_,rfl,rfl,_,_,rfl,rfl,_,rfl,ay (λc2=>jy (no (λw y rs ok e=>?_) H1 s1)) (λc2=>?_)⟩
  ·have c2:¬(((ws.map V.str).length:Nat):Int)<=200+2:=by simpa using c2
   have h1:=hbad w y rs ok e;have h2:=ok.most;rw[List.length_map,h1]at c2;simp at c2;omega
  have c2:(((ws.map V.str).length:Nat):Int)<=200+2:=by simpa using c2
  rw[List.length_map]at c2;obtain⟨w0,w1,w2,wr,rfl⟩:=yP (ws:=ws) (by omega);have f1:H1 l1=some (.lst (.str w0::.str w1::.str w2::wr.map V.str)):=f1;refine⟨_,rfl,l1,_,_,.str w0,rfl,rfl,SqL.of f1,nJ _ _,pP,_,rfl,.inr (hP _),rfl,lZ _,_,rfl,ay (λc3=>jy (no (λw y rs ok e=>?_) H1 s1)) (λc3=>?_)⟩
  ·have c3:(!inV (.str w0) (dr.map V.str))=true:=c3
   rw[iE]at c3;have h1:=hbad w y rs ok e;simp only[List.cons.injEq]at h1;rw[h1.1]at c3;simp[ok.word]at c3
  have c3:(!inV (.str w0) (dr.map V.str))=false:=c3;rw[iE]at c3;have hw0:w0∈dr:=by simpa using c3
  refine⟨_,rfl,l1,_,_,.str w1,rfl,rfl,SqL.of f1,vK _ _ _,pW,_,rfl,.inr (hW _),rfl,lZ _,_,rfl,ay (λc4=>no (λw y rs ok e=>?_) H1 s1) (λc4=>?_)⟩
  ·have c4:(!inV (.str w1) (fE.map V.str))=true:=c4
   rw[iE]at c4;have h1:=hbad w y rs ok e;simp only[List.cons.injEq]at h1;rw[h1.2.1]at c4;simp[ok.way]at c4
  have c4:(!inV (.str w1) (fE.map V.str))=false:=c4;rw[iE]at c4;have hw1:w1∈fE:=by simpa using c4
  refine⟨_,rfl,l1,_,_,.str w0,rfl,rfl,SqL.of f1,nJ _ _,_,rfl,l1,_,_,.str w1,rfl,rfl,SqL.of f1,vK _ _ _,?_⟩;refine⟨_,rfl,_,rfl,l1,_,rfl,SqL.of f1,λl5 H5 s5 f5 n5=>?_⟩;rw[Ad]at f5;have f5:H5 l5=some (.lst ((w2::wr).map V.str)):=f5;have S5:=s1.trans s5;refine⟨l5,rfl,⟨_,SqL.of f5⟩,nE (SqL.of f5) (by rw[List.length_map];simp at c2 ⊢;omega) (λi v H'=>∃r,(w2::wr)[i]? = some (aU r)/\Wr4 r/\PrT H' v r) (λi v H H' st ⟨r,e1,e2,e3⟩=>⟨r,e1,e2,e3.t st⟩) ?_ ?_⟩
  ·intro i y H2 Kc hx s2 kk
   rw[List.getElem?_map]at hx;obtain⟨wd,hp,rfl⟩:=Option.map_eq_some_iff.mp hx;have hm:=List.mem_of_getElem? hp;have hsz:=hsh wd (List.mem_cons_of_mem _ (List.mem_cons_of_mem _ hm))
   by_cases hc:∃r,wd=aU r/\Wr4 r
   ·obtain⟨r,rfl,w4⟩:=hc
    exact⟨_,rfl,_,rfl,by omega,.inl ⟨r,rfl,w4,λv H3 s3 f3=>kk _ _ s3 ⟨r,hp,w4,f3⟩⟩⟩
   ·refine⟨_,rfl,_,rfl,by omega,.inr ⟨λr w4 e=>hc ⟨r,e,w4⟩,λH3 s3=>no (λw y rs ok e=>?_) H3 (S5.trans (s2.trans s3))⟩⟩
    have h1:=hbad w y rs ok e;injection h1 with _ h1;injection h1 with _ h1;rw[h1]at hm;obtain⟨r,hr,e2⟩:=List.mem_map.mp hm;exact hc ⟨r,e2.symm,ok.prs r hr⟩
  ·intro l ys H2 nl s2 f2 hly hr
   rw[List.length_map]at hly;obtain⟨qs,ey,ew,hq⟩:=ug hly hr;subst ey;refine⟨sz (by simp),λp H3 s3 f3 n3=>?_⟩;have hql:qs.length=(w2::wr).length:=by rw[ew,List.length_map,List.length_map]
   have ok:Ii w0 w1 (qs.map (·.2)):=⟨hw0,hw1,by rw[List.length_map,hql];simp,by rw[List.length_map,hql];simp at c2 ⊢;omega,λr hr=>by
    obtain⟨q',hq',rfl⟩:=List.mem_map.mp hr;exact(hq q' hq').2⟩
   have ex:x=cS w0 w1 (qs.map (·.2)):=by
    rw[<- hjo,ew];rfl
   have L:Ig H2 l qs:=⟨f2,λq' hq'=>(hq q' hq').1⟩;rcases h with⟨w,y,rs,e,ok',k⟩|⟨z,_⟩
   ·obtain⟨rfl,rfl,rfl⟩:=sH ok ok' (ex.symm.trans e)
    exact k p H3 (S5.trans (s2.trans s3)) ⟨l,qs,f3,L.mono s3,rfl⟩
   ·exact absurd ex (z _ _ _ ok)
structure IU(H:Hp)(x:V):Prop where
 kn:∃t,Kn H x t
 parts:∀p xs,x = .ref p->H p=some (.lst xs)->xs.length<=900/\∀y∈xs,AN H y
inductive DH (vs:List V) (H:Hp) (Q:VK) (x_3:XK):Prop
 | mk:∀x,(vs = [x])->(IU H x)->(∀H',Same H H'->Q (.bl (ki H x)) H')->DH vs H Q x_3
noncomputable def gk:Str:=Str.ofString ","
theorem gQ:gk=⟨#[44]⟩:=by decide +kernel
noncomputable def bI(c:Int×Int):Str:=num c.1++gk++num c.2
noncomputable def dW(cs:List (Int×Int)):Str:=Str.join ⟨#[32]⟩ (cs.map bI)
noncomputable def Th(c:Int×Int):Prop:=c.1.natAbs<10^1000/\c.2.natAbs<10^1000
noncomputable def OkL(cs:List (Int×Int)):Prop:=1<=cs.length/\cs.length<=10/\∀c∈cs,Sm c.1/\Sm c.2
theorem vz(c:Int×Int):(bI c).cps.toList=(num c.1).cps.toList++44::(num c.2).cps.toList:=by
 unfold bI;rw[cp,cp,gQ,List.append_assoc];rfl
theorem dN(c:Int×Int):Txt.split (bI c) gk = [num c.1,num c.2]:=by
 rw[gQ];have e:bI c=Str.join ⟨#[44]⟩ [num c.1,num c.2]:=by
  unfold bI;rw[gQ];rfl
 rw[e];refine fS (by simp) λq hq=>?_;simp only[List.mem_cons,List.not_mem_nil,or_false]at hq;rcases hq with rfl|rfl <;> exact jb (by decide)
theorem pC{c d:Int×Int}(h:bI c=bI d):c=d:=by
 have e:[num c.1,num c.2] = [num d.1,num d.2]:=by rw[<- dN,<- dN,h]
 simp only[List.cons.injEq,and_true]at e;exact Prod.ext (jH e.1) (jH e.2)
theorem nD(c:Int×Int):32∉(bI c).cps.toList:=by
 rw[vz];intro h;rcases List.mem_append.mp h with h|h
 ·exact jb (by decide) h
 ·rcases List.mem_cons.mp h with h|h
  ·cases h
  ·exact jb (by decide) h
theorem hX{cs:List (Int×Int)}(h:1<=cs.length):Txt.split (dW cs) (Str.ofString " ")=cs.map bI:=by
 rw[dI];refine fS (λz=>?_) λq hq=>?_
 ·have:=congrArg List.length z
  rw[List.length_map,List.length_nil]at this;omega
 ·obtain⟨c,_,rfl⟩:=List.mem_map.mp hq
  exact nD c
theorem iB:∀{as bs:List (Int×Int)},as.map bI=bs.map bI->as=bs
 | [],[],_=>rfl
 | [],_::_,h=>by simp at h
 | _::_,[],h=>by simp at h
 | a::as,b::bs,h=>by
  simp only[List.map_cons,List.cons.injEq]at h;rw[pC h.1,iB h.2]
theorem oJ{as bs:List (Int×Int)}(h1:1<=as.length)(h2:1<=bs.length)(h:dW as=dW bs):as=bs:=iB (by rw[<- hX h1,<- hX h2,h])
theorem yV{c:Int×Int}(h:Sm c.1/\Sm c.2):Th c:=by
 have b:(999999999999:Nat)<10^1000:=Nat.lt_of_lt_of_le (by decide:999999999999<10^12) (Nat.pow_le_pow_right (by decide) (by decide));obtain⟨⟨h1,h2⟩,⟨h3,h4⟩⟩:=h;unfold ie at h1 h2 h3 h4;exact⟨Nat.lt_of_le_of_lt (by omega) b,Nat.lt_of_le_of_lt (by omega) b⟩
inductive HG (vs:List V) (H:Hp) (Q:VK) (x_3:XK):Prop
 | mk:∀(p:Addr) (a b:Int),(vs = [.ref p])->(H p=some (.tup [.int a,.int b]))->((Dg a/\Dg b))->(Q (.str (bI (a,b))) H)->HG vs H Q x_3
inductive Fb (C:Addr) (vs:List V) (H:Hp) (Q:VK) (E:XK):Prop
 | mk:∀x:Str,(vs = [.str x])->(x.length<=60000)->(((∃c,x=bI c/\Th c/\∀(p:Addr) (H':Hp),Same H H'->H' p=some (.tup [.int c.1,.int c.2])->H p=none->Q (.ref p) H')\/((∀c,Th c->x≠bI c)/\∀H',Same H H'->E (.ref C) none H')))->Fb C vs H Q E
theorem Hm:Ah ["thing"] ["thing"] (ag (top 26)):=smk
theorem qF(Hu:Df K mg "is_line" (top 26))(V_MOST:∃tk,mg "MOST_CORNERS" = some (.int 10 tk))(C4:Fn P w K mg base "is_corner" ["thing"] 3 Ez)(T:Txt mg):Fn P w K mg base "is_line" ["thing"] 4 DH:=by
 obtain⟨tM,EI⟩:=V_MOST;refine Hu.fn Hm (λ_ _ _ _ _ _ us hl=>by obtain⟨_,rfl⟩:=dk hl;rfl) (λvs H Q E h=>?_) (λf cdv A outer s H vs Q E hr h=>?_)
 ·obtain⟨x,rfl,_⟩:=h
  rfl
 ·obtain⟨x,rfl,lt,q⟩:=h
  have CN:Bd (aG CX0 P w K mg base ["thing"] "is_line" (ag (top 26)) f cdv A outer s H E).nox (retScope ((ax (top 26)).getD 1 (.Pass ⟨0,0,0,0⟩))) [] "corner" [] :=
   ⟨by rfl,rfl,by decide +kernel,by decide +kernel,rfl,(λp hp=>nomatch hp),by rfl,by decide +kernel,(λp hp=>nomatch hp),⟨rfl,rfl⟩,rfl⟩
  obtain⟨t,k⟩:=lt.kn;refine⟨_,(af (aC (cb (bA (aO (az bY (by rfl) T.z_isinstance bo (aa (pv 0) (aa (ix T.z_list nG) ae))))) (bQ (bA (jX eh eh ac (az aI (by rfl) T.z_len ci (aa (pv 0) ae)) (dD (v:=.int 10) (by rfl) EI ⟨_,rfl⟩))))).pt (ah (ak cV)) av) (ah (ak (az (gw rfl) (by rfl) T.z_all kP (aa ((qX rfl CN (cw (pv 0)) (λfp s₀ H₀=>(ao C4 (hr.mono (by decide)) (by rfl) (aa (pv 0) ae))))) ae))))),?_⟩;refine⟨_,rfl,x,t,"list",rfl,k,.inr (.inr (.inr (.inl rfl))),_,rfl,?_⟩;rcases Kn.cases_lst k with⟨p,xs,rfl,e,rfl⟩|⟨hl,hs⟩
  ·refine bC (by decide) ?_
   obtain⟨h100,hth⟩:=lt.parts p xs rfl e;rw[lR e]at q;unfold rB at q;have bad:(decide ((1:Int)<=(xs.length:Int)) && decide ((xs.length:Int)<=10))=false->Q (.bl false) H:=λz=>by
    have y:=q H (Same.refl _);rw[z,Bool.false_and]at y;exact y
   refine⟨_,rfl,p,xs,rfl,.inl (SqL.of e),_,_,rfl,rfl,_,rfl,ay (λh1=>?_) (λh1=>?_)⟩
   ·refine⟨_,_,rfl,rfl,_,rfl,ay (λh2=>?_) (λh2=>?_)⟩
    ·exact bad (by rw[h1,show decide ((xs.length:Int)<=10)=false by simpa using h2];rfl)
    ·have z:(decide ((1:Int)<=(xs.length:Int)) && decide ((xs.length:Int)<=10))=true:=by rw[h1,show decide ((xs.length:Int)<=10)=true by simpa using h2];rfl
     rw[z,Bool.true_and]at q;refine⟨_,rfl,p,rfl,⟨_,SqL.of e⟩,λl hl=>?_⟩;refine gP (K:=K) (a:=p) (xs:=xs) (l:=l) (fv:=[]) (λi acc H2=>i<=xs.length/\acc=((xs.take i).map (dB H)).map V.bl/\Same H H2/\H2 l=some (.lst acc))
      ⟨Nat.zero_le _,rfl,Same.new hl,upd_same⟩ ?_ ?_ ?_
     ·rintro i acc H2 hi ⟨_,rfl,sm,e3⟩
      exact⟨SqL.of (sm _ _ e),e3,bJ (by rw[List.length_map,List.length_map,List.length_take];omega)⟩
     ·rintro i y acc H2 Kc hy ⟨hi,rfl,sm,e3⟩ kk
      have hlt:i<xs.length:=(List.getElem?_eq_some_iff.mp hy).1;have ty:=hth y (List.mem_of_getElem? hy);obtain⟨kd,kn⟩:=ty.kn;refine⟨_,rfl,y,rfl,AN.mono ty sm,kk _ _ e3 ⟨hlt,?_,λb o eb=>?_,upd_same⟩⟩
      ·rw[qK kn sm,List.take_add_one,hy,List.map_append,List.map_append]
       rfl
      ·rw[aP (aL eb hl)]
       exact sm b o eb
     ·rintro acc H2 ⟨_,rfl,sm,e3⟩
      rw[List.take_length]at e3;have y:=q H2 sm;have al:xs.all (dB H)=(xs.map (dB H)).all id:=by rw[List.all_map];rfl
      rw[al]at y;exact⟨l,xs.map (dB H),rfl,SqL.of e3,y⟩
   ·refine⟨_,rfl,jy (bad ?_)⟩
    rw[h1];rfl
  ·have y:=q H (Same.refl _)
   rw[hl]at y;rw[hs];exact jy y
theorem B9:Ah ["corner","x","y"] ["corner"] (ag (top 69)):=smk
theorem kB(ER:Df K mg "show_corner" (top 69))(DG:Dig K)(T:Txt mg):Fn P w K mg base "show_corner" ["corner"] 1 HG:=by
 refine ER.fn B9 (λ_ _ _ _ _ _ us hl=>by obtain⟨_,rfl⟩:=dk hl;rfl) (λvs H Q E h=>?_) (λf cdv A outer s H vs Q E hr h=>?_)
 ·obtain⟨p,a,b,rfl,_⟩:=h
  rfl
 ·obtain⟨p,a,b,rfl,e,⟨da,db⟩,q⟩:=h
  refine⟨_,(af (aq (i:=1) B9.nd rfl (Or.inl rfl) (aj am (pv 0) ac (λ_ _=>rfl))) (af (aq (i:=2) B9.nd rfl (Or.inl rfl) (aj am (pv 0) ac (λ_ _=>rfl))) (ah (ak (j8 (fZ (K:=K) rfl DG rfl (pv 1)) aE (fZ (K:=K) rfl DG rfl (pv 2))))))),?_⟩;have za:(num a).length<=4301:=eA (by decide) da;have zb:(num b).length<=4301:=eA (by decide) db;have zs:(Str.ofString ",").length=1:=rfl;refine⟨_,rfl,p,_,_,_,rfl,rfl,SqT.of e,rfl,?_⟩;refine⟨_,rfl,p,_,_,_,rfl,rfl,SqT.of e,rfl,?_⟩;exact⟨_,rfl,.inl ⟨a,rfl,da,_,rfl,bj (by omega),_,rfl,bj (by omega),_,rfl,.inl ⟨b,rfl,db,_,rfl,bj (by omega),q⟩⟩⟩
theorem Da:Ah ["text","parts"] ["text"] (ag (top 76)):=smk
theorem kC{C:Addr}(ES:Df K mg "read_corner" (top 76))(Bv:Fx P w K mg base "two_parts" ["text","sign"] 1 [] (E5 C))(AZ:Fx P w K mg base "read_whole" ["text"] 2 [] (Ei C)):Fx P w K mg base "read_corner" ["text"] 3 [] (Fb C):=by
 refine ES.fx Da (λ_ _ _ _ _ _ us hl=>by obtain⟨_,rfl⟩:=dk hl;rfl) (λvs H Q E h=>?_) (λf cdv A outer s H vs Q E hr h=>?_)
 ·obtain⟨x,rfl,_⟩:=h
  rfl
 ·obtain⟨x,rfl,hl,h⟩:=h
  refine⟨_,(af (aq (i:=1) Da.nd rfl (Or.inl rfl) (dj Bv (hr.mono (by decide)) (by rfl) (aa (pv 0) (aa aE ae)))) (ah (ak (aA (aa (dj AZ (hr.mono (by decide)) (by rfl) (aa (aj aF (pv 1) ac (λ_ _=>rfl)) ae)) (aa (dj AZ (hr.mono (by decide)) (by rfl) (aa (aj aF (pv 1) ac (λ_ _=>rfl)) ae)) ae)))))),?_⟩;have no:(∀c,Th c->x≠bI c)->∀H',Same H H'->E (.ref C) none H':=λz H' s'=>by
   rcases h with⟨c,e,th,_⟩|⟨_,k⟩
   ·exact absurd e (z c th)
   ·exact k H' s'
  have hjo:=StrLaws.join_split x gk;have yl:(gk.length == 0)=false:=rfl
  by_cases hsp:∃a b,Txt.split x gk = [a,b]
  ·obtain⟨a,b,e⟩:=hsp
   have la:a.length<=x.length:=PyProof.Rows.part_short (x:=x) (y:=gk) (by rw[e];simp);have lb:b.length<=x.length:=PyProof.Rows.part_short (x:=x) (y:=gk) (by rw[e];simp);refine⟨_,rfl,x,gk,rfl,yl,hl,.inl ⟨a,b,e,λl H1 s1 f1=>?_⟩⟩;refine⟨_,rfl,l,_,_,_,rfl,rfl,SqL.of f1,rfl,a,rfl,by omega,?_⟩
   by_cases ha:∃n:Int,a=num n/\n.natAbs<10^1000
   ·obtain⟨n,rfl,hn⟩:=ha
    refine .inl ⟨n,rfl,hn,λH2 s2=>?_⟩;refine⟨_,rfl,l,_,_,_,rfl,rfl,SqL.of (s2 _ _ f1),rfl,b,rfl,by omega,?_⟩
    by_cases hb:∃m:Int,b=num m/\m.natAbs<10^1000
    ·obtain⟨m,rfl,hm⟩:=hb
     refine .inl ⟨m,rfl,hm,λH3 s3=>⟨sz (by simp),λp H4 s4 f4 n4=>?_⟩⟩;have S3:=s1.trans (s2.trans s3);have ex:x=bI (n,m):=by
      rw[<- hjo,e];unfold bI;rw[gQ];rfl
     rcases h with⟨c,e',th,k⟩|⟨z,_⟩
     ·have:=pC (ex.symm.trans e')
      subst this;exact k p H4 (S3.trans s4) f4 (fz S3 n4)
     ·exact absurd ex (z (n,m) ⟨hn,hm⟩)
    ·refine .inr ⟨λm hm e2=>hb ⟨m,e2,hm⟩,λH3 s3=>no (λc th e'=>?_) H3 (s1.trans (s2.trans s3))⟩
     rw[e',dN]at e;simp only[List.cons.injEq,and_true]at e;exact hb ⟨c.2,e.2.symm,th.2⟩
   ·refine .inr ⟨λm hm e2=>ha ⟨m,e2,hm⟩,λH3 s3=>no (λc th e'=>?_) H3 (s1.trans s3)⟩
    rw[e',dN]at e;simp only[List.cons.injEq,and_true]at e;exact ha ⟨c.1,e.1.symm,th.1⟩
  ·refine⟨_,rfl,x,gk,rfl,yl,hl,.inr ⟨λa b e=>hsp ⟨a,b,e⟩,λH1 s1=>no (λc th e'=>?_) H1 s1⟩⟩
   exact hsp ⟨_,_,by rw[e',dN]⟩
structure EG(H:Hp)(l:Addr)(qs:Crn):Prop where
 lst:H l=some (.lst (qs.map λq=>V.ref q.1))
 crn:∀q∈qs,H q.1=some (.tup [.int q.2.1,.int q.2.2])
theorem gB(a:Int):cQ (.int a)=true↔Sm a:=by
 show(decide (-ie<=a) && decide (a<=ie))=true↔_;rw[Bool.and_eq_true,decide_eq_true_eq,decide_eq_true_eq];exact Iff.rfl
theorem EG.good{H:Hp}{l:Addr}{qs:Crn}(L:EG H l qs):ki H (.ref l)=true↔OkL (qs.map (·.2)):=by
 rw[lR L.lst];unfold rB OkL;rw[Bool.and_eq_true,Bool.and_eq_true,decide_eq_true_eq,decide_eq_true_eq,List.length_map,List.length_map,List.all_eq_true];constructor
 ·rintro⟨⟨h1,h2⟩,h3⟩
  refine⟨by omega,by omega,λc hc=>?_⟩;obtain⟨q,hq,rfl⟩:=List.mem_map.mp hc;have:=h3 (.ref q.1) (List.mem_map.mpr ⟨q,hq,rfl⟩);rw[jq (L.crn q hq)]at this;have this:(cQ (.int q.2.1) && cQ (.int q.2.2))=true:=this;rw[Bool.and_eq_true,gB,gB]at this;exact this
 ·rintro⟨h1,h2,h3⟩
  refine⟨⟨by omega,by omega⟩,λv hv=>?_⟩;obtain⟨q,hq,rfl⟩:=List.mem_map.mp hv;rw[jq (L.crn q hq)];show(cQ (.int q.2.1) && cQ (.int q.2.2))=true;rw[Bool.and_eq_true,gB,gB];exact h3 _ (List.mem_map.mpr ⟨q,hq,rfl⟩)
theorem EG.m{H:Hp}{l:Addr}{qs:Crn}(L:EG H l qs)(h:OkL (qs.map (·.2))):LineM H l qs:=⟨L.lst,λq hq=>⟨L.crn q hq,h.2.2 _ (List.mem_map.mpr ⟨q,hq,rfl⟩)⟩⟩
theorem EG.th{H:Hp}{l:Addr}{qs:Crn}(L:EG H l qs)(h:qs.length<=900):IU H (.ref l):=⟨⟨_,.lst L.lst⟩,λp xs e1 e2=>by
 cases e1;rw[L.lst]at e2;cases e2;refine⟨by rw[List.length_map];exact h,λy hy=>?_⟩;obtain⟨q,hq,rfl⟩:=List.mem_map.mp hy;exact tS (L.crn q hq)⟩
theorem tZ{a:Int}(h:Sm a):(num a).length<=13:=eA (k:=12) (by decide) (by
 obtain⟨h1,h2⟩:=h;unfold ie at h1 h2;show _<1000000000000;omega)
theorem xo{a:Int}(h:Sm a):Dg a:=Dg.of (k:=12) (by
 obtain⟨h1,h2⟩:=h;unfold ie at h1 h2;show _<1000000000000;omega) (by decide)
theorem pB{c:Int×Int}(h:Sm c.1/\Sm c.2):(bI c).length<=27:=by
 have h1:=tZ h.1;have h2:=tZ h.2;have h3:gk.length=1:=rfl;unfold bI;rw[Str.length_append,Str.length_append];omega
theorem oI{cs:List (Int×Int)}(h:∀c∈cs,Sm c.1/\Sm c.2):(dW cs).length<=28*cs.length:=by
 have h1:=StrLaws.join_length_le ⟨#[32]⟩ (cs.map bI);have h2:=StrLaws.sumLen_le (B:=27) (cs.map bI) λy hy=>by
  obtain⟨c,hc,rfl⟩:=List.mem_map.mp hy;exact pB (h c hc)
 have h3:(⟨#[32]⟩:Str).length=1:=rfl;rw[List.length_map]at h1 h2;rw[h3]at h1;unfold dW;omega
theorem sU{cs:List (Int×Int)}(h:∀c∈cs,Sm c.1/\Sm c.2)(hl:cs.length<=20):(((cs.map bI).map λx=>x.length).sum+(cs.map bI).length*(Str.ofString " ").length<=16777216):=by
 have h2:=StrLaws.sumLen_le (B:=27) (cs.map bI) λy hy=>by
  obtain⟨c,hc,rfl⟩:=List.mem_map.mp hy;exact pB (h c hc)
 have h3:(Str.ofString " ").length=1:=rfl;rw[List.length_map]at h2 ⊢;rw[h3];omega
inductive HF (vs:List V) (H:Hp) (Q:VK) (x_3:XK):Prop
 | mk:∀(l:Addr) (qs:Crn),(vs = [.ref l])->(LineM H l qs)->(qs.length<=20)->(∀H',Same H H'->Q (.str (dW (qs.map (·.2)))) H')->HF vs H Q x_3
theorem vT{qs:Crn}{ys:List V}(hl:ys.length=(qs.map λ(q:Addr×Int×Int)=>V.ref q.1).length)(hr:∀(i:Nat) y,ys[i]? = some y->∃q,qs[i]? = some q/\y = .str (bI q.2)):ys=((qs.map (·.2)).map bI).map V.str:=by
 rw[List.length_map]at hl;apply List.ext_getElem?;intro i;rw[List.map_map,List.map_map,List.getElem?_map];cases hy:ys[i]? with
 | none =>
  have:=List.getElem?_eq_none_iff.mp hy;rw[List.getElem?_eq_none (by omega)];rfl
 | some y =>
  obtain⟨q,hq,rfl⟩:=hr i y hy;rw[hq];rfl
inductive Ej (C:Addr) (vs:List V) (H:Hp) (Q:VK) (E:XK):Prop
 | mk:∀x:Str,(vs = [.str x])->(x.length<=800)->(((∃cs,x=dW cs/\OkL cs/\∀(l:Addr) (rs:Crn) (H':Hp),Same H H'->LineM H' l rs->rs.map (·.2)=cs->Q (.ref l) H')\/((∀cs,OkL cs->x≠dW cs)/\∀H',Same H H'->E (.ref C) none H')))->Ej C vs H Q E
theorem rX:∀{ws:List Str} {ys:List V} {H:Hp},ys.length=ws.length->(∀(i:Nat) y,ys[i]? = some y->∃p c,y = .ref p/\ws[i]? = some (bI c)/\Th c/\H p=some (.tup [.int c.1,.int c.2])) ->
  ∃rs:Crn,ys=rs.map (λq=>V.ref q.1)/\ws=(rs.map (·.2)).map bI/\∀q∈rs,H q.1=some (.tup [.int q.2.1,.int q.2.2])
 | [],[],_,_,_=>⟨[],rfl,rfl,λ_ h=>nomatch h⟩
 | [],_::_,_,h,_=>by simp at h
 | _::_,[],_,h,_=>by simp at h
 | w::ws,y::ys,H,h,hr=>by
  obtain⟨rs,e1,e2,e3⟩:=rX (ws:=ws) (ys:=ys) (H:=H) (by simpa using h) λi y hy=>by simpa using hr (i+1) y (by simpa using hy)
  obtain⟨p,c,ey,ew,_,ep⟩:=hr 0 y rfl;cases ew;refine⟨(p,c)::rs,by rw[ey,e1];rfl,by rw[e2];rfl,λq hq=>?_⟩;rcases List.mem_cons.mp hq with rfl|hq
  ·exact ep
  ·exact e3 q hq
theorem FP:Ah ["line"] ["line"] (ag (top 70)):=smk
theorem mW(FZ:Df K mg "show_line" (top 70))(Cb:Fn P w K mg base "show_corner" ["corner"] 1 HG):Fn P w K mg base "show_line" ["line"] 2 HF:=by
 refine FZ.fn FP (λ_ _ _ _ _ _ us hl=>by obtain⟨_,rfl⟩:=dk hl;rfl) (λvs H Q E h=>?_) (λf cdv A outer s H vs Q E hr h=>?_)
 ·obtain⟨l,qs,rfl,_⟩:=h
  rfl
 ·obtain⟨l,qs,rfl,L,hl,q⟩:=h
  have CN:Bd (aG CX0 P w K mg base ["line"] "show_line" (ag (top 70)) f cdv A outer s H E).nox (om (jG ((ax (top 70)).getD 0 (.Pass ⟨0,0,0,0⟩)))) [] "corner" [] :=
   ⟨by rfl,rfl,by decide +kernel,by decide +kernel,rfl,(λp hp=>nomatch hp),by rfl,by decide +kernel,(λp hp=>nomatch hp),⟨rfl,rfl⟩,rfl⟩
  refine⟨_,(ah (ak (dU PySem.F.plainAttrs_str PySem.F.slot_str_join PySem.F.type_str_join rk aE (aa (dR rfl CN (cw (pv 0)) (λfp s₀ H₀=>(ao Cb (hr.mono (by decide)) (by rfl) (aa (pv 0) ae)))) ae)))),?_⟩;refine⟨rfl,_,rfl,l,rfl,⟨_,SqL.of L.lst⟩,gj (SqL.of L.lst) (by rw[List.length_map];omega) (λi v H'=>∃q,qs[i]? = some q/\v = .str (bI q.2)) (λi v H H' _ z=>z) ?_ ?_⟩
  ·intro i y H2 Kc hx s2 kk
   rw[List.getElem?_map]at hx;obtain⟨q',hq,rfl⟩:=Option.map_eq_some_iff.mp hx;obtain⟨c1,c2,c3⟩:=(L.mono s2).crn q' (List.mem_of_getElem? hq);exact⟨_,rfl,q'.1,_,_,rfl,c1,⟨xo c2,xo c3⟩,kk _ _ (Same.refl _) ⟨q',hq,rfl⟩⟩
  ·intro l2 ys H2 nl s2 f2 hly hr
   have ey:=vT hly hr;subst ey;have hs:∀c∈qs.map (·.2),Sm c.1/\Sm c.2:=λc hc=>by
    obtain⟨q',hq,rfl⟩:=List.mem_map.mp hc;exact(L.crn q' hq).2
   refine⟨_,l2,_,rfl,rfl,SqL.of f2,sU hs (by rw[List.length_map];exact hl),?_⟩;have e:Txt.join (Str.ofString " ") ((qs.map (·.2)).map bI)=dW (qs.map (·.2)):=by
    rw[dI];exact StrLaws.glued_eq_join _ _
   rw[e];exact q H2 s2
theorem D2:Ah ["text","line"] ["text"] (ag (top 77)):=smk
theorem mY{C:Addr}(Ga:Df K mg "read_line" (top 77))(Ay:Dz K mg "NoText" C)(Cc:Fx P w K mg base "read_corner" ["text"] 3 [] (Fb C))(DS:Fn P w K mg base "is_line" ["thing"] 4 DH)(T:Txt mg):Fx P w K mg base "read_line" ["text"] 5 [] (Ej C):=by
 refine Ga.fx D2 (λ_ _ _ _ _ _ us hl=>by obtain⟨_,rfl⟩:=dk hl;rfl) (λvs H Q E h=>?_) (λf cdv A outer s H vs Q E hr h=>?_)
 ·obtain⟨x,rfl,_⟩:=h
  rfl
 ·obtain⟨x,rfl,hl,h⟩:=h
  have CN:Bd (aG (CXE P w) P w K mg base ["text","line"] "read_line" (ag (top 77)) f cdv A outer s H E) (fV ((ax (top 77)).getD 0 (.Pass ⟨0,0,0,0⟩))) [] "word" [] :=
   ⟨by rfl,rfl,by decide +kernel,by decide +kernel,rfl,(λp hp=>nomatch hp),by rfl,by decide +kernel,(λp hp=>nomatch hp),⟨rfl,rfl⟩,rfl⟩
  refine⟨_,(af (js (j:=1) CN D2.nd rfl rfl (cw (dU PySem.F.plainAttrs_str PySem.F.slot_str_split PySem.F.type_str_split iz (pv 0) (aa aE ae))) (λfp s₀ H₀=>(qh Cc (hr.mono (by decide)) (by rfl) (aa (pv 0) ae)))) (af (aC (bA (aO (ao DS (hr.mono (by decide)) (by rfl) (aa (pv 1) ae)))) (ah (cB Ay (by rfl))) av) (ah (ak (pv 1))))),?_⟩;have no:(∀cs,OkL cs->x≠dW cs)->∀H',Same H H'->E (.ref C) none H':=λz H' s'=>by
   rcases h with⟨c,e,th,_⟩|⟨_,k⟩
   ·exact absurd e (z c th)
   ·exact k H' s'
  have hpl:=PyProof.Rows.split_le x (Str.ofString " ");have hp1:=PyProof.Rows.split_pos x (Str.ofString " ");have hjo:Str.join ⟨#[32]⟩ (Txt.split x (Str.ofString " "))=x:=by
   rw[dI];exact StrLaws.join_split x _
  refine⟨_,rfl,rfl,_,_,rfl,rfl,rfl,by omega,λl1 H1 s1 f1 n1=>?_⟩;refine⟨l1,rfl,⟨_,SqL.of f1⟩,nE (SqL.of f1) (by rw[List.length_map];omega) (λi v H'=>∃p c,v = .ref p/\(Txt.split x (Str.ofString " "))[i]? = some (bI c)/\Th c/\H' p=some (.tup [.int c.1,.int c.2])) (λi v H H' st ⟨p,c,e1,e2,e3,e4⟩=>⟨p,c,e1,e2,e3,st _ _ e4⟩) ?_ ?_⟩
  ·intro i y H2 Kc hx s2 kk
   rw[List.getElem?_map]at hx;obtain⟨wd,hp,rfl⟩:=Option.map_eq_some_iff.mp hx;have hm:=List.mem_of_getElem? hp;have hsz:=PyProof.Rows.part_short hm
   by_cases hc:∃c,wd=bI c/\Th c
   ·obtain⟨c,rfl,th⟩:=hc
    exact⟨_,rfl,_,rfl,by omega,.inl ⟨c,rfl,th,λp H3 s3 f3 n3=>kk _ _ s3 ⟨p,c,rfl,hp,th,f3⟩⟩⟩
   ·refine⟨_,rfl,_,rfl,by omega,.inr ⟨λc th e=>hc ⟨c,e,th⟩,λH3 s3=>no (λcs ok e=>?_) H3 (s1.trans (s2.trans s3))⟩⟩
    rw[e,hX ok.1]at hm;obtain⟨c,hcm,e2⟩:=List.mem_map.mp hm;exact hc ⟨c,e2.symm,yV (ok.2.2 c hcm)⟩
  ·intro l ys H2 nl s2 f2 hly hr
   rw[List.length_map]at hly;obtain⟨rs,ey,ew,hc⟩:=rX hly hr;subst ey;have S2:=s1.trans s2;have LB:EG H2 l rs:=⟨f2,hc⟩;have hrl:rs.length=(Txt.split x (Str.ofString " ")).length:=by rw[ew,List.length_map,List.length_map]
   have ex:x=dW (rs.map (·.2)):=by rw[<- hjo,ew];rfl
   refine⟨_,rfl,_,rfl,LB.th (by omega),λH3 s3=>⟨_,rfl,ay (λc1=>no (λcs ok e=>?_) H3 (S2.trans s3)) (λc1=>?_)⟩⟩
   ·have:=oJ (as:=rs.map (·.2)) (by rw[List.length_map];omega) ok.1 (ex.symm.trans e)
    rw[<- this]at ok;rw[LB.good.mpr ok]at c1;cases c1
   ·have ok:=LB.good.mp (by simpa using c1)
    refine⟨_,rfl,?_⟩;rcases h with⟨cs,e,ok',k⟩|⟨z,_⟩
    ·exact k l rs H3 (S2.trans s3) ((LB.m ok).mono s3) (oJ (by rw[List.length_map];omega) ok'.1 (ex.symm.trans e))
    ·exact absurd ex (z _ ok)
noncomputable def aY(q:Pr):R4:=((q.a,q.b),(q.c,q.d))
noncomputable def zer(r:R4):Pr:=⟨0,0,0,r.1.1,r.1.2,r.2.1,r.2.2⟩
noncomputable def zrs(ps:List Pr):List Pr:=(ps.map aY).map zer
theorem ku(way:Str):∀ps:List Pr,aV way (zrs ps)=aV way ps
 | []=>rfl
 | [_]=>rfl
 | u::v::r=>by
  have ih:=ku way (v::r);show(cT way (zer (aY u)) (zer (aY v)) && aV way (zrs (v::r)))=_;rw[ih];rfl
theorem lr:∀ps:List Pr,(zrs ps).all bq=ps.all bq
 | []=>rfl
 | u::r=>by
  show(bq (zer (aY u)) && (zrs r).all bq)=(bq u && r.all bq);rw[lr r];rfl
theorem nQ(n m:Int):∀ps:List Pr,(zrs ps).all (inB n m)=ps.all (inB n m)
 | []=>rfl
 | u::r=>by
  show(inB n m (zer (aY u)) && (zrs r).all (inB n m))=(inB n m u && r.all (inB n m));rw[nQ n m r];rfl
theorem oM(ps:List Pr)(h:ps≠[])(h':zrs ps≠[]):(zrs ps).getLast h'=zer (aY (ps.getLast h)):=by
 simp[zrs]
theorem l6(n m:Int)(way:Str)(ps:List Pr):bh n m way (zrs ps)=bh n m way ps:=by
 cases ps with
 | nil=>rfl
 | cons f r =>
  show((zrs (f::r)).all (inB n m) && ((if way=aB then (zrs (f::r)).all bq else true) && (dY n m way (zer (aY f)) ((zrs (f::r)).getLast (by simp[zrs])) && aV way (zrs (f::r)))))=_
  rw[nQ,lr,ku,oM (f::r) (by simp),ce];rfl
theorem qI{n m:Int}{way:Str}{ps ps':List Pr}(e:ps.map aY=ps'.map aY):bh n m way ps=bh n m way ps':=by
 rw[<- l6,<- l6 n m way ps'];unfold zrs;rw[e]
theorem jF{qs qs':Crn}(e:qs.map (·.2)=qs'.map (·.2))(t b:Int):jV qs t b=jV qs' t b/\jU qs t b=jU qs' t b:=by
 have g:∀(k:Nat) (xs:Crn),(xs.getD k (0,0,0)).2=(xs.map (·.2)).getD k (0,0):=λk xs=>by
  rw[List.getD_eq_getElem?_getD,List.getD_eq_getElem?_getD,List.getElem?_map];cases xs[k]? <;> rfl
 have hl:qs.length=qs'.length:=by
  have:=congrArg List.length e;rw[List.length_map,List.length_map]at this;exact this
 unfold jV jU;rw[g,g,g,g,e,hl];exact⟨rfl,rfl⟩
theorem mB{qs qs' rs rs':Crn}(e:qs.map (·.2)=qs'.map (·.2))(e':rs.map (·.2)=rs'.map (·.2))(t b t' b':Int):sqF qs t b rs t' b'=sqF qs' t b rs' t' b':=by
 unfold sqF ptX ptY;rw[(jF e t b).1,(jF e t b).2,(jF e' t' b').1,(jF e' t' b').2]
theorem kf{ps ps':List Pr}(e:ps.map aY=ps'.map aY){q:Pr}(h:q∈ps):∃q'∈ps',aY q'=aY q:=by
 have:aY q∈ps'.map aY:=by
  rw[<- e];exact List.mem_map_of_mem h
 obtain⟨q',h',e'⟩:=List.mem_map.mp this;exact⟨q',h',e'⟩
theorem oQ{ps ps':List Pr}(e:ps.map aY=ps'.map aY){j:Nat}{u:Pr}(h:ps[j]? = some u):∃u',ps'[j]? = some u'/\aY u'=aY u:=by
 have h1:(ps'.map aY)[j]? = some (aY u):=by rw[<- e,List.getElem?_map,h];rfl
 rw[List.getElem?_map]at h1;obtain⟨u',h2,h3⟩:=Option.map_eq_some_iff.mp h1;exact⟨u',h2,h3⟩
theorem iL{u v:Pr}(e:aY u=aY v):u.a=v.a/\u.b=v.b/\u.c=v.c/\u.d=v.d:=by
 simp only[aY,Prod.mk.injEq]at e;exact⟨e.1.1,e.1.2,e.2.1,e.2.2⟩
theorem wq(wy:Str){u v u' v':Pr}(e1:aY u'=aY u)(e2:aY v'=aY v):msB wy u' v'=msB wy u v:=by
 obtain⟨a1,a2,a3,a4⟩:=iL e1;obtain⟨b1,b2,b3,b4⟩:=iL e2;cases u;cases v;cases u';cases v';simp only at a1 a2 a3 a4 b1 b2 b3 b4;subst a1 a2 a3 a4 b1 b2 b3 b4;rfl
theorem vF{u v u' v':Pr}(e1:aY u'=aY u)(e2:aY v'=aY v)(a b c d:Int):Box u' v' a b c d↔Box u v a b c d:=by
 obtain⟨a1,a2,a3,a4⟩:=iL e1;obtain⟨b1,b2,b3,b4⟩:=iL e2;unfold Box;rw[a1,a2,a3,a4,b1,b2,b3,b4]
theorem rJ{wy:Str}{ps ps':List Pr}(e:ps.map aY=ps'.map aY){a b c d:Int}(h:FS wy ps a b c d):FS wy ps' a b c d:=by
 rcases h with⟨q,hq,h⟩|⟨j,u,v,hu,hv,hm,hb⟩
 ·obtain⟨q',h',e'⟩:=kf e hq
  obtain⟨a1,a2,a3,a4⟩:=iL e';exact .inl ⟨q',h',by rw[a1,a2,a3,a4];exact h⟩
 ·obtain⟨u',hu',eu⟩:=oQ e hu
  obtain⟨v',hv',ev⟩:=oQ e hv;exact .inr ⟨j,u',v',hu',hv',by rw[wq wy eu ev];exact hm,(vF eu ev a b c d).mpr hb⟩
theorem yj{qs qs' rs rs':Crn}{wy:Str}{ps ps':List Pr}{s w:Int}(e1:qs.map (·.2)=qs'.map (·.2))(e2:rs.map (·.2)=rs'.map (·.2))(e3:ps.map aY=ps'.map aY)(h:Bf qs rs (FS wy ps) s w):Bf qs' rs' (FS wy ps') s w:=by
 refine⟨h.low,λa b c d l1 l2 hs=>?_,?_⟩
 ·have:=h.least a b c d l1 l2 (rJ e3.symm hs)
  rw[mB e1 e2]at this;exact this
 ·obtain⟨a,b,c,d,l1,l2,hs,ea⟩:=h.att
  exact⟨a,b,c,d,l1,l2,rJ e3 hs,by rw[<- mB e1 e2];exact ea⟩
theorem mM{qs qs':Crn}(e:qs.map (·.2)=qs'.map (·.2)):aH qs=aH qs':=by
 have:=congrArg List.length e;rw[List.length_map,List.length_map]at this;unfold aH;rw[this]
structure Hy(q:Pr):Prop where
 lx:Bg q.a q.b
 ly:Bg q.c q.d
 nx:0<=q.a
 ny:0<=q.c
 ba:au q.a<=200
 bb:au q.b<=60
 bc:au q.c<=200
 bd:au q.d<=60
theorem _root_.Wk.PrAt.n{H:Hp}{q:Pr}(h:PrAt H q):Hy q:=⟨h.lx,h.ly,h.nx,h.ny,h.ba,h.bb,h.bc,h.bd⟩
theorem yH{a:Int}(h:au a<=200):a.natAbs<10^61:=Nat.lt_of_lt_of_le (cU h) (by decide)
theorem yG{a:Int}(h:au a<=60):a.natAbs<10^19:=Nat.lt_of_lt_of_le (cU h) (by decide)
theorem mw{a k:Nat}(h:a<10^k)(hk:k<=1000):a<10^1000:=Nat.lt_of_lt_of_le h (Nat.pow_le_pow_right (by decide) hk)
theorem ip{a b:Int}(ha:au a<=200)(hb:au b<=60):(aW a b).length<=83:=by
 have l1:=eA (k:=61) (by decide) (yH ha);have l2:=eA (k:=19) (by decide) (yG hb);have l3:qS.length=1:=rfl;unfold aW
 split
 ·omega
 ·rw[Str.length_append,Str.length_append]
  omega
theorem Hy.ok4{q:Pr}(h:Hy q):Ok4 (aY q):=by
 refine⟨⟨⟨h.lx,mw (yH h.ba) (by decide),mw (yG h.bb) (by decide)⟩,⟨h.ly,mw (yH h.bc) (by decide),mw (yG h.bd) (by decide)⟩⟩,?_⟩;have l1:=ip h.ba h.bb;have l2:=ip h.bc h.bd;have l3:fG.length=1:=rfl;unfold aU aY;rw[Str.length_append,Str.length_append];dsimp only;omega
noncomputable def asV(ps:List Pr):List (V×R4):=ps.map λq=>(V.ref q.p,aY q)
theorem nO(ps:List Pr):(asV ps).map (·.2)=ps.map aY:=by
 unfold asV;rw[List.map_map];rfl
theorem i9{H:Hp}{l:Addr}{ps:List Pr}(h:Am H l ps):Ig H l (asV ps):=⟨by
  rw[h.lst];unfold asV prs;rw[List.map_map];rfl,λq hq=>by
  obtain⟨z,hz,rfl⟩:=List.mem_map.mp hq;have:=h.pr z hz;exact⟨z.p,z.x,z.y,rfl,this.p_,this.x_,this.y_⟩⟩
theorem j4{H:Hp}:∀{qs:List (V×R4)} {ps:List Pr},(∀q∈qs,PrT H q.1 q.2)->qs.map (·.2)=ps.map aY->(∀q∈ps,Hy q)->∃ps',prs ps'=qs.map (·.1)/\ps'.map aY=ps.map aY/\∀q∈ps',PrAt H q
 | [],[],_,_,_=>⟨[],rfl,rfl,λq h=>nomatch h⟩
 | [],_::_,_,e,_=>by simp at e
 | _::_,[],_,e,_=>by simp at e
 | x::xs,z::zs,h,e,hn=>by
  rw[List.map_cons,List.map_cons,List.cons.injEq]at e;obtain⟨ps',e1,e2,e3⟩:=j4 (λq hq=>h q (.tail _ hq)) e.2 λq hq=>hn q (.tail _ hq);obtain⟨p,a,b,f0,f1,f2,f3⟩:=h x (.head _);have n:=hn z (.head _);rw[e.1]at f2 f3;refine⟨⟨p,a,b,z.a,z.b,z.c,z.d⟩::ps',?_,?_,λq hq=>?_⟩
  ·rw[List.map_cons,f0,<- e1]
   rfl
  ·rw[List.map_cons,List.map_cons,e2]
   rfl
  ·rcases List.mem_cons.mp hq with rfl|hq
   ·exact⟨f1,f2,f3,n.lx,n.ly,n.nx,n.ny,n.ba,n.bb,n.bc,n.bd⟩
   ·exact e3 q hq
theorem sC{H:Hp}{l:Addr}{qs:List (V×R4)}{ps:List Pr}(L:Ig H l qs)(e:qs.map (·.2)=ps.map aY)(hn:∀q∈ps,Hy q):∃ps',Am H l ps'/\ps'.map aY=ps.map aY:=by
 obtain⟨ps',e1,e2,e3⟩:=j4 L.prs e hn;exact⟨ps',⟨by rw[L.lst,e1],e3⟩,e2⟩
theorem lC(way:Str):∀ps:List Pr,cf way (zrs ps)=cf way ps
 | []=>rfl
 | [_]=>rfl
 | u::v::r=>by
  have ih:=lC way (v::r);show(dJ way (zer (aY u)) (zer (aY v)) && cf way (zrs (v::r)))=_;rw[ih];rfl
theorem nS(n m:Int)(way:Str)(ps:List Pr):bR n m way (zrs ps)=bR n m way ps:=by
 cases ps with
 | nil=>rfl
 | cons f r =>
  show((zrs (f::r)).all (inB n m) && (hV n m way (zer (aY f)) ((zrs (f::r)).getLast (by simp[zrs])) && cf way (zrs (f::r))))=_;rw[nQ,lC,oM (f::r) (by simp),cL];rfl
theorem sj{n m:Int}{way:Str}{ps ps':List Pr}(e:ps.map aY=ps'.map aY):bR n m way ps=bR n m way ps':=by
 rw[<- nS,<- nS n m way ps'];unfold zrs;rw[e]
theorem yk{qs qs' rs rs':Crn}{ps ps':List Pr}{s w:Int}(e1:qs.map (·.2)=qs'.map (·.2))(e2:rs.map (·.2)=rs'.map (·.2))(e3:ps.map aY=ps'.map aY)(h:D7 qs rs ps s w):D7 qs' rs' ps' s w:=by
 refine⟨h.low,λq hq=>?_,?_⟩
 ·obtain⟨q',h',e⟩:=kf e3.symm hq
  have:=h.most q' h';simp only[aY,Prod.mk.injEq]at e;obtain⟨⟨a1,a2⟩,a3,a4⟩:=e;rw[a1,a2,a3,a4,mB e1 e2]at this;exact this
 ·obtain⟨q,hq,ea⟩:=h.att
  obtain⟨q',h',e⟩:=kf e3 hq;refine⟨q',h',?_⟩;simp only[aY,Prod.mk.injEq]at e;obtain⟨⟨a1,a2⟩,a3,a4⟩:=e;rw[a1,a2,a3,a4,<- mB e1 e2];exact ea
noncomputable def nW:Str:=Str.ofString "walk"
noncomputable def jT:Str:=Str.ofString "fence"
theorem vR:nW∈dr:=by decide
theorem vj:jT∈dr:=by decide
noncomputable def xx:Str:=Str.ofString "long enough "
noncomputable def xv:Str:=Str.ofString "no shorter than "
structure IV(w x y z:Str)(qs rs:Crn)(ps:List Pr)(wy:Str):Prop where
 ex:x=dW (qs.map (·.2))
 ey:y=dW (rs.map (·.2))
 ez:z=cS w wy (ps.map aY)
 ok1:OkL (qs.map (·.2))
 ok2:OkL (rs.map (·.2))
 ok3:Ii w wy (ps.map aY)
 nm:∀q∈ps,Hy q
 zx:x.length<=800
 zy:y.length<=800
 zz:z.length<=60000
noncomputable def Wb(s t:Int):Prop:=Wr s t/\au s<=2103/\au t<=2103
inductive HL (vs:List V) (H:Hp) (Q:VK) (x_3:XK):Prop
  | mk:∀(w x y z:Str) (qs rs:Crn) (ps:List Pr) (wy:Str),(vs = [.str x,.str y,.str z])->(IV w x y z qs rs ps wy)->(((w=nW/\bR (aH qs) (aH rs) wy ps=true/\∀(s t:Int) (H':Hp),Wb s t->D7 qs rs ps s t->Same H H'->Q (.str (xx++aW s t)) H') \/
   (w=jT/\bh (aH qs) (aH rs) wy ps=true/\∀(s t:Int) (H':Hp),Wb s t->Bf qs rs (FS wy ps) s t->Same H H'->Q (.str (xv++aW s t)) H')))->HL vs H Q x_3
theorem tI{wy:Str}(h:wy∈fE):eB wy:=by
 unfold fE at h;simp only[List.mem_cons,List.not_mem_nil,or_false]at h;exact h
theorem tJ{wy:Str}(h:eB wy):wy∈fE:=by
 unfold fE;simp only[List.mem_cons,List.not_mem_nil,or_false];exact h
theorem uQ{qs qs':Crn}(e:qs.map (·.2)=qs'.map (·.2)):qs.length=qs'.length:=by
 have:=congrArg List.length e;rw[List.length_map,List.length_map]at this;exact this
theorem xD{s w:Int}{H:Hp}{p:Addr}(lo:Bg s w)(f:Dd H p s w 2103):Wr s w/\(aW s w).length<=2010:=by
 have h:∀{x:Int},au x<=2103->x.natAbs<10^1000:=λhx=>Nat.lt_of_lt_of_le (cU hx) (Nat.le_trans (m:=10^640) (by decide +kernel) (Nat.pow_le_pow_right (by decide) (by decide)));exact⟨⟨lo,h f.ba,h f.bb⟩,gC (h f.ba) (h f.bb)⟩
theorem xG{s w:Int}(h:Wr s w):(aW s w).length<=2010:=gC h.top h.bot
theorem oh{a y:Str}:Txt.slice (a++y) (some (a.length:Int)) none=y:=by
 apply PyProof.Rows.ext_toList;rw[PyProof.Rows.slice_from_eq (x:=a++y) (i:=(a.length:Int)) (b:=((a++y).length:Int)) (by omega) (by rw[Str.length_append];omega) rfl,cp];have h1:a.cps.toList.length=a.length:=(cD a).symm;have h2:y.cps.toList.length=y.length:=(cD y).symm;rw[Int.toNat_natCast,<- h1,List.drop_left,List.take_of_length_le (by rw[Str.length_append];omega)]
inductive Fe (vs:List V) (H:Hp) (Q:VK) (x_3:XK):Prop
 | mk:∀(a:Str) (s t:Int),(vs = [.str (a++aW s t),.str a])->(a.length<=20)->(Wr s t)->(∀(r:Addr) (H':Hp),H' r=some (.tup [.int s,.int t])->Same H H'->Q (.ref r) H')->Fe vs H Q x_3
theorem BO:Ah ["one","other","paper","first","second","read","way","pairs","bound"] ["one","other","paper"] (ag (top 93)):=smk
theorem tp{CT CF CW:Addr}(HY:Df K mg "judged" (top 93))(DG:Dig K)(AW:Fx P w K mg base "read_line" ["text"] 5 [] (Ej CT))(A6:Fx P w K mg base "read_paper" ["text"] 5 [] (Ds CT))(As:Fn P w K mg base "show_ratio" ["a"] 1 Ep)(AT:Fx P w K mg base "fence_square" ["one","other","fence","way"] 10 [.str "on"] (He CF))(Ba:Fx P w K mg base "walk_square" ["one","other","walk","way"] 8 [.str "on"] (GY CW))(T:Txt mg):Fn P w K mg base "judged" ["one","other","paper"] 11 HL:=by
 refine HY.fn BO (λ_ _ _ _ _ _ us hl=>by obtain⟨_,_,_,rfl⟩:=je hl;rfl) (λvs H Q E h=>?_) (λf cdv A outer s H vs Q E hr h=>?_)
 ·obtain⟨w,x,y,z,qs,rs,ps,wy,rfl,_⟩:=h
  rfl
 ·obtain⟨w,x,y,z,qs,rs,ps,wy,rfl,gt,h⟩:=h
  refine⟨_,(af (aq (i:=3) BO.nd rfl (Or.inl rfl) (bZ AW (hr.mono (by decide)) (by rfl) (aa (pv 0) ae))) (af (aq (i:=4) BO.nd rfl (Or.inl rfl) (bZ AW (hr.mono (by decide)) (by rfl) (aa (pv 1) ae))) (af (aq (i:=5) BO.nd rfl (Or.inl rfl) (bZ A6 (hr.mono (by decide)) (by rfl) (aa (pv 2) ae))) (af (aq (i:=6) BO.nd rfl (Or.inl rfl) (aj am (pv 5) ac (λ_ _=>rfl))) (af (aq (i:=7) BO.nd rfl (Or.inl rfl) (aj am (pv 5) ac (λ_ _=>rfl))) (af (aC (ap aQ (aj am (pv 5) ac (λ_ _=>rfl)) aE (ar _)) (af (aq (i:=8) BO.nd rfl (Or.inl rfl) (ao As (hr.mono (by decide)) (by rfl) (aa (bZ AT (hr.mono (by decide)) (by rfl) (aa (pv 3) (aa (pv 4) (aa (pv 7) (aa (pv 6) ae))))) ae))) (ah (ak (ot aE (fZ (K:=K) rfl DG rfl (pv 8)))))) av) (af (aq (i:=8) BO.nd rfl (Or.inl rfl) (ao As (hr.mono (by decide)) (by rfl) (aa (bZ Ba (hr.mono (by decide)) (by rfl) (aa (pv 3) (aa (pv 4) (aa (pv 7) (aa (pv 6) ae))))) ae))) (ah (ak (ot aE (fZ (K:=K) rfl DG rfl (pv 8)))))))))))),?_⟩;refine⟨_,rfl,_,rfl,gt.zx,.inl ⟨_,gt.ex,gt.ok1,λl1 r1 H1 s1 L1 m1=>?_⟩⟩;refine⟨_,rfl,_,rfl,gt.zy,.inl ⟨_,gt.ey,gt.ok2,λl2 r2 H2 s2 L2 m2=>?_⟩⟩;refine⟨_,rfl,_,rfl,gt.zz,.inl ⟨_,_,_,gt.ez,gt.ok3,λt H3 s3 Pt=>?_⟩⟩;obtain⟨l3,qt,et,Lt,ert⟩:=Pt;obtain⟨ps',PP,ep⟩:=sC Lt ert gt.nm;have hpl:ps'.length<=200:=by
   have h1:=congrArg List.length ep;have h2:=gt.ok3.most;rw[List.length_map,List.length_map]at h1;rw[List.length_map]at h2;omega
  have k1:=uQ m1;have k2:=uQ m2;have o1:=gt.ok1;have o2:=gt.ok2;have a1:=o1.1;have a2:=o1.2.1;have b1:=o2.1;have b2:=o2.2.1;rw[List.length_map]at a1 a2 b1 b2;refine⟨_,rfl,t,_,_,_,rfl,rfl,SqT.of et,rfl,?_⟩;refine⟨_,rfl,t,_,_,_,rfl,rfl,SqT.of et,rfl,?_⟩;rcases h with⟨rfl,hb,kQ⟩|⟨rfl,hb,kQ⟩
  ·have ew:bR (aH r1) (aH r2) wy ps'=true:=by rw[mM m1,mM m2,sj ep];exact hb
   refine⟨_,rfl,t,_,_,_,rfl,rfl,SqT.of et,rfl,rfl,_,rfl,bC (by decide) ?_⟩;refine⟨_,rfl,_,rfl,_,rfl,_,rfl,l1,l2,l3,r1,r2,ps',wy,rfl,⟨(L1.mono (s2.trans s3)).la,by omega,by omega⟩,⟨(L2.mono s3).la,by omega,by omega⟩,PP,by omega,tI gt.ok3.way,(λz=>absurd z (by rw[ew];decide)),λ_ r s' w' H4 fr mx s4=>?_⟩;obtain⟨wr,hz⟩:=xD mx.low fr;have hle:(Str.ofString "long enough ").length=12:=rfl;refine⟨r,s',w',rfl,fr.at_,wr.dg,?_⟩;exact⟨_,rfl,bj (by omega),_,rfl,.inr ⟨_,rfl,bj (by omega),_,rfl,bj (by omega),kQ s' w' H4 ⟨wr,fr.ba,fr.bb⟩ (yk m1 m2 ep mx) (s1.trans (s2.trans (s3.trans s4)))⟩⟩
  ·have ew:bh (aH r1) (aH r2) wy ps'=true:=by rw[mM m1,mM m2,qI ep];exact hb
   refine⟨_,rfl,t,_,_,_,rfl,rfl,SqT.of et,rfl,rfl,_,rfl,gK (by decide) ?_⟩;refine⟨_,rfl,_,rfl,_,rfl,_,rfl,l1,l2,l3,r1,r2,ps',wy,rfl,⟨(L1.mono (s2.trans s3)).la,by omega,by omega⟩,⟨(L2.mono s3).la,by omega,by omega⟩,PP,by omega,tI gt.ok3.way,(λz=>absurd z (by rw[ew];decide)),λ_ r s' w' H4 fr mx s4=>?_⟩;obtain⟨wr,hz⟩:=xD mx.low fr;have hle:(Str.ofString "no shorter than ").length=16:=rfl;refine⟨r,s',w',rfl,fr.at_,wr.dg,?_⟩;exact⟨_,rfl,bj (by omega),_,rfl,.inr ⟨_,rfl,bj (by omega),_,rfl,bj (by omega),kQ s' w' H4 ⟨wr,fr.ba,fr.bb⟩ (yj m1 m2 ep mx) (s1.trans (s2.trans (s3.trans s4)))⟩⟩
theorem D9:Ah ["text","head"] ["text","head"] (ag (top 120)):=smk
theorem jj{CT:Addr}(Ee:Df K mg "_law_number_in" (top 120))(A5:Fx P w K mg base "read_ratio" ["text"] 3 [] (Dq CT))(T:Txt mg):Fn P w K mg base "_law_number_in" ["text","head"] 5 Fe:=by
 refine Ee.fn D9 (λ_ _ _ _ _ _ us hl=>by obtain⟨_,_,rfl⟩:=cj hl;rfl) (λvs H Q E h=>?_) (λf cdv A outer s H vs Q E hr h=>?_)
 ·obtain⟨a,s,t,rfl,_⟩:=h
  rfl
 ·obtain⟨a,s,t,rfl,ha,wr,q⟩:=h
  refine⟨_,(af (aC (cb (bA (aO (az bY (by rfl) T.z_isinstance bo (aa (pv 0) (aa (ix T.z_str nF) ae))))) (bQ (bA (aO (dU PySem.F.plainAttrs_str PySem.F.slot_str_startswith PySem.F.type_str_startswith gZ (pv 0) (aa (pv 1) ae)))))).pt (ah (ak qg)) av) (ah (ak (bZ A5 (hr.mono (by decide)) (by rfl) (aa (dQ qT (pv 0) (fh (az iV (by rfl) T.z_len ci (aa (pv 1) ae))) fj) ae))))),?_⟩;have hz:=xG wr;refine⟨_,rfl,_,"str","str",rfl,.str _,nice_str,_,rfl,bC (by decide) ?_⟩;refine⟨_,rfl,rfl,_,rfl,_,_,rfl,rfl,?_⟩;refine⟨_,rfl,?_⟩;rw[W.KT.starts_app];refine bC (by decide) ?_;have hl:(a++aW s t).length=a.length+(aW s t).length:=Str.length_append _ _;refine⟨_,rfl,_,rfl,a,rfl,bj (by omega),?_⟩;refine⟨_,rfl,_,rfl,by rw[oh];exact bj (by omega),?_⟩;rw[oh];exact⟨_,rfl,by omega,.inl ⟨s,t,rfl,wr,λr H1 s1 e1 n1=>q r H1 e1 s1⟩⟩
theorem uP{H:Hp}{l:Addr}{qs:Crn}(L:LineM H l qs):Rp H 9 (.ref l) (.lst (qs.map λq=>.tup [.int q.2.1,.int q.2.2])):=.lst L.lst (by simp) λj x d a b=>by
 rw[List.getElem?_map]at a b;obtain⟨q,hq,rfl⟩:=Option.map_eq_some_iff.mp a;rw[hq]at b;cases b;exact Rp.t2 (L.crn q (List.mem_of_getElem? hq)).1 .int .int
noncomputable def d4(r:R4):D:=.tup [.tup [.int r.1.1,.int r.1.2],.tup [.int r.2.1,.int r.2.2]]
theorem x5{H:Hp}{l:Addr}{qs:List (V×R4)}{rs:List R4}(L:Ig H l qs)(e:qs.map (·.2)=rs):Rp H 8 (.ref l) (.lst (rs.map d4)):=by
 subst e;rw[List.map_map];refine .lst L.lst (by simp) λj x d a b=>?_;rw[List.getElem?_map]at a b;obtain⟨q,hq,rfl⟩:=Option.map_eq_some_iff.mp a;rw[hq]at b;cases b;obtain⟨p,p1,p2,e0,e1,e2,e3⟩:=L.prs q (List.mem_of_getElem? hq);rw[e0];exact Rp.t2 e1 (Rp.t2 e2 .int .int) (Rp.t2 e3 .int .int)
noncomputable def zH(w y:Str)(rs:List R4):D:=.tup [.str w,.str y,.lst (rs.map d4)]
theorem qk{H:Hp}{p:Addr}{w y:Str}{rs:List R4}(h:Pap H p w y rs):Rp H 9 (.ref p) (zH w y rs):=by
 obtain⟨l,qs,e,L,e2⟩:=h;exact Rp.t3 e .str .str (x5 L e2)
theorem qi{w y:Str}{rs:List R4}(h:∀r∈rs,(aU r).length<=167)(hl:rs.length<=101)(hw:w.length<=5/\y.length<=5):(cS w y rs).length<=17000:=by
 have h1:=StrLaws.join_length_le ⟨#[32]⟩ (w::y::rs.map aU);have h2:=StrLaws.sumLen_le (B:=167) (rs.map aU) λy hy=>by
  obtain⟨c,hc,rfl⟩:=List.mem_map.mp hy;exact h c hc
 have h3:(⟨#[32]⟩:Str).length=1:=rfl;have h4:(w::y::rs.map aU).length<=103:=by simp;omega
 rw[List.length_map]at h2;rw[h3]at h1;simp only[List.map_cons,List.sum_cons]at h1;unfold cS;omega
theorem Hy.len{q:Pr}(h:Hy q):(aU (aY q)).length<=167:=by
 have l1:=ip h.ba h.bb;have l2:=ip h.bc h.bd;have l3:fG.length=1:=rfl;unfold aU aY;rw[Str.length_append,Str.length_append];dsimp only;omega
theorem yO:∀w∈fE,w.length<=5:=by decide +kernel
theorem oK{H:Hp}{l:Addr}{qs:Crn}(L:LineM H l qs)(h1:1<=qs.length)(h2:qs.length<=10):OkL (qs.map (·.2)):=⟨by rw[List.length_map];exact h1,by rw[List.length_map];exact h2,λc hc=>by
 obtain⟨q,hq,rfl⟩:=List.mem_map.mp hc;exact(L.crn q hq).2⟩
theorem sI{H H':Hp}{p l:Addr}{ps:List Pr}{k:Int}(P:Am H l ps)(b:But p H H')(pt:Pot H p k)(n:l≠p):Am H' l ps:=⟨b _ _ n P.lst,λq hq=>(P.pr q hq).t (b.t pt)⟩
theorem qV{H:Hp}{l:Addr}{rs:Crn}{cs:List (Int×Int)}(L:LineM H l rs)(e:rs.map (·.2)=cs):Rp H 9 (.ref l) (.lst (cs.map λc=>.tup [.int c.1,.int c.2])):=by
 have:=uP L;subst e;rw[List.map_map];exact this
inductive HH (vs:List V) (H:Hp) (Q:VK) (x_3:XK):Prop
 | mk:∀(l1 l2 l lf:Addr) (qs rs:Crn) (ps fs:List Pr) (wy:Str),(vs = [.ref l1,.ref l2,.ref l,.ref lf,.str wy])->((LineM H l1 qs/\1<=qs.length/\qs.length<=10))->((LineM H l2 rs/\1<=rs.length/\rs.length<=10))->((Am H l ps/\1<=ps.length/\ps.length<=100))->((Am H lf fs/\1<=fs.length/\fs.length<=100))->(eB wy)->(bR (aH qs) (aH rs) wy ps=true)->(bh (aH qs) (aH rs) wy fs=true)->(∀H',Same H H'->Q (.bl true) H')->HH vs H Q x_3
theorem ut{w wy:Str}{ps:List Pr}(h:w∈dr)(hw:eB wy)(n1:1<=ps.length)(n2:ps.length<=100)(nm:∀q∈ps,Hy q):Ii w wy (ps.map aY)/\(w.length<=5/\wy.length<=5)/\(cS w wy (ps.map aY)).length<=17000:=by
 have w5:w.length<=5/\wy.length<=5:=⟨(show ∀w∈dr,w.length<=5 by decide +kernel) w h,yO _ (tJ hw)⟩;refine⟨⟨h,tJ hw,by rw[List.length_map];omega,by rw[List.length_map];omega,λr hr=>?_⟩,w5,qi (λr hr=>?_) (by rw[List.length_map];omega) w5⟩
 ·obtain⟨q,hq,rfl⟩:=List.mem_map.mp hr
  exact(nm q hq).ok4.1
 ·obtain⟨q,hq,rfl⟩:=List.mem_map.mp hr
  exact(nm q hq).len
theorem ox{H:Hp}{p l:Addr}{w y:Str}{ps:List Pr}(e:H p=some (.tup [.str w,.str y,.ref l]))(P:Am H l ps):Rp H 9 (.ref p) (zH w y (ps.map aY)):=qk ⟨l,asV ps,e,i9 P,nO ps⟩
theorem vN{ps:List Pr}(nm:∀q∈ps,Hy q):∀q∈asV ps,Ok4 q.2:=λq hq=>by
 obtain⟨z,hz,rfl⟩:=List.mem_map.mp hq;exact(nm z hz).ok4
theorem Be:Ah ["one","other","walk","fence","way","first","second","above","below","most","least"] ["one","other","walk","fence","way"] (ag (top 121)):=smk
theorem m5{CT CF CW:Addr}(Gc:Df K mg "_law_right" (top 121))(BZ:Fn P w K mg base "show_line" ["line"] 2 HF)(AW:Fx P w K mg base "read_line" ["text"] 5 [] (Ej CT))(BT:Fn P w K mg base "show_paper" ["word","way","pairs"] 3 Gq)(A6:Fx P w K mg base "read_paper" ["text"] 5 [] (Ds CT))(Dy:Fn P w K mg base "judged" ["one","other","paper"] 11 HL)(Bq:Fn P w K mg base "_law_number_in" ["text","head"] 5 Fe)(Al:Fn P w K mg base "_law_below" ["one","other"] 1 Fh)(Ba:Fx P w K mg base "walk_square" ["one","other","walk","way"] 8 [.str "on"] (GY CW))(AT:Fx P w K mg base "fence_square" ["one","other","fence","way"] 10 [.str "on"] (He CF)):Fn P w K mg base "_law_right" ["one","other","walk","fence","way"] 12 HH:=by
 refine Gc.fn Be (λ_ _ _ _ _ _ us hl=>by obtain⟨_,_,_,_,_,rfl⟩:=wA hl;rfl) (λvs H Q E h=>?_) (λf cdv A outer s H vs Q E hr h=>?_)
 ·obtain⟨l1,l2,l,lf,qs,rs,ps,fs,wy,rfl,_⟩:=h
  rfl
 ·obtain⟨l1,l2,l,lf,qs,rs,ps,fs,wy,rfl,⟨L1,h1,h10⟩,⟨L2,g1,g10⟩,⟨PP,n1,n2⟩,⟨PF,m1,m2⟩,hw,wb,fb,q⟩:=h
  refine⟨_,(af (aq (i:=5) Be.nd rfl (Or.inl rfl) (ao BZ (hr.mono (by decide)) (by rfl) (aa (pv 0) ae))) (af (aq (i:=6) Be.nd rfl (Or.inl rfl) (ao BZ (hr.mono (by decide)) (by rfl) (aa (pv 1) ae))) (af (aC (cb (ap (mJ hr.units10) (bZ AW (hr.mono (by decide)) (by rfl) (aa (pv 5) ae)) (pv 0) (ar _)) (bQ (ap (mJ hr.units10) (bZ AW (hr.mono (by decide)) (by rfl) (aa (pv 6) ae)) (pv 1) (ar _)))).pt (ah (ak cV)) av) (af (aq (i:=7) Be.nd rfl (Or.inl rfl) (ao BT (hr.mono (by decide)) (by rfl) (aa aE (aa (pv 4) (aa (pv 2) ae))))) (af (aq (i:=8) Be.nd rfl (Or.inl rfl) (ao BT (hr.mono (by decide)) (by rfl) (aa aE (aa (pv 4) (aa (pv 3) ae))))) (af (aC (cb (ap (mJ hr.units10) (bZ A6 (hr.mono (by decide)) (by rfl) (aa (pv 7) ae)) (aA (aa aE (aa (pv 4) (aa (pv 2) ae)))) (ar _)) (bQ (ap (mJ hr.units10) (bZ A6 (hr.mono (by decide)) (by rfl) (aa (pv 8) ae)) (aA (aa aE (aa (pv 4) (aa (pv 3) ae)))) (ar _)))).pt (ah (ak cV)) av) (af (aq (i:=9) Be.nd rfl (Or.inl rfl) (ao Bq (hr.mono (by decide)) (by rfl) (aa (ao Dy (hr.mono (by decide)) (by rfl) (aa (pv 5) (aa (pv 6) (aa (pv 7) ae)))) (aa aE ae)))) (af (aq (i:=10) Be.nd rfl (Or.inl rfl) (ao Bq (hr.mono (by decide)) (by rfl) (aa (ao Dy (hr.mono (by decide)) (by rfl) (aa (pv 5) (aa (pv 6) (aa (pv 8) ae)))) (aa aE ae)))) (af (aC (cb (ap ur (pv 9) qg (ar _)) (cb (ap ur (pv 10) qg (ar _)) (bQ (aO (ao Al (hr.mono (by decide)) (by rfl) (aa (pv 9) (aa (pv 10) ae))))))).pt (ah (ak cV)) av) (ah (ak (bO (aR (qo hr.units10) (pv 9) (bZ Ba (hr.mono (by decide)) (by rfl) (aa (pv 0) (aa (pv 1) (aa (pv 2) (aa (pv 4) ae))))) (ar _)) (bD (aR (qo hr.units10) (pv 10) (bZ AT (hr.mono (by decide)) (by rfl) (aa (pv 0) (aa (pv 1) (aa (pv 3) (aa (pv 4) ae))))) (ar _))))))))))))))),?_⟩;have ok1:=oK L1 h1 h10;have ok2:=oK L2 g1 g10;have np:∀q∈ps,Hy q:=λq hq=>(PP.pr q hq).n;have nf:∀q∈fs,Hy q:=λq hq=>(PF.pr q hq).n;have gp:∀q∈ps,Gd q:=λq hq=>xC (PP.pr q hq);have gf:∀q∈fs,Gd q:=λq hq=>xC (PF.pr q hq);obtain⟨okw,w5,zw⟩:=ut vR hw n1 n2 np;obtain⟨okf,f5,zf⟩:=ut vj hw m1 m2 nf;have zx:(dW (qs.map (·.2))).length<=280:=by
   have:=oI ok1.2.2;rw[List.length_map]at this;omega
  have zy:(dW (rs.map (·.2))).length<=280:=by
   have:=oI ok2.2.2;rw[List.length_map]at this;omega
  refine⟨_,rfl,l1,qs,rfl,L1,by omega,λH1 s1=>?_⟩;refine⟨_,rfl,l2,rs,rfl,L2.mono s1,by omega,λH2 s2=>?_⟩;have S2:=s1.trans s2;refine⟨_,rfl,_,rfl,by omega,.inl ⟨_,rfl,ok1,λa3 r3 H3 s3 L3 e3=>?_⟩⟩;have z3:=qV L3 e3;have z1:=qV ((L1.mono S2).mono s3) rfl;refine⟨_,rfl,_,_,z3,z1,_,rfl,bC (by rw[d5];rfl) ?_⟩;have S3:=S2.trans s3;refine⟨_,rfl,_,rfl,by omega,.inl ⟨_,rfl,ok2,λa4 r4 H4 s4 L4 e4=>?_⟩⟩;have S4:=S3.trans s4;refine⟨_,rfl,_,_,qV L4 e4,qV (L2.mono S4) rfl,_,rfl,bC (by rw[d5];rfl) ?_⟩;refine⟨_,rfl,_,rfl,nW,wy,l,asV ps,rfl,i9 (PP.mono S4),by unfold asV;rw[List.length_map];omega,vN np,w5,λH5 s5=>?_⟩;rw[nO];have S5:=S4.trans s5;refine⟨_,rfl,_,rfl,jT,wy,lf,asV fs,rfl,i9 (PF.mono S5),by unfold asV;rw[List.length_map];omega,vN nf,f5,λH6 s6=>?_⟩;rw[nO];have S6:=S5.trans s6;refine⟨_,rfl,_,rfl,by omega,.inl ⟨_,_,_,rfl,okw,λt7 H7 s7 P7=>?_⟩⟩;refine⟨_,rfl,_,rfl,sz (by simp),λt8 H8 s8 f8 n8=>?_⟩;have S8:=(S6.trans s7).trans s8;refine⟨_,_,qk (P7.mono s8),ox (w:=nW) f8 (PP.mono S8),_,rfl,bC (by rw[d5];rfl) ?_⟩;refine⟨_,rfl,_,rfl,by omega,.inl ⟨_,_,_,rfl,okf,λt9 H9 s9 P9=>?_⟩⟩;refine⟨_,rfl,_,rfl,sz (by simp),λt10 H10 s10 f10 n10=>?_⟩;have S10:=(S8.trans s9).trans s10;refine⟨_,_,qk (P9.mono s10),ox (w:=jT) f10 (PF.mono S10),_,rfl,bC (by rw[d5];rfl) ?_⟩;refine⟨_,rfl,_,rfl,_,rfl,nW,_,_,_,qs,rs,ps,wy,rfl,⟨rfl,rfl,rfl,ok1,ok2,okw,np,by omega,by omega,by omega⟩,.inl ⟨rfl,wb,λs t H11 ⟨wr,hs,ht⟩ mx s11=>?_⟩⟩;refine⟨xx,s,t,rfl,by decide,wr,λr12 H12 e12 s12=>?_⟩;refine⟨_,rfl,_,rfl,_,rfl,jT,_,_,_,qs,rs,fs,wy,rfl,⟨rfl,rfl,rfl,ok1,ok2,okf,nf,by omega,by omega,by omega⟩,.inr ⟨rfl,fb,λs' t' H13 ⟨wr',hs',ht'⟩ mn s13=>?_⟩⟩;refine⟨xv,s',t',rfl,by decide,wr',λr14 H14 e14 s14=>?_⟩;have S14:=S10.trans (s11.trans (s12.trans (s13.trans s14)));have e12':=s14 _ _ (s13 _ _ e12);refine⟨_,rfl,rfl,_,rfl,bC (by simp) ?_⟩;refine⟨_,rfl,rfl,_,rfl,bC (by simp) ?_⟩;refine⟨_,rfl,_,rfl,r12,r14,_,_,_,_,rfl,e12',e14,⟨ai hs (by decide),ai ht (by decide),ai hs' (by decide),ai ht' (by decide)⟩,_,rfl,?_⟩;rw[decide_eq_false (uz h1 g1 gp gf wb fb mx mn)];refine bC (by decide) ?_;refine⟨_,rfl,_,rfl,_,rfl,_,rfl,_,rfl,l1,l2,l,qs,rs,ps,wy,rfl,⟨(L1.mono S14).la,h1,by omega⟩,⟨(L2.mono S14).la,g1,by omega⟩,PP.mono S14,by omega,hw,(λz=>absurd z (by rw[wb];decide)),λ_ r15 u v H15 f15 m15 s15=>?_⟩;obtain⟨i1,i2⟩:=mx.uniq (λq hq=>⟨(np q hq).lx.pos,(np q hq).ly.pos⟩) m15;subst i1 i2;refine⟨_,_,my (s15 _ _ e12'),my f15.at_,?_⟩;refine⟨_,rfl,gK (by rw[d5];rfl) ?_⟩;have S15:=S14.trans s15;refine⟨_,rfl,_,rfl,_,rfl,_,rfl,_,rfl,l1,l2,lf,qs,rs,fs,wy,rfl,⟨(L1.mono S15).la,h1,by omega⟩,⟨(L2.mono S15).la,g1,by omega⟩,PF.mono S15,by omega,hw,(λz=>absurd z (by rw[fb];decide)),λ_ r16 u v H16 f16 m16 s16=>?_⟩;obtain⟨i1,i2⟩:=mn.uniq m16;subst i1 i2;refine⟨_,_,my (s16 _ _ (s15 _ _ e14)),my f16.at_,?_⟩;rw[show(if false=true then !deq (D.tup [D.int s',D.int t']) (D.tup [D.int s',D.int t']) else deq (D.tup [D.int s',D.int t']) (D.tup [D.int s',D.int t']))=true by rw[d5];rfl]
  exact q H16 (S15.trans s16)
theorem D6:Ah ["script","one","other","cell","pot","way","walk","fence"] ["script"] (ag (top 122)):=smk
theorem yv(IW:Df K mg "law" (top 122))(C1:Fn P w K mg base "_law_lines" ["script"] 5 (Fi K))(CB:Fn P w K mg base "_law_folded" ["cells","many"] 1 Ev)(Bl:Fn P w K mg base "_law_begun" ["cell"] 1 Dr.spBegun)(BR:Fn P w K mg base "_law_drawn_way" ["pot"] 2 GB)(BG:Fn P w K mg base "_law_drawn_walk" ["pot","n","m","way"] 5 Fm)(BD:Fn P w K mg base "_law_drawn_fence" ["pot","n","m","way"] 6 Ey)(CZ:Fn P w K mg base "_law_right" ["one","other","walk","fence","way"] 12 HH)(T:Txt mg):Fn P w K mg base "law" ["script"] 13 (oa K):=by
 refine IW.fn D6 (λ_ _ _ _ _ _ us hl=>by obtain⟨_,rfl⟩:=dk hl;rfl) (λvs H Q E h=>?_) (λf cdv A outer s H vs Q E hr h=>?_)
 ·obtain⟨sa,ss,rfl,_⟩:=h
  rfl
 ·obtain⟨sa,ss,rfl,hS,hlen,fin⟩:=h
  refine⟨_,(af (hZ (ao C1 (hr.mono (by decide)) (by rfl) (aa (pv 0) ae)) (fY rfl (bG (aZ (i:=1) D6.nd rfl (Or.inl rfl)) (bG (aZ (i:=2) D6.nd rfl (Or.inl rfl)) eg)))) (af (fg PassesOwn.never rfl (cw (ao CB (hr.mono (by decide)) (by rfl) (aa (dQ fU (pv 0) (fh ac) fj) (aa ac ae)))) (aZ (i:=3) D6.nd rfl (Or.inl rfl)) (af (aq (i:=4) D6.nd rfl (Or.inl rfl) (ao Bl (hr.mono (by decide)) (by rfl) (aa (pv 3) ae))) (af (aq (i:=5) D6.nd rfl (Or.inl rfl) (ao BR (hr.mono (by decide)) (by rfl) (aa (pv 4) ae))) (af (aq (i:=6) D6.nd rfl (Or.inl rfl) (ao BG (hr.mono (by decide)) (by rfl) (aa (pv 4) (aa (aw bE (az aI (by rfl) T.z_len ci (aa (pv 1) ae)) ac) (aa (aw bE (az aI (by rfl) T.z_len ci (aa (pv 2) ae)) ac) (aa (pv 5) ae)))))) (af (aq (i:=7) D6.nd rfl (Or.inl rfl) (ao BD (hr.mono (by decide)) (by rfl) (aa (pv 4) (aa (aw bE (az aI (by rfl) T.z_len ci (aa (pv 1) ae)) ac) (aa (aw bE (az aI (by rfl) T.z_len ci (aa (pv 2) ae)) ac) (aa (pv 5) ae)))))) (ah (aC (bA (aO (ao CZ (hr.mono (by decide)) (by rfl) (aa (pv 1) (aa (pv 2) (aa (pv 6) (aa (pv 7) (aa (pv 5) ae)))))))) (ah (ak cV)) av))))))) (ah (ak cV)))),?_⟩;refine⟨_,rfl,sa,ss,rfl,hS,λt l r qs rs H1 s1 et L1 ⟨h1,h10⟩ R1 ⟨g1,g10⟩ _ _ _=>?_⟩;have hql:(qs.map λ(q:Addr×Int×Int)=>V.ref q.1).length=qs.length:=List.length_map _;have hrl:(rs.map λ(q:Addr×Int×Int)=>V.ref q.1).length=rs.length:=List.length_map _;refine⟨t,_,rfl,SqT.of et,rfl,_,_,rfl,_,_,rfl,rfl,?_⟩;have eL:aH qs=(((qs.map λ(q:Addr×Int×Int)=>V.ref q.1).length:Nat):Int) - 1:=by rw[hql];rfl
  have eR:aH rs=(((rs.map λ(q:Addr×Int×Int)=>V.ref q.1).length:Nat):Int) - 1:=by rw[hrl];rfl
  refine⟨_,rfl,_,rfl,sa,_,rfl,s1.seq hS,λc H2 s2 f2 n2=>?_⟩;rw[show(2:Int)=((2:Nat):Int) from rfl,vw]at f2;refine⟨c,_,rfl,f2,by rw[List.length_drop];omega,λfo zs H3 e3 s3=>?_⟩;have L3:=(L1.mono s2).mono s3;have R3:=(R1.mono s2).mono s3;refine⟨fo,rfl,⟨_,SqL.of e3⟩,vb (K:=K) (a:=fo) (xs:=zs.map V.int) (λi σ H4=>∃z3 z4 z5 z6 z7,σ = [some (.ref sa),some (.ref l),some (.ref r),z3,z4,z5,z6,z7]/\Same H3 H4)
   ⟨none,none,none,none,none,rfl,Same.refl _⟩ (λi σ H4 _ ⟨_,_,_,_,_,_,s4⟩=>SqL.of (s4 _ _ e3)) ?_ ?_⟩
  ·rintro i x σ H4 hx ⟨z3,z4,z5,z6,z7,rfl,s4⟩
   rw[List.getElem?_map]at hx;obtain⟨cc,_,rfl⟩:=Option.map_eq_some_iff.mp hx;have L4:=L3.mono s4;have R4:=R3.mono s4;refine⟨_,rfl,cc,rfl,λp H5 s5 n5 p5=>?_⟩;refine⟨_,rfl,p,_,rfl,p5,by decide,λwy H6 hw b6 p6=>?_⟩;refine⟨_,rfl,_,rfl,l,_,rfl,.inl (SqL.of (L4.mono (b6.same s5 n5)).lst),_,_,rfl,rfl,_,rfl,r,_,rfl,.inl (SqL.of (R4.mono (b6.same s5 n5)).lst),_,_,rfl,rfl,_,rfl,p,_,_,_,wy,rfl,p6,by omega,⟨by omega,by omega⟩,⟨by omega,by omega⟩,λl7 ps H7 P7 g7 h7 n7 b7 p7=>?_⟩;have m7:l7≠p:=Pot.ne p6 n7;have B7:=b6.trans b7;refine⟨_,rfl,_,rfl,l,_,rfl,.inl (SqL.of (L4.mono (B7.same s5 n5)).lst),_,_,rfl,rfl,_,rfl,r,_,rfl,.inl (SqL.of (R4.mono (B7.same s5 n5)).lst),_,_,rfl,rfl,_,rfl,p,_,_,_,wy,rfl,p7,by omega,⟨by omega,by omega⟩,⟨by omega,by omega⟩,λl8 fs H8 P8 g8 h8 n8 b8 p8=>?_⟩;have B8:=B7.trans b8;have Q8:=sI P7 b8 p7 m7;have L8:=L4.mono (B8.same s5 n5);have R8:=R4.mono (B8.same s5 n5);have c1:1<=ps.length:=by
    cases ps with
    | nil=>exact absurd g7.walk (by simp[bR])
    | cons a b=>simp
   have c2:1<=fs.length:=by
    cases fs with
    | nil=>exact absurd g8.fence (by simp[bh])
    | cons a b=>simp
   refine⟨_,rfl,_,rfl,_,rfl,_,rfl,_,rfl,l,r,l7,l8,qs,rs,ps,fs,wy,rfl,⟨L8,h1,h10⟩,⟨R8,g1,g10⟩,⟨Q8,c1,by omega⟩,⟨P8,c2,by omega⟩,hw,by rw[eL,eR];exact g7.walk,by rw[eL,eR];exact g8.fence,λH9 s9=>⟨_,rfl,bC (by decide) ?_⟩⟩;exact⟨_,_,_,_,_,rfl,s4.trans ((B8.trans (But.of s9)).same s5 n5)⟩
  ·rintro σ H4 ⟨z3,z4,z5,z6,z7,rfl,s4⟩
   exact fin _
end
theorem hLeft:W.LeftO Challenge.rw_oneleash_k61_whole_written_walks_and_fen.prog hView hLoose (λ_=>true) (W.Hook.obs (Hd.hook hFacts hGood)) (W.Hook.val (Hd.hook hFacts hGood)) 100000:=Ab
theorem all_of{P:Program}{w:World}{K:W.Frag}(FK:hFacts K=hGood){h:Heap}{mg:Str->Option Value}{fa:Addr}(X:K.In h)(G:h.Ns mainGlobals mg)(hfa:mg "law" = some (.ref fa)) :
  ∃fd:FuncData,(∀(s:Shared) (v:Value),BindsTo s fd ⟨[v],[]⟩ [("script",v)])/\∀base:Heap,K.In base->base.Ns mainGlobals mg->Dw P w K mg base CX0 13 fa fd ["script"] (oa K):=by
 have H0:(iJ.map (λp=>Hd.fnFact K p.1):List (Option (Arguments×List Stmt×Scope×Value)))=iJ.map (λp=>some (aS (top p.2),ax (top p.2),ag (top p.2),.none)):=congrArg Prod.fst FK;have dH0:∀i {n:Str} {t:Nat},iJ[i]? = some (n,t)->Df K mg n (top t):=λi _ _ e=>Hd.df_of X G (Hd.at_map H0 i e);have q_1:=congrArg Prod.snd FK;have H1:(iI.map (λp=>Hd.fnFact K p.1):List (Option (Arguments×List Stmt×Scope×Value)))=iI.map (λp=>some (aS (top p.2),ax (top p.2),ag (top p.2),.none)):=congrArg Prod.fst q_1;have dH1:∀i {n:Str} {t:Nat},iI[i]? = some (n,t)->Df K mg n (top t):=λi _ _ e=>Hd.df_of X G (Hd.at_map H1 i e);have q_2:=congrArg Prod.snd q_1;have H2:(iH.map (λp=>Hd.fnFact K p.1):List (Option (Arguments×List Stmt×Scope×Value)))=iH.map (λp=>some (aS (top p.2),ax (top p.2),ag (top p.2),.none)):=congrArg Prod.fst q_2;have dH2:∀i {n:Str} {t:Nat},iH[i]? = some (n,t)->Df K mg n (top t):=λi _ _ e=>Hd.df_of X G (Hd.at_map H2 i e);have q_3:=congrArg Prod.snd q_2;have H3:(iG.map (λp=>Hd.fnFact K p.1):List (Option (Arguments×List Stmt×Scope×Value)))=iG.map (λp=>some (aS (top p.2),ax (top p.2),ag (top p.2),.none)):=congrArg Prod.fst q_3;have dH3:∀i {n:Str} {t:Nat},iG[i]? = some (n,t)->Df K mg n (top t):=λi _ _ e=>Hd.df_of X G (Hd.at_map H3 i e);have q_4:=congrArg Prod.snd q_3;have H4:(jL.map (λp=>Hd.fnFactD K p.1):List (Option (Arguments×List Stmt×Scope×List V)))=jL.map (λp=>some (aS (top p.2.1),ax (top p.2.1),ag (top p.2.1),p.2.2)):=congrArg Prod.fst q_4;have q_5:=congrArg Prod.snd q_4;have H5:(yt.all (Hd.excFact K):Bool)=true:=congrArg Prod.fst q_5;have eO:∀i {x:Str},yt[i]? = some x->Dz K mg x (Hd.cls K x):=λi _ e=>Hd.exc_of X G (Hd.at_all H5 i e);have q_6:=congrArg Prod.snd q_5;have H6:(hNo.all (Hd.noFact K):Bool)=true:=congrArg Prod.fst q_6;have zN:∀i {x:Str},hNo[i]? = some x->mg x=none:=λi _ e=>W.mg_none_of X G (Hd.no_of (Hd.at_all H6 i e));have q_7:=congrArg Prod.snd q_6;have H7:(wJ.map (λp=>Hd.tupFact K p.1):List (Option (List V)))=wJ.map (λp=>some p.2):=congrArg Prod.fst q_7;have q_8:=congrArg Prod.snd q_7;have H8:(jN.map (λp=>Hd.fnFactA K p.1 p.2.1):List (Option (Arguments×List Stmt×Scope×Value)))=jN.map (λp=>some (aS (top p.2.2),ax (top p.2.2),ag (top p.2.2),.none)):=congrArg Prod.fst q_8;have q_9:=congrArg Prod.snd q_8;have H9:(zC K:List (Option (Option Value)))=xA:=congrArg Prod.fst q_9;have H10:(zB K:List (Option (Option V)))=xz:=congrArg Prod.snd q_9;have AV:Gp K mg "has_right_ends_fences" "has_right_ends" (top 46):=Hd.dfa_of X G (Hd.at_map H8 0 rfl);have BE:Gp K mg "may_step_fences" "may_step" (top 53):=Hd.dfa_of X G (Hd.at_map H8 1 rfl);have AM:Gp K mg "has_right_steps_fences" "has_right_steps" (top 55):=Hd.dfa_of X G (Hd.at_map H8 2 rfl);have A8:Gp K mg "has_right_ends_walks" "has_right_ends" (top 81):=Hd.dfa_of X G (Hd.at_map H8 3 rfl);have BJ:Gp K mg "may_step_walks" "may_step" (top 86):=Hd.dfa_of X G (Hd.at_map H8 4 rfl);have AU:Gp K mg "has_right_steps_walks" "has_right_steps" (top 88):=Hd.dfa_of X G (Hd.at_map H8 5 rfl);have FF:Hf K mg "ratio" (top 11) [.int 1]:=Hd.dfd_of X G (Hd.at_map H4 0 rfl);have Dk:Hf K mg "is_fence" (top 57) [.str "on"]:=Hd.dfd_of X G (Hd.at_map H4 1 rfl);have BX:Hf K mg "fence_square" (top 62) [.str "on"]:=Hd.dfd_of X G (Hd.at_map H4 2 rfl);have DX:Hf K mg "is_walk" (top 90) [.str "on"]:=Hd.dfd_of X G (Hd.at_map H4 3 rfl);have Ch:Hf K mg "walk_square" (top 91) [.str "on"]:=Hd.dfd_of X G (Hd.at_map H4 4 rfl);have DM:=eO 0 (x:="NoRatio") rfl;have Fw:=eO 1 (x:="NoWay") rfl;have EF:=eO 2 (x:="NoWalk") rfl;have DO:=eO 3 (x:="NoFence") rfl;have DN:=eO 4 (x:="NoPlace") rfl;have Ay:=eO 5 (x:="NoText") rfl;have T:Txt mg:=⟨zN 0 rfl,zN 1 rfl,zN 2 rfl,zN 3 rfl,zN 4 rfl,zN 5 rfl,zN 6 rfl,zN 7 rfl,zN 8 rfl,zN 9 rfl,zN 10 rfl,zN 11 rfl,zN 12 rfl,zN 13 rfl,zN 14 rfl⟩;obtain⟨ID,od_WAYS,its_WAYS,n_WAYS,sl_WAYS,Iz,Iy,HC⟩:=Hd.tup_of (Hd.at_map H7 0 rfl);obtain⟨HS,od_PAPERS,its_PAPERS,n_PAPERS,sl_PAPERS,HB,HA,FL⟩:=Hd.tup_of (Hd.at_map H7 1 rfl);have DG:W.nsIn K cStatics "sys.int_max_str_digits" = some none:=Hd.at_two H9 0 rfl rfl;have Hh:(W.nsIn K mainGlobals "FIGURES").map (λo=>o.map Hd.bareV)=some (some (.str (Str.ofString "0123456789"))):=Hd.at_two H10 0 rfl rfl;have EA:(W.nsIn K mainGlobals "MOST_FIGURES").map (λo=>o.map Hd.bareV)=some (some (.int 1000)):=Hd.at_two H10 1 rfl rfl;have Fq:(W.nsIn K mainGlobals "MOST_PAIRS").map (λo=>o.map Hd.bareV)=some (some (.int 200)):=Hd.at_two H10 2 rfl rfl;have EB:(W.nsIn K mainGlobals "MOST_CORNERS").map (λo=>o.map Hd.bareV)=some (some (.int 10)):=Hd.at_two H10 3 rfl rfl;have Hg:(W.nsIn K mainGlobals "LARGEST").map (λo=>o.map Hd.bareV)=some (some (.int 999999999999)):=Hd.at_two H10 4 rfl rfl;refine ym h hfa λbase=>?_;have hW:∀H,SqT K H ID [.str wOn,.str bz,.str aM,.str aB]:=λH=>SqT.mod Iy rfl (Hd.vals_sz HC (by decide)) HC;have hP:∀H,SqT K H HS (dr.map V.str):=λH=>SqT.mod HA rfl (Hd.vals_sz FL (by decide)) FL
 have iV_v_WAYS:=W.mg_of X G Iz;have AF:=o4 (P:=P) (w:=w) (base:=base) (dH0 0 rfl) T;have AD:=iR (P:=P) (w:=w) (base:=base) (dH0 1 rfl) T;have AG:=vd FF DM AF AD;have BI:=o9 (P:=P) (w:=w) (base:=base) (dH0 7 rfl);have BH:=o6 (dH0 10 rfl) AF AD T;have Aw:=qC (P:=P) (w:=w) (base:=base) (dH0 14 rfl) T;have Bs:=o7 (dH0 15 rfl) BH Aw;have BQ:=jg (dH0 16 rfl) DN Bs;have DP:=wS (dH0 2 rfl) AG;have Cw:=ve (dH0 3 rfl) AG;have Cv:=vc (dH0 4 rfl) AG;have GK:=wT (dH0 5 rfl) AG;have AK:=wU (P:=P) (w:=w) (base:=base) (dH0 6 rfl);have B0:=mZ (dH0 19 rfl) AG;have AJ:=oU (dH0 20 rfl) BQ BI Aw B0 T;have Bh:=mT (dH1 1 rfl) Cw;have Ax:=jl (dH1 2 rfl) DP Cv;have AB:=iM (dH1 3 rfl) Bh Ax;have By:=mU (dH1 4 rfl) AB AJ;have Ap:=ig (dH1 0 rfl) (jd AK) BI (pY AG);have BW:=jC (dH1 5 rfl) Bh Ax GK AK;have Cd:=kF (dH1 6 rfl) AJ BW DP Cv Cw AB;have BL:=kJ (P:=P) (w:=w) (base:=base) (dH2 12 rfl) T;have Bl:=ng (P:=P) (w:=w) (base:=base) (dH2 14 rfl) T;have Ai:=oW (P:=P) (w:=w) (base:=base) (dH2 15 rfl);have Bj:=oV (dH2 16 rfl) Ai T;have AC:=iQ (dH2 17 rfl) Ai Bj T;have Bb:=kD (P:=P) (w:=w) (base:=base) (dH1 7 rfl) Fw iV_v_WAYS hW T;have DR:=qE (dH0 17 rfl) Bs T;have Bz:=nn (dH0 18 rfl) DR T;have A7:=eT A8 Aw;have DT:=qG (dH2 8 rfl) (jd AK) Ap;have Cg:=kK (dH2 9 rfl) Ap;have GL:=wV (P:=P) (w:=w) (base:=base) (dH2 10 rfl);have Bo:=iO BJ GL Cg DT;have AR:=eG AU Bo T;have DQ:=qD DX Bb Bz A7 AR;have AS:=eI AV Aw;have Bn:=kZ (dH1 8 rfl) (jd AK);have AE:=jD (dH1 9 rfl) Ap;have Dx:=tm (dH1 10 rfl) AE;have Bt:=gX (P:=P) (w:=w) (base:=base) (dH1 11 rfl);have CI:=lj (P:=P) (w:=w) (base:=base) (dH1 12 rfl);have BB:=ij BE CI Dx Bn;have AL:=d9 AM BB T;have Di:=o8 Dk Bb Bz Bt AS AL T;have B1:=m8 (dH2 18 rfl) Ai T;have BC:=ik (dH2 19 rfl) Ai B1 AC T;have C1:=m9 (dH2 20 rfl) BL Bl AC BC;have Cf:=kI (P:=P) (w:=w) (base:=base) (dH3 0 rfl) T;have C0:=m6 (dH3 1 rfl) Cf;have Al:=nc (P:=P) (w:=w) (base:=base) (dH3 2 rfl);have Ao:=kG (dH3 5 rfl) Ai Bj C0;have AQ:=qB (dH3 6 rfl) Ai Ao;have B6:=ni (dH3 7 rfl) Ai Ao (d8 Al);have CA:=oZ (P:=P) (w:=w) (base:=base) (dH3 8 rfl) T;have BG:=iP (dH3 9 rfl) Ai AQ B6 CA T;have Cz:=lh (dH3 3 rfl) (d8 Al);have Ce:=kH (dH3 4 rfl) (d8 Al);have CC:=o3 (dH3 10 rfl) Ai Ao (d8 Al) T;have Cy:=oX (dH3 11 rfl) Ai Ao (d8 Al) T;have Dh:=oY (dH3 12 rfl) Ai AQ Cz Ce CC Cy;have C3:=na (P:=P) (w:=w) (base:=base) (dH3 13 rfl) T;have BD:=il (dH3 14 rfl) Ai AQ Dh C3 T;have BR:=jk (dH3 15 rfl) Ai;have CB:=li (P:=P) (w:=w) (base:=base) (dH2 13 rfl) T;have Av:=ii (dH0 8 rfl) AK T;have Bc:=fC (dH1 13 rfl) Bn;have Bp:=ji (dH1 14 rfl) AK Cd;have BV:=jB (dH1 15 rfl) AE Bp;have Br:=gW (dH1 16 rfl) By Bc BV T;have AT:=jE BX DO Di Br Av;have Bi:=fI (dH0 9 rfl) Av;have Ba:=kv Ch EF DQ By Bi;have CG:=o5 (dH0 11 rfl) (Hd.int_of X G Hg) AF;have C4:=nj (dH0 12 rfl) CG T;have As:=k7 (P:=P) (w:=w) (base:=base) (dH1 17 rfl) DG T;have AZ:=k9 (P:=P) (w:=w) (base:=base) (dH2 1 rfl) Ay DG (Hd.str_of X G Hh) (Hd.int_of X G EA) T;have A5:=ld (dH2 2 rfl) Ay BH As AZ T;have Bv:=mS (P:=P) (w:=w) (base:=base) (dH2 3 rfl) Ay T;have CV:=mV (dH1 20 rfl) DG As;have CY:=mX (dH2 6 rfl) Bv A5;have BT:=k8 (dH2 0 rfl) CV;have A6:=lg (dH2 7 rfl) Ay (Hd.int_of X G Fq) iV_v_WAYS hW (W.mg_of X G HB) hP CY T;have DS:=qF (dH0 13 rfl) (Hd.int_of X G EB) C4 T;have Cb:=kB (P:=P) (w:=w) (base:=base) (dH1 18 rfl) DG T;have Cc:=kC (dH2 4 rfl) Bv AZ;have BZ:=mW (dH1 19 rfl) Cb;have AW:=mY (dH2 5 rfl) Ay Cc DS T;have Dy:=tp (dH2 11 rfl) DG AW A6 As AT Ba T;have Bq:=jj (dH3 16 rfl) A5 T;have CZ:=m5 (dH3 17 rfl) BZ AW BT A6 Dy Bq Al Ba AT;exact yv (dH3 18 rfl) C1 CB Bl BR BG BD CZ T
end K61
end
open PySem PySem.W PyProof.Rows
lay_quick Challenge.pw_oneleash_k61_whole_written_walks_and_fen
set_option maxRecDepth 100000 in
set_option maxHeartbeats 0 in
theorem PySem.Challenge.cw_oneleash_k61_whole_written_walks_and_fen_holds : PySem.Challenge.rw_oneleash_k61_whole_written_walks_and_fen.Holds := by
 w_on;o_law
 refine holds_open (q:=K61.hView) (loose:=K61.hLoose) (Xt:=fun _=>true) (XP:=fun _ _=>True) (Yf:=Hook.obs (Hd.hook K61.hFacts K61.hGood)) (Ya:=Hook.val (Hd.hook K61.hFacts K61.hGood)) (YP:=Hook.says (Hd.hook K61.hFacts K61.hGood)) (N:=100000) K61.hLeft (Hook.of _) (Hook.keeps _) (fun _ _=>trivial) (fun _ _ _ _ _=>trivial) (by rfl) (by rfl) (by rfl) (fun _ _=>recFacts_nil rfl) (by rfl) (by first|assumption|decide +kernel) (by decide +kernel) ⟨rfl,rfl,rfl,rfl,rfl,by decide +kernel⟩ ?hw ?hc
 case hw=>w_witness2
 exact Hd.law_walk (l:=Challenge.rw_oneleash_k61_whole_written_walks_and_fen) (k:=13) ⟨rfl,by decide,by decide,rfl⟩ rfl rfl fun K FK w mg fa h KX G hmg=>K61.all_of FK KX G hmg
