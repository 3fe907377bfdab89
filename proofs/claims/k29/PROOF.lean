import PyProof.Rows.All
import Wide.All
import OpenK.AllK
import Wide.FinOn
import Lean
import PyProof.EqAt
import PyProof.EqKinds
import PyProof.TupleCall
import PyProof.ExcArgsOwn
import KE.KTryMore
import PyProof.NsDelKeeps
import PyProof.ConsumeWalk
import PyProof.ZipIter
import PyProof.WalksEnum
import PyProof.EnumMake
import PyProof.NeKinds
import PyProof.CompMap
import PyProof.DictWalks
import KE.KLam
import KE.KRevIter
import PyProof.ListRange
import PyProof.AttrMissHeap
import KE.KDictOf
import PyProof.ReprRoads
import PyProof.CallStr
import PySem.Challenge.RW_oneleash_k29_one_stands
local macro_rules | `(tactic| omega)=>`(tactic| lia)
section
set_option Elab.async false
set_option linter.all false
set_option maxRecDepth 100000
namespace L2
open PySem PySem.Spec PyProof.Rows
noncomputable abbrev Key:=Sum Int Str
noncomputable def lG:Key->Value->Bool
 | .inl k,v=>Value.isInt k v
 | .inr x,v=>Value.isStrOf x v
noncomputable def AF(w:World):Key->Int
 | .inl k=>hashInt k
 | .inr x=>hashStr w x
theorem cj:∀{k:Key} {v:Value},lG k v=true->(∃i t,k=Sum.inl i/\v=Value.int i t)\/(∃x t,k=Sum.inr x/\v=Value.str x t)
 | .inl i,v,h=>by
  obtain⟨t,e⟩:=Value.isInt_shape (k:=i) (v:=v) h;exact .inl ⟨i,t,rfl,e⟩
 | .inr x,v,h=>by
  obtain⟨t,e⟩:=Value.isStrOf_shape (x:=x) (v:=v) h;exact .inr ⟨x,t,rfl,e⟩
theorem rX(i:Int)(t:Tok):lG (.inl i) (.int i t)=true:=by simp[lG,Value.isInt]
theorem rW(x:Str)(t:Tok):lG (.inr x) (.str x t)=true:=by simp[lG,Value.isStrOf]
theorem yF(a b:Int):decide ((Sum.inl a:Key)=Sum.inl b)=(a == b):=by
 by_cases e:a=b
 ·subst e;simp
 ·have h:¬(Sum.inl a:Key)=Sum.inl b:=λq=>e (Sum.inl.inj q)
  rw[decide_eq_false h];exact(beq_eq_false_iff_ne.mpr e).symm
theorem yC(a b:Str):decide ((Sum.inr a:Key)=Sum.inr b)=decide (a=b):=by
 by_cases e:a=b
 ·subst e;simp
 ·have h:¬(Sum.inr a:Key)=Sum.inr b:=λq=>e (Sum.inr.inj q)
  rw[decide_eq_false h,decide_eq_false e]
theorem yE(a:Int)(b:Str):decide ((Sum.inl a:Key)=Sum.inr b)=false:=decide_eq_false (λq=>nomatch q)
theorem yD(a:Str)(b:Int):decide ((Sum.inr a:Key)=Sum.inl b)=false:=decide_eq_false (λq=>nomatch q)
noncomputable def cJ(prog:Program)(w:World):PySem.KeyKind prog w Key where
 is:=lG
 hash:=AF w
 inj:=λv a b ha hb=>by
  rcases cj ha with⟨i,t,rfl,rfl⟩|⟨x,t,rfl,rfl⟩
  ·rcases cj hb with⟨j,u,rfl,e⟩|⟨y,u,rfl,e⟩
   ·injection e with e1 _;rw[e1]
   ·exact nomatch e
  ·rcases cj hb with⟨j,u,rfl,e⟩|⟨y,u,rfl,e⟩
   ·exact nomatch e
   ·injection e with e1 _;rw[e1]
 byValue:=λk v h=>by
  rcases cj h with⟨i,t,rfl,rfl⟩|⟨x,t,rfl,rfl⟩ <;> rfl
 pyHash:=λhv h=>by
  rcases cj hv with⟨i,t,rfl,rfl⟩|⟨x,t,rfl,rfl⟩
  ·exact wpAny_pyHash_int h
  ·exact wpAny_pyHash_str h
 eqBool:=λhu hv h=>by
  rcases cj hu with⟨i,t,rfl,rfl⟩|⟨x,t,rfl,rfl⟩
  ·rcases cj hv with⟨j,u,rfl,rfl⟩|⟨y,u,rfl,rfl⟩
   ·rw[yF]at h;exact wpAny_eqBool_int h
   ·rw[yE]at h;exact SeqAt.EqAt.int_str i t y u _ _ _ _ h
  ·rcases cj hv with⟨j,u,rfl,rfl⟩|⟨y,u,rfl,rfl⟩
   ·rw[yD]at h;exact SeqAt.EqAt.str_int x t j u _ _ _ _ h
   ·rw[yC]at h;exact wpAny_eqBool_str h
 «strs»:=λk x t v h=>by
  rcases cj h with⟨i,u,rfl,e⟩|⟨y,u,rfl,e⟩
  ·exact nomatch e
  ·injection e with e1 _
   subst e1;cases v <;> rfl
theorem nQ(prog:Program)(w:World)(i:Int)(t:Tok):(cJ prog w).is (.inl i) (.int i t)=true:=rX i t
theorem nO(prog:Program)(w:World)(x:Str)(t:Tok):(cJ prog w).is (.inr x) (.str x t)=true:=rW x t
inductive V where
 | non|bl (b:Bool)|int (i:Int)|str (x:Str)|byt (b:Array UInt8)|flt (b:UInt64)|ref (a:Addr)|ty (n:String)
 deriving DecidableEq
noncomputable def a9:V->Value->Prop
 | .non,u=>u=Value.none
 | .bl b,u=>u=Value.bool b
 | .int i,u=>∃t,u=Value.int i t
 | .str x,u=>∃t,u=Value.str x t
 | .byt b,u=>∃t,u=Value.bytes b t
 | .flt b,u=>∃t,u=Value.float b t
 | .ref a,u=>u=Value.ref a
 | .ty n,u=>u=Value.type n
noncomputable abbrev aV:List V->List Value->Prop:=Paired a9
theorem aV.length{xs:List V}{us:List Value}(r:aV xs us):xs.length=us.length:=Paired.length r
theorem aV.get:∀{xs:List V} {us:List Value} {i:Nat} {x:V},aV xs us->xs[i]? = some x->∃u,us[i]? = some u/\a9 x u
 | _,_,_,_,.nil,e=>by simp at e
 | _,_,0,_,.cons r _,e=>by simp at e;subst e;exact⟨_,rfl,r⟩
 | _,_,i+1,x,.cons _ t,e=>by
  obtain⟨u,h1,h2⟩:=aV.get (i:=i) (x:=x) t (by simpa using e);exact⟨u,by simpa using h1,h2⟩
theorem aV.set{x:V}{u:Value}(r:a9 x u):∀{xs:List V} {us:List Value} (i:Nat),aV xs us->aV (xs.set i x) (us.set i u)
 | _,_,_,.nil=>.nil
 | _,_,0,.cons _ t=>.cons r t
 | _,_,i+1,.cons q t=>.cons q (aV.set r i t)
theorem aV.append:∀{xs ys:List V} {us ws:List Value},aV xs us->aV ys ws->aV (xs++ys) (us++ws)
 | _,_,_,_,.nil,s=>s
 | _,_,_,_,.cons r t,s=>.cons r (aV.append t s)
theorem aV.take:∀{xs:List V} {us:List Value} (n:Nat),aV xs us->aV (xs.take n) (us.take n)
 | _,_,0,_=>.nil
 | _,_,_+1,.nil=>.nil
 | _,_,n+1,.cons r t=>.cons r (aV.take n t)
theorem aV.drop:∀{xs:List V} {us:List Value} (n:Nat),aV xs us->aV (xs.drop n) (us.drop n)
 | _,_,0,r=>r
 | _,_,_+1,.nil=>.nil
 | _,_,n+1,.cons _ t=>aV.drop n t
noncomputable def iP:Option V->Option Value->Prop
 | some v,some u=>a9 v u
 | none,none=>True
 | _,_=>False
noncomputable def KV{κ:Type}:List (κ×V)->List (κ×Value)->Prop:=Paired λ(p:κ×V) (q:κ×Value)=>p.1=q.1/\a9 p.2 q.2
noncomputable def kV:Key->V
 | .inl i=>.int i
 | .inr x=>.str x
inductive HO where
 /-- a list -/
 | lst (xs:List V)
 /-- a tuple (never changes) -/
 | tup (xs:List V)
 /-- a dict whose keys are ints and texts;one whose keys are tuples of ints and texts (the empty one is both) -/
 | dK (kvs:List (Key×V))|dT (kvs:List (List Key×V))
 /-- a set of ints: its members,its size -/
 | set (S:Int->Bool) (n:Nat)
 /-- an instance of the class at C,its dict at dx,its attributes -/
 | ins (C dx:Addr) (fs:List (Str×V))
 /-- the dict of the instance at x -/
 | own (x:Addr)
 /-- the dict of an exception -/
 | xd (fs:List (Str×V))
 /-- a bound method,f of x -/
 | met (f x:Addr)
 /-- a range object lo,lo+1,.. xF hi -/
 | rng (lo hi:Int)
 /-- a thing that is known to the object (the script;a dict while a loop walks it): read,never written while it is so -/
 | frz (o:Obj) (u:HO)
 /-- a code object's table -/
 | tbl (ps:Array Value)
 /-- any other thing,by what is true of its one object (a def of one's own: SetO a S n:=HO.ext λh=>..) -/
 | ext (φ:Heap->Prop)
noncomputable abbrev Hp:=Addr->Option HO
noncomputable def upd(H:Hp)(a:Addr)(o:HO):Hp:=λb=>if b=a then some o else H b
theorem upd_same{H:Hp}{a:Addr}{o:HO}:upd H a o a=some o:=by unfold upd;rw[if_pos rfl]
theorem aN{H:Hp}{a b:Addr}{o:HO}(h:b≠a):upd H a o b=H b:=by unfold upd;rw[if_neg h]
theorem uc{H:Hp}{a b:Addr}{o u:HO}(h:H a=some o)(h':H b=some u)(d:o≠u):a≠b:=by
 intro e;subst e;rw[h]at h';exact d (Option.some.inj h')
theorem aU{H:Hp}{a b:Addr}{o:HO}(h:H a=some o)(h':H b=none):a≠b:=by
 intro e;subst e;rw[h]at h';cases h'
section
variable (P:Program) (w:World)
noncomputable def bV(H:Hp)(h:Heap)(a:Addr):HO->Prop
 | .lst xs=>xs.length<=sizeLine/\∃(its:List Value) (n:Nat),aV xs its/\h.get? a=some { cls:=.type "list",data:=.seq its.toArray n }
 | .tup xs=>xs.length<=sizeLine/\∃its:List Value,aV xs its/\IsTup h a its.toArray
 | .dK kvs=>kvs.length<=sizeLine/\(a == sysModules)=false/\∃vs,KV kvs vs/\h.DictOf (cJ P w) a vs
 | .dT kvs=>kvs.length<=sizeLine/\(a == sysModules)=false/\∃xs:List (List Key×Addr×Value),
   Paired (λ(p:List Key×V) (q:List Key×Addr×Value)=>p.1=q.1/\H q.2.1=some (.tup (p.1.map kV))/\a9 p.2 q.2.2) kvs xs /\
   ∃o es ep,h.get? a=some o/\o.ExactDict/\o.data = .dict es ep/\es.toList=xs.map (entryOfKey (tupleKind (cJ P w)))/\(xs.map (·.1)).Nodup
 | .set S n=>h.SetOf (intKind P w) a S n
 | .ins C dx fs=>H dx=some (.own a)/\fs.length<=1000/\dx≠a/\h.get? a=some (W.instObj C dx) /\
   ∃mA,h.Ns1 dx mA/\(∀f,iP (fs.lookup f) (mA f))/\PySem.Within mA (fs.map (·.1))
 | .own _=>∃o,h.get? a=some o
 | .xd fs=>∃mA,h.Ns1 a mA/\∀f,iP (fs.lookup f) (mA f)
 | .rng lo hi=>∃t u v,h.get? a=some { cls:=.type "range",data:=.fields #[.int lo t,.int hi u,.int 1 v] }
 | .frz o u=>h.get? a=some o/\bV H h a u
 | .tbl ps=>h.get? a=some { cls:=.none,data:=.fields ps }
 | .met f x=>h.get? a=some (W.methodObj (.ref f) (.ref x))
 | .ext φ=>φ h/\(∃o,h.get? a=some o)/\∀h1 h2:Heap,φ h1->(∀o,h1.get? a=some o->h2.get? a=some o)->φ h2
noncomputable def HOk(H:Hp)(h:Heap):Prop:=∀a o,H a=some o->bV P w H h a o
end
section
variable {P:Program} {w:World} {H H':Hp} {h h':Heap} {a:Addr} {o:HO}
theorem bV.lt(x:bV P w H h a o):a<h.objs.size:=by
 cases o with
 | lst xs=>obtain⟨_,_,_,_,e⟩:=x;exact Heap.lt_size e
 | tup xs=>obtain⟨_,_,_,p⟩:=x;exact p.lt
 | dK kvs=>obtain⟨_,_,_,_,o,_,_,e,_⟩:=x;exact Heap.lt_size e
 | dT kvs=>obtain⟨_,_,_,_,o,_,_,e,_⟩:=x;exact Heap.lt_size e
 | set S n=>obtain⟨o,_,_,_,e,_⟩:=x;exact Heap.lt_size e
 | ins C dx fs=>obtain⟨_,_,_,e,_⟩:=x;exact Heap.lt_size e
 | own y=>obtain⟨_,e⟩:=x;exact Heap.lt_size e
 | xd fs=>obtain⟨_,⟨_,_,_,e,_⟩,_⟩:=x;exact Heap.lt_size e
 | rng lo hi=>obtain⟨_,_,_,e⟩:=x;exact Heap.lt_size e
 | frz ob u=>obtain⟨e,_⟩:=x;exact Heap.lt_size e
 | tbl ps=>exact Heap.lt_size (show h.get? a=some _ from x)
 | met f y=>exact Heap.lt_size (show h.get? a=some _ from x)
 | ext φ=>obtain⟨_,⟨_,e⟩,_⟩:=x;exact Heap.lt_size e
theorem Paired.mapP{α β:Type}{F G:α->β->Prop}:∀{l1:List α} {l₂:List β},Paired F l1 l₂->(∀a b,F a b->G a b)->Paired G l1 l₂
 | _,_,.nil,_=>.nil
 | _,_,.cons r t,f=>.cons (f _ _ r) (Paired.mapP t f)
theorem bV.stay(x:bV P w H h a o)(k:∀b u,(b=a\/H b=some (.own a))->h.get? b=some u->h'.get? b=some u)
  (ho:∀b,H b=some (.own a)->H' b=some (.own a)) (ht:∀b xs,H b=some (.tup xs)->H' b=some (.tup xs)):bV P w H' h' a o:=by
 induction o with
 | lst xs=>obtain⟨z,its,n,r,e⟩:=x;exact⟨z,its,n,r,k _ _ (.inl rfl) e⟩
 | tup xs=>obtain⟨z,its,r,ob,e,c⟩:=x;exact⟨z,its,r,ob,k _ _ (.inl rfl) e,c⟩
 | dK kvs=>obtain⟨z,y,vs,r,ob,es,ep,e,c⟩:=x;exact⟨z,y,vs,r,ob,es,ep,k _ _ (.inl rfl) e,c⟩
 | dT kvs =>
  obtain⟨z,y,xs,r,ob,es,ep,e,c⟩:=x;exact⟨z,y,xs,Paired.mapP r λp q z=>⟨z.1,ht _ _ z.2.1,z.2.2⟩,ob,es,ep,k _ _ (.inl rfl) e,c⟩
 | set S n=>obtain⟨ob,es,ep,t,e,c⟩:=x;exact⟨ob,es,ep,t,k _ _ (.inl rfl) e,c⟩
 | ins C dx fs =>
  obtain⟨d,z,ne,e,mA,⟨od,es,ep,e2,c⟩,r⟩:=x;exact⟨ho _ d,z,ne,k _ _ (.inl rfl) e,mA,⟨od,es,ep,k _ _ (.inr d) e2,c⟩,r⟩
 | own y=>obtain⟨ob,e⟩:=x;exact⟨ob,k _ _ (.inl rfl) e⟩
 | xd fs=>obtain⟨mA,⟨od,es,ep,e,c⟩,r⟩:=x;exact⟨mA,⟨od,es,ep,k _ _ (.inl rfl) e,c⟩,r⟩
 | rng lo hi=>obtain⟨t,u,v,e⟩:=x;exact⟨t,u,v,k _ _ (.inl rfl) e⟩
 | frz ob u ih=>obtain⟨e,q⟩:=x;exact⟨k _ _ (.inl rfl) e,ih q⟩
 | tbl ps =>
  have e:h.get? a=some { cls:=.none,data:=.fields ps }:=x;show h'.get? a=some { cls:=.none,data:=.fields ps };exact k a _ (.inl rfl) e
 | met f y =>
  have e:h.get? a=some (W.methodObj (.ref f) (.ref y)):=x;show h'.get? a=some (W.methodObj (.ref f) (.ref y));exact k a _ (.inl rfl) e
 | ext φ=>obtain⟨p,⟨o,e⟩,st⟩:=x;exact⟨st _ _ p λo q=>k _ _ (.inl rfl) q,⟨o,k _ _ (.inl rfl) e⟩,st⟩
theorem HOk.lt(x:HOk P w H h)(e:H a=some o):a<h.objs.size:=(x a o e).lt
theorem HOk.fresh(x:HOk P w H h)(e:h.objs.size<=a):H a=none:=by
 cases q:H a with
 | none=>rfl
 | some u=>exact absurd (Nat.lt_of_lt_of_le (x.lt q) e) (Nat.lt_irrefl _)
theorem HOk.kept(x:HOk P w H h)(k:∀b u,h.get? b=some u->h'.get? b=some u):HOk P w H h':=λa o e =>
 (x a o e).stay (λb u _ q=>k b u q) (λ_ q=>q) λ_ _ q=>q
theorem HOk.laid(x:HOk P w H h)(k:∀b u,h.get? b=some u->h'.get? b=some u)(hp:h.objs.size<=a)(new:bV P w (upd H a o) h' a o):HOk P w (upd H a o) h':=λb u e=>by
 have hn:=x.fresh hp
 by_cases hb:b=a
 ·subst hb;rw[upd_same]at e;cases e;exact new
 ·rw[aN hb]at e
  exact(x b u e).stay (λc v _ q=>k c v q) (λc q=>by rw[aN (aU q hn)];exact q) λc xs q=>by rw[aN (aU q hn)];exact q
end
noncomputable def Rd(H:Hp)(a:Addr)(u:HO):Prop:=H a=some u\/∃o,H a=some (.frz o u)
theorem Rd.ok{P:Program}{w:World}{H:Hp}{h:Heap}{a:Addr}{u:HO}(r:Rd H a u)(x:HOk P w H h):bV P w H h a u:=by
 rcases r with r|⟨o,r⟩
 ·exact x a u r
 ·obtain⟨_,q⟩:=x a _ r
  exact q
noncomputable def Mut:Option HO->Prop
 | some (.lst _)=>True
 | some (.dK _)=>True
 | some (.dT _)=>True
 | some (.set _ _)=>True
 | some (.ins _ _ _)=>True
 | some (.ext _)=>True
 | _=>False
section
variable {P:Program} {w:World} {H:Hp} {h h':Heap} {x e:Addr} {o':HO}
theorem HOk.write(ok:HOk P w H h)(mu:Mut (H x))(he:e=x\/H e=some (.own x))(k:∀b u,b≠e->h.get? b=some u->h'.get? b=some u)(heo:∃u,h'.get? e=some u)
  (new:bV P w (upd H x o') h' x o'):HOk P w (upd H x o') h':=λb u q=>by
 have nown:∀c y,H c=some (.own y)->c≠x:=λc y r z=>by subst z;rw[r]at mu;exact mu
 have ntup:∀c xs,H c=some (.tup xs)->c≠x:=λc xs r z=>by subst z;rw[r]at mu;exact mu
 by_cases hb:b=x
 ·subst hb;rw[upd_same]at q;cases q;exact new
 ·rw[aN hb]at q
  by_cases hbe:b=e
  ·have q':H b=some (.own x):=by
    rcases he with z|z
    ·exact absurd (hbe.trans z) hb
    ·rw[hbe];exact z
   rw[q]at q';cases q';obtain⟨v,hv⟩:=heo;exact⟨v,by rw[hbe];exact hv⟩
  ·refine(ok b u q).stay (λc v hc r=>k c v ?_ r) (λc r=>by rw[aN (nown c b r)];exact r) λc xs r=>by rw[aN (ntup c xs r)];exact r
   rcases hc with rfl|hc
   ·exact hbe
   ·rintro rfl
    rcases he with z|z
    ·exact nown c b hc z
    ·rw[hc]at z;cases z;exact hb rfl
end
structure Un(fs ex:List Addr)(H H':Hp)(h h':Heap):Prop where
 keep:∀b o,h.get? b=some o->H b=none->b∉fs->b∉ex->h'.get? b=some o
 slot:∀b o,h.get? b=some o->H b=none->b∈fs->b∉ex->∃sl,h'.get? b=some { o with slots:=sl }
 free:∀b o,h.get? b=some o->H b=none->b∉ex->H' b=none
 there:∀b o,h.get? b=some o->b∉ex->∃o',h'.get? b=some o'
 tups:∀b xs,H b=some (.tup xs)->H' b=some (.tup xs)
 frzs:∀b o u,H b=some (.frz o u)->H' b=some (.frz o u)
 tbls:∀b ps,H b=some (.tbl ps)->∃more,H' b=some (.tbl (ps++more))
section
variable {fs fs' ex ex':List Addr} {H H1 H2:Hp} {h h1 h2 h':Heap} {a x e:Addr} {o:HO}
theorem Un.any(u:Un fs ex H H1 h h1){b:Addr}{ob:Obj}(q:h.get? b=some ob)(n:H b=none)(hx:b∉ex):∃sl,h1.get? b=some { ob with slots:=sl }:=by
 by_cases hb:b∈fs
 ·exact u.slot b ob q n hb hx
 ·exact⟨ob.slots,u.keep b ob q n hb hx⟩
theorem Un.kept(k:∀b u,h.get? b=some u->h'.get? b=some u):Un fs ex H H h h' :=
 ⟨λb ob q _ _ _=>k b ob q,λb ob q _ _ _=>⟨ob.slots,k b ob q⟩,λ_ _ _ n _=>n,λb ob q _=>⟨ob,k b ob q⟩,λ_ _ q=>q,λ_ _ _ q=>q,λ_ ps q=>⟨#[],by rw[q];simp⟩⟩
theorem Un.refl:Un fs ex H H h h:=Un.kept λ_ _ q=>q
theorem Un.laid(k:∀b u,h.get? b=some u->h'.get? b=some u)(hp:h.objs.size<=a)(hn:H a=none):Un fs ex H (upd H a o) h h' where
 keep:=λb u q _ _ _=>k b u q
 slot:=λb u q _ _ _=>⟨u.slots,k b u q⟩
 free:=λb u q n _=>by rw[aN (Nat.ne_of_lt (Nat.lt_of_lt_of_le (Heap.lt_size q) hp))];exact n
 there:=λb u q _=>⟨u,k b u q⟩
 tups:=λb xs q=>by rw[aN (aU q hn)];exact q
 frzs:=λb u xs q=>by rw[aN (aU q hn)];exact q
 tbls:=λb ps q=>⟨#[],by rw[aN (aU q hn),q];simp⟩
theorem Un.write(mu:Mut (H x))(he:e=x\/H e=some (.own x))(k:∀b u,b≠e->h.get? b=some u->h'.get? b=some u)(heo:∃u,h'.get? e=some u):Un fs ex H (upd H x o) h h':=by
 have hx:∀b,H b=none->b≠x:=λb n z=>by subst z;rw[n]at mu;exact mu
 have hb:∀b,H b=none->b≠e:=λb n z=>by
  subst z;rcases he with r|r
  ·exact hx b n r
  ·rw[n]at r;cases r
 have hm:∀b u,H b=some u->¬Mut (some u)->b≠x:=λb u q nm z=>by subst z;rw[q]at mu;exact nm mu
 refine⟨λb u q n _ _=>k b u (hb b n) q,λb u q n _ _=>⟨u.slots,k b u (hb b n) q⟩,λb u q n _=>by rw[aN (hx b n)];exact n,λb u q _=>?_,
  λb xs q=>by rw[aN (hm b _ q λz=>z)];exact q,λb u xs q=>by rw[aN (hm b _ q λz=>z)];exact q,λb ps q=>⟨#[],by rw[aN (hm b _ q λz=>z),q];simp⟩⟩
 by_cases hbe:b=e
 ·subst hbe;exact heo
 ·exact⟨u,k b u hbe q⟩
end
noncomputable def trk(h:Heap)(H:Hp):List Addr:=(List.range h.objs.size).filter λa=>(H a).isSome
noncomputable def mF(h:Heap)(H:Hp):Heap:=W.hideAll h (trk h H)
theorem sf(h:Heap)(H:Hp):(mF h H).objs.size=h.objs.size:=W.hideAll_size _ _
theorem uI{h:Heap}{H:Hp}{b:Addr}{o:Obj}(e:h.get? b=some o)(n:H b=none):(mF h H).get? b=some o :=
 W.hideAll_get _ e λhm=>by
  have q:(H b).isSome=true:=(List.mem_filter.mp hm).2;rw[n]at q;simp at q
theorem vX{h:Heap}{H:Hp}{b:Addr}{o:Obj}(e:(mF h H).get? b=some o):h.get? b=some o/\H b=none:=by
 have e':h.get? b=some o:=W.of_hideAll (trk h H) e;refine⟨e',?_⟩;cases q:H b with
 | none=>rfl
 | some x =>
  have hm:b∈trk h H:=List.mem_filter.mpr ⟨List.mem_range.mpr (Heap.lt_size e'),by simp[q]⟩;have z:(mF h H).get? b=none:=W.hideAll_none (trk h H) hm;rw[z]at e;cases e
structure Mod(K:W.Frag)(mg:Str->Option Value)(base:Heap):Prop where
 kin:K.In base
 glob:base.Ns mainGlobals mg
 blt:∃mb,base.Ns builtinsNs mb/\∀x:Str,x≠"__name__"->mb x=bootBuiltins x
 nolimit:base.NoLimit
structure Cx where
 prog:Program
 w:World
 K:W.Frag
 mg:Str->Option Value
 base:Heap
 A:Around
 N:List Str
 s₀:Shared
 H₀:Hp
 env:Env
 outer:List Env
 stack:List Env
 ex:List Addr
 fn:Str->Bool
 calm:Bool
 pn:List (Addr×Obj)
 xe:Value->Shared->Prop
noncomputable def frs(l:List Env):List Addr:=l.filterMap (·.frame)
noncomputable abbrev Cx.fs(X:Cx):List Addr:=frs X.outer
noncomputable def Vis(sc:Scope)(x:Str):Prop:=sc.names.lookup x=some .local\/sc.names.lookup x=some .cell\/sc.names.lookup x=some .free
noncomputable def Loc(sc:Scope)(x:Str):Prop:=sc.names.lookup x=some .local\/sc.names.lookup x=some .cell
noncomputable def AO(env:Env)(h:Heap)(m:Str->Option Value)(x:Str)(u:Value):Prop :=
 (env.kindOf x=some .local/\m x=some u)\/((env.kindOf x=some .cell\/env.kindOf x=some .free)/\∃c,env.cells.lookup x=some c/\h.IsCell c (some u))
structure Cx.Ok(X:Cx):Prop where
 mod:Mod X.K X.mg X.base
 kind:X.env.scope.kind = .function
 glob:X.env.globals=mainGlobals
 blt:X.env.builtins=builtinsNs
 above:X.s₀.heap.objs.size<=X.env.locals
 inj:∀x y c,X.env.cells.lookup x=some c->X.env.cells.lookup y=some c->x=y
 has:∀x,(X.env.kindOf x=some .cell\/X.env.kindOf x=some .free)->∃c,X.env.cells.lookup x=some c
 cab:∀x c,X.fn x=true->X.env.cells.lookup x=some c->X.s₀.heap.objs.size<=c
 hd:X.calm=true->X.A.handled=none
 frames:X.A.frames=some X.stack
 stk:X.stack=X.outer\/(X.stack=X.env::X.outer/\X.env.frame=some X.env.locals)
 exf:∀b∈X.ex,b≠X.env.locals/\∀x c,X.env.cells.lookup x=some c->c≠b
 bs:∀b o,X.base.get? b=some o->X.s₀.heap.get? b=some o/\X.H₀ b=none
 bsz:X.base.objs.size<=X.s₀.heap.objs.size
 noex:∀b o,X.base.get? b=some o->b∉X.ex
 exfs:∀b∈X.ex,b∉X.fs
 funs:X.s₀.heap.FunFrames X.base X.outer
 frf:∀b∈X.fs,X.H₀ b=none
structure AU(X:Cx)(pins:List (Addr×Obj))(σ:List (Option V))(H:Hp)(s:Shared):Prop where
 ok:X.Ok
 os:s.os=X.s₀.os
 bare:AllBare s.gens
 base:Un X.fs X.ex X.H₀ H X.s₀.heap s.heap
 loc:∃m,s.heap.Ns X.env.locals m/\∀(i:Nat) (x:Str) (v:V),X.N[i]? = some x->σ[i]? = some (some v)->Vis X.env.scope x->∃u,a9 v u/\AO X.env s.heap m x u
 cell:∀x c,X.env.cells.lookup x=some c->∃v,s.heap.IsCell c v
 free:H X.env.locals=none
 freeC:∀x c,X.env.cells.lookup x=some c->H c=none
 pin:∀p∈X.pn++pins,s.heap.get? p.1=some p.2/\H p.1=none/\p.1≠X.env.locals/\p.1∉X.fs/\∀v,p.2.data≠.cell v
 hok:HOk X.prog X.w H s.heap
 len:σ.length=X.N.length
section
variable {X:Cx} {pins:List (Addr×Obj)} {σ:List (Option V)} {H H':Hp} {s:Shared} {h':Heap}
theorem Cx.Ok.nofr(ok:X.Ok){b:Addr}{o:Obj}(e:X.base.get? b=some o):b∉X.fs:=λhb=>by
 have:=(ok.funs.mem hb).1;rw[e]at this;cases this
theorem AU.bs(I:AU X pins σ H s):∀b o,X.base.get? b=some o->s.heap.get? b=some o/\H b=none:=λb o e =>
 ⟨I.base.keep b o (I.ok.bs b o e).1 (I.ok.bs b o e).2 (I.ok.nofr e) (I.ok.noex b o e),I.base.free b o (I.ok.bs b o e).1 (I.ok.bs b o e).2 (I.ok.noex b o e)⟩
theorem AU.bk(I:AU X pins σ H s):∀b o,X.base.get? b=some o->s.heap.get? b=some o:=λb o e=>(I.bs b o e).1
theorem AU.mod(I:AU X pins σ H s):Mod X.K X.mg X.base:=I.ok.mod
theorem AU.kIn(I:AU X pins σ H s):X.K.In s.heap:=I.ok.mod.kin.keeps I.bk
theorem AU.lt(I:AU X pins σ H s):X.env.locals<s.heap.objs.size:=let ⟨_,hn,_⟩:=I.loc;hn.lt
theorem AU.sz(I:AU X pins σ H s):X.s₀.heap.objs.size<=s.heap.objs.size:=Nat.le_trans I.ok.above (Nat.le_of_lt I.lt)
theorem AU.nofs(I:AU X pins σ H s){a:Addr}(h:s.heap.objs.size<=a):a∉X.fs:=λhb=>by
 obtain⟨_,o,ho,_⟩:=I.ok.funs.mem hb;exact absurd (Nat.lt_of_lt_of_le (Heap.lt_size ho) (Nat.le_trans I.sz h)) (Nat.lt_irrefl _)
theorem AU.cne(I:AU X pins σ H s):∀x c,X.env.cells.lookup x=some c->c≠X.env.locals:=λx c e z=>by
 obtain⟨v,o,ho,hd⟩:=I.cell x c e;obtain⟨m,⟨o',es,ep,ho',hd',_⟩,_⟩:=I.loc;rw[z,ho']at ho;cases ho;rw[hd']at hd;cases hd
theorem AU.funs(I:AU X pins σ H s):s.heap.FunFrames X.base X.outer:=by
 have all:∀(l:List Env),(∀b∈frs l,b∈X.fs)->X.s₀.heap.FunFrames X.base l->s.heap.FunFrames X.base l:=by
  intro l
  induction l with
  | nil=>intro _ _;trivial
  | cons env r ih =>
   intro hs hl;obtain⟨hk,⟨L,o,hf,hn,ho,hd⟩,hr⟩:=hl;have hL:L∈X.fs:=hs L (by unfold frs;rw[List.filterMap_cons,hf];exact List.mem_cons_self);obtain⟨sl,e⟩:=I.base.slot L o ho (I.ok.frf L hL) hL λz=>I.ok.exfs L z hL;exact⟨hk,⟨L,_,hf,hn,e,hd⟩,ih (λb hb=>hs b (by unfold frs;rw[List.filterMap_cons,hf];exact List.mem_cons_of_mem _ hb)) hr⟩
 exact all X.outer (λ_ hb=>hb) I.ok.funs
theorem AU.stack(I:AU X pins σ H s):s.heap.FunFrames X.base X.stack:=by
 rcases I.ok.stk with e|⟨e,hf⟩
 ·rw[e];exact I.funs
 ·rw[e]
  obtain⟨m,hn,_⟩:=I.loc;refine .cons (by rw[I.ok.kind];decide) hf hn ?_ I.funs;exact Heap.get?_none_of_le (Nat.le_trans I.ok.bsz I.ok.above)
theorem AU.stkSub(I:AU X pins σ H s):∀b∈frs X.stack,b∈X.env.locals::X.fs:=λb hb=>by
 rcases I.ok.stk with e|⟨e,hf⟩
 ·rw[e]at hb;exact List.mem_cons_of_mem _ hb
 ·rw[e]at hb
  unfold frs at hb;rw[List.filterMap_cons,hf]at hb;exact hb
theorem AU.stkFree(I:AU X pins σ H s):∀b∈frs X.stack,H b=none:=λb hb=>by
 rcases List.mem_cons.mp (I.stkSub b hb) with e|hb
 ·rw[e];exact I.free
 ·obtain⟨_,o,ho,_⟩:=I.ok.funs.mem hb
  exact I.base.free b o ho (I.ok.frf b hb) λz=>I.ok.exfs b z hb
theorem AU.step{g':Array GenState}{t':Nat}{d':Drawn}{ch:List Addr}(I:AU X pins σ H s)
  (hch:∀b∈ch,(b∈X.ex\/X.s₀.heap.objs.size<=b)/\b≠X.env.locals/\(∀x c,X.env.cells.lookup x=some c->c≠b)/\∀p∈X.pn++pins,p.1≠b)
  (keep:∀b o,b≠X.env.locals->b∉X.fs->b∉ch->s.heap.get? b=some o->H b=none->h'.get? b=some o)
  (slot:∀b o,b≠X.env.locals->b∈X.fs->b∉ch->s.heap.get? b=some o->H b=none->∃sl,h'.get? b=some { o with slots:=sl }) (free:∀b o,b∉ch->s.heap.get? b=some o->H b=none->H' b=none)
  (there:∀b o,b∉ch->s.heap.get? b=some o->∃o',h'.get? b=some o')
  (tups:∀b xs,H b=some (.tup xs)->H' b=some (.tup xs)) (frzs:∀b o u,H b=some (.frz o u)->H' b=some (.frz o u)) (tbls:∀b ps,H b=some (.tbl ps)->∃more,H' b=some (.tbl (ps++more)))
  (ns:∀m,s.heap.Ns X.env.locals m->h'.Ns X.env.locals m) (hok:HOk X.prog X.w H' h') (hg:AllBare g') :
  AU X pins σ H' { s with heap:=h',gens:=g',drawn:=d',toks:=t' }:=by
 have neL:∀b o,X.s₀.heap.get? b=some o->b≠X.env.locals:=λb o e=>Nat.ne_of_lt (Nat.lt_of_lt_of_le (Heap.lt_size e) I.ok.above);have neC:∀b o,X.s₀.heap.get? b=some o->b∉X.ex->b∉ch:=λb o e hx hb=>by
  rcases(hch b hb).1 with z|z
  ·exact hx z
  ·exact absurd (Nat.lt_of_lt_of_le (Heap.lt_size e) z) (Nat.lt_irrefl _)
 have cellK:∀x c,X.env.cells.lookup x=some c->∀v,s.heap.IsCell c v->h'.IsCell c v:=λx c e v ⟨o,ho,hd⟩=>by
  have nch:c∉ch:=λz=>(hch c z).2.2.1 x c e rfl
  by_cases hc:c∈X.fs
  ·obtain⟨sl,q⟩:=slot c o (I.cne x c e) hc nch ho (I.freeC x c e)
   exact⟨_,q,hd⟩
  ·exact⟨o,keep c o (I.cne x c e) hc nch ho (I.freeC x c e),hd⟩
 refine⟨I.ok,I.os,hg,⟨λb o e n hb hx=>?_,λb o e n hb hx=>?_,λb o e n hx=>?_,λb o e hx=>?_,λb xs e=>tups b xs (I.base.tups b xs e),λb o xs e=>frzs b o xs (I.base.frzs b o xs e),λb ps e=>?_⟩,?_,λx c e=>?_,?_,λx c e=>?_,λp hp=>?_,hok,I.len⟩
 ·exact keep b o (neL b o e) hb (neC b o e hx) (I.base.keep b o e n hb hx) (I.base.free b o e n hx)
 ·obtain⟨sl,e1⟩:=I.base.slot b o e n hb hx
  obtain⟨sl',e2⟩:=slot b _ (neL b o e) hb (neC b o e hx) e1 (I.base.free b o e n hx);exact⟨sl',e2⟩
 ·obtain⟨o',e1⟩:=I.base.there b o e hx
  exact free b o' (neC b o e hx) e1 (I.base.free b o e n hx)
 ·obtain⟨o',e1⟩:=I.base.there b o e hx
  exact there b o' (neC b o e hx) e1
 ·obtain⟨m1,e1⟩:=I.base.tbls b ps e
  obtain⟨m2,e2⟩:=tbls b _ e1;exact⟨m1++m2,by rw[e2,Array.append_assoc]⟩
 ·obtain⟨m,hn,hl⟩:=I.loc
  refine⟨m,ns m hn,λi x v e1 e2 e3=>?_⟩;obtain⟨u,r,l⟩:=hl i x v e1 e2 e3;refine⟨u,r,?_⟩;rcases l with l|⟨k,c,e,z⟩
  ·exact .inl l
  ·exact .inr ⟨k,c,e,cellK x c e _ z⟩
 ·obtain⟨v,z⟩:=I.cell x c e
  exact⟨v,cellK x c e v z⟩
 ·obtain⟨m,⟨o,_,_,ho,_⟩,_⟩:=I.loc
  exact free _ o (λz=>(hch _ z).2.1 rfl) ho I.free
 ·obtain⟨v,o,ho,hd⟩:=I.cell x c e
  exact free c o (λz=>(hch c z).2.2.1 x c e rfl) ho (I.freeC x c e)
 ·obtain⟨e,n,ne,nf,d⟩:=I.pin p hp
  have nch:p.1∉ch:=λz=>(hch p.1 z).2.2.2 p hp rfl;exact⟨keep p.1 p.2 ne nf nch e n,free p.1 p.2 nch e n,ne,nf,d⟩
theorem AU.un{t':Nat}(I:AU X pins σ H s)(u:Un X.fs [] H H' s.heap h')(hok:HOk X.prog X.w H' h'):AU X pins σ H' { s with heap:=h',toks:=t' }:=by
 obtain⟨m,⟨o,es,ep,ho,r⟩,_⟩:=id I.loc;obtain⟨sl,hL⟩:=u.any ho I.free (by simp);exact I.step (g':=s.gens) (d':=s.drawn) (ch:=[]) (λ_ z=>nomatch z) (λb o _ hb _ e n=>u.keep b o e n hb (by simp)) (λb o _ hb _ e n=>u.slot b o e n hb (by simp)) (λb o _ e n=>u.free b o e n (by simp)) (λb o _ e=>u.there b o e (by simp)) u.tups u.frzs u.tbls (λm' hm=>by
  obtain⟨o',es',ep',ho',r'⟩:=hm;rw[ho]at ho';cases ho';exact⟨_,es',ep',hL,r'⟩) hok I.bare
theorem AU.call{g':Array GenState}{t':Nat}{d':Drawn}{ch:List Addr}(I:AU X pins σ H s)(u:Un (frs X.stack) ch H H' s.heap h')(hok:HOk X.prog X.w H' h')(hg:AllBare g')
  (hch:∀b∈ch,(b∈X.ex\/X.s₀.heap.objs.size<=b)/\b≠X.env.locals/\(∀x c,X.env.cells.lookup x=some c->c≠b)/\∀p∈X.pn++pins,p.1≠b) :
  AU X pins σ H' { s with heap:=h',gens:=g',drawn:=d',toks:=t' }:=by
 obtain⟨m,⟨o,es,ep,ho,r⟩,_⟩:=id I.loc;obtain⟨sl,hL⟩:=u.any ho I.free λz=>(hch _ z).2.1 rfl;exact I.step (ch:=ch) hch (λb o hL hb hc e n=>u.keep b o e n (λz=>(List.mem_cons.mp (I.stkSub b z)).elim hL hb) hc) (λb o _ _ hc e n=>u.any e n hc) (λb o hc e n=>u.free b o e n hc) (λb o hc e=>u.there b o e hc) u.tups u.frzs u.tbls (λm' hm=>by
  obtain⟨o',es',ep',ho',r'⟩:=hm;rw[ho]at ho';cases ho';exact⟨_,es',ep',hL,r'⟩) hok hg
theorem AU.turned{t':Nat}{it:Addr}(I:AU X pins σ H s)(k:∀b o,b≠it->s.heap.get? b=some o->h'.get? b=some o)(hn:H it=none)(hL:it≠X.env.locals)
  (h1:it∈X.ex\/X.s₀.heap.objs.size<=it) (h2:∀x c,X.env.cells.lookup x=some c->c≠it) (h3:∀p∈X.pn++pins,p.1≠it):AU X pins σ H { s with heap:=h',toks:=t' }:=by
 have nit:∀b u,H b=some u->b≠it:=λb u e z=>by rw[z,hn]at e;cases e
 refine I.step (g':=s.gens) (d':=s.drawn) (ch:=[it]) (λb hb=>?_) (λb o _ _ hc e _=>k b o (λz=>hc (by simp[z])) e) (λb o _ _ hc e _=>⟨o.slots,k b o (λz=>hc (by simp[z])) e⟩) (λ_ _ _ _ n=>n)
  (λb o hc e=>⟨o,k b o (λz=>hc (by simp[z])) e⟩) (λ_ _ e=>e) (λ_ _ _ e=>e) (λb ps e=>⟨#[],by rw[e];simp⟩) (λm hm=>?_) (λb u e=>?_) I.bare
 ·have e:b=it:=by simpa using hb
  subst e;exact⟨h1,hL,h2,h3⟩
 ·obtain⟨o,es,ep,ho,r⟩:=hm
  exact⟨o,es,ep,k _ o (Ne.symm hL) ho,r⟩
 ·refine(I.hok b u e).stay (λc v hc q=>k c v ?_ q) (λ_ q=>q) λ_ _ q=>q
  rcases hc with z|z
  ·rw[z];exact nit b u e
  ·exact nit c _ z
theorem AU.tok(I:AU X pins σ H s)(t:Nat):AU X pins σ H { s with toks:=t }:=I.un (h':=s.heap) (t':=t) Un.refl I.hok
theorem AU.kept{t':Nat}(I:AU X pins σ H s)(k:∀b u,s.heap.get? b=some u->h'.get? b=some u):AU X pins σ H { s with heap:=h',toks:=t' }:=I.un (Un.kept k) (I.hok.kept k)
theorem AU.laid{a:Addr}{o:HO}{t':Nat}(I:AU X pins σ H s)(k:∀b u,s.heap.get? b=some u->h'.get? b=some u)(hp:s.heap.objs.size<=a)(new:bV X.prog X.w (upd H a o) h' a o) :
  AU X pins σ (upd H a o) { s with heap:=h',toks:=t' }:=I.un (Un.laid k hp (I.hok.fresh hp)) (I.hok.laid k hp new)
theorem AU.write{x e:Addr}{o:HO}{t':Nat}(I:AU X pins σ H s)(mu:Mut (H x))(he:e=x\/H e=some (.own x))(k:∀b u,b≠e->s.heap.get? b=some u->h'.get? b=some u)(heo:∃u,h'.get? e=some u)
  (new:bV X.prog X.w (upd H x o) h' x o):AU X pins σ (upd H x o) { s with heap:=h',toks:=t' }:=I.un (Un.write mu he k heo) (I.hok.write mu he k heo new)
theorem AU.pins_of{pins':List (Addr×Obj)}(I:AU X pins σ H s)(h:∀p∈pins',s.heap.get? p.1=some p.2/\H p.1=none/\p.1≠X.env.locals/\p.1∉X.fs/\∀v,p.2.data≠.cell v):AU X pins' σ H s :=
 ⟨I.ok,I.os,I.bare,I.base,I.loc,I.cell,I.free,I.freeC,λp hp=>(List.mem_append.mp hp).elim (λz=>I.pin p (List.mem_append_left _ z)) (h p),I.hok,I.len⟩
theorem nM{N:List Str}(hN:N.Nodup){i j:Nat}{x:Str}(a:N[i]? = some x)(b:N[j]? = some x):i=j:=by
 obtain⟨h1,e1⟩:=List.getElem?_eq_some_iff.mp a;obtain⟨h2,e2⟩:=List.getElem?_eq_some_iff.mp b;exact(List.getElem_inj hN).mp (e1.trans e2.symm)
theorem k6{M:Model}{A:Around}{E:Value->Shared->Prop}{i:Nat}{x:Str}{v:V}{u:Value}{Q:Unit->Shared->Prop}(I:AU X pins σ H s)(hN:X.N.Nodup)(hi:X.N[i]? = some x)(hx:Loc X.env.scope x)(r:a9 v u)
  (h:∀s',AU X pins (σ.set i (some v)) H s'->(∃a,Heap.SameBut a s.heap s'.heap/\(a=X.env.locals\/X.env.cells.lookup x=some a))->Q () s') (hf:X.fn x=true\/X.env.scope.names.lookup x=some .local:=by first|exact .inl rfl|exact .inr rfl|assumption):wpAny M A (storeName X.env x u) Q E s:=by
 obtain⟨m,hn,hl⟩:=id I.loc;have hcls:(X.env.scope.kind == .class || (X.env.scope.kind == .module && X.env.locals != X.env.globals))=false:=by rw[I.ok.kind];rfl
 have hiσ:i<σ.length:=by rw[I.len];exact(List.getElem?_eq_some_iff.mp hi).1
 have cne:=I.cne;have tracked:∀{a:Addr} {h':Heap},(∃o,s.heap.get? a=some o/\H a=none)->Heap.SameBut a s.heap h'->HOk X.prog X.w H h':=λ{a h'} ha hs b ob e=>by
  obtain⟨_,_,hfree⟩:=ha;refine(I.hok b ob e).stay (λc w' hc q=>(hs.2 c ?_).trans q) (λ_ q=>q) λ_ _ q=>q;rintro rfl;rcases hc with rfl|hc
  ·rw[hfree]at e;cases e
  ·rw[hfree]at hc;cases hc
 rcases hx with hk|hk
 ·refine wpAny_storeName_local hk hn (λh' hn' hs=>?_) hcls
  obtain⟨oL,_,_,hoL,_⟩:=id hn;refine h _ ⟨I.ok,I.os,I.bare,⟨λb o e n hb hx=>?_,λb o e n hb hx=>?_,I.base.free,λb o e hx=>?_,I.base.tups,I.base.frzs,I.base.tbls⟩,⟨_,hn',λj y v' e1 e2 e3=>?_⟩,λy c e=>?_,I.free,I.freeC,λp hp=>?_,tracked ⟨oL,hoL,I.free⟩ hs,by simpa using I.len⟩ ⟨_,hs,.inl rfl⟩
  ·exact(hs.2 b (Nat.ne_of_lt (Nat.lt_of_lt_of_le (Heap.lt_size e) I.ok.above))).trans (I.base.keep b o e n hb hx)
  ·obtain⟨sl,e1⟩:=I.base.slot b o e n hb hx
   exact⟨sl,(hs.2 b (Nat.ne_of_lt (Nat.lt_of_lt_of_le (Heap.lt_size e) I.ok.above))).trans e1⟩
  ·obtain⟨o',e1⟩:=I.base.there b o e hx
   exact⟨o',(hs.2 b (Nat.ne_of_lt (Nat.lt_of_lt_of_le (Heap.lt_size e) I.ok.above))).trans e1⟩
  ·by_cases hj:j=i
   ·subst hj
    rw[hi]at e1;cases e1;rw[List.getElem?_set_self hiσ]at e2;cases e2;exact⟨u,r,.inl ⟨hk,by simp⟩⟩
   ·rw[List.getElem?_set_ne (Ne.symm hj)]at e2
    obtain⟨u',r',q⟩:=hl j y v' e1 e2 e3;refine⟨u',r',?_⟩;rcases q with⟨k,e⟩|⟨k,c,e,z⟩
    ·refine .inl ⟨k,?_⟩
     have:y≠x:=λe=>hj (nM hN e1 (e▸hi));simp[this,e]
    ·exact .inr ⟨k,c,e,z.sameBut hs (cne y c e)⟩
  ·obtain⟨w',z⟩:=I.cell y c e
   exact⟨w',z.sameBut hs (cne y c e)⟩
  ·obtain⟨e,n,ne,nf,d⟩:=I.pin p hp
   exact⟨(hs.2 p.1 ne).trans e,n,ne,nf,d⟩
 ·have hfn:X.fn x=true:=by
   rcases hf with z|z
   ·exact z
   ·rw[z]at hk;cases hk
  obtain⟨c,hc⟩:=I.ok.has x (.inl hk);obtain⟨w',z⟩:=I.cell x c hc;refine wpAny_storeName_cell I.ok.kind hk hc z (λh' hc' hs=>?_);obtain⟨oc,hoc,hocd⟩:=id z;refine h { s with heap:=h' } ⟨I.ok,I.os,I.bare,⟨λb o e n hb hx=>?_,λb o e n hb hx=>?_,I.base.free,λb o e hx=>?_,I.base.tups,I.base.frzs,I.base.tbls⟩,⟨m,hn.sameBut hs (Ne.symm (cne x c hc)),λj y v' e1 e2 e3=>?_⟩,λy c' e=>?_,I.free,I.freeC,λp hp=>?_,tracked ⟨oc,hoc,I.freeC x c hc⟩ hs,by simpa using I.len⟩ ⟨c,hs,.inr hc⟩
  ·exact(hs.2 b (Nat.ne_of_lt (Nat.lt_of_lt_of_le (Heap.lt_size e) (I.ok.cab x c hfn hc)))).trans (I.base.keep b o e n hb hx)
  ·obtain⟨sl,e1⟩:=I.base.slot b o e n hb hx
   exact⟨sl,(hs.2 b (Nat.ne_of_lt (Nat.lt_of_lt_of_le (Heap.lt_size e) (I.ok.cab x c hfn hc)))).trans e1⟩
  ·obtain⟨o',e1⟩:=I.base.there b o e hx
   exact⟨o',(hs.2 b (Nat.ne_of_lt (Nat.lt_of_lt_of_le (Heap.lt_size e) (I.ok.cab x c hfn hc)))).trans e1⟩
  ·by_cases hj:j=i
   ·subst hj
    rw[hi]at e1;cases e1;rw[List.getElem?_set_self hiσ]at e2;cases e2;exact⟨u,r,.inr ⟨.inl hk,c,hc,hc'⟩⟩
   ·rw[List.getElem?_set_ne (Ne.symm hj)]at e2
    obtain⟨u',r',q⟩:=hl j y v' e1 e2 e3;refine⟨u',r',?_⟩;rcases q with q|⟨k,c',e,z'⟩
    ·exact .inl q
    ·refine .inr ⟨k,c',e,z'.sameBut hs ?_⟩
     rintro rfl;exact hj (nM hN e1 (I.ok.inj _ _ _ e hc▸hi))
  ·by_cases hcc:c'=c
   ·subst hcc;exact⟨_,hc'⟩
   ·obtain⟨w2,z2⟩:=I.cell y c' e
    exact⟨w2,z2.sameBut hs hcc⟩
  ·obtain⟨e,n,ne,nf,d⟩:=I.pin p hp
   refine⟨(hs.2 p.1 ?_).trans e,n,ne,nf,d⟩;intro q;rw[q,hoc]at e;have q':oc=p.2:=Option.some.inj e;exact d w' (by rw[<- q'];exact hocd)
theorem fJ{M:Model}{A:Around}{E:Value->Shared->Prop}{i:Nat}{x:Str}{v:V}{u:Value}{Q:Unit->Shared->Prop}(I:AU X pins σ H s)(hN:X.N.Nodup)(hi:X.N[i]? = some x)(hx:Loc X.env.scope x)(r:a9 v u)
  (h:∀s',AU X pins (σ.set i (some v)) H s'->Q () s') (hf:X.fn x=true\/X.env.scope.names.lookup x=some .local:=by first|exact .inl rfl|exact .inr rfl|assumption):wpAny M A (storeName X.env x u) Q E s :=
 k6 I hN hi hx r (λs' I' _=>h s' I') hf
theorem AU.call'{s':Shared}{ch:List Addr}(I:AU X pins σ H s)(ho:s'.os=s.os)(u:Un (frs X.stack) ch H H' s.heap s'.heap)(hok:HOk X.prog X.w H' s'.heap)(hg:AllBare s'.gens)
  (hch:∀b∈ch,(b∈X.ex\/X.s₀.heap.objs.size<=b)/\b≠X.env.locals/\(∀x c,X.env.cells.lookup x=some c->c≠b)/\∀p∈X.pn++pins,p.1≠b):AU X pins σ H' s':=by
 obtain⟨h',g',d',t',o'⟩:=s';have e:o'=s.os:=ho;subst e;exact I.call (g':=g') (t':=t') (d':=d') u hok hg hch
end
noncomputable abbrev XK:=Value->Option Addr->Hp->Prop
noncomputable abbrev St:=List (Option V)
noncomputable abbrev VK:=V->Hp->Prop
noncomputable abbrev TE:=St->Hp->VK->Prop
noncomputable abbrev TT:=St->Hp->(Bool->Hp->Prop)->Prop
noncomputable abbrev TA:=St->Hp->(List V->Hp->Prop)->Prop
structure DA where
 nx:St->Hp->Prop
 rt:VK
 bk:St->Hp->Prop:=λ_ _=>False
 ct:St->Hp->Prop:=λ_ _=>False
noncomputable abbrev TS:=DA->St->Hp->Prop
noncomputable def EP(X:Cx)(pins:List (Addr×Obj))(σ:St)(Q:VK)(u:Value)(s':Shared):Prop:=∃v H',AU X pins σ H' s'/\a9 v u/\Q v H'
noncomputable def TP(X:Cx)(pins:List (Addr×Obj))(σ:St)(Q:Bool->Hp->Prop)(b:Bool)(s':Shared):Prop:=∃H',AU X pins σ H' s'/\Q b H'
noncomputable def AP(X:Cx)(pins:List (Addr×Obj))(σ:St)(Q:List V->Hp->Prop)(us:List Value)(s':Shared):Prop:=∃vs H',AU X pins σ H' s'/\aV vs us/\Q vs H'
noncomputable def SP(X:Cx)(pins:List (Addr×Obj))(D:DA)(f:Flow)(s':Shared):Prop :=
 match f with
 | .next=>∃σ' H',AU X pins σ' H' s'/\D.nx σ' H'
 | .brk=>∃σ' H',AU X pins σ' H' s'/\D.bk σ' H'
 | .cont=>∃σ' H',AU X pins σ' H' s'/\D.ct σ' H'
 | .ret u=>∃v σ' H',AU X pins σ' H' s'/\a9 v u/\D.rt v H'
noncomputable def PE(X:Cx)(e:Expr)(t:TE):Prop :=
 ∀(pins:List (Addr×Obj)) (s:Shared) (σ:St) (H:Hp) (Q:VK),AU X pins σ H s->t σ H Q->wpAny (model X.prog X.w) X.A (eval e X.env) (EP X pins σ Q) X.xe s
noncomputable def PT(X:Cx)(e:Expr)(t:TT):Prop :=
 ∀(pins:List (Addr×Obj)) (s:Shared) (σ:St) (H:Hp) (Q:Bool->Hp->Prop),AU X pins σ H s->t σ H Q->wpAny (model X.prog X.w) X.A (isTrue e X.env (eval e X.env)) (TP X pins σ Q) X.xe s
noncomputable def PW(X:Cx)(e:Expr)(t:TT):Prop :=
 ∀(whole:Sem Value) (pins:List (Addr×Obj)) (s:Shared) (σ:St) (H:Hp) (Q:Bool->Hp->Prop),AU X pins σ H s->t σ H Q->wpAny (model X.prog X.w) X.A (isTrue e X.env whole) (TP X pins σ Q) X.xe s
theorem PW.pt{X:Cx}{e:Expr}{t:TT}(h:PW X e t):PT X e t:=h _
noncomputable def PA(X:Cx)(es:List Expr)(t:TA):Prop :=
 ∀(pos:Pos) (pins:List (Addr×Obj)) (s:Shared) (σ:St) (H:Hp) (Q:List V->Hp->Prop),AU X pins σ H s->t σ H Q->wpAny (model X.prog X.w) X.A (spliced (backTo pos (starEach es X.env))) (AP X pins σ Q) X.xe s
noncomputable def PS(X:Cx)(st:Stmt)(t:TS):Prop :=
 ∀(pins:List (Addr×Obj)) (s:Shared) (σ:St) (H:Hp) (D:DA),AU X pins σ H s->t D σ H->wpAny (model X.prog X.w) X.A (exec st X.env) (SP X pins D) X.xe s
noncomputable def PSs(X:Cx)(st:List Stmt)(t:TS):Prop :=
 ∀(pins:List (Addr×Obj)) (s:Shared) (σ:St) (H:Hp) (D:DA),AU X pins σ H s->t D σ H->wpAny (model X.prog X.w) X.A (execs st X.env) (SP X pins D) X.xe s
theorem thn{α:Type}{t:Sem α}{Q Q':α->Shared->Prop}{M:Model}{A:Around}{E:Value->Shared->Prop}{s:Shared}(h:wpAny M A t Q E s)(hQ:∀a s,Q a s->Q' a s):wpAny M A t Q' E s:=wpAny_mono h hQ λ_ _ x=>x
section
variable {X:Cx}
inductive Gf (i:Nat) (σ:St) (H:Hp) (Q:VK):Prop
 | mk (v:V) (e:σ[i]? = some (some v)) (q:Q v H):Gf i σ H Q
noncomputable def tC(v:V):TE:=λ_ H Q=>Q v H
theorem tP{i:Nat}{x:Str}{pos:Pos}(hN:X.N[i]? = some x)(hv:Vis X.env.scope x)(hd:(x == ("__debug__" : Str))=false:=by decide)(hcd:(x == ("__classdict__" : Str))=false:=by decide):PE X (.Name x pos) (Gf i):=by
 intro pins s σ H Q I h;obtain⟨v,e,h⟩:=h;obtain⟨m,hn,hl⟩:=I.loc;obtain⟨u,r,l⟩:=hl i x v hN e hv;have fin:EP X pins σ Q u s:=⟨v,H,I,r,h⟩;rcases l with⟨hk,hm⟩|⟨hk,c,hc,hcell⟩
 ·exact wpAny_Name (wpAny_loadName_local I.ok.kind hk hn hm fin) hd
 ·rcases hk with hk|hk
  ·exact wpAny_Name (wpAny_loadName_cell I.ok.kind hk hc hcell fin) hd
  ·exact wpAny_Name (wpAny_loadName_free I.ok.kind hk hc hcell fin hcd) hd
theorem af{i j pos}:PE X (.Constant (.int i) j pos) (tC (.int i)):=λ_ _ _ H _ I h=>wpAny_Constant_int ⟨.int i,H,I.tok _,⟨_,rfl⟩,h⟩
theorem iT{b j pos}:PE X (.Constant (.bool b) j pos) (tC (.bl b)):=λ_ _ _ H _ I h=>Constant_bool ⟨.bl b,H,I,rfl,h⟩
theorem bJ{j pos}:PE X (.Constant .none j pos) (tC .non):=λ_ _ _ H _ I h=>Constant_none ⟨.non,H,I,rfl,h⟩
theorem dF{x j pos}:PE X (.Constant (.str x) j pos) (tC (.str x)):=λ_ _ _ H _ I h=>Calls.Constant_str ⟨.str x,H,I.tok _,⟨_,rfl⟩,h⟩
noncomputable def Gl(X:Cx)(x:Str):Prop:=X.env.kindOf x=some .globalImplicit
theorem hZ{E:Value->Shared->Prop}{pins:List (Addr×Obj)}{s:Shared}{σ:St}{H:Hp}{x:Str}{u:Value}{pos:Pos}{Q:Value->Shared->Prop}(I:AU X pins σ H s)(hg:Gl X x)(hm:X.mg x=some u)(h:Q u s)
  (hd:(x == ("__debug__" : Str))=false:=by decide):wpAny (model X.prog X.w) X.A (eval (.Name x pos) X.env) Q E s :=
 Calls.Name_function_global I.ok.kind hg (Calls.loadGlobal_global (by rw[I.ok.glob];exact I.mod.glob.keeps I.bk) hm h) hd
theorem fP{E:Value->Shared->Prop}{pins:List (Addr×Obj)}{s:Shared}{σ:St}{H:Hp}{x:Str}{u:Value}{pos:Pos}{Q:Value->Shared->Prop}(I:AU X pins σ H s)(hg:Gl X x)(hm:X.mg x=none)(hv:bootBuiltins x=some u)(h:Q u s)
  (hn:x≠"__name__":=by decide) (hd:(x == ("__debug__" : Str))=false:=by decide):wpAny (model X.prog X.w) X.A (eval (.Name x pos) X.env) Q E s:=by
 obtain⟨mb,h1,h2⟩:=I.mod.blt;exact Calls.Name_function_global I.ok.kind hg (Calls.loadGlobal_builtin (by rw[I.ok.glob];exact I.mod.glob.keeps I.bk) hm (by rw[I.ok.blt];exact h1.keeps I.bk) ((h2 x hn).trans hv) h) hd
theorem aX{x:Str}{v:V}{u:Value}{pos:Pos}(hg:Gl X x)(hm:X.mg x=some u)(r:a9 v u)(hd:(x == ("__debug__" : Str))=false:=by decide):PE X (.Name x pos) (tC v) :=
 λ_ _ _ H _ I h=>hZ I hg hm ⟨v,H,I,r,h⟩ hd
theorem vT{x:Str}{v:V}{u:Value}{pos:Pos}(hg:Gl X x)(hm:X.mg x=none)(hv:bootBuiltins x=some u)(r:a9 v u)(hn:x≠"__name__":=by decide)(hd:(x == ("__debug__" : Str))=false:=by decide):PE X (.Name x pos) (tC v) :=
 λ_ _ _ H _ I h=>fP I hg hm hv ⟨v,H,I,r,h⟩ hn hd
variable {a b:Expr} {ta tb:TE} {pos:Pos}
noncomputable def PC(X:Cx)(op:CmpOp)(a b:Expr)(t:TE):Prop :=
 ∀(pins:List (Addr×Obj)) (s:Shared) (σ:St) (H:Hp) (Q:VK),AU X pins σ H s->t σ H Q ->
  wpAny (model X.prog X.w) X.A (eval a X.env) (λv s1=>wpAny (model X.prog X.w) X.A (eval b X.env) (λu s2=>wpAny (model X.prog X.w) X.A (compareOp op v u) (EP X pins σ Q) X.xe s2) X.xe s1) X.xe s
noncomputable def tB(t:TE):TT:=λσ H Q=>t σ H λx H1=>∃c,x = .bl c/\Q c H1
theorem iz{op:CmpOp}{t:TE}(h:PC X op a b t)(h1:behindInMarks op b=false:=by first|exact nobehind _ (by decide) (by decide)|rfl):PT X (.Compare a [op] [b] pos) (tB t):=by
 intro pins s σ H Q I hw;refine wpAny_isTrue_Compare1 (thn (h pins s σ H _ I hw) λv s1 h1=>thn h1 λu s2 h2=>thn h2 λc s3 ⟨x,H1,I1,r1,q1⟩=>?_) h1;obtain⟨d,rfl,q⟩:=q1;cases r1;exact wpAny_truthy_bool ⟨H1,I1,q⟩
theorem de{e:Expr}{t:TE}(h:PE X e t)(he:∀whole,isTrue e X.env whole=(do let v <- whole;standAt e.pos;holding [v] (truthy v)):=by intro _;rfl):PT X e (tB t):=by
 intro pins s σ H Q I hw;refine isTrue_plain (thn (h pins s σ H _ I hw) λv s1 ⟨x,H1,I1,r1,q1⟩=>?_) (he _);obtain⟨d,rfl,q⟩:=q1;cases r1;exact wpAny_truthy_bool ⟨H1,I1,q⟩
variable {tA tB':TT} {rest:List Expr}
noncomputable def Az(t u:TT):TT:=λσ H Q=>t σ H λc H1=>if c=true then u σ H1 Q else Q false H1
noncomputable def tOr(t u:TT):TT:=λσ H Q=>t σ H λc H1=>if c=true then Q true H1 else u σ H1 Q
noncomputable def Aq(t:TT):TT:=λσ H Q=>t σ H λc H1=>Q (!c) H1
theorem jo(ha:PT X a tA):PW X (.BoolOp .And [a] pos) tA:=by
 intro wh pins s σ H Q I h;refine isTrue_and (thn (ha pins s σ H Q I h) λc s1 e=>?_);cases c with
 | true=>exact isTrue_and_nil e
 | false=>exact e
theorem fc(ha:PT X a tA):PW X (.BoolOp .Or [a] pos) tA:=by
 intro wh pins s σ H Q I h;refine isTrue_or (thn (ha pins s σ H Q I h) λc s1 e=>?_);cases c with
 | false=>exact isTrue_or_nil e
 | true=>exact e
theorem jJ(ha:PT X a tA)(hb:PW X (.BoolOp .And (b::rest) pos) tB'):PW X (.BoolOp .And (a::b::rest) pos) (Az tA tB'):=by
 intro wh pins s σ H Q I h;refine isTrue_and (thn (ha pins s σ H _ I h) λc s1 ⟨H1,I1,q1⟩=>?_);cases c with
 | true=>exact hb wh pins s1 σ H1 Q I1 q1
 | false=>exact⟨H1,I1,q1⟩
theorem fw(ha:PT X a tA)(hb:PW X (.BoolOp .Or (b::rest) pos) tB'):PW X (.BoolOp .Or (a::b::rest) pos) (tOr tA tB'):=by
 intro wh pins s σ H Q I h;refine isTrue_or (thn (ha pins s σ H _ I h) λc s1 ⟨H1,I1,q1⟩=>?_);cases c with
 | true=>exact⟨H1,I1,q1⟩
 | false=>exact hb wh pins s1 σ H1 Q I1 q1
theorem gE(ha:PT X a tA):PT X (.UnaryOp .Not a pos) (Aq tA):=by
 intro pins s σ H Q I h;exact isTrue_not (ha pins s σ H (λc H1=>Q (!c) H1) I h)
noncomputable def zE(ta tb:TE):TE:=λσ H Q=>ta σ H λx H1=>∃c,x = .bl c/\if c=true then tb σ H1 Q else Q (.bl false) H1
noncomputable def Ap(ta tb:TE):TE:=λσ H Q=>ta σ H λx H1=>∃c,x = .bl c/\if c=true then Q (.bl true) H1 else tb σ H1 Q
noncomputable def zw(ta:TE):TE:=λσ H Q=>ta σ H λx H1=>∃c,x = .bl c/\Q (.bl (!c)) H1
theorem iC{op}{t:TE}(h:PE X a t):PE X (.BoolOp op [a] pos) t:=λpins s σ H Q I hw=>BoolOp_one (h pins s σ H Q I hw)
theorem mf(ha:PE X a ta)(hb:PE X (.BoolOp .And (b::rest) pos) tb):PE X (.BoolOp .And (a::b::rest) pos) (zE ta tb):=by
 intro pins s σ H Q I h;refine BoolOp_and (thn (ha pins s σ H _ I h) λv s1 ⟨x,H1,I1,r1,q1⟩=>?_);obtain⟨c,rfl,q1⟩:=q1;cases r1;refine wpAny_truthy_bool ?_;cases c with
 | true=>exact hb pins s1 σ H1 Q I1 q1
 | false=>exact⟨.bl false,H1,I1,rfl,q1⟩
theorem xn(ha:PE X a ta)(hb:PE X (.BoolOp .Or (b::rest) pos) tb):PE X (.BoolOp .Or (a::b::rest) pos) (Ap ta tb):=by
 intro pins s σ H Q I h;refine BoolOp_or (thn (ha pins s σ H _ I h) λv s1 ⟨x,H1,I1,r1,q1⟩=>?_);obtain⟨c,rfl,q1⟩:=q1;cases r1;refine wpAny_truthy_bool ?_;cases c with
 | false=>exact hb pins s1 σ H1 Q I1 q1
 | true=>exact⟨.bl true,H1,I1,rfl,q1⟩
theorem yg(ha:PE X a ta):PE X (.UnaryOp .Not a pos) (zw ta):=by
 intro pins s σ H Q I h;refine UnaryOp_ (thn (ha pins s σ H _ I h) λv s1 ⟨x,H1,I1,r1,q1⟩=>?_);obtain⟨c,rfl,q1⟩:=q1;cases r1;exact not_of (wpAny_truthy_bool ⟨.bl (!c),H1,I1,rfl,q1⟩)
noncomputable def tIf(t:TT)(ta tb:TE):TE:=λσ H Q=>t σ H λc H1=>if c=true then ta σ H1 Q else tb σ H1 Q
theorem fK{c:Expr}(hc:PT X c tA)(ha:PE X a ta)(hb:PE X b tb):PE X (.IfExp c a b pos) (tIf tA ta tb):=by
 intro pins s σ H Q I h;refine wpAny_IfExp (thn (hc pins s σ H _ I h) λd s1 ⟨H1,I1,q1⟩=>?_);cases d with
 | true=>exact ha pins s1 σ H1 Q I1 q1
 | false=>exact hb pins s1 σ H1 Q I1 q1
end
noncomputable def SqL(K:W.Frag)(H:Hp)(a:Addr)(xs:List V):Prop :=
 Rd H a (.lst xs) \/
  ∃(o:Obj) (its:Array Value) (n:Nat),K.lookup a=some o/\o.cls = .type "list"/\o.dict=none/\o.data = .seq its n/\its.size<=sizeLine/\aV xs its.toList
noncomputable def SqT(K:W.Frag)(H:Hp)(a:Addr)(xs:List V):Prop :=
 Rd H a (.tup xs) \/
  ∃(o:Obj) (its:Array Value) (n:Nat),K.lookup a=some o/\o.cls = .type "tuple"/\o.data = .seq its n/\its.size<=sizeLine/\aV xs its.toList
noncomputable def AN:Value->Option V
 | .none=>some .non
 | .bool b=>some (.bl b)
 | .int i _=>some (.int i)
 | .str x _=>some (.str x)
 | .bytes b _=>some (.byt b)
 | .float b _=>some (.flt b)
 | .ref a=>some (.ref a)
 | .type n=>some (.ty n)
 | _=>none
theorem a9.abs{x:V}{u:Value}(r:a9 x u):AN u=some x:=by
 cases x with
 | non=>cases r;rfl
 | bl _=>cases r;rfl
 | int _=>obtain⟨t,rfl⟩:=r;rfl
 | str _=>obtain⟨t,rfl⟩:=r;rfl
 | byt _=>obtain⟨t,rfl⟩:=r;rfl
 | flt _=>obtain⟨t,rfl⟩:=r;rfl
 | ref _=>cases r;rfl
 | ty _=>cases r;rfl
theorem a9.inj{x y:V}{u:Value}(r:a9 x u)(q:a9 y u):x=y:=Option.some.inj (r.abs.symm.trans q.abs)
theorem aV.inj:∀{xs ys:List V} {us:List Value},aV xs us->aV ys us->xs=ys
 | _,_,_,.nil,.nil=>rfl
 | _,_,_,.cons r t,.cons r' t'=>by rw[r.inj r',aV.inj t t']
section
variable {X:Cx} {pins:List (Addr×Obj)} {σ:St} {H:Hp} {s:Shared} {a:Addr} {xs ys:List V}
theorem SqL.of{K:W.Frag}(h:H a=some (.lst xs)):SqL K H a xs:=.inl (.inl h)
theorem SqT.of{K:W.Frag}(h:H a=some (.tup xs)):SqT K H a xs:=.inl (.inl h)
theorem AU.list(I:AU X pins σ H s)(h:SqL X.K H a xs):∃its:List Value,aV xs its/\PlainL s.heap a its.toArray/\xs.length<=sizeLine:=by
 rcases h with h|⟨o,its,n,hk,hc,hd,hs,hz,r⟩
 ·obtain⟨z,its,n,r,e⟩:=h.ok I.hok
  exact⟨its,r,⟨_,n,e,rfl,rfl,rfl⟩,z⟩
 ·refine⟨its.toList,r,⟨o,n,I.kIn a o hk,hc,hd,by simpa using hs⟩,?_⟩
  have e:=r.length;simp only[Array.length_toList]at e;omega
theorem AU.tuple(I:AU X pins σ H s)(h:SqT X.K H a xs):∃its:List Value,aV xs its/\IsTup s.heap a its.toArray/\xs.length<=sizeLine:=by
 rcases h with h|⟨o,its,n,hk,hc,hs,hz,r⟩
 ·obtain⟨z,its,r,p⟩:=h.ok I.hok
  exact⟨its,r,p,z⟩
 ·refine⟨its.toList,r,⟨o,I.kIn a o hk,hc,n,by simpa using hs⟩,?_⟩
  have e:=r.length;simp only[Array.length_toList]at e;omega
theorem AU.list_inj(I:AU X pins σ H s)(h:SqL X.K H a xs)(h':SqL X.K H a ys):xs=ys:=by
 obtain⟨its,r,⟨o,n,e,_,_,d⟩,_⟩:=I.list h;obtain⟨its',r',⟨o',n',e',_,_,d'⟩,_⟩:=I.list h';rw[e]at e';cases e';rw[d]at d';injection d' with d1 _
 have:its=its':=by simpa using congrArg Array.toList d1
 subst this;exact r.inj r'
theorem AU.tuple_inj(I:AU X pins σ H s)(h:SqT X.K H a xs)(h':SqT X.K H a ys):xs=ys:=by
 obtain⟨its,r,⟨o,e,_,n,d⟩,_⟩:=I.tuple h;obtain⟨its',r',⟨o',e',_,n',d'⟩,_⟩:=I.tuple h';rw[e]at e';cases e';rw[d]at d';injection d' with d1 _
 have:its=its':=by simpa using congrArg Array.toList d1
 subst this;exact r.inj r'
end
noncomputable abbrev Cx.wish(X:Cx)(E:Value->Shared->Prop):Cx:={ X with xe:=E }
noncomputable abbrev Cx.nox(X:Cx):Cx:=X.wish λ_ _=>False
theorem Cx.Ok.wish{X:Cx}(ok:X.Ok)(E:Value->Shared->Prop):(X.wish E).Ok :=
 ⟨ok.mod,ok.kind,ok.glob,ok.blt,ok.above,ok.inj,ok.has,ok.cab,ok.hd,ok.frames,ok.stk,ok.exf,ok.bs,ok.bsz,ok.noex,ok.exfs,ok.funs,ok.frf⟩
theorem Cx.Ok.unwish{X:Cx}{E:Value->Shared->Prop}(ok:(X.wish E).Ok):X.Ok :=
 ⟨ok.mod,ok.kind,ok.glob,ok.blt,ok.above,ok.inj,ok.has,ok.cab,ok.hd,ok.frames,ok.stk,ok.exf,ok.bs,ok.bsz,ok.noex,ok.exfs,ok.funs,ok.frf⟩
section
variable {X:Cx} {pins:List (Addr×Obj)} {σ:St} {H:Hp} {s:Shared} {E:Value->Shared->Prop}
theorem AU.wish(I:AU X pins σ H s)(E:Value->Shared->Prop):AU (X.wish E) pins σ H s:=⟨I.ok.wish E,I.os,I.bare,I.base,I.loc,I.cell,I.free,I.freeC,I.pin,I.hok,I.len⟩
theorem AU.unwish(I:AU (X.wish E) pins σ H s):AU X pins σ H s:=⟨I.ok.unwish,I.os,I.bare,I.base,I.loc,I.cell,I.free,I.freeC,I.pin,I.hok,I.len⟩
theorem SP.unwish{D:DA}{f:Flow}{s':Shared}(h:SP (X.wish E) pins D f s'):SP X pins D f s':=by
 cases f with
 | next=>obtain⟨σ',H',I,q⟩:=h;exact⟨σ',H',I.unwish,q⟩
 | brk=>obtain⟨σ',H',I,q⟩:=h;exact⟨σ',H',I.unwish,q⟩
 | cont=>obtain⟨σ',H',I,q⟩:=h;exact⟨σ',H',I.unwish,q⟩
 | ret u=>obtain⟨v,σ',H',I,r,q⟩:=h;exact⟨v,σ',H',I.unwish,r,q⟩
theorem PSs.nox{st:List Stmt}{t:TS}(h:PSs X.nox st t):PSs X st t:=λpins s σ H D I hw =>
 wpAny_mono (h pins s σ H D (I.wish _) hw) (λ_ _ q=>q.unwish) λ_ _ z=>False.elim z
end
section
variable {X:Cx} {st:Stmt} {rest:List Stmt} {t u:TS} {e:Expr} {te:TE} {pos:Pos}
noncomputable def zx:TS:=λD σ H=>D.nx σ H
noncomputable def An(t u:TS):TS:=λD σ H=>t { D with nx:=u D } σ H
theorem aI:PSs X [] zx:=λ_ _ σ H _ I h=>wpAny_execs_nil ⟨σ,H,I,h⟩
theorem ag(h1:PS X st t)(h2:PSs X rest u):PSs X (st::rest) (An t u):=by
 intro pins s σ H D I h;refine wpAny_execs_cons (thn (h1 pins s σ H { D with nx:=u D } I h) λf s1 q=>?_);cases f with
 | next =>
  obtain⟨σ',H',I',q⟩:=q;exact h2 pins s1 σ' H' D I' q
 | ret v=>exact q
 | brk=>exact q
 | cont=>exact q
theorem am(h1:PS X st t):PSs X [st] t:=by
 intro pins s σ H D I h;refine wpAny_execs_cons (thn (h1 pins s σ H D I h) λf s1 q=>?_);cases f with
 | next=>exact wpAny_execs_nil q
 | ret v=>exact q
 | brk=>exact q
 | cont=>exact q
theorem AU.quiet{pins:List (Addr×Obj)}{σ:St}{H:Hp}{s:Shared}(I:AU X pins σ H s):interactive X.env=false:=by simp[interactive,I.ok.kind]
noncomputable def zB(te:TE):TS:=λD σ H=>te σ H λ_ H1=>D.nx σ H1
theorem ce(he:PE X e te)(hs:swapsWith e none pos.line X.env=pure false:=by rfl):PS X (.Expr e pos) (zB te):=by
 intro pins s σ H D I h;exact wpAny_Expr_any (thn (he pins s σ H _ I h) λv s1 ⟨x,H1,I1,r1,q1⟩=>⟨σ,H1,I1,q1⟩) I.quiet hs
noncomputable def zt(te:TE):TS:=λD σ H=>te σ H D.rt
theorem aB(he:PE X e te):PS X (.Return (some e) pos) (zt te):=by
 intro pins s σ H D I h;exact wpAny_Return_some (thn (he pins s σ H _ I h) λv s1 ⟨x,H1,I1,r1,q1⟩=>⟨x,σ,H1,I1,r1,q1⟩)
noncomputable def zr:TS:=λD _ H=>D.rt .non H
theorem qp:PS X (.Return none pos) zr:=λ_ _ σ H _ I h=>wpAny_Return_none ⟨.non,σ,H,I,rfl,h⟩
noncomputable def As(c:TT)(t u:TS):TS:=λD σ H=>c σ H λb H1=>if b=true then t D σ H1 else u D σ H1
theorem aM{c:Expr}{a b:List Stmt}{tc:TT}(hc:PT X c tc)(ha:PSs X a t)(hb:PSs X b u):PS X (.If c a b pos) (As tc t u):=by
 intro pins s σ H D I h;refine wpAny_If (thn (hc pins s σ H _ I h) λd s1 ⟨H1,I1,q1⟩=>?_);cases d with
 | true=>exact ha pins s1 σ H1 D I1 q1
 | false=>exact hb pins s1 σ H1 D I1 q1
end
noncomputable abbrev TG:=V->St->Hp->(St->Hp->Prop)->Prop
noncomputable abbrev TGs:=List V->St->Hp->(St->Hp->Prop)->Prop
noncomputable def PG(X:Cx)(target:Expr)(t:TG):Prop :=
 ∀(pins:List (Addr×Obj)) (s:Shared) (σ:St) (H:Hp) (v:V) (u:Value) (Q:St->Hp->Prop),AU X pins σ H s->a9 v u->t v σ H Q ->
  wpAny (model X.prog X.w) X.A (assign target X.env u) (λ_ s'=>∃σ' H',AU X pins σ' H' s'/\Q σ' H') X.xe s
noncomputable def PGs(X:Cx)(ts:List Expr)(t:TGs):Prop :=
 ∀(pins:List (Addr×Obj)) (s:Shared) (σ:St) (H:Hp) (vs:List V) (us:List Value) (Q:St->Hp->Prop),AU X pins σ H s->aV vs us->t vs σ H Q ->
  wpAny (model X.prog X.w) X.A (assignInOrder ((assignEach ts X.env).map (·.2)) us) (λ_ s'=>∃σ' H',AU X pins σ' H' s'/\Q σ' H') X.xe s
noncomputable abbrev zd:=V->V->V->Hp->(Hp->Prop)->Prop
noncomputable def zf(X:Cx)(t:zd):Prop :=
 ∀(pins:List (Addr×Obj)) (s:Shared) (σ:St) (H:Hp) (o i v:V) (ov iv u:Value) (Q:Hp->Prop),AU X pins σ H s->a9 o ov->a9 i iv->a9 v u->t o i v H Q ->
  wpAny (model X.prog X.w) X.A (setItem ov iv u) (λ_ s'=>∃H',AU X pins σ H' s'/\Q H') X.xe s
noncomputable abbrev TIp:=V->V->Hp->VK->Prop
noncomputable def PIp(X:Cx)(op:Operator)(t:TIp):Prop :=
 ∀(pins:List (Addr×Obj)) (s:Shared) (σ:St) (H:Hp) (x y:V) (v u:Value) (Q:VK),AU X pins σ H s->a9 x v->a9 y u->t x y H Q ->
  wpAny (model X.prog X.w) X.A (inplaceOp op v u) (EP X pins σ Q) X.xe s
section
variable {X:Cx} {pos:Pos}
noncomputable def qM(i:Nat):TG:=λv σ H Q=>Q (σ.set i (some v)) H
theorem aO{i:Nat}{x:Str}(hN:X.N.Nodup)(hi:X.N[i]? = some x)(hx:Loc X.env.scope x)(hf:X.fn x=true\/X.env.scope.names.lookup x=some .local:=by first|exact .inl rfl|exact .inr rfl|assumption):PG X (.Name x pos) (qM i):=by
 intro pins s σ H v u Q I r h;exact wpAny_assign_Name (fJ I hN hi hx r (λs' I'=>⟨_,H,I',h⟩) hf)
inductive HU (vs:List V) (σ:St) (H:Hp) (Q:St->Hp->Prop):Prop
 | mk (e:vs = []) (q:Q σ H):HU vs σ H Q
inductive G6 (t:TG) (u:TGs) (vs:List V) (σ:St) (H:Hp) (Q:St->Hp->Prop):Prop
 | mk (v:V) (r:List V) (e:vs=v::r) (q:t v σ H λσ' H'=>u r σ' H' Q):G6 t u vs σ H Q
theorem dE:PGs X [] HU:=by
 intro pins s σ H vs us Q I r h;obtain⟨e,h⟩:=h;subst e;cases r;exact assignInOrder_nil ⟨σ,H,I,h⟩
theorem bo{e:Expr}{es:List Expr}{t:TG}{u:TGs}(h1:PG X e t)(h2:PGs X es u)
  (hs:(assignEach (e::es) X.env).map (·.2)=assign e X.env::(assignEach es X.env).map (·.2):=by rfl):PGs X (e::es) (G6 t u):=by
 intro pins s σ H vs us Q I r h;obtain⟨v,vr,e1,h⟩:=h;subst e1;cases r with
 | cons r rr =>
  rw[hs];refine assignInOrder_cons (thn (h1 pins s σ H _ _ _ I r h) λ_ s1 ⟨σ1,H1,I1,q1⟩=>?_);exact h2 pins s1 σ1 H1 _ _ Q I1 rr q1
inductive HS (K:W.Frag) (n:Nat) (t:TGs) (v:V) (σ:St) (H:Hp) (Q:St->Hp->Prop):Prop
 | mk (a:Addr) (xs:List V) (e:v = .ref a) (s:SqT K H a xs) (l:xs.length=n) (q:t xs σ H Q):HS K n t v σ H Q
theorem d8{es:List Expr}{k:Nat}{t:TGs}{n:Nat}(hc:X.calm=true)(h:PGs X es t)
  (hn:(assignEach es X.env).length=n:=by rfl) (hst:(assignEach es X.env).findIdx? (·.1)=none:=by rfl):PG X (.Tuple es k pos) (HS X.K n t):=by
 intro pins s σ H v u Q I r hw;obtain⟨a,xs,e1,hq,hl,hw⟩:=hw;subst e1;cases r;obtain⟨its,rv,ht,hz⟩:=I.tuple hq;refine assign_Tuple_tuple (I.ok.hd hc) ht (by simp[hn,<- hl,rv.length]) hst λh' hx=>?_;have I1:AU X pins σ H { s with heap:=h' }:=I.kept (t':=s.toks) λb o e=>hx b o (Nat.ne_of_lt (Heap.lt_size e)) e
 exact h pins _ σ H xs _ Q I1 (by simpa using rv) hw
noncomputable def AK(to ti:TE)(t:zd):TG:=λv σ H Q=>to σ H λo H1=>ti σ H1 λi H2=>t o i v H2 λH3=>Q σ H3
theorem yf{o i:Expr}{to ti:TE}{t:zd}(ho:PE X o to)(hi:PE X i ti)(hs:zf X t)
  (ha:∀v,assign (.Subscript o i pos) X.env v=(do
   let ov <- holding [v] (eval o X.env)
   let iv <- holding [v,ov] (eval i X.env)
   standAt pos
   holding [v,ov,iv] (setItem ov iv v)
   release [v,ov,iv] []):=by intro _;rfl):PG X (.Subscript o i pos) (AK to ti t):=by
 intro pins s σ H v u Q I r h;rw[ha];refine wpAny_bind (wpAny_holding (thn (ho pins s σ H _ I h) λov s1 ⟨x,H1,I1,r1,q1⟩=>?_));refine wpAny_bind (wpAny_holding (thn (hi pins s1 σ H1 _ I1 q1) λiv s2 ⟨y,H2,I2,r2,q2⟩=>?_));refine wpAny_bind (wpAny_standAt (wpAny_bind (wpAny_holding (thn (hs pins s2 σ H2 x y v ov iv u _ I2 r1 r2 r q2) λ_ s3 ⟨H3,I3,q3⟩=>?_))));exact wpAny_release ⟨σ,H3,I3,q3⟩
noncomputable def xQ(te:TE)(g:TG):TS:=λD σ H=>te σ H λx H1=>g x σ H1 D.nx
theorem jK{tg e:Expr}{te:TE}{g:TG}(he:PE X e te)(hg:PG X tg g)(hs:swapsWithSole [tg] e pos.line X.env=pure false:=by rfl)(hw:swappedStores [tg] e X.env=pure none:=by rfl)
  (h1:(assignEach [tg] X.env).map (·.2) = [assign tg X.env]:=by rfl):PS X (.Assign [tg] e pos) (xQ te g):=by
 intro pins s σ H D I h;refine wpAny_Assign_stores (thn (he pins s σ H _ I h) λv s1 ⟨x,H1,I1,r1,q1⟩=>?_) hs hw;rw[h1];exact thn (hg pins s1 σ H1 x v _ I1 r1 q1) λ_ s2 q=>q
theorem ay{i:Nat}{x:Str}{e:Expr}{te:TE}{pos':Pos}(hN:X.N.Nodup)(hi:X.N[i]? = some x)(hx:Loc X.env.scope x)(he:PE X e te)(hs:swapsWith e (some (.Name x pos')) pos.line X.env=pure false:=by rfl)(hf:X.fn x=true\/X.env.scope.names.lookup x=some .local:=by first|exact .inl rfl|exact .inr rfl|assumption) :
  PS X (.Assign [.Name x pos'] e pos) (xQ te (qM i)):=by
 intro pins s σ H D I h;refine wpAny_Assign_Name (thn (he pins s σ H _ I h) λv s1 ⟨y,H1,I1,r1,q1⟩=>?_) hs;exact fJ I1 hN hi hx r1 (λs2 I2=>⟨_,H1,I2,q1⟩) hf
noncomputable def Ao(i j:Nat)(ta:TA):TS:=λD σ H=>ta σ H λvs H1=>∃v w,vs = [v,w]/\D.nx ((σ.set i (some v)).set j (some w)) H1
theorem x9{i j:Nat}{x y:Str}{a b:Expr}{ta:TA}{px py pt:Pos}{kt k2 pt2}(hc:X.calm=true)(hN:X.N.Nodup)(hi:X.N[i]? = some x)(hj:X.N[j]? = some y)(hij:i≠j)
  (hx:X.env.scope.names.lookup x=some .local) (hy:X.env.scope.names.lookup y=some .local) (ha:PA X [a,b] ta)
  (hw:swappedStores [.Tuple [.Name x px,.Name y py] kt pt] (.Tuple [a,b] k2 pt2) X.env=pure (some [x,y]))
  (hs:swapsWithSole [.Tuple [.Name x px,.Name y py] kt pt] (.Tuple [a,b] k2 pt2) pos.line X.env=pure false:=by rfl) :
  PS X (.Assign [.Tuple [.Name x px,.Name y py] kt pt] (.Tuple [a,b] k2 pt2) pos) (Ao i j ta):=by
 intro pins s σ H D I h;rw[exec_Assign_arm];refine wpAny_bind (wpAny_standAt ?_);rw[hs];refine wpAny_bind (wpAny_pure ?_);rw[if_neg (by decide)];refine wpAny_bind (Tuple_ (thn (ha _ pins s σ H _ I h) λus s1 ⟨vs,H1,I1,r1,q1⟩=>?_));obtain⟨v,w,e1,q1⟩:=q1;subst e1;obtain⟨u1,u2,rfl,rv,rw'⟩:∃u1 u2,us = [u1,u2]/\a9 v u1/\a9 w u2:=by
  cases r1 with
  | cons p q =>
   cases q with
   | cons p' q' =>
    cases q';exact⟨_,_,rfl,p,p'⟩
 refine wpAny_newObj_type ?_ (by show 2<=sizeLine;decide);have I2:AU X pins σ H1 { s1 with heap:=s1.heap.push { cls:=.type "tuple",data:=.seq [u1,u2].toArray } }:=I1.kept (t':=s1.toks) λb o e=>Heap.get?_push_of_some _ e;rw[hw];refine wpAny_bind (wpAny_pure ?_);show wpAny (model X.prog X.w) X.A (do rule "assign.swapped-stores";let items <- unpackItems (.ref s1.heap.objs.size) 2 none;assignInOrder [λv=>bindName X.env y v,λv=>bindName X.env x v] items.reverse;pure Flow.next) _ _ _
 refine wpAny_bind (wpAny_rule (wpAny_bind (unpackItems_tuple (items:=#[u1,u2]) (I.ok.hd hc) (IsTup.new s1.heap _) λh' hx'=>?_)));have I3:=I2.kept (h':=h') (t':=s1.toks) λb o e=>hx' b o (Nat.ne_of_lt (Heap.lt_size e)) e;show wpAny _ _ (assignInOrder [λv=>bindName X.env y v,λv=>bindName X.env x v] [u2,u1] >>= λ_=>pure Flow.next) _ _ _;refine wpAny_bind (assignInOrder_cons (wpAny_bindName (fJ I3 hN hj (.inl hy) rw' (λs2 I4=>?_) (.inr hy))));refine assignInOrder_cons (wpAny_bindName (fJ I4 hN hi (.inl hx) rv (λs3 I5=>assignInOrder_nil (wpAny_pure ?_)) (.inr hx)));rw[List.set_comm _ _ (Ne.symm hij)]at I5;exact⟨_,H1,I5,q1⟩
noncomputable def Ay(i:Nat)(te:TE)(ti:TIp):TS:=λD σ H=>∃x,σ[i]? = some (some x)/\te σ H λy H1=>ti x y H1 λz H2=>D.nx (σ.set i (some z)) H2
theorem yc{i:Nat}{x:Str}{e:Expr}{te:TE}{op:Operator}{ti:TIp}{pos':Pos}(hN:X.N.Nodup)(hi:X.N[i]? = some x)(hx:Loc X.env.scope x)(he:PE X e te)(ho:PIp X op ti)(hf:X.fn x=true\/X.env.scope.names.lookup x=some .local:=by first|exact .inl rfl|exact .inr rfl|assumption) :
  PS X (.AugAssign (.Name x pos') op e pos) (Ay i te ti):=by
 intro pins s σ H D I h;obtain⟨v,e1,h⟩:=h;obtain⟨m,hn,hl⟩:=I.loc;have vis:Vis X.env.scope x:=by rcases hx with k|k;exact .inl k;exact .inr (.inl k)
 obtain⟨u,r,l⟩:=hl i x v hi e1 vis;refine wpAny_AugAssign_Name ?_;have go:wpAny (model X.prog X.w) X.A (eval e X.env) (λw s₂=>wpAny (model X.prog X.w) X.A (inplaceOp op u w) (λr s₃=>wpAny (model X.prog X.w) X.A (storeName X.env x r) (λ_=>SP X pins D .next) X.xe s₃) X.xe s₂) X.xe s:=by
  refine thn (he pins s σ H _ I h) λw s1 ⟨y,H1,I1,r1,q1⟩=>?_;refine thn (ho pins s1 σ H1 v y u w _ I1 r r1 q1) λz s2 ⟨zv,H2,I2,r2,q2⟩=>?_;exact fJ I2 hN hi hx r2 (λs3 I3=>⟨_,H2,I3,q2⟩) hf
 rcases l with⟨hk,hm⟩|⟨hk,c,hc,hcell⟩
 ·exact wpAny_loadName_local I.ok.kind hk hn hm go
 ·rcases hk with hk|hk
  ·exact wpAny_loadName_cell I.ok.kind hk hc hcell go
  ·rcases hx with k|k
   ·have:X.env.scope.names.lookup x=some .free:=hk
    rw[k]at this;cases this
   ·have:X.env.scope.names.lookup x=some .free:=hk
    rw[k]at this;cases this
noncomputable def ipI(f:Int->Int->Int):TIp:=λx y H Q=>∃i j,x = .int i/\y = .int j/\Q (.int (f i j)) H
theorem yH:PIp X .Add (ipI λi j=>i+j):=by
 intro pins s σ H x y v u Q I r1 r2 h;obtain⟨i,j,e1,e2,q⟩:=h;subst e1;subst e2;obtain⟨t,rfl⟩:=r1;obtain⟨t',rfl⟩:=r2;exact iadd_int ⟨.int _,H,I.tok _,⟨_,rfl⟩,q⟩
end
section
variable {X:Cx} {pos:Pos}
noncomputable def sV(c:TT)(tb:TS):TS:=λD σ H=>∃W:Nat->St->Hp->Prop,(∃m,W m σ H)/\∀m σ H,W m σ H ->
 c σ H λb H1=>if b=true then ∃N:St->Hp->Prop,(∀σ' H',N σ' H'->∃m',m'<m/\W m' σ' H')/\tb { D with nx:=N,ct:=N,bk:=D.nx } σ H1 else D.nx σ H1
theorem dS{c:Expr}{body:List Stmt}{tc:TT}{tb:TS}(hp:PassesOwn (model X.prog X.w) X.A X.env X.xe)(hc:PT X c tc)(hb:PSs X body tb):PS X (.While c body [] pos) (sV tc tb):=by
 intro pins s σ H D I h;obtain⟨W,⟨m0,w0⟩,turn⟩:=h;refine wpAny_While (codeAny_whileLoop (λn s'=>∃σ' H',AU X pins σ' H' s'/\W n σ' H') ?_ m0 ⟨σ,H,I,w0⟩);rintro n s1 ⟨σ1,H1,I1,w1⟩;refine wpAny_passesOwn hp (thn (hc pins s1 σ1 H1 _ I1 (turn n σ1 H1 w1)) λb s2 ⟨H2,I2,q2⟩=>?_);cases b with
 | true =>
  obtain⟨N,hN,q2⟩:=q2;rw[if_pos rfl];refine wpAny_passesOwn hp (thn (hb pins s2 σ1 H2 _ I2 q2) λf s3 q3=>?_);cases f with
  | next =>
   obtain⟨σ3,H3,I3,n3⟩:=q3;obtain⟨m',hm,w3⟩:=hN σ3 H3 n3;exact⟨m',hm,σ3,H3,I3,w3⟩
  | cont =>
   obtain⟨σ3,H3,I3,n3⟩:=q3;obtain⟨m',hm,w3⟩:=hN σ3 H3 n3;exact⟨m',hm,σ3,H3,I3,w3⟩
  | brk=>exact q3
  | ret v=>exact q3
 | false =>
  rw[if_neg Bool.false_ne_true];exact wpAny_execs_nil ⟨σ1,H2,I2,q2⟩
end
structure It where
 go:Nat->Hp->Prop
 yld:Nat->Hp->V->Hp->Prop
 stop:Nat->Hp->Prop
noncomputable def fH(X:Cx)(pins:List (Addr×Obj))(H:Hp)(b:Addr):Prop :=
 H b=none/\b≠X.env.locals/\b∉X.fs/\(b∈X.ex\/X.s₀.heap.objs.size<=b)/\(∀x c,X.env.cells.lookup x=some c->c≠b)/\∀p∈X.pn++pins,p.1≠b
theorem AU.fpOk{X:Cx}{pins:List (Addr×Obj)}{σ:St}{H H':Hp}{s:Shared}{b:Addr}(I:AU X pins σ H s)(hb:s.heap.objs.size<=b)(hn:H' b=none):fH X pins H' b:=by
 refine⟨hn,Nat.ne_of_gt (Nat.lt_of_lt_of_le I.lt hb),I.nofs hb,.inr (Nat.le_trans I.sz hb),λx c e z=>?_,λp hp z=>?_⟩
 ·obtain⟨v,q⟩:=I.cell x c e
  exact absurd (Nat.lt_of_lt_of_le q.lt (by rw[z];exact hb)) (Nat.lt_irrefl _)
 ·exact absurd (Nat.lt_of_lt_of_le (Heap.lt_size (I.pin p hp).1) (by rw[z];exact hb)) (Nat.lt_irrefl _)
structure El(P:Program)(w:World)(K:W.Frag)(tg:Expr)(J:It)(fp:List Addr)(it:Addr)(tn:Nat->Heap->Prop):Prop where
 mem:it∈fp
 obj:∀i h,tn i h->∀b∈fp,∃o,h.get? b=some o/\∀v,o.data≠.cell v
 keep:∀i h h',tn i h->(∀b∈fp,∀o,h.get? b=some o->h'.get? b=some o)->tn i h'
 item:∀(X:Cx),X.prog=P->X.w=w->X.K=K->X.calm=true->∀(i:Nat) (pins:List (Addr×Obj)) (s:Shared) (σ:St) (H:Hp) (E:Value->Shared->Prop),AU X pins σ H s->(∀b∈fp,fH X pins H b)->tn i s.heap->J.go i H ->
  wpAny (model P w) X.A (pyNext (.ref it)) (λr s1=>∃u,r=some u /\
   wpAny (model P w) X.A (letOwnedTupleGo tg (.ref it) u) (λ_ s2=>∃x H',AU X pins σ H' s2/\a9 x u/\J.yld i H x H'/\tn (i+1) s2.heap/\∀b∈fp,H' b=none) E s1) E s
 done:∀(X:Cx),X.prog=P->X.w=w->X.K=K->X.calm=true->∀(i:Nat) (pins:List (Addr×Obj)) (s:Shared) (σ:St) (H:Hp) (E:Value->Shared->Prop),AU X pins σ H s->(∀b∈fp,fH X pins H b)->tn i s.heap->J.stop i H ->
  wpAny (model P w) X.A (pyNext (.ref it)) (λr s1=>r=none/\AU X pins σ H s1) E s
 self:∀(A:Around) (i:Nat) (s:Shared) (Q:Value->Shared->Prop) (E:Value->Shared->Prop),tn i s.heap->Q (.ref it) s->wpAny (model P w) A (pyIter (.ref it)) Q E s
noncomputable abbrev TI:=St->Hp->(It->Hp->Prop)->Prop
noncomputable def PIE(X:Cx)(pins:List (Addr×Obj))(σ:St)(tg:Expr)(R:It->Hp->Prop)(itv:Value)(s2:Shared):Prop :=
 ∃(it:Addr) (fp:List Addr) (tn:Nat->Heap->Prop) (J:It) (H':Hp),itv = .ref it/\AU X pins σ H' s2/\El X.prog X.w X.K tg J fp it tn/\tn 0 s2.heap/\(∀b∈fp,fH X pins H' b)/\R J H'
noncomputable def PI(X:Cx)(tg iter:Expr)(wi:TI):Prop :=
 ∀(pins:List (Addr×Obj)) (s:Shared) (σ:St) (H:Hp) (R:It->Hp->Prop),AU X pins σ H s->wi σ H R ->
  wpAny (model X.prog X.w) X.A (eval iter X.env) (λv s1=>wpAny (model X.prog X.w) X.A (pyIter v) (PIE X pins σ tg R) X.xe s1) X.xe s
theorem lI{M:Model}{A:Around}{E:Value->Shared->Prop}{s:Shared}{tg:Expr}{it:Addr}{u:Value}{o:Obj}{n:String}{vs:Array Value}{Q:Unit->Shared->Prop}(ho:s.heap.get? it=some o)(hc:o.cls = .type n)(hd:o.data = .fields vs)
    (hn:["enumerate","zip","dict_itemiterator","dict_reverseitemiterator","odict_iterator","itertools.zip_longest","itertools.pairwise"].contains n=false) (hQ:Q () s):wpAny M A (letOwnedTupleGo tg (.ref it) u) Q E s:=by
  unfold letOwnedTupleGo;cases tg <;> first
    | exact wpAny_pure hQ
    | (cases u <;> first
        | exact wpAny_pure hQ
        | (refine wpAny_bind (wpAny_load ho ?_)
           rw[hc,hd];show wpAny M A (if (["enumerate","zip","dict_itemiterator","dict_reverseitemiterator","odict_iterator","itertools.zip_longest","itertools.pairwise"].contains n && vs[0]? == some (rawInt _))=true then _ else _) Q E s
           rw[if_neg (by intro h;rw[hn,Bool.false_and]at h;cases h)];exact wpAny_pure hQ))
noncomputable def Itl(K:W.Frag)(a:Addr):It :=
 ⟨λi H=>∃xs x,SqL K H a xs/\xs[i]? = some x,λi H x H'=>H'=H/\∀xs,SqL K H a xs->xs[i]? = some x,λi H=>∃xs,SqL K H a xs/\xs.length<=i⟩
noncomputable def Itt(K:W.Frag)(a:Addr):It :=
 ⟨λi H=>∃xs x,SqT K H a xs/\xs[i]? = some x,λi H x H'=>H'=H/\∀xs,SqT K H a xs->xs[i]? = some x,λi H=>∃xs,SqT K H a xs/\xs.length<=i⟩
noncomputable def Itr(lo:Int)(n:Nat):It:=⟨λi _=>i<n,λi H x H'=>H'=H/\x = .int (lo+i),λi _=>n<=i⟩
theorem rz{P:Program}{w:World}{K:W.Frag}{tg:Expr}(a it:Addr):El P w K tg (Itl K a) [it] it (λi h=>h.IsListIter it a i) where
 mem:=by simp
 obj:=λi h st b hb=>by
  have e:b=it:=by simpa using hb
  subst e;obtain⟨o,e,c,d⟩:=st;exact⟨o,e,λv z=>by rw[d]at z;cases z⟩
 keep:=λi h h' st k=>st.at λo e=>k it (by simp) o e
 item:=by
  intro X hP hw hK hc i pins s σ H E I hf st hg;subst hP hw hK;obtain⟨xs,x,hq,hx⟩:=hg;obtain⟨its,rv,p,hz⟩:=I.list hq;obtain⟨u,hu,ru⟩:=rv.get hx;obtain⟨f0,f1,f2,f3,f4,f5⟩:=hf it (by simp);refine wpAny_pyNext_list_item st p.isList (x:=u) (by simpa using hu) λh' st' sb=>?_;have I1:AU X pins σ H { s with heap:=h' }:=I.turned (t':=s.toks) (λb o hb e=>(sb.2 b hb).trans e) f0 f1 f3 f4 f5;obtain⟨o,e,c,d⟩:=id st';exact⟨u,rfl,lI (s:={ s with heap:=h' }) e c d (by decide) ⟨x,H,I1,ru,⟨rfl,λys hy=>by rw[I.list_inj hy hq];exact hx⟩,st',λb hb=>(hf b hb).1⟩⟩
 done:=by
  intro X hP hw hK hc i pins s σ H E I hf st hg;subst hP hw hK;obtain⟨xs,hq,hx⟩:=hg;obtain⟨its,rv,p,hz⟩:=I.list hq;obtain⟨f0,f1,f2,f3,f4,f5⟩:=hf it (by simp);have hl:=rv.length;exact wpAny_pyNext_list_end (I.ok.hd hc) st p.isList (by simp;omega) λh' eb=>⟨rfl,I.turned (t':=s.toks) (λb o hb e=>eb b o hb e) f0 f1 f3 f4 f5⟩
 self:=λ_ _ _ _ _ st h=>wpAny_pyIter_listiter st h
theorem oQ{P:Program}{w:World}{K:W.Frag}{tg:Expr}(a it:Addr):El P w K tg (Itt K a) [it] it (λi h=>h.IsTupleIter it a i) where
 mem:=by simp
 obj:=λi h st b hb=>by
  have e:b=it:=by simpa using hb
  subst e;obtain⟨o,e,c,d⟩:=st;exact⟨o,e,λv z=>by rw[d]at z;cases z⟩
 keep:=λi h h' st k=>st.at λo e=>k it (by simp) o e
 item:=by
  intro X hP hw hK hc i pins s σ H E I hf st hg;subst hP hw hK;obtain⟨xs,x,hq,hx⟩:=hg;obtain⟨its,rv,p,hz⟩:=I.tuple hq;obtain⟨u,hu,ru⟩:=rv.get hx;obtain⟨f0,f1,f2,f3,f4,f5⟩:=hf it (by simp);refine wpAny_pyNext_tuple_item st (show s.heap.IsTuple a its.toArray from p) (x:=u) (by simpa using hu) λh' st' sb=>?_;have I1:AU X pins σ H { s with heap:=h' }:=I.turned (t':=s.toks) (λb o hb e=>(sb.2 b hb).trans e) f0 f1 f3 f4 f5;obtain⟨o,e,c,d⟩:=id st';exact⟨u,rfl,lI (s:={ s with heap:=h' }) e c d (by decide) ⟨x,H,I1,ru,⟨rfl,λys hy=>by rw[I.tuple_inj hy hq];exact hx⟩,st',λb hb=>(hf b hb).1⟩⟩
 done:=by
  intro X hP hw hK hc i pins s σ H E I hf st hg;subst hP hw hK;obtain⟨xs,hq,hx⟩:=hg;obtain⟨its,rv,p,hz⟩:=I.tuple hq;obtain⟨f0,f1,f2,f3,f4,f5⟩:=hf it (by simp);have hl:=rv.length;exact wpAny_pyNext_tuple_end (I.ok.hd hc) st (show s.heap.IsTuple a its.toArray from p) (by simp;omega) λh' eb=>⟨rfl,I.turned (t':=s.toks) (λb o hb e=>eb b o hb e) f0 f1 f3 f4 f5⟩
 self:=λ_ _ _ _ _ st h=>wpAny_pyIter_tupleiter st h
theorem oR{P:Program}{w:World}{K:W.Frag}{tg:Expr}(it:Addr)(lo:Int)(n:Nat):El P w K tg (Itr lo n) [it] it (λi h=>IsRangeIter h it (lo+(i:Nat)*1) ((n:Int) - (i:Nat)) 1) where
 mem:=by simp
 obj:=λi h st b hb=>by
  have e:b=it:=by simpa using hb
  subst e;exact⟨_,st,λv z=>by
   have z':Data.fields _=Data.cell v:=z;cases z'⟩
 keep:=λi h h' st k=>k it (by simp) _ st
 item:=by
  intro X hP hw hK hc i pins s σ H E I hf st hg;subst hP hw hK;obtain⟨f0,f1,f2,f3,f4,f5⟩:=hf it (by simp);have W:=Walks.range (prog:=X.prog) (w:=X.w) (I.ok.hd hc) it lo 1 n;refine W.item i s _ _ hg st λv h' tk hv st' kk=>?_;obtain⟨t,rfl⟩:=hv;have I1:AU X pins σ H { s with heap:=h',toks:=tk }:=I.turned (λb o hb e=>kk b o (by simpa using hb) e) f0 f1 f3 f4 f5;refine⟨_,rfl,lI (s:={ s with heap:=h',toks:=tk }) (n:="range_iterator") st' rfl rfl (by decide) ⟨.int (lo+i),H,I1,⟨t,?_⟩,⟨rfl,rfl⟩,st',λb hb=>(hf b hb).1⟩⟩;rw[Int.mul_one]
 done:=by
  intro X hP hw hK hc i pins s σ H E I hf st hg;subst hP hw hK;obtain⟨f0,f1,f2,f3,f4,f5⟩:=hf it (by simp);exact wpAny_pyNext_range_end (I.ok.hd hc) st (by have:n<=i:=hg;omega) λh' eb=>⟨rfl,I.turned (t':=s.toks) (λb o hb e=>eb b o hb e) f0 f1 f3 f4 f5⟩
 self:=λ_ _ _ _ _ st h=>wpAny_pyIter_rangeiter st h
section
variable {X:Cx} {tg:Expr}
noncomputable def zU(K:W.Frag)(tl:TE):TI:=λσ H R=>tl σ H λx H1=>∃a,x = .ref a/\(∃xs,SqL K H1 a xs)/\R (Itl K a) H1
noncomputable def AG(K:W.Frag)(tl:TE):TI:=λσ H R=>tl σ H λx H1=>∃a,x = .ref a/\(∃xs,SqT K H1 a xs)/\R (Itt K a) H1
theorem fg{l:Expr}{tl:TE}(hl:PE X l tl):PI X tg l (zU X.K tl):=by
 intro pins s σ H R I h;refine thn (hl pins s σ H _ I h) λv s1 ⟨x,H1,I1,r1,q1⟩=>?_;obtain⟨a,e,⟨xs,hq⟩,q⟩:=q1;subst e;cases r1;obtain⟨its,rv,p,hz⟩:=I1.list hq;refine wpAny_pyIter_list p.isList ?_;refine⟨s1.heap.objs.size,[s1.heap.objs.size],_,_,H1,rfl,I1.kept (t':=s1.toks) λb o e=>Heap.get?_push_of_some _ e,rz a _,⟨_,Heap.get?_push_size _ rfl,rfl,rfl⟩,λb hb=>?_,q⟩;have e:b=s1.heap.objs.size:=by simpa using hb
 subst e;exact I1.fpOk (Nat.le_refl _) (I1.hok.fresh (Nat.le_refl _))
theorem yd{l:Expr}{tl:TE}(hl:PE X l tl):PI X tg l (AG X.K tl):=by
 intro pins s σ H R I h;refine thn (hl pins s σ H _ I h) λv s1 ⟨x,H1,I1,r1,q1⟩=>?_;obtain⟨a,e,⟨xs,hq⟩,q⟩:=q1;subst e;cases r1;obtain⟨its,rv,p,hz⟩:=I1.tuple hq;refine wpAny_pyIter_tuple (show s1.heap.IsTuple a its.toArray from p) ?_;refine⟨s1.heap.objs.size,[s1.heap.objs.size],_,_,H1,rfl,I1.kept (t':=s1.toks) λb o e=>Heap.get?_push_of_some _ e,oQ a _,⟨_,Heap.get?_push_size _ rfl,rfl,rfl⟩,λb hb=>?_,q⟩;have e:b=s1.heap.objs.size:=by simpa using hb
 subst e;exact I1.fpOk (Nat.le_refl _) (I1.hok.fresh (Nat.le_refl _))
theorem ng{pins:List (Addr×Obj)}{σ:St}{H:Hp}{s:Shared}{R:It->Hp->Prop}{E:Value->Shared->Prop}{lo hi:Int}{t u v:Tok}{tk:Nat}(I:AU X pins σ H s)(h1:-(2^62)<=lo)(h2:lo<2^62)(h3:-(2^62)<=hi)(h4:hi<2^62)
  (q:R (Itr lo (hi - lo).toNat) H):wpAny (model X.prog X.w) X.A (pyIter (.ref s.heap.objs.size)) (PIE X pins σ tg R) E { s with heap:=s.heap.push { cls:=.type "range",data:=.fields #[.int lo t,.int hi u,.int 1 v] },toks:=tk }:=by
 refine wpAny_pyIter_range (IsRange.new ..) (small_one h1 h2 h3 h4) ?_;have I1:AU X pins σ H { s with heap:=s.heap.push { cls:=.type "range",data:=.fields #[.int lo t,.int hi u,.int 1 v] },toks:=tk }:=I.kept λb o e=>Heap.get?_push_of_some _ e;refine⟨(s.heap.push { cls:=.type "range",data:=.fields #[.int lo t,.int hi u,.int 1 v] }).objs.size,[(s.heap.push { cls:=.type "range",data:=.fields #[.int lo t,.int hi u,.int 1 v] }).objs.size],_,_,H,rfl,
  I1.kept (t':=tk) λb o e=>Heap.get?_push_of_some _ e,oR _ lo (hi - lo).toNat,?_,λb hb=>?_,q⟩
 ·have e1:lo+((0:Nat):Int)*1=lo:=by simp
  have e2:(((hi - lo).toNat:Nat):Int) - ((0:Nat):Int)=Builtin.Range.rangeSize lo hi 1:=by rw[rangeSize_one];split <;> omega
  show IsRangeIter _ _ (lo+((0:Nat):Int)*1) ((((hi - lo).toNat:Nat):Int) - ((0:Nat):Int)) 1;rw[e1,e2];exact Heap.get?_push_size _ rfl
 ·have e:b=(s.heap.push { cls:=.type "range",data:=.fields #[.int lo t,.int hi u,.int 1 v] }).objs.size:=by simpa using hb
  subst e;exact I1.fpOk (Nat.le_refl _) (I1.hok.fresh (Nat.le_refl _))
noncomputable def zT(ta:TA):TI:=λσ H R=>ta σ H λvs H1=>∃j:Int,vs = [.int j]/\-(2^62)<=j/\j<2^62/\R (Itr 0 j.toNat) H1
noncomputable def zR(ta:TA):TI:=λσ H R=>ta σ H λvs H1=>∃i j:Int,vs = [.int i,.int j]/\(-(2^62)<=i/\i<2^62/\-(2^62)<=j/\j<2^62)/\R (Itr i (j - i).toNat) H1
theorem cU{a:Expr}{ta:TA}{p pos:Pos}(hg:Gl X "range")(hm:X.mg "range" = none)(ha:PA X [a] ta)(hs:starEach [a] X.env = [(false,eval a X.env)]:=by rfl):PI X tg (.Call (.Name "range" p) [a] [] pos) (zT ta):=by
 intro pins s σ H R I h;refine Call_ (fP I hg hm boot_range (PyProof.Rows.callWith_type1 (thn (ha pos pins s σ H _ I h) λus s1 ⟨vs,H1,I1,r1,q1⟩=>?_) hs rfl));obtain⟨j,e,q1,q2,q⟩:=q1;subst e;cases r1 with
 | cons r rr =>
  cases rr;obtain⟨t,rfl⟩:=r;exact call_range_1 (ng I1 (by omega) (by omega) q1 q2 (by simpa using q))
theorem lq{a b:Expr}{ta:TA}{p pos:Pos}(hg:Gl X "range")(hm:X.mg "range" = none)(ha:PA X [a,b] ta)(hs:starEach [a,b] X.env = [(false,eval a X.env),(false,eval b X.env)]:=by rfl)(hs2:starEach [b] X.env = [(false,eval b X.env)]:=by rfl) :
  PI X tg (.Call (.Name "range" p) [a,b] [] pos) (zR ta):=by
 intro pins s σ H R I h;refine Call_ (fP I hg hm boot_range (PyProof.Rows.callWith_type1 (thn (ha pos pins s σ H _ I h) λus s1 ⟨vs,H1,I1,r1,q1⟩=>?_) (by rw[hs,hs2]) (by rw[hs2];rfl)));obtain⟨i,j,e,⟨q1,q2,q3,q4⟩,q⟩:=q1;subst e;cases r1 with
 | cons r rr =>
  cases rr with
  | cons r' rr =>
   cases rr;obtain⟨t,rfl⟩:=r;obtain⟨t',rfl⟩:=r';exact call_range_2 (ng I1 q1 q2 q3 q4 q)
noncomputable def Av(wi:TI)(g:TG)(tb:TS):TS:=λD σ H=>wi σ H λJ H1=>∃W:Nat->Nat->St->Hp->Prop,(∃m,W 0 m σ H1)/\∀i m σ H,W i m σ H ->
 (J.stop i H/\D.nx σ H)\/(J.go i H/\∃N:St->Hp->Prop,(∀σ' H',N σ' H'->∃m',m'<m/\W (i+1) m' σ' H')/\∀x H',J.yld i H x H'->g x σ H' λσ2 H2=>tb { D with nx:=N,ct:=N,bk:=D.nx } σ2 H2)
noncomputable def jN(fp:List Addr)(h:Heap):List (Addr×Obj):=fp.filterMap λb=>(h.get? b).map λo=>(b,o)
theorem dJ{fp:List Addr}{h:Heap}{b:Addr}{o:Obj}(hb:b∈fp)(e:h.get? b=some o):(b,o)∈jN fp h:=List.mem_filterMap.mpr ⟨b,hb,by rw[e];rfl⟩
theorem rM{fp:List Addr}{h:Heap}{p:Addr×Obj}(hp:p∈jN fp h):p.1∈fp/\h.get? p.1=some p.2:=by
 obtain⟨b,hb,e⟩:=List.mem_filterMap.mp hp;cases q:h.get? b with
 | none=>rw[q]at e;cases e
 | some o =>
  rw[q]at e;have e':(b,o)=p:=Option.some.inj e;subst e';exact⟨hb,q⟩
theorem AU.pinned{pins:List (Addr×Obj)}{σ:St}{H:Hp}{s:Shared}{fp:List Addr}(I:AU X pins σ H s)(hf:∀b∈fp,fH X pins H b)(ho:∀b∈fp,∃o,s.heap.get? b=some o/\∀v,o.data≠.cell v):AU X (pins++jN fp s.heap) σ H s :=
 I.pins_of λp hp=>(List.mem_append.mp hp).elim (λz=>I.pin p (List.mem_append_right _ z)) λz=>by
  obtain⟨hb,e⟩:=rM z;obtain⟨f0,f1,f2,_⟩:=hf p.1 hb;obtain⟨o,e',d⟩:=ho p.1 hb;rw[e]at e';cases e';exact⟨e,f0,f1,f2,d⟩
theorem AU.unpinned{pins pl:List (Addr×Obj)}{σ:St}{H:Hp}{s:Shared}(I:AU X (pins++pl) σ H s):AU X pins σ H s:=I.pins_of λp hp=>I.pin p (List.mem_append_right _ (List.mem_append_left _ hp))
theorem cz{iter:Expr}{body:List Stmt}{wi:TI}{g:TG}{tb:TS}{pos:Pos}(hp:PassesOwn (model X.prog X.w) X.A X.env X.xe)(hc:X.calm=true)(hi:PI X tg iter wi)(hg:PG X tg g)(hb:PSs X body tb)
  (hs:∀x,foldedSetIterable iter X.env x=pure x:=by intro _;rfl):PS X (.For tg iter body [] pos) (Av wi g tb):=by
 intro pins s σ H D I h;refine wpAny_For (thn (hi pins s σ H _ I h) λv s1 h1=>thn h1 λitv s2 h2=>?_) hs;obtain⟨it,fp,tn,J,H2,e,I2,T,st2,f2,W,⟨m0,w0⟩,turn⟩:=h2;subst e;have stat:∀{H':Hp},(∀b∈fp,H' b=none)->∀b∈fp,fH X pins H' b:=λhn b hb=>⟨hn b hb,(f2 b hb).2⟩;refine codeAny_forLoop_any (λn s'=>∃i σ' H',AU X pins σ' H' s'/\tn i s'.heap/\(∀b∈fp,H' b=none)/\W i n σ' H') ?_ m0 ⟨0,σ,H2,I2,st2,λb hb=>(f2 b hb).1,w0⟩;rintro n s3 ⟨i,σ3,H3,I3,st3,fr3,w3⟩;rcases turn i n σ3 H3 w3 with⟨stop,qn⟩|⟨go,N,hN,step⟩
 ·refine wpAny_passesOwn hp (thn (T.done X rfl rfl rfl hc i pins s3 σ3 H3 X.xe I3 (stat fr3) st3 stop) λr s4 ⟨hr,I4⟩=>?_)
  subst hr;exact wpAny_execs_nil ⟨σ3,H3,I4,qn⟩
 ·refine wpAny_passesOwn hp (thn (T.item X rfl rfl rfl hc i pins s3 σ3 H3 X.xe I3 (stat fr3) st3 go) λr s4 ⟨u,hr,h4⟩=>?_)
  subst hr;refine wpAny_passesOwn hp (thn h4 λ_ s5 ⟨x,H5,I5,r5,y5,st5,fr5⟩=>?_);have I5':=I5.pinned (stat fr5) (T.obj _ _ st5);refine wpAny_passesOwn hp (thn (hg _ s5 σ3 H5 x u _ I5' r5 (step x H5 y5)) λ_ s6 ⟨σ6,H6,I6,q6⟩=>?_);refine wpAny_passesOwn hp (thn (hb _ s6 σ6 H6 _ I6 q6) λf s7 q7=>?_);have again:∀{σ7:St} {H7:Hp},AU X (pins++jN fp s5.heap) σ7 H7 s7->N σ7 H7->∃m,m<n/\∃i σ' H',AU X pins σ' H' s7/\tn i s7.heap/\(∀b∈fp,H' b=none)/\W i m σ' H':=λ{σ7 H7} I7 n7=>by
   obtain⟨m',hm,w7⟩:=hN σ7 H7 n7;refine⟨m',hm,i+1,σ7,H7,I7.unpinned,T.keep _ _ _ st5 λb hb o e=>(I7.pin (b,o) (List.mem_append_right _ (List.mem_append_right _ (dJ hb e)))).1,λb hb=>?_,w7⟩;obtain⟨o,e,d⟩:=T.obj _ _ st5 b hb;exact(I7.pin (b,o) (List.mem_append_right _ (List.mem_append_right _ (dJ hb e)))).2.1
  cases f with
  | next=>obtain⟨σ7,H7,I7,n7⟩:=q7;exact again I7 n7
  | cont=>obtain⟨σ7,H7,I7,n7⟩:=q7;exact again I7 n7
  | brk=>obtain⟨σ7,H7,I7,q7⟩:=q7;exact⟨σ7,H7,I7.unpinned,q7⟩
  | ret v=>obtain⟨x7,σ7,H7,I7,r7,q7⟩:=q7;exact⟨x7,σ7,H7,I7.unpinned,r7,q7⟩
end
theorem fR{K:W.Frag}{a:Addr}{xs:List V}{g:TG}{tb:TS}{D:DA}{σ:St}{H:Hp}(Pv:Nat->St->Hp->Prop)(h0:Pv 0 σ H)(hl:∀i σ H,i<=xs.length->Pv i σ H->SqL K H a xs)
  (hs:∀i x σ H,xs[i]? = some x->Pv i σ H->g x σ H λσ2 H2=>tb { D with nx:=Pv (i+1),ct:=Pv (i+1),bk:=D.nx } σ2 H2) (hd:∀σ H,Pv xs.length σ H->D.nx σ H) :
  ∃W:Nat->Nat->St->Hp->Prop,(∃m,W 0 m σ H)/\∀i m σ H,W i m σ H ->
   ((Itl K a).stop i H/\D.nx σ H)\/((Itl K a).go i H/\∃N:St->Hp->Prop,(∀σ' H',N σ' H'->∃m',m'<m/\W (i+1) m' σ' H')/\∀x H',(Itl K a).yld i H x H'->g x σ H' λσ2 H2=>tb { D with nx:=N,ct:=N,bk:=D.nx } σ2 H2):=by
 refine⟨λi m σ H=>m=xs.length - i/\i<=xs.length/\Pv i σ H,⟨xs.length,by simp,Nat.zero_le _,h0⟩,?_⟩;rintro i m σ H ⟨rfl,hi,p⟩;have q:=hl i σ H hi p
 by_cases hlt:i<xs.length
 ·refine .inr ⟨⟨xs,xs[i],q,by simp[hlt]⟩,Pv (i+1),λσ' H' p'=>⟨xs.length - (i+1),by omega,rfl,hlt,p'⟩,λx H' y=>?_⟩
  obtain⟨e,y⟩:=y;subst e;exact hs i x σ _ (y xs q) p
 ·have e:i=xs.length:=by omega
  subst e;exact .inl ⟨⟨xs,q,Nat.le_refl _⟩,hd σ H p⟩
theorem wx{K:W.Frag}{a:Addr}{xs:List V}{g:TG}{tb:TS}{D:DA}{σ:St}{H:Hp}(Pv:Nat->St->Hp->Prop)(h0:Pv 0 σ H)(hl:∀i σ H,i<=xs.length->Pv i σ H->SqT K H a xs)
  (hs:∀i x σ H,xs[i]? = some x->Pv i σ H->g x σ H λσ2 H2=>tb { D with nx:=Pv (i+1),ct:=Pv (i+1),bk:=D.nx } σ2 H2) (hd:∀σ H,Pv xs.length σ H->D.nx σ H) :
  ∃W:Nat->Nat->St->Hp->Prop,(∃m,W 0 m σ H)/\∀i m σ H,W i m σ H ->
   ((Itt K a).stop i H/\D.nx σ H)\/((Itt K a).go i H/\∃N:St->Hp->Prop,(∀σ' H',N σ' H'->∃m',m'<m/\W (i+1) m' σ' H')/\∀x H',(Itt K a).yld i H x H'->g x σ H' λσ2 H2=>tb { D with nx:=N,ct:=N,bk:=D.nx } σ2 H2):=by
 refine⟨λi m σ H=>m=xs.length - i/\i<=xs.length/\Pv i σ H,⟨xs.length,by simp,Nat.zero_le _,h0⟩,?_⟩;rintro i m σ H ⟨rfl,hi,p⟩;have q:=hl i σ H hi p
 by_cases hlt:i<xs.length
 ·refine .inr ⟨⟨xs,xs[i],q,by simp[hlt]⟩,Pv (i+1),λσ' H' p'=>⟨xs.length - (i+1),by omega,rfl,hlt,p'⟩,λx H' y=>?_⟩
  obtain⟨e,y⟩:=y;subst e;exact hs i x σ _ (y xs q) p
 ·have e:i=xs.length:=by omega
  subst e;exact .inl ⟨⟨xs,q,Nat.le_refl _⟩,hd σ H p⟩
theorem cV{lo:Int}{n:Nat}{g:TG}{tb:TS}{D:DA}{σ:St}{H:Hp}(Pv:Nat->St->Hp->Prop)(h0:Pv 0 σ H)
  (hs:∀i σ H,i<n->Pv i σ H->g (.int (lo+i)) σ H λσ2 H2=>tb { D with nx:=Pv (i+1),ct:=Pv (i+1),bk:=D.nx } σ2 H2) (hd:∀σ H,Pv n σ H->D.nx σ H) :
  ∃W:Nat->Nat->St->Hp->Prop,(∃m,W 0 m σ H)/\∀i m σ H,W i m σ H ->
   ((Itr lo n).stop i H/\D.nx σ H)\/((Itr lo n).go i H/\∃N:St->Hp->Prop,(∀σ' H',N σ' H'->∃m',m'<m/\W (i+1) m' σ' H')/\∀x H',(Itr lo n).yld i H x H'->g x σ H' λσ2 H2=>tb { D with nx:=N,ct:=N,bk:=D.nx } σ2 H2):=by
 refine⟨λi m σ H=>m=n - i/\i<=n/\Pv i σ H,⟨n,by simp,Nat.zero_le _,h0⟩,?_⟩;rintro i m σ H ⟨rfl,hi,p⟩
 by_cases hlt:i<n
 ·refine .inr ⟨hlt,Pv (i+1),λσ' H' p'=>⟨n - (i+1),by omega,rfl,hlt,p'⟩,λx H' y=>?_⟩
  obtain⟨e,y⟩:=y;subst e y;exact hs i σ _ hlt p
 ·have e:i=n:=by omega
  subst e;exact .inl ⟨Nat.le_refl _,hd σ H p⟩
theorem dQ{c:TT}{tb:TS}{D:DA}{σ:St}{H:Hp}(Pv:St->Hp->Prop)(μ:St->Hp->Nat)(h0:Pv σ H)
  (hs:∀σ H,Pv σ H->c σ H λb H1=>if b=true then tb { D with nx:=λσ' H'=>Pv σ' H'/\μ σ' H'<μ σ H,ct:=λσ' H'=>Pv σ' H'/\μ σ' H'<μ σ H,bk:=D.nx } σ H1 else D.nx σ H1)
  (mono:∀σ H Q Q',(∀b H1,Q b H1->Q' b H1)->c σ H Q->c σ H Q'):sV c tb D σ H:=by
 refine⟨λm σ H=>m=μ σ H/\Pv σ H,⟨_,rfl,h0⟩,?_⟩;rintro m σ H ⟨rfl,p⟩;refine mono σ H _ _ (λb H1 q=>?_) (hs σ H p);cases b with
 | true=>exact⟨_,λσ' H' ⟨p',l⟩=>⟨_,l,rfl,p'⟩,q⟩
 | false=>exact q
noncomputable abbrev R2:=V->V->Hp->VK->Prop
noncomputable def OpR(X:Cx)(f:Value->Value->Sem Value)(r:R2):Prop :=
 ∀(pins:List (Addr×Obj)) (s:Shared) (σ:St) (H:Hp) (x y:V) (v u:Value) (Q:VK),AU X pins σ H s->a9 x v->a9 y u->r x y H Q ->
  wpAny (model X.prog X.w) X.A (f v u) (EP X pins σ Q) X.xe s
noncomputable def UnR(X:Cx)(f:Value->Sem Value)(r:V->Hp->VK->Prop):Prop :=
 ∀(pins:List (Addr×Obj)) (s:Shared) (σ:St) (H:Hp) (x:V) (v:Value) (Q:VK),AU X pins σ H s->a9 x v->r x H Q ->
  wpAny (model X.prog X.w) X.A (f v) (EP X pins σ Q) X.xe s
noncomputable def fX(X:Cx)(f:Value)(r:List V->Hp->VK->Prop):Prop :=
 ∀(pins:List (Addr×Obj)) (s:Shared) (σ:St) (H:Hp) (xs:List V) (us:List Value) (Q:VK),AU X pins σ H s->aV xs us->r xs H Q ->
  wpAny (model X.prog X.w) X.A (call f us) (EP X pins σ Q) X.xe s
noncomputable def tOp(r:R2)(ta tb:TE):TE:=λσ H Q=>ta σ H λx H1=>tb σ H1 λy H2=>r x y H2 Q
noncomputable def tUn(r:V->Hp->VK->Prop)(ta:TE):TE:=λσ H Q=>ta σ H λx H1=>r x H1 Q
inductive rI (C:Int->Int->Prop) (g:Int->Int->V) (x y:V) (H:Hp) (Q:VK):Prop
 | mk (i j:Int) (e:x = .int i) (f:y = .int j) (c:C i j) (q:Q (g i j) H):rI C g x y H Q
inductive GO (g:Int->Int->V) (x y:V) (H:Hp) (Q:VK):Prop
 | mk (i j:Int) (e:x = .int i) (f:y = .int j) (q:Q (g i j) H):GO g x y H Q
noncomputable def rU(g:Int->V):V->Hp->VK->Prop:=λx H Q=>∃i,x = .int i/\Q (g i) H
section
variable {X:Cx} {a b c:Expr} {ta tb tc:TE} {pos:Pos}
theorem zb(ha:PE X a ta)(hb:PE X b tb){pins:List (Addr×Obj)}{s:Shared}{σ:St}{H:Hp}{R:V->V->Hp->Prop}(I:AU X pins σ H s)
  (h:ta σ H λx H1=>tb σ H1 λy H2=>R x y H2) {Q:Value->Shared->Prop} {f:Value->Value->Sem Value}
  (hf:∀v u s2 x y H2,AU X pins σ H2 s2->a9 x v->a9 y u->R x y H2->wpAny (model X.prog X.w) X.A (f v u) Q X.xe s2) :
  wpAny (model X.prog X.w) X.A (eval a X.env) (λv s₁=>wpAny (model X.prog X.w) X.A (eval b X.env) (λu s₂=>wpAny (model X.prog X.w) X.A (f v u) Q X.xe s₂) X.xe s₁) X.xe s:=by
 refine thn (ha pins s σ H _ I h) λv s1 ⟨x,H1,I1,r1,q1⟩=>?_;refine thn (hb pins s1 σ H1 _ I1 q1) λu s2 ⟨y,H2,I2,r2,q2⟩=>?_;exact hf v u s2 x y H2 I2 r1 r2 q2
theorem ao{op:Operator}{r:R2}(ho:OpR X (binaryOp op) r)(ha:PE X a ta)(hb:PE X b tb):PE X (.BinOp a op b pos) (tOp r ta tb):=by
 intro pins s σ H Q I h;exact wpAny_BinOp (zb ha hb I h λv u s2 x y H2 I2 rx ry q=>ho pins s2 σ H2 x y v u Q I2 rx ry q)
theorem eJ{op:UnaryOp}{r:V->Hp->VK->Prop}(ho:UnR X (unaryOp op) r)(ha:PE X a ta):PE X (.UnaryOp op a pos) (tUn r ta):=by
 intro pins s σ H Q I h;exact UnaryOp_ (thn (ha pins s σ H _ I h) λv s1 ⟨x,H1,I1,r1,q1⟩=>ho pins s1 σ H1 x v Q I1 r1 q1)
theorem opI{f:Value->Value->Sem Value}{C:Int->Int->Prop}{g:Int->Int->Int}
  (rule:∀(i j:Int) (t u:Tok) (s:Shared) (Q:Value->Shared->Prop) (E:Value->Shared->Prop),C i j->Q (.int (g i j) s.toks) { s with toks:=s.toks+1 }->wpAny (model X.prog X.w) X.A (f (.int i t) (.int j u)) Q E s) :
  OpR X f (rI C λi j=>.int (g i j)):=by
 intro pins s σ H x y v u Q I rx ry h;obtain⟨i,j,rfl,rfl,hc,q⟩:=h;obtain⟨t,rfl⟩:=rx;obtain⟨t',rfl⟩:=ry;exact rule i j t t' s _ _ hc ⟨.int (g i j),H,I.tok _,⟨_,rfl⟩,q⟩
theorem zM{f:Value->Value->Sem Value}{g:Int->Int->Int}
  (rule:∀(i j:Int) (t u:Tok) (s:Shared) (Q:Value->Shared->Prop) (E:Value->Shared->Prop),Q (.int (g i j) s.toks) { s with toks:=s.toks+1 }->wpAny (model X.prog X.w) X.A (f (.int i t) (.int j u)) Q E s) :
  OpR X f (GO λi j=>.int (g i j)):=by
 intro pins s σ H x y v u Q I rx ry h;obtain⟨i,j,rfl,rfl,q⟩:=h;obtain⟨t,rfl⟩:=rx;obtain⟨t',rfl⟩:=ry;exact rule i j t t' s _ _ ⟨.int (g i j),H,I.tok _,⟨_,rfl⟩,q⟩
theorem vV{f:Value->Value->Sem Value}{g:Int->Int->Bool}
  (rule:∀(i j:Int) (t u:Tok) (s:Shared) (Q:Value->Shared->Prop) (E:Value->Shared->Prop),Q (.bool (g i j)) s->wpAny (model X.prog X.w) X.A (f (.int i t) (.int j u)) Q E s) :
  OpR X f (GO λi j=>.bl (g i j)):=by
 intro pins s σ H x y v u Q I rx ry h;obtain⟨i,j,rfl,rfl,q⟩:=h;obtain⟨t,rfl⟩:=rx;obtain⟨t',rfl⟩:=ry;exact rule i j t t' s _ _ ⟨.bl (g i j),H,I,rfl,q⟩
noncomputable def Am(i j:Int):Prop:=0<=j/\j<=1000000/\i.natAbs<2^64
noncomputable def xf(i j:Int):Prop:=(-(2^64)<i/\i<2^64)\/(-(2^64)<j/\j<2^64)
theorem xf.ok{i j:Int}(h:xf i j):IntMulOk i j:=by
 rcases h with⟨h1,h2⟩|⟨h1,h2⟩
 ·exact .of_left (intBits_le_64 h1 h2)
 ·exact .of_right (intBits_le_64 h1 h2)
theorem aK:OpR X (binaryOp .Add) (GO λi j=>.int (i+j)):=zM λ_ _ _ _ _ _ _ q=>add_int q
theorem aL:OpR X (binaryOp .Sub) (GO λi j=>.int (i - j)):=zM λ_ _ _ _ _ _ _ q=>sub_int q
theorem fN:OpR X (binaryOp .Mod) (rI (λ_ j=>0<j) λi j=>.int (i % j)):=opI λi j _ _ _ _ _ hc q=>by
 have h1:(0:Int)<j:=hc;exact mod_int' (by omega) (by rw[Int.fmod_eq_emod_of_nonneg i (by omega)];exact q)
theorem gG:OpR X (binaryOp .Pow) (rI Am λi j=>.int (i^j.toNat)):=opI λ_ _ _ _ _ _ _ hc q=>pow_int_small hc.1 hc.2.1 hc.2.2 q
theorem tX:OpR X (binaryOp .LShift) (rI Am λi j=>.int (i*2^j.toNat)):=opI λ_ _ _ _ _ _ _ hc q=>lshift_int_small hc.1 hc.2.1 hc.2.2 q
theorem unI{f:Value->Sem Value}{g:Int->Int}
  (rule:∀(i:Int) (t:Tok) (s:Shared) (Q:Value->Shared->Prop) (E:Value->Shared->Prop),Q (.int (g i) s.toks) { s with toks:=s.toks+1 }->wpAny (model X.prog X.w) X.A (f (.int i t)) Q E s) :
  UnR X f (rU λi=>.int (g i)):=by
 intro pins s σ H x v Q I rx h;obtain⟨i,rfl,q⟩:=h;obtain⟨t,rfl⟩:=rx;exact rule i t s _ _ ⟨.int (g i),H,I.tok _,⟨_,rfl⟩,q⟩
theorem dI:UnR X (unaryOp .USub) (rU λi=>.int (-i)):=unI λ_ _ _ _ _ q=>neg_int q
end
noncomputable def zG:V->V->Bool
 | .non,.non=>true | .non,.int _=>true | .int _,.non=>true | .non,.bl _=>true | .bl _,.non=>true | .non,.str _=>true | .str _,.non=>true
 | .int _,.int _=>true | .bl _,.bl _=>true | .str _,.str _=>true | .byt _,.byt _=>true
 | .int _,.str _=>true | .str _,.int _=>true | .bl _,.str _=>true | .str _,.bl _=>true
 | _,_=>false
inductive Ih (x y:V) (H:Hp) (Q:VK):Prop
 | mk (s:zG x y=true) (q:Q (.bl (decide (x=y))) H):Ih x y H Q
inductive Ig (x y:V) (H:Hp) (Q:VK):Prop
 | mk (s:zG x y=true) (q:Q (.bl (!decide (x=y))) H):Ig x y H Q
theorem qT{i j:Int}:decide (V.int i=V.int j)=(i == j):=by
 rw[Bool.eq_iff_iff];simp
theorem uZ{i j:Bool}:decide (V.bl i=V.bl j)=(i == j):=by
 rw[Bool.eq_iff_iff];simp
theorem qS{i j:Str}:decide (V.str i=V.str j)=(i == j):=by
 rw[Bool.eq_iff_iff];simp
theorem qU{i j:Array UInt8}:decide (V.byt i=V.byt j)=(i.toList == j.toList):=by
 rw[Bool.eq_iff_iff];cases i;cases j;simp
section
variable {X:Cx} {a b c:Expr} {ta tb tc:TE} {pos:Pos}
theorem bE{pins:List (Addr×Obj)}{σ:St}{H:Hp}{s:Shared}{Q:VK}{k k':Bool}(I:AU X pins σ H s)(q:Q (.bl k) H)(e:k=k'):EP X pins σ Q (.bool k') s:=by
 subst e;exact⟨.bl k,H,I,rfl,q⟩
theorem bR:OpR X (compareOp .Eq) Ih:=by
 intro pins s σ H x y v u Q I rx ry h;obtain⟨hs,q⟩:=h;cases x with
 | non =>
  cases rx;cases y with
  | non=>cases ry;exact PySem.EqNone.eq_none_none (bE I q (by simp))
  | bl j=>cases ry;exact PySem.EqNone.eq_none_bool (bE I q (by simp))
  | int j=>obtain⟨t',rfl⟩:=ry;exact PySem.EqNone.eq_none_int (bE I q (by simp))
  | str j=>obtain⟨t',rfl⟩:=ry;exact PySem.EqNone.eq_none_str (bE I q (by simp))
  | _=>exact absurd (show false=true from hs) Bool.false_ne_true
 | bl i =>
  cases rx;cases y with
  | non=>cases ry;exact PySem.EqNone.eq_bool_none (bE I q (by simp))
  | bl j=>cases ry;exact eq_bool (bE I q uZ)
  | str j=>obtain⟨t',rfl⟩:=ry;exact PySem.EqMixed.eq_bool_str (bE I q (by simp))
  | _=>exact absurd (show false=true from hs) Bool.false_ne_true
 | int i =>
  obtain⟨t,rfl⟩:=rx;cases y with
  | non=>cases ry;exact PySem.EqNone.eq_int_none (bE I q (by simp))
  | int j=>obtain⟨t',rfl⟩:=ry;exact eq_int (bE I q qT)
  | str j=>obtain⟨t',rfl⟩:=ry;exact PySem.EqMixed.eq_int_str (bE I q (by simp))
  | _=>exact absurd (show false=true from hs) Bool.false_ne_true
 | str i =>
  obtain⟨t,rfl⟩:=rx;cases y with
  | non=>cases ry;exact PySem.EqNone.eq_str_none (bE I q (by simp))
  | bl j=>cases ry;exact PySem.EqMixed.eq_str_bool (bE I q (by simp))
  | int j=>obtain⟨t',rfl⟩:=ry;exact PySem.EqMixed.eq_str_int (bE I q (by simp))
  | str j=>obtain⟨t',rfl⟩:=ry;exact eq_str (bE I q qS)
  | _=>exact absurd (show false=true from hs) Bool.false_ne_true
 | byt i =>
  obtain⟨t,rfl⟩:=rx;cases y with
  | byt j=>obtain⟨t',rfl⟩:=ry;exact W.eq_bytes (bE I q qU)
  | _=>exact absurd (show false=true from hs) Bool.false_ne_true
 | _=>cases y <;> exact absurd (show false=true from hs) Bool.false_ne_true
theorem fM:OpR X (compareOp .NotEq) Ig:=by
 intro pins s σ H x y v u Q I rx ry h;obtain⟨hs,q⟩:=h;cases x with
 | non =>
  cases rx;cases y with
  | non=>cases ry;exact PySem.EqNone.ne_none_none (bE I q (by simp))
  | bl j=>cases ry;exact PySem.EqNone.ne_none_bool (bE I q (by simp))
  | int j=>obtain⟨t',rfl⟩:=ry;exact PySem.EqNone.ne_none_int (bE I q (by simp))
  | str j=>obtain⟨t',rfl⟩:=ry;exact PySem.EqNone.ne_none_str (bE I q (by simp))
  | _=>exact absurd (show false=true from hs) Bool.false_ne_true
 | bl i =>
  cases rx;cases y with
  | non=>cases ry;exact PySem.EqNone.ne_bool_none (bE I q (by simp))
  | bl j=>cases ry;exact ne_bool (bE I q (congrArg not uZ))
  | str j=>obtain⟨t',rfl⟩:=ry;exact PySem.EqMixed.ne_bool_str (bE I q (by simp))
  | _=>exact absurd (show false=true from hs) Bool.false_ne_true
 | int i =>
  obtain⟨t,rfl⟩:=rx;cases y with
  | non=>cases ry;exact PySem.EqNone.ne_int_none (bE I q (by simp))
  | int j=>obtain⟨t',rfl⟩:=ry;exact ne_int (bE I q (congrArg not qT))
  | str j=>obtain⟨t',rfl⟩:=ry;exact PySem.EqMixed.ne_int_str (bE I q (by simp))
  | _=>exact absurd (show false=true from hs) Bool.false_ne_true
 | str i =>
  obtain⟨t,rfl⟩:=rx;cases y with
  | non=>cases ry;exact PySem.EqNone.ne_str_none (bE I q (by simp))
  | bl j=>cases ry;exact PySem.EqMixed.ne_str_bool (bE I q (by simp))
  | int j=>obtain⟨t',rfl⟩:=ry;exact PySem.EqMixed.ne_str_int (bE I q (by simp))
  | str j=>obtain⟨t',rfl⟩:=ry;exact ne_str (bE I q (congrArg not qS))
  | _=>exact absurd (show false=true from hs) Bool.false_ne_true
 | byt i =>
  obtain⟨t,rfl⟩:=rx;cases y with
  | byt j=>obtain⟨t',rfl⟩:=ry;exact W.ne_bytes (bE I q (congrArg not qU))
  | _=>exact absurd (show false=true from hs) Bool.false_ne_true
 | _=>cases y <;> exact absurd (show false=true from hs) Bool.false_ne_true
theorem dG:OpR X (compareOp .Lt) (GO λi j=>.bl (decide (i<j))):=vV λ_ _ _ _ _ _ _ q=>lt_int q
theorem nI:OpR X (compareOp .LtE) (GO λi j=>.bl (decide (i<=j))):=vV λ_ _ _ _ _ _ _ q=>le_int q
theorem lB:OpR X (compareOp .Gt) (GO λi j=>.bl (decide (j<i))):=vV λ_ _ _ _ _ _ _ q=>gt_int q
theorem lC:OpR X (compareOp .GtE) (GO λi j=>.bl (decide (j<=i))):=vV λ_ _ _ _ _ _ _ q=>ge_int q
theorem gH:OpR X (compareOp .Is) (λx y H Q=>y = .non/\Q (.bl (decide (x = .non))) H):=by
 intro pins s σ H x y v u Q I rx ry h;obtain⟨rfl,q⟩:=h;cases ry;refine is_none_gen (bE I q ?_);cases x <;> first
  | (cases rx;rfl)
  | (obtain⟨t,rfl⟩:=rx;rfl)
theorem gb:OpR X (compareOp .IsNot) (λx y H Q=>y = .non/\Q (.bl (!decide (x = .non))) H):=by
 intro pins s σ H x y v u Q I rx ry h;obtain⟨rfl,q⟩:=h;cases ry;refine isnot_none_gen (bE I q ?_);cases x <;> first
  | (cases rx;rfl)
  | (obtain⟨t,rfl⟩:=rx;rfl)
theorem aH(b:Expr){op:CmpOp}(h:op≠.In:=by decide)(h2:op≠.NotIn:=by decide):behindInMarks op b=false:=by
 have e1:(op == CmpOp.In)=false:=by cases op <;> first|rfl|exact absurd rfl h
 have e2:(op == CmpOp.NotIn)=false:=by cases op <;> first|rfl|exact absurd rfl h2
 cases b <;> simp[behindInMarks,e1,e2]
theorem dO{op:CmpOp}{r:R2}(ho:OpR X (compareOp op) r)(ha:PE X a ta)(hb:PE X b tb)(hm:behindInMarks op b=false):PE X (.Compare a [op] [b] pos) (tOp r ta tb):=by
 intro pins s σ H Q I h;exact wpAny_Compare1 (zb ha hb I h λv u s2 x y H2 I2 rx ry q=>ho pins s2 σ H2 x y v u Q I2 rx ry q) hm
inductive Ii (x:V) (H:Hp) (Q:Bool->Hp->Prop):Prop
 | mk (k:Bool) (e:x = .bl k) (q:Q k H):Ii x H Q
noncomputable def zp(t:TE):TT:=λσ H Q=>t σ H λx H'=>Ii x H' Q
theorem aE{op:CmpOp}{r:R2}(ho:OpR X (compareOp op) r)(ha:PE X a ta)(hb:PE X b tb)(hm:behindInMarks op b=false):PT X (.Compare a [op] [b] pos) (zp (tOp r ta tb)):=by
 intro pins s σ H Q I h;refine wpAny_isTrue_Compare1 (thn (ha pins s σ H _ I h) λv s1 ⟨x,H1,I1,r1,q1⟩=>thn (hb pins s1 σ H1 _ I1 q1) λu s2 ⟨y,H2,I2,r2,q2⟩ =>
  thn (ho pins s2 σ H2 x y v u _ I2 r1 r2 q2) λc s3 ⟨z,H3,I3,r3,k,e,q3⟩=>?_) hm
 subst e;cases r3;exact wpAny_truthy_bool ⟨H3,I3,q3⟩
theorem mB:(sizeLine:Nat)<2^63:=by rw[sizeLine_eq];decide
theorem gP{x:V}{us:List Value}(r:aV [x] us):∃u,us = [u]/\a9 x u:=by
 cases r with
 | cons r1 r2=>cases r2;exact⟨_,rfl,r1⟩
theorem p9{x y:V}{us:List Value}(r:aV [x,y] us):∃u w',us = [u,w']/\a9 x u/\a9 y w':=by
 cases r with
 | cons r1 r2 =>
  cases r2 with
  | cons r3 r4=>cases r4;exact⟨_,_,rfl,r1,r3⟩
theorem eX:fX X (.builtin "abs") (λxs H Q=>∃i,xs = [.int i]/\Q (.int (if i<0 then -i else i)) H):=by
 intro pins s σ H xs us Q I r h;obtain⟨i,rfl,q⟩:=h;obtain⟨u,rfl,t,rfl⟩:=gP r;exact call_abs_int λu tk=>⟨.int (if i<0 then -i else i),H,I.tok _,⟨_,rfl⟩,q⟩
theorem sK(hc:X.calm=true):fX X (.builtin "max") (λxs H Q=>∃i j,xs = [.int i,.int j]/\Q (.int (if j>i then j else i)) H):=by
 intro pins s σ H xs us Q I r h;obtain⟨i,j,rfl,q⟩:=h;obtain⟨u,w',rfl,⟨t,rfl⟩,⟨t',rfl⟩⟩:=p9 r;refine max_two_ints (I.ok.hd hc) λh' tk k=>⟨_,H,I.kept k,?_,q⟩
 by_cases hj:j>i
 ·rw[if_pos hj,if_pos hj];exact⟨_,rfl⟩
 ·rw[if_neg hj,if_neg hj];exact⟨_,rfl⟩
theorem gs(hc:X.calm=true):fX X (.builtin "min") (λxs H Q=>∃i j,xs = [.int i,.int j]/\Q (.int (if j<i then j else i)) H):=by
 intro pins s σ H xs us Q I r h;obtain⟨i,j,rfl,q⟩:=h;obtain⟨u,w',rfl,⟨t,rfl⟩,⟨t',rfl⟩⟩:=p9 r;refine min_two_ints (I.ok.hd hc) λh' tk k=>⟨_,H,I.kept k,?_,q⟩
 by_cases hj:j<i
 ·rw[if_pos hj,if_pos hj];exact⟨_,rfl⟩
 ·rw[if_neg hj,if_neg hj];exact⟨_,rfl⟩
theorem lQ:fX X (.type "int") (λxs H Q=>(∃i,xs = [.int i]/\Q (.int i) H)\/∃k,xs = [.bl k]/\Q (.int (if k then 1 else 0)) H):=by
 intro pins s σ H xs us Q I r h;rcases h with⟨i,rfl,q⟩|⟨k,rfl,q⟩
 ·obtain⟨u,rfl,t,rfl⟩:=gP r
  exact call_int_int ⟨.int i,H,I,⟨_,rfl⟩,q⟩
 ·obtain⟨u,rfl,r1⟩:=gP r
  cases r1;exact call_int_bool ⟨.int (if k then 1 else 0),H,I.tok _,⟨_,rfl⟩,q⟩
end
structure F9(h:Heap)(x dx C:Addr)(mA:Str->Option Value):Prop where
 obj:h.get? x=some (W.instObj C dx)
 ns:h.Ns1 dx mA
 ne:dx≠x
theorem rT{h:Heap}{dx:Addr}{mA:Str->Option Value}(n:h.Ns1 dx mA):∃od,h.get? dx=some od/\∀name,W.lookIn name od=some (mA name):=by
 obtain⟨o,es,ep,ho,hd,hk,_,hm⟩:=n;refine⟨o,ho,λname=>?_⟩;have e:=hm name;unfold nsFind findBy at e;rw[<- Array.find?_toList]at e;unfold W.lookIn;rw[hd];dsimp only
 split
 ·rename_i y q
  rw[q]at e;exact congrArg some e
 ·rename_i q
  rw[q]at e;have a:es.toList.any (·.refKey)=false:=by
   rw[List.any_eq_false];intro y hy;obtain⟨z,t,hkey⟩:=hk y (Array.mem_toList_iff.mp hy);simp[DictEntry.refKey,hkey]
  have a':¬es.toList.any (·.refKey)=true:=by rw[a];exact Bool.false_ne_true
  rw[if_neg a'];exact congrArg some e
theorem F9.look{h:Heap}{x dx C:Addr}{mA:Str->Option Value}(I:F9 h x dx C mA):∃od,W.InstAt h x (W.instObj C dx) C (some od)/\∀name,W.lookIn name od=some (mA name) :=
 let ⟨od,ho,hl⟩:=rT I.ns
 ⟨od,⟨I.obj,rfl,rfl,ho⟩,hl⟩
section
variable {prog:Program} {w:World} {A:Around} {E:Value->Shared->Prop} {s:Shared} {K:W.Frag} {x dx C f:Addr} {mA:Str->Option Value} {name:Str} {v:Value}
theorem wo{expr:Bool}{Q:Value->Shared->Prop}(X:K.In s.heap)(I:F9 s.heap x dx C mA)(hg:W.plainGet K C name=true)(hh:W.hasDictIn K C=true)
  (ha:W.findIn K (.ref C) name=some none) (hv:mA name=some v) (hv':W.handedIn v=true) (h:Q v { s with toks:=s.toks+1 }) :
  wpAny (model prog w) A (getAttr (.ref x) name expr) Q E s:=by
 obtain⟨od,J,hl⟩:=I.look;exact W.get_value X J (W.plainGet_of hg).1 (W.findObj_own hh ha rfl (by rw[hl,hv])) hv' h
theorem vD{ns:List Str}{Q:Unit->Shared->Prop}(X:K.In s.heap)(I:F9 s.heap x dx C mA)
  (hs:W.findIn K (.ref C) "__setattr__" = some (some (.builtin "object.__setattr__"))) (hp:W.plainOver K C=true) (ht:W.takerIn K C name=some none) (hh:W.hasDictIn K C=true)
  (hw:PySem.Within mA ns) (hsz:ns.length<=sizeLine)
  (h:∀h',F9 h' x dx C (λy=>if y=name then some v else mA y)->Heap.SameBut dx s.heap h'->Q () { s with heap:=h',toks:=s.toks+2 }) :
  wpAny (model prog w) A (setAttr (.ref x) name v) Q E s:=by
 obtain⟨od,J,hl⟩:=I.look;refine W.set_plain X J hs (W.osa_open (s:={ s with toks:=s.toks+1 }) (r:=none) X J hp ht λb=>?_);obtain⟨cd,hc,hd'⟩:=W.any_some hh;have hx:s.heap.get? x=some ⟨.ref C,some dx,.plain,#[]⟩:=I.obj;refine wpAny_bind (wpAny_pure (wpAny_bind (wpAny_bind (wpAny_loadPart hx (wpAny_bind (W.Looks.here (s:={ s with toks:=s.toks+1 }) (W.looks_clsIn X hc) ?_))))));rw[hd'];refine wpAny_pure (a:=some dx) (wpAny_bind (wpAny_pure (wpAny_bind ?_)));refine wpAny_nsSet1 (s:={ s with toks:=s.toks+1 }) I.ns λh' hn2 hs2=>?_;obtain⟨oD,esD,epD,hoD,hdD,hcD⟩:=hn2.count (PySem.Within.cons name v hw);refine wpAny_bind (wpAny_lookBehind hoD (by rw[hdD];exact pastItsLine_dict (Nat.le_trans hcD (by rw[List.length_cons];omega))) ?_);exact wpAny_pure (h _ ⟨(hs2.2 _ (Ne.symm I.ne)).trans I.obj,hn2,I.ne⟩ hs2)
theorem ug{R:Result->Shared->Prop}{vs:List Value}{kw:List (Str×Value)}(X:K.In s.heap)(hm:W.makesIn K C=true)
  (hi:W.findIn K (.ref C) "__init__" = some (some (.ref f))) (hf:W.typeIn K (.ref f)=some (.type "function"))
  (h:codeAny (model prog w) (A.under (.builtin "type.__call__" ⟨.ref C::vs,kw⟩)) (.call (.ref f) ⟨.ref (s.heap.objs.size+1)::vs,kw⟩) (W.InitBack (s.heap.objs.size+1) R)
   { s with heap:=(s.heap.push W.emptyDict).push (W.instObj C s.heap.objs.size) }) :
  codeAny (model prog w) A (.call (.ref C) ⟨vs,kw⟩) R s:=by
 obtain⟨hh,g,d,t,os⟩:=s;exact W.make_core (W.makes_of X hm) (W.looks_findIn X hi) (λself=>W.bind_fn X self hf) (.inl rfl) h
end
noncomputable def dD(f:Str)(v:V):List (Str×V)->List (Str×V)
 | []=>[(f,v)]
 | (g,x)::r=>if g=f then (g,v)::r else (g,x)::dD f v r
theorem iV(f g:Str)(v:V):∀fs:List (Str×V),(dD f v fs).lookup g=if g=f then some v else fs.lookup g
 | []=>by
  show List.lookup g [(f,v)]=_
  by_cases h:g=f
  ·have hb:(g == f)=true:=beq_iff_eq.mpr h
   simp only[List.lookup,hb,if_pos h]
  ·have hb:(g == f)=false:=beq_eq_false_iff_ne.mpr h
   simp only[List.lookup,hb,if_neg h]
 | (k,x)::r=>by
  have ih:=iV f g v r;rw[show dD f v ((k,x)::r)=(if k=f then (k,v)::r else (k,x)::dD f v r) from rfl]
  by_cases hk:k=f
  ·rw[if_pos hk]
   by_cases h:g=k
   ·have hb:(g == k)=true:=beq_iff_eq.mpr h
    simp only[List.lookup,hb,if_pos (h.trans hk)]
   ·have hb:(g == k)=false:=beq_eq_false_iff_ne.mpr h
    simp only[List.lookup,hb,if_neg (λe:g=f=>h (e.trans hk.symm))]
  ·rw[if_neg hk]
   by_cases h:g=k
   ·have hb:(g == k)=true:=beq_iff_eq.mpr h
    simp only[List.lookup,hb,if_neg (λe:g=f=>hk (h.symm.trans e))]
   ·have hb:(g == k)=false:=beq_eq_false_iff_ne.mpr h
    simp only[List.lookup,hb];exact ih
theorem iI(f:Str)(v:V):∀fs:List (Str×V),f∈(dD f v fs).map (·.1)/\∀g,g∈fs.map (·.1)->g∈(dD f v fs).map (·.1)
 | []=>⟨by simp[dD],λg h=>by simp at h⟩
 | (k,x)::r=>by
  obtain⟨i1,i2⟩:=iI f v r;rw[show dD f v ((k,x)::r)=(if k=f then (k,v)::r else (k,x)::dD f v r) from rfl]
  by_cases hk:k=f
  ·rw[if_pos hk]
   subst hk;exact⟨by simp,λg h=>by simpa using h⟩
  ·rw[if_neg hk]
   refine⟨?_,λg h=>?_⟩
   ·rw[List.map_cons]
    exact List.mem_cons_of_mem _ i1
   ·rw[List.map_cons]at h ⊢
    rcases List.mem_cons.mp h with e|e
    ·exact List.mem_cons.mpr (.inl e)
    ·exact List.mem_cons_of_mem _ (i2 g e)
theorem iX(f:Str)(v:V):∀fs:List (Str×V),(dD f v fs).length<=fs.length+1
 | []=>by simp[dD]
 | (k,x)::r=>by
  have ih:=iX f v r;rw[show dD f v ((k,x)::r)=(if k=f then (k,v)::r else (k,x)::dD f v r) from rfl]
  by_cases hk:k=f
  ·rw[if_pos hk,List.length_cons,List.length_cons];omega
  ·rw[if_neg hk,List.length_cons,List.length_cons];omega
theorem iP.some_of{v:V}{o:Option Value}(r:iP (some v) o):∃u,o=some u/\a9 v u:=by
 cases o with
 | none=>exact(show False from r).elim
 | some u=>exact⟨u,rfl,r⟩
theorem si{v:V}{u:Value}(r:a9 v u):W.handedIn u=true:=by
 cases v with
 | non=>cases (show u=Value.none from r);rfl
 | bl b=>cases (show u=Value.bool b from r);rfl
 | int i=>obtain⟨t,e⟩:=(show ∃t,u=Value.int i t from r);cases e;rfl
 | str x=>obtain⟨t,e⟩:=(show ∃t,u=Value.str x t from r);cases e;rfl
 | byt b=>obtain⟨t,e⟩:=(show ∃t,u=Value.bytes b t from r);cases e;rfl
 | flt b=>obtain⟨t,e⟩:=(show ∃t,u=Value.float b t from r);cases e;rfl
 | ref a=>cases (show u=Value.ref a from r);rfl
 | ty n=>cases (show u=Value.type n from r);rfl
section
variable {P:Program} {w:World} {H H':Hp} {h h':Heap} {a C dx:Addr} {fs fs':List (Str×V)}
theorem mE(hok:HOk P w H h)(e:H a=some (.ins C dx fs)):∃mA,F9 h a dx C mA/\(∀f,iP (fs.lookup f) (mA f))/\PySem.Within mA (fs.map (·.1))/\fs.length<=1000/\H dx=some (.own a):=by
 obtain⟨d,z,ne,ob,mA,n,r,q⟩:=(show bV P w H h a (.ins C dx fs) from hok a _ e);exact⟨mA,⟨ob,n,ne⟩,r,q,z,d⟩
end
structure E2(K:W.Frag)(C:Addr):Prop where
 pg:W.plainGet K C Str.empty=true
 hd:W.hasDictIn K C=true
 po:W.plainOver K C=true
 sa:W.findIn K (.ref C) "__setattr__" = some (some (.builtin "object.__setattr__"))
theorem E2.get{K:W.Frag}{C:Addr}(c:E2 K C)(f:Str):W.plainGet K C f=true:=c.pg
noncomputable def aR(K:W.Frag)(C:Addr)(f:Str):Prop:=W.findIn K (.ref C) f=some none
theorem aR.taker{K:W.Frag}{C:Addr}{f:Str}(n:aR K C f):W.takerIn K C f=some none:=by
 unfold W.takerIn;rw[show W.findIn K (.ref C) f=some none from n];rfl
structure HX(K:W.Frag)(C:Addr)(m:Str)(f:Addr):Prop where
 at_:W.findIn K (.ref C) m=some (some (.ref f))
 fn:W.isFn K (.ref f)=true
 kp:W.keepIn K (.ref f)=true
section
variable {X:Cx} {pins:List (Addr×Obj)} {σ:St} {H:Hp} {s:Shared} {a C dx:Addr} {fs:List (Str×V)} {f:Str} {v:V} {A:Around} {E:Value->Shared->Prop}
theorem pJ{b:Bool}{Q:Value->Shared->Prop}(I:AU X pins σ H s)(e:H a=some (.ins C dx fs))(c:E2 X.K C)(n:aR X.K C f)(l:fs.lookup f=some v)
  (h:∀u s',AU X pins σ H s'->a9 v u->Q u s'):wpAny (model X.prog X.w) A (getAttr (.ref a) f b) Q E s:=by
 obtain⟨mA,O,r,_,_,_⟩:=mE I.hok e;obtain⟨u,hu,ru⟩:=iP.some_of (v:=v) (o:=mA f) (by rw[<- l];exact r f);exact wo I.kIn O (c.get f) c.hd n hu (si ru) (h u _ (I.tok _) ru)
theorem oW{y:V}{u:Value}{Q:Unit->Shared->Prop}(I:AU X pins σ H s)(e:H a=some (.ins C dx fs))(c:E2 X.K C)(n:aR X.K C f)(hl:fs.length<1000)(ry:a9 y u)
  (h:∀s',AU X pins σ (upd H a (.ins C dx (dD f y fs))) s'->Q () s'):wpAny (model X.prog X.w) A (setAttr (.ref a) f u) Q E s:=by
 obtain⟨mA,O,r,wi,_,ho⟩:=mE I.hok e;have hz:(fs.map (·.1)).length<=sizeLine:=by rw[List.length_map,sizeLine_eq];omega
 refine vD I.kIn O c.sa c.po n.taker c.hd wi hz λh' O' sb=>h _ ?_;have hd:∃o,h'.get? dx=some o:=let ⟨o,_,_,e',_⟩:=O'.ns;⟨o,e'⟩;refine I.write (x:=a) (e:=dx) (by rw[e];exact True.intro) (.inr ho) (λb q hb z=>(sb.2 b hb).trans z) hd ?_;refine⟨by rw[aN O.ne];exact ho,?_,O.ne,O'.obj,_,O'.ns,λg=>?_,λg hg=>?_⟩
 ·have:=iX f y fs;omega
 ·show iP ((dD f y fs).lookup g) (if g=f then some u else mA g)
  rw[iV]
  by_cases q:g=f
  ·rw[if_pos q,if_pos q];exact ry
  ·rw[if_neg q,if_neg q];exact r g
 ·by_cases q:g=f
  ·rw[q];exact(iI f y fs).1
  ·refine(iI f y fs).2 g (wi g λz=>hg ?_)
   show(if g=f then some u else mA g)=none
   rw[if_neg q];exact z
theorem AU.made(I:AU X pins σ H s):AU X pins σ (upd (upd H s.heap.objs.size (.own (s.heap.objs.size+1))) (s.heap.objs.size+1) (.ins C s.heap.objs.size []))
  { s with heap:=(s.heap.push W.emptyDict).push (W.instObj C s.heap.objs.size) }:=by
 have e1:(s.heap.push W.emptyDict).get? s.heap.objs.size=some W.emptyDict:=Heap.get?_push_size s.heap rfl;have e2:((s.heap.push W.emptyDict).push (W.instObj C s.heap.objs.size)).get? (s.heap.objs.size+1)=some (W.instObj C s.heap.objs.size):=by
  have:=Heap.get?_push_size (s.heap.push W.emptyDict) (o:=W.instObj C s.heap.objs.size) rfl
  rwa [Heap.size_push]at this
 have e3:(s.heap.push W.emptyDict).Ns s.heap.objs.size (λ_=>none):=⟨W.emptyDict,#[],_,e1,rfl,(λe he=>absurd he (by simp)),λ_=>rfl⟩;have I1:=I.laid (a:=s.heap.objs.size) (o:=.own (s.heap.objs.size+1)) (h':=s.heap.push W.emptyDict) (t':=s.toks) (λb u q=>Heap.get?_push_of_some _ q) (Nat.le_refl _) ⟨_,e1⟩;refine I1.laid (a:=s.heap.objs.size+1) (o:=.ins C s.heap.objs.size []) (t':=s.toks) (λb u q=>Heap.get?_push_of_some _ q) (Nat.le_of_eq (Heap.size_push _ _)) ?_;have ne:s.heap.objs.size≠s.heap.objs.size+1:=Nat.ne_of_lt (Nat.lt_succ_self _);refine⟨by rw[aN ne,upd_same],Nat.zero_le _,ne,e2,λ_=>none,(Heap.Ns1.of_empty e3).at λo q=>Heap.get?_push_of_some _ q,λ_=>True.intro,λy hy=>absurd rfl hy⟩
theorem wS{prog:Program}{w:World}{env:Env}{e:Expr}{f:Str}{pos:Pos}{s:Shared}{Q:Value->Shared->Prop}(hb:attributeBase e f env (eval e env)=eval e env)
  (h:wpAny (model prog w) A (eval e env) (λo s1=>wpAny (model prog w) A (getAttr o f true) Q E s1) E s):wpAny (model prog w) A (eval (.Attribute e f pos) env) Q E s :=
 Attribute_any_ h (by rw[arm_eval_Attribute,hb])
end
noncomputable def zA(K:W.Frag)(ta:TE)(f:Str):TE:=λσ H Q=>ta σ H λx H1=>∃a C dx fs v,x = .ref a/\H1 a=some (.ins C dx fs)/\E2 K C/\aR K C f/\fs.lookup f=some v/\Q v H1
noncomputable def AA(K:W.Frag)(ta tv:TE)(f:Str):TS:=λD σ H=>tv σ H λy H1=>ta σ H1 λx H2=>∃a C dx fs,x = .ref a/\H2 a=some (.ins C dx fs)/\E2 K C/\aR K C f/\fs.length<1000 /\
 D.nx σ (upd H2 a (.ins C dx (dD f y fs)))
section
variable {X:Cx} {o e value:Expr} {f:Str} {pos pos' tpos:Pos} {ta tv:TE}
theorem cF(he:PE X e ta)(hb:attributeBase e f X.env (eval e X.env)=eval e X.env):PE X (.Attribute e f pos) (zA X.K ta f):=by
 intro pins s σ H Q I h;refine wS hb (thn (he pins s σ H _ I h) λu s1 ⟨x,H1,I1,rx,a,C,dx,fs,v,ex,ea,c,n,l,q⟩=>?_);subst ex;obtain rfl:u=Value.ref a:=rx;exact pJ I1 ea c n l λu' s2 I2 ru=>⟨v,H1,I2,ru,q⟩
theorem l9(ha:PE X o ta)(hv:PE X value tv)(hs:swapsWith value (some (.Attribute o f pos')) pos.line X.env=pure false):PS X (.Assign [.Attribute o f pos'] value pos) (AA X.K ta tv f):=by
 intro pins s σ H D I h;refine plainObj_wpAny_Assign_Attribute (thn (hv pins s σ H _ I h) λu s1 ⟨y,H1,I1,ry,q⟩=>thn (ha pins s1 σ H1 _ I1 q) λov s2 ⟨x,H2,I2,rx,a,C,dx,fs,ex,ea,c,n,l,q2⟩=>?_) hs;subst ex;obtain rfl:ov=Value.ref a:=rx;exact oW I2 ea c n l ry λs3 I3=>⟨σ,_,I3,q2⟩
end
section
variable {X:Cx} {pins:List (Addr×Obj)} {σ:St} {H:Hp} {s:Shared} {A:Around} {E:Value->Shared->Prop} {Q:Value->Shared->Prop} {c:Value} {b:Bool}
inductive DD (K:W.Frag) (H:Hp):V->Value->Prop where
 | non:DD K H .non (.type "NoneType")
 | bl (x:Bool):DD K H (.bl x) (.type "bool")
 | int (i:Int):DD K H (.int i) (.type "int")
 | str (x:Str):DD K H (.str x) (.type "str")
 | flt (x:UInt64):DD K H (.flt x) (.type "float")
 | lst {a:Addr} {xs:List V} (e:H a=some (.lst xs)):DD K H (.ref a) (.type "list")
 | frz {a:Addr} {o:Obj} {xs:List V} (e:H a=some (.frz o (.lst xs))):DD K H (.ref a) (.type "list")
 | tup {a:Addr} {xs:List V} (e:H a=some (.tup xs)):DD K H (.ref a) (.type "tuple")
 | dK {a:Addr} {kvs:List (Key×V)} (e:H a=some (.dK kvs)):DD K H (.ref a) (.type "dict")
 | dT {a:Addr} {kvs:List (List Key×V)} (e:H a=some (.dT kvs)):DD K H (.ref a) (.type "dict")
 | ins {a C dx:Addr} {fs:List (Str×V)} (e:H a=some (.ins C dx fs)) (cl:E2 K C) (ha:W.findIn K (.ref C) "__class__" = some (some (.builtin "object.__class__")))
   (hn:W.specialIn K (.builtin "object.__class__") "__get__" = some (some (.builtin "getset_descriptor.__get__"))) (htk:W.takesIn K (.builtin "object.__class__")=some true)
   (hm:W.mroIn K C (.type "object")=some true):DD K H (.ref a) (.ref C)
theorem rZ{x:V}{u t:Value}(I:AU X pins σ H s)(rx:a9 x u)(ty:DD X.K H x t)(e:W.kitOne X.K t c=some b)(h:∀tk,Q (.bool b) { s with toks:=tk }) :
  wpAny (model X.prog X.w) A (call (.builtin "isinstance") [u,c]) Q E s:=by
 cases ty with
 | non=>cases (show u=Value.none from rx);exact W.kia_one W.kitx_none I.kIn True.intro e (λz=>nomatch z) h
 | bl y=>cases (show u=Value.bool y from rx);exact W.kia_one W.kitx_bool I.kIn True.intro e (λz=>nomatch z) h
 | int i=>obtain⟨t,q⟩:=(show ∃t,u=Value.int i t from rx);cases q;exact W.kia_one W.kitx_int I.kIn True.intro e (λz=>nomatch z) h
 | str y=>obtain⟨t,q⟩:=(show ∃t,u=Value.str y t from rx);cases q;exact W.kia_one W.kitx_str I.kIn True.intro e (λz=>nomatch z) h
 | flt y=>obtain⟨t,q⟩:=(show ∃t,u=Value.float y t from rx);cases q;exact W.kia_one W.kitx_float I.kIn True.intro e (λz=>nomatch z) h
 | @lst a xs ea =>
  cases (show u=Value.ref a from rx);obtain⟨_,_,n,_,h1⟩:=(show bV X.prog X.w H s.heap a (.lst xs) from I.hok a _ ea);exact W.kia_one W.kitx_list I.kIn ⟨_,h1,rfl⟩ e (λz=>nomatch z) h
 | @frz a ob xs ea =>
  cases (show u=Value.ref a from rx);obtain⟨_,_,_,n,_,h1⟩:=(show bV X.prog X.w H s.heap a (.frz ob (.lst xs)) from I.hok a _ ea);exact W.kia_one W.kitx_list I.kIn ⟨_,h1,rfl⟩ e (λz=>nomatch z) h
 | @tup a xs ea =>
  cases (show u=Value.ref a from rx);obtain⟨_,_,_,p⟩:=(show bV X.prog X.w H s.heap a (.tup xs) from I.hok a _ ea);obtain⟨o,h1,h2,_⟩:=p;exact W.kia_one W.kitx_tuple I.kIn ⟨o,h1,h2⟩ e (λz=>nomatch z) h
 | @dK a kvs ea =>
  cases (show u=Value.ref a from rx);obtain⟨_,_,vs,_,p⟩:=(show bV X.prog X.w H s.heap a (.dK kvs) from I.hok a _ ea);obtain⟨o,es,ep,h1,h2,_⟩:=p;exact W.kia_one W.kitx_dict I.kIn ⟨o,h1,h2.1⟩ e (λz=>nomatch z) h
 | @dT a kvs ea =>
  cases (show u=Value.ref a from rx);obtain⟨_,_,xs,_,o,es,ep,h1,h2,_⟩:=(show bV X.prog X.w H s.heap a (.dT kvs) from I.hok a _ ea);exact W.kia_one W.kitx_dict I.kIn ⟨o,h1,h2.1⟩ e (λz=>nomatch z) h
 | @ins a C dx fs ea cl ha hn htk hm =>
  cases (show u=Value.ref a from rx);obtain⟨mA,O,_⟩:=mE I.hok ea;obtain⟨od,J,_⟩:=O.look;exact W.kia_one (W.kitx_own (cl.get _) cl.hd ha hn htk hm) I.kIn J e (λz=>nomatch z) h
end
structure Bv(k:Nat)(A:Around):Prop where
 hd:A.handled=none
 dp:A.depth+3*k+5<recursionLimit
 un:A.units+16*k+200<cLine
 gd:A.guards=some []
theorem Bv.mono{j k:Nat}{A:Around}(r:Bv k A)(h:j<=k):Bv j A:=⟨r.hd,by have:=r.dp;omega,by have:=r.un;omega,r.gd⟩
theorem Bv.deeper{k:Nat}{A:Around}(r:Bv (k+1) A)(env:Env):Bv k (A.deeper env) :=
 ⟨r.hd,by have:=r.dp;show A.depth+1+3*k+5<_;omega,by have:=r.un;show A.units+3+16*k+200<_;omega,r.gd⟩
theorem pG{A:Around}{C:Addr}{us:List Value}{kw:List (Str×Value)}:(A.under (.builtin "type.__call__" ⟨.ref C::us,kw⟩)).depth=A.depth+1:=by
 first|rfl|simp[Around.under,Code.weight,Code.isCreation,Code.isGuard,Code.isCaller,Code.frames,Code.isFrame,guardIds]
theorem pF{A:Around}{C:Addr}{us:List Value}{kw:List (Str×Value)}:(A.under (.builtin "type.__call__" ⟨.ref C::us,kw⟩)).units=A.units+1:=by
 first|rfl|simp[Around.under,Code.cUnits,Code.frames,Code.isFrame]
theorem nR{A:Around}{C:Addr}{us:List Value}{kw:List (Str×Value)}(h:A.guards=some []):(A.under (.builtin "type.__call__" ⟨.ref C::us,kw⟩)).guards=some []:=by
 first|exact h|(unfold Around.under;simp[h,Code.guards,Code.isGuard,guardIds,pushGuards])
theorem Bv.make{k:Nat}{A:Around}(r:Bv (k+1) A)(C:Addr)(us:List Value)(kw:List (Str×Value)):Bv k (A.under (.builtin "type.__call__" ⟨.ref C::us,kw⟩)) :=
 ⟨r.hd,by have:=r.dp;rw[pG];omega,by have:=r.un;rw[pF];omega,nR r.gd⟩
theorem Bv.depth{k:Nat}{A:Around}(r:Bv k A):A.depth<recursionLimit:=by have:=r.dp;omega
theorem Bv.units{k:Nat}{A:Around}(r:Bv k A):A.units+64<cLine:=by have:=r.un;omega
theorem Bv.units0{k:Nat}{A:Around}(r:Bv k A):A.units<cLine:=by have:=r.un;omega
noncomputable def xL:TA:=λ_ H Q=>Q [] H
noncomputable def qd(ta:TE)(tr:TA):TA:=λσ H Q=>ta σ H λx H1=>tr σ H1 λxs H2=>Q (x::xs) H2
section
variable {X:Cx} {e:Expr} {es:List Expr} {te:TE} {t:TA} {pos:Pos}
theorem ak:PA X [] xL:=λ_ _ _ _ H Q I h=>Calls.spliced_nil ⟨[],H,I,.nil,h⟩
theorem ad(ha:PE X e te)(hr:PA X es t)(hs:starEach (e::es) X.env=(false,eval e X.env)::starEach es X.env:=by rfl):PA X (e::es) (qd te t):=by
 intro pos pins s σ H Q I h;rw[hs];show wpAny _ _ (spliced ((false,eval e X.env)::backTo pos (starEach es X.env))) _ _ s;refine Calls.spliced_cons (thn (ha pins s σ H _ I h) λu s1 ⟨x,H1,I1,r1,q1⟩=>?_);exact thn (hr pos pins s1 σ H1 _ I1 q1) λus s2 ⟨xs,H2,I2,r2,q2⟩=>⟨x::xs,H2,I2,.cons r1 r2,q2⟩
noncomputable def zo(t:TA):TE:=λσ H Q=>t σ H λxs H1=>xs.length<=sizeLine/\∀p,H1 p=none->Q (.ref p) (upd H1 p (.tup xs))
theorem iB{x1}(h:PA X es t):PE X (.Tuple es x1 pos) (zo t):=by
 intro pins s σ H Q I hq;refine wpAny_Tuple_spliced (thn (h pos pins s σ H _ I hq) λus s1 ⟨xs,H1,I1,r,z,q⟩=>⟨by rw[<- r.length];exact z,?_⟩);have hf:H1 s1.heap.objs.size=none:=I1.hok.fresh (Nat.le_refl _);refine⟨.ref s1.heap.objs.size,upd H1 s1.heap.objs.size (.tup xs),I1.laid (t':=s1.toks) (λb u e=>Heap.get?_push_of_some _ e) (Nat.le_refl _) ?_,rfl,q _ hf⟩;exact⟨z,us,r,⟨_,Heap.get?_push_size _ rfl,rfl,_,rfl⟩⟩
end
noncomputable abbrev Sp:=List V->Hp->VK->XK->Prop
noncomputable abbrev CXT:=List Env->Hp->Shared->XK->Value->Shared->Prop
structure EM(P:Program)(w:World)(K:W.Frag)(mg:Str->Option Value)(base:Heap)(A:Around)(outer:List Env)(s:Shared)(H:Hp):Prop where
 frames:A.frames=some outer
 mod:Mod K mg base
 bs:∀b o,base.get? b=some o->s.heap.get? b=some o/\H b=none
 bsz:base.objs.size<=s.heap.objs.size
 funs:s.heap.FunFrames base outer
 frf:∀b∈frs outer,H b=none
 hok:HOk P w H s.heap
 bare:AllBare s.gens
noncomputable def CE(outer:List Env)(P:Program)(w:World)(H:Hp)(s:Shared)(Q:VK)(u:Value)(s':Shared):Prop :=
 ∃v H',s'.os=s.os/\AllBare s'.gens/\Un (frs outer) [] H H' s.heap s'.heap/\HOk P w H' s'.heap/\a9 v u/\Q v H'
noncomputable def CR(CX:CXT)(outer:List Env)(P:Program)(w:World)(H:Hp)(s:Shared)(Q:VK)(E:XK)(r:Result)(s':Shared):Prop :=
 match r with
 | .ok (.ret u)=>CE outer P w H s Q u s'
 | .ok _=>False
 | .error e=>CX outer H s E e s'
structure C3(P:Program)(w:World)(K:W.Frag)(mg:Str->Option Value)(base:Heap)(CX:CXT)(k:Nat)(f:Addr)(fd:FuncData)(ps:List Str)(sp:Sp):Prop where
 len:∀vs H Q E,sp vs H Q E->vs.length=ps.length
 run:∀(A:Around) (outer:List Env) (s:Shared) (H:Hp) (args:Args) (us:List Value) (vs:List V) (Q:VK) (E:XK),Bv k A->EM P w K mg base A outer s H->BindsTo s fd args (ps.zip us)->aV vs us->sp vs H Q E ->
  codeAny (model P w) A (.call (.ref f) args) (CR CX outer P w H s Q E) s
theorem C3.imp{P:Program}{w:World}{K:W.Frag}{mg:Str->Option Value}{base:Heap}{CX:CXT}{k:Nat}{f:Addr}{fd:FuncData}{ps:List Str}{sp sp':Sp}(F:C3 P w K mg base CX k f fd ps sp)
  (h:∀vs H Q E,sp' vs H Q E->sp vs H Q E):C3 P w K mg base CX k f fd ps sp' :=
 ⟨λvs H Q E q=>F.len vs H Q E (h _ _ _ _ q),λA outer s H args us vs Q E hr he hb hv hs=>F.run A outer s H args us vs Q E hr he hb hv (h _ _ _ _ hs)⟩
theorem EM.make{P:Program}{w:World}{K:W.Frag}{mg:Str->Option Value}{base:Heap}{A:Around}{outer:List Env}{s:Shared}{H:Hp}(e:EM P w K mg base A outer s H)(C:Addr)(us:List Value)(kw:List (Str×Value)) :
  EM P w K mg base (A.under (.builtin "type.__call__" ⟨.ref C::us,kw⟩)) outer s H:=⟨by first|exact e.frames|(simpa[Around.under,Code.envs,Code.isFrame,pushEnvs]using e.frames),e.mod,e.bs,e.bsz,e.funs,e.frf,e.hok,e.bare⟩
section
variable {X:Cx} {pins:List (Addr×Obj)} {σ:St} {H:Hp} {s s':Shared}
theorem AU.env0(I:AU X pins σ H s):EM X.prog X.w X.K X.mg X.base X.A X.stack s H :=
 ⟨I.ok.frames,I.ok.mod,I.bs,Nat.le_trans I.ok.bsz I.sz,I.stack,I.stkFree,I.hok,I.bare⟩
theorem AU.after{Q:VK}{u:Value}(I:AU X pins σ H s)(h:CE X.stack X.prog X.w H s Q u s'):EP X pins σ Q u s':=by
 obtain⟨v,H',os,bare,un,hok,r,q⟩:=h;obtain⟨hh,g,d,t,os'⟩:=s';obtain rfl:os'=s.os:=os;exact⟨v,H',I.call (h':=hh) (g':=g) (d':=d) (t':=t) (ch:=[]) un hok bare (λb z=>absurd z (by simp)),r,q⟩
end
noncomputable def qg(sp:Sp)(dvs:List V)(E:XK)(t:TA):TE:=λσ H Q=>t σ H λvs H1=>sp (vs++dvs) H1 Q E
noncomputable def xh(C:Addr)(sp:Sp)(dvs:List V)(E:XK)(t:TA):TE:=λσ H Q=>t σ H λvs H1=>∀x dx,H1 x=none->H1 dx=none->dx≠x ->
 sp (.ref x::(vs++dvs)) (upd (upd H1 dx (.own x)) x (.ins C dx [])) (λv H2=>v = .non/\Q (.ref x) H2) E
noncomputable def fF(K:W.Frag)(fd:FuncData)(ps:List Str)(ds:List Value):Prop :=
 ∀(s:Shared) (us:List Value),K.In s.heap->(us++ds).length=ps.length->BindsTo s fd ⟨us,[]⟩ (ps.zip (us++ds))
theorem fF.all{K:W.Frag}{fd:FuncData}{ps:List Str}(h:∀us:List Value,us.length=ps.length->bindArgs fd ⟨us,[]⟩=pure (ps.zip us)):fF K fd ps []:=λs us _ hl=>by
 rw[List.append_nil]at hl ⊢;exact .of_eq (h us hl)
noncomputable def gO(CX:CXT)(X:Cx)(E:XK):Prop:=∀(pins:List (Addr×Obj)) (σ:St) (H:Hp) (s:Shared) (e:Value) (s':Shared),AU X pins σ H s->CX X.stack H s E e s'->X.xe e s'
section
variable {X:Cx} {CX:CXT} {k:Nat} {f C:Addr} {fd:FuncData} {ps:List Str} {sp:Sp} {dvs:List V} {ds:List Value} {E:XK} {x m:Str} {p pos apos:Pos} {e o:Expr} {es:List Expr} {ta:TE} {t:TA}
theorem tH{pins:List (Addr×Obj)}{σ:St}{H:Hp}{s:Shared}{Q:VK}{us:List Value}{vs:List V}(F:C3 X.prog X.w X.K X.mg X.base CX k f fd ps sp)(hr:Bv k X.A)(hb:fF X.K fd ps ds)(hd:aV dvs ds)(hx:gO CX X E)
  (I:AU X pins σ H s) (r:aV vs us) (h:sp (vs++dvs) H Q E):wpAny (model X.prog X.w) X.A (call (.ref f) us) (EP X pins σ Q) X.xe s:=by
 have r2:aV (vs++dvs) (us++ds):=r.append hd;have hl:(us++ds).length=ps.length:=by rw[<- r2.length];exact F.len _ _ _ _ h
 refine wpAny_call (codeAny_mono (F.run X.A X.stack s H ⟨us,[]⟩ (us++ds) (vs++dvs) Q E hr I.env0 (hb s us I.kIn hl) r2 h) λr s' hq=>?_);cases r with
 | error e=>exact hx pins σ H s e s' I hq
 | ok fl =>
  cases fl with
  | ret u=>exact I.after hq
  | next=>exact False.elim hq
  | brk=>exact False.elim hq
  | cont=>exact False.elim hq
theorem md(F:C3 X.prog X.w X.K X.mg X.base CX k f fd ps sp)(hr:Bv k X.A)(hg:Gl X x)(hm:X.mg x=some (.ref f))(hk:W.keepIn X.K (.ref f)=true)(hb:fF X.K fd ps ds)(hd:aV dvs ds)(hx:gO CX X E)
  (ha:PA X (e::es) t) (hdb:(x == ("__debug__" : Str))=false:=by decide) (he:starEach (e::es) X.env=(false,eval e X.env)::starEach es X.env:=by rfl) (hpl:(backTo pos (starEach es X.env)).any (·.1)=false:=by rfl) :
  PE X (.Call (.Name x p) (e::es) [] pos) (qg sp dvs E t):=by
 intro pins s σ H Q I h;refine wpAny_Call_Name_kw (hZ I hg hm ?_ hdb);refine W.callWith_K (h₀:=X.base) I.ok.mod.kin hk (thn (ha pos pins s σ H _ I h) λus s1 ⟨vs,H1,I1,r,q⟩=>⟨I1.kIn,?_⟩) he hpl;exact tH F hr hb hd hx I1 r q
structure Mk(K:W.Frag)(C f:Addr):Prop where
 makes:W.makesIn K C=true
 init:W.findIn K (.ref C) "__init__" = some (some (.ref f))
 fn:W.isFn K (.ref f)=true
 kp:W.keepIn K (.ref C)=true
theorem tG{pins:List (Addr×Obj)}{σ:St}{H:Hp}{s:Shared}{Q:VK}{us:List Value}{vs:List V}(M:Mk X.K C f)(F:C3 X.prog X.w X.K X.mg X.base CX k f fd ps sp)(hr:Bv (k+1) X.A)(hb:fF X.K fd ps ds)(hd:aV dvs ds)
  (hx:gO CX X E) (I:AU X pins σ H s) (r:aV vs us)
  (h:∀x dx,H x=none->H dx=none->dx≠x->sp (.ref x::(vs++dvs)) (upd (upd H dx (.own x)) x (.ins C dx [])) (λv H2=>v = .non/\Q (.ref x) H2) E) :
  wpAny (model X.prog X.w) X.A (call (.ref C) us) (EP X pins σ Q) X.xe s:=by
 have hq:=h (s.heap.objs.size+1) s.heap.objs.size (I.hok.fresh (Nat.le_succ _)) (I.hok.fresh (Nat.le_refl _)) (Nat.ne_of_lt (Nat.lt_succ_self _));have I2:=AU.made (C:=C) I;have r2:aV (V.ref (s.heap.objs.size+1)::(vs++dvs)) (Value.ref (s.heap.objs.size+1)::(us++ds)):=.cons rfl (r.append hd);have hl:(Value.ref (s.heap.objs.size+1)::us++ds).length=ps.length:=by
  have e:=r2.length;rw[F.len _ _ _ _ hq]at e;exact e.symm
 refine wpAny_call (ug (f:=f) I.kIn M.makes M.init (beq_iff_eq.mp M.fn) (codeAny_mono (F.run _ X.stack _ _ ⟨Value.ref (s.heap.objs.size+1)::us,[]⟩ (Value.ref (s.heap.objs.size+1)::(us++ds)) _ _ E (hr.make C us [])
  (I2.env0.make C us []) (hb _ (Value.ref (s.heap.objs.size+1)::us) I2.kIn hl) r2 hq) λr s' hq'=>?_))
 cases r with
 | error e=>exact hx pins σ _ _ e s' I2 hq'
 | ok fl =>
  cases fl with
  | ret u =>
   obtain⟨v,H',I3,rv,ev,q3⟩:=I2.after hq';subst ev;exact⟨rv,⟨V.ref (s.heap.objs.size+1),H',I3,rfl,q3⟩⟩
  | next=>exact False.elim hq'
  | brk=>exact False.elim hq'
  | cont=>exact False.elim hq'
theorem vR(M:Mk X.K C f)(F:C3 X.prog X.w X.K X.mg X.base CX k f fd ps sp)(hr:Bv (k+1) X.A)(hg:Gl X x)(hm:X.mg x=some (.ref C))(hb:fF X.K fd ps ds)(hd:aV dvs ds)(hx:gO CX X E)
  (ha:PA X (e::es) t) (hdb:(x == ("__debug__" : Str))=false:=by decide) (he:starEach (e::es) X.env=(false,eval e X.env)::starEach es X.env:=by rfl) (hpl:(backTo pos (starEach es X.env)).any (·.1)=false:=by rfl) :
  PE X (.Call (.Name x p) (e::es) [] pos) (xh C sp dvs E t):=by
 intro pins s σ H Q I h;refine wpAny_Call_Name_kw (hZ I hg hm ?_ hdb);refine W.callWith_K (h₀:=X.base) I.ok.mod.kin M.kp (thn (ha pos pins s σ H _ I h) λus s1 ⟨vs,H1,I1,r,q⟩=>⟨I1.kIn,?_⟩) he hpl;exact tG M F hr hb hd hx I1 r q
end
structure AQ(N P:List Str)(sc:Scope):Prop where
 kind:sc.kind = .function
 co:sc.isCoroutine=false
 gen:sc.isGenerator=false
 nd:N.Nodup
 pre:N.take P.length=P
 par:∀x∈P,sc.names.lookup x=some .local\/sc.names.lookup x=some .cell
 nofree:∀y∈sc.names,y.2≠.free
theorem lR{kindOf:Str->Option NameKind}{x:Str}:∀{binds:List (Str×Value)} {m:Str->Option Value},(∀v,(x,v)∉binds)->bindL kindOf binds m x=m x
 | [],_,_=>rfl
 | (n,v)::r,m,h=>by
  unfold bindL;rw[lR λw hw=>h w (List.mem_cons_of_mem _ hw)]
  split
  ·have:x≠n:=by rintro rfl;exact h v List.mem_cons_self
   simp[this]
  ·rfl
theorem lU{kindOf:Str->Option NameKind}{x:Str}:∀{binds:List (Str×Value)} {m:Str->Option Value},(∀v,(x,v)∉binds)->bindC kindOf binds m x=m x
 | [],_,_=>rfl
 | (n,v)::r,m,h=>by
  unfold bindC;rw[lU λw hw=>h w (List.mem_cons_of_mem _ hw)]
  split
  ·rfl
  ·have:x≠n:=by rintro rfl;exact h v List.mem_cons_self
   simp[this]
theorem lS{kindOf:Str->Option NameKind}{x:Str}{v:Value}:∀{P:List Str} {vs:List Value} {i:Nat} {m:Str->Option Value},P.Nodup->P[i]? = some x->vs[i]? = some v->kindOf x=some .local ->
  bindL kindOf (P.zip vs) m x=some v
 | [],_,_,_,_,h,_,_=>by simp at h
 | _::_,[],_,_,_,_,h,_=>by simp at h
 | p::P,w::vs,0,m,nd,h1,h2,hk=>by
  simp at h1 h2;subst h1;subst h2;show bindL kindOf ((p,w)::P.zip vs) m p=_;unfold bindL;rw[lR λv hv=>(List.nodup_cons.mp nd).1 (List.of_mem_zip hv).1,if_pos hk];simp
 | p::P,w::vs,i+1,m,nd,h1,h2,hk=>by
  show bindL kindOf ((p,w)::P.zip vs) m x=_;unfold bindL;exact lS (i:=i) (List.nodup_cons.mp nd).2 (by simpa using h1) (by simpa using h2) hk
theorem lV{kindOf:Str->Option NameKind}{x:Str}{v:Value}:∀{P:List Str} {vs:List Value} {i:Nat} {m:Str->Option Value},P.Nodup->P[i]? = some x->vs[i]? = some v->kindOf x≠some .local ->
  bindC kindOf (P.zip vs) m x=some v
 | [],_,_,_,_,h,_,_=>by simp at h
 | _::_,[],_,_,_,_,h,_=>by simp at h
 | p::P,w::vs,0,m,nd,h1,h2,hk=>by
  simp at h1 h2;subst h1;subst h2;show bindC kindOf ((p,w)::P.zip vs) m p=_;unfold bindC;rw[lU λv hv=>(List.nodup_cons.mp nd).1 (List.of_mem_zip hv).1,if_neg hk];simp
 | p::P,w::vs,i+1,m,nd,h1,h2,hk=>by
  show bindC kindOf ((p,w)::P.zip vs) m x=_;unfold bindC;exact lV (i:=i) (List.nodup_cons.mp nd).2 (by simpa using h1) (by simpa using h2) hk
noncomputable def fu(N:List Str)(vs:List V):St:=vs.map some++List.replicate (N.length - vs.length) none
noncomputable def bY(CX:CXT)(P:Program)(w:World)(K:W.Frag)(mg:Str->Option Value)(base:Heap)(N:List Str)(qual:Str)(scope:Scope)(f:Addr)(cd:Value)(A:Around)(outer:List Env)(s:Shared)(H:Hp)(E:XK):Cx where
 prog:=P
 w:=w
 K:=K
 mg:=mg
 base:=base
 A:=A.deeper (envOfC qual scope s.heap.objs.size f cd)
 N:=N
 s₀:=s
 H₀:=H
 env:=envOfC qual scope s.heap.objs.size f cd
 outer:=outer
 stack:=envOfC qual scope s.heap.objs.size f cd::outer
 ex:=[]
 calm:=true
 fn:=λ_=>true
 pn:=[]
 xe:=λe s'=>wpAny (model P w) (A.deeper (envOfC qual scope s.heap.objs.size f cd)) (leaving (envOfC qual scope s.heap.objs.size f cd) e) (λ_ s''=>CX outer H s E e s'') (λe' s''=>CX outer H s E e' s'') s'
theorem oK{sc:Scope}{n:Nat}{x:Str}(h:sc.names.lookup x=some .cell):∃c,(cellsFrom n sc.names []).lookup x=some c:=by
 have q:=W.cellsFrom_some sc.names n [] (.inl h);exact Option.isSome_iff_exists.mp q
theorem se{CX:CXT}{P:Program}{w:World}{K:W.Frag}{mg:Str->Option Value}{base:Heap}{N ps:List Str}{qual:Str}{scope:Scope}{f:Addr}{cd:Value}{A:Around}{outer:List Env}{s s1:Shared}{H:Hp}{E:XK}{us:List Value}{vs:List V}
  (S:AQ N ps scope) (hd:A.handled=none) (e0:EM P w K mg base A outer s H) (hl:vs.length=ps.length) (r:aV vs us)
  (x:InCallC s s.heap.objs.size (bindL (envOfC qual scope s.heap.objs.size f cd).kindOf (ps.zip us) λ_=>none) (cellsFrom (s.heap.objs.size+1) scope.names []) (bindC (envOfC qual scope s.heap.objs.size f cd).kindOf (ps.zip us) λ_=>none) s1) :
  AU (bY CX P w K mg base N qual scope f cd A outer s H E) [] (fu N vs) H s1:=by
 have hpl:ps.length<=N.length:=by have:=congrArg List.length S.pre;rw[List.length_take]at this;omega
 obtain⟨h1,tk,rfl,hk⟩:=x.done;have noA:∀b:Addr,b∉(bY CX P w K mg base N qual scope f cd A outer s H E).ex:=λb z=>absurd (show b∈([]:List Addr) from z) (by simp);refine⟨⟨e0.mod,S.kind,rfl,rfl,Nat.le_refl _,λy z c h1 h2=>?_,λy hy=>?_,λy c _ h=>?_,λ_=>hd,Around.frames_deeper e0.frames,.inr ⟨rfl,rfl⟩,λb z=>absurd z (noA b),e0.bs,e0.bsz,λb _ _=>noA b,λb z=>absurd z (noA b),e0.funs,e0.frf⟩,
  rfl,e0.bare,Un.kept hk,⟨_,x.toInCall.ns,λi y v h1 h2 h3=>?_⟩,λy c h=>⟨_,x.cell y c h⟩,e0.hok.fresh (Nat.le_refl _),λy c h=>?_,λp hp=>absurd (show p∈([]:List (Addr×Obj)) from hp) (by simp),e0.hok.kept hk,?_⟩
 ·exact name_of_addr x.apart (PySem.mem_of_lookup h1) (PySem.mem_of_lookup h2)
 ·have hy:scope.names.lookup y=some .cell\/scope.names.lookup y=some .free:=hy
  rcases hy with hy|hy
  ·exact oK hy
  ·exact absurd rfl (S.nofree _ (PySem.mem_of_lookup hy))
 ·exact Nat.le_of_lt (x.above y c (PySem.mem_of_lookup h))
 ·have hi:i<vs.length:=by
   unfold fu at h2
   by_cases hi:i<vs.length
   ·exact hi
   ·rw[List.getElem?_append_right (by simpa using hi)]at h2
    rw[List.getElem?_replicate]at h2
    split at h2 <;> cases h2
  have ha:vs[i]? = some v:=by
   unfold fu at h2;rw[List.getElem?_append_left (by simpa using hi),List.getElem?_map]at h2;cases e:vs[i]? with
   | none=>rw[e]at h2;cases h2
   | some a=>rw[e]at h2;cases h2;rfl
  obtain⟨u,hu,rv⟩:=r.get ha;have hp:ps[i]? = some y:=by
   rw[<- S.pre,List.getElem?_take_of_lt (by omega)];exact h1
  have ndP:ps.Nodup:=by rw[<- S.pre];exact S.nd.sublist (List.take_sublist _ _)
  refine⟨u,rv,?_⟩;rcases S.par y (List.mem_of_getElem? hp) with k|k
  ·exact .inl ⟨k,lS ndP hp hu k⟩
  ·obtain⟨c,e⟩:=oK (n:=s.heap.objs.size+1) k
   refine .inr ⟨.inl k,c,e,?_⟩;have q:=x.cell y c e;rw[lV ndP hp hu (by show scope.names.lookup y≠_;rw[k];decide)]at q;exact q
 ·exact e0.hok.fresh (Nat.le_of_lt (x.above y c (PySem.mem_of_lookup h)))
 ·unfold fu
  show _=N.length;rw[List.length_append,List.length_map,List.length_replicate];omega
theorem oh{CX:CXT}{P:Program}{w:World}{K:W.Frag}{mg:Str->Option Value}{base:Heap}{k:Nat}{f:Addr}{name qual:Str}{params:Arguments}{body:List Stmt}{scope:Scope}{dV kV doc pm cdv ct oc:Value}{an od:Option Addr}
  {osl:Array (Option Value)} {N ps:List Str} {sp:Sp} (lk:K.lookup f=some ⟨oc,od,.func (W.fnOf name qual params body scope dV kV doc pm an cdv ct),osl⟩) (hcd:W.codeIn K cdv qual=true) (S:AQ N ps scope)
  (len:∀vs H Q E,sp vs H Q E->vs.length=ps.length)
  (hbody:∀(A:Around) (outer:List Env) (s:Shared) (H:Hp) (vs:List V) (Q:VK) (E:XK),Bv k (A.deeper (envOfC qual scope s.heap.objs.size f cdv))->sp vs H Q E ->
   ∃t,PSs (bY CX P w K mg base N qual scope f cdv A outer s H E) body t/\t { nx:=λ_ H'=>Q .non H',rt:=Q } (fu N vs) H) :
  C3 P w K mg base CX (k+1) f (W.fnOf name qual params body scope dV kV doc pm an cdv ct) ps sp:=by
 refine⟨len,λA outer s H args us vs Q E hr e0 hb r hsp=>?_⟩;have hl:=len _ _ _ _ hsp;have KX:K.In s.heap:=e0.mod.kin.keeps λb o e=>(e0.bs b o e).1;have lim:s.heap.NoLimit:=e0.mod.nolimit.keeps λb o e=>(e0.bs b o e).1;have hkind:∀y∈ps.zip us,scope.names.lookup y.1=some .local\/(scope.names.lookup y.1=some .cell/\((cellsFrom (s.heap.objs.size+1) scope.names []).lookup y.1).isSome=true):=λ⟨n,v⟩ hy=>by
  rcases S.par n (List.of_mem_zip hy).1 with q|q
  ·exact .inl q
  ·exact .inr ⟨q,W.cellsFrom_some _ _ _ (.inl q)⟩
 refine codeAny_call_function hr.depth (KX _ _ lk) rfl S.co S.gen rfl (W.codeRec_of KX hcd) (hb _ _ _ _ ?_);refine wpAny_newFunctionEnv_cells S.kind hkind λenv he s1 x=>?_;subst he;refine⟨lim.keeps x.toInCall.keep,codeAny_func ?_⟩;obtain⟨t,ht,hq⟩:=hbody A outer s H vs Q E (hr.deeper _) hsp;have I:AU (bY CX P w K mg base N qual scope f cdv A outer s H E) [] (fu N vs) H s1:=se S hr.hd e0 hl r x;refine wpAny_mono (ht [] s1 (fu N vs) H _ I hq) (λfl s' hs=>?_) λe s' hs=>hs;have fin:∀{σ':St} {H':Hp} {v:V} {u:Value},AU (bY CX P w K mg base N qual scope f cdv A outer s H E) [] σ' H' s'->a9 v u->Q v H'->CE outer P w H s Q u s' :=
  λ{σ' H' v u} J rv q=>⟨v,H',J.os,J.bare,J.base,J.hok,rv,q⟩
 cases fl with
 | ret u =>
  obtain⟨v,σ',H',J,rv,q⟩:=hs;exact fin J rv q
 | next =>
  obtain⟨σ',H',J,q⟩:=hs;exact fin (v:=V.non) (u:=Value.none) J rfl q
 | brk =>
  obtain⟨_,_,_,q⟩:=hs;exact False.elim q
 | cont =>
  obtain⟨_,_,_,q⟩:=hs;exact False.elim q
section
variable {X:Cx} {x:Str} {p pos:Pos} {e:Expr} {es:List Expr} {t:TA} {id T:String} {r:List V->Hp->VK->Prop}
noncomputable def tCB(r:List V->Hp->VK->Prop)(t:TA):TE:=λσ H Q=>t σ H λvs H1=>r vs H1 Q
theorem aQ(hc:fX X (.builtin id) r)(hg:Gl X x)(hm:X.mg x=none)(hv:bootBuiltins x=some (.builtin id))(ha:PA X (e::es) t)(hn:x≠"__name__":=by decide)(hdb:(x == ("__debug__" : Str))=false:=by decide)
  (he:starEach (e::es) X.env=(false,eval e X.env)::starEach es X.env:=by rfl) (hpl:(backTo pos (starEach es X.env)).any (·.1)=false:=by rfl):PE X (.Call (.Name x p) (e::es) [] pos) (tCB r t):=by
 intro pins s σ H Q I h;refine wpAny_Call_Name_kw (fP I hg hm hv ?_ hn hdb);exact PyProof.Rows.callWith_builtin1 (thn (ha pos pins s σ H _ I h) λus s1 ⟨vs,H1,I1,r1,q1⟩=>hc pins s1 σ H1 vs us Q I1 r1 q1) he hpl
theorem iD(hc:fX X (.type T) r)(hg:Gl X x)(hm:X.mg x=none)(hv:bootBuiltins x=some (.type T))(ha:PA X (e::es) t)(hn:x≠"__name__":=by decide)(hdb:(x == ("__debug__" : Str))=false:=by decide)
  (he:starEach (e::es) X.env=(false,eval e X.env)::starEach es X.env:=by rfl) (hpl:(backTo pos (starEach es X.env)).any (·.1)=false:=by rfl):PE X (.Call (.Name x p) (e::es) [] pos) (tCB r t):=by
 intro pins s σ H Q I h;refine wpAny_Call_Name_kw (fP I hg hm hv ?_ hn hdb);exact PyProof.Rows.callWith_type1 (thn (ha pos pins s σ H _ I h) λus s1 ⟨vs,H1,I1,r1,q1⟩=>hc pins s1 σ H1 vs us Q I1 r1 q1) he hpl
end
end L2
namespace HT
open PySem PyProof.Rows
section
variable {prog:Program} {w:World} {A:Around} {E:Value->Shared->Prop} {s:Shared}
noncomputable def sIx(n d:Nat):Option Int->Nat
 | none=>d
 | some v=>if v<0 then (v+(n:Int)).toNat else min v.toNat n
theorem sIx_none(n d:Nat):sIx n d none=d:=rfl
theorem sIx_nat(n d k:Nat):sIx n d (some (k:Int))=min k n:=by
 show(if (k:Int)<0 then ((k:Int)+(n:Int)).toNat else min (k:Int).toNat n)=min k n
 rw[if_neg (by omega),Int.toNat_natCast]
end
end HT
namespace L2
open PySem PySem.Spec PyProof.Rows
noncomputable abbrev TO:=St->Hp->(Option Int->Hp->Prop)->Prop
noncomputable def PO(X:Cx)(e:Option Expr)(t:TO):Prop :=
 ∀(pins:List (Addr×Obj)) (s:Shared) (σ:St) (H:Hp) (Q:Option Int->Hp->Prop),AU X pins σ H s->t σ H Q ->
  wpAny (model X.prog X.w) X.A (evalPart e X.env) (λu s'=>∃o H',AU X pins σ H' s'/\IsPart u o/\Q o H') X.xe s
noncomputable def vp:TO:=λ_ H Q=>Q none H
noncomputable def zu(t:TE):TO:=λσ H Q=>t σ H λx H1=>∃i,x = .int i/\Q (some i) H1
section
variable {X:Cx} {e:Expr} {te:TE} {lo hi:Option Expr} {tl th:TO} {pos p2:Pos}
theorem qq:PO X none vp:=by
 intro pins s σ H Q I h;rw[evalPart_none];exact wpAny_pure ⟨none,H,I,.none,h⟩
theorem ma(h:PE X e te):PO X (some e) (zu te):=by
 intro pins s σ H Q I hw;rw[evalPart_some];refine thn (h pins s σ H _ I hw) λu s1 ⟨x,H1,I1,r1,q1⟩=>?_;obtain⟨i,rfl,q⟩:=q1;obtain⟨t,rfl⟩:=r1;exact⟨some i,H1,I1,.int i t,q⟩
noncomputable def SlR(X:Cx)(r:V->Option Int->Option Int->Hp->VK->Prop):Prop :=
 ∀(pins:List (Addr×Obj)) (s:Shared) (σ:St) (H:Hp) (x:V) (v vl vu:Value) (lo hi:Option Int) (sl:Addr) (Q:VK),AU X pins σ H s->a9 x v->s.heap.IsSliceOf sl vl vu .none->IsPart vl lo->IsPart vu hi->r x lo hi H Q ->
  ∃T id,typeLookup (.type T) "__getitem__" = pure (some (.builtin id))/\s.TypeIs v T/\wpAny (model X.prog X.w) X.A (getItem v (.ref sl)) (EP X pins σ Q) X.xe s
noncomputable def tSl(r:V->Option Int->Option Int->Hp->VK->Prop)(te:TE)(tl th:TO):TE:=λσ H Q=>te σ H λx H1=>tl σ H1 λl H2=>th σ H2 λu H3=>r x l u H3 Q
theorem nj{r:V->Option Int->Option Int->Hp->VK->Prop}(hr:SlR X r)(he:PE X e te)(hl:PO X lo tl)(hu:PO X hi th):PE X (.Subscript e (.Slice lo hi none p2) pos) (tSl r te tl th):=by
 intro pins s σ H Q I h;refine Subscript_ (thn (he pins s σ H _ I h) λv s1 ⟨x,H1,I1,r1,q1⟩=>?_);refine wpAny_Slice (thn (hl pins s1 σ H1 _ I1 q1) λvl s2 ⟨l,H2,I2,pl,q2⟩=>thn (hu pins s2 σ H2 _ I2 q2) λvu s3 ⟨u,H3,I3,pu,q3⟩=>?_);rw[evalPart_none];refine wpAny_pure ?_;have I4:AU X pins σ H3 { s3 with heap:=s3.heap.push { cls:=.type "slice",data:=.fields #[vl,vu,.none] } }:=I3.kept (t':=s3.toks) λb ob q=>Heap.get?_push_of_some _ q;obtain⟨T,id,hT,ht,hg⟩:=hr pins { s3 with heap:=s3.heap.push { cls:=.type "slice",data:=.fields #[vl,vu,.none] } } σ H3 x v vl vu l u s3.heap.objs.size Q I4 r1 (Heap.IsSliceOf.new ..) pl pu q3;show wpAny (model X.prog X.w) X.A (subscriptTail e (.Slice lo hi none p2) v (.ref s3.heap.objs.size)) (EP X pins σ Q) X.xe { s3 with heap:=s3.heap.push { cls:=.type "slice",data:=.fields #[vl,vu,.none] } };exact tail_any (ops:=[.ref s3.heap.objs.size,v]) ht hT hg (by with_unfolding_all rfl)
noncomputable def kR(xs:List V)(lo hi:Option Int):List V:=(xs.drop (HT.sIx xs.length 0 lo)).take (HT.sIx xs.length xs.length hi - HT.sIx xs.length 0 lo)
theorem oG(xs:List V)(lo hi:Option Int):(kR xs lo hi).length<=xs.length:=by
 unfold kR;rw[List.length_take,List.length_drop];omega
end
noncomputable def ixN(n:Nat)(i:Int):Option Nat:=if 0<=i then (if i<n then some i.toNat else none) else if -(n:Int)<=i then some (i+n).toNat else none
noncomputable def atI{α:Type}(xs:List α)(i:Int):Option α:=(ixN xs.length i).bind λj=>xs[j]?
theorem qF{n:Nat}{i:Int}{j:Nat}(h:ixN n i=some j):seqIndex? i n=some j/\j<n/\-(n:Int)<=i/\i<n:=by
 unfold ixN at h
 by_cases h0:0<=i
 ·rw[if_pos h0]at h
  by_cases h1:i<n
  ·rw[if_pos h1]at h
   have e:i.toNat=j:=Option.some.inj h;exact⟨by rw[seqIndex_of h0 h1,e],by omega,by omega,h1⟩
  ·rw[if_neg h1]at h;cases h
 ·rw[if_neg h0]at h
  by_cases h1:-(n:Int)<=i
  ·rw[if_pos h1]at h
   have e:(i+n).toNat=j:=Option.some.inj h;exact⟨by rw[seqIndex_neg (by omega) h1,e],by omega,h1,by omega⟩
  ·rw[if_neg h1]at h;cases h
theorem rf{α:Type}{xs:List α}{i:Int}{v:α}(h:atI xs i=some v):∃j,seqIndex? i xs.length=some j/\xs[j]? = some v/\j<xs.length/\-(xs.length:Int)<=i/\i<xs.length:=by
 unfold atI at h;cases e:ixN xs.length i with
 | none=>rw[e]at h;cases h
 | some j =>
  rw[e]at h;obtain⟨h1,h2,h3,h4⟩:=qF e;exact⟨j,h1,h,h2,h3,h4⟩
theorem dP{α:Type}{xs:List α}{j:Nat}{v:α}(h:xs[j]? = some v):atI xs (j:Int)=some v:=by
 have hj:j<xs.length:=(List.getElem?_eq_some_iff.mp h).1;have e:ixN xs.length (j:Int)=some j:=by
  unfold ixN;rw[if_pos (by omega),if_pos (by omega)];simp
 unfold atI;rw[e];exact h
theorem vf{α:Type}(xs:List α)(v:α):atI (xs++[v]) (-1)=some v:=by
 have hl:(xs++[v]).length=xs.length+1:=by simp
 have e:ixN (xs++[v]).length (-1)=some xs.length:=by
  unfold ixN;rw[hl,if_neg (by decide),if_pos (by omega)]
  congr 1
  omega
 unfold atI;rw[e];show(xs++[v])[xs.length]? = some v;simp
noncomputable def wZ(b:Expr):Prop:=∀o i,subscripted b false o i=operate [o,i] (getItem o i)
noncomputable def IxR(X:Cx)(r:R2):Prop :=
 ∀(value slice:Expr) (pins:List (Addr×Obj)) (s:Shared) (σ:St) (H:Hp) (x y:V) (v u:Value) (Q:VK),AU X pins σ H s->a9 x v->a9 y u->r x y H Q ->
  subscripted slice false v u=operate [v,u] (getItem v u)->wpAny (model X.prog X.w) X.A (subscriptTail value slice v u) (EP X pins σ Q) X.xe s
noncomputable def MtR(X:Cx)(id:String)(r:V->List V->Hp->VK->Prop):Prop :=
 ∀(pins:List (Addr×Obj)) (s:Shared) (σ:St) (H:Hp) (x:V) (xs:List V) (v:Value) (us:List Value) (Q:VK),AU X pins σ H s->a9 x v->aV xs us->r x xs H Q ->
  wpAny (model X.prog X.w) X.A (call (.builtin id) (v::us)) (EP X pins σ Q) X.xe s
section
variable {X:Cx} {a b:Expr} {ta tb:TE} {pos:Pos}
theorem az{r:R2}(hr:IxR X r)(ha:PE X a ta)(hb:PE X b tb)(hs:wZ b):PE X (.Subscript a b pos) (tOp r ta tb):=by
 intro pins s σ H Q I h;exact Subscript_ (zb ha hb I h λv u s2 x y H2 I2 rx ry q=>hr a b pins s2 σ H2 x y v u Q I2 rx ry q (hs _ _))
inductive GN (K:W.Frag) (x y:V) (H:Hp) (Q:VK):Prop
 | mk (p:Addr) (xs:List V) (i:Int) (v:V) (e:x = .ref p) (f:y = .int i) (s:SqL K H p xs) (a:atI xs i=some v) (q:Q v H):GN K x y H Q
inductive HH (K:W.Frag) (x y:V) (H:Hp) (Q:VK):Prop
 | mk (p:Addr) (xs:List V) (i:Int) (v:V) (e:x = .ref p) (f:y = .int i) (s:SqT K H p xs) (a:atI xs i=some v) (q:Q v H):HH K x y H Q
theorem aY:IxR X (GN X.K):=by
 intro value slice pins s σ H x y v u Q I rx ry h hs;obtain⟨p,xs,i,z,rfl,rfl,hq,he,q⟩:=h;cases rx;obtain⟨t,rfl⟩:=ry;obtain⟨its,r,pl,hz⟩:=I.list hq;obtain⟨j,h1,h2,h3,h4,h5⟩:=rf he;obtain⟨w,ew,rw'⟩:=r.get h2;have hl:=r.length;have hn:=mB;have fin:EP X pins σ Q w s:=⟨z,H,I,rw',q⟩
 by_cases h0:0<=i
 ·have hj:i.toNat=j:=by
   rw[seqIndex_of h0 h5]at h1;exact Option.some.inj h1
  exact item_listR pl.isList h0 (by omega) (by rw[hj];simpa using ew) fin hs
 ·have hj:(i+(its.toArray.size:Int)).toNat=j:=by
   rw[seqIndex_neg (by omega) h4]at h1;rw[List.size_toArray,<- hl];exact Option.some.inj h1
  exact subscriptTail_builtinR (x:=w) pl.isList.typeIs slot_list_getitem.lookup
   (wpAny_getItem_list_neg (Q:=λr s'=>r=w/\EP X pins σ Q r s') pl.isList (by omega) (by rw[List.size_toArray] <;> omega) (by omega) (by rw[hj];simpa using ew) ⟨rfl,fin⟩) hs
theorem ar:IxR X (HH X.K):=by
 intro value slice pins s σ H x y v u Q I rx ry h hs;obtain⟨p,xs,i,z,rfl,rfl,hq,he,q⟩:=h;cases rx;obtain⟨t,rfl⟩:=ry;obtain⟨its,r,pl,hz⟩:=I.tuple hq;obtain⟨j,h1,h2,h3,h4,h5⟩:=rf he;obtain⟨w,ew,rw'⟩:=r.get h2;have hl:=r.length;have hn:=mB;have fin:EP X pins σ Q w s:=⟨z,H,I,rw',q⟩;exact subscriptTail_builtinR (x:=w) pl.typeIs slot_tuple_getitem.lookup
  (getItem_tuple (j:=j) (Q:=λr s'=>r=w/\EP X pins σ Q r s') pl (by omega) (by omega) (by rw[List.size_toArray,<- hl];exact h1) (by simpa using ew) ⟨rfl,fin⟩) hs
theorem pD(its:List Value)(n j:Nat)(u:Value):Obj.mapSeq (·.setIfInBounds j u) { cls:=.type "list",data:=.seq its.toArray n }={ cls:=.type "list",data:=.seq (its.set j u).toArray n }:=by
 simp[Obj.mapSeq]
theorem AU.lst{pins:List (Addr×Obj)}{σ:St}{H:Hp}{s:Shared}{p:Addr}{xs:List V}(I:AU X pins σ H s)(h:H p=some (.lst xs)) :
  ∃(its:List Value) (n:Nat),aV xs its/\s.heap.get? p=some { cls:=.type "list",data:=.seq its.toArray n }/\xs.length<=sizeLine:=by
 obtain⟨z,its,n,r,e⟩:=I.hok p _ h;exact⟨its,n,r,e,z⟩
theorem AU.lstUpd{pins:List (Addr×Obj)}{σ:St}{H:Hp}{s:Shared}{p:Addr}{xs ys:List V}{its its':List Value}{n n':Nat}{f:Obj->Obj}(I:AU X pins σ H s)(h:H p=some (.lst xs))
  (ho:s.heap.get? p=some { cls:=.type "list",data:=.seq its.toArray n }) (hf:f { cls:=.type "list",data:=.seq its.toArray n }={ cls:=.type "list",data:=.seq its'.toArray n' }) (r:aV ys its') (hz:ys.length<=sizeLine) (t:Nat) :
  AU X pins σ (upd H p (.lst ys)) { s with heap:=s.heap.update p f,toks:=t }:=by
 have e:(s.heap.update p f).get? p=some { cls:=.type "list",data:=.seq its'.toArray n' }:=by
  rw[Heap.get?_update_self f ho (by rw[hf] <;> rfl),hf]
 refine I.write (x:=p) (e:=p) (by rw[h];trivial) (.inl rfl) (λb u hb q=>(Heap.get?_update_other _ _ (Ne.symm hb)).trans q) ⟨_,e⟩ ?_;exact⟨hz,its',n',r,e⟩
noncomputable def zJ:V->V->V->Hp->(Hp->Prop)->Prop:=λo i v H Q=>∃p xs k j,o = .ref p/\i = .int k/\H p=some (.lst xs)/\ixN xs.length k=some j/\Q (upd H p (.lst (xs.set j v)))
theorem tm:zf X zJ:=by
 intro pins s σ H o i v ov iv u Q I ro ri rv h;obtain⟨p,xs,k,j,rfl,rfl,hp,hj,q⟩:=h;cases ro;obtain⟨t,rfl⟩:=ri;obtain⟨its,n,r,ho,hz⟩:=I.lst hp;obtain⟨h1,h2,h3,h4⟩:=qF hj;have hl:=r.length;have hn:=mB;have I':AU X pins σ (upd H p (.lst (xs.set j v))) { s with heap:=s.heap.update p (Obj.mapSeq (·.setIfInBounds j u)) } :=
  I.lstUpd hp ho (pD its n j u) (r.set rv j) (by rw[List.length_set];exact hz) s.toks
 by_cases h0:0<=k
 ·have hk:k.toNat=j:=by
   rw[seqIndex_of h0 h4]at h1;exact Option.some.inj h1
  exact W.ki_setAt ho h0 (by omega) (by rw[List.size_toArray,<- hl];exact h4) (by rw[hk];exact⟨_,I',q⟩)
 ·have hk:(k+(its.toArray.size:Int)).toNat=j:=by
   rw[seqIndex_neg (by omega) h3]at h1;rw[List.size_toArray,<- hl];exact Option.some.inj h1
  exact W.ki_setBack ho (by omega) (by rw[List.size_toArray,<- hl];exact h3) (by omega) (by rw[hk];exact⟨_,I',q⟩)
theorem l5(lo hi:Option Int)(n:Nat):(sliceBounds lo hi none n).1=((HT.sIx n 0 lo:Nat):Int)/\(sliceBounds lo hi none n).2.1=((HT.sIx n n hi:Nat):Int)/\(sliceBounds lo hi none n).2.2=1:=by
 refine⟨?_,?_,rfl⟩
 ·cases lo with
  | none=>simp[sliceBounds,HT.sIx]
  | some i =>
   simp only[sliceBounds,HT.sIx,Option.getD_none,show(1:Int)>0 by decide,if_true]
   by_cases h:i<0
   ·simp only[h,if_true] <;> omega
   ·simp only[h,if_false] <;> omega
 ·cases hi with
  | none=>simp[sliceBounds,HT.sIx]
  | some i =>
   simp only[sliceBounds,HT.sIx,Option.getD_none,show(1:Int)>0 by decide,if_true]
   by_cases h:i<0
   ·simp only[h,if_true] <;> omega
   ·simp only[h,if_false] <;> omega
theorem kC(its:List Value)(lo hi:Option Int):slicePick its.toArray lo hi none=((its.drop (HT.sIx its.length 0 lo)).take (HT.sIx its.length its.length hi - HT.sIx its.length 0 lo)).toArray:=by
 obtain⟨h1,h2,h3⟩:=l5 lo hi its.toArray.size;unfold slicePick;rw[h1,h2,h3];simp only[sliceRange_one,pick_run,List.size_toArray] <;> rfl
noncomputable def AC(K:W.Frag):V->Option Int->Option Int->Hp->VK->Prop:=λx lo hi H Q=>∃a xs,x = .ref a/\SqL K H a xs/\∀p,H p=none->Q (.ref p) (upd H p (.lst (kR xs lo hi)))
theorem vC:SlR X (AC X.K):=by
 intro pins s σ H x v vl vu lo hi sl Q I rx hs pl pu h;obtain⟨a,xs,rfl,hx,q⟩:=h;cases rx;obtain⟨its,r,ht,hz⟩:=I.list hx;have hlen:=r.length;refine⟨"list",_,slot_list_getitem.lookup,ht.isList.typeIs,?_⟩;refine wpAny_getItem_list_slice ht.isList hs pl pu .none (by simp) ?_ (by rw[List.size_toArray] <;> omega);rw[kC,<- hlen];refine⟨.ref s.heap.objs.size,_,I.laid (t':=s.toks) (o:=.lst (kR xs lo hi)) (λb ob q=>Heap.get?_push_of_some _ q) (Nat.le_refl _) ?_,rfl,q _ (I.hok.fresh (Nat.le_refl _))⟩;exact⟨Nat.le_trans (oG xs lo hi) hz,_,0,(r.drop (HT.sIx xs.length 0 lo)).take (HT.sIx xs.length xs.length hi - HT.sIx xs.length 0 lo),Heap.get?_push_size _ rfl⟩
noncomputable def xD:V->Bool
 | .non=>true
 | .bl _=>true
 | .int _=>true
 | .str _=>true
 | _=>false
noncomputable def eqV:V->V->Bool
 | .non,.non=>true
 | .bl a,.bl b=>a == b
 | .bl a,.int b=>(if a then 1 else 0) == b
 | .int a,.bl b=>a == (if b then 1 else 0)
 | .int a,.int b=>a == b
 | .str a,.str b=>a == b
 | _,_=>false
theorem yT{A:Around}{s:Shared}{y x:V}{u v:Value}(ry:a9 y u)(rx:a9 x v)(fy:xD y=true)(fx:xD x=true):SeqAt.EqAt A s u v (eqV y x):=by
 cases y with
 | non =>
  cases ry;cases x with
  | non=>cases rx;exact SeqAt.EqAt.same _
  | bl b=>cases rx;exact SeqAt.EqAt.none_bool b
  | int b=>obtain⟨t,rfl⟩:=rx;exact SeqAt.EqAt.none_int b t
  | str b=>obtain⟨t,rfl⟩:=rx;exact SeqAt.EqAt.none_str b t
  | _=>exact absurd (show false=true from fx) Bool.false_ne_true
 | bl a =>
  cases ry;cases x with
  | non=>cases rx;exact SeqAt.EqAt.bool_none a
  | bl b=>cases rx;exact SeqAt.EqAt.bool_bool a b
  | int b=>obtain⟨t,rfl⟩:=rx;exact SeqAt.EqAt.bool_int a b t
  | str b=>obtain⟨t,rfl⟩:=rx;exact SeqAt.EqAt.bool_str a b t
  | _=>exact absurd (show false=true from fx) Bool.false_ne_true
 | int a =>
  obtain⟨t',rfl⟩:=ry;cases x with
  | non=>cases rx;exact SeqAt.EqAt.int_none a t'
  | bl b=>cases rx;exact SeqAt.EqAt.int_bool a t' b
  | int b=>obtain⟨t,rfl⟩:=rx;exact SeqAt.EqAt.int_int a t' b t
  | str b=>obtain⟨t,rfl⟩:=rx;exact SeqAt.EqAt.int_str a t' b t
  | _=>exact absurd (show false=true from fx) Bool.false_ne_true
 | str a =>
  obtain⟨t',rfl⟩:=ry;cases x with
  | non=>cases rx;exact SeqAt.EqAt.str_none a t'
  | bl b=>cases rx;exact SeqAt.EqAt.str_bool a t' b
  | int b=>obtain⟨t,rfl⟩:=rx;exact SeqAt.EqAt.str_int a t' b t
  | str b=>obtain⟨t,rfl⟩:=rx;exact SeqAt.EqAt.str_str a t' b t
  | _=>exact absurd (show false=true from fx) Bool.false_ne_true
 | _=>exact absurd (show false=true from fy) Bool.false_ne_true
inductive G3 (K:W.Frag) (xs:List V) (H:Hp) (Q:VK):Prop
 | mk (p:Addr) (ys:List V) (e:xs = [.ref p]) (s:SqL K H p ys\/SqT K H p ys) (q:Q (.int ys.length) H):G3 K xs H Q
theorem aS:fX X (.builtin "len") (G3 X.K):=by
 intro pins s σ H xs us Q I r h;obtain⟨p,ys,rfl,hq,q⟩:=h;obtain⟨u,rfl,rx⟩:=gP r;cases rx;have hn:=mB;rcases hq with hq|hq
 ·obtain⟨its,r',pl,hz⟩:=I.list hq
  have hlen:=r'.length;exact Calls.call_len_list pl.isList (by simp only[List.size_toArray] <;> omega) ⟨.int ys.length,H,I.tok _,⟨s.toks+1,by rw[List.size_toArray,hlen]⟩,q⟩
 ·obtain⟨its,r',pl,hz⟩:=I.tuple hq
  have hlen:=r'.length;exact len_tuple pl (by simp only[List.size_toArray] <;> omega) ⟨.int ys.length,H,I.tok _,⟨s.toks+1,by rw[List.size_toArray,hlen]⟩,q⟩
theorem mQ:fX X (.type "list") (λxs H Q=>∃p ys,xs = [.ref p]/\(SqL X.K H p ys\/SqT X.K H p ys)/\∀l,H l=none->Q (.ref l) (upd H l (.lst ys))):=by
 intro pins s σ H xs us Q I r h;obtain⟨p,ys,rfl,hq,q⟩:=h;obtain⟨u,rfl,rx⟩:=gP r;cases rx;have fin:∀(its:List Value),aV ys its->ys.length<=sizeLine->∀(h':Heap) (c':Nat),(∀b o',s.heap.get? b=some o'->h'.get? b=some o') ->
   h'.get? s.heap.objs.size=some { cls:=.type "list",dict:=none,data:=.seq its.toArray c',slots:=#[] }->EP X pins σ Q (.ref s.heap.objs.size) { s with heap:=h' }:=λits r' hz h' c' kp e =>
  ⟨.ref s.heap.objs.size,_,I.laid (t':=s.toks) kp (Nat.le_refl _) (show bV X.prog X.w _ h' _ (.lst ys) from⟨hz,its,c',r',e⟩),rfl,q _ (I.hok.fresh (Nat.le_refl _))⟩
 rcases hq with hq|hq
 ·obtain⟨its,r',pl,hz⟩:=I.list hq
  have hlen:=r'.length;obtain⟨o,ho,hc,n,hd⟩:=pl.isList;exact call_list_seq p (.inl rfl) ho hc hd (λh' c' kp e=>fin its r' hz h' c' kp e) (by simp only[List.size_toArray] <;> omega)
 ·obtain⟨its,r',pl,hz⟩:=I.tuple hq
  have hlen:=r'.length;obtain⟨o,ho,hc,n,hd⟩:=pl;exact call_list_seq p (.inr rfl) ho hc hd (λh' c' kp e=>fin its r' hz h' c' kp e) (by simp only[List.size_toArray] <;> omega)
noncomputable def tyV(K:W.Frag)(T:String)(x:V)(H:Hp):Prop:=match x with
 | .str _=>T = "str"
 | .int _=>T = "int"
 | .ref p=>(T = "list"/\∃xs,SqL K H p xs)\/(T = "tuple"/\∃o,K.lookup p=some o/\o.cls = .type "tuple"/\o.dict=none) \/
   (T = "dict"/\((∃kvs,H p=some (.dK kvs))\/∃kvs,H p=some (.dT kvs)))\/(T = "set"/\∃S n,H p=some (.set S n))
 | _=>False
theorem sS{pins:List (Addr×Obj)}{σ:St}{H:Hp}{s:Shared}{T:String}{x:V}{v:Value}(I:AU X pins σ H s)(r:a9 x v)(ty:tyV X.K T x H) :
  s.TypeIs v T/\∀a,v = .ref a->∃ob,s.heap.get? a=some ob/\ob.dict=none:=by
 cases x with
 | str z =>
  obtain⟨t,rfl⟩:=r;cases (show T = "str" from ty);exact⟨typeIs_str s z t,λ_ e=>nomatch e⟩
 | int i =>
  obtain⟨t,rfl⟩:=r;cases (show T = "int" from ty);exact⟨typeIs_int s i t,λ_ e=>nomatch e⟩
 | ref p =>
  cases r;rcases ty with⟨rfl,xs,hq⟩|⟨rfl,o,hk,hc,hd⟩|⟨rfl,hk⟩|⟨rfl,S,n,hk⟩
  ·obtain⟨its,_,pl,_⟩:=I.list hq
   refine⟨pl.isList.typeIs,λa e=>?_⟩;cases e;obtain⟨o,n,e,c,hd,_⟩:=pl;exact⟨o,e,hd⟩
  ·refine⟨⟨o,I.kIn p o hk,hc⟩,λa e=>?_⟩
   cases e;exact⟨o,I.kIn _ o hk,hd⟩
  ·have z:∃o,s.heap.get? p=some o/\o.ExactDict:=by
    rcases hk with⟨kvs,hk⟩|⟨kvs,hk⟩
    ·obtain⟨_,_,_,_,o,_,_,e,ex,_⟩:=I.hok p _ hk
     exact⟨o,e,ex⟩
    ·obtain⟨_,_,_,_,o,_,_,e,ex,_⟩:=I.hok p _ hk
     exact⟨o,e,ex⟩
   obtain⟨o,e,ex⟩:=z;refine⟨⟨o,e,ex.1⟩,λa e2=>?_⟩;cases e2;exact⟨o,e,ex.2.1⟩
  ·obtain⟨o,_,_,_,e,ex,_⟩:=I.hok p _ hk
   refine⟨⟨o,e,ex.1⟩,λa e2=>?_⟩;cases e2;exact⟨o,e,ex.2.1⟩
 | _=>exact False.elim ty
noncomputable def Ax(K:W.Frag)(T:String)(r:V->List V->Hp->VK->Prop)(to:TE):TE:=λσ H Q=>to σ H λx H1=>tyV K T x H1/\r x [] H1 Q
noncomputable def tBM(K:W.Frag)(T:String)(r:V->List V->Hp->VK->Prop)(to:TE)(t:TA):TE:=λσ H Q=>to σ H λx H1=>tyV K T x H1/\t σ H1 λxs H2=>r x xs H2 Q
variable {o e:Expr} {es:List Expr} {to:TE} {t:TA} {name:Str} {apos cpos:Pos} {T id:String} {r:V->List V->Hp->VK->Prop}
theorem o7(pa:PlainAttrs T)(slot:Slot T name id)(hty:typeOf (.builtin id)=pure (.type "method_descriptor"))(hm:MtR X id r)(ho:PE X o to)
  (hbase:attributeBase o name X.env (eval o X.env)=eval o X.env:=by rfl) (hline:(apos.endLine == cpos.line)=true:=by rfl):PE X (.Call (.Attribute o name apos) [] [] cpos) (Ax X.K T r to):=by
 intro pins s σ H Q I h;refine wpAny_Call_method0_late hbase hline (thn (ho pins s σ H _ I h) λv s1 ⟨x,H1,I1,r1,ty,q1⟩=>?_);obtain⟨h1,h2⟩:=sS I1 r1 ty;exact⟨T,id,pa,slot,hty,h1,h2,Calls.callWith_builtin rfl (PySem.evalArgs_none (hm pins s1 σ H1 x [] v [] Q I1 r1 .nil q1))⟩
theorem eC(pa:PlainAttrs T)(slot:Slot T name id)(hty:typeOf (.builtin id)=pure (.type "method_descriptor"))(hm:MtR X id r)(ho:PE X o to)(ha:PA X (e::es) t)
  (hbase:attributeBase o name X.env (eval o X.env)=eval o X.env:=by rfl)
  (hfew:((backTo cpos (starEach (e::es) X.env)).all (λx=>!x.1) && (backToKw cpos (keywordEach [] X.env)).all (λx=>x.1.isSome)
   && decide ((e::es).length+([]:List Keyword).length+(if ([]:List Keyword).isEmpty then 0 else 1)<30))=true:=by rfl)
  (hline:(apos.endLine == cpos.line)=true:=by rfl) (hs:starEach (e::es) X.env=(false,eval e X.env)::starEach es X.env:=by rfl) (hplain:(backTo cpos (starEach es X.env)).any (·.1)=false:=by rfl) :
  PE X (.Call (.Attribute o name apos) (e::es) [] cpos) (tBM X.K T r to t):=by
 intro pins s σ H Q I h;refine wpAny_Call_method_late hbase hfew hline rfl (thn (ho pins s σ H _ I h) λv s1 ⟨x,H1,I1,r1,ty,q1⟩=>?_);obtain⟨h1,h2⟩:=sS I1 r1 ty;refine⟨T,id,pa,slot,hty,h1,h2,?_⟩;have hA:=ha cpos pins s1 σ H1 _ I1 q1;rw[hs]at hA ⊢;refine Calls.callWith_builtin (by show(false || (backTo cpos (starEach es X.env)).any (·.1))=false;rw[hplain] <;> rfl) (Calls.evalArgs_plain ?_);exact thn hA λus s2 ⟨vs,H2,I2,r2,q2⟩=>hm pins s2 σ H2 x vs v us Q I2 r1 r2 q2
end
noncomputable def MtM(X:Cx)(id:String)(r:V->List V->Hp->VK->Prop):Prop :=
 ∀(pins:List (Addr×Obj)) (s:Shared) (σ:St) (H:Hp) (x:V) (xs:List V) (v:Value) (us:List Value) (Q:VK),AU X pins σ H s->a9 x v->aV xs us->r x xs H Q ->
  wpAny (model X.prog X.w) X.A (call (.builtin id) (v::us)) (EP X pins σ Q) X.xe s
theorem aV.one:∀{x:V} {us:List Value},aV [x] us->∃u,us = [u]/\a9 x u
 | _,_,.cons r .nil=>⟨_,rfl,r⟩
theorem aV.zero:∀{us:List Value},aV [] us->us = []
 | _,.nil=>rfl
theorem aV.reverse{xs:List V}{us:List Value}(h:aV xs us):aV xs.reverse us.reverse:=by
 induction h with
 | nil=>exact .nil
 | cons r t ih=>rw[List.reverse_cons,List.reverse_cons];exact aV.append ih (.cons r .nil)
section
variable {X:Cx} {pins:List (Addr×Obj)} {σ:St} {H:Hp} {s:Shared} {l b:Addr} {xs ys zs:List V}
theorem AU.lset{its its':List Value}{n:Nat}{f:Array Value->Array Value}{t':Nat}(I:AU X pins σ H s)(hH:H l=some (.lst xs))
  (e:s.heap.get? l=some { cls:=.type "list",data:=.seq its.toArray n }) (hf:f its.toArray=its'.toArray) (hv:aV ys its') (hz:ys.length<=sizeLine) :
  AU X pins σ (upd H l (.lst ys)) { s with heap:=s.heap.update l (Obj.mapSeq f),toks:=t' }:=by
 have q:=PySem.IsL.update e f;rw[hf]at q;refine I.write (x:=l) (e:=l) (by rw[hH];exact trivial) (.inl rfl) (λb' u hb hu=>(Heap.get?_update_other s.heap (Obj.mapSeq f) (Ne.symm hb)).trans hu) ⟨_,q⟩ ?_;exact⟨hz,its',_,hv,q⟩
theorem AU.lnew{its:List Value}{t':Nat}(I:AU X pins σ H s)(hv:aV ys its)(hz:ys.length<=sizeLine) :
  AU X pins σ (upd H s.heap.objs.size (.lst ys)) { s with heap:=s.heap.push { cls:=.type "list",data:=.seq its.toArray },toks:=t' } :=
 I.laid (λ_ _ q=>Heap.get?_push_of_some _ q) (Nat.le_refl _) ⟨hz,its,0,hv,Heap.get?_push_size _ rfl⟩
theorem AU.fresh(I:AU X pins σ H s):H s.heap.objs.size=none:=I.hok.fresh (Nat.le_refl _)
theorem AU.lstM(I:AU X pins σ H s)(hH:H l=some (.lst xs)):xs.length<=sizeLine/\∃(its:List Value) (n:Nat),aV xs its/\xs.length=its.length/\s.heap.get? l=some { cls:=.type "list",data:=.seq its.toArray n }:=by
 obtain⟨z,its,n,r,e⟩:=I.hok l _ hH;exact⟨z,its,n,r,r.length,e⟩
theorem t5{n:Nat}(h:n<=sizeLine):Builtin.List.listTooLong n=false:=by
 unfold Builtin.List.listTooLong;exact decide_eq_false (by omega)
end
section
variable {X:Cx}
noncomputable def vP:V->List V->Hp->VK->Prop:=λx vs H Q=>∃l xs y,x = .ref l/\vs = [y]/\H l=some (.lst xs)/\xs.length<sizeLine/\Q .non (upd H l (.lst (xs++[y])))
theorem iE:MtM X "list.append" vP:=by
 intro pins s σ H x vs v us Q I rx rv h;obtain⟨l,xs,y,rfl,rfl,hH,hz,q⟩:=h;cases rx;obtain⟨u,rfl,ru⟩:=rv.one;obtain⟨z,its,n,r,hl,e⟩:=I.lstM hH;refine call_meets F.slot_list_append ⟨_,e,rfl⟩ F.entry_list_append (F.args_list_append_2 _ _) (PySem.list_append l its.toArray n u (by rw[List.size_toArray];omega)) ⟨e,?_⟩;refine⟨.non,_,I.lset (its':=its++[u]) hH e (by simp) (r.append (.cons ru .nil)) ?_,rfl,q⟩;rw[List.length_append,List.length_singleton];omega
noncomputable def vO:V->List V->Hp->VK->Prop:=λx vs H Q=>∃l b xs zs,x = .ref l/\vs = [.ref b]/\H l=some (.lst xs)/\H b=some (.lst zs)/\xs.length+zs.length<=sizeLine/\Q .non (upd H l (.lst (xs++zs)))
theorem rP:MtM X "list.extend" vO:=by
 intro pins s σ H x vs v us Q I rx rv h;obtain⟨l,b,xs,zs,rfl,rfl,hH,hB,hz,q⟩:=h;cases rx;obtain⟨u,rfl,ru⟩:=rv.one;cases ru;obtain⟨z,its,n,r,hl,e⟩:=I.lstM hH;obtain⟨z2,its2,n2,r2,hl2,e2⟩:=I.lstM hB;have hsz:its.toArray.size+its2.toArray.size<=sizeLine:=by rw[List.size_toArray,List.size_toArray];omega
 have hlong:¬(!its.toArray.isEmpty && Builtin.List.listTooLong (its.toArray.size+its2.toArray.size))=true:=by
  rw[t5 hsz,Bool.and_false];exact Bool.false_ne_true
 refine call_meets F.slot_list_extend ⟨_,e,rfl⟩ F.entry_list_extend (F.args_list_extend_2 _ _)
  (AutoSeq1.list_extend_list_list_0 l its.toArray n b its2.toArray n2 hlong (by rw[List.size_toArray];omega) (by omega)) ⟨e,e2,?_⟩
 refine⟨.non,_,I.lset (its':=its++its2) hH e (by simp) (r.append r2) ?_,rfl,q⟩;rw[List.length_append];omega
noncomputable def tM:V->List V->Hp->VK->Prop:=λx vs H Q=>∃l xs,x = .ref l/\vs = []/\H l=some (.lst xs)/\Q .non (upd H l (.lst xs.reverse))
theorem pz:MtM X "list.reverse" tM:=by
 intro pins s σ H x vs v us Q I rx rv h;obtain⟨l,xs,rfl,rfl,hH,q⟩:=h;cases rx;have hus:=rv.zero;subst hus;obtain⟨z,its,n,r,hl,e⟩:=I.lstM hH;refine call_meets F.slot_list_reverse ⟨_,e,rfl⟩ F.entry_list_reverse (F.args_list_reverse_1 _) (AutoSeq1.list_reverse_list_0 l its.toArray n (by rw[List.size_toArray];omega)) ⟨e,?_⟩;refine⟨.non,_,I.lset (its':=its.reverse) hH e (by simp) r.reverse ?_,rfl,q⟩;rw[List.length_reverse];omega
noncomputable def AD:R2:=λx y H Q=>∃l b xs zs,x = .ref l/\y = .ref b/\H l=some (.lst xs)/\H b=some (.lst zs)/\xs.length+zs.length<=sizeLine/\∀p,H p=none->Q (.ref p) (upd H p (.lst (xs++zs)))
theorem yo:OpR X (binaryOp .Add) AD:=by
 intro pins s σ H x y v u Q I rx ry h;obtain⟨l,b,xs,zs,rfl,rfl,hH,hB,hz,q⟩:=h;cases rx;cases ry;obtain⟨z,its,n,r,hl,e⟩:=I.lstM hH;obtain⟨z2,its2,n2,r2,hl2,e2⟩:=I.lstM hB;refine PySem.P.add_list e e2 ?_ (by rw[List.size_toArray,List.size_toArray];omega);have ea:its.toArray++its2.toArray=(its++its2).toArray:=by simp
 rw[ea];exact⟨.ref _,_,I.lnew (t':=s.toks) (r.append r2) (by rw[List.length_append];omega),rfl,q _ I.fresh⟩
end
section
variable {prog:Program} {w:World} {A:Around} {E:Value->Shared->Prop} {s:Shared}
set_option maxRecDepth 100000 in
end
end L2
namespace Att
open PySem PySem.W PySem.Calls PyProof.Rows
theorem i9{P:Params}{h:Heap}:∀(ns:List Int) (vs:List Value),WellAll P h vs (ns.map WData.int)->IntsAre vs ns:=by
 intro ns
 induction ns with
 | nil =>
  intro vs w;rw[List.map_nil]at w;cases w;exact .nil
 | cons n ns ih =>
  intro vs w;rw[List.map_cons]at w;cases w with
  | cons a b =>
   cases a;exact .cons _ _ (ih _ b)
theorem rH{l:OpenLaw}{n:Nat}(hn:l.most=some n){P:Params}{h:Heap}{args:List WData}{vals:List Value}
  (hpre:l.row.toRowW.claim.pre args=true) (hwl:WellAll P h vals args) :
  ∃a vs ns,vals = [Value.ref a]/\args = [WData.list (ns.map WData.int)]/\h.get? a=some { cls:=.type "list",data:=.seq vs.toArray }/\IntsAre vs ns/\ns.length<=n:=by
 have hsh:WShape.hasAll [] args [.list .int]=true:=(pre_splitW hpre).1;have hc:l.pre.holds [] { args:=args }=true:=(pre_splitW hpre).2;obtain⟨d,r,rfl,h1,h2⟩:=hasAllW_cons hsh;obtain rfl:=hasAllW_nil h2;obtain⟨xs,rfl,h3⟩:=hasW_list h1;obtain⟨ns,rfl⟩:=items_int h3;have hlen:ns.length<=n:=by
  unfold OpenLaw.pre at hc;have h4:(WTm.not (.lt (.lit (.int (n:Int))) (.len (.arg 0)))).holds [] { args:=[.list (ns.map .int)] }=true:=by
   have h4:=(holds_andW hc).1;rw[hn]at h4;exact h4
  have h5:=condW_of h4 (w_not (w_lt w_lit (w_len_list (w_arg rfl))));rw[List.length_map]at h5;refine Nat.le_of_not_lt λq=>?_;have q':(n:Int)<((ns.length:Nat):Int):=by omega
  first
   | (rw[decide_eq_true q']at h5;exact absurd h5 (by decide))
   | (simp at h5;omega)
 cases hwl with
 | cons w1 w2 =>
  cases w2;cases w1 with
  | list ho hall=>exact⟨_,_,ns,rfl,rfl,ho,i9 ns _ hall,hlen⟩
theorem rK(l:OpenLaw)(args:List WData):l.row.toRowW.claim.post args (.bool true) args=true :=
 postW_of (r:=l.row.toRowW) (X:=(true == true))
  (show WShape.has [] (.bool true) .bool=true by first|rfl|decide|simp[WShape.has,WShape.arms,WShape.armsAll])
  (show(WTm.eq .res (.lit (.bool true))).value [] { args:=args,res:=some (.bool true),after:=args }=some (.bool (true == true)) from w_eq_bool (w_res rfl) w_lit) rfl
theorem attach_call{l:OpenLaw}{n:Nat}{q:Program}{loose:List Str}{XP:(Str->Option Value)->Heap->Prop}{YP:World->Heap->Prop}{d:DefRec}
  (hn:l.most=some n) (hdf:d.params.defaults = [])
  (call:∀(w:World) (s₀ s1:Shared) (mg mb:Str->Option Value) (fa:Addr) (o:Obj) (pm cd doc:Value) (a:Addr) (vs:List Value) (ns:List Int),
   Ground q loose [] XP w s₀ mg mb s1.heap->YP w s1.heap ->
   s1.heap.get? fa=some o->o.data = .func (docDef d.name d.params d.body d.scope pm cd doc)->s1.heap.CodeRec cd d.name->mg d.name=some (.ref fa) ->
   s1.heap.get? a=some { cls:=.type "list",data:=.seq vs.toArray }->IntsAre vs ns->ns.length<=n->s1.gens = #[] ->
   codeAny (model l.prog w) callerA (.call (.ref fa) ⟨[.ref a],[]⟩) (λr s'=>r = .ok (.ret (.bool true))/\OldK s1.heap s'.heap/\s'.os=s1.os/\AllBare s'.gens) s1) :
  WalkO q loose XP YP l.row.toRowW d [] (λf vs=>PySem.call f vs):=by
 intro w s₀ s1 mg mb G Y fa o pm cd doc dV kV ho hd hcd hD hmg hg args vals as hpre hlay hrd hwl hlo;obtain rfl:dV = .none:=Dflts.none hD hdf;obtain rfl:kV = .none:=Dflts.noKw hD;obtain⟨a,vs,ns,rfl,rfl,hobj,hints,hlen⟩:=rH hn hpre hwl;refine enter_call (codeAny_mono (call w s₀ s1 mg mb fa o pm cd doc a vs ns G Y ho (fd_plain hd) hcd hmg hobj hints hlen hg) λr s' hq=>?_);obtain⟨rfl,h2,h3,h4⟩:=hq;exact⟨.inl ⟨.bool true,.bool true,[],rfl,λ_=>rfl,.bool true,rK l _,λ_=>⟨List.Pairwise.nil,λ_ hm=>(nomatch hm)⟩⟩,h2,h3,h4⟩
end Att
namespace L2
open PySem PySem.Spec PyProof.Rows
theorem kY:∀{vs:List Value} {ns:List Int},IntsAre vs ns->aV (ns.map V.int) vs
 | _,_,.nil=>.nil
 | _,_,.cons n t h=>.cons ⟨t,rfl⟩ (kY h)
noncomputable def bK(s:Stmt):Arguments:=match s with
 | .FunctionDef _ a _ _ _ _ _ _ _ _=>a
 | _=>{ posonlyargs:=[],args:=[],vararg:=none,kwonlyargs:=[],kw_defaults:=[],kwarg:=none,defaults:=[] }
noncomputable def aP(s:Stmt):List Stmt:=match s with
 | .FunctionDef _ _ b _ _ _ _ _ _ _=>b
 | _=>[]
noncomputable def aq(s:Stmt):Scope:=match s with
 | .FunctionDef _ _ _ _ _ _ sc _ _ _=>sc
 | _=>{ kind:=.function,names:=[],isGenerator:=false,isCoroutine:=false }
noncomputable abbrev CX0:CXT:=λ_ _ _ _ _ _=>False
noncomputable abbrev E0:XK:=λ_ _ _=>False
theorem xo{X:Cx}:gO CX0 X E0:=λ_ _ _ _ _ _ _ h=>h.elim
theorem cH{A:Around}{k:Nat}(hr:Bv k A):A.units+1<cLine:=Nat.lt_of_le_of_lt (Nat.add_le_add_left (by decide:1<=64) _) hr.units
theorem aZ{n:Nat}(h:n<=1000):n<sizeLine:=Nat.lt_of_le_of_lt h (by decide)
section
variable {X:Cx}
theorem pv(i:Nat){x:Str}{pos:Pos}(hN:X.N[i]? = some x:=by rfl)(hv:Vis X.env.scope x:=by first|exact Or.inl rfl|exact Or.inr (Or.inl rfl)|exact Or.inr (Or.inr rfl))(hd:(x == ("__debug__" : Str))=false:=by decide)
  (hcd:(x == ("__classdict__" : Str))=false:=by decide):PE X (.Name x pos) (Gf i):=tP hN hv hd hcd
end
theorem jX{A B:Prop}(h:B):if false=true then A else B:=by
 rw[if_neg Bool.false_ne_true];exact h
theorem rY{A B:Prop}(h:A):if true=true then A else B:=by
 rw[if_pos rfl];exact h
noncomputable def Same(H H':Hp):Prop:=∀b o,H b=some o->H' b=some o
theorem Same.refl(H:Hp):Same H H:=λ_ _ h=>h
theorem Same.trans{H H1 H2:Hp}(a:Same H H1)(b:Same H1 H2):Same H H2:=λc o h=>b c o (a c o h)
theorem Same.free{H H':Hp}(e:Same H H'){l:Addr}(h:H' l=Option.none):H l=Option.none:=by
 cases q:H l with
 | none=>rfl
 | some o =>
  rw[e l o q]at h;cases h
theorem Same.seq{K:W.Frag}{H H':Hp}{a:Addr}{xs:List V}(e:Same H H')(h:SqL K H a xs):SqL K H' a xs:=by
 rcases h with(h|⟨o,h⟩)|h
 ·exact .inl (.inl (e _ _ h))
 ·exact .inl (.inr ⟨o,e _ _ h⟩)
 ·exact .inr h
end L2
end
section
set_option Elab.async false
set_option linter.all false
set_option maxRecDepth 100000
set_option maxHeartbeats 4000000
namespace Mth
theorem nX{a b:Int}(ha:0<=a)(hb:0<b):Int.gcd b (a % b)=Int.gcd a b:=by
 obtain⟨m,rfl⟩:=Int.eq_ofNat_of_zero_le ha;obtain⟨n,rfl⟩:=Int.eq_ofNat_of_zero_le (Int.le_of_lt hb);rw[<- Int.natCast_emod];show Nat.gcd (n:Int).natAbs ((m % n:Nat):Int).natAbs=Nat.gcd (m:Int).natAbs (n:Int).natAbs;simp only[Int.natAbs_natCast];rw[Nat.gcd_comm m n,Nat.gcd_comm n (m % n)];exact(Nat.gcd_rec n m).symm
theorem qI(a b:Int):Int.gcd (if a<0 then -a else a) b=Int.gcd a b:=by
 split
 ·exact Int.neg_gcd
 ·rfl
theorem uK(a b:Int):Int.gcd a (if b<0 then -b else b)=Int.gcd a b:=by
 rw[Int.gcd_comm,qI,Int.gcd_comm]
theorem gcd_zero{a:Int}(ha:0<=a):(Int.gcd a 0:Int)=a:=by
 rw[Int.gcd_zero];omega
structure Em(t b:Int):Prop where
 pos:1<=b
 one:Int.gcd t b=1
theorem jt{a b:Int}(h:b≠0):0<(Int.gcd a b:Int):=by
 have:=Int.gcd_pos_of_ne_zero_right a h;omega
theorem yV(a b:Int):a=a / (Int.gcd a b:Int)*(Int.gcd a b:Int):=(Int.ediv_mul_cancel (Int.gcd_dvd_left a b)).symm
theorem qR(a b:Int):b=b / (Int.gcd a b:Int)*(Int.gcd a b:Int):=(Int.ediv_mul_cancel (Int.gcd_dvd_right a b)).symm
theorem wG{a b:Int}(hb:0<b):Em (a / (Int.gcd a b:Int)) (b / (Int.gcd a b:Int)):=by
 have hg:=jt (a:=a) (b:=b) (by omega);refine⟨?_,?_⟩
 ·have h1:=qR a b
  have h2:0<b / (Int.gcd a b:Int):=Int.ediv_pos_of_pos_of_dvd hb (by omega) (Int.gcd_dvd_right a b);omega
 ·rw[Int.gcd_ediv (Int.gcd_dvd_left a b) (Int.gcd_dvd_right a b)]
  simp only[Int.natAbs_natCast];exact Nat.div_self (by omega)
theorem qB{t b t' b':Int}(h:Em t b)(e:t*b'=t'*b):b∣b':=by
 have h1:b.natAbs∣t.natAbs*b'.natAbs:=by
  rw[<- Int.natAbs_mul,e,Int.natAbs_mul];exact Nat.dvd_mul_left _ _
 have h2:Nat.Coprime b.natAbs t.natAbs:=by
  have:=h.one;unfold Nat.Coprime;rw[Nat.gcd_comm];exact this
 exact Int.natAbs_dvd_natAbs.mp (h2.dvd_of_dvd_mul_left h1)
theorem jS{t b t' b':Int}(h:Em t b)(h':Em t' b')(e:t*b'=t'*b):t=t'/\b=b':=by
 have d1:=qB h e;have d2:=qB h' e.symm;have p1:=h.pos;have p2:=h'.pos;have eb:b=b':=Int.le_antisymm (Int.le_of_dvd (by omega) d1) (Int.le_of_dvd (by omega) d2);subst eb;exact⟨Int.eq_of_mul_eq_mul_right (by omega) e,rfl⟩
structure CG(top bottom t b:Int):Prop where
 low:Em t b
 eq:top*b=t*bottom
theorem ib{a b:Int}(hb:0<b):CG a b (a / (Int.gcd a b:Int)) (b / (Int.gcd a b:Int)):=by
 refine⟨wG hb,?_⟩;have h1:=yV a b;have h2:=qR a b;generalize a / (Int.gcd a b:Int)=x at *;generalize b / (Int.gcd a b:Int)=y at *;generalize (Int.gcd a b:Int)=g at *;subst h1 h2
 grind
theorem lM{a b:Int}(hb:b≠0)(d:Int)(hd:d=if b<0 then -(Int.gcd a b:Int) else (Int.gcd a b:Int)):CG a b (a.fdiv d) (b.fdiv d):=by
 have hg:=jt (a:=a) (b:=b) hb
 by_cases h:b<0
 ·rw[if_pos h]at hd
  have f:=ib (a:=-a) (b:=-b) (by omega);rw[Int.gcd_neg,Int.neg_gcd]at f;subst hd;have e1:a.fdiv (-(Int.gcd a b:Int)) = -a / (Int.gcd a b:Int):=by
   rw[<- Int.neg_fdiv_neg,Int.neg_neg];exact Int.fdiv_eq_ediv_of_nonneg _ (by omega)
  have e2:b.fdiv (-(Int.gcd a b:Int)) = -b / (Int.gcd a b:Int):=by
   rw[<- Int.neg_fdiv_neg,Int.neg_neg];exact Int.fdiv_eq_ediv_of_nonneg _ (by omega)
  rw[e1,e2];exact⟨f.low,by have:=f.eq;grind⟩
 ·rw[if_neg h]at hd
  subst hd;rw[Int.fdiv_eq_ediv_of_nonneg _ (by omega),Int.fdiv_eq_ediv_of_nonneg _ (by omega)];exact ib (by omega)
theorem nY{a b t u t' u':Int}(hb:b≠0)(h:CG a b t u)(h':CG a b t' u'):t=t'/\u=u':=by
 refine jS h.low h'.low ?_;have e1:=h.eq;have e2:=h'.eq;have:b*(t*u')=b*(t'*u):=by grind
 exact Int.eq_of_mul_eq_mul_left hb this
end Mth
namespace L2
open PySem PySem.Spec PyProof.Rows
noncomputable abbrev ax(i:Int):Nat:=Builtin.Int.intBits i
theorem du{i:Int}{n:Nat}(h:i.natAbs<2^n):ax i<=n:=intBits_le h
theorem cQ{i:Int}{n:Nat}(h:ax i<=n):i.natAbs<2^n:=by
 unfold ax Builtin.Int.intBits at h
 by_cases h0:i=0
 ·subst h0
  exact Nat.pos_of_ne_zero (by simp)
 ·rw[if_neg (by simpa using h0)]at h
  have h1:i.natAbs≠0:=by omega
  exact(Nat.log2_lt h1).mp (by omega)
theorem gu{i j:Int}{n:Nat}(h:i.natAbs<=j.natAbs)(hj:ax j<=n):ax i<=n:=du (Nat.lt_of_le_of_lt h (cQ hj))
theorem bits_mul{i j:Int}{m n:Nat}(hi:ax i<=m)(hj:ax j<=n):ax (i*j)<=m+n:=by
 refine du ?_;rw[Int.natAbs_mul,Nat.pow_add];exact Nat.mul_lt_mul'' (cQ hi) (cQ hj)
theorem bU{i j:Int}{n:Nat}(hi:ax i<=n)(hj:ax j<=n):ax (i+j)<=n+1:=by
 refine du ?_;have h1:=cQ hi;have h2:=cQ hj;have h3:(2:Nat)^(n+1)=2*2^n:=by rw[Nat.pow_succ,Nat.mul_comm]
 omega
theorem aW{i j:Int}{n:Nat}(hi:ax i<=n)(hj:ax j<=n):ax (i - j)<=n+1:=by
 refine du ?_;have h1:=cQ hi;have h2:=cQ hj;have h3:(2:Nat)^(n+1)=2*2^n:=by rw[Nat.pow_succ,Nat.mul_comm]
 omega
theorem bits_neg{i:Int}{n:Nat}(hi:ax i<=n):ax (-i)<=n:=gu (by omega) hi
theorem bits_abs{i:Int}{n:Nat}(hi:ax i<=n):ax (if i<0 then -i else i)<=n:=gu (by split <;> omega) hi
theorem gw{i j:Int}{n:Nat}(hi:ax i<=n):ax (i.fdiv j)<=n:=PySem.intBits_fdiv_le hi
theorem cT{i b:Int}{n:Nat}(h0:0<=i)(h1:i<=b)(hb:ax b<=n):ax i<=n:=gu (by omega) hb
theorem ap{i:Int}{m n:Nat}(h:ax i<=m)(hm:m<=n):ax i<=n:=Nat.le_trans h hm
section
variable {X:Cx} {pos:Pos}
noncomputable def CM(i j:Int):Prop:=IntMulOk i j
theorem CM.b{i j:Int}{m n:Nat}(hi:ax i<=m)(hj:ax j<=n)(hm:m<=2^20)(hn:n<=2^20):CM i j:=IntMulOk.of_bits (Nat.le_trans hi hm) (Nat.le_trans hj hn)
theorem CM.l{i j:Int}(h:-(2^64)<i/\i<2^64):CM i j:=xf.ok (.inl h)
theorem CM.r{i j:Int}(h:-(2^64)<j/\j<2^64):CM i j:=xf.ok (.inr h)
theorem aA:OpR X (binaryOp .Mult) (rI CM λi j=>.int (i*j)):=opI λ_ _ _ _ _ _ _ hc q=>mul_int q hc
noncomputable def CD(_ j:Int):Prop:=0<j/\ax j<=8000
theorem hV{j:Int}{n:Nat}(hj:j≠0)(h:ax j<=n)(hn:n<=9000):j.natAbs.log2<9000:=by
 have h1:j.natAbs≠0:=by omega
 have h2:=(Nat.log2_lt h1).mpr (cQ h);omega
theorem cR:OpR X (binaryOp .FloorDiv) (rI CD λi j=>.int (i / j)):=opI λi j _ _ _ _ _ hc q=>by
 have h1:(0:Int)<j:=hc.1;exact floordiv_int (by omega) (by rw[Int.fdiv_eq_ediv_of_nonneg i (by omega)];exact q) (.inl (PyProof.noPylong_of_log2 (hV (by omega) hc.2 (by decide))))
noncomputable def CDZ(_ j:Int):Prop:=j≠0/\ax j<=8000
theorem nJ:OpR X (binaryOp .FloorDiv) (rI CDZ λi j=>.int (i.fdiv j)):=opI λi j _ _ _ _ _ hc q =>
 floordiv_int hc.1 q (.inl (PyProof.noPylong_of_log2 (hV hc.1 hc.2 (by decide))))
theorem rQ:MtR X "int.bit_length" (λx xs H Q=>∃i,x = .int i/\xs = []/\Q (.int ((ax i:Nat):Int)) H):=by
 intro pins s σ H x xs v us Q I rx rs h;obtain⟨i,rfl,rfl,q⟩:=h;obtain⟨t,rfl⟩:=rx;cases rs;exact call_int_bit_length ⟨.int _,H,I.tok _,⟨_,rfl⟩,q⟩
end
theorem pS:bootBuiltins "int" = some (.type "int"):=by decide +kernel
theorem wM:bootBuiltins "bool" = some (.type "bool"):=by decide +kernel
theorem u9:bootBuiltins "tuple" = some (.type "tuple"):=by decide +kernel
theorem wL:bootBuiltins "list" = some (.type "list"):=by decide +kernel
theorem eI:bootBuiltins "isinstance" = some (.builtin "isinstance"):=by decide +kernel
theorem iO:bootBuiltins "abs" = some (.builtin "abs"):=by decide +kernel
theorem cS:bootBuiltins "len" = some (.builtin "len"):=by decide +kernel
theorem mR:bootBuiltins "min" = some (.builtin "min"):=by decide +kernel
theorem vb:bootBuiltins "max" = some (.builtin "max"):=by decide +kernel
theorem tQ{X:Cx}{x:Str}{T:String}{pos:Pos}(hm:X.mg x=none)(hv:bootBuiltins x=some (.type T))(hg:Gl X x:=by rfl)(hn:x≠"__name__":=by decide)(hd:(x == ("__debug__" : Str))=false:=by decide) :
  PE X (.Name x pos) (tC (.ty T)):=vT hg hm hv rfl hn hd
inductive Kn (H:Hp):V->String->Prop where
 | non:Kn H .non "NoneType"
 | bl (b:Bool):Kn H (.bl b) "bool"
 | int (i:Int):Kn H (.int i) "int"
 | str (x:Str):Kn H (.str x) "str"
 | lst {a:Addr} {xs:List V} (e:H a=some (.lst xs)):Kn H (.ref a) "list"
 | tup {a:Addr} {xs:List V} (e:H a=some (.tup xs)):Kn H (.ref a) "tuple"
 | dict {a:Addr} {kvs:List (Key×V)} (e:H a=some (.dK kvs)):Kn H (.ref a) "dict"
theorem Kn.ty{K:W.Frag}{H:Hp}{x:V}{t:String}(k:Kn H x t):DD K H x (.type t):=by
 cases k with
 | non=>exact .non
 | bl b=>exact .bl b
 | int i=>exact .int i
 | str x=>exact .str x
 | lst e=>exact .lst e
 | tup e=>exact .tup e
 | dict e=>exact .dK e
noncomputable def iY(t T:String):Bool:=t == T || (t == "bool" && T == "int")
noncomputable def Ak(T:String):Prop:=T = "int"\/T = "bool"\/T = "tuple"\/T = "list"\/T = "str"
theorem yB(K:W.Frag){H:Hp}{x:V}{t T:String}(k:Kn H x t)(n:Ak T):W.kitOne K (.type t) (.type T)=some (iY t T):=by
 rcases n with rfl|rfl|rfl|rfl|rfl <;> cases k <;> kernel_rfl
inductive HQ (xs:List V) (H:Hp) (Q:VK):Prop
 | mk (x:V) (t T:String) (e:xs = [x,.ty T]) (k:Kn H x t) (n:Ak T) (q:Q (.bl (iY t T)) H):HQ xs H Q
theorem fV{X:Cx}:fX X (.builtin "isinstance") HQ:=by
 intro pins s σ H xs us Q I rs h;obtain⟨x,t,T,rfl,k,n,q⟩:=h;obtain⟨u,v,rfl,ru,rv⟩:=p9 rs;cases (show v=Value.type T from rv);exact rZ I ru k.ty (yB X.K k n) λtk=>⟨.bl _,H,I.tok _,rfl,q⟩
structure Fn(P:Program)(w:World)(K:W.Frag)(mg:Str->Option Value)(base:Heap)(x:Str)(ps:List Str)(k:Nat)(sp:Sp):Prop where
 ex:∃(f:Addr) (fd:FuncData) (o:Obj),mg x=some (.ref f)/\W.keepIn K (.ref f)=true/\(∀us:List Value,us.length=ps.length->bindArgs fd ⟨us,[]⟩=pure (ps.zip us))/\(K.lookup f=some o/\o.data = .func fd)/\C3 P w K mg base CX0 k f fd ps sp
theorem aF{X:Cx}{x:Str}{ps:List Str}{k:Nat}{sp:Sp}{p pos:Pos}{e:Expr}{es:List Expr}{t:TA}(F:Fn X.prog X.w X.K X.mg X.base x ps k sp)(hr:Bv k X.A)(hg:Gl X x)(ha:PA X (e::es) t)
  (hdb:(x == ("__debug__" : Str))=false:=by decide) (he:starEach (e::es) X.env=(false,eval e X.env)::starEach es X.env:=by rfl) (hpl:(backTo pos (starEach es X.env)).any (·.1)=false:=by rfl) :
  PE X (.Call (.Name x p) (e::es) [] pos) (qg sp [] E0 t):=by
 obtain⟨f,fd,o,hm,hk,hb,_,G⟩:=F.ex;exact md G hr hg hm hk (.all hb) .nil xo ha hdb he hpl
structure Df(K:W.Frag)(mg:Str->Option Value)(x:Str)(st:Stmt):Prop where
 ex:∃(f:Addr) (oc:Value) (od:Option Addr) (kV doc pm:Value) (an:Option Addr) (cdv ct:Value) (osl:Array (Option Value)),
  mg x=some (.ref f)/\K.lookup f=some ⟨oc,od,.func (W.fnOf x x (bK st) (aP st) (aq st) .none kV doc pm an cdv ct),osl⟩/\W.codeIn K cdv x=true/\W.keepIn K (.ref f)=true
theorem Ae{K:W.Frag}{mg:Str->Option Value}{h:Heap}{x:Str}{st:Stmt}{f:Addr}{oc:Value}{od an:Option Addr}{osl:Array (Option Value)}{kV doc pm cdv ct:Value}(X:K.In h)(G:h.Ns mainGlobals mg)
  (a:W.nsIn K mainGlobals x=some (some (.ref f))) (l:K.lookup f=some ⟨oc,od,.func (W.fnOf x x (bK st) (aP st) (aq st) .none kV doc pm an cdv ct),osl⟩) (c:W.codeIn K cdv x=true) (k:W.keepIn K (.ref f)=true) :
  Df K mg x st:=⟨⟨f,oc,od,kV,doc,pm,an,cdv,ct,osl,W.mg_of X G a,l,c,k⟩⟩
theorem Df.fn{P:Program}{w:World}{K:W.Frag}{mg:Str->Option Value}{base:Heap}{x:Str}{st:Stmt}{N ps:List Str}{k:Nat}{sp:Sp}(D:Df K mg x st)(S:AQ N ps (aq st))
  (hbind:∀(kV doc pm:Value) (an:Option Addr) (cdv ct:Value) (us:List Value),us.length=ps.length->bindArgs (W.fnOf x x (bK st) (aP st) (aq st) .none kV doc pm an cdv ct) ⟨us,[]⟩=pure (ps.zip us))
  (len:∀vs H Q E,sp vs H Q E->vs.length=ps.length)
  (hbody:∀(f:Addr) (cdv:Value) (A:Around) (outer:List Env) (s:Shared) (H:Hp) (vs:List V) (Q:VK) (E:XK),Bv k (A.deeper (envOfC x (aq st) s.heap.objs.size f cdv))->sp vs H Q E ->
   ∃t,PSs (bY CX0 P w K mg base N x (aq st) f cdv A outer s H E).nox (aP st) t/\t { nx:=λ_ H'=>Q .non H',rt:=Q } (fu N vs) H):Fn P w K mg base x ps (k+1) sp:=by
 obtain⟨f,oc,od,kV,doc,pm,an,cdv,ct,osl,hm,lk,hcd,hk⟩:=D.ex;refine⟨⟨f,_,_,hm,hk,hbind kV doc pm an cdv ct,⟨lk,rfl⟩,oh lk hcd S len λA outer s H vs Q E hr hsp=>?_⟩⟩;obtain⟨t,h,q⟩:=hbody f cdv A outer s H vs Q E hr hsp;exact⟨t,h.nox,q⟩
theorem yA{P:Program}{w:World}{K:W.Frag}{mg:Str->Option Value}{fa:Addr}{k:Nat}{sp:Sp}(h:Heap)(hfa:mg "law" = some (.ref fa))(F:∀base:Heap,Fn P w K mg base "law" ["script"] k sp) :
  ∃fd:FuncData,(∀(s:Shared) (v:Value),BindsTo s fd ⟨[v],[]⟩ [("script",v)])/\∀base:Heap,K.In base->base.Ns mainGlobals mg->C3 P w K mg base CX0 k fa fd ["script"] sp:=by
 obtain⟨f,fd,o,hm,_,hb,⟨hl,hd⟩,_⟩:=(F h).ex;rw[hfa]at hm;cases hm;refine⟨fd,λs v=>.of_eq (hb [v] rfl),λbase _ _=>?_⟩;obtain⟨f',fd',o',hm',_,_,⟨hl',hd'⟩,G⟩:=(F base).ex;rw[hfa]at hm';cases hm';rw[hl]at hl';cases hl';rw[hd]at hd';cases hd';exact G
theorem Same.new{H:Hp}{p:Addr}{o:HO}(h:H p=none):Same H (upd H p o):=λb o' e=>by
 rw[aN (aU e h)];exact e
theorem aT{c:Bool}{A B:Prop}(h1:c=true->A)(h2:c=false->B):if c=true then A else B:=by
 cases c with
 | true=>exact rY (h1 rfl)
 | false=>exact jX (h2 rfl)
theorem a6{b:Bool}{A B:Prop}(hb:b=false)(h:B):if b=true then A else B:=by
 subst hb;exact jX h
theorem cf{b:Bool}{A B:Prop}(hb:b=true)(h:A):if b=true then A else B:=by
 subst hb;exact rY h
noncomputable def wB(s:Stmt):List Stmt:=match s with
 | .For _ _ b _ _=>b
 | _=>[]
noncomputable def mD:V->Bool
 | .int _=>true
 | _=>false
end L2
namespace Sp1
open PySem PySem.Spec L2 Mth
inductive DY (vs:List V) (H:Hp) (Q:VK) (x_3:XK):Prop
 | mk:∀x t,(vs = [x])->(Kn H x t)->(Q (.bl (mD x)) H)->DY vs H Q x_3
inductive FY (vs:List V) (H:Hp) (Q:VK) (x_3:XK):Prop
 | mk:∀a b:Int,(vs = [.int a,.int b])->(Q (.int (Int.gcd a b:Int)) H)->FY vs H Q x_3
inductive D2 (vs:List V) (H:Hp) (Q:VK) (x_3:XK):Prop
 | mk:∀(p q:Addr) (a b c d:Int),(vs = [.ref p,.ref q])->(H p=some (.tup [.int a,.int b]))->(H q=some (.tup [.int c,.int d]))->((ax a<=2000/\ax b<=2000/\ax c<=2000/\ax d<=2000))->(Q (.bl (decide (a*d<c*b))) H)->D2 vs H Q x_3
noncomputable def lowB(a b:Int):Bool:=decide (1<=b) && decide (Int.gcd a b=1)
noncomputable def kD:List V->Bool
 | [.int a,.int b]=>lowB a b
 | _=>false
noncomputable def i8(H:Hp):V->Bool
 | .ref p=>match H p with
  | some (.tup xs)=>kD xs
  | _=>false
 | _=>false
structure E6(H:Hp)(x:V):Prop where
 kn:∃t,Kn H x t
 parts:∀p xs,x = .ref p->H p=some (.tup xs)->∀y∈xs,∃t,Kn H y t
inductive Gu (vs:List V) (H:Hp) (Q:VK) (x_3:XK):Prop
 | mk:∀x,(vs = [x])->(E6 H x)->(Q (.bl (i8 H x)) H)->Gu vs H Q x_3
theorem kX{H:Hp}{x:V}{t:String}(k:Kn H x t):(iY t "int" = true->(!iY t "bool")=mD x)/\(iY t "int" = false->mD x=false):=by
 cases k with
 | non=>exact⟨λh=>absurd h (by decide),λ_=>rfl⟩
 | bl b=>exact⟨λ_=>(show(!iY "bool" "bool")=false by decide),λh=>absurd h (by decide)⟩
 | int i=>exact⟨λ_=>(show(!iY "int" "bool")=true by decide),λh=>absurd h (by decide)⟩
 | str x=>exact⟨λh=>absurd h (by decide),λ_=>rfl⟩
 | lst e=>exact⟨λh=>absurd h (by decide),λ_=>rfl⟩
 | tup e=>exact⟨λh=>absurd h (by decide),λ_=>rfl⟩
 | dict e=>exact⟨λh=>absurd h (by decide),λ_=>rfl⟩
theorem km(a:Int):0<=(if a<0 then -a else a):=by split <;> omega
theorem Kn.cases_int{H:Hp}{y:V}{t:String}(k:Kn H y t):(∃a,y = .int a/\t = "int")\/((∀a,y≠.int a)/\mD y=false):=by
 cases k with
 | int a=>exact .inl ⟨a,rfl,rfl⟩
 | non=>exact .inr ⟨λa e=>(nomatch e),rfl⟩
 | bl b=>exact .inr ⟨λa e=>(nomatch e),rfl⟩
 | str x=>exact .inr ⟨λa e=>(nomatch e),rfl⟩
 | lst e=>exact .inr ⟨λa e=>(nomatch e),rfl⟩
 | tup e=>exact .inr ⟨λa e=>(nomatch e),rfl⟩
 | dict e=>exact .inr ⟨λa e=>(nomatch e),rfl⟩
theorem Kn.cases_tup{H:Hp}{y:V}{t:String}(k:Kn H y t):(∃p xs,y = .ref p/\H p=some (.tup xs)/\t = "tuple")\/(i8 H y=false/\iY t "tuple" = false):=by
 cases k with
 | tup e=>exact .inl ⟨_,_,rfl,e,rfl⟩
 | non=>exact .inr ⟨rfl,by decide⟩
 | bl b=>exact .inr ⟨rfl,by decide⟩
 | str x=>exact .inr ⟨rfl,by decide⟩
 | int a=>exact .inr ⟨rfl,by decide⟩
 | lst e=>exact .inr ⟨by simp only[i8,e],by decide⟩
 | dict e=>exact .inr ⟨by simp only[i8,e],by decide⟩
theorem ut{H:Hp}{p:Addr}{xs:List V}(e:H p=some (.tup xs)):i8 H (.ref p)=kD xs:=by simp only[i8,e]
theorem uy{xs:List V}(h:xs.length≠2):kD xs=false:=by
 unfold kD
 split
 ·exact absurd rfl h
 ·rfl
theorem uz{y z:V}(h:∀a,y≠.int a):kD [y,z]=false:=by
 unfold kD
 split
 ·rename_i a b e
  cases e;exact absurd rfl (h a)
 ·rfl
theorem ux{y z:V}(h:∀a,z≠.int a):kD [y,z]=false:=by
 unfold kD
 split
 ·rename_i a b e
  cases e;exact absurd rfl (h b)
 ·rfl
theorem sz{n:Nat}(h:n<=1000):n<=sizeLine:=Nat.le_of_lt (aZ h)
theorem AJ{H:Hp}{p:Addr}{o:HO}(h:H p=none):∃H1,upd H p o=H1/\Same H H1/\H1 p=some o:=⟨_,rfl,Same.new h,upd_same⟩
theorem atI_mem{α:Type}{xs:List α}{k:Int}(h0:0<=k)(h1:k<(xs.length:Int)):∃v,atI xs k=some v/\v∈xs:=by
 have hk:k.toNat<xs.length:=by omega
 have ek:k=((k.toNat:Nat):Int):=by omega
 have q:=dP (xs:=xs) (j:=k.toNat) (List.getElem?_eq_getElem hk);rw[<- ek]at q;exact⟨xs[k.toNat],q,List.getElem_mem hk⟩
theorem th_tup{H:Hp}{p:Addr}{xs:List V}(e:H p=some (.tup xs))(h:∀y∈xs,∃t,Kn H y t):E6 H (.ref p):=⟨⟨_,.tup e⟩,λp' ys e1 e2=>by
 cases e1;rw[e]at e2;cases e2;exact h⟩
theorem lJ{a b:Int}{n:Nat}(hb:b≠0)(h:ax b<=n):ax (Int.gcd a b:Int)<=n:=by
 refine gu ?_ h;have h1:(Int.gcd a b)∣b.natAbs:=Int.gcd_dvd_natAbs_right a b;have h2:=Nat.le_of_dvd (by omega) h1;omega
end Sp1
namespace L2
open PySem PySem.Spec PyProof.Rows
theorem vh(ns ms:List Int):((List.range (min ns.length ms.length)).all (λj=>decide (ns[j]? = ms[j]?)) && ns.length == ms.length)=decide (ns=ms):=by
 rw[Bool.eq_iff_iff];simp only[Bool.and_eq_true,List.all_eq_true,List.mem_range,decide_eq_true_eq,beq_iff_eq];constructor
 ·rintro⟨h1,h2⟩
  refine List.ext_getElem? λj=>?_
  by_cases hj:j<ns.length
  ·exact h1 j (by omega)
  ·rw[List.getElem?_eq_none (by omega),List.getElem?_eq_none (by omega)]
 ·rintro rfl
  exact⟨λ_ _=>rfl,rfl⟩
theorem sP{ns:List Int}{us:List Value}{j:Nat}(r:aV (ns.map V.int) us)(h:j<us.length):∃a,ns[j]? = some a/\a9 (.int a) us[j]:=by
 have hl:=r.length;rw[List.length_map]at hl;have hj:j<ns.length:=by omega
 obtain⟨u,e,q⟩:=r.get (i:=j) (x:=.int ns[j]) (by rw[List.getElem?_map,List.getElem?_eq_getElem hj];rfl);rw[List.getElem?_eq_getElem h]at e;cases e;exact⟨ns[j],List.getElem?_eq_getElem hj,q⟩
section
variable {X:Cx}
inductive HR (K:W.Frag) (neg:Bool) (x:V) (y:V) (H:Hp) (Q:VK):Prop
 | mk:∀(p q:Addr) (ns ms:List Int),(x = .ref p)->(y = .ref q)->(SqT K H p (ns.map V.int))->(SqT K H q (ms.map V.int))->(Q (.bl (if neg then !decide (ns=ms) else decide (ns=ms))) H)->HR K neg x y H Q
theorem uH{A:Around}{s:Shared}{ns ms:List Int}{us vs:List Value}(r:aV (ns.map V.int) us)(r':aV (ms.map V.int) vs)(j:Nat)(h1:j<us.toArray.size)(h2:j<vs.toArray.size) :
  SeqAt.EqAt A s us.toArray[j] vs.toArray[j] (decide (ns[j]? = ms[j]?)):=by
 rw[List.size_toArray]at h1 h2;obtain⟨a,ea,ra⟩:=sP r h1;obtain⟨b,eb,rb⟩:=sP r' h2;have q:=yT (A:=A) (s:=s) ra rb rfl rfl;have e:eqV (.int a) (.int b)=decide (ns[j]? = ms[j]?):=by
  rw[ea,eb];show(a == b)=decide (some a=some b);rw[Bool.eq_iff_iff];simp
 rw[e]at q;exact q
theorem ym(hu:X.A.units<cLine):OpR X (compareOp .Eq) (HR X.K false):=by
 intro pins s σ H x y v u Q I rx ry h;obtain⟨p,q,ns,ms,rfl,rfl,hp,hq,k⟩:=h;cases rx;cases ry;obtain⟨its,r,pl,_⟩:=I.tuple hp;obtain⟨jts,r',pl',_⟩:=I.tuple hq;refine SeqAt.eq_tupleAt pl pl' hu (uH r r') ⟨.bl _,H,I,rfl,?_⟩;have e1:=r.length;have e2:=r'.length;rw[List.length_map]at e1 e2;rw[List.size_toArray,List.size_toArray,<- e1,<- e2,vh];exact k
end
theorem bV.has{P:Program}{w:World}{H:Hp}{h:Heap}{a:Addr}{o:HO}(x:bV P w H h a o):∃ob,h.get? a=some ob:=by
 cases o with
 | lst xs=>obtain⟨_,_,_,_,e⟩:=x;exact⟨_,e⟩
 | tup xs=>obtain⟨_,_,_,ob,e,_⟩:=x;exact⟨_,e⟩
 | dK kvs=>obtain⟨_,_,_,_,ob,_,_,e,_⟩:=x;exact⟨_,e⟩
 | dT kvs=>obtain⟨_,_,_,_,ob,_,_,e,_⟩:=x;exact⟨_,e⟩
 | set S n=>obtain⟨ob,_,_,_,e,_⟩:=x;exact⟨_,e⟩
 | ins C dx fs=>obtain⟨_,_,_,e,_⟩:=x;exact⟨_,e⟩
 | own y=>obtain⟨ob,e⟩:=x;exact⟨_,e⟩
 | xd fs=>obtain⟨_,⟨od,_,_,e,_⟩,_⟩:=x;exact⟨_,e⟩
 | rng lo hi=>obtain⟨_,_,_,e⟩:=x;exact⟨_,e⟩
 | frz ob u=>obtain⟨e,_⟩:=x;exact⟨_,e⟩
 | tbl ps=>exact⟨_,(show h.get? a=some _ from x)⟩
 | met f y=>exact⟨_,(show h.get? a=some _ from x)⟩
 | ext φ=>obtain⟨_,⟨ob,e⟩,_⟩:=x;exact⟨_,e⟩
structure Ib(B:Heap)(fs:List Addr)(H':Hp)(h:Heap):Prop where
 tr:∀b o,H' b=some o->∃ob,B.get? b=some ob
 old:∀b o,h.get? b=some o->b∉fs->∃ob,B.get? b=some ob
section
variable {P:Program} {w:World} {fs fs':List Addr} {H H1 H':Hp} {h h1 h2 B:Heap}
theorem Un.fly(un:Un fs [] H H' h h1)(big:Ib B fs H' h)(st1:B.StaysIn h1)(st2:B.StaysIn h2)(sl:h1.UpToSlots h2)
  (fr:∀b∈fs,H b=none/\∀o,h1.get? b=some o->∀vs,o.data≠.fields vs):Un fs [] H H' h h2 where
 keep:=λb o e n hb hx=>by
  have e1:=un.keep b o e n hb hx;obtain⟨ob,eb⟩:=big.old b o e hb;have e2:=st1 b ob eb;rw[e1]at e2;cases e2;exact st2 b _ eb
 slot:=λb o e n hb hx=>by
  obtain⟨s1,e1⟩:=un.slot b o e n hb hx;obtain⟨s2,e2⟩:=sl b _ e1 ((fr b hb).2 _ e1);exact⟨s2,e2⟩
 free:=un.free
 there:=λb o e hx=>by
  by_cases hb:b∈fs
  ·obtain⟨s1,e1⟩:=un.slot b o e (fr b hb).1 hb hx
   obtain⟨s2,e2⟩:=sl b _ e1 ((fr b hb).2 _ e1);exact⟨_,e2⟩
  ·obtain⟨ob,eb⟩:=big.old b o e hb
   exact⟨_,st2 b ob eb⟩
 tups:=un.tups
 frzs:=un.frzs
 tbls:=un.tbls
theorem HOk.fly(hok:HOk P w H' h1)(big:Ib B fs H' h)(st1:B.StaysIn h1)(st2:B.StaysIn h2):HOk P w H' h2:=λa o e=>by
 refine(hok a o e).stay (λb u hb q=>?_) (λ_ q=>q) λ_ _ q=>q;have hb':∃ob,B.get? b=some ob:=by
  rcases hb with z|z
  ·rw[z]
   exact big.tr a o e
  ·exact big.tr b _ z
 obtain⟨ob,eb⟩:=hb';have e2:=st1 b ob eb;rw[q]at e2;cases e2;exact st2 b _ eb
theorem Un.shed(a:Un fs [] H H1 h h1)(b:Un fs' [] H1 H' h1 h2)(sub:∀x∈fs,x∈fs')(out:∀x o,h.get? x=some o->x∈fs'->x∈fs):Un fs [] H H' h h2 where
 keep:=λx o e n hx hn=>b.keep x o (a.keep x o e n hx hn) (a.free x o e n hn) (λz=>hx (out x o e z)) hn
 slot:=λx o e n hx hn=>by
  obtain⟨s1,e1⟩:=a.slot x o e n hx hn;obtain⟨s2,e2⟩:=b.slot x _ e1 (a.free x o e n hn) (sub x hx) hn;exact⟨s2,e2⟩
 free:=λx o e n hn=>by
  obtain⟨o1,e1⟩:=a.there x o e hn;exact b.free x o1 e1 (a.free x o e n hn) hn
 there:=λx o e hn=>by
  obtain⟨o1,e1⟩:=a.there x o e hn;exact b.there x o1 e1 hn
 tups:=λx xs e=>b.tups x xs (a.tups x xs e)
 frzs:=λx o xs e=>b.frzs x o xs (a.frzs x o xs e)
 tbls:=λx ps e=>by
  obtain⟨m1,e1⟩:=a.tbls x ps e;obtain⟨m2,e2⟩:=b.tbls x _ e1;exact⟨m1++m2,by rw[e2,Array.append_assoc]⟩
end
noncomputable def CXE(P:Program)(w:World):CXT:=λouter H s E e s'=>∃(ea t:Addr) (cls:Value) (H':Hp) (B:Heap),
 e = .ref ea/\s'.os=s.os/\AllBare s'.gens/\Un (frs outer) [] H H' s.heap s'.heap/\HOk P w H' s'.heap/\Heap.FlyingW B outer ea cls (.ref t) s'.heap/\Ib B (frs outer) H' s.heap/\E cls none H'
section
variable {P:Program} {w:World} {K:W.Frag} {mg:Str->Option Value} {base:Heap} {N:List Str} {qual:Str} {scope:Scope} {f:Addr} {cdv:Value} {A:Around} {outer:List Env} {s₀:Shared} {H₀:Hp} {E:XK}
theorem uP{env:Env}{L:Addr}(hf:env.frame=some L)(l:List Env):frs (env::l)=L::frs l:=by
 unfold frs;rw[List.filterMap_cons,hf]
theorem xX{pins:List (Addr×Obj)}{σ:St}{H:Hp}{s:Shared}{h':Heap}{e:Addr}{cls:Value}{vs:List Value}(I:AU (bY (CXE P w) P w K mg base N qual scope f cdv A outer s₀ H₀ E) pins σ H s)
  (hx:Heap.MadeExcOf s.heap h' e cls vs) (q:E cls none H):(bY (CXE P w) P w K mg base N qual scope f cdv A outer s₀ H₀ E).xe (.ref e) { s with heap:=h' }:=by
 have hin:∀env∈(bY (CXE P w) P w K mg base N qual scope f cdv A outer s₀ H₀ E).stack,∀a,env.frame=some a->a∈frs (bY (CXE P w) P w K mg base N qual scope f cdv A outer s₀ H₀ E).stack :=
  λenv he a ha=>List.mem_filterMap.mpr ⟨env,he,ha⟩
 have neL:∀b o,s₀.heap.get? b=some o->b∉frs outer->b∉frs (bY (CXE P w) P w K mg base N qual scope f cdv A outer s₀ H₀ E).stack:=λb o eb hb hm=>by
  rcases List.mem_cons.mp (I.stkSub b hm) with z|z
  ·exact absurd z (Nat.ne_of_lt (Nat.lt_of_lt_of_le (Heap.lt_size eb) I.ok.above))
  ·exact hb z
 refine wpAny_leaves_madeW (base:=W.hideAll s.heap (frs (bY (CXE P w) P w K mg base N qual scope f cdv A outer s₀ H₀ E).stack)) (h:=s.heap) (L:=s₀.heap.objs.size) I.ok.frames rfl (λb o z=>W.of_hideAll _ z) (W.funFrames_hide I.stack hin) hx λh'' t fl _ _ up=>?_;have big:Ib (W.hideAll s.heap (frs (bY (CXE P w) P w K mg base N qual scope f cdv A outer s₀ H₀ E).stack)) (frs outer) H s₀.heap:=by
  refine⟨λb o eb=>?_,λb o eb hb=>?_⟩
  ·obtain⟨ob,z⟩:=(I.hok b o eb).has
   refine⟨ob,W.hideAll_get _ z λhm=>?_⟩;rw[I.stkFree b hm]at eb;cases eb
  ·obtain⟨ob,z⟩:=I.base.there b o eb (by intro z;cases z)
   exact⟨ob,W.hideAll_get _ z (neL b o eb hb)⟩
 have st1:(W.hideAll s.heap (frs (bY (CXE P w) P w K mg base N qual scope f cdv A outer s₀ H₀ E).stack)).StaysIn s.heap:=λb o z=>W.of_hideAll _ z;have sl:s.heap.UpToSlots h'':=(Heap.UpToSlots.of_keeps hx.keeps).trans up;exact⟨e,t,cls,H,_,rfl,I.os,I.bare,Un.fly I.base big st1 fl.1 sl λb hb=>⟨I.ok.frf b hb,λo eo=>by
   obtain⟨_,o',eo',nf⟩:=I.funs.mem hb;rw[eo]at eo';cases eo';exact nf⟩,HOk.fly I.hok big st1 fl.1,fl,big,q⟩
theorem vU{E1:XK}(hE:∀c o H',E1 c o H'->E c o H'):gO (CXE P w) (bY (CXE P w) P w K mg base N qual scope f cdv A outer s₀ H₀ E) E1:=by
 intro pins σ H s e s' I h;obtain⟨ea,t,cls,H',B,rfl,os,bare,un,hok,fl,big,q⟩:=h;refine wpAny_leaves_onW (L:=s₀.heap.objs.size) I.ok.frames rfl fl λh'' fl' up=>?_;have out:∀x o,s₀.heap.get? x=some o->x∈frs (bY (CXE P w) P w K mg base N qual scope f cdv A outer s₀ H₀ E).stack->x∈frs outer:=λx o ex hm=>by
  rcases List.mem_cons.mp (I.stkSub x hm) with z|z
  ·exact absurd z (Nat.ne_of_lt (Nat.lt_of_lt_of_le (Heap.lt_size ex) I.ok.above))
  ·exact z
 have sub:∀x∈frs outer,x∈frs (bY (CXE P w) P w K mg base N qual scope f cdv A outer s₀ H₀ E).stack:=λx hx=>by
  show x∈frs (_::outer);rw[uP (L:=s₀.heap.objs.size) rfl];exact List.mem_cons_of_mem _ hx
 have un1:Un (frs outer) [] H₀ H' s₀.heap s'.heap:=Un.shed I.base un sub out;have big1:Ib B (frs outer) H' s₀.heap:=by
  refine⟨big.tr,λb o eb hb=>?_⟩;obtain⟨ob,z⟩:=I.base.there b o eb (by intro z;cases z);exact big.old b ob z λhm=>hb (out b o eb hm)
 refine⟨ea,t,cls,H',B,rfl,os.trans I.os,bare,Un.fly un1 big1 fl.1 fl'.1 up λb hb=>⟨I.ok.frf b hb,λo eo=>?_⟩,HOk.fly hok big1 fl.1 fl'.1,fl',big1,hE _ _ _ q⟩;obtain⟨_,o',eo',nf⟩:=fl'.2.2.1.mem hb;obtain⟨_,o2,eo2,nf2⟩:=fl.2.2.1.mem (sub b hb);rw[eo]at eo2;cases eo2;exact nf2
end
structure E8(K:W.Frag)(mg:Str->Option Value)(x:Str)(C:Addr):Prop where
 bound:mg x=some (.ref C)
 obj:∀h:Heap,K.In h->∃bm N nm qn bs hd sn sub ab col dd k0 k1 k2 k3 k5 mN,h.get? C=some (excClassObj nm qn C N bs bm hd sn sub ab col dd k0 k1 k2 k3 k5 "ValueError.__new__")/\h.Ns N mN/\mN "__init__" = none /\
  OwnTail h [.type "ValueError",.type "Exception",.type "BaseException",.type "object"] bm
theorem wF{K:W.Frag}{h:Heap}{C:Addr}{bmB:List Value}{newId:String}(X:K.In h)(q:W.excIn K C bmB newId=true) :
  ∃bm N nm qn bs hd sn sub ab col dd k0 k1 k2 k3 k5 mN,h.get? C=some (excClassObj nm qn C N bs bm hd sn sub ab col dd k0 k1 k2 k3 k5 newId)/\h.Ns N mN/\mN "__init__" = none/\OwnTail h bmB bm:=by
 unfold W.excIn at q
 split at q
 next dct cl sls look =>
  split at q
  next C2 bms a0 a1 a2 a3 nid a5 hmro hsls =>
   simp only[Bool.not_eq_true',beq_iff_eq,Bool.and_eq_true]at q;obtain⟨⟨⟨⟨⟨q1,q2⟩,q3⟩,q4⟩,q5⟩,q6⟩:=q;subst q1 q2;obtain⟨c1,c2,c3,c4,c5,c6,c7,c8,c9,c10,c11⟩:=cl;dsimp only at hmro q3 q5 q6;subst hmro q3;obtain⟨lst⟩:=sls;simp only at hsls;subst hsls;exact⟨bms,c4,c1,c5,c2,c6,c7,c8,c9,c10,dct,a0,a1,a2,a3,a5,_,X _ _ look,.of_isNs (W.isNs_of_in X q5),W.nsMap_none_of_in X q5 q6,W.tail_of_in X q4⟩
  next=>cases q
 next=>cases q
theorem yS{K:W.Frag}{mg:Str->Option Value}{h:Heap}{x:Str}{C:Addr}(X:K.In h)(G:h.Ns mainGlobals mg)(a:W.nsIn K mainGlobals x=some (some (.ref C)))
  (q:W.excIn K C [.type "ValueError",.type "Exception",.type "BaseException",.type "object"] "ValueError.__new__" = true):E8 K mg x C:=⟨W.mg_of X G a,λ_ Y=>wF Y q⟩
section
variable {P:Program} {w:World} {K:W.Frag} {mg:Str->Option Value} {base:Heap} {N:List Str} {qual:Str} {scope:Scope} {f:Addr} {cdv:Value} {A:Around} {outer:List Env} {s₀:Shared} {H₀:Hp} {E:XK}
theorem g6{x:Str}{C:Addr}{np cpos pos:Pos}(O:E8 K mg x C)(hg:Gl (bY (CXE P w) P w K mg base N qual scope f cdv A outer s₀ H₀ E) x)(hdb:(x == ("__debug__" : Str))=false:=by decide) :
  PS (bY (CXE P w) P w K mg base N qual scope f cdv A outer s₀ H₀ E) (.Raise (some (.Call (.Name x np) [] [] cpos)) none pos) (λ_ _ H=>E (.ref C) none H):=by
 intro pins s σ H D I h;obtain⟨bm,N',nm,qn,bs,hd,sn,sub,ab,col,dd,k0,k1,k2,k3,k5,mN,hC,hN,hni,T⟩:=O.obj s.heap I.kIn;refine wpAny_Raise_call_subT (C:=C) (nm:=nm) (q:=qn) (N:=N') (bs:=bs) (bm:=bm) (hdct:=hd) (sn:=sn) (sub:=sub) (ab:=ab) (col:=col) (dd:=dd) (k0:=k0) (k1:=k1) (k2:=k2) (k3:=k3) (k5:=k5) PySem.F.excBase_ValueError (mN:=mN) (T.hasType (by decide +kernel)) (I.ok.hd rfl) rfl hni (hZ I hg O.bound ⟨rfl,?_⟩ hdb);exact evalArgs_empty ⟨rfl,Nat.zero_le _,hC,hN,T,λh' e hx=>xX I hx h⟩
end
structure Fx(P:Program)(w:World)(K:W.Frag)(mg:Str->Option Value)(base:Heap)(x:Str)(ps:List Str)(k:Nat)(ds:List V)(sp:Sp):Prop where
 ex:∃(f:Addr) (fd:FuncData) (its:List Value),mg x=some (.ref f)/\W.keepIn K (.ref f)=true/\fF K fd ps []/\fF K fd ps its/\aV ds its/\C3 P w K mg base (CXE P w) k f fd ps sp
structure HN(K:W.Frag)(mg:Str->Option Value)(x:Str)(st:Stmt)(ds:List V):Prop where
 ex:∃(f T:Addr) (oT:Obj) (n:Nat) (its:List Value) (oc:Value) (od:Option Addr) (kV doc pm:Value) (an:Option Addr) (cdv ct:Value) (osl:Array (Option Value)),
  mg x=some (.ref f)/\K.lookup f=some ⟨oc,od,.func (W.fnOf x x (bK st) (aP st) (aq st) (.ref T) kV doc pm an cdv ct),osl⟩/\W.codeIn K cdv x=true/\W.keepIn K (.ref f)=true/\K.lookup T=some oT/\oT.data = .seq its.toArray n/\aV ds its
theorem yX{K:W.Frag}{mg:Str->Option Value}{h:Heap}{x:Str}{st:Stmt}{ds:List V}{its:List Value}{f T:Addr}{oT:Obj}{n:Nat}{oc:Value}{od an:Option Addr}{osl:Array (Option Value)}{kV doc pm cdv ct:Value}(X:K.In h)(G:h.Ns mainGlobals mg)
  (a:W.nsIn K mainGlobals x=some (some (.ref f))) (l:K.lookup f=some ⟨oc,od,.func (W.fnOf x x (bK st) (aP st) (aq st) (.ref T) kV doc pm an cdv ct),osl⟩) (c:W.codeIn K cdv x=true) (k:W.keepIn K (.ref f)=true)
  (t:K.lookup T=some oT) (d:oT.data = .seq its.toArray n) (v:aV ds its):HN K mg x st ds:=⟨⟨f,T,oT,n,its,oc,od,kV,doc,pm,an,cdv,ct,osl,W.mg_of X G a,l,c,k,t,d,v⟩⟩
theorem HN.fx{P:Program}{w:World}{K:W.Frag}{mg:Str->Option Value}{base:Heap}{x:Str}{st:Stmt}{ds:List V}{N ps:List Str}{k:Nat}{sp:Sp}(D:HN K mg x st ds)(S:AQ N ps (aq st))
  (hb:∀(T:Addr) (kV doc pm:Value) (an:Option Addr) (cdv ct:Value) (us its:List Value) (oT:Obj) (n:Nat) (s:Shared),aV ds its->us.length=ps.length->s.heap.get? T=some oT->oT.data = .seq its.toArray n ->
   BindsTo s (W.fnOf x x (bK st) (aP st) (aq st) (.ref T) kV doc pm an cdv ct) ⟨us,[]⟩ (ps.zip us))
  (hd:∀(T:Addr) (kV doc pm:Value) (an:Option Addr) (cdv ct:Value) (us its:List Value) (oT:Obj) (n:Nat) (s:Shared),aV ds its->(us++its).length=ps.length->s.heap.get? T=some oT->oT.data = .seq its.toArray n ->
   BindsTo s (W.fnOf x x (bK st) (aP st) (aq st) (.ref T) kV doc pm an cdv ct) ⟨us,[]⟩ (ps.zip (us++its)))
  (len:∀vs H Q E,sp vs H Q E->vs.length=ps.length)
  (hbody:∀(f:Addr) (cdv:Value) (A:Around) (outer:List Env) (s:Shared) (H:Hp) (vs:List V) (Q:VK) (E:XK),Bv k (A.deeper (envOfC x (aq st) s.heap.objs.size f cdv))->sp vs H Q E ->
   ∃t,PSs (bY (CXE P w) P w K mg base N x (aq st) f cdv A outer s H E) (aP st) t/\t { nx:=λ_ H'=>Q .non H',rt:=Q } (fu N vs) H):Fx P w K mg base x ps (k+1) ds sp:=by
 obtain⟨f,T,oT,n,its,oc,od,kV,doc,pm,an,cdv,ct,osl,hm,lk,hcd,hk,hT,hs,hv⟩:=D.ex;refine⟨⟨f,_,its,hm,hk,λs us KX hl=>?_,λs us KX hl=>hd T kV doc pm an cdv ct us its oT n s hv hl (KX _ _ hT) hs,hv,oh lk hcd S len λA outer s H vs Q E hr hsp=>hbody f cdv A outer s H vs Q E hr hsp⟩⟩;rw[List.append_nil]at hl ⊢;exact hb T kV doc pm an cdv ct us its oT n s hv hl (KX _ _ hT) hs
theorem Df.fx{P:Program}{w:World}{K:W.Frag}{mg:Str->Option Value}{base:Heap}{x:Str}{st:Stmt}{N ps:List Str}{k:Nat}{sp:Sp}(D:Df K mg x st)(S:AQ N ps (aq st))
  (hbind:∀(kV doc pm:Value) (an:Option Addr) (cdv ct:Value) (us:List Value),us.length=ps.length->bindArgs (W.fnOf x x (bK st) (aP st) (aq st) .none kV doc pm an cdv ct) ⟨us,[]⟩=pure (ps.zip us))
  (len:∀vs H Q E,sp vs H Q E->vs.length=ps.length)
  (hbody:∀(f:Addr) (cdv:Value) (A:Around) (outer:List Env) (s:Shared) (H:Hp) (vs:List V) (Q:VK) (E:XK),Bv k (A.deeper (envOfC x (aq st) s.heap.objs.size f cdv))->sp vs H Q E ->
   ∃t,PSs (bY (CXE P w) P w K mg base N x (aq st) f cdv A outer s H E) (aP st) t/\t { nx:=λ_ H'=>Q .non H',rt:=Q } (fu N vs) H):Fx P w K mg base x ps (k+1) [] sp:=by
 obtain⟨f,oc,od,kV,doc,pm,an,cdv,ct,osl,hm,lk,hcd,hk⟩:=D.ex;have hb:fF K (W.fnOf x x (bK st) (aP st) (aq st) .none kV doc pm an cdv ct) ps []:=.all (hbind kV doc pm an cdv ct);exact⟨⟨f,_,[],hm,hk,hb,hb,.nil,oh lk hcd S len λA outer s H vs Q E hr hsp=>hbody f cdv A outer s H vs Q E hr hsp⟩⟩
theorem nu{P:Program}{w:World}{K:W.Frag}{mg:Str->Option Value}{base:Heap}{N:List Str}{qual:Str}{scope:Scope}{f:Addr}{cdv:Value}{A:Around}{outer:List Env}{s₀:Shared}{H₀:Hp}{E:XK}
  {x:Str} {ps:List Str} {k:Nat} {ds:List V} {sp:Sp} {p pos:Pos} {e:Expr} {es:List Expr} {t:TA} (F:Fx P w K mg base x ps k ds sp) (hr:Bv k (bY (CXE P w) P w K mg base N qual scope f cdv A outer s₀ H₀ E).A) (hg:Gl (bY (CXE P w) P w K mg base N qual scope f cdv A outer s₀ H₀ E) x)
  (ha:PA (bY (CXE P w) P w K mg base N qual scope f cdv A outer s₀ H₀ E) (e::es) t)
  (hdb:(x == ("__debug__" : Str))=false:=by decide) (he:starEach (e::es) (bY (CXE P w) P w K mg base N qual scope f cdv A outer s₀ H₀ E).env=(false,eval e (bY (CXE P w) P w K mg base N qual scope f cdv A outer s₀ H₀ E).env)::starEach es (bY (CXE P w) P w K mg base N qual scope f cdv A outer s₀ H₀ E).env:=by rfl)
  (hpl:(backTo pos (starEach es (bY (CXE P w) P w K mg base N qual scope f cdv A outer s₀ H₀ E).env)).any (·.1)=false:=by rfl) :
  PE (bY (CXE P w) P w K mg base N qual scope f cdv A outer s₀ H₀ E) (.Call (.Name x p) (e::es) [] pos) (qg sp [] E t):=by
 obtain⟨g,fd,its,hm,hk,hb,_,_,G⟩:=F.ex;exact md G hr hg hm hk hb .nil (vU λ_ _ _ z=>z) ha hdb he hpl
theorem lz{P:Program}{w:World}{X:Cx}:gO (CXE P w) X E0:=λ_ _ _ _ _ _ _ h=>by
 obtain⟨_,_,_,_,_,_,_,_,_,_,_,_,q⟩:=h;exact q.elim
theorem fL{X:Cx}{x:Str}{ps:List Str}{k:Nat}{ds:List V}{sp:Sp}{p pos:Pos}{e:Expr}{es:List Expr}{t:TA}(F:Fx X.prog X.w X.K X.mg X.base x ps k ds sp)(hr:Bv k X.A)(hg:Gl X x)(ha:PA X (e::es) t)
  (hdb:(x == ("__debug__" : Str))=false:=by decide) (he:starEach (e::es) X.env=(false,eval e X.env)::starEach es X.env:=by rfl) (hpl:(backTo pos (starEach es X.env)).any (·.1)=false:=by rfl) :
  PE X (.Call (.Name x p) (e::es) [] pos) (qg sp [] E0 t):=by
 obtain⟨g,fd,its,hm,hk,hb,_,_,G⟩:=F.ex;exact md G hr hg hm hk hb .nil lz ha hdb he hpl
end L2
namespace Sp2
open PySem PySem.Spec L2 Mth Sp1
theorem uw{H:Hp}{x:V}(h:i8 H x=true):∃p a b,x = .ref p/\H p=some (.tup [.int a,.int b])/\Em a b:=by
 unfold i8 at h
 split at h
 ·split at h
  ·rename_i p _ xs e
   unfold kD at h
   split at h
   ·rename_i a b
    unfold lowB at h;rw[Bool.and_eq_true,decide_eq_true_eq,decide_eq_true_eq]at h;exact⟨p,a,b,rfl,e,h.1,h.2⟩
   ·cases h
  ·cases h
 ·cases h
theorem ur{H:Hp}{p:Addr}{a b:Int}(e:H p=some (.tup [.int a,.int b])):i8 H (.ref p)=lowB a b:=by
 simp only[i8,e,kD]
theorem xu{a b:Int}(h:Em a b):lowB a b=true:=by
 unfold lowB;rw[decide_eq_true h.pos,decide_eq_true h.one];rfl
inductive ED (vs:List V) (H:Hp) (Q:VK) (x_3:XK):Prop
 | mk:∀(p:Addr) (xs:List V),(vs = [.ref p])->(H p=some (.lst xs))->(Q (.int ((xs.length:Int) - 1)) H)->ED vs H Q x_3
structure LineAt(H:Hp)(l:Addr)(qs:List (Addr×Int×Int)):Prop where
 lst:H l=some (.lst (qs.map λq=>V.ref q.1))
 crn:∀q∈qs,H q.1=some (.tup [.int q.2.1,.int q.2.2])/\ax q.2.1<=50/\ax q.2.2<=50
theorem LineAt.mono{H H':Hp}{l:Addr}{qs:List (Addr×Int×Int)}(L:LineAt H l qs)(s:Same H H'):LineAt H' l qs:=⟨s _ _ L.lst,λq h=>⟨s _ _ (L.crn q h).1,(L.crn q h).2⟩⟩
theorem xr{n:Int}(h0:-1000<=n)(h1:n<=1000):-(2^64)<n/\n<2^64:=by
 have e:(2:Int)^64=18446744073709551616:=by decide
 rw[e];omega
theorem zc{ns:List Int}{k:Int}(j:Nat)(e:k=(j:Int))(h:j<ns.length):atI (ns.map V.int) k=some (.int ns[j]):=by
 subst e;exact dP (by rw[List.getElem?_map,List.getElem?_eq_getElem h];rfl)
theorem bT{n:Int}(h0:-1000<=n)(h1:n<=1000):ax n<=10:=by
 refine du (n:=10) ?_;show _<1024;omega
theorem Ab{a b k:Int}(hb:0<b)(h:k*b<=a):k<=a / b:=(Int.le_ediv_iff_mul_le hb).mpr h
end Sp2
namespace L2
open PySem PySem.Spec PyProof.Rows
noncomputable abbrev Cx.blk(X:Cx)(N':List Str)(scope:Scope)(cl:List (Str×Addr))(fp:List Addr)(s₀:Shared)(H₀:Hp):Cx :=
 { X with N:=N',s₀:=s₀,H₀:=H₀,env:=compEnvC scope cl s₀.heap.objs.size X.env,outer:=X.stack,ex:=fp,fn:=λ_=>false,pn:=[],xe:=λ_ _=>False }
theorem cL{α:Type}{y:Str}{c:α}:∀{l:List (Str×α)},l.lookup y=some c->(y,c)∈l
 | [],h=>by simp at h
 | (n,d)::r,h=>by
  rw[List.lookup_cons]at h;cases e:y == n with
  | true =>
   rw[e]at h;cases h;rw[beq_iff_eq.mp e];exact List.mem_cons_self
  | false =>
   rw[e]at h;exact List.mem_cons_of_mem _ (cL h)
structure DR(X:Cx)(scope:Scope)(cl:List (Str×Addr))(x:Str)(fv:List (Str×Nat)):Prop where
 clos:closureFor scope X.env=pure cl
 kind:scope.kind = .function
 cell:∀y∈scope.names,y.2≠.cell
 names:∀y∈scope.names,y.2 = .local->scope.names.lookup y.1=some .local
 own:scope.names.lookup x=some .local
 cells:∀p∈cl,X.env.cells.lookup p.1=some p.2
 has:((relabel scope X.env).names.all λq=>!(q.2 == .cell || q.2 == .free) || (cl.lookup q.1).isSome)=true
 nd:(x::fv.map (·.1)).Nodup
 slot:∀p∈fv,X.N[p.2]? = some p.1/\X.env.kindOf p.1=some .cell/\Vis X.env.scope p.1/\(cl.lookup p.1).isSome=true/\((relabel scope X.env).names.lookup p.1=some .cell)
 stk:X.stack=X.env::X.outer/\X.env.frame=some X.env.locals
 noex:X.ex = []
noncomputable def fvs(fv:List (Str×Nat))(σ:St):St:=fv.map λp=>(σ[p.2]?).join
noncomputable def zD(wi:TI)(fv:List (Str×Nat))(te:TE):TE:=λσ H Q=>wi σ H λJ H1=>∀p,H1 p=none->∃W:Nat->Nat->List V->Hp->Prop,(∃m,W 0 m [] (upd H1 p (.lst [])))/\∀i m acc H2,W i m acc H2 ->
 H2 p=some (.lst acc)/\acc.length<sizeLine/\((J.stop i H2/\Q (.ref p) H2)\/(J.go i H2/\∀x H3,J.yld i H2 x H3->te (some x::fvs fv σ) H3 λy H4=>H4 p=some (.lst acc)/\∃m',m'<m/\W (i+1) m' (acc++[y]) (upd H4 p (.lst (acc++[y])))))
section
variable {X:Cx} {scope:Scope} {cl:List (Str×Addr)} {x:Str} {fv:List (Str×Nat)} {elt iter:Expr} {px pos:Pos} {te:TE}
theorem y9{pins:List (Addr×Obj)}{σ:St}{H:Hp}{s:Shared}{fp:List Addr}(C:DR X scope cl x fv)(I:AU X pins σ H s)(hf:∀b∈fp,fH X pins H b)(ho:∀b∈fp,b<s.heap.objs.size):(X.blk (x::fv.map (·.1)) scope cl fp s H).Ok:=by
 have hcl:∀y c,cl.lookup y=some c->X.env.cells.lookup y=some c:=λy c h=>C.cells _ (cL h);have old:∀b∈fp,X.s₀.heap.objs.size<=b:=λb hb=>by
  rcases(hf b hb).2.2.2.1 with z|z
  ·rw[C.noex]at z
   cases z
  ·exact z
 refine⟨I.ok.mod,by show(relabel scope X.env).kind=_;exact C.kind,I.ok.glob,I.ok.blt,Nat.le_refl _,λy z c h1 h2=>I.ok.inj y z c (hcl y c h1) (hcl z c h2),λy hy=>?_,(λy c h=>by cases h),I.ok.hd,I.ok.frames,.inl rfl,λb hb=>?_,λb o e=>I.bs b o e,Nat.le_trans I.ok.bsz I.sz,λb o e hb=>?_,λb hb hm=>?_,I.stack,I.stkFree⟩
 ·have q:=C.has
  rw[List.all_eq_true]at q;have hm:∃k,(y,k)∈(relabel scope X.env).names/\(k = .cell\/k = .free):=by
   rcases hy with hy|hy
   ·exact⟨_,cL hy,.inl rfl⟩
   ·exact⟨_,cL hy,.inr rfl⟩
  obtain⟨k,hk,hk2⟩:=hm;have q2:=q _ hk;have q3:(cl.lookup y).isSome=true:=by
   rcases hk2 with rfl|rfl
   ·simpa using q2
   ·simpa using q2
  exact Option.isSome_iff_exists.mp q3
 ·obtain⟨f0,f1,f2,f3,f4,f5⟩:=hf b hb
  refine⟨?_,λy c h=>f4 y c (hcl y c h)⟩;exact Nat.ne_of_lt (ho b hb)
 ·have z:=Heap.lt_size e
  have z2:=old b hb;exact absurd (Nat.lt_of_lt_of_le z (Nat.le_trans I.ok.bsz z2)) (Nat.lt_irrefl _)
 ·obtain⟨f0,f1,f2,f3,f4,f5⟩:=hf b hb
  rcases List.mem_cons.mp (I.stkSub b hm) with z|z
  ·exact f1 z
  ·exact f2 z
theorem wQ{pins:List (Addr×Obj)}{σ:St}{H:Hp}{s s4:Shared}{fp:List Addr}(C:DR X scope cl x fv)(I:AU X pins σ H s)(hf:∀b∈fp,fH X pins H b)(ho:∀b∈fp,b<s.heap.objs.size)
  (hs:s4.os=s.os/\s4.gens=s.gens) (ns:s4.heap.Ns s.heap.objs.size λ_=>none) (kp:∀b o,s.heap.get? b=some o->s4.heap.get? b=some o) :
  AU (X.blk (x::fv.map (·.1)) scope cl fp s H) [] (none::fvs fv σ) H s4:=by
 have hcl:∀y c,cl.lookup y=some c->X.env.cells.lookup y=some c:=λy c h=>C.cells _ (cL h);refine⟨y9 C I hf ho,hs.1,by rw[hs.2];exact I.bare,Un.kept kp,⟨_,ns,λi y v e1 e2 e3=>?_⟩,λy c h=>?_,I.hok.fresh (Nat.le_refl _),λy c h=>I.freeC y c (hcl y c h),λp hp=>by simp at hp,I.hok.kept kp,by simp[fvs]⟩
 ·cases i with
  | zero=>simp at e2
  | succ j =>
   have e1':(fv.map (·.1))[j]? = some y:=by simpa using e1
   have e2':(fvs fv σ)[j]? = some (some v):=by simpa using e2
   rw[List.getElem?_map]at e1';unfold fvs at e2';rw[List.getElem?_map]at e2';cases hq:fv[j]? with
   | none =>
    rw[hq]at e1';cases e1'
   | some q =>
    rw[hq]at e1' e2';have ey:q.1=y:=Option.some.inj e1';have ev:(σ[q.2]?).join=some v:=Option.some.inj e2';have hm:q∈fv:=List.mem_of_getElem? hq;obtain⟨s1,s2,s3,s4',s5⟩:=C.slot q hm;have ev2:σ[q.2]? = some (some v):=by
     cases hz:σ[q.2]? with
     | none =>
      rw[hz]at ev;cases ev
     | some z =>
      rw[hz]at ev;have ev':z=some v:=ev;rw[ev']
    obtain⟨m,hn,hl⟩:=I.loc;obtain⟨u,r,lk⟩:=hl q.2 q.1 v s1 ev2 s3;obtain⟨c,hc⟩:=Option.isSome_iff_exists.mp s4';refine⟨u,r,.inr ⟨.inl (by rw[<- ey];exact s5),c,by rw[<- ey];exact hc,?_⟩⟩;rcases lk with⟨k,_⟩|⟨_,c',hc',z⟩
    ·rw[s2]at k
     cases k
    ·rw[hcl _ _ hc]at hc'
     cases hc';obtain⟨o,ho',hd⟩:=z;exact⟨o,kp _ _ ho',hd⟩
 ·obtain⟨v,o,ho',hd⟩:=I.cell y c (hcl y c h)
  exact⟨v,o,kp _ _ ho',hd⟩
theorem wO{pins:List (Addr×Obj)}{σ:St}{H2:Hp}{s2:Shared}{it:Addr}{fp:List Addr}{tn:Nat->Heap->Prop}{J:It}{RR:Value->Addr->Result->Shared->Prop}{E:Value->Shared->Prop}{Qf:V->Hp->Prop}
  (hcalm:X.calm=true) (C:DR X scope cl x fv) (I2:AU X pins σ H2 s2) (T:El X.prog X.w X.K (.Name x px) J fp it tn) (st:tn 0 s2.heap) (f2:∀b∈fp,fH X pins H2 b)
  (rd:∀p,H2 p=none->∃W:Nat->Nat->List V->Hp->Prop,(∃m,W 0 m [] (upd H2 p (.lst [])))/\∀i m acc H2,W i m acc H2 ->
   H2 p=some (.lst acc)/\acc.length<sizeLine/\((J.stop i H2/\Qf (.ref p) H2)\/(J.go i H2/\∀x H3,J.yld i H2 x H3->te (some x::fvs fv σ) H3 λy H4=>H4 p=some (.lst acc)/\∃m',m'<m/\W (i+1) m' (acc++[y]) (upd H4 p (.lst (acc++[y]))))))
  (he:∀(s₀:Shared) (H₀:Hp),PE (X.blk (x::fv.map (·.1)) scope cl fp s₀ H₀) elt te)
  (hRR:∀(p C:Addr) (H':Hp) (s':Shared),(∃m,s'.heap.Ns C m)->C≠X.env.locals->H' C=none->X.s₀.heap.objs.size<=C->(∀y c,X.env.cells.lookup y=some c->c≠C)->(∀q∈X.pn++pins,q.1≠C)->AU X pins σ H' s'->Qf (.ref p) H'->RR (.ref p) C (.ok .next) s') :
  wpAny (model X.prog X.w) X.A (newList []) (λacc s₃=>wpAny (model X.prog X.w) X.A (newFunctionEnv scope X.env.globals cl [] X.env.qual none .none (some X.env)) (λcenv s₄ =>
   codeAny (model X.prog X.w) X.A (.compStart (.ListComp elt [⟨.Name x px,iter,[],0⟩] scope pos) 0 (.ref it) acc { cenv with scope:=relabel scope X.env }) (RR acc cenv.locals) s₄) E s₃) E s2:=by
 refine wpAny_newObj_type ?_;have hfresh:=I2.fresh;have I3:AU X pins σ (upd H2 s2.heap.objs.size (.lst [])) { s2 with heap:=s2.heap.push { cls:=.type "list",data:=.seq ([]:List Value).toArray } } :=
  I2.laid (t':=s2.toks) (λb u q=>Heap.get?_push_of_some _ q) (Nat.le_refl _) ⟨Nat.zero_le _,[],0,.nil,Heap.get?_push_size _ rfl⟩
 generalize hs3:({ s2 with heap:=s2.heap.push { cls:=.type "list",data:=.seq ([]:List Value).toArray } }:Shared)=s3 at I3 ⊢;have hp3:s2.heap.objs.size<s3.heap.objs.size:=by rw[<- hs3];exact Nat.lt_of_lt_of_le (Nat.lt_succ_self _) (Nat.le_of_eq (Heap.size_push _ _).symm)
 have k23:∀b o,s2.heap.get? b=some o->s3.heap.get? b=some o:=λb o e=>by rw[<- hs3];exact Heap.get?_push_of_some _ e
 have fpo:∀b∈fp,b<s2.heap.objs.size:=λb hb=>by
  obtain⟨o,e,_⟩:=T.obj 0 _ st b hb;exact Heap.lt_size e
 have f3:∀b∈fp,fH X pins (upd H2 s2.heap.objs.size (.lst [])) b:=λb hb=>⟨by rw[aN (Nat.ne_of_lt (fpo b hb))];exact(f2 b hb).1,(f2 b hb).2⟩;refine wpAny_newFunctionEnv C.cell (by intro y hy;simp at hy) (λh1 hns1 hsb1=>?_) C.kind;have kp:∀b o,s3.heap.get? b=some o->h1.get? b=some o:=λb o e=>(hsb1.2 b (Nat.ne_of_lt (Heap.lt_size e))).trans (Heap.get?_push_of_some _ e);have I4:=wQ (s4:={ s3 with heap:=h1,toks:=s3.toks+([]:List (Str×Value)).length }) C I3 f3 (λb hb=>Nat.lt_trans (fpo b hb) hp3) ⟨rfl,rfl⟩ hns1 kp;have st4:tn 0 h1:=T.keep 0 _ _ st λb _ o e=>kp b o (k23 b o e);obtain⟨W,⟨m0,w0⟩,step⟩:=rd _ hfresh;have loop:codeAny (model X.prog X.w) X.A (.compLoop (.ListComp elt [⟨.Name x px,iter,[],0⟩] scope pos) 0 (.ref it) (.ref s2.heap.objs.size) (compEnvC scope cl s3.heap.objs.size X.env)) (RR (.ref s2.heap.objs.size) s3.heap.objs.size)
   { s3 with heap:=h1,toks:=s3.toks+([]:List (Str×Value)).length }:=by
  refine codeAny_compLoop_list (λn s=>∃i acc σv H',AU (X.blk (x::fv.map (·.1)) scope cl fp s3 (upd H2 s2.heap.objs.size (.lst []))) [] (σv::fvs fv σ) H' s/\tn i s.heap/\(∀b∈fp,H' b=none)/\W i n acc H') ?_ m0 ⟨0,[],none,_,I4,st4,λb hb=>(f3 b hb).1,w0⟩;rintro n s ⟨i,acc,σv,H',I',st',fr',w'⟩;obtain⟨hp,hlen,alt⟩:=step i n acc H' w';have fpk:∀{H5:Hp},(∀b∈fp,H5 b=none)->∀b∈fp,fH (X.blk (x::fv.map (·.1)) scope cl fp s3 (upd H2 s2.heap.objs.size (.lst []))) [] H5 b:=λh5 b hb =>
   ⟨h5 b hb,(I'.ok.exf b hb).1,I'.ok.exfs b hb,.inl hb,λy c e=>(I'.ok.exf b hb).2 y c e,λq hq=>by simp at hq⟩
  rcases alt with⟨stop,qf⟩|⟨go,turn⟩
  ·refine wpAny_mono (T.done (X.blk (x::fv.map (·.1)) scope cl fp s3 (upd H2 s2.heap.objs.size (.lst []))) rfl rfl rfl hcalm i [] s _ H' (λ_ _=>False) I' (fpk fr') st' stop) (λr s5 ⟨hr,I5⟩=>?_) λ_ _ z=>False.elim z
   subst hr;refine hRR _ _ H' s5 (let ⟨m,hn,_⟩:=I5.loc;⟨m,hn⟩) (Nat.ne_of_gt I3.lt) I5.free I3.sz (λy c e=>?_) (λq hq=>?_) ?_ qf
   ·obtain⟨v,z⟩:=I3.cell y c e
    exact Nat.ne_of_lt z.lt
   ·exact Nat.ne_of_lt (Heap.lt_size (I3.pin q hq).1)
   ·exact I3.call' (s':=s5) (ch:=fp) I5.os I5.base I5.hok I5.bare λb hb=>⟨(f2 b hb).2.2.2.1,(f2 b hb).2.1,(f2 b hb).2.2.2.2.1,(f2 b hb).2.2.2.2.2⟩
  ·refine wpAny_mono (T.item (X.blk (x::fv.map (·.1)) scope cl fp s3 (upd H2 s2.heap.objs.size (.lst []))) rfl rfl rfl hcalm i [] s _ H' (λ_ _=>False) I' (fpk fr') st' go) (λr s5 ⟨u,hr,h5⟩=>?_) λ_ _ z=>False.elim z
   subst hr;have e5:assign (.Name x px) (compEnvC scope cl s3.heap.objs.size X.env) u=(letOwnedTupleGo (.Name x px) (.ref it) u >>= λ_=>assign (.Name x px) (compEnvC scope cl s3.heap.objs.size X.env) u):=by
    rw[show letOwnedTupleGo (.Name x px) (.ref it) u=pure () from rfl];rfl
   show wpAny _ _ (assign (.Name x px) (compEnvC scope cl s3.heap.objs.size X.env) u) _ _ _;rw[e5];refine wpAny_bind (wpAny_mono h5 (λ_ s6 ⟨y,H6,I6,r6,y6,st6,fr6⟩=>?_) λ_ _ z=>False.elim z);have I6':=I6.pinned (fpk fr6) (T.obj _ _ st6);have lx:(relabel scope X.env).names.lookup x=some .local:=lookup_relabel_local C.own;refine wpAny_mono (aO (X:=X.blk (x::fv.map (·.1)) scope cl fp s3 (upd H2 s2.heap.objs.size (.lst []))) (i:=0) C.nd rfl (.inl lx) (.inr lx) _ s6 _ H6 y u (λσ7 H7=>σ7=some y::fvs fv σ/\H7=H6) I6' r6 ⟨rfl,rfl⟩) (λ_ s7 ⟨σ7,H7,I7,e7,e7'⟩=>?_) λ_ _ z=>False.elim z;subst e7 e7';refine wpAny_mono (he s3 _ _ s7 _ _ _ I7 (turn y _ y6)) (λv8 s8 ⟨y8,H8,I8,r8,q8,m',hm',w8⟩=>?_) λ_ _ z=>False.elim z;refine wpAny_mono (iE (X:=X.blk (x::fv.map (·.1)) scope cl fp s3 (upd H2 s2.heap.objs.size (.lst []))) _ s8 _ H8 (.ref s2.heap.objs.size) [y8] (.ref s2.heap.objs.size) [v8] (λ_ H9=>H9=upd H8 s2.heap.objs.size (.lst (acc++[y8]))) I8 rfl (.cons r8 .nil) ⟨_,acc,y8,rfl,rfl,q8,hlen,rfl⟩) (λ_ s9 ⟨_,H9,I9,_,e9⟩=>?_) λ_ _ z=>False.elim z;subst e9;refine⟨m',hm',i+1,acc++[y8],some y,_,I9.unpinned,T.keep _ _ _ st6 λb hb o e=>(I9.pin (b,o) (List.mem_append_right _ (List.mem_append_right _ (dJ hb e)))).1,λb hb=>?_,w8⟩;obtain⟨o,e,d⟩:=T.obj _ _ st6 b hb;exact(I9.pin (b,o) (List.mem_append_right _ (List.mem_append_right _ (dJ hb e)))).2.1
 exact codeAny_compStart_list loop (T.self _ 0 _ _ _ st4 loop)
theorem vS{wi:TI}(hcalm:X.calm=true)(C:DR X scope cl x fv)(hi:PI X (.Name x px) iter wi)(he:∀(fp:List Addr) (s₀:Shared) (H₀:Hp),PE (X.blk (x::fv.map (·.1)) scope cl fp s₀ H₀) elt te)
  (hs:∀v,foldedSetIterable iter X.env v=pure v:=by intro _;rfl):PE X (.ListComp elt [⟨.Name x px,iter,[],0⟩] scope pos) (zD wi fv te):=by
 intro pins s σ H Q I h;rw[eval_ListComp];refine wpAny_comprehension_free (use:=none) rfl hs C.clos C.kind C.names (wpAny_mono (hi pins s σ H _ I h) (λv s1 h1=>wpAny_mono h1 (λitv s2 h2=>?_) λ_ _ z=>z) λ_ _ z=>z);obtain⟨it,fp,tn,J,H2,rfl,I2,T,st2,f2,rd⟩:=h2;refine wO (Qf:=Q) hcalm C I2 T st2 f2 rd (he fp) λp D H' s' ns nL nH n0 nC nP I8 q=>?_;obtain⟨m,hn⟩:=ns;exact⟨m,hn,λh'' sb=>⟨.ref p,H',I8.turned (t':=s'.toks) (λb o hb e=>(sb.2 b hb).trans e) nH nL (.inr n0) nC nP,rfl,q⟩⟩
end
theorem kf{n:Nat}{lo:Int}{fv:List (Str×Nat)}{te:TE}{σ:St}{H1:Hp}{Qp:Hp->Prop}{l:Addr}(Pv:Nat->List V->Hp->Prop)(h0:Pv 0 [] (upd H1 l (.lst [])))(hp:∀i acc H2,i<=n->Pv i acc H2->H2 l=some (.lst acc)/\acc.length<sizeLine)
  (hs:∀i acc H2 (K:VK),i<n->Pv i acc H2->(∀y H4,H4 l=some (.lst acc)->Pv (i+1) (acc++[y]) (upd H4 l (.lst (acc++[y])))->K y H4)->te (some (.int (lo+i))::fvs fv σ) H2 K) (hd:∀acc H2,Pv n acc H2->Qp H2) :
  ∃W:Nat->Nat->List V->Hp->Prop,(∃m,W 0 m [] (upd H1 l (.lst [])))/\∀i m acc H2,W i m acc H2 ->
   H2 l=some (.lst acc)/\acc.length<sizeLine/\(((Itr lo n).stop i H2/\Qp H2)\/((Itr lo n).go i H2/\∀x H3,(Itr lo n).yld i H2 x H3->te (some x::fvs fv σ) H3 λy H4=>H4 l=some (.lst acc)/\∃m',m'<m/\W (i+1) m' (acc++[y]) (upd H4 l (.lst (acc++[y]))))):=by
 refine⟨λi m acc H2=>m=n - i/\i<=n/\Pv i acc H2,⟨n,by simp,Nat.zero_le _,h0⟩,?_⟩;rintro i m acc H2 ⟨rfl,hi,p⟩;refine⟨(hp i acc H2 hi p).1,(hp i acc H2 hi p).2,?_⟩
 by_cases hlt:i<n
 ·refine .inr ⟨hlt,λx H3 y=>?_⟩
  obtain⟨e1,e2⟩:=y;subst e1 e2;exact hs i acc _ _ hlt p λy H4 z1 z2=>⟨z1,n - (i+1),by omega,rfl,hlt,z2⟩
 ·have e:i=n:=by omega
  subst e;exact .inl ⟨Nat.le_refl _,hd acc H2 p⟩
noncomputable def tD(s:Stmt):Scope:=match s with
 | .Assign _ (.ListComp _ _ sc _) _=>sc
 | _=>{ kind:=.function,names:=[],isGenerator:=false,isCoroutine:=false }
theorem fm{X:Cx}{K:W.Frag}(h:X.K=K):IxR X (HH K):=h▸ar
theorem sI{K:W.Frag}{a:Addr}{xs:List V}{fv:List (Str×Nat)}{te:TE}{σ:St}{H1:Hp}{Qp:Hp->Prop}{l:Addr}(Pv:Nat->List V->Hp->Prop)(h0:Pv 0 [] (upd H1 l (.lst [])))(hp:∀i acc H2,i<=xs.length->Pv i acc H2->SqL K H2 a xs/\H2 l=some (.lst acc)/\acc.length<sizeLine)
  (hs:∀i x acc H2 (Kc:VK),xs[i]? = some x->Pv i acc H2->(∀y H4,H4 l=some (.lst acc)->Pv (i+1) (acc++[y]) (upd H4 l (.lst (acc++[y])))->Kc y H4)->te (some x::fvs fv σ) H2 Kc) (hd:∀acc H2,Pv xs.length acc H2->Qp H2) :
  ∃W:Nat->Nat->List V->Hp->Prop,(∃m,W 0 m [] (upd H1 l (.lst [])))/\∀i m acc H2,W i m acc H2 ->
   H2 l=some (.lst acc)/\acc.length<sizeLine/\(((Itl K a).stop i H2/\Qp H2)\/((Itl K a).go i H2/\∀x H3,(Itl K a).yld i H2 x H3->te (some x::fvs fv σ) H3 λy H4=>H4 l=some (.lst acc)/\∃m',m'<m/\W (i+1) m' (acc++[y]) (upd H4 l (.lst (acc++[y]))))):=by
 refine⟨λi m acc H2=>m=xs.length - i/\i<=xs.length/\Pv i acc H2,⟨xs.length,by simp,Nat.zero_le _,h0⟩,?_⟩;rintro i m acc H2 ⟨rfl,hi,p⟩;obtain⟨q1,q2,q3⟩:=hp i acc H2 hi p;refine⟨q2,q3,?_⟩
 by_cases hlt:i<xs.length
 ·refine .inr ⟨⟨xs,xs[i],q1,List.getElem?_eq_getElem hlt⟩,λx H3 y=>?_⟩
  obtain⟨e1,e2⟩:=y;subst e1;exact hs i x acc _ _ (e2 xs q1) p λy H4 z1 z2=>⟨z1,xs.length - (i+1),by omega,rfl,hlt,z2⟩
 ·have e:i=xs.length:=by omega
  subst e;exact .inl ⟨⟨xs,q1,Nat.le_refl _⟩,hd acc H2 p⟩
end L2
namespace Sp3
open PySem PySem.Spec L2 Mth Sp1 Sp2
noncomputable abbrev Crn:=List (Addr×Int×Int)
end Sp3
namespace L2
open PySem PySem.Spec PyProof.Rows
section
variable {X:Cx} {pins:List (Addr×Obj)} {σ:St} {H:Hp} {s:Shared}
theorem AU.track{a:Addr}{o:HO}(I:AU X pins σ H s)(hn:H a=none)(h0:X.s₀.heap.get? a=none)(hl:a≠X.env.locals)(hc:∀x c,X.env.cells.lookup x=some c->c≠a)(hp:∀p∈X.pn++pins,p.1≠a)
  (ho:bV X.prog X.w (upd H a o) s.heap a o):AU X pins σ (upd H a o) s where
 ok:=I.ok
 os:=I.os
 bare:=I.bare
 base:={
  keep:=I.base.keep
  slot:=I.base.slot
  free:=λb ob e n hx=>by
   rw[aN (λz=>by subst z;rw[h0]at e;cases e)];exact I.base.free b ob e n hx
  there:=I.base.there
  tups:=λb xs q=>by
   have z:=I.base.tups b xs q;rw[aN (aU z hn)];exact z
  frzs:=λb ob u q=>by
   have z:=I.base.frzs b ob u q;rw[aN (aU z hn)];exact z
  tbls:=λb ps q=>by
   obtain⟨m,z⟩:=I.base.tbls b ps q;exact⟨m,by rw[aN (aU z hn)];exact z⟩ }
 loc:=I.loc
 cell:=I.cell
 free:=by rw[aN (Ne.symm hl)];exact I.free
 freeC:=λx c e=>by rw[aN (hc x c e)];exact I.freeC x c e
 pin:=λp m=>by
  obtain⟨p1,p2,p3⟩:=I.pin p m;exact⟨p1,by rw[aN (hp p m)];exact p2,p3⟩
 hok:=λb u q=>by
  by_cases hb:b=a
  ·subst hb
   rw[upd_same]at q;cases q;exact ho
  ·rw[aN hb]at q
   exact(I.hok b u q).stay (λ_ _ _ r=>r) (λc r=>by rw[aN (aU r hn)];exact r) λc xs r=>by rw[aN (aU r hn)];exact r
 len:=I.len
end
end L2
namespace Sp8
open PySem PySem.Spec L2 Mth Sp1 Sp2 Sp3
end Sp8
namespace L2
open PySem PySem.Spec PyProof.Rows
theorem SqT.mod{K:W.Frag}{H:Hp}{a:Addr}{oc:Value}{od:Option Addr}{its:Array Value}{n:Nat}{sl:Array (Option Value)}{xs:List V}(hk:K.lookup a=some ⟨oc,od,.seq its n,sl⟩)(hc:oc = .type "tuple")(hz:its.size<=100)(r:aV xs its.toList):SqT K H a xs :=
 .inr ⟨_,its,n,hk,hc,rfl,Nat.le_of_lt (aZ (by omega)),r⟩
end L2
namespace Sp24
open PySem PySem.Spec L2 Mth Sp1 Sp2 Sp3 Sp8
noncomputable def sg(n:Int):Int:=if n>0 then 1 else if n<0 then -1 else 0
noncomputable def ssq(n:Int):Int:=n*(if n<0 then -n else n)
noncomputable def swr(w p u:Int):Int:=sg (ssq w+ssq p*u)
noncomputable def cI(w p u s b:Int):Int:=if sg w*sg (ssq p*u+ssq s*b)>=0 then sg (sg w+sg (ssq p*u+ssq s*b)) else sg w*swr (w*w - p*p*u - s*s*b) (-2*p*s) (u*b)
noncomputable def ro(a0 a1 a2 a3 b0 b1 b2 b3:Int):Int:=cI (a0*b3 - b0*a3) (a1*b3) a2 (-b1*a3) b2
theorem jH(n:Int):-1<=sg n/\sg n<=1:=by
 unfold sg
 split
 ·omega
 ·split <;> omega
theorem jn(n:Int):ax (sg n)<=10:=bT (by have:=jH n;omega) (by have:=jH n;omega)
theorem jD{n:Int}{k:Nat}(h:ax n<=k):ax (ssq n)<=k+k:=bits_mul h (bits_abs h)
inductive Dk (vs:List V) (H:Hp) (Q:VK) (x_3:XK):Prop
 | mk:∀n:Int,(vs = [.int n])->(Q (.int (sg n)) H)->Dk vs H Q x_3
structure Rt(K:W.Frag)(H:Hp)(p:Addr)(a0 a1 a2 a3:Int):Prop where
 at_:SqT K H p [.int a0,.int a1,.int a2,.int a3]
 b0:ax a0<=450
 b1:ax a1<=450
 b2:ax a2<=1000
 b3:ax a3<=450
inductive Fi (K:W.Frag) (vs:List V) (H:Hp) (Q:VK) (x_3:XK):Prop
 | mk:∀(p q:Addr) (a0 a1 a2 a3 b0 b1 b2 b3:Int),(vs = [.ref p,.ref q])->(Rt K H p a0 a1 a2 a3)->(Rt K H q b0 b1 b2 b3)->(Q (.int (ro a0 a1 a2 a3 b0 b1 b2 b3)) H)->Fi K vs H Q x_3
structure Cn(H:Hp)(p:Addr)(x y:Int):Prop where
 at_:H p=some (.tup [.int x,.int y])
 bx:ax x<=50
 by_:ax y<=50
theorem Cn.mono{H H':Hp}{p:Addr}{x y:Int}(c:Cn H p x y)(s:Same H H'):Cn H' p x y:=⟨s _ _ c.at_,c.bx,c.by_⟩
structure Sq(H:Hp)(p:Addr)(a b:Int):Prop where
 at_:H p=some (.tup [.int a,.int b])
 ba:ax a<=230
 bb:ax b<=130
theorem Sq.mono{H H':Hp}{p:Addr}{x y:Int}(c:Sq H p x y)(s:Same H H'):Sq H' p x y:=⟨s _ _ c.at_,c.ba,c.bb⟩
noncomputable def lo(x y x' y' a b:Int):Int:=sg (a - ((x' - x)*(x' - x)+(y' - y)*(y' - y))*b)
inductive GM (vs:List V) (H:Hp) (Q:VK) (x_3:XK):Prop
 | mk:∀(p q r:Addr) (x y x' y' a b:Int),(vs = [.ref p,.ref q,.ref r])->(Cn H p x y)->(Cn H q x' y')->(Sq H r a b)->(Q (.int (lo x y x' y' a b)) H)->GM vs H Q x_3
noncomputable def cM(bx by_ ex ey:Int):Int:=(ex - bx)*(ex - bx)+(ey - by_)*(ey - by_)
noncomputable def rAl(cx cy bx by_ ex ey:Int):Int:=(cx - bx)*(ex - bx)+(cy - by_)*(ey - by_)
noncomputable def rBe(cx cy bx by_ ex ey:Int):Int:=(cx - bx)*(ey - by_) - (cy - by_)*(ex - bx)
noncomputable def rUn(cx cy bx by_ ex ey a b:Int):Int:=b*(a*cM bx by_ ex ey - b*rBe cx cy bx by_ ex ey*rBe cx cy bx by_ ex ey)
inductive EA (vs:List V) (H:Hp) (Q:VK) (x_3:XK):Prop
 | mk:∀(pc pb pe ps:Addr) (cx cy bx by_ ex ey a b:Int),(vs = [.ref pc,.ref pb,.ref pe,.ref ps])->(Cn H pc cx cy)->(Cn H pb bx by_)->(Cn H pe ex ey)->(Sq H ps a b)->(∀r H',Same H H'->H' r=some (.tup [.int (rAl cx cy bx by_ ex ey*b),.int (rUn cx cy bx by_ ex ey a b),.int (cM bx by_ ex ey*b)])->Q (.ref r) H')->EA vs H Q x_3
noncomputable def pwN(cx cy bx by_ ex ey a b room:Int):Bool :=
 if [bx,by_] = [ex,ey] then !decide (lo cx cy bx by_ a b>=room)
 else decide (sg (rUn cx cy bx by_ ex ey a b)<room) || (decide (ro 1 0 0 1 (rAl cx cy bx by_ ex ey*b) (-1) (rUn cx cy bx by_ ex ey a b) (cM bx by_ ex ey*b)<room) ||
  decide (ro (rAl cx cy bx by_ ex ey*b) 1 (rUn cx cy bx by_ ex ey a b) (cM bx by_ ex ey*b) 0 0 0 1<room))
noncomputable def sqV(H:Hp):V->Bool
 | .ref p=>match H p with
  | some (.tup [.int a,.int b])=>lowB a b && !decide (a<0)
  | _=>false
 | _=>false
inductive EC (C:Addr) (vs:List V) (H:Hp) (Q:VK) (E:XK):Prop
 | mk:∀x,(vs = [x])->(E6 H x)->((sqV H x=false->E (.ref C) none H))->((sqV H x=true->Q .non H))->EC C vs H Q E
theorem vB{H:Hp}{x:V}(h:i8 H x=false):sqV H x=false:=by
 unfold sqV
 split
 ·split
  ·rename_i p _ a b e
   rw[ur e]at h;rw[h,Bool.false_and]
  ·rfl
 ·rfl
theorem vA{H:Hp}{p:Addr}{a b:Int}(e:H p=some (.tup [.int a,.int b])):sqV H (.ref p)=(lowB a b && !decide (a<0)):=by
 simp only[sqV,e]
end Sp24
namespace Sp7
open PySem PySem.Spec L2 Mth Sp1 Sp2 Sp3
noncomputable def iH:Int:=999999999999
noncomputable def Sm(x:Int):Prop:=-iH<=x/\x<=iH
structure LineM(H:Hp)(l:Addr)(qs:Crn):Prop where
 lst:H l=some (.lst (qs.map λq=>V.ref q.1))
 crn:∀q∈qs,H q.1=some (.tup [.int q.2.1,.int q.2.2])/\Sm q.2.1/\Sm q.2.2
theorem LineM.mono{H H':Hp}{l:Addr}{qs:Crn}(L:LineM H l qs)(s:Same H H'):LineM H' l qs:=⟨s _ _ L.lst,λq h=>⟨s _ _ (L.crn q h).1,(L.crn q h).2⟩⟩
noncomputable def retScope(s:Stmt):Scope:=match s with
 | .Return (some (.Call _ [.ListComp _ _ sc _] _ _)) _=>sc
 | .Return (some (.ListComp _ _ sc _)) _=>sc
 | _=>{ kind:=.function,names:=[],isGenerator:=false,isCoroutine:=false }
end Sp7
namespace L2
open PySem PySem.Spec PyProof.Rows
theorem Same.at{H H':Hp}{b:Addr}{o:HO}(s:Same H H')(e:H b=some o):H' b=some o:=s b o e
theorem Same.rfl'{H:Hp}:Same H H:=λ_ _ e=>e
theorem alloc{H:Hp}{o:HO}{Q:Addr->Hp->Prop}(h:∀p H1,Same H H1->H1 p=some o->Q p H1):∀p,H p=none->Q p (upd H p o):=λp hp=>h p _ (Same.new hp) upd_same
theorem bits_add2{i j:Int}{m n:Nat}(hi:ax i<=m)(hj:ax j<=n):ax (i+j)<=max m n+1:=bU (ap hi (Nat.le_max_left _ _)) (ap hj (Nat.le_max_right _ _))
theorem bP{p:Prop}[Decidable p](h:decide p=true):p:=of_decide_eq_true h
theorem bZ{p:Prop}[Decidable p](h:decide p=false):¬p:=of_decide_eq_false h
theorem CM.of{i j:Int}{m n:Nat}(hi:ax i<=m)(hj:ax j<=n)(h:m<=1000000/\n<=1000000):CM i j:=CM.b hi hj (by have:(2:Nat)^20=1048576:=(by decide);omega) (by have:(2:Nat)^20=1048576:=(by decide);omega)
theorem bits_of_le{i:Int}{m n:Nat}(h:ax i<=m)(hm:m<=n):ax i<=n:=Nat.le_trans h hm
noncomputable def SameT(H H':Hp):Prop:=∀b xs,H b=some (.tup xs)->H' b=some (.tup xs)
theorem Same.t{H H':Hp}(s:Same H H'):SameT H H':=λb xs e=>s b _ e
theorem SameT.refl{H:Hp}:SameT H H:=λ_ _ e=>e
theorem SameT.trans{H H1 H2:Hp}(a:SameT H H1)(b:SameT H1 H2):SameT H H2:=λc xs e=>b c xs (a c xs e)
theorem SameT.upd{H:Hp}{l:Addr}{xs ys:List V}(hl:H l=some (.lst xs)):SameT H (upd H l (.lst ys)):=λb zs e=>by
 rw[aN (uc e hl (by intro z;cases z))];exact e
theorem Same.upd{H0 H:Hp}{l:Addr}{o:HO}(s:Same H0 H)(hl:H0 l=none):Same H0 (upd H l o):=λb u e=>by
 rw[aN (aU e hl)];exact s b u e
noncomputable def mV(J:It)(fv:List (Str×Nat))(te:TE)(σ:St)(H1:Hp)(Q:VK):Prop:=∀p,H1 p=none->∃W:Nat->Nat->List V->Hp->Prop,(∃m,W 0 m [] (upd H1 p (.lst [])))/\∀i m acc H2,W i m acc H2 ->
 H2 p=some (.lst acc)/\acc.length<sizeLine/\((J.stop i H2/\Q (.ref p) H2)\/(J.go i H2/\∀x H3,J.yld i H2 x H3->te (some x::fvs fv σ) H3 λy H4=>H4 p=some (.lst acc)/\∃m',m'<m/\W (i+1) m' (acc++[y]) (upd H4 p (.lst (acc++[y])))))
noncomputable def xN(wi:TI)(fv:List (Str×Nat))(te:TE):TE:=λσ H Q=>wi σ H λJ H1=>mV J fv te σ H1 Q
section
variable {X:Cx} {scope:Scope} {cl:List (Str×Addr)} {x:Str} {fv:List (Str×Nat)} {elt iter:Expr} {px pos:Pos} {te:TE}
theorem jO{wi:TI}(hcalm:X.calm=true)(C:DR X scope cl x fv)(hi:PI X (.Name x px) iter wi)(he:∀(fp:List Addr) (s₀:Shared) (H₀:Hp),PE (X.blk (x::fv.map (·.1)) scope cl fp s₀ H₀) elt te)
  (hs:∀v,foldedSetIterable iter X.env v=pure v:=by intro _;rfl):PE X (.ListComp elt [⟨.Name x px,iter,[],0⟩] scope pos) (xN wi fv te):=vS hcalm C hi he hs
end
theorem yZ{K:W.Frag}{a:Addr}{xs:List V}{fv:List (Str×Nat)}{te:TE}{σ:St}{H1:Hp}{Q:VK}(hL:SqL K H1 a xs)(hlen:xs.length<1000)(R:Nat->V->Hp->Prop)(hR:∀i v H H',SameT H H'->R i v H->R i v H')
  (hs:∀i x H2 (Kc:VK),xs[i]? = some x->Same H1 H2->(∀y H4,Same H2 H4->R i y H4->Kc y H4)->te (some x::fvs fv σ) H2 Kc)
  (hd:∀l ys H',H1 l=none->Same H1 H'->H' l=some (.lst ys)->ys.length=xs.length->(∀i y,ys[i]? = some y->R i y H')->Q (.ref l) H') :
  mV (Itl K a) fv te σ H1 Q:=by
 intro l hl;refine sI (K:=K) (a:=a) (xs:=xs) (l:=l) (fv:=fv) (Qp:=λH2=>Q (.ref l) H2) (λi acc H2=>acc.length=i/\Same H1 H2/\H2 l=some (.lst acc)/\∀j y,acc[j]? = some y->R j y H2)
  ⟨rfl,Same.new hl,upd_same,λj y h=>by simp at h⟩ ?_ ?_ ?_
 ·rintro i acc H2 hi ⟨e1,sm,e3,_⟩
  exact⟨sm.seq hL,e3,aZ (by omega)⟩
 ·rintro i x acc H2 Kc hx ⟨e1,sm,e3,hr⟩ kk
  refine hs i x H2 Kc hx sm λy H4 s4 ry=>kk y H4 (s4 _ _ e3) ⟨by simp[e1],(sm.trans s4).upd hl,upd_same,λj z hz=>?_⟩;have t4:=SameT.upd (ys:=acc++[y]) (s4 _ _ e3);rcases Nat.lt_trichotomy j acc.length with h|h|h
  ·rw[List.getElem?_append_left h]at hz
   exact hR _ _ _ _ (s4.t.trans t4) (hr j z hz)
  ·subst h
   rw[List.getElem?_append_right (Nat.le_refl _),Nat.sub_self]at hz;cases hz;rw[e1];exact hR _ _ _ _ t4 ry
  ·rw[List.getElem?_eq_none (by simp;omega)]at hz
   cases hz
 ·rintro acc H2 ⟨e1,sm,e3,hr⟩
  exact hd l acc H2 hl sm e3 e1 hr
theorem wI{n:Nat}{lo:Int}{fv:List (Str×Nat)}{te:TE}{σ:St}{H1:Hp}{Q:VK}(hlen:n<1000)(R:Nat->V->Hp->Prop)(hR:∀i v H H',SameT H H'->R i v H->R i v H')
  (hs:∀i H2 (Kc:VK),i<n->Same H1 H2->(∀y H4,Same H2 H4->R i y H4->Kc y H4)->te (some (.int (lo+i))::fvs fv σ) H2 Kc)
  (hd:∀l ys H',H1 l=none->Same H1 H'->H' l=some (.lst ys)->ys.length=n->(∀i y,ys[i]? = some y->R i y H')->Q (.ref l) H') :
  mV (Itr lo n) fv te σ H1 Q:=by
 intro l hl;refine kf (n:=n) (lo:=lo) (l:=l) (fv:=fv) (Qp:=λH2=>Q (.ref l) H2) (λi acc H2=>acc.length=i/\Same H1 H2/\H2 l=some (.lst acc)/\∀j y,acc[j]? = some y->R j y H2)
  ⟨rfl,Same.new hl,upd_same,λj y h=>by simp at h⟩ ?_ ?_ ?_
 ·rintro i acc H2 hi ⟨e1,sm,e3,_⟩
  exact⟨e3,aZ (by omega)⟩
 ·rintro i acc H2 Kc hx ⟨e1,sm,e3,hr⟩ kk
  refine hs i H2 Kc hx sm λy H4 s4 ry=>kk y H4 (s4 _ _ e3) ⟨by simp[e1],(sm.trans s4).upd hl,upd_same,λj z hz=>?_⟩;have t4:=SameT.upd (ys:=acc++[y]) (s4 _ _ e3);rcases Nat.lt_trichotomy j acc.length with h|h|h
  ·rw[List.getElem?_append_left h]at hz
   exact hR _ _ _ _ (s4.t.trans t4) (hr j z hz)
  ·subst h
   rw[List.getElem?_append_right (Nat.le_refl _),Nat.sub_self]at hz;cases hz;rw[e1];exact hR _ _ _ _ t4 ry
  ·rw[List.getElem?_eq_none (by simp;omega)]at hz
   cases hz
 ·rintro acc H2 ⟨e1,sm,e3,hr⟩
  exact hd l acc H2 hl sm e3 e1 hr
section
variable {X:Cx} {pos:Pos} {es:List Expr} {ta:TA}
inductive HI (f:List V->HO) (xs:List V) (H1:Hp) (Q:VK):Prop
 | mk (z:xs.length<=sizeLine) (q:∀p H2,Same H1 H2->H2 p=some (f xs)->H1 p=none->Q (.ref p) H2):HI f xs H1 Q
noncomputable def zn(t:TA):TE:=λσ H Q=>t σ H λxs H1=>HI .tup xs H1 Q
noncomputable def zy(t:TA):TE:=λσ H Q=>t σ H λxs H1=>HI .lst xs H1 Q
theorem aG{x1}(h:PA X es ta):PE X (.Tuple es x1 pos) (zn ta):=by
 intro pins s σ H Q I hq;refine wpAny_Tuple_spliced (thn (h pos pins s σ H _ I hq) λus s1 ⟨xs,H1,I1,r,z,q⟩=>⟨by rw[<- r.length];exact z,?_⟩);have hf:H1 s1.heap.objs.size=none:=I1.hok.fresh (Nat.le_refl _);refine⟨.ref s1.heap.objs.size,upd H1 s1.heap.objs.size (.tup xs),I1.laid (t':=s1.toks) (λb u e=>Heap.get?_push_of_some _ e) (Nat.le_refl _) ?_,rfl,q _ _ (Same.new hf) upd_same hf⟩;exact⟨z,us,r,⟨_,Heap.get?_push_size _ rfl,rfl,_,rfl⟩⟩
theorem bz(h:PA X es ta):PE X (.List es pos) (zy ta):=by
 intro pins s σ H Q I hq;refine wpAny_List_spliced (thn (h pos pins s σ H _ I hq) λus s1 ⟨xs,H1,I1,r,z,q⟩=>⟨by rw[<- r.length];exact z,?_⟩);have hf:H1 s1.heap.objs.size=none:=I1.hok.fresh (Nat.le_refl _);refine⟨.ref s1.heap.objs.size,upd H1 s1.heap.objs.size (.lst xs),I1.laid (t':=s1.toks) (λb u e=>Heap.get?_push_of_some _ e) (Nat.le_refl _) ?_,rfl,q _ _ (Same.new hf) upd_same hf⟩;exact⟨z,us,0,r,Heap.get?_push_size _ rfl⟩
inductive GZ (K:W.Frag) (x:V) (lo:Option Int) (hi:Option Int) (H:Hp) (Q:VK):Prop
 | mk:∀a xs,(x = .ref a)->(SqL K H a xs)->(∀p H2,Same H H2->H2 p=some (.lst (kR xs lo hi))->H p=none->Q (.ref p) H2)->GZ K x lo hi H Q
theorem m7:SlR X (GZ X.K):=λpins s σ H x v vl vu lo hi sl Q I rx hs pl pu ⟨a,xs,e,hx,q⟩ =>
 vC pins s σ H x v vl vu lo hi sl Q I rx hs pl pu ⟨a,xs,e,hx,λp hp=>q p _ (Same.new hp) upd_same hp⟩
inductive G4 (x:V) (y:V) (H:Hp) (Q:VK):Prop
 | mk:∀l b xs zs,(x = .ref l)->(y = .ref b)->(H l=some (.lst xs))->(H b=some (.lst zs))->(xs.length+zs.length<=sizeLine)->(∀p H2,Same H H2->H2 p=some (.lst (xs++zs))->H p=none->Q (.ref p) H2)->G4 x y H Q
theorem jq:OpR X (binaryOp .Add) G4:=λpins s σ H x y v u Q I rx ry ⟨l,b,xs,zs,e1,e2,h1,h2,hz,q⟩ =>
 yo pins s σ H x y v u Q I rx ry ⟨l,b,xs,zs,e1,e2,h1,h2,hz,λp hp=>q p _ (Same.new hp) upd_same hp⟩
theorem kS:fX X (.type "list") (λxs H Q=>∃p ys,xs = [.ref p]/\(SqL X.K H p ys\/SqT X.K H p ys)/\∀l H2,Same H H2->H2 l=some (.lst ys)->H l=none->Q (.ref l) H2):=λpins s σ H xs us Q I r ⟨p,ys,e,hq,q⟩ =>
 mQ pins s σ H xs us Q I r ⟨p,ys,e,hq,λl hl=>q l _ (Same.new hl) upd_same hl⟩
structure Fg(H H':Hp)(l:Addr)(xs ys:List V):Prop where
 was:H l=some (.lst xs)
 now:H' l=some (.lst ys)
 oth:∀b,b≠l->H' b=H b
theorem Fg.mk'{H:Hp}{l:Addr}{xs ys:List V}(h:H l=some (.lst xs)):Fg H (L2.upd H l (.lst ys)) l xs ys:=⟨h,upd_same,λ_ n=>aN n⟩
theorem Fg.t{H H':Hp}{l:Addr}{xs ys:List V}(u:Fg H H' l xs ys):SameT H H':=λb zs e=>by
 rw[u.oth b (uc e u.was (by intro z;cases z))];exact e
theorem Fg.same{H0 H H':Hp}{l:Addr}{xs ys:List V}(u:Fg H H' l xs ys)(s:Same H0 H)(h:H0 l=none):Same H0 H':=λb o e=>by
 rw[u.oth b (aU e h)];exact s b o e
theorem Fg.at{H H':Hp}{l b:Addr}{xs ys:List V}{o:HO}(u:Fg H H' l xs ys)(n:b≠l)(e:H b=some o):H' b=some o:=by
 rw[u.oth b n];exact e
inductive E5 (x:V) (vs:List V) (H:Hp) (Q:VK):Prop
 | mk:∀l xs y,(x = .ref l)->(vs = [y])->(H l=some (.lst xs))->(xs.length<sizeLine)->(∀H',Fg H H' l xs (xs++[y])->Q .non H')->E5 x vs H Q
theorem bO:MtM X "list.append" E5:=λpins s σ H x xs v us Q I rx rs ⟨l,ys,y,e1,e2,h,hz,q⟩ =>
 iE pins s σ H x xs v us Q I rx rs ⟨l,ys,y,e1,e2,h,hz,q _ (.mk' h)⟩
inductive GC (o:V) (i:V) (v:V) (H:Hp) (Q:(Hp->Prop)):Prop
 | mk:∀p xs k j,(o = .ref p)->(i = .int k)->(H p=some (.lst xs))->(ixN xs.length k=some j)->(∀H',Fg H H' p xs (xs.set j v)->Q H')->GC o i v H Q
theorem rG:zf X GC:=λpins s σ H o i v uo ui uv Q I ro ri rv ⟨p,xs,k,j,e1,e2,h,hj,q⟩ =>
 tm pins s σ H o i v uo ui uv Q I ro ri rv ⟨p,xs,k,j,e1,e2,h,hj,q _ (.mk' h)⟩
inductive Et (x:V) (vs:List V) (H:Hp) (Q:VK):Prop
 | mk:∀l xs,(x = .ref l)->(vs = [])->(H l=some (.lst xs))->(∀H',Fg H H' l xs xs.reverse->Q .non H')->Et x vs H Q
theorem iU:MtM X "list.reverse" Et:=λpins s σ H x xs v us Q I rx rs ⟨l,ys,e1,e2,h,q⟩ =>
 pz pins s σ H x xs v us Q I rx rs ⟨l,ys,e1,e2,h,q _ (.mk' h)⟩
end
theorem AE{K:W.Frag}{H:Hp}{l:Addr}{xs:List V}{i:Int}{Q:VK}(e:H l=some (.lst xs))(h0:0<=i)(h1:i<(xs.length:Int))(h:∀v∈xs,Q v H):GN K (.ref l) (.int i) H Q:=by
 obtain⟨v,hv,mv⟩:=Sp1.atI_mem h0 h1;exact⟨l,xs,i,v,rfl,rfl,SqL.of e,hv,h v mv⟩
theorem iG{α:Type}{xs:List α}(h:xs.length=3):∃a b c,xs = [a,b,c]:=match xs,h with | [a,b,c],_=>⟨a,b,c,rfl⟩
theorem dh{α:Type}{xs:List α}(h:xs.length=2):∃a b,xs = [a,b]:=match xs,h with | [a,b],_=>⟨a,b,rfl⟩
theorem uA{α:Type}{xs:List α}(h:xs.length=4):∃a b c d,xs = [a,b,c,d]:=match xs,h with | [a,b,c,d],_=>⟨a,b,c,d,rfl⟩
theorem v7{α:Type}{xs:List α}(h:xs.length=5):∃a b c d e,xs = [a,b,c,d,e]:=match xs,h with | [a,b,c,d,e],_=>⟨a,b,c,d,e,rfl⟩
theorem len6{α:Type}{xs:List α}(h:xs.length=6):∃a b c d e f,xs = [a,b,c,d,e,f]:=match xs,h with | [a,b,c,d,e,f],_=>⟨a,b,c,d,e,f,rfl⟩
section
variable {X:Cx} {pins:List (Addr×Obj)} {σ:St} {H:Hp} {s:Shared}
theorem AU.turnedL{h':Heap}{t':Nat}{ch:List Addr}(I:AU X pins σ H s)(k:∀b o,b∉ch->s.heap.get? b=some o->h'.get? b=some o)(hf:∀b∈ch,fH X pins H b):AU X pins σ H { s with heap:=h',toks:=t' }:=by
 have nit:∀b u,H b=some u->b∉ch:=λb u e z=>by
  have n:=(hf b z).1;rw[n]at e;cases e
 refine I.step (g':=s.gens) (d':=s.drawn) (ch:=ch) (λb hb=>?_) (λb o _ _ hc e _=>k b o hc e) (λb o _ _ hc e _=>⟨o.slots,k b o hc e⟩) (λ_ _ _ _ n=>n)
  (λb o hc e=>⟨o,k b o hc e⟩) (λ_ _ e=>e) (λ_ _ _ e=>e) (λb ps e=>⟨#[],by rw[e];simp⟩) (λm hm=>?_) (λb u e=>?_) I.bare
 ·obtain⟨f0,f1,f2,f3,f4,f5⟩:=hf b hb
  exact⟨f3,f1,f4,f5⟩
 ·obtain⟨o,es,ep,ho,r⟩:=hm
  exact⟨o,es,ep,k _ o (λz=>(hf _ z).2.1 rfl) ho,r⟩
 ·refine(I.hok b u e).stay (λc v hc q=>k c v ?_ q) (λ_ q=>q) λ_ _ q=>q
  rcases hc with z|z
  ·rw[z];exact nit b u e
  ·exact nit c _ z
theorem rA{E:Value->Shared->Prop}{elts:List Expr}{kt:Nat}{pos:Pos}{i n:Nat}{z:Addr}{fpw wr:List Addr}{Pt:Nat->Array Value->Prop}{Stt:Nat->Heap->Prop}{Mid:Nat->Addr->Heap->Prop}{R:Value->Shared->Prop}
  (W:WalksT X.prog X.w X.A z fpw wr n Pt Stt Mid) (I:AU X pins σ H s) (hwr:∀b∈wr,fH X pins H b) (hi:i<n) (st:Stt i s.heap)
  (k:∀T vals s2,Pt i vals->s.heap.objs.size<=T->s2.heap.IsTuple T vals->Stt (i+1) s2.heap->AU X pins σ H s2->(∀b o,b∉wr->s.heap.get? b=some o->s2.heap.get? b=some o)->R (.ref T) s2) :
  wpAny (model X.prog X.w) X.A (pyNext (.ref z)) (λr s1=>∃u,r=some u/\wpAny (model X.prog X.w) X.A (letOwnedTupleGo (.Tuple elts kt pos) (.ref z) u) (λ_ s2=>R u s2) E s1) E s:=by
 refine W.item i s _ E hi st λT vals h' tk hp hT tup mid kk=>⟨.ref T,rfl,?_⟩;refine W.go elts kt pos i T _ _ E mid λh2 st2 k2=>?_;have kall:∀b o,b∉wr->s.heap.get? b=some o->h2.get? b=some o:=λb o hb e=>k2 b o hb (kk b o hb e);obtain⟨o,eo,ro⟩:=tup;exact k T vals _ hp hT ⟨o,k2 T o (W.apart i T _ mid) eo,ro⟩ st2 (I.turnedL (t':=tk) kall hwr) kall
theorem rE{T:Addr}{s2:Shared}{xs:List V}{us:List Value}(I:AU X pins σ H s)(J:AU X pins σ H s2)(hT:s.heap.objs.size<=T)(ht:s2.heap.IsTuple T us.toArray)(r:aV xs us)(hz:xs.length<=sizeLine):AU X pins σ (upd H T (.tup xs)) s2/\H T=none:=by
 have hn:H T=none:=I.hok.fresh hT;obtain⟨f0,f1,f2,f3,f4,f5⟩:=I.fpOk hT hn;refine⟨J.track hn ?_ f1 f4 f5 ⟨hz,us,r,ht⟩,hn⟩;cases e:X.s₀.heap.get? T with
 | none=>rfl
 | some o =>
  have h1:=Heap.lt_size e;have h2:=I.sz;exact absurd (Nat.lt_of_lt_of_le h1 (Nat.le_trans h2 hT)) (Nat.lt_irrefl _)
end
noncomputable def Ite(K:W.Frag)(l:Addr):It :=
  ⟨λi H=>∃xs x,SqL K H l xs/\xs[i]? = some x,
   λi H v H'=>∃p x,v = .ref p/\H p=none/\H'=upd H p (.tup [.int (i:Int),x])/\∀xs,SqL K H l xs->xs[i]? = some x,
   λi H=>∃xs,SqL K H l xs/\i=xs.length⟩
theorem rB{P:Program}{w:World}{K:W.Frag}{elts:List Expr}{kt:Nat}{pos:Pos}(e it l:Addr)(hei:e≠it)(hle:l≠e)(hli:l≠it) :
  El P w K (.Tuple elts kt pos) (Ite K l) [e,it] e (λi h=>(∃old,IsEnum h e it i old)/\h.IsListIter it l i) where
 mem:=by simp
 obj:=λi h st b hb=>by
  obtain⟨⟨old,he⟩,⟨o1,e1,c1,d1⟩⟩:=st;simp only[List.mem_cons,List.not_mem_nil,or_false]at hb;rcases hb with rfl|rfl
  ·exact⟨_,he,λv y=>by cases y⟩
  ·exact⟨o1,e1,λv y=>by rw[d1]at y;cases y⟩
 keep:=λi h h' st k=>by
  obtain⟨⟨old,he⟩,h1⟩:=st;exact⟨⟨old,k e (by simp) _ he⟩,h1.at λo x=>k it (by simp) o x⟩
 item:=by
  intro X hP hw hK hc i pins s σ H E I hf st hg;subst hP hw hK;obtain⟨xs,x,q1,hx⟩:=hg;obtain⟨its,r1,p1,_⟩:=I.list q1;obtain⟨u1,hu1,ru1⟩:=r1.get hx;have W:=WalksT.enumerate (prog:=X.prog) (w:=X.w) (I.ok.hd hc) e it l hei hle hli its.toArray;have hn:i<its.toArray.size:=by
   have g1:=(List.getElem?_eq_some_iff.mp hu1).1;simp only[List.size_toArray];omega
  obtain⟨he,h1⟩:=st;refine rA W I (λb hb=>hf b (by simpa using hb)) hn ⟨he,h1,p1.isList⟩ λT vals s2 hp hT tup st2 J2 kall=>?_;obtain⟨tk,v1,e1,rfl⟩:=hp;have e1':its[i]? = some v1:=by simpa using e1
  rw[hu1]at e1';cases e1';obtain⟨J3,nT⟩:=rE (xs:=[.int (i:Int),x]) (us:=[.int i tk,u1]) I J2 hT tup (.cons ⟨_,rfl⟩ (.cons ru1 .nil)) (Sp1.sz (by simp));obtain⟨he2,h12,_⟩:=st2;refine⟨.ref T,upd H T (.tup [.int (i:Int),x]),J3,rfl,⟨T,x,rfl,nT,rfl,λas qa=>?_⟩,⟨he2,h12⟩,λb hb=>?_⟩
  ·rw[I.list_inj qa q1]
   exact hx
  ·have hb':∃o,s.heap.get? b=some o:=by
    obtain⟨old,he⟩:=he;obtain⟨o1,e1,_⟩:=h1;simp only[List.mem_cons,List.not_mem_nil,or_false]at hb;rcases hb with rfl|rfl
    ·exact⟨_,he⟩
    ·exact⟨_,e1⟩
   obtain⟨o,eo⟩:=hb';rw[aN (Nat.ne_of_lt (Nat.lt_of_lt_of_le (Heap.lt_size eo) hT))];exact(hf b hb).1
 done:=by
  intro X hP hw hK hc i pins s σ H E I hf st hg;subst hP hw hK;obtain⟨xs,q1,rfl⟩:=hg;obtain⟨its,r1,p1,_⟩:=I.list q1;have W:=WalksT.enumerate (prog:=X.prog) (w:=X.w) (I.ok.hd hc) e it l hei hle hli its.toArray;obtain⟨he,h1⟩:=st;refine W.done s _ E ?_ λh' tk kk=>⟨rfl,I.turnedL (t':=tk) kk λb hb=>hf b (by simpa using hb)⟩;rw[List.size_toArray,<- r1.length];exact⟨he,h1,p1.isList⟩
 self:=λ_ _ _ _ _ st h=>by
  obtain⟨⟨old,he⟩,_⟩:=st;exact wpAny_pyIter_enum he h
section
variable {X:Cx} {elts:List Expr} {kt:Nat} {tpos:Pos}
noncomputable def zV(K:W.Frag)(ta:TA):TI:=λσ H R=>ta σ H λvs H1=>∃a,vs = [.ref a]/\(∃xs,SqL K H1 a xs)/\R (Ite K a) H1
theorem mS:bootBuiltins "enumerate" = some (.type "enumerate"):=by decide +kernel
theorem jp{a:Expr}{ta:TA}{p pos:Pos}(hg:Gl X "enumerate")(hm:X.mg "enumerate" = none)(ha:PA X [a] ta)(hs:starEach [a] X.env = [(false,eval a X.env)]:=by rfl) :
  PI X (.Tuple elts kt tpos) (.Call (.Name "enumerate" p) [a] [] pos) (zV X.K ta):=by
 intro pins s σ H R I h;refine Call_ (fP I hg hm mS (PyProof.Rows.callWith_type1 (thn (ha pos pins s σ H _ I h) λus s1 ⟨vs,H1,I1,r1,q1⟩=>?_) hs rfl));obtain⟨l,e,⟨xs,hx⟩,q⟩:=q1;subst e;cases r1 with
 | cons r rr =>
  cases rr;cases r;obtain⟨its,_,p1,_⟩:=I1.list hx;refine call_enumerate_list p1.isList λh' he hi hsz hk=>?_;refine wpAny_pyIter_enum he ?_;have a1:l<s1.heap.objs.size:=by obtain⟨_,e,_⟩:=p1.isList;exact Heap.lt_size e
  refine⟨s1.heap.objs.size+1,[s1.heap.objs.size+1,s1.heap.objs.size],_,_,H1,rfl,I1.kept (t':=s1.toks) hk,rB _ _ l (Nat.succ_ne_self _) (Nat.ne_of_lt (Nat.lt_succ_of_lt a1)) (Nat.ne_of_lt a1),⟨⟨_,he⟩,hi⟩,λb hb=>?_,q⟩;have hb':s1.heap.objs.size<=b:=by
   simp only[List.mem_cons,List.not_mem_nil,or_false]at hb;rcases hb with rfl|rfl <;> omega
  exact I1.fpOk hb' (I1.hok.fresh hb')
end
theorem ic{K:W.Frag}{a:Addr}{xs:List V}{g:TG}{tb:TS}{D:DA}{σ:St}{H:Hp}(Pv:Nat->St->Hp->Prop)(h0:Pv 0 σ H)(hl:∀i σ H,i<=xs.length->Pv i σ H->SqL K H a xs)
  (hs:∀i x p σ H H1,xs[i]? = some x->Pv i σ H->Same H H1->H1 p=some (.tup [.int (i:Int),x])->g (.ref p) σ H1 λσ2 H2=>tb { D with nx:=Pv (i+1),ct:=Pv (i+1),bk:=D.nx } σ2 H2) (hd:∀σ H,Pv xs.length σ H->D.nx σ H) :
  ∃W:Nat->Nat->St->Hp->Prop,(∃m,W 0 m σ H)/\∀i m σ H,W i m σ H ->
   ((Ite K a).stop i H/\D.nx σ H)\/((Ite K a).go i H/\∃N:St->Hp->Prop,(∀σ' H',N σ' H'->∃m',m'<m/\W (i+1) m' σ' H')/\∀x H',(Ite K a).yld i H x H'->g x σ H' λσ2 H2=>tb { D with nx:=N,ct:=N,bk:=D.nx } σ2 H2):=by
 refine⟨λi m σ H=>m=xs.length - i/\i<=xs.length/\Pv i σ H,⟨_,rfl,Nat.zero_le _,h0⟩,?_⟩;rintro i m σ H ⟨rfl,hi,p⟩;have q1:=hl i σ H hi p
 by_cases hlt:i<xs.length
 ·refine .inr ⟨⟨xs,xs[i],q1,by simp[hlt]⟩,Pv (i+1),λσ' H' p'=>⟨_,by omega,rfl,hlt,p'⟩,λv H' y=>?_⟩
  obtain⟨t,x,rfl,nt,rfl,e⟩:=y;exact hs i x t σ H _ (e xs q1) p (Same.new nt) upd_same
 ·have e:i=xs.length:=by omega
  subst e;exact .inl ⟨⟨xs,q1,rfl⟩,hd σ H p⟩
structure DS(X:Cx)(scope:Scope)(cl:List (Str×Addr))(xs:List Str)(fv:List (Str×Nat)):Prop where
 clos:closureFor scope X.env=pure cl
 kind:scope.kind = .function
 cell:∀y∈scope.names,y.2≠.cell
 names:∀y∈scope.names,y.2 = .local->scope.names.lookup y.1=some .local
 own:∀x∈xs,scope.names.lookup x=some .local
 cells:∀p∈cl,X.env.cells.lookup p.1=some p.2
 has:((relabel scope X.env).names.all λq=>!(q.2 == .cell || q.2 == .free) || (cl.lookup q.1).isSome)=true
 nd:(xs++fv.map (·.1)).Nodup
 slot:∀p∈fv,X.N[p.2]? = some p.1/\X.env.kindOf p.1=some .cell/\Vis X.env.scope p.1/\(cl.lookup p.1).isSome=true/\((relabel scope X.env).names.lookup p.1=some .cell)
 stk:X.stack=X.env::X.outer/\X.env.frame=some X.env.locals
 noex:X.ex = []
noncomputable def PTs(X:Cx)(ifs:List Expr)(tc:TT):Prop :=
 ∀(pins:List (Addr×Obj)) (s:Shared) (σ:St) (H:Hp) (Q:Bool->Hp->Prop),AU X pins σ H s->tc σ H Q ->
  wpAny (model X.prog X.w) X.A (forIn ifs true λc r=>if r=true then do let ok <- isTrue c X.env (eval c X.env);pure (ForInStep.yield ok) else pure (ForInStep.yield r)) (λb s'=>∃H',AU X pins σ H' s'/\Q b H') X.xe s
theorem l8{X:Cx}{c:Expr}{tc:TT}(h:PT X c tc):PTs X [c] tc:=λpins s σ H Q I q=>wpAny_tests_one (h pins s σ H Q I q)
theorem oI{prog:Program}{w:World}{A:Around}{R:Result->Shared->Prop}{s:Shared}{elt target iter:Expr}{ifs:List Expr}{scope:Scope}{pos:Pos}{it acc:Value}{env:Env}(I:Nat->Shared->Prop)
  (turn:∀n s,I n s->wpAny (model prog w) A (pyNext it) (λr s1=>match r with
   | none=>R (.ok .next) s1
   | some v=>wpAny (model prog w) A (letOwnedTupleGo target it v) (λ_ s₀=>wpAny (model prog w) A (assign target env v) (λ_ s2 =>
     wpAny (model prog w) A (forIn ifs true λc r=>if r=true then do let ok <- isTrue c env (eval c env);pure (ForInStep.yield ok) else pure (ForInStep.yield r)) (λok s3 =>
      if ok=true then wpAny (model prog w) A (eval elt env) (λx s4 =>
       wpAny (model prog w) A (call (.builtin "list.append") [acc,x]) (λ_ s5=>∃m,m<n/\I m s5) (notedBy (model prog w) A env λe s'=>R (.error e) s') s4) (notedBy (model prog w) A env λe s'=>R (.error e) s') s3
      else ∃m,m<n/\I m s3) (notedBy (model prog w) A env λe s'=>R (.error e) s') s2) (notedBy (model prog w) A env λe s'=>R (.error e) s') s₀) (notedBy (model prog w) A env λe s'=>R (.error e) s') s1) (notedBy (model prog w) A env λe s'=>R (.error e) s') s)
  (n:Nat) (h:I n s):codeAny (model prog w) A (.compLoop (.ListComp elt [⟨target,iter,ifs,0⟩] scope pos) 0 it acc env) R s:=by
 refine codeAny_loop rfl I (λn s hI=>?_) n h;show wpAny _ A ((compTurn (.ListComp elt [⟨target,iter,ifs,0⟩] scope pos) 0 it acc env).onRaise (λx=>do noteFrame x env;theTreesLotGoes x)) _ _ s
 refine wpAny_noted ?_;rw[compTurn_list];refine wpAny_bind (wpAny_standAt (wpAny_bind (wpAny_mono (turn n s hI) (λr s1 h1=>?_) λ_ _ h'=>h')));cases r with
 | none=>exact wpAny_pure h1
 | some v =>
  refine wpAny_bind (wpAny_mono h1 (λ_ s₀ h₀=>?_) λ_ _ h'=>h');refine wpAny_bind (wpAny_mono h₀ (λ_ s2 h2=>wpAny_bind (wpAny_mono h2 (λok s3 h3=>?_) λ_ _ h'=>h')) λ_ _ h'=>h');cases ok with
  | false=>exact wpAny_pure ⟨rfl,h3⟩
  | true=>exact wpAny_bind (wpAny_bind (wpAny_mono h3 (λx s4 h4=>wpAny_bind (wpAny_mono h4 (λ_ s5 h5=>wpAny_pure (wpAny_pure ⟨rfl,h5⟩)) λ_ _ h'=>h')) λ_ _ h'=>h'))
noncomputable def jz(J:It)(n:Nat)(fv:List (Str×Nat))(g:TG)(tc:TT)(te:TE)(σ:St)(H1:Hp)(Q:VK):Prop:=∀p,H1 p=none->∃W:Nat->Nat->List V->Hp->Prop,(∃m,W 0 m [] (upd H1 p (.lst [])))/\∀i m acc H2,W i m acc H2 ->
 H2 p=some (.lst acc)/\acc.length<sizeLine/\((J.stop i H2/\Q (.ref p) H2)\/(J.go i H2/\∀x H3,J.yld i H2 x H3->∀τ:St,τ.length=n->g x (τ++fvs fv σ) H3 λσ2 H4=>(∃τ':St,τ'.length=n/\σ2=τ'++fvs fv σ) /\
  tc σ2 H4 λb H5=>if b=true then te σ2 H5 (λy H6=>H6 p=some (.lst acc)/\∃m',m'<m/\W (i+1) m' (acc++[y]) (upd H6 p (.lst (acc++[y])))) else ∃m',m'<m/\W (i+1) m' acc H5))
noncomputable def sW(wi:TI)(n:Nat)(fv:List (Str×Nat))(g:TG)(tc:TT)(te:TE):TE:=λσ H Q=>wi σ H λJ H1=>jz J n fv g tc te σ H1 Q
section
variable {X:Cx} {scope:Scope} {cl:List (Str×Addr)} {xs:List Str} {fv:List (Str×Nat)} {elt iter tg:Expr} {ifs:List Expr} {pos:Pos} {te:TE} {tc:TT} {g:TG}
theorem wP{pins:List (Addr×Obj)}{σ:St}{H:Hp}{s:Shared}{fp:List Addr}(C:DS X scope cl xs fv)(I:AU X pins σ H s)(hf:∀b∈fp,fH X pins H b)(ho:∀b∈fp,b<s.heap.objs.size):(X.blk (xs++fv.map (·.1)) scope cl fp s H).Ok:=by
 have hcl:∀y c,cl.lookup y=some c->X.env.cells.lookup y=some c:=λy c h=>C.cells _ (cL h);have old:∀b∈fp,X.s₀.heap.objs.size<=b:=λb hb=>by
  rcases(hf b hb).2.2.2.1 with z|z
  ·rw[C.noex]at z
   cases z
  ·exact z
 refine⟨I.ok.mod,by show(relabel scope X.env).kind=_;exact C.kind,I.ok.glob,I.ok.blt,Nat.le_refl _,λy z c h1 h2=>I.ok.inj y z c (hcl y c h1) (hcl z c h2),λy hy=>?_,(λy c h=>by cases h),I.ok.hd,I.ok.frames,.inl rfl,λb hb=>?_,λb o e=>I.bs b o e,Nat.le_trans I.ok.bsz I.sz,λb o e hb=>?_,λb hb hm=>?_,I.stack,I.stkFree⟩
 ·have q:=C.has
  rw[List.all_eq_true]at q;have hm:∃k,(y,k)∈(relabel scope X.env).names/\(k = .cell\/k = .free):=by
   rcases hy with hy|hy
   ·exact⟨_,cL hy,.inl rfl⟩
   ·exact⟨_,cL hy,.inr rfl⟩
  obtain⟨k,hk,hk2⟩:=hm;have q2:=q _ hk;have q3:(cl.lookup y).isSome=true:=by
   rcases hk2 with rfl|rfl
   ·simpa using q2
   ·simpa using q2
  exact Option.isSome_iff_exists.mp q3
 ·obtain⟨f0,f1,f2,f3,f4,f5⟩:=hf b hb
  refine⟨?_,λy c h=>f4 y c (hcl y c h)⟩;exact Nat.ne_of_lt (ho b hb)
 ·have z:=Heap.lt_size e
  have z2:=old b hb;exact absurd (Nat.lt_of_lt_of_le z (Nat.le_trans I.ok.bsz z2)) (Nat.lt_irrefl _)
 ·obtain⟨f0,f1,f2,f3,f4,f5⟩:=hf b hb
  rcases List.mem_cons.mp (I.stkSub b hm) with z|z
  ·exact f1 z
  ·exact f2 z
theorem vc{pins:List (Addr×Obj)}{σ:St}{H:Hp}{s s4:Shared}{fp:List Addr}(C:DS X scope cl xs fv)(I:AU X pins σ H s)(hf:∀b∈fp,fH X pins H b)(ho:∀b∈fp,b<s.heap.objs.size)
  (hs:s4.os=s.os/\s4.gens=s.gens) (ns:s4.heap.Ns s.heap.objs.size λ_=>none) (kp:∀b o,s.heap.get? b=some o->s4.heap.get? b=some o) :
  AU (X.blk (xs++fv.map (·.1)) scope cl fp s H) [] (List.replicate xs.length none++fvs fv σ) H s4:=by
 have hcl:∀y c,cl.lookup y=some c->X.env.cells.lookup y=some c:=λy c h=>C.cells _ (cL h);refine⟨wP C I hf ho,hs.1,by rw[hs.2];exact I.bare,Un.kept kp,⟨_,ns,λi y v e1 e2 e3=>?_⟩,λy c h=>?_,I.hok.fresh (Nat.le_refl _),λy c h=>I.freeC y c (hcl y c h),λp hp=>by simp at hp,I.hok.kept kp,by simp[fvs]⟩
 ·by_cases hi:i<xs.length
  ·rw[List.getElem?_append_left (by rw[List.length_replicate];exact hi),List.getElem?_replicate]at e2
   simp[hi]at e2
  ·obtain⟨j,rfl⟩:∃j,i=xs.length+j:=⟨i - xs.length,by omega⟩
   have e1':(fv.map (·.1))[j]? = some y:=by
    have z:(xs++fv.map (·.1))[xs.length+j]? = some y:=e1;rw[List.getElem?_append_right (by omega)]at z;simpa using z
   have e2':(fvs fv σ)[j]? = some (some v):=by
    rw[List.getElem?_append_right (by rw[List.length_replicate];omega),List.length_replicate]at e2;simpa using e2
   rw[List.getElem?_map]at e1';unfold fvs at e2';rw[List.getElem?_map]at e2';cases hq:fv[j]? with
   | none =>
    rw[hq]at e1';cases e1'
   | some q =>
    rw[hq]at e1' e2';have ey:q.1=y:=Option.some.inj e1';have ev:(σ[q.2]?).join=some v:=Option.some.inj e2';have hm:q∈fv:=List.mem_of_getElem? hq;obtain⟨s1,s2,s3,s4',s5⟩:=C.slot q hm;have ev2:σ[q.2]? = some (some v):=by
     cases hz:σ[q.2]? with
     | none =>
      rw[hz]at ev;cases ev
     | some z =>
      rw[hz]at ev;have ev':z=some v:=ev;rw[ev']
    obtain⟨m,hn,hl⟩:=I.loc;obtain⟨u,r,lk⟩:=hl q.2 q.1 v s1 ev2 s3;obtain⟨c,hc⟩:=Option.isSome_iff_exists.mp s4';refine⟨u,r,.inr ⟨.inl (by rw[<- ey];exact s5),c,by rw[<- ey];exact hc,?_⟩⟩;rcases lk with⟨k,_⟩|⟨_,c',hc',z⟩
    ·rw[s2]at k
     cases k
    ·rw[hcl _ _ hc]at hc'
     cases hc';obtain⟨o,ho',hd⟩:=z;exact⟨o,kp _ _ ho',hd⟩
 ·obtain⟨v,o,ho',hd⟩:=I.cell y c (hcl y c h)
  exact⟨v,o,kp _ _ ho',hd⟩
theorem oN{pins:List (Addr×Obj)}{σ:St}{H2:Hp}{s2:Shared}{it:Addr}{fp:List Addr}{tn:Nat->Heap->Prop}{J:It}{RR:Value->Addr->Result->Shared->Prop}{E:Value->Shared->Prop}{Qf:V->Hp->Prop}
  (hcalm:X.calm=true) (C:DS X scope cl xs fv) (I2:AU X pins σ H2 s2) (T:El X.prog X.w X.K tg J fp it tn) (st:tn 0 s2.heap) (f2:∀b∈fp,fH X pins H2 b)
  (rd:jz J xs.length fv g tc te σ H2 Qf)
  (hg:∀(s₀:Shared) (H₀:Hp),PG (X.blk (xs++fv.map (·.1)) scope cl fp s₀ H₀) tg g) (ht:∀(s₀:Shared) (H₀:Hp),PTs (X.blk (xs++fv.map (·.1)) scope cl fp s₀ H₀) ifs tc)
  (he:∀(s₀:Shared) (H₀:Hp),PE (X.blk (xs++fv.map (·.1)) scope cl fp s₀ H₀) elt te)
  (hRR:∀(p C:Addr) (H':Hp) (s':Shared),(∃m,s'.heap.Ns C m)->C≠X.env.locals->H' C=none->X.s₀.heap.objs.size<=C->(∀y c,X.env.cells.lookup y=some c->c≠C)->(∀q∈X.pn++pins,q.1≠C)->AU X pins σ H' s'->Qf (.ref p) H'->RR (.ref p) C (.ok .next) s') :
  wpAny (model X.prog X.w) X.A (newList []) (λacc s₃=>wpAny (model X.prog X.w) X.A (newFunctionEnv scope X.env.globals cl [] X.env.qual none .none (some X.env)) (λcenv s₄ =>
   codeAny (model X.prog X.w) X.A (.compStart (.ListComp elt [⟨tg,iter,ifs,0⟩] scope pos) 0 (.ref it) acc { cenv with scope:=relabel scope X.env }) (RR acc cenv.locals) s₄) E s₃) E s2:=by
 refine wpAny_newObj_type ?_;have hfresh:=I2.fresh;have I3:AU X pins σ (upd H2 s2.heap.objs.size (.lst [])) { s2 with heap:=s2.heap.push { cls:=.type "list",data:=.seq ([]:List Value).toArray } } :=
  I2.laid (t':=s2.toks) (λb u q=>Heap.get?_push_of_some _ q) (Nat.le_refl _) ⟨Nat.zero_le _,[],0,.nil,Heap.get?_push_size _ rfl⟩
 generalize hs3:({ s2 with heap:=s2.heap.push { cls:=.type "list",data:=.seq ([]:List Value).toArray } }:Shared)=s3 at I3 ⊢;have hp3:s2.heap.objs.size<s3.heap.objs.size:=by rw[<- hs3];exact Nat.lt_of_lt_of_le (Nat.lt_succ_self _) (Nat.le_of_eq (Heap.size_push _ _).symm)
 have k23:∀b o,s2.heap.get? b=some o->s3.heap.get? b=some o:=λb o e=>by rw[<- hs3];exact Heap.get?_push_of_some _ e
 have fpo:∀b∈fp,b<s2.heap.objs.size:=λb hb=>by
  obtain⟨o,e,_⟩:=T.obj 0 _ st b hb;exact Heap.lt_size e
 have f3:∀b∈fp,fH X pins (upd H2 s2.heap.objs.size (.lst [])) b:=λb hb=>⟨by rw[aN (Nat.ne_of_lt (fpo b hb))];exact(f2 b hb).1,(f2 b hb).2⟩;refine wpAny_newFunctionEnv C.cell (by intro y hy;simp at hy) (λh1 hns1 hsb1=>?_) C.kind;have kp:∀b o,s3.heap.get? b=some o->h1.get? b=some o:=λb o e=>(hsb1.2 b (Nat.ne_of_lt (Heap.lt_size e))).trans (Heap.get?_push_of_some _ e);have I4:=vc (s4:={ s3 with heap:=h1,toks:=s3.toks+([]:List (Str×Value)).length }) C I3 f3 (λb hb=>Nat.lt_trans (fpo b hb) hp3) ⟨rfl,rfl⟩ hns1 kp;have st4:tn 0 h1:=T.keep 0 _ _ st λb _ o e=>kp b o (k23 b o e);obtain⟨W,⟨m0,w0⟩,step⟩:=rd _ hfresh;have loop:codeAny (model X.prog X.w) X.A (.compLoop (.ListComp elt [⟨tg,iter,ifs,0⟩] scope pos) 0 (.ref it) (.ref s2.heap.objs.size) (compEnvC scope cl s3.heap.objs.size X.env)) (RR (.ref s2.heap.objs.size) s3.heap.objs.size)
   { s3 with heap:=h1,toks:=s3.toks+([]:List (Str×Value)).length }:=by
  refine oI (λn s=>∃i acc τ H',τ.length=xs.length/\AU (X.blk (xs++fv.map (·.1)) scope cl fp s3 (upd H2 s2.heap.objs.size (.lst []))) [] (τ++fvs fv σ) H' s/\tn i s.heap/\(∀b∈fp,H' b=none)/\W i n acc H') ?_ m0 ⟨0,[],List.replicate xs.length none,_,List.length_replicate,I4,st4,λb hb=>(f3 b hb).1,w0⟩;rintro n s ⟨i,acc,τ,H',hτ,I',st',fr',w'⟩;obtain⟨hp,hlen,alt⟩:=step i n acc H' w';have fpk:∀{H5:Hp},(∀b∈fp,H5 b=none)->∀b∈fp,fH (X.blk (xs++fv.map (·.1)) scope cl fp s3 (upd H2 s2.heap.objs.size (.lst []))) [] H5 b:=λh5 b hb =>
   ⟨h5 b hb,(I'.ok.exf b hb).1,I'.ok.exfs b hb,.inl hb,λy c e=>(I'.ok.exf b hb).2 y c e,λq hq=>by simp at hq⟩
  rcases alt with⟨stop,qf⟩|⟨go,turn⟩
  ·refine wpAny_mono (T.done (X.blk (xs++fv.map (·.1)) scope cl fp s3 (upd H2 s2.heap.objs.size (.lst []))) rfl rfl rfl hcalm i [] s _ H' (λ_ _=>False) I' (fpk fr') st' stop) (λr s5 ⟨hr,I5⟩=>?_) λ_ _ z=>False.elim z
   subst hr;refine hRR _ _ H' s5 (let ⟨m,hn,_⟩:=I5.loc;⟨m,hn⟩) (Nat.ne_of_gt I3.lt) I5.free I3.sz (λy c e=>?_) (λq hq=>?_) ?_ qf
   ·obtain⟨v,z⟩:=I3.cell y c e
    exact Nat.ne_of_lt z.lt
   ·exact Nat.ne_of_lt (Heap.lt_size (I3.pin q hq).1)
   ·exact I3.call' (s':=s5) (ch:=fp) I5.os I5.base I5.hok I5.bare λb hb=>⟨(f2 b hb).2.2.2.1,(f2 b hb).2.1,(f2 b hb).2.2.2.2.1,(f2 b hb).2.2.2.2.2⟩
  ·refine wpAny_mono (T.item (X.blk (xs++fv.map (·.1)) scope cl fp s3 (upd H2 s2.heap.objs.size (.lst []))) rfl rfl rfl hcalm i [] s _ H' (λ_ _=>False) I' (fpk fr') st' go) (λr s5 ⟨u,hr,h5⟩=>?_) λ_ _ z=>False.elim z
   subst hr;refine wpAny_mono h5 (λ_ s6 ⟨y,H6,I6,r6,y6,st6,fr6⟩=>?_) λ_ _ z=>False.elim z;have I6':=I6.pinned (fpk fr6) (T.obj _ _ st6);have rt:=turn y _ y6 τ hτ;refine wpAny_mono (hg s3 _ _ s6 _ H6 y u _ I6' r6 rt) (λ_ s7 ⟨σ7,H7,I7,⟨τ',hτ',e7⟩,q7⟩=>?_) λ_ _ z=>False.elim z;subst e7;refine wpAny_mono (ht s3 _ _ s7 _ _ _ I7 q7) (λb s7b ⟨H7b,I7b,q7b⟩=>?_) λ_ _ z=>False.elim z;have kp6:∀{σ9:St} {H9:Hp} {s9:Shared},AU (X.blk (xs++fv.map (·.1)) scope cl fp s3 (upd H2 s2.heap.objs.size (.lst []))) ([]++jN fp s6.heap) σ9 H9 s9->tn (i+1) s9.heap/\∀b∈fp,H9 b=none:=λ{σ9 H9 s9} I9=>by
    refine⟨T.keep _ _ _ st6 λb hb o e=>(I9.pin (b,o) (List.mem_append_right _ (List.mem_append_right _ (dJ hb e)))).1,λb hb=>?_⟩;obtain⟨o,e,d⟩:=T.obj _ _ st6 b hb;exact(I9.pin (b,o) (List.mem_append_right _ (List.mem_append_right _ (dJ hb e)))).2.1
   cases b with
   | false =>
    obtain⟨m',hm',w8⟩:=q7b;exact⟨m',hm',i+1,acc,τ',_,hτ',I7b.unpinned,(kp6 I7b).1,(kp6 I7b).2,w8⟩
   | true =>
    refine wpAny_mono (he s3 _ _ s7b _ _ _ I7b q7b) (λv8 s8 ⟨y8,H8,I8,r8,q8,m',hm',w8⟩=>?_) λ_ _ z=>False.elim z;refine wpAny_mono (iE (X:=X.blk (xs++fv.map (·.1)) scope cl fp s3 (upd H2 s2.heap.objs.size (.lst []))) _ s8 _ H8 (.ref s2.heap.objs.size) [y8] (.ref s2.heap.objs.size) [v8] (λ_ H9=>H9=upd H8 s2.heap.objs.size (.lst (acc++[y8]))) I8 rfl (.cons r8 .nil) ⟨_,acc,y8,rfl,rfl,q8,hlen,rfl⟩) (λ_ s9 ⟨_,H9,I9,_,e9⟩=>?_) λ_ _ z=>False.elim z;subst e9;exact⟨m',hm',i+1,acc++[y8],τ',_,hτ',I9.unpinned,(kp6 I9).1,(kp6 I9).2,w8⟩
 exact codeAny_compStart_list loop (T.self _ 0 _ _ _ st4 loop)
theorem tS{wi:TI}(hcalm:X.calm=true)(C:DS X scope cl xs fv)(hi:PI X tg iter wi)(hg:∀(fp:List Addr) (s₀:Shared) (H₀:Hp),PG (X.blk (xs++fv.map (·.1)) scope cl fp s₀ H₀) tg g)(ht:∀(fp:List Addr) (s₀:Shared) (H₀:Hp),PTs (X.blk (xs++fv.map (·.1)) scope cl fp s₀ H₀) ifs tc)(he:∀(fp:List Addr) (s₀:Shared) (H₀:Hp),PE (X.blk (xs++fv.map (·.1)) scope cl fp s₀ H₀) elt te)
  (hs:∀v,foldedSetIterable iter X.env v=pure v:=by intro _;rfl):PE X (.ListComp elt [⟨tg,iter,ifs,0⟩] scope pos) (sW wi xs.length fv g tc te):=by
 intro pins s σ H Q I h;rw[eval_ListComp];refine wpAny_comprehension_free (use:=none) rfl hs C.clos C.kind C.names (wpAny_mono (hi pins s σ H _ I h) (λv s1 h1=>wpAny_mono h1 (λitv s2 h2=>?_) λ_ _ z=>z) λ_ _ z=>z);obtain⟨it,fp,tn,J,H2,rfl,I2,T,st2,f2,rd⟩:=h2;refine oN (Qf:=Q) hcalm C I2 T st2 f2 rd (hg fp) (ht fp) (he fp) λp D H' s' ns nL nH n0 nC nP I8 q=>?_;obtain⟨m,hn⟩:=ns;exact⟨m,hn,λh'' sb=>⟨.ref p,H',I8.turned (t':=s'.toks) (λb o hb e=>(sb.2 b hb).trans e) nH nL (.inr n0) nC nP,rfl,q⟩⟩
theorem iS{wi:TI}{y:Str}{j:Nat}{py spos:Pos}(hcalm:X.calm=true)(C:DS X scope cl xs fv)(hN:X.N.Nodup)(hj:X.N[j]? = some y)(hy:X.env.scope.names.lookup y=some .local)(hi:PI X tg iter wi)(hg:∀(fp:List Addr) (s₀:Shared) (H₀:Hp),PG (X.blk (xs++fv.map (·.1)) scope cl fp s₀ H₀) tg g)(ht:∀(fp:List Addr) (s₀:Shared) (H₀:Hp),PTs (X.blk (xs++fv.map (·.1)) scope cl fp s₀ H₀) ifs tc)(he:∀(fp:List Addr) (s₀:Shared) (H₀:Hp),PE (X.blk (xs++fv.map (·.1)) scope cl fp s₀ H₀) elt te)
  (hsw:swapsWith (.ListComp elt [⟨tg,iter,ifs,0⟩] scope pos) (some (.Name y py)) spos.line X.env=pure true:=by rfl)
  (hs:∀v,foldedSetIterable iter X.env v=pure v:=by intro _;rfl):PS X (.Assign [.Name y py] (.ListComp elt [⟨tg,iter,ifs,0⟩] scope pos) spos) (xQ (sW wi xs.length fv g tc te) (qM j)):=by
 intro pins s σ H D I h;rw[exec_Assign_Name_used _ _ _ _ hsw];refine wpAny_bind (wpAny_standAt (wpAny_bind ?_));show wpAny _ _ (do let _ <- comprehension (.ListComp elt [⟨tg,iter,ifs,0⟩] scope pos) scope X.env _ (newList []) false (eval iter X.env) (some (assign (.Name y py) X.env))) _ _ s
 refine wpAny_bind (wpAny_mono (wpAny_comprehension_free (use:=some (assign (.Name y py) X.env)) (Q:=λ_ s'=>SP X pins D .next s') rfl hs C.clos C.kind C.names
  (wpAny_mono (hi pins s σ H _ I h) (λv s1 h1=>wpAny_mono h1 (λitv s2 h2=>?_) λ_ _ z=>z) λ_ _ z=>z)) (λ_ s' hq=>wpAny_pure (wpAny_pure hq)) λ_ _ z=>z)
 obtain⟨it,fp,tn,J,H2,rfl,I2,T,st2,f2,rd⟩:=h2;refine oN (Qf:=λv H'=>qM j v σ H' D.nx) hcalm C I2 T st2 f2 rd (hg fp) (ht fp) (he fp) λp D' H' s' ns nL nH n0 nC nP I8 q=>?_;obtain⟨m,hn⟩:=ns;show wpAny _ _ (assign (.Name y py) X.env (.ref p)) _ _ _;refine wpAny_assign_Name (k6 I8 hN hj (.inl hy) (v:=.ref p) rfl (λs9 I9 ⟨a,sb,ha⟩=>?_) (.inr hy));have aD:D'≠a:=by
  rintro rfl;rcases ha with z|z
  ·exact nL z
  ·exact nC y _ z rfl
 exact⟨m,hn.sameBut sb aD,λh'' sb2=>⟨_,H',I9.turned (t':=s9.toks) (λb o hb e=>(sb2.2 b hb).trans e) nH nL (.inr n0) nC nP,q⟩⟩
end
section
variable {κ:Type} [DecidableEq κ]
noncomputable def dB(kvs:List (κ×V))(k:κ):Option V:=(kvs.find? λkv=>decide (kv.1=k)).map (·.2)
noncomputable def fG(kvs:List (κ×V))(k:κ)(v:V):List (κ×V) :=
 if (kvs.any λkv=>decide (kv.1=k))=true then kvs.map (λkv=>if kv.1=k then (kv.1,v) else kv) else kvs++[(k,v)]
theorem cE{p:κ×V}{r:List (κ×V)}{k:κ}(e:p.1=k):dB (p::r) k=some p.2:=by simp[dB,List.find?_cons,e]
theorem cg{p:κ×V}{r:List (κ×V)}{k:κ}(e:¬p.1=k):dB (p::r) k=dB r k:=by simp[dB,List.find?_cons,e]
theorem fI(k:κ):∀kvs:List (κ×V),(kvs.any λkv=>decide (kv.1=k))=(dB kvs k).isSome
 | []=>rfl
 | p::r=>by
  rw[List.any_cons]
  by_cases e:p.1=k
  ·simp only[cE e,decide_eq_true e,Bool.true_or,Option.isSome_some]
  ·rw[cg e,decide_eq_false e,Bool.false_or];exact fI k r
theorem mW(k j:κ)(y:V):∀kvs:List (κ×V),dB (kvs.map λkv=>if kv.1=k then (kv.1,y) else kv) j=(dB kvs j).map λx=>if j=k then y else x
 | []=>rfl
 | p::r=>by
  have ih:=mW k j y r;rw[List.map_cons]
  by_cases h:p.1=k
  ·rw[if_pos h]
   by_cases e:p.1=j
   ·rw[cE (p:=(p.1,y)) e,cE e,Option.map_some,if_pos (e.symm.trans h)]
   ·rw[cg (p:=(p.1,y)) e,cg e,ih]
  ·rw[if_neg h]
   by_cases e:p.1=j
   ·rw[cE (p:=p) e,cE e,Option.map_some,if_neg (λz=>h (e.trans z))]
   ·rw[cg (p:=p) e,cg e,ih]
theorem kZ(k j:κ)(y:V):∀kvs:List (κ×V),dB kvs k=none->dB (kvs++[(k,y)]) j=if j=k then some y else dB kvs j
 | [],_=>by
  by_cases e:k=j
  ·rw[if_pos e.symm];exact cE (p:=(k,y)) e
  ·rw[if_neg (λz=>e z.symm)];exact cg (p:=(k,y)) e
 | p::r,hn=>by
  rw[List.cons_append];have hk:¬p.1=k:=λz=>by rw[cE z]at hn;cases hn
  rw[cg hk]at hn;have ih:=kZ k j y r hn
  by_cases e:p.1=j
  ·rw[cE e,cE e,if_neg (λz=>hk (e.trans z))]
  ·rw[cg e,cg e,ih]
theorem gQ(kvs:List (κ×V))(k j:κ)(y:V):dB (fG kvs k y) j=if j=k then some y else dB kvs j:=by
 unfold fG
 by_cases a:(kvs.any λkv=>decide (kv.1=k))=true
 ·rw[if_pos a,mW]
  rw[fI]at a
  by_cases e:j=k
  ·obtain⟨x,hx⟩:=Option.isSome_iff_exists.mp a
   rw[if_pos e,e,hx,Option.map_some,if_pos rfl]
  ·rw[if_neg e]
   cases dB kvs j with
   | none=>rfl
   | some x=>rw[Option.map_some,if_neg e]
 ·rw[if_neg a]
  refine kZ k j y kvs ?_;rw[fI]at a;cases q:dB kvs k with
  | none=>rfl
  | some x=>rw[q]at a;exact(a rfl).elim
theorem iW(kvs:List (κ×V))(k:κ)(v:V):(fG kvs k v).length<=kvs.length+1:=by
 unfold fG
 split
 ·rw[List.length_map];omega
 ·rw[List.length_append,List.length_cons,List.length_nil];omega
theorem gZ{kvs:List (κ×V)}{k:κ}(v:V)(h:dB kvs k=none):fG kvs k v=kvs++[(k,v)]:=by
 unfold fG;rw[fI,h];exact if_neg (by decide)
theorem iP.isSome_eq{o:Option V}{u:Option Value}(r:iP o u):o.isSome=u.isSome:=by
 cases o with
 | none=>cases u with
  | none=>rfl
  | some _=>exact(show False from r).elim
 | some _=>cases u with
  | none=>exact(show False from r).elim
  | some _=>rfl
theorem KV.val{kvs:List (κ×V)}{vs:List (κ×Value)}(r:KV kvs vs)(k:κ):iP (dB kvs k) (valueAt vs k):=by
 unfold KV at r
 induction r with
 | nil=>exact True.intro
 | @cons p q ps qs h t ih =>
  obtain⟨h1,h2⟩:=h
  by_cases e:p.1=k
  ·have e':q.1=k:=h1.symm.trans e
   have b:valueAt (q::qs) k=some q.2:=by simp[valueAt,List.find?_cons,e']
   rw[cE e,b];exact h2
  ·have e':¬q.1=k:=λz=>e (h1.trans z)
   have b:valueAt (q::qs) k=valueAt qs k:=by simp[valueAt,List.find?_cons,e']
   rw[cg e,b];exact ih
theorem KV.any{kvs:List (κ×V)}{vs:List (κ×Value)}(r:KV kvs vs)(k:κ):(kvs.any λkv=>decide (kv.1=k))=vs.any λkv=>decide (kv.1=k):=by
 unfold KV at r
 induction r with
 | nil=>rfl
 | cons h t ih=>rw[List.any_cons,List.any_cons,ih,h.1]
theorem KV.repl{kvs:List (κ×V)}{vs:List (κ×Value)}(r:KV kvs vs)(k:κ){y:V}{u:Value}(ry:a9 y u) :
  KV (kvs.map λkv=>if kv.1=k then (kv.1,y) else kv) (vs.map λkv=>if kv.1=k then (kv.1,u) else kv):=by
 unfold KV at r ⊢
 induction r with
 | nil=>exact .nil
 | @cons p q ps qs h t ih =>
  rw[List.map_cons,List.map_cons];refine .cons ?_ ih;obtain⟨h1,h2⟩:=h
  by_cases e:p.1=k
  ·rw[if_pos e,if_pos (h1.symm.trans e)];exact⟨h1,ry⟩
  ·rw[if_neg e,if_neg (λz=>e (h1.trans z))];exact⟨h1,h2⟩
theorem KV.put{kvs:List (κ×V)}{vs:List (κ×Value)}(r:KV kvs vs)(k:κ){y:V}{u:Value}(ry:a9 y u):KV (fG kvs k y) (stored vs k u):=by
 unfold fG stored;rw[r.any k]
 by_cases e:(vs.any λkv=>decide (kv.1=k))=true
 ·rw[if_pos e,if_pos e];exact r.repl k ry
 ·rw[if_neg e,if_neg e];exact Paired.snoc r ⟨rfl,ry⟩
theorem KV.length{kvs:List (κ×V)}{vs:List (κ×Value)}(r:KV kvs vs):kvs.length=vs.length:=Paired.length r
end
theorem nV{P:Program}{w:World}{k:Key}{u:Value}(r:a9 (kV k) u):(cJ P w).is k u=true:=by
 cases k with
 | inl i=>obtain⟨t,e⟩:=(show ∃t,u=Value.int i t from r);subst e;exact nQ P w i t
 | inr x=>obtain⟨t,e⟩:=(show ∃t,u=Value.str x t from r);subst e;exact nO P w x t
theorem lH{P:Program}{w:World}:∀{ks:List Key} {us:List Value},aV (ks.map kV) us->ItemsAre (cJ P w) ks us
 | [],_,r=>by rw[List.map_nil]at r;cases r;exact .nil
 | k::ks,_,r=>by
  rw[List.map_cons]at r;cases r with
  | cons h t=>exact .cons (nV h) (lH t)
noncomputable abbrev KT(H:Hp):List (List Key×V)->List (List Key×Addr×Value)->Prop:=Paired λp q=>p.1=q.1/\H q.2.1=some (.tup (p.1.map kV))/\a9 p.2 q.2.2
theorem KT.val{H:Hp}{kvs:List (List Key×V)}{xs:List (List Key×Addr×Value)}(r:KT H kvs xs)(k:List Key):iP (dB kvs k) ((atKey xs k).map (·.2)):=by
 induction r with
 | nil=>exact True.intro
 | @cons p q ps qs h t ih =>
  obtain⟨h1,_,h2⟩:=h
  by_cases e:p.1=k
  ·have e':q.1=k:=h1.symm.trans e
   have b:atKey (q::qs) k=some q.2:=by simp[atKey,List.find?_cons,e']
   rw[cE e,b];exact h2
  ·have e':¬q.1=k:=λz=>e (h1.trans z)
   have b:atKey (q::qs) k=atKey qs k:=by simp[atKey,List.find?_cons,e']
   rw[cg e,b];exact ih
theorem KT.repl{H:Hp}{kvs:List (List Key×V)}{xs:List (List Key×Addr×Value)}(r:KT H kvs xs)(k:List Key){y:V}{u:Value}(ry:a9 y u) :
  KT H (kvs.map λkv=>if kv.1=k then (kv.1,y) else kv) (xs.map (putAt k u)):=by
 induction r with
 | nil=>exact .nil
 | @cons p q ps qs h t ih =>
  rw[List.map_cons,List.map_cons];refine .cons ?_ ih;obtain⟨h1,h2,h3⟩:=h;unfold putAt
  by_cases e:p.1=k
  ·rw[if_pos e,if_pos (h1.symm.trans e)];exact⟨h1,h2,ry⟩
  ·rw[if_neg e,if_neg (λz=>e (h1.trans z))];exact⟨h1,h2,h3⟩
theorem KT.put{H:Hp}{kvs:List (List Key×V)}{xs:List (List Key×Addr×Value)}(r:KT H kvs xs)(k:List Key){b:Addr}{y:V}{u:Value}(hb:H b=some (.tup (k.map kV)))(ry:a9 y u) :
  KT H (fG kvs k y) (storedH xs k b u):=by
 have e:(kvs.any λkv=>decide (kv.1=k))=(atKey xs k).isSome:=by
  rw[fI,(r.val k).isSome_eq,Option.isSome_map]
 unfold fG storedH;rw[e]
 by_cases q:(atKey xs k).isSome=true
 ·rw[if_pos q,if_pos q];exact r.repl k ry
 ·rw[if_neg q,if_neg q];exact Paired.snoc r ⟨rfl,hb,ry⟩
theorem KT.keeps{H H':Hp}{kvs:List (List Key×V)}{xs:List (List Key×Addr×Value)}(r:KT H kvs xs)(ht:∀b ys,H b=some (.tup ys)->H' b=some (.tup ys)):KT H' kvs xs :=
 Paired.mapP r λ_ _ z=>⟨z.1,ht _ _ z.2.1,z.2.2⟩
section
variable {P:Program} {w:World} {H:Hp} {h:Heap} {a:Addr}
theorem xl{u:HO}(ok:HOk P w H h)(e:Rd H a u):bV P w H h a u:=e.ok ok
theorem oC{kvs:List (Key×V)}(ok:HOk P w H h)(e:Rd H a (.dK kvs)):kvs.length<=sizeLine/\(a == sysModules)=false/\∃vs,KV kvs vs/\h.DictOf (cJ P w) a vs :=
 show bV P w H h a (.dK kvs) from xl ok e
theorem Ad{kvs:List (Key×V)}(ok:HOk P w H h)(e:H a=some (.dK kvs)):kvs.length<=sizeLine/\(a == sysModules)=false/\∃vs,KV kvs vs/\h.DictOf (cJ P w) a vs:=oC ok (.inl e)
theorem jW{ks:List Key}(ok:HOk P w H h)(e:H a=some (.tup (ks.map kV))):(tupleKind (cJ P w)).is h ks a:=by
 obtain⟨_,its,r,o,h1,h2,n,h3⟩:=(show bV P w H h a (.tup (ks.map kV)) from ok a _ e);exact⟨o,its.toArray,n,h1,h2,h3,by simpa using lH r⟩
theorem oA{kvs:List (List Key×V)}(ok:HOk P w H h)(e:Rd H a (.dT kvs)):kvs.length<=sizeLine/\(a == sysModules)=false /\
  ∃xs,KT H kvs xs/\h.DictOfH (tupleKind (cJ P w)) a xs:=by
 obtain⟨z,y,xs,r,o,es,ep,h1,h2,h3,h4,h5⟩:=(show bV P w H h a (.dT kvs) from xl ok e);refine⟨z,y,xs,r,o,es,ep,h1,h2,h3,h4,λx hx=>?_,h5⟩;have all:∀{l:List (List Key×V)} {m:List (List Key×Addr×Value)},KT H l m->∀x∈m,(tupleKind (cJ P w)).is h x.1 x.2.1:=by
  intro l m q
  induction q with
  | nil=>intro x hx;exact nomatch hx
  | @cons p q ps qs hq t ih =>
   intro x hx;rcases List.mem_cons.mp hx with e|hx
   ·subst e
    exact jW ok (by rw[<- hq.1];exact hq.2.1)
   ·exact ih x hx
 exact all r x hx
theorem Ac{kvs:List (List Key×V)}(ok:HOk P w H h)(e:H a=some (.dT kvs)):kvs.length<=sizeLine/\(a == sysModules)=false /\
  ∃xs,KT H kvs xs/\h.DictOfH (tupleKind (cJ P w)) a xs:=oA ok (.inl e)
end
noncomputable def fW(H:Hp)(a:Addr)(y:V)(r:Option V):Prop :=
 (∃kvs k,Rd H a (.dK kvs)/\y=kV k/\r=dB kvs k)\/∃kvs k b,Rd H a (.dT kvs)/\y = .ref b/\H b=some (.tup (k.map kV))/\r=dB kvs k
noncomputable def ku(H:Hp)(a:Addr)(y v:V)(H':Hp):Prop :=
 (∃kvs k,H a=some (.dK kvs)/\y=kV k/\kvs.length<sizeLine/\H'=upd H a (.dK (fG kvs k v))) \/
 ∃kvs k b,H a=some (.dT kvs)/\y = .ref b/\H b=some (.tup (k.map kV))/\kvs.length<sizeLine/\H'=upd H a (.dT (fG kvs k v))
theorem fW.t{H:Hp}{a b:Addr}{kvs:List (List Key×V)}{k:List Key}(e:H a=some (.dT kvs))(eb:H b=some (.tup (k.map kV))):fW H a (.ref b) (dB kvs k):=.inr ⟨kvs,k,b,.inl e,rfl,eb,rfl⟩
theorem ku.t{H:Hp}{a b:Addr}{kvs:List (List Key×V)}{k:List Key}{v:V}(e:H a=some (.dT kvs))(eb:H b=some (.tup (k.map kV)))(hl:kvs.length<sizeLine) :
  ku H a (.ref b) v (upd H a (.dT (fG kvs k v))):=.inr ⟨kvs,k,b,e,rfl,eb,hl,rfl⟩
section
variable {X:Cx} {pins:List (Addr×Obj)} {σ:St} {H:Hp} {s:Shared} {a:Addr} {y v:V} {u r:Value} {o:Option V} {A:Around} {E:Value->Shared->Prop}
theorem AU.big(I:AU X pins σ H s):sysModules<s.heap.objs.size:=by
 have h:mainGlobals<s.heap.objs.size:=(I.mod.glob.keeps I.bk).lt;exact Nat.lt_trans (by decide) h
theorem sG{Q:Value->Shared->Prop}(hu:A.units+1<cLine)(I:AU X pins σ H s)(g:fW H a y (some v))(ry:a9 y u)(h:∀w' s',AU X pins σ H s'->a9 v w'->Q w' s') :
  wpAny (model X.prog X.w) A (getItem (.ref a) u) Q E s:=by
 rcases g with⟨kvs,k,e,ey,l⟩|⟨kvs,k,b,e,ey,eb,l⟩
 ·subst ey
  obtain⟨z,hd,vs,rel,dd⟩:=oC I.hok e;obtain⟨w',hw,rw'⟩:=iP.some_of (v:=v) (o:=valueAt vs k) (by rw[l];exact rel.val k);exact wpAny_getItem_of (nV ry) dd.mapOf hw (h w' _ (I.tok _) rw')
 ·subst ey
  cases (show u=Value.ref b from ry);obtain⟨z,hd,xs,rel,dd⟩:=oA I.hok e;obtain⟨w',hw,rw'⟩:=iP.some_of (v:=v) (o:=(atKey xs k).map (·.2)) (by rw[l];exact rel.val k);obtain⟨p,hp,hp2⟩:=Option.map_eq_some_iff.mp hw;refine wpAny_getItem_heap (tupleKind_room_in1 hu) (jW I.hok eb) dd hp ?_;rw[hp2];exact h w' _ (I.tok _) rw'
theorem AM{Q:Value->Shared->Prop}(hu:A.units+1<cLine)(I:AU X pins σ H s)(g:fW H a y o)(ry:a9 y u)(h:∀s',AU X pins σ H s'->Q (.bool o.isSome) s') :
  wpAny (model X.prog X.w) A (compareOp .In u (.ref a)) Q E s:=by
 rcases g with⟨kvs,k,e,ey,l⟩|⟨kvs,k,b,e,ey,eb,l⟩
 ·subst ey
  obtain⟨z,hd,vs,rel,dd⟩:=oC I.hok e;refine wpAny_in_of (nV ry) hd dd.mapOf ?_;rw[<- (rel.val k).isSome_eq,<- l];exact h _ (I.tok _)
 ·subst ey
  cases (show u=Value.ref b from ry);obtain⟨z,hd,xs,rel,dd⟩:=oA I.hok e;refine wpAny_in_heap (tupleKind_room_in1 hu) (jW I.hok eb) hd dd ?_;have q:=(rel.val k).isSome_eq;rw[Option.isSome_map]at q;rw[<- q,<- l];exact h _ (I.tok _)
theorem wH{Q:Value->Shared->Prop}(hu:A.units+1<cLine)(I:AU X pins σ H s)(g:fW H a y o)(ry:a9 y u)(h:∀s',AU X pins σ H s'->Q (.bool (!o.isSome)) s') :
  wpAny (model X.prog X.w) A (compareOp .NotIn u (.ref a)) Q E s:=by
 rcases g with⟨kvs,k,e,ey,l⟩|⟨kvs,k,b,e,ey,eb,l⟩
 ·subst ey
  obtain⟨z,hd,vs,rel,dd⟩:=oC I.hok e;refine wpAny_notIn_of (nV ry) hd dd.mapOf ?_;rw[<- (rel.val k).isSome_eq,<- l];exact h _ (I.tok _)
 ·subst ey
  cases (show u=Value.ref b from ry);obtain⟨z,hd,xs,rel,dd⟩:=oA I.hok e;refine wpAny_notIn_heap (tupleKind_room_in1 hu) (jW I.hok eb) hd dd ?_;have q:=(rel.val k).isSome_eq;rw[Option.isSome_map]at q;rw[<- q,<- l];exact h _ (I.tok _)
theorem qW{h':Heap}{t':Nat}{ob:HO}(I:AU X pins σ H s)(mu:Mut (H a))(hs:Heap.SameBut a s.heap h')(he:∃q,h'.get? a=some q)(new:bV X.prog X.w (upd H a ob) h' a ob) :
  AU X pins σ (upd H a ob) { s with heap:=h',toks:=t' } :=
 I.write (x:=a) (e:=a) mu (.inl rfl) (λb q hb z=>(hs.2 b hb).trans z) he new
theorem yU{P:Program}{w:World}{H':Hp}{h':Heap}{kvs:List (Key×V)}{vs:List (Key×Value)}(z:kvs.length<=sizeLine)(hd:(a == sysModules)=false)(rel:KV kvs vs)(dd:h'.DictOf (cJ P w) a vs) :
  bV P w H' h' a (.dK kvs):=⟨z,hd,vs,rel,dd⟩
theorem sF{H':Hp}{Q:Unit->Shared->Prop}(hu:A.units+1<cLine)(I:AU X pins σ H s)(g:ku H a y v H')(ry:a9 y u)(rv:a9 v r)(h:∀s',AU X pins σ H' s'->Q () s') :
  wpAny (model X.prog X.w) A (setItem (.ref a) u r) Q E s:=by
 rcases g with⟨kvs,k,e,ey,l,eH⟩|⟨kvs,k,b,e,ey,eb,l,eH⟩
 ·subst ey eH
  obtain⟨z,hd,vs,rel,dd⟩:=Ad I.hok e;have hz:vs.length<=sizeLine:=by rw[<- rel.length];exact z
  have hl:(fG kvs k v).length<=sizeLine:=by have:=iW kvs k v;omega
  refine wpAny_setItem_pairs (hsz:=hz) (nV ry) dd λh' dd' hs=>h _ ?_;have he:∃q,h'.get? a=some q:=let ⟨q,_,_,hq,_⟩:=dd';⟨q,hq⟩;exact qW I (by rw[e];exact True.intro) hs he (yU hl hd (rel.put k rv) dd')
 ·subst ey eH
  cases (show u=Value.ref b from ry);obtain⟨z,hd,xs,rel,dd⟩:=Ac I.hok e;have hz:xs.length<=sizeLine:=by rw[<- Paired.length rel];exact z
  have hl:(fG kvs k v).length<=sizeLine:=by have:=iW kvs k v;omega
  refine wpAny_setItem_heap (hsz:=hz) (tupleKind_room_in1 hu) (jW I.hok eb) dd λh' dd' hs=>h _ ?_;obtain⟨q,es,ep,hq,h2,h3,h4,_,h5⟩:=dd';refine qW I (by rw[e];exact True.intro) hs ⟨q,hq⟩ ⟨hl,hd,_,(rel.put k eb rv).keeps λc ys ec=>?_,q,es,ep,hq,h2,h3,h4,h5⟩;rw[aN (uc ec e (λz=>nomatch z))]
  exact ec
end
noncomputable def Aj(i:Expr):Prop:=∀ov iv,subscripted i false ov iv=operate [ov,iv] (getItem ov iv)
theorem vx{prog:Program}{w:World}{A:Around}{E:Value->Shared->Prop}{s:Shared}{env:Env}{value slice:Expr}{pos:Pos}{T id:String}{Q:Value->Shared->Prop}
  (hl:typeLookup (.type T) "__getitem__" = pure (some (.builtin id))) (hs:Aj slice)
  (h:wpAny (model prog w) A (eval value env) (λo s1=>wpAny (model prog w) A (eval slice env) (λi s2=>s2.TypeIs o T/\wpAny (model prog w) A (getItem o i) Q E s2) E s1) E s) :
  wpAny (model prog w) A (eval (.Subscript value slice pos) env) Q E s:=by
 refine Subscript_ (wpAny_mono h (λo s1 h1=>wpAny_mono h1 (λi s2 h2=>?_) λ_ _ x=>x) λ_ _ x=>x);obtain⟨hT,h2⟩:=h2;unfold subscriptTail;refine wpAny_bind ?_;rw[getitemInPython_of_ne hT.not_modules];refine wpAny_bind (wpAny_specialOf hT hl ?_);have fin:wpAny (model prog w) A (subscripted slice false o i) (λr s3=>wpAny (model prog w) A (letTemporaryGo value o r >>= λ_=>pure r) Q E s3) E s2:=by
  rw[hs o i];exact wpAny_operating (wpAny_mono h2 (λr s3 h3=>wpAny_bind (wpAny_letTemporaryGo (wpAny_pure h3))) λ_ _ x=>x)
 first
  | exact wpAny_pure (wpAny_bind fin)
  | exact wpAny_bind (wpAny_pure (wpAny_bind fin))
  | exact wpAny_bind fin
theorem oE{X:Cx}{pins:List (Addr×Obj)}{σ:St}{H:Hp}{s:Shared}{a:Addr}{y:V}{o:Option V}(I:AU X pins σ H s)(g:fW H a y o):s.TypeIs (.ref a) "dict":=by
 rcases g with⟨kvs,k,e,_,_⟩|⟨kvs,k,b,e,_,_,_⟩
 ·obtain⟨_,_,vs,_,dd⟩:=oC I.hok e
  exact dd.typeIs
 ·obtain⟨_,_,xs,_,dd⟩:=oA I.hok e
  exact dd.typeIs
noncomputable def zC(td ty:TE):TE:=λσ H Q=>td σ H λx H1=>ty σ H1 λy H2=>∃a v,x = .ref a/\fW H2 a y (some v)/\Q v H2
noncomputable def Aw(ty td:TE):TE:=λσ H Q=>ty σ H λy H1=>td σ H1 λx H2=>∃a o,x = .ref a/\fW H2 a y o/\Q (.bl o.isSome) H2
noncomputable def vq(ty td:TE):TE:=λσ H Q=>ty σ H λy H1=>td σ H1 λx H2=>∃a o,x = .ref a/\fW H2 a y o/\Q (.bl (!o.isSome)) H2
noncomputable def zH(td ty tv:TE):TS:=λD σ H=>tv σ H λv H1=>td σ H1 λx H2=>ty σ H2 λy H3=>∃a H4,x = .ref a/\ku H3 a y v H4/\D.nx σ H4
section
variable {X:Cx} {o i e value:Expr} {pos pos' tpos:Pos} {td ty tv:TE}
theorem dn(hu:X.A.units+1<cLine)(ho:PE X o td)(hi:PE X i ty)(hs:Aj i):PE X (.Subscript o i pos) (zC td ty):=by
 intro pins s σ H Q I h;refine vx PySem.F.slot_dict_getitem.lookup hs (thn (ho pins s σ H _ I h) λu s1 ⟨x,H1,I1,rx,q1⟩=>thn (hi pins s1 σ H1 _ I1 q1) λiv s2 ⟨y,H2,I2,ry,a,v,ex,g,q2⟩=>?_);subst ex;obtain rfl:u=Value.ref a:=rx;exact⟨oE I2 g,sG hu I2 g ry λw' s3 I3 rw'=>⟨v,H2,I3,rw',q2⟩⟩
theorem ml(hu:X.A.units+1<cLine)(hi:PE X i ty)(ho:PE X o td):PC X .In i o (Aw ty td):=by
 intro pins s σ H Q I h;refine thn (hi pins s σ H _ I h) λiv s1 ⟨y,H1,I1,ry,q1⟩=>thn (ho pins s1 σ H1 _ I1 q1) λu s2 ⟨x,H2,I2,rx,a,ov,ex,g,q2⟩=>?_;subst ex;obtain rfl:u=Value.ref a:=rx;exact AM hu I2 g ry λs3 I3=>⟨.bl ov.isSome,H2,I3,rfl,q2⟩
theorem lu(hu:X.A.units+1<cLine)(hi:PE X i ty)(ho:PE X o td):PC X .NotIn i o (vq ty td):=by
 intro pins s σ H Q I h;refine thn (hi pins s σ H _ I h) λiv s1 ⟨y,H1,I1,ry,q1⟩=>thn (ho pins s1 σ H1 _ I1 q1) λu s2 ⟨x,H2,I2,rx,a,ov,ex,g,q2⟩=>?_;subst ex;obtain rfl:u=Value.ref a:=rx;exact wH hu I2 g ry λs3 I3=>⟨.bl (!ov.isSome),H2,I3,rfl,q2⟩
theorem dY(hu:X.A.units+1<cLine)(ho:PE X o td)(hi:PE X i ty)(hv:PE X value tv)(hs:swapsWith value (some (.Subscript o i pos')) pos.line X.env=pure false) :
  PS X (.Assign [.Subscript o i pos'] value pos) (zH td ty tv):=by
 intro pins s σ H D I h;refine wpAny_Assign_Subscript (thn (hv pins s σ H _ I h) λr s1 ⟨v,H1,I1,rv,q1⟩=>thn (ho pins s1 σ H1 _ I1 q1) λu s2 ⟨x,H2,I2,rx,q2⟩=>thn (hi pins s2 σ H2 _ I2 q2) λiv s3 ⟨y,H3,I3,ry,a,H4,ex,g,q3⟩=>?_) hs;subst ex;obtain rfl:u=Value.ref a:=rx;exact sF hu I3 g ry rv λs4 I4=>⟨σ,H4,I4,q3⟩
end
theorem uX{P:Program}{w:World}{H:Hp}(h:Heap)(hb:sysModules<h.objs.size):bV P w H (h.push { cls:=.type "dict",data:=.dict #[] }) h.objs.size (.dT []) :=
 ⟨Nat.zero_le _,beq_eq_false_iff_ne.mpr (Ne.symm (Nat.ne_of_lt hb)),[],.nil,_,#[],0,Heap.get?_push_size _ rfl,⟨rfl,rfl,rfl⟩,rfl,rfl,List.nodup_nil⟩
noncomputable def xM:TE:=λ_ H Q=>∀p,H p=none->Q (.ref p) (upd H p (.dT []))
section
variable {X:Cx} {pos:Pos}
theorem g7:PE X (.Dict [] [] pos) xM:=λpins s σ H Q I h =>
 wpAny_Dict_empty ⟨.ref s.heap.objs.size,_,I.laid (a:=s.heap.objs.size) (o:=.dT []) (t':=s.toks) (λ_ _ q=>Heap.get?_push_of_some _ q) (Nat.le_refl _) (uX s.heap I.big),rfl,h _ (I.hok.fresh (Nat.le_refl _))⟩
end
section
variable {prog:Program} {w:World} {A:Around} {E:Value->Shared->Prop} {s:Shared} {it d:Addr} {i ep:Nat} {es:Array DictEntry} {od:Obj}
theorem tJ{Q:Value->Shared->Prop}(hd:(d == sysModules)=false)(ho:s.heap.get? d=some od)(hc:od.cls = .type "dict")(hdat:od.data = .dict es ep)
  (hQ:Q (.ref s.heap.objs.size) { s with heap:=s.heap.push { cls:=.type "dict_keyiterator",data:=.fields #[.ref d,.int 0 0,.int es.size 0,.int ep 0] } }):wpAny (model prog w) A (pyIter (.ref d)) Q E s:=by
 have hT:s.TypeIs (.ref d) "dict":=⟨od,ho,hc⟩;refine wpAny_pyIter_slot hT F.slot_dict_iter (wpAny_call_entry F.slot_dict_iter hT F.entry_dict_iter ?_ (F.args_dict_iter_1 _));unfold Builtin.«dict.__iter__»;refine wpAny_bind ?_;unfold Builtin.Dict.dictSlotNone;refine wpAny_bind (wpAny_notOrdered_dict hT ?_);show wpAny _ _ (pure (Value.ref d)) _ _ s;refine wpAny_pure ?_;show wpAny _ _ (Builtin.Dict.showsAll d >>= _) _ _ s;unfold Builtin.Dict.showsAll;rw[if_neg (by rw[hd];exact Bool.false_ne_true)];refine wpAny_bind (wpAny_pure (wpAny_bind (wpAny_dictEntries ho hdat (wpAny_bind (wpAny_dictEpoch ho hdat ?_)))));exact wpAny_bind (wpAny_newObj_type (wpAny_pure ⟨_,rfl,"dict_keyiterator",_,⟨_,Heap.get?_push_size _ rfl,rfl⟩,F.slot_dict_keyiterator_next.lookup,hQ⟩))
theorem tK{Q:Option Value->Shared->Prop}(hit:s.heap.IsKeyIter it d i es.size ep)(hod:s.heap.get? d=some od)(hdd:od.data = .dict es ep)(hi:i<es.size)
  (hQ:∀h',h'.IsKeyIter it d (i+1) es.size ep->Heap.SameBut it s.heap h'->Q (some es[i].key) { s with heap:=h' }):wpAny (model prog w) A (pyNext (.ref it)) Q E s:=by
 obtain⟨o,ho,hc,hd⟩:=id hit;unfold pyNext;refine wpAny_bind (wpAny_attempt (wpAny_callSpecial?_slot (name:=Str.ofString "__next__") hit.typeIs F.slot_dict_keyiterator_next (wpAny_call_entry F.slot_dict_keyiterator_next hit.typeIs F.entry_dict_keyiterator_next ?_ (F.args_dict_keyiterator_next_1 _))));refine wpAny_bind (wpAny_pure (wpAny_bind (wpAny_bind ?_)))
 first|refine wpAny_bind (wpAny_typeNameOfWhole_keyiter hit.typeIs (wpAny_pure (wpAny_bind (wpAny_fieldsOf ho hd ?_))))|refine wpAny_bind (wpAny_typeNameOf_keyiter hit.typeIs (wpAny_pure (wpAny_bind (wpAny_fieldsOf ho hd ?_))))
 simp only[show Builtin.Dict_items.ownsTuple "dict_keyiterator" = false by decide,Bool.false_eq_true,if_false];show wpAny _ _ (if (Value.ref d == Value.none)=true then _ else _) _ _ s
 rw[if_neg (show ¬((Value.ref d == Value.none)=true) from Bool.false_ne_true)];refine wpAny_bind (wpAny_pure (wpAny_bind (wpAny_dictEntries hod hdd ?_)));rw[if_neg (by simp)];refine wpAny_bind (wpAny_pure (wpAny_bind (wpAny_dictEpoch hod hdd ?_)));rw[if_neg (by simp)];refine wpAny_pure ?_;simp only[show ¬((i:Int)<0) from by omega,if_false,Int.toNat_natCast,Array.getElem?_eq_getElem hi];refine wpAny_bind ?_
 first|refine wpAny_bind (wpAny_typeNameOfWhole_keyiter hit.typeIs (wpAny_pure (wpAny_bind (wpAny_isOneOf_keyiter hit.typeIs ?_))))|refine wpAny_bind (wpAny_typeNameOf_keyiter hit.typeIs (wpAny_pure (wpAny_bind (wpAny_isOneOf_keyiter hit.typeIs ?_))))
 show wpAny _ _ (setField (.ref it) 1 (rawInt ((i:Int)+1)) >>= _) _ _ s;refine wpAny_bind (wpAny_setField ho hd (by simp) ?_);have hit':(s.heap.update it (Obj.mapFields (·.setIfInBounds 1 (rawInt ((i:Int)+1))))).IsKeyIter it d (i+1) es.size ep:=⟨_,Heap.get?_update_self _ ho (Obj.isFreed_of_fields (Obj.data_mapFields hd _)),(Obj.cls_mapFields ..).trans hc,by rw[Obj.data_mapFields hd];simp[rawInt]⟩;refine wpAny_bind (wpAny_holding (wpAny_bind (wpAny_isOneOf_keyiter (s:={ s with heap:=s.heap.update it (Obj.mapFields (·.setIfInBounds 1 (rawInt ((i:Int)+1)))) }) hit'.typeIs ?_)));show wpAny _ _ (pure es[i].key) _ _ _;exact wpAny_pure (wpAny_pure ⟨_,rfl,wpAny_pure (hQ _ hit' (Heap.SameBut.update ..))⟩)
theorem vM{Q:Option Value->Shared->Prop}(hh:A.handled=none)(hit:s.heap.IsKeyIter it d i es.size ep)(hod:s.heap.get? d=some od)(hdd:od.data = .dict es ep)(hge:es.size<=i)
  (hQ:∀h',Heap.ExtBut it s.heap h'->Q none { s with heap:=h' }):wpAny (model prog w) A (pyNext (.ref it)) Q E s:=by
 obtain⟨o,ho,hc,hd⟩:=id hit;unfold pyNext;refine wpAny_bind (wpAny_attempt (wpAny_callSpecial?_slot (name:=Str.ofString "__next__") hit.typeIs F.slot_dict_keyiterator_next (wpAny_call_entry F.slot_dict_keyiterator_next hit.typeIs F.entry_dict_keyiterator_next ?_ (F.args_dict_keyiterator_next_1 _))));refine wpAny_bind (wpAny_pure (wpAny_bind (wpAny_bind ?_)))
 first|refine wpAny_bind (wpAny_typeNameOfWhole_keyiter hit.typeIs (wpAny_pure (wpAny_bind (wpAny_fieldsOf ho hd ?_))))|refine wpAny_bind (wpAny_typeNameOf_keyiter hit.typeIs (wpAny_pure (wpAny_bind (wpAny_fieldsOf ho hd ?_))))
 simp only[show Builtin.Dict_items.ownsTuple "dict_keyiterator" = false by decide,Bool.false_eq_true,if_false];show wpAny _ _ (if (Value.ref d == Value.none)=true then _ else _) _ _ s
 rw[if_neg (show ¬((Value.ref d == Value.none)=true) from Bool.false_ne_true)];refine wpAny_bind (wpAny_pure (wpAny_bind (wpAny_dictEntries hod hdd ?_)));rw[if_neg (by simp)];refine wpAny_bind (wpAny_pure (wpAny_bind (wpAny_dictEpoch hod hdd ?_)));rw[if_neg (by simp)];refine wpAny_pure ?_;simp only[show ¬((i:Int)<0) from by omega,if_false,Int.toNat_natCast,Array.getElem?_eq_none hge];refine wpAny_bind ?_
 first|refine wpAny_bind (wpAny_typeNameOfWhole_keyiter hit.typeIs (wpAny_pure ?_));show wpAny _ _ (setField (.ref it) 0 .none >>= _) _ _ s|refine wpAny_bind (wpAny_typeNameOf_keyiter hit.typeIs (wpAny_pure ?_));show wpAny _ _ (setField (.ref it) 0 .none >>= _) _ _ s
 refine wpAny_bind (wpAny_setField ho hd (by simp) ?_);show wpAny _ _ (newExc (.type "StopIteration") [] >>= _) _ _ _;refine wpAny_bind ?_;simp only[newExc,newTuple];refine wpAny_bind (wpAny_newObj_type ?_ (by size_fits));refine wpAny_bind (m:=firstArgMember _ _) (wpAny_of_eq (a:=Value.none) (by first|rfl|(simp only[firstArgMember];rfl)) ?_)
 refine wpAny_newObj_type ?_ (by size_fits);simp only[raiseNew];refine wpAny_bind (wpAny_handled ?_);rw[show A.in1.handled=none from hh];refine wpAny_bind (wpAny_pure (wpAny_throw ?_));exact wpAny_bind (wpAny_isInstance (T:="StopIteration") (b:=true) ⟨_,Heap.get?_push_size _ rfl,rfl⟩ isSubtype_stop (wpAny_pure (hQ _ (((Heap.SameBut.update ..).extBut.push _).push _))))
end
noncomputable def Itd(a:Addr)(o:Obj)(kvs:List (List Key×V)):It :=
 ⟨λi H=>H a=some (.frz o (.dT kvs))/\i<kvs.length,λi H x H'=>H'=H/\∃k v b,kvs[i]? = some (k,v)/\x = .ref b/\H b=some (.tup (k.map kV)),λi H=>H a=some (.frz o (.dT kvs))/\kvs.length<=i⟩
theorem jZ{P:Program}{w:World}{H:Hp}{h:Heap}{a:Addr}{o:Obj}{kvs:List (List Key×V)}{es:Array DictEntry}{ep:Nat}(k:HOk P w H h)(e:H a=some (.frz o (.dT kvs)))(d:o.data = .dict es ep) :
  h.get? a=some o/\o.cls = .type "dict"/\(a == sysModules)=false/\es.size=kvs.length/\∀(i:Nat) (hi:i<es.size),∃q v b,kvs[i]? = some (q,v)/\es[i].key = .ref b/\H b=some (.tup (q.map kV)):=by
 obtain⟨g,_,sm,xs,pr,o',es',ep',g',ex,d',el,_⟩:=(show h.get? a=some o/\bV P w H h a (.dT kvs) from k a _ e);rw[g]at g';cases g';rw[d]at d';cases d';have len:es.size=kvs.length:=by
  have:=congrArg List.length el;rw[List.length_map]at this;rw[<- Array.length_toList,this];exact(Paired.length pr).symm
 refine⟨g,ex.1,sm,len,λi hi=>?_⟩;have hx:i<xs.length:=by rw[<- Paired.length pr,<- len];exact hi
 have get:∀{kvs:List (List Key×V)} {xs:List (List Key×Addr×Value)},Paired (λ(p:List Key×V) (q:List Key×Addr×Value)=>p.1=q.1/\H q.2.1=some (.tup (p.1.map kV))/\a9 p.2 q.2.2) kvs xs->∀(i:Nat) (q:List Key×Addr×Value),xs[i]? = some q->∃v,kvs[i]? = some (q.1,v)/\H q.2.1=some (.tup (q.1.map kV)):=by
  intro kvs xs pr
  induction pr with
  | nil=>intro i q e;simp at e
  | cons a r ih =>
   intro i q e;cases i with
   | zero =>
    simp at e;subst e;exact⟨_,by rw[<- a.1];rfl,by rw[<- a.1];exact a.2.1⟩
   | succ j=>exact ih j q (by simpa using e)
 obtain⟨q,hq⟩:∃q,xs[i]? = some q:=⟨xs[i],by simp[hx]⟩;obtain⟨v,e1,e2⟩:=get pr i q hq;have e3:es.toList[i]? = some (entryOfKey (tupleKind (cJ P w)) q):=by rw[el,List.getElem?_map,hq];rfl
 have e4:es[i]=entryOfKey (tupleKind (cJ P w)) q:=by
  have:es.toList[i]? = some es[i]:=by simp[hi]
  rw[this]at e3;exact Option.some.inj e3
 exact⟨q.1,v,q.2.1,e1,by rw[e4];rfl,e2⟩
theorem rD{P:Program}{w:World}{K:W.Frag}{tg:Expr}{kvs:List (List Key×V)}{es:Array DictEntry}{ep:Nat}{o:Obj}(a it:Addr)(hd:o.data = .dict es ep):El P w K tg (Itd a o kvs) [it] it (λi h=>h.IsKeyIter it a i es.size ep) where
 mem:=by simp
 obj:=λi h st b hb=>by
  have e:b=it:=by simpa using hb
  subst e;obtain⟨o,e,c,d⟩:=st;exact⟨o,e,λv z=>by rw[d]at z;cases z⟩
 keep:=λi h h' st k=>st.at λo e=>k it (by simp) o e
 item:=by
  intro X hP hw hK hc i pins s σ H E I hf st hg;subst hP hw hK;obtain⟨e,hi⟩:=hg;obtain⟨g,gc,_,len,at'⟩:=jZ I.hok e hd;obtain⟨q,v,b,e1,e2,e3⟩:=at' i (by omega);obtain⟨f0,f1,f2,f3,f4,f5⟩:=hf it (by simp);refine tK st g hd (by omega) λh' st' sb=>?_;have I1:AU X pins σ H { s with heap:=h' }:=I.turned (t':=s.toks) (λb o hb e=>(sb.2 b hb).trans e) f0 f1 f3 f4 f5;obtain⟨oi,ei,ci,di⟩:=id st';exact⟨_,rfl,lI (s:={ s with heap:=h' }) ei ci di (by decide) ⟨.ref b,H,I1,e2,⟨rfl,q,v,b,e1,rfl,e3⟩,st',λb hb=>(hf b hb).1⟩⟩
 done:=by
  intro X hP hw hK hc i pins s σ H E I hf st hg;subst hP hw hK;obtain⟨e,hi⟩:=hg;obtain⟨g,gc,_,len,_⟩:=jZ I.hok e hd;obtain⟨f0,f1,f2,f3,f4,f5⟩:=hf it (by simp);exact vM (I.ok.hd hc) st g hd (by omega) λh' eb=>⟨rfl,I.turned (t':=s.toks) (λb o hb e=>eb b o hb e) f0 f1 f3 f4 f5⟩
 self:=λ_ _ _ _ _ st h=>wpAny_pyIter_keyiter st h
section
variable {X:Cx} {tg:Expr}
noncomputable def zW(tl:TE):TI:=λσ H R=>tl σ H λx H1=>∃a o kvs,x = .ref a/\H1 a=some (.frz o (.dT kvs))/\R (Itd a o kvs) H1
theorem qr{l:Expr}{tl:TE}(hl:PE X l tl):PI X tg l (zW tl):=by
 intro pins s σ H R I h;refine thn (hl pins s σ H _ I h) λv s1 ⟨x,H1,I1,r1,q1⟩=>?_;obtain⟨a,o,kvs,rfl,e,q⟩:=q1;obtain rfl:v=Value.ref a:=r1;obtain⟨es,ep,d⟩:∃es ep,o.data = .dict es ep:=by
  obtain⟨g,_,_,xs,pr,o',es',ep',g',ex,d',_⟩:=(show s1.heap.get? a=some o/\bV X.prog X.w H1 s1.heap a (.dT kvs) from I1.hok a _ e);rw[g]at g';cases g';exact⟨_,_,d'⟩
 obtain⟨g,gc,sm,len,_⟩:=jZ I1.hok e d;refine tJ sm g gc d ?_;refine⟨s1.heap.objs.size,[s1.heap.objs.size],_,_,H1,rfl,I1.kept (t':=s1.toks) λb o e=>Heap.get?_push_of_some _ e,rD a _ d,⟨_,Heap.get?_push_size _ rfl,rfl,rfl⟩,λb hb=>?_,q⟩;have e:b=s1.heap.objs.size:=by simpa using hb
 subst e;exact I1.fpOk (Nat.le_refl _) (I1.hok.fresh (Nat.le_refl _))
noncomputable def Au(te:TE):TE:=λσ H Q=>te σ H λx H1=>∃a kvs,x = .ref a/\H1 a=some (.dT kvs)/\∀o,Q (.ref a) (upd H1 a (.frz o (.dT kvs)))
theorem yh{e:Expr}{te:TE}(h:PE X e te):PE X e (Au te):=by
 intro pins s σ H Q I hq;refine thn (h pins s σ H _ I hq) λv s1 ⟨x,H1,I1,r1,a,kvs,ex,ea,k⟩=>?_;subst ex;have ok:=I1.hok a _ ea;obtain⟨_,_,_,_,o,_,_,g,_⟩:=(show bV X.prog X.w H1 s1.heap a (.dT kvs) from ok);have tup:∀b xs,H1 b=some (.tup xs)->upd H1 a (.frz o (.dT kvs)) b=some (.tup xs):=λb xs q=>by
  rw[aN (λz=>by rw[z,ea]at q;cases q)];exact q
 have J:AU X pins σ (upd H1 a (.frz o (.dT kvs))) { s1 with heap:=s1.heap,toks:=s1.toks }:=I1.write (x:=a) (e:=a) (by rw[ea];trivial) (.inl rfl) (λ_ _ _ q=>q) ⟨o,g⟩
  ⟨g,ok.stay (λ_ _ _ q=>q) (λb q=>by rw[aN (λz=>by rw[z,ea]at q;cases q)];exact q) tup⟩
 exact⟨.ref a,_,J,r1,k o⟩
end
end L2
namespace L2
open PySem PySem.Spec PyProof.Rows PySem.W
noncomputable abbrev KnO(o:Obj):HO:=.frz o (.ext λ_=>True)
theorem nU{P:Program}{w:World}{H:Hp}{h:Heap}{a:Addr}{o:Obj}(e:h.get? a=some o):bV P w H h a (KnO o):=⟨e,trivial,⟨o,e⟩,λ_ _ _ _=>trivial⟩
theorem gJ{P:Program}{w:World}{H:Hp}{h:Heap}{a:Addr}{o:Obj}(k:HOk P w H h)(e:H a=some (KnO o)):h.get? a=some o:=(show h.get? a=some o/\_ from k a _ e).1
noncomputable def dH(H:Hp)(c:Addr)(v:V):Prop:=∃o u,H c=some (KnO o)/\o.data = .cell (some u)/\a9 v u
noncomputable def iZ(H:Hp)(c:Addr)(q:Str):Prop:=∃o vs t,H c=some (KnO o)/\o.data = .fields vs/\vs[1]? = some (.str q t)
theorem iZ.rec_{P:Program}{w:World}{H:Hp}{h:Heap}{c:Addr}{q:Str}(x:iZ H c q)(k:HOk P w H h):h.CodeRec (.ref c) q:=by
 obtain⟨o,vs,t,e,d,g⟩:=x;exact⟨c,o,vs,t,rfl,gJ k e,d,g⟩
noncomputable def eA(p:Addr)(H H':Hp):Prop:=∀b o,b≠p->H b=some o->H' b=some o
noncomputable def kA(K:Frag)(c p:Addr):Prop :=
 ∃o vs file tf flags tg inF text tt,K.lookup c=some o/\o.cls = .type "code"/\o.data = .fields vs/\vs[11]? = some (.ref p)/\vs.getD 11 .none = .ref p/\vs.getD 18 .none = .str file tf /\
  vs.getD 7 .none = .int flags tg/\vs.getD 9 .none = .bool inF/\vs.getD 10 .none = .int text tt/\c≠p
theorem kA.hd{K:Frag}{c p:Addr}{h:Heap}(x:kA K c p)(X:K.In h):CodeHd h c p:=by
 obtain⟨o,vs,file,tf,flags,tg,inF,text,tt,e,r⟩:=x;exact⟨o,vs,file,tf,flags,tg,inF,text,tt,X _ _ e,r⟩
noncomputable def xg(K:Frag)(mg:Str->Option Value):Prop :=
 ∃bm o,mg "__builtins__" = some (.ref bm)/\bm≠builtinsNs/\bm≠mainGlobals/\K.lookup bm=some o/\o.cls = .type "module"/\o.dict=some builtinsNs/\o.data = .plain
noncomputable def Tab(H:Hp)(p:Addr)(ls:List (Pos×Str)):Prop :=
 ∃ps,H p=some (.tbl ps)/\TriplesOk ps.toList/\∀l∈ls,codeAmong l.1 ps.toList=none\/∃c,codeAmong l.1 ps.toList=some (.ref c)/\iZ H c l.2
theorem Tab.same{H H':Hp}{p:Addr}{ls:List (Pos×Str)}(t:Tab H p ls)(s:Same H H'):Tab H' p ls:=by
 obtain⟨ps,e,k,a⟩:=t;refine⟨ps,s _ _ e,k,λl hl=>(a l hl).imp_right ?_⟩;rintro⟨c,e2,o,vs,t,e3,r⟩;exact⟨c,e2,o,vs,t,s _ _ e3,r⟩
noncomputable def lX(H:Hp)(f:Addr)(q:Str)(params:Arguments)(body:Expr)(scope:Scope)(clos:List (Str×Addr)):Prop :=
 ∃pm c ctv,H f=some (KnO (kla_obj "<lambda>" q params body scope clos pm c ctv))/\iZ H c q
theorem lX.same{H H':Hp}{f:Addr}{q:Str}{params:Arguments}{body:Expr}{scope:Scope}{clos:List (Str×Addr)}(t:lX H f q params body scope clos)(s:∀b o,H b=some (KnO o)->H' b=some (KnO o)):lX H' f q params body scope clos:=by
 obtain⟨pm,c,ctv,e,o,vs,t,e3,r⟩:=t;exact⟨pm,c,ctv,s _ _ e,o,vs,t,s _ _ e3,r⟩
theorem kW{pos pos':Pos}{c:Value}(l:List Value)(h:TriplesOk l)(ne:¬(pos'.line=pos.line/\pos'.col=pos.col)):codeAmong pos' (l++[rawInt pos.line,rawInt pos.col,c])=codeAmong pos' l:=by
 fun_induction TriplesOk l with
 | case1 =>
  show codeAmong pos' [rawInt pos.line,rawInt pos.col,c]=codeAmong pos' [];simp only[rawInt,codeAmong];rw[if_neg];intro z;rw[Bool.and_eq_true]at z;have z1:=eq_of_beq z.1;have z2:=eq_of_beq z.2;exact ne ⟨by omega,by omega⟩
 | case2 a ta b tb c' rest ih =>
  show codeAmong pos' (.int a ta::.int b tb::c'::(rest++[rawInt pos.line,rawInt pos.col,c]))=codeAmong pos' (.int a ta::.int b tb::c'::rest);unfold codeAmong;rw[ih h]
 | case3 l h1 h2=>exact h.elim
noncomputable def Ar(p:Addr)(ls:List (Pos×Str))(q:Str)(params:Arguments)(body:Expr)(scope:Scope)(clos:List (Str×Addr)):TE:=λ_ H Q =>
 Tab H p ls/\∀f H',eA p H H'->Tab H' p ls->lX H' f q params body scope clos->H f=none->Q (.ref f) H'
section
variable {X:Cx} {params:Arguments} {body:Expr} {scope:Scope} {pos:Pos} {clos:List (Str×Addr)} {c p:Addr} {ls:List (Pos×Str)} {q:Str}
theorem tR(hcl:closureFor scope X.env=pure clos)(hcode:X.env.code = .ref c)(C:kA X.K c p)(B:xg X.K X.mg)(hdef:defaultsOf params X.env=([],[]))(hq:q=X.env.qual++"<lambda>")(hm:(pos,q)∈ls)
  (hd:∀l∈ls,l≠(pos,q)->¬(l.1.line=pos.line/\l.1.col=pos.col)):PE X (.Lambda params body scope pos) (Ar p ls q params body scope clos):=by
 intro pins s σ H Q I h;obtain⟨⟨ps,hp,tk,ok⟩,k⟩:=h;subst hq;have hP:s.heap.get? p=some (tabObj ps):=I.hok p _ hp;have hg:s.heap.Ns mainGlobals X.mg:=I.mod.glob.keeps I.bk;have hgP:mainGlobals≠p:=λz=>by
  obtain⟨o,es,ep,e,d,_⟩:=hg;rw[z,hP]at e;cases e;cases d
 obtain⟨bm,ob,b1,b2,b3,b4,b5,b6,b7⟩:=B;have hbm:=I.kIn _ _ b4;have hbP:bm≠p:=λz=>by
  rw[z,hP]at hbm;cases hbm;cases b7
 have BA:s.heap.BuiltinsAt X.mg p:=⟨bm,ob,b1,b2,b3,hbP,hbm,b5,b6,b7⟩;have CH:=C.hd I.kIn;refine kla_eval hdef ?_;rcases ok _ hm with hn|⟨c',hc',ck⟩
 ·refine kla_makeFunction (mg:=X.mg) hcl I.ok.glob hg hcode CH hP tk hn hgP BA λc' ctv h' t' hx hge hlt hrec htb=>?_
  obtain⟨c2,oc,vs,t,e2,hoc,hd2,hv⟩:=hrec;cases e2;have hfo:h'.objs.size≠c':=Nat.ne_of_gt hlt;have hpo:p<s.heap.objs.size:=Heap.lt_size hP;have pc:p≠c':=Nat.ne_of_lt (Nat.lt_of_lt_of_le hpo hge);have pf:p≠h'.objs.size:=Nat.ne_of_lt (Nat.lt_trans (Nat.lt_of_lt_of_le hpo hge) hlt);have nc:H c'=none:=I.hok.fresh hge;have nf:H h'.objs.size=none:=I.hok.fresh (Nat.le_of_lt (Nat.lt_of_le_of_lt hge hlt));generalize hps:ps++#[rawInt pos.line,rawInt pos.col,.ref c']=ps' at htb;generalize hfob:kla_obj "<lambda>" (X.env.qual++"<lambda>") params body scope clos ((X.mg "__name__").getD .none) c' ctv=fo at *;have nfr:fo.isFreed=false:=by rw[<- hfob];rfl
  have ext:∀b o,b≠p->s.heap.get? b=some o->(h'.push fo).get? b=some o:=λb o ne e=>Heap.get?_push_of_some _ (hx b o ne e)
  let H':Hp:=upd (upd (upd H p (.tbl ps')) c' (KnO oc)) h'.objs.size (KnO fo)
  have Hf:H' h'.objs.size=some (KnO fo):=upd_same;have Hc:H' c'=some (KnO oc):=(aN hfo.symm).trans upd_same;have Hp':H' p=some (.tbl ps'):=(aN pf).trans ((aN pc).trans upd_same);have Hb:∀b,b≠p->b≠c'->b≠h'.objs.size->H' b=H b:=λb z1 z2 z3=>(aN z3).trans ((aN z2).trans (aN z1));have Hs:eA p H H':=λb o ne e=>by
   rw[Hb b ne (λz=>by rw[z,nc]at e;cases e) (λz=>by rw[z,nf]at e;cases e)];exact e
  have old:∀b o,s.heap.get? b=some o->b≠c'/\b≠h'.objs.size:=λb o e=>⟨Nat.ne_of_lt (Nat.lt_of_lt_of_le (Heap.lt_size e) hge),Nat.ne_of_lt (Nat.lt_trans (Nat.lt_of_lt_of_le (Heap.lt_size e) hge) hlt)⟩;have npn:∀b,H b=none->b≠p:=λb n z=>by rw[z,hp]at n;cases n
  have un:Un X.fs [] H H' s.heap (h'.push fo):=by
   refine⟨λb o e n _ _=>ext b o (npn b n) e,λb o e n _ _=>⟨o.slots,ext b o (npn b n) e⟩,λb o e n _=>?_,λb o e _=>?_,λb xs e=>Hs b _ (λz=>by rw[z,hp]at e;cases e) e,λb o u e=>Hs b _ (λz=>by rw[z,hp]at e;cases e) e,λb ps2 e=>?_⟩
   ·rw[Hb b (npn b n) (old b o e).1 (old b o e).2];exact n
   ·by_cases z:b=p
    ·subst z;exact⟨_,Heap.get?_push_of_some _ htb⟩
    ·exact⟨o,ext b o z e⟩
   ·by_cases z:b=p
    ·subst z
     rw[hp]at e;cases e;exact⟨_,by rw[Hp',<- hps]⟩
    ·exact⟨#[],by rw[Hs b _ z e];simp⟩
  have hok:HOk X.prog X.w H' (h'.push fo):=λb u e=>by
   by_cases z3:b=h'.objs.size
   ·subst z3
    rw[Hf]at e;cases e;exact nU (Heap.get?_push_size _ nfr)
   ·by_cases z2:b=c'
    ·subst z2
     rw[Hc]at e;cases e;exact nU (Heap.get?_push_of_some _ hoc)
    ·by_cases z1:b=p
     ·subst z1
      rw[Hp']at e;cases e;exact Heap.get?_push_of_some _ htb
     ·rw[Hb b z1 z2 z3]at e
      refine(I.hok b u e).stay (λd v hd' q=>ext d v ?_ q) (λd q=>Hs d _ (λz=>by rw[z,hp]at q;cases q) q) λd xs q=>Hs d _ (λz=>by rw[z,hp]at q;cases q) q;rcases hd' with rfl|hd'
      ·exact z1
      ·intro z
       rw[z,hp]at hd';cases hd'
  have CK:iZ H' c' (X.env.qual++"<lambda>"):=⟨oc,vs,t,Hc,hd2,hv⟩;have e0:ps'.toList=ps.toList++[rawInt pos.line,rawInt pos.col,.ref c']:=by rw[<- hps];simp
  refine⟨.ref h'.objs.size,H',I.un (t':=t') un hok,rfl,k _ H' Hs ⟨ps',Hp',?_,λl hl=>?_⟩ ⟨_,c',ctv,by rw[Hf,<- hfob],CK⟩ nf⟩
  ·rw[e0]
   exact TriplesOk_snoc _ _ _ _ tk
  ·by_cases z:l=(pos,X.env.qual++"<lambda>")
   ·subst z
    refine .inr ⟨c',?_,CK⟩;rw[e0];exact codeAmong_snoc _ tk hn
   ·rw[e0,kW _ tk (hd l hl z)]
    refine(ok l hl).imp_right ?_;rintro⟨c3,e3,o3,vs3,t3,e4,r4⟩;exact⟨c3,e3,o3,vs3,t3,Hs _ _ (λz=>by rw[z,hp]at e4;cases e4) e4,r4⟩
 ·refine kla_makeFunctionHit (mg:=X.mg) hcl I.ok.glob hg hcode CH hP tk hc' BA λctv h' t' hx hsz=>?_
  have nf:H h'.objs.size=none:=I.hok.fresh hsz;have J:=I.laid (a:=h'.objs.size) (o:=KnO (kla_obj "<lambda>" (X.env.qual++"<lambda>") params body scope clos ((X.mg "__name__").getD .none) c' ctv)) (t':=t') (h':=h'.push (kla_obj "<lambda>" (X.env.qual++"<lambda>") params body scope clos ((X.mg "__name__").getD .none) c' ctv))
   (λb o e=>Heap.get?_push_of_some _ (hx b o e)) hsz (nU (Heap.get?_push_size _ rfl))
  have S:Same H (upd H h'.objs.size (KnO (kla_obj "<lambda>" (X.env.qual++"<lambda>") params body scope clos ((X.mg "__name__").getD .none) c' ctv))):=λb o e=>by
   rw[aN (λz=>by rw[z,nf]at e;cases e)];exact e
  obtain⟨o,vs,t,e3,r⟩:=ck;exact⟨.ref h'.objs.size,_,J,rfl,k _ _ (λb o _ e=>S b o e) (Tab.same ⟨ps,hp,tk,ok⟩ S) ⟨_,c',ctv,upd_same,o,vs,t,S _ _ e3,r⟩ nf⟩
end
noncomputable abbrev cut(C:List Addr)(H:Hp):Hp:=λb=>if b∈C then none else H b
noncomputable abbrev ni(C:List Addr)(H H1:Hp):Hp:=λb=>if b∈C then H b else H1 b
theorem ka{C:List Addr}{H:Hp}{b:Addr}(h:b∈C):cut C H b=none:=if_pos h
theorem cW{C:List Addr}{H:Hp}{b:Addr}(h:b∉C):cut C H b=H b:=if_neg h
theorem l6{C:List Addr}{H H1:Hp}{b:Addr}(h:b∈C):ni C H H1 b=H b:=if_pos h
theorem dC{C:List Addr}{H H1:Hp}{b:Addr}(h:b∉C):ni C H H1 b=H1 b:=if_neg h
theorem lj{C:List Addr}{H H1:Hp}(s:Same (cut C H) H1):Same H (ni C H H1):=λb o e=>by
 by_cases h:b∈C
 ·rw[l6 h];exact e
 ·rw[dC h];exact s b o ((cW h).trans e)
theorem yY{P:Program}{w:World}{H:Hp}{h:Heap}{C:List Addr}(hok:HOk P w H h)(hC:∀c∈C,∃o,H c=some (KnO o)):HOk P w (cut C H) h:=λb u e=>by
 have hb:b∉C:=λz=>by rw[ka z]at e;cases e
 rw[cW hb]at e;have ne:∀d o,H d=some o->(∀z,o≠KnO z)->d∉C:=λd o e n z=>by
  obtain⟨o',e'⟩:=hC d z;rw[e]at e';exact n o' (Option.some.inj e')
 refine(hok b u e).stay (λ_ _ _ q=>q) (λd q=>?_) λd xs q=>?_
 ·rw[cW (ne d _ q λz q=>by cases q)];exact q
 ·rw[cW (ne d _ q λz q=>by cases q)];exact q
noncomputable def u4(P:Program)(w:World)(K:W.Frag)(mg:Str->Option Value)(base:Heap)(N:List Str)(qual:Str)(scope:Scope)(f:Addr)(cd:Value)(cl:List (Str×Addr))(A:Around)(outer:List Env)(s:Shared)(H:Hp):Cx where
 prog:=P
 w:=w
 K:=K
 mg:=mg
 base:=base
 A:=A.deeper (envX qual scope s.heap.objs.size f cd cl)
 N:=N
 s₀:=s
 H₀:=H
 env:=envX qual scope s.heap.objs.size f cd cl
 outer:=outer
 stack:=envX qual scope s.heap.objs.size f cd cl::outer
 ex:=[]
 calm:=true
 fn:=λ_=>false
 pn:=[]
 xe:=λ_ _=>False
structure GU(x:Str)(scope:Scope)(cl:List (Str×Addr)):Prop where
 kind:scope.kind = .function
 co:scope.isCoroutine=false
 gen:scope.isGenerator=false
 cell:∀y∈scope.names,y.2≠.cell
 own:scope.names.lookup x=some .local
 has:(scope.names.all λq=>!(q.2 == .free) || (cl.lookup q.1).isSome)=true
 nd:(x::cl.map (·.1)).Nodup
 fr:∀p∈cl,scope.names.lookup p.1=some .free
 inj:∀p∈cl,∀q∈cl,p.2=q.2->p.1=q.1
theorem sJ{cl:List (Str×Addr)}:∀(_:(cl.map (·.1)).Nodup) {j:Nat} {y:Str} {c:Addr},cl[j]? = some (y,c)->cl.lookup y=some c:=by
 induction cl with
 | nil=>intro _ j y c e;simp at e
 | cons a r ih =>
  intro nd j y c e;rw[List.map_cons,List.nodup_cons]at nd;rw[List.lookup_cons];cases j with
  | zero =>
   simp at e;subst e;simp
  | succ j =>
   have e':r[j]? = some (y,c):=by simpa using e
   have:y≠a.1:=λz=>nd.1 (List.mem_map.mpr ⟨(y,c),List.mem_of_getElem? e',z⟩);rw[beq_eq_false_iff_ne.mpr this];exact ih nd.2 e'
section
variable {P:Program} {w:World} {K:W.Frag} {mg:Str->Option Value} {base:Heap}
theorem v9{x q:Str}{scope:Scope}{cl:List (Str×Addr)}{f c:Addr}{A:Around}{outer:List Env}{s:Shared}{h₁:Heap}{tk:Nat}{H:Hp}{v:V}{u:Value}{ws:List V}(L:GU x scope cl)(hd:A.handled=none)(e0:EM P w K mg base A outer s H)
  (cs:Paired (λ(p:Str×Addr) z=>dH H p.2 z) cl ws) (rv:a9 v u) (hns:h₁.Ns s.heap.objs.size (λy=>[(x,u)].reverse.lookup y)) (hk:∀b o,s.heap.get? b=some o->h₁.get? b=some o) :
  AU (u4 P w K mg base (x::cl.map (·.1)) q scope f (.ref c) cl A outer s (cut (cl.map (·.2)) H)) [] (some v::ws.map some) (cut (cl.map (·.2)) H) { s with heap:=h₁,toks:=tk }:=by
 have get:∀{j:Nat} {p:Str×Addr},cl[j]? = some p->∃z,ws[j]? = some z/\dH H p.2 z:=by
  clear L hns
  induction cs with
  | nil=>intro j p e;simp at e
  | cons a r ih =>
   intro j p e;cases j with
   | zero=>simp at e;subst e;exact⟨_,rfl,a⟩
   | succ j=>exact ih (by simpa using e)
 have len:cl.length=ws.length:=Paired.length cs;have hC:∀d∈cl.map (·.2),∃o,H d=some (KnO o):=λd hd'=>by
  obtain⟨p,hp,rfl⟩:=List.mem_map.mp hd';obtain⟨j,hj⟩:=List.getElem?_of_mem hp;obtain⟨z,_,o,_,e,_⟩:=get hj;exact⟨o,e⟩
 have isC:∀y d,cl.lookup y=some d->d∈cl.map (·.2)/\∃z,s.heap.IsCell d z:=λy d e=>by
  have hm:=PySem.mem_of_lookup e;obtain⟨j,hj⟩:=List.getElem?_of_mem hm;obtain⟨z,_,o,u',e',d',_⟩:=get hj;exact⟨List.mem_map.mpr ⟨_,hm,rfl⟩,some u',o,gJ e0.hok e',d'⟩
 have noA:∀b:Addr,b∉(u4 P w K mg base (x::cl.map (·.1)) q scope f (.ref c) cl A outer s (cut (cl.map (·.2)) H)).ex:=λb z=>absurd (show b∈([]:List Addr) from z) (by simp);have hcut:=yY (C:=cl.map (·.2)) e0.hok hC;have cn:∀b,H b=none->cut (cl.map (·.2)) H b=none:=λb n=>by
  by_cases z:b∈cl.map (·.2)
  ·exact ka z
  ·rw[cW z];exact n
 have inv:∀h':Heap,(∀b o,s.heap.get? b=some o->h'.get? b=some o)->Un (frs outer) [] (cut (cl.map (·.2)) H) (cut (cl.map (·.2)) H) s.heap h':=λh' k=>Un.kept k;refine⟨⟨e0.mod,L.kind,rfl,rfl,Nat.le_refl _,λy z d h1 h2=>?_,λy hy=>?_,λy d z=>(by cases z),λ_=>hd,Around.frames_deeper e0.frames,.inr ⟨rfl,rfl⟩,λb z=>absurd z (noA b),λb o e=>⟨(e0.bs b o e).1,cn b (e0.bs b o e).2⟩,e0.bsz,λb _ _=>noA b,λb z=>absurd z (noA b),e0.funs,λb hb=>cn b (e0.frf b hb)⟩,
  rfl,e0.bare,inv h₁ hk,⟨_,hns,λi y v' h1 h2 h3=>?_⟩,λy d h=>?_,?_,λy d h=>?_,λp hp=>absurd (show p∈([]:List (Addr×Obj)) from hp) (by simp),hcut.kept hk,?_⟩
 ·exact L.inj _ (PySem.mem_of_lookup h1) _ (PySem.mem_of_lookup h2) rfl
 ·have hy:scope.names.lookup y=some .cell\/scope.names.lookup y=some .free:=hy
  rcases hy with hy|hy
  ·exact absurd rfl (L.cell _ (PySem.mem_of_lookup hy))
  ·have q:=List.all_eq_true.mp L.has _ (PySem.mem_of_lookup hy)
   have q:(cl.lookup y).isSome=true:=by simpa only[beq_self_eq_true,Bool.not_true,Bool.false_or]using q
   exact Option.isSome_iff_exists.mp q
 ·have h1:(x::cl.map (·.1))[i]? = some y:=h1
  cases i with
  | zero =>
   have e1:x=y:=by simpa using h1
   have e2:v=v':=by simpa using h2
   subst e1 e2;exact⟨u,rv,.inl ⟨L.own,by simp⟩⟩
  | succ j =>
   have e1:(cl.map (·.1))[j]? = some y:=by simpa using h1
   rw[List.getElem?_map]at e1;cases hj:cl[j]? with
   | none=>rw[hj]at e1;cases e1
   | some p =>
    rw[hj]at e1;have e1:p.1=y:=by simpa using e1
    obtain⟨z,hz,o,u',e',d',r'⟩:=get hj;have e2:z=v':=by
     have:(ws.map some)[j]? = some (some v'):=by simpa using h2
     rw[List.getElem?_map,hz]at this;simpa using this
    subst e1 e2;refine⟨u',r',.inr ⟨.inr (L.fr p (List.mem_of_getElem? hj)),p.2,sJ (List.nodup_cons.mp L.nd).2 (c:=p.2) (y:=p.1) hj,o,hk _ _ (gJ e0.hok e'),d'⟩⟩
 ·obtain⟨z,o,e,d'⟩:=(isC y d h).2
  exact⟨z,o,hk _ _ e,d'⟩
 ·exact cn _ (e0.hok.fresh (Nat.le_refl _))
 ·exact ka (isC y d h).1
 ·show(some v::ws.map some).length=(x::cl.map (·.1)).length
  simp[len]
noncomputable def zF(f:Addr)(q:Str)(params:Arguments)(body:Expr)(scope:Scope)(cl:List (Str×Addr))(pm:Value)(c:Addr)(ctv:Value)(te:TE):Sp:=λvs H Q _ =>
 ∃v ws,vs = [v]/\H f=some (KnO (kla_obj "<lambda>" q params body scope cl pm c ctv))/\iZ H c q/\Paired (λ(p:Str×Addr) z=>dH H p.2 z) cl ws /\
  te (some v::ws.map some) (cut (cl.map (·.2)) H) λr H1=>(∀c∈cl.map (·.2),H1 c=none)->Q r (ni (cl.map (·.2)) H H1)
theorem uG{x q:Str}{params:Arguments}{body:Expr}{scope:Scope}{cl:List (Str×Addr)}{pm ctv:Value}{f c:Addr}{te:TE}{k:Nat}(L:GU x scope cl)
  (hbody:∀(A:Around) (outer:List Env) (s:Shared) (H:Hp),Bv k (A.deeper (envX q scope s.heap.objs.size f (.ref c) cl))->PE (u4 P w K mg base (x::cl.map (·.1)) q scope f (.ref c) cl A outer s H) body te) :
  C3 P w K mg base CX0 (k+1) f (kla_fn "<lambda>" q params body scope cl pm (.ref c) ctv) [x] (zF f q params body scope cl pm c ctv te):=by
 refine⟨λvs H Q E h=>?_,λA outer s H args us vs Q E hr e0 hb r hsp=>?_⟩
 ·obtain⟨v,ws,rfl,_⟩:=h
  rfl
 ·obtain⟨v,ws,rfl,ef,ck,cs,h⟩:=hsp
  cases r with
  | cons rv r =>
   cases r;rename_i u;have lim:s.heap.NoLimit:=e0.mod.nolimit.keeps λb o e=>(e0.bs b o e).1;refine kla_callFunE hr.depth (gJ e0.hok ef) rfl L.co L.gen rfl (ck.rec_ e0.hok) (hb _ _ _ _ ?_);refine wpAny_newFunctionEnv L.cell (λy hy=>?_) (λh1 hns hsb=>⟨lim.fresh _ hsb,?_⟩) L.kind
   ·obtain rfl:y=(x,u):=by simpa using hy
    exact L.own
   ·show codeAny _ _ (.expr body (envX q scope s.heap.objs.size f (.ref c) cl)) _ _
    have hk1:∀b o,s.heap.get? b=some o->h1.get? b=some o:=λb o e=>hsb.extBut b o (Nat.ne_of_lt (Heap.lt_size e)) (Heap.get?_push_of_some _ e);have I:=v9 (q:=q) (f:=f) (c:=c) (tk:=s.toks+([x].zip [u]).length) L hr.hd e0 cs rv hns hk1;refine kla_codeExpr (wpAny_mono (hbody A outer s _ (hr.deeper _) _ _ _ _ _ I h) (λu' s' hq=>?_) λ_ _ z=>False.elim z);obtain⟨v',H1,J,r',q'⟩:=hq;have hC:∀d∈cl.map (·.2),∃o,H d=some (KnO o)/\s.heap.get? d=some o:=λd hd'=>by
     obtain⟨p,hp,rfl⟩:=List.mem_map.mp hd';have:∀{l:List (Str×Addr)} {ws:List V},Paired (λ(p:Str×Addr) z=>dH H p.2 z) l ws->p∈l->∃z,dH H p.2 z:=by
      intro l ws cs
      induction cs with
      | nil=>intro z;cases z
      | cons a r ih =>
       intro z;rcases List.mem_cons.mp z with rfl|z
       ·exact⟨_,a⟩
       ·exact ih z
     obtain⟨z,o,_,e,_⟩:=this cs hp;exact⟨o,e,gJ e0.hok e⟩
    have B:Un (frs outer) [] (cut (cl.map (·.2)) H) H1 s.heap s'.heap:=J.base;have nin:∀b,(∀o,H b≠some (KnO o))->b∉cl.map (·.2):=λb n z=>by
     obtain⟨o,e,_⟩:=hC b z;exact n o e
    have out:∀b,H b=none->b∉cl.map (·.2):=λb n=>nin b λo e=>by rw[n]at e;cases e
    have h1n:∀d∈cl.map (·.2),H1 d=none:=λd hd'=>by
     obtain⟨o,_,e⟩:=hC d hd';exact B.free d o e (ka hd') (by simp)
    have sC:∀d∈cl.map (·.2),∀o,s.heap.get? d=some o->s'.heap.get? d=some o:=λd hd' o e=>by
     refine B.keep d o e (ka hd') (λz=>?_) (by simp);obtain⟨o',e',_⟩:=hC d hd';rw[e0.frf d z]at e';cases e'
    refine⟨v',ni (cl.map (·.2)) H H1,J.os,J.bare,⟨λb o e n hb hx=>?_,λb o e n hb hx=>?_,λb o e n hx=>?_,λb o e hx=>B.there b o e hx,λb xs e=>?_,λb o u e=>?_,λb ps e=>?_⟩,λb u e=>?_,r',q' h1n⟩
    ·exact B.keep b o e ((cW (out b n)).trans n) hb hx
    ·exact B.slot b o e ((cW (out b n)).trans n) hb hx
    ·rw[dC (out b n)]
     exact B.free b o e ((cW (out b n)).trans n) hx
    ·have z:b∉cl.map (·.2):=nin b λo' e'=>by rw[e]at e';cases e'
     rw[dC z];exact B.tups b xs ((cW z).trans e)
    ·by_cases z:b∈cl.map (·.2)
     ·rw[l6 z];exact e
     ·rw[dC z]
      exact B.frzs b o u ((cW z).trans e)
    ·have z:b∉cl.map (·.2):=nin b λo' e'=>by rw[e]at e';cases e'
     obtain⟨more,q⟩:=B.tbls b ps ((cW z).trans e);exact⟨more,by rw[dC z];exact q⟩
    ·by_cases z:b∈cl.map (·.2)
     ·rw[l6 z]at e
      obtain⟨o,e',g⟩:=hC b z;rw[e]at e';cases e';exact nU (sC b z o g)
     ·rw[dC z]at e
      refine(J.hok b u e).stay (λ_ _ _ q=>q) (λd q=>?_) λd xs q=>?_
      ·rw[dC λz=>by rw[h1n d z]at q;cases q];exact q
      ·rw[dC λz=>by rw[h1n d z]at q;cases q];exact q
end
noncomputable def xP(cs:List (Addr×Nat))(sp:Sp)(t:TA):TE:=λσ H Q=>t σ H λvs H1=>∀H2,Same H1 H2->(∀p∈cs,∀v,σ[p.2]? = some (some v)->dH H2 p.1 v) ->
 sp vs H2 (λr H3=>∀H4,(∀b o,H3 b=some o->(∀z,o=KnO z->∀u,z.data≠.cell u)->H4 b=some o)->(∀b o,H1 b=some o->H3 b=some o->H4 b=some o)->Q r H4) E0
section
variable {X:Cx} {x:Str} {ps:List Str} {k:Nat} {sp:Sp} {p pos:Pos} {e:Expr} {es:List Expr} {t:TA} {cs:List (Addr×Nat)}
open Classical in
theorem vF{pins:List (Addr×Obj)}{σ:St}{H:Hp}{s:Shared}{Q:VK}{us:List Value}{vs:List V}{f:Addr}{fd:FuncData}(F:C3 X.prog X.w X.K X.mg X.base CX0 k f fd ps sp)(hr:Bv k X.A)(hb:fF X.K fd ps [])(hfn:∀x,X.fn x=true)
  (hcs:∀p∈cs,∃y,X.env.cells.lookup y=some p.1/\X.N[p.2]? = some y/\X.env.kindOf y=some .cell/\Vis X.env.scope y) (I:AU X pins σ H s) (r:aV vs us)
  (h:∀H2,Same H H2->(∀p∈cs,∀v,σ[p.2]? = some (some v)->dH H2 p.1 v) ->
   sp vs H2 (λr H3=>∀H4,(∀b o,H3 b=some o->(∀z,o=KnO z->∀u,z.data≠.cell u)->H4 b=some o)->(∀b o,H b=some o->H3 b=some o->H4 b=some o)->Q r H4) E0) :
  wpAny (model X.prog X.w) X.A (call (.ref f) us) (EP X pins σ Q) X.xe s:=by
 let isC:Addr->Prop:=λb=>∃y,X.env.cells.lookup y=some b
 let H2:Hp:=λb=>if isC b then (s.heap.get? b).map KnO else H b
 have in2:∀b,isC b->H2 b=(s.heap.get? b).map KnO:=λb z=>if_pos z;have out2:∀b,¬isC b->H2 b=H b:=λb z=>if_neg z;have cN:∀b,isC b->H b=none:=λb ⟨y,e⟩=>I.freeC y b e;have cG:∀b,isC b->∃o z,s.heap.get? b=some o/\o.data = .cell z:=λb ⟨y,e⟩=>by
  obtain⟨z,o,e1,e2⟩:=I.cell y b e;exact⟨o,z,e1,e2⟩
 have cK:∀b o,isC b->s.heap.get? b=some o->H2 b=some (KnO o):=λb o z e=>by rw[in2 b z,e];rfl
 have cA:∀b,isC b->X.s₀.heap.objs.size<=b:=λb ⟨y,e⟩=>I.ok.cab y b (hfn y) e;have same:Same H H2:=λb o e=>by
  rw[out2 b λz=>by rw[cN b z]at e;cases e];exact e
 have frn:∀b∈frs X.stack,¬isC b:=λb hb ⟨y,e⟩=>by
  rcases List.mem_cons.mp (I.stkSub b hb) with z|z
  ·exact I.cne y b e z
  ·obtain⟨_,o,ho,_⟩:=I.ok.funs.mem z
   exact absurd (Nat.lt_of_lt_of_le (Heap.lt_size ho) (cA b ⟨y,e⟩)) (Nat.lt_irrefl _)
 have hok2:HOk X.prog X.w H2 s.heap:=λb u e=>by
  by_cases z:isC b
  ·obtain⟨o,z',e1,_⟩:=cG b z
   rw[cK b o z e1]at e;cases e;exact nU e1
  ·rw[out2 b z]at e
   exact(I.hok b u e).stay (λ_ _ _ q=>q) (λd q=>same d _ q) λd xs q=>same d _ q
 have e0:=I.env0;have e2:EM X.prog X.w X.K X.mg X.base X.A X.stack s H2:=by
  refine⟨e0.frames,e0.mod,λb o e=>⟨(e0.bs b o e).1,?_⟩,e0.bsz,e0.funs,λb hb=>?_,hok2,e0.bare⟩
  ·rw[out2 b λz=>absurd (Nat.lt_of_lt_of_le (Heap.lt_size e) (Nat.le_trans I.ok.bsz (cA b z))) (Nat.lt_irrefl _)]
   exact(e0.bs b o e).2
  ·rw[out2 b (frn b hb)]
   exact e0.frf b hb
 have cells:∀p∈cs,∀v,σ[p.2]? = some (some v)->dH H2 p.1 v:=λp hp v hv=>by
  obtain⟨y,h1,h2,h3,h4⟩:=hcs p hp;obtain⟨m,hn,hl⟩:=I.loc;obtain⟨u,ru,l⟩:=hl p.2 y v h2 hv h4;rcases l with⟨kk,_⟩|⟨_,c,hc,o,ho,hd⟩
  ·rw[h3]at kk;cases kk
  ·rw[h1]at hc
   cases hc;exact⟨o,u,cK _ o ⟨y,h1⟩ ho,hd,ru⟩
 have hq:=h H2 same cells;have hl:(us++[]).length=ps.length:=by rw[List.append_nil,<- r.length];exact F.len _ _ _ _ hq
 have hbb:=hb s us I.kIn hl;rw[List.append_nil]at hbb;refine wpAny_call (codeAny_mono (F.run X.A X.stack s H2 ⟨us,[]⟩ us vs _ E0 hr e2 hbb r hq) λr s' hq=>?_);cases r with
 | error e=>exact False.elim hq
 | ok fl =>
  cases fl with
  | next=>exact False.elim hq
  | brk=>exact False.elim hq
  | cont=>exact False.elim hq
  | ret u =>
   obtain⟨v,H3,os,bare,un,hok,rv,q⟩:=hq
   let H4:Hp:=λb=>if isC b then none else H3 b
   have in4:∀b,isC b->H4 b=none:=λb z=>if_pos z;have out4:∀b,¬isC b->H4 b=H3 b:=λb z=>if_neg z;have c3:∀b,isC b->∃o,H3 b=some (KnO o)/\s.heap.get? b=some o/\s'.heap.get? b=some o:=λb z=>by
    obtain⟨o,z',e1,_⟩:=cG b z;have e3:=un.frzs b o _ (cK b o z e1);exact⟨o,e3,e1,gJ hok e3⟩
   refine I.after ⟨v,H4,os,bare,⟨λb o e n hb hx=>?_,λb o e n hb hx=>?_,λb o e n hx=>?_,λb o e hx=>un.there b o e hx,λb xs e=>?_,λb o u e=>?_,λb ps e=>?_⟩,λb u e=>?_,rv,q H4 (λb o e n=>?_) λb o e e3=>?_⟩
   ·by_cases z:isC b
    ·obtain⟨o',_,e1,e2⟩:=c3 b z
     rw[e]at e1;cases e1;exact e2
    ·exact un.keep b o e ((out2 b z).trans n) hb hx
   ·exact un.slot b o e ((out2 b (frn b hb)).trans n) hb hx
   ·by_cases z:isC b
    ·exact in4 b z
    ·rw[out4 b z]
     exact un.free b o e ((out2 b z).trans n) hx
   ·have z:¬isC b:=λz=>by rw[cN b z]at e;cases e
    rw[out4 b z];exact un.tups b xs ((out2 b z).trans e)
   ·have z:¬isC b:=λz=>by rw[cN b z]at e;cases e
    rw[out4 b z];exact un.frzs b o u ((out2 b z).trans e)
   ·have z:¬isC b:=λz=>by rw[cN b z]at e;cases e
    rw[out4 b z];exact un.tbls b ps ((out2 b z).trans e)
   ·have z:¬isC b:=λz=>by rw[in4 b z]at e;cases e
    rw[out4 b z]at e;refine(hok b u e).stay (λ_ _ _ q=>q) (λd q=>?_) λd xs q=>?_
    ·rw[out4 d λz=>by obtain⟨o,e3,_⟩:=c3 d z;rw[e3]at q;cases q];exact q
    ·rw[out4 d λz=>by obtain⟨o,e3,_⟩:=c3 d z;rw[e3]at q;cases q];exact q
   ·rw[out4 b λz=>by
     obtain⟨o',e3,e1,_⟩:=c3 b z;obtain⟨o2,z',e4,d⟩:=cG b z;rw[e1]at e4;cases e4;rw[e3]at e;exact n o' (Option.some.inj e).symm _ d]
    exact e
   ·rw[out4 b λz=>by rw[cN b z]at e;cases e]
    exact e3
theorem wc{H H1:Hp}(h:∀b o,H b=some o->(∀z,o=KnO z->∀u,z.data≠.cell u)->H1 b=some o):∀b o,H b=some o->(∀z,o≠KnO z)->H1 b=some o:=λb o e n=>h b o e λz q=>absurd q (n z)
theorem yi(F:Fn X.prog X.w X.K X.mg X.base x ps k sp)(hr:Bv k X.A)(hg:Gl X x)(hfn:∀x,X.fn x=true)(hcs:∀p∈cs,∃y,X.env.cells.lookup y=some p.1/\X.N[p.2]? = some y/\X.env.kindOf y=some .cell/\Vis X.env.scope y)(ha:PA X (e::es) t)
  (hdb:(x == ("__debug__" : Str))=false:=by decide) (he:starEach (e::es) X.env=(false,eval e X.env)::starEach es X.env:=by rfl) (hpl:(backTo pos (starEach es X.env)).any (·.1)=false:=by rfl) :
  PE X (.Call (.Name x p) (e::es) [] pos) (xP cs sp t):=by
 obtain⟨f,fd,o,hm,hk,hb,_,G⟩:=F.ex;intro pins s σ H Q I h;refine wpAny_Call_Name_kw (hZ I hg hm ?_ hdb);refine W.callWith_K (h₀:=X.base) I.ok.mod.kin hk (thn (ha pos pins s σ H _ I h) λus s1 ⟨vs,H1,I1,r,q⟩=>⟨I1.kIn,?_⟩) he hpl;exact vF G hr (.all hb) hfn hcs I1 r q
noncomputable def zg(P:Program)(w:World)(K:W.Frag)(mg:Str->Option Value)(base:Heap)(k:Nat)(f:Addr)(sp:Sp):Prop:=∃(fd:FuncData) (ps:List Str),C3 P w K mg base CX0 k f fd ps sp/\fF K fd ps []
noncomputable def pX(H:Hp)(f:Addr):Prop:=∃o fd,H f=some (KnO o)/\o.data = .func fd
noncomputable def xO(P:Program)(w:World)(K:W.Frag)(mg:Str->Option Value)(base:Heap)(k i:Nat)(t:TA):TE:=λσ H Q =>
 ∃f sp,σ[i]? = some (some (.ref f))/\zg P w K mg base k f sp/\pX H f/\t σ H λvs H1=>pX H1 f/\sp vs H1 Q E0
theorem nw{i:Nat}(hr:Bv k X.A)(hN:X.N[i]? = some x)(hv:Vis X.env.scope x)(ha:PA X (e::es) t)
  (hdb:(x == ("__debug__" : Str))=false:=by decide) (hcd:(x == ("__classdict__" : Str))=false:=by decide) (he:starEach (e::es) X.env=(false,eval e X.env)::starEach es X.env:=by rfl) (hpl:(backTo pos (starEach es X.env)).any (·.1)=false:=by rfl) :
  PE X (.Call (.Name x p) (e::es) [] pos) (xO X.prog X.w X.K X.mg X.base k i t):=by
 intro pins s σ H Q I h;obtain⟨f,sp,hs,⟨fd',ps',G',hb⟩,⟨o,fd,eo,ed⟩,h⟩:=h;refine wpAny_Call_Name_kw (thn (tP (i:=i) hN hv hdb hcd pins s σ H (λv H'=>v = .ref f/\H'=H) I ⟨_,hs,rfl,rfl⟩) λu s1 ⟨v,H1,I1,rv,ev,eH⟩=>?_);subst ev eH;obtain rfl:u=Value.ref f:=rv;have at':∀{s:Shared} {H:Hp} {o:Obj} {fd:FuncData},HOk X.prog X.w H s.heap->H f=some (KnO o)->o.data = .func fd->FnAt f s.heap:=λ{s H o fd} k e d=>by
  have g:=gJ k e;obtain⟨oc,od,dt,sl⟩:=o;cases d;exact⟨oc,od,fd,sl,g⟩
 refine callWith_F (at' I1.hok eo ed) (thn (ha pos pins s1 σ H1 _ I1 h) λus s2 ⟨vs,H2,I2,r,⟨o2,fd2,eo2,ed2⟩,q⟩=>⟨at' I2.hok eo2 ed2,?_⟩) he hpl;exact tH (ds:=[]) (dvs:=[]) G' hr hb .nil xo I2 r (by rw[List.append_nil];exact q)
theorem lX.obj{H:Hp}{f:Addr}{q:Str}{params:Arguments}{body:Expr}{scope:Scope}{clos:List (Str×Addr)}(t:lX H f q params body scope clos):pX H f:=by
 obtain⟨pm,c,ctv,e,_⟩:=t;exact⟨_,_,e,rfl⟩
end
structure HY(K:W.Frag)(mg:Str->Option Value)(x:Str)(st:Stmt)(p:Addr):Prop where
 ex:∃(f:Addr) (oc:Value) (od:Option Addr) (kV doc pm:Value) (an:Option Addr) (c:Addr) (ct:Value) (osl:Array (Option Value)),
  mg x=some (.ref f)/\K.lookup f=some ⟨oc,od,.func (W.fnOf x x (bK st) (aP st) (aq st) .none kV doc pm an (.ref c) ct),osl⟩/\W.codeIn K (.ref c) x=true/\W.keepIn K (.ref f)=true/\kA K c p
theorem HY.fn{P:Program}{w:World}{K:W.Frag}{mg:Str->Option Value}{base:Heap}{x:Str}{st:Stmt}{p:Addr}{N ps:List Str}{k:Nat}{sp:Sp}(D:HY K mg x st p)(S:AQ N ps (aq st))
  (hbind:∀(kV doc pm:Value) (an:Option Addr) (cdv ct:Value) (us:List Value),us.length=ps.length->bindArgs (W.fnOf x x (bK st) (aP st) (aq st) .none kV doc pm an cdv ct) ⟨us,[]⟩=pure (ps.zip us))
  (len:∀vs H Q E,sp vs H Q E->vs.length=ps.length)
  (hbody:∀(f:Addr) (cdv:Value) (A:Around) (outer:List Env) (s:Shared) (H:Hp) (vs:List V) (Q:VK) (E:XK),(∃c,cdv = .ref c/\kA K c p)->Bv k (A.deeper (envOfC x (aq st) s.heap.objs.size f cdv))->sp vs H Q E ->
   ∃t,PSs (bY CX0 P w K mg base N x (aq st) f cdv A outer s H E).nox (aP st) t/\t { nx:=λ_ H'=>Q .non H',rt:=Q } (fu N vs) H):Fn P w K mg base x ps (k+1) sp:=by
 obtain⟨f,oc,od,kV,doc,pm,an,c,ct,osl,hm,lk,hcd,hk,hc⟩:=D.ex;refine⟨⟨f,_,_,hm,hk,hbind kV doc pm an (.ref c) ct,⟨lk,rfl⟩,oh lk hcd S len λA outer s H vs Q E hr hsp=>?_⟩⟩;obtain⟨t,h,q⟩:=hbody f (.ref c) A outer s H vs Q E ⟨c,rfl,hc⟩ hr hsp;exact⟨t,h.nox,q⟩
noncomputable def qY(s:Stmt)(i:Nat):Expr:=match s with
 | .Assign _ (.Call _ as _ _) _=>as.getD i (.Name "" ⟨0,0,0,0⟩)
 | _=>.Name "" ⟨0,0,0,0⟩
noncomputable def eW(e:Expr):Scope:=match e with
 | .Lambda _ _ sc _=>sc
 | _=>{ kind:=.function,names:=[],isGenerator:=false,isCoroutine:=false }
noncomputable def qE(e:Expr):Arguments:=match e with
 | .Lambda a _ _ _=>a
 | _=>{ posonlyargs:=[],args:=[],vararg:=none,kwonlyargs:=[],kw_defaults:=[],kwarg:=none,defaults:=[] }
noncomputable def qD(e:Expr):Expr:=match e with
 | .Lambda _ b _ _=>b
 | _=>.Name "" ⟨0,0,0,0⟩
noncomputable def eG(e:Expr):Pos:=match e with
 | .Lambda _ _ _ p=>p
 | _=>⟨0,0,0,0⟩
theorem fU{C:List Addr}{H:Hp}{b:Addr}{o:HO}(hC:∀c∈C,∃o,H c=some (KnO o))(e:H b=some o)(n:∀z,o≠KnO z):cut C H b=some o:=by
 rw[cW λz=>?_]
 ·exact e
 ·obtain⟨o',e'⟩:=hC b z
  rw[e]at e';exact n o' (Option.some.inj e')
theorem gY{C:List Addr}{H H1:Hp}{b:Addr}{o:HO}(hC:∀c∈C,H1 c=none)(e:H1 b=some o):ni C H H1 b=some o:=by
 rw[dC λz=>by rw[hC b z]at e;cases e];exact e
theorem eA.keep{p:Addr}{H H':Hp}{b:Addr}{o:HO}{ls:List (Pos×Str)}(s:eA p H H')(t:Tab H p ls)(e:H b=some o)(n:∀ps,o≠.tbl ps):H' b=some o:=by
 obtain⟨ps,e1,_⟩:=t;refine s b o (λz=>?_) e;rw[z,e1]at e;exact n ps (Option.some.inj e).symm
theorem eA.trans{p:Addr}{H H1 H2:Hp}(a:eA p H H1)(b:eA p H1 H2):eA p H H2:=λc o n e=>b c o n (a c o n e)
theorem Same.p{p:Addr}{H H':Hp}(s:Same H H'):eA p H H':=λb o _ e=>s b o e
theorem oJ{H:Hp}{cl:List (Str×Addr)}{ws:List V}(cs:Paired (λ(p:Str×Addr) z=>dH H p.2 z) cl ws):∀c∈cl.map (·.2),∃o,H c=some (KnO o):=by
 induction cs with
 | nil=>intro c h;cases h
 | cons a r ih =>
  intro c h;rcases List.mem_cons.mp h with rfl|h
  ·obtain⟨o,u,e,_⟩:=a
   exact⟨o,e⟩
  ·exact ih c h
theorem dH.mono{H H':Hp}{c:Addr}{v:V}(x:dH H c v)(s:Same H H'):dH H' c v:=let ⟨o,u,e,r⟩:=x;⟨o,u,s _ _ e,r⟩
end L2
namespace L2
open PySem PySem.Spec PyProof.Rows
theorem kg{a:Addr}{o:Obj}{kvs:List (List Key×V)}{fv:List (Str×Nat)}{g:TG}{tc:TT}{te:TE}{σ:St}{H1:Hp}{Q:VK}{k:Nat}(hD:H1 a=some (.frz o (.dT kvs)))(hlen:kvs.length<1000)(sel:List Key×V->Bool)(R:List Key×V->V->Hp->Prop)(hR:∀e v H H',SameT H H'->R e v H->R e v H')
  (hs:∀(i:Nat) e b H2 (τ:St) (Kc:VK) (Kn:Hp->Prop),kvs[i]? = some e->H2 b=some (.tup (e.1.map kV))->Same H1 H2->τ.length=k->(sel e=true->∀y H4,Same H2 H4->R e y H4->Kc y H4)->(sel e=false->∀H4,Same H2 H4->Kn H4) ->
   g (.ref b) (τ++fvs fv σ) H2 λσ2 H4=>(∃τ':St,τ'.length=k/\σ2=τ'++fvs fv σ)/\tc σ2 H4 λb H5=>if b=true then te σ2 H5 Kc else Kn H5)
  (hd:∀l ys H',H1 l=none->Same H1 H'->H' l=some (.lst ys)->Paired (λe y=>R e y H') (kvs.filter sel) ys->Q (.ref l) H'):jz (Itd a o kvs) k fv g tc te σ H1 Q:=by
 intro l hl;refine⟨λi m acc H2=>m=kvs.length - i/\i<=kvs.length/\acc.length<=i/\Same H1 H2/\H2 l=some (.lst acc)/\Paired (λe y=>R e y H2) ((kvs.take i).filter sel) acc,⟨_,rfl,Nat.zero_le _,Nat.le_refl _,Same.new hl,upd_same,.nil⟩,?_⟩;rintro i m acc H2 ⟨rfl,hi,e1,sm,e3,hr⟩;refine⟨e3,aZ (by omega),?_⟩
 by_cases hlt:i<kvs.length
 ·refine .inr ⟨⟨sm _ _ hD,hlt⟩,λx H3 y τ hτ=>?_⟩
  obtain⟨rfl,q,v,b,hq,rfl,hb⟩:=y;have tk:kvs.take (i+1)=kvs.take i++[(q,v)]:=by rw[List.take_add_one,hq];rfl
  refine hs i (q,v) b H3 τ _ _ hq hb sm hτ (λhsel y H4 s4 ry=>⟨s4 _ _ e3,kvs.length - (i+1),by omega,rfl,hlt,by simp;exact e1,(sm.trans s4).upd hl,upd_same,?_⟩) λhsel H4 s4=>⟨kvs.length - (i+1),by omega,rfl,hlt,by omega,sm.trans s4,s4 _ _ e3,?_⟩
  ·have t4:=SameT.upd (ys:=acc++[y]) (s4 _ _ e3)
   rw[tk,List.filter_append];have:[(q,v)].filter sel = [(q,v)]:=by simp[hsel]
   rw[this];exact Paired.snoc (Paired.mapP hr λe z r=>hR _ _ _ _ (s4.t.trans t4) r) (hR _ _ _ _ t4 ry)
  ·rw[tk,List.filter_append]
   have:[(q,v)].filter sel = []:=by simp[hsel]
   rw[this,List.append_nil];exact Paired.mapP hr λe z r=>hR _ _ _ _ s4.t r
 ·have e:i=kvs.length:=by omega
  subst e;rw[List.take_length]at hr;exact .inl ⟨⟨sm _ _ hD,Nat.le_refl _⟩,hd l acc H2 hl sm e3 hr⟩
end L2
namespace Sk
open PySem PySem.Spec L2
noncomputable abbrev aJ:=List Key
noncomputable def bW(H:Hp)(v:V)(k:aJ):Prop:=∃p,v = .ref p/\H p=some (.tup (k.map kV))
theorem bW.mono{H H':Hp}{v:V}{k:aJ}(x:bW H v k)(s:SameT H H'):bW H' v k:=let ⟨p,e,h⟩:=x;⟨p,e,s _ _ h⟩
inductive Lb
 | no
 | key (d:aJ)
 | bend (d e:aJ) (l m:Int×Int×Int×Int)
noncomputable def n4(l:Int×Int×Int×Int):List V:=[.int l.1,.int l.2.1,.int l.2.2.1,.int l.2.2.2]
noncomputable def TpK(K:W.Frag)(H:Hp)(a:Addr)(xs:List V):Prop:=H a=some (.tup xs)\/∃(o:Obj) (its:Array Value) (n:Nat),K.lookup a=some o/\o.cls = .type "tuple"/\o.data = .seq its n/\its.size<=sizeLine/\aV xs its.toList
theorem TpK.mono{K:W.Frag}{H H':Hp}{a:Addr}{xs:List V}(x:TpK K H a xs)(s:SameT H H'):TpK K H' a xs:=x.imp (λe=>s _ _ e) id
theorem TpK.sq{K:W.Frag}{H:Hp}{a:Addr}{xs:List V}(x:TpK K H a xs):SqT K H a xs:=x.elim (λe=>SqT.of e) .inr
noncomputable def jk(K:W.Frag)(H:Hp)(v:V):Lb->Prop
 | .no=>v = .non
 | .key d=>bW H v d
 | .bend d e l m=>∃t p q g a b,v = .ref t/\H t=some (.tup [.ref p,.ref q,.ref g])/\H p=some (.tup (d.map kV))/\H q=some (.tup (e.map kV))/\H g=some (.tup [.ref a,.ref b])/\TpK K H a (n4 l)/\TpK K H b (n4 m)
theorem jk.mono{K:W.Frag}{H H':Hp}{v:V}{x:Lb}(h:jk K H v x)(s:SameT H H'):jk K H' v x:=by
 cases x with
 | no=>exact h
 | key d=>exact bW.mono h s
 | bend d e l m =>
  obtain⟨t,p,q,g,a,b,h1,h2,h3,h4,h5,h6,h7⟩:=h;exact⟨t,p,q,g,a,b,h1,s _ _ h2,s _ _ h3,s _ _ h4,s _ _ h5,h6.mono s,h7.mono s⟩
section
variable {K:W.Frag}
noncomputable abbrev En:=aJ×Option Nat×Lb
noncomputable def Ent(K:W.Frag)(H:Hp)(es:List En)(e:En)(kv:aJ×V):Prop:=kv.1=e.1/\∃t pv hv,kv.2 = .ref t/\H t=some (.tup [pv,hv])/\jk K H hv e.2.2/\(e.2.1=none->pv = .non)/\∀j,e.2.1=some j->∃e',es[j]? = some e'/\bW H pv e'.1
structure HV(es:List En):Prop where
 nd:(es.map (·.1)).Nodup
 up:∀(i:Nat) (e:En) (j:Nat),es[i]? = some e->e.2.1=some j->j<i
noncomputable def iR(K:W.Frag)(H:Hp)(d:Addr)(es:List En):Prop:=∃kvs,H d=some (.dT kvs)/\Paired (Ent K H es) es kvs
theorem Ent.mono{H H':Hp}{es es':List En}{e:En}{kv:aJ×V}(x:Ent K H es e kv)(s:SameT H H')(h:∀(j:Nat) e,es[j]? = some e->es'[j]? = some e):Ent K H' es' e kv:=by
 obtain⟨a,t,pv,hv,b,c,lb,d,f⟩:=x;refine⟨a,t,pv,hv,b,s _ _ c,lb.mono s,d,λj hj=>?_⟩;obtain⟨e',h1,h2⟩:=f j hj;exact⟨e',h j e' h1,h2.mono s⟩
theorem o8{α β:Type}{F:α->β->Prop}:∀{l:List α} {m:List β},Paired F l m->∀(i:Nat) (a:α),l[i]? = some a->∃b,m[i]? = some b/\F a b:=by
 intro l m p
 induction p with
 | nil=>intro i a e;simp at e
 | cons h r ih =>
  intro i a e;cases i with
  | zero=>simp at e;subst e;exact⟨_,rfl,h⟩
  | succ j=>exact ih j a (by simpa using e)
theorem dz{α β:Type}{F:α->β->Prop}:∀{l:List α} {m:List β},Paired F l m->∀(i:Nat) (b:β),m[i]? = some b->∃a,l[i]? = some a/\F a b:=by
 intro l m p
 induction p with
 | nil=>intro i a e;simp at e
 | cons h r ih =>
  intro i a e;cases i with
  | zero=>simp at e;subst e;exact⟨_,rfl,h⟩
  | succ j=>exact ih j a (by simpa using e)
theorem rO{α:Type}{l:List α}(nd:l.Nodup){i j:Nat}{a:α}(hi:l[i]? = some a)(hj:l[j]? = some a):i=j:=by
 obtain⟨h1,e1⟩:=List.getElem?_eq_some_iff.mp hi;obtain⟨h2,e2⟩:=List.getElem?_eq_some_iff.mp hj;have pw:=List.pairwise_iff_getElem.mp nd;rcases Nat.lt_trichotomy i j with z|z|z
 ·exact absurd (e1.trans e2.symm) (pw i j h1 h2 z)
 ·exact z
 ·exact absurd (e2.trans e1.symm) (pw j i h2 h1 z)
theorem jP{α β:Type}{F:α->β->Prop}:∀{l:List α} {m:List β},Paired F l m->Paired F l.reverse m.reverse:=by
 intro l m p
 induction p with
 | nil=>exact .nil
 | cons h r ih =>
  rw[List.reverse_cons,List.reverse_cons];exact Paired.snoc ih h
theorem mC{H:Hp}{es':List En}:∀{es:List En} {kvs:List (aJ×V)},Paired (Ent K H es') es kvs->kvs.map (·.1)=es.map (·.1):=by
 intro es kvs p
 induction p with
 | nil=>rfl
 | cons h r ih=>rw[List.map_cons,List.map_cons,ih,h.1]
theorem vk:∀{kvs:List (aJ×V)} {i:Nat} {kv:aJ×V},(kvs.map (·.1)).Nodup->kvs[i]? = some kv->dB kvs kv.1=some kv.2:=by
 intro kvs
 induction kvs with
 | nil=>intro i kv _ e;simp at e
 | cons a r ih =>
  intro i kv nd e;rw[List.map_cons,List.nodup_cons]at nd;cases i with
  | zero=>simp at e;subst e;exact cE rfl
  | succ j =>
   have e:r[j]? = some kv:=by simpa using e
   rw[cg (λz=>nd.1 (by rw[z];exact List.mem_map.mpr ⟨kv,List.mem_of_getElem? e,rfl⟩))];exact ih nd.2 e
theorem gR:∀{kvs:List (aJ×V)} {k:aJ},k∉kvs.map (·.1)->dB kvs k=none:=by
 intro kvs
 induction kvs with
 | nil=>intro k _;rfl
 | cons a r ih =>
  intro k h;rw[List.map_cons,List.mem_cons,not_or]at h;rw[cg (λz=>h.1 z.symm)];exact ih h.2
theorem qb{kvs:List (aJ×V)}{k:aJ}(h:k∈kvs.map (·.1)):(dB kvs k).isSome=true:=by
 induction kvs with
 | nil=>simp at h
 | cons a r ih =>
  by_cases z:a.1=k
  ·rw[cE z];rfl
  ·rw[cg z]
   rw[List.map_cons,List.mem_cons]at h;exact ih (h.resolve_left λq=>z q.symm)
theorem iR.mono{H H':Hp}{d:Addr}{es:List En}(c:iR K H d es)(s:Same H H'):iR K H' d es:=by
 obtain⟨kvs,e1,e2⟩:=c;exact⟨kvs,s _ _ e1,Paired.mapP e2 λa b x=>x.mono s.t λ_ _ h=>h⟩
theorem iR.look{H:Hp}{d:Addr}{es:List En}(c:iR K H d es){s:aJ}{b:Addr}(hb:H b=some (.tup (s.map kV))):∃o,fW H d (.ref b) o/\(o.isSome=true↔s∈es.map (·.1)):=by
 obtain⟨kvs,e1,e2⟩:=c;refine⟨_,fW.t e1 hb,?_⟩;rw[<- mC e2];constructor
 ·intro h
  by_cases z:s∈kvs.map (·.1)
  ·exact z
  ·rw[gR z]at h;cases h
 ·exact qb
theorem iR.add{H:Hp}{d:Addr}{es:List En}(c:iR K H d es){s:aJ}{b t:Addr}{pv hv:V}{h:Lb}{pj:Option Nat}(hb:H b=some (.tup (s.map kV)))(ht:H t=some (.tup [pv,hv]))(lb:jk K H hv h)(hs:s∉es.map (·.1))(h0:pj=none->pv = .non)(h1:∀j,pj=some j->∃e',es[j]? = some e'/\bW H pv e'.1)(hl:es.length<1000) :
  ∃H',ku H d (.ref b) (.ref t) H'/\iR K H' d (es++[(s,pj,h)])/\SameT H H'/\∀x,x≠d->H' x=H x:=by
 obtain⟨kvs,e1,e2⟩:=c;have len:=Paired.length e2;have new:fG kvs s (.ref t)=kvs++[(s,.ref t)]:=gZ _ (gR (by rw[mC e2];exact hs));have st:SameT H (upd H d (.dT (fG kvs s (.ref t)))):=λx xs e=>by
  rw[aN (λz=>by rw[z,e1]at e;cases e)];exact e
 refine⟨_,ku.t (k:=s) (v:=.ref t) e1 hb (by have:=aZ (n:=kvs.length) (by omega);exact this),⟨_,upd_same,?_⟩,st,λx hx=>aN hx⟩;have keep:∀(j:Nat) (e:En),es[j]? = some e->(es++[(s,pj,h)])[j]? = some e:=λj e he=>by
  rw[List.getElem?_append_left (List.getElem?_eq_some_iff.mp he).1];exact he
 have last:Ent K (upd H d (.dT (fG kvs s (.ref t)))) (es++[(s,pj,h)]) (s,pj,h) (s,.ref t):=⟨rfl,t,pv,hv,rfl,st _ _ ht,lb.mono st,h0,λj hj=>by
  obtain⟨e',g1,g2⟩:=h1 j hj;exact⟨e',keep _ _ g1,g2.mono st⟩⟩
 have all:=Paired.snoc (Paired.mapP e2 λa b x=>x.mono st keep) last;rw[<- new]at all;exact all
inductive EK (es:List En):Nat->List (aJ×Lb)->Prop
 | root {i:Nat} {s:aJ} {h:Lb}:es[i]? = some (s,none,h)->EK es i [(s,h)]
 | step {i j:Nat} {s:aJ} {h:Lb} {l:List (aJ×Lb)}:es[i]? = some (s,some j,h)->EK es j l->EK es i (l++[(s,h)])
noncomputable def gN(K:W.Frag)(H:Hp)(r:Addr)(l:List (aJ×Lb)):Prop:=∃vs,H r=some (.lst vs)/\Paired (λ(e:aJ×Lb) v=>∃t sv hv,v = .ref t/\H t=some (.tup [sv,hv])/\bW H sv e.1/\jk K H hv e.2) l vs
noncomputable def rm(K:W.Frag)(H:Hp)(r:Addr)(l:List (aJ×Lb)):Prop:=gN K H r l
noncomputable def pW(es:List En)(cur:Option Nat)(i:Nat)(done:List (aJ×Lb)):Prop:=∀l,(match cur with|some j=>EK es j l|none=>l = [])->EK es i (l++done.reverse)
theorem pW.begin{es:List En}{i:Nat}:pW es (some i) i []:=λl h=>by simpa using h
theorem pW.up{es:List En}{i j:Nat}{done:List (aJ×Lb)}{s:aJ}{pj:Option Nat}{h:Lb}(x:pW es (some j) i done)(e:es[j]? = some (s,pj,h)):pW es pj i (done++[(s,h)]):=by
 intro l hl;rw[List.reverse_append];show EK es i (l++([(s,h)]++done.reverse));rw[<- List.append_assoc];refine x _ ?_;cases pj with
 | none =>
  have:l = []:=hl;subst this;exact .root e
 | some j'=>exact .step e hl
inductive Ey (K:W.Frag) (vs:List V) (H:Hp) (Q:VK) (x_3:XK):Prop
 | mk:∀(d:Addr) (sv:V) (es:List En) (i:Nat) (e:En),(vs = [.ref d,sv])->(iR K H d es)->(HV es)->(es[i]? = some e)->(bW H sv e.1)->(es.length<1000)->(∀r H' l,Same H H'->EK es i l->l.length<=es.length->gN K H' r l->Q (.ref r) H')->Ey K vs H Q x_3
noncomputable def wW(bs:List aJ)(stp:aJ->List (aJ×Lb))(fin:aJ->Bool)(l:List (aJ×Lb)):Prop :=
 (∃s r,l=(s,.no)::r/\s∈bs)/\(∀(n:Nat) a b,l[n]? = some a->l[n+1]? = some b->b∈stp a.1)/\∃a,l.getLast? = some a/\fin a.1=true
noncomputable def wV(bs:List aJ)(stp:aJ->List (aJ×Lb))(fin:aJ->Bool):Prop:=∃R:List aJ,(∀s∈bs,s∈R)/\(∀s∈R,∀e∈stp s,e.1∈R)/\∀s∈R,fin s=false
structure G8(bs:List aJ)(stp:aJ->List (aJ×Lb))(es:List En):Prop where
 root:∀(i:Nat) e,es[i]? = some e->e.2.1=none->e.1∈bs/\e.2.2 = .no
 step:∀(i j:Nat) e,es[i]? = some e->e.2.1=some j->∃e',es[j]? = some e'/\(e.1,e.2.2)∈stp e'.1
theorem vI{bs:List aJ}{stp:aJ->List (aJ×Lb)}{fin:aJ->Bool}{es:List En}(g:G8 bs stp es){i:Nat}{l:List (aJ×Lb)}(p:EK es i l) :
  (∃s r,l=(s,.no)::r/\s∈bs)/\(∀(n:Nat) a b,l[n]? = some a->l[n+1]? = some b->b∈stp a.1)/\∃e,es[i]? = some e/\l.getLast? = some (e.1,e.2.2):=by
 induction p with
 | root e =>
  obtain⟨h1,h2⟩:=g.root _ _ e rfl;dsimp only at h1 h2;subst h2;exact⟨⟨_,[],rfl,h1⟩,λn a b _ h=>by simp at h,_,e,rfl⟩
 | step e p ih =>
  obtain⟨⟨s,r,rfl,hs⟩,st,e',h1,h2⟩:=ih;refine⟨⟨s,r++_,rfl,hs⟩,λn a b ha hb=>?_,_,e,List.getLast?_concat⟩;rcases Nat.lt_trichotomy (n+1) ((s,Lb.no)::r).length with z|z|z
  ·rw[List.getElem?_append_left (by omega)]at ha
   rw[List.getElem?_append_left z]at hb;exact st n a b ha hb
  ·rw[List.getElem?_append_left (by omega)]at ha
   rw[List.getElem?_append_right (by omega),z,Nat.sub_self]at hb;simp only[List.getElem?_cons_zero,Option.some.injEq]at hb;rw[List.getLast?_eq_getElem?]at h2;have ea:((s,Lb.no)::r).length - 1=n:=by omega
   rw[ea,ha]at h2;cases h2;obtain⟨e2,g1,g2⟩:=g.step _ _ _ e rfl;rw[h1]at g1;cases g1;rw[<- hb];exact g2
  ·rw[List.getElem?_eq_none (by simp at z ⊢;omega)]at hb
   cases hb
structure Im(P:Program)(w:World)(K:W.Frag)(mg:Str->Option Value)(base:Heap)(k:Nat)(H:Hp)(f1 f2:Addr)(U:List aJ)(stp:aJ->List (aJ×Lb))(fin:aJ->Bool):Prop where
 o1:pX H f1
 o2:pX H f2
 c1:∃sp,zg P w K mg base k f1 sp/\∀H' v s (Q:VK),Same H H'->bW H' v s->s∈U->(∀r H'',Same H' H''->H' r=none->rm K H'' r (stp s)->Q (.ref r) H'')->sp [v] H' Q E0
 c2:∃sp,zg P w K mg base k f2 sp/\∀H' v s (Q:VK),Same H H'->bW H' v s->s∈U->(∀H'',Same H' H''->Q (.bl (fin s)) H'')->sp [v] H' Q E0
 shut:∀s∈U,∀e∈stp s,e.1∈U
 few:∀s∈U,(stp s).length<1000
noncomputable def yR(n:Nat)(es:List En)(x:aJ×Lb):List En:=@ite _ (x.1∈es.map (·.1)) (Classical.propDecidable _) es (es++[(x.1,some n,x.2)])
noncomputable def dM(bs:List aJ)(stp:aJ->List (aJ×Lb)):Nat->List En
 | 0=>bs.map λs=>(s,none,.no)
 | n+1=>match (dM bs stp n)[n]? with
  | some e=>(stp e.1).foldl (yR n) (dM bs stp n)
  | none=>dM bs stp n
noncomputable def xI(bs:List aJ)(stp:aJ->List (aJ×Lb))(fin:aJ->Bool)(l:List (aJ×Lb)):Prop :=
 ∃n e,(dM bs stp n)[n]? = some e/\fin e.1=true/\(∀i,i<n->∃e',(dM bs stp n)[i]? = some e'/\fin e'.1=false)/\EK (dM bs stp n) n l
noncomputable def tj(P:Program)(w:World)(K:W.Frag)(mg:Str->Option Value)(base:Heap)(k:Nat):Sp:=λvs H Q _ =>
 ∃(b f1 f2:Addr) (bvs:List V) (bs U:List aJ) (stp:aJ->List (aJ×Lb)) (fin:aJ->Bool),vs = [.ref b,.ref f1,.ref f2]/\H b=some (.lst bvs)/\Paired (λs v=>bW H v s) bs bvs/\bs.Nodup/\(∀s∈bs,s∈U)/\U.length<900 /\
  Im P w K mg base k H f1 f2 U stp fin/\(∀H',Same H H'->wV bs stp fin->Q .non H')/\∀r H' l,Same H H'->wW bs stp fin l->xI bs stp fin l->l.length<=U.length->gN K H' r l->Q (.ref r) H'
theorem pd{α:Type}[DecidableEq α]{l U:List α}(nd:l.Nodup)(h:∀s∈l,s∈U):l.length<=U.length:=by
 induction l generalizing U with
 | nil=>exact Nat.zero_le _
 | cons a r ih =>
  rw[List.nodup_cons]at nd;have ha:=h a List.mem_cons_self;have:=ih (U:=U.erase a) nd.2 λs hs=>by
   refine(List.mem_erase_of_ne ?_).mpr (h s (List.mem_cons_of_mem _ hs));rintro rfl;exact nd.1 hs
  rw[List.length_erase_of_mem ha]at this;have hp:0<U.length:=List.length_pos_of_mem ha;rw[List.length_cons];omega
theorem lD{l U:List aJ}(nd:l.Nodup)(h:∀s∈l,s∈U):l.length<=U.length:=by
 classical exact pd nd h
structure Cl(bs U:List aJ)(stp:aJ->List (aJ×Lb))(fin:aJ->Bool)(es:List En)(n:Nat):Prop where
 tree:HV es
 grown:G8 bs stp es
 inU:∀e∈es,e.1∈U
 base:∀s∈bs,s∈es.map (·.1)
 le:n<=es.length
 seen:∀(i:Nat) e,i<n->es[i]? = some e->fin e.1=false/\∀x∈stp e.1,x.1∈es.map (·.1)
theorem Cl.len{bs U:List aJ}{stp:aJ->List (aJ×Lb)}{fin:aJ->Bool}{es:List En}{n:Nat}(g:Cl bs U stp fin es n):es.length<=U.length:=by
 have:=lD g.tree.nd (U:=U) λs hs=>by
  obtain⟨e,he,rfl⟩:=List.mem_map.mp hs;exact g.inU e he
 rw[List.length_map]at this;exact this
theorem Cl.shut{bs U:List aJ}{stp:aJ->List (aJ×Lb)}{fin:aJ->Bool}{es:List En}{n:Nat}(g:Cl bs U stp fin es n)(h:es.length<=n):wV bs stp fin:=by
 refine⟨es.map (·.1),g.base,λs hs x hx=>?_,λs hs=>?_⟩
 ·obtain⟨e,he,rfl⟩:=List.mem_map.mp hs
  obtain⟨i,hi⟩:=List.getElem?_of_mem he;exact(g.seen i e (Nat.lt_of_lt_of_le (List.getElem?_eq_some_iff.mp hi).1 h) hi).2 x hx
 ·obtain⟨e,he,rfl⟩:=List.mem_map.mp hs
  obtain⟨i,hi⟩:=List.getElem?_of_mem he;exact(g.seen i e (Nat.lt_of_lt_of_le (List.getElem?_eq_some_iff.mp hi).1 h) hi).1
theorem Cl.add{bs U:List aJ}{stp:aJ->List (aJ×Lb)}{fin:aJ->Bool}{es:List En}{n j:Nat}(g:Cl bs U stp fin es n){e0:En}{s:aJ}{h:Lb}(hj:es[j]? = some e0)(hs:(s,h)∈stp e0.1)(hU:s∈U)(hn:s∉es.map (·.1)) :
  Cl bs U stp fin (es++[(s,some j,h)]) n:=by
 have old:∀(i:Nat) e,(es++[(s,some j,h)])[i]? = some e->es[i]? = some e\/(i=es.length/\e=(s,some j,h)):=λi e he=>by
  rcases Nat.lt_trichotomy i es.length with z|z|z
  ·rw[List.getElem?_append_left z]at he;exact .inl he
  ·rw[List.getElem?_append_right (by omega),z,Nat.sub_self]at he
   simp only[List.getElem?_cons_zero,Option.some.injEq]at he;exact .inr ⟨z,he.symm⟩
  ·rw[List.getElem?_eq_none (by simp;omega)]at he;cases he
 have keep:∀(i:Nat) e,es[i]? = some e->(es++[(s,some j,h)])[i]? = some e:=λi e he=>by
  rw[List.getElem?_append_left (List.getElem?_eq_some_iff.mp he).1];exact he
 have jl:=(List.getElem?_eq_some_iff.mp hj).1;refine⟨⟨?_,λi e k he hk=>?_⟩,⟨λi e he hk=>?_,λi k e he hk=>?_⟩,λe he=>?_,λt ht=>?_,?_,λi e hi he=>?_⟩
 ·rw[List.map_append,List.nodup_append]
  refine⟨g.tree.nd,by simp,λa ha b hb=>?_⟩;have hb:b=s:=by simpa using hb
  rw[hb];rintro rfl;exact hn ha
 ·rcases old i e he with z|⟨z1,z2⟩
  ·exact g.tree.up i e k z hk
  ·subst z2
   cases hk;omega
 ·rcases old i e he with z|⟨z1,z2⟩
  ·exact g.grown.root i e z hk
  ·subst z2
   cases hk
 ·rcases old i e he with z|⟨z1,z2⟩
  ·obtain⟨e',h1,h2⟩:=g.grown.step i k e z hk
   exact⟨e',keep _ _ h1,h2⟩
  ·subst z2
   cases hk;exact⟨e0,keep _ _ hj,hs⟩
 ·rcases List.mem_append.mp he with z|z
  ·exact g.inU e z
  ·rw[List.mem_singleton.mp z];exact hU
 ·rw[List.map_append]
  exact List.mem_append_left _ (g.base t ht)
 ·rw[List.length_append]
  exact Nat.le_trans g.le (Nat.le_add_right _ _)
 ·rcases old i e he with z|⟨z1,z2⟩
  ·obtain⟨h1,h2⟩:=g.seen i e hi z
   refine⟨h1,λx hx=>?_⟩;rw[List.map_append];exact List.mem_append_left _ (h2 x hx)
  ·have:=g.le
   omega
theorem Cl.first{bs U:List aJ}{stp:aJ->List (aJ×Lb)}{fin:aJ->Bool}(nd:bs.Nodup)(hU:∀s∈bs,s∈U):Cl bs U stp fin (bs.map λs=>(s,none,.no)) 0:=by
 have at':∀(i:Nat) e,(bs.map λs=>((s,none,.no):En))[i]? = some e->∃s,bs[i]? = some s/\e=(s,none,.no):=λi e he=>by
  rw[List.getElem?_map]at he;cases h:bs[i]? with
  | none=>rw[h]at he;cases he
  | some s=>rw[h]at he;cases he;exact⟨s,rfl,rfl⟩
 have mp:(bs.map λs=>((s,none,.no):En)).map (·.1)=bs:=by rw[List.map_map];exact List.map_id bs
 refine⟨⟨by rw[mp];exact nd,λi e j he hj=>?_⟩,⟨λi e he _=>?_,λi j e he hj=>?_⟩,λe he=>?_,λs hs=>by rw[mp];exact hs,Nat.zero_le _,λi e hi=>absurd hi (Nat.not_lt_zero _)⟩
 ·obtain⟨s,_,rfl⟩:=at' i e he
  cases hj
 ·obtain⟨s,hs,rfl⟩:=at' i e he
  exact⟨List.mem_of_getElem? hs,rfl⟩
 ·obtain⟨s,_,rfl⟩:=at' i e he
  cases hj
 ·obtain⟨s,hs,rfl⟩:=List.mem_map.mp he
  exact hU s hs
theorem Cl.next{bs U:List aJ}{stp:aJ->List (aJ×Lb)}{fin:aJ->Bool}{es:List En}{n:Nat}(g:Cl bs U stp fin es n){e:En}(he:es[n]? = some e)(hf:fin e.1=false)(hs:∀x∈stp e.1,x.1∈es.map (·.1)):Cl bs U stp fin es (n+1):=by
 refine⟨g.tree,g.grown,g.inU,g.base,(List.getElem?_eq_some_iff.mp he).1,λi e' hi he'=>?_⟩
 by_cases z:i=n
 ·subst z
  rw[he]at he';cases he';exact⟨hf,hs⟩
 ·exact g.seen i e' (by omega) he'
end
end Sk
namespace Dr
open PySem PySem.Spec L2 Mth Sp1 Sp2 Sp3 Sp7
noncomputable def But(p:Addr)(H H':Hp):Prop:=∀b o,b≠p->H b=some o->H' b=some o
theorem But.trans{p:Addr}{H H1 H2:Hp}(a:But p H H1)(b:But p H1 H2):But p H H2:=λc o n e=>b c o n (a c o n e)
theorem But.of{p:Addr}{H H':Hp}(s:Same H H'):But p H H':=λc o _ e=>s c o e
theorem But.same{p:Addr}{H0 H H':Hp}(b:But p H H')(s:Same H0 H)(h:H0 p=none):Same H0 H':=λc o e=>b c o (aU e h) (s c o e)
theorem But.none{p l:Addr}{H H':Hp}(b:But p H H')(n:l≠p)(h:H' l=none):H l=none:=by
 cases e:H l with
 | none=>rfl
 | some o =>
  rw[b l o n e]at h;cases h
theorem xq{K:W.Frag}{H:Hp}{l:Addr}{xs:List V}{i:Int}{Q:VK}(C:Int->Prop)(e:H l=some (.lst xs))(h0:0<=i)(h1:i<(xs.length:Int))(hC:∀v∈xs,∃m,v = .int m/\C m)(h:∀m,C m->Q (.int m) H):GN K (.ref l) (.int i) H Q :=
 AE e h0 h1 λv hv=>by
  obtain⟨m,rfl,hc⟩:=hC v hv;exact h m hc
theorem kl{qs:Crn}{k:Int}(h0:0<=k)(h1:k<(qs.length:Int)):∃q,qs[k.toNat]? = some q/\atI (qs.map λ(q:Addr×Int×Int)=>V.ref q.1) k=some (.ref q.1):=by
 have hk:k.toNat<qs.length:=by omega
 refine⟨qs[k.toNat],List.getElem?_eq_getElem hk,?_⟩;have:=dP (xs:=qs.map λ(q:Addr×Int×Int)=>V.ref q.1) (j:=k.toNat) (v:=.ref qs[k.toNat].1) (by rw[List.getElem?_map,List.getElem?_eq_getElem hk];rfl);rw[show((k.toNat:Nat):Int)=k by omega]at this;exact this
end Dr
namespace L2
open PySem PySem.Spec PyProof.Rows
section
variable {X:Cx} {e:Expr} {te:TE} {p1 p2 q1 q2:Pos}
theorem oM:bootBuiltins "reversed" = some (.type "reversed"):=by decide +kernel
end
end L2
namespace Wk
open PySem PySem.Spec L2 Mth Sp1 Sp2 Sp3 Sp7 Dr
structure Pr where
 p:Addr
 x:Addr
 y:Addr
 a:Int
 b:Int
 c:Int
 d:Int
structure PrAt(H:Hp)(q:Pr):Prop where
 p_:H q.p=some (.tup [.ref q.x,.ref q.y])
 x_:H q.x=some (.tup [.int q.a,.int q.b])
 y_:H q.y=some (.tup [.int q.c,.int q.d])
 lx:Em q.a q.b
 ly:Em q.c q.d
 nx:0<=q.a
 ny:0<=q.c
 ba:ax q.a<=200
 bb:ax q.b<=60
 bc:ax q.c<=200
 bd:ax q.d<=60
noncomputable def prs(ps:List Pr):List V:=ps.map λq=>V.ref q.p
theorem fe(ps:List Pr):(prs ps).length=ps.length:=List.length_map _
theorem vQ{ps:List Pr}{i:Nat}{v:V}(h:(prs ps)[i]? = some v):∃q,ps[i]? = some q/\v = .ref q.p:=by
 unfold prs at h;rw[List.getElem?_map]at h;obtain⟨q,hq,rfl⟩:=Option.map_eq_some_iff.mp h;exact⟨q,hq,rfl⟩
end Wk
namespace Fnc
open PySem PySem.Spec L2 Mth Sp1 Sp2 Sp3 Sp7 Dr Wk
theorem di(i j:Int):decide (V.int i=V.int j)=decide (i=j):=by
 rw[Bool.eq_iff_iff];simp
end Fnc
namespace Sk
open PySem PySem.Spec L2 Sp24 Wk
noncomputable def ck(i j:Int):aJ:=[.inl i,.inl j]
theorem u8{i j x y:Int}(h:ck i j=ck x y):i=x/\j=y:=by
 unfold ck at h;simp only[List.cons.injEq,Sum.inl.injEq,and_true]at h;exact h
noncomputable def gB(F:Int->Int->Bool)(i k:Nat):List (Int×Int):=((List.range k).filter λ(j:Nat)=>F (i:Int) (j:Int)).map λ(j:Nat)=>((i:Int),(j:Int))
noncomputable def gM(F:Int->Int->Bool)(n i:Nat):List (Int×Int):=(List.range i).flatMap λi'=>gB F i' n
noncomputable def kQ(m n:Nat)(F:Int->Int->Bool):List (Int×Int):=gM F (n+1) (m+1)
theorem hO{F:Int->Int->Bool}{i k:Nat}{p:Int×Int}:p∈gB F i k↔p.1=i/\0<=p.2/\p.2<k/\F p.1 p.2=true:=by
 unfold gB;simp only[List.mem_map,List.mem_filter,List.mem_range];constructor
 ·rintro⟨j,⟨h1,h2⟩,rfl⟩
  exact⟨rfl,by simp,by simpa using h1,h2⟩
 ·rintro⟨h1,h2,h3,h4⟩
  obtain⟨x,y⟩:=p;dsimp only at h1 h2 h3 h4;subst h1;refine⟨y.toNat,⟨by omega,?_⟩,?_⟩
  ·rw[show((y.toNat:Nat):Int)=y by omega];exact h4
  ·rw[show((y.toNat:Nat):Int)=y by omega]
theorem jR{F:Int->Int->Bool}{n i:Nat}{p:Int×Int}:p∈gM F n i↔0<=p.1/\p.1<i/\0<=p.2/\p.2<n/\F p.1 p.2=true:=by
 unfold gM;simp only[List.mem_flatMap,List.mem_range,hO];constructor
 ·rintro⟨i',h1,h2,h3,h4,h5⟩
  exact⟨by omega,by omega,h3,h4,h5⟩
 ·rintro⟨h1,h2,h3,h4,h5⟩
  exact⟨p.1.toNat,by omega,by omega,h3,h4,h5⟩
theorem dU{m n:Nat}{F:Int->Int->Bool}{x y:Int}:(x,y)∈kQ m n F↔0<=x/\x<=m/\0<=y/\y<=n/\F x y=true:=by
 unfold kQ;rw[jR];constructor
 ·rintro⟨h1,h2,h3,h4,h5⟩
  exact⟨h1,by simp at h2;omega,h3,by simp at h4;omega,h5⟩
 ·rintro⟨h1,h2,h3,h4,h5⟩
  exact⟨h1,by simp;omega,h3,by simp;omega,h5⟩
theorem iy{F:Int->Int->Bool}{i k:Nat}:gB F i (k+1)=gB F i k++(if F i k=true then [((i:Int),(k:Int))] else []):=by
 unfold gB;rw[List.range_succ,List.filter_append,List.map_append]
 congr 1
 by_cases h:F i k=true
 ·simp[h]
 ·simp[h]
theorem iM{F:Int->Int->Bool}{n i:Nat}:gM F n (i+1)=gM F n i++gB F i n:=by
 unfold gM;rw[List.range_succ,List.flatMap_append];simp
theorem m9{F:Int->Int->Bool}{i k:Nat}:(gB F i k).length<=k:=by
 unfold gB;rw[List.length_map];exact Nat.le_trans (List.length_filter_le _ _) (by simp)
theorem j8{F:Int->Int->Bool}{n:Nat}:∀{i:Nat},(gM F n i).length<=i*n
 | 0=>by simp[gM]
 | i+1=>by
  rw[iM,List.length_append];have:=j8 (F:=F) (n:=n) (i:=i);have:=m9 (F:=F) (i:=i) (k:=n);rw[Nat.succ_mul];omega
theorem oY{F:Int->Int->Bool}{i k:Nat}:(gB F i k).Nodup:=by
 induction k with
 | zero=>simp[gB]
 | succ k ih =>
  rw[iy,List.nodup_append];refine⟨ih,by split <;> simp,λa ha b hb=>?_⟩
  split at hb
  ·have hb:b=((i:Int),(k:Int)):=by simpa using hb
   rintro rfl;rw[hb]at ha;have:=(hO.mp ha).2.2.1;simp at this
  ·simp at hb
theorem pQ{F:Int->Int->Bool}{n i:Nat}:(gM F n i).Nodup:=by
 induction i with
 | zero=>simp[gM]
 | succ i ih =>
  rw[iM,List.nodup_append];refine⟨ih,oY,λa ha b hb=>?_⟩;rintro rfl;have h1:=(jR.mp ha).2.1;have h2:=(hO.mp hb).1;omega
noncomputable def kvF(l:List (Int×Int)):List (aJ×V):=l.map λp=>(ck p.1 p.2,.bl true)
theorem nS{l:List (Int×Int)}{x y:Int}:ck x y∈(kvF l).map (·.1)↔(x,y)∈l:=by
 unfold kvF;rw[List.map_map];constructor
 ·intro h
  obtain⟨p,hp,e⟩:=List.mem_map.mp h;obtain⟨h1,h2⟩:=u8 e;rw[<- h1,<- h2];exact hp
 ·intro h
  exact List.mem_map.mpr ⟨(x,y),h,rfl⟩
theorem wb{l:List (Int×Int)}{x y:Int}:(dB (kvF l) (ck x y)).isSome=true↔(x,y)∈l:=by
 rw[<- nS];constructor
 ·intro h
  by_cases z:ck x y∈(kvF l).map (·.1)
  ·exact z
  ·rw[gR z]at h;cases h
 ·exact qb
noncomputable def mU(H:Hp)(d:Addr)(m n:Nat)(F:Int->Int->Bool):Prop:=∃o,H d=some (.frz o (.dT (kvF (kQ m n F))))
theorem mU.mono{H H':Hp}{d:Addr}{m n:Nat}{F:Int->Int->Bool}(h:mU H d m n F)(s:Same H H'):mU H' d m n F:=let ⟨o,e⟩:=h;⟨o,s _ _ e⟩
theorem mU.get{H:Hp}{d b:Addr}{m n:Nat}{F:Int->Int->Bool}(h:mU H d m n F){x y:Int}(hb:H b=some (.tup [.int x,.int y])):∃o,fW H d (.ref b) o/\o.isSome=decide ((x,y)∈kQ m n F):=by
 obtain⟨o,e⟩:=h;refine⟨_,.inr ⟨_,ck x y,b,.inr ⟨o,e⟩,rfl,hb,rfl⟩,?_⟩;rw[Bool.eq_iff_iff,wb,decide_eq_true_iff]
noncomputable def U(m n:Nat):List aJ:=(List.range (m+1)).flatMap λi=>(List.range (n+1)).map λj=>ck (i:Nat) (j:Nat)
theorem fO{m n:Nat}{s:aJ}:s∈U m n↔∃x y:Int,s=ck x y/\0<=x/\x<=m/\0<=y/\y<=n:=by
 unfold U;simp only[List.mem_flatMap,List.mem_range,List.mem_map];constructor
 ·rintro⟨i,hi,j,hj,rfl⟩
  exact⟨_,_,rfl,by omega,by omega,by omega,by omega⟩
 ·rintro⟨x,y,rfl,h1,h2,h3,h4⟩
  refine⟨x.toNat,by omega,y.toNat,by omega,?_⟩;rw[show((x.toNat:Nat):Int)=x by omega,show((y.toNat:Nat):Int)=y by omega]
theorem xH{m n:Nat}:(U m n).length=(m+1)*(n+1):=by
 unfold U
 induction (m+1) with
 | zero=>simp
 | succ k ih =>
  rw[List.range_succ (n:=k),List.flatMap_append,List.length_append,ih,Nat.succ_mul];simp
theorem wU{m n:Nat}(hm:m<=20)(hn:n<=20):(U m n).length<900:=by
 rw[xH];have:=Nat.mul_le_mul (show m+1<=21 by omega) (show n+1<=21 by omega);omega
noncomputable def prC(q:Pr)(c:Int×Int):Prop:=q.a=c.1/\q.b=1/\q.c=c.2/\q.d=1
noncomputable def dec:aJ->Int×Int
 | [.inl i,.inl j]=>(i,j)
 | _=>(0,0)
theorem vK{bs U:List aJ}{stp:aJ->List (aJ×Lb)}{fin:aJ->Bool}{l:List (aJ×Lb)}(r:wW bs stp fin l)(hb:∀s∈bs,s∈U)(hs:∀s∈U,∀e∈stp s,e.1∈U):∀(n:Nat) e,l[n]? = some e->e.1∈U:=by
 obtain⟨⟨s,r',rfl,h1⟩,h2,_⟩:=r;intro n
 induction n with
 | zero=>intro e he;simp at he;subst he;exact hb s h1
 | succ k ih =>
  intro e he;have lt:=(List.getElem?_eq_some_iff.mp he).1;obtain⟨a,ha⟩:∃a,((s,Lb.no)::r')[k]? = some a:=⟨((s,Lb.no)::r')[k]'(by omega),by rw[List.getElem?_eq_getElem (by omega)]⟩;exact hs _ (ih a ha) e (h2 k a e ha he)
theorem jk.put{K:W.Frag}{C:List Addr}{H H1:Hp}{v:V}{x:Lb}(hC:∀c∈C,H1 c=none)(h:jk K H1 v x):jk K (ni C H H1) v x:=h.mono λb xs e=>gY hC e
theorem rJ{K:W.Frag}{C:List Addr}{H H1:Hp}{r:Addr}{l:List (aJ×Lb)}(hC:∀c∈C,H1 c=none)(x:gN K H1 r l):gN K (ni C H H1) r l:=by
 obtain⟨vs,e,p⟩:=x;refine⟨vs,gY hC e,Paired.mapP p λa b ⟨t,sv,hv,x1,x2,⟨q,x3,x4⟩,x5⟩=>⟨t,sv,hv,x1,gY hC x2,⟨q,x3,gY hC x4⟩,x5.put hC⟩⟩
theorem vJ{K:W.Frag}{H H1:Hp}{r:Addr}{l:List (aJ×Lb)}(h:∀b o,H b=some o->(∀z,o≠KnO z)->H1 b=some o)(x:gN K H r l):gN K H1 r l:=by
 obtain⟨vs,e,p⟩:=x;have st:SameT H H1:=λb xs e=>h _ _ e (λz q=>by cases q);exact⟨vs,h _ _ e (λz q=>by cases q),Paired.mapP p λa b ⟨t,sv,hv,x1,x2,x3,x5⟩=>⟨t,sv,hv,x1,st _ _ x2,x3.mono st,x5.mono st⟩⟩
theorem j9{m n:Nat}{F:Int->Int->Bool}(hm:m<=20)(hn:n<=20):(kQ m n F).length<900:=by
 have h1:=j8 (F:=F) (n:=n+1) (i:=m+1);have:=Nat.mul_le_mul (show m+1<=21 by omega) (show n+1<=21 by omega);unfold kQ;omega
end Sk
namespace Fz
end Fz
namespace L2
open PySem PySem.Spec PyProof.Rows
noncomputable def ItR(K:W.Frag)(a:Addr)(n:Nat):It:=⟨λi H=>∃xs x,SqL K H a xs/\xs.length=n/\i<n/\xs[n - 1 - i]? = some x,λi H x H'=>H'=H/\∀xs,SqL K H a xs->xs[n - 1 - i]? = some x,λi _=>i=n⟩
theorem sT{P:Program}{w:World}{K:W.Frag}{tg:Expr}(a it:Addr)(n:Nat):El P w K tg (ItR K a n) [it] it (λi h=>h.IsRevIter it a ((n:Int) - 1 - (i:Int))) where
 mem:=by simp
 obj:=λi h st b hb=>by
  have e:b=it:=by simpa using hb
  subst e;obtain⟨o,e,c,d⟩:=st;exact⟨o,e,λv z=>by rw[d]at z;cases z⟩
 keep:=λi h h' st k=>st.at λo e=>k it (by simp) o e
 item:=by
  intro X hP hw hK hc i pins s σ H E I hf st hg;subst hP hw hK;obtain⟨xs,x,hq,hn,hi,hx⟩:=hg;obtain⟨its,rv,p,hz⟩:=I.list hq;obtain⟨u,hu,ru⟩:=rv.get hx;obtain⟨f0,f1,f2,f3,f4,f5⟩:=hf it (by simp);have e0:(n:Int) - 1 - (i:Int)=((n - 1 - i:Nat):Int):=by omega
  have st0:s.heap.IsRevIter it a ((n:Int) - 1 - (i:Int)):=st;rw[e0]at st0;refine wpAny_pyNext_rev_item st0 p.isList (x:=u) (by simpa using hu) λh' st' sb=>?_;have I1:AU X pins σ H { s with heap:=h' }:=I.turned (t':=s.toks) (λb o hb e=>(sb.2 b hb).trans e) f0 f1 f3 f4 f5;have e1:((n - 1 - i:Nat):Int) - 1=(n:Int) - 1 - ((i+1:Nat):Int):=by omega
  rw[e1]at st';obtain⟨o,e,c,d⟩:=id st';exact⟨u,rfl,lI (s:={ s with heap:=h' }) e c d (by decide) ⟨x,H,I1,ru,⟨rfl,λys hy=>by rw[I.list_inj hy hq];exact hx⟩,st',λb hb=>(hf b hb).1⟩⟩
 done:=by
  intro X hP hw hK hc i pins s σ H E I hf st hg;subst hP hw hK;have hg:i=n:=hg;subst hg;obtain⟨f0,f1,f2,f3,f4,f5⟩:=hf it (by simp);have st0:s.heap.IsRevIter it a ((i:Int) - 1 - (i:Int)):=st;rw[show(i:Int) - 1 - (i:Int) = -1 by omega]at st0;exact wpAny_pyNext_rev_end (I.ok.hd hc) st0 λh' eb=>⟨rfl,I.turned (t':=s.toks) (λb o hb e=>eb b o hb e) f0 f1 f3 f4 f5⟩
 self:=λ_ _ _ _ _ st h=>wpAny_pyIter_revIter st h
noncomputable def AH(K:W.Frag)(te:TE):TI:=λσ H R=>te σ H λx H1=>∃a xs,[x] = [.ref a]/\SqL K H1 a xs/\R (ItR K a xs.length) H1
theorem ye{X:Cx}{tg e:Expr}{te:TE}{p1 q1:Pos}(gr:Gl X "reversed")(mr:X.mg "reversed" = none)(he:PE X e te)(h2:starEach [e] X.env = [(false,eval e X.env)]:=by rfl):PI X tg (.Call (.Name "reversed" p1) [e] [] q1) (AH X.K te):=by
 intro pins s σ H R I h;have h':(qd te xL) σ H (λvs H1=>∃a xs,vs = [.ref a]/\SqL X.K H1 a xs/\R (ItR X.K a xs.length) H1):=h;refine wpAny_Call_Name_kw (fP I gr mr oM (PyProof.Rows.callWith_type1 (thn ((ad he ak h2) q1 pins s σ H (λvs H1=>∃a xs,vs = [.ref a]/\SqL X.K H1 a xs/\R (ItR X.K a xs.length) H1) I h') λus s1 ⟨vs,H1,I1,r1,q⟩=>?_) h2 rfl));obtain⟨a,xs,rfl,hx,k⟩:=q;obtain⟨u,rfl,ru⟩:=gP r1;cases ru;obtain⟨its,rv,pl,hz⟩:=I1.list hx;have hl:=rv.length;refine call_reversed_list pl.isList ?_;have al:a<s1.heap.objs.size:=by obtain⟨_,e,_⟩:=pl.isList;exact Heap.lt_size e
 have kp:∀b o,s1.heap.get? b=some o->(s1.heap.push (revObj a ((its.toArray.size:Int) - 1))).get? b=some o:=λb o e=>Heap.get?_push_of_some _ e;have it0:(s1.heap.push (revObj a ((its.toArray.size:Int) - 1))).IsRevIter s1.heap.objs.size a ((its.toArray.size:Int) - 1):=⟨_,Heap.get?_push_size _ rfl,rfl,rfl⟩;refine wpAny_pyIter_revIter (i:=(its.toArray.size:Int) - 1) it0 ?_;refine⟨_,[s1.heap.objs.size],_,_,H1,rfl,I1.kept (t':=s1.toks) kp,sT a s1.heap.objs.size xs.length,?_,λb hb=>?_,k⟩
 ·show Heap.IsRevIter _ _ _ ((xs.length:Int) - 1 - ((0:Nat):Int))
  rw[show(xs.length:Int) - 1 - ((0:Nat):Int)=(its.toArray.size:Int) - 1 by rw[List.size_toArray];omega];exact it0
 ·have e:b=s1.heap.objs.size:=by simpa using hb
  subst e;exact I1.fpOk (Nat.le_refl _) (I1.hok.fresh (Nat.le_refl _))
theorem wA{K:W.Frag}{a:Addr}{xs:List V}{g:TG}{tb:TS}{D:DA}{σ:St}{H:Hp}(Pv:Nat->St->Hp->Prop)(h0:Pv 0 σ H)(hl:∀i σ H,i<=xs.length->Pv i σ H->SqL K H a xs)
  (hs:∀i x σ H,i<xs.length->xs[xs.length - 1 - i]? = some x->Pv i σ H->g x σ H λσ2 H2=>tb { D with nx:=Pv (i+1),ct:=Pv (i+1),bk:=D.nx } σ2 H2) (hd:∀σ H,Pv xs.length σ H->D.nx σ H) :
  ∃W:Nat->Nat->St->Hp->Prop,(∃m,W 0 m σ H)/\∀i m σ H,W i m σ H ->
   ((ItR K a xs.length).stop i H/\D.nx σ H)\/((ItR K a xs.length).go i H/\∃N:St->Hp->Prop,(∀σ' H',N σ' H'->∃m',m'<m/\W (i+1) m' σ' H')/\∀x H',(ItR K a xs.length).yld i H x H'->g x σ H' λσ2 H2=>tb { D with nx:=N,ct:=N,bk:=D.nx } σ2 H2):=by
 refine⟨λi m σ H=>m=xs.length - i/\i<=xs.length/\Pv i σ H,⟨_,rfl,Nat.zero_le _,h0⟩,?_⟩;rintro i m σ H ⟨rfl,hi,p⟩;have q:=hl i σ H hi p
 by_cases hlt:i<xs.length
 ·refine .inr ⟨⟨xs,xs[xs.length - 1 - i],q,rfl,hlt,List.getElem?_eq_getElem (by omega)⟩,Pv (i+1),λσ' H' p'=>⟨xs.length - (i+1),by omega,rfl,hlt,p'⟩,λx H' ⟨e,y⟩=>?_⟩
  subst e;exact hs i x σ _ hlt (y xs q) p
 ·have e:i=xs.length:=by omega
  subst e;exact .inl ⟨rfl,hd σ H p⟩
theorem sH{α:Type}{K:W.Frag}{a:Addr}{xs:List V}{es:List α}{fv:List (Str×Nat)}{g:TG}{tc:TT}{te:TE}{σ:St}{H1:Hp}{Q:VK}{k:Nat}(hD:H1 a=some (.lst xs))(hlen:xs.length<1000)(R:α->V->Prop)(pr:Paired R es xs)(P:α->Bool)
  (hs:∀e x H2 (τ:St) (Kc:VK) (Kn:Hp->Prop),e∈es->R e x->Same H1 H2->τ.length=k->(P e=true->∀H4,Same H2 H4->Kc x H4)->(P e=false->∀H4,Same H2 H4->Kn H4) ->
   g x (τ++fvs fv σ) H2 λσ2 H4=>(∃τ':St,τ'.length=k/\σ2=τ'++fvs fv σ)/\tc σ2 H4 λb H5=>if b=true then te σ2 H5 Kc else Kn H5)
  (hd:∀l ys H',H1 l=none->Same H1 H'->H' l=some (.lst ys)->Paired R (es.filter P) ys->Q (.ref l) H'):jz (Itl K a) k fv g tc te σ H1 Q:=by
 intro l hl;have ll:=Paired.length pr;have la:l≠a:=λz=>by rw[z,hD]at hl;cases hl
 have gp:∀{l:List α} {m:List V},Paired R l m->∀(i:Nat) (b:V),m[i]? = some b->∃a,l[i]? = some a/\R a b:=by
  intro l m p
  induction p with
  | nil=>intro i a e;simp at e
  | cons h r ih =>
   intro i a e;cases i with
   | zero=>simp at e;subst e;exact⟨_,rfl,h⟩
   | succ j=>exact ih j a (by simpa using e)
 refine⟨λi m acc H2=>m=xs.length - i/\i<=xs.length/\acc.length<=i/\Same H1 H2/\H2 l=some (.lst acc)/\Paired R ((es.take i).filter P) acc,⟨_,rfl,Nat.zero_le _,Nat.le_refl _,Same.new hl,upd_same,.nil⟩,?_⟩;rintro i m acc H2 ⟨rfl,hi,e1,sm,e3,hr⟩;refine⟨e3,aZ (by omega),?_⟩
 by_cases hlt:i<xs.length
 ·refine .inr ⟨⟨xs,xs[i],SqL.of (sm _ _ hD),List.getElem?_eq_getElem hlt⟩,λx H3 y τ hτ=>?_⟩
  obtain⟨rfl,e⟩:=y;have hx:=e xs (SqL.of (sm _ _ hD));obtain⟨ee,he,hre⟩:=gp pr i x hx;have tk:es.take (i+1)=es.take i++[ee]:=by rw[List.take_add_one,he];rfl
  refine hs ee x H3 τ _ _ (List.mem_of_getElem? he) hre sm hτ (λhsel H4 s4=>⟨s4 _ _ e3,xs.length - (i+1),by omega,rfl,hlt,by simp;exact e1,(sm.trans s4).upd hl,upd_same,?_⟩) λhsel H4 s4=>⟨xs.length - (i+1),by omega,rfl,hlt,by omega,sm.trans s4,s4 _ _ e3,?_⟩
  ·rw[tk,List.filter_append,List.filter_cons,hsel]
   exact Paired.snoc hr hre
  ·rw[tk,List.filter_append,List.filter_cons,hsel]
   simp only[Bool.false_eq_true,if_false,List.filter_nil,List.append_nil];exact hr
 ·have e:i=xs.length:=by omega
  subst e;rw[List.take_of_length_le (by omega)]at hr;exact .inl ⟨⟨xs,SqL.of (sm _ _ hD),Nat.le_refl _⟩,hd l acc H2 hl sm e3 hr⟩
theorem jF(n:Nat):sliceRange ((n:Int) - 1) (-1) (-1)=(List.range n).map λk=>n - 1 - k:=by
 unfold sliceRange;have e:(if ((-1:Int)>0) then (if (n:Int) - 1 < -1 then (-1 - ((n:Int) - 1) + -1 - 1) / -1 else 0) else (if (n:Int) - 1 > -1 then ((n:Int) - 1 - -1 - -1 - 1) / - -1 else 0)).toNat=n:=by
  rw[if_neg (by decide)]
  split
  ·rw[show - (-1:Int)=1 from rfl,Int.ediv_one]
   omega
  ·omega
 show List.map (λk:Nat=>((n:Int) - 1 + -1*(k:Int)).toNat) (List.range (if ((-1:Int)>0) then (if (n:Int) - 1 < -1 then (-1 - ((n:Int) - 1) + -1 - 1) / -1 else 0) else (if (n:Int) - 1 > -1 then ((n:Int) - 1 - -1 - -1 - 1) / - -1 else 0)).toNat)=_
 rw[e];refine List.map_congr_left λk _=>?_;omega
theorem kB(its:List Value):slicePick its.toArray none none (some (-1))=its.reverse.toArray:=by
 unfold slicePick;have b:sliceBounds none none (some (-1)) its.toArray.size=((its.length:Int) - 1,-1,-1):=by
  unfold sliceBounds;simp
 rw[b];show(List.filterMap (λx=>its.toArray[x]?) (sliceRange ((its.length:Int) - 1) (-1) (-1))).toArray=_;rw[jF]
 congr 1
 have key:∀(l:List Value),List.filterMap (λx=>l[x]?) ((List.range l.length).map λk=>l.length - 1 - k)=l.reverse:=by
  intro l;have e2:(List.range l.length).map (λk=>l.length - 1 - k)=(List.range l.length).reverse:=by
   refine List.ext_getElem? λi=>?_
   by_cases hi:i<l.length
   ·rw[List.getElem?_map,List.getElem?_range hi,List.getElem?_reverse (by simpa using hi),List.length_range,List.getElem?_range (by omega)]
    rfl
   ·rw[List.getElem?_eq_none (by simp;omega),List.getElem?_eq_none (by simp;omega)]
  rw[e2,List.filterMap_reverse]
  congr 1
  have this:∀(l:List Value),List.filterMap (λx=>l[x]?) (List.range l.length)=l:=by
   intro l;have h:∀n,n<=l.length->List.filterMap (λx=>l[x]?) (List.range n)=l.take n:=by
    intro n
    induction n with
    | zero=>intro _;rfl
    | succ n ih =>
     intro hn;rw[List.range_succ,List.filterMap_append,ih (by omega),List.take_succ]
     congr 1
   rw[h _ (Nat.le_refl _),List.take_length]
  exact this l
 have k2:=key its;simpa using k2
section
variable {X:Cx} {e:Expr} {te:TE} {st:Expr} {ts:TO} {pos p2:Pos}
noncomputable def zq(K:W.Frag)(te:TE)(ts:TO):TE:=λσ H Q=>te σ H λx H1=>ts σ H1 λo H2=>o=some (-1)/\∃a xs,x = .ref a/\SqL K H2 a xs/\∀p H3,Same H2 H3->H3 p=some (.lst xs.reverse)->H2 p=none->Q (.ref p) H3
theorem rL(he:PE X e te)(hs:PO X (some st) ts):PE X (.Subscript e (.Slice none none (some st) p2) pos) (zq X.K te ts):=by
 intro pins s σ H Q I h;refine Subscript_ (thn (he pins s σ H _ I h) λv s1 ⟨x,H1,I1,r1,q1⟩=>?_);refine wpAny_Slice ?_;rw[evalPart_none];refine wpAny_pure ?_;refine wpAny_pure ?_;refine thn (hs pins s1 σ H1 _ I1 q1) λvs s3 ⟨o,H3,I3,ps,q3⟩=>?_;obtain⟨rfl,a,xs,rfl,hx,q⟩:=q3;have I4:AU X pins σ H3 { s3 with heap:=s3.heap.push { cls:=.type "slice",data:=.fields #[.none,.none,vs] } }:=I3.kept (t':=s3.toks) λb ob q=>Heap.get?_push_of_some _ q;cases r1;obtain⟨its,r,ht,hz⟩:=I4.list hx;show wpAny (model X.prog X.w) X.A (subscriptTail e (.Slice none none (some st) p2) (.ref a) (.ref s3.heap.objs.size)) (EP X pins σ Q) X.xe { s3 with heap:=s3.heap.push { cls:=.type "slice",data:=.fields #[.none,.none,vs] } }
 refine tail_any (ops:=[.ref a,.ref s3.heap.objs.size]) ht.isList.typeIs slot_list_getitem.lookup ?_ (by with_unfolding_all rfl);have hlen:=r.length;refine wpAny_getItem_list_slice ht.isList (Heap.IsSliceOf.new ..) .none .none ps (by decide) ?_ (by rw[List.size_toArray] <;> omega);rw[kB];have hf:=I4.hok.fresh (Nat.le_refl _);refine⟨.ref _,upd H3 _ (.lst xs.reverse),I4.laid (λb ob q=>Heap.get?_push_of_some _ q) (Nat.le_refl _) ?_,rfl,q _ _ (Same.new hf) upd_same hf⟩;exact⟨by rw[List.length_reverse];exact hz,_,0,r.reverse,Heap.get?_push_size _ rfl⟩
end
end L2
namespace Sp5
open PySem PySem.Spec L2 Mth Sp1 Sp2 Sp3 Sp24
structure BV(T a A:Int):Prop where
 nn:0<=A
 lo:A*A<=T*a
 hi:T*a<(A+1)*(A+1)
theorem qi{x y:Int}(hx:0<=x)(h:x<y):x*x<y*y:=by
 have h1:x*x<=y*x:=Int.mul_le_mul_of_nonneg_right (by omega) hx;have h2:y*x<y*y:=Int.mul_lt_mul_of_pos_left h (by omega);omega
theorem k9{x y:Int}(hy:0<=y)(h:x*x<=y*y):x<=y:=by
 by_cases hx:x<=y
 ·exact hx
 ·have:=qi hy (show y<x by omega)
  omega
theorem bQ{x y:Int}(hx:0<=x)(h:x<=y):x*x<=y*y:=Int.mul_le_mul h h hx (by omega)
theorem BV.uniq{T a A B:Int}(h:BV T a A)(k:BV T a B):A=B:=by
 have h1:A<=B:=by
  by_cases z:A<=B
  ·exact z
  ·have:=bQ (x:=B+1) (y:=A) (by have:=k.nn;omega) (by omega)
   have:=k.hi;have:=h.lo;omega
 have h2:B<=A:=by
  by_cases z:B<=A
  ·exact z
  ·have:=bQ (x:=A+1) (y:=B) (by have:=h.nn;omega) (by omega)
   have:=h.hi;have:=k.lo;omega
 omega
theorem BV.mono{T a c A C:Int}(hT:0<=T)(h:BV T a A)(k:BV T c C)(hac:a<=c):A<=C:=by
 by_cases z:A<=C
 ·exact z
 ·have:=bQ (x:=C+1) (y:=A) (by have:=k.nn;omega) (by omega)
  have:=k.hi;have:=h.lo;have:T*a<=T*c:=Int.mul_le_mul_of_nonneg_left hac hT;omega
structure DP(S M:Int):Prop where
 m1:1<=M
 s:216*(M*(M*M))<=S
theorem DP.mm{S M:Int}(h:DP S M):M<=M*M/\M*M<=M*(M*M):=by
 have h1:=h.m1;have a:1*M<=M*M:=Int.mul_le_mul_of_nonneg_right h1 (by omega);have b:1*(M*M)<=M*(M*M):=Int.mul_le_mul_of_nonneg_right h1 (by omega);omega
theorem DP.pos{S M:Int}(h:DP S M):216*M<=S:=by
 have:=h.mm;have:=h.s;omega
theorem DP.big{S M K:Int}(h:DP S M)(hK:K<=24*(S*M)):K<S*S:=by
 have p:=h.pos;have m1:=h.m1;have:S*(216*M)<=S*S:=Int.mul_le_mul_of_nonneg_left p (by omega);have e:S*(216*M)=216*(S*M):=by grind
 have q:0<S*M:=Int.mul_pos (by omega) (by omega);omega
theorem DP.fin{S M K f:Int}(h:DP S M)(f0:0<=f)(hf:f<=2*(M*M))(k0:0<=K)(hK:K<=24*(S*M)):2*((S*S)*(f*K))+K*K<(S*S)*(S*S):=by
 have m1:=h.m1;have p:=h.pos;have s0:0<S:=by omega
 have mm:=h.mm;have q:0<S*M:=Int.mul_pos s0 (by omega);have a1:f*K<=2*(M*M)*(24*(S*M)):=Int.mul_le_mul hf hK k0 (by omega);have a2:2*(M*M)*(24*(S*M))=48*(S*(M*(M*M))):=by grind
 have a3:S*(216*(M*(M*M)))<=S*S:=Int.mul_le_mul_of_nonneg_left h.s (by omega);have a4:S*(216*(M*(M*M)))=216*(S*(M*(M*M))):=by grind
 have a5:9*(f*K)<=2*(S*S):=by omega
 have b1:K*K<=(24*(S*M))*(24*(S*M)):=Int.mul_le_mul hK hK k0 (by omega);have b2:(24*(S*M))*(24*(S*M))=(S*S)*(576*(M*M)):=by grind
 have b3:216*(M*M)<=S:=by have:=h.s;omega
 have b4:1*S<=S*S:=Int.mul_le_mul_of_nonneg_right (by omega) (by omega);have t0:0<S*S:=Int.mul_pos s0 s0;have b5:3*(576*(M*M))<=S*S:=by
  have:216*S<=S*S:=by
   have:216*S<=S*S:=Int.mul_le_mul_of_nonneg_right (by omega) (by omega);exact this
  omega
 have c1:(S*S)*(9*(f*K))<=(S*S)*(2*(S*S)):=Int.mul_le_mul_of_nonneg_left a5 (by omega);have c2:(S*S)*(3*(576*(M*M)))<=(S*S)*(S*S):=Int.mul_le_mul_of_nonneg_left b5 (by omega);have d1:(S*S)*(9*(f*K))=9*((S*S)*(f*K)):=by grind
 have d2:(S*S)*(2*(S*S))=2*((S*S)*(S*S)):=by grind
 have d3:(S*S)*(3*(576*(M*M)))=3*((S*S)*(576*(M*M))):=by grind
 have t1:0<(S*S)*(S*S):=Int.mul_pos t0 t0;omega
theorem BV.le{S M a A:Int}(h:DP S M)(r:BV (S*S) a A)(ha:a<=M*M):A<=S*M:=by
 have m1:=h.m1;have p:=h.pos;refine k9 (Int.mul_nonneg (by omega) (by omega)) ?_;have:(S*S)*a<=(S*S)*(M*M):=Int.mul_le_mul_of_nonneg_left ha (Int.mul_nonneg (by omega) (by omega));have e:(S*M)*(S*M)=(S*S)*(M*M):=by grind
 have:=r.lo;omega
theorem BV.ge{S M a A:Int}(h:DP S M)(r:BV (S*S) a A)(ha:1<=a):S<=A:=by
 have m1:=h.m1;have p:=h.pos
 by_cases z:S<=A
 ·exact z
 ·have:=bQ (x:=A+1) (y:=S) (by have:=r.nn;omega) (by omega)
  have:(S*S)*1<=(S*S)*a:=Int.mul_le_mul_of_nonneg_left ha (Int.mul_nonneg (by omega) (by omega));have:=r.hi;omega
theorem D1{S M a c A C:Int}(h:DP S M)(ra:BV (S*S) a A)(rc:BV (S*S) c C)(hc:c<=M*M)(hac:c+1<=a):C+2<A:=by
 have m1:=h.m1;have p:=h.pos
 by_cases z:C+2<A
 ·exact z
 ·have c0:=rc.nn
  have h1:=bQ (x:=A+1) (y:=C+3) (by have:=ra.nn;omega) (by omega);have e1:(C+3)*(C+3)=C*C+6*C+9:=by grind
  have h2:(S*S)*(c+1)<=(S*S)*a:=Int.mul_le_mul_of_nonneg_left hac (Int.mul_nonneg (by omega) (by omega));have e2:(S*S)*(c+1)=(S*S)*c+S*S:=by grind
  have:=ra.hi;have:=rc.lo;have hC:=rc.le h hc;have q:S*1<=S*M:=Int.mul_le_mul_of_nonneg_left m1 (by omega);have:=h.big (K:=6*C+9) (by omega);omega
theorem BV.prod{T a c A C:Int}(hT:0<=T)(ha:0<=a)(hc:0<=c)(ra:BV T a A)(rc:BV T c C):(2*(A*C))*(2*(A*C))<=T*T*(4*(a*c))/\T*T*(4*(a*c))<=(2*((A+1)*(C+1)))*(2*((A+1)*(C+1))):=by
 have a0:=ra.nn;have c0:=rc.nn;have ta:0<=T*a:=Int.mul_nonneg hT ha;have tc:0<=T*c:=Int.mul_nonneg hT hc;have h1:(A*A)*(C*C)<=(T*a)*(T*c):=Int.mul_le_mul ra.lo rc.lo (Int.mul_nonneg c0 c0) ta;have h2:(T*a)*(T*c)<=((A+1)*(A+1))*((C+1)*(C+1)):=Int.mul_le_mul (Int.le_of_lt ra.hi) (Int.le_of_lt rc.hi) tc (Int.mul_nonneg (by omega) (by omega));have e1:(2*(A*C))*(2*(A*C))=4*((A*A)*(C*C)):=by grind
 have e2:(2*((A+1)*(C+1)))*(2*((A+1)*(C+1)))=4*(((A+1)*(A+1))*((C+1)*(C+1))):=by grind
 have e3:T*T*(4*(a*c))=4*((T*a)*(T*c)):=by grind
 rw[e1,e2,e3];omega
theorem uq{S M a c A C f K:Int}(h:DP S M)(ha:0<=a)(hc:0<=c)(ra:BV (S*S) a A)(rc:BV (S*S) c C)(f1:1<=f)(hf:f<=2*(M*M))(k0:0<=K)(hK:K<=24*(S*M))(hfc:4*(a*c)+1<=f*f)(hle:(S*S)*f<=2*(A*C)+K):False:=by
 have m1:=h.m1;have p:=h.pos;have t0:0<S*S:=Int.mul_pos (by omega) (by omega);have big:=h.big hK;have g1:(S*S)*1<=(S*S)*f:=Int.mul_le_mul_of_nonneg_left f1 (by omega);have y0:0<=(S*S)*f - K:=by omega
 have y1:=bQ (x:=(S*S)*f - K) (y:=2*(A*C)) y0 (by omega);have y2:=(BV.prod (by omega) ha hc ra rc).1;have y3:(S*S)*(S*S)*(4*(a*c)+1)<=(S*S)*(S*S)*(f*f):=Int.mul_le_mul_of_nonneg_left hfc (Int.mul_nonneg (by omega) (by omega));have y4:=h.fin (by omega) hf k0 hK;have e1:((S*S)*f - K)*((S*S)*f - K)=(S*S)*(S*S)*(f*f) - 2*((S*S)*(f*K))+K*K:=by grind
 have e2:(S*S)*(S*S)*(4*(a*c)+1)=(S*S)*(S*S)*(4*(a*c))+(S*S)*(S*S):=by grind
 have kk:0<=K*K:=Int.mul_nonneg k0 k0;omega
theorem xz{S M a c A C f K:Int}(h:DP S M)(ha:0<=a)(hc:0<=c)(ra:BV (S*S) a A)(rc:BV (S*S) c C)(f0:0<=f)(hf:f<=2*(M*M))(k0:0<=K)(hK:K<=24*(S*M))(hfc:f*f+1<=4*(a*c))(hle:2*((A+1)*(C+1))<=(S*S)*f+K):False:=by
 have m1:=h.m1;have p:=h.pos;have t0:0<S*S:=Int.mul_pos (by omega) (by omega);have a0:=ra.nn;have c0:=rc.nn;have z0:0<=2*((A+1)*(C+1)):=by
  have:0<=(A+1)*(C+1):=Int.mul_nonneg (by omega) (by omega);omega
 have y1:=bQ z0 hle;have y2:=(BV.prod (by omega) ha hc ra rc).2;have y3:(S*S)*(S*S)*(f*f+1)<=(S*S)*(S*S)*(4*(a*c)):=Int.mul_le_mul_of_nonneg_left hfc (Int.mul_nonneg (by omega) (by omega));have y4:=h.fin f0 hf k0 hK;have e1:((S*S)*f+K)*((S*S)*f+K)=(S*S)*(S*S)*(f*f)+2*((S*S)*(f*K))+K*K:=by grind
 have e2:(S*S)*(S*S)*(f*f+1)=(S*S)*(S*S)*(f*f)+(S*S)*(S*S):=by grind
 omega
section
variable {S M a c A C v:Int}
theorem L1(h:DP S M)(ha:0<=a)(hc:0<=c)(haM:a<=M*M)(hcM:c<=M*M)(ra:BV (S*S) a A)(rc:BV (S*S) c C)(v0:0<=v)(hv:v<=M)(he:0<v*v - a - c)(hd:4*(a*c)+1<=(v*v - a - c)*(v*v - a - c)):2<v*S - A - C:=by
 by_cases z:2<v*S - A - C
 ·exact z
 exfalso;have m1:=h.m1;have p:=h.pos;have a0:=ra.nn;have c0:=rc.nn;have hA:=ra.le h haM;have hC:=rc.le h hcM;have q:S*1<=S*M:=Int.mul_le_mul_of_nonneg_left m1 (by omega);have vv:v*v<=M*M:=bQ v0 hv;have s1:=bQ (x:=v*S) (y:=A+C+2) (Int.mul_nonneg v0 (by omega)) (by omega);have e1:(v*S)*(v*S)=(S*S)*(v*v):=by grind
 have e2:(A+C+2)*(A+C+2)=A*A+C*C+2*(A*C)+4*A+4*C+4:=by grind
 have e3:(S*S)*(v*v - a - c)=(S*S)*(v*v) - (S*S)*a - (S*S)*c:=by grind
 have:=ra.lo;have:=rc.lo;exact uq h ha hc ra rc (f:=v*v - a - c) (K:=4*A+4*C+4) (by omega) (by omega) (by omega) (by omega) hd (by omega)
theorem L2(h:DP S M)(ha:0<=a)(hc:0<=c)(ra:BV (S*S) a A)(rc:BV (S*S) c C)(v0:0<=v)(hv:v<=M)(hd:v*v - a - c<0\/(0<=v*v - a - c/\(v*v - a - c)*(v*v - a - c)+1<=4*(a*c))):v*S - A - C < -2:=by
 by_cases z:v*S - A - C < -2
 ·exact z
 exfalso;have m1:=h.m1;have p:=h.pos;have a0:=ra.nn;have c0:=rc.nn;have q:S*1<=S*M:=Int.mul_le_mul_of_nonneg_left m1 (by omega);have vs:v*S<=M*S:=Int.mul_le_mul_of_nonneg_right hv (by omega);have ms:M*S=S*M:=Int.mul_comm _ _;have vv:v*v<=M*M:=bQ v0 hv;have s1:=bQ (x:=A+1+(C+1)) (y:=v*S+4) (by omega) (by omega);have e1:(v*S+4)*(v*S+4)=(S*S)*(v*v)+8*(v*S)+16:=by grind
 have e2:(A+1+(C+1))*(A+1+(C+1))=(A+1)*(A+1)+(C+1)*(C+1)+2*((A+1)*(C+1)):=by grind
 have e3:(S*S)*(v*v - a - c)=(S*S)*(v*v) - (S*S)*a - (S*S)*c:=by grind
 have:=ra.hi;have:=rc.hi;have vs0:0<=v*S:=Int.mul_nonneg v0 (by omega);have z0:0<=(A+1)*(C+1):=Int.mul_nonneg (by omega) (by omega);rcases hd with hd|⟨hd0,hd⟩
 ·have g:(S*S)*(v*v - a - c)<=(S*S)*(-1):=Int.mul_le_mul_of_nonneg_left (by omega) (Int.mul_nonneg (by omega) (by omega))
  have:=h.big (K:=8*(v*S)+16) (by omega);omega
 ·exact xz h ha hc ra rc (f:=v*v - a - c) (K:=8*(v*S)+16) hd0 (by omega) (by omega) (by omega) hd (by omega)
theorem L3(h:DP S M)(ha:0<=a)(hc:0<=c)(ra:BV (S*S) a A)(rc:BV (S*S) c C)(v0:0<=v)(he:0<=v*v - a - c)(hd:(v*v - a - c)*(v*v - a - c)=4*(a*c)):-2<=v*S - A - C/\v*S - A - C<=2:=by
 have m1:=h.m1;have p:=h.pos;have a0:=ra.nn;have c0:=rc.nn;have t0:0<=S*S:=Int.mul_nonneg (by omega) (by omega);have vs0:0<=v*S:=Int.mul_nonneg v0 (by omega);have pr:=BV.prod t0 ha hc ra rc;have e0:(S*S*(v*v - a - c))*(S*S*(v*v - a - c))=S*S*(S*S)*(4*(a*c)):=by rw[<- hd];grind
 have te:0<=S*S*(v*v - a - c):=Int.mul_nonneg t0 he;have k1:2*(A*C)<=S*S*(v*v - a - c):=k9 te (by omega);have z0:0<=(A+1)*(C+1):=Int.mul_nonneg (by omega) (by omega);have k2:S*S*(v*v - a - c)<=2*((A+1)*(C+1)):=k9 (by omega) (by omega);have e3:(S*S)*(v*v - a - c)=(S*S)*(v*v) - (S*S)*a - (S*S)*c:=by grind
 have e4:(v*S)*(v*S)=(S*S)*(v*v):=by grind
 have e5:(A+C)*(A+C)=A*A+C*C+2*(A*C):=by grind
 have e6:(A+1+(C+1))*(A+1+(C+1))=(A+1)*(A+1)+(C+1)*(C+1)+2*((A+1)*(C+1)):=by grind
 have:=ra.lo;have:=rc.lo;have:=ra.hi;have:=rc.hi;have h1:A+C<=v*S:=k9 vs0 (by omega);have h2:v*S<=A+1+(C+1):=k9 (by omega) (by omega);omega
theorem L4(h:DP S M)(ha:0<=a)(hc:0<=c)(haM:a<=M*M)(hcM:c<=M*M)(ra:BV (S*S) a A)(rc:BV (S*S) c C)(v0:0<v)(hd:0<v*v - a - c\/(v*v - a - c<=0/\(v*v - a - c)*(v*v - a - c)+1<=4*(a*c))):2<v*S+A - C:=by
 by_cases z:2<v*S+A - C
 ·exact z
 exfalso;have m1:=h.m1;have p:=h.pos;have a0:=ra.nn;have c0:=rc.nn;have hA:=ra.le h haM;have hC:=rc.le h hcM;have q:S*1<=S*M:=Int.mul_le_mul_of_nonneg_left m1 (by omega);have s1:=bQ (x:=v*S) (y:=C - A+2) (Int.mul_nonneg (by omega) (by omega)) (by omega);have e1:(v*S)*(v*S)=(S*S)*(v*v):=by grind
 have e2:(C - A+2)*(C - A+2)=A*A+C*C - 2*(A*C)+4*C - 4*A+4:=by grind
 have e3:(S*S)*(v*v - a - c)=(S*S)*(v*v) - (S*S)*a - (S*S)*c:=by grind
 have e4:(A+1)*(C+1)=A*C+A+C+1:=by grind
 have:=ra.lo;have:=rc.lo;have ac0:0<=A*C:=Int.mul_nonneg a0 c0;rcases hd with hd|⟨hd0,hd⟩
 ·have g:(S*S)*1<=(S*S)*(v*v - a - c):=Int.mul_le_mul_of_nonneg_left (by omega) (Int.mul_nonneg (by omega) (by omega))
  have:=h.big (K:=4*C+4) (by omega);omega
 ·have e5:(S*S)*(-(v*v - a - c)) = -((S*S)*(v*v - a - c)):=by grind
  have vv:0<=v*v:=Int.mul_nonneg (by omega) (by omega);have e6:-(v*v - a - c) * -(v*v - a - c)=(v*v - a - c)*(v*v - a - c):=by grind
  exact xz h ha hc ra rc (f:=-(v*v - a - c)) (K:=6*C+2*A+6) (by omega) (by omega) (by omega) (by omega) (by rw[e6];exact hd) (by omega)
theorem L5(h:DP S M)(ha:0<=a)(hc:0<=c)(haM:a<=M*M)(hcM:c<=M*M)(hac:a<=c)(ra:BV (S*S) a A)(rc:BV (S*S) c C)(v0:0<v)(hv:v<=M)(he:v*v - a - c<0)(hd:4*(a*c)+1<=(v*v - a - c)*(v*v - a - c)):v*S+A - C < -2:=by
 by_cases z:v*S+A - C < -2
 ·exact z
 exfalso;have m1:=h.m1;have p:=h.pos;have a0:=ra.nn;have c0:=rc.nn;have hA:=ra.le h haM;have hC:=rc.le h hcM;have q:S*1<=S*M:=Int.mul_le_mul_of_nonneg_left m1 (by omega);have vs:v*S<=M*S:=Int.mul_le_mul_of_nonneg_right hv (by omega);have ms:M*S=S*M:=Int.mul_comm _ _;have t0:0<=S*S:=Int.mul_nonneg (by omega) (by omega);have hAC:=BV.mono t0 ra rc hac;have vs0:0<=v*S:=Int.mul_nonneg (by omega) (by omega);have s1:=bQ (x:=C - A) (y:=v*S+2) (by omega) (by omega);have e1:(v*S+2)*(v*S+2)=(S*S)*(v*v)+4*(v*S)+4:=by grind
 have e2:(C - A)*(C - A)=A*A+C*C - 2*(A*C):=by grind
 have e3:(S*S)*(v*v - a - c)=(S*S)*(v*v) - (S*S)*a - (S*S)*c:=by grind
 have e5:(S*S)*(-(v*v - a - c)) = -((S*S)*(v*v - a - c)):=by grind
 have e6:-(v*v - a - c) * -(v*v - a - c)=(v*v - a - c)*(v*v - a - c):=by grind
 have e7:(A+1)*(A+1)=A*A+2*A+1:=by grind
 have e8:(C+1)*(C+1)=C*C+2*C+1:=by grind
 have vv:0<=v*v:=Int.mul_nonneg (by omega) (by omega);have:=ra.hi;have:=rc.hi;exact uq h ha hc ra rc (f:=-(v*v - a - c)) (K:=4*(v*S)+4+2*A+2*C) (by omega) (by omega) (by omega) (by omega) (by rw[e6];exact hd) (by omega)
theorem L6(h:DP S M)(ha:0<=a)(hc:0<=c)(hac:a<=c)(ra:BV (S*S) a A)(rc:BV (S*S) c C)(v0:0<v)(he:v*v - a - c<=0)(hd:(v*v - a - c)*(v*v - a - c)=4*(a*c)):-2<=v*S+A - C/\v*S+A - C<=2:=by
 have m1:=h.m1;have p:=h.pos;have a0:=ra.nn;have c0:=rc.nn;have t0:0<S*S:=Int.mul_pos (by omega) (by omega);have vs0:0<v*S:=Int.mul_pos (by omega) (by omega);have aa:a*a<=a*c:=Int.mul_le_mul_of_nonneg_left hac ha;have f2:2*a<=-(v*v - a - c):=k9 (by omega) (by
  have e1:(2*a)*(2*a)=4*(a*a):=by grind
  have e2:-(v*v - a - c) * -(v*v - a - c)=(v*v - a - c)*(v*v - a - c):=by grind
  rw[e1,e2,hd];omega)
 have g0:0<=c - a - v*v:=by omega
 have gg:(c - a - v*v)*(c - a - v*v)=4*(v*v*a):=by
  have:(c - a - v*v)*(c - a - v*v) - 4*(v*v*a)=(v*v - a - c)*(v*v - a - c) - 4*(a*c):=by grind
  omega
 have:=ra.lo;have:=rc.lo;have:=ra.hi;have:=rc.hi;have e3:(S*S)*(c - a - v*v)=(S*S)*c - (S*S)*a - (S*S)*(v*v):=by grind
 have sg0:0<=S*(c - a - v*v):=Int.mul_nonneg (by omega) g0;have k1:C<=v*S+A:=by
  by_cases z:C<=v*S+A
  ·exact z
  exfalso;have s1:=bQ (x:=v*S+(A+1)) (y:=C) (by omega) (by omega);have e1:(v*S+(A+1))*(v*S+(A+1))=(S*S)*(v*v)+S*(2*(v*(A+1)))+(A+1)*(A+1):=by grind
  have e2:(S*S)*(c - a - v*v)=S*(S*(c - a - v*v)):=by grind
  have l1:S*(2*(v*(A+1)))<S*(S*(c - a - v*v)):=by omega
  have l2:2*(v*(A+1))<S*(c - a - v*v):=Int.lt_of_mul_lt_mul_left l1 (by omega);have va:0<=v*(A+1):=Int.mul_nonneg (by omega) (by omega);have l3:=bQ (x:=2*(v*(A+1))) (y:=S*(c - a - v*v)) (by omega) (by omega);have e4:(S*(c - a - v*v))*(S*(c - a - v*v))=4*(v*v*(S*S*a)):=by
   have:(S*(c - a - v*v))*(S*(c - a - v*v))=(S*S)*((c - a - v*v)*(c - a - v*v)):=by grind
   rw[this,gg];grind
  have e5:(2*(v*(A+1)))*(2*(v*(A+1)))=4*(v*v*((A+1)*(A+1))):=by grind
  have l4:v*v*(S*S*a)<v*v*((A+1)*(A+1)):=Int.mul_lt_mul_of_pos_left ra.hi (Int.mul_pos v0 v0);omega
 have k2:v*S+A<=C+1:=by
  by_cases z:v*S+A<=C+1
  ·exact z
  exfalso;have s1:=bQ (x:=C+1) (y:=v*S+A) (by omega) (by omega);have e1:(v*S+A)*(v*S+A)=(S*S)*(v*v)+S*(2*(v*A))+A*A:=by grind
  have e2:(S*S)*(c - a - v*v)=S*(S*(c - a - v*v)):=by grind
  have l1:S*(S*(c - a - v*v))<S*(2*(v*A)):=by omega
  have l2:S*(c - a - v*v)<2*(v*A):=Int.lt_of_mul_lt_mul_left l1 (by omega);have l3:(S*(c - a - v*v))*(S*(c - a - v*v))<(2*(v*A))*(2*(v*A)):=qi sg0 l2;have e4:(S*(c - a - v*v))*(S*(c - a - v*v))=4*(v*v*(S*S*a)):=by
   have:(S*(c - a - v*v))*(S*(c - a - v*v))=(S*S)*((c - a - v*v)*(c - a - v*v)):=by grind
   rw[this,gg];grind
  have e5:(2*(v*A))*(2*(v*A))=4*(v*v*(A*A)):=by grind
  have l4:v*v*(A*A)<=v*v*(S*S*a):=Int.mul_le_mul_of_nonneg_left ra.lo (Int.mul_nonneg (by omega) (by omega));omega
 omega
end
theorem da{x:Int}(h:0<x):sg x=1:=by unfold sg;rw[if_pos h]
theorem eE{x:Int}(h:x<0):sg x = -1:=by unfold sg;rw[if_neg (by omega),if_pos h]
theorem jG{x:Int}(h:x=0):sg x=0:=by subst h;rfl
theorem db(x:Int):sg (-x) = -sg x:=by
 rcases Int.lt_trichotomy x 0 with h|h|h
 ·rw[eE h,da (by omega)];rfl
 ·subst h;rfl
 ·rw[da h,eE (by omega)]
noncomputable def gS(x:Int):Int:=(if decide (x>2)=true then 1 else 0) - (if decide (x < -2)=true then 1 else 0)
theorem eD{x:Int}(h:2<x):gS x=1:=by
 unfold gS;rw[decide_eq_true (show x>2 from h),decide_eq_false (show ¬x < -2 by omega)];rfl
theorem jB{x:Int}(h:x < -2):gS x = -1:=by
 unfold gS;rw[decide_eq_false (show ¬x>2 by omega),decide_eq_true h];rfl
theorem iw{x:Int}(h:-2<=x/\x<=2):gS x=0:=by
 unfold gS;rw[decide_eq_false (show ¬x>2 by omega),decide_eq_false (show ¬x < -2 by omega)];rfl
theorem jA(x:Int):gS (-x) = -gS x:=by
 by_cases h:2<x
 ·rw[eD h,jB (by omega)]
 by_cases h2:x < -2
 ·rw[jB h2,eD (by omega)];rfl
 ·rw[iw (x:=x) (by omega),iw (by omega)];rfl
theorem cZ{x:Int}(h:0<=x):ssq x=x*x:=by unfold ssq;rw[if_neg (by omega)]
theorem dw{x:Int}(h:x<0):ssq x = -(x*x):=by unfold ssq;rw[if_pos h,Int.mul_neg]
section
variable {S M a c A C w:Int}
noncomputable def Gp(w a c:Int):Int:=if sg w*sg (a+c)>=0 then sg (sg w+sg (a+c)) else sg w*sg (ssq (w*w - a - c) - 4*(a*c))
noncomputable def Gm(w a c:Int):Int:=if sg w*sg (a - c)>=0 then sg (sg w+sg (a - c)) else sg w*sg (ssq (w*w - a - c)+4*(a*c))
theorem rt0(h:DP S M)(r:BV (S*S) 0 A):A=0:=by
 have h0:BV (S*S) 0 0:=⟨Int.le_refl _,by simp,by simp⟩;exact r.uniq h0
theorem pp(h:DP S M)(ha:0<=a)(hc:0<=c)(haM:a<=M*M)(hcM:c<=M*M)(ra:BV (S*S) a A)(rc:BV (S*S) c C)(hw0:-M<=w)(hw1:w<=M):gS (w*S+A+C)=Gp w a c:=by
 have m1:=h.m1;have p:=h.pos;have a0:=ra.nn;have c0:=rc.nn;unfold Gp
 by_cases w0:0<w
 ·have:1*S<=w*S:=Int.mul_le_mul_of_nonneg_right (by omega) (by omega)
  rw[eD (by omega),da w0];rcases Int.lt_or_eq_of_le (show 0<=a+c by omega) with g|g
  ·rw[da g];rfl
  ·rw[jG g.symm];rfl
 by_cases wz:w=0
 ·subst wz
  by_cases a1:1<=a
  ·have:=ra.ge h a1
   rw[eD (by omega),da (show 0<a+c by omega)];rfl
  by_cases c1:1<=c
  ·have:=rc.ge h c1
   rw[eD (by omega),da (show 0<a+c by omega)];rfl
  have ea:a=0:=by omega
  have ec:c=0:=by omega
  subst ea ec;rw[rt0 h ra,rt0 h rc,Int.zero_mul];rfl
 have wn:w<0:=by omega
 have ws:w*S<=-1*S:=Int.mul_le_mul_of_nonneg_right (by omega) (by omega);rw[eE wn]
 by_cases ac:a+c=0
 ·have ea:a=0:=by omega
  have ec:c=0:=by omega
  subst ea ec;rw[rt0 h ra,rt0 h rc,jB (by omega)];rfl
 rw[da (show 0<a+c by omega),if_neg (by decide)];have e1:w*S+A+C = -(-w*S - A - C):=by grind
 have e2:w*w - a - c = -w * -w - a - c:=by grind
 rw[e1,jA,e2];have hac:0<=a*c:=Int.mul_nonneg ha hc;generalize ee:-w * -w - a - c=e at *;rcases Int.lt_trichotomy (ssq e - 4*(a*c)) 0 with g|g|g
 ·have k:e<0\/(0<=e/\e*e+1<=4*(a*c)):=by
   by_cases e0:e<0
   ·exact .inl e0
   ·rw[cZ (by omega)]at g
    exact .inr ⟨by omega,by omega⟩
  rw[eE g,jB (L2 h ha hc ra rc (by omega) (by omega) (by rw[ee];exact k))];rfl
 ·have e0:0<=e:=by
   by_cases e0:e<0
   ·rw[dw e0]at g
    have:0<e*e:=Int.mul_pos_of_neg_of_neg e0 e0;omega
   ·omega
  rw[cZ e0]at g;rw[jG (show ssq e - 4*(a*c)=0 by rw[cZ e0];exact g),iw (L3 h ha hc ra rc (by omega) (by rw[ee];exact e0) (by rw[ee];omega))];rfl
 ·have e0:0<e:=by
   by_cases e0:e<0
   ·rw[dw e0]at g
    have:0<e*e:=Int.mul_pos_of_neg_of_neg e0 e0;omega
   ·by_cases e1:e=0
    ·subst e1
     rw[show ssq 0=0 from rfl]at g;omega
    ·omega
  rw[da g];rw[cZ (by omega)]at g;rw[eD (L1 h ha hc haM hcM ra rc (by omega) (by omega) (by rw[ee];exact e0) (by rw[ee];omega))];rfl
theorem zh(w a c:Int):Gm (-w) c a = -Gm w a c:=by
 unfold Gm;rw[db,show c - a = -(a - c) by omega,db,Int.neg_mul_neg,show -w * -w - c - a=w*w - a - c by grind,Int.mul_comm c a]
 by_cases g:sg w*sg (a - c)>=0
 ·rw[if_pos g,if_pos g,show -sg w + -sg (a - c) = -(sg w+sg (a - c)) by omega,db]
 ·rw[if_neg g,if_neg g,Int.neg_mul]
theorem pm1(h:DP S M)(ha:0<=a)(hc:0<=c)(haM:a<=M*M)(hcM:c<=M*M)(ra:BV (S*S) a A)(rc:BV (S*S) c C)(w0:0<w)(hw1:w<=M)(hac:a<c):gS (w*S+A - C)=sg (ssq (w*w - a - c)+4*(a*c)):=by
 have hp:0<=a*c:=Int.mul_nonneg ha hc;generalize ee:w*w - a - c=e at *;rcases Int.lt_trichotomy (ssq e+4*(a*c)) 0 with g|g|g
 ·have e0:e<0:=by
   by_cases e0:e<0
   ·exact e0
   ·rw[cZ (by omega)]at g
    have:0<=e*e:=Int.mul_nonneg (by omega) (by omega);omega
  rw[eE g];rw[dw e0]at g;exact jB (L5 h ha hc haM hcM (by omega) ra rc w0 hw1 (by rw[ee];exact e0) (by rw[ee];omega))
 ·have e0:e<=0:=by
   by_cases e0:e<=0
   ·exact e0
   ·rw[cZ (by omega)]at g
    have:0<e*e:=Int.mul_pos (by omega) (by omega);omega
  rw[jG g];have g2:e*e=4*(a*c):=by
   by_cases e1:e<0
   ·rw[dw e1]at g;omega
   ·have:e=0:=by omega
    subst this;rw[show ssq 0=0 from rfl]at g;omega
  exact iw (L6 h ha hc (by omega) ra rc w0 (by rw[ee];exact e0) (by rw[ee];exact g2))
 ·rw[da g]
  refine eD (L4 h ha hc haM hcM ra rc w0 ?_);rw[ee]
  by_cases e0:0<e
  ·exact .inl e0
  ·refine .inr ⟨by omega,?_⟩
   by_cases e1:e<0
   ·rw[dw e1]at g;omega
   ·have:e=0:=by omega
    subst this;rw[show ssq 0=0 from rfl]at g;omega
theorem pm2(h:DP S M)(ha:0<=a)(hc:0<=c)(haM:a<=M*M)(hcM:c<=M*M)(ra:BV (S*S) a A)(rc:BV (S*S) c C)(w0:0<=w)(hw1:w<=M)(hz:0<w\/c<=a):gS (w*S+A - C)=Gm w a c:=by
 have m1:=h.m1;have p:=h.pos;have t0:0<=S*S:=Int.mul_nonneg (by omega) (by omega)
 by_cases hac:a<c
 ·have w1:0<w:=by omega
  rw[pm1 h ha hc haM hcM ra rc w1 hw1 hac];unfold Gm;rw[da w1,eE (show a - c<0 by omega),if_neg (by decide),Int.one_mul]
 have hle:=BV.mono t0 rc ra (show c<=a by omega);unfold Gm
 by_cases w1:0<w
 ·have:1*S<=w*S:=Int.mul_le_mul_of_nonneg_right (by omega) (by omega)
  rw[eD (by omega),da w1];rcases Int.lt_or_eq_of_le (show 0<=a - c by omega) with g|g
  ·rw[da g];rfl
  ·rw[jG g.symm];rfl
 have wz:w=0:=by omega
 subst wz
 by_cases hlt:c+1<=a
 ·have:=D1 h ra rc hcM hlt
  rw[eD (by omega),da (show 0<a - c by omega)];rfl
 ·have e:a=c:=by omega
  subst e;have e2:=ra.uniq rc;subst e2;rw[iw (by omega),jG (show a - a=0 by omega)];rfl
theorem pm(h:DP S M)(ha:0<=a)(hc:0<=c)(haM:a<=M*M)(hcM:c<=M*M)(ra:BV (S*S) a A)(rc:BV (S*S) c C)(hw0:-M<=w)(hw1:w<=M):gS (w*S+A - C)=Gm w a c:=by
 by_cases g:0<w\/(w=0/\c<=a)
 ·exact pm2 h ha hc haM hcM ra rc (by omega) hw1 (by omega)
 ·have k:=pm2 h hc ha hcM haM rc ra (w:=-w) (by omega) (by omega) (by omega)
  rw[zh,show -w*S+C - A = -(w*S+A - C) by grind,jA]at k;omega
end
theorem vn{S M w m u n l A C:Int}(h:DP S M)(hu:0<=u)(hl:0<=l)(haM:m*m*u<=M*M)(hcM:n*n*l<=M*M)(ra:BV (S*S) (m*m*u) A)(rc:BV (S*S) (n*n*l) C)(hw0:-M<=w)(hw1:w<=M) :
  gS (w*S+A*sg m - C*sg n)=cI w m u (-n) l:=by
 have mm:0<=m*m:=by
  rcases Int.lt_or_le m 0 with g|g
  ·exact Int.le_of_lt (Int.mul_pos_of_neg_of_neg g g)
  ·exact Int.mul_nonneg g g
 have nn:0<=n*n:=by
  rcases Int.lt_or_le n 0 with g|g
  ·exact Int.le_of_lt (Int.mul_pos_of_neg_of_neg g g)
  ·exact Int.mul_nonneg g g
 have ha:0<=m*m*u:=Int.mul_nonneg mm hu;have hc:0<=n*n*l:=Int.mul_nonneg nn hl;have key:∀(x y z:Int),ssq m*u+ssq (-n)*l=x->ssq (-2*m * -n)*(u*l)=y->cI w m u (-n) l=if sg w*sg x>=0 then sg (sg w+sg x) else sg w*sg (ssq (w*w - m*m*u - n*n*l)+y):=by
  intro x y z hx hy;unfold cI swr;rw[hx,hy,show -n * -n*l=n*n*l by grind]
 have s1:∀{x:Int},0<=x->ssq x=x*x:=λh=>cZ h;have s2:∀{x:Int},x<=0->ssq x = -(x*x):=λ{x} h=>by
  by_cases g:x<0
  ·exact dw g
  ·have:x=0:=by omega
   subst this;rfl
 have sA:m=0->A=0:=λe=>by subst e;exact rt0 h (by simpa using ra)
 have sC:n=0->C=0:=λe=>by subst e;exact rt0 h (by simpa using rc)
 have A1:0<=m->A*sg m=A:=λg=>by
  by_cases e:m=0
  ·rw[sA e];simp
  ·rw[da (by omega),Int.mul_one]
 have A2:m<=0->A*sg m = -A:=λg=>by
  by_cases e:m=0
  ·rw[sA e];simp
  ·rw[eE (by omega),Int.mul_neg,Int.mul_one]
 have C1:0<=n->C*sg n=C:=λg=>by
  by_cases e:n=0
  ·rw[sC e];simp
  ·rw[da (by omega),Int.mul_one]
 have C2:n<=0->C*sg n = -C:=λg=>by
  by_cases e:n=0
  ·rw[sC e];simp
  ·rw[eE (by omega),Int.mul_neg,Int.mul_one]
 rcases Int.le_total 0 m with gm|gm
 ·rcases Int.le_total 0 n with gn|gn
  ·-- + -
   have hp:0<=m*n:=Int.mul_nonneg gm gn;rw[A1 gm,C1 gn,key (m*m*u - n*n*l) (4*(m*m*u*(n*n*l))) 0 (by rw[s1 gm,s2 (by omega)];grind) (by rw[show -2*m * -n=2*(m*n) by grind,s1 (by omega)];grind)];exact pm h ha hc haM hcM ra rc hw0 hw1
  ·-- + +
   have hp:m*n<=0:=Int.mul_nonpos_of_nonneg_of_nonpos gm gn;rw[A1 gm,C2 gn,key (m*m*u+n*n*l) (-(4*(m*m*u*(n*n*l)))) 0 (by rw[s1 gm,s1 (by omega)];grind) (by rw[show -2*m * -n=2*(m*n) by grind,s2 (by omega)];grind),show w*S+A - -C=w*S+A+C by omega];have k:=pp h ha hc haM hcM ra rc hw0 hw1;rw[k];rfl
 ·rcases Int.le_total 0 n with gn|gn
  ·-- - -
   have hp:m*n<=0:=Int.mul_nonpos_of_nonpos_of_nonneg gm gn;rw[A2 gm,C1 gn,key (-(m*m*u+n*n*l)) (-(4*(m*m*u*(n*n*l)))) 0 (by rw[s2 gm,s2 (by omega)];grind) (by rw[show -2*m * -n=2*(m*n) by grind,s2 (by omega)];grind),show w*S + -A - C = -(-w*S+A+C) by grind,jA];have k:=pp h ha hc haM hcM ra rc (w:=-w) (by omega) (by omega);rw[k];unfold Gp;rw[show -w * -w=w*w by grind,db w,db (m*m*u+n*n*l),Int.neg_mul,Int.mul_neg]
   by_cases g:-(sg w*sg (m*m*u+n*n*l))>=0
   ·rw[if_pos g,if_pos g,show sg w + -sg (m*m*u+n*n*l) = -(-sg w+sg (m*m*u+n*n*l)) by omega,db]
   ·rw[if_neg g,if_neg g,Int.neg_mul,Int.neg_neg]
    rfl
  ·-- - +
   have hp:0<=m*n:=Int.mul_nonneg_of_nonpos_of_nonpos gm gn;rw[A2 gm,C2 gn,key (n*n*l - m*m*u) (4*(m*m*u*(n*n*l))) 0 (by rw[s2 gm,s1 (by omega)];grind) (by rw[show -2*m * -n=2*(m*n) by grind,s1 (by omega)];grind),show w*S + -A - -C=w*S+C - A by omega];have k:=pm h hc ha hcM haM rc ra hw0 hw1;rw[k];unfold Gm;rw[show w*w - n*n*l - m*m*u=w*w - m*m*u - n*n*l by omega,Int.mul_comm (n*n*l)]
end Sp5
namespace Sp6
open PySem PySem.Spec L2 Mth Sp1 Sp2 Sp3 Sp24 Sp5
noncomputable def sh:Nat->Int->Int->Int->Int->Option (List Int)
 | 0,_,_,_,_=>none
 | n+1,lo,hi,b,l=>if lo / b*b=lo then some [lo / b] else if (lo / b+1)*l<=hi then some [lo / b+1] else (sh n l b (hi - lo / b*l) (lo - lo / b*b)).map (lo / b::·)
noncomputable def fr:List Int->Int×Int
 | []=>(0,1)
 | [c]=>(c,1)
 | c::d::r=>(c*(fr (d::r)).1+(fr (d::r)).2,(fr (d::r)).1)
theorem qN{c:Int}{r:List Int}(h:r≠[]):fr (c::r)=(c*(fr r).1+(fr r).2,(fr r).1):=by
 cases r with
 | nil=>exact absurd rfl h
 | cons d r=>rfl
theorem qk:∀{n:Nat} {lo hi b l:Int} {ts:List Int},0<b->0<l->lo*l<hi*b->sh n lo hi b l=some ts->ts≠[]/\0<(fr ts).2/\lo*(fr ts).2<=(fr ts).1*b/\(fr ts).1*l<=hi*(fr ts).2/\(fr ts).2<=b/\(fr ts).2<=l/\(0<lo->0<(fr ts).1/\(fr ts).1<=lo/\(fr ts).1<=hi)
 | 0,_,_,_,_,_,_,_,_,h=>by cases h
 | n+1,lo,hi,b,l,ts,hb,hl,hd,h=>by
  unfold sh at h;generalize hq:lo / b=q at h;have m0:=Int.emod_nonneg lo (show b≠0 by omega);have m1:=Int.emod_lt_of_pos lo hb;have m2:q*b+lo % b=lo:=by rw[<- hq];have:=Int.ediv_mul_add_emod lo b;omega
  by_cases h1:q*b=lo
  ·rw[if_pos h1]at h
   cases h;have e1:q*l<hi:=by
    have:q*l*b<hi*b:=by rw[show q*l*b=q*b*l by grind,h1];exact hd
    exact Int.lt_of_mul_lt_mul_right this (by omega)
   refine⟨by simp,by show(0:Int)<1;decide,?_,?_,by show(1:Int)<=b;omega,by show(1:Int)<=l;omega,λh0=>?_⟩
   ·show lo*1<=q*b
    omega
   ·show q*l<=hi*1
    omega
   ·have q0:0<q:=by
     rcases Int.lt_or_le 0 q with g|g
     ·exact g
     ·have:=Int.mul_nonpos_of_nonpos_of_nonneg g (show 0<=b by omega)
      omega
    have q1:q*1<=q*b:=Int.mul_le_mul_of_nonneg_left (by omega) (by omega);have q2:q*1<=q*l:=Int.mul_le_mul_of_nonneg_left (by omega) (by omega);exact⟨q0,by show q<=lo;omega,by show q<=hi;omega⟩
  ·rw[if_neg h1]at h
   by_cases h2:(q+1)*l<=hi
   ·rw[if_pos h2]at h
    cases h;have e2:(q+1)*b=q*b+b:=by grind
    refine⟨by simp,by show(0:Int)<1;decide,?_,?_,by show(1:Int)<=b;omega,by show(1:Int)<=l;omega,λh0=>?_⟩
    ·show lo*1<=(q+1)*b
     omega
    ·show(q+1)*l<=hi*1
     omega
    ·have q0:0<=q:=by rw[<- hq];exact Int.ediv_nonneg (by omega) (by omega)
     have q1:q*1<=q*b:=Int.mul_le_mul_of_nonneg_left (by omega) q0;have q2:(q+1)*1<=(q+1)*l:=Int.mul_le_mul_of_nonneg_left (by omega) (by omega);exact⟨by show 0<q+1;omega,by show q+1<=lo;omega,by show q+1<=hi;omega⟩
   ·rw[if_neg h2]at h
    obtain⟨us,hu,rfl⟩:=Option.map_eq_some_iff.mp h;have e2:(q+1)*l=q*l+l:=by grind
    have hh:0<hi - q*l:=by
     have a1:q*b*l<lo*l:=Int.mul_lt_mul_of_pos_right (by omega) hl;have a2:q*l*b<hi*b:=by rw[show q*l*b=q*b*l by grind];omega
     have:=Int.lt_of_mul_lt_mul_right a2 (by omega);omega
    have hlr:0<lo - q*b:=by omega
    have hdet:l*(lo - q*b)<b*(hi - q*l):=by
     have e3:l*(lo - q*b)=lo*l - q*b*l:=by grind
     have e4:b*(hi - q*l)=hi*b - q*b*l:=by grind
     omega
    obtain⟨i1,i2,i3,i4,i5,i6,i7⟩:=qk hh hlr hdet hu;obtain⟨j1,j2,j3⟩:=i7 hl;rw[qN i1];generalize (fr us).1=t at *;generalize (fr us).2=u at *;refine⟨by simp,j1,?_,?_,j3,j2,λh0=>?_⟩
    ·show lo*t<=(q*t+u)*b
     have e5:(q*t+u)*b=q*b*t+b*u:=by grind
     have e6:t*(lo - q*b)=lo*t - q*b*t:=by grind
     omega
    ·show(q*t+u)*l<=hi*t
     have e5:(q*t+u)*l=q*l*t+l*u:=by grind
     have e6:t*(hi - q*l)=hi*t - q*l*t:=by grind
     omega
    ·have q0:0<=q:=by rw[<- hq];exact Int.ediv_nonneg (by omega) (by omega)
     have p0:0<=q*t:=Int.mul_nonneg q0 (by omega);have p1:q*t<=q*b:=Int.mul_le_mul_of_nonneg_left j3 q0;have p2:q*t<=q*l:=Int.mul_le_mul_of_nonneg_left j2 q0;exact⟨by show 0<q*t+u;omega,by show q*t+u<=lo;omega,by show q*t+u<=hi;omega⟩
theorem st{lo hi b l:Int}(hb:0<b)(hl:0<l)(hd:lo*l<hi*b)(h1:¬lo / b*b=lo)(h2:¬(lo / b+1)*l<=hi) :
  (0<hi - lo / b*l/\hi - lo / b*l<l)/\(0<lo - lo / b*b/\lo - lo / b*b<b)/\l*(lo - lo / b*b)<b*(hi - lo / b*l):=by
 have m0:=Int.emod_nonneg lo (show b≠0 by omega);have m1:=Int.emod_lt_of_pos lo hb;have m2:lo / b*b+lo % b=lo:=by have:=Int.ediv_mul_add_emod lo b;omega
 generalize lo / b=q at *;have e2:(q+1)*l=q*l+l:=by grind
 have hh:0<hi - q*l:=by
  have a1:q*b*l<lo*l:=Int.mul_lt_mul_of_pos_right (by omega) hl;have a2:q*l*b<hi*b:=by rw[show q*l*b=q*b*l by grind];omega
  have:=Int.lt_of_mul_lt_mul_right a2 (by omega);omega
 refine⟨⟨hh,by omega⟩,⟨by omega,by omega⟩,?_⟩;have e3:l*(lo - q*b)=lo*l - q*b*l:=by grind
 have e4:b*(hi - q*l)=hi*b - q*b*l:=by grind
 omega
structure Bd(N:Int)(ts:List Int):Prop where
 f:∀j,j<ts.length->(-N<=(fr (ts.drop j)).1/\(fr (ts.drop j)).1<=N)/\0<(fr (ts.drop j)).2/\(fr (ts.drop j)).2<=N
 c:∀x∈ts,-N<=x/\x<=N
theorem yv{N lo hi b l t u:Int}(hb:0<b)(hl:0<l)(hu:0<u)(ub:u<=b)(ul:u<=l)(h1:lo*u<=t*b)(h2:t*l<=hi*u)(lN:-N<=lo)(hN:hi<=N)(N0:0<=N):-N<=t/\t<=N:=by
 constructor
 ·refine Int.le_of_mul_le_mul_right (a:=b) ?_ hb
  have a1:-N*u<=lo*u:=Int.mul_le_mul_of_nonneg_right lN (by omega);have a2:N*u<=N*b:=Int.mul_le_mul_of_nonneg_left ub N0;have e1:-N*u = -(N*u):=by grind
  have e2:-N*b = -(N*b):=by grind
  omega
 ·refine Int.le_of_mul_le_mul_right (a:=l) ?_ hl
  have a1:hi*u<=N*u:=Int.mul_le_mul_of_nonneg_right hN (by omega);have a2:N*u<=N*l:=Int.mul_le_mul_of_nonneg_left ul N0;omega
theorem yW{N lo b:Int}(hb:0<b)(h1:-N<=lo)(h2:lo<=N)(N0:0<=N):-N<=lo / b/\lo / b<=N:=by
 constructor
 ·refine Int.le_ediv_of_mul_le hb ?_
  have:N*1<=N*b:=Int.mul_le_mul_of_nonneg_left (by omega) N0;have e2:-N*b = -(N*b):=by grind
  omega
 ·have:=Int.ediv_le_ediv hb h2
  have a:N / b<=N:=Int.ediv_le_self b N0;omega
theorem xi:∀{n:Nat} {N lo hi b l:Int} {ts:List Int},0<b->0<l->lo*l<hi*b->(-N<=lo/\lo<=N)->(-N<=hi/\hi<=N)->b<=N->l<=N->sh n lo hi b l=some ts->Bd (N+1) ts
 | 0,_,_,_,_,_,_,_,_,_,_,_,_,_,h=>by cases h
 | n+1,N,lo,hi,b,l,ts,hb,hl,hd,hlo,hhi,bN,lN,h=>by
  obtain⟨i1,i2,i3,i4,i5,i6,_⟩:=qk hb hl hd h;have top:(-(N+1)<=(fr ts).1/\(fr ts).1<=N+1)/\0<(fr ts).2/\(fr ts).2<=N+1:=by
   have:=yv (N:=N) hb hl i2 i5 i6 i3 i4 hlo.1 hhi.2 (by omega);exact⟨⟨by omega,by omega⟩,i2,by omega⟩
  have hq:=yW hb hlo.1 hlo.2 (show 0<=N by omega);unfold sh at h
  by_cases h1:lo / b*b=lo
  ·rw[if_pos h1]at h
   cases h;refine⟨λj hj=>?_,λx hx=>?_⟩
   ·have:j=0:=by simpa using hj
    subst this;exact top
   ·rw[List.mem_singleton.mp hx]
    omega
  ·rw[if_neg h1]at h
   by_cases h2:(lo / b+1)*l<=hi
   ·rw[if_pos h2]at h
    cases h;refine⟨λj hj=>?_,λx hx=>?_⟩
    ·have:j=0:=by simpa using hj
     subst this;exact top
    ·rw[List.mem_singleton.mp hx]
     omega
   ·rw[if_neg h2]at h
    obtain⟨us,hu,rfl⟩:=Option.map_eq_some_iff.mp h;obtain⟨⟨s1,s2⟩,⟨s3,s4⟩,s5⟩:=st hb hl hd h1 h2;have ih:=xi (N:=N) s1 s3 s5 ⟨by omega,by omega⟩ ⟨by omega,by omega⟩ (by omega) (by omega) hu;refine⟨λj hj=>?_,λx hx=>?_⟩
    ·cases j with
     | zero=>exact top
     | succ j=>exact ih.f j (by simpa using hj)
    ·rcases List.mem_cons.mp hx with rfl|hx
     ·omega
     ·exact ih.c x hx
noncomputable def flr(m u R:Int):Int:=if m<0 then (if R*R=u then -R else -R - 1) else R
noncomputable def SF(a0 a1 a2 a3 sc F:Int):Prop:=∃R,BV 1 (sc*sc*a1*a1*a2) R/\F=(sc*a0+flr a1 (sc*sc*a1*a1*a2) R) / a3
theorem SF.uniq{a0 a1 a2 a3 sc F G:Int}(h:SF a0 a1 a2 a3 sc F)(k:SF a0 a1 a2 a3 sc G):F=G:=by
 obtain⟨R,h1,rfl⟩:=h;obtain⟨S,k1,rfl⟩:=k;rw[h1.uniq k1]
theorem gU{x y:Int}(h:x<=y):ssq x<=ssq y:=by
 rcases Int.lt_or_le x 0 with hx|hx
 ·rcases Int.lt_or_le y 0 with hy|hy
  ·rw[dw hx,dw hy]
   have:=bQ (x:=-y) (y:=-x) (by omega) (by omega);have e1:-y * -y=y*y:=by grind
   have e2:-x * -x=x*x:=by grind
   omega
  ·rw[dw hx,cZ hy]
   have a:=Int.mul_nonneg hy hy;have b:0<=x*x:=by rw[show x*x = -x * -x by grind];exact Int.mul_nonneg (by omega) (by omega)
   omega
 ·rw[cZ hx,cZ (by omega)]
  exact bQ hx h
theorem jm{k x:Int}(hk:0<=k):ssq (k*x)=k*k*ssq x:=by
 rcases Int.lt_or_le x 0 with hx|hx
 ·rcases Int.lt_or_eq_of_le hk with h|h
  ·rw[dw (Int.mul_neg_of_pos_of_neg h hx),dw hx];grind
  ·subst h;simp[ssq]
 ·rw[cZ (Int.mul_nonneg hk hx),cZ hx];grind
theorem xF{W m u R:Int}(hu:0<=u)(r:BV 1 (m*m*u) R)(h:W+flr m (m*m*u) R+1<=0):ssq W+ssq m*u<0:=by
 have lo:=r.lo;have hi:=r.hi;have nn:=r.nn;rw[Int.one_mul]at lo hi;unfold flr at h
 by_cases hm:m<0
 ·rw[if_pos hm]at h
  have em:ssq m*u = -(m*m*u):=by rw[dw hm];grind
  rw[em]
  by_cases hx:R*R=m*m*u
  ·rw[if_pos hx]at h
   have a:ssq W<=ssq (R - 1):=gU (by omega);rcases Int.lt_or_le (R - 1) 0 with g|g
   ·rw[dw g]at a
    have:R=0:=by omega
    subst this;simp at a hx;omega
   ·rw[cZ g]at a
    have:=qi (x:=R - 1) (y:=R) g (by omega);omega
  ·rw[if_neg hx]at h
   have a:ssq W<=ssq R:=gU (by omega);rw[cZ nn]at a;omega
 ·rw[if_neg hm]at h
  have em:ssq m*u=m*m*u:=by rw[cZ (by omega)]
  rw[em];have a:ssq W<=ssq (-(R+1)):=gU (by omega);rw[dw (by omega:-(R+1)<0)]at a;have e1:-(R+1) * -(R+1)=(R+1)*(R+1):=by grind
  omega
theorem SF.lt{a0 a1 a2 a3 sc F:Int}(h:SF a0 a1 a2 a3 sc F)(h2:0<=a2)(h3:0<a3)(hs:0<sc):ssq (a0*sc - (F+1)*a3)+ssq (a1*sc)*a2<0:=by
 obtain⟨R,r,rfl⟩:=h;have e:sc*sc*a1*a1*a2=a1*sc*(a1*sc)*a2:=by grind
 rw[e]at r ⊢;have hf:flr a1 (a1*sc*(a1*sc)*a2) R=flr (a1*sc) (a1*sc*(a1*sc)*a2) R:=by
  unfold flr
  by_cases g:a1<0
  ·rw[if_pos g,if_pos (Int.mul_neg_of_neg_of_pos g hs)]
  ·rw[if_neg g,if_neg (by have:=Int.mul_nonneg (show 0<=a1 by omega) (show 0<=sc by omega);omega)]
 rw[hf];refine xF h2 r ?_;generalize flr (a1*sc) (a1*sc*(a1*sc)*a2) R=f;have q:=Int.lt_ediv_add_one_mul_self (sc*a0+f) h3;have e2:sc*a0=a0*sc:=Int.mul_comm _ _;omega
theorem qv{a0 a1 a2 a3 sc L t u:Int}(hs:0<sc)(hu:0<u)(h3:0<a3)(h:ssq (a0*sc - L*a3)+ssq (a1*sc)*a2<0)(hL:L*u<=t*sc):ssq (a0*u - t*a3)+ssq (a1*u)*a2<0:=by
 have e1:ssq (a1*u*sc)=u*u*ssq (a1*sc):=by rw[show a1*u*sc=u*(a1*sc) by grind,jm (by omega)]
 have e2:ssq (a1*u*sc)=sc*sc*ssq (a1*u):=by rw[show a1*u*sc=sc*(a1*u) by grind,jm (by omega)]
 have e3:ssq ((a0*u - t*a3)*sc)=sc*sc*ssq (a0*u - t*a3):=by rw[Int.mul_comm,jm (by omega)]
 have m:(a0*u - t*a3)*sc<=u*(a0*sc - L*a3):=by
  have:=Int.mul_le_mul_of_nonneg_right hL (show 0<=a3 by omega);have f1:(a0*u - t*a3)*sc=a0*u*sc - t*sc*a3:=by grind
  have f2:u*(a0*sc - L*a3)=a0*u*sc - L*u*a3:=by grind
  omega
 have m2:=gU m;rw[e3,jm (k:=u) (by omega)]at m2;have pos:0<sc*sc:=Int.mul_pos hs hs;have pu:0<u*u:=Int.mul_pos hu hu;have key:sc*sc*(ssq (a0*u - t*a3)+ssq (a1*u)*a2)<0:=by
  have g1:sc*sc*(ssq (a0*u - t*a3)+ssq (a1*u)*a2)=sc*sc*ssq (a0*u - t*a3)+sc*sc*ssq (a1*u)*a2:=by grind
  rw[g1,<- e2,e1];have g2:u*u*(ssq (a0*sc - L*a3)+ssq (a1*sc)*a2)<0:=Int.mul_neg_of_pos_of_neg pu h;have g3:u*u*(ssq (a0*sc - L*a3)+ssq (a1*sc)*a2)=u*u*ssq (a0*sc - L*a3)+u*u*ssq (a1*sc)*a2:=by grind
  omega
 rcases Int.lt_or_le (ssq (a0*u - t*a3)+ssq (a1*u)*a2) 0 with g|g
 ·exact g
 ·have:=Int.mul_nonneg (show 0<=sc*sc by omega) g
  omega
noncomputable def scl(j:Nat):Int:=2^(2^j)
theorem dX(j:Nat):0<scl j:=Int.pow_pos (by decide)
noncomputable def Rm(a0 a1 a2 a3 b0 b1 b2 b3:Int)(j:Nat)(F G:Int):Prop:=SF a0 a1 a2 a3 (scl j) F/\SF (-b0) (-b1) b2 b3 (scl j) G
noncomputable def Wi(a0 a1 a2 a3 b0 b1 b2 b3 t u:Int):Prop:=∃(j:Nat) (F G:Int) (ts:List Int) (m:Nat),Rm a0 a1 a2 a3 b0 b1 b2 b3 j F G/\F+1+2<=-G - 1/\(∀i,i<j->∀F' G',Rm a0 a1 a2 a3 b0 b1 b2 b3 i F' G'->¬F'+1+2<=-G' - 1)/\sh m (F+1) (-G - 1) (scl j) (scl j)=some ts/\CG (fr ts).1 (fr ts).2 t u
theorem Wi.mid{a0 a1 a2 a3 b0 b1 b2 b3 t u:Int}(h:Wi a0 a1 a2 a3 b0 b1 b2 b3 t u)(a2n:0<=a2)(a3p:0<a3)(b2n:0<=b2)(b3p:0<b3):ssq (a0*u - t*a3)+ssq (a1*u)*a2<0/\ssq (t*b3 - b0*u)+ssq (-b1*u)*b2<0:=by
 obtain⟨j,F,G,ts,m,h1,h2,h3,h4,h5⟩:=h;have sp:=dX j;obtain⟨_,pos,i3,i4,_⟩:=qk sp sp (Int.mul_lt_mul_of_pos_right (show F+1 < -G - 1 by omega) sp) h4;have up:=h5.low.pos;have e:=h5.eq;generalize (fr ts).1=x at *;generalize (fr ts).2=y at *;constructor
 ·refine qv (sc:=scl j) (L:=F+1) sp up a3p (h1.1.lt a2n a3p sp) ?_
  refine Int.le_of_mul_le_mul_right (a:=y) ?_ pos;have q:=Int.mul_le_mul_of_nonneg_right i3 (show 0<=u by omega);have f1:(F+1)*u*y=(F+1)*y*u:=by grind
  have f2:t*scl j*y=x*scl j*u:=by
   rw[show t*scl j*y=t*y*scl j by grind,<- e]
   grind
  omega
 ·have q:=qv (a0:=-b0) (a1:=-b1) (a2:=b2) (a3:=b3) (sc:=scl j) (L:=G+1) (t:=-t) sp up b3p (h1.2.lt b2n b3p sp) (by
   refine Int.le_of_mul_le_mul_right (a:=y) ?_ pos;have q:=Int.mul_le_mul_of_nonneg_right i4 (show 0<=u by omega);have f1:(G+1)*u*y = -((-G - 1)*y*u):=by grind
   have f2:-t*scl j*y = -(x*scl j*u):=by
    rw[show -t*scl j*y = -(t*y*scl j) by grind,<- e]
    grind
   omega)
  have f:-b0*u - -t*b3=t*b3 - b0*u:=by grind
  rw[f]at q;exact q
theorem vG(n:Nat):∃r:Nat,r*r<=n/\n<(r+1)*(r+1):=by
 induction n with
 | zero=>exact⟨0,by decide,by decide⟩
 | succ n ih =>
  obtain⟨r,h1,h2⟩:=ih
  by_cases h:(r+1)*(r+1)<=n+1
  ·refine⟨r+1,h,?_⟩
   have e:(r+1+1)*(r+1+1)=(r+1)*(r+1)+(r+1)+(r+1)+1:=by grind
   omega
  ·exact⟨r,by omega,by omega⟩
theorem tI{T a:Int}(h:0<=T*a):∃A,BV T a A:=by
 obtain⟨r,h1,h2⟩:=vG (T*a).toNat;have e:(((T*a).toNat:Nat):Int)=T*a:=by omega
 have h1':((r*r:Nat):Int)<=T*a:=by omega
 have h2':T*a<(((r+1)*(r+1):Nat):Int):=by omega
 have e2:(((r+1)*(r+1):Nat):Int)=((r:Int)+1)*((r:Int)+1):=by rw[Int.natCast_mul];norm_cast
 rw[e2]at h2';rw[Int.natCast_mul]at h1';exact⟨(r:Int),by omega,h1',h2'⟩
theorem uC{x y:Int}(hy:0<=y)(h:x*x<y*y):x<y:=by
 rcases Int.lt_or_le x y with g|g
 ·exact g
 ·have:=bQ hy g
  omega
theorem li{K S sc a1 a2 b3 R A:Int}(hK:0<K)(e:sc=K*S)(h3:0<b3)(r:BV 1 (sc*sc*a1*a1*a2) R)(ra:BV (S*S) (a1*b3*(a1*b3)*a2) A):b3*flr a1 (sc*sc*a1*a1*a2) R<=K*(A*sg (a1*b3)+1):=by
 have lo:=r.lo;have hi:=r.hi;have nn:=r.nn;rw[Int.one_mul]at lo hi;have la:=ra.lo;have ha:=ra.hi;have na:=ra.nn;have key:b3*b3*(sc*sc*a1*a1*a2)=K*K*(S*S*(a1*b3*(a1*b3)*a2)):=by rw[e];grind
 have pK:0<K*K:=Int.mul_pos hK hK;have p3:0<b3*b3:=Int.mul_pos h3 h3;unfold flr;rcases Int.lt_trichotomy a1 0 with g|g|g
 ·rw[if_pos g,eE (Int.mul_neg_of_neg_of_pos g h3)]
  have main:∀x:Int,0<=x->sc*sc*a1*a1*a2<=x*x->b3 * -x<=K*(A * -1+1):=λx hx hx2=>by
   have q1:K*A<=b3*x:=by
    refine Int.not_lt.mp λh=>?_;have h4:=qi (Int.mul_nonneg (show 0<=b3 by omega) hx) h;have f1:b3*x*(b3*x)=b3*b3*(x*x):=by grind
    have f2:K*A*(K*A)=K*K*(A*A):=by grind
    have f3:=Int.mul_le_mul_of_nonneg_left hx2 (show 0<=b3*b3 by omega);have f4:=Int.mul_le_mul_of_nonneg_left la (show 0<=K*K by omega);omega
   have f5:b3 * -x = -(b3*x):=by grind
   have f6:K*(A * -1+1)=K - K*A:=by grind
   omega
  by_cases hx:R*R=sc*sc*a1*a1*a2
  ·rw[if_pos hx]
   exact main R nn (by omega)
  ·rw[if_neg hx,show -R - 1 = -(R+1) by omega]
   exact main (R+1) (by omega) (by omega)
 ·subst g
  rw[if_neg (by omega)];have:R=0:=by
   have:R*R<=0:=by simpa using lo
   rcases Int.lt_or_eq_of_le nn with h|h
   ·have:=Int.mul_pos h h
    omega
   ·exact h.symm
  subst this;rw[Int.zero_mul,jG rfl];omega
 ·rw[if_neg (by omega),da (Int.mul_pos g h3)]
  have q1:b3*R<K*(A+1):=by
   refine uC (Int.mul_nonneg (by omega) (by omega)) ?_;have f1:b3*R*(b3*R)=b3*b3*(R*R):=by grind
   have f2:K*(A+1)*(K*(A+1))=K*K*((A+1)*(A+1)):=by grind
   have f3:=Int.mul_le_mul_of_nonneg_left lo (show 0<=b3*b3 by omega);have f4:=Int.mul_lt_mul_of_pos_left ha pK;omega
  have f6:K*(A*1+1)=K*(A+1):=by grind
  omega
theorem sU{x:Int}(h:gS x = -1):x < -2:=by
 rcases Int.lt_or_le x (-2) with g|g
 ·exact g
 ·rcases Int.lt_or_le 2 x with g2|g2
  ·rw[eD g2]at h;cases h
  ·rw[iw ⟨g,g2⟩]at h;cases h
theorem room{a0 a1 a2 a3 b0 b1 b2 b3 K S M:Int}{j:Nat}(a2n:0<=a2)(a3p:0<a3)(b2n:0<=b2)(b3p:0<b3)(ho:ro a0 a1 a2 a3 b0 b1 b2 b3 = -1)(hK:0<K)(e:scl j=K*S)(hS:DP S M)(hW:-M<=a0*b3 - b0*a3/\a0*b3 - b0*a3<=M)
  (hm:a1*b3*(a1*b3)*a2<=M*M) (hn:b1*a3*(b1*a3)*b2<=M*M) (h4:4*(a3*b3)<=K):∀F G,Rm a0 a1 a2 a3 b0 b1 b2 b3 j F G->F+1+2<=-G - 1:=by
 rintro F G ⟨⟨R1,r1,rfl⟩,⟨R2,r2,rfl⟩⟩;have sqn:∀x:Int,0<=x*x:=λx=>by
  rcases Int.lt_or_le x 0 with g|g
  ·exact Int.le_of_lt (Int.mul_pos_of_neg_of_neg g g)
  ·exact Int.mul_nonneg g g
 obtain⟨A,ra⟩:=tI (T:=S*S) (a:=a1*b3*(a1*b3)*a2) (Int.mul_nonneg (sqn S) (Int.mul_nonneg (sqn _) a2n));obtain⟨C,rc⟩:=tI (T:=S*S) (a:=b1*a3*(b1*a3)*b2) (Int.mul_nonneg (sqn S) (Int.mul_nonneg (sqn _) b2n));have t:=vn hS a2n b2n hm hn ra rc hW.1 hW.2;unfold ro at ho;rw[show -(b1*a3) = -b1*a3 by grind,ho]at t;have lowt:=sU t;have rc':BV (S*S) (-b1*a3*(-b1*a3)*b2) C:=by rw[show -b1*a3*(-b1*a3)*b2=b1*a3*(b1*a3)*b2 by grind];exact rc
 have x1:=li hK e b3p r1 ra;have x2:=li hK e a3p r2 rc';have sn:sg (-b1*a3) = -sg (b1*a3):=by rw[show -b1*a3 = -(b1*a3) by grind,db]
 rw[sn]at x2;generalize flr a1 (scl j*scl j*a1*a1*a2) R1=f1 at *;generalize flr (-b1) (scl j*scl j * -b1 * -b1*b2) R2=g1 at *;have y1:=Int.ediv_mul_le (scl j*a0+f1) (show a3≠0 by omega);have y2:=Int.ediv_mul_le (scl j * -b0+g1) (show b3≠0 by omega);generalize (scl j*a0+f1) / a3=F at *;generalize (scl j * -b0+g1) / b3=G at *;have z1:=Int.mul_le_mul_of_nonneg_right y1 (show 0<=b3 by omega);have z2:=Int.mul_le_mul_of_nonneg_right y2 (show 0<=a3 by omega);have pos:0<a3*b3:=Int.mul_pos a3p b3p;have tot:(F+G)*(a3*b3)<=K * -1:=by
  have e1:(F+G)*(a3*b3)=F*a3*b3+G*b3*a3:=by grind
  have e2:(scl j*a0+f1)*b3+(scl j * -b0+g1)*a3=K*(S*(a0*b3 - b0*a3))+b3*f1+a3*g1:=by rw[e];grind
  have e3:K*(A*sg (a1*b3)+1)+K*(C * -sg (b1*a3)+1)+K*(S*(a0*b3 - b0*a3))=K*((a0*b3 - b0*a3)*S+A*sg (a1*b3) - C*sg (b1*a3)+2):=by grind
  have e4:K*((a0*b3 - b0*a3)*S+A*sg (a1*b3) - C*sg (b1*a3)+2)<=K * -1:=Int.mul_le_mul_of_nonneg_left (by omega) (by omega);omega
 have fin:(F+G)*(a3*b3)<=-4*(a3*b3):=by omega
 have:=Int.le_of_mul_le_mul_right fin pos;omega
end Sp6
namespace Sp5
open PySem PySem.Spec L2 Mth Sp1 Sp2 Sp3 Sp24
theorem gT(x:Int):ssq (-x) = -ssq x:=by
 rcases Int.lt_trichotomy x 0 with h|h|h
 ·rw[dw h,cZ (x:=-x) (by omega)];grind
 ·subst h;rfl
 ·rw[cZ (x:=x) (by omega),dw (x:=-x) (by omega)];grind
theorem ix(w m u n l:Int):cI (-w) n l (-m) u = -cI w m u (-n) l:=by
 unfold cI swr;rw[gT m,gT n,db w,show ssq n*l + -ssq m*u = -(ssq m*u + -ssq n*l) by grind,db (ssq m*u + -ssq n*l),Int.neg_mul_neg,show -w * -w - n*n*l - -m * -m*u=w*w - m*m*u - -n * -n*l by grind,show -2*n * -m = -2*m * -n by grind,Int.mul_comm l u]
 by_cases g:sg w*sg (ssq m*u + -ssq n*l)>=0
 ·rw[if_pos g,if_pos g,show -sg w + -sg (ssq m*u + -ssq n*l) = -(sg w+sg (ssq m*u + -ssq n*l)) by omega,db]
 ·rw[if_neg g,if_neg g,Int.neg_mul]
theorem dN(a0 a1 a2 a3 b0 b1 b2 b3:Int):ro b0 b1 b2 b3 a0 a1 a2 a3=0 - ro a0 a1 a2 a3 b0 b1 b2 b3:=by
 unfold ro;have h:=ix (a0*b3 - b0*a3) (a1*b3) a2 (b1*a3) b2;rw[Int.neg_mul a1 b3,Int.neg_mul b1 a3,show b0*a3 - a0*b3 = -(a0*b3 - b0*a3) by omega,h];omega
theorem qh(W m u:Int):cI W m u 0 0=if sg W*sg (ssq m*u)>=0 then sg (sg W+sg (ssq m*u)) else sg W*sg (W*W - m*m*u):=by
 unfold cI swr;have e0:ssq (0:Int)=0:=rfl;have sq:∀e:Int,sg (ssq e)=sg e:=λe=>by
  rcases Int.lt_trichotomy e 0 with h|h|h
  ·rw[dw h,eE h,eE (by have:=Int.mul_pos_of_neg_of_neg h h;omega)]
  ·subst h;rfl
  ·rw[cZ (by omega),da h,da (Int.mul_pos h h)]
 have e1:-2*m*0=0:=by omega
 have e2:ssq m*u+0*0=ssq m*u:=by omega
 have e3:W*W - m*m*u - 0*0*0=W*W - m*m*u:=by omega
 rw[e1,e0,e2,e3,show ssq (W*W - m*m*u)+0*(u*0)=ssq (W*W - m*m*u) by omega,sq]
theorem tZ{W w U:Int}(hw:0<w)(hU:0<=U):(cI W w U 0 0<0↔W<0/\w*w*U<W*W)/\(cI W w U 0 0=0↔W<=0/\W*W=w*w*U)/\(0<cI W w U 0 0↔0<W\/W*W<w*w*U):=by
 rw[qh,cZ (show 0<=w by omega)];have ww:0<w*w:=Int.mul_pos hw hw;have wu:0<=w*w*U:=Int.mul_nonneg (by omega) hU;generalize w*w*U=V at *;have WW:0<W->0<W*W:=λh=>Int.mul_pos h h;have WN:W<0->0<W*W:=λh=>Int.mul_pos_of_neg_of_neg h h;rcases Int.lt_trichotomy W 0 with h|h|h
 ·have k:=WN h
  rw[eE h];rcases Int.lt_or_eq_of_le wu with g|g
  ·rw[da g,if_neg (by decide)]
   rcases Int.lt_trichotomy (W*W - V) 0 with d|d|d
   ·rw[eE d];omega
   ·rw[jG d];omega
   ·rw[da d];omega
  ·rw[<- g]
   show(sg (-1+sg 0)<0↔_)/\(sg (-1+sg 0)=0↔_)/\(0<sg (-1+sg 0)↔_);rw[show sg (-1+sg 0) = -1 from rfl];omega
 ·subst h
  rw[show sg 0=0 from rfl,Int.zero_mul,if_pos (by decide),Int.zero_add,Int.zero_mul];rcases Int.lt_or_eq_of_le wu with g|g
  ·rw[da g,show sg 1=1 from rfl];omega
  ·rw[<- g,show sg (sg 0)=0 from rfl];omega
 ·have k:=WW h
  rw[da h];rcases Int.lt_or_eq_of_le wu with g|g
  ·rw[da g,if_pos (by decide),show sg (1+1)=1 from rfl];omega
  ·rw[<- g,show sg 0=0 from rfl,if_pos (by decide),show sg (1+0)=1 from rfl];omega
theorem xp{W w U:Int}(hw:0<w)(hU:0<=U):(0<cI W (-w) U 0 0↔0<W/\w*w*U<W*W)/\(cI W (-w) U 0 0=0↔0<=W/\W*W=w*w*U)/\(cI W (-w) U 0 0<0↔W<0\/W*W<w*w*U):=by
 have k:=tZ (W:=-W) hw hU;have e:cI W (-w) U 0 0 = -cI (-W) w U 0 0:=by
  rw[qh,qh,db W,dw (show -w<0 by omega),show -w * -w=w*w by grind,show -W * -W=W*W by grind,cZ (show 0<=w by omega),Int.neg_mul,db (w*w*U),Int.neg_mul,Int.mul_neg]
  by_cases g:-(sg W*sg (w*w*U))>=0
  ·rw[if_pos g,if_pos g,show sg W + -sg (w*w*U) = -(-sg W+sg (w*w*U)) by omega,db]
  ·rw[if_neg g,if_neg g,Int.neg_mul,Int.neg_neg]
 rw[show -W * -W=W*W by grind]at k;rw[e];omega
structure Gv(A B C be x y P L U:Int):Prop where
 pa:0<A
 py:0<y
 pb:be*be=A*C - B*B
 eP:P=B*y
 eL:L=A*y
 eU:U=y*(x*A - y*be*be)
section
variable {A B C be x y P L U:Int}
theorem Gv.k0(g:Gv A B C be x y P L U):P*P - U=y*A*(C*y - x):=by
 rw[g.eP,g.eU,show y*(x*A - y*be*be)=y*(x*A - y*(be*be)) by grind,g.pb];grind
theorem Gv.k1(g:Gv A B C be x y P L U):(P - L)*(P - L) - U=y*A*((A - 2*B+C)*y - x):=by
 rw[g.eP,g.eL,g.eU,show y*(x*A - y*be*be)=y*(x*A - y*(be*be)) by grind,g.pb];grind
theorem Gv.kU(g:Gv A B C be x y P L U):U=y*(x*A - (A*C - B*B)*y):=by
 rw[g.eU,show y*(x*A - y*be*be)=y*(x*A - y*(be*be)) by grind,g.pb];grind
theorem fZ{k z:Int}(hk:0<k):(0<k*z↔0<z)/\(k*z=0↔z=0)/\(k*z<0↔z<0):=by
 rcases Int.lt_trichotomy z 0 with h|h|h
 ·have:=Int.mul_neg_of_pos_of_neg hk h
  omega
 ·subst h;simp
 ·have:=Int.mul_pos hk h
  omega
theorem Gv.ya(g:Gv A B C be x y P L U):0<y*A:=Int.mul_pos g.py g.pa
theorem Gv.c0(g:Gv A B C be x y P L U):(U<P*P↔x<C*y)/\(P*P=U↔C*y=x)/\(P*P<U↔C*y<x):=by
 have h:=fZ (z:=C*y - x) g.ya;have k:=g.k0;rw[<- k]at h;omega
theorem Gv.c1(g:Gv A B C be x y P L U):(U<(P - L)*(P - L)↔x<(A - 2*B+C)*y)/\((P - L)*(P - L)=U↔(A - 2*B+C)*y=x)/\((P - L)*(P - L)<U↔(A - 2*B+C)*y<x):=by
 have h:=fZ (z:=(A - 2*B+C)*y - x) g.ya;have k:=g.k1;rw[<- k]at h;omega
theorem cD(p q r s t w:Int):ro p q r s t 0 0 w=cI (p*w - t*s) (q*w) r 0 0:=by
 unfold ro;rw[show -0*s=0 by omega]
theorem Gv.lowE(g:Gv A B C be x y P L U):ro P (-1) U L 1 0 0 1=cI (P - L) (-1) U 0 0:=by rw[cD];congr 1 <;> omega
theorem Gv.lowB(g:Gv A B C be x y P L U):ro P (-1) U L 0 0 0 1=cI P (-1) U 0 0:=by rw[cD];congr 1 <;> omega
theorem Gv.highE(g:Gv A B C be x y P L U):ro P 1 U L 1 0 0 1=cI (P - L) 1 U 0 0:=by rw[cD];congr 1 <;> omega
theorem Gv.highB(g:Gv A B C be x y P L U):ro P 1 U L 0 0 0 1=cI P 1 U 0 0:=by rw[cD];congr 1 <;> omega
theorem mw{W U:Int}(hU:0<=U):(cI W 1 U 0 0<0↔W<0/\U<W*W)/\(cI W 1 U 0 0=0↔W<=0/\W*W=U)/\(0<cI W 1 U 0 0↔0<W\/W*W<U):=by
 have h:=tZ (W:=W) (w:=1) (by decide) hU;rw[Int.one_mul,Int.one_mul]at h;exact h
theorem my{W U:Int}(hU:0<=U):(0<cI W (-1) U 0 0↔0<W/\U<W*W)/\(cI W (-1) U 0 0=0↔0<=W/\W*W=U)/\(cI W (-1) U 0 0<0↔W<0\/W*W<U):=by
 have h:=xp (W:=W) (w:=1) (by decide) hU;rw[Int.one_mul,Int.one_mul]at h;exact h
noncomputable def um(A B C:Int):Int:=if A=0\/B<=0 then C else if B>=A then A - 2*B+C else A*C - B*B
noncomputable def rR(A B:Int):Int:=if A=0\/B<=0 then 1 else if B>=A then 1 else A
structure Il(A B C P L U:Int):Prop where
 u:0<=U
 e:¬(0<P - L/\U<(P - L)*(P - L))
 b:¬(P<0/\U<P*P)
theorem Gv.shut(g:Gv A B C be x y P L U)(n:¬(sg U<0\/ro 1 0 0 1 P (-1) U L<0\/ro P 1 U L 0 0 0 1<0)):Il A B C P L U:=by
 have u:0<=U:=by
  by_cases h:U<0
  ·exact absurd (.inl (by rw[eE h];decide)) n
  ·omega
 refine⟨u,λh=>n (.inr (.inl ?_)),λh=>n (.inr (.inr ?_))⟩
 ·rw[dN P (-1) U L 1 0 0 1,g.lowE]
  have:=(my u).1.mpr h;omega
 ·rw[g.highB]
  exact(mw u).1.mpr h
theorem Gv.shut'(g:Gv A B C be x y P L U)(n:sg U<0\/ro 1 0 0 1 P (-1) U L<0\/ro P 1 U L 0 0 0 1<0):U<0\/(0<P - L/\U<(P - L)*(P - L))\/(P<0/\U<P*P):=by
 by_cases u:U<0
 ·exact .inl u
 have u:0<=U:=by omega
 rcases n with n|n|n
 ·rcases Int.lt_or_eq_of_le u with h|h
  ·rw[da h]at n;omega
  ·rw[<- h]at n;exact absurd n (by decide)
 ·rw[dN P (-1) U L 1 0 0 1,g.lowE]at n
  exact .inr (.inl ((my u).1.mp (by omega)))
 ·rw[g.highB]at n
  exact .inr (.inr ((mw u).1.mp n))
theorem Gv.none_iff(g:Gv A B C be x y P L U):(sg U<0\/ro 1 0 0 1 P (-1) U L<0\/ro P 1 U L 0 0 0 1<0)↔x*rR A B<um A B C*y:=by
 have y0:0<=y:=Int.le_of_lt g.py;have sq:∀z:Int,0<=z*z:=λz=>(Int.le_total 0 z).elim (λh=>Int.mul_nonneg h h) λh=>Int.mul_nonneg_of_nonpos_of_nonpos h h;have hL:0<L:=by rw[g.eL];exact Int.mul_pos g.pa g.py
 have eL:P - L=(B - A)*y:=by rw[g.eP,g.eL,Int.sub_mul]
 have bk:∀{q:Prop},(Il A B C P L U->False)->(sg U<0\/ro 1 0 0 1 P (-1) U L<0\/ro P 1 U L 0 0 0 1<0):=λf=>Classical.byContradiction λz=>f (g.shut z);unfold um rR
 by_cases h1:A=0\/B<=0
 ·rw[if_pos h1,if_pos h1,Int.mul_one]
  have hB:B<=0:=h1.elim (λz=>absurd g.pa (by rw[z];decide)) id;have hP:P<=0:=by rw[g.eP];exact Int.mul_nonpos_of_nonpos_of_nonneg hB y0
  refine⟨λn=>g.c0.1.mp ?_,λh=>bk (q:=True) λo=>?_⟩
  ·rcases g.shut' n with u|u|u
   ·exact Int.lt_of_lt_of_le u (sq P)
   ·exact absurd u.1 (by clear n;omega)
   ·exact u.2
  ·have k:=g.c0.1.mpr h
   rcases Int.lt_or_eq_of_le hP with z|z
   ·exact o.b ⟨z,k⟩
   ·rw[z]at k
    exact absurd o.u (Int.not_le.mpr k)
 ·rw[if_neg h1,if_neg h1]
  by_cases h2:B>=A
  ·rw[if_pos h2,if_pos h2,Int.mul_one]
   have hP:0<=P - L:=by rw[eL];exact Int.mul_nonneg (Int.sub_nonneg_of_le h2) y0
   refine⟨λn=>g.c1.1.mp ?_,λh=>bk (q:=True) λo=>?_⟩
   ·rcases g.shut' n with u|u|u
    ·exact Int.lt_of_lt_of_le u (sq (P - L))
    ·exact u.2
    ·exact absurd u.1 (by clear n;omega)
   ·have k:=g.c1.1.mpr h
    rcases Int.lt_or_eq_of_le hP with z|z
    ·exact o.e ⟨z,k⟩
    ·rw[<- z]at k
     exact absurd o.u (Int.not_le.mpr k)
  ·rw[if_neg h2,if_neg h2]
   have hU:=(fZ (k:=y) (z:=x*A - (A*C - B*B)*y) g.py).2.2;rw[<- g.kU]at hU;have e:x*A - (A*C - B*B)*y<0↔x*A<(A*C - B*B)*y:=⟨Int.lt_of_sub_neg,Int.sub_neg_of_lt⟩;refine⟨λn=>e.mp (hU.mp ?_),λh=>.inl (by rw[eE (hU.mpr (e.mpr h))];decide)⟩;rcases g.shut' n with u|u|u
   ·exact u
   ·rw[eL]at u
    exact absurd u.1 (Int.not_lt.mpr (Int.mul_nonpos_of_nonpos_of_nonneg (Int.sub_nonpos_of_le (Int.le_of_lt (Int.not_le.mp h2))) y0))
   ·rw[g.eP]at u
    exact absurd u.1 (Int.not_lt.mpr (Int.mul_nonneg (Int.le_of_lt (Int.not_le.mp λz=>h1 (.inr z))) y0))
noncomputable def eM(P U L:Int):Int×Int×Int×Int:=if ro P (-1) U L 0 0 0 1<0 then (0,0,0,1) else (P,-1,U,L)
noncomputable def dA(P U L:Int):Int×Int×Int×Int:=if ro P 1 U L 1 0 0 1>0 then (1,0,0,1) else (P,1,U,L)
end
noncomputable abbrev N4:=Int×Int×Int×Int
noncomputable def ltB(l:N4)(a b:Int):Int:=ro l.1 l.2.1 l.2.2.1 l.2.2.2 a 0 0 b
noncomputable def gtB(m:N4)(a b:Int):Int:=ro a 0 0 b m.1 m.2.1 m.2.2.1 m.2.2.2
noncomputable def fb(o:Option (N4×N4))(a b:Int):Bool:=match o with
 | none=>false
 | some (l,m)=>decide (ltB l a b<1) && decide (gtB m a b<1)
noncomputable def xG(o:Option (N4×N4))(a b:Int):Bool:=match o with
 | none=>false
 | some (l,m)=>decide (ltB l a b = -1) && decide (gtB m a b = -1)
theorem xC(m:N4)(a b:Int):gtB m a b=0 - ltB m a b:=dN _ _ _ _ _ _ _ _
theorem qA{a b:Int}:ltB (0,0,0,1) a b=sg (-a)/\ltB (1,0,0,1) a b=sg (b - a):=by
 have h:∀W:Int,cI W 0 0 0 0=sg W:=λW=>by
  rw[qh,show ssq 0*0=0 by omega,show sg 0=0 from rfl,Int.mul_zero,if_pos (by decide),Int.add_zero];rcases Int.lt_trichotomy W 0 with h|h|h
  ·rw[eE h];rfl
  ·rw[jG h];rfl
  ·rw[da h];rfl
 unfold ltB;dsimp only;rw[cD,cD,Int.zero_mul,Int.mul_one,Int.one_mul,h,h];constructor
 ·congr 1;omega
 ·rfl
theorem ql{x:Int}:sg x<1↔x<=0:=by
 rcases Int.lt_trichotomy x 0 with h|h|h
 ·rw[eE h];omega
 ·rw[jG h];omega
 ·rw[da h];omega
section
variable {A B C be x y P L U a b:Int}
theorem Gv.kt(g:Gv A B C be x y P L U)(a b:Int):(P*b - a*L)*(P*b - a*L) - b*b*U=y*A*((A*a*a - 2*B*a*b+C*b*b)*y - x*(b*b)):=by
 rw[g.kU,g.eP,g.eL];grind
theorem Gv.ct(g:Gv A B C be x y P L U)(a b:Int):((P*b - a*L)*(P*b - a*L)<=b*b*U↔(A*a*a - 2*B*a*b+C*b*b)*y<=x*(b*b))/\((P*b - a*L)*(P*b - a*L)<b*b*U↔(A*a*a - 2*B*a*b+C*b*b)*y<x*(b*b)):=by
 have h:=fZ (z:=(A*a*a - 2*B*a*b+C*b*b)*y - x*(b*b)) g.ya;rw[<- g.kt a b]at h;omega
theorem k7{u v:Int}(h0:0<=u)(h:u<=v):u*u<=v*v:=Int.mul_le_mul h h h0 (by omega)
theorem Gv.lpos(g:Gv A B C be x y P L U):0<L:=by rw[g.eL];exact Int.mul_pos g.pa g.py
theorem lE(b p:Int):b*p*(b*p)=b*b*(p*p):=by grind
theorem Gv.wle(g:Gv A B C be x y P L U)(ha:0<=a):P*b - a*L<=b*P:=by
 have:=Int.mul_nonneg ha (Int.le_of_lt g.lpos);rw[Int.mul_comm P b];omega
theorem Gv.wge(g:Gv A B C be x y P L U)(hab:a<=b):b*(P - L)<=P*b - a*L:=by
 have h:=Int.mul_le_mul_of_nonneg_right hab (Int.le_of_lt g.lpos);rw[Int.mul_sub,Int.mul_comm b P];omega
theorem Gv.low_le(g:Gv A B C be x y P L U)(u0:0<=U)(ha:0<=a)(hb:0<b):(ltB (eM P U L) a b<1↔¬(0<P*b - a*L/\b*b*U<(P*b - a*L)*(P*b - a*L)))/\(ltB (eM P U L) a b = -1->P*b - a*L<0\/(P*b - a*L)*(P*b - a*L)<b*b*U):=by
 have bb:0<b*b:=Int.mul_pos hb hb;unfold eM
 by_cases h:ro P (-1) U L 0 0 0 1<0
 ·rw[if_pos h,qA.1]
  rw[g.lowB]at h;have k:=(my (W:=P) u0).2.2.mp h;have wle:=g.wle (b:=b) ha;generalize P*b - a*L=W at *;have key:W<0\/W*W<b*b*U:=by
   by_cases hw:W<0
   ·exact .inl hw
   ·have hP:¬P<0:=λz=>by
     have:=Int.mul_neg_of_pos_of_neg hb z;omega
    have k2:P*P<U:=by omega
    have s1:=k7 (show 0<=W by omega) wle;rw[lE]at s1;have s2:=Int.mul_lt_mul_of_pos_left k2 bb;exact .inr (by omega)
  refine⟨⟨λ_ ⟨h1,h2⟩=>by omega,λ_=>?_⟩,λ_=>key⟩;exact ql.mpr (by omega)
 ·rw[if_neg h]
  show(ro P (-1) U L a 0 0 b<1↔_)/\(ro P (-1) U L a 0 0 b = -1->_);rw[cD,show -1*b = -b by omega];have k:=xp (W:=P*b - a*L) hb u0;omega
theorem Gv.high_ge(g:Gv A B C be x y P L U)(u0:0<=U)(hab:a<=b)(hb:0<b):(gtB (dA P U L) a b<1↔¬(P*b - a*L<0/\b*b*U<(P*b - a*L)*(P*b - a*L)))/\(gtB (dA P U L) a b = -1->0<P*b - a*L\/(P*b - a*L)*(P*b - a*L)<b*b*U):=by
 have bb:0<b*b:=Int.mul_pos hb hb;rw[xC];unfold dA
 by_cases h:ro P 1 U L 1 0 0 1>0
 ·rw[if_pos h,qA.2]
  rw[g.highE]at h;have k:=(mw (W:=P - L) u0).2.2.mp h;have wge:=g.wge (a:=a) hab;generalize P*b - a*L=W at *;have key:0<W\/W*W<b*b*U:=by
   by_cases hw:0<W
   ·exact .inl hw
   ·have hP:¬0<P - L:=λz=>by
     have:=Int.mul_pos hb z;omega
    have k2:(P - L)*(P - L)<U:=by omega
    have s1:=k7 (u:=-W) (v:=b * -(P - L)) (by omega) (by rw[Int.mul_neg];omega);rw[lE,show -W * -W=W*W by grind,show -(P - L) * -(P - L)=(P - L)*(P - L) by grind]at s1;have s2:=Int.mul_lt_mul_of_pos_left k2 bb;exact .inr (by omega)
  refine⟨⟨λ_ ⟨h1,h2⟩=>by omega,λ_=>?_⟩,λ_=>key⟩;have:0<=sg (b - a):=by
   rcases Int.lt_or_eq_of_le (show 0<=b - a by omega) with z|z
   ·rw[da z];decide
   ·rw[<- z];decide
  omega
 ·rw[if_neg h]
  show(0 - ro P 1 U L a 0 0 b<1↔_)/\(0 - ro P 1 U L a 0 0 b = -1->_);rw[cD,Int.one_mul];have k:=tZ (W:=P*b - a*L) hb u0;omega
theorem sqx(x:Int):0<=x*x:=by
 rcases Int.le_total 0 x with h|h
 ·exact Int.mul_nonneg h h
 ·exact Int.mul_nonneg_of_nonpos_of_nonpos h h
theorem Gv.far(g:Gv A B C be x y P L U)(n:U<0\/(0<P - L/\U<(P - L)*(P - L))\/(P<0/\U<P*P))(ha:0<=a)(hab:a<=b)(hb:0<b):b*b*U<(P*b - a*L)*(P*b - a*L):=by
 have bb:0<b*b:=Int.mul_pos hb hb;rcases n with n|⟨n1,n2⟩|⟨n1,n2⟩
 ·have h1:=Int.mul_neg_of_pos_of_neg bb n
  have h2:=sqx (P*b - a*L);omega
 ·have wge:=g.wge (a:=a) hab
  have s1:=k7 (u:=b*(P - L)) (Int.mul_nonneg (by omega) (by omega)) wge;rw[lE]at s1;have s2:=Int.mul_lt_mul_of_pos_left n2 bb;omega
 ·have wle:=g.wle (b:=b) ha
  have s1:=k7 (u:=b * -P) (v:=-(P*b - a*L)) (Int.mul_nonneg (by omega) (by omega)) (by rw[Int.mul_neg];omega);rw[lE,show -P * -P=P*P by grind,show -(P*b - a*L) * -(P*b - a*L)=(P*b - a*L)*(P*b - a*L) by grind]at s1;have s2:=Int.mul_lt_mul_of_pos_left n2 bb;omega
end
end Sp5
namespace Pas
open PySem PySem.Spec L2 Sp24 Sp5
noncomputable def ro4(a b:N4):Int:=ro a.1 a.2.1 a.2.2.1 a.2.2.2 b.1 b.2.1 b.2.2.1 b.2.2.2
theorem gX(a b:N4):ro4 b a=0 - ro4 a b:=dN _ _ _ _ _ _ _ _
structure Rv where
 lo:N4
 hi:N4
 ah:Option (Int×Int×Int)
noncomputable def mxN(lo r:N4):N4:=if ro4 lo r<0 then r else lo
noncomputable def pas(g:Option (N4×N4))(st tu:Option Rv)(sd td:Int×Int×Int):Option Rv :=
 match g with
 | none=>none
 | some p=>if tu.isSome=true then some ⟨p.1,p.2,some td⟩ else
  match st with
  | none=>none
  | some r=>if ro4 (mxN p.1 r.lo) p.2<=0 then some ⟨mxN p.1 r.lo,p.2,some sd⟩ else none
noncomputable abbrev GF:=Int->Int->Int->Option (N4×N4)
noncomputable def Lc(G:GF)(U:Nat->Option Rv)(i:Nat):Nat->Option Rv
 | 0=>none
 | j+1=>pas (G 1 i ((j+1:Nat):Int)) (Lc G U i j) (U j) (1,(i:Int),(j:Int)) (0,(i:Int),(j:Int))
noncomputable def Uc(G:GF)(bg:Nat->Option Rv):Nat->Nat->Option Rv
 | 0=>bg
 | i+1=>λj=>pas (G 0 ((i+1:Nat):Int) j) (Uc G bg i j) (Lc G (Uc G bg i) i j) (0,(i:Int),(j:Int)) (1,(i:Int),(j:Int))
structure Dh(n m:Nat)(G:GF)(F:Nat->Nat->Bool)(S T:Nat->Nat->Prop):Prop where
 t1:∀a b q,a<=b->T b q->T a q
 t2:∀p q q',q<=q'->T p q->T p q'
 t3:∀p q,p<=n->q<=m->T p q->F p q=true->S p q
 t4:∀p q,S p q->T p q
 top:∀p,p<=n->F p m=true->S p m
 dn0:∀i j,i<=n->j<m->S i (j+1)->G 0 i j=none->S i j
 dn1:∀i j k p p',i<=n->j<m->S i (j+1)->k<i->G 0 i j=some p->G 0 k j=some p'->ro4 p.2 p'.1<0->S k j
 ov0:∀i j,i<n->j<=m->S i j->G 1 i j=none->S (i+1) j
 ov1:∀i j k p p',i<n->j<k->k<=m->S i j->G 1 i j=some p->G 1 i k=some p'->ro4 p'.2 p.1<0->S (i+1) k
 own:∀k i j p,G k i j=some p->ro4 p.1 p.2<=0
 gt:∀i j,i<=n->j<m->F i (j+1)=false->∃p,G 0 i j=some p/\∀(k:Nat) p',G 0 k j=some p'->ro4 p'.1 p.2<=0
 gl:∀i j,i<n->j<=m->F i j=false->∃p,G 1 i j=some p/\∀(k:Nat) p',G 1 i k=some p'->ro4 p.1 p'.2<=0
section
variable {n m:Nat} {G:GF} {F:Nat->Nat->Bool} {S T:Nat->Nat->Prop}
noncomputable def At(m:Nat)(T:Nat->Nat->Prop)(i j:Nat):Prop:=j<m/\¬T i j/\(T i (j+1)\/j+1=m)
noncomputable def OKU(n m:Nat)(G:GF)(T:Nat->Nat->Prop)(i j:Nat)(r:N4):Prop:=∀(b:Nat),i<=b->b<=n->At m T b j->∀p,G 0 b j=some p->ro4 r p.2<=0
noncomputable def OKL(m:Nat)(G:GF)(T:Nat->Nat->Prop)(i j:Nat)(r:N4):Prop:=∀(q:Nat),j<=q->q<=m->¬T (i+1) q->∀p,G 1 i q=some p->ro4 r p.2<=0
theorem Dh.far(D:Dh n m G F S T){i j:Nat}(hi:i<=n)(a:At m T i j)(f:F i (j+1)=true):S i (j+1):=by
 obtain⟨hj,_,h|h⟩:=a
 ·exact D.t3 i (j+1) hi hj h f
 ·rw[h]at f ⊢
  exact D.top i hi f
theorem Dh.openU(D:Dh n m G F S T){i j:Nat}(hi:i<=n)(a:At m T i j):∃p,G 0 i j=some p/\OKU n m G T i j p.1:=by
 have op:∃p,G 0 i j=some p:=by
  cases f:F i (j+1) with
  | false =>
   obtain⟨p,h,_⟩:=D.gt i j hi a.1 f;exact⟨p,h⟩
  | true =>
   cases g:G 0 i j with
   | some p=>exact⟨p,rfl⟩
   | none=>exact absurd (D.t4 _ _ (D.dn0 i j hi a.1 (D.far hi a f) g)) a.2.1
 obtain⟨p,hp⟩:=op;refine⟨p,hp,λb hb hn ab p' hp'=>?_⟩;rcases Nat.lt_or_eq_of_le hb with lt|rfl
 ·cases f:F b (j+1) with
  | false =>
   obtain⟨p2,h2,h3⟩:=D.gt b j hn ab.1 f;rw[hp']at h2;cases h2;exact h3 i p hp
  | true =>
   have sb:=D.far hn ab f;rcases Int.lt_or_le (ro4 p'.2 p.1) 0 with z|z
   ·exact absurd (D.t4 _ _ (D.dn1 b j i p' p hn ab.1 sb lt hp' hp z)) a.2.1
   ·rw[gX p'.2 p.1]
    omega
 ·rw[hp]at hp'
  cases hp';exact D.own _ _ _ p hp
theorem Dh.openL(D:Dh n m G F S T){i q:Nat}(hi:i<n)(hq:q<=m)(t:T i q)(nt:¬T (i+1) q):∃p,G 1 i q=some p/\OKL m G T i q p.1:=by
 have op:∃p,G 1 i q=some p:=by
  cases f:F i q with
  | false =>
   obtain⟨p,h,_⟩:=D.gl i q hi hq f;exact⟨p,h⟩
  | true =>
   cases g:G 1 i q with
   | some p=>exact⟨p,rfl⟩
   | none=>exact absurd (D.t4 _ _ (D.ov0 i q hi hq (D.t3 i q (by omega) hq t f) g)) nt
 obtain⟨p,hp⟩:=op;refine⟨p,hp,λq' hq' hm nt' p' hp'=>?_⟩;rcases Nat.lt_or_eq_of_le hq' with lt|rfl
 ·cases f:F i q with
  | false =>
   obtain⟨p2,h2,h3⟩:=D.gl i q hi hq f;rw[hp]at h2;cases h2;exact h3 q' p' hp'
  | true =>
   rcases Int.lt_or_le (ro4 p'.2 p.1) 0 with z|z
   ·exact absurd (D.t4 _ _ (D.ov1 i q q' p p' hi lt hm (D.t3 i q (by omega) hq t f) hp hp' z)) nt'
   ·rw[gX p'.2 p.1]
    omega
 ·rw[hp]at hp'
  cases hp';exact D.own _ _ _ p hp
theorem ud(a b:N4):mxN a b=a\/mxN a b=b:=by
 unfold mxN
 split
 ·exact .inr rfl
 ·exact .inl rfl
theorem nF{p:N4×N4}{g:Option (N4×N4)}{st tu:Option Rv}{sd td:Int×Int×Int}(hg:g=some p)(h:tu.isSome=true):pas g st tu sd td=some ⟨p.1,p.2,some td⟩:=by
 rw[hg];show(if tu.isSome=true then _ else _)=_
 rw[if_pos h]
theorem tT{p:N4×N4}{g:Option (N4×N4)}{st tu:Option Rv}{sd td:Int×Int×Int}{r:Rv}(hg:g=some p)(hs:st=some r)(o1:ro4 p.1 p.2<=0)(o2:ro4 r.lo p.2<=0):∃r',pas g st tu sd td=some r'/\(r'.lo=p.1\/r'.lo=r.lo):=by
 rw[hg,hs];show ∃r',(if tu.isSome=true then _ else if ro4 (mxN p.1 r.lo) p.2<=0 then _ else _)=some r'/\_
 split
 ·exact⟨_,rfl,.inl rfl⟩
 ·have:ro4 (mxN p.1 r.lo) p.2<=0:=by
   rcases ud p.1 r.lo with e|e
   ·rw[e];exact o1
   ·rw[e];exact o2
  rw[if_pos this];exact⟨_,rfl,ud _ _⟩
theorem nN(D:Dh n m G F S T){i j:Nat}(hj:j<m)(nt:¬T i j):∃j',j<=j'/\At m T i j':=by
 obtain⟨d,hd⟩:∃d,m - j=d:=⟨_,rfl⟩
 induction d generalizing j with
 | zero=>omega
 | succ d ih =>
  by_cases h:T i (j+1)\/j+1=m
  ·exact⟨j,Nat.le_refl _,hj,nt,h⟩
  ·obtain⟨j',h1,h2⟩:=ih (j:=j+1) (by omega) (λz=>h (.inl z)) (by omega)
   exact⟨j',by omega,h2⟩
theorem Dh.up(D:Dh n m G F S T){U:Nat->Option Rv}{i j:Nat}(hi:i<n)(a:At m T i j)(hu:(U j).isSome=true):∀q,j<q->q<m->¬T (i+1) q->∃r,Lc G U i q=some r/\OKL m G T i q r.lo:=by
 intro q
 induction q with
 | zero=>intro h;omega
 | succ q ih =>
  intro h1 h2 h3;have tq:T i (q+1):=by
   rcases a.2.2 with t|t
   ·exact D.t2 i (j+1) (q+1) (by omega) t
   ·omega
  obtain⟨p,hp,ok⟩:=D.openL hi (by omega) tq h3;rcases Nat.lt_or_eq_of_le (show j<=q by omega) with lt|rfl
  ·obtain⟨r,hr,okr⟩:=ih lt (by omega) λz=>h3 (D.t2 _ _ _ (by omega) z)
   have okr':OKL m G T i (q+1) r.lo:=λq' hq'=>okr q' (by omega);obtain⟨r',e,l⟩:=tT (tu:=U q) (sd:=(1,(i:Int),(q:Int))) (td:=(0,(i:Int),(q:Int))) hp hr (D.own _ _ _ p hp) (okr' (q+1) (Nat.le_refl _) (by omega) h3 p hp);refine⟨r',e,?_⟩;rcases l with l|l
   ·rw[l];exact ok
   ·rw[l];exact okr'
  ·exact⟨_,nF hp hu,ok⟩
theorem Dh.on(D:Dh n m G F S T){bg:Nat->Option Rv}{i j:Nat}{r:Rv}(hi:i<n)(a:At m T i j)(hu:Uc G bg i j=some r)(ok:OKU n m G T i j r.lo):∃j' r',At m T (i+1) j'/\Uc G bg (i+1) j'=some r'/\OKU n m G T (i+1) j' r'.lo:=by
 obtain⟨j',h1,a'⟩:=nN D (i:=i+1) a.1 λz=>a.2.1 (D.t1 i (i+1) j (by omega) z);obtain⟨p,hp,okp⟩:=D.openU (i:=i+1) (by omega) a';rcases Nat.lt_or_eq_of_le h1 with lt|rfl
 ·obtain⟨rl,hl,_⟩:=D.up (U:=Uc G bg i) hi a (by rw[hu];rfl) j' lt a'.1 a'.2.1
  exact⟨j',_,a',nF hp (by rw[hl];rfl),okp⟩
 ·have okr:OKU n m G T (i+1) j r.lo:=λb hb=>ok b (by omega)
  obtain⟨r',e,l⟩:=tT (tu:=Lc G (Uc G bg i) i j) (sd:=(0,(i:Int),(j:Int))) (td:=(1,(i:Int),(j:Int))) hp hu (D.own _ _ _ p hp) (okr (i+1) (Nat.le_refl _) (by omega) a' p hp);refine⟨j,r',a',e,?_⟩;rcases l with l|l
  ·rw[l];exact okp
  ·rw[l];exact okr
theorem Dh.all(D:Dh n m G F S T){bg:Nat->Option Rv}{j0:Nat}{r0:Rv}(a0:At m T 0 j0)(h0:bg j0=some r0)(ok0:OKU n m G T 0 j0 r0.lo):∀i,i<=n->∃j r,At m T i j/\Uc G bg i j=some r/\OKU n m G T i j r.lo:=by
 intro i
 induction i with
 | zero=>exact λ_=>⟨j0,r0,a0,h0,ok0⟩
 | succ i ih =>
  intro hi;obtain⟨j,r,a,hu,ok⟩:=ih (by omega);exact D.on (by omega) a hu ok
theorem Dh.last(D:Dh n m G F S T){bg:Nat->Option Rv}{j0:Nat}{r0:Rv}(a0:At m T 0 j0)(h0:bg j0=some r0)(ok0:OKU n m G T 0 j0 r0.lo)(hn:1<=n)(no:∀q,¬T n q):(Uc G bg (n - 1) (m - 1)).isSome=true\/(Lc G (Uc G bg (n - 1)) (n - 1) (m - 1)).isSome=true:=by
 obtain⟨j,r,a,hu,ok⟩:=D.all a0 h0 ok0 (n - 1) (by omega);rcases Nat.lt_or_ge j (m - 1) with z|z
 ·obtain⟨rl,hl,_⟩:=D.up (U:=Uc G bg (n - 1)) (by omega) a (by rw[hu];rfl) (m - 1) z (by omega) (by rw[Nat.sub_add_cancel hn];exact no _)
  exact .inr (by rw[hl];rfl)
 ·have:j=m - 1:=by have:=a.1;omega
  subst this;exact .inl (by rw[hu];rfl)
end
end Pas
namespace L2
open PySem PySem.Spec PyProof.Rows
theorem sZ{K:W.Frag}{H H':Hp}{a:Addr}{xs:List V}(h:SqT K H a xs)(s:Same H H'):SqT K H' a xs:=by
 rcases h with(h|⟨o,h⟩)|h
 ·exact .inl (.inl (s _ _ h))
 ·exact .inl (.inr ⟨o,s _ _ h⟩)
 ·exact .inr h
end L2
namespace Sp11
open PySem PySem.Spec L2 Mth Sp1 Sp2
inductive C4 (C:Addr) (vs:List V) (H:Hp) (Q:VK) (E:XK):Prop
 | mk:∀(a b:Int) (n:Nat),(vs = [.int a,.int b])->((ax a<=n/\ax b<=n/\n<=7900))->((b=0->E (.ref C) none H))->((b≠0->∀(p:Addr) (t u:Int),CG a b t u->ax t<=n->ax u<=n->H p=none->Q (.ref p) (upd H p (.tup [.int t,.int u]))))->C4 C vs H Q E
structure Ga(H:Hp)(p:Addr)(a b:Int)(n:Nat):Prop where
 at_:H p=some (.tup [.int a,.int b])
 low:Em a b
 ba:ax a<=n
 bb:ax b<=n
theorem Ga.mono{H H':Hp}{p:Addr}{a b:Int}{n:Nat}(f:Ga H p a b n)(s:Same H H'):Ga H' p a b n:=⟨s _ _ f.at_,f.low,f.ba,f.bb⟩
inductive Gz (num den:Int->Int->Int->Int->Int) (vs:List V) (H:Hp) (Q:VK) (x_3:XK):Prop
 | mk:∀(p q:Addr) (a b c d:Int) (n:Nat),(vs = [.ref p,.ref q])->(Ga H p a b n)->(Ga H q c d n)->(n<=3900)->(den a b c d≠0)->(∀(r:Addr) (t u:Int) (H':Hp),CG (num a b c d) (den a b c d) t u->Ga H' r t u (2*n+1)->Same H H'->Q (.ref r) H')->Gz num den vs H Q x_3
noncomputable def numAt(x y t b:Int):Int:=x*b+(y - x)*(t % b)
noncomputable def ld(qs:List (Addr×Int×Int))(t b:Int):Int×Int:=(qs.getD (t / b).toNat (0,0,0)).2
noncomputable def lc(qs:List (Addr×Int×Int))(t b:Int):Int×Int:=(qs.getD (min ((t / b).toNat+1) (qs.length - 1)) (0,0,0)).2
noncomputable def ptX(qs:List (Addr×Int×Int))(t b:Int):Int:=numAt (ld qs t b).1 (lc qs t b).1 t b
noncomputable def ptY(qs:List (Addr×Int×Int))(t b:Int):Int:=numAt (ld qs t b).2 (lc qs t b).2 t b
noncomputable abbrev Crn:=List (Addr×Int×Int)
theorem ip{H:Hp}{l:Addr}{qs:Crn}(L:LineAt H l qs)(j:Nat):ax (qs.getD j (0,0,0)).2.1<=50/\ax (qs.getD j (0,0,0)).2.2<=50:=by
 rw[List.getD_eq_getElem?_getD]
 by_cases h:j<qs.length
 ·rw[List.getElem?_eq_getElem h]
  exact(L.crn _ (List.getElem_mem h)).2
 ·rw[List.getElem?_eq_none (by omega)]
  exact⟨by decide,by decide⟩
noncomputable def cr(c:Int×Int->Int)(qs:Crn)(j:Nat):Int:=c (qs.getD j (0,0,0)).2
noncomputable def ptC(c:Int×Int->Int)(qs:Crn)(t b:Int):Int:=numAt (c (ld qs t b)) (c (lc qs t b)) t b
theorem xm{c:Int×Int->Int}{qs:Crn}{t b:Int}{k:Nat}(hb:0<b)(hk:k+1<qs.length)(h1:(k:Int)*b<=t)(h2:t<=((k:Int)+1)*b) :
  ptC c qs t b=cr c qs k*b+(cr c qs (k+1) - cr c qs k)*(t - (k:Int)*b):=by
 have e0:=Int.emod_add_mul_ediv t b;rw[Int.mul_comm]at e0;have r0:=Int.emod_nonneg t (show b≠0 by omega);have r1:=Int.emod_lt_of_pos t hb;unfold ptC Sp11.numAt ld lc
 by_cases hlt:t<((k:Int)+1)*b
 ·have ek:t / b=(k:Int):=by
   refine Int.le_antisymm ?_ (Ab hb h1);have h3:t / b<(k:Int)+1:=Int.ediv_lt_of_lt_mul hb hlt;omega
  have er:t % b=t - (k:Int)*b:=by rw[ek]at e0;omega
  rw[ek,er,Int.toNat_natCast,Nat.min_eq_left (by omega)];rfl
 ·have et:t=((k:Int)+1)*b:=by omega
  have ek:t / b=(k:Int)+1:=by rw[et];exact Int.mul_ediv_cancel _ (by omega)
  have er:t % b=0:=by rw[et];exact Int.mul_emod_left _ _
  rw[ek,er,show((k:Int)+1).toNat=k+1 by omega,Int.mul_zero,Int.add_zero];have e2:t - (k:Int)*b=b:=by rw[et,Int.add_mul,Int.one_mul];omega
  rw[e2];show cr c qs (k+1)*b=_;generalize cr c qs (k+1)=x;generalize cr c qs k=y;rw[Int.sub_mul];omega
noncomputable def cX(qs:Crn)(k:Nat):Int:=(qs.getD k (0,0,0)).2.1
noncomputable def cY(qs:Crn)(k:Nat):Int:=(qs.getD k (0,0,0)).2.2
theorem x6{qs:Crn}{t b:Int}{k:Nat}(hb:0<b)(hk:k+1<qs.length)(h1:(k:Int)*b<=t)(h2:t<=((k:Int)+1)*b):ptX qs t b=cX qs k*b+(cX qs (k+1) - cX qs k)*(t - (k:Int)*b):=xm (c:=λz=>z.1) hb hk h1 h2
theorem xZ{qs:Crn}{t b:Int}{k:Nat}(hb:0<b)(hk:k+1<qs.length)(h1:(k:Int)*b<=t)(h2:t<=((k:Int)+1)*b):ptY qs t b=cY qs k*b+(cY qs (k+1) - cY qs k)*(t - (k:Int)*b):=xm (c:=λz=>z.2) hb hk h1 h2
theorem jr{D E:Int}(h:(0<=D/\0<=E)\/(D<=0/\E<=0)):0<=D*E:=by
 rcases h with⟨h1,h2⟩|⟨h1,h2⟩
 ·exact Int.mul_nonneg h1 h2
 ·have:=Int.mul_nonneg (show 0<=-D by omega) (show 0<=-E by omega)
  rwa [Int.neg_mul_neg]at this
end Sp11
namespace Hd
open PySem PySem.W PySem.Spec L2
noncomputable def v6(o:Obj):Bool:=match o.data with
 | .freed=>false
 | _=>true
noncomputable def rN:Nat->List Obj->Frag
 | _,[]=>[]
 | n,a::r=>bif v6 a then (n,a)::rN (n+1) r else rN (n+1) r
noncomputable def frag(h:Heap):Frag:=rN 0 h.objs.toList
noncomputable def fnFact(K:Frag)(x:Str):Option (Arguments×List Stmt×Scope×Value):=match nsIn K mainGlobals x with
 | some (some (.ref f))=>(match K.lookup f with
  | some ⟨_,_,.func fd,_⟩=>(match fd.body,fd.closure with
   | .stmts b,[]=>bif (fd.name == x && (fd.qualname == x && (Nat.beq fd.globals mainGlobals && (Nat.beq fd.builtins builtinsNs && codeIn K fd.code x)))) then some (fd.params,b,fd.scope,fd.defaults) else none
   | _,_=>none)
  | _=>none)
 | _=>none
theorem fT{K:Frag}{x:Str}{a:Arguments}{b:List Stmt}{sc:Scope}{dv:Value}(e:fnFact K x=some (a,b,sc,dv)) :
  ∃(f:Addr) (oc:Value) (od:Option Addr) (kV doc pm:Value) (an:Option Addr) (cdv ct:Value) (osl:Array (Option Value)),
   nsIn K mainGlobals x=some (some (.ref f))/\K.lookup f=some ⟨oc,od,.func (fnOf x x a b sc dv kV doc pm an cdv ct),osl⟩/\codeIn K cdv x=true/\keepIn K (.ref f)=true:=by
 unfold fnFact at e
 split at e
 ·rename_i f hf
  split at e
  ·rename_i oc od fd osl hl
   split at e
   ·rename_i b' hb hc
    cases hq:(fd.name == x && (fd.qualname == x && (Nat.beq fd.globals mainGlobals && (Nat.beq fd.builtins builtinsNs && codeIn K fd.code x)))) with
    | false=>rw[hq]at e;cases e
    | true =>
     rw[hq]at e;simp only[Bool.and_eq_true]at hq;obtain⟨h1,h2,h3,h4,h5⟩:=hq
     replace h1:=eq_of_beq h1
     replace h2:=eq_of_beq h2
     replace h3:=Nat.eq_of_beq_eq_true h3
     replace h4:=Nat.eq_of_beq_eq_true h4
     simp only[cond_true,Option.some.injEq,Prod.mk.injEq]at e;obtain⟨e1,e2,e3,e4⟩:=e;obtain⟨n,qn,ps,bd,s,gl,cl,df,kw,dc,pm,an,cd,ct,bl⟩:=fd;simp only at h1 h2 h3 h4 h5 e1 e2 e3 e4 hb hc;subst h1 h2 h3 h4 e1 e2 e3 e4 hb hc;refine⟨f,oc,od,kw,dc,pm,an,cd,ct,osl,hf,hl,h5,?_⟩;unfold keepIn;dsimp only;rw[hl]
   ·cases e
  ·cases e
 ·cases e
theorem df_of{K:Frag}{mg:Str->Option Value}{h:Heap}{x:Str}{st:Stmt}(X:K.In h)(G:h.Ns mainGlobals mg)(e:fnFact K x=some (bK st,aP st,aq st,.none)):Df K mg x st:=by
 obtain⟨f,oc,od,kV,doc,pm,an,cdv,ct,osl,h1,h2,h3,h4⟩:=fT e;exact Ae X G h1 h2 h3 h4
noncomputable def bareV:Value->V
 | .none=>.non
 | .bool b=>.bl b
 | .int i _=>.int i
 | .str x _=>.str x
 | .bytes b _=>.byt b
 | .float b _=>.flt b
 | .ref a=>.ref a
 | .type n=>.ty n
 | _=>.ty "no plain value"
noncomputable def iA:Value->Bool
 | .ellipsis | .notImplemented | .builtin _=>false
 | _=>true
theorem sM:∀{v:Value},iA v=true->a9 (bareV v) v
 | .none,_=>rfl
 | .bool _,_=>rfl
 | .int _ t,_=>⟨t,rfl⟩
 | .str _ t,_=>⟨t,rfl⟩
 | .bytes _ t,_=>⟨t,rfl⟩
 | .float _ t,_=>⟨t,rfl⟩
 | .ref _,_=>rfl
 | .type _,_=>rfl
 | .ellipsis,h=>by cases h
 | .notImplemented,h=>by cases h
 | .builtin _,h=>by cases h
theorem ir:∀{l:List Value},l.all iA=true->aV (l.map bareV) l
 | [],_=>.nil
 | _::_,h=>by
  rw[List.all_cons,Bool.and_eq_true]at h;exact .cons (sM h.1) (ir h.2)
noncomputable def tF(K:Frag)(v:Value):Option (List V):=match v with
 | .ref a=>(match K.lookup a with
  | some ⟨_,_,.seq its _,_⟩=>bif its.toList.all iA then some (its.toList.map bareV) else none
  | _=>none)
 | _=>none
theorem oX{K:Frag}{v:Value}{ds:List V}(e:tF K v=some ds):∃(a:Addr) (o:Obj) (its:List Value) (n:Nat),v = .ref a/\K.lookup a=some o/\o.data = .seq its.toArray n/\aV ds its:=by
 unfold tF at e
 split at e
 ·rename_i a
  split at e
  ·rename_i oc od its n osl hl
   cases hq:its.toList.all iA with
   | false=>rw[hq]at e;cases e
   | true =>
    rw[hq]at e;cases e;exact⟨a,_,its.toList,n,rfl,hl,rfl,ir hq⟩
  ·cases e
 ·cases e
noncomputable def fnFactD(K:Frag)(x:Str):Option (Arguments×List Stmt×Scope×List V):=match fnFact K x with
 | some (a,b,s,dv)=>(match tF K dv with
  | some ds=>some (a,b,s,ds)
  | none=>none)
 | none=>none
theorem dfd_of{K:Frag}{mg:Str->Option Value}{h:Heap}{x:Str}{st:Stmt}{ds:List V}(X:K.In h)(G:h.Ns mainGlobals mg)(e:fnFactD K x=some (bK st,aP st,aq st,ds)):HN K mg x st ds:=by
 unfold fnFactD at e
 split at e
 ·rename_i a b s dv hf
  split at e
  ·rename_i ds' hs
   simp only[Option.some.injEq,Prod.mk.injEq]at e;obtain⟨e1,e2,e3,e4⟩:=e;subst e1 e2 e3 e4;obtain⟨f,oc,od,kV,doc,pm,an,cdv,ct,osl,h1,h2,h3,h4⟩:=fT hf;obtain⟨T,oT,its,n,rfl,hl,hd,hv⟩:=oX hs;exact yX X G h1 h2 h3 h4 hl hd hv
  ·cases e
 ·cases e
noncomputable def cls(K:Frag)(x:Str):Addr:=match nsIn K mainGlobals x with
 | some (some (.ref C))=>C
 | _=>0
noncomputable def excFact(K:Frag)(x:Str):Bool:=match nsIn K mainGlobals x with
 | some (some (.ref C))=>excIn K C [.type "ValueError",.type "Exception",.type "BaseException",.type "object"] "ValueError.__new__"
 | _=>false
theorem exc_of{K:Frag}{mg:Str->Option Value}{h:Heap}{x:Str}(X:K.In h)(G:h.Ns mainGlobals mg)(e:excFact K x=true):E8 K mg x (cls K x):=by
 unfold excFact at e
 split at e
 ·rename_i C hC
  have:cls K x=C:=by unfold cls;rw[hC]
  rw[this];exact yS X G hC e
 ·cases e
noncomputable def tupFact(K:Frag)(x:Str):Option (List V):=match nsIn K mainGlobals x with
 | some (some (.ref a))=>(match K.lookup a with
  | some ⟨.type "tuple",_,.seq its _,_⟩=>bif its.toList.all iA then some (its.toList.map bareV) else none
  | _=>none)
 | _=>none
theorem tup_of{K:Frag}{x:Str}{ds:List V}(e:tupFact K x=some ds):∃(a:Addr) (od:Option Addr) (its:List Value) (n:Nat) (osl:Array (Option Value)),nsIn K mainGlobals x=some (some (.ref a))/\K.lookup a=some ⟨.type "tuple",od,.seq its.toArray n,osl⟩/\aV ds its:=by
 unfold tupFact at e
 split at e
 ·rename_i a ha
  split at e
  ·rename_i od its n osl hl
   cases hq:its.toList.all iA with
   | false=>rw[hq]at e;cases e
   | true =>
    rw[hq]at e;cases e;exact⟨a,od,its.toList,n,osl,ha,hl,ir hq⟩
  ·cases e
 ·cases e
noncomputable def noFact(K:Frag)(x:Str):Bool:=match nsIn K mainGlobals x with
 | some none=>true
 | _=>false
theorem no_of{K:Frag}{x:Str}(e:noFact K x=true):nsIn K mainGlobals x=some none:=by
 unfold noFact at e
 split at e
 ·rename_i h
  exact h
 ·cases e
theorem at_map{α β:Type}{f g:α->β}{l:List α}(e:l.map f=l.map g)(i:Nat){a:α}(h:l[i]? = some a):f a=g a:=by
 have q:=congrArg (λl:List β=>l[i]?) e;simp only[List.getElem?_map,h,Option.map_some,Option.some.injEq]at q;exact q
theorem at_all{α:Type}{f:α->Bool}{l:List α}(e:l.all f=true)(i:Nat){a:α}(h:l[i]? = some a):f a=true :=
 List.all_eq_true.mp e a (List.mem_of_getElem? h)
theorem at_two{α:Type}{l m:List α}(e:l=m)(i:Nat){a b:α}(h:l[i]? = some a)(h':m[i]? = some b):a=b:=by
 subst e;rw[h]at h';exact Option.some.inj h'
theorem vals_sz{ds:List V}{its:List Value}(u:aV ds its)(h:ds.length<=100):its.toArray.size<=100:=by
 rw[List.size_toArray,<- u.length];exact h
theorem pair2{α β:Type _}{a a':α}{b b':β}(h:a=a')(g:b=b'):(a,b)=(a',b'):=by rw[h,g]
end Hd
namespace PySem
namespace F
end F
end PySem
namespace L2
open PySem PySem.Spec PyProof.Rows
inductive E4 (x:V) (vs:List V) (H:Hp) (Q:VK):Prop
 | mk:∀l b xs zs,(x = .ref l)->(vs = [.ref b])->(H l=some (.lst xs))->(H b=some (.lst zs))->(xs.length+zs.length<=sizeLine)->(∀H',Fg H H' l xs (xs++zs)->Q .non H')->E4 x vs H Q
theorem pA{X:Cx}:MtM X "list.extend" E4:=λpins s σ H x xs v us Q I rx rs ⟨l,b,ys,zs,e1,e2,h,h2,hz,q⟩ =>
 rP pins s σ H x xs v us Q I rx rs ⟨l,b,ys,zs,e1,e2,h,h2,hz,q _ (.mk' h)⟩
theorem mX{P:Program}{w:World}{K:W.Frag}{tg:Expr}(it:Addr)(lo c:Int)(n:Nat):El P w K tg ⟨λi _=>i<n,λi H x H'=>H'=H/\x = .int (lo+i*c),λi _=>n<=i⟩ [it] it (λi h=>IsRangeIter h it (lo+(i:Nat)*c) ((n:Int) - (i:Nat)) c) where
 mem:=by simp
 obj:=λi h st b hb=>by
  have e:b=it:=by simpa using hb
  subst e;exact⟨_,st,λv z=>by have z':Data.fields _=Data.cell v:=z;cases z'⟩
 keep:=λi h h' st k=>k it (by simp) _ st
 item:=by
  intro X hP hw hK hc i pins s σ H E I hf st hg;subst hP hw hK;obtain⟨f0,f1,f2,f3,f4,f5⟩:=hf it (by simp);have W:=Walks.range (prog:=X.prog) (w:=X.w) (I.ok.hd hc) it lo c n;refine W.item i s _ _ hg st λv h' tk hv st' kk=>?_;obtain⟨t,rfl⟩:=hv;have I1:AU X pins σ H { s with heap:=h',toks:=tk }:=I.turned (λb o hb e=>kk b o (by simpa using hb) e) f0 f1 f3 f4 f5;exact⟨_,rfl,lI (s:={ s with heap:=h',toks:=tk }) (n:="range_iterator") st' rfl rfl (by decide) ⟨.int (lo+i*c),H,I1,⟨t,rfl⟩,⟨rfl,rfl⟩,st',λb hb=>(hf b hb).1⟩⟩
 done:=by
  intro X hP hw hK hc i pins s σ H E I hf st hg;subst hP hw hK;obtain⟨f0,f1,f2,f3,f4,f5⟩:=hf it (by simp);exact wpAny_pyNext_range_end (I.ok.hd hc) st (by have:n<=i:=hg;omega) λh' eb=>⟨rfl,I.turned (t':=s.toks) (λb o hb e=>eb b o hb e) f0 f1 f3 f4 f5⟩
 self:=λ_ _ _ _ _ st h=>wpAny_pyIter_rangeiter st h
noncomputable def xc(n:Nat):It:=⟨λi _=>i<n,λi H x H'=>H'=H/\x = .int (0+i*3),λi _=>n<=i⟩
noncomputable def yI(ta:TA):TI:=λσ H R=>ta σ H λvs H1=>∃j:Int,vs = [.int 0,.int j,.int 3]/\0<=j/\j<=1000/\R (xc ((j+2) / 3).toNat) H1
theorem o6{X:Cx}{tg:Expr}{a b c:Expr}{ta:TA}{p pos:Pos}(hg:Gl X "range")(hm:X.mg "range" = none)(ha:PA X [a,b,c] ta)(hs:starEach [a,b,c] X.env = [(false,eval a X.env),(false,eval b X.env),(false,eval c X.env)]:=by rfl)(hs2:starEach [b,c] X.env = [(false,eval b X.env),(false,eval c X.env)]:=by rfl) :
  PI X tg (.Call (.Name "range" p) [a,b,c] [] pos) (yI ta):=by
 intro pins s σ H R I h;refine Call_ (fP I hg hm boot_range (PyProof.Rows.callWith_type1 (thn (ha pos pins s σ H _ I h) λus s1 ⟨vs,H1,I1,r1,q1⟩=>?_) (by rw[hs,hs2]) (by rw[hs2];rfl)));obtain⟨j,e,q1,q2,q⟩:=q1;subst e;obtain⟨u1,us,rfl,⟨t1,rfl⟩,r2⟩:∃u1 us',us=u1::us'/\a9 (.int 0) u1/\aV [.int j,.int 3] us':=by
  cases r1 with
  | cons a b=>exact⟨_,_,rfl,a,b⟩
 obtain⟨u2,u3,rfl,⟨t2,rfl⟩,⟨t3,rfl⟩⟩:=p9 r2;have hsz:Builtin.Range.rangeSize 0 j 3=(((j+2) / 3).toNat:Int):=by
  unfold Builtin.Range.rangeSize;simp only[show(3:Int)>0 by decide,if_true]
  split <;> omega
 have hsm:Builtin.Range.small 0 j 3=true:=by
  unfold Builtin.Range.small;rw[hsz];simp only[Builtin.Range.rangeFitsLong,Bool.and_eq_true,Bool.or_eq_true,decide_eq_true_eq,beq_iff_eq,show(3:Int)>0 by decide,if_true];omega
 refine callType_new F.called_range (by decide) (F.typeCall_range_3 _ _ _) (F.newCall_range_3 _ _ _) (λobj=>F.initArgs_range_3 obj _ _ _) F.entry_range_new (AutoRange.range___new___type_int_int_int_1 0 j 3 t1 t2 t3 F.called_range.sub (by decide)) ⟨by unfold Builtin.divisionGoesByPylong;rfl,⟨_,Heap.get?_push_size _ rfl,rfl⟩,?_⟩;refine wpAny_pyIter_range (IsRange.new ..) hsm ?_;rw[hsz];have I2:AU X pins σ H1 { s1 with heap:=s1.heap.push { cls:=.type "range",data:=.fields #[.int 0 t1,.int j t2,.int 3 t3] } }:=I1.kept (t':=s1.toks) λb o e=>Heap.get?_push_of_some _ e;refine⟨_,[(s1.heap.push { cls:=.type "range",data:=.fields #[.int 0 t1,.int j t2,.int 3 t3] }).objs.size],_,_,H1,rfl,I2.kept (t':=s1.toks) λb o e=>Heap.get?_push_of_some _ e,mX _ 0 3 ((j+2) / 3).toNat,?_,λb hb=>?_,q⟩
 ·show IsRangeIter _ _ (0+((0:Nat):Int)*3) ((((j+2) / 3).toNat:Int) - ((0:Nat):Int)) 3
  rw[show(0:Int)+((0:Nat):Int)*3=0 from rfl,show((((j+2) / 3).toNat:Int) - ((0:Nat):Int))=(((j+2) / 3).toNat:Int) by omega];exact Heap.get?_push_size _ rfl
 ·have e:b=(s1.heap.push { cls:=.type "range",data:=.fields #[.int 0 t1,.int j t2,.int 3 t3] }).objs.size:=by simpa using hb
  subst e;exact I2.fpOk (Nat.le_refl _) (I2.hok.fresh (Nat.le_refl _))
theorem pL{n:Nat}{g:TG}{tb:TS}{D:DA}{σ:St}{H:Hp}(Pv:Nat->St->Hp->Prop)(h0:Pv 0 σ H)
  (hs:∀i σ H,i<n->Pv i σ H->g (.int (0+i*3)) σ H λσ2 H2=>tb { D with nx:=Pv (i+1),ct:=Pv (i+1),bk:=D.nx } σ2 H2) (hd:∀σ H,Pv n σ H->D.nx σ H) :
  ∃W:Nat->Nat->St->Hp->Prop,(∃m,W 0 m σ H)/\∀i m σ H,W i m σ H ->
   ((xc n).stop i H/\D.nx σ H)\/((xc n).go i H/\∃N:St->Hp->Prop,(∀σ' H',N σ' H'->∃m',m'<m/\W (i+1) m' σ' H')/\∀x H',(xc n).yld i H x H'->g x σ H' λσ2 H2=>tb { D with nx:=N,ct:=N,bk:=D.nx } σ2 H2):=by
 refine⟨λi m σ H=>m=n - i/\i<=n/\Pv i σ H,⟨n,by simp,Nat.zero_le _,h0⟩,?_⟩;rintro i m σ H ⟨rfl,hi,p⟩
 by_cases hlt:i<n
 ·refine .inr ⟨hlt,Pv (i+1),λσ' H' p'=>⟨n - (i+1),by omega,rfl,hlt,p'⟩,λx H' ⟨e,y⟩=>?_⟩
  subst e y;exact hs i σ _ hlt p
 ·have e:i=n:=by omega
  subst e;exact .inl ⟨Nat.le_refl _,hd σ H p⟩
structure Dz(K:W.Frag)(mg:Str->Option Value)(x:Str)(C:Addr):Prop where
 bound:mg x=some (.ref C)
 cls:E2 K C
 makes:W.makesIn K C=true
 kp:W.keepIn K (.ref C)=true
structure HZ(K:W.Frag)(C:Addr)(m q:Str)(st:Stmt):Prop where
 ex:∃(f:Addr) (oc:Value) (od:Option Addr) (kV doc pm:Value) (an:Option Addr) (cdv ct:Value) (osl:Array (Option Value)),
  HX K C m f/\K.lookup f=some ⟨oc,od,.func (W.fnOf m q (bK st) (aP st) (aq st) .none kV doc pm an cdv ct),osl⟩/\W.codeIn K cdv q=true
structure Mt(P:Program)(w:World)(K:W.Frag)(mg:Str->Option Value)(base:Heap)(C:Addr)(m:Str)(ps:List Str)(k:Nat)(sp:Sp):Prop where
 ex:∃(f:Addr) (fd:FuncData),HX K C m f/\fF K fd ps []/\C3 P w K mg base (CXE P w) k f fd ps sp
theorem HZ.mt{P:Program}{w:World}{K:W.Frag}{mg:Str->Option Value}{base:Heap}{C:Addr}{m q:Str}{st:Stmt}{N ps:List Str}{k:Nat}{sp:Sp}(D:HZ K C m q st)(S:AQ N ps (aq st))
  (hbind:∀(kV doc pm:Value) (an:Option Addr) (cdv ct:Value) (us:List Value),us.length=ps.length->bindArgs (W.fnOf m q (bK st) (aP st) (aq st) .none kV doc pm an cdv ct) ⟨us,[]⟩=pure (ps.zip us))
  (len:∀vs H Q E,sp vs H Q E->vs.length=ps.length)
  (hbody:∀(f:Addr) (cdv:Value) (A:Around) (outer:List Env) (s:Shared) (H:Hp) (vs:List V) (Q:VK) (E:XK),Bv k (A.deeper (envOfC q (aq st) s.heap.objs.size f cdv))->sp vs H Q E ->
   ∃t,PSs (bY (CXE P w) P w K mg base N q (aq st) f cdv A outer s H E) (aP st) t/\t { nx:=λ_ H'=>Q .non H',rt:=Q } (fu N vs) H):Mt P w K mg base C m ps (k+1) sp:=by
 obtain⟨f,oc,od,kV,doc,pm,an,cdv,ct,osl,hm,lk,hcd⟩:=D.ex;exact⟨⟨f,_,hm,.all (hbind kV doc pm an cdv ct),oh lk hcd S len λA outer s H vs Q E hr hsp=>hbody f cdv A outer s H vs Q E hr hsp⟩⟩
section
variable {X:Cx} {C:Addr} {m:Str} {ps:List Str} {k:Nat} {sp:Sp} {o e:Expr} {es:List Expr} {ta:TE} {t:TA} {apos pos:Pos}
theorem yb{st:Stmt}{t:TS}(h:PS X.nox st t):PS X st t:=λpins s σ H D I hw =>
 wpAny_mono (h pins s σ H D (I.wish _) hw) (λ_ _ q=>q.unwish) λ_ _ z=>False.elim z
end
end L2
namespace Hd
open PySem PySem.W PySem.Spec L2
noncomputable def ownFact(K:Frag)(x:Str):Bool:=match nsIn K mainGlobals x with
 | some (some (.ref C))=>plainGet K C Str.empty && (hasDictIn K C && (plainOver K C && (makesIn K C && keepIn K (.ref C))))
 | _=>false
theorem own_of{K:Frag}{mg:Str->Option Value}{h:Heap}{x:Str}(X:K.In h)(G:h.Ns mainGlobals mg)(e:ownFact K x=true)(sa:findIn K (.ref (cls K x)) "__setattr__" = some (some (.builtin "object.__setattr__"))):Dz K mg x (cls K x):=by
 unfold ownFact at e
 split at e
 ·rename_i C hC
  have hc:cls K x=C:=by unfold cls;rw[hC]
  rw[hc]at sa ⊢;simp only[Bool.and_eq_true]at e;obtain⟨e1,e2,e3,e4,e5⟩:=e;exact⟨mg_of X G hC,⟨e1,e2,e3,sa⟩,e4,e5⟩
 ·cases e
noncomputable def mtFact(K:Frag)(x m q:Str):Option (Arguments×List Stmt×Scope×Value):=match findIn K (.ref (cls K x)) m with
 | some (some (.ref f))=>(match K.lookup f with
  | some ⟨.type n,_,.func fd,_⟩=>(match fd.body,fd.closure with
   | .stmts b,[]=>bif (n == "function" && (fd.name == m && (fd.qualname == q && (Nat.beq fd.globals mainGlobals && (Nat.beq fd.builtins builtinsNs && codeIn K fd.code q))))) then some (fd.params,b,fd.scope,fd.defaults) else none
   | _,_=>none)
  | _=>none)
 | _=>none
theorem dfm_of{K:Frag}{x m q:Str}{st:Stmt}(e:mtFact K x m q=some (bK st,aP st,aq st,.none)):HZ K (cls K x) m q st:=by
 unfold mtFact at e
 split at e
 ·rename_i f hf
  split at e
  ·rename_i n od fd osl hl
   split at e
   ·rename_i b' hb hc
    cases hq:(n == "function" && (fd.name == m && (fd.qualname == q && (Nat.beq fd.globals mainGlobals && (Nat.beq fd.builtins builtinsNs && codeIn K fd.code q))))) with
    | false=>rw[hq]at e;cases e
    | true =>
     rw[hq]at e;simp only[Bool.and_eq_true]at hq;obtain⟨h0,h1,h2,h3,h4,h5⟩:=hq
     replace h0:=eq_of_beq h0
     replace h1:=eq_of_beq h1
     replace h2:=eq_of_beq h2
     replace h3:=Nat.eq_of_beq_eq_true h3
     replace h4:=Nat.eq_of_beq_eq_true h4
     simp only[cond_true,Option.some.injEq,Prod.mk.injEq]at e;obtain⟨e1,e2,e3,e4⟩:=e;obtain⟨n',qn,ps,bd,s,gl,cl,df,kw,dc,pm,an,cd,ct,bl⟩:=fd;simp only at h1 h2 h3 h4 h5 e1 e2 e3 e4 hb hc;subst h0 h1 h2 h3 h4 e2 hb hc e4;refine⟨⟨f,.type "function",od,kw,dc,pm,an,cd,ct,osl,⟨hf,?_,?_⟩,?_,h5⟩⟩
     ·unfold isFn typeIn
      dsimp only;rw[hl];exact beq_self_eq_true _
     ·unfold keepIn
      dsimp only;rw[hl]
     ·rw[hl,<- e1,<- e3]
   ·cases e
  ·cases e
 ·cases e
end Hd
namespace L2
open PySem PySem.Spec PyProof.Rows
section
variable {X:Cx}
theorem qt{K:W.Frag}{e:Expr}{f:Str}{ta:TE}{pos:Pos}(h:X.K=K)(he:PE X e ta)(hb:attributeBase e f X.env (eval e X.env)=eval e X.env):PE X (.Attribute e f pos) (zA K ta f):=h▸cF he hb
variable {C:Addr} {ps:List Str} {k:Nat} {sp:Sp} {pos:Pos} {e:Expr} {es:List Expr} {t:TA}
theorem zL{x:Str}{p:Pos}(O:Dz X.K X.mg x C)(F:Mt X.prog X.w X.K X.mg X.base C "__init__" ps k sp)(hr:Bv (k+1) X.A)(hg:Gl X x)(ha:PA X (e::es) t)(hdb:(x == ("__debug__" : Str))=false:=by decide)(he:starEach (e::es) X.env=(false,eval e X.env)::starEach es X.env:=by rfl)(hpl:(backTo pos (starEach es X.env)).any (·.1)=false:=by rfl) :
  PE X (.Call (.Name x p) (e::es) [] pos) (xh C sp [] E0 t):=by
 obtain⟨f,fd,hm,hb,G⟩:=F.ex;exact vR ⟨O.makes,hm.at_,hm.fn,O.kp⟩ G hr hg O.bound hb .nil lz ha hdb he hpl
end
theorem lW(val:Nat->Int):∀k,argBest (λi j=>decide (val i>val j)) k<=k/\∀i,i<=k->val i<=val (argBest (λi j=>decide (val i>val j)) k)
 | 0=>⟨Nat.le_refl _,λi hi=>by rw[Nat.le_zero.mp hi];exact Int.le_refl _⟩
 | k+1=>by
  obtain⟨h1,h2⟩:=lW val k;unfold argBest
  split
  ·rename_i h
   have h:=of_decide_eq_true h;refine⟨Nat.le_refl _,λi hi=>?_⟩;rcases Nat.lt_or_ge k i with z|z
   ·rw[show i=k+1 by omega]
    exact Int.le_refl _
   ·have:=h2 i z
    omega
  ·rename_i h
   have h:¬val (k+1)>val (argBest (λi j=>decide (val i>val j)) k):=λz=>h (decide_eq_true z);refine⟨by omega,λi hi=>?_⟩;rcases Nat.lt_or_ge k i with z|z
   ·rw[show i=k+1 by omega]
    omega
   ·exact h2 i z
section
variable {X:Cx}
inductive G2 (K:W.Frag) (xs:List V) (H:Hp) (Q:VK):Prop
 | mk:∀(l:Addr) (ns:List Int),(xs = [.ref l])->(SqL K H l (ns.map V.int))->(0<ns.length)->(∀m,m∈ns->(∀x∈ns,x<=m)->Q (.int m) H)->G2 K xs H Q
theorem sL(hc:X.calm=true):fX X (.builtin "max") (G2 X.K):=by
 intro pins s σ H xs us Q I r h;obtain⟨l,ns,rfl,hq,h0,q⟩:=h;obtain⟨u,rfl,ru⟩:=gP r;have ru:u=Value.ref l:=ru;subst ru;obtain⟨its,rv,pl,hz⟩:=I.list hq;have hls:l<s.heap.objs.size:=by obtain⟨_,e,_⟩:=pl.isList;exact Heap.lt_size e
 have len:its.length=ns.length:=by have:=rv.length;rw[List.length_map]at this;exact this.symm
 have hval:∀(i:Nat) (v:Value),its.toArray[i]? = some v->∃t,v = .int (ns.getD i 0) t:=λi v e=>by
  have e:its[i]? = some v:=by simpa using e
  have:i<its.length:=(List.getElem?_eq_some_iff.mp e).1;have h2:(ns.map V.int)[i]? = some (.int (ns.getD i 0)):=by
   rw[List.getElem?_map,List.getD_eq_getElem?_getD,List.getElem?_eq_getElem (by omega)];rfl
  obtain⟨u,hu,ru⟩:=rv.get h2;rw[e]at hu;cases hu;exact ru
 have up:∀o:Obj,s.heap.objs.size<(s.heap.push o).objs.size:=λo=>by rw[Heap.size_push];exact Nat.lt_succ_self _
 refine call_max_walk (wpAny_pyIter_list pl.isList ?_);have W:=Walks.list (prog:=X.prog) (w:=X.w) (A:=X.A.in1) (I.ok.hd hc) s.heap.objs.size l (Nat.ne_of_lt hls) its.toArray;refine⟨s.heap.objs.size,_,_,_,_,_,_,rfl,W,⟨⟨_,Heap.get?_push_size _ rfl,rfl,rfl⟩,pl.isList.at λo e=>Heap.get?_push_of_some _ e⟩,λb hb=>?_,by rw[List.size_toArray];omega,CmpOf.ints_gt (λi=>ns.getD i 0) hval,λv h' tk hP hk=>?_⟩
 ·rcases List.mem_cons.mp hb with z|z
  ·rw[z];exact up _
  ·rw[List.mem_singleton.mp z];exact Nat.lt_trans hls (up _)
 ·obtain⟨t,rfl⟩:=hval _ _ hP
  obtain⟨a1,a2⟩:=lW (λi=>ns.getD i 0) (its.toArray.size - 1);generalize argBest (λi j=>decide (ns.getD i 0>ns.getD j 0)) (its.toArray.size - 1)=b at a1 a2;have sz:its.toArray.size=ns.length:=by rw[List.size_toArray,len]
  rw[sz]at a1 a2;have hb:b<ns.length:=by omega
  have gd:∀i,(hi:i<ns.length)->ns.getD i 0=ns[i]:=λi hi=>by rw[List.getD_eq_getElem?_getD,List.getElem?_eq_getElem hi];rfl
  refine⟨.int (ns.getD b 0),H,I.kept λc o e=>hk c o (by rw[List.mem_singleton];exact Nat.ne_of_lt (Heap.lt_size e)) (Heap.get?_push_of_some _ e),⟨t,rfl⟩,q _ ?_ λx hx=>?_⟩
  ·rw[gd b hb]
   exact List.getElem_mem hb
  ·obtain⟨i,hi,rfl⟩:=List.mem_iff_getElem.mp hx
   have:=a2 i (by omega);rw[gd i hi]at this;exact this
end
section
variable {X:Cx}
inductive GD (x:V) (y:V) (H:Hp) (Q:VK):Prop
 | mk:∀l b xs zs,(x = .ref l)->(y = .ref b)->(H l=some (.tup xs))->(H b=some (.tup zs))->((xs≠[]/\zs≠[]))->(xs.length+zs.length<=sizeLine)->(∀p H2,Same H H2->H2 p=some (.tup (xs++zs))->H p=none->Q (.ref p) H2)->GD x y H Q
theorem g9:OpR X (binaryOp .Add) GD:=by
 intro pins s σ H x y v u Q I rx ry h;obtain⟨l,b,xs,zs,rfl,rfl,hH,hB,⟨h1,h2⟩,hz,q⟩:=h;cases rx;cases ry;obtain⟨z,its,r,⟨⟨cls,dd,data,sl⟩,ho,hc,n,hd⟩⟩:=I.hok _ _ hH;obtain⟨z2,its2,r2,⟨⟨cls2,dd2,data2,sl2⟩,ho2,hc2,n2,hd2⟩⟩:=I.hok _ _ hB;simp only at hc hd hc2 hd2;subst hc hd hc2 hd2;have l1:=r.length;have l2:=r2.length;have n1:its≠[]:=λe=>h1 (List.eq_nil_of_length_eq_zero (by rw[l1,e];rfl));have n2':its2≠[]:=λe=>h2 (List.eq_nil_of_length_eq_zero (by rw[l2,e];rfl));have e:its.toArray++its2.toArray=(its++its2).toArray:=by simp
 refine concat_meets ⟨_,ho,rfl⟩ ⟨_,ho2,rfl⟩ noFill_tuple_add seq_tuple_add PySem.F.slot_tuple_add PySem.F.entry_tuple_add (PySem.F.args_tuple_add_2 _ _)
  (tuple_addW2 l b its.toArray its2.toArray n n2 dd dd2 sl sl2 (by simpa using n1) (by simpa using n2') (by rw[List.size_toArray,List.size_toArray];omega)) ⟨ho,ho2,?_⟩
 rw[e];have hf:H s.heap.objs.size=none:=I.fresh;refine⟨.ref s.heap.objs.size,upd H s.heap.objs.size (.tup (xs++zs)),I.laid (t':=s.toks) (λb u e=>Heap.get?_push_of_some _ e) (Nat.le_refl _) ?_,rfl,q _ _ (Same.new hf) upd_same hf⟩;exact⟨by rw[List.length_append];exact hz,its++its2,r.append r2,IsTup.new _ _⟩
end
end L2
namespace L2
open PySem PySem.Spec PyProof.Rows PySem.W
theorem rV{P:Program}{w:World}{K:W.Frag}{mg mb:Str->Option Value}{k:Nat}{fa a:Addr}{fd:FuncData}{x:Str}{sp:Sp}{s1:Shared}{vs:List Value}{ns:List Int}{tabs:List Addr}
  (KX:K.In s1.heap) (hKt:∀p∈tabs,K.lookup p=none) (hT:∀p∈tabs,s1.heap.get? p=some (tabObj #[])) (hTc:∀p∈tabs,isCodeTable s1.heap p)
  (hns:s1.heap.Ns mainGlobals mg) (hb:s1.heap.Ns builtinsNs mb) (hbb:∀x:Str,x≠"__name__"->mb x=bootBuiltins x) (hlim:s1.heap.NoLimit) (hg:s1.gens = #[])
  (ha:s1.heap.get? a=some { cls:=.type "list",data:=.seq vs.toArray }) (hi:IntsAre vs ns) (hl:ns.length<=sizeLine) (hr:Bv k callerA)
  (F:∀base:Heap,K.In base->base.Ns mainGlobals mg->C3 P w K mg base CX0 k fa fd [x] sp) (hbind:∀(s:Shared) (u:Value),BindsTo s fd ⟨[u],[]⟩ [(x,u)])
  (hsp:∀H:Hp,SqL K H a (ns.map V.int)->(∀p∈tabs,H p=some (.tbl #[]))->sp [.ref a] H (λv _=>v = .bl true) λ_ _ _=>False) :
  codeAny (model P w) callerA (.call (.ref fa) ⟨[.ref a],[]⟩) (λr s'=>r = .ok (.ret (.bool true))/\OldK s1.heap s'.heap/\s'.os=s1.os/\AllBare s'.gens) s1:=by
 have rv:=kY hi;have lenV:=hi.length;have atab:a∉tabs:=λz=>by rw[hT a z]at ha;cases ha
 have core:∀H:Hp,SqL K H a (ns.map V.int)->(∀p∈tabs,H p=some (.tbl #[]))->HOk P w H s1.heap->(∀b,H b≠none->b∈tabs\/(b=a/\K.lookup a=none/\∃o xs,H b=some (.frz o (.lst xs)))) ->
   codeAny (model P w) callerA (.call (.ref fa) ⟨[.ref a],[]⟩) (λr s'=>r = .ok (.ret (.bool true))/\OldK s1.heap s'.heap/\s'.os=s1.os/\AllBare s'.gens) s1:=by
  intro H hS hTb hok hA;have base_of:∀{b:Addr} {o:Obj},s1.heap.get? b=some o->H b=none->(mF s1.heap H).get? b=some o:=λe n=>uI e n;have noA:∀{b:Addr} {o:Obj} {es:Array DictEntry} {ep:Nat},s1.heap.get? b=some o->o.data = .dict es ep->H b=none:=λ{b o es ep} e d=>by
   cases q:H b with
   | none=>rfl
   | some u =>
    rcases hA b (by rw[q];simp) with z|⟨e',_⟩
    ·rw[hT b z]at e;cases e
     have d':Data.fields _=Data.dict es ep:=d;cases d'
    ·subst e'
     rw[ha]at e;cases e;have d':Data.seq vs.toArray _=Data.dict es ep:=d;cases d'
  have nsK:∀{b:Addr} {m:Str->Option Value},s1.heap.Ns b m->(mF s1.heap H).Ns b m:=λ{b m} ⟨o,es,ep,e,d,r⟩=>⟨o,es,ep,base_of e (noA e d),d,r⟩;have hKb:K.In (mF s1.heap H):=λb o e=>base_of (KX b o e) (by
   cases q:H b with
   | none=>rfl
   | some u =>
    rcases hA b (by rw[q];simp) with z|⟨e',hk,_⟩
    ·rw[hKt b z]at e;cases e
    ·subst e'
     rw[hk]at e;cases e)
  have hM:Mod K mg (mF s1.heap H):=⟨hKb,nsK hns,⟨mb,nsK hb,hbb⟩,let ⟨mc,h1,h2⟩:=hlim;⟨mc,nsK h1,h2⟩⟩;have e0:EM P w K mg (mF s1.heap H) callerA [] s1 H:=⟨rfl,hM,λb o e=>vX e,Nat.le_of_eq (sf _ _),trivial,λb hb=>absurd (show b∈([]:List Addr) from hb) (by simp),hok,.of_eq hg⟩;refine codeAny_mono ((F _ hKb (nsK hns)).run callerA [] s1 H ⟨[.ref a],[]⟩ [.ref a] [.ref a] _ _ hr e0 (hbind s1 (.ref a)) (.cons rfl .nil) (hsp H hS hTb)) λr s' h=>?_;cases r with
  | error e=>exact False.elim h
  | ok fl =>
   cases fl with
   | next=>exact False.elim h
   | brk=>exact False.elim h
   | cont=>exact False.elim h
   | ret u =>
    obtain⟨v,H',os,bare,un,hok',r',q⟩:=h;have q':v = .bl true:=q;subst q';obtain rfl:u=Value.bool true:=r';refine⟨rfl,⟨λb o e=>?_,λb o e=>un.there b o e (by simp)⟩,os,bare⟩;cases q:H b with
    | none=>exact .inl (un.keep b o e q (by intro z;exact absurd (show b∈([]:List Addr) from z) (by simp)) (by simp))
    | some u =>
     rcases hA b (by rw[q];simp) with z|⟨_,_,ob,xs,z⟩
     ·obtain⟨more,q2⟩:=un.tbls b #[] (hTb b z)
      have e2:s'.heap.get? b=some { cls:=.none,data:=.fields (#[]++more) }:=hok' b _ q2;rw[hT b z]at e;cases e;exact .inr (.inl ⟨hTc b z,rfl,#[],more,rfl,e2⟩)
     ·have z2:=un.frzs b ob _ z
      obtain⟨e1,_⟩:=hok b _ z;obtain⟨e2,_⟩:=hok' b _ z2;rw[e]at e1;cases e1;exact .inl e2
 let Ht:Hp:=λb=>if b∈tabs then some (.tbl #[]) else none
 have tb:∀p∈tabs,Ht p=some (.tbl #[]):=λp hp=>if_pos hp;have tn:∀b,b∉tabs->Ht b=none:=λb hb=>if_neg hb;have tok:HOk P w Ht s1.heap:=λb u e=>by
  by_cases z:b∈tabs
  ·rw[tb b z]at e;cases e
   exact hT b z
  ·rw[tn b z]at e;cases e
 cases hk:K.lookup a with
 | some o =>
  have e:=KX a o hk;rw[ha]at e;cases e;refine core Ht (.inr ⟨_,vs.toArray,_,hk,rfl,rfl,rfl,by rw[List.size_toArray,lenV];exact hl,by simpa using rv⟩) tb tok λb z=>?_
  by_cases hb:b∈tabs
  ·exact .inl hb
  ·exact absurd (tn b hb) z
 | none =>
  have nb:Ht a=none:=tn a atab;have sm:∀b o,Ht b=some o->upd Ht a (.frz { cls:=.type "list",data:=.seq vs.toArray } (.lst (ns.map V.int))) b=some o:=λb o e=>by
   rw[aN (λz=>by rw[z,nb]at e;cases e)];exact e
  refine core (upd Ht a (.frz { cls:=.type "list",data:=.seq vs.toArray } (.lst (ns.map V.int)))) (.inl (.inr ⟨{ cls:=.type "list",data:=.seq vs.toArray },upd_same⟩)) (λp hp=>sm p _ (tb p hp)) (λb u z=>?_) λb z=>?_
  ·by_cases hb:b=a
   ·subst hb
    rw[upd_same]at z;cases z;exact⟨ha,by rw[List.length_map];exact hl,vs,_,rv,ha⟩
   ·rw[aN hb]at z
    exact(tok b u z).stay (λ_ _ _ q=>q) (λd q=>sm d _ q) λd xs q=>sm d _ q
  ·by_cases hb:b=a
   ·exact .inr ⟨hb,hk,_,_,by rw[hb];exact upd_same⟩
   ·rw[aN hb]at z
    by_cases ht:b∈tabs
    ·exact .inl ht
    ·exact absurd (tn b ht) z
noncomputable def oV(K:W.Frag)(tabs:List Addr):Sp:=λvs H Q _=>∃(a:Addr) (ns:List Int),vs = [.ref a]/\SqL K H a (ns.map V.int)/\ns.length<=63/\(∀p∈tabs,H p=some (.tbl #[]))/\∀H',Q (.bl true) H'
end L2
namespace Hd
open PySem PySem.W PySem.Spec L2
noncomputable def xy(o:Obj):Bool:=match o with
 | ⟨.none,_,.fields _,_⟩=>true
 | _=>false
noncomputable def strip(K:Frag):Frag:=K.filter λp=>!xy p.2
theorem nK:∀(l:List Obj) (n:Nat) (p:Nat×Obj),p∈rN n l->n<=p.1/\l[p.1 - n]? = some p.2/\v6 p.2=true
 | [],_,_,e=>by cases e
 | x::r,n,p,e=>by
  have up:p∈rN (n+1) r->n<=p.1/\(x::r)[p.1 - n]? = some p.2/\v6 p.2=true:=λe=>by
   obtain⟨h1,h2,h3⟩:=nK r (n+1) p e;refine⟨by omega,?_,h3⟩;have:p.1 - n=(p.1 - (n+1))+1:=by omega
   rw[this];exact h2
  unfold rN at e;cases hl:v6 x with
  | false =>
   rw[hl]at e;exact up e
  | true =>
   rw[hl,cond_true]at e;rcases List.mem_cons.mp e with rfl|e
   ·exact⟨Nat.le_refl _,by simp,hl⟩
   ·exact up e
theorem uQ(h:Heap):∀p∈frag h,h.get? p.1=some p.2:=λp hp=>by
 obtain⟨_,q,hl⟩:=nK _ _ _ hp;have q:h.objs[p.1]? = some p.2:=by simpa using q
 unfold Heap.get?;rw[q];obtain⟨a,o⟩:=p;obtain⟨c,d,dt,sl⟩:=o;cases dt <;> first|rfl|cases hl
theorem eQ{K:Frag}{b:Addr}{o:Obj}(e:K.lookup b=some o):(b,o)∈K:=by
 induction K with
 | nil=>cases e
 | cons x r ih =>
  rw[List.lookup_cons]at e;cases hb:b == x.1 with
  | true =>
   rw[hb]at e;cases e;rw[beq_iff_eq.mp hb];exact List.mem_cons_self
  | false =>
   rw[hb]at e;exact List.mem_cons_of_mem _ (ih e)
theorem sY{K:Frag}{h:Heap}(k:∀p∈K,h.get? p.1=some p.2):(strip K).In h:=λb o e=>k (b,o) (List.mem_filter.mp (eQ e)).1
theorem rF{K:Frag}{b:Addr}{o:Obj}(e:(strip K).lookup b=some o):xy o=false:=by
 have:=(List.mem_filter.mp (eQ e)).2;simpa using this
noncomputable def hookT{α:Type}(facts:Frag->α)(val:α):Hook :=
 ⟨α,λs=>facts (frag s.heap),λ_=>val,λ_ h=>∃K:Frag,(∀p∈K,h.get? p.1=some p.2)/\facts K=val,λ_ s e=>⟨_,uQ s.heap,e⟩,λ_ _ _ ⟨K,hi,e⟩ k=>⟨K,λp hp=>k _ _ (hi p hp),e⟩⟩
noncomputable def m6(K:Frag)(x:Str):Option (Addr×Addr):=match nsIn (strip K) mainGlobals x with
 | some (some (.ref f))=>(match (strip K).lookup f with
  | some ⟨_,_,.func fd,_⟩=>(match fd.code with
   | .ref c=>(match (strip K).lookup c with
    | some ⟨.type "code",_,.fields vs,_⟩=>(match (vs[11]? : Option Value),vs.getD 18 .none,vs.getD 7 .none,vs.getD 9 .none,vs.getD 10 .none with
     | some (.ref p),.str _ _,.int _ _,.bool _,.int _ _=>(match K.lookup p with
      | some ⟨.none,none,.fields ps,sl⟩=>bif (ps.toList.isEmpty && (sl.toList.isEmpty && !(Nat.beq c p))) then some (c,p) else none
      | _=>none)
     | _,_,_,_,_=>none)
    | _=>none)
   | _=>none)
  | _=>none)
 | _=>none
noncomputable def tabFact(K:Frag)(x:Str):Bool:=(m6 K x).isSome
noncomputable def tabP(K:Frag)(x:Str):Addr:=match m6 K x with
 | some q=>q.2
 | none=>0
theorem jC{K:Frag}{x:Str}{c p:Addr}(e:m6 K x=some (c,p)):∃f oc od fd sl,nsIn (strip K) mainGlobals x=some (some (.ref f))/\(strip K).lookup f=some ⟨oc,od,.func fd,sl⟩/\fd.code = .ref c/\kA (strip K) c p/\K.lookup p=some (tabObj #[]):=by
 unfold m6 at e
 split at e
 ·rename_i f hf
  split at e
  ·rename_i oc od fd sl hl
   split at e
   ·rename_i c' hc
    split at e
    ·rename_i od2 vs sl2 hl2
     split at e
     ·rename_i p' st tt i1 t1 b1 i2 t2 h11 h18 h7 h9 h10
      split at e
      ·rename_i ps sl3 hl3
       cases hq:(ps.toList.isEmpty && (sl3.toList.isEmpty && !(Nat.beq c' p'))) with
       | false=>rw[hq]at e;cases e
       | true =>
        rw[hq]at e;simp only[cond_true,Option.some.injEq,Prod.mk.injEq]at e;obtain⟨rfl,rfl⟩:=e;simp only[Bool.and_eq_true,List.isEmpty_iff,Bool.not_eq_true']at hq;obtain⟨q1,q2,q3⟩:=hq;have q1:ps = #[]:=by simpa using q1
        have q2:sl3 = #[]:=by simpa using q2
        subst q1 q2;refine⟨f,oc,od,fd,sl,hf,hl,hc,⟨_,vs,st,tt,i1,t1,b1,i2,t2,hl2,rfl,rfl,h11,?_,h18,h7,h9,h10,?_⟩,hl3⟩
        ·rw[Array.getD_eq_getD_getElem?,h11];rfl
        ·intro z
         rw[z,Nat.beq_refl]at q3;cases q3
      ·cases e
     ·cases e
    ·cases e
   ·cases e
  ·cases e
 ·cases e
theorem mZ{K:Frag}{x:Str}(t:tabFact K x=true):∃c,m6 K x=some (c,tabP K x):=by
 unfold tabFact at t;obtain⟨⟨c,p⟩,e⟩:=Option.isSome_iff_exists.mp t;refine⟨c,?_⟩;unfold tabP;rw[e]
theorem dft_of{K:Frag}{mg:Str->Option Value}{h:Heap}{x:Str}{st:Stmt}(X:(strip K).In h)(G:h.Ns mainGlobals mg)(e:fnFact (strip K) x=some (bK st,aP st,aq st,.none))(t:tabFact K x=true):HY (strip K) mg x st (tabP K x):=by
 obtain⟨f,oc,od,kV,doc,pm,an,cdv,ct,osl,h1,h2,h3,h4⟩:=fT e;obtain⟨c,ht⟩:=mZ t;obtain⟨f',oc',od',fd',sl',g1,g2,g3,g4,_⟩:=jC ht;rw[h1]at g1;cases g1;rw[h2]at g2;cases g2;have g3:cdv = .ref c:=g3;subst g3;exact⟨⟨f,oc,od,kV,doc,pm,an,c,ct,osl,W.mg_of X G h1,h2,h3,h4,g4⟩⟩
noncomputable def apart:List Addr->Bool
 | []=>true
 | a::r=>(r.all λb=>!(Nat.beq a b)) && apart r
noncomputable def bltFact(K:Frag):Bool:=match nsIn K mainGlobals "__builtins__" with
 | some (some (.ref bm))=>(match K.lookup bm with
  | some ⟨.type "module",some d,.plain,_⟩=>!(Nat.beq bm builtinsNs) && (!(Nat.beq bm mainGlobals) && Nat.beq d builtinsNs)
  | _=>false)
 | _=>false
theorem blt_of{K:Frag}{mg:Str->Option Value}{h:Heap}(X:K.In h)(G:h.Ns mainGlobals mg)(t:bltFact K=true):xg K mg:=by
 unfold bltFact at t
 split at t
 ·rename_i bm hb
  split at t
  ·rename_i d sl hl
   simp only[Bool.and_eq_true,Bool.not_eq_true']at t;obtain⟨t1,t2,t3⟩:=t;have t3:=Nat.eq_of_beq_eq_true t3;subst t3;refine⟨bm,_,W.mg_of X G hb,λz=>?_,λz=>?_,hl,rfl,rfl,rfl⟩
   ·rw[z,Nat.beq_refl]at t1;cases t1
   ·rw[z,Nat.beq_refl]at t2;cases t2
  ·cases t
 ·cases t
theorem law_walkT{l:OpenLaw}{k:Nat}{q:Program}{loose:List Str}{XP:(Str->Option Value)->Heap->Prop}{d:DefRec}{α:Type}{facts:Frag->α}{val:α}{names:List Str}(hk:Bv k callerA)(hn:l.most=some 63)(hdf:d.params.defaults = [])
  (hnm:∀K,facts K=val->names.all (tabFact K)=true)
  (F:∀(K:Frag),facts K=val->∀(w:World) (mg:Str->Option Value) (fa:Addr) (h:Heap),(strip K).In h->h.Ns mainGlobals mg->mg d.name=some (.ref fa) ->
   ∃fd:FuncData,(∀(s:Shared) (u:Value),BindsTo s fd ⟨[u],[]⟩ [("script",u)])/\∀base:Heap,(strip K).In base->base.Ns mainGlobals mg->C3 l.prog w (strip K) mg base CX0 k fa fd ["script"] (oV (strip K) (names.map (tabP K)))) :
  WalkO q loose XP (Hook.says (hookT facts val)) l.row.toRowW d [] (λf vs=>PySem.call f vs):=by
 refine Att.attach_call hn hdf λw s₀ s1 mg mb fa o pm cd doc a vs ns G Y ho hd hcd hmg hobj hints hlen hg=>?_;obtain⟨K,hin,hf⟩:=Y;have KX:=sY hin;obtain⟨fd,hb,hF⟩:=F K hf w mg fa _ KX G.T.g hmg;have ht:∀p∈names.map (tabP K),∃c,kA (strip K) c p/\K.lookup p=some (tabObj #[]):=λp hp=>by
  obtain⟨x,hx,rfl⟩:=List.mem_map.mp hp;obtain⟨c,e⟩:=mZ (List.all_eq_true.mp (hnm K hf) x hx);obtain⟨_,_,_,_,_,_,_,_,g4,g5⟩:=jC e;exact⟨c,g4,g5⟩
 refine rV (tabs:=names.map (tabP K)) KX (λp hp=>?_) (λp hp=>?_) (λp hp=>?_) G.T.g G.T.b G.T.builtins G.T.nolimit hg hobj hints (Nat.le_trans hlen (by decide)) hk hF hb (λH hS hT=>⟨a,ns,rfl,hS,hlen,hT,λ_=>rfl⟩)
 ·cases e:(strip K).lookup p with
  | none=>rfl
  | some o =>
   have e1:=hin _ (List.mem_filter.mp (eQ e)).1;obtain⟨c,_,e2⟩:=ht p hp;have e2:=hin _ (eQ e2);have e1:s1.heap.get? p=some o:=e1;have e2:s1.heap.get? p=some (tabObj #[]):=e2;rw[e1]at e2;cases e2;cases rF e
 ·obtain⟨c,_,e2⟩:=ht p hp
  exact hin _ (eQ e2)
 ·obtain⟨c,C,e2⟩:=ht p hp
  exact((C.hd KX).tab (ps:=#[]) (hin _ (eQ e2))).isCodeTable
theorem u7{K:Frag}{mg:Str->Option Value}{h:Heap}{x:Str}{v:V}(X:K.In h)(G:h.Ns mainGlobals mg)(e:(nsIn K mainGlobals x).map (λo=>o.map bareV)=some (some v)):∃u,mg x=some u/\bareV u=v:=by
 cases hn:nsIn K mainGlobals x with
 | none =>
  rw[hn]at e;cases e
 | some o =>
  cases o with
  | none =>
   rw[hn]at e;cases e
  | some u =>
   rw[hn]at e;exact⟨u,mg_of X G hn,Option.some.inj (Option.some.inj e)⟩
theorem int_of{K:Frag}{mg:Str->Option Value}{h:Heap}{x:Str}{i:Int}(X:K.In h)(G:h.Ns mainGlobals mg)(e:(nsIn K mainGlobals x).map (λo=>o.map bareV)=some (some (.int i))):∃tk,mg x=some (.int i tk):=by
 obtain⟨u,h1,h2⟩:=u7 X G e;cases u <;> first|(cases h2;exact⟨_,h1⟩)|cases h2
end Hd
local macro_rules | `(tactic| omega)=>`(tactic| lia)
local macro_rules | `(tactic| walk_at "bt")=>`(tactic| first
 | assumption
 | (apply L2.bits_mul <;> walk_at "bt")
 | (apply L2.bits_add2 <;> walk_at "bt")
 | (apply L2.bits_sub2 <;> walk_at "bt")
 | (apply L2.bits_neg;walk_at "bt")
 | (apply L2.bits_abs;walk_at "bt")
 | exact L2.bits_lit)
local macro_rules | `(tactic| walk_at "bl")=>`(tactic| (apply L2.bits_of_le;(walk_at "bt");decide))
local macro_rules | `(tactic| walk_at "cm")=>`(tactic| first
 | exact L2.CM.l ⟨by decide,by decide⟩
 | exact L2.CM.r ⟨by decide,by decide⟩
 | (apply L2.CM.of;(walk_at "bt");(walk_at "bt");decide))
local macro_rules | `(tactic| walk_at "at")=>`(tactic| first
 | assumption
 | exact L2.upd_same
 | (refine L2.Same.at (by assumption) ?_;walk_at "at")
 | (refine L2.SameT.at (by assumption) ?_;walk_at "at"))
local macro_rules | `(tactic| walk_at "sm")=>`(tactic| first
 | assumption
 | exact L2.Same.rfl'
 | (refine L2.Same.trans ?_ (by assumption);walk_at "sm"))
local macro_rules | `(tactic| walk_at "kn")=>`(tactic| first
 | assumption
 | exact⟨_,.int _⟩|exact⟨_,.bl _⟩|exact⟨_,.str _⟩|exact⟨_,.non⟩
 | exact⟨_,.tup (by walk_at "at")⟩|exact⟨_,.lst (by walk_at "at")⟩|exact⟨_,.dict (by walk_at "at")⟩)
local macro_rules | `(tactic| walk_at "nice")=>`(tactic| first
 | exact L2.nice_int|exact L2.nice_bool|exact L2.nice_tuple|exact L2.nice_list|exact L2.nice_str)
local macro_rules | `(tactic| walk_at "th")=>`(tactic| first
 | assumption
 | exact Sp1.th_flat .non (fun p e=>nomatch e)|exact Sp1.th_flat (.int _) (fun p e=>nomatch e)|exact Sp1.th_flat (.bl _) (fun p e=>nomatch e)|exact Sp1.th_flat (.str _) (fun p e=>nomatch e)
 | exact Sp1.th_lst (by walk_at "at")
 | (refine' Sp1.th_tup ?hat ?hkn;(case hat=>walk_at "at");(case hkn=>(simp only[List.mem_cons,List.not_mem_nil,or_false,forall_eq_or_imp,forall_eq,false_imp_iff,implies_true];(try (first|(walk_at "kn")|(repeat' apply And.intro) <;> walk_at "kn")))))
 )
local macro_rules | `(tactic| walk_at "r1")=>`(tactic| first
 | (refine⟨_,rfl,?_⟩)
 | (refine⟨_,_,rfl,rfl,?_⟩)
 | (refine⟨_,_,rfl,rfl,by walk_at "cm",?_⟩)
 | (refine⟨_,_,rfl,rfl,(by show(0:Int)<_;decide),?_⟩)
 | (refine⟨_,_,rfl,rfl,⟨by decide,by decide⟩,?_⟩)
 | (refine⟨_,_,rfl,rfl,⟨by decide,by decide,by decide⟩,?_⟩)
 | (refine' ⟨_,_,_,_,rfl,rfl,L2.SqT.of ?hat,?hix,?nxt⟩;(case hat=>walk_at "at");(case hix=>exact rfl))
 | (refine' ⟨_,_,_,_,rfl,rfl,L2.SqL.of ?hat,?hix,?nxt⟩;(case hat=>walk_at "at");(case hix=>exact rfl))
 | (refine⟨by walk_at "cm",?_⟩)
 | (refine⟨(by show(0:Int)<_;decide),?_⟩)
 | (refine⟨⟨by decide,by decide⟩,?_⟩)
 | (refine⟨⟨by decide,by decide,by decide⟩,?_⟩)
 | (refine⟨Sp1.sz (by simp),fun _ _ _ _ _=>?_⟩)
 | (refine⟨Sp1.sz (by simp),L2.alloc fun _ _ _ _=>?_⟩)
 | (refine' ⟨_,_,_,_,rfl,rfl,?hat,?hbt,Sp1.sz ?hsz,fun _ _ _ _ _=>?nxt⟩;(case hat=>walk_at "at");(case hbt=>walk_at "at");(case hsz=>simp))
 | (refine' ⟨_,_,_,_,rfl,rfl,?hat,?hbt,Sp1.sz ?hsz,L2.alloc fun _ _ _ _=>?nxt⟩;(case hat=>walk_at "at");(case hbt=>walk_at "at");(case hsz=>simp))
 | (refine' ⟨_,_,rfl,.inl (L2.SqL.of ?hat),?nxt⟩;(case hat=>walk_at "at"))
 | (refine' ⟨_,_,rfl,.inr (L2.SqT.of ?hat),?nxt⟩;(case hat=>walk_at "at"))
 | (refine' L2.alloc fun _ _ _ _=>?nxt))
local macro_rules | `(tactic| walk_at "rd")=>`(tactic| repeat (walk_at "r1"))
namespace K29
open PySem PySem.Spec L2 Mth Sp1 Sp2 Sp11 Sp7 Sp24 Sp5 Sp6 Dr Wk Sk Fz Pas
noncomputable def top(i:Nat):Stmt:=Challenge.pw_oneleash_k29_one_stands.main.body.getD i (.Pass ⟨0,0,0,0⟩)
noncomputable def v5(i j:Nat):Stmt:=match top i with
 | .ClassDef _ _ _ b _ _ _ _ _ _ _=>b.getD j (.Pass ⟨0,0,0,0⟩)
 | x=>x
noncomputable def h8:List (Str×Nat):=[(Str.ofString "is_whole",5),(Str.ofString "common_divisor",6),(Str.ofString "plus",8),(Str.ofString "is_ratio",9),(Str.ofString "sign_of",11),(Str.ofString "signed_square",12),(Str.ofString "sign_with_root",13),(Str.ofString "sign_with_roots",14),(Str.ofString "root_order",15),(Str.ofString "floor_root",16),(Str.ofString "own_fraction",17),(Str.ofString "scaled_floor",18),(Str.ofString "below_all",19),(Str.ofString "shared_terms",20),(Str.ofString "fraction_of_terms",21),(Str.ofString "fraction_within",22),(Str.ofString "root_between",23),(Str.ofString "look_at_square",27),(Str.ofString "leash_order",28),(Str.ofString "reach_of",29),(Str.ofString "part_within",30),(Str.ofString "last_of",32),(Str.ofString "with_a_stretch",36),(Str.ofString "doors_of",37),(Str.ofString "far_corners",38),(Str.ofString "begins_fence",40),(Str.ofString "ends_fence",41),(Str.ofString "pair_at_corner",42),(Str.ofString "part_from",43),(Str.ofString "pair_in_door",44),(Str.ofString "place_on",45),(Str.ofString "pairs_on",46),(Str.ofString "row_to",48),(Str.ofString "seek",49),(Str.ofString "gap_between",51),(Str.ofString "steps_down",52),(Str.ofString "steps_over",53),(Str.ofString "steps_back",54),(Str.ofString "steps_from",55),(Str.ofString "pairs_of_bend",56),(Str.ofString "fence_past",57),(Str.ofString "doors_at_begin",59),(Str.ofString "door_out",60),(Str.ofString "pass_through",61),(Str.ofString "doors_reached",62),(Str.ofString "doors_at_end",63),(Str.ofString "may_keep",64),(Str.ofString "pairs_to",65),(Str.ofString "walk_through",66),(Str.ofString "go_by",68),(Str.ofString "go_on",69),(Str.ofString "go_part",70),(Str.ofString "_law_pool",72),(Str.ofString "_law_take",73),(Str.ofString "_law_corner",74),(Str.ofString "_law_line",75),(Str.ofString "_law_second",76),(Str.ofString "_law_shared",78),(Str.ofString "_law_less",82),(Str.ofString "_law_point",84),(Str.ofString "_law_apart",85),(Str.ofString "_law_least",87),(Str.ofString "_law_lowest",88),(Str.ofString "_law_leash",89),(Str.ofString "_law_far",90),(Str.ofString "_law_close",91),(Str.ofString "law",92)]
noncomputable def js:List (Str×Nat×List V):=[(Str.ofString "ratio",7,[.int 1])]
noncomputable def yK:List Str:=[Str.ofString "NoRatio",Str.ofString "NoSquare"]
noncomputable def hNo:List Str:=[Str.ofString "abs",Str.ofString "bool",Str.ofString "enumerate",Str.ofString "int",Str.ofString "isinstance",Str.ofString "len",Str.ofString "list",Str.ofString "max",Str.ofString "min",Str.ofString "range",Str.ofString "reversed",Str.ofString "tuple"]
noncomputable def wd:List (Str×List V):=[(Str.ofString "BEGIN",[.int 0,.int 0,.int 0,.int 1]),(Str.ofString "END",[.int 1,.int 0,.int 0,.int 1])]
noncomputable def Aa(K:W.Frag):List (Option (Option V)):=[(W.nsIn K mainGlobals "UPRIGHT").map (λo=>o.map Hd.bareV),(W.nsIn K mainGlobals "LEVEL").map (λo=>o.map Hd.bareV)]
noncomputable def xB:List (Option (Option V)):=[some (some (.int 0)),some (some (.int 1))]
noncomputable def z9(K:W.Frag):List (Option (Option Value)):=[W.findIn K (.ref (Hd.cls K "Field")) "__setattr__",W.findIn K (.ref (Hd.cls K "Field")) "room",W.findIn K (.ref (Hd.cls K "Field")) "last",W.findIn K (.ref (Hd.cls K "Field")) "doors",W.findIn K (.ref (Hd.cls K "Field")) "far"]
noncomputable def xA:List (Option (Option Value)):=[some (some (.builtin "object.__setattr__")),some none,some none,some none,some none]
noncomputable def zX:List Str:=[Str.ofString "Field"]
noncomputable def hMt:List (Str×Str×Str×Stmt):=[(Str.ofString "Field",Str.ofString "__init__",Str.ofString "Field.__init__",v5 39 0)]
noncomputable def hTabs:List Str:=[Str.ofString "fence_past"]
noncomputable def hF0(K:W.Frag):List (Option (Arguments×List Stmt×Scope×Value)):=h8.map (λp=>Hd.fnFact K p.1)
noncomputable def hG0:List (Option (Arguments×List Stmt×Scope×Value)):=h8.map (λp=>some (bK (top p.2),aP (top p.2),aq (top p.2),.none))
noncomputable def hF1(K:W.Frag):List (Option (Arguments×List Stmt×Scope×List V))×Bool×Bool×List (Option (List V))×Bool×List (Option (Arguments×List Stmt×Scope×Value))×List (Option (Option V))×List (Option (Option Value)):=(js.map (λp=>Hd.fnFactD K p.1),yK.all (Hd.excFact K),hNo.all (Hd.noFact K),wd.map (λp=>Hd.tupFact K p.1),zX.all (Hd.ownFact K),hMt.map (λp=>Hd.mtFact K p.1 p.2.1 p.2.2.1),Aa K,z9 K)
noncomputable def hG1:List (Option (Arguments×List Stmt×Scope×List V))×Bool×Bool×List (Option (List V))×Bool×List (Option (Arguments×List Stmt×Scope×Value))×List (Option (Option V))×List (Option (Option Value)):=(js.map (λp=>some (bK (top p.2.1),aP (top p.2.1),aq (top p.2.1),p.2.2)),true,true,wd.map (λp=>some p.2),true,hMt.map (λp=>some (bK p.2.2.2,aP p.2.2.2,aq p.2.2.2,.none)),xB,xA)
noncomputable def hF2(K0:W.Frag):Bool×Bool×Bool:=(hTabs.all (Hd.tabFact K0),Hd.bltFact (Hd.strip K0),Hd.apart (hTabs.map (Hd.tabP K0)))
noncomputable def hG2:Bool×Bool×Bool:=(true,true,true)
noncomputable def hFacts(K:W.Frag):(List (Option (Arguments×List Stmt×Scope×Value)))×(List (Option (Arguments×List Stmt×Scope×List V))×Bool×Bool×List (Option (List V))×Bool×List (Option (Arguments×List Stmt×Scope×Value))×List (Option (Option V))×List (Option (Option Value)))×(Bool×Bool×Bool):=(hF0 (Hd.strip (K)),hF1 (Hd.strip (K)),hF2 (K))
noncomputable def hGood:(List (Option (Arguments×List Stmt×Scope×Value)))×(List (Option (Arguments×List Stmt×Scope×List V))×Bool×Bool×List (Option (List V))×Bool×List (Option (Arguments×List Stmt×Scope×Value))×List (Option (Option V))×List (Option (Option Value)))×(Bool×Bool×Bool):=(hG0,hG1,hG2)
noncomputable def hView:Program:=W.view Challenge.pw_oneleash_k29_one_stands [92]
noncomputable def hLoose:List Str:=[Str.ofString "LeashError",Str.ofString "NoRatio",Str.ofString "NoSquare",Str.ofString "is_whole",Str.ofString "common_divisor",Str.ofString "ratio",Str.ofString "plus",Str.ofString "is_ratio",Str.ofString "sign_of",Str.ofString "signed_square",Str.ofString "sign_with_root",Str.ofString "sign_with_roots",Str.ofString "root_order",Str.ofString "floor_root",Str.ofString "own_fraction",Str.ofString "scaled_floor",Str.ofString "below_all",Str.ofString "shared_terms",Str.ofString "fraction_of_terms",Str.ofString "fraction_within",Str.ofString "root_between",Str.ofString "BEGIN",Str.ofString "END",Str.ofString "look_at_square",Str.ofString "leash_order",Str.ofString "reach_of",Str.ofString "part_within",Str.ofString "last_of",Str.ofString "UPRIGHT",Str.ofString "LEVEL",Str.ofString "with_a_stretch",Str.ofString "doors_of",Str.ofString "far_corners",Str.ofString "Field",Str.ofString "begins_fence",Str.ofString "ends_fence",Str.ofString "pair_at_corner",Str.ofString "part_from",Str.ofString "pair_in_door",Str.ofString "place_on",Str.ofString "pairs_on",Str.ofString "row_to",Str.ofString "seek",Str.ofString "gap_between",Str.ofString "steps_down",Str.ofString "steps_over",Str.ofString "steps_back",Str.ofString "steps_from",Str.ofString "pairs_of_bend",Str.ofString "fence_past",Str.ofString "doors_at_begin",Str.ofString "door_out",Str.ofString "pass_through",Str.ofString "doors_reached",Str.ofString "doors_at_end",Str.ofString "may_keep",Str.ofString "pairs_to",Str.ofString "walk_through",Str.ofString "go_by",Str.ofString "go_on",Str.ofString "go_part",Str.ofString "_law_pool",Str.ofString "_law_take",Str.ofString "_law_corner",Str.ofString "_law_line",Str.ofString "_law_second",Str.ofString "_law_whole",Str.ofString "_law_shared",Str.ofString "_law_is_fraction",Str.ofString "_law_is_pair",Str.ofString "_law_are_pairs",Str.ofString "_law_less",Str.ofString "_law_near",Str.ofString "_law_point",Str.ofString "_law_apart",Str.ofString "_law_square",Str.ofString "_law_least",Str.ofString "_law_lowest",Str.ofString "_law_leash",Str.ofString "_law_far",Str.ofString "_law_close"]
noncomputable def hRunS(w:World):=(W.openEnds treeTable Challenge.pw_oneleash_k29_one_stands w 100000).map (λs=>(W.openSeen hView hLoose (importedModules Challenge.pw_oneleash_k29_one_stands.main.body) (λ_=>true) true s,hF1 (Hd.strip (Hd.frag s.heap)),hF2 (Hd.frag s.heap)))
noncomputable def hEndS:=some ((W.openGood hView hLoose,hG1,hG2))
theorem hRunS_self:@hRunS = @hRunS:=rfl
theorem hEndS_self:@hEndS = @hEndS:=rfl
set_option maxHeartbeats 0 in
lay_quick K29.hRunS K29.hEndS
name_quick hRunSQ for K29.hRunS by K29.hRunS_self
name_quick hEndSQ for K29.hEndS by K29.hEndS_self
set_option maxHeartbeats 0 in
theorem wg(w:World):W.Fast.hRunSQ w=W.Fast.hEndSQ:=by kernel_rfl
theorem zY(w:World):hRunS w=hEndS:=(congrFun W.Fast.hRunSQ_eq w).trans ((wg w).trans W.Fast.hEndSQ_eq.symm)
noncomputable def hRun0(w:World):=(W.openEnds treeTable Challenge.pw_oneleash_k29_one_stands w 100000).map (λs=>hF0 (Hd.strip (Hd.frag s.heap)))
noncomputable def hEnd0:=some (hG0)
theorem hRun0_self:@hRun0 = @hRun0:=rfl
theorem hEnd0_self:@hEnd0 = @hEnd0:=rfl
set_option maxHeartbeats 0 in
lay_quick K29.hRun0 K29.hEnd0
name_quick hRun0Q for K29.hRun0 by K29.hRun0_self
name_quick hEnd0Q for K29.hEnd0 by K29.hEnd0_self
set_option maxHeartbeats 0 in
theorem wm(w:World):W.Fast.hRun0Q w=W.Fast.hEnd0Q:=by kernel_rfl
theorem zZ(w:World):hRun0 w=hEnd0:=(congrFun W.Fast.hRun0Q_eq w).trans ((wm w).trans W.Fast.hEnd0Q_eq.symm)
theorem AI(w:World):(W.openEnds treeTable Challenge.pw_oneleash_k29_one_stands w 100000).map (λs=>(W.openSeen hView hLoose (importedModules Challenge.pw_oneleash_k29_one_stands.main.body) (λ_=>true) true s,hFacts (Hd.frag s.heap)))=some (W.openGood hView hLoose,hGood):=by
 have rS:(W.openEnds treeTable Challenge.pw_oneleash_k29_one_stands w 100000).map (λs=>(W.openSeen hView hLoose (importedModules Challenge.pw_oneleash_k29_one_stands.main.body) (λ_=>true) true s,hF1 (Hd.strip (Hd.frag s.heap)),hF2 (Hd.frag s.heap)))=some ((W.openGood hView hLoose,hG1,hG2)):=zY w;have r0:(W.openEnds treeTable Challenge.pw_oneleash_k29_one_stands w 100000).map (λs=>hF0 (Hd.strip (Hd.frag s.heap)))=some (hG0):=zZ w
 skip
 generalize (W.openEnds treeTable Challenge.pw_oneleash_k29_one_stands w 100000)=x at *;cases x with
 | none=>cases rS
 | some s =>
  have zS:=Option.some.inj rS;have z0:=Option.some.inj r0;show some (W.openSeen hView hLoose (importedModules Challenge.pw_oneleash_k29_one_stands.main.body) (λ_=>true) true s,hFacts (Hd.frag s.heap))=_;unfold hFacts hGood;have z:=(congrArg Prod.fst zS);have q1:=(congrArg Prod.fst (congrArg Prod.snd zS));have q2:=(congrArg Prod.snd (congrArg Prod.snd zS));have q0:=z0;exact congrArg some (Hd.pair2 z (Hd.pair2 q0 (Hd.pair2 q1 q2)))
structure Txt(mg:Str->Option Value):Prop where
 z_abs:mg "abs" = none
 z_bool:mg "bool" = none
 z_enumerate:mg "enumerate" = none
 z_int:mg "int" = none
 z_isinstance:mg "isinstance" = none
 z_len:mg "len" = none
 z_list:mg "list" = none
 z_max:mg "max" = none
 z_min:mg "min" = none
 z_range:mg "range" = none
 z_reversed:mg "reversed" = none
 z_tuple:mg "tuple" = none
section
variable {P:Program} {w:World} {K:W.Frag} {mg:Str->Option Value} {base:Heap} {C_Field:Addr}
theorem eV{α:Type}{xs:List α}(h:xs.length=1):∃a,xs = [a]:=match xs,h with | [a],_=>⟨a,rfl⟩
theorem di(i j:Int):decide (V.int i=V.int j)=decide (i=j):=Fnc.di i j
theorem eB{x:Int}(h:Sm x):ax x<=50:=by
 have h':-999999999999<=x/\x<=999999999999:=h;exact du (n:=50) (by show _<1125899906842624;omega)
theorem smk{N M:List Str}{c:Scope}(a:c.kind=.function:=by rfl)(b:c.isCoroutine=false:=by rfl)(d:c.isGenerator=false:=by rfl)(e:N.Nodup:=by decide +kernel)(f:N.take M.length=M:=by rfl)(g:∀x∈M,c.names.lookup x=some .local\/c.names.lookup x=some .cell:=by decide +kernel)(h:∀y∈c.names,y.2≠.free:=by decide +kernel):AQ N M c:=⟨a,b,d,e,f,g,h⟩
theorem Fs:AQ ["thing"] ["thing"] (aq (top 5)):=smk
theorem ow(FH:Df K mg "is_whole" (top 5))(T:Txt mg):Fn P w K mg base "is_whole" ["thing"] 1 DY:=by
 refine FH.fn Fs (λ_ _ _ _ _ _ us hl=>by obtain⟨_,rfl⟩:=eV hl;rfl) (λvs H Q E h=>?_) (λf cdv A outer s H vs Q E hr h=>?_)
 ·obtain⟨x,t,rfl,_⟩:=h
  rfl
 ·obtain⟨x,t,rfl,k,q⟩:=h
  refine⟨_,(am (aB (mf (aQ fV (by rfl) T.z_isinstance eI (ad (pv 0) (ad (tQ T.z_int pS) ak))) (iC (yg (aQ fV (by rfl) T.z_isinstance eI (ad (pv 0) (ad (tQ T.z_bool wM) ak)))))))),?_⟩;refine⟨_,rfl,x,t,"int",rfl,k,.inl rfl,_,rfl,?_⟩;refine aT (λhc=>?_) (λhc=>?_)
  ·refine⟨_,rfl,x,t,"bool",rfl,k,.inr (.inl rfl),_,rfl,?_⟩
   rw[(kX k).1 hc];exact q
  ·rw[(kX k).2 hc]at q
   exact q
theorem Ba:AQ ["one","other","rest"] ["one","other"] (aq (top 6)):=smk
theorem io(DO:Df K mg "common_divisor" (top 6))(T:Txt mg):Fn P w K mg base "common_divisor" ["one","other"] 1 FY:=by
 refine DO.fn Ba (λ_ _ _ _ _ _ us hl=>by obtain⟨_,_,rfl⟩:=dh hl;rfl) (λvs H Q E h=>?_) (λf cdv A outer s H vs Q E hr h=>?_)
 ·obtain⟨a,b,rfl,_⟩:=h
  rfl
 ·obtain⟨a,b,rfl,q⟩:=h
  refine⟨_,(ag (ay (i:=0) Ba.nd rfl (Or.inl rfl) (aQ eX (by rfl) T.z_abs iO (ad (pv 0) ak))) (ag (ay (i:=1) Ba.nd rfl (Or.inl rfl) (aQ eX (by rfl) T.z_abs iO (ad (pv 1) ak))) (ag (dS PassesOwn.never (aE fM (pv 1) af (aH _)) (ag (ay (i:=2) Ba.nd rfl (Or.inl rfl) (ao fN (pv 0) (pv 1))) (ag (ay (i:=0) Ba.nd rfl (Or.inl rfl) (pv 1)) (am (ay (i:=1) Ba.nd rfl (Or.inl rfl) (pv 2)))))) (am (aB (pv 0)))))),?_⟩;refine⟨_,rfl,a,rfl,_,rfl,b,rfl,?_⟩;refine dQ (λσ H'=>∃x y r,σ = [some (.int x),some (.int y),r]/\H'=H/\0<=x/\0<=y/\Int.gcd x y=Int.gcd a b)
   (λσ _=>match σ with | [_,some (.int y),_]=>y.toNat|_=>0) ⟨_,_,_,rfl,rfl,km a,km b,by rw[qI,uK]⟩ ?_ ?_
  ·rintro σ H' ⟨x,y,r,rfl,rfl,hx,hy,hg⟩
   refine⟨_,rfl,rfl,_,rfl,?_⟩;refine aT (λhc=>?_) (λhc=>?_)
   ·have hy0:¬y=0:=by simpa using hc
    have hy1:0<y:=by omega
    refine⟨_,rfl,_,rfl,x,y,rfl,rfl,hy1,_,rfl,_,rfl,⟨y,x % y,_,rfl,rfl,hy,Int.emod_nonneg _ hy0,?_⟩,?_⟩
    ·rw[nX hx hy1]
     exact hg
    ·have h1:=Int.emod_lt_of_pos x hy1
     have h2:=Int.emod_nonneg x hy0;show(x % y).toNat<y.toNat;omega
   ·have hy0:y=0:=by simpa using hc
    subst hy0;refine⟨_,rfl,?_⟩;have e:(Int.gcd a b:Int)=x:=by rw[<- hg];exact gcd_zero hx
    rw[e]at q;exact q
  ·rintro σ H' Q1 Q2 hq ⟨v,e,hs,k,ek,r⟩
   exact⟨v,e,hs,k,ek,hq _ _ r⟩
theorem EH:AQ ["top","bottom","divisor"] ["top","bottom"] (aq (top 7)):=smk
theorem uR{C:Addr}(ET:HN K mg "ratio" (top 7) [.int 1])(BD:E8 K mg "NoRatio" C)(By:Fn P w K mg base "is_whole" ["thing"] 1 DY)(Bc:Fn P w K mg base "common_divisor" ["one","other"] 1 FY):Fx P w K mg base "ratio" ["top","bottom"] 2 [.int 1] (C4 C):=by
 refine ET.fx EH (λT kV doc pm an cdv ct us its oT n s hv hl ho hs=>?_) (λT kV doc pm an cdv ct us its oT n s hv hl ho hs=>?_) (λvs H Q E h=>?_) (λf cdv A outer s H vs Q E hr h=>?_)
 ·obtain⟨u,rfl,_⟩:=gP hv
  match us,hl with
  | [_,_],_=>exact BindsTo.of_defaults rfl ho hs rfl rfl
 ·obtain⟨u,rfl,_⟩:=gP hv
  have hl1:us.length=1:=by simpa using hl
  match us,hl1 with
  | [_],_=>exact BindsTo.of_defaults rfl ho hs rfl rfl
 ·obtain⟨a,b,nb,rfl,_⟩:=h
  rfl
 ·obtain⟨a,b,nb,rfl,⟨ba,bb,hnb⟩,k0,k1⟩:=h
  refine⟨_,(ag (aM (fw (gE (de (aF By (hr.mono (by decide)) (by rfl) (ad (pv 0) ak)))) (fw (gE (de (aF By (hr.mono (by decide)) (by rfl) (ad (pv 1) ak)))) (fc (aE bR (pv 1) af (aH _))))).pt (am (g6 BD (by rfl))) aI) (ag (ay (i:=2) EH.nd rfl (Or.inl rfl) (aF Bc (hr.mono (by decide)) (by rfl) (ad (pv 0) (ad (pv 1) ak)))) (ag (aM (aE dG (pv 1) af (aH _)) (am (ay (i:=2) EH.nd rfl (Or.inl rfl) (eJ dI (pv 2)))) aI) (am (aB (iB (ad (ao nJ (pv 0) (pv 2)) (ad (ao nJ (pv 1) (pv 2)) ak)))))))),?_⟩;refine⟨_,rfl,_,_,rfl,.int a,_,rfl,jX ?_⟩;refine⟨_,rfl,_,_,rfl,.int b,_,rfl,jX ?_⟩;refine⟨_,rfl,rfl,_,rfl,?_⟩;refine aT (λhc=>?_) (λhc=>?_)
  ·exact k0 (by simpa using hc)
  ·have hb:b≠0:=by simpa using hc
   have hg:=jt (a:=a) (b:=b) hb;have bg:ax (Int.gcd a b:Int)<=8000:=ap (lJ hb bb) (by omega);refine⟨_,rfl,_,rfl,a,b,rfl,?_⟩;refine⟨_,rfl,_,_,rfl,rfl,_,rfl,?_⟩;refine aT (λhd=>?_) (λhd=>?_)
   ·have hlt:b<0:=by simpa using hd
    refine⟨_,rfl,_,rfl,?_⟩;refine⟨_,rfl,_,rfl,_,_,rfl,rfl,⟨by omega,bits_neg bg⟩,_,rfl,_,rfl,_,_,rfl,rfl,⟨by omega,bits_neg bg⟩,sz (by simp),λp hp=>?_⟩;exact k1 hb p _ _ (lM hb _ (by rw[if_pos hlt])) (gw ba) (gw bb) hp
   ·have hlt:¬b<0:=by simpa using hd
    refine⟨_,rfl,_,rfl,_,_,rfl,rfl,⟨by omega,bg⟩,_,rfl,_,rfl,_,_,rfl,rfl,⟨by omega,bg⟩,sz (by simp),λp hp=>?_⟩;exact k1 hb p _ _ (lM hb _ (by rw[if_neg hlt])) (gw ba) (gw bb) hp
theorem F6:AQ ["number"] ["number"] (aq (top 11)):=smk
theorem pM(Gb:Df K mg "sign_of" (top 11)):Fn P w K mg base "sign_of" ["number"] 1 Dk:=by
 refine Gb.fn F6 (λ_ _ _ _ _ _ us hl=>by obtain⟨_,rfl⟩:=eV hl;rfl) (λvs H Q E h=>?_) (λf cdv A outer s H vs Q E hr h=>?_)
 ·obtain⟨n,rfl,_⟩:=h
  rfl
 ·obtain⟨n,rfl,q⟩:=h
  refine⟨_,(ag (aM (aE lB (pv 0) af (aH _)) (am (aB af)) aI) (ag (aM (aE dG (pv 0) af (aH _)) (am (aB (eJ dI af))) aI) (am (aB af)))),?_⟩;unfold sg at q;refine⟨_,rfl,_,_,rfl,rfl,_,rfl,aT (λh1=>?_) (λh1=>?_)⟩
  ·rw[if_pos (by simpa using h1)]at q
   exact q
  ·rw[if_neg (by simpa using h1)]at q
   refine⟨_,rfl,_,_,rfl,rfl,_,rfl,aT (λh2=>?_) (λh2=>?_)⟩
   ·rw[if_pos (by simpa using h2)]at q
    exact⟨_,rfl,q⟩
   ·rw[if_neg (by simpa using h2)]at q
    exact q
inductive Ex (vs:List V) (H:Hp) (Q:VK) (x_3:XK):Prop
 | mk:∀n:Int,(vs = [.int n])->(ax n<=160000)->(Q (.int (ssq n)) H)->Ex vs H Q x_3
inductive Fh (vs:List V) (H:Hp) (Q:VK) (x_3:XK):Prop
 | mk:∀w p u:Int,(vs = [.int w,.int p,.int u])->((ax w<=64000/\ax p<=64000/\ax u<=64000))->(Q (.int (swr w p u)) H)->Fh vs H Q x_3
inductive Ew (vs:List V) (H:Hp) (Q:VK) (x_3:XK):Prop
 | mk:∀w p u s b:Int,(vs = [.int w,.int p,.int u,.int s,.int b])->((ax w<=8000/\ax p<=8000/\ax u<=8000/\ax s<=8000/\ax b<=8000))->(Q (.int (cI w p u s b)) H)->Ew vs H Q x_3
structure Id(K:W.Frag)(H:Hp)(p:Addr)(a0 a1 a2 a3:Int):Prop where
 at_:SqT K H p [.int a0,.int a1,.int a2,.int a3]
 b0:ax a0<=3600
 b1:ax a1<=3600
 b2:ax a2<=8000
 b3:ax a3<=3600
inductive FT (K:W.Frag) (vs:List V) (H:Hp) (Q:VK) (x_3:XK):Prop
 | mk:∀(p q:Addr) (a0 a1 a2 a3 b0 b1 b2 b3:Int),(vs = [.ref p,.ref q])->(Id K H p a0 a1 a2 a3)->(Id K H q b0 b1 b2 b3)->(Q (.int (ro a0 a1 a2 a3 b0 b1 b2 b3)) H)->FT K vs H Q x_3
theorem DT:AQ ["number"] ["number"] (aq (top 12)):=smk
theorem iJ(DU:Df K mg "signed_square" (top 12))(T:Txt mg):Fn P w K mg base "signed_square" ["number"] 1 Ex:=by
 refine DU.fn DT (λ_ _ _ _ _ _ us hl=>by obtain⟨_,rfl⟩:=eV hl;rfl) (λvs H Q E h=>?_) (λf cdv A outer s H vs Q E hr h=>?_)
 ·obtain⟨n,rfl,_⟩:=h
  rfl
 ·obtain⟨n,rfl,bn,q⟩:=h
  refine⟨_,(am (aB (ao aA (pv 0) (aQ eX (by rfl) T.z_abs iO (ad (pv 0) ak))))),?_⟩;exact⟨_,rfl,_,rfl,_,rfl,_,_,rfl,rfl,CM.b bn (bits_abs bn) (by decide) (by decide),q⟩
theorem DF:AQ ["whole","part","under"] ["whole","part","under"] (aq (top 13)):=smk
theorem ig(DK:Df K mg "sign_with_root" (top 13))(AY:Fn P w K mg base "sign_of" ["number"] 1 Dk)(A4:Fn P w K mg base "signed_square" ["number"] 1 Ex):Fn P w K mg base "sign_with_root" ["whole","part","under"] 2 Fh:=by
 refine DK.fn DF (λ_ _ _ _ _ _ us hl=>by obtain⟨_,_,_,rfl⟩:=iG hl;rfl) (λvs H Q E h=>?_) (λf cdv A outer s H vs Q E hr h=>?_)
 ·obtain⟨a,p,u,rfl,_⟩:=h
  rfl
 ·obtain⟨a,p,u,rfl,⟨ba,bp,bu⟩,q⟩:=h
  refine⟨_,(am (aB (aF AY (hr.mono (by decide)) (by rfl) (ad (ao aK (aF A4 (hr.mono (by decide)) (by rfl) (ad (pv 0) ak)) (ao aA (aF A4 (hr.mono (by decide)) (by rfl) (ad (pv 1) ak)) (pv 2))) ak)))),?_⟩;exact⟨_,rfl,a,rfl,ap ba (by decide),_,rfl,p,rfl,ap bp (by decide),_,rfl,_,_,rfl,rfl,CM.b (jD bp) bu (by decide) (by decide),_,_,rfl,rfl,_,rfl,q⟩
theorem BQ:AQ ["whole","part","under","share","below","roots","even"] ["whole","part","under","share","below"] (aq (top 14)):=smk
theorem gK(DB:Df K mg "sign_with_roots" (top 14))(AY:Fn P w K mg base "sign_of" ["number"] 1 Dk)(A4:Fn P w K mg base "signed_square" ["number"] 1 Ex)(BW:Fn P w K mg base "sign_with_root" ["whole","part","under"] 2 Fh):Fn P w K mg base "sign_with_roots" ["whole","part","under","share","below"] 3 Ew:=by
 refine DB.fn BQ (λ_ _ _ _ _ _ us hl=>by obtain⟨_,_,_,_,_,rfl⟩:=v7 hl;rfl) (λvs H Q E h=>?_) (λf cdv A outer s H vs Q E hr h=>?_)
 ·obtain⟨a,p,u,c,b,rfl,_⟩:=h
  rfl
 ·obtain⟨a,p,u,c,b,rfl,⟨ba,bp,bu,bc,bb⟩,q⟩:=h
  refine⟨_,(ag (ay (i:=5) BQ.nd rfl (Or.inl rfl) (aF AY (hr.mono (by decide)) (by rfl) (ad (ao aK (ao aA (aF A4 (hr.mono (by decide)) (by rfl) (ad (pv 1) ak)) (pv 2)) (ao aA (aF A4 (hr.mono (by decide)) (by rfl) (ad (pv 3) ak)) (pv 4))) ak))) (ag (aM (aE lC (ao aA (aF AY (hr.mono (by decide)) (by rfl) (ad (pv 0) ak)) (pv 5)) af (aH _)) (am (aB (aF AY (hr.mono (by decide)) (by rfl) (ad (ao aK (aF AY (hr.mono (by decide)) (by rfl) (ad (pv 0) ak)) (pv 5)) ak)))) aI) (ag (ay (i:=6) BQ.nd rfl (Or.inl rfl) (ao aL (ao aL (ao aA (pv 0) (pv 0)) (ao aA (ao aA (pv 1) (pv 1)) (pv 2))) (ao aA (ao aA (pv 3) (pv 3)) (pv 4)))) (am (aB (ao aA (aF AY (hr.mono (by decide)) (by rfl) (ad (pv 0) ak)) (aF BW (hr.mono (by decide)) (by rfl) (ad (pv 6) (ad (ao aA (ao aA (eJ dI af) (pv 1)) (pv 3)) (ad (ao aA (pv 2) (pv 4)) ak)))))))))),?_⟩;refine⟨_,rfl,p,rfl,ap bp (by decide),_,rfl,_,_,rfl,rfl,CM.b (jD bp) bu (by decide) (by decide),_,rfl,c,rfl,ap bc (by decide),_,rfl,_,_,rfl,rfl,CM.b (jD bc) bb (by decide) (by decide),_,_,rfl,rfl,_,rfl,?_⟩;unfold cI at q;refine⟨_,rfl,a,rfl,_,rfl,_,_,rfl,rfl,CM.b (jn _) (jn _) (by decide) (by decide),_,_,rfl,rfl,_,rfl,aT (λh1=>?_) (λh1=>?_)⟩
  ·rw[if_pos (by simpa using h1)]at q
   exact⟨_,rfl,a,rfl,_,rfl,_,_,rfl,rfl,_,rfl,q⟩
  ·rw[if_neg (by simpa using h1)]at q
   have m2:∀{i j:Int},ax i<=8000->ax j<=8000->ax (i*j)<=16000:=λhi hj=>bits_mul hi hj;have m3:∀{i j:Int},ax i<=16000->ax j<=8000->ax (i*j)<=24000:=λhi hj=>bits_mul hi hj;have cm:∀{i j:Int},ax i<=40000->ax j<=40000->CM i j:=λhi hj=>CM.b hi hj (by decide) (by decide);have w:∀{i:Int} {m:Nat},ax i<=m->m<=40000->ax i<=40000:=λh hm=>ap h hm;have ba':=w ba (by decide);have bp':=w bp (by decide);have bc':=w bc (by decide);have bu':=w bu (by decide);have bb':=w bb (by decide);refine⟨_,rfl,_,rfl,_,_,rfl,rfl,cm ba' ba',_,rfl,_,rfl,_,_,rfl,rfl,cm bp' bp',_,rfl,_,_,rfl,rfl,cm (w (m2 bp bp) (by decide)) bu',_,_,rfl,rfl,_,rfl,_,rfl,_,_,rfl,rfl,cm bc' bc',_,rfl,_,_,rfl,rfl,cm (w (m2 bc bc) (by decide)) bb',_,_,rfl,rfl,?_⟩;have b2:ax (-2:Int)<=8000:=ap (bT (by decide) (by decide)) (by decide);have be:ax (a*a - p*p*u - c*c*b)<=64000:=ap (aW (n:=24001) (aW (n:=24000) (ap (m2 ba ba) (by decide)) (m3 (m2 bp bp) bu)) (ap (m3 (m2 bc bc) bb) (by decide))) (by decide);refine⟨_,rfl,a,rfl,_,rfl,_,rfl,_,rfl,_,_,rfl,rfl,cm (w b2 (by decide)) bp',_,rfl,_,_,rfl,rfl,cm (w (m2 b2 bp) (by decide)) bc',_,rfl,_,rfl,_,_,rfl,rfl,cm bu' bb',_,_,_,rfl,⟨be,ap (m3 (m2 b2 bp) bc) (by decide),ap (m2 bu bb) (by decide)⟩,_,_,rfl,rfl,?_,q⟩;exact CM.l (by have:=jH a;exact xr (by omega) (by omega))
theorem Dv:AQ ["one","other","whole"] ["one","other"] (aq (top 15)):=smk
theorem yN(ES:Df K mg "root_order" (top 15))(BT:Fn P w K mg base "sign_with_roots" ["whole","part","under","share","below"] 3 Ew):Fn P w K mg base "root_order" ["one","other"] 4 (FT K):=by
 refine ES.fn Dv (λ_ _ _ _ _ _ us hl=>by obtain⟨_,_,rfl⟩:=dh hl;rfl) (λvs H Q E h=>?_) (λf cdv A outer s H vs Q E hr h=>?_)
 ·obtain⟨p,q,a0,a1,a2,a3,b0,b1,b2,b3,rfl,_⟩:=h
  rfl
 ·obtain⟨p,q,a0,a1,a2,a3,b0,b1,b2,b3,rfl,ra,rb,k⟩:=h
  have cm:∀{i j:Int},ax i<=3600->ax j<=3600->CM i j:=λhi hj=>CM.b hi hj (by decide) (by decide);have m2:∀{i j:Int},ax i<=3600->ax j<=3600->ax (i*j)<=7200:=λhi hj=>bits_mul hi hj;refine⟨_,(ag (ay (i:=2) Dv.nd rfl (Or.inl rfl) (ao aL (ao aA (az ar (pv 0) af (λ_ _=>rfl)) (az ar (pv 1) af (λ_ _=>rfl))) (ao aA (az ar (pv 1) af (λ_ _=>rfl)) (az ar (pv 0) af (λ_ _=>rfl))))) (am (aB (aF BT (hr.mono (by decide)) (by rfl) (ad (pv 2) (ad (ao aA (az ar (pv 0) af (λ_ _=>rfl)) (az ar (pv 1) af (λ_ _=>rfl))) (ad (az ar (pv 0) af (λ_ _=>rfl)) (ad (ao aA (eJ dI (az ar (pv 1) af (λ_ _=>rfl))) (az ar (pv 0) af (λ_ _=>rfl))) (ad (az ar (pv 1) af (λ_ _=>rfl)) ak))))))))),?_⟩;refine⟨_,rfl,p,_,_,_,rfl,rfl,ra.at_,rfl,_,rfl,q,_,_,_,rfl,rfl,rb.at_,rfl,_,_,rfl,rfl,cm ra.b0 rb.b3,_,rfl,q,_,_,_,rfl,rfl,rb.at_,rfl,_,rfl,p,_,_,_,rfl,rfl,ra.at_,rfl,_,_,rfl,rfl,cm rb.b0 ra.b3,_,_,rfl,rfl,?_⟩;refine⟨_,rfl,_,rfl,p,_,_,_,rfl,rfl,ra.at_,rfl,_,rfl,q,_,_,_,rfl,rfl,rb.at_,rfl,_,_,rfl,rfl,cm ra.b1 rb.b3,_,rfl,p,_,_,_,rfl,rfl,ra.at_,rfl,_,rfl,q,_,_,_,rfl,rfl,rb.at_,rfl,_,rfl,_,rfl,p,_,_,_,rfl,rfl,ra.at_,rfl,_,_,rfl,rfl,cm (bits_neg rb.b1) ra.b3,_,rfl,q,_,_,_,rfl,rfl,rb.at_,rfl,?_⟩;exact⟨_,_,_,_,_,rfl,⟨ap (aW (m2 ra.b0 rb.b3) (m2 rb.b0 ra.b3)) (by decide),ap (m2 ra.b1 rb.b3) (by decide),ap ra.b2 (by decide),ap (m2 (bits_neg rb.b1) ra.b3) (by decide),ap rb.b2 (by decide)⟩,k⟩
theorem kI(F:Fn P w K mg base "root_order" ["one","other"] 4 (FT K)):Fn P w K mg base "root_order" ["one","other"] 4 (Fi K):=by
 obtain⟨f,fd,o,h1,h2,h3,h4,h5⟩:=F.ex;refine⟨f,fd,o,h1,h2,h3,h4,h5.imp λvs H Q E h=>?_⟩;obtain⟨p,q,a0,a1,a2,a3,b0,b1,b2,b3,e,ra,rb,k⟩:=h;exact⟨p,q,a0,a1,a2,a3,b0,b1,b2,b3,e,⟨ra.at_,ap ra.b0 (by decide),ap ra.b1 (by decide),ap ra.b2 (by decide),ap ra.b3 (by decide)⟩,⟨rb.at_,ap rb.b0 (by decide),ap rb.b1 (by decide),ap rb.b2 (by decide),ap rb.b3 (by decide)⟩,k⟩
theorem yu{n f:Int}(hn:0<=n)(hf:0<f):n<((f+n / f) / 2+1)*((f+n / f) / 2+1)/\(n<f*f->(f+n / f) / 2<f)/\0<=(f+n / f) / 2:=by
 have q0:0<=n / f:=Int.ediv_nonneg hn (by omega);have q1:n<(n / f+1)*f:=Int.lt_ediv_add_one_mul_self n hf;refine⟨?_,λh=>?_,by omega⟩
 ·generalize eg:(f+n / f) / 2=g
  have h2:f+(n / f+1)<=2*(g+1):=by omega
  have s1:=bQ (x:=f+(n / f+1)) (y:=2*(g+1)) (by omega) h2;have e1:2*(g+1)*(2*(g+1))=4*((g+1)*(g+1)):=by grind
  have e2:(f+(n / f+1))*(f+(n / f+1))=4*((n / f+1)*f)+(f - (n / f+1))*(f - (n / f+1)):=by grind
  have e3:0<=(f - (n / f+1))*(f - (n / f+1)):=by
   rcases Int.le_total 0 (f - (n / f+1)) with g0|g0
   ·exact Int.mul_nonneg g0 g0
   ·exact Int.mul_nonneg_of_nonpos_of_nonpos g0 g0
  omega
 ·have:n / f<f:=Int.ediv_lt_of_lt_mul hf h
  omega
theorem oS{n:Int}(hn:0<=n):n<((1:Int)*2^((((ax n:Nat):Int)+1) / 2).toNat+1)*((1:Int)*2^((((ax n:Nat):Int)+1) / 2).toNat+1)/\0<(1:Int)*2^((((ax n:Nat):Int)+1) / 2).toNat:=by
 generalize ek:((((ax n:Nat):Int)+1) / 2).toNat=k;have hk:ax n<=k+k:=by omega
 have h1:=cQ hk;have hp:(0:Int)<2^k:=Int.pow_pos (by decide);have e1:((2:Int)^k)*2^k=((2^(k+k):Nat):Int):=by rw[<- Int.pow_add];norm_cast
 rw[Int.one_mul];refine⟨?_,hp⟩;have e2:((2:Int)^k+1)*(2^k+1)=2^k*2^k+2*2^k+1:=by grind
 have h2:n<((2^(k+k):Nat):Int):=by omega
 omega
inductive Ez (vs:List V) (H:Hp) (Q:VK) (x_3:XK):Prop
 | mk:∀n:Int,(vs = [.int n])->(0<=n)->(ax n<=15000)->(∀r:Int,BV 1 n r->Q (.int r) H)->Ez vs H Q x_3
theorem gT(x:Int):ssq (-x) = -ssq x:=by
 rcases Int.lt_trichotomy x 0 with h|h|h
 ·rw[dw h,cZ (x:=-x) (by omega)];grind
 ·subst h;rfl
 ·rw[cZ (x:=x) (by omega),dw (x:=-x) (by omega)];grind
theorem ix(w m u n l:Int):cI (-w) n l (-m) u = -cI w m u (-n) l:=by
 unfold cI swr;rw[gT m,gT n,db w,show ssq n*l + -ssq m*u = -(ssq m*u + -ssq n*l) by grind,db (ssq m*u + -ssq n*l),Int.neg_mul_neg,show -w * -w - n*n*l - -m * -m*u=w*w - m*m*u - -n * -n*l by grind,show -2*n * -m = -2*m * -n by grind,Int.mul_comm l u]
 by_cases g:sg w*sg (ssq m*u + -ssq n*l)>=0
 ·rw[if_pos g,if_pos g,show -sg w + -sg (ssq m*u + -ssq n*l) = -(sg w+sg (ssq m*u + -ssq n*l)) by omega,db]
 ·rw[if_neg g,if_neg g,Int.neg_mul]
theorem dN(a0 a1 a2 a3 b0 b1 b2 b3:Int):ro b0 b1 b2 b3 a0 a1 a2 a3=0 - ro a0 a1 a2 a3 b0 b1 b2 b3:=by
 unfold ro;have h:=ix (a0*b3 - b0*a3) (a1*b3) a2 (b1*a3) b2;rw[Int.neg_mul a1 b3,Int.neg_mul b1 a3,show b0*a3 - a0*b3 = -(a0*b3 - b0*a3) by omega,h];omega
theorem oZ{n:Int}(hn:0<=n)(h:ax n<=15000):ax ((1:Int)*2^((((ax n:Nat):Int)+1) / 2).toNat)<=7502:=by
 refine du ?_;generalize ek:((((ax n:Nat):Int)+1) / 2).toNat=k;have hk:k<=7501:=by omega
 rw[Int.one_mul,Int.natAbs_pow];show 2^k<2^7502;exact Nat.pow_lt_pow_right (by decide) (by omega)
theorem CC:AQ ["number","guess"] ["number"] (aq (top 16)):=smk
theorem kN(EY:Df K mg "floor_root" (top 16)):Fn P w K mg base "floor_root" ["number"] 1 Ez:=by
 refine EY.fn CC (λ_ _ _ _ _ _ us hl=>by obtain⟨_,rfl⟩:=eV hl;rfl) (λvs H Q E h=>?_) (λf cdv A outer s H vs Q E hr h=>?_)
 ·obtain⟨n,rfl,_⟩:=h
  rfl
 ·obtain⟨n,rfl,hn,bn,q⟩:=h
  refine⟨_,(ag (ay (i:=1) CC.nd rfl (Or.inl rfl) (ao tX af (ao cR (ao aK (o7 PySem.F.plainAttrs_int PySem.F.slot_int_bit_length PySem.F.type_int_bit_length rQ (pv 0)) af) af))) (ag (dS PassesOwn.never (aE lB (ao aA (pv 1) (pv 1)) (pv 0) (aH _)) (am (ay (i:=1) CC.nd rfl (Or.inl rfl) (ao cR (ao aK (pv 1) (ao cR (pv 0) (pv 1))) af)))) (am (aB (pv 1))))),?_⟩;have st:=oS hn;have sb:=oZ hn bn;refine⟨_,rfl,rfl,n,rfl,rfl,_,_,rfl,rfl,_,_,rfl,rfl,⟨by decide,by decide⟩,_,_,rfl,rfl,⟨Int.ediv_nonneg (by omega) (by decide),?_,by decide⟩,?_⟩
  ·show(((ax n:Nat):Int)+1) / 2<=1000000
   omega
  refine dQ (λσ H'=>∃f:Int,σ = [some (.int n),some (.int f)]/\H'=H/\0<=f/\n<(f+1)*(f+1)/\ax f<=7502)
   (λσ _=>match σ with | [_,some (.int f)]=>f.toNat|_=>0) ⟨_,rfl,rfl,by omega,st.1,sb⟩ ?_ ?_
  ·rintro σ H' ⟨f,rfl,rfl,hf,hlt,bf⟩
   refine⟨_,rfl,_,rfl,_,_,rfl,rfl,CM.b bf bf (by decide) (by decide),_,rfl,_,_,rfl,rfl,_,rfl,aT (λhc=>?_) (λhc=>?_)⟩
   ·have hc:n<f*f:=bP hc
    have hf0:0<f:=by
     rcases Int.lt_or_eq_of_le hf with h|h
     ·exact h
     ·rw[<- h]at hc;simp at hc;omega
    obtain⟨k1,k2,k3⟩:=yu hn hf0;refine⟨_,rfl,_,rfl,_,rfl,_,_,rfl,rfl,⟨hf0,ap bf (by decide)⟩,_,_,rfl,rfl,_,_,rfl,rfl,⟨by decide,by decide⟩,⟨(f+n / f) / 2,rfl,rfl,k3,k1,cT k3 (Int.le_of_lt (k2 hc)) bf⟩,?_⟩;have:=k2 hc;show((f+n / f) / 2).toNat<f.toNat;omega
   ·have hc:¬n<f*f:=bZ hc
    refine⟨_,rfl,q f ⟨hf,by omega,by omega⟩⟩
  ·rintro σ H' Q1 Q2 hq ⟨v,e,v2,e2,i,j,e3,e4,cm,v3,e5,i2,j2,e6,e7,k,ek,r⟩
   exact⟨v,e,v2,e2,i,j,e3,e4,cm,v3,e5,i2,j2,e6,e7,k,ek,hq _ _ r⟩
inductive FS (K:W.Frag) (vs:List V) (H:Hp) (Q:VK) (x_3:XK):Prop
 | mk:∀(p:Addr) (a0 a1 a2 a3 sc:Int) (n kk k2:Nat),(vs = [.ref p,.int sc])->(Rt K H p a0 a1 a2 a3)->((0<=a2/\0<a3))->((0<sc/\ax sc<=n))->((n<=4100/\ax a0<=kk/\ax a1<=kk/\ax a2<=2*k2/\kk<=450/\k2<=500))->(∀F,SF a0 a1 a2 a3 sc F->ax F<=n+kk+k2+5->Q (.int F) H)->FS K vs H Q x_3
inductive GB (K:W.Frag) (vs:List V) (H:Hp) (Q:VK) (x_3:XK):Prop
 | mk:∀(p:Addr) (a0 a1 a2 a3 sc:Int) (n kk k2:Nat),(vs = [.ref p,.int sc])->(Rt K H p a0 a1 a2 a3)->((0<=a2/\0<a3))->((0<sc/\ax sc<=n))->((n<=4100/\ax a0<=kk/\ax a1<=kk/\ax a2<=2*k2/\kk<=450/\k2<=500))->(∀F H',SF (-a0) (-a1) a2 a3 sc F->ax F<=n+kk+k2+5->Same H H'->Q (.int (-F - 1)) H')->GB K vs H Q x_3
theorem m8{n R:Int}{m:Nat}(r:BV 1 n R)(h:ax n<=2*m):ax R<=m+1:=by
 have h1:=cQ h;have lo:=r.lo;have nn:=r.nn;rw[Int.one_mul]at lo;refine du ?_;refine Classical.byContradiction λg=>?_;have g1:2^(m+1)<=R.natAbs:=by omega
 have g2:2^(m+1)*2^(m+1)<=R.natAbs*R.natAbs:=Nat.mul_le_mul g1 g1;have e1:R.natAbs*R.natAbs=(R*R).natAbs:=(Int.natAbs_mul R R).symm;have e2:(R*R).natAbs<=n.natAbs:=by have:=Int.mul_nonneg nn nn;omega
 have e3:2^(2*m)<=2^(m+1)*2^(m+1):=by rw[<- Nat.pow_add];exact Nat.pow_le_pow_right (by decide) (by omega)
 omega
theorem lO{x s:Int}{m:Nat}(hs:0<s)(h:ax x<=m):ax (x / s)<=m+1:=by
 have h1:=cQ h;refine du ?_;have e:(x / s).natAbs<=x.natAbs+1:=by
  have q1:=Int.ediv_mul_le x (show s≠0 by omega);have q2:=Int.lt_ediv_add_one_mul_self x hs;generalize x / s=q at *;rcases Int.lt_or_le q 0 with g|g
  ·have a1:q*s<=q*1:=by
    have:=Int.mul_le_mul_of_nonneg_left (show(1:Int)<=s by omega) (show 0<=-q by omega);have e1:-q*s = -(q*s):=by grind
    omega
   have e2:(q+1)*s=q*s+s:=by grind
   rcases Int.lt_or_le (q+1) 0 with g2|g2
   ·have a2:(q+1)*s<=(q+1)*1:=by
     have:=Int.mul_le_mul_of_nonneg_left (show(1:Int)<=s by omega) (show 0<=-(q+1) by omega);have e1:-(q+1)*s = -((q+1)*s):=by grind
     omega
    omega
   ·omega
  ·have a1:q*1<=q*s:=Int.mul_le_mul_of_nonneg_left (by omega) g
   omega
 have:2^(m+1)=2*2^m:=by rw[Nat.pow_succ];omega
 have p:0<2^m:=Nat.pow_pos (by decide);omega
theorem BR:AQ ["number","scale","under","root"] ["number","scale"] (aq (top 18)):=smk
theorem jc(Ee:Df K mg "scaled_floor" (top 18))(BH:Fn P w K mg base "floor_root" ["number"] 1 Ez):Fn P w K mg base "scaled_floor" ["number","scale"] 2 (FS K):=by
 refine Ee.fn BR (λ_ _ _ _ _ _ us hl=>by obtain⟨_,_,rfl⟩:=dh hl;rfl) (λvs H Q E h=>?_) (λf cdv A outer s H vs Q E hr h=>?_)
 ·obtain⟨p,a0,a1,a2,a3,sc,n,kk,k2,rfl,_⟩:=h
  rfl
 ·obtain⟨p,a0,a1,a2,a3,sc,n,kk,k2,rfl,r,⟨h2,h3⟩,⟨s0,sb⟩,⟨n1,c0,c1,c2,d1,d2⟩,q⟩:=h
  refine⟨_,(ag (ay (i:=2) BR.nd rfl (Or.inl rfl) (ao aA (ao aA (ao aA (ao aA (pv 1) (pv 1)) (az ar (pv 0) af (λ_ _=>rfl))) (az ar (pv 0) af (λ_ _=>rfl))) (az ar (pv 0) af (λ_ _=>rfl)))) (ag (ay (i:=3) BR.nd rfl (Or.inl rfl) (aF BH (hr.mono (by decide)) (by rfl) (ad (pv 2) ak))) (ag (aM (aE dG (az ar (pv 0) af (λ_ _=>rfl)) af (aH _)) (am (ay (i:=3) BR.nd rfl (Or.inl rfl) (fK (aE bR (ao aA (pv 3) (pv 3)) (pv 2) (aH _)) (eJ dI (pv 3)) (ao aL (eJ dI (pv 3)) af)))) aI) (am (aB (ao cR (ao aK (ao aA (pv 1) (az ar (pv 0) af (λ_ _=>rfl))) (pv 3)) (az ar (pv 0) af (λ_ _=>rfl)))))))),?_⟩;have m1:ax (sc*sc)<=n+n:=bits_mul sb sb;have m2:ax (sc*sc*a1)<=n+n+kk:=bits_mul m1 c1;have m3:ax (sc*sc*a1*a1)<=n+n+kk+kk:=bits_mul m2 c1;have m4:ax (sc*sc*a1*a1*a2)<=2*(n+kk+k2):=ap (bits_mul m3 c2) (by omega);have n4:0<=sc*sc*a1*a1*a2:=by
   have e:sc*sc*a1*a1=sc*a1*(sc*a1):=by grind
   rw[e];have:0<=sc*a1*(sc*a1):=by
    rcases Int.lt_or_le (sc*a1) 0 with g|g
    ·exact Int.mul_nonneg_of_nonpos_of_nonpos (by omega) (by omega)
    ·exact Int.mul_nonneg g g
   exact Int.mul_nonneg this h2
  refine⟨_,rfl,_,rfl,_,_,rfl,rfl,CM.of sb sb ⟨by omega,by omega⟩,_,rfl,p,_,_,_,rfl,rfl,r.at_,rfl,_,_,rfl,rfl,CM.of m1 r.b1 ⟨by omega,by decide⟩,_,rfl,p,_,_,_,rfl,rfl,r.at_,rfl,_,_,rfl,rfl,CM.of m2 r.b1 ⟨by omega,by decide⟩,_,rfl,p,_,_,_,rfl,rfl,r.at_,rfl,_,_,rfl,rfl,CM.of m3 r.b2 ⟨by omega,by decide⟩,?_⟩;refine⟨_,rfl,_,rfl,n4,ap m4 (by omega),λR hR=>?_⟩;have rb:ax R<=n+kk+k2+1:=m8 hR m4;have m5:ax (sc*a0)<=n+kk:=bits_mul sb c0;have fin:∀f:Int,f=flr a1 (sc*sc*a1*a1*a2) R->ax f<=n+kk+k2+2->ax ((sc*a0+f) / a3)<=n+kk+k2+5:=λf _ hf=>ap (lO h3 (bU (n:=n+kk+k2+2) (ap m5 (by omega)) hf)) (by omega);have end_:∀f:Int,f=flr a1 (sc*sc*a1*a1*a2) R->ax f<=n+kk+k2+2->Q (.int ((sc*a0+f) / a3)) H:=λf e hf=>q _ ⟨R,hR,by rw[<- e]⟩ (fin f e hf);refine⟨_,rfl,p,_,_,_,rfl,rfl,r.at_,rfl,_,_,rfl,rfl,_,rfl,aT (λe1=>?_) (λe1=>?_)⟩
  ·have e1:a1<0:=bP e1
   refine⟨_,rfl,_,rfl,_,_,rfl,rfl,CM.of rb rb ⟨by omega,by omega⟩,_,rfl,rfl,_,rfl,aT (λe2=>?_) (λe2=>?_)⟩
   ·have e2:R*R=sc*sc*a1*a1*a2:=by simpa using e2
    refine⟨_,rfl,_,rfl,_,rfl,_,rfl,p,_,_,_,rfl,rfl,r.at_,rfl,_,_,rfl,rfl,CM.of sb r.b0 ⟨by omega,by decide⟩,_,rfl,_,_,rfl,rfl,_,rfl,p,_,_,_,rfl,rfl,r.at_,rfl,_,_,rfl,rfl,⟨h3,ap r.b3 (by decide)⟩,end_ (-R) ?_ (ap (bits_neg rb) (by omega))⟩;unfold flr;rw[if_pos e1,if_pos e2]
   ·have e2:¬R*R=sc*sc*a1*a1*a2:=by simpa using e2
    refine⟨_,rfl,_,rfl,_,_,rfl,rfl,_,rfl,_,rfl,p,_,_,_,rfl,rfl,r.at_,rfl,_,_,rfl,rfl,CM.of sb r.b0 ⟨by omega,by decide⟩,_,rfl,_,_,rfl,rfl,_,rfl,p,_,_,_,rfl,rfl,r.at_,rfl,_,_,rfl,rfl,⟨h3,ap r.b3 (by decide)⟩,end_ (-R - 1) ?_ (aW (n:=n+kk+k2+1) (bits_neg rb) (ap (show ax 1<=1 by decide) (by omega)))⟩;unfold flr;rw[if_pos e1,if_neg e2]
  ·have e1:¬a1<0:=bZ e1
   refine⟨_,rfl,_,rfl,p,_,_,_,rfl,rfl,r.at_,rfl,_,_,rfl,rfl,CM.of sb r.b0 ⟨by omega,by decide⟩,_,rfl,_,_,rfl,rfl,_,rfl,p,_,_,_,rfl,rfl,r.at_,rfl,_,_,rfl,rfl,⟨h3,ap r.b3 (by decide)⟩,end_ R ?_ (ap rb (by omega))⟩;unfold flr;rw[if_neg e1]
theorem DQ:AQ ["number","scale","turned"] ["number","scale"] (aq (top 19)):=smk
theorem mM(Ff:Df K mg "below_all" (top 19))(Bi:Fn P w K mg base "scaled_floor" ["number","scale"] 2 (FS K)):Fn P w K mg base "below_all" ["number","scale"] 3 (GB K):=by
 refine Ff.fn DQ (λ_ _ _ _ _ _ us hl=>by obtain⟨_,_,rfl⟩:=dh hl;rfl) (λvs H Q E h=>?_) (λf cdv A outer s H vs Q E hr h=>?_)
 ·obtain⟨p,a0,a1,a2,a3,sc,n,kk,k2,rfl,_⟩:=h
  rfl
 ·obtain⟨p,a0,a1,a2,a3,sc,n,kk,k2,rfl,r,⟨h2,h3⟩,⟨s0,sb⟩,⟨n1,c0,c1,c2,d1,d2⟩,q⟩:=h
  refine⟨_,(ag (ay (i:=2) DQ.nd rfl (Or.inl rfl) (aG (ad (eJ dI (az ar (pv 0) af (λ_ _=>rfl))) (ad (eJ dI (az ar (pv 0) af (λ_ _=>rfl))) (ad (az ar (pv 0) af (λ_ _=>rfl)) (ad (az ar (pv 0) af (λ_ _=>rfl)) ak)))))) (am (aB (ao aL (eJ dI (aF Bi (hr.mono (by decide)) (by rfl) (ad (pv 2) (ad (pv 1) ak)))) af)))),?_⟩;refine⟨_,rfl,p,_,_,_,rfl,rfl,r.at_,rfl,_,rfl,_,rfl,p,_,_,_,rfl,rfl,r.at_,rfl,_,rfl,_,rfl,p,_,_,_,rfl,rfl,r.at_,rfl,_,rfl,p,_,_,_,rfl,rfl,r.at_,rfl,sz (by simp),λt H1 s1 f1 nn1=>?_⟩;exact⟨_,rfl,_,rfl,t,-a0,-a1,a2,a3,sc,n,kk,k2,rfl,⟨SqT.of f1,bits_neg r.b0,bits_neg r.b1,r.b2,r.b3⟩,⟨h2,h3⟩,⟨s0,sb⟩,⟨n1,bits_neg c0,bits_neg c1,c2,d1,d2⟩,λF hF hb=>⟨_,rfl,_,_,rfl,rfl,q F H1 hF hb s1⟩⟩
inductive Ev (vs:List V) (H:Hp) (Q:VK) (x_3:XK):Prop
 | mk:∀lo hi sc:Int,(vs = [.int lo,.int hi,.int sc])->((lo<hi/\ax lo<=6020/\ax hi<=6020))->((0<sc/\ax sc<=4100))->(∀(l:Addr) (ts:List Int) (n:Nat) (H':Hp),Same H H'->H' l=some (.lst (ts.map V.int))->sh n lo hi sc sc=some ts->ts.length<=8210->Q (.ref l) H')->Ev vs H Q x_3
theorem iF{x:Int}{n:Nat}(h:ax x<=n):x<2^n:=by
 have:=cQ h;have e:((2^n:Nat):Int)=2^n:=by norm_cast
 omega
theorem nW{x y:Int}{n:Nat}(h:2*x<y)(hy:y<2^n)(h0:0<x):∃m,n=m+1/\x<2^m:=by
 cases n with
 | zero=>simp at hy;omega
 | succ m =>
  refine⟨m,rfl,?_⟩;have:(2:Int)^(m+1)=2*2^m:=by rw[Int.pow_succ];omega
  omega
noncomputable def Far(lo hi b l sc:Int)(k:Nat):Prop:=(k=0/\b=sc/\l=sc)\/∃x y:Nat,hi<2^x/\lo<2^x/\b<2^y/\l<2^y/\b<lo/\l<hi/\k+x+y<=8205
theorem Far.len{lo hi b l sc:Int}{k:Nat}(h:Far lo hi b l sc k):k<=8205:=by
 rcases h with h|⟨x,y,h⟩ <;> omega
theorem Far.step{lo hi b l sc:Int}{k:Nat}(h:Far lo hi b l sc k)(sb:ax sc<=4100)(hb:0<b)(hl:0<l)(s:(0<hi - lo / b*l/\hi - lo / b*l<l)/\(0<lo - lo / b*b/\lo - lo / b*b<b)):Far l b (hi - lo / b*l) (lo - lo / b*b) sc (k+1):=by
 obtain⟨⟨s1,s2⟩,s3,s4⟩:=s;rcases h with⟨rfl,rfl,rfl⟩|⟨x,y,h1,h2,h3,h4,h5,h6,h7⟩
 ·have:=iF sb
  exact .inr ⟨4100,4100,this,this,by omega,by omega,s2,s4,by omega⟩
 ·have q1:1<=lo / b:=by
   have:=Int.ediv_le_ediv hb (show b<=lo by omega);rw[Int.ediv_self (by omega)]at this;exact this
  have e1:l*1<=lo / b*l:=by rw[Int.mul_comm (lo / b)];exact Int.mul_le_mul_of_nonneg_left q1 (by omega)
  have e2:b*1<=lo / b*b:=by rw[Int.mul_comm (lo / b)];exact Int.mul_le_mul_of_nonneg_left q1 (by omega)
  obtain⟨m,rfl,hm⟩:=nW (x:=hi - lo / b*l) (by omega) h1 s1;obtain⟨m',e,hm'⟩:=nW (x:=lo - lo / b*b) (by omega) h2 s3;have:m=m':=by omega
  subst this;exact .inr ⟨y,m,h3,h4,hm,hm',s2,s4,by omega⟩
theorem AW:AQ ["low","high","scale","terms","bottom","last","term","low_rest","high_rest"] ["low","high","scale"] (aq (top 20)):=smk
theorem jb(Ed:Df K mg "shared_terms" (top 20))(T:Txt mg):Fn P w K mg base "shared_terms" ["low","high","scale"] 1 Ev:=by
 refine Ed.fn AW (λ_ _ _ _ _ _ us hl=>by obtain⟨_,_,_,rfl⟩:=iG hl;rfl) (λvs H Q E h=>?_) (λf cdv A outer s H vs Q E hr h=>?_)
 ·obtain⟨lo,hi,sc,rfl,_⟩:=h
  rfl
 ·obtain⟨lo,hi,sc,rfl,⟨lh,bl,bh⟩,⟨s0,sb⟩,q⟩:=h
  refine⟨_,(ag (ay (i:=3) AW.nd rfl (Or.inl rfl) (bz ak)) (ag (ay (i:=4) AW.nd rfl (Or.inl rfl) (pv 2)) (ag (ay (i:=5) AW.nd rfl (Or.inl rfl) (pv 2)) (am (dS PassesOwn.never (de iT) (ag (ay (i:=6) AW.nd rfl (Or.inl rfl) (ao cR (pv 0) (pv 4))) (ag (aM (aE bR (ao aA (pv 6) (pv 4)) (pv 0) (aH _)) (ag (ce (eC PySem.F.plainAttrs_list PySem.F.slot_list_append PySem.F.type_list_append bO (pv 3) (ad (pv 6) ak))) (am (aB (pv 3)))) aI) (ag (aM (aE nI (ao aA (ao aK (pv 6) af) (pv 5)) (pv 1) (aH _)) (ag (ce (eC PySem.F.plainAttrs_list PySem.F.slot_list_append PySem.F.type_list_append bO (pv 3) (ad (ao aK (pv 6) af) ak))) (am (aB (pv 3)))) aI) (ag (ce (eC PySem.F.plainAttrs_list PySem.F.slot_list_append PySem.F.type_list_append bO (pv 3) (ad (pv 6) ak))) (ag (ay (i:=7) AW.nd rfl (Or.inl rfl) (ao aL (pv 0) (ao aA (pv 6) (pv 4)))) (ag (ay (i:=8) AW.nd rfl (Or.inl rfl) (ao aL (pv 1) (ao aA (pv 6) (pv 5)))) (ag (ay (i:=0) AW.nd rfl (Or.inl rfl) (pv 5)) (ag (ay (i:=1) AW.nd rfl (Or.inl rfl) (pv 4)) (ag (ay (i:=4) AW.nd rfl (Or.inl rfl) (pv 8)) (am (ay (i:=5) AW.nd rfl (Or.inl rfl) (pv 7))))))))))))))))),?_⟩;refine⟨sz (by simp),λp H1 s1 f1 n1=>⟨_,rfl,_,rfl,?_⟩⟩;refine dQ (λσ H'=>∃(x y b l:Int) (ts:List Int) (z6 z7 z8:Option V),σ = [some (.int x),some (.int y),some (.int sc),some (.ref p),some (.int b),some (.int l),z6,z7,z8]/\Same H H'/\H' p=some (.lst (ts.map V.int))/\(0<b/\b<=sc)/\(0<l/\l<=sc)/\x*l<y*b/\(ax x<=6020/\ax y<=6020)/\Far x y b l sc ts.length/\∀us n,sh n x y b l=some us->∃m,sh m lo hi sc sc=some (ts++us))
   (λσ _=>match σ with | [_,_,_,_,some (.int b),some (.int l),_,_,_]=>(b+l).toNat|_=>0) ⟨lo,hi,sc,sc,[],_,_,_,rfl,s1,f1,⟨s0,Int.le_refl _⟩,⟨s0,Int.le_refl _⟩,Int.mul_lt_mul_of_pos_right lh s0,⟨bl,bh⟩,.inl ⟨rfl,rfl,rfl⟩,λus n h=>⟨n,h⟩⟩ ?_ ?_
  ·rintro σ H' ⟨x,y,b,l,ts,z6,z7,z8,rfl,sm,ft,⟨b0,b1⟩,⟨l0,l1⟩,hd,⟨bx,by'⟩,far,tl⟩
   have bb:ax b<=4100:=cT (by omega) b1 sb;have bl':ax l<=4100:=cT (by omega) l1 sb;have bq:ax (x / b)<=6021:=lO b0 bx;have fl:=far.len;have sz3:∀c:Int,(ts.map V.int).length<sizeLine:=λ_=>by rw[sizeLine_eq,List.length_map];omega
   refine⟨_,rfl,cf rfl ?_⟩;refine⟨_,rfl,_,rfl,_,_,rfl,rfl,⟨b0,ap bb (by decide)⟩,?_⟩;refine⟨_,rfl,_,rfl,_,_,rfl,rfl,CM.of bq bb ⟨by decide,by decide⟩,_,rfl,rfl,_,rfl,aT (λc1=>?_) (λc1=>?_)⟩
   ·have c1:x / b*b=x:=by simpa using c1
    refine⟨_,rfl,.inl ⟨rfl,_,SqL.of ft⟩,_,rfl,p,_,_,rfl,rfl,ft,sz3 0,λH2 u2=>⟨_,rfl,?_⟩⟩;obtain⟨m,hm⟩:=tl [x / b] 1 (by unfold sh;rw[if_pos c1]);exact q p (ts++[x / b]) m H2 (u2.same sm n1) (by rw[u2.now,List.map_append];rfl) hm (by simp;omega)
   ·have c1:¬x / b*b=x:=by simpa using c1
    refine⟨_,rfl,_,_,rfl,rfl,_,rfl,_,_,rfl,rfl,CM.of (bU (n:=6021) bq (ap (show ax 1<=1 by decide) (by decide))) bl' ⟨by decide,by decide⟩,_,rfl,_,_,rfl,rfl,_,rfl,aT (λc2=>?_) (λc2=>?_)⟩
    ·have c2:(x / b+1)*l<=y:=bP c2
     refine⟨_,rfl,.inl ⟨rfl,_,SqL.of ft⟩,_,rfl,_,_,rfl,rfl,p,_,_,rfl,rfl,ft,sz3 0,λH2 u2=>⟨_,rfl,?_⟩⟩;obtain⟨m,hm⟩:=tl [x / b+1] 1 (by unfold sh;rw[if_neg c1,if_pos c2]);exact q p (ts++[x / b+1]) m H2 (u2.same sm n1) (by rw[u2.now,List.map_append];rfl) hm (by simp;omega)
    ·have c2:¬(x / b+1)*l<=y:=bZ c2
     obtain⟨st1,st2,st3⟩:=st b0 l0 hd c1 c2;refine⟨_,rfl,.inl ⟨rfl,_,SqL.of ft⟩,_,rfl,p,_,_,rfl,rfl,ft,sz3 0,λH2 u2=>?_⟩;refine⟨_,rfl,_,rfl,_,rfl,_,_,rfl,rfl,CM.of bq bb ⟨by decide,by decide⟩,_,_,rfl,rfl,?_⟩;refine⟨_,rfl,_,rfl,_,rfl,_,_,rfl,rfl,CM.of bq bl' ⟨by decide,by decide⟩,_,_,rfl,rfl,?_⟩;refine⟨_,rfl,_,rfl,_,rfl,_,rfl,⟨l,b,y - x / b*l,x - x / b*b,ts++[x / b],_,_,_,rfl,u2.same sm n1,by rw[u2.now,List.map_append];rfl,⟨st1.1,by omega⟩,⟨st2.1,by omega⟩,st3,⟨ap bl' (by decide),ap bb (by decide)⟩,by rw[List.length_append];exact far.step sb b0 l0 ⟨st1,st2⟩,λus n h=>?_⟩,?_⟩
     ·obtain⟨m,hm⟩:=tl (x / b::us) (n+1) (by unfold sh;rw[if_neg c1,if_neg c2,h];rfl)
      exact⟨m,by rw[List.append_assoc];exact hm⟩
     ·show(y - x / b*l+(x - x / b*b)).toNat<(b+l).toNat
      omega
  ·rintro σ H' Q1 Q2 hq ⟨k,e,r⟩
   exact⟨k,e,hq _ _ r⟩
inductive Hv (vs:List V) (H:Hp) (Q:VK) (x_3:XK):Prop
 | mk:∀(l:Addr) (ts:List Int) (N:Int) (n:Nat),(vs = [.ref l])->(H l=some (.lst (ts.map V.int)))->((0<ts.length/\ts.length<=8210))->(Bd N ts)->((ax N<=n/\n<=4490/\0<=N))->(∀(r:Addr) (t u:Int) (H':Hp),Same H H'->H' r=some (.tup [.int t,.int u])->CG (fr ts).1 (fr ts).2 t u->ax t<=n->ax u<=n->Q (.ref r) H')->Hv vs H Q x_3
theorem u5{xs:List V}(h:0<xs.length):kR xs none (some (-1))=xs.dropLast:=by
 unfold kR;rw[HT.sIx_none];have e:HT.sIx xs.length xs.length (some (-1))=xs.length - 1:=by
  unfold HT.sIx;simp;omega
 rw[e,List.dropLast_eq_take];simp
theorem jy{N x:Int}{n:Nat}(h:-N<=x/\x<=N)(hN:ax N<=n)(N0:0<=N):ax x<=n:=du (Nat.lt_of_le_of_lt (by omega:x.natAbs<=N.natAbs) (cQ hN))
theorem AZ:AQ ["terms","top","bottom","term","rest"] ["terms"] (aq (top 21)):=smk
theorem fS{C:Addr}(Di:Df K mg "fraction_of_terms" (top 21))(Ci:Fx P w K mg base "ratio" ["top","bottom"] 2 [.int 1] (C4 C))(T:Txt mg):Fn P w K mg base "fraction_of_terms" ["terms"] 3 Hv:=by
 refine Di.fn AZ (λ_ _ _ _ _ _ us hl=>by obtain⟨_,rfl⟩:=eV hl;rfl) (λvs H Q E h=>?_) (λf cdv A outer s H vs Q E hr h=>?_)
 ·obtain⟨l,ts,N,n,rfl,_⟩:=h
  rfl
 ·obtain⟨l,ts,N,n,rfl,hl,⟨t0,t1⟩,bd,⟨bN,n1,N0⟩,q⟩:=h
  refine⟨_,(ag (ay (i:=1) AZ.nd rfl (Or.inl rfl) (az aY (pv 0) (eJ dI af) (λ_ _=>rfl))) (ag (ay (i:=2) AZ.nd rfl (Or.inl rfl) af) (ag (cz PassesOwn.never rfl (ye rfl T.z_reversed (nj m7 (pv 0) qq (ma (eJ dI af)))) (aO (i:=3) AZ.nd rfl (Or.inl rfl)) (ag (ay (i:=4) AZ.nd rfl (Or.inl rfl) (pv 2)) (ag (ay (i:=2) AZ.nd rfl (Or.inl rfl) (pv 1)) (am (ay (i:=1) AZ.nd rfl (Or.inl rfl) (ao aK (ao aA (pv 3) (pv 1)) (pv 4))))))) (am (aB (fL Ci (hr.mono (by decide)) (by rfl) (ad (pv 1) (ad (pv 2) ak)))))))),?_⟩;obtain⟨ti,tl,rfl⟩:∃ti tl,ts=ti++[tl]:=by
   rcases List.eq_nil_or_concat ts with h|⟨a,b,h⟩
   ·rw[h]at t0
    simp at t0
   ·exact⟨a,b,by rw[h];simp⟩
  have len:(ti++[tl]).length=ti.length+1:=by simp
  have hlast:atI ((ti++[tl]).map V.int) (-1)=some (.int tl):=by
   rw[List.map_append];exact vf _ _
  have hcut:kR ((ti++[tl]).map V.int) none (some (-1))=ti.map V.int:=by
   rw[u5 (by rw[List.length_map,len];omega),List.map_append];simp
  refine⟨_,rfl,_,rfl,l,_,_,_,rfl,rfl,SqL.of hl,hlast,?_⟩;refine⟨_,rfl,_,rfl,_,rfl,l,_,rfl,SqL.of hl,λp H1 s1 f1 m1=>?_⟩;rw[hcut]at f1;have fl:(fr ((ti++[tl]).drop ti.length))=(tl,1):=by rw[List.drop_left];rfl
  refine⟨p,_,rfl,SqL.of f1,wA (K:=K) (a:=p) (xs:=ti.map V.int) (λi σ H'=>∃(x y:Int) (z3 z4:Option V),σ = [some (.ref l),some (.int x),some (.int y),z3,z4]/\H'=H1/\i<=ti.length/\fr ((ti++[tl]).drop (ti.length - i))=(x,y)) ⟨tl,1,_,_,rfl,rfl,Nat.zero_le _,by rw[Nat.sub_zero];exact fl⟩ ?_ ?_ ?_⟩
  ·rintro i σ H' hi ⟨x,y,z3,z4,rfl,rfl,h1,h2⟩
   exact SqL.of f1
  ·rintro i v σ H' hi hv ⟨x,y,z3,z4,rfl,rfl,h1,h2⟩
   rw[List.length_map]at hi hv;rw[List.getElem?_map]at hv;obtain⟨c,hc,rfl⟩:=Option.map_eq_some_iff.mp hv;have hj:ti.length - (i+1)<(ti++[tl]).length:=by rw[len];omega
   have hc':(ti++[tl])[ti.length - (i+1)]? = some c:=by
    rw[List.getElem?_append_left (by omega),<- hc]
    congr 1
    omega
   have e1:(ti++[tl]).drop (ti.length - (i+1))=c::(ti++[tl]).drop (ti.length - i):=by
    obtain⟨a1,a2⟩:=List.getElem?_eq_some_iff.mp hc';rw[List.drop_eq_getElem_cons a1,a2]
    congr 1
    congr 1
    omega
   have ne:(ti++[tl]).drop (ti.length - i)≠[]:=λz=>by
    have:=congrArg List.length z;rw[List.length_drop,len]at this;simp at this;omega
   have bt:=(bd.f (ti.length - i) (by rw[len];omega)).1;rw[h2]at bt;have bx:ax x<=n:=jy bt bN N0;have bc:ax c<=n:=jy (bd.c c (List.mem_of_getElem? hc')) bN N0;refine⟨_,rfl,_,rfl,_,rfl,_,rfl,_,_,rfl,rfl,CM.of bc bx ⟨by omega,by omega⟩,_,rfl,_,_,rfl,rfl,c*x+y,x,_,_,rfl,rfl,by omega,?_⟩;rw[e1,qN ne,h2]
  ·rintro σ H' ⟨x,y,z3,z4,rfl,rfl,h1,h2⟩
   rw[List.length_map,Nat.sub_self,List.drop_zero]at h2;have b0:=bd.f 0 (by omega);rw[List.drop_zero,h2]at b0;have bx:ax x<=n:=jy b0.1 bN N0;have by':ax y<=n:=jy ⟨by have:=b0.2.1;omega,b0.2.2⟩ bN N0;refine⟨_,rfl,_,rfl,x,y,n,rfl,⟨bx,by',by omega⟩,λz=>?_,λ_ r t u fr' c1 c2 nr=>?_⟩
   ·have:=b0.2.1
    have z:y=0:=z;omega
   ·rw[h2]at q
    exact q r t u _ (s1.trans (Same.new nr)) upd_same fr' c1 c2
theorem qm{K:W.Frag}{H H':Hp}{p:Addr}{a0 a1 a2 a3:Int}(r:Rt K H p a0 a1 a2 a3)(s:Same H H'):Rt K H' p a0 a1 a2 a3:=⟨sZ r.at_ s,r.b0,r.b1,r.b2,r.b3⟩
structure Ij(a0 a1 a2 a3 b0 b1 b2 b3:Int)(kk k2:Nat):Prop where
 a2n:0<=a2
 a3p:0<a3
 b2n:0<=b2
 b3p:0<b3
 x0:ax a0<=kk
 x1:ax a1<=kk
 x2:ax a2<=2*k2
 y0:ax b0<=kk
 y1:ax b1<=kk
 y2:ax b2<=2*k2
 hk:kk<=450
 h2:k2<=500
inductive Hu (K:W.Frag) (vs:List V) (H:Hp) (Q:VK) (x_3:XK):Prop
 | mk:∀(p q:Addr) (a0 a1 a2 a3 b0 b1 b2 b3:Int) (kk k2 J n:Nat),(vs = [.ref p,.ref q])->(Rt K H p a0 a1 a2 a3)->(Rt K H q b0 b1 b2 b3)->(Ij a0 a1 a2 a3 b0 b1 b2 b3 kk k2)->((2^J+1+kk+k2+8<=n/\n<=4490/\2^J<=4099))->((∀F G,Rm a0 a1 a2 a3 b0 b1 b2 b3 J F G->F+1+2<=-G - 1))->(∀(r:Addr) (t u:Int) (H':Hp),Same H H'->H' r=some (.tup [.int t,.int u])->Wi a0 a1 a2 a3 b0 b1 b2 b3 t u->ax t<=n->ax u<=n->Q (.ref r) H')->Hu K vs H Q x_3
theorem xW(i:Nat):(1:Int)*2^((2:Int)^i).toNat=scl i:=by
 have:((2:Int)^i).toNat=2^i:=by
  have e:((2^i:Nat):Int)=(2:Int)^i:=by norm_cast
  rw[<- e];exact Int.toNat_natCast _
 rw[this,Int.one_mul];rfl
theorem gW(i:Nat):ax (scl i)<=2^i+1:=by
 refine du ?_;unfold scl;rw[Int.natAbs_pow];exact Nat.pow_lt_pow_right (by decide) (by omega)
theorem jM(i:Nat):((2^i:Nat):Int)=(2:Int)^i:=by norm_cast
theorem A8:AQ ["one","other","bits","scale","low","high"] ["one","other"] (aq (top 22)):=smk
theorem gL(DC:Df K mg "fraction_within" (top 22))(Bi:Fn P w K mg base "scaled_floor" ["number","scale"] 2 (FS K))(Db:Fn P w K mg base "below_all" ["number","scale"] 3 (GB K))(BI:Fn P w K mg base "fraction_of_terms" ["terms"] 3 Hv)(Co:Fn P w K mg base "shared_terms" ["low","high","scale"] 1 Ev):Fn P w K mg base "fraction_within" ["one","other"] 4 (Hu K):=by
 refine DC.fn A8 (λ_ _ _ _ _ _ us hl=>by obtain⟨_,_,rfl⟩:=dh hl;rfl) (λvs H Q E h=>?_) (λf cdv A outer s H vs Q E hr h=>?_)
 ·obtain⟨p,q,a0,a1,a2,a3,b0,b1,b2,b3,kk,k2,J,n,rfl,_⟩:=h
  rfl
 ·obtain⟨p,q,a0,a1,a2,a3,b0,b1,b2,b3,kk,k2,J,n,rfl,rp,rq,tw,⟨j1,j2,j3⟩,top,k⟩:=h
  refine⟨_,(ag (ay (i:=2) A8.nd rfl (Or.inl rfl) af) (am (dS PassesOwn.never (de iT) (ag (ay (i:=3) A8.nd rfl (Or.inl rfl) (ao tX af (pv 2))) (ag (ay (i:=4) A8.nd rfl (Or.inl rfl) (ao aK (aF Bi (hr.mono (by decide)) (by rfl) (ad (pv 0) (ad (pv 3) ak))) af)) (ag (ay (i:=5) A8.nd rfl (Or.inl rfl) (aF Db (hr.mono (by decide)) (by rfl) (ad (pv 1) (ad (pv 3) ak)))) (ag (aM (aE nI (ao aK (pv 4) af) (pv 5) (aH _)) (am (aB (aF BI (hr.mono (by decide)) (by rfl) (ad (aF Co (hr.mono (by decide)) (by rfl) (ad (pv 4) (ad (pv 5) (ad (pv 3) ak)))) ak)))) aI) (am (ay (i:=2) A8.nd rfl (Or.inl rfl) (ao aA (pv 2) af)))))))))),?_⟩;refine dQ (λσ H'=>∃(i:Nat) (z3 z4 z5:Option V),σ = [some (.ref p),some (.ref q),some (.int (2^i)),z3,z4,z5]/\i<=J/\Same H H'/\∀i',i'<i->∀F' G',Rm a0 a1 a2 a3 b0 b1 b2 b3 i' F' G'->¬F'+1+2<=-G' - 1)
   (λσ _=>match σ with | [_,_,some (.int B),_,_,_]=>((2:Int)^J+1 - B).toNat|_=>0) ⟨0,_,_,_,rfl,Nat.zero_le _,Same.refl _,λi' h=>absurd h (by omega)⟩ ?_ ?_
  ·rintro σ H' ⟨i,z3,z4,z5,rfl,hi,sm,no⟩
   have pw:2^i<=2^J:=Nat.pow_le_pow_right (by decide) hi;have pi:0<2^i:=Nat.pow_pos (by decide);have pc:=jM i;have rp':=qm rp sm;have rq':=qm rq sm;refine⟨_,rfl,cf rfl ?_⟩;refine⟨_,rfl,_,_,rfl,rfl,⟨by omega,by show(2:Int)^i<=1000000;omega,by decide⟩,?_⟩;rw[xW];refine⟨_,rfl,_,rfl,p,a0,a1,a2,a3,scl i,2^i+1,kk,k2,rfl,rp',⟨tw.a2n,tw.a3p⟩,⟨dX i,gW i⟩,⟨by omega,tw.x0,tw.x1,tw.x2,tw.hk,tw.h2⟩,λF hF bF=>⟨_,_,rfl,rfl,?_⟩⟩;refine⟨_,rfl,_,rfl,q,b0,b1,b2,b3,scl i,2^i+1,kk,k2,rfl,rq',⟨tw.b2n,tw.b3p⟩,⟨dX i,gW i⟩,⟨by omega,tw.y0,tw.y1,tw.y2,tw.hk,tw.h2⟩,λG H1 hG bG s1=>?_⟩;refine⟨_,rfl,_,_,rfl,rfl,_,rfl,_,_,rfl,rfl,_,rfl,aT (λc1=>?_) (λc1=>?_)⟩
   ·have c1:F+1+2<=-G - 1:=bP c1
    have hk:=tw.hk;have h2:=tw.h2;have bl:ax (F+1)<=2^i+1+kk+k2+6:=bU bF (ap (show ax 1<=1 by decide) (by omega));have bh:ax (-G - 1)<=2^i+1+kk+k2+6:=aW (bits_neg bG) (ap (show ax 1<=1 by decide) (by omega));refine⟨_,rfl,_,rfl,_,rfl,F+1,-G - 1,scl i,rfl,⟨by omega,ap bl (by omega),ap bh (by omega)⟩,⟨dX i,ap (gW i) (by omega)⟩,λl ts m H2 s2 f2 hs ln=>?_⟩;have hd:(F+1)*scl i<(-G - 1)*scl i:=Int.mul_lt_mul_of_pos_right (by omega) (dX i);have e1:=iF bl;have e2:=iF bh;have e3:=iF (bits_neg bl);have e4:=iF (bits_neg bh);have e5:=iF (ap (n:=2^i+1+kk+k2+6) (gW i) (by omega));have bd:=xi (N:=2^(2^i+1+kk+k2+6)) (dX i) (dX i) hd ⟨by omega,by omega⟩ ⟨by omega,by omega⟩ (by omega) (by omega) hs;have ne:=(qk (dX i) (dX i) hd hs).1;have N0:(0:Int)<2^(2^i+1+kk+k2+6):=Int.pow_pos (by decide);have bN:ax ((2:Int)^(2^i+1+kk+k2+6)+1)<=n:=by
     refine ap (bU (n:=2^i+1+kk+k2+7) (du ?_) (ap (show ax 1<=1 by decide) (by omega))) (by omega);rw[Int.natAbs_pow];exact Nat.pow_lt_pow_right (by decide) (by omega)
    exact⟨l,ts,_,n,rfl,f2,⟨List.length_pos_iff.mpr ne,ln⟩,bd,⟨bN,j2,by omega⟩,λr t u H3 s3 f3 hf c2 c3=>k r t u H3 (sm.trans (s1.trans (s2.trans s3))) f3 ⟨i,F,G,ts,m,⟨hF,hG⟩,c1,no,hs,hf⟩ c2 c3⟩
   ·have c1:¬F+1+2<=-G - 1:=bZ c1
    have ij:i≠J:=λz=>by
     subst z;exact c1 (top F G ⟨hF,hG⟩)
    have pw2:2^(i+1)<=2^J:=Nat.pow_le_pow_right (by decide) (by omega);have pc2:=jM (i+1);have pcJ:=jM J;have e:(2:Int)^i*2=2^(i+1):=by rw[Int.pow_succ]
    refine⟨_,rfl,_,_,rfl,rfl,CM.r ⟨by decide,by decide⟩,?_⟩;rw[e];refine⟨⟨i+1,_,_,_,rfl,by omega,sm.trans s1,λi' h F' G' hR=>?_⟩,?_⟩
    ·rcases Nat.lt_or_eq_of_le (Nat.le_of_lt_succ h) with g|g
     ·exact no i' g F' G' hR
     ·subst g
      rw[hR.1.uniq hF,hR.2.uniq hG];exact c1
    ·show((2:Int)^J+1 - 2^(i+1)).toNat<((2:Int)^J+1 - 2^i).toNat
     omega
  ·rintro σ H' Q1 Q2 hq ⟨k,e,r⟩
   exact⟨k,e,hq _ _ r⟩
inductive Go (K:W.Frag) (C:Addr) (vs:List V) (H:Hp) (Q:VK) (E:XK):Prop
 | mk:∀(p:Addr) (a0 a1 a2 a3:Int),(vs = [.ref p])->(Rt K H p a0 a1 a2 a3)->((0<=a2/\0<a3))->(∀R,BV 1 (a1*a1*a2) R->(R*R≠a1*a1*a2->E (.ref C) none H) /\
 (R*R=a1*a1*a2->∀(r:Addr) (t u:Int) (H':Hp),Same H H'->H' r=some (.tup [.int t,.int u])->CG (a0+sg a1*R) a3 t u->ax t<=1500->ax u<=1500->Q (.ref r) H'))->Go K C vs H Q E
inductive GK (K:W.Frag) (C:Addr) (vs:List V) (H:Hp) (Q:VK) (E:XK):Prop
 | mk:∀(p q:Addr) (a0 a1 a2 a3 b0 b1 b2 b3:Int) (kk k2 J n:Nat),(vs = [.ref p,.ref q])->(Rt K H p a0 a1 a2 a3)->(Rt K H q b0 b1 b2 b3)->(Ij a0 a1 a2 a3 b0 b1 b2 b3 kk k2)->((2^J+1+kk+k2+8<=n/\n<=4490/\2^J<=4099))->((0<ro a0 a1 a2 a3 b0 b1 b2 b3->E (.ref C) none H))->((ro a0 a1 a2 a3 b0 b1 b2 b3=0->∀R,BV 1 (a1*a1*a2) R->(R*R≠a1*a1*a2->E (.ref C) none H)/\(R*R=a1*a1*a2->∀(r:Addr) (t u:Int) (H':Hp),Same H H'->H' r=some (.tup [.int t,.int u])->CG (a0+sg a1*R) a3 t u->ax t<=1500->ax u<=1500->Q (.ref r) H')))->((ro a0 a1 a2 a3 b0 b1 b2 b3<0->(∀F G,Rm a0 a1 a2 a3 b0 b1 b2 b3 J F G->F+1+2<=-G - 1)/\∀(r:Addr) (t u:Int) (H':Hp),Same H H'->H' r=some (.tup [.int t,.int u])->Wi a0 a1 a2 a3 b0 b1 b2 b3 t u->ax t<=n->ax u<=n->Q (.ref r) H'))->GK K C vs H Q E
theorem xR(x:Int):0<=x*x:=by
 rcases Int.lt_or_le x 0 with g|g
 ·exact Int.le_of_lt (Int.mul_pos_of_neg_of_neg g g)
 ·exact Int.mul_nonneg g g
theorem Cj:AQ ["number","under","root"] ["number"] (aq (top 17)):=smk
theorem jg{C:Addr}(Ei:Df K mg "own_fraction" (top 17))(BD:E8 K mg "NoRatio" C)(BH:Fn P w K mg base "floor_root" ["number"] 1 Ez)(AY:Fn P w K mg base "sign_of" ["number"] 1 Dk)(Ci:Fx P w K mg base "ratio" ["top","bottom"] 2 [.int 1] (C4 C)):Fx P w K mg base "own_fraction" ["number"] 3 [] (Go K C):=by
 refine Ei.fx Cj (λ_ _ _ _ _ _ us hl=>by obtain⟨_,rfl⟩:=eV hl;rfl) (λvs H Q E h=>?_) (λf cdv A outer s H vs Q E hr h=>?_)
 ·obtain⟨p,a0,a1,a2,a3,rfl,_⟩:=h
  rfl
 ·obtain⟨p,a0,a1,a2,a3,rfl,r,⟨h2,h3⟩,k⟩:=h
  refine⟨_,(ag (ay (i:=1) Cj.nd rfl (Or.inl rfl) (ao aA (ao aA (az ar (pv 0) af (λ_ _=>rfl)) (az ar (pv 0) af (λ_ _=>rfl))) (az ar (pv 0) af (λ_ _=>rfl)))) (ag (ay (i:=2) Cj.nd rfl (Or.inl rfl) (aF BH (hr.mono (by decide)) (by rfl) (ad (pv 1) ak))) (ag (aM (aE fM (ao aA (pv 2) (pv 2)) (pv 1) (aH _)) (am (g6 BD (by rfl))) aI) (am (aB (nu Ci (hr.mono (by decide)) (by rfl) (ad (ao aK (az ar (pv 0) af (λ_ _=>rfl)) (ao aA (aF AY (hr.mono (by decide)) (by rfl) (ad (az ar (pv 0) af (λ_ _=>rfl)) ak)) (pv 2))) (ad (az ar (pv 0) af (λ_ _=>rfl)) ak)))))))),?_⟩;have m1:ax (a1*a1)<=900:=bits_mul r.b1 r.b1;have m2:ax (a1*a1*a2)<=1900:=bits_mul m1 r.b2;have n2:0<=a1*a1*a2:=Int.mul_nonneg (xR a1) h2;refine⟨_,rfl,p,_,_,_,rfl,rfl,r.at_,rfl,_,rfl,p,_,_,_,rfl,rfl,r.at_,rfl,_,_,rfl,rfl,CM.of r.b1 r.b1 ⟨by decide,by decide⟩,_,rfl,p,_,_,_,rfl,rfl,r.at_,rfl,_,_,rfl,rfl,CM.of m1 r.b2 ⟨by decide,by decide⟩,?_⟩;refine⟨_,rfl,_,rfl,n2,ap m2 (by decide),λR hR=>?_⟩;obtain⟨k1,k2⟩:=k R hR;have rb:ax R<=951:=m8 hR m2;refine⟨_,rfl,_,rfl,_,_,rfl,rfl,CM.of rb rb ⟨by decide,by decide⟩,_,rfl,rfl,_,rfl,aT (λc=>?_) (λc=>?_)⟩
  ·exact k1 (by simpa using c)
  ·have c:R*R=a1*a1*a2:=by simpa using c
   refine⟨_,rfl,p,_,_,_,rfl,rfl,r.at_,rfl,_,rfl,p,_,_,_,rfl,rfl,r.at_,rfl,a1,rfl,_,rfl,_,_,rfl,rfl,CM.of (jn a1) rb ⟨by decide,by decide⟩,_,_,rfl,rfl,_,rfl,p,_,_,_,rfl,rfl,r.at_,rfl,_,_,1500,rfl,⟨ap (bU (n:=961) (ap r.b0 (by decide)) (bits_mul (jn a1) rb)) (by decide),ap r.b3 (by decide),by decide⟩,λz=>absurd z (by omega),λ_ p2 t u fr c1 c2 np=>k2 c p2 t u _ (Same.new np) upd_same fr c1 c2⟩
theorem C6:AQ ["one","other","order"] ["one","other"] (aq (top 23)):=smk
theorem jd{C:Addr}(Ef:Df K mg "root_between" (top 23))(BD:E8 K mg "NoRatio" C)(AT:Fn P w K mg base "root_order" ["one","other"] 4 (Fi K))(Cq:Fx P w K mg base "own_fraction" ["number"] 3 [] (Go K C))(BU:Fn P w K mg base "fraction_within" ["one","other"] 4 (Hu K)):Fx P w K mg base "root_between" ["one","other"] 5 [] (GK K C):=by
 refine Ef.fx C6 (λ_ _ _ _ _ _ us hl=>by obtain⟨_,_,rfl⟩:=dh hl;rfl) (λvs H Q E h=>?_) (λf cdv A outer s H vs Q E hr h=>?_)
 ·obtain⟨p,q,a0,a1,a2,a3,b0,b1,b2,b3,kk,kq,J,n,rfl,_⟩:=h
  rfl
 ·obtain⟨p,q,a0,a1,a2,a3,b0,b1,b2,b3,kk,kq,J,n,rfl,rp,rq,tw,j,k1,k2,k3⟩:=h
  refine⟨_,(ag (ay (i:=2) C6.nd rfl (Or.inl rfl) (aF AT (hr.mono (by decide)) (by rfl) (ad (pv 0) (ad (pv 1) ak)))) (ag (aM (aE lB (pv 2) af (aH _)) (am (g6 BD (by rfl))) aI) (ag (aM (aE bR (pv 2) af (aH _)) (am (aB (nu Cq (hr.mono (by decide)) (by rfl) (ad (pv 0) ak)))) aI) (am (aB (aF BU (hr.mono (by decide)) (by rfl) (ad (pv 0) (ad (pv 1) ak)))))))),?_⟩;refine⟨_,rfl,_,rfl,p,q,a0,a1,a2,a3,b0,b1,b2,b3,rfl,rp,rq,?_⟩;refine⟨_,rfl,_,_,rfl,rfl,_,rfl,aT (λc=>?_) (λc=>?_)⟩
  ·exact k1 (bP c)
  ·have c:¬0<ro a0 a1 a2 a3 b0 b1 b2 b3:=bZ c
   refine⟨_,rfl,rfl,_,rfl,aT (λd=>?_) (λd=>?_)⟩
   ·exact⟨_,rfl,p,a0,a1,a2,a3,rfl,rp,⟨tw.a2n,tw.a3p⟩,k2 (by simpa using d)⟩
   ·have d:¬ro a0 a1 a2 a3 b0 b1 b2 b3=0:=by simpa using d
    obtain⟨k4,k5⟩:=k3 (by omega);exact⟨_,rfl,_,rfl,p,q,a0,a1,a2,a3,b0,b1,b2,b3,kk,kq,J,n,rfl,rp,rq,tw,j,k4,k5⟩
theorem HJ:AQ ["a","b"] ["a","b"] (aq (top 8)):=smk
theorem wD{C:Addr}(HL:Df K mg "plus" (top 8))(Ci:Fx P w K mg base "ratio" ["top","bottom"] 2 [.int 1] (C4 C)):Fn P w K mg base "plus" ["a","b"] 3 (Gz (λa b c d=>a*d+c*b) (λa b c d=>b*d)):=by
 refine HL.fn HJ (λ_ _ _ _ _ _ us hl=>by obtain⟨_,_,rfl⟩:=dh hl;rfl) (λvs H Q E h=>?_) (λf cdv A outer s H vs Q E hr h=>?_)
 ·obtain⟨p,q,a,b,c,d,n,rfl,_⟩:=h
  rfl
 ·obtain⟨p,q,a,b,c,d,n,rfl,fp,fq,hn,hden,k⟩:=h
  have ep:=fp.at_;have eq:=fq.at_;have cm:∀{i j:Int},ax i<=n->ax j<=n->CM i j:=λhi hj=>CM.b hi hj (Nat.le_trans hn (by decide)) (Nat.le_trans hn (by decide));have fin:∀(r:Addr) (t u:Int),CG (a*d+c*b) (b*d) t u->ax t<=2*n+1->ax u<=2*n+1->H r=none->Q (.ref r) (upd H r (.tup [.int t,.int u])):=λr t u fr bt bu hr'=>by
   obtain⟨H1,e1,s1,f1⟩:=AJ (o:=.tup [.int t,.int u]) hr';rw[e1];exact k r t u H1 fr ⟨f1,fr.low,bt,bu⟩ s1
  refine⟨_,(am (aB (fL Ci (hr.mono (by decide)) (by rfl) (ad (ao aK (ao aA (az ar (pv 0) af (λ_ _=>rfl)) (az ar (pv 1) af (λ_ _=>rfl))) (ao aA (az ar (pv 1) af (λ_ _=>rfl)) (az ar (pv 0) af (λ_ _=>rfl)))) (ad (ao aA (az ar (pv 0) af (λ_ _=>rfl)) (az ar (pv 1) af (λ_ _=>rfl))) ak))))),?_⟩;refine⟨_,rfl,p,_,_,_,rfl,rfl,SqT.of ep,rfl,_,rfl,q,_,_,_,rfl,rfl,SqT.of eq,rfl,_,_,rfl,rfl,cm fp.ba fq.bb,_,rfl,q,_,_,_,rfl,rfl,SqT.of eq,rfl,_,rfl,p,_,_,_,rfl,rfl,SqT.of ep,rfl,_,_,rfl,rfl,cm fq.ba fp.bb,_,_,rfl,rfl,?_⟩;refine⟨_,rfl,p,_,_,_,rfl,rfl,SqT.of ep,rfl,_,rfl,q,_,_,_,rfl,rfl,SqT.of eq,rfl,_,_,rfl,rfl,cm fp.bb fq.bb,_,_,2*n+1,rfl,⟨ap (bU (n:=2*n) (ap (bits_mul fp.ba fq.bb) (by omega)) (ap (bits_mul fq.ba fp.bb) (by omega))) (by omega),ap (bits_mul fp.bb fq.bb) (by omega),by omega⟩,λz=>absurd z hden,λ_ r t u fr bt bu hr'=>fin r t u fr bt bu hr'⟩
theorem Ft:AQ ["thing"] ["thing"] (aq (top 9)):=smk
theorem ox(FI:Df K mg "is_ratio" (top 9))(By:Fn P w K mg base "is_whole" ["thing"] 1 DY)(Bc:Fn P w K mg base "common_divisor" ["one","other"] 1 FY)(T:Txt mg):Fn P w K mg base "is_ratio" ["thing"] 2 Gu:=by
 refine FI.fn Ft (λ_ _ _ _ _ _ us hl=>by obtain⟨_,rfl⟩:=eV hl;rfl) (λvs H Q E h=>?_) (λf cdv A outer s H vs Q E hr h=>?_)
 ·obtain⟨x,rfl,_⟩:=h
  rfl
 ·obtain⟨x,rfl,th,q⟩:=h
  obtain⟨t,k⟩:=th.kn;refine⟨_,(ag (aM (fw (gE (de (aQ fV (by rfl) T.z_isinstance eI (ad (pv 0) (ad (tQ T.z_tuple u9) ak))))) (fc (aE fM (aQ aS (by rfl) T.z_len cS (ad (pv 0) ak)) af (aH _)))).pt (am (aB iT)) aI) (ag (aM (fw (gE (de (aF By (hr.mono (by decide)) (by rfl) (ad (az ar (pv 0) af (λ_ _=>rfl)) ak)))) (fc (gE (de (aF By (hr.mono (by decide)) (by rfl) (ad (az ar (pv 0) af (λ_ _=>rfl)) ak)))))).pt (am (aB iT)) aI) (am (aB (mf (dO lC (az ar (pv 0) af (λ_ _=>rfl)) af (aH _)) (iC (dO bR (aF Bc (hr.mono (by decide)) (by rfl) (ad (az ar (pv 0) af (λ_ _=>rfl)) (ad (az ar (pv 0) af (λ_ _=>rfl)) ak))) af (aH _)))))))),?_⟩;refine⟨_,rfl,x,t,"tuple",rfl,k,.inr (.inr (.inl rfl)),_,rfl,?_⟩;rcases Kn.cases_tup k with⟨p,xs,rfl,e,rfl⟩|⟨hl,hs⟩
  ·-- a tuple
   rw[ut e]at q;refine jX ?_;refine⟨_,rfl,p,xs,rfl,.inr (SqT.of e),rfl,_,rfl,?_⟩;refine aT (λhc=>?_) (λhc=>?_)
   ·have hn:xs.length≠2:=by
     intro z;rw[z]at hc;exact absurd hc (by decide)
    rw[uy hn]at q;exact q
   ·have hn:xs.length=2:=by
     have z:(xs.length:Int)=2:=by simpa using hc
     omega
    match xs,hn,e,q with
    | [y,z],_,e,q =>
     obtain⟨ty,ky⟩:=th.parts p _ rfl e y (by simp);obtain⟨tz,kz⟩:=th.parts p _ rfl e z (by simp);refine⟨_,rfl,p,_,_,_,rfl,rfl,SqT.of e,rfl,y,ty,rfl,ky,_,rfl,?_⟩;rcases Kn.cases_int ky with⟨a,rfl,rfl⟩|⟨ny,ey⟩
     ·refine jX ?_
      refine⟨_,rfl,p,_,_,_,rfl,rfl,SqT.of e,rfl,z,tz,rfl,kz,_,rfl,?_⟩;rcases Kn.cases_int kz with⟨b,rfl,rfl⟩|⟨nz,ez⟩
      ·refine jX ?_
       refine⟨_,rfl,p,_,_,_,rfl,rfl,SqT.of e,rfl,b,1,rfl,rfl,_,rfl,?_⟩;have q':Q (.bl (lowB a b)) H:=q;unfold lowB at q';refine aT (λhc=>?_) (λhc=>?_)
       ·refine⟨_,rfl,p,_,_,_,rfl,rfl,SqT.of e,rfl,_,rfl,p,_,_,_,rfl,rfl,SqT.of e,rfl,a,b,rfl,rfl,?_⟩
        rw[hc,Bool.true_and]at q';have e1:decide (V.int (Int.gcd a b:Int)=V.int 1)=decide (Int.gcd a b=1):=by
         rw[Bool.eq_iff_iff];simp;omega
        rw[<- e1]at q';exact q'
       ·rw[hc,Bool.false_and]at q'
        exact q'
      ·rw[ez,ux nz]at *
       exact q
     ·rw[ey,uz ny]at *
      exact q
  ·rw[hs]
   rw[hl]at q;exact q
theorem F7:AQ ["line"] ["line"] (aq (top 32)):=smk
theorem pO(Gd:Df K mg "last_of" (top 32))(T:Txt mg):Fn P w K mg base "last_of" ["line"] 1 ED:=by
 refine Gd.fn F7 (λ_ _ _ _ _ _ us hl=>by obtain⟨_,rfl⟩:=eV hl;rfl) (λvs H Q E h=>?_) (λf cdv A outer s H vs Q E hr h=>?_)
 ·obtain⟨p,xs,rfl,_⟩:=h
  rfl
 ·obtain⟨p,xs,rfl,e,q⟩:=h
  exact⟨_,(am (aB (ao aL (aQ aS (by rfl) T.z_len cS (ad (pv 0) ak)) af))),_,rfl,p,xs,rfl,.inl (SqL.of e),_,_,rfl,rfl,q⟩
theorem Cw:AQ ["one","other","square","across","up"] ["one","other","square"] (aq (top 28)):=smk
theorem j5(Ep:Df K mg "leash_order" (top 28))(AY:Fn P w K mg base "sign_of" ["number"] 1 Dk):Fn P w K mg base "leash_order" ["one","other","square"] 2 GM:=by
 refine Ep.fn Cw (λ_ _ _ _ _ _ us hl=>by obtain⟨_,_,_,rfl⟩:=iG hl;rfl) (λvs H Q E h=>?_) (λf cdv A outer s H vs Q E hr h=>?_)
 ·obtain⟨p,q,r,x,y,x',y',a,b,rfl,_⟩:=h
  rfl
 ·obtain⟨p,q,r,x,y,x',y',a,b,rfl,⟨e1,b1,b2⟩,⟨e2,b3,b4⟩,⟨e3,b5,b6⟩,k⟩:=h
  refine⟨_,(ag (ay (i:=3) Cw.nd rfl (Or.inl rfl) (ao aL (az ar (pv 1) af (λ_ _=>rfl)) (az ar (pv 0) af (λ_ _=>rfl)))) (ag (ay (i:=4) Cw.nd rfl (Or.inl rfl) (ao aL (az ar (pv 1) af (λ_ _=>rfl)) (az ar (pv 0) af (λ_ _=>rfl)))) (am (aB (aF AY (hr.mono (by decide)) (by rfl) (ad (ao aL (az ar (pv 2) af (λ_ _=>rfl)) (ao aA (ao aK (ao aA (pv 3) (pv 3)) (ao aA (pv 4) (pv 4))) (az ar (pv 2) af (λ_ _=>rfl)))) ak)))))),?_⟩
  walk_at "rd"
  exact k
theorem Bm:AQ ["corner","begin","end","square","across","up","away_across","away_up","length","along","beside","under"] ["corner","begin","end","square"] (aq (top 29)):=smk
theorem nZ(Fw:Df K mg "reach_of" (top 29)):Fn P w K mg base "reach_of" ["corner","begin","end","square"] 1 EA:=by
 refine Fw.fn Bm (λ_ _ _ _ _ _ us hl=>by obtain⟨_,_,_,_,rfl⟩:=uA hl;rfl) (λvs H Q E h=>?_) (λf cdv A outer s H vs Q E hr h=>?_)
 ·obtain⟨pc,pb,pe,ps,cx,cy,bx,by_,ex,ey,a,b,rfl,_⟩:=h
  rfl
 ·obtain⟨pc,pb,pe,ps,cx,cy,bx,by_,ex,ey,a,b,rfl,⟨e1,b1,b2⟩,⟨e2,b3,b4⟩,⟨e3,b5,b6⟩,⟨e4,b7,b8⟩,k⟩:=h
  refine⟨_,(ag (ay (i:=4) Bm.nd rfl (Or.inl rfl) (ao aL (az ar (pv 2) af (λ_ _=>rfl)) (az ar (pv 1) af (λ_ _=>rfl)))) (ag (ay (i:=5) Bm.nd rfl (Or.inl rfl) (ao aL (az ar (pv 2) af (λ_ _=>rfl)) (az ar (pv 1) af (λ_ _=>rfl)))) (ag (ay (i:=6) Bm.nd rfl (Or.inl rfl) (ao aL (az ar (pv 0) af (λ_ _=>rfl)) (az ar (pv 1) af (λ_ _=>rfl)))) (ag (ay (i:=7) Bm.nd rfl (Or.inl rfl) (ao aL (az ar (pv 0) af (λ_ _=>rfl)) (az ar (pv 1) af (λ_ _=>rfl)))) (ag (ay (i:=8) Bm.nd rfl (Or.inl rfl) (ao aK (ao aA (pv 4) (pv 4)) (ao aA (pv 5) (pv 5)))) (ag (ay (i:=9) Bm.nd rfl (Or.inl rfl) (ao aK (ao aA (pv 6) (pv 4)) (ao aA (pv 7) (pv 5)))) (ag (ay (i:=10) Bm.nd rfl (Or.inl rfl) (ao aL (ao aA (pv 6) (pv 5)) (ao aA (pv 7) (pv 4)))) (ag (ay (i:=11) Bm.nd rfl (Or.inl rfl) (ao aA (az ar (pv 3) af (λ_ _=>rfl)) (ao aL (ao aA (az ar (pv 3) af (λ_ _=>rfl)) (pv 8)) (ao aA (ao aA (az ar (pv 3) af (λ_ _=>rfl)) (pv 10)) (pv 10))))) (am (aB (iB (ad (ao aA (pv 9) (az ar (pv 3) af (λ_ _=>rfl))) (ad (pv 11) (ad (ao aA (pv 8) (az ar (pv 3) af (λ_ _=>rfl))) ak)))))))))))))),?_⟩
  walk_at "rd"
  exact k _ _ (by assumption) (by assumption)
theorem DH:AQ ["square"] ["square"] (aq (top 27)):=smk
theorem ik{C:Addr}(DM:Df K mg "look_at_square" (top 27))(Dm:E8 K mg "NoSquare" C)(Dq:Fn P w K mg base "is_ratio" ["thing"] 2 Gu):Fx P w K mg base "look_at_square" ["square"] 3 [] (EC C):=by
 refine DM.fx DH (λ_ _ _ _ _ _ us hl=>by obtain⟨_,rfl⟩:=eV hl;rfl) (λvs H Q E h=>?_) (λf cdv A outer s H vs Q E hr h=>?_)
 ·obtain⟨x,rfl,_⟩:=h
  rfl
 ·obtain⟨x,rfl,th,k0,k1⟩:=h
  refine⟨_,(am (aM (fw (gE (de (aF Dq (hr.mono (by decide)) (by rfl) (ad (pv 0) ak)))) (fc (aE dG (az ar (pv 0) af (λ_ _=>rfl)) af (aH _)))).pt (am (g6 Dm (by rfl))) aI)),?_⟩;refine⟨_,rfl,x,rfl,th,_,rfl,?_⟩;cases hl:i8 H x with
  | false=>exact rY (k0 (vB hl))
  | true =>
   obtain⟨p,a,b,rfl,e,lw⟩:=uw hl;rw[vA e,xu lw,Bool.true_and]at k0 k1;refine jX ?_;refine⟨_,rfl,p,_,_,_,rfl,rfl,SqT.of e,rfl,_,_,rfl,rfl,_,rfl,aT (λh1=>?_) (λh1=>?_)⟩
   ·exact k0 (by rw[show decide (a<0)=true from h1];rfl)
   ·exact k1 (by rw[show decide (a<0)=false from h1];rfl)
noncomputable def Pw(K:W.Frag)(H':Hp)(v:V)(N e:Bool)(P U L:Int):Prop:=(v = .non/\N=true)\/(N=false/\∃(t l h:Addr) (ln hn:Int×Int×Int×Int),v = .ref t/\H' t=some (.tup [.ref l,.ref h])/\TpK K H' l [.int ln.1,.int ln.2.1,.int ln.2.2.1,.int ln.2.2.2]/\TpK K H' h [.int hn.1,.int hn.2.1,.int hn.2.2.1,.int hn.2.2.2]/\ln=(if e=true then (0,0,0,1) else eM P U L)/\hn=(if e=true then (1,0,0,1) else dA P U L))
inductive Gj (K:W.Frag) (vs:List V) (H:Hp) (Q:VK) (x_3:XK):Prop
 | mk:∀(pc pb pe ps:Addr) (cx cy bx by_ ex ey a b room:Int),(vs = [.ref pc,.ref pb,.ref pe,.ref ps,.int room])->(Cn H pc cx cy)->(Cn H pb bx by_)->(Cn H pe ex ey)->(Sq H ps a b)->(∀(v:V) (H':Hp),Same H H'->Pw K H' v (pwN cx cy bx by_ ex ey a b room) (decide ([bx,by_] = [ex,ey])) (rAl cx cy bx by_ ex ey*b) (rUn cx cy bx by_ ex ey a b) (cM bx by_ ex ey*b)->Q v H')->Gj K vs H Q x_3
theorem Br:AQ ["corner","begin","end","square","room","reach","low","high"] ["corner","begin","end","square","room"] (aq (top 30)):=smk
theorem j4{pB pE:Addr}(Eo:Df K mg "part_within" (top 30))(Cg:mg "BEGIN" = some (.ref pB))(Eu:mg "END" = some (.ref pE))(hB:∀H,SqT K H pB [.int 0,.int 0,.int 0,.int 1])(hE:∀H,SqT K H pE [.int 1,.int 0,.int 0,.int 1])(tB:∀H,TpK K H pB [.int 0,.int 0,.int 0,.int 1])(tE:∀H,TpK K H pE [.int 1,.int 0,.int 0,.int 1])
  (Bt:Fn P w K mg base "leash_order" ["one","other","square"] 2 GM) (Dn:Fn P w K mg base "reach_of" ["corner","begin","end","square"] 1 EA) (AY:Fn P w K mg base "sign_of" ["number"] 1 Dk) (AT:Fn P w K mg base "root_order" ["one","other"] 4 (Fi K)):Fn P w K mg base "part_within" ["corner","begin","end","square","room"] 5 (Gj K):=by
 refine Eo.fn Br (λ_ _ _ _ _ _ us hl=>by obtain⟨_,_,_,_,_,rfl⟩:=v7 hl;rfl) (λvs H Q E h=>?_) (λf cdv A outer s H vs Q E hr h=>?_)
 ·obtain⟨pc,pb,pe,ps,cx,cy,bx,by_,ex,ey,a,b,room,rfl,_⟩:=h
  rfl
 ·obtain⟨pc,pb,pe,ps,cx,cy,bx,by_,ex,ey,a,b,room,rfl,c1,c2,c3,c4,k⟩:=h
  refine⟨_,(ag (aM (aE (ym hr.units0) (pv 1) (pv 2) (aH _)) (am (aB (fK (aE lC (aF Bt (hr.mono (by decide)) (by rfl) (ad (pv 0) (ad (pv 1) (ad (pv 3) ak)))) (pv 4) (aH _)) (iB (ad (aX (v:=.ref _) (by rfl) Cg rfl) (ad (aX (v:=.ref _) (by rfl) Eu rfl) ak))) bJ))) aI) (ag (ay (i:=5) Br.nd rfl (Or.inl rfl) (aF Dn (hr.mono (by decide)) (by rfl) (ad (pv 0) (ad (pv 1) (ad (pv 2) (ad (pv 3) ak)))))) (ag (aM (aE dG (aF AY (hr.mono (by decide)) (by rfl) (ad (az ar (pv 5) af (λ_ _=>rfl)) ak)) (pv 4) (aH _)) (am (aB bJ)) aI) (ag (ay (i:=6) Br.nd rfl (Or.inl rfl) (iB (ad (az ar (pv 5) af (λ_ _=>rfl)) (ad (eJ dI af) (ad (az ar (pv 5) af (λ_ _=>rfl)) (ad (az ar (pv 5) af (λ_ _=>rfl)) ak)))))) (ag (ay (i:=7) Br.nd rfl (Or.inl rfl) (iB (ad (az ar (pv 5) af (λ_ _=>rfl)) (ad af (ad (az ar (pv 5) af (λ_ _=>rfl)) (ad (az ar (pv 5) af (λ_ _=>rfl)) ak)))))) (ag (aM (fw (aE dG (aF AT (hr.mono (by decide)) (by rfl) (ad (aX (v:=.ref _) (by rfl) Eu rfl) (ad (pv 6) ak))) (pv 4) (aH _)) (fc (aE dG (aF AT (hr.mono (by decide)) (by rfl) (ad (pv 7) (ad (aX (v:=.ref _) (by rfl) Cg rfl) ak))) (pv 4) (aH _)))).pt (am (aB bJ)) aI) (ag (aM (aE dG (aF AT (hr.mono (by decide)) (by rfl) (ad (pv 6) (ad (aX (v:=.ref _) (by rfl) Cg rfl) ak))) af (aH _)) (am (ay (i:=6) Br.nd rfl (Or.inl rfl) (aX (v:=.ref _) (by rfl) Cg rfl))) aI) (ag (aM (aE lB (aF AT (hr.mono (by decide)) (by rfl) (ad (pv 7) (ad (aX (v:=.ref _) (by rfl) Eu rfl) ak))) af (aH _)) (am (ay (i:=7) Br.nd rfl (Or.inl rfl) (aX (v:=.ref _) (by rfl) Eu rfl))) aI) (am (aB (iB (ad (pv 6) (ad (pv 7) ak))))))))))))),?_⟩;refine⟨_,rfl,_,rfl,pb,pe,[bx,by_],[ex,ey],rfl,rfl,SqT.of c2.at_,SqT.of c3.at_,_,rfl,aT (λh1=>?_) (λh1=>?_)⟩
  ·have hs:[bx,by_] = [ex,ey]:=bP h1
   refine⟨_,rfl,_,rfl,_,rfl,_,_,_,_,_,_,_,_,_,rfl,c1,c2,c4,_,rfl,_,_,rfl,rfl,_,rfl,aT (λh2=>?_) (λh2=>?_)⟩
   ·refine⟨Sp1.sz (by simp),alloc λp H1 s1 e1=>k _ _ s1 (.inr ⟨?_,p,pB,pE,(0,0,0,1),(1,0,0,1),rfl,e1,tB _,tE _,?_,?_⟩)⟩
    ·unfold pwN
     rw[if_pos hs];simp only[ge_iff_le]at h2 ⊢;rw[show decide (room<=lo cx cy bx by_ a b)=true from h2];rfl
    ·rw[decide_eq_true hs];rfl
    ·rw[decide_eq_true hs];rfl
   ·refine k _ _ Same.rfl' (.inl ⟨rfl,?_⟩)
    unfold pwN;rw[if_pos hs];rw[show decide (lo cx cy bx by_ a b>=room)=false from h2];rfl
  ·have hs:¬[bx,by_] = [ex,ey]:=bZ h1
   unfold pwN at k;rw[if_neg hs,decide_eq_false hs]at k;refine⟨_,rfl,_,rfl,_,rfl,_,rfl,_,_,_,_,_,_,_,_,_,_,_,_,rfl,c1,c2,c3,c4,λr H1 s1 e1=>?_⟩;obtain⟨_,b1,b2⟩:=c1;obtain⟨_,b3,b4⟩:=c2;obtain⟨_,b5,b6⟩:=c3;obtain⟨_,b7,b8⟩:=c4;have z1:ax (rAl cx cy bx by_ ex ey*b)<=450:=by unfold rAl;walk_at "bl"
   have z2:ax (rUn cx cy bx by_ ex ey a b)<=1000:=by unfold rUn cM rBe;walk_at "bl"
   have z3:ax (cM bx by_ ex ey*b)<=450:=by unfold cM;walk_at "bl"
   generalize rAl cx cy bx by_ ex ey*b=A0 at *;generalize rUn cx cy bx by_ ex ey a b=A1 at *;generalize cM bx by_ ex ey*b=A2 at *
   walk_at "rd"
   refine aT (λh2=>?_) (λh2=>?_)
   ·exact k _ _ s1 (.inl ⟨rfl,by rw[show decide (sg A1<room)=true from h2];rfl⟩)
   rw[show decide (sg A1<room)=false from h2,Bool.false_or]at k
   walk_at "rd"
   rename_i pl Hl sl el ph Hh sh eh;have r0:ax (0:Int)<=450:=by decide
   have r1:ax (1:Int)<=450:=by decide
   have r2:ax (-1:Int)<=450:=by decide
   have r0':ax (0:Int)<=1000:=by decide
   have RB:∀H,Rt K H pB 0 0 0 1:=λH=>⟨hB H,r0,r0,r0',r1⟩;have RE:∀H,Rt K H pE 1 0 0 1:=λH=>⟨hE H,r1,r0,r0',r1⟩;have RL:Rt K Hh pl A0 (-1) A1 A2:=⟨SqT.of (sh _ _ el),z1,r2,z2,z3⟩;have RH:Rt K Hh ph A0 1 A1 A2:=⟨SqT.of eh,z1,r1,z2,z3⟩;have sm:Same H Hh:=s1.trans (sl.trans sh);refine⟨_,_,_,_,_,_,_,_,_,_,rfl,RE _,RL,_,rfl,_,_,rfl,rfl,_,rfl,aT (λh3=>?_) (λh3=>?_)⟩
   ·refine k _ _ sm (.inl ⟨rfl,?_⟩)
    rw[show decide (ro 1 0 0 1 A0 (-1) A1 A2<room)=true from h3];rfl
   rw[show decide (ro 1 0 0 1 A0 (-1) A1 A2<room)=false from h3,Bool.false_or]at k;refine⟨_,rfl,_,_,_,_,_,_,_,_,_,_,rfl,RH,RB _,_,rfl,_,_,rfl,rfl,_,rfl,aT (λh4=>?_) (λh4=>?_)⟩
   ·exact k _ _ sm (.inl ⟨rfl,h4⟩)
   rw[show decide (ro A0 1 A1 A2 0 0 0 1<room)=false from h4]at k;have fin:∀(l h:Addr) (ln hn:Int×Int×Int×Int),(∀H1,Same Hh H1->TpK K H1 l [.int ln.1,.int ln.2.1,.int ln.2.2.1,.int ln.2.2.2])->(∀H1,Same Hh H1->TpK K H1 h [.int hn.1,.int hn.2.1,.int hn.2.2.1,.int hn.2.2.2])->ln=eM A0 A1 A2->hn=dA A0 A1 A2->(zt (zo (qd (Gf 6) (qd (Gf 7) xL)))) { nx:=λ_ H'=>Q .non H',rt:=Q } [some (.ref pc),some (.ref pb),some (.ref pe),some (.ref ps),some (.int room),some (.ref r),some (.ref l),some (.ref h)] Hh:=λl h ln hn hl hh e1 e2 =>
    ⟨_,rfl,_,rfl,Sp1.sz (by simp),alloc λp H1 s1 ep=>k _ _ (sm.trans s1) (.inr ⟨rfl,p,l,h,ln,hn,rfl,ep,hl _ s1,hh _ s1,e1,e2⟩)⟩
   have lT:ro A0 (-1) A1 A2 0 0 0 1<0->eM A0 A1 A2=(0,0,0,1):=λz=>by unfold eM;rw[if_pos z]
   have lF:¬ro A0 (-1) A1 A2 0 0 0 1<0->eM A0 A1 A2=(A0,-1,A1,A2):=λz=>by unfold eM;rw[if_neg z]
   have hT:ro A0 1 A1 A2 1 0 0 1>0->dA A0 A1 A2=(1,0,0,1):=λz=>by unfold dA;rw[if_pos z]
   have hF:¬ro A0 1 A1 A2 1 0 0 1>0->dA A0 A1 A2=(A0,1,A1,A2):=λz=>by unfold dA;rw[if_neg z]
   have tl:∀H1,Same Hh H1->TpK K H1 pl [.int A0,.int (-1),.int A1,.int A2]:=λH1 s=>.inl (s _ _ (sh _ _ el));have th:∀H1,Same Hh H1->TpK K H1 ph [.int A0,.int 1,.int A1,.int A2]:=λH1 s=>.inl (s _ _ eh);refine⟨_,rfl,_,_,_,_,_,_,_,_,_,_,rfl,RL,RB _,_,_,rfl,rfl,_,rfl,aT (λh5=>?_) (λh5=>?_)⟩
   ·refine⟨_,rfl,_,_,_,_,_,_,_,_,_,_,rfl,RH,RE _,_,_,rfl,rfl,_,rfl,aT (λh6=>?_) (λh6=>?_)⟩
    ·exact fin pB pE (0,0,0,1) (1,0,0,1) (λH1 _=>tB H1) (λH1 _=>tE H1) (lT (bP h5)).symm (hT (bP h6)).symm
    ·exact fin pB ph (0,0,0,1) (A0,1,A1,A2) (λH1 _=>tB H1) th (lT (bP h5)).symm (hF (bZ h6)).symm
   ·refine⟨_,rfl,_,_,_,_,_,_,_,_,_,_,rfl,RH,RE _,_,_,rfl,rfl,_,rfl,aT (λh6=>?_) (λh6=>?_)⟩
    ·exact fin pl pE (A0,-1,A1,A2) (1,0,0,1) tl (λH1 _=>tE H1) (lF (bZ h5)).symm (hT (bP h6)).symm
    ·exact fin pl ph (A0,-1,A1,A2) (A0,1,A1,A2) tl th (lF (bZ h5)).symm (hF (bZ h6)).symm
theorem Du:AQ ["came","spot","row","ahead"] ["came","spot"] (aq (top 48)):=smk
theorem sy(GI:Df K mg "row_to" (top 48))(T:Txt mg):Fn P w K mg base "row_to" ["came","spot"] 1 (Ey K):=by
 refine GI.fn Du (λ_ _ _ _ _ _ us hl=>by obtain⟨_,_,rfl⟩:=dh hl;rfl) (λvs H Q E h=>?_) (λf cdv A outer s H vs Q E hr h=>?_)
 ·obtain⟨d,sv,es,i,e,rfl,_⟩:=h
  rfl
 ·obtain⟨d,sv,es,i,e,rfl,cm,tr,he,hsv,hl,q⟩:=h
  refine⟨_,(ag (ay (i:=2) Du.nd rfl (Or.inl rfl) (bz ak)) (ag (dS PassesOwn.never (aE gb (pv 1) bJ (aH _)) (ag (ay (i:=3) Du.nd rfl (Or.inl rfl) (dn (cH hr) (pv 0) (pv 1) (λ_ _=>rfl))) (ag (ce (eC PySem.F.plainAttrs_list PySem.F.slot_list_append PySem.F.type_list_append bO (pv 2) (ad (aG (ad (pv 1) (ad (az ar (pv 3) af (λ_ _=>rfl)) ak))) ak))) (am (ay (i:=1) Du.nd rfl (Or.inl rfl) (az ar (pv 3) af (λ_ _=>rfl))))))) (ag (ce (o7 PySem.F.plainAttrs_list PySem.F.slot_list_reverse PySem.F.type_list_reverse iU (pv 2))) (am (aB (pv 2)))))),?_⟩;refine⟨sz (by simp),λr H1 s1 f1 n1=>?_⟩;have CM':∀{H':Hp},Same H H'->∃kvs,H' d=some (.dT kvs)/\Paired (Ent K H' es) es kvs:=λ{H'} s'=>by
   obtain⟨kvs,e1,e2⟩:=cm;exact⟨kvs,s' _ _ e1,Paired.mapP e2 λa b x=>x.mono s'.t λ_ _ h=>h⟩
  refine dQ (λσ H'=>∃(cur:Option Nat) (cv:V) (done:List (aJ×Lb)) (vs:List V) (av:Option V),σ = [some (.ref d),some cv,some (.ref r),av]/\Same H H'/\H' r=some (.lst vs)/\Paired (λ(e:aJ×Lb) v=>∃t sv hv,v = .ref t/\H' t=some (.tup [sv,hv])/\bW H' sv e.1/\jk K H' hv e.2) done vs/\pW es cur i done /\
    (cur=none->cv = .non)/\(∀j,cur=some j->∃e,es[j]? = some e/\bW H' cv e.1/\done.length+j+1<=es.length)/\done.length<=es.length)
   (λ_ H'=>match H' r with|some (.lst vs)=>es.length - vs.length|_=>0) ⟨some i,sv,[],[],_,rfl,s1,f1,.nil,pW.begin,(λz=>nomatch z),(λj z=>by cases z;exact⟨e,he,hsv.mono s1.t,by have:=(List.getElem?_eq_some_iff.mp he).1;simp;omega⟩),Nat.zero_le _⟩ ?_ ?_
  ·rintro σ H2 ⟨cur,cv,done,vs,av,rfl,s2,f2,pr,lf,c0,c1,dl⟩
   refine⟨_,rfl,rfl,_,rfl,?_⟩;cases cur with
   | none =>
    rw[c0 rfl];refine jX ?_;refine⟨_,rfl,.inl ⟨rfl,_,SqL.of f2⟩,r,_,rfl,rfl,f2,λH3 u=>?_⟩;refine⟨_,rfl,?_⟩;have s3:Same H H3:=λb o eb=>u.at (λz=>by rw[z,n1]at eb;cases eb) (s2 b o eb);refine q r H3 done.reverse s3 (by simpa using lf [] rfl) (by simpa using dl) ⟨_,u.now,?_⟩;exact jP (Paired.mapP pr λa b ⟨t,sv,hv,x1,x2,x3,x4⟩=>⟨t,sv,hv,x1,u.t _ _ x2,x3.mono u.t,x4.mono u.t⟩)
   | some j =>
    obtain⟨e,he,hs,hj⟩:=c1 j rfl;obtain⟨p,rfl,hp⟩:=hs;refine rY ?_;obtain⟨kvs,kd,kp⟩:=CM' s2;obtain⟨kv,hkv,ke,t,pv,hvv,kt,ht,lbv,h0,h1⟩:=o8 kp j e he;have nd:(kvs.map (·.1)).Nodup:=by rw[mC kp];exact tr.nd
    have vv:=vk nd hkv;rw[ke,kt]at vv;have dg:=fW.t kd hp;rw[vv]at dg;refine⟨_,rfl,_,rfl,d,_,rfl,dg,?_⟩;refine⟨_,rfl,.inl ⟨rfl,_,SqL.of f2⟩,_,rfl,_,rfl,t,_,_,_,rfl,rfl,SqT.of ht,rfl,sz (by simp),λx H3 s3 f3 n3=>?_⟩;have lv:=Paired.length pr;refine⟨r,_,_,rfl,rfl,s3 _ _ f2,aZ (by omega),λH4 u=>?_⟩;have s4:Same H H4:=λb o eb=>u.at (λz=>by rw[z,n1]at eb;cases eb) (s3 _ _ (s2 b o eb));have t4:=s3.t.trans u.t;refine⟨_,rfl,t,_,_,_,rfl,rfl,SqT.of (t4 _ _ ht),rfl,?_⟩;refine⟨⟨e.2.1,pv,done++[(e.1,e.2.2)],_,_,rfl,s4,u.now,Paired.snoc (Paired.mapP pr λa b ⟨t,sv,hv,x1,x2,x3,x4⟩=>⟨t,sv,hv,x1,t4 _ _ x2,x3.mono t4,x4.mono t4⟩) ⟨x,.ref p,hvv,rfl,u.t _ _ f3,⟨p,rfl,t4 _ _ hp⟩,lbv.mono t4⟩,lf.up he,h0,λj' hj'=>?_,?_⟩,?_⟩
    ·obtain⟨e',g1,g2⟩:=h1 j' hj'
     have:=tr.up j e j' he hj';refine⟨e',g1,g2.mono t4,?_⟩;rw[List.length_append,List.length_singleton];omega
    ·rw[List.length_append,List.length_singleton]
     omega
    ·show(match H4 r with|some (.lst vs)=>es.length - vs.length|_=>0)<(match H2 r with|some (.lst vs)=>es.length - vs.length|_=>0)
     rw[u.now,f2];show es.length - (vs++[V.ref x]).length<es.length - vs.length;rw[List.length_append,List.length_singleton];omega
  ·rintro σ H' Q1 Q2 hq ⟨v,e,hs,k,ek,r⟩
   exact⟨v,e,hs,k,ek,hq _ _ r⟩
inductive Ik (K:W.Frag) (b f1 f2 d r:Addr) (bs U:List aJ) (stp:aJ->List (aJ×Lb)) (fin:aJ->Bool) (H:Hp) (σ:St) (H':Hp):Prop
 | mk (es:List En) (n:Nat) (spv stv:Option V) (rvs:List V) (e:σ = [some (.ref b),some (.ref f1),some (.ref f2),some (.ref d),spv,some (.ref r),some (.int (n:Int)),stv]) (s:Same H H') (c:iR K H' d es) (f:H' r=some (.lst rvs)) (p:Paired (λ(e:En) v=>bW H' v e.1) es rvs) (g:Cl bs U stp fin es n) (q:es=dM bs stp n):Ik K b f1 f2 d r bs U stp fin H σ H'
theorem C5:AQ ["begins","steps_from","is_end","came","spot","row","number","step"] ["begins","steps_from","is_end"] (aq (top 49)):=smk
theorem wC(HK:Df K mg "seek" (top 49))(Eb:Fn P w K mg base "row_to" ["came","spot"] 1 (Ey K))(T:Txt mg):Fn P w K mg base "seek" ["begins","steps_from","is_end"] 10 (tj P w K mg base 8):=by
 refine HK.fn C5 (λ_ _ _ _ _ _ us hl=>by obtain⟨_,_,_,rfl⟩:=iG hl;rfl) (λvs H Q E h=>?_) (λf cdv A outer s H vs Q E hr h=>?_)
 ·obtain⟨b,f1,f2,bvs,bs,U,stp,fin,rfl,_⟩:=h
  rfl
 ·obtain⟨b,f1,f2,bvs,bs,U,stp,fin,rfl,hb,pb,nd,hU,hul,F,q0,q1⟩:=h
  refine⟨_,(ag (ay (i:=3) C5.nd rfl (Or.inl rfl) g7) (ag (cz PassesOwn.never rfl (fg (pv 0)) (aO (i:=4) C5.nd rfl (Or.inl rfl)) (am (dY (cH hr) (pv 3) (pv 4) (aG (ad bJ (ad bJ ak))) rfl))) (ag (ay (i:=5) C5.nd rfl (Or.inl rfl) (iD kS (by rfl) T.z_list wL (ad (pv 0) ak))) (ag (ay (i:=6) C5.nd rfl (Or.inl rfl) af) (ag (dS PassesOwn.never (aE dG (pv 6) (aQ aS (by rfl) T.z_len cS (ad (pv 5) ak)) (aH _)) (ag (ay (i:=4) C5.nd rfl (Or.inl rfl) (az aY (pv 5) (pv 6) (λ_ _=>rfl))) (ag (aM (de (nw (k:=8) (i:=2) (hr.mono (by decide)) rfl (Or.inl rfl) (ad (pv 4) ak))) (am (aB (aF Eb (hr.mono (by decide)) (by rfl) (ad (pv 3) (ad (pv 4) ak))))) aI) (ag (cz PassesOwn.never rfl (fg (nw (k:=8) (i:=1) (hr.mono (by decide)) rfl (Or.inl rfl) (ad (pv 4) ak))) (aO (i:=7) C5.nd rfl (Or.inl rfl)) (am (aM (iz (lu (cH hr) (az ar (pv 7) af (λ_ _=>rfl)) (pv 3)) (by rfl)) (ag (dY (cH hr) (pv 3) (az ar (pv 7) af (λ_ _=>rfl)) (aG (ad (pv 4) (ad (az ar (pv 7) af (λ_ _=>rfl)) ak))) rfl) (am (ce (eC PySem.F.plainAttrs_list PySem.F.slot_list_append PySem.F.type_list_append bO (pv 5) (ad (az ar (pv 7) af (λ_ _=>rfl)) ak))))) aI))) (am (yc (i:=6) C5.nd rfl (Or.inl rfl) af yH)))))) (am (aB bJ))))))),?_⟩;obtain⟨sp1,i1,c1⟩:=F.c1;obtain⟨sp2,i2,c2⟩:=F.c2;have FO:∀{f:Addr} {H':Hp},pX H f->Same H H'->pX H' f:=λ{f H'} ⟨o,fd,e,d⟩ s=>⟨o,fd,s _ _ e,d⟩;have bl:=Paired.length pb;refine λd hd=>?_;have s1:Same H (upd H d (.dT [])):=Same.new hd;refine⟨_,rfl,b,rfl,⟨_,SqL.of (s1 _ _ hb)⟩,fR (K:=K) (xs:=bvs) (λi σ H'=>∃spv,σ = [some (.ref b),some (.ref f1),some (.ref f2),some (.ref d),spv,none,none,none]/\Same H H'/\iR K H' d ((bs.take i).map λs=>(s,none,.no))) ⟨_,rfl,s1,[],upd_same,.nil⟩ ?_ ?_ ?_⟩
  ·rintro i σ H' hi ⟨spv,rfl,s',_⟩
   exact SqL.of (s' _ _ hb)
  ·rintro i x σ H' hx ⟨spv,rfl,s',cm⟩
   obtain⟨s,hs,p,rfl,hp⟩:=dz pb i x hx;refine⟨sz (by simp),λt H2 s2 f2 n2=>⟨_,rfl,_,rfl,?_⟩⟩;have hns:s∉(((bs.take i).map λs=>((s,none,.no):En)).map (·.1)):=by
    rw[List.map_map];show s∉(bs.take i).map id;rw[List.map_id];intro z;obtain⟨j,hj⟩:=List.getElem?_of_mem z;have ⟨j1,j2⟩:=List.getElem?_eq_some_iff.mp hj;rw[List.length_take]at j1;rw[List.getElem?_take_of_lt (by omega)]at hj;have:=rO nd hs hj;omega
   have hlb:=lD nd hU;obtain⟨H3,dp,cm3,t3,o3⟩:=(cm.mono s2).add (s:=s) (pj:=none) (s2 _ _ (s' _ _ hp)) f2 (h:=.no) rfl hns (λ_=>rfl) (λj z=>nomatch z) (by simp;omega)
   have s3:Same H H3:=λx o e=>by
    rw[o3 x (λz=>by rw[z,hd]at e;cases e)];exact s2 _ _ (s' _ _ e)
   refine⟨d,H3,rfl,dp,_,rfl,s3,?_⟩;rw[List.take_add_one,hs,List.map_append];exact cm3
  ·rintro σ H2 ⟨spv,rfl,s2,cm⟩
   rw[List.take_of_length_le (by omega)]at cm;refine⟨_,rfl,b,_,rfl,.inl (SqL.of (s2 _ _ hb)),λr H3 s3 f3 n3=>?_⟩;have nr:H r=none:=s2.free n3;have rd:r≠d:=λz=>by
    obtain⟨kvs,e1,_⟩:=cm;rw[z,e1]at n3;cases n3
   refine dQ (Ik K b f1 f2 d r bs U stp fin H)
    (λσ _=>match σ with | [_,_,_,_,_,_,some (.int n),_]=>U.length - n.toNat|_=>0) ⟨_,0,_,_,_,rfl,s2.trans s3,cm.mono s3,f3,?_,Cl.first nd hU,rfl⟩ ?_ ?_
   ·have:∀{bs:List aJ} {bvs:List V},Paired (λs v=>bW H v s) bs bvs->Paired (λ(e:En) v=>bW H3 v e.1) (bs.map λs=>(s,none,.no)) bvs:=by
     intro bs bvs pb
     induction pb with
     | nil=>exact .nil
     | cons a r ih=>exact .cons (bW.mono a (s2.trans s3).t) ih
    exact this pb
   ·rintro σ H4 ⟨es,n,spv,stv,rvs,rfl,s4,cm4,f4,pr,go,esn⟩
    have el:=Paired.length pr;have gl:=go.len;refine⟨_,rfl,_,rfl,r,_,rfl,.inl (SqL.of f4),_,_,rfl,rfl,_,rfl,aT (λg1=>?_) (λg1=>?_)⟩
    ·have g1:(n:Int)<(rvs.length:Int):=bP g1
     obtain⟨v,hv⟩:∃v,rvs[n]? = some v:=⟨rvs[n]'(by omega),by simp[show n<rvs.length by omega]⟩;obtain⟨e,he,hsp⟩:=dz pr n v hv;have eU:=go.inU e (List.mem_of_getElem? he);refine⟨_,rfl,_,rfl,r,_,_,_,rfl,rfl,SqL.of f4,dP hv,?_⟩;refine⟨f2,sp2,rfl,i2,FO F.o2 s4,_,rfl,FO F.o2 s4,c2 H4 v e.1 _ s4 hsp eU λH5 s5=>⟨_,rfl,aT (λg2=>?_) (λg2=>?_)⟩⟩
     ·refine⟨_,rfl,_,rfl,d,v,es,n,e,rfl,cm4.mono s5,go.tree,he,hsp.mono s5.t,by omega,λr' H' l s' p hl ra=>?_⟩
      obtain⟨w1,w2,e',w3,w4⟩:=vI (fin:=fin) go.grown p;rw[he]at w3;cases w3;exact q1 r' H' l ((s4.trans s5).trans s') ⟨w1,w2,_,w4,g2⟩ ⟨n,e,by rw[<- esn];exact he,g2,(λi hi=>by
       have hl:=go.le;have hx:es[i]? = some (es[i]'(by omega)):=List.getElem?_eq_getElem (by omega);exact⟨_,by rw[<- esn];exact hx,(go.seen i _ hi hx).1⟩),by rw[<- esn];exact p⟩ (by omega) ra
     ·refine⟨f1,sp1,rfl,i1,FO F.o1 (s4.trans s5),_,rfl,FO F.o1 (s4.trans s5),c1 H5 v e.1 _ (s4.trans s5) (hsp.mono s5.t) eU λrl H6 s6 n6 st=>?_⟩
      obtain⟨svs,hr6,ps⟩:=st;have sl:=Paired.length ps;have few:=F.few _ eU;have cm6:=(cm4.mono s5).mono s6;have rld:rl≠d:=λz=>by
       obtain⟨kvs,e1,_⟩:=cm4.mono s5;rw[z,e1]at n6;cases n6
      have rlr:rl≠r:=λz=>by
       rw[z,s5 _ _ f4]at n6;cases n6
      have pr6:Paired (λ(e:En) v=>bW H6 v e.1) es rvs:=Paired.mapP pr λa b x=>x.mono (s5.t.trans s6.t);refine⟨rl,rfl,⟨_,SqL.of hr6⟩,fR (K:=K) (xs:=svs) (λi σ H'=>∃(es':List En) (stv:Option V) (rvs:List V),σ = [some (.ref b),some (.ref f1),some (.ref f2),some (.ref d),some v,some (.ref r),some (.int (n:Int)),stv]/\Same H H'/\SameT H6 H'/\H' rl=some (.lst svs)/\iR K H' d es'/\H' r=some (.lst rvs)/\Paired (λ(e:En) v=>bW H' v e.1) es' rvs/\Cl bs U stp fin es' n/\es'[n]? = some e/\es'=((stp e.1).take i).foldl (yR n) es/\∀(k:Nat) x,k<i->(stp e.1)[k]? = some x->x.1∈es'.map (·.1))
       ⟨es,_,rvs,rfl,(s4.trans s5).trans s6,SameT.refl,hr6,cm6,s6 _ _ (s5 _ _ f4),pr6,go,he,rfl,λk x z=>absurd z (Nat.not_lt_zero _)⟩ ?_ ?_ ?_⟩
      ·rintro i σ H7 hi ⟨es',stv,rvs,rfl,s7,t7,h7,_⟩
       exact SqL.of h7
      ·rintro i x σ H7 hx ⟨es',stv,rvs,rfl,s7,t7,h7,cm7,f7,pr7,go7,he7,fo7,sn7⟩
       have el7:=Paired.length pr7;have gl7:=go7.len;obtain⟨y,hy,t,sv,hvv,rfl,ht,⟨p,rfl,hp⟩,lbv⟩:=dz ps i x hx;have ht7:=t7 _ _ ht;have hp7:=t7 _ _ hp;obtain⟨o,dg,iff⟩:=cm7.look hp7;refine⟨_,rfl,t,_,_,_,rfl,rfl,SqT.of ht7,rfl,_,rfl,d,o,rfl,dg,_,rfl,?_⟩;cases ho:o.isSome with
       | true =>
        refine jX ?_;refine⟨es',_,rvs,rfl,s7,t7,h7,cm7,f7,pr7,go7,he7,by rw[List.take_add_one,hy,Option.toList_some,List.foldl_append,<- fo7];exact(if_pos (iff.mp ho)).symm,λk x hk hz=>?_⟩
        by_cases z:k=i
        ·subst z
         rw[hy]at hz;cases hz;exact iff.mp ho
        ·exact sn7 k x (by omega) hz
       | false =>
        have hnew:y.1∉es'.map (·.1):=λz=>by rw[iff.mpr z]at ho;cases ho
        have hyU:=F.shut _ eU y (List.mem_of_getElem? hy);refine rY ?_;refine⟨_,rfl,_,rfl,t,_,_,_,rfl,rfl,SqT.of ht7,rfl,sz (by simp),λx8 H8 s8 f8 n8=>⟨_,rfl,_,rfl,t,_,_,_,rfl,rfl,SqT.of (s8 _ _ ht7),rfl,?_⟩⟩;obtain⟨H9,dp,cm9,t9,o9⟩:=(cm7.mono s8).add (s:=y.1) (pj:=some n) (h:=y.2) (s8 _ _ hp7) f8 (lbv.mono (t7.trans s8.t)) hnew (λz=>nomatch z) (λj z=>by cases z;exact⟨e,he7,hsp.mono (((s5.t.trans s6.t).trans t7).trans s8.t)⟩) (by omega)
        refine⟨d,H9,rfl,dp,?_⟩;have f9:H9 r=some (.lst rvs):=(o9 r rd).trans (s8 _ _ f7);have T9:=s8.t.trans t9;refine⟨_,rfl,.inl ⟨rfl,_,SqL.of f9⟩,_,rfl,t,_,_,_,rfl,rfl,SqT.of (T9 _ _ ht7),rfl,r,_,_,rfl,rfl,f9,aZ (by omega),λH10 u=>?_⟩;have T10:=T9.trans u.t;have s10:Same H H10:=λx o eo=>by
         refine u.at (λz=>by rw[z,nr]at eo;cases eo) ?_;rw[o9 x (λz=>by rw[z,hd]at eo;cases eo)];exact s8 _ _ (s7 _ _ eo)
        have cm10:iR K H10 d (es'++[(y.1,some n,y.2)]):=by
         obtain⟨kvs,k1,k2⟩:=cm9;exact⟨kvs,u.at (λz=>rd z.symm) k1,Paired.mapP k2 λa b x=>x.mono u.t λ_ _ h=>h⟩
        refine⟨es'++[(y.1,some n,y.2)],_,_,rfl,s10,t7.trans T10,u.at rlr ((o9 rl rld).trans (s8 _ _ h7)),cm10,u.now,Paired.snoc (Paired.mapP pr7 λa b x=>x.mono T10) ⟨p,rfl,T10 _ _ hp7⟩,go7.add he7 (List.mem_of_getElem? hy) hyU hnew,?_,by rw[List.take_add_one,hy,Option.toList_some,List.foldl_append,<- fo7];exact(if_neg hnew).symm,λk x hk hz=>?_⟩
        ·rw[List.getElem?_append_left (List.getElem?_eq_some_iff.mp he7).1]
         exact he7
        ·rw[List.map_append]
         by_cases z:k=i
         ·subst z
          rw[hy]at hz;cases hz;exact List.mem_append_right _ (by simp)
         ·exact List.mem_append_left _ (sn7 k x (by omega) hz)
      ·rintro σ H7 ⟨es',stv,rvs,rfl,s7,t7,h7,cm7,f7,pr7,go7,he7,fo7,sn7⟩
       refine⟨_,rfl,_,_,rfl,rfl,?_⟩;refine⟨⟨es',n+1,_,_,rvs,rfl,s7,cm7,f7,pr7,go7.next he7 g2 λx hx=>?_,?_⟩,?_⟩
       ·obtain⟨k,hk⟩:=List.getElem?_of_mem hx
        exact sn7 k x (by have:=(List.getElem?_eq_some_iff.mp hk).1;omega) hk
       ·rw[fo7,List.take_of_length_le (by omega)]
        show _=match (dM bs stp n)[n]? with
         | some e=>(stp e.1).foldl (yR n) (dM bs stp n)
         | none=>dM bs stp n
        rw[<- esn,he]
       ·have gl7:=go7.len
        have ln:=(List.getElem?_eq_some_iff.mp he7).1;show U.length - ((n:Int)+1).toNat<U.length - (n:Int).toNat;omega
    ·have g1:¬((n:Int)<(rvs.length:Int)):=λz=>by rw[show decide ((n:Int)<(rvs.length:Int))=true from decide_eq_true z]at g1;cases g1
     exact q0 H4 s4 (go.shut (by omega))
   ·rintro σ H' Q1 Q2 hq ⟨v,e,w,e2,r,xs,h1,h2,i,j,h3,h4,k,ek,rr⟩
    exact⟨v,e,w,e2,r,xs,h1,h2,i,j,h3,h4,k,ek,hq _ _ rr⟩
noncomputable def d9(qs1 qs2:Crn)(a b room:Int)(i j:Int):Bool:=match qs1[i.toNat]?,qs2[j.toNat]? with
 | some c,some d=>decide (lo c.2.1 c.2.2 d.2.1 d.2.2 a b<room)
 | _,_=>false
theorem qO{qs1 qs2:Crn}{a b room:Int}{i j:Nat}{c d:Addr×Int×Int}(hc:qs1[i]? = some c)(hd:qs2[j]? = some d):d9 qs1 qs2 a b room i j=decide (lo c.2.1 c.2.2 d.2.1 d.2.2 a b<room):=by
 unfold d9;rw[Int.toNat_natCast,Int.toNat_natCast,hc,hd]
inductive Gw (vs:List V) (H:Hp) (Q:VK) (x_3:XK):Prop
 | mk:∀(l1 l2 sp:Addr) (qs1 qs2:Crn) (a b room:Int),(vs = [.ref l1,.ref l2,.ref sp,.int room])->(LineM H l1 qs1)->(LineM H l2 qs2)->((1<=qs1.length/\qs1.length<=20))->((1<=qs2.length/\qs2.length<=20))->(Sq H sp a b)->(∀d H',Same H H'->mU H' d (qs1.length - 1) (qs2.length - 1) (d9 qs1 qs2 a b room)->Q (.ref d) H')->Gw vs H Q x_3
inductive DZ (vs:List V) (H:Hp) (Q:VK) (x_3:XK):Prop
 | mk:∀(c:Addr) (i j:Int),(vs = [.ref c])->(H c=some (.tup [.int i,.int j]))->((0<=i/\i<=1000))->((0<=j/\j<=1000))->(∀(q:Pr) H',Same H H'->PrAt H' q->prC q (i,j)->Q (.ref q.p) H')->DZ vs H Q x_3
theorem zK{H:Hp}{p x y:Addr}{i j:Int}(hp:H p=some (.tup [.ref x,.ref y]))(hx:H x=some (.tup [.int i,.int 1]))(hy:H y=some (.tup [.int j,.int 1]))(bi:0<=i/\i<=1000)(bj:0<=j/\j<=1000):PrAt H ⟨p,x,y,i,1,j,1⟩:=by
 have b1:∀{k:Int},0<=k/\k<=1000->ax k<=10:=λ{k} h=>bT (by omega) h.2;have one:ax (1:Int)<=60:=ap (b1 (k:=1) ⟨by decide,by decide⟩) (by decide);have lw:∀k:Int,Em k 1:=λk=>⟨Int.le_refl 1,by simp⟩;exact⟨hp,hx,hy,lw i,lw j,bi.1,bj.1,ap (b1 bi) (by decide),one,ap (b1 bj) (by decide),one⟩
noncomputable def xV(P:Int×Int->Bool):aJ×V->Bool
 | ([.inl x,.inl y],_)=>P (x,y)
 | _=>false
theorem gI{P:Int×Int->Bool}:∀{l:List (Int×Int)},(kvF l).filter (xV P)=kvF (l.filter P)
 | []=>rfl
 | p::r=>by
  have ih:=gI (P:=P) (l:=r);unfold kvF at ih ⊢;rw[List.map_cons,List.filter_cons,List.filter_cons,ih];show(if P p=true then _ else _)=_
  split <;> rfl
theorem gF{α β γ:Type}{G:β->γ->Prop}{f:α->β}:∀{l:List α} {ys:List γ},Paired G (l.map f) ys->Paired (λa y=>G (f a) y) l ys
 | [],_,h=>by cases h;exact .nil
 | a::r,_,h=>by
  cases h with
  | cons h1 h2=>exact .cons h1 (gF h2)
theorem g8{α β γ:Type}{G:β->γ->Prop}{f:α->β}:∀{l:List α} {ys:List γ},Paired (λa y=>G (f a) y) l ys->Paired G (l.map f) ys
 | [],_,h=>by cases h;exact .nil
 | a::r,_,h=>by
  cases h with
  | cons h1 h2=>exact .cons h1 (g8 h2)
theorem DG:AQ ["corner"] ["corner"] (aq (top 42)):=smk
theorem ii(DL:Df K mg "pair_at_corner" (top 42)):Fn P w K mg base "pair_at_corner" ["corner"] 1 DZ:=by
 refine DL.fn DG (λ_ _ _ _ _ _ us hl=>by obtain⟨_,rfl⟩:=eV hl;rfl) (λvs H Q E h=>?_) (λf cdv A outer s H vs Q E hr h=>?_)
 ·obtain⟨c,i,j,rfl,_⟩:=h
  rfl
 ·obtain⟨c,i,j,rfl,hc,bi,bj,q⟩:=h
  refine⟨_,(am (aB (@aG _ _ _ _ _ (@ad _ _ _ _ _ (@aG _ _ _ _ _ (@ad _ _ _ _ _ (az ar (pv 0) af (λ_ _=>rfl)) (@ad _ _ _ _ _ af ak (by rfl)) (by rfl))) (@ad _ _ _ _ _ (@aG _ _ _ _ _ (@ad _ _ _ _ _ (az ar (pv 0) af (λ_ _=>rfl)) (@ad _ _ _ _ _ af ak (by rfl)) (by rfl))) ak (by rfl)) (by rfl))))),?_⟩;refine⟨_,rfl,c,_,_,_,rfl,rfl,SqT.of hc,rfl,sz (by simp),λx H1 s1 f1 n1=>?_⟩;refine⟨_,rfl,c,_,_,_,rfl,rfl,SqT.of (s1 _ _ hc),rfl,sz (by simp),λy H2 s2 f2 n2=>⟨sz (by simp),λp H3 s3 f3 n3=>?_⟩⟩;exact q ⟨p,x,y,i,1,j,1⟩ H3 ((s1.trans s2).trans s3) (zK f3 ((s2.trans s3) _ _ f1) (s3 _ _ f2) bi bj) ⟨rfl,rfl,rfl,rfl⟩
theorem Bs:AQ ["one","other","square","room","far","i","corner","j","beside"] ["one","other","square","room"] (aq (top 38)):=smk
theorem j7(Es:Df K mg "far_corners" (top 38))(Bt:Fn P w K mg base "leash_order" ["one","other","square"] 2 GM)(T:Txt mg):Fn P w K mg base "far_corners" ["one","other","square","room"] 3 Gw:=by
 refine Es.fn Bs (λ_ _ _ _ _ _ us hl=>by obtain⟨_,_,_,_,rfl⟩:=uA hl;rfl) (λvs H Q E h=>?_) (λf cdv A outer s H vs Q E hr h=>?_)
 ·obtain⟨l1,l2,sp,qs1,qs2,a,b,room,rfl,_⟩:=h
  rfl
 ·obtain⟨l1,l2,sp,qs1,qs2,a,b,room,rfl,L1,L2',b1,b2,sq,q⟩:=h
  refine⟨_,(ag (ay (i:=4) Bs.nd rfl (Or.inl rfl) g7) (ag (cz PassesOwn.never rfl (jp rfl T.z_enumerate (ad (pv 0) ak)) (d8 rfl (bo (aO (i:=5) Bs.nd rfl (Or.inl rfl)) (bo (aO (i:=6) Bs.nd rfl (Or.inl rfl)) dE))) (am (cz PassesOwn.never rfl (jp rfl T.z_enumerate (ad (pv 1) ak)) (d8 rfl (bo (aO (i:=7) Bs.nd rfl (Or.inl rfl)) (bo (aO (i:=8) Bs.nd rfl (Or.inl rfl)) dE))) (am (aM (aE dG (aF Bt (hr.mono (by decide)) (by rfl) (ad (pv 6) (ad (pv 8) (ad (pv 2) ak)))) (pv 3) (aH _)) (am (dY (cH hr) (pv 4) (aG (ad (pv 5) (ad (pv 7) ak))) iT rfl)) aI))))) (am (aB (yh (pv 4)))))),?_⟩;have hl1:(qs1.map λ(q:Addr×Int×Int)=>V.ref q.1).length=qs1.length:=List.length_map _;have hl2:(qs2.map λ(q:Addr×Int×Int)=>V.ref q.1).length=qs2.length:=List.length_map _;generalize hF:d9 qs1 qs2 a b room=F at q;refine λd hd=>?_;have s0:Same H (upd H d (.dT [])):=Same.new hd;refine⟨_,rfl,l1,rfl,⟨_,SqL.of (s0 _ _ L1.lst)⟩,ic (K:=K) (a:=l1) (xs:=qs1.map λ(q:Addr×Int×Int)=>V.ref q.1) (λi σ H'=>∃(z5 z6 z7 z8:Option V),σ = [some (.ref l1),some (.ref l2),some (.ref sp),some (.int room),some (.ref d),z5,z6,z7,z8]/\Same H H'/\H' d=some (.dT (kvF (gM F qs2.length i))))
   ⟨_,_,_,_,rfl,s0,upd_same⟩ (λi σ H' _ ⟨_,_,_,_,_,s',_⟩=>SqL.of (s' _ _ L1.lst)) ?_ ?_⟩
  ·rintro i x pp σ H1 H2 hx ⟨z5,z6,z7,z8,rfl,s1,e1⟩ s2 f2
   rw[List.getElem?_map]at hx;obtain⟨u,hu,rfl⟩:=Option.map_eq_some_iff.mp hx;have iu:=(List.getElem?_eq_some_iff.mp hu).1;have S2:=s1.trans s2;refine⟨pp,_,rfl,SqT.of f2,rfl,_,_,rfl,_,_,rfl,rfl,?_⟩;refine⟨_,rfl,l2,rfl,⟨_,SqL.of (S2 _ _ L2'.lst)⟩,ic (K:=K) (a:=l2) (xs:=qs2.map λ(q:Addr×Int×Int)=>V.ref q.1) (λj σ H'=>∃(z7 z8:Option V),σ = [some (.ref l1),some (.ref l2),some (.ref sp),some (.int room),some (.ref d),some (.int (i:Int)),some (.ref u.1),z7,z8]/\Same H H'/\H' d=some (.dT (kvF (gM F qs2.length i++gB F i j))))
    ⟨_,_,rfl,S2,by rw[show gB F i 0 = [] from rfl,List.append_nil];exact s2 _ _ e1⟩ (λi σ H' _ ⟨_,_,_,s',_⟩=>SqL.of (s' _ _ L2'.lst)) ?_ ?_⟩
   ·rintro j x pp σ H3 H4 hx ⟨z7,z8,rfl,s3,e3⟩ s4 f4
    rw[List.getElem?_map]at hx;obtain⟨v,hv,rfl⟩:=Option.map_eq_some_iff.mp hx;have jv:=(List.getElem?_eq_some_iff.mp hv).1;have S4:=s3.trans s4;have cu:=(L1.mono S4).crn u (List.mem_of_getElem? hu);have cv:=(L2'.mono S4).crn v (List.mem_of_getElem? hv);have e4:=s4 _ _ e3;have fa:F i j=decide (lo u.2.1 u.2.2 v.2.1 v.2.2 a b<room):=by rw[<- hF];exact qO hu hv
    refine⟨pp,_,rfl,SqT.of f4,rfl,_,_,rfl,_,_,rfl,rfl,?_⟩;refine⟨_,rfl,_,rfl,_,rfl,u.1,v.1,sp,_,_,_,_,_,_,rfl,⟨cu.1,eB cu.2.1,eB cu.2.2⟩,⟨cv.1,eB cv.2.1,eB cv.2.2⟩,sq.mono S4,_,rfl,_,_,rfl,rfl,_,rfl,aT (λg=>?_) (λg=>?_)⟩
    ·rw[<- fa]at g
     refine⟨_,rfl,_,rfl,_,rfl,sz (by simp),λc H5 s5 f5 n5=>?_⟩;have e5:=s5 _ _ e4;have nk:((i:Int),(j:Int))∉gM F qs2.length i++gB F i j:=λz=>by
      rcases List.mem_append.mp z with z|z
      ·have:=(jR.mp z).2.1
       dsimp only at this;omega
      ·have:=(hO.mp z).2.2.1
       dsimp only at this;omega
     have nv:dB (kvF (gM F qs2.length i++gB F i j)) (ck i j)=none:=gR λz=>nk (nS.mp z);have len:(kvF (gM F qs2.length i++gB F i j)).length<sizeLine:=by
      unfold kvF;rw[List.length_map,List.length_append];have h1:=j8 (F:=F) (n:=qs2.length) (i:=i);have h2:=m9 (F:=F) (i:=i) (k:=j);have h3:=Nat.mul_le_mul (show i<=20 by omega) b2.2;exact aZ (by omega)
     refine⟨d,_,rfl,ku.t (k:=ck i j) e5 f5 len,_,_,rfl,?_,?_⟩
     ·exact λx o e=>by
       rw[aN (λz=>by rw[z,hd]at e;cases e)];exact s5 _ _ (S4 _ _ e)
     ·rw[upd_same,gZ _ nv,iy,if_pos g]
      unfold kvF;rw[<- List.append_assoc,List.map_append (l₂:=[_])];rfl
    ·rw[<- fa]at g
     refine⟨_,_,rfl,S4,?_⟩;rw[iy,if_neg (by rw[g];exact Bool.false_ne_true),List.append_nil];exact e4
   ·rintro σ H3 ⟨z7,z8,rfl,s3,e3⟩
    rw[hl2,<- iM]at e3;exact⟨_,_,_,_,rfl,s3,e3⟩
  ·rintro σ H1 ⟨z5,z6,z7,z8,rfl,s1,e1⟩
   rw[hl1]at e1;refine⟨_,rfl,d,_,rfl,e1,λo=>q d _ ?_ ⟨o,?_⟩⟩
   ·exact λx o e=>by
     rw[aN (λz=>by rw[z,hd]at e;cases e)];exact s1 _ _ e
   ·rw[upd_same]
    unfold kQ;rw[show qs1.length - 1+1=qs1.length by omega,show qs2.length - 1+1=qs2.length by omega]
theorem sq0(x:Int):0<=x*x:=sqx x
structure Nm(K:W.Frag)(H:Hp)(p:Addr)(l:Int×Int×Int×Int):Prop where
 at_:TpK K H p [.int l.1,.int l.2.1,.int l.2.2.1,.int l.2.2.2]
 b0:ax l.1<=240
 b1:ax l.2.1<=2
 b2:ax l.2.2.1<=470
 b3:ax l.2.2.2<=240
 p2:0<=l.2.2.1
 p3:1<=l.2.2.2
theorem Nm.mono{K:W.Frag}{H H':Hp}{p:Addr}{l:Int×Int×Int×Int}(h:Nm K H p l)(s:Same H H'):Nm K H' p l:=⟨h.at_.mono s.t,h.b0,h.b1,h.b2,h.b3,h.p2,h.p3⟩
theorem qG{cx cy bx by_ ex ey x y:Int}(hne:¬[bx,by_] = [ex,ey])(hy:0<y):Gv (cM bx by_ ex ey) (rAl cx cy bx by_ ex ey) ((cx - bx)*(cx - bx)+(cy - by_)*(cy - by_)) (rBe cx cy bx by_ ex ey) x y (rAl cx cy bx by_ ex ey*y) (cM bx by_ ex ey*y) (rUn cx cy bx by_ ex ey x y):=by
 refine⟨?_,hy,?_,rfl,rfl,rfl⟩
 ·unfold cM
  have h1:=sq0 (ex - bx);have h2:=sq0 (ey - by_);have key:∀z:Int,z≠0->0<z*z:=λz hz=>by
   rcases Int.lt_trichotomy z 0 with h|h|h
   ·exact Int.mul_pos_of_neg_of_neg h h
   ·exact absurd h hz
   ·exact Int.mul_pos h h
  by_cases h:ex - bx=0
  ·have h3:ey - by_≠0:=λz=>hne (by rw[show bx=ex by omega,show by_=ey by omega])
   have:=key _ h3;omega
  ·have:=key _ h
   omega
 ·unfold rBe cM rAl
  grind
theorem zP{cx cy bx by_ x y:Int}:lo cx cy bx by_ x y=sg (x - ((cx - bx)*(cx - bx)+(cy - by_)*(cy - by_))*y):=by
 unfold lo;rw[show(bx - cx)*(bx - cx)=(cx - bx)*(cx - bx) by grind,show(by_ - cy)*(by_ - cy)=(cy - by_)*(cy - by_) by grind]
theorem flat{cx cy bx by_ ex ey:Int}(h:[bx,by_] = [ex,ey]):cM bx by_ ex ey=0/\rAl cx cy bx by_ ex ey=0:=by
 simp only[List.cons.injEq,and_true]at h;obtain⟨rfl,rfl⟩:=h;unfold cM rAl;rw[show bx - bx=0 by omega,show by_ - by_=0 by omega];simp
theorem lg{x:Int}:(sg x<0↔x<0)/\(sg x<1↔x<=0):=by
 rcases Int.lt_trichotomy x 0 with h|h|h
 ·rw[eE h];omega
 ·rw[jG h];omega
 ·rw[da h];omega
theorem d7(x:Int):-1<=sg x/\sg x<=1:=by
 rcases Int.lt_trichotomy x 0 with h|h|h
 ·rw[eE h];omega
 ·rw[jG h];omega
 ·rw[da h];omega
theorem vw(w m u n l:Int):-1<=cI w m u n l/\cI w m u n l<=1:=by
  unfold cI
  split
  · exact d7 _
  · have pr:∀a b:Int,-1<=a->a<=1->-1<=b->b<=1->-1<=a*b/\a*b<=1:=λa b h1 h2 h3 h4=>by
      have:a = -1\/a=0\/a=1:=by omega
      rcases this with rfl|rfl|rfl <;> omega
    unfold swr;have s1:=d7 w
    first
      | (split
         · have s2:=d7 (sg (w*w - m*m*u - n*n*l)+sg (-2*m*n))
           exact pr _ _ s1.1 s1.2 (d7 _).1 (d7 _).2
         · exact pr _ _ s1.1 s1.2 (pr _ _ (d7 _).1 (d7 _).2 (d7 _).1 (d7 _).2).1 (pr _ _ (d7 _).1 (d7 _).2 (d7 _).1 (d7 _).2).2)
      | exact pr _ _ s1.1 s1.2 (d7 _).1 (d7 _).2
theorem zI(a0 a1 a2 a3 b0 b1 b2 b3:Int):-1<=ro a0 a1 a2 a3 b0 b1 b2 b3/\ro a0 a1 a2 a3 b0 b1 b2 b3<=1:=vw _ _ _ _ _
structure HW(P L U:Int):Prop where
 u:0<U
 e:P - L<0\/(P - L)*(P - L)<U
 b:0<P\/P*P<U
section
variable {A B C be x y P L U:Int}
theorem _root_.Sp5.Gv.open1(g:Gv A B C be x y P L U):¬(sg U<1\/ro 1 0 0 1 P (-1) U L<1\/ro P 1 U L 0 0 0 1<1)↔HW P L U:=by
 constructor
 ·intro n
  have u:0<U:=by
   by_cases h:U<=0
   ·exact absurd (.inl (lg.2.mpr h)) n
   ·omega
  refine⟨u,?_,?_⟩
  ·by_cases z:ro 1 0 0 1 P (-1) U L<1
   ·exact absurd (.inr (.inl z)) n
   ·rw[dN P (-1) U L 1 0 0 1,g.lowE]at z
    exact(my (by omega)).2.2.mp (by omega)
  ·by_cases z:ro P 1 U L 0 0 0 1<1
   ·exact absurd (.inr (.inr z)) n
   ·rw[g.highB]at z
    exact(mw (by omega)).2.2.mp (by omega)
 ·rintro⟨u,e,b⟩ n
  rcases n with n|n|n
  ·have:=lg.2.mp n
   omega
  ·rw[dN P (-1) U L 1 0 0 1,g.lowE]at n
   have:=(my (W:=P - L) (U:=U) (by omega)).2.2.mpr e;omega
  ·rw[g.highB]at n
   have:=(mw (W:=P) (U:=U) (by omega)).2.2.mpr b;omega
end
theorem uW{A B y U:Int}(ba:ax A<=103)(bb:ax B<=103)(by_:ax y<=130)(bu:ax U<=470)(u0:0<=U)(l0:1<=A*y) :
  (ax (eM (B*y) U (A*y)).1<=240/\ax (eM (B*y) U (A*y)).2.1<=2/\ax (eM (B*y) U (A*y)).2.2.1<=470/\ax (eM (B*y) U (A*y)).2.2.2<=240/\0<=(eM (B*y) U (A*y)).2.2.1/\1<=(eM (B*y) U (A*y)).2.2.2) /\
  (ax (dA (B*y) U (A*y)).1<=240/\ax (dA (B*y) U (A*y)).2.1<=2/\ax (dA (B*y) U (A*y)).2.2.1<=470/\ax (dA (B*y) U (A*y)).2.2.2<=240/\0<=(dA (B*y) U (A*y)).2.2.1/\1<=(dA (B*y) U (A*y)).2.2.2):=by
 have b1:ax (B*y)<=240:=ap (bits_mul bb by_) (by decide);have b2:ax (A*y)<=240:=ap (bits_mul ba by_) (by decide);constructor
 ·unfold eM
  split
  ·decide
  ·exact⟨b1,(by show ax (-1)<=2;decide),bu,b2,u0,l0⟩
 ·unfold dA
  split
  ·decide
  ·exact⟨b1,(by show ax 1<=2;decide),bu,b2,u0,l0⟩
theorem vm{cx cy bx by_ ex ey x y:Int}(w1:ax (ex - bx)<=51)(w2:ax (ey - by_)<=51)(w3:ax (cx - bx)<=51)(w4:ax (cy - by_)<=51)(hx:ax x<=230)(hy:ax y<=130):ax (rUn cx cy bx by_ ex ey x y)<=470:=by
 unfold rUn;have bl:ax (cM bx by_ ex ey)<=103:=bU (bits_mul w1 w1) (bits_mul w2 w2);have bb:ax (rBe cx cy bx by_ ex ey)<=103:=aW (bits_mul w3 w2) (bits_mul w4 w1);exact ap (bits_mul hy (aW (n:=336) (ap (bits_mul hx bl) (by decide)) (bits_mul (bits_mul hy bb) bb))) (by decide)
noncomputable def cP(cx cy bx by_ ex ey x y room:Int):Option (N4×N4):=if pwN cx cy bx by_ ex ey x y room=true then none else
 some (if decide ([bx,by_] = [ex,ey])=true then (0,0,0,1) else eM (rAl cx cy bx by_ ex ey*y) (rUn cx cy bx by_ ex ey x y) (cM bx by_ ex ey*y),if decide ([bx,by_] = [ex,ey])=true then (1,0,0,1) else dA (rAl cx cy bx by_ ex ey*y) (rUn cx cy bx by_ ex ey x y) (cM bx by_ ex ey*y))
noncomputable def wth(cx cy bx by_ ex ey a b:Int):Int:=cM bx by_ ex ey*a*a - 2*rAl cx cy bx by_ ex ey*a*b+((cx - bx)*(cx - bx)+(cy - by_)*(cy - by_))*b*b
theorem yP{a b:Int}(ha:0<=a)(hab:a<=b):fb (some ((0,0,0,1),(1,0,0,1))) a b=true:=by
 unfold fb;dsimp only;rw[xC,qA.1,qA.2,Bool.and_eq_true,decide_eq_true_eq,decide_eq_true_eq];refine⟨ql.mpr (by omega),?_⟩;have:0<=sg (b - a):=by
  rcases Int.lt_or_eq_of_le (show 0<=b - a by omega) with z|z
  ·rw[da z];decide
  ·rw[<- z];decide
 omega
theorem xU{x:Int}:(0<=sg x↔0<=x)/\(1<=sg x↔0<x):=by
 have:=lg (x:=x);omega
theorem lK{cx cy bx by_ ex ey x y a b:Int}(hy:0<y)(ha:0<=a)(hab:a<=b)(hb:0<b) :
  fb (cP cx cy bx by_ ex ey x y 0) a b=decide (wth cx cy bx by_ ex ey a b*y<=x*(b*b))/\(wth cx cy bx by_ ex ey a b*y<x*(b*b)->fb (cP cx cy bx by_ ex ey x y 1) a b=true)/\(xG (cP cx cy bx by_ ex ey x y 1) a b=true->wth cx cy bx by_ ex ey a b*y<x*(b*b)):=by
 have bb:0<b*b:=Int.mul_pos hb hb;unfold cP wth
 by_cases hs:[bx,by_] = [ex,ey]
 ·obtain⟨e1,e2⟩:=flat (cx:=cx) (cy:=cy) hs
  rw[e1,e2,decide_eq_true hs,if_pos rfl,if_pos rfl];unfold pwN;rw[if_pos hs,if_pos hs,zP];generalize (cx - bx)*(cx - bx)+(cy - by_)*(cy - by_)=C;have k:=xU (x:=x - C*y);have p:=fZ (k:=b*b) (z:=x - C*y) bb;have e:b*b*(x - C*y)=x*(b*b) - (0*a*a - 2*0*a*b+C*b*b)*y:=by grind
  rw[e]at p;have f:=yP ha hab;refine⟨?_,λh=>?_,λh=>?_⟩
  ·by_cases z:sg (x - C*y)>=0
   ·rw[decide_eq_true z,if_neg (by decide),f,eq_comm,decide_eq_true_eq]
    omega
   ·rw[decide_eq_false z,if_pos (by decide),eq_comm]
    exact decide_eq_false (by omega)
  ·rw[decide_eq_true (show sg (x - C*y)>=1 by omega),if_neg (by decide)]
   exact f
  ·by_cases z:sg (x - C*y)>=1
   ·omega
   ·rw[decide_eq_false z,if_pos (by decide)]at h
    cases h
 ·have gv:=qG (cx:=cx) (cy:=cy) (x:=x) hs hy
  rw[decide_eq_false hs,if_neg (show ¬(false=true) by decide),if_neg (show ¬(false=true) by decide)];have ct:=gv.ct a b;have w0:=sqx (rAl cx cy bx by_ ex ey*y*b - a*(cM bx by_ ex ey*y));unfold pwN;rw[if_neg hs,if_neg hs];refine⟨?_,λh=>?_,λh=>?_⟩
  ·by_cases z:sg (rUn cx cy bx by_ ex ey x y)<0\/ro 1 0 0 1 (rAl cx cy bx by_ ex ey*y) (-1) (rUn cx cy bx by_ ex ey x y) (cM bx by_ ex ey*y)<0\/ro (rAl cx cy bx by_ ex ey*y) 1 (rUn cx cy bx by_ ex ey x y) (cM bx by_ ex ey*y) 0 0 0 1<0
   ·rw[if_pos (by simp only[Bool.or_eq_true,decide_eq_true_eq];exact z),eq_comm]
    have fr:=gv.far (gv.shut' z) ha hab hb;exact decide_eq_false (by omega)
   ·rw[if_neg (by simp only[Bool.or_eq_true,decide_eq_true_eq];exact z)]
    have o:=gv.shut z;have bu:0<=b*b*rUn cx cy bx by_ ex ey x y:=Int.mul_nonneg (by omega) o.u;have l1:=(gv.low_le o.u ha hb).1;have h1:=(gv.high_ge o.u hab hb).1;unfold fb;dsimp only;rw[Bool.eq_iff_iff,Bool.and_eq_true,decide_eq_true_eq,decide_eq_true_eq,decide_eq_true_eq,l1,h1,<- ct.1];generalize rAl cx cy bx by_ ex ey*y*b - a*(cM bx by_ ex ey*y)=W at *;generalize b*b*rUn cx cy bx by_ ex ey x y=V at *;constructor
    ·rintro⟨q1,q2⟩
     rcases Int.lt_trichotomy W 0 with w|w|w
     ·omega
     ·rw[w];omega
     ·omega
    ·intro q
     exact⟨λ⟨_,q2⟩=>by omega,λ⟨_,q2⟩=>by omega⟩
  ·have hw:=ct.2.mpr h
   have u0:0<rUn cx cy bx by_ ex ey x y:=by
    have:=fZ (k:=b*b) (z:=rUn cx cy bx by_ ex ey x y) bb;omega
   have wge:=gv.wge (a:=a) hab;have wle:=gv.wle (b:=b) ha;have o:HW (rAl cx cy bx by_ ex ey*y) (cM bx by_ ex ey*y) (rUn cx cy bx by_ ex ey x y):=by
    refine⟨u0,?_,?_⟩
    ·by_cases z:rAl cx cy bx by_ ex ey*y - cM bx by_ ex ey*y<0
     ·exact .inl z
     ·have s1:=k7 (u:=b*(rAl cx cy bx by_ ex ey*y - cM bx by_ ex ey*y)) (Int.mul_nonneg (by omega) (by omega)) wge
      rw[lE]at s1;exact .inr (Int.lt_of_mul_lt_mul_left (a:=b*b) (by omega) (by omega))
    ·by_cases z:0<rAl cx cy bx by_ ex ey*y
     ·exact .inl z
     ·have s1:=k7 (u:=b * -(rAl cx cy bx by_ ex ey*y)) (v:=-(rAl cx cy bx by_ ex ey*y*b - a*(cM bx by_ ex ey*y))) (Int.mul_nonneg (by omega) (by omega)) (by rw[Int.mul_neg];omega)
      rw[lE,Int.neg_mul_neg,Int.neg_mul_neg]at s1;exact .inr (Int.lt_of_mul_lt_mul_left (a:=b*b) (by omega) (by omega))
   have n:=gv.open1.mpr o;rw[if_neg (by simp only[Bool.or_eq_true,decide_eq_true_eq];exact n)];unfold fb;dsimp only;rw[Bool.and_eq_true,decide_eq_true_eq,decide_eq_true_eq,(gv.low_le (Int.le_of_lt u0) ha hb).1,(gv.high_ge (Int.le_of_lt u0) hab hb).1];exact⟨λ⟨_,q2⟩=>by omega,λ⟨_,q2⟩=>by omega⟩
  ·by_cases z:sg (rUn cx cy bx by_ ex ey x y)<1\/ro 1 0 0 1 (rAl cx cy bx by_ ex ey*y) (-1) (rUn cx cy bx by_ ex ey x y) (cM bx by_ ex ey*y)<1\/ro (rAl cx cy bx by_ ex ey*y) 1 (rUn cx cy bx by_ ex ey x y) (cM bx by_ ex ey*y) 0 0 0 1<1
   ·rw[if_pos (by simp only[Bool.or_eq_true,decide_eq_true_eq];exact z)]at h
    cases h
   ·rw[if_neg (by simp only[Bool.or_eq_true,decide_eq_true_eq];exact z)]at h
    have o:=gv.open1.mp z;have ou:=o.u;unfold xG at h;dsimp only at h;rw[Bool.and_eq_true,decide_eq_true_eq,decide_eq_true_eq]at h;have l2:=(gv.low_le (Int.le_of_lt ou) ha hb).2 h.1;have h2:=(gv.high_ge (Int.le_of_lt ou) hab hb).2 h.2;exact ct.2.mp (by omega)
noncomputable def eZ(K:W.Frag)(H:Hp)(v:V)(o:Option (N4×N4)):Prop:=match o with
 | none=>v = .non
 | some (l,m)=>∃t p q:Addr,v = .ref t/\H t=some (.tup [.ref p,.ref q])/\Nm K H p l/\Nm K H q m
theorem eZ.mono{K:W.Frag}{H H':Hp}{v:V}{o:Option (N4×N4)}(h:eZ K H v o)(s:Same H H'):eZ K H' v o:=by
 cases o with
 | none=>exact h
 | some lm =>
  obtain⟨t,p,q,e,f,n1,n2⟩:=h;exact⟨t,p,q,e,s _ _ f,n1.mono s,n2.mono s⟩
theorem uN{K:W.Frag}{H:Hp}{v:V}{cx cy bx by_ ex ey x y room:Int}(hr:room=0\/room=1)(hy:0<y)(bx':ax x<=230)(byy:ax y<=130)(w1:ax (ex - bx)<=51)(w2:ax (ey - by_)<=51)(w3:ax (cx - bx)<=51)(w4:ax (cy - by_)<=51)
  (h:Pw K H v (pwN cx cy bx by_ ex ey x y room) (decide ([bx,by_] = [ex,ey])) (rAl cx cy bx by_ ex ey*y) (rUn cx cy bx by_ ex ey x y) (cM bx by_ ex ey*y)):eZ K H v (cP cx cy bx by_ ex ey x y room):=by
 unfold cP;rcases h with⟨rfl,hN⟩|⟨hN,t,p,q,ln,hn,rfl,et,al,ah,e1,e2⟩
 ·rw[if_pos hN]
  rfl
 ·rw[if_neg (by rw[hN];decide)]
  have key:(ax ln.1<=240/\ax ln.2.1<=2/\ax ln.2.2.1<=470/\ax ln.2.2.2<=240/\0<=ln.2.2.1/\1<=ln.2.2.2)/\(ax hn.1<=240/\ax hn.2.1<=2/\ax hn.2.2.1<=470/\ax hn.2.2.2<=240/\0<=hn.2.2.1/\1<=hn.2.2.2):=by
   by_cases hs:[bx,by_] = [ex,ey]
   ·rw[decide_eq_true hs,if_pos rfl]at e1 e2
    subst e1 e2;decide
   ·rw[decide_eq_false hs,if_neg (by decide)]at e1 e2
    subst e1 e2;have gv:=qG (cx:=cx) (cy:=cy) (x:=x) hs hy;have u0:0<=rUn cx cy bx by_ ex ey x y:=by
     unfold pwN at hN;rw[if_neg hs,Bool.or_eq_false_iff,decide_eq_false_iff_not]at hN;have:=lg (x:=rUn cx cy bx by_ ex ey x y);rcases hr with rfl|rfl <;> omega
    exact uW (bU (bits_mul w1 w1) (bits_mul w2 w2)) (bU (bits_mul w3 w1) (bits_mul w4 w2)) byy (vm w1 w2 w3 w4 bx' byy) u0 (Int.mul_pos gv.pa hy)
  rw[<- e1,<- e2];exact⟨t,p,q,rfl,et,⟨al,key.1.1,key.1.2.1,key.1.2.2.1,key.1.2.2.2.1,key.1.2.2.2.2.1,key.1.2.2.2.2.2⟩,⟨ah,key.2.1,key.2.2.1,key.2.2.2.1,key.2.2.2.2.1,key.2.2.2.2.2.1,key.2.2.2.2.2.2⟩⟩
noncomputable def dk(k i j:Int):aJ:=[.inl k,.inl i,.inl j]
theorem pR{k i j k' i' j':Int}(h:dk k i j=dk k' i' j'):k=k'/\i=i'/\j=j':=by
 unfold dk at h;simp only[List.cons.injEq,Sum.inl.injEq,and_true]at h;exact h
noncomputable def bX(d:Addr)(H H':Hp):Prop:=∀b o,b≠d->H b=some o->H' b=some o
theorem bX.of{d:Addr}{H H':Hp}(s:Same H H'):bX d H H':=λb o _ e=>s b o e
theorem bX.trans{d:Addr}{H H1 H2:Hp}(a:bX d H H1)(b:bX d H1 H2):bX d H H2:=λc o n e=>b c o n (a c o n e)
theorem bX.upd{d:Addr}{H:Hp}{o:HO}:bX d H (upd H d o):=λb o' n e=>by rw[aN n];exact e
theorem bX.t{d:Addr}{H H':Hp}(b:bX d H H')(hd:∀xs,H d≠some (.tup xs)):SameT H H':=λx xs e=>b x _ (λz=>hd xs (by rw[<- z];exact e)) e
theorem bX.same{d:Addr}{H0 H H':Hp}(b:bX d H H')(s:Same H0 H)(h:H0 d=none):Same H0 H':=λc o e=>b c o (λz=>by rw[z,h]at e;cases e) (s c o e)
noncomputable def NoT(o:HO):Prop:=(∀xs,o≠.tup xs)/\∀ob xs,o≠.frz ob (.tup xs)
theorem lY{K:W.Frag}{H H':Hp}{a d:Addr}{xs:List V}{od:HO}(h:TpK K H a xs)(b:bX d H H')(hd:H d=some od)(n:NoT od):TpK K H' a xs:=h.imp_left λh=>b _ _ (λz=>n.1 xs (by rw[z,hd]at h;cases h;rfl)) h
theorem eZ.but{K:W.Frag}{H H':Hp}{v:V}{o:Option (N4×N4)}{d:Addr}{od:HO}(h:eZ K H v o)(b:bX d H H')(hd:H d=some od)(n:NoT od):eZ K H' v o:=by
 cases o with
 | none=>exact h
 | some lm =>
  obtain⟨t,p,q,e,f,n1,n2⟩:=h;exact⟨t,p,q,e,b _ _ (λz=>n.1 _ (by rw[z,hd]at f;cases f;rfl)) f,⟨lY n1.at_ b hd n,n1.b0,n1.b1,n1.b2,n1.b3,n1.p2,n1.p3⟩,⟨lY n2.at_ b hd n,n2.b0,n2.b1,n2.b2,n2.b3,n2.p2,n2.p3⟩⟩
theorem mz{kvs:List (List Key×V)}:NoT (.dT kvs):=⟨(λ_ z=>by cases z),(λ_ _ z=>by cases z)⟩
structure BJ(K:W.Frag)(H:Hp)(d:Addr)(G:Int->Int->Int->Option (N4×N4))(D:Int->Int->Int->Prop)(n:Nat):Prop where
 ex:∃kvs:List (List Key×V),H d=some (.dT kvs)/\kvs.length=n/\(∀k i j,D k i j->∃v,dB kvs (dk k i j)=some v/\eZ K H v (G k i j))/\∀k i j,¬D k i j->dB kvs (dk k i j)=none
theorem BJ.mono{K:W.Frag}{H H':Hp}{d:Addr}{G:Int->Int->Int->Option (N4×N4)}{D:Int->Int->Int->Prop}{n:Nat}(h:BJ K H d G D n)(s:Same H H'):BJ K H' d G D n:=by
 obtain⟨kvs,e,l,a,b⟩:=h.ex;exact⟨kvs,s _ _ e,l,λk i j x=>let ⟨v,e,g⟩:=a k i j x;⟨v,e,g.mono s⟩,b⟩
theorem BJ.congr{K:W.Frag}{H:Hp}{d:Addr}{G:Int->Int->Int->Option (N4×N4)}{D D':Int->Int->Int->Prop}{n n':Nat}(h:BJ K H d G D n)(e:∀k i j,D k i j↔D' k i j)(en:n=n'):BJ K H d G D' n':=by
 subst en;obtain⟨kvs,e',l,a,b⟩:=h.ex;exact⟨kvs,e',l,λk i j x=>a k i j ((e k i j).mpr x),λk i j x=>b k i j λy=>x ((e k i j).mp y)⟩
theorem rs0{A p q:Prop}{z:Int}{j:Nat}:((A\/(p/\q/\0<=z/\z<(j:Int)))\/(p/\q/\z=(j:Int)))↔A\/(p/\q/\0<=z/\z<((j+1:Nat):Int)):=by
 constructor
 ·rintro((h|⟨a,b,c,d⟩)|⟨a,b,c⟩)
  ·exact .inl h
  ·exact .inr ⟨a,b,c,by clear a b c;omega⟩
  ·exact .inr ⟨a,b,by clear a b;omega,by clear a b;omega⟩
 ·rintro(h|⟨a,b,c,d⟩)
  ·exact .inl (.inl h)
  ·rcases Int.lt_or_eq_of_le (show z<=(j:Int) by clear a b c;omega) with e|e
   ·exact .inl (.inr ⟨a,b,c,e⟩)
   ·exact .inr ⟨a,b,e⟩
theorem rs1{A p q:Prop}{z:Int}{j:Nat}:((A\/(p/\q/\0<=z/\z<(j:Int)))\/(p/\z=(j:Int)/\q))↔A\/(p/\q/\0<=z/\z<((j+1:Nat):Int)):=by
 rw[and_comm (a:=z=(j:Int)) (b:=q)];exact rs0
theorem re0{p:Prop}{x y M:Int}{i c:Nat}(e:(c:Int)=M):((p/\(0<=x/\x<(i:Int))/\0<=y/\y<M)\/(p/\x=(i:Int)/\0<=y/\y<(c:Int)))↔p/\(0<=x/\x<((i+1:Nat):Int))/\0<=y/\y<M:=by
 subst e;constructor
 ·rintro(⟨a,b,c⟩|⟨a,b,c⟩)
  ·exact⟨a,⟨b.1,by clear a c;omega⟩,c⟩
  ·exact⟨a,⟨by clear a c;omega,by clear a c;omega⟩,c⟩
 ·rintro⟨a,b,c⟩
  rcases Int.lt_or_eq_of_le (show x<=(i:Int) by clear a c;omega) with e|e
  ·exact .inl ⟨a,⟨b.1,e⟩,c⟩
  ·exact .inr ⟨a,e,c⟩
theorem re1{A p:Prop}{x y M:Int}{j c:Nat}(e:(c:Int)=M):((A\/(p/\(0<=x/\x<M)/\0<=y/\y<(j:Int)))\/(p/\y=(j:Int)/\0<=x/\x<(c:Int)))↔A\/(p/\(0<=x/\x<M)/\0<=y/\y<((j+1:Nat):Int)):=by
 subst e;constructor
 ·rintro((h|⟨a,b,c⟩)|⟨a,b,c⟩)
  ·exact .inl h
  ·exact .inr ⟨a,b,c.1,by clear a b;omega⟩
  ·exact .inr ⟨a,c,by clear a c;omega,by clear a c;omega⟩
 ·rintro(h|⟨a,b,c⟩)
  ·exact .inl (.inl h)
  ·rcases Int.lt_or_eq_of_le (show y<=(j:Int) by clear a b;omega) with e|e
   ·exact .inl (.inr ⟨a,b,c.1,e⟩)
   ·exact .inr ⟨a,e,b⟩
theorem qz{x n:Int}:x<n↔x<=n - 1:=by omega
theorem BJ.put{K:W.Frag}{H:Hp}{d t:Addr}{G:Int->Int->Int->Option (N4×N4)}{D:Int->Int->Int->Prop}{n:Nat}{k i j:Int}{v:V}(h:BJ K H d G D n)(ht:H t=some (.tup ((dk k i j).map kV)))(g:eZ K H v (G k i j))(new:¬D k i j)(hn:n<1000) :
  ∃H',ku H d (.ref t) v H'/\BJ K H' d G (λk' i' j'=>D k' i' j'\/(k'=k/\i'=i/\j'=j)) (n+1)/\bX d H H':=by
 obtain⟨kvs,e,l,a,b⟩:=h.ex;refine⟨_,ku.t (k:=dk k i j) (v:=v) e ht (by have:=aZ (n:=kvs.length) (by omega);exact this),⟨_,upd_same,?_,λk' i' j' x=>?_,λk' i' j' x=>?_⟩,bX.upd⟩
 ·rw[gZ _ (b k i j new),List.length_append,l];rfl
 ·rw[gQ]
  by_cases z:dk k' i' j'=dk k i j
  ·rw[if_pos z]
   obtain⟨rfl,rfl,rfl⟩:=pR z;exact⟨v,rfl,g.but bX.upd e mz⟩
  ·rw[if_neg z]
   rcases x with x|⟨rfl,rfl,rfl⟩
   ·obtain⟨v',e',g'⟩:=a k' i' j' x
    exact⟨v',e',g'.but bX.upd e mz⟩
   ·exact absurd rfl z
 ·rw[gQ,if_neg (λz=>x (.inr (pR z)))]
  exact b k' i' j' λy=>x (.inl y)
theorem BJ.get{K:W.Frag}{H:Hp}{d t:Addr}{G:Int->Int->Int->Option (N4×N4)}{D:Int->Int->Int->Prop}{n:Nat}{k i j:Int}(h:BJ K H d G D n)(ht:H t=some (.tup ((dk k i j).map kV))):∃o,fW H d (.ref t) o/\(D k i j->∃v,o=some v/\eZ K H v (G k i j))/\(¬D k i j->o=none):=by
 obtain⟨kvs,e,l,a,b⟩:=h.ex;exact⟨_,fW.t e ht,a k i j,b k i j⟩
noncomputable def DIn(n m:Int)(k i j:Int):Prop:=(k=0/\(0<=i/\i<=n)/\0<=j/\j<m)\/(k=1/\(0<=i/\i<n)/\0<=j/\j<=m)
noncomputable def cnX(qs:Crn)(i:Int):Int:=(qs.getD i.toNat (0,0,0)).2.1
noncomputable def cnY(qs:Crn)(i:Int):Int:=(qs.getD i.toNat (0,0,0)).2.2
noncomputable def cB(qs rs:Crn)(a b room:Int)(k i j:Int):Option (N4×N4) :=
 if k=0 then cP (cnX qs i) (cnY qs i) (cnX rs j) (cnY rs j) (cnX rs (j+1)) (cnY rs (j+1)) a b room
 else cP (cnX rs j) (cnY rs j) (cnX qs i) (cnY qs i) (cnX qs (i+1)) (cnY qs (i+1)) a b room
noncomputable def kr(K:W.Frag)(H:Hp)(d:Addr)(n m:Int)(G:Int->Int->Int->Option (N4×N4)):Prop:=∃c,BJ K H d G (DIn n m) c
theorem kr.mono{K:W.Frag}{H H':Hp}{d:Addr}{n m:Int}{G:Int->Int->Int->Option (N4×N4)}(h:kr K H d n m G)(s:Same H H'):kr K H' d n m G:=let ⟨c,x⟩:=h;⟨c,x.mono s⟩
noncomputable def dbl(qs:Crn):Crn:=if qs.length=1 then qs++qs else qs
theorem mO{qs:Crn}(h:1<=qs.length/\qs.length<=10):2<=(dbl qs).length/\(dbl qs).length<=10:=by
 unfold dbl
 split
 ·rw[List.length_append];omega
 ·omega
theorem _root_.Sp7.LineM.cn{H:Hp}{l:Addr}{qs:Crn}(L:LineM H l qs){i:Int}(h0:0<=i)(h1:i<(qs.length:Int)):∃p,atI (qs.map λ(q:Addr×Int×Int)=>V.ref q.1) i=some (.ref p)/\Cn H p (cnX qs i) (cnY qs i):=by
 have hi:i.toNat<qs.length:=by omega
 have e:qs.getD i.toNat (0,0,0)=qs[i.toNat]:=by rw[List.getD_eq_getElem?_getD,List.getElem?_eq_getElem hi];rfl
 have c:=L.crn _ (List.getElem_mem hi);refine⟨qs[i.toNat].1,?_,?_⟩
 ·have:atI (qs.map λ(q:Addr×Int×Int)=>V.ref q.1) ((i.toNat:Nat):Int)=some (.ref qs[i.toNat].1):=dP (by rw[List.getElem?_map,List.getElem?_eq_getElem hi];rfl)
  rw[show((i.toNat:Nat):Int)=i by omega]at this;exact this
 ·unfold cnX cnY
  rw[e];exact⟨c.1,eB c.2.1,eB c.2.2⟩
theorem qK{K:W.Frag}{H:Hp}{v:V}{p q r s:Addr}{cx cy bx by_ ex ey a b room:Int}(hr:room=0\/room=1)(hb:0<b)(c1:Cn H p cx cy)(c2:Cn H q bx by_)(c3:Cn H r ex ey)(sq:Sq H s a b)
  (h:Pw K H v (pwN cx cy bx by_ ex ey a b room) (decide ([bx,by_] = [ex,ey])) (rAl cx cy bx by_ ex ey*b) (rUn cx cy bx by_ ex ey a b) (cM bx by_ ex ey*b)):eZ K H v (cP cx cy bx by_ ex ey a b room) :=
 uN hr hb sq.ba sq.bb (aW c3.bx c2.bx) (aW c3.by_ c2.by_) (aW c1.bx c2.bx) (aW c1.by_ c2.by_) h
inductive Gg (vs:List V) (H:Hp) (Q:VK) (x_3:XK):Prop
 | mk:∀(l:Addr) (qs:Crn),(vs = [.ref l])->(LineM H l qs)->((1<=qs.length/\qs.length<=10))->(∀r H',Same H H'->LineM H' r (dbl qs)->Q (.ref r) H')->Gg vs H Q x_3
inductive EE (K:W.Frag) (vs:List V) (H:Hp) (Q:VK) (x_3:XK):Prop
 | mk:∀(l1 l2 sp:Addr) (qs rs:Crn) (a b room:Int),(vs = [.ref l1,.ref l2,.ref sp,.int room])->(LineM H l1 qs)->(LineM H l2 rs)->((2<=qs.length/\qs.length<=10))->((2<=rs.length/\rs.length<=10))->((Sq H sp a b/\0<b))->((room=0\/room=1))->(∀d H',Same H H'->H d=none->kr K H' d ((qs.length:Int) - 1) ((rs.length:Int) - 1) (cB qs rs a b room)->Q (.ref d) H')->EE K vs H Q x_3
structure A9(K:W.Frag)(C:Addr)(H:Hp)(f:Addr)(n m:Nat)(room:Int)(G:Int->Int->Int->Option (N4×N4))(F:Int->Int->Bool):Prop where
 ex:∃dx lt d fr,H f=some (.ins C dx [("room",.int room),("last",.ref lt),("doors",.ref d),("far",.ref fr)])/\H lt=some (.tup [.int (n:Int),.int (m:Int)])/\kr K H d n m G/\mU H fr n m F
theorem A9.mono{K:W.Frag}{C:Addr}{H H':Hp}{f:Addr}{n m:Nat}{room:Int}{G:Int->Int->Int->Option (N4×N4)}{F:Int->Int->Bool}(h:A9 K C H f n m room G F)(s:Same H H'):A9 K C H' f n m room G F:=by
 obtain⟨dx,lt,d,fr,h1,h2,h3,h4⟩:=h.ex;exact⟨dx,lt,d,fr,s _ _ h1,s _ _ h2,h3.mono s,h4.mono s⟩
noncomputable def bH(qs:Crn):Nat:=(dbl qs).length - 1
inductive D3 (K:W.Frag) (C:Addr) (vs:List V) (H:Hp) (Q:VK) (x_3:XK):Prop
 | mk:∀(f dx l1 l2 sp:Addr) (qs rs:Crn) (a b room:Int),(vs = [.ref f,.ref l1,.ref l2,.ref sp,.int room])->(H f=some (.ins C dx []))->(LineM H l1 qs)->(LineM H l2 rs)->((1<=qs.length/\qs.length<=10))->((1<=rs.length/\rs.length<=10))->((Sq H sp a b/\0<b))->((room=0\/room=1))->(∀H',bX f H H'->A9 K C H' f (bH qs) (bH rs) room (cB (dbl qs) (dbl rs) a b room) (d9 (dbl qs) (dbl rs) a b room)->Q .non H')->D3 K C vs H Q x_3
theorem DE:AQ ["line"] ["line"] (aq (top 36)):=smk
theorem ie(DJ:Df K mg "with_a_stretch" (top 36))(T:Txt mg):Fn P w K mg base "with_a_stretch" ["line"] 1 Gg:=by
 refine DJ.fn DE (λ_ _ _ _ _ _ us hl=>by obtain⟨_,rfl⟩:=eV hl;rfl) (λvs H Q E h=>?_) (λf cdv A outer s H vs Q E hr h=>?_)
 ·obtain⟨l,qs,rfl,_⟩:=h
  rfl
 ·obtain⟨l,qs,rfl,L,hl,k⟩:=h
  refine⟨_,(am (aB (fK (aE bR (aQ aS (by rfl) T.z_len cS (ad (pv 0) ak)) af (aH _)) (ao jq (pv 0) (pv 0)) (pv 0)))),?_⟩;have hll:(qs.map λ(q:Addr×Int×Int)=>V.ref q.1).length=qs.length:=List.length_map _;unfold dbl at k;refine⟨_,rfl,l,_,rfl,.inl (SqL.of L.lst),rfl,_,rfl,?_⟩;rw[hll,di];refine aT (λc=>?_) (λc=>?_)
  ·have c:qs.length=1:=by have:((qs.length:Nat):Int)=1:=bP c;omega
   rw[if_pos c]at k;refine⟨_,rfl,_,rfl,l,l,_,_,rfl,rfl,L.lst,L.lst,sz (by simp;omega),λr H1 s1 f1 _=>k r H1 s1 ⟨by rw[f1,List.map_append],λq hq=>?_⟩⟩;rcases List.mem_append.mp hq with h|h
   ·exact(L.mono s1).crn q h
   ·exact(L.mono s1).crn q h
  ·have c:¬qs.length=1:=λz=>bZ c (by rw[z];rfl)
   rw[if_neg c]at k;exact⟨_,rfl,k l H (Same.refl _) L⟩
theorem Bw:AQ ["one","other","square","room","doors","i","corner","j"] ["one","other","square","room"] (aq (top 37)):=smk
theorem oy(FJ:Df K mg "doors_of" (top 37))(V_UPRIGHT:∃tk,mg "UPRIGHT" = some (.int 0 tk))(V_LEVEL:∃tk,mg "LEVEL" = some (.int 1 tk))(B0:Fn P w K mg base "part_within" ["corner","begin","end","square","room"] 5 (Gj K))(BO:Fn P w K mg base "last_of" ["line"] 1 ED)(T:Txt mg):Fn P w K mg base "doors_of" ["one","other","square","room"] 6 (EE K):=by
 refine FJ.fn Bw (λ_ _ _ _ _ _ us hl=>by obtain⟨_,_,_,_,rfl⟩:=uA hl;rfl) (λvs H Q E h=>?_) (λf cdv A outer s H vs Q E hr h=>?_)
 ·obtain⟨l1,l2,sp,qs,rs,a,b,room,rfl,_⟩:=h
  rfl
 ·obtain⟨l1,l2,sp,qs,rs,a,b,room,rfl,L1,L2,hq,hr',⟨sq,hb⟩,hroom,k⟩:=h
  obtain⟨tU,AX⟩:=V_UPRIGHT;obtain⟨tL,BK⟩:=V_LEVEL;refine⟨_,(ag (ay (i:=4) Bw.nd rfl (Or.inl rfl) g7) (ag (cz PassesOwn.never rfl (jp rfl T.z_enumerate (ad (pv 0) ak)) (d8 rfl (bo (aO (i:=5) Bw.nd rfl (Or.inl rfl)) (bo (aO (i:=6) Bw.nd rfl (Or.inl rfl)) dE))) (am (cz PassesOwn.never rfl (cU rfl T.z_range (ad (aF BO (hr.mono (by decide)) (by rfl) (ad (pv 1) ak)) ak)) (aO (i:=7) Bw.nd rfl (Or.inl rfl)) (am (dY (cH hr) (pv 4) (aG (ad (aX (v:=.int 0) (by rfl) AX ⟨_,rfl⟩) (ad (pv 5) (ad (pv 7) ak)))) (aF B0 (hr.mono (by decide)) (by rfl) (ad (pv 6) (ad (az aY (pv 1) (pv 7) (λ_ _=>rfl)) (ad (az aY (pv 1) (ao aK (pv 7) af) (λ_ _=>rfl)) (ad (pv 2) (ad (pv 3) ak)))))) rfl))))) (ag (cz PassesOwn.never rfl (jp rfl T.z_enumerate (ad (pv 1) ak)) (d8 rfl (bo (aO (i:=7) Bw.nd rfl (Or.inl rfl)) (bo (aO (i:=6) Bw.nd rfl (Or.inl rfl)) dE))) (am (cz PassesOwn.never rfl (cU rfl T.z_range (ad (aF BO (hr.mono (by decide)) (by rfl) (ad (pv 0) ak)) ak)) (aO (i:=5) Bw.nd rfl (Or.inl rfl)) (am (dY (cH hr) (pv 4) (aG (ad (aX (v:=.int 1) (by rfl) BK ⟨_,rfl⟩) (ad (pv 5) (ad (pv 7) ak)))) (aF B0 (hr.mono (by decide)) (by rfl) (ad (pv 6) (ad (az aY (pv 0) (pv 5) (λ_ _=>rfl)) (ad (az aY (pv 0) (ao aK (pv 5) af) (λ_ _=>rfl)) (ad (pv 2) (ad (pv 3) ak)))))) rfl))))) (am (aB (pv 4)))))),?_⟩;have hl1:(qs.map λ(q:Addr×Int×Int)=>V.ref q.1).length=qs.length:=List.length_map _;have hl2:(rs.map λ(q:Addr×Int×Int)=>V.ref q.1).length=rs.length:=List.length_map _;generalize hG:cB qs rs a b room=G at k;have G0:∀i j:Int,G 0 i j=cP (cnX qs i) (cnY qs i) (cnX rs j) (cnY rs j) (cnX rs (j+1)) (cnY rs (j+1)) a b room:=λi j=>by rw[<- hG];rfl
  have G1:∀i j:Int,G 1 i j=cP (cnX rs j) (cnY rs j) (cnX qs i) (cnY qs i) (cnX qs (i+1)) (cnY qs (i+1)) a b room:=λi j=>by rw[<- hG];rfl
  refine λd hd=>?_;have s0:Same H (upd H d (.dT [])):=Same.new hd;refine⟨_,rfl,l1,rfl,⟨_,SqL.of (s0 _ _ L1.lst)⟩,ic (K:=K) (a:=l1) (xs:=qs.map λ(q:Addr×Int×Int)=>V.ref q.1) (λi σ H'=>∃(z5 z6 z7:Option V),σ = [some (.ref l1),some (.ref l2),some (.ref sp),some (.int room),some (.ref d),z5,z6,z7]/\Same H H'/\BJ K H' d G (λk' i' j'=>k'=0/\(0<=i'/\i'<(i:Int))/\0<=j'/\j'<(rs.length:Int) - 1) (i*(rs.length - 1)))
   ⟨_,_,_,rfl,s0,[],upd_same,(by simp),λk' i' j' h=>by omega,λ_ _ _ _=>rfl⟩ (λi σ H' _ ⟨_,_,_,_,s',_⟩=>SqL.of (s' _ _ L1.lst)) ?_ ?_⟩
  ·rintro i x pp σ H1 H2 hx ⟨z5,z6,z7,rfl,s1,e1⟩ s2 f2
   have hi:=(List.getElem?_eq_some_iff.mp hx).1;rw[hl1]at hi;obtain⟨pc,ac,c1⟩:=L1.cn (i:=(i:Int)) (by omega) (by omega);obtain rfl:x = .ref pc:=by
    have:=dP hx;rw[ac]at this;cases this;rfl
   have S2:=s1.trans s2;refine⟨pp,_,rfl,SqT.of f2,rfl,_,_,rfl,_,_,rfl,rfl,?_⟩;refine⟨_,rfl,l2,_,rfl,S2 _ _ L2.lst,_,rfl,by omega,by omega,?_⟩;have en:(((rs.map λ(q:Addr×Int×Int)=>V.ref q.1).length:Nat):Int) - 1=((rs.length - 1:Nat):Int):=by omega
   rw[en,Int.toNat_natCast];refine cV (n:=rs.length - 1) (lo:=0) (λj σ H'=>∃(z7:Option V),σ = [some (.ref l1),some (.ref l2),some (.ref sp),some (.int room),some (.ref d),some (.int (i:Int)),some (.ref pc),z7]/\Same H H'/\BJ K H' d G (λk' i' j'=>(k'=0/\(0<=i'/\i'<(i:Int))/\0<=j'/\j'<(rs.length:Int) - 1)\/(k'=0/\i'=(i:Int)/\0<=j'/\j'<(j:Int))) (i*(rs.length - 1)+j))
    ⟨_,rfl,S2,(e1.mono s2).congr (λk' i' j'=>⟨.inl,λh=>h.elim id λz=>absurd z.2.2 (by omega)⟩) rfl⟩ ?_ ?_
   ·rintro j σ H3 hj ⟨z7,rfl,s3,e3⟩
    rw[Int.zero_add];obtain⟨pb,ab,c2⟩:=L2.cn (i:=(j:Int)) (by omega) (by omega);obtain⟨pe,ae,c3⟩:=L2.cn (i:=(j:Int)+1) (by omega) (by omega);have S3:=SqL.of (K:=K) (s3 _ _ L2.lst);refine⟨_,rfl,_,rfl,_,rfl,l2,_,_,_,rfl,rfl,S3,ab,_,rfl,_,rfl,_,_,rfl,rfl,l2,_,_,_,rfl,rfl,S3,ae,_,rfl,_,rfl,pc,pb,pe,sp,_,_,_,_,_,_,a,b,room,rfl,c1.mono s3,c2.mono s3,c3.mono s3,sq.mono s3,λv H4 s4 pw=>?_⟩;have S4:=s3.trans s4;refine⟨_,rfl,_,rfl,_,rfl,sz (by simp),λt H5 s5 f5 _=>?_⟩;have S5:=S4.trans s5;have gv:eZ K H5 v (G 0 i j):=by
     rw[G0];exact(qK hroom hb (c1.mono S4) (c2.mono S4) (c3.mono S4) (sq.mono S4) pw).mono s5
    obtain⟨H6,dp,e6,b6⟩:=((e3.mono s4).mono s5).put (k:=0) (i:=(i:Int)) (j:=(j:Int)) f5 gv (by omega) (by
     have:=Nat.mul_le_mul (show i<=10 by omega) (show rs.length - 1<=9 by omega);omega)
    exact⟨d,H6,rfl,dp,_,rfl,b6.same S5 hd,e6.congr (λ_ _ _=>rs0) (by omega)⟩
   ·rintro σ H3 ⟨z7,rfl,s3,e3⟩
    exact⟨_,_,_,rfl,s3,e3.congr (λ_ _ _=>re0 (by omega)) (by rw[Nat.add_mul,Nat.one_mul])⟩
  ·rintro σ H1 ⟨z5,z6,z7,rfl,s1,e1⟩
   rw[hl1]at e1;refine⟨_,rfl,l2,rfl,⟨_,SqL.of (s1 _ _ L2.lst)⟩,ic (K:=K) (a:=l2) (xs:=rs.map λ(q:Addr×Int×Int)=>V.ref q.1) (λj σ H'=>∃(z5 z6 z7:Option V),σ = [some (.ref l1),some (.ref l2),some (.ref sp),some (.int room),some (.ref d),z5,z6,z7]/\Same H H'/\BJ K H' d G (λk' i' j'=>(k'=0/\(0<=i'/\i'<(qs.length:Int))/\0<=j'/\j'<(rs.length:Int) - 1)\/(k'=1/\(0<=i'/\i'<(qs.length:Int) - 1)/\0<=j'/\j'<(j:Int))) (qs.length*(rs.length - 1)+j*(qs.length - 1)))
    ⟨_,_,_,rfl,s1,e1.congr (λk' i' j'=>⟨.inl,λh=>h.elim id λz=>absurd z.2.2 (by omega)⟩) (by simp)⟩ (λi σ H' _ ⟨_,_,_,_,s',_⟩=>SqL.of (s' _ _ L2.lst)) ?_ ?_⟩
   ·rintro j x pp σ H1 H2 hx ⟨z5,z6,z7,rfl,s1,e1⟩ s2 f2
    have hj:=(List.getElem?_eq_some_iff.mp hx).1;rw[hl2]at hj;obtain⟨pc,ac,c1⟩:=L2.cn (i:=(j:Int)) (by omega) (by omega);obtain rfl:x = .ref pc:=by
     have:=dP hx;rw[ac]at this;cases this;rfl
    have S2:=s1.trans s2;refine⟨pp,_,rfl,SqT.of f2,rfl,_,_,rfl,_,_,rfl,rfl,?_⟩;refine⟨_,rfl,l1,_,rfl,S2 _ _ L1.lst,_,rfl,by omega,by omega,?_⟩;have en:(((qs.map λ(q:Addr×Int×Int)=>V.ref q.1).length:Nat):Int) - 1=((qs.length - 1:Nat):Int):=by omega
    rw[en,Int.toNat_natCast];refine cV (n:=qs.length - 1) (lo:=0) (λi σ H'=>∃(z5:Option V),σ = [some (.ref l1),some (.ref l2),some (.ref sp),some (.int room),some (.ref d),z5,some (.ref pc),some (.int (j:Int))]/\Same H H'/\BJ K H' d G (λk' i' j'=>((k'=0/\(0<=i'/\i'<(qs.length:Int))/\0<=j'/\j'<(rs.length:Int) - 1)\/(k'=1/\(0<=i'/\i'<(qs.length:Int) - 1)/\0<=j'/\j'<(j:Int)))\/(k'=1/\j'=(j:Int)/\0<=i'/\i'<(i:Int))) (qs.length*(rs.length - 1)+j*(qs.length - 1)+i))
     ⟨_,rfl,S2,(e1.mono s2).congr (λk' i' j'=>⟨.inl,λh=>h.elim id λz=>absurd z.2.2 (by omega)⟩) rfl⟩ ?_ ?_
    ·rintro i σ H3 hi ⟨z7,rfl,s3,e3⟩
     rw[Int.zero_add];obtain⟨pb,ab,c2⟩:=L1.cn (i:=(i:Int)) (by omega) (by omega);obtain⟨pe,ae,c3⟩:=L1.cn (i:=(i:Int)+1) (by omega) (by omega);have S3:=SqL.of (K:=K) (s3 _ _ L1.lst);refine⟨_,rfl,_,rfl,_,rfl,l1,_,_,_,rfl,rfl,S3,ab,_,rfl,_,rfl,_,_,rfl,rfl,l1,_,_,_,rfl,rfl,S3,ae,_,rfl,_,rfl,pc,pb,pe,sp,_,_,_,_,_,_,a,b,room,rfl,c1.mono s3,c2.mono s3,c3.mono s3,sq.mono s3,λv H4 s4 pw=>?_⟩;have S4:=s3.trans s4;refine⟨_,rfl,_,rfl,_,rfl,sz (by simp),λt H5 s5 f5 _=>?_⟩;have S5:=S4.trans s5;have gv:eZ K H5 v (G 1 i j):=by
      rw[G1];exact(qK hroom hb (c1.mono S4) (c2.mono S4) (c3.mono S4) (sq.mono S4) pw).mono s5
     obtain⟨H6,dp,e6,b6⟩:=((e3.mono s4).mono s5).put (k:=1) (i:=(i:Int)) (j:=(j:Int)) f5 gv (by omega) (by
      have:=Nat.mul_le_mul (show qs.length<=10 by omega) (show rs.length - 1<=9 by omega);have:=Nat.mul_le_mul (show j<=10 by omega) (show qs.length - 1<=9 by omega);omega)
     exact⟨d,H6,rfl,dp,_,rfl,b6.same S5 hd,e6.congr (λ_ _ _=>rs1) (by omega)⟩
    ·rintro σ H3 ⟨z7,rfl,s3,e3⟩
     exact⟨_,_,_,rfl,s3,e3.congr (λ_ _ _=>re1 (by omega)) (by rw[Nat.add_mul,Nat.one_mul];omega)⟩
   ·rintro σ H2 ⟨z5,z6,z7,rfl,s2,e2⟩
    rw[hl2]at e2;exact⟨_,rfl,k d H2 s2 hd ⟨_,e2.congr (λk' i' j'=>by unfold DIn;rw[<- qz,<- qz]) rfl⟩⟩
theorem vZ{C dx:Addr}{fs:List (Str×V)}:NoT (.ins C dx fs):=⟨(λ_ z=>by cases z),(λ_ _ z=>by cases z)⟩
theorem eS{H H':Hp}{l f C dx:Addr}{qs:Crn}{fs:List (Str×V)}(L:LineM H l qs)(b:bX f H H')(hf:H f=some (.ins C dx fs)):LineM H' l qs :=
 ⟨b _ _ (λz=>by have:=L.lst;rw[z,hf]at this;cases this) L.lst,λq hq=>⟨b _ _ (λz=>by have:=(L.crn q hq).1;rw[z,hf]at this;cases this) (L.crn q hq).1,(L.crn q hq).2⟩⟩
theorem fY{H H':Hp}{p f C dx:Addr}{xs:List V}{fs:List (Str×V)}(h:H p=some (.tup xs))(b:bX f H H')(hf:H f=some (.ins C dx fs)):H' p=some (.tup xs):=b _ _ (λz=>by rw[z,hf]at h;cases h) h
theorem lP{K:W.Frag}{H H':Hp}{d f C dx:Addr}{n m:Int}{G:Int->Int->Int->Option (N4×N4)}{fs:List (Str×V)}(h:kr K H d n m G)(b:bX f H H')(hf:H f=some (.ins C dx fs)):kr K H' d n m G:=by
 obtain⟨c,⟨kvs,e,l,a,z⟩⟩:=h;exact⟨c,⟨kvs,b _ _ (λy=>by rw[y,hf]at e;cases e) e,l,λk i j x=>let ⟨v,e,g⟩:=a k i j x;⟨v,e,g.but b hf vZ⟩,z⟩⟩
theorem wE{H H':Hp}{d f C dx:Addr}{m n:Nat}{F:Int->Int->Bool}{fs:List (Str×V)}(h:mU H d m n F)(b:bX f H H')(hf:H f=some (.ins C dx fs)):mU H' d m n F:=by
 obtain⟨o,e⟩:=h;exact⟨o,b _ _ (λy=>by rw[y,hf]at e;cases e) e⟩
theorem Ck:AQ ["self","one","other","square","room","first","second"] ["self","one","other","square","room"] (aq (v5 39 0)):=smk
theorem jj(Cu:HZ K C_Field "__init__" "Field.__init__" (v5 39 0))(AS:Dz K mg "Field" C_Field)(n_room:aR K C_Field "room")(n_last:aR K C_Field "last")(n_doors:aR K C_Field "doors")(n_far:aR K C_Field "far")(BE:Fn P w K mg base "with_a_stretch" ["line"] 1 Gg)(BO:Fn P w K mg base "last_of" ["line"] 1 ED)(Ds:Fn P w K mg base "doors_of" ["one","other","square","room"] 6 (EE K))(Cz:Fn P w K mg base "far_corners" ["one","other","square","room"] 3 Gw)(T:Txt mg):Mt P w K mg base C_Field "__init__" ["self","one","other","square","room"] 7 (D3 K C_Field):=by
 refine Cu.mt Ck (λ_ _ _ _ _ _ us hl=>by obtain⟨_,_,_,_,_,rfl⟩:=v7 hl;rfl) (λvs H Q E h=>?_) (λf cdv A outer s H vs Q E hr h=>?_)
 ·obtain⟨f,dx,l1,l2,sp,qs,rs,a,b,room,rfl,_⟩:=h
  rfl
 ·obtain⟨f,dx,l1,l2,sp,qs,rs,a,b,room,rfl,hf,L1,L2,hq,hr',⟨sq,hb⟩,hroom,k⟩:=h
  refine⟨_,(ag (ay (i:=5) Ck.nd rfl (Or.inl rfl) (aF BE (hr.mono (by decide)) (by rfl) (ad (pv 1) ak))) (ag (ay (i:=6) Ck.nd rfl (Or.inl rfl) (aF BE (hr.mono (by decide)) (by rfl) (ad (pv 2) ak))) (ag (l9 (pv 0) (pv 4) rfl) (ag (l9 (pv 0) (aG (ad (aF BO (hr.mono (by decide)) (by rfl) (ad (pv 5) ak)) (ad (aF BO (hr.mono (by decide)) (by rfl) (ad (pv 6) ak)) ak))) rfl) (ag (l9 (pv 0) (aF Ds (hr.mono (by decide)) (by rfl) (ad (pv 5) (ad (pv 6) (ad (pv 3) (ad (pv 4) ak))))) rfl) (am (l9 (pv 0) (aF Cz (hr.mono (by decide)) (by rfl) (ad (pv 5) (ad (pv 6) (ad (pv 3) (ad (pv 4) ak))))) rfl))))))),?_⟩;have dq:=mO hq;have dr:=mO hr';have h1:((dbl qs).map λ(q:Addr×Int×Int)=>V.ref q.1).length=(dbl qs).length:=List.length_map _;have h2:((dbl rs).map λ(q:Addr×Int×Int)=>V.ref q.1).length=(dbl rs).length:=List.length_map _;refine⟨_,rfl,l1,qs,rfl,L1,hq,λr1 H1 s1 F1=>?_⟩;refine⟨_,rfl,l2,rs,rfl,L2.mono s1,hr',λr2 H2 s2 F2=>?_⟩;have S2:=s1.trans s2;have f2:=S2 _ _ hf;refine⟨_,rfl,_,rfl,f,C_Field,dx,[],rfl,f2,AS.cls,n_room,by simp,?_⟩;have b3:bX f H2 (upd H2 f (.ins C_Field dx (dD "room" (.int room) []))):=bX.upd;have f3:(upd H2 f (.ins C_Field dx (dD "room" (.int room) []))) f=some (.ins C_Field dx [("room",.int room)]):=upd_same;have A3:=eS (F1.mono s2) b3 f2;have B3:=eS F2 b3 f2;have Q3:Sq (upd H2 f (.ins C_Field dx (dD "room" (.int room) []))) sp a b:=⟨fY (S2 _ _ sq.at_) b3 f2,sq.ba,sq.bb⟩;generalize upd H2 f (.ins C_Field dx (dD "room" (.int room) []))=H3 at b3 f3 A3 B3 Q3;refine⟨_,rfl,r1,_,rfl,A3.lst,_,rfl,r2,_,rfl,B3.lst,sz (by simp),λlt H4 s4 f4 n4=>?_⟩;have f4':=s4 _ _ f3;refine⟨_,rfl,f,C_Field,dx,_,rfl,f4',AS.cls,n_last,by simp,?_⟩;have b5:bX f H4 (upd H4 f (.ins C_Field dx (dD "last" (.ref lt) [("room",.int room)]))):=bX.upd;have f5:(upd H4 f (.ins C_Field dx (dD "last" (.ref lt) [("room",.int room)]))) f=some (.ins C_Field dx [("room",.int room),("last",.ref lt)]):=upd_same;have A5:=eS (A3.mono s4) b5 f4';have B5:=eS (B3.mono s4) b5 f4';have Q5:Sq (upd H4 f (.ins C_Field dx (dD "last" (.ref lt) [("room",.int room)]))) sp a b:=⟨fY (s4 _ _ Q3.at_) b5 f4',sq.ba,sq.bb⟩;have T5:=fY f4 b5 f4';generalize upd H4 f (.ins C_Field dx (dD "last" (.ref lt) [("room",.int room)]))=H5 at b5 f5 A5 B5 Q5 T5;refine⟨_,rfl,_,rfl,_,rfl,_,rfl,r1,r2,sp,dbl qs,dbl rs,a,b,room,rfl,A5,B5,dq,dr,⟨Q5,hb⟩,hroom,λd H6 s6 nd D6=>?_⟩;have f6:=s6 _ _ f5;refine⟨_,rfl,f,C_Field,dx,_,rfl,f6,AS.cls,n_doors,by simp,?_⟩;have b7:bX f H6 (upd H6 f (.ins C_Field dx (dD "doors" (.ref d) [("room",.int room),("last",.ref lt)]))):=bX.upd;have f7:(upd H6 f (.ins C_Field dx (dD "doors" (.ref d) [("room",.int room),("last",.ref lt)]))) f=some (.ins C_Field dx [("room",.int room),("last",.ref lt),("doors",.ref d)]):=upd_same;have A7:=eS (A5.mono s6) b7 f6;have B7:=eS (B5.mono s6) b7 f6;have Q7:Sq (upd H6 f (.ins C_Field dx (dD "doors" (.ref d) [("room",.int room),("last",.ref lt)]))) sp a b:=⟨fY (s6 _ _ Q5.at_) b7 f6,sq.ba,sq.bb⟩;have T7:=fY (s6 _ _ T5) b7 f6;have D7:=lP D6 b7 f6;generalize upd H6 f (.ins C_Field dx (dD "doors" (.ref d) [("room",.int room),("last",.ref lt)]))=H7 at b7 f7 A7 B7 Q7 T7 D7;refine⟨_,rfl,_,rfl,_,rfl,_,rfl,r1,r2,sp,dbl qs,dbl rs,a,b,room,rfl,A7,B7,⟨by omega,by omega⟩,⟨by omega,by omega⟩,Q7,λfr H8 s8 D8=>?_⟩;have f8:=s8 _ _ f7;refine⟨_,rfl,f,C_Field,dx,_,rfl,f8,AS.cls,n_far,by simp,?_⟩;have b9:bX f H8 (upd H8 f (.ins C_Field dx (dD "far" (.ref fr) [("room",.int room),("last",.ref lt),("doors",.ref d)]))):=bX.upd;have e1:(((dbl qs).length:Nat):Int) - 1=((bH qs:Nat):Int):=by unfold bH;omega
  have e2:(((dbl rs).length:Nat):Int) - 1=((bH rs:Nat):Int):=by unfold bH;omega
  refine k _ ((bX.of S2).trans (b3.trans ((bX.of s4).trans (b5.trans ((bX.of s6).trans (b7.trans ((bX.of s8).trans b9))))))) ⟨dx,lt,d,fr,upd_same,?_,?_,wE D8 b9 f8⟩
  ·have:=fY (s8 _ _ T7) b9 f8
   rw[h1,h2,e1,e2]at this;exact this
  ·have:=lP (D7.mono s8) b9 f8
   rw[e1,e2]at this;exact this
theorem Nm.rt{K:W.Frag}{H:Hp}{p:Addr}{l:N4}(h:Nm K H p l):Rt K H p l.1 l.2.1 l.2.2.1 l.2.2.2:=⟨h.at_.sq,ap h.b0 (by decide),ap h.b1 (by decide),ap h.b2 (by decide),ap h.b3 (by decide)⟩
inductive HM:N4->N4->Prop
 | flat:HM (0,0,0,1) (1,0,0,1)
 | gate {P U L:Int} (hL:0<L) (hU:0<=U) (h1:0<=ro 1 0 0 1 P (-1) U L) (h2:0<=ro P 1 U L 0 0 0 1):HM (eM P U L) (dA P U L)
theorem uJ{cx cy bx by_ ex ey x y room:Int}{l m:N4}(hr:room=0\/room=1)(hy:0<y)(h:cP cx cy bx by_ ex ey x y room=some (l,m)):HM l m:=by
 unfold cP at h
 by_cases hN:pwN cx cy bx by_ ex ey x y room=true
 ·rw[if_pos hN]at h
  cases h
 ·rw[if_neg hN]at h
  have hN:pwN cx cy bx by_ ex ey x y room=false:=by simpa using hN
  injection h with h;injection h with e1 e2
  by_cases hs:[bx,by_] = [ex,ey]
  ·rw[decide_eq_true hs,if_pos rfl]at e1 e2
   rw[<- e1,<- e2];exact .flat
  ·rw[decide_eq_false hs,if_neg (by decide)]at e1 e2
   have gv:=qG (cx:=cx) (cy:=cy) (x:=x) hs hy;rw[<- e1,<- e2];unfold pwN at hN;rw[if_neg hs,Bool.or_eq_false_iff,decide_eq_false_iff_not,Bool.or_eq_false_iff,decide_eq_false_iff_not,decide_eq_false_iff_not]at hN;have:=lg (x:=rUn cx cy bx by_ ex ey x y);exact .gate gv.lpos (by rcases hr with rfl|rfl <;> omega) (by rcases hr with rfl|rfl <;> omega) (by rcases hr with rfl|rfl <;> omega)
structure GR(H:Hp)(q:Pr):Prop where
 p_:H q.p=some (.tup [.ref q.x,.ref q.y])
 x_:H q.x=some (.tup [.int q.a,.int q.b])
 y_:H q.y=some (.tup [.int q.c,.int q.d])
 lx:Em q.a q.b
 ly:Em q.c q.d
 nx:0<=q.a
 ny:0<=q.c
 ba:ax q.a<=5300
 bb:ax q.b<=5300
 bc:ax q.c<=5300
 bd:ax q.d<=5300
theorem GR.t{H H':Hp}{q:Pr}(h:GR H q)(s:SameT H H'):GR H' q:=⟨s _ _ h.p_,s _ _ h.x_,s _ _ h.y_,h.lx,h.ly,h.nx,h.ny,h.ba,h.bb,h.bc,h.bd⟩
theorem _root_.Wk.PrAt.two{H:Hp}{q:Pr}(h:PrAt H q):GR H q:=⟨h.p_,h.x_,h.y_,h.lx,h.ly,h.nx,h.ny,ap h.ba (by decide),ap h.bb (by decide),ap h.bc (by decide),ap h.bd (by decide)⟩
structure GE(H:Hp)(l:Addr)(ps:List Pr):Prop where
 lst:H l=some (.lst (prs ps))
 pr:∀q∈ps,GR H q
theorem GE.mono{H H':Hp}{l:Addr}{ps:List Pr}(h:GE H l ps)(s:Same H H'):GE H' l ps:=⟨s _ _ h.lst,λq hq=>(h.pr q hq).t s.t⟩
noncomputable def uY(k i j t u:Int)(q:Pr):Prop:=(k=0/\q.a=i/\q.b=1/\q.c=j*u+t/\q.d=u)\/(k=1/\q.a=i*u+t/\q.b=u/\q.c=j/\q.d=1)
inductive FU (vs:List V) (H:Hp) (Q:VK) (x_3:XK):Prop
 | mk:∀(t p:Addr) (k i j a b:Int),(vs = [.ref t,.ref p])->(H t=some (.tup ((dk k i j).map kV)))->((k=0\/k=1))->((0<=i/\i<=1000))->((0<=j/\j<=1000))->((Ga H p a b 2600/\0<=a/\a<=b))->(∀(q:Pr) H',Same H H'->GR H' q->uY k i j a b q->Q (.ref q.p) H')->FU vs H Q x_3
theorem jT{a b n:Int}(h:Em a b):Em (n*b+a) b:=by
 refine⟨h.pos,?_⟩;have:=h.one;rw[Int.add_comm,Int.mul_comm];rw[Int.gcd_add_mul_left_left];exact this
theorem D4:AQ ["door","part"] ["door","part"] (aq (top 44)):=smk
theorem jf(Eh:Df K mg "pair_in_door" (top 44))(V_UPRIGHT:∃tk,mg "UPRIGHT" = some (.int 0 tk))(EL:Fn P w K mg base "plus" ["a","b"] 3 (Gz (λa b c d=>a*d+c*b) (λa b c d=>b*d))):Fn P w K mg base "pair_in_door" ["door","part"] 4 FU:=by
 refine Eh.fn D4 (λ_ _ _ _ _ _ us hl=>by obtain⟨_,_,rfl⟩:=dh hl;rfl) (λvs H Q E h=>?_) (λf cdv A outer s H vs Q E hr h=>?_)
 ·obtain⟨t,p,k,i,j,a,b,rfl,_⟩:=h
  rfl
 ·obtain⟨t,p,k,i,j,a,b,rfl,ht,hk,bi,bj,⟨fr,a0,ab⟩,kq⟩:=h
  obtain⟨tU,AX⟩:=V_UPRIGHT;refine⟨_,(ag (aM (aE bR (az ar (pv 0) af (λ_ _=>rfl)) (aX (v:=.int 0) (by rfl) AX ⟨_,rfl⟩) (aH _)) (am (aB (@aG _ _ _ _ _ (@ad _ _ _ _ _ (@aG _ _ _ _ _ (@ad _ _ _ _ _ (az ar (pv 0) af (λ_ _=>rfl)) (@ad _ _ _ _ _ af ak (by rfl)) (by rfl))) (@ad _ _ _ _ _ (aF EL (hr.mono (by decide)) (by rfl) (ad (aG (ad (az ar (pv 0) af (λ_ _=>rfl)) (ad af ak))) (ad (pv 1) ak))) ak (by rfl)) (by rfl))))) aI) (am (aB (@aG _ _ _ _ _ (@ad _ _ _ _ _ (aF EL (hr.mono (by decide)) (by rfl) (ad (aG (ad (az ar (pv 0) af (λ_ _=>rfl)) (ad af ak))) (ad (pv 1) ak))) (@ad _ _ _ _ _ (@aG _ _ _ _ _ (@ad _ _ _ _ _ (az ar (pv 0) af (λ_ _=>rfl)) (@ad _ _ _ _ _ af ak (by rfl)) (by rfl))) ak (by rfl)) (by rfl)))))),?_⟩;have ht:H t=some (.tup [.int k,.int i,.int j]):=ht;have hb:=fr.low.pos;have T:=λ{H':Hp} (s:Same H H')=>SqT.of (K:=K) (s _ _ ht);have one:ax (1:Int)<=2600:=by decide
  have sm:∀{x:Int},0<=x/\x<=1000->ax x<=2600:=λh=>ap (bT (by omega) h.2) (by decide);have lw:∀x:Int,Em x 1:=λx=>⟨Int.le_refl 1,by simp⟩;have sum:∀{x y z:Int},CG (x*b+a*1) (1*b) y z->y=x*b+a/\z=b:=λ{x y z} f=>by
   have e:=f.eq;rw[Int.mul_one,Int.one_mul]at e;exact jS f.low (jT fr.low) (by rw[<- e])
  refine⟨_,rfl,t,_,_,_,rfl,rfl,T (Same.refl _),rfl,rfl,_,rfl,?_⟩;rw[di];refine aT (λc=>?_) (λc=>?_)
  ·have c:k=0:=bP c
   subst c;refine⟨_,rfl,t,_,_,_,rfl,rfl,T (Same.refl _),rfl,sz (by simp),λx H1 s1 f1 _=>?_⟩;refine⟨_,rfl,t,_,_,_,rfl,rfl,T s1,rfl,sz (by simp),λy H2 s2 f2 _=>?_⟩;have S2:=s1.trans s2;refine⟨_,rfl,y,p,j,1,a,b,2600,rfl,⟨f2,lw j,sm bj,one⟩,fr.mono S2,by decide,by omega,λr s' w' H3 ff f3 s3=>?_⟩;obtain⟨rfl,rfl⟩:=sum ff;refine⟨sz (by simp),λo H4 s4 f4 _=>kq ⟨o,x,r,i,1,j*w'+a,w'⟩ H4 ((S2.trans s3).trans s4) ⟨f4,s4 _ _ (s3 _ _ (s2 _ _ f1)),s4 _ _ f3.at_,lw i,jT fr.low,bi.1,Int.add_nonneg (Int.mul_nonneg bj.1 (by omega)) a0,ap (sm bi) (by decide),(show ax (1:Int)<=5300 by decide),ap f3.ba (by decide),ap f3.bb (by decide)⟩ (.inl ⟨rfl,rfl,rfl,rfl,rfl⟩)⟩
  ·have c:¬k=0:=bZ c
   have c:k=1:=by omega
   subst c;refine⟨_,rfl,t,_,_,_,rfl,rfl,T (Same.refl _),rfl,sz (by simp),λx H1 s1 f1 _=>?_⟩;refine⟨_,rfl,x,p,i,1,a,b,2600,rfl,⟨f1,lw i,sm bi,one⟩,fr.mono s1,by decide,by omega,λr s' w' H2 ff f2 s2=>?_⟩;obtain⟨rfl,rfl⟩:=sum ff;have S2:=s1.trans s2;refine⟨_,rfl,t,_,_,_,rfl,rfl,T S2,rfl,sz (by simp),λy H3 s3 f3 _=>?_⟩;refine⟨sz (by simp),λo H4 s4 f4 _=>kq ⟨o,r,y,i*w'+a,w',j,1⟩ H4 ((S2.trans s3).trans s4) ⟨f4,s4 _ _ (s3 _ _ f2.at_),s4 _ _ f3,jT fr.low,lw j,Int.add_nonneg (Int.mul_nonneg bi.1 (by omega)) a0,bj.1,ap f2.ba (by decide),ap f2.bb (by decide),ap (sm bj) (by decide),(show ax (1:Int)<=5300 by decide)⟩ (.inr ⟨rfl,rfl,rfl,rfl,rfl⟩)⟩
noncomputable def wOn:Str:="on"
noncomputable def bI:Str:="part"
noncomputable abbrev Dor:=Int×Int×Int
noncomputable def dkD(x:Dor):aJ:=dk x.1 x.2.1 x.2.2
theorem qQ{x y:Dor}(h:dkD x=dkD y):x=y:=by
 obtain⟨e1,e2,e3⟩:=pR h;exact Prod.ext e1 (Prod.ext e2 e3)
noncomputable def AhV(H:Hp)(v:V):Option Dor->Prop
 | none=>v = .non
 | some x=>∃t,v = .ref t/\H t=some (.tup ((dkD x).map kV))
theorem AhV.t{H H':Hp}{v:V}{o:Option Dor}(h:AhV H v o)(s:SameT H H'):AhV H' v o:=by
 cases o with
 | none=>exact h
 | some x =>
  obtain⟨t,e,f⟩:=h;exact⟨t,e,s _ _ f⟩
noncomputable def RvV(K:W.Frag)(H:Hp)(v:V)(r:Rv):Prop:=∃(t p q:Addr) (w:V),v = .ref t/\H t=some (.tup [.ref p,.ref q,w])/\Nm K H p r.lo/\Nm K H q r.hi/\AhV H w r.ah
theorem RvV.mono{K:W.Frag}{H H':Hp}{v:V}{r:Rv}(h:RvV K H v r)(s:Same H H'):RvV K H' v r:=by
 obtain⟨t,p,q,w,e,f,n1,n2,a⟩:=h;exact⟨t,p,q,w,e,s _ _ f,n1.mono s,n2.mono s,a.t s.t⟩
theorem Nm.but{K:W.Frag}{H H':Hp}{p d:Addr}{l:N4}{od:HO}(h:Nm K H p l)(b:bX d H H')(hd:H d=some od)(n:NoT od):Nm K H' p l:=⟨lY h.at_ b hd n,h.b0,h.b1,h.b2,h.b3,h.p2,h.p3⟩
theorem RvV.but{K:W.Frag}{H H':Hp}{v:V}{r:Rv}{d:Addr}{kvs:List (List Key×V)}(h:RvV K H v r)(b:bX d H H')(hd:H d=some (.dT kvs)):RvV K H' v r:=by
 obtain⟨t,p,q,w,e,f,n1,n2,a⟩:=h;have T:SameT H H':=b.t λxs z=>by rw[hd]at z;cases z
 exact⟨t,p,q,w,e,T _ _ f,n1.but b hd mz,n2.but b hd mz,a.t T⟩
noncomputable abbrev RF:=Dor->Option Rv
structure Cd(K:W.Frag)(H:Hp)(d:Addr)(R:RF)(c:Nat):Prop where
 ex:∃kvs:List (List Key×V),H d=some (.dT kvs)/\kvs.length<=c/\(∀x r,R x=some r->∃v,dB kvs (dkD x)=some v/\RvV K H v r)/\∀x,R x=none->dB kvs (dkD x)=none
theorem Cd.mono{K:W.Frag}{H H':Hp}{d:Addr}{R:RF}{c:Nat}(h:Cd K H d R c)(s:Same H H'):Cd K H' d R c:=by
 obtain⟨kvs,e,l,a,b⟩:=h.ex;exact⟨kvs,s _ _ e,l,λx r h=>let ⟨v,e,g⟩:=a x r h;⟨v,e,g.mono s⟩,b⟩
theorem Cd.congr{K:W.Frag}{H:Hp}{d:Addr}{R R':RF}{c c':Nat}(h:Cd K H d R c)(e:∀x,R x=R' x)(hc:c<=c'):Cd K H d R' c':=by
 obtain⟨kvs,e',l,a,b⟩:=h.ex;exact⟨kvs,e',by omega,λx r h=>a x r ((e x).trans h),λx h=>b x ((e x).trans h)⟩
noncomputable def gA(R:RF)(x:Dor)(o:Option Rv):RF:=λy=>@ite _ (y=x) (Classical.propDecidable _) o (R y)
theorem d5{R:RF}{x:Dor}{o:Option Rv}(h:R x=o):∀y,R y=gA R x o y:=λy=>by
 unfold gA
 split
 ·rename_i e;rw[e];exact h
 ·rfl
theorem Cd.put{K:W.Frag}{H:Hp}{d t:Addr}{R:RF}{c:Nat}{x:Dor}{v:V}{r:Rv}(h:Cd K H d R c)(ht:H t=some (.tup ((dkD x).map kV)))(g:RvV K H v r)(new:R x=none)(hc:c<1000) :
  ∃H',ku H d (.ref t) v H'/\Cd K H' d (gA R x (some r)) (c+1)/\bX d H H':=by
 obtain⟨kvs,e,l,a,b⟩:=h.ex;have hn:=b x new;refine⟨_,ku.t (k:=dkD x) (v:=v) e ht (by have:=aZ (n:=kvs.length) (by omega);exact this),⟨_,upd_same,?_,λy r' hy=>?_,λy hy=>?_⟩,bX.upd⟩
 ·rw[gZ _ hn,List.length_append]
  exact Nat.add_le_add_right l 1
 ·rw[gQ]
  unfold gA at hy
  by_cases z:y=x
  ·rw[if_pos z]at hy
   cases hy;rw[if_pos (by rw[z])];exact⟨v,rfl,g.but bX.upd e⟩
  ·rw[if_neg z]at hy
   rw[if_neg (λw=>z (qQ w))];obtain⟨v',e',g'⟩:=a y r' hy;exact⟨v',e',g'.but bX.upd e⟩
 ·unfold gA at hy
  by_cases z:y=x
  ·rw[if_pos z]at hy
   cases hy
  ·rw[if_neg z]at hy
   rw[gQ,if_neg (λw=>z (qQ w))];exact b y hy
theorem Cd.get{K:W.Frag}{H:Hp}{d t:Addr}{R:RF}{c:Nat}{x:Dor}(h:Cd K H d R c)(ht:H t=some (.tup ((dkD x).map kV))):∃o,fW H d (.ref t) o/\((∃r v,R x=some r/\o=some v/\RvV K H v r)\/(R x=none/\o=none)):=by
 obtain⟨kvs,e,l,a,b⟩:=h.ex;refine⟨_,fW.t e ht,?_⟩;cases hr:R x with
 | none=>exact .inr ⟨rfl,b x hr⟩
 | some r =>
  obtain⟨v,e',g⟩:=a x r hr;exact .inl ⟨r,v,rfl,e',g⟩
noncomputable def bgR(wy:Str)(G:GF)(F:Int->Int->Bool)(m:Nat)(j:Nat):Option Rv :=
 if wy=wOn then (if j=0/\F 0 0=false then some ⟨(0,0,0,1),(0,0,0,1),none⟩ else none)
 else if j<m then (G 0 0 (j:Int)).map λp=>⟨p.1,p.2,none⟩ else none
noncomputable def bgD(wy:Str)(G:GF)(F:Int->Int->Bool)(m:Nat)(x:Dor):Option Rv:=if x.1=0/\x.2.1=0/\0<=x.2.2 then bgR wy G F m x.2.2.toNat else none
inductive HF (K:W.Frag) (C:Addr) (vs:List V) (H:Hp) (Q:VK) (x_3:XK):Prop
 | mk:∀(fo:Addr) (n m:Nat) (room:Int) (G:GF) (F:Int->Int->Bool) (wy:Str),(vs = [.ref fo,.str wy])->(A9 K C H fo n m room G F)->((1<=n/\n<=20))->((1<=m/\m<=20))->((wy=wOn\/wy=bI))->(∀d H',Same H H'->H d=none->Cd K H' d (bgD wy G F m) 30->Q (.ref d) H')->HF K C vs H Q x_3
inductive Hy (vs:List V) (H:Hp) (Q:VK) (x_3:XK):Prop
 | mk:∀(sd i j:Int),(vs = [.int sd,.int i,.int j])->((sd=0\/sd=1))->(∀t H',Same H H'->H' t=some (.tup ((dkD (if sd=0 then (0,i+1,j) else (1,i,j+1))).map kV))->Q (.ref t) H')->Hy vs H Q x_3
inductive Hg (K:W.Frag) (C:Addr) (vs:List V) (H:Hp) (Q:VK) (x_3:XK):Prop
 | mk:∀(fo d t ts tt:Addr) (n m:Nat) (room:Int) (G:GF) (F:Int->Int->Bool) (R:RF) (c:Nat) (x xs xt:Dor),(vs = [.ref fo,.ref d,.ref t,.ref ts,.ref tt])->(A9 K C H fo n m room G F)->(Cd K H d R c)->((H t=some (.tup ((dkD x).map kV))/\H ts=some (.tup ((dkD xs).map kV))/\H tt=some (.tup ((dkD xt).map kV))))->(DIn n m x.1 x.2.1 x.2.2)->(R x=none)->(c<900)->(∀H',bX d H H'->Cd K H' d (gA R x (pas (G x.1 x.2.1 x.2.2) (R xs) (R xt) xs xt)) (c+1)->Q .non H')->Hg K C vs H Q x_3
theorem Nm.rt'{K:W.Frag}{H:Hp}{p:Addr}{l:N4}(h:Nm K H p l):Rt K H p l.1 l.2.1 l.2.2.1 l.2.2.2:=⟨h.at_.sq,ap h.b0 (by decide),ap h.b1 (by decide),ap h.b2 (by decide),ap h.b3 (by decide)⟩
theorem Fu:AQ ["side","i","j"] ["side","i","j"] (aq (top 60)):=smk
theorem oz(FM:Df K mg "door_out" (top 60))(V_UPRIGHT:∃tk,mg "UPRIGHT" = some (.int 0 tk))(V_LEVEL:∃tk,mg "LEVEL" = some (.int 1 tk)):Fn P w K mg base "door_out" ["side","i","j"] 1 Hy:=by
 refine FM.fn Fu (λ_ _ _ _ _ _ us hl=>by obtain⟨_,_,_,rfl⟩:=iG hl;rfl) (λvs H Q E h=>?_) (λf cdv A outer s H vs Q E hr h=>?_)
 ·obtain⟨sd,i,j,rfl,_⟩:=h
  rfl
 ·obtain⟨sd,i,j,rfl,hs,k⟩:=h
  obtain⟨tU,AX⟩:=V_UPRIGHT;obtain⟨tL,BK⟩:=V_LEVEL;refine⟨_,(am (aB (fK (aE bR (pv 0) (aX (v:=.int 0) (by rfl) AX ⟨_,rfl⟩) (aH _)) (aG (ad (aX (v:=.int 0) (by rfl) AX ⟨_,rfl⟩) (ad (ao aK (pv 1) af) (ad (pv 2) ak)))) (aG (ad (aX (v:=.int 1) (by rfl) BK ⟨_,rfl⟩) (ad (pv 1) (ad (ao aK (pv 2) af) ak))))))),?_⟩;refine⟨_,rfl,rfl,_,rfl,?_⟩;rw[di];refine aT (λc=>?_) (λc=>?_)
  ·have c:=bP c
   rw[if_pos c]at k;exact⟨_,rfl,_,_,rfl,rfl,_,rfl,sz (by simp),λt H1 s1 f1 _=>k t H1 s1 f1⟩
  ·have c:=bZ c
   rw[if_neg c]at k;exact⟨_,rfl,_,rfl,_,_,rfl,rfl,sz (by simp),λt H1 s1 f1 _=>k t H1 s1 f1⟩
theorem BS:AQ ["field","reached","door","straight","turned","part","low"] ["field","reached","door","straight","turned"] (aq (top 61)):=smk
theorem je(Eg:Df K mg "pass_through" (top 61))(AS:Dz K mg "Field" C_Field)(n_room:aR K C_Field "room")(n_last:aR K C_Field "last")(n_doors:aR K C_Field "doors")(n_far:aR K C_Field "far")(AT:Fn P w K mg base "root_order" ["one","other"] 4 (Fi K))(T:Txt mg):Fn P w K mg base "pass_through" ["field","reached","door","straight","turned"] 5 (Hg K C_Field):=by
 refine Eg.fn BS (λ_ _ _ _ _ _ us hl=>by obtain⟨_,_,_,_,_,rfl⟩:=v7 hl;rfl) (λvs H Q E h=>?_) (λf cdv A outer s H vs Q E hr h=>?_)
 ·obtain⟨fo,d,t,ts,tt,n,m,room,G,F,R,c,x,xs,xt,rfl,_⟩:=h
  rfl
 ·obtain⟨fo,d,t,ts,tt,n,m,room,G,F,R,c,x,xs,xt,rfl,fa,rp,⟨ht,hts,htt⟩,hd,new,hc,k⟩:=h
  refine⟨_,(ag (ay (i:=5) BS.nd rfl (Or.inl rfl) (dn (cH hr) (cF (pv 0) rfl) (pv 2) (λ_ _=>rfl))) (ag (aM (aE gH (pv 5) bJ (aH _)) (am qp) aI) (ag (aM (iz (ml (cH hr) (pv 4) (pv 1)) (by rfl)) (ag (dY (cH hr) (pv 1) (pv 2) (aG (ad (az ar (pv 5) af (λ_ _=>rfl)) (ad (az ar (pv 5) af (λ_ _=>rfl)) (ad (pv 4) ak)))) rfl) (am qp)) aI) (am (aM (iz (ml (cH hr) (pv 3) (pv 1)) (by rfl)) (ag (ay (i:=6) BS.nd rfl (Or.inl rfl) (az ar (pv 5) af (λ_ _=>rfl))) (ag (aM (aE dG (aF AT (hr.mono (by decide)) (by rfl) (ad (pv 6) (ad (az ar (dn (cH hr) (pv 1) (pv 3) (λ_ _=>rfl)) af (λ_ _=>rfl)) ak))) af (aH _)) (am (ay (i:=6) BS.nd rfl (Or.inl rfl) (az ar (dn (cH hr) (pv 1) (pv 3) (λ_ _=>rfl)) af (λ_ _=>rfl)))) aI) (am (aM (aE nI (aF AT (hr.mono (by decide)) (by rfl) (ad (pv 6) (ad (az ar (pv 5) af (λ_ _=>rfl)) ak))) af (aH _)) (am (dY (cH hr) (pv 1) (pv 2) (aG (ad (pv 6) (ad (az ar (pv 5) af (λ_ _=>rfl)) (ad (pv 3) ak)))) rfl)) aI)))) aI))))),?_⟩;obtain⟨dx,lt,d0,fr,hf,hl,⟨cc,dd⟩,_⟩:=fa.ex;obtain⟨o,dg,hv,_⟩:=dd.get (k:=x.1) (i:=x.2.1) (j:=x.2.2) ht;obtain⟨v,rfl,gv⟩:=hv hd;refine⟨_,rfl,fo,C_Field,dx,_,_,rfl,hf,AS.cls,n_doors,rfl,_,rfl,d0,_,rfl,dg,?_⟩;cases hg:G x.1 x.2.1 x.2.2 with
  | none =>
   rw[hg]at gv k;have gv:v = .non:=gv;rw[gv];refine⟨_,rfl,rfl,_,rfl,cf rfl ?_⟩;exact k H (λ_ _ _ e=>e) (rp.congr (d5 new) (by omega))
  | some p =>
   rw[hg]at gv k;obtain⟨tg,p1,p2,rfl,eg,g1,g2⟩:=gv;have pk:pas (some p) (R xs) (R xt) xs xt=if (R xt).isSome=true then some ⟨p.1,p.2,some xt⟩ else match R xs with
    | none=>none
    | some r=>if ro4 (mxN p.1 r.lo) p.2<=0 then some ⟨mxN p.1 r.lo,p.2,some xs⟩ else none:=rfl
   rw[pk]at k;refine⟨_,rfl,rfl,_,rfl,a6 (by simp) ?_⟩;obtain⟨ot,dgt,hot⟩:=rp.get htt;refine⟨_,rfl,_,rfl,d,ot,rfl,dgt,_,rfl,?_⟩;rcases hot with⟨rt,vt,hrt,rfl,_⟩|⟨hrt,rfl⟩
   ·refine cf rfl ?_
    rw[hrt,if_pos (show(some rt).isSome=true from rfl)]at k;refine⟨_,rfl,tg,_,_,_,rfl,rfl,SqT.of eg,rfl,_,rfl,tg,_,_,_,rfl,rfl,SqT.of eg,rfl,_,rfl,sz (by simp),λtv H1 s1 f1 n1=>?_⟩;obtain⟨H2,dp,rp2,b2⟩:=(rp.mono s1).put (r:=⟨p.1,p.2,some xt⟩) (s1 _ _ ht) ⟨tv,p1,p2,.ref tt,rfl,f1,g1.mono s1,g2.mono s1,tt,rfl,s1 _ _ htt⟩ new (by omega);refine⟨_,rfl,_,rfl,d,H2,rfl,dp,?_⟩;exact k H2 ((bX.of s1).trans b2) rp2
   ·refine a6 rfl ?_
    rw[hrt,if_neg (by decide)]at k;obtain⟨os,dgs,hos⟩:=rp.get hts;refine⟨_,rfl,_,rfl,d,os,rfl,dgs,_,rfl,?_⟩;rcases hos with⟨rs,vs,hrs,rfl,tvs,q1,q2,qw,rfl,evs,m1,m2,_⟩|⟨hrs,rfl⟩
    ·refine cf rfl ?_
     rw[hrs]at k;have k:∀(H':Hp),bX d H H'->Cd K H' d (gA R x (if ro4 (mxN p.1 rs.lo) p.2<=0 then some ⟨mxN p.1 rs.lo,p.2,some xs⟩ else none)) (c+1)->Q .non H':=k
     refine⟨_,rfl,tg,_,_,_,rfl,rfl,SqT.of eg,rfl,?_⟩;refine⟨_,rfl,_,rfl,_,rfl,d,_,rfl,dgs,tvs,_,_,_,rfl,rfl,SqT.of evs,rfl,_,_,_,_,_,_,_,_,_,_,rfl,g1.rt',m1.rt',_,_,rfl,rfl,_,rfl,aT (λc1=>?_) (λc1=>?_)⟩
     ·have em:mxN p.1 rs.lo=rs.lo:=if_pos (bP c1)
      refine⟨_,rfl,_,rfl,d,_,rfl,dgs,tvs,_,_,_,rfl,rfl,SqT.of evs,rfl,?_⟩;refine⟨_,rfl,_,rfl,tg,_,_,_,rfl,rfl,SqT.of eg,rfl,_,_,_,_,_,_,_,_,_,_,rfl,m1.rt',g2.rt',_,_,rfl,rfl,_,rfl,aT (λc2=>?_) (λc2=>?_)⟩
      ·have c2:ro4 (mxN p.1 rs.lo) p.2<=0:=by rw[em];exact bP c2
       rw[if_pos c2]at k;refine⟨_,rfl,_,rfl,tg,_,_,_,rfl,rfl,SqT.of eg,rfl,_,rfl,sz (by simp),λtv H1 s1 f1 n1=>?_⟩;obtain⟨H2,dp,rp2,b2⟩:=(rp.mono s1).put (r:=⟨mxN p.1 rs.lo,p.2,some xs⟩) (s1 _ _ ht) ⟨tv,q1,p2,.ref ts,rfl,f1,by show Nm K H1 _ (mxN p.1 rs.lo);rw[em];exact m1.mono s1,g2.mono s1,ts,rfl,s1 _ _ hts⟩ new (by omega);refine⟨_,rfl,_,rfl,d,H2,rfl,dp,?_⟩;exact k H2 ((bX.of s1).trans b2) rp2
      ·have c2:¬ro4 (mxN p.1 rs.lo) p.2<=0:=by rw[em];exact bZ c2
       rw[if_neg c2]at k;exact k H (λ_ _ _ e=>e) (rp.congr (d5 new) (by omega))
     ·have em:mxN p.1 rs.lo=p.1:=if_neg (bZ c1)
      refine⟨_,rfl,_,rfl,tg,_,_,_,rfl,rfl,SqT.of eg,rfl,_,_,_,_,_,_,_,_,_,_,rfl,g1.rt',g2.rt',_,_,rfl,rfl,_,rfl,aT (λc2=>?_) (λc2=>?_)⟩
      ·have c2:ro4 (mxN p.1 rs.lo) p.2<=0:=by rw[em];exact bP c2
       rw[if_pos c2]at k;refine⟨_,rfl,_,rfl,tg,_,_,_,rfl,rfl,SqT.of eg,rfl,_,rfl,sz (by simp),λtv H1 s1 f1 n1=>?_⟩;obtain⟨H2,dp,rp2,b2⟩:=(rp.mono s1).put (r:=⟨mxN p.1 rs.lo,p.2,some xs⟩) (s1 _ _ ht) ⟨tv,p1,p2,.ref ts,rfl,f1,by show Nm K H1 _ (mxN p.1 rs.lo);rw[em];exact g1.mono s1,g2.mono s1,ts,rfl,s1 _ _ hts⟩ new (by omega);refine⟨_,rfl,_,rfl,d,H2,rfl,dp,?_⟩;exact k H2 ((bX.of s1).trans b2) rp2
      ·have c2:¬ro4 (mxN p.1 rs.lo) p.2<=0:=by rw[em];exact bZ c2
       rw[if_neg c2]at k;exact k H (λ_ _ _ e=>e) (rp.congr (d5 new) (by omega))
    ·refine a6 rfl ?_
     rw[hrs]at k;exact k H (λ_ _ _ e=>e) (rp.congr (d5 new) (by omega))
theorem ds{a b:Str}{c:Bool}(h:decide (V.str a=V.str b)=c):decide (a=b)=c:=by
 rw[<- h]
 by_cases z:a=b
 ·rw[decide_eq_true z,decide_eq_true (by rw[z])]
 ·rw[decide_eq_false z,decide_eq_false (λw=>z (V.str.inj w))]
theorem xE{G:GF}{F:Int->Int->Bool}{m:Nat}:∀x:Dor,gA (λ_=>none) (0,0,0) (if F 0 0=false then some ⟨(0,0,0,1),(0,0,0,1),none⟩ else none) x=bgD wOn G F m x:=λx=>by
 have e2:∀j,bgR wOn G F m j=if j=0/\F 0 0=false then some ⟨(0,0,0,1),(0,0,0,1),none⟩ else none:=λj=>if_pos rfl
 by_cases h:x=(0,0,0)
 ·subst h
  have e:bgD wOn G F m (0,0,0)=bgR wOn G F m 0:=if_pos ⟨rfl,rfl,Int.le_refl 0⟩;rw[e,e2];unfold gA;rw[if_pos rfl]
  by_cases f:F 0 0=false
  ·rw[if_pos f,if_pos ⟨rfl,f⟩]
  ·rw[if_neg f,if_neg (λz=>f z.2)]
 ·unfold gA
  rw[if_neg h];unfold bgD
  by_cases z:x.1=0/\x.2.1=0/\0<=x.2.2
  ·rw[if_pos z,e2,if_neg (λy=>h (Prod.ext z.1 (Prod.ext z.2.1 (by have:=y.1;have:=z.2.2;show x.2.2=0;omega))))]
  ·rw[if_neg z]
noncomputable def bgP(G:GF)(j0:Nat)(x:Dor):Option Rv:=if (x.1=0/\x.2.1=0)/\0<=x.2.2/\x.2.2<(j0:Int) then (G 0 0 x.2.2).map λp=>⟨p.1,p.2,none⟩ else none
theorem oO{G:GF}{j:Nat}:∀x:Dor,gA (bgP G j) (0,0,(j:Int)) ((G 0 0 (j:Int)).map λp=>⟨p.1,p.2,none⟩) x=bgP G (j+1) x:=λx=>by
 unfold gA
 by_cases h:x=(0,0,(j:Int))
 ·rw[if_pos h,h]
  unfold bgP;rw[if_pos ⟨⟨rfl,rfl⟩,by show(0:Int)<=j;omega,by show(j:Int)<((j+1:Nat):Int);omega⟩]
 ·rw[if_neg h]
  unfold bgP
  by_cases z:(x.1=0/\x.2.1=0)/\0<=x.2.2/\x.2.2<(j:Int)
  ·rw[if_pos z,if_pos ⟨z.1,z.2.1,by omega⟩]
  ·rw[if_neg z,if_neg (λy=>z ⟨y.1,y.2.1,?_⟩)]
   have:x.2.2≠(j:Int):=λw=>h (Prod.ext y.1.1 (Prod.ext y.1.2 w));omega
theorem wR{G:GF}{F:Int->Int->Bool}{m:Nat}:∀x:Dor,bgP G m x=bgD bI G F m x:=λx=>by
 unfold bgP bgD bgR;rw[if_neg (show ¬bI=wOn by decide +kernel)]
 by_cases z:x.1=0/\x.2.1=0/\0<=x.2.2
 ·rw[if_pos z,show((x.2.2.toNat:Nat):Int)=x.2.2 by omega]
  by_cases y:x.2.2<(m:Int)
  ·rw[if_pos ⟨⟨z.1,z.2.1⟩,z.2.2,y⟩,if_pos (by omega)]
  ·rw[if_neg (λw=>y w.2.2),if_neg (by omega)]
 ·rw[if_neg z,if_neg (λw=>z ⟨w.1.1,w.1.2,w.2.1⟩)]
theorem ua{K:W.Frag}{p:Addr}(h:∀H,TpK K H p [.int 0,.int 0,.int 0,.int 1])(H:Hp):Nm K H p (0,0,0,1):=⟨h H,by decide,by decide,by decide,by decide,by decide,by decide⟩
theorem vL{K:W.Frag}{H:Hp}{d:Addr}:Cd K (upd H d (.dT [])) d (λ_=>none) 0:=⟨[],upd_same,Nat.le_refl _,(λ_ _ z=>by cases z),λ_ _=>rfl⟩
theorem BC:AQ ["field","way","reached","j","part"] ["field","way"] (aq (top 59)):=smk
theorem im{pB:Addr}(DN:Df K mg "doors_at_begin" (top 59))(AS:Dz K mg "Field" C_Field)(n_room:aR K C_Field "room")(n_last:aR K C_Field "last")(n_doors:aR K C_Field "doors")(n_far:aR K C_Field "far")(V_UPRIGHT:∃tk,mg "UPRIGHT" = some (.int 0 tk))(V_LEVEL:∃tk,mg "LEVEL" = some (.int 1 tk))(Cg:mg "BEGIN" = some (.ref pB))(hB:∀H,TpK K H pB [.int 0,.int 0,.int 0,.int 1])(T:Txt mg):Fn P w K mg base "doors_at_begin" ["field","way"] 2 (HF K C_Field):=by
 refine DN.fn BC (λ_ _ _ _ _ _ us hl=>by obtain⟨_,_,rfl⟩:=dh hl;rfl) (λvs H Q E h=>?_) (λf cdv A outer s H vs Q E hr h=>?_)
 ·obtain⟨fo,n,m,room,G,F,wy,rfl,_⟩:=h
  rfl
 ·obtain⟨fo,n,m,room,G,F,wy,rfl,fa,⟨hn,hn20⟩,⟨hm,hm20⟩,hw,k⟩:=h
  obtain⟨tU,AX⟩:=V_UPRIGHT;obtain⟨tL,BK⟩:=V_LEVEL;refine⟨_,(ag (ay (i:=2) BC.nd rfl (Or.inl rfl) g7) (ag (aM (aE bR (pv 1) dF (aH _)) (ag (aM (iz (lu (cH hr) (aG (ad af (ad af ak))) (cF (pv 0) rfl)) (by rfl)) (am (dY (cH hr) (pv 2) (aG (ad (aX (v:=.int 0) (by rfl) AX ⟨_,rfl⟩) (ad af (ad af ak)))) (aG (ad (aX (v:=.ref _) (by rfl) Cg rfl) (ad (aX (v:=.ref _) (by rfl) Cg rfl) (ad bJ ak)))) rfl)) aI) (am (aB (pv 2)))) aI) (ag (cz PassesOwn.never rfl (cU rfl T.z_range (ad (az ar (cF (pv 0) rfl) af (λ_ _=>rfl)) ak)) (aO (i:=3) BC.nd rfl (Or.inl rfl)) (ag (ay (i:=4) BC.nd rfl (Or.inl rfl) (dn (cH hr) (cF (pv 0) rfl) (aG (ad (aX (v:=.int 0) (by rfl) AX ⟨_,rfl⟩) (ad af (ad (pv 3) ak)))) (λ_ _=>rfl))) (am (aM (aE gb (pv 4) bJ (aH _)) (am (dY (cH hr) (pv 2) (aG (ad (aX (v:=.int 0) (by rfl) AX ⟨_,rfl⟩) (ad af (ad (pv 3) ak)))) (aG (ad (az ar (pv 4) af (λ_ _=>rfl)) (ad (az ar (pv 4) af (λ_ _=>rfl)) (ad bJ ak)))) rfl)) aI)))) (am (aB (pv 2)))))),?_⟩;refine λd hd=>?_;have s0:Same H (upd H d (.dT [])):=Same.new hd;have r0:Cd K (upd H d (.dT [])) d (λ_=>none) 0:=vL;generalize upd H d (.dT [])=H0 at s0 r0;have fa0:=fa.mono s0;obtain⟨dx,lt,d0,fr,hf,hl,⟨cc,dd⟩,fd⟩:=fa0.ex;refine⟨_,rfl,rfl,_,rfl,aT (λc=>?_) (λc=>?_)⟩
  ·have c:wy=wOn:=bP (ds c)
   subst c;refine⟨sz (by simp),λp0 H2 s2 f2 n2=>⟨_,rfl,fo,C_Field,dx,_,_,rfl,s2 _ _ hf,AS.cls,n_far,rfl,?_⟩⟩;obtain⟨o,dg,ho⟩:=(fd.mono s2).get (x:=0) (y:=0) f2;refine⟨fr,o,rfl,dg,_,rfl,?_⟩;have S2:=s0.trans s2;have r2:=r0.mono s2;have nB:=ua (K:=K) hB;cases f0:F 0 0 with
   | true =>
    have e:o.isSome=true:=by rw[ho];exact decide_eq_true (dU.mpr ⟨by decide,by omega,by decide,by omega,f0⟩)
    rw[e];refine a6 rfl ?_;exact⟨_,rfl,k d H2 S2 hd (r2.congr (λx=>(d5 (R:=λ_=>none) (x:=(0,0,0)) (o:=none) rfl x).trans (by rw[<- xE,if_neg (by rw[f0];decide)])) (by omega))⟩
   | false =>
    have e:o.isSome=false:=by rw[ho];exact decide_eq_false λz=>by have:=(dU.mp z).2.2.2.2;rw[f0]at this;cases this
    rw[e];refine cf rfl ?_;refine⟨sz (by simp),λtv H3 s3 f3 n3=>⟨_,rfl,sz (by simp),λtk H4 s4 f4 n4=>?_⟩⟩;obtain⟨H5,dp,rp5,b5⟩:=((r2.mono s3).mono s4).put (x:=(0,0,0)) (r:=⟨(0,0,0,1),(0,0,0,1),none⟩) f4 ⟨tv,pB,pB,.non,rfl,s4 _ _ f3,nB _,nB _,rfl⟩ rfl (by decide);refine⟨d,H5,rfl,dp,?_⟩;exact⟨_,rfl,k d H5 (b5.same (S2.trans (s3.trans s4)) hd) hd (rp5.congr (λx=>by rw[<- xE,if_pos f0]) (by omega))⟩
  ·have c:¬wy=wOn:=bZ (ds c)
   have c:wy=bI:=hw.resolve_left c;subst c;have L:=SqT.of (K:=K) hl;have e62:(2:Int)^62=4611686018427387904:=by decide
   refine⟨_,rfl,fo,C_Field,dx,_,_,rfl,hf,AS.cls,n_last,rfl,lt,_,_,_,rfl,rfl,L,rfl,_,rfl,by omega,by omega,?_⟩;rw[Int.toNat_natCast];refine cV (n:=m) (lo:=0) (λj σ H'=>∃(z3 z4:Option V),σ = [some (.ref fo),some (.str bI),some (.ref d),z3,z4]/\Same H H'/\Cd K H' d (bgP G j) j)
    ⟨_,_,rfl,s0,r0.congr (λx=>by unfold bgP;rw[if_neg (by omega)]) (Nat.le_refl _)⟩ ?_ ?_
   ·rintro j σ H1 hj ⟨z3,z4,rfl,s1,r1⟩
    rw[Int.zero_add];obtain⟨dx,lt,d0,fr,hf,hl,⟨cc,dd⟩,fd⟩:=(fa.mono s1).ex;refine⟨_,rfl,fo,C_Field,dx,_,_,rfl,hf,AS.cls,n_doors,rfl,_,rfl,sz (by simp),λtk H2 s2 f2 n2=>?_⟩;have S2:=s1.trans s2;obtain⟨o,dg,hv,_⟩:=(dd.mono s2).get (k:=0) (i:=0) (j:=(j:Int)) f2;obtain⟨v,rfl,gv⟩:=hv (.inl ⟨rfl,⟨by decide,by omega⟩,by omega,by omega⟩);have new:bgP G j (0,0,(j:Int))=none:=if_neg λz=>by have:=z.2.2;omega
    refine⟨d0,_,rfl,dg,?_⟩;cases hg:G 0 0 (j:Int) with
    | none =>
     rw[hg]at gv;have gv:v = .non:=gv;rw[gv];refine⟨_,rfl,rfl,_,rfl,a6 (by simp) ⟨_,_,rfl,S2,(r1.mono s2).congr (λx=>?_) (by omega)⟩⟩;rw[<- oO,hg];exact d5 new x
    | some p =>
     rw[hg]at gv;obtain⟨tg,p1,p2,rfl,eg,g1,g2⟩:=gv;refine⟨_,rfl,rfl,_,rfl,cf (by simp) ?_⟩;refine⟨_,rfl,tg,_,_,_,rfl,rfl,SqT.of eg,rfl,_,rfl,tg,_,_,_,rfl,rfl,SqT.of eg,rfl,sz (by simp),λtv H3 s3 f3 n3=>⟨_,rfl,_,rfl,sz (by simp),λtk' H4 s4 f4 n4=>?_⟩⟩;obtain⟨H5,dp,rp5,b5⟩:=(((r1.mono s2).mono s3).mono s4).put (x:=(0,0,(j:Int))) (r:=⟨p.1,p.2,none⟩) f4 ⟨tv,p1,p2,.non,rfl,s4 _ _ f3,(g1.mono s3).mono s4,(g2.mono s3).mono s4,rfl⟩ new (by omega);refine⟨d,H5,rfl,dp,_,_,rfl,b5.same (S2.trans (s3.trans s4)) hd,rp5.congr (λx=>?_) (by omega)⟩;rw[<- oO,hg];rfl
   ·rintro σ H1 ⟨z3,z4,rfl,s1,r1⟩
    exact⟨_,rfl,k d H1 s1 hd (r1.congr wR (by omega))⟩
noncomputable def RR(wy:Str)(G:GF)(F:Int->Int->Bool)(n m:Nat)(x:Dor):Option Rv :=
 if x.1=0/\(0<=x.2.1/\x.2.1<=(n:Int))/\0<=x.2.2/\x.2.2<(m:Int) then Uc G (bgR wy G F m) x.2.1.toNat x.2.2.toNat
 else if x.1=1/\(0<=x.2.1/\x.2.1<(n:Int))/\0<=x.2.2/\x.2.2<=(m:Int) then Lc G (Uc G (bgR wy G F m) x.2.1.toNat) x.2.1.toNat x.2.2.toNat else none
noncomputable def dnP(i su sl:Int)(x:Dor):Prop:=(x.1=0/\(x.2.1<=i\/(x.2.1=i+1/\x.2.2<su)))\/(x.1=1/\(x.2.1<i\/(x.2.1=i/\x.2.2<=sl)))
noncomputable def RS(wy:Str)(G:GF)(F:Int->Int->Bool)(n m:Nat)(i su sl:Int)(x:Dor):Option Rv:=@ite _ (dnP i su sl x) (Classical.propDecidable _) (RR wy G F n m x) none
section
variable {wy:Str} {G:GF} {F:Int->Int->Bool} {n m:Nat}
theorem ko{i j:Nat}(hi:i<=n)(hj:j<m):RR wy G F n m (0,(i:Int),(j:Int))=Uc G (bgR wy G F m) i j:=by
 unfold RR;rw[if_pos ⟨rfl,⟨by show(0:Int)<=i;omega,by show(i:Int)<=n;omega⟩,by show(0:Int)<=j;omega,by show(j:Int)<m;omega⟩];rfl
theorem pV{i j:Nat}(hi:i<n)(hj:j<=m):RR wy G F n m (1,(i:Int),(j:Int))=Lc G (Uc G (bgR wy G F m) i) i j:=by
 unfold RR;rw[if_neg (λz=>absurd z.1 (show ¬(1:Int)=0 by decide)),if_pos ⟨rfl,⟨by show(0:Int)<=i;omega,by show(i:Int)<n;omega⟩,by show(0:Int)<=j;omega,by show(j:Int)<=m;omega⟩];rfl
theorem fE{i su sl:Int}{x:Dor}(h:dnP i su sl x):RS wy G F n m i su sl x=RR wy G F n m x:=by unfold RS;rw[if_pos h]
theorem iQ{i su sl:Int}{x:Dor}(h:¬dnP i su sl x):RS wy G F n m i su sl x=none:=by unfold RS;rw[if_neg h]
theorem pU{i su sl i' su' sl':Int}{x:Dor}(h:dnP i su sl x↔dnP i' su' sl' x):RS wy G F n m i su sl x=RS wy G F n m i' su' sl' x:=by
 by_cases z:dnP i su sl x
 ·rw[fE z,fE (h.mp z)]
 ·rw[iQ z,iQ (λw=>z (h.mpr w))]
theorem gz{x:Dor}(h:¬DIn n m x.1 x.2.1 x.2.2):RR wy G F n m x=none:=by
 unfold RR;rw[if_neg (λz=>h (.inl ⟨z.1,z.2⟩)),if_neg (λz=>h (.inr ⟨z.1,z.2⟩))]
theorem iq{i su sl:Int}{x:Dor}(h:RR wy G F n m x=none):RS wy G F n m i su sl x=none:=by
 by_cases z:dnP i su sl x
 ·rw[fE z,h]
 ·exact iQ z
theorem rn{x:Dor}(h1:x.1=1)(h2:x.2.2=0):RR wy G F n m x=none:=by
 unfold RR;rw[if_neg (λz=>by have:=z.1;omega)]
 split
 ·rw[h2];rfl
 ·rfl
theorem vi(h1:1<=m):∀x:Dor,bgD wy G F m x=RS wy G F n m 0 0 0 x:=λx=>by
 have hm:∀j,¬j<m->bgR wy G F m j=none:=λj hj=>by
  unfold bgR
  by_cases c:wy=wOn
  ·rw[if_pos c,if_neg (by omega)]
  ·rw[if_neg c,if_neg hj]
 unfold bgD
 by_cases A:x.1=0/\x.2.1=0/\0<=x.2.2
 ·rw[if_pos A]
  by_cases B:x.2.2<(m:Int)
  ·rw[fE (.inl ⟨A.1,.inl (by omega)⟩)]
   unfold RR;rw[if_pos ⟨A.1,⟨by omega,by omega⟩,A.2.2,B⟩,A.2.1];rfl
  ·rw[hm _ (by omega),iq (gz ?_)]
   rintro(⟨_,_,_,h⟩|⟨h,_⟩) <;> omega
 ·rw[if_neg A]
  by_cases z:dnP 0 0 0 x
  ·rw[fE z]
   by_cases D:DIn n m x.1 x.2.1 x.2.2
   ·rcases D with⟨d1,d2,d3,d4⟩|⟨d1,d2,d3,d4⟩
    ·refine absurd ⟨d1,?_,d3⟩ A
     rcases z with⟨_,z|z⟩|⟨z,_⟩ <;> omega
    ·rw[rn d1]
     rcases z with⟨z,_⟩|⟨_,z|z⟩ <;> omega
   ·rw[gz D]
  ·rw[iQ z]
theorem Ai{i j:Nat}(hi:i<n)(hj:j<m):∀x:Dor,gA (RS wy G F n m i j j) (0,(i:Int)+1,(j:Int)) (pas (G 0 ((i:Int)+1) (j:Int)) (RS wy G F n m i j j (0,(i:Int),(j:Int))) (RS wy G F n m i j j (1,(i:Int),(j:Int))) (0,(i:Int),(j:Int)) (1,(i:Int),(j:Int))) x=RS wy G F n m i ((j:Int)+1) j x:=λx=>by
 have e1:RS wy G F n m i j j (0,(i:Int),(j:Int))=Uc G (bgR wy G F m) i j:=(fE (.inl ⟨rfl,.inl (Int.le_refl _)⟩)).trans (ko (by omega) hj);have e2:RS wy G F n m i j j (1,(i:Int),(j:Int))=Lc G (Uc G (bgR wy G F m) i) i j:=(fE (.inr ⟨rfl,.inr ⟨rfl,Int.le_refl _⟩⟩)).trans (pV hi (by omega));rw[e1,e2];unfold gA
 by_cases h:x=(0,(i:Int)+1,(j:Int))
 ·rw[if_pos h,h,fE (.inl ⟨rfl,.inr ⟨rfl,by show(j:Int)<(j:Int)+1;omega⟩⟩)]
  have:=ko (wy:=wy) (G:=G) (F:=F) (n:=n) (m:=m) (i:=i+1) (j:=j) (by omega) hj;rw[show((i:Int)+1)=((i+1:Nat):Int) by omega,this];rfl
 ·rw[if_neg h]
  refine pU ?_;unfold dnP;constructor
  ·rintro(⟨a,b⟩|b)
   ·exact .inl ⟨a,b.imp_right λc=>⟨c.1,by omega⟩⟩
   ·exact .inr b
  ·rintro(⟨a,b|⟨b,c⟩⟩|b)
   ·exact .inl ⟨a,.inl b⟩
   ·refine .inl ⟨a,.inr ⟨b,?_⟩⟩
    have:x.2.2≠(j:Int):=λw=>h (Prod.ext a (Prod.ext b w));omega
   ·exact .inr b
theorem wX{i j:Nat}(hi:i<n)(hj:j<m):∀x:Dor,gA (RS wy G F n m i ((j:Int)+1) j) (1,(i:Int),(j:Int)+1) (pas (G 1 (i:Int) ((j:Int)+1)) (RS wy G F n m i ((j:Int)+1) j (1,(i:Int),(j:Int))) (RS wy G F n m i ((j:Int)+1) j (0,(i:Int),(j:Int))) (1,(i:Int),(j:Int)) (0,(i:Int),(j:Int))) x=RS wy G F n m i ((j:Int)+1) ((j:Int)+1) x:=λx=>by
 have e1:RS wy G F n m i ((j:Int)+1) j (0,(i:Int),(j:Int))=Uc G (bgR wy G F m) i j:=(fE (.inl ⟨rfl,.inl (Int.le_refl _)⟩)).trans (ko (by omega) hj);have e2:RS wy G F n m i ((j:Int)+1) j (1,(i:Int),(j:Int))=Lc G (Uc G (bgR wy G F m) i) i j:=(fE (.inr ⟨rfl,.inr ⟨rfl,Int.le_refl _⟩⟩)).trans (pV hi (by omega));rw[e1,e2];unfold gA
 by_cases h:x=(1,(i:Int),(j:Int)+1)
 ·have e3:RS wy G F n m i ((j:Int)+1) ((j:Int)+1) (1,(i:Int),(j:Int)+1)=RR wy G F n m (1,(i:Int),(j:Int)+1):=fE (.inr ⟨rfl,.inr ⟨rfl,Int.le_refl _⟩⟩)
  rw[if_pos h,h,e3];have:=pV (wy:=wy) (G:=G) (F:=F) (n:=n) (m:=m) (i:=i) (j:=j+1) hi (by omega);rw[show((j:Int)+1)=((j+1:Nat):Int) by omega,this];rfl
 ·rw[if_neg h]
  refine pU ?_;unfold dnP;constructor
  ·rintro(b|⟨a,b⟩)
   ·exact .inl b
   ·exact .inr ⟨a,b.imp_right λc=>⟨c.1,by omega⟩⟩
  ·rintro(b|⟨a,b|⟨b,c⟩⟩)
   ·exact .inl b
   ·exact .inr ⟨a,.inl b⟩
   ·refine .inr ⟨a,.inr ⟨b,?_⟩⟩
    have:x.2.2≠(j:Int)+1:=λw=>h (Prod.ext a (Prod.ext b w));omega
theorem wY{i:Nat}:∀x:Dor,RS wy G F n m i m m x=RS wy G F n m ((i+1:Nat):Int) 0 0 x:=λx=>by
 by_cases D:DIn n m x.1 x.2.1 x.2.2
 ·by_cases z:x.1=1/\x.2.2=0
  ·rw[iq (rn z.1 z.2),iq (rn z.1 z.2)]
  ·refine pU ?_
   unfold dnP;rcases D with⟨d1,d2,d3,d4⟩|⟨d1,d2,d3,d4⟩
   ·constructor
    ·rintro(⟨_,h|h⟩|⟨h,_⟩)
     ·exact .inl ⟨d1,.inl (by omega)⟩
     ·exact .inl ⟨d1,.inl (by omega)⟩
     ·omega
    ·rintro(⟨_,h|h⟩|⟨h,_⟩)
     ·rcases Int.lt_or_le x.2.1 ((i+1:Nat):Int) with w|w
      ·exact .inl ⟨d1,.inl (by omega)⟩
      ·exact .inl ⟨d1,.inr ⟨by omega,d4⟩⟩
     ·omega
     ·omega
   ·constructor
    ·rintro(⟨h,_⟩|⟨_,h|h⟩)
     ·omega
     ·exact .inr ⟨d1,.inl (by omega)⟩
     ·exact .inr ⟨d1,.inl (by omega)⟩
    ·rintro(⟨h,_⟩|⟨_,h|h⟩)
     ·omega
     ·rcases Int.lt_or_le x.2.1 (i:Int) with w|w
      ·exact .inr ⟨d1,.inl w⟩
      ·exact .inr ⟨d1,.inr ⟨by omega,d4⟩⟩
     ·exact absurd ⟨d1,by omega⟩ z
 ·rw[iq (gz D),iq (gz D)]
theorem ze:∀x:Dor,RS wy G F n m n 0 0 x=RR wy G F n m x:=λx=>by
 by_cases z:DIn n m x.1 x.2.1 x.2.2
 ·refine fE ?_
  rcases z with⟨a,b⟩|⟨a,b⟩
  ·exact .inl ⟨a,.inl b.1.2⟩
  ·exact .inr ⟨a,.inl b.1.2⟩
 ·rw[gz z]
  unfold RS
  split
  ·exact gz z
  ·rfl
end
inductive Hx (K:W.Frag) (C:Addr) (vs:List V) (H:Hp) (Q:VK) (x_3:XK):Prop
 | mk:∀(fo:Addr) (n m:Nat) (room:Int) (G:GF) (F:Int->Int->Bool) (wy:Str),(vs = [.ref fo,.str wy])->(A9 K C H fo n m room G F)->((1<=n/\n<=20))->((1<=m/\m<=20))->((wy=wOn\/wy=bI))->(∀d H',Same H H'->H d=none->Cd K H' d (RR wy G F n m) 900->Q (.ref d) H')->Hx K C vs H Q x_3
theorem Bq:AQ ["field","way","reached","i","j","side"] ["field","way"] (aq (top 62)):=smk
theorem iL(DW:Df K mg "doors_reached" (top 62))(AS:Dz K mg "Field" C_Field)(n_room:aR K C_Field "room")(n_last:aR K C_Field "last")(n_doors:aR K C_Field "doors")(n_far:aR K C_Field "far")(V_UPRIGHT:∃tk,mg "UPRIGHT" = some (.int 0 tk))(V_LEVEL:∃tk,mg "LEVEL" = some (.int 1 tk))(BZ:Fn P w K mg base "doors_at_begin" ["field","way"] 2 (HF K C_Field))(Dt:Fn P w K mg base "door_out" ["side","i","j"] 1 Hy)(Cp:Fn P w K mg base "pass_through" ["field","reached","door","straight","turned"] 5 (Hg K C_Field))(T:Txt mg):Fn P w K mg base "doors_reached" ["field","way"] 6 (Hx K C_Field):=by
 refine DW.fn Bq (λ_ _ _ _ _ _ us hl=>by obtain⟨_,_,rfl⟩:=dh hl;rfl) (λvs H Q E h=>?_) (λf cdv A outer s H vs Q E hr h=>?_)
 ·obtain⟨fo,n,m,room,G,F,wy,rfl,_⟩:=h
  rfl
 ·obtain⟨fo,n,m,room,G,F,wy,rfl,fa,⟨hn,hn20⟩,⟨hm,hm20⟩,hw,k⟩:=h
  obtain⟨tU,AX⟩:=V_UPRIGHT;obtain⟨tL,BK⟩:=V_LEVEL;refine⟨_,(ag (ay (i:=2) Bq.nd rfl (Or.inl rfl) (aF BZ (hr.mono (by decide)) (by rfl) (ad (pv 0) (ad (pv 1) ak)))) (ag (cz PassesOwn.never rfl (cU rfl T.z_range (ad (az ar (cF (pv 0) rfl) af (λ_ _=>rfl)) ak)) (aO (i:=3) Bq.nd rfl (Or.inl rfl)) (am (cz PassesOwn.never rfl (cU rfl T.z_range (ad (az ar (cF (pv 0) rfl) af (λ_ _=>rfl)) ak)) (aO (i:=4) Bq.nd rfl (Or.inl rfl)) (am (cz PassesOwn.never rfl (yd (aG (ad (aX (v:=.int 0) (by rfl) AX ⟨_,rfl⟩) (ad (aX (v:=.int 1) (by rfl) BK ⟨_,rfl⟩) ak)))) (aO (i:=5) Bq.nd rfl (Or.inl rfl)) (am (ce (aF Cp (hr.mono (by decide)) (by rfl) (ad (pv 0) (ad (pv 2) (ad (aF Dt (hr.mono (by decide)) (by rfl) (ad (pv 5) (ad (pv 3) (ad (pv 4) ak)))) (ad (aG (ad (pv 5) (ad (pv 3) (ad (pv 4) ak)))) (ad (aG (ad (ao aL af (pv 5)) (ad (pv 3) (ad (pv 4) ak)))) ak))))))))))))) (am (aB (pv 2))))),?_⟩;refine⟨_,rfl,_,rfl,fo,n,m,room,G,F,wy,rfl,fa,⟨hn,hn20⟩,⟨hm,hm20⟩,hw,λd H1 s1 nd rp1=>?_⟩;obtain⟨dx,lt,d0,fr,hf,hl,_,_⟩:=fa.ex;have FL:∀{H':Hp},Same H H'->SqT K H' lt [.int (n:Int),.int (m:Int)]:=λs=>SqT.of (s _ _ hl);have cb:∀{i j:Nat},i<n->j<m->i*(2*m)+2*j+2<=800:=λ{i j} hi hj=>by
   have h1:i*(2*m)<=19*(2*m):=Nat.mul_le_mul_right _ (by omega);omega
  refine⟨_,rfl,fo,C_Field,dx,_,_,rfl,s1 _ _ hf,AS.cls,n_last,rfl,lt,_,_,_,rfl,rfl,FL s1,rfl,_,rfl,by omega,by omega,?_⟩;rw[Int.toNat_natCast];refine cV (n:=n) (lo:=0) (λi σ H'=>∃(z3 z4 z5:Option V),σ = [some (.ref fo),some (.str wy),some (.ref d),z3,z4,z5]/\Same H H'/\Cd K H' d (RS wy G F n m i 0 0) (30+i*(2*m)))
   ⟨_,_,_,rfl,s1,rp1.congr (vi hm) (by omega)⟩ ?_ ?_
  ·rintro i σ H2 hi ⟨z3,z4,z5,rfl,s2,rp2⟩
   rw[Int.zero_add];refine⟨_,rfl,fo,C_Field,dx,_,_,rfl,s2 _ _ hf,AS.cls,n_last,rfl,lt,_,_,_,rfl,rfl,FL s2,rfl,_,rfl,by omega,by omega,?_⟩;rw[Int.toNat_natCast];refine cV (n:=m) (lo:=0) (λj σ H'=>∃(z4 z5:Option V),σ = [some (.ref fo),some (.str wy),some (.ref d),some (.int (i:Int)),z4,z5]/\Same H H'/\Cd K H' d (RS wy G F n m i j j) (30+i*(2*m)+2*j))
    ⟨_,_,rfl,s2,rp2⟩ ?_ ?_
   ·rintro j σ H3 hj ⟨z4,z5,rfl,s3,rp3⟩
    rw[Int.zero_add];have hc:=cb hi hj;refine⟨sz (by simp),λtp H4 s4 f4 n4=>?_⟩;have ndp:d≠tp:=λz=>by
     obtain⟨kvs,e,_⟩:=rp3.ex;rw[z,n4]at e;cases e
    refine⟨tp,rfl,⟨_,SqT.of f4⟩,wx (K:=K) (a:=tp) (xs:=[.int 0,.int 1]) (λs σ H'=>∃(z5:Option V),σ = [some (.ref fo),some (.str wy),some (.ref d),some (.int (i:Int)),some (.int (j:Int)),z5]/\Same H H'/\H' tp=some (.tup [.int 0,.int 1])/\Cd K H' d (RS wy G F n m i ((j:Int)+(if 1<=s then 1 else 0)) ((j:Int)+(if 2<=s then 1 else 0))) (30+i*(2*m)+2*j+s))
     ⟨_,rfl,s3.trans s4,f4,(rp3.mono s4).congr (λx=>by rw[if_neg (by decide),if_neg (by decide),Int.add_zero]) (by omega)⟩ (λi σ H' _ ⟨_,_,_,e,_⟩=>SqT.of e) ?_ ?_⟩
    ·rintro s x σ H5 hx ⟨z5,rfl,s5,f5,rp5⟩
     obtain⟨sd,rfl,hsd⟩:∃sd:Int,x = .int sd/\((s=0/\sd=0)\/(s=1/\sd=1)):=by
      match s,hx with
      | 0,h=>cases h;exact⟨0,rfl,.inl ⟨rfl,rfl⟩⟩
      | 1,h=>cases h;exact⟨1,rfl,.inr ⟨rfl,rfl⟩⟩
      | s+2,h=>simp at h
     refine⟨_,rfl,_,rfl,_,rfl,_,rfl,_,rfl,sd,(i:Int),(j:Int),rfl,by omega,λt H6 s6 f6=>?_⟩;refine⟨_,rfl,_,rfl,_,rfl,sz (by simp),λts H7 s7 f7 n7=>?_⟩;refine⟨_,rfl,_,_,rfl,rfl,_,rfl,_,rfl,sz (by simp),λtt H8 s8 f8 n8=>?_⟩;have S8:=s6.trans (s7.trans s8);have fin:∀{su sl:Int} {H':Hp},bX d H8 H'->Cd K H' d (RS wy G F n m i su sl) (30+i*(2*m)+2*j+(s+1))->su=(j:Int)+(if 1<=s+1 then 1 else 0)->sl=(j:Int)+(if 2<=s+1 then 1 else 0)->∃(z5:Option V),[some (V.ref fo),some (V.str wy),some (V.ref d),some (V.int (i:Int)),some (V.int (j:Int)),some (V.int sd)] = [some (.ref fo),some (.str wy),some (.ref d),some (.int (i:Int)),some (.int (j:Int)),z5]/\Same H H'/\H' tp=some (.tup [.int 0,.int 1])/\Cd K H' d (RS wy G F n m i ((j:Int)+(if 1<=s+1 then 1 else 0)) ((j:Int)+(if 2<=s+1 then 1 else 0))) (30+i*(2*m)+2*j+(s+1)):=λ{su sl H'} b r e1 e2=>by
      subst e1;subst e2;exact⟨_,rfl,b.same (s5.trans S8) nd,b _ _ ndp.symm (S8 _ _ f5),r⟩
     rcases hsd with⟨rfl,rfl⟩|⟨rfl,rfl⟩
     ·refine⟨fo,d,t,ts,tt,n,m,room,G,F,_,_,(0,(i:Int)+1,(j:Int)),(0,(i:Int),(j:Int)),(1,(i:Int),(j:Int)),rfl,fa.mono (s5.trans S8),(rp5.mono S8).congr (R':=RS wy G F n m i j j) (λx=>by rw[if_neg (by decide),if_neg (by decide),Int.add_zero]) (Nat.le_refl _),⟨(s7.trans s8) _ _ f6,s8 _ _ f7,f8⟩,.inl ⟨rfl,⟨by show(0:Int)<=(i:Int)+1;omega,by show(i:Int)+1<=n;omega⟩,by show(0:Int)<=j;omega,by show(j:Int)<m;omega⟩,iQ ?_,by omega,λH9 b9 r9=>?_⟩
      ·rintro(⟨_,h|⟨_,h⟩⟩|⟨h,_⟩)
       ·have h:(i:Int)+1<=i:=h
        omega
       ·have h:(j:Int)<j:=h
        omega
       ·cases h
      ·exact fin b9 (r9.congr (Ai hi hj) (by omega)) (by rw[if_pos (by decide)]) (by rw[if_neg (by decide),Int.add_zero])
     ·refine⟨fo,d,t,ts,tt,n,m,room,G,F,_,_,(1,(i:Int),(j:Int)+1),(1,(i:Int),(j:Int)),(0,(i:Int),(j:Int)),rfl,fa.mono (s5.trans S8),(rp5.mono S8).congr (R':=RS wy G F n m i ((j:Int)+1) j) (λx=>by rw[if_pos (by decide),if_neg (by decide),Int.add_zero]) (Nat.le_refl _),⟨(s7.trans s8) _ _ f6,s8 _ _ f7,f8⟩,.inr ⟨rfl,⟨by show(0:Int)<=(i:Int);omega,by show(i:Int)<n;omega⟩,by show(0:Int)<=(j:Int)+1;omega,by show(j:Int)+1<=m;omega⟩,iQ ?_,by omega,λH9 b9 r9=>?_⟩
      ·rintro(⟨h,_⟩|⟨_,h|⟨_,h⟩⟩)
       ·cases h
       ·have h:(i:Int)<i:=h
        omega
       ·have h:(j:Int)+1<=j:=h
        omega
      ·exact fin b9 (r9.congr (wX hi hj) (by omega)) (by rw[if_pos (by decide)]) (by rw[if_pos (by decide)])
    ·rintro σ H5 ⟨z5,rfl,s5,f5,rp5⟩
     exact⟨_,_,rfl,s5,rp5.congr (λx=>by rw[if_pos (by simp),if_pos (by simp)];rfl) (by simp only[List.length_cons,List.length_nil];omega)⟩
   ·rintro σ H3 ⟨z4,z5,rfl,s3,rp3⟩
    exact⟨_,_,_,rfl,s3,rp3.congr wY (by rw[Nat.add_mul];omega)⟩
  ·rintro σ H2 ⟨z3,z4,z5,rfl,s2,rp2⟩
   refine⟨_,rfl,k d H2 s2 nd (rp2.congr ze ?_)⟩;have h1:n*(2*m)<=20*(2*m):=Nat.mul_le_mul_right _ (by omega);omega
noncomputable def dW(K:W.Frag)(H:Hp)(e:aJ×Lb)(v:V):Prop:=∃t sv hv,v = .ref t/\H t=some (.tup [sv,hv])/\bW H sv e.1/\jk K H hv e.2
theorem dW.mono{K:W.Frag}{H H':Hp}{e:aJ×Lb}{v:V}(h:dW K H e v)(s:SameT H H'):dW K H' e v:=by
 obtain⟨t,sv,hv,h1,h2,h3,h4⟩:=h;exact⟨t,sv,hv,h1,s _ _ h2,h3.mono s,h4.mono s⟩
noncomputable def sr(room:Int)(gx gy:Option (N4×N4)):Option (N4×N4):=match gx,gy with
 | some p,some q=>if ro4 p.2 q.1>=room then none else some (p.2,q.1)
 | _,_=>none
inductive FZ (K:W.Frag) (C:Addr) (vs:List V) (H:Hp) (Q:VK) (x_3:XK):Prop
 | mk:∀(fo t1 t2:Addr) (n m:Nat) (room:Int) (G:GF) (F:Int->Int->Bool) (x y:Dor),(vs = [.ref fo,.ref t1,.ref t2])->(A9 K C H fo n m room G F)->((H t1=some (.tup ((dkD x).map kV))/\H t2=some (.tup ((dkD y).map kV))))->(DIn n m x.1 x.2.1 x.2.2)->(DIn n m y.1 y.2.1 y.2.2)->((sr room (G x.1 x.2.1 x.2.2) (G y.1 y.2.1 y.2.2)=none->Q .non H))->(∀l,sr room (G x.1 x.2.1 x.2.2) (G y.1 y.2.1 y.2.2)=some l->∀(t p q:Addr) (H':Hp),Same H H'->H' t=some (.tup [.ref p,.ref q])->Nm K H' p l.1->Nm K H' q l.2->Q (.ref t) H')->FZ K C vs H Q x_3
theorem Cy:AQ ["field","low_door","high_door","low","high"] ["field","low_door","high_door"] (aq (top 51)):=smk
theorem j6(Er:Df K mg "gap_between" (top 51))(AS:Dz K mg "Field" C_Field)(n_room:aR K C_Field "room")(n_last:aR K C_Field "last")(n_doors:aR K C_Field "doors")(n_far:aR K C_Field "far")(AT:Fn P w K mg base "root_order" ["one","other"] 4 (Fi K))(T:Txt mg):Fn P w K mg base "gap_between" ["field","low_door","high_door"] 5 (FZ K C_Field):=by
 refine Er.fn Cy (λ_ _ _ _ _ _ us hl=>by obtain⟨_,_,_,rfl⟩:=iG hl;rfl) (λvs H Q E h=>?_) (λf cdv A outer s H vs Q E hr h=>?_)
 ·obtain⟨fo,t1,t2,n,m,room,G,F,x,y,rfl,_⟩:=h
  rfl
 ·obtain⟨fo,t1,t2,n,m,room,G,F,x,y,rfl,fa,⟨h1,h2⟩,d1,d2,k0,k1⟩:=h
  refine⟨_,(ag (ay (i:=3) Cy.nd rfl (Or.inl rfl) (dn (cH hr) (cF (pv 0) rfl) (pv 1) (λ_ _=>rfl))) (ag (ay (i:=4) Cy.nd rfl (Or.inl rfl) (dn (cH hr) (cF (pv 0) rfl) (pv 2) (λ_ _=>rfl))) (ag (aM (fw (aE gH (pv 3) bJ (aH _)) (fw (aE gH (pv 4) bJ (aH _)) (fc (aE lC (aF AT (hr.mono (by decide)) (by rfl) (ad (az ar (pv 3) af (λ_ _=>rfl)) (ad (az ar (pv 4) af (λ_ _=>rfl)) ak))) (cF (pv 0) rfl) (aH _))))).pt (am (aB bJ)) aI) (am (aB (aG (ad (az ar (pv 3) af (λ_ _=>rfl)) (ad (az ar (pv 4) af (λ_ _=>rfl)) ak)))))))),?_⟩;obtain⟨dx,lt,d0,fr,hf,hl,⟨cc,dd⟩,_⟩:=fa.ex;obtain⟨o1,dg,hv1,_⟩:=dd.get (k:=x.1) (i:=x.2.1) (j:=x.2.2) h1;obtain⟨v1,rfl,gv1⟩:=hv1 d1;obtain⟨o2,dg2,hv2,_⟩:=dd.get (k:=y.1) (i:=y.2.1) (j:=y.2.2) h2;obtain⟨v2,rfl,gv2⟩:=hv2 d2;refine⟨_,rfl,fo,C_Field,dx,_,_,rfl,hf,AS.cls,n_doors,rfl,_,rfl,d0,_,rfl,dg,?_⟩;refine⟨_,rfl,fo,C_Field,dx,_,_,rfl,hf,AS.cls,n_doors,rfl,_,rfl,d0,_,rfl,dg2,?_⟩;cases e1:G x.1 x.2.1 x.2.2 with
  | none =>
   rw[e1]at gv1 k0;have gv1:v1 = .non:=gv1;rw[gv1];exact⟨_,rfl,rfl,_,rfl,cf rfl (k0 rfl)⟩
  | some p =>
   rw[e1]at gv1 k0 k1;obtain⟨tg,p1,p2,rfl,eg,g1,g2⟩:=gv1;refine⟨_,rfl,rfl,_,rfl,a6 (by simp) ?_⟩;cases e2:G y.1 y.2.1 y.2.2 with
   | none =>
    rw[e2]at gv2 k0;have gv2:v2 = .non:=gv2;rw[gv2];exact⟨_,rfl,rfl,_,rfl,cf rfl (k0 rfl)⟩
   | some q =>
    rw[e2]at gv2 k0 k1;obtain⟨tg2,q1,q2,rfl,eg2,f1,f2⟩:=gv2;refine⟨_,rfl,rfl,_,rfl,a6 (by simp) ?_⟩;refine⟨_,rfl,tg,_,_,_,rfl,rfl,SqT.of eg,rfl,_,rfl,tg2,_,_,_,rfl,rfl,SqT.of eg2,rfl,_,_,_,_,_,_,_,_,_,_,rfl,g2.rt',f1.rt',_,rfl,fo,C_Field,dx,_,_,rfl,hf,AS.cls,n_room,rfl,_,_,rfl,rfl,_,rfl,aT (λc=>?_) (λc=>?_)⟩
    ·exact k0 (if_pos (bP c))
    ·refine⟨_,rfl,tg,_,_,_,rfl,rfl,SqT.of eg,rfl,_,rfl,tg2,_,_,_,rfl,rfl,SqT.of eg2,rfl,sz (by simp),λt H1 s1 f3 n1=>?_⟩
     exact k1 _ (if_neg (bZ c)) t p2 q1 H1 s1 f3 (g2.mono s1) (f1.mono s1)
noncomputable def dnE(room:Int)(G:GF)(i j:Int)(k:Nat):Option (aJ×Lb):=(sr room (G 0 i j) (G 0 (k:Int) j)).map λl=>(ck (k:Int) j,.bend (dk 0 i j) (dk 0 (k:Int) j) l.1 l.2)
noncomputable def dnS(room:Int)(G:GF)(i j:Int):List (aJ×Lb):=if j - 1<0 then [] else match G 0 i (j - 1) with
 | none=>[(ck i (j - 1),.no)]
 | some _=>(List.range i.toNat).filterMap (dnE room G i (j - 1))
noncomputable def ovE(room:Int)(G:GF)(i j:Int)(k:Nat):Option (aJ×Lb):=(sr room (G 1 i (j+1+(k:Int))) (G 1 i j)).map λl=>(ck (i+1) (j+1+(k:Int)),.bend (dk 1 i j) (dk 1 i (j+1+(k:Int))) l.1 l.2)
noncomputable def ovS(room:Int)(G:GF)(n m:Nat)(i j:Int):List (aJ×Lb):=if i=(n:Int) then [] else match G 1 i j with
 | none=>[(ck (i+1) j,.no)]
 | some _=>(List.range ((m:Int) - j).toNat).filterMap (ovE room G i j)
noncomputable def bkS(F:Int->Int->Bool)(n m:Nat)(i j:Int):List (aJ×Lb):=((kQ n m F).filter λp=>decide (p.1<=i) && decide (p.2>=j)).map λp=>(ck p.1 p.2,.no)
structure G7(K:W.Frag)(H H':Hp)(sl:Addr)(l:List (aJ×Lb))(c:Nat):Prop where
 sm:Same H H'
 nr:H sl=none
 ex:∃vs,H' sl=some (.lst vs)/\Paired (dW K H') l vs/\vs.length<=c
theorem G7.mono{K:W.Frag}{H H1 H2:Hp}{sl:Addr}{l:List (aJ×Lb)}{c c':Nat}(J:G7 K H H1 sl l c)(s:Same H1 H2)(hc:c<=c'):G7 K H H2 sl l c':=by
 obtain⟨vs,e,p,n⟩:=J.ex;exact⟨J.sm.trans s,J.nr,vs,s _ _ e,Paired.mapP p λa b x=>x.mono s.t,by omega⟩
theorem G7.add{K:W.Frag}{H H1 H2:Hp}{sl t:Addr}{l:List (aJ×Lb)}{c:Nat}{e:aJ×Lb}{vs:List V}(J:G7 K H H1 sl l c)(hv:H1 sl=some (.lst vs))(st:dW K H1 e (.ref t))(u:Fg H1 H2 sl vs (vs++[.ref t])):G7 K H H2 sl (l++[e]) (c+1):=by
 obtain⟨vs',e',p,n⟩:=J.ex;rw[hv]at e';cases e';refine⟨λb o h=>u.at (λz=>by rw[z,J.nr]at h;cases h) (J.sm b o h),J.nr,_,u.now,?_,by rw[List.length_append,List.length_singleton];omega⟩;exact Paired.snoc (Paired.mapP p λa b x=>x.mono u.t) (st.mono u.t)
inductive Hw (K:W.Frag) (C:Addr) (vs:List V) (H:Hp) (Q:VK) (x_3:XK):Prop
 | mk:∀(fo c:Addr) (n m:Nat) (room:Int) (G:GF) (F:Int->Int->Bool) (i j:Int),(vs = [.ref fo,.ref c])->(A9 K C H fo n m room G F)->(H c=some (.tup [.int i,.int j]))->(((0<=i/\i<=(n:Int))/\n<=20))->(((0<=j/\j<=(m:Int))/\m<=20))->(∀r H',Same H H'->H r=none->(∃vs,H' r=some (.lst vs)/\Paired (dW K H') (dnS room G i j) vs/\vs.length<=30)->Q (.ref r) H')->Hw K C vs H Q x_3
inductive Ho (K:W.Frag) (C:Addr) (vs:List V) (H:Hp) (Q:VK) (x_3:XK):Prop
 | mk:∀(fo c:Addr) (n m:Nat) (room:Int) (G:GF) (F:Int->Int->Bool) (i j:Int),(vs = [.ref fo,.ref c])->(A9 K C H fo n m room G F)->(H c=some (.tup [.int i,.int j]))->(((0<=i/\i<=(n:Int))/\n<=20))->(((0<=j/\j<=(m:Int))/\m<=20))->(∀r H',Same H H'->H r=none->(∃vs,H' r=some (.lst vs)/\Paired (dW K H') (ovS room G n m i j) vs/\vs.length<=30)->Q (.ref r) H')->Ho K C vs H Q x_3
theorem ju{α:Type}{f:Nat->Option α}{k:Nat}:(List.range (k+1)).filterMap f=(List.range k).filterMap f++(f k).toList:=by
 rw[List.range_succ,List.filterMap_append];cases h:f k <;> simp[h]
theorem Bg:AQ ["field","corner","i","j","door","steps","k","beside","gap"] ["field","corner"] (aq (top 52)):=smk
theorem kG(EQ:Df K mg "steps_down" (top 52))(AS:Dz K mg "Field" C_Field)(n_room:aR K C_Field "room")(n_last:aR K C_Field "last")(n_doors:aR K C_Field "doors")(n_far:aR K C_Field "far")(V_UPRIGHT:∃tk,mg "UPRIGHT" = some (.int 0 tk))(V_LEVEL:∃tk,mg "LEVEL" = some (.int 1 tk))(Bu:Fn P w K mg base "gap_between" ["field","low_door","high_door"] 5 (FZ K C_Field))(T:Txt mg):Fn P w K mg base "steps_down" ["field","corner"] 6 (Hw K C_Field):=by
 refine EQ.fn Bg (λ_ _ _ _ _ _ us hl=>by obtain⟨_,_,rfl⟩:=dh hl;rfl) (λvs H Q E h=>?_) (λf cdv A outer s H vs Q E hr h=>?_)
 ·obtain⟨fo,c,n,m,room,G,F,i,j,rfl,_⟩:=h
  rfl
 ·obtain⟨fo,c,n,m,room,G,F,i,j,rfl,fa,hc,⟨⟨i0,i1⟩,hn⟩,⟨⟨j0,j1⟩,hm⟩,k⟩:=h
  obtain⟨tU,AX⟩:=V_UPRIGHT;obtain⟨tL,BK⟩:=V_LEVEL;refine⟨_,(ag (ay (i:=2) Bg.nd rfl (Or.inl rfl) (az ar (pv 1) af (λ_ _=>rfl))) (ag (ay (i:=3) Bg.nd rfl (Or.inl rfl) (ao aL (az ar (pv 1) af (λ_ _=>rfl)) af)) (ag (aM (aE dG (pv 3) af (aH _)) (am (aB (bz ak))) aI) (ag (ay (i:=4) Bg.nd rfl (Or.inl rfl) (aG (ad (aX (v:=.int 0) (by rfl) AX ⟨_,rfl⟩) (ad (pv 2) (ad (pv 3) ak))))) (ag (aM (aE gH (dn (cH hr) (cF (pv 0) rfl) (pv 4) (λ_ _=>rfl)) bJ (aH _)) (am (aB (@bz _ _ _ _ (@ad _ _ _ _ _ (@aG _ _ _ _ _ (@ad _ _ _ _ _ (@aG _ _ _ _ _ (@ad _ _ _ _ _ (pv 2) (@ad _ _ _ _ _ (pv 3) ak (by rfl)) (by rfl))) (@ad _ _ _ _ _ bJ ak (by rfl)) (by rfl))) ak (by rfl))))) aI) (ag (ay (i:=5) Bg.nd rfl (Or.inl rfl) (bz ak)) (ag (cz PassesOwn.never rfl (cU rfl T.z_range (ad (pv 2) ak)) (aO (i:=6) Bg.nd rfl (Or.inl rfl)) (ag (ay (i:=7) Bg.nd rfl (Or.inl rfl) (aG (ad (aX (v:=.int 0) (by rfl) AX ⟨_,rfl⟩) (ad (pv 6) (ad (pv 3) ak))))) (ag (ay (i:=8) Bg.nd rfl (Or.inl rfl) (aF Bu (hr.mono (by decide)) (by rfl) (ad (pv 0) (ad (pv 4) (ad (pv 7) ak))))) (am (aM (aE gb (pv 8) bJ (aH _)) (am (ce (eC PySem.F.plainAttrs_list PySem.F.slot_list_append PySem.F.type_list_append bO (pv 5) (ad (@aG _ _ _ _ _ (@ad _ _ _ _ _ (@aG _ _ _ _ _ (@ad _ _ _ _ _ (pv 6) (@ad _ _ _ _ _ (pv 3) ak (by rfl)) (by rfl))) (@ad _ _ _ _ _ (@aG _ _ _ _ _ (@ad _ _ _ _ _ (pv 4) (@ad _ _ _ _ _ (pv 7) (@ad _ _ _ _ _ (pv 8) ak (by rfl)) (by rfl)) (by rfl))) ak (by rfl)) (by rfl))) ak)))) aI))))) (am (aB (pv 5)))))))))),?_⟩;obtain⟨dx,lt,d0,fr,hf,hl,⟨cc,dd⟩,_⟩:=fa.ex;have e62:(2:Int)^62=4611686018427387904:=by decide
  refine⟨_,rfl,c,_,_,_,rfl,rfl,SqT.of hc,rfl,?_⟩;refine⟨_,rfl,c,_,_,_,rfl,rfl,SqT.of hc,rfl,_,_,rfl,rfl,?_⟩;unfold dnS at k;refine⟨_,rfl,_,_,rfl,rfl,_,rfl,aT (λh=>?_) (λh=>?_)⟩
  ·rw[if_pos (bP h)]at k
   exact⟨sz (by simp),λr H1 s1 f1 n1=>k r H1 s1 n1 ⟨[],f1,.nil,by simp⟩⟩
  have h:=bZ h;rw[if_neg h]at k;have din:DIn n m 0 i (j - 1):=.inl ⟨rfl,⟨i0,i1⟩,by omega,by omega⟩;refine⟨_,rfl,_,rfl,sz (by simp),λtd H1 s1 f1 n1=>?_⟩;obtain⟨o,dg,hv,_⟩:=(dd.mono s1).get (k:=0) (i:=i) (j:=(j - 1)) f1;obtain⟨v,rfl,gv⟩:=hv din;refine⟨_,rfl,fo,C_Field,dx,_,_,rfl,s1 _ _ hf,AS.cls,n_doors,rfl,_,rfl,d0,_,rfl,dg,rfl,_,rfl,?_⟩;cases hg:G 0 i (j - 1) with
  | none =>
   rw[hg]at gv k;have gv:v = .non:=gv;rw[gv];refine cf rfl ?_;refine⟨_,rfl,_,rfl,sz (by simp),λa H2 s2 f2 n2=>⟨sz (by simp),λt H3 s3 f3 n3=>⟨sz (by simp),λr H4 s4 f4 n4=>?_⟩⟩⟩;exact k r H4 (s1.trans (s2.trans (s3.trans s4))) ((s1.trans (s2.trans s3)).free n4) ⟨_,f4,.cons ⟨t,.ref a,.non,rfl,s4 _ _ f3,⟨a,rfl,(s3.trans s4) _ _ f2⟩,rfl⟩ .nil,by simp⟩
  | some pg =>
   rw[hg]at gv k;obtain⟨tg,p1,p2,rfl,eg,g1,g2⟩:=gv;refine a6 (by simp) ?_;refine⟨sz (by simp),λsl H2 s2 f2 n2=>?_⟩;have S2:=s1.trans s2;have nsl:H sl=none:=s1.free n2;refine⟨_,rfl,_,rfl,by omega,by omega,?_⟩;refine cV (n:=i.toNat) (lo:=0) (λk σ H'=>∃(z6 z7 z8:Option V),σ = [some (.ref fo),some (.ref c),some (.int i),some (.int (j - 1)),some (.ref td),some (.ref sl),z6,z7,z8]/\G7 K H H' sl ((List.range k).filterMap (dnE room G i (j - 1))) k/\H' td=some (.tup ((dkD (0,i,(j - 1))).map kV)))
    ⟨_,_,_,rfl,⟨S2,nsl,[],f2,.nil,by simp⟩,s2 _ _ f1⟩ ?_ ?_
   ·rintro k' σ H3 hk ⟨z6,z7,z8,rfl,J,ft⟩
    rw[Int.zero_add];have S3:=J.sm;refine⟨_,rfl,_,rfl,sz (by simp),λtb H4 s4 f4 n4=>?_⟩;have J4:=J.mono s4 (Nat.le_refl _);refine⟨_,rfl,_,rfl,_,rfl,fo,td,tb,n,m,room,G,F,(0,i,(j - 1)),(0,(k':Int),j - 1),rfl,fa.mono J4.sm,⟨s4 _ _ ft,f4⟩,din,(.inl ⟨rfl,⟨by show(0:Int)<=k';omega,by show(k':Int)<=n;omega⟩,by show 0<=j - 1;omega,by show j - 1<(m:Int);omega⟩),λhn=>?_,λl hs t p q H5 s5 f5 m1 m2=>?_⟩
    ·refine⟨_,rfl,rfl,_,rfl,a6 (by simp) ⟨_,_,_,rfl,?_,s4 _ _ ft⟩⟩
     rw[ju,show dnE room G i (j - 1) k'=none by unfold dnE;rw[hn];rfl,Option.toList_none,List.append_nil];exact J4.mono (Same.refl _) (by omega)
    ·have J5:=J4.mono s5 (Nat.le_refl _)
     refine⟨_,rfl,rfl,_,rfl,cf (by simp) ?_⟩;obtain⟨vs,ev,_,lv⟩:=J5.ex;refine⟨_,rfl,.inl ⟨rfl,_,SqL.of ev⟩,_,rfl,_,rfl,sz (by simp),λa H6 s6 f6 n6=>⟨_,rfl,_,rfl,_,rfl,sz (by simp),λb H7 s7 f7 n7=>⟨sz (by simp),λe H8 s8 f8 n8=>?_⟩⟩⟩;have S8:=s6.trans (s7.trans s8);have J8:=J5.mono S8 (Nat.le_refl _);have ev8:=S8 _ _ ev;refine⟨sl,_,_,rfl,rfl,ev8,aZ (by omega),λH9 u=>⟨_,_,_,rfl,?_,u.t _ _ (S8 _ _ (s5 _ _ (s4 _ _ ft)))⟩⟩;have T5:∀{z:Addr} {xs:List V},H5 z=some (.tup xs)->H8 z=some (.tup xs):=λe=>S8 _ _ e;have st:dW K H8 (ck (k':Int) (j - 1),.bend (dkD (0,i,(j - 1))) (dkD (0,(k':Int),j - 1)) l.1 l.2) (.ref e):=⟨e,.ref a,.ref b,rfl,f8,⟨a,rfl,(s7.trans s8) _ _ f6⟩,⟨b,td,tb,t,p,q,rfl,s8 _ _ f7,T5 (s5 _ _ (s4 _ _ ft)),T5 (s5 _ _ f4),T5 f5,m1.at_.mono S8.t,m2.at_.mono S8.t⟩⟩;have:=J8.add ev8 st u;rw[ju,show dnE room G i (j - 1) k'=some (ck (k':Int) (j - 1),.bend (dkD (0,i,(j - 1))) (dkD (0,(k':Int),j - 1)) l.1 l.2) by unfold dnE;rw[hs];rfl,Option.toList_some];exact this
   ·rintro σ H3 ⟨z6,z7,z8,rfl,J,_⟩
    exact⟨_,rfl,k sl H3 J.sm nsl (let ⟨vs,e,p,n⟩:=J.ex;⟨vs,e,p,by omega⟩)⟩
theorem Bf:AQ ["field","corner","i","j","door","steps","k","above","gap"] ["field","corner"] (aq (top 53)):=smk
theorem kE(EN:Df K mg "steps_over" (top 53))(AS:Dz K mg "Field" C_Field)(n_room:aR K C_Field "room")(n_last:aR K C_Field "last")(n_doors:aR K C_Field "doors")(n_far:aR K C_Field "far")(V_UPRIGHT:∃tk,mg "UPRIGHT" = some (.int 0 tk))(V_LEVEL:∃tk,mg "LEVEL" = some (.int 1 tk))(Bu:Fn P w K mg base "gap_between" ["field","low_door","high_door"] 5 (FZ K C_Field))(T:Txt mg):Fn P w K mg base "steps_over" ["field","corner"] 6 (Ho K C_Field):=by
 refine EN.fn Bf (λ_ _ _ _ _ _ us hl=>by obtain⟨_,_,rfl⟩:=dh hl;rfl) (λvs H Q E h=>?_) (λf cdv A outer s H vs Q E hr h=>?_)
 ·obtain⟨fo,c,n,m,room,G,F,i,j,rfl,_⟩:=h
  rfl
 ·obtain⟨fo,c,n,m,room,G,F,i,j,rfl,fa,hc,⟨⟨i0,i1⟩,hn⟩,⟨⟨j0,j1⟩,hm⟩,k⟩:=h
  obtain⟨tU,AX⟩:=V_UPRIGHT;obtain⟨tL,BK⟩:=V_LEVEL;refine⟨_,(ag (ay (i:=2) Bf.nd rfl (Or.inl rfl) (az ar (pv 1) af (λ_ _=>rfl))) (ag (ay (i:=3) Bf.nd rfl (Or.inl rfl) (az ar (pv 1) af (λ_ _=>rfl))) (ag (aM (aE bR (pv 2) (az ar (cF (pv 0) rfl) af (λ_ _=>rfl)) (aH _)) (am (aB (bz ak))) aI) (ag (ay (i:=4) Bf.nd rfl (Or.inl rfl) (aG (ad (aX (v:=.int 1) (by rfl) BK ⟨_,rfl⟩) (ad (pv 2) (ad (pv 3) ak))))) (ag (aM (aE gH (dn (cH hr) (cF (pv 0) rfl) (pv 4) (λ_ _=>rfl)) bJ (aH _)) (am (aB (@bz _ _ _ _ (@ad _ _ _ _ _ (@aG _ _ _ _ _ (@ad _ _ _ _ _ (@aG _ _ _ _ _ (@ad _ _ _ _ _ (ao aK (pv 2) af) (@ad _ _ _ _ _ (pv 3) ak (by rfl)) (by rfl))) (@ad _ _ _ _ _ bJ ak (by rfl)) (by rfl))) ak (by rfl))))) aI) (ag (ay (i:=5) Bf.nd rfl (Or.inl rfl) (bz ak)) (ag (cz PassesOwn.never rfl (lq rfl T.z_range (ad (ao aK (pv 3) af) (ad (ao aK (az ar (cF (pv 0) rfl) af (λ_ _=>rfl)) af) ak))) (aO (i:=6) Bf.nd rfl (Or.inl rfl)) (ag (ay (i:=7) Bf.nd rfl (Or.inl rfl) (aG (ad (aX (v:=.int 1) (by rfl) BK ⟨_,rfl⟩) (ad (pv 2) (ad (pv 6) ak))))) (ag (ay (i:=8) Bf.nd rfl (Or.inl rfl) (aF Bu (hr.mono (by decide)) (by rfl) (ad (pv 0) (ad (pv 7) (ad (pv 4) ak))))) (am (aM (aE gb (pv 8) bJ (aH _)) (am (ce (eC PySem.F.plainAttrs_list PySem.F.slot_list_append PySem.F.type_list_append bO (pv 5) (ad (@aG _ _ _ _ _ (@ad _ _ _ _ _ (@aG _ _ _ _ _ (@ad _ _ _ _ _ (ao aK (pv 2) af) (@ad _ _ _ _ _ (pv 6) ak (by rfl)) (by rfl))) (@ad _ _ _ _ _ (@aG _ _ _ _ _ (@ad _ _ _ _ _ (pv 4) (@ad _ _ _ _ _ (pv 7) (@ad _ _ _ _ _ (pv 8) ak (by rfl)) (by rfl)) (by rfl))) ak (by rfl)) (by rfl))) ak)))) aI))))) (am (aB (pv 5)))))))))),?_⟩;obtain⟨dx,lt,d0,fr,hf,hl,⟨cc,dd⟩,_⟩:=fa.ex;have e62:(2:Int)^62=4611686018427387904:=by decide
  refine⟨_,rfl,c,_,_,_,rfl,rfl,SqT.of hc,rfl,?_⟩;refine⟨_,rfl,c,_,_,_,rfl,rfl,SqT.of hc,rfl,?_⟩;unfold ovS at k;refine⟨_,rfl,_,rfl,fo,C_Field,dx,_,_,rfl,hf,AS.cls,n_last,rfl,lt,_,_,_,rfl,rfl,SqT.of hl,rfl,rfl,_,rfl,?_⟩;rw[di];refine aT (λh=>?_) (λh=>?_)
  ·rw[if_pos (bP h)]at k
   exact⟨sz (by simp),λr H1 s1 f1 n1=>k r H1 s1 n1 ⟨[],f1,.nil,by simp⟩⟩
  have h:=bZ h;rw[if_neg h]at k;have din:DIn n m 1 i j:=.inr ⟨rfl,⟨i0,by omega⟩,j0,j1⟩;refine⟨_,rfl,_,rfl,sz (by simp),λtd H1 s1 f1 n1=>?_⟩;obtain⟨o,dg,hv,_⟩:=(dd.mono s1).get (k:=1) (i:=i) (j:=j) f1;obtain⟨v,rfl,gv⟩:=hv din;refine⟨_,rfl,fo,C_Field,dx,_,_,rfl,s1 _ _ hf,AS.cls,n_doors,rfl,_,rfl,d0,_,rfl,dg,rfl,_,rfl,?_⟩;cases hg:G 1 i j with
  | none =>
   rw[hg]at gv k;have gv:v = .non:=gv;rw[gv];refine cf rfl ?_;refine⟨_,rfl,_,_,rfl,rfl,_,rfl,sz (by simp),λa H2 s2 f2 n2=>⟨sz (by simp),λt H3 s3 f3 n3=>⟨sz (by simp),λr H4 s4 f4 n4=>?_⟩⟩⟩;exact k r H4 (s1.trans (s2.trans (s3.trans s4))) ((s1.trans (s2.trans s3)).free n4) ⟨_,f4,.cons ⟨t,.ref a,.non,rfl,s4 _ _ f3,⟨a,rfl,(s3.trans s4) _ _ f2⟩,rfl⟩ .nil,by simp⟩
  | some pg =>
   rw[hg]at gv k;obtain⟨tg,p1,p2,rfl,eg,g1,g2⟩:=gv;refine a6 (by simp) ?_;refine⟨sz (by simp),λsl H2 s2 f2 n2=>?_⟩;have S2:=s1.trans s2;have nsl:H sl=none:=s1.free n2;refine⟨_,rfl,_,_,rfl,rfl,_,rfl,fo,C_Field,dx,_,_,rfl,S2 _ _ hf,AS.cls,n_last,rfl,lt,_,_,_,rfl,rfl,SqT.of (S2 _ _ hl),rfl,_,_,rfl,rfl,_,_,rfl,?_⟩;have en:((m:Int)+1 - (j+1)).toNat=((m:Int) - j).toNat:=by congr 1;omega
   refine⟨by rw[e62];omega,cV (n:=((m:Int)+1 - (j+1)).toNat) (lo:=j+1) (λk σ H'=>∃(z6 z7 z8:Option V),σ = [some (.ref fo),some (.ref c),some (.int i),some (.int j),some (.ref td),some (.ref sl),z6,z7,z8]/\G7 K H H' sl ((List.range k).filterMap (ovE room G i j)) k/\H' td=some (.tup ((dkD (1,i,j)).map kV)))
    ⟨_,_,_,rfl,⟨S2,nsl,[],f2,.nil,by simp⟩,s2 _ _ f1⟩ ?_ ?_⟩
   ·rintro k' σ H3 hk ⟨z6,z7,z8,rfl,J,ft⟩
    have hk:k'<((m:Int) - j).toNat:=by omega
    have S3:=J.sm;refine⟨_,rfl,_,rfl,sz (by simp),λtb H4 s4 f4 n4=>?_⟩;have J4:=J.mono s4 (Nat.le_refl _);refine⟨_,rfl,_,rfl,_,rfl,fo,tb,td,n,m,room,G,F,(1,i,j+1+(k':Int)),(1,i,j),rfl,fa.mono J4.sm,⟨f4,s4 _ _ ft⟩,.inr ⟨rfl,⟨i0,by omega⟩,by show 0<=j+1+(k':Int);omega,by show j+1+(k':Int)<=m;omega⟩,din,λhn=>?_,λl hs t p q H5 s5 f5 m1 m2=>?_⟩
    ·refine⟨_,rfl,rfl,_,rfl,a6 (by simp) ⟨_,_,_,rfl,?_,s4 _ _ ft⟩⟩
     rw[ju,show ovE room G i j k'=none by unfold ovE;rw[hn];rfl,Option.toList_none,List.append_nil];exact J4.mono (Same.refl _) (by omega)
    ·have J5:=J4.mono s5 (Nat.le_refl _)
     refine⟨_,rfl,rfl,_,rfl,cf (by simp) ?_⟩;obtain⟨vs,ev,_,lv⟩:=J5.ex;refine⟨_,rfl,.inl ⟨rfl,_,SqL.of ev⟩,_,rfl,_,_,rfl,rfl,_,rfl,sz (by simp),λa H6 s6 f6 n6=>⟨_,rfl,_,rfl,_,rfl,sz (by simp),λb H7 s7 f7 n7=>⟨sz (by simp),λe H8 s8 f8 n8=>?_⟩⟩⟩;have S8:=s6.trans (s7.trans s8);have J8:=J5.mono S8 (Nat.le_refl _);have ev8:=S8 _ _ ev;refine⟨sl,_,_,rfl,rfl,ev8,aZ (by omega),λH9 u=>⟨_,_,_,rfl,?_,u.t _ _ (S8 _ _ (s5 _ _ (s4 _ _ ft)))⟩⟩;have T5:∀{z:Addr} {xs:List V},H5 z=some (.tup xs)->H8 z=some (.tup xs):=λe=>S8 _ _ e;have st:dW K H8 (ck (i+1) (j+1+(k':Int)),.bend (dkD (1,i,j)) (dkD (1,i,j+1+(k':Int))) l.1 l.2) (.ref e):=⟨e,.ref a,.ref b,rfl,f8,⟨a,rfl,(s7.trans s8) _ _ f6⟩,⟨b,td,tb,t,p,q,rfl,s8 _ _ f7,T5 (s5 _ _ (s4 _ _ ft)),T5 (s5 _ _ f4),T5 f5,m1.at_.mono S8.t,m2.at_.mono S8.t⟩⟩;have:=J8.add ev8 st u;rw[ju,show ovE room G i j k'=some (ck (i+1) (j+1+(k':Int)),.bend (dkD (1,i,j)) (dkD (1,i,j+1+(k':Int))) l.1 l.2) by unfold ovE;rw[hs];rfl,Option.toList_some];exact this
   ·rintro σ H3 ⟨z6,z7,z8,rfl,J,_⟩
    rw[en]at J;exact⟨_,rfl,k sl H3 J.sm nsl (let ⟨vs,e,p,n⟩:=J.ex;⟨vs,e,p,by omega⟩)⟩
inductive HG (K:W.Frag) (C:Addr) (vs:List V) (H:Hp) (Q:VK) (x_3:XK):Prop
 | mk:∀(fo c:Addr) (n m:Nat) (room:Int) (G:GF) (F:Int->Int->Bool) (i j:Int),(vs = [.ref fo,.ref c])->(A9 K C H fo n m room G F)->(H c=some (.tup [.int i,.int j]))->((n<=20/\m<=20))->(∀r H',Same H H'->H r=none->(∃vs,H' r=some (.lst vs)/\Paired (dW K H') (bkS F n m i j) vs/\vs.length<900)->Q (.ref r) H')->HG K C vs H Q x_3
noncomputable def lZ(room:Int)(G:GF)(F:Int->Int->Bool)(n m:Nat):aJ->List (aJ×Lb)
 | [.inl i,.inl j]=>(dnS room G i j++ovS room G n m i j)++bkS F n m i j
 | _=>[]
inductive Ha (K:W.Frag) (C:Addr) (vs:List V) (H:Hp) (Q:VK) (x_3:XK):Prop
 | mk:∀(fo c:Addr) (n m:Nat) (room:Int) (G:GF) (F:Int->Int->Bool) (i j:Int),(vs = [.ref fo,.ref c])->(A9 K C H fo n m room G F)->(H c=some (.tup [.int i,.int j]))->(((0<=i/\i<=(n:Int))/\n<=20))->(((0<=j/\j<=(m:Int))/\m<=20))->(∀r H',Same H H'->H r=none->rm K H' r (lZ room G F n m (ck i j))->Q (.ref r) H')->Ha K C vs H Q x_3
theorem jQ{α β:Type}{R:α->β->Prop}:∀{a a':List α} {b b':List β},Paired R a b->Paired R a' b'->Paired R (a++a') (b++b'):=by
 intro a a' b b' h k
 induction h with
 | nil=>exact k
 | cons x _ ih=>exact .cons x ih
theorem nG{α γ β:Type}{R:γ->β->Prop}{f:α->γ}:∀{l:List α} {m:List β},Paired (λa b=>R (f a) b) l m->Paired R (l.map f) m:=by
 intro l m h
 induction h with
 | nil=>exact .nil
 | cons a _ ih=>exact .cons a ih
noncomputable def lcE:Nat->Expr->List Scope
 | 0,_=>[]
 | n+1,e=>match e with
  | .ListComp _ _ sc _=>[sc]
  | .Call f as _ _=>lcE n f++as.flatMap (lcE n)
  | .BoolOp _ vs _=>vs.flatMap (lcE n)
  | .UnaryOp _ a _=>lcE n a
  | .Compare a _ bs _=>lcE n a++bs.flatMap (lcE n)
  | _=>[]
noncomputable def lcS:Nat->Stmt->List Scope
 | 0,_=>[]
 | n+1,s=>match s with
  | .Return (some e) _=>lcE 6 e
  | .Assign _ e _=>lcE 6 e
  | .Expr e _=>lcE 6 e
  | .If c b e _=>lcE 6 c++(b.flatMap (lcS n)++e.flatMap (lcS n))
  | .For _ _ b _ _=>b.flatMap (lcS n)
  | _=>[]
noncomputable def lcA(s:Stmt)(i:Nat):Scope:=((aP s).flatMap (lcS 4)).getD i { kind:=.function,names:=[],isGenerator:=false,isCoroutine:=false }
theorem EG:AQ ["field","corner"] ["field","corner"] (aq (top 54)):=smk
theorem kH(ER:Df K mg "steps_back" (top 54))(AS:Dz K mg "Field" C_Field)(n_room:aR K C_Field "room")(n_last:aR K C_Field "last")(n_doors:aR K C_Field "doors")(n_far:aR K C_Field "far"):Fn P w K mg base "steps_back" ["field","corner"] 1 (HG K C_Field):=by
 refine ER.fn EG (λ_ _ _ _ _ _ us hl=>by obtain⟨_,_,rfl⟩:=dh hl;rfl) (λvs H Q E h=>?_) (λf cdv A outer s H vs Q E hr h=>?_)
 ·obtain⟨fo,c,n,m,room,G,F,i,j,rfl,_⟩:=h
  rfl
 ·obtain⟨fo,c,n,m,room,G,F,i,j,rfl,fa,hc,⟨hn20,hm20⟩,kq⟩:=h
  have CN:DS (bY CX0 P w K mg base ["field","corner"] "steps_back" (aq (top 54)) f cdv A outer s H E).nox (lcA (top 54) 0) [("corner",s.heap.objs.size+1)] ["found"] [("corner",1)] :=
   ⟨by rfl,rfl,by decide +kernel,by decide +kernel,(λx hx=>by simp only[List.mem_cons,List.not_mem_nil,or_false]at hx;subst hx;rfl),(λp hp=>by simp only[List.mem_cons,List.not_mem_nil,or_false]at hp;subst hp;rfl),by rfl,by decide +kernel,(λp hp=>by simp only[List.mem_cons,List.not_mem_nil,or_false]at hp;subst hp;exact⟨rfl,rfl,.inr (.inl rfl),rfl,rfl⟩),⟨rfl,rfl⟩,rfl⟩
  refine⟨_,(am (aB (tS rfl CN (qr (cF (pv 0) rfl)) (λfp s₀ H₀=>(aO (i:=0) CN.nd rfl (Or.inl rfl) (Or.inr rfl))) (λfp s₀ H₀=>(l8 (PW.pt (jJ (aE nI (az (fm (K:=K) rfl) (pv 0) af (λ_ _=>rfl)) (az (fm (K:=K) rfl) (pv 1) af (λ_ _=>rfl)) (aH _)) (jo (aE lC (az (fm (K:=K) rfl) (pv 0) af (λ_ _=>rfl)) (az (fm (K:=K) rfl) (pv 1) af (λ_ _=>rfl)) (aH _))))))) (λfp s₀ H₀=>(aG (ad (pv 0) (ad bJ ak))))))),?_⟩;obtain⟨dx,lt,d,fr,hf,hl,_,fd⟩:=fa.ex;obtain⟨o,ed⟩:=id fd;have fl:=j9 (F:=F) hn20 hm20;refine⟨_,rfl,fo,C_Field,dx,_,_,rfl,hf,AS.cls,n_far,rfl,fr,o,_,rfl,ed,kg (k:=1) ed (by unfold kvF;rw[List.length_map];omega) (xV λp=>decide (p.1<=i) && decide (p.2>=j)) (λe y H'=>dW K H' (e.1,.no) y) (λe v H H' st h=>h.mono st) ?_ ?_⟩
  ·intro k e b H2 τ Kc Kn he hb s2 hτ kc kn
   obtain⟨τ0,rfl⟩:∃τ0,τ = [τ0]:=eV hτ;have he':=List.mem_of_getElem? he;unfold kvF at he';obtain⟨p,hp,rfl⟩:=List.mem_map.mp he';obtain⟨x,y⟩:=p;have kc':(decide (x<=i) && decide (y>=j))=true->∀(y':V) H4,Same H2 H4->dW K H4 (ck x y,.no) y'->Kc y' H4:=kc;have kn':(decide (x<=i) && decide (y>=j))=false->∀H4,Same H2 H4->Kn H4:=kn;have hb:H2 b=some (.tup [.int x,.int y]):=hb;have hc2:=s2 _ _ hc;refine⟨⟨[some (.ref b)],rfl,rfl⟩,?_⟩;refine⟨_,rfl,b,_,_,_,rfl,rfl,SqT.of hb,rfl,_,rfl,c,_,_,_,rfl,rfl,SqT.of hc2,rfl,_,_,rfl,rfl,_,rfl,aT (λc1=>?_) (λc1=>?_)⟩
   ·refine⟨_,rfl,b,_,_,_,rfl,rfl,SqT.of hb,rfl,_,rfl,c,_,_,_,rfl,rfl,SqT.of hc2,rfl,_,_,rfl,rfl,_,rfl,aT (λc2=>?_) (λc2=>?_)⟩
    ·refine⟨_,rfl,sz (by simp),λt H3 s3 f3 n3=>?_⟩
     exact kc' (by rw[c1,c2];rfl) _ H3 s3 ⟨t,.ref b,.non,rfl,f3,⟨b,rfl,s3 _ _ hb⟩,rfl⟩
    ·exact kn' (by rw[c1,c2];rfl) H2 (Same.refl _)
   ·exact kn' (by rw[c1];rfl) H2 (Same.refl _)
  ·intro r ys H3 nr s3 f3 pr
   rw[gI]at pr;have pr':Paired (dW K H3) (bkS F n m i j) ys:=by
    unfold bkS;exact nG (f:=λ(p:Int×Int)=>((ck p.1 p.2,Lb.no):aJ×Lb)) (gF (f:=λ(p:Int×Int)=>(ck p.1 p.2,V.bl true)) pr)
   refine kq r H3 s3 nr ⟨ys,f3,pr',?_⟩;rw[<- Paired.length pr'];unfold bkS;rw[List.length_map];exact Nat.lt_of_le_of_lt (List.length_filter_le _ _) fl
theorem EF:AQ ["field","corner"] ["field","corner"] (aq (top 55)):=smk
theorem kF(EO:Df K mg "steps_from" (top 55))(CL:Fn P w K mg base "steps_down" ["field","corner"] 6 (Hw K C_Field))(CI:Fn P w K mg base "steps_over" ["field","corner"] 6 (Ho K C_Field))(CO:Fn P w K mg base "steps_back" ["field","corner"] 1 (HG K C_Field)):Fn P w K mg base "steps_from" ["field","corner"] 7 (Ha K C_Field):=by
 refine EO.fn EF (λ_ _ _ _ _ _ us hl=>by obtain⟨_,_,rfl⟩:=dh hl;rfl) (λvs H Q E h=>?_) (λf cdv A outer s H vs Q E hr h=>?_)
 ·obtain⟨fo,c,n,m,room,G,F,i,j,rfl,_⟩:=h
  rfl
 ·obtain⟨fo,c,n,m,room,G,F,i,j,rfl,fa,hc,hi,hj,kq⟩:=h
  refine⟨_,(am (aB (ao jq (ao jq (aF CL (hr.mono (by decide)) (by rfl) (ad (pv 0) (ad (pv 1) ak))) (aF CI (hr.mono (by decide)) (by rfl) (ad (pv 0) (ad (pv 1) ak)))) (aF CO (hr.mono (by decide)) (by rfl) (ad (pv 0) (ad (pv 1) ak)))))),?_⟩;refine⟨_,rfl,_,rfl,fo,c,n,m,room,G,F,i,j,rfl,fa,hc,hi,hj,λr1 H1 s1 n1 ⟨v1,e1,p1,l1⟩=>?_⟩;refine⟨_,rfl,_,rfl,fo,c,n,m,room,G,F,i,j,rfl,fa.mono s1,s1 _ _ hc,hi,hj,λr2 H2 s2 n2 ⟨v2,e2,p2,l2⟩=>?_⟩;refine⟨r1,r2,v1,v2,rfl,rfl,s2 _ _ e1,e2,sz (by omega),λr3 H3 s3 e3 n3=>?_⟩;have S3:=s1.trans (s2.trans s3);refine⟨_,rfl,_,rfl,fo,c,n,m,room,G,F,i,j,rfl,fa.mono S3,S3 _ _ hc,⟨hi.2,hj.2⟩,λr4 H4 s4 n4 ⟨v4,e4,p4,l4⟩=>?_⟩;refine⟨r3,r4,v1++v2,v4,rfl,rfl,s4 _ _ e3,e4,sz (by rw[List.length_append];omega),λr5 H5 s5 e5 n5=>?_⟩;have S5:=s3.trans (s4.trans s5);have S:Same H H5:=s1.trans (s2.trans S5);refine kq r5 H5 S ((S3.trans s4).free n5) ⟨_,e5,?_⟩;exact jQ (jQ (Paired.mapP p1 λa b x=>dW.mono x (s2.trans S5).t) (Paired.mapP p2 λa b x=>dW.mono x S5.t)) (Paired.mapP p4 λa b x=>dW.mono x s5.t)
theorem gD{z:Int}:sg z<=0↔z<=0:=by
 unfold sg
 (repeat' split) <;> omega
theorem bS{z:Int}(h:z<=0):ssq z = -(z*z):=by
 unfold ssq;rcases Int.lt_or_eq_of_le h with z'|z'
 ·rw[if_pos z',Int.mul_neg]
 ·rw[z'];rfl
theorem cp{z:Int}(h:0<=z):ssq z=z*z:=by
 unfold ssq;rw[if_neg (by omega)]
theorem dR{a b:Int}(h0:0<=a)(h:a<=b):a*a<=b*b:=Int.mul_le_mul h h h0 (by omega)
theorem o0{a0 a2 a3 b0 b2 b3 x y:Int}(ha:0<a3)(hb:0<b3)(a2n:0<=a2)(b2n:0<=b2)(hw:a0*b3 - b0*a3=x*b3 - y*a3)(hx:x<=0\/x*x<=a2)(hy:0<=y\/y*y<=b2):ro a0 (-1) a2 a3 b0 1 b2 b3<=0:=by
 unfold ro;rw[hw];have e1:(-1:Int)*b3 = -b3:=by omega
 have e2:-(1:Int)*a3 = -a3:=by omega
 rw[e1,e2];obtain⟨α,α0,αx,αs⟩:∃α:Int,0<=α/\x*b3<=α/\α*α<=b3*b3*a2:=by
  rcases Int.lt_or_le 0 x with z|z
  ·have hx:x*x<=a2:=hx.resolve_left (by omega)
   refine⟨x*b3,Int.mul_nonneg (by omega) (by omega),Int.le_refl _,?_⟩;have:=Int.mul_le_mul_of_nonneg_left hx (show 0<=b3*b3 from Int.mul_nonneg (by omega) (by omega));have e:x*b3*(x*b3)=b3*b3*(x*x):=by grind
   omega
  ·exact⟨0,Int.le_refl _,Int.mul_nonpos_of_nonpos_of_nonneg z (by omega),by rw[Int.mul_zero];exact Int.mul_nonneg (Int.mul_nonneg (by omega) (by omega)) a2n⟩
 obtain⟨β,β0,βy,βs⟩:∃β:Int,0<=β/\-(y*a3)<=β/\β*β<=a3*a3*b2:=by
  rcases Int.lt_or_le y 0 with z|z
  ·have hy:y*y<=b2:=hy.resolve_left (by omega)
   have yn:y*a3<=0:=Int.mul_nonpos_of_nonpos_of_nonneg (by omega) (by omega);refine⟨-(y*a3),by omega,Int.le_refl _,?_⟩;have:=Int.mul_le_mul_of_nonneg_left hy (show 0<=a3*a3 from Int.mul_nonneg (by omega) (by omega));have e:-(y*a3) * -(y*a3)=a3*a3*(y*y):=by grind
   omega
  ·have:0<=y*a3:=Int.mul_nonneg z (by omega)
   exact⟨0,Int.le_refl _,by omega,by rw[Int.mul_zero];exact Int.mul_nonneg (Int.mul_nonneg (by omega) (by omega)) b2n⟩
 have wl:x*b3 - y*a3<=α+β:=by omega
 generalize x*b3 - y*a3=w at *;unfold cI;have n1:ssq (-b3)*a2+ssq (-a3)*b2 = -(b3*b3*a2+a3*a3*b2):=by
  rw[bS (show -b3<=0 by omega),bS (show -a3<=0 by omega)]
  grind
 rw[n1];have X0:0<=b3*b3*a2:=Int.mul_nonneg (Int.mul_nonneg (by omega) (by omega)) a2n;have Y0:0<=a3*a3*b2:=Int.mul_nonneg (Int.mul_nonneg (by omega) (by omega)) b2n;have sN:sg (-(b3*b3*a2+a3*a3*b2))<=0:=gD.mpr (by omega)
 split
 ·rename_i c
  rcases Int.lt_or_le 0 w with z|z
  ·have sw:sg w=1:=da z
   rw[sw,Int.one_mul]at c;have s0:¬-(b3*b3*a2+a3*a3*b2)<0:=λh=>by rw[eE h]at c;omega
   have hX:b3*b3*a2=0:=by omega
   have hY:a3*a3*b2=0:=by omega
   have hα:α=0:=by
    rcases Int.lt_or_eq_of_le α0 with h|h
    ·have:=Int.mul_pos h h;omega
    ·exact h.symm
   have hβ:β=0:=by
    rcases Int.lt_or_eq_of_le β0 with h|h
    ·have:=Int.mul_pos h h;omega
    ·exact h.symm
   omega
  ·exact gD.mpr (by have:=gD.mpr z;omega)
 ·rename_i c
  have z:0<w:=by
   rcases Int.lt_or_le 0 w with z|z
   ·exact z
   ·exact absurd (Int.mul_nonneg_of_nonpos_of_nonpos (gD.mpr z) sN) (by omega)
  rw[da z,Int.one_mul];unfold swr;refine gD.mpr ?_;have e3:w*w - -b3 * -b3*a2 - -a3 * -a3*b2=w*w - b3*b3*a2 - a3*a3*b2:=by grind
  have e4:-2 * -b3 * -a3 = -(2*b3*a3):=by grind
  have e5:ssq (-(2*b3*a3))*(a2*b2) = -(4*(b3*b3*a2)*(a3*a3*b2)):=by
   rw[bS (by have:=Int.mul_nonneg (show 0<=2*b3 by omega) (show 0<=a3 by omega);omega)]
   grind
  rw[e3,e4,e5];have w2:=dR (show 0<=w by omega) wl;have ex:(α+β)*(α+β)=α*α+β*β+2*(α*β):=by grind
  have ab0:=Int.mul_nonneg α0 β0;generalize b3*b3*a2=X at *;generalize a3*a3*b2=Y at *;have zl:w*w - X - Y<=2*(α*β):=by omega
  have XY:α*β*(α*β)<=X*Y:=by
   have:=Int.mul_le_mul αs βs (Int.mul_nonneg β0 β0) X0;have e:α*β*(α*β)=α*α*(β*β):=by grind
   omega
  rcases Int.lt_or_le 0 (w*w - X - Y) with z2|z2
  ·rw[cp (by omega)]
   have:=dR (show 0<=w*w - X - Y by omega) zl;have e:2*(α*β)*(2*(α*β))=4*(α*β*(α*β)):=by grind
   have e':4*X*Y=4*(X*Y):=by grind
   omega
  ·rw[bS z2]
   have h1:0<=(w*w - X - Y)*(w*w - X - Y):=Int.mul_nonneg_of_nonpos_of_nonpos z2 z2;have h2:=Int.mul_nonneg X0 Y0;have e':4*X*Y=4*(X*Y):=by grind
   omega
inductive GG:N4->Prop
 | b:GG (0,0,0,1)
 | n {P U L:Int} (hL:0<L) (hU:0<=U) (h:P - L<=0\/(P - L)*(P - L)<=U) (z:0<=P/\U<=P*P):GG (P,-1,U,L)
inductive GH:N4->Prop
 | e:GH (1,0,0,1)
 | n {P U L:Int} (hL:0<L) (hU:0<=U) (h:0<=P\/P*P<=U) (z:P - L<=0/\U<=(P - L)*(P - L)):GH (P,1,U,L)
theorem xk{P U L:Int}(hU:0<=U)(h:0<=ro 1 0 0 1 P (-1) U L):P - L<=0\/(P - L)*(P - L)<=U:=by
 rw[dN P (-1) U L 1 0 0 1,cD,Int.mul_one,Int.one_mul,show -1*(1:Int) = -1 from rfl]at h;have:=mt (my (W:=P - L) hU).1.mpr (by omega);omega
theorem xj{P U L:Int}(hU:0<=U)(h:0<=ro P 1 U L 0 0 0 1):0<=P\/P*P<=U:=by
 rw[cD,Int.mul_one,Int.zero_mul,Int.sub_zero,show(1:Int)*1=1 from rfl]at h;have:=mt (mw (W:=P) hU).1.mpr (by omega);omega
theorem yw{P U L:Int}(hU:0<=U)(h:¬ro P (-1) U L 0 0 0 1<0):0<=P/\U<=P*P:=by
 rw[cD,Int.mul_one,Int.zero_mul,Int.sub_zero,show -1*(1:Int) = -1 from rfl]at h;have:=mt (my (W:=P) hU).2.2.mpr h;omega
theorem yJ{P U L:Int}(hU:0<=U)(h:¬ro P 1 U L 1 0 0 1>0):P - L<=0/\U<=(P - L)*(P - L):=by
 rw[cD,Int.mul_one,Int.one_mul,show(1:Int)*1=1 from rfl]at h;have:=mt (mw (W:=P - L) hU).2.2.mpr h;omega
theorem dj{l m:N4}(g:HM l m):GG l/\GH m:=by
 cases g with
 | flat=>exact⟨.b,.e⟩
 | gate hL hU h1 h2 =>
  refine⟨?_,?_⟩
  ·unfold eM
   split
   ·exact .b
   ·rename_i c
    exact .n hL hU (xk hU h1) (yw hU c)
  ·unfold dA
   split
   ·exact .e
   ·rename_i c
    exact .n hL hU (xj hU h2) (yJ hU c)
noncomputable def GGk(G:GF):Prop:=∀k i j l h,G k i j=some (l,h)->HM l h
theorem fQ{qs rs:Crn}{a b room:Int}(hr:room=0\/room=1)(hb:0<b):GGk (cB qs rs a b room):=by
 intro k i j l h e;unfold cB at e
 split at e
 ·exact uJ hr hb e
 ·exact uJ hr hb e
theorem yx{x y x' y' a b:Int}:lo x y x' y' a b<0↔a<((x' - x)*(x' - x)+(y' - y)*(y' - y))*b:=by
 unfold lo;have:=(lg (x:=a - ((x' - x)*(x' - x)+(y' - y)*(y' - y))*b)).1;omega
theorem uV{qs rs:Crn}{a b:Int}{i j:Int}(hi:0<=i/\i<(qs.length:Int))(hj:0<=j/\j<(rs.length:Int)):d9 qs rs a b 0 i j=decide (a<((cnX rs j - cnX qs i)*(cnX rs j - cnX qs i)+(cnY rs j - cnY qs i)*(cnY rs j - cnY qs i))*b):=by
 have hi':i.toNat<qs.length:=by omega
 have hj':j.toNat<rs.length:=by omega
 have e1:qs[i.toNat]? = some (qs.getD i.toNat (0,0,0)):=by rw[List.getD_eq_getElem?_getD,List.getElem?_eq_getElem hi'];rfl
 have e2:rs[j.toNat]? = some (rs.getD j.toNat (0,0,0)):=by rw[List.getD_eq_getElem?_getD,List.getElem?_eq_getElem hj'];rfl
 unfold d9;rw[e1,e2];dsimp only;have:=yx (x:=cnX qs i) (y:=cnY qs i) (x':=cnX rs j) (y':=cnY rs j) (a:=a) (b:=b)
 by_cases h:a<((cnX rs j - cnX qs i)*(cnX rs j - cnX qs i)+(cnY rs j - cnY qs i)*(cnY rs j - cnY qs i))*b
 ·rw[decide_eq_true h]
  exact decide_eq_true (this.mpr h)
 ·rw[decide_eq_false h]
  exact decide_eq_false (λz=>h (this.mp z))
theorem qC{P U L:Int}(hU:0<=U)(h:P - L<=0\/(P - L)*(P - L)<=U):ro P (-1) U L 1 0 0 1<=0:=by
 rw[cD,Int.mul_one,Int.one_mul,show -1*(1:Int) = -1 from rfl];have:=mt (my (W:=P - L) hU).1.mp (by omega);omega
theorem jY{P U L:Int}(hU:0<=U)(h:0<=P\/P*P<=U):ro 0 0 0 1 P 1 U L<=0:=by
 rw[dN P 1 U L 0 0 0 1,cD,Int.mul_one,Int.zero_mul,Int.sub_zero,show(1:Int)*1=1 from rfl];have:=mt (mw (W:=P) hU).1.mp (by omega);omega
theorem ia{l m:N4}(g:HM l m):ro4 l m<=0:=by
 cases g with
 | flat=>decide
 | @gate P U L hL hU h1 h2 =>
  unfold eM dA
  split
  ·split
   ·decide
   ·exact jY hU (xj hU h2)
  ·split
   ·exact qC hU (xk hU h1)
   ·exact o0 (x:=0) (y:=0) hL hL hU hU (by omega) (.inl (Int.le_refl _)) (.inl (Int.le_refl _))
theorem xK{l m:N4}(hl:GG l)(hm:GH m)(w:gtB m 1 1<1):ro4 l m<=0:=by
 cases hm with
 | e=>cases hl with
  | b=>decide
  | n _ hU h _=>exact qC hU h
 | @n P U L hL hU h _ =>
  have w:ro 1 0 0 1 P 1 U L<1:=w;cases hl with
  | b=>exact jY hU h
  | @n P' U' L' hL' hU' h' _ =>
   refine o0 (x:=P' - L') (y:=P - L) hL' hL hU' hU (by grind) h' ?_;rw[dN P 1 U L 1 0 0 1,cD,Int.mul_one,Int.one_mul,show(1:Int)*1=1 from rfl]at w;have:=mt (mw (W:=P - L) hU).1.mpr (by omega);omega
theorem y7{l m:N4}(hl:GG l)(hm:GH m)(w:ltB l 0 1<1):ro4 l m<=0:=by
 cases hl with
 | b=>cases hm with
  | e=>decide
  | n _ hU h _=>exact jY hU h
 | @n P U L hL hU h _ =>
  have w:ro P (-1) U L 0 0 0 1<1:=w;cases hm with
  | e=>exact qC hU h
  | @n P' U' L' hL' hU' h' _ =>
   refine o0 (x:=P) (y:=P') hL hL' hU hU' rfl ?_ h';rw[cD,Int.mul_one,Int.zero_mul,Int.sub_zero,show -1*(1:Int) = -1 from rfl]at w;have:=mt (my (W:=P) hU).1.mpr (by omega);omega
theorem pZ{o:Option (N4×N4)}{t u:Int}(h:fb o t u=true):∃p,o=some p/\ltB p.1 t u<1/\gtB p.2 t u<1:=by
 cases o with
 | none=>cases h
 | some p =>
  have h:(decide (ltB p.1 t u<1) && decide (gtB p.2 t u<1))=true:=h;rw[Bool.and_eq_true,decide_eq_true_eq,decide_eq_true_eq]at h;exact⟨p,rfl,h.1,h.2⟩
section
variable {qs rs:Crn} {a b:Int} {n m:Nat}
theorem uL(hb:0<b)(en:qs.length=n+1)(em:rs.length=m+1)(i j:Nat)(hi:i<=n)(hj:j<m)(f:d9 qs rs a b 0 (i:Int) ((j+1:Nat):Int)=false):∃p,cB qs rs a b 0 0 (i:Int) (j:Int)=some p/\∀(k:Nat) p',cB qs rs a b 0 0 (k:Int) (j:Int)=some p'->ro4 p'.1 p.2<=0:=by
 have gg:GGk (cB qs rs a b 0):=fQ (.inl rfl) hb;have w:=(lK (cx:=cnX qs i) (cy:=cnY qs i) (bx:=cnX rs j) (by_:=cnY rs j) (ex:=cnX rs ((j:Int)+1)) (ey:=cnY rs ((j:Int)+1)) (x:=a) (y:=b) (a:=1) (b:=1) hb (by decide) (by decide) (by decide)).1;rw[uV (by omega) (by omega)]at f;have f:=of_decide_eq_false f;have ej:((j+1:Nat):Int)=(j:Int)+1:=by omega
 rw[ej]at f;have e1:wth (cnX qs i) (cnY qs i) (cnX rs j) (cnY rs j) (cnX rs ((j:Int)+1)) (cnY rs ((j:Int)+1)) 1 1=(cnX rs ((j:Int)+1) - cnX qs i)*(cnX rs ((j:Int)+1) - cnX qs i)+(cnY rs ((j:Int)+1) - cnY qs i)*(cnY rs ((j:Int)+1) - cnY qs i):=by unfold wth cM rAl;grind
 rw[e1,decide_eq_true (by omega)]at w;obtain⟨p,hp,_,h2⟩:=pZ w;refine⟨p,hp,λk p' hp'=>?_⟩;exact xK (dj (gg _ _ _ _ _ hp')).1 (dj (gg 0 i j _ _ hp)).2 h2
theorem uM(hb:0<b)(en:qs.length=n+1)(em:rs.length=m+1)(i j:Nat)(hi:i<n)(hj:j<=m)(f:d9 qs rs a b 0 (i:Int) (j:Int)=false):∃p,cB qs rs a b 0 1 (i:Int) (j:Int)=some p/\∀(k:Nat) p',cB qs rs a b 0 1 (i:Int) (k:Int)=some p'->ro4 p.1 p'.2<=0:=by
 have gg:GGk (cB qs rs a b 0):=fQ (.inl rfl) hb;have w:=(lK (cx:=cnX rs j) (cy:=cnY rs j) (bx:=cnX qs i) (by_:=cnY qs i) (ex:=cnX qs ((i:Int)+1)) (ey:=cnY qs ((i:Int)+1)) (x:=a) (y:=b) (a:=0) (b:=1) hb (by decide) (by decide) (by decide)).1;rw[uV (by omega) (by omega)]at f;have f:=of_decide_eq_false f;have e1:wth (cnX rs j) (cnY rs j) (cnX qs i) (cnY qs i) (cnX qs ((i:Int)+1)) (cnY qs ((i:Int)+1)) 0 1=(cnX rs j - cnX qs i)*(cnX rs j - cnX qs i)+(cnY rs j - cnY qs i)*(cnY rs j - cnY qs i):=by unfold wth;grind
 rw[e1,decide_eq_true (by omega)]at w;obtain⟨p,hp,h1,_⟩:=pZ w;have hp:cB qs rs a b 0 1 (i:Int) (j:Int)=some p:=hp;refine⟨p,hp,λk p' hp'=>?_⟩;exact y7 (dj (gg _ _ _ _ _ hp)).1 (dj (gg _ _ _ _ _ hp')).2 h1
end
noncomputable def kT(wy:Str)(n m:Nat)(F:Int->Int->Bool):List (Int×Int):=(kQ n m F).filter λp=>decide (p.2=(m:Int)) || (decide (wy≠bI) && decide (p.1=0))
noncomputable def sE(wy:Str)(n:Nat):aJ->Bool
 | [.inl i,.inl j]=>decide (j=0) || (decide (wy≠bI) && decide (i=(n:Int)))
 | _=>false
noncomputable def NoW(wy:Str)(n m:Nat)(G:GF)(F:Int->Int->Bool):Prop:=(wy=wOn->F n m=true\/(RR wy G F n m (0,((n - 1:Nat):Int),((m - 1:Nat):Int))=none/\RR wy G F n m (1,((n - 1:Nat):Int),((m - 1:Nat):Int))=none))/\(wy=bI->∀j:Nat,j<m->RR wy G F n m (0,(n:Int),(j:Int))=none)
theorem cO:¬wOn=bI:=by decide +kernel
theorem vY{qs rs:Crn}{a b:Int}{n m:Nat}{wy:Str}(hb:0<b)(en:qs.length=n+1)(em:rs.length=m+1)(hn:1<=n)(hm:1<=m)(hw:wy=wOn\/wy=bI)(W:NoW wy n m (cB qs rs a b 0) (d9 qs rs a b 0)):¬wV ((kT wy n m (d9 qs rs a b 0)).map λp=>ck p.1 p.2) (lZ 0 (cB qs rs a b 0) (d9 qs rs a b 0) n m) (sE wy n):=by
 rintro⟨R,r0,r1,r2⟩;have gg:GGk (cB qs rs a b 0):=fQ (.inl rfl) hb;have GT:=uL (a:=a) hb en em;have GL:=uM (a:=a) hb en em;generalize cB qs rs a b 0=G at *;generalize d9 qs rs a b 0=F at *
 let S:Nat->Nat->Prop:=λp q=>(p<=n/\q<=m)/\ck (p:Int) (q:Int)∈R
 have beg:∀p q:Nat,p<=n->q<=m->F p q=true->(q=m\/(wy≠bI/\p=0))->S p q:=λp q hp hq f h=>by
  refine⟨⟨hp,hq⟩,r0 _ (List.mem_map.mpr ⟨((p:Int),(q:Int)),List.mem_filter.mpr ⟨dU.mpr ⟨by omega,by omega,by omega,by omega,f⟩,?_⟩,rfl⟩)⟩;rcases h with h|⟨h1,h2⟩
  ·rw[decide_eq_true (show((p:Int),(q:Int)).2=(m:Int) by rw[h]),Bool.true_or]
  ·rw[decide_eq_true h1,decide_eq_true (show((p:Int),(q:Int)).1=0 by rw[h2];rfl),Bool.true_and,Bool.or_true]
 have stp:∀{i j:Nat} {e:aJ×Lb},S i j->e∈(dnS 0 G i j++ovS 0 G n m i j)++bkS F n m i j->e.1∈R:=λs h=>r1 _ s.2 _ h;have bk:∀i j p q:Nat,S i j->p<=i->j<=q->q<=m->F p q=true->S p q:=λi j p q s h1 h2 h3 f=>by
  have hi:=s.1.1;refine⟨⟨by omega,h3⟩,stp (e:=(ck (p:Int) (q:Int),.no)) s (List.mem_append_right _ (List.mem_map.mpr ⟨((p:Int),(q:Int)),List.mem_filter.mpr ⟨dU.mpr ⟨by omega,by omega,by omega,by omega,f⟩,?_⟩,rfl⟩))⟩;rw[decide_eq_true (show((p:Int),(q:Int)).1<=(i:Int) from Int.ofNat_le.mpr h1),decide_eq_true (show((p:Int),(q:Int)).2>=(j:Int) from Int.ofNat_le.mpr h2)];rfl
 have e0:∀i j:Nat,S i j->j≠0/\(wy≠bI->i≠n):=λi j s=>by
  have h:(decide ((j:Int)=0) || (decide (wy≠bI) && decide ((i:Int)=(n:Int))))=false:=r2 _ s.2;rw[Bool.or_eq_false_iff,decide_eq_false_iff_not]at h;refine⟨λz=>h.1 (by rw[z];rfl),λhp z=>?_⟩;rw[decide_eq_true hp,Bool.true_and,decide_eq_false_iff_not]at h;exact h.2 (by rw[z])
 have D:Dh n m G (λi j=>F i j) S (λp q=>(∃p' q',p<=p'/\q'<=q/\S p' q')\/(wy≠bI/\p=0/\1<=q)):=by
  refine⟨λx y q h t=>?_,λp q q' h t=>?_,λp q hp hq t f=>?_,λp q s=>.inl ⟨p,q,Nat.le_refl _,Nat.le_refl _,s⟩,λp hp f=>beg p m hp (Nat.le_refl _) f (.inl rfl),?_,?_,?_,?_,λk i j p h=>ia (gg k i j _ _ h),GT,GL⟩
  ·rcases t with⟨p',q',h1,h2,s⟩|⟨h1,h2,h3⟩
   ·exact .inl ⟨p',q',by omega,h2,s⟩
   ·exact .inr ⟨h1,by omega,h3⟩
  ·rcases t with⟨p',q'',h1,h2,s⟩|⟨h1,h2,h3⟩
   ·exact .inl ⟨p',q'',h1,by omega,s⟩
   ·exact .inr ⟨h1,h2,by omega⟩
  ·rcases t with⟨p',q',h1,h2,s⟩|⟨h1,h2,h3⟩
   ·exact bk p' q' p q s h1 h2 hq f
   ·exact beg p q hp hq f (.inr ⟨h1,h2⟩)
  ·intro i j hi hj s g
   refine⟨⟨hi,by omega⟩,stp (e:=(ck (i:Int) (j:Int),.no)) s (List.mem_append_left _ (List.mem_append_left _ ?_))⟩;unfold dnS;rw[if_neg (by omega),show((j+1:Nat):Int) - 1=(j:Int) by omega,g];exact List.mem_singleton.mpr rfl
  ·intro i j k p p' hi hj s hk g g' lt
   refine⟨⟨by omega,by omega⟩,stp (e:=(ck (k:Int) (j:Int),.bend (dk 0 i j) (dk 0 (k:Int) j) p.2 p'.1)) s (List.mem_append_left _ (List.mem_append_left _ ?_))⟩;unfold dnS;rw[if_neg (by omega),show((j+1:Nat):Int) - 1=(j:Int) by omega,g];refine List.mem_filterMap.mpr ⟨k,List.mem_range.mpr (by omega),?_⟩;unfold dnE;rw[g,g'];show(if ro4 p.2 p'.1>=0 then none else some (p.2,p'.1)).map _=_
   rw[if_neg (by omega)];rfl
  ·intro i j hi hj s g
   refine⟨⟨by omega,hj⟩,?_⟩;have:=stp (e:=(ck ((i:Int)+1) (j:Int),.no)) s (List.mem_append_left _ (List.mem_append_right _ (by
    unfold ovS;rw[if_neg (by omega),g];exact List.mem_singleton.mpr rfl)))
   rw[show((i+1:Nat):Int)=(i:Int)+1 by omega];exact this
  ·intro i j k p p' hi hk hkm s g g' lt
   refine⟨⟨by omega,hkm⟩,?_⟩;have ek:(j:Int)+1+((k - j - 1:Nat):Int)=(k:Int):=by omega
   have:=stp (e:=(ck ((i:Int)+1) (k:Int),.bend (dk 1 i j) (dk 1 i (k:Int)) p'.2 p.1)) s (List.mem_append_left _ (List.mem_append_right _ (by
    unfold ovS;rw[if_neg (by omega),g];refine List.mem_filterMap.mpr ⟨k - j - 1,List.mem_range.mpr (by omega),?_⟩;unfold ovE;rw[ek,g,g'];show(if ro4 p'.2 p.1>=0 then none else some (p'.2,p.1)).map _=_
    rw[if_neg (by omega)];rfl)))
   rw[show((i+1:Nat):Int)=(i:Int)+1 by omega];exact this
 have n00:¬((∃p' q',0<=p'/\q'<=0/\S p' q')\/(wy≠bI/\0=0/\1<=0)):=by
  rintro(⟨p',q',_,h,s⟩|⟨_,_,h⟩)
  ·exact(e0 p' q' s).1 (by omega)
  ·omega
 rcases hw with rfl|rfl
 ·have F0:F 0 0=false:=by
   cases f:F 0 0 with
   | false=>rfl
   | true=>exact absurd rfl (e0 0 0 (beg 0 0 (by omega) (by omega) f (.inr ⟨cO,rfl⟩))).1
  have h0:bgR wOn G F m 0=some ⟨(0,0,0,1),(0,0,0,1),none⟩:=by
   unfold bgR;rw[if_pos rfl,if_pos ⟨rfl,F0⟩]
  have L:=D.last (bg:=bgR wOn G F m) (j0:=0) ⟨by omega,n00,.inl (.inr ⟨cO,rfl,Nat.le_refl _⟩)⟩ h0 (λb _ _ _ p hp=>by
   show ro4 (0,0,0,1) p.2<=0;have:=(dj (gg _ _ _ _ _ hp)).2;generalize p.2=z at this;cases this with
   | e=>decide
   | n _ hU h _=>exact jY hU h) hn (λq=>by
   rintro(⟨p',q',h1,_,s⟩|⟨_,h,_⟩)
   ·exact(e0 p' q' s).2 cO (by have:=s.1.1;omega)
   ·omega)
  rcases W.1 rfl with f|⟨w1,w2⟩
  ·exact(e0 n m (beg n m (Nat.le_refl _) (Nat.le_refl _) f (.inl rfl))).2 cO rfl
  ·rw[ko (by omega) (by omega)]at w1
   rw[pV (by omega) (by omega)]at w2;rcases L with L|L
   ·rw[w1]at L;cases L
   ·rw[w2]at L;cases L
 ·obtain⟨j0,_,a0⟩:=nN D (i:=0) (j:=0) (by omega) n00
  obtain⟨p,hp,ok⟩:=D.openU (Nat.zero_le _) a0;have h0:bgR bI G F m j0=some ⟨p.1,p.2,none⟩:=by
   unfold bgR;rw[if_neg (λz=>cO z.symm),if_pos a0.1];have hp:G 0 0 (j0:Int)=some p:=hp;rw[hp];rfl
  obtain⟨j,r,aj,hu,_⟩:=D.all a0 h0 ok n (Nat.le_refl _);have:=W.2 rfl j aj.1;rw[ko (Nat.le_refl _) aj.1,hu]at this;cases this
theorem jx{x M:Int}{n:Nat}(h:ax x<=n)(e:((2^n:Nat):Int)<=M):-M<=x/\x<=M:=by
 have:=cQ h;omega
theorem qy{K:W.Frag}{H H':Hp}{p q:Addr}{l m:N4}(n1:Nm K H p l)(n2:Nm K H' q m)(h:ro4 l m<0):∀F G,Rm l.1 l.2.1 l.2.2.1 l.2.2.2 m.1 m.2.1 m.2.2.1 m.2.2.2 11 F G->F+1+2<=-G - 1:=by
 have ho:ro l.1 l.2.1 l.2.2.1 l.2.2.2 m.1 m.2.1 m.2.2.1 m.2.2.2 = -1:=by
  have h:ro l.1 l.2.1 l.2.2.1 l.2.2.2 m.1 m.2.1 m.2.2.1 m.2.2.2<0:=h;have:=(zI l.1 l.2.1 l.2.2.1 l.2.2.2 m.1 m.2.1 m.2.2.1 m.2.2.2).1;omega
 have w:ax (l.1*m.2.2.2 - m.1*l.2.2.2)<=484:=ap (aW (bits_mul n1.b0 n2.b3) (bits_mul n2.b0 n1.b3)) (by decide);have k1:ax (l.2.1*m.2.2.2*(l.2.1*m.2.2.2)*l.2.2.1)<=960:=ap (bits_mul (bits_mul (bits_mul n1.b1 n2.b3) (bits_mul n1.b1 n2.b3)) n1.b2) (by decide);have k2:ax (m.2.1*l.2.2.2*(m.2.1*l.2.2.2)*m.2.2.1)<=960:=ap (bits_mul (bits_mul (bits_mul n2.b1 n1.b3) (bits_mul n2.b1 n1.b3)) n2.b2) (by decide);have k4:ax (4*(l.2.2.2*m.2.2.2))<=500:=ap (bits_mul (m:=10) (by decide) (bits_mul n1.b3 n2.b3)) (by decide);have p3:0<l.2.2.2:=n1.p3;have q3:0<m.2.2.2:=n2.p3;exact Sp6.room (K:=2^584) (S:=2^1464) (M:=2^485) n1.p2 p3 n2.p2 q3 ho (by decide +kernel) (by show(2:Int)^2048=_;decide +kernel) ⟨by decide +kernel,by decide +kernel⟩ (jx w (by decide +kernel)) (jx k1 (by decide +kernel)).2 (jx k2 (by decide +kernel)).2 (jx k4 (by decide +kernel)).2
theorem xS{a k z:Int}(ha:a≠0)(h:a*a*k=z*z):∃r,0<=r/\r*r=k:=by
 have d:a.natAbs^2∣z.natAbs^2:=by
  refine⟨k.natAbs,?_⟩;have:=congrArg Int.natAbs h;rw[Int.natAbs_mul,Int.natAbs_mul,Int.natAbs_mul]at this;rw[Nat.pow_two,Nat.pow_two];exact this.symm
 obtain⟨c,hc⟩:=(Nat.pow_dvd_pow_iff (by decide)).mp d;refine⟨(c:Int),by omega,?_⟩;have e1:z*z=a*a*((c:Int)*c):=by
  have e2:z*z=((z.natAbs*z.natAbs:Nat):Int):=(Int.natAbs_mul_self).symm;have e3:a*a=((a.natAbs*a.natAbs:Nat):Int):=(Int.natAbs_mul_self).symm;rw[e2,e3,hc]
  push_cast
  grind
 have e4:a*a*k=a*a*((c:Int)*c):=by rw[h,e1]
 have hn:a*a≠0:=λz=>by rcases Int.mul_eq_zero.mp z with z|z <;> exact ha z
 exact(Int.eq_of_mul_eq_mul_left hn e4).symm
theorem vE{P U L P' U' L':Int}(hL:0<L)(hL':0<L')(hU:0<=U)(hU':0<=U')(h:ro P (-1) U L P' 1 U' L'=0):∃R,0<=R/\R*R=U:=by
 unfold ro at h;have e1:(-1:Int)*L' = -L':=by omega
 have e2:-(1:Int)*L = -L:=by omega
 rw[e1,e2]at h;generalize P*L' - P'*L=D at h;unfold cI at h;have n1:ssq (-L')*U+ssq (-L)*U' = -(L'*L'*U+L*L*U'):=by
  rw[bS (show -L'<=0 by omega),bS (show -L<=0 by omega)]
  grind
 rw[n1]at h;have X0:0<=L'*L'*U:=Int.mul_nonneg (Int.mul_nonneg (by omega) (by omega)) hU;have Y0:0<=L*L*U':=Int.mul_nonneg (Int.mul_nonneg (by omega) (by omega)) hU';have z0:L'*L'*U=0->∃R,0<=R/\R*R=U:=λz=>by
  have hn:L'*L'≠0:=λy=>by rcases Int.mul_eq_zero.mp y with y|y <;> omega
  rcases Int.mul_eq_zero.mp z with y|y
  ·exact absurd y hn
  ·exact⟨0,by decide,by rw[y];rfl⟩
 have sg0:∀{x:Int},sg x=0->x=0:=λ{x} h=>by
  unfold sg at h
  split at h
  ·cases h
  ·split at h
   ·cases h
   ·omega
 split at h
 ·rename_i c
  have h':=sg0 h
  by_cases hN:L'*L'*U+L*L*U'=0
  ·exact z0 (by omega)
  ·have sN:sg (-(L'*L'*U+L*L*U')) = -1:=eE (by omega)
   rw[sN]at h' c;omega
 ·rename_i c
  have hD:0<D:=by
   rcases Int.lt_or_le 0 D with z|z
   ·exact z
   ·exact absurd (Int.mul_nonneg_of_nonpos_of_nonpos (gD.mpr z) (gD.mpr (show -(L'*L'*U+L*L*U')<=0 by omega))) (by omega)
  rw[da hD,Int.one_mul]at h;unfold swr at h;have h:=sg0 h;have e3:D*D - -L' * -L'*U - -L * -L*U'=D*D - L'*L'*U - L*L*U':=by grind
  have e5:ssq (-2 * -L' * -L)*(U*U') = -(4*(L'*L'*U)*(L*L*U')):=by
   rw[show -2 * -L' * -L = -(2*L'*L) by grind,bS (by have:=Int.mul_nonneg (show 0<=2*L' by omega) (show 0<=L by omega);omega)]
   grind
  rw[e3,e5]at h;have key:(2*D*L')*(2*D*L')*U=(D*D+L'*L'*U - L*L*U')*(D*D+L'*L'*U - L*L*U'):=by
   have e6:(2*D*L')*(2*D*L')*U=4*(D*D)*(L'*L'*U):=by grind
   rw[e6];generalize L'*L'*U=X at *;generalize L*L*U'=Y at *;have zz:(D*D - X - Y)*(D*D - X - Y)=4*X*Y:=by
    rcases Int.lt_or_le (D*D - X - Y) 0 with z|z
    ·rw[bS (by omega)]at h
     have h1:0<(D*D - X - Y)*(D*D - X - Y):=Int.mul_pos_of_neg_of_neg z z;have h2:=Int.mul_nonneg X0 Y0;have e':4*X*Y=4*(X*Y):=by grind
     omega
    ·rw[cp z]at h
     omega
   generalize D*D=E at *
   grind
  have nz:2*D*L'≠0:=by
   have:=Int.mul_pos (show 0<2*D by omega) hL';omega
  exact xS nz key
noncomputable def PG(l m:N4)(t u:Int):Prop :=
 if ro4 l (0,0,0,1)=0 then t=0/\u=1 else if ro4 m (1,0,0,1)=0 then t=1/\u=1
 else if ro4 l m=0 then ∃R,(0<=R/\R*R=l.2.1*l.2.1*l.2.2.1)/\CG (l.1+sg l.2.1*R) l.2.2.2 t u
 else Wi l.1 l.2.1 l.2.2.1 l.2.2.2 m.1 m.2.1 m.2.2.1 m.2.2.2 t u
inductive Hm (K:W.Frag) (vs:List V) (H:Hp) (Q:VK) (x_3:XK):Prop
 | mk:∀(p q:Addr) (l m:N4),(vs = [.ref p,.ref q])->(Nm K H p l)->(Nm K H q m)->(ro4 l m<=0)->((l=(0,0,0,1)\/(GG l/\GH m)))->(∀(r:Addr) (t u:Int) (H':Hp),Same H H'->Ga H' r t u 2600->PG l m t u->0<=t->t<=u->Q (.ref r) H')->Hm K vs H Q x_3
theorem zi{P U L b0 b1 b2 b3 t u:Int}(hL:0<L)(hU:0<=U)(hu:0<u)(b2n:0<=b2)(b3p:0<b3)(z:0<=P/\U<=P*P)(w:Wi P (-1) U L b0 b1 b2 b3 t u):0<=t:=by
 obtain⟨m1,_⟩:=w.mid hU hL b2n b3p;rcases Int.lt_or_le t 0 with y|y
 ·exfalso
  have a1:=Int.mul_nonneg z.1 (show 0<=u by omega);have a2:0 < -(t*L):=by have:=Int.mul_neg_of_neg_of_pos y hL;omega
  rw[cp (show 0<=P*u - t*L by omega),bS (show -1*u<=0 by omega)]at m1;have b1:=dR a1 (show P*u<=P*u - t*L by omega);have b2:=Int.mul_le_mul_of_nonneg_left z.2 (show 0<=u*u from Int.mul_nonneg (by omega) (by omega));have e1:-(-1*u*(-1*u))*U = -(u*u*U):=by grind
  have e2:u*u*(P*P)=P*u*(P*u):=by grind
  omega
 ·exact y
theorem zj{a0 a1 a2 a3 P U L t u:Int}(hL:0<L)(hU:0<=U)(hu:0<u)(a2n:0<=a2)(a3p:0<a3)(z:P - L<=0/\U<=(P - L)*(P - L))(w:Wi a0 a1 a2 a3 P 1 U L t u):t<=u:=by
 obtain⟨_,m2⟩:=w.mid a2n a3p hU hL;rcases Int.lt_or_le u t with y|y
 ·exfalso
  have a1:0<=u*(L - P):=Int.mul_nonneg (by omega) (by omega);have a2:u*(L - P)<=t*L - P*u:=by
   have:=Int.mul_le_mul_of_nonneg_right (show u<=t by omega) (show 0<=L by omega);have e:u*(L - P)=u*L - P*u:=by grind
   omega
  rw[cp (show 0<=t*L - P*u by omega),bS (show -1*u<=0 by omega)]at m2;have b1:=dR a1 a2;have b2:=Int.mul_le_mul_of_nonneg_left z.2 (show 0<=u*u from Int.mul_nonneg (by omega) (by omega));have e1:-(-1*u*(-1*u))*U = -(u*u*U):=by grind
  have e2:u*u*((P - L)*(P - L))=u*(L - P)*(u*(L - P)):=by grind
  omega
 ·exact y
theorem E7:AQ ["low","high"] ["low","high"] (aq (top 43)):=smk
theorem mG{C pB pE:Addr}(E9:Df K mg "part_from" (top 43))(Cg:mg "BEGIN" = some (.ref pB))(Eu:mg "END" = some (.ref pE))(hB:∀H,SqT K H pB [.int 0,.int 0,.int 0,.int 1])(hE:∀H,SqT K H pE [.int 1,.int 0,.int 0,.int 1])(AT:Fn P w K mg base "root_order" ["one","other"] 4 (Fi K))(Bj:Fx P w K mg base "root_between" ["one","other"] 5 [] (GK K C)):Fn P w K mg base "part_from" ["low","high"] 6 (Hm K):=by
 refine E9.fn E7 (λ_ _ _ _ _ _ us hl=>by obtain⟨_,_,rfl⟩:=dh hl;rfl) (λvs H Q E h=>?_) (λf cdv A outer s H vs Q E hr h=>?_)
 ·obtain⟨p,q,l,m,rfl,_⟩:=h
  rfl
 ·obtain⟨p,q,l,m,rfl,n1,n2,le,cs,k⟩:=h
  refine⟨_,(ag (aM (aE bR (aF AT (hr.mono (by decide)) (by rfl) (ad (pv 0) (ad (aX (v:=.ref _) (by rfl) Cg rfl) ak))) af (aH _)) (am (aB (aG (ad af (ad af ak))))) aI) (ag (aM (aE bR (aF AT (hr.mono (by decide)) (by rfl) (ad (pv 1) (ad (aX (v:=.ref _) (by rfl) Eu rfl) ak))) af (aH _)) (am (aB (aG (ad af (ad af ak))))) aI) (am (aB (fL Bj (hr.mono (by decide)) (by rfl) (ad (pv 0) (ad (pv 1) ak))))))),?_⟩;have RB:∀H,Rt K H pB 0 0 0 1:=λH=>⟨hB H,by decide,by decide,by decide,by decide⟩;have RE:∀H,Rt K H pE 1 0 0 1:=λH=>⟨hE H,by decide,by decide,by decide,by decide⟩;refine⟨_,rfl,_,_,_,_,_,_,_,_,_,_,rfl,n1.rt,RB _,rfl,_,rfl,?_⟩;rw[di];refine aT (λc1=>?_) (λc1=>?_)
  ·have c1:ro4 l (0,0,0,1)=0:=bP c1
   exact⟨sz (by simp),λr H1 s1 f1 _=>k r 0 1 H1 s1 ⟨f1,⟨by decide,by decide⟩,by decide,by decide⟩ (by unfold PG;rw[if_pos c1];exact⟨rfl,rfl⟩) (by decide) (by decide)⟩
  have c1:¬ro4 l (0,0,0,1)=0:=bZ c1;refine⟨_,rfl,_,_,_,_,_,_,_,_,_,_,rfl,n2.rt,RE _,rfl,_,rfl,?_⟩;rw[di];refine aT (λc2=>?_) (λc2=>?_)
  ·have c2:ro4 m (1,0,0,1)=0:=bP c2
   exact⟨sz (by simp),λr H1 s1 f1 _=>k r 1 1 H1 s1 ⟨f1,⟨by decide,by decide⟩,by decide,by decide⟩ (by unfold PG;rw[if_neg c1,if_pos c2];exact⟨rfl,rfl⟩) (by decide) (by decide)⟩
  have c2:¬ro4 m (1,0,0,1)=0:=bZ c2;have pg:∀{t u:Int},PG l m t u↔if ro4 l m=0 then ∃R,(0<=R/\R*R=l.2.1*l.2.1*l.2.2.1)/\CG (l.1+sg l.2.1*R) l.2.2.2 t u else Wi l.1 l.2.1 l.2.2.1 l.2.2.2 m.1 m.2.1 m.2.2.1 m.2.2.2 t u:=λ{t u}=>by unfold PG;rw[if_neg c1,if_neg c2]
  rcases cs with rfl|⟨hl,hm⟩
  ·exact absurd (by decide) c1
  cases hl with
  | b=>exact absurd (by decide) c1
  | @n P U L hL hU h z=>cases hm with
   | e=>exact absurd (by decide) c2
   | @n P' U' L' hL' hU' h' z' =>
    refine⟨_,rfl,_,rfl,p,q,P,-1,U,L,P',1,U',L',240,235,11,2600,rfl,n1.rt,n2.rt,⟨hU,hL,hU',hL',n1.b0,ap n1.b1 (by decide),n1.b2,n2.b0,by decide,n2.b2,by decide,by decide⟩,⟨by decide,by decide,by decide⟩,λy=>absurd le (by show ¬ro P (-1) U L P' 1 U' L'<=0;omega),λy R r=>?_,λy=>⟨qy n1 n2 y,λr t u H1 s1 f1 wi bt bu=>?_⟩⟩
    ·obtain⟨R0,r0,r1⟩:=vE hL hL' hU hU' y
     have eR:R=R0:=by
      have h1:=r.lo;have h2:=r.hi;have h3:=r.nn;have e:1*(-1 * -1*U)=R0*R0:=by rw[r1];grind
      rw[e]at h1 h2;rcases Int.lt_trichotomy R R0 with w|w|w
      ·have:=dR (show 0<=R+1 by omega) (show R+1<=R0 by omega)
       omega
      ·exact w
      ·have:=Int.mul_lt_mul' (Int.le_of_lt w) w r0 (by omega)
       omega
     subst eR;refine⟨λw=>absurd (by rw[r1];grind) w,λw r' t u H1 s1 f1 fr bt bu=>?_⟩;have hu:=fr.low.pos;have e:=fr.eq;have e:(P+sg (-1)*R)*u=t*L:=e;have sgm:P+sg (-1)*R=P - R:=by show P + -1*R=P - R;omega
     rw[sgm]at e;have rp:R<=P:=by
      rcases Int.lt_or_le P R with y|y
      ·have:=Int.mul_lt_mul' (Int.le_of_lt y) y z.1 (by omega)
       omega
      ·exact y
     have rl:P - R<=L:=by
      rcases h with h|h
      ·omega
      ·rcases Int.lt_or_le L (P - R) with y|y
       ·have:=dR (show 0<=R+1 by omega) (show R+1<=P - L by omega)
        have e':(R+1)*(R+1)=R*R+2*R+1:=by grind
        omega
       ·exact y
     refine k r' t u H1 s1 ⟨f1,fr.low,ap bt (by decide),ap bu (by decide)⟩ (pg.mpr (by rw[if_pos (show ro4 (P,-1,U,L) (P',1,U',L')=0 from y)];exact⟨R,⟨r0,by rw[r1];show U = -1 * -1*U;grind⟩,fr⟩)) ?_ ?_
     ·rcases Int.lt_or_le t 0 with y|y
      ·have h1:=Int.mul_nonneg (show 0<=P - R by omega) (show 0<=u by omega)
       have h2:=Int.mul_neg_of_neg_of_pos y hL;omega
      ·exact y
     ·rcases Int.lt_or_le u t with y|y
      ·have h1:=Int.mul_le_mul_of_nonneg_right rl (show 0<=u by omega)
       have h2:=Int.mul_lt_mul_of_pos_right y hL;have e':L*u=u*L:=Int.mul_comm _ _;omega
      ·exact y
    ·have hu:0<u:=by
      obtain⟨_,_,_,_,_,_,_,_,_,h5⟩:=id wi;exact h5.low.pos
     have hlw:Em t u:=by
      obtain⟨_,_,_,_,_,_,_,_,_,h5⟩:=id wi;exact h5.low
     exact k r t u H1 s1 ⟨f1,hlw,bt,bu⟩ (pg.mpr (by rw[if_neg (show ¬ro4 (P,-1,U,L) (P',1,U',L')=0 by have y:ro4 (P,-1,U,L) (P',1,U',L')<0:=y;omega)];exact wi)) (zi hL hU hu hU' hL' z wi) (zj hL' hU' hu hU hL z' wi)
theorem Nm.rt8{K:W.Frag}{H:Hp}{p:Addr}{l:N4}(h:Nm K H p l):Id K H p l.1 l.2.1 l.2.2.1 l.2.2.2:=⟨h.at_.sq,ap h.b0 (by decide),ap h.b1 (by decide),ap h.b2 (by decide),ap h.b3 (by decide)⟩
inductive Hq (K:W.Frag) (vs:List V) (H:Hp) (Q:VK) (x_3:XK):Prop
 | mk:∀(p q:Addr) (a b:Int) (m:N4),(vs = [.ref p,.ref q])->(H p=some (.tup [.int a,.int b]))->((ax a<=2600/\ax b<=2600))->(Nm K H q m)->(∀H',Same H H'->Q (.bl (decide (ro4 (a,0,0,b) m<=0))) H')->Hq K vs H Q x_3
theorem Fq:AQ ["part","high"] ["part","high"] (aq (top 64)):=smk
theorem oj(FC:Df K mg "may_keep" (top 64))(F4:Fn P w K mg base "root_order" ["one","other"] 4 (FT K)):Fn P w K mg base "may_keep" ["part","high"] 5 (Hq K):=by
 refine FC.fn Fq (λ_ _ _ _ _ _ us hl=>by obtain⟨_,_,rfl⟩:=dh hl;rfl) (λvs H Q E h=>?_) (λf cdv A outer s H vs Q E hr h=>?_)
 ·obtain⟨p,q,a,b,m,rfl,_⟩:=h
  rfl
 ·obtain⟨p,q,a,b,m,rfl,hp,⟨ba,bb⟩,nq,k⟩:=h
  have AT:=F4;refine⟨_,(am (aB (dO nI (aF AT (hr.mono (by decide)) (by rfl) (ad (aG (ad (az ar (pv 0) af (λ_ _=>rfl)) (ad af (ad af (ad (az ar (pv 0) af (λ_ _=>rfl)) ak))))) (ad (pv 1) ak))) af (aH _)))),?_⟩;refine⟨_,rfl,p,_,_,_,rfl,rfl,SqT.of hp,rfl,_,rfl,p,_,_,_,rfl,rfl,SqT.of hp,rfl,sz (by simp),λt H1 s1 f1 n1=>?_⟩;exact⟨_,rfl,_,_,_,_,_,_,_,_,_,_,rfl,⟨SqT.of f1,ap ba (by decide),by decide,by decide,ap bb (by decide)⟩,(nq.mono s1).rt8,_,_,rfl,rfl,k H1 s1⟩
noncomputable def DrV(H:Hp)(x:Dor)(v:V):Prop:=∃t,v = .ref t/\H t=some (.tup ((dkD x).map kV))
theorem DrV.t{H H':Hp}{x:Dor}{v:V}(h:DrV H x v)(s:SameT H H'):DrV H' x v:=let ⟨t,e,f⟩:=h;⟨t,e,s _ _ f⟩
noncomputable def iN(wy:Str)(n m:Nat):List Dor:=if wy=wOn then [(0,(n:Int) - 1,(m:Int) - 1),(1,(n:Int) - 1,(m:Int) - 1)] else (List.range m).map λ(j:Nat)=>(0,(n:Int),(j:Int))
inductive Hz (vs:List V) (H:Hp) (Q:VK) (x_3:XK):Prop
 | mk:∀(lt:Addr) (n m:Nat) (wy:Str),(vs = [.ref lt,.str wy])->(H lt=some (.tup [.int (n:Int),.int (m:Int)]))->(m<=20)->((wy=wOn\/wy=bI))->(∀r H',Same H H'->H r=none->(∃vs,H' r=some (.lst vs)/\Paired (DrV H') (iN wy n m) vs)->Q (.ref r) H')->Hz vs H Q x_3
theorem lA{α β:Type}{R:α->β->Prop}:∀{l:List α} {ys:List β},ys.length=l.length->(∀(i:Nat) y,ys[i]? = some y->∃x,l[i]? = some x/\R x y)->Paired R l ys
 | [],[],_,_=>.nil
 | a::l,y::ys,h,k=>by
  obtain⟨x,e,r⟩:=k 0 y rfl;cases e;exact .cons r (lA (by simpa using h) λi z hz=>by
   obtain⟨x,e,r⟩:=k (i+1) z (by rw[List.getElem?_cons_succ];exact hz);rw[List.getElem?_cons_succ]at e;exact⟨x,e,r⟩)
theorem D9:AQ ["last","way"] ["last","way"] (aq (top 63)):=smk
theorem jh(Ej:Df K mg "doors_at_end" (top 63))(V_UPRIGHT:∃tk,mg "UPRIGHT" = some (.int 0 tk))(V_LEVEL:∃tk,mg "LEVEL" = some (.int 1 tk))(T:Txt mg):Fn P w K mg base "doors_at_end" ["last","way"] 1 Hz:=by
 refine Ej.fn D9 (λ_ _ _ _ _ _ us hl=>by obtain⟨_,_,rfl⟩:=dh hl;rfl) (λvs H Q E h=>?_) (λf cdv A outer s H vs Q E hr h=>?_)
 ·obtain⟨lt,n,m,wy,rfl,_⟩:=h
  rfl
 ·obtain⟨lt,n,m,wy,rfl,hl,hm20,hw,k⟩:=h
  have CN:DR (bY CX0 P w K mg base ["last","way"] "doors_at_end" (aq (top 63)) f cdv A outer s H E).nox (lcA (top 63) 0) [("last",s.heap.objs.size+1)] "j" [("last",0)] :=
   ⟨by rfl,rfl,by decide +kernel,by decide +kernel,rfl,(λp hp=>by simp only[List.mem_cons,List.not_mem_nil,or_false]at hp;rcases hp with rfl;rfl),by rfl,by decide +kernel,(λp hp=>by simp only[List.mem_cons,List.not_mem_nil,or_false]at hp;rcases hp with rfl;exact⟨rfl,rfl,.inr (.inl rfl),rfl,rfl⟩),⟨rfl,rfl⟩,rfl⟩
  obtain⟨tU,AX⟩:=V_UPRIGHT;obtain⟨tL,BK⟩:=V_LEVEL;refine⟨_,(ag (aM (aE bR (pv 1) dF (aH _)) (am (aB (@bz _ _ _ _ (@ad _ _ _ _ _ (@aG _ _ _ _ _ (@ad _ _ _ _ _ (aX (v:=.int 0) (by rfl) AX ⟨_,rfl⟩) (@ad _ _ _ _ _ (ao aL (az ar (pv 0) af (λ_ _=>rfl)) af) (@ad _ _ _ _ _ (ao aL (az ar (pv 0) af (λ_ _=>rfl)) af) ak (by rfl)) (by rfl)) (by rfl))) (@ad _ _ _ _ _ (@aG _ _ _ _ _ (@ad _ _ _ _ _ (aX (v:=.int 1) (by rfl) BK ⟨_,rfl⟩) (@ad _ _ _ _ _ (ao aL (az ar (pv 0) af (λ_ _=>rfl)) af) (@ad _ _ _ _ _ (ao aL (az ar (pv 0) af (λ_ _=>rfl)) af) ak (by rfl)) (by rfl)) (by rfl))) ak (by rfl)) (by rfl))))) aI) (am (aB (jO rfl CN (cU rfl T.z_range (ad (az ar (pv 0) af (λ_ _=>rfl)) ak)) (λfp s₀ H₀=>(aG (ad (aX (v:=.int 0) (by rfl) AX ⟨_,rfl⟩) (ad (az (fm (K:=K) rfl) (pv 1) af (λ_ _=>rfl)) (ad (pv 0) ak))))))))),?_⟩;have L:∀{H':Hp},Same H H'->SqT K H' lt [.int (n:Int),.int (m:Int)]:=λs=>SqT.of (s _ _ hl);refine⟨_,rfl,rfl,_,rfl,aT (λc=>?_) (λc=>?_)⟩
  ·have c:wy=wOn:=bP (ds c)
   unfold iN at k;rw[if_pos c]at k;refine⟨_,rfl,lt,_,_,_,rfl,rfl,L (Same.refl _),rfl,_,_,rfl,rfl,_,rfl,lt,_,_,_,rfl,rfl,L (Same.refl _),rfl,_,_,rfl,rfl,sz (by simp),λt1 H1 s1 f1 n1=>?_⟩;refine⟨_,rfl,lt,_,_,_,rfl,rfl,L s1,rfl,_,_,rfl,rfl,_,rfl,lt,_,_,_,rfl,rfl,L s1,rfl,_,_,rfl,rfl,sz (by simp),λt2 H2 s2 f2 n2=>⟨sz (by simp),λr H3 s3 f3 n3=>?_⟩⟩;exact k r H3 (s1.trans (s2.trans s3)) ((s1.trans s2).free n3) ⟨_,f3,.cons ⟨t1,rfl,(s2.trans s3) _ _ f1⟩ (.cons ⟨t2,rfl,s3 _ _ f2⟩ .nil)⟩
  ·have c:¬wy=wOn:=bZ (ds c)
   unfold iN at k;rw[if_neg c]at k;refine⟨_,rfl,lt,_,_,_,rfl,rfl,L (Same.refl _),rfl,_,rfl,by omega,by omega,?_⟩;rw[Int.toNat_natCast];refine wI (n:=m) (lo:=0) (by omega) (λj v H'=>DrV H' (0,(n:Int),(j:Int)) v) (λi v H H' st h=>h.t st) ?_ ?_
   ·intro j H2 Kc hj s2 kk
    refine⟨_,rfl,lt,_,_,_,rfl,rfl,L s2,rfl,_,rfl,sz (by simp),λt H3 s3 f3 n3=>kk _ H3 s3 ⟨t,rfl,?_⟩⟩;rw[Int.zero_add]at f3;exact f3
   ·intro r ys H2 nr s2 f2 hl2 hv
    refine k r H2 s2 nr ⟨ys,f2,lA (by rw[List.length_map,List.length_range];exact hl2) λi y hy=>⟨_,?_,hv i y hy⟩⟩;have hi:=(List.getElem?_eq_some_iff.mp hy).1;rw[List.getElem?_map,List.getElem?_range (by omega)];rfl
noncomputable def o5(bh:Option (Dor×Int×Int))(x:Dor)(r:Rv)(a b:Int):Prop:=match bh with
 | none=>PG r.lo r.hi a b
 | some z=>if z.1.1=x.1/\ro4 (z.2.1,0,0,z.2.2) r.hi<=0 then a=z.2.1/\b=z.2.2 else PG r.lo r.hi a b
inductive Bk (R:RF):Option (Dor×Int×Int)->Dor->List (Dor×Int×Int)->Prop
 | last {bh:Option (Dor×Int×Int)} {x:Dor} {r:Rv} {a b:Int} (h:R x=some r) (e:r.ah=none) (p:o5 bh x r a b):Bk R bh x [(x,a,b)]
 | more {bh:Option (Dor×Int×Int)} {x y:Dor} {r:Rv} {a b:Int} {l:List (Dor×Int×Int)} (h:R x=some r) (e:r.ah=some y) (p:o5 bh x r a b) (t:Bk R (some (x,a,b)) y l):Bk R bh x ((x,a,b)::l)
noncomputable def gC(x:Dor):Nat:=(x.2.1+x.2.2).toNat
structure Ic(K:W.Frag)(R:RF):Prop where
 key:∀x r,R x=some r->(x.1=0\/x.1=1)/\(0<=x.2.1/\x.2.1<=1000)/\0<=x.2.2/\x.2.2<=1000
 le:∀x r,R x=some r->ro4 r.lo r.hi<=0
 ends:∀x r,R x=some r->r.lo=(0,0,0,1)\/(GG r.lo/\GH r.hi)
 ah:∀x r y,R x=some r->r.ah=some y->(R y).isSome=true/\gC y<gC x
noncomputable def oB(e:Dor×Int×Int)(q:Pr):Prop:=uY e.1.1 e.1.2.1 e.1.2.2 e.2.1 e.2.2 q
inductive Gn (K:W.Frag) (vs:List V) (H:Hp) (Q:VK) (x_3:XK):Prop
 | mk:∀(d t:Addr) (R:RF) (c:Nat) (x:Dor),(vs = [.ref d,.ref t])->(Cd K H d R c)->(Ic K R)->(H t=some (.tup ((dkD x).map kV)))->(((R x).isSome=true/\gC x<900))->(∀(r:Addr) (H':Hp) (l:List (Dor×Int×Int)) (ps:List Pr),Same H H'->H r=none->Bk R none x l->l.length<=gC x+1->GE H' r ps->Paired oB l.reverse ps->Q (.ref r) H')->Gn K vs H Q x_3
noncomputable def BeP(H':Hp)(bv pv:V):Option (Dor×Int×Int)->Prop
 | none=>bv = .non
 | some z=>DrV H' z.1 bv/\∃tp,pv = .ref tp/\Ga H' tp z.2.1 z.2.2 2600/\0<=z.2.1/\z.2.1<=z.2.2
noncomputable def LeP(R:RF)(x:Dor)(don:List (Dor×Int×Int))(bh:Option (Dor×Int×Int)):Option Dor->Prop
 | none=>Bk R none x don
 | some y=>((R y).isSome=true/\don.length+gC y<=gC x)/\∀l,Bk R bh y l->Bk R none x (don++l)
structure Io(K:W.Frag)(R:RF)(x:Dor)(H H':Hp)(pl:Addr)(cv bv pv:V)(cur:Option Dor)(bh:Option (Dor×Int×Int))(don:List (Dor×Int×Int))(ps:List Pr):Prop where
 sm:Same H H'
 nr:H pl=none
 pp:GE H' pl ps
 pr:Paired oB don ps
 cu:AhV H' cv cur
 be:BeP H' bv pv bh
 left:LeP R x don bh cur
theorem jL(ps:List Pr)(q:Pr):prs (ps++[q])=prs ps++[.ref q.p]:=by unfold prs;rw[List.map_append];rfl
theorem za{K:W.Frag}{R:RF}(w:Ic K R){bh:Option (Dor×Int×Int)}{x:Dor}{l:List (Dor×Int×Int)}(h:Bk R bh x l):l.length<=gC x+1:=by
 induction h with
 | last _ _ _=>simp
 | more h e _ _ ih =>
  have:=(w.ah _ _ _ h e).2;rw[List.length_cons];omega
noncomputable def muB(σ:St)(H:Hp):Nat:=match σ with
 | [_,some (.ref t),_,_,_,_,_]=>(match H t with
  | some (.tup [.int _,.int i,.int j])=>(i+j).toNat+1
  | _=>0)
 | _=>0
theorem uf{z0 z2 z3 z4 z5 z6:Option V}{H:Hp}{t:Addr}{y:Dor}(h:H t=some (.tup ((dkD y).map kV))):muB [z0,some (.ref t),z2,z3,z4,z5,z6] H=gC y+1:=by
 show(match H t with
  | some (.tup [.int _,.int i,.int j])=>(i+j).toNat+1
  | _=>0)=_
 rw[h];rfl
noncomputable def vj(s:Stmt):List Stmt:=match s with
 | .While _ b _ _=>b
 | _=>[]
inductive Ie (K:W.Frag) (R:RF) (x:Dor) (d pl:Addr) (H:Hp) (σ:St) (H':Hp):Prop
 | mk (cv bv pv:V) (z5 z6:Option V) (cur:Option Dor) (bh:Option (Dor×Int×Int)) (don:List (Dor×Int×Int)) (ps:List Pr) (e:σ = [some (.ref d),some cv,some (.ref pl),some bv,some pv,z5,z6]) (j:Io K R x H H' pl cv bv pv cur bh don ps):Ie K R x d pl H σ H'
theorem Bn:AQ ["reached","door","pairs","behind","part","low","high"] ["reached","door"] (aq (top 65)):=smk
theorem oe(FA:Df K mg "pairs_to" (top 65))(Dp:Fn P w K mg base "may_keep" ["part","high"] 5 (Hq K))(C7:Fn P w K mg base "part_from" ["low","high"] 6 (Hm K))(Be:Fn P w K mg base "pair_in_door" ["door","part"] 4 FU):Fn P w K mg base "pairs_to" ["reached","door"] 7 (Gn K):=by
 refine FA.fn Bn (λ_ _ _ _ _ _ us hl=>by obtain⟨_,_,rfl⟩:=dh hl;rfl) (λvs H Q E h=>?_) (λf cdv A outer s H vs Q E hr h=>?_)
 ·obtain⟨d,t0,R,c,x,rfl,_⟩:=h
  rfl
 ·obtain⟨d,t0,R,c,x,rfl,rp,wf,ht0,⟨hsx,hrk⟩,k⟩:=h
  have RS:∃uu:TS,PSs (bY CX0 P w K mg base ["reached","door","pairs","behind","part","low","high"] "pairs_to" (aq (top 65)) f cdv A outer s H E).nox ((vj ((aP (top 65)).getD 3 (.Pass ⟨0,0,0,0⟩))).drop 3) uu/\∀(Dd:DA) (H1 H2:Hp) (pl t tp p q':Addr) (bv pv:V) (y:Dor) (r:Rv) (a b:Int) (bh:Option (Dor×Int×Int)) (don:List (Dor×Int×Int)) (ps:List Pr),Io K R x H H1 pl (.ref t) bv pv (some y) bh don ps->Same H1 H2->H1 t=some (.tup ((dkD y).map kV))->R y=some r->Ga H2 tp a b 2600->0<=a->a<=b->o5 bh y r a b ->
    (∀σ H',(Ie K R x d pl H σ H')->muB σ H'<gC y+1->Dd.nx σ H')->uu Dd [some (.ref d),some (.ref t),some (.ref pl),some bv,some (.ref tp),some (.ref p),some (.ref q')] H2:=by
   refine⟨_,(ag (ce (eC PySem.F.plainAttrs_list PySem.F.slot_list_append PySem.F.type_list_append bO (pv 2) (ad (aF Be (hr.mono (by decide)) (by rfl) (ad (pv 1) (ad (pv 4) ak))) ak))) (ag (ay (i:=3) Bn.nd rfl (Or.inl rfl) (pv 1)) (am (ay (i:=1) Bn.nd rfl (Or.inl rfl) (az ar (dn (cH hr) (pv 0) (pv 1) (λ_ _=>rfl)) af (λ_ _=>rfl)))))),?_⟩;intro Dd H1 H2 pl t tp p q' bv pv y r a b bh don ps J SS ht hr FR A0 AB PK fin;have wk:=wf.key y r hr;have ly:=J.left.1;have S2':Same H H2:=J.sm.trans SS;have pp2:=J.pp.mono SS;refine⟨_,rfl,.inl ⟨rfl,_,SqL.of pp2.lst⟩,_,rfl,_,rfl,t,tp,y.1,y.2.1,y.2.2,a,b,rfl,SS _ _ ht,wk.1,wk.2.1,wk.2.2,⟨FR,A0,AB⟩,λq H3 s3 pq dp=>?_⟩;have pp3:=pp2.mono s3;refine⟨pl,_,_,rfl,rfl,pp3.lst,aZ (by rw[fe];have:=Paired.length J.pr;omega),λH4 u=>?_⟩;have S3:Same H H3:=S2'.trans s3;have S4:Same H H4:=λb o e=>u.at (λz=>by rw[z,J.nr]at e;cases e) (S3 b o e);have ht4:=u.t _ _ (s3 _ _ (SS _ _ ht));obtain⟨o4,dg4,ho4⟩:=(rp.mono S4).get ht4;rcases ho4 with⟨r4,v4,hr4,rfl,tv4,q1,q2,w4,rfl,ev4,_,_,aw4⟩|⟨hn4,_⟩
   ·rw[hr]at hr4
    cases hr4;refine⟨_,rfl,_,rfl,_,rfl,d,_,rfl,dg4,tv4,_,_,_,rfl,rfl,SqT.of ev4,rfl,fin _ H4 ⟨_,_,_,_,_,r.ah,some (y,a,b),don++[(y,a,b)],ps++[q],rfl,⟨S4,J.nr,⟨by rw[u.now,jL],λq' hq=>?_⟩,Paired.snoc J.pr dp,aw4,⟨⟨t,rfl,ht4⟩,tp,rfl,⟨u.t _ _ (s3 _ _ FR.at_),FR.low,FR.ba,FR.bb⟩,A0,AB⟩,?_⟩⟩ ?_⟩
    ·rcases List.mem_append.mp hq with hq|hq
     ·exact(pp3.pr q' hq).t u.t
     ·rw[List.mem_singleton.mp hq]
      exact pq.t u.t
    ·cases ha:r.ah with
     | none=>exact J.left.2 _ (.last hr ha PK)
     | some y' =>
      have wa:=wf.ah y r y' hr ha;refine⟨⟨wa.1,by rw[List.length_append,List.length_singleton];have:=J.left.1.2;have:=wa.2;omega⟩,λl hl=>?_⟩;rw[List.append_assoc];exact J.left.2 _ (.more hr ha PK hl)
    ·cases ha:r.ah with
     | none =>
      rw[ha]at aw4;have aw4:w4 = .non:=aw4;subst aw4;show 0<_;omega
     | some y' =>
      rw[ha]at aw4;obtain⟨t',rfl,ht'⟩:=aw4;have wa:=wf.ah y r y' hr ha;exact Nat.lt_of_le_of_lt (Nat.le_of_eq (uf ht')) (by omega)
   ·rw[hr]at hn4
    cases hn4
  obtain⟨uu,hu1,hRS⟩:=RS;refine⟨_,ag (ay (i:=2) Bn.nd rfl (Or.inl rfl) (bz ak)) (ag (ay (i:=3) Bn.nd rfl (Or.inl rfl) bJ) (ag (ay (i:=4) Bn.nd rfl (Or.inl rfl) bJ) (ag (dS PassesOwn.never (aE gb (pv 1) bJ (aH _)) (ag (ay (i:=5) Bn.nd rfl (Or.inl rfl) (az ar (dn (cH hr) (pv 0) (pv 1) (λ_ _=>rfl)) af (λ_ _=>rfl))) (ag (ay (i:=6) Bn.nd rfl (Or.inl rfl) (az ar (dn (cH hr) (pv 0) (pv 1) (λ_ _=>rfl)) af (λ_ _=>rfl))) (ag (aM (fw (aE gH (pv 3) bJ (aH _)) (fw (aE fM (az ar (pv 3) af (λ_ _=>rfl)) (az ar (pv 1) af (λ_ _=>rfl)) (aH _)) (fc (gE (de (aF Dp (hr.mono (by decide)) (by rfl) (ad (pv 4) (ad (pv 6) ak)))))))).pt (am (ay (i:=4) Bn.nd rfl (Or.inl rfl) (aF C7 (hr.mono (by decide)) (by rfl) (ad (pv 5) (ad (pv 6) ak))))) aI) hu1)))) (ag (ce (o7 PySem.F.plainAttrs_list PySem.F.slot_list_reverse PySem.F.type_list_reverse iU (pv 2))) (am (aB (pv 2))))))),?_⟩;refine⟨sz (by simp),λpl H0 s0 f0 n0=>?_⟩;refine dQ (λσ H'=>Ie K R x d pl H σ H') muB
   ⟨_,_,_,_,_,some x,none,[],[],rfl,s0,n0,⟨f0,λq hq=>nomatch hq⟩,.nil,⟨t0,rfl,s0 _ _ ht0⟩,rfl,⟨⟨hsx,by simp⟩,λl hl=>hl⟩⟩ ?_ ?_
  ·rintro σ H1 ⟨cv,bv,pv,z5,z6,cur,bh,don,ps,rfl,J⟩
   cases cur with
   | none =>
    have cu:cv = .non:=J.cu;subst cu;refine⟨_,rfl,rfl,_,rfl,a6 (by simp) ?_⟩;refine⟨_,rfl,.inl ⟨rfl,_,SqL.of J.pp.lst⟩,pl,_,rfl,rfl,J.pp.lst,λH2 u=>⟨_,rfl,?_⟩⟩;have hb:Bk R none x don:=J.left;refine k pl H2 don ps.reverse (λb o e=>u.at (λz=>by rw[z,J.nr]at e;cases e) (J.sm b o e)) J.nr hb ?_ ⟨by rw[u.now];unfold prs;rw[List.map_reverse],λq hq=>(J.pp.pr q (List.mem_reverse.mp hq)).t u.t⟩ (jP J.pr);exact za wf hb
   | some y =>
    obtain⟨t,rfl,ht⟩:=J.cu;refine⟨_,rfl,rfl,_,rfl,cf (by simp) ?_⟩;have hmu:=uf (z0:=some (.ref d)) (z2:=some (.ref pl)) (z3:=some bv) (z4:=some pv) (z5:=z5) (z6:=z6) ht;rw[hmu];obtain⟨o,dg,ho⟩:=(rp.mono J.sm).get ht;have ly:=J.left.1;rcases ho with⟨r,v,hr,rfl,tv,p,q',w0,rfl,ev,n1,n2,_⟩|⟨hn,_⟩
    ·refine⟨_,rfl,_,rfl,d,_,rfl,dg,tv,_,_,_,rfl,rfl,SqT.of ev,rfl,?_⟩
     refine⟨_,rfl,_,rfl,d,_,rfl,dg,tv,_,_,_,rfl,rfl,SqT.of ev,rfl,?_⟩;cases bh with
     | none =>
      have be:bv = .non:=J.be;subst be;refine⟨_,rfl,rfl,_,rfl,cf rfl ?_⟩;refine⟨_,rfl,_,rfl,p,q',r.lo,r.hi,rfl,n1,n2,wf.le y r hr,wf.ends y r hr,λtp a b H2 s2 fr pg a0 ab=>?_⟩;exact hRS _ H1 H2 pl t tp p q' _ pv y r a b none don ps J s2 ht hr fr a0 ab pg λσ H' h1 h2=>⟨h1,h2⟩
     | some z =>
      obtain⟨⟨tz,rfl,hz⟩,tq,rfl,fz,z0,z1⟩:=J.be;refine⟨_,rfl,rfl,_,rfl,a6 (by simp) ?_⟩;refine⟨_,rfl,tz,_,_,_,rfl,rfl,SqT.of hz,rfl,_,rfl,t,_,_,_,rfl,rfl,SqT.of ht,rfl,rfl,_,rfl,?_⟩;have pk0:∀{a b:Int},¬(z.1.1=y.1/\ro4 (z.2.1,0,0,z.2.2) r.hi<=0)->PG r.lo r.hi a b->o5 (some z) y r a b:=λ{a b} hn h=>by
       unfold o5;dsimp only;rw[if_neg hn];exact h
      refine aT (λc1=>?_) (λc1=>?_)
      ·have c1:¬z.1.1=y.1:=by
        have c1:(!decide (V.int z.1.1=V.int y.1))=true:=c1;rw[Bool.not_eq_true',di,decide_eq_false_iff_not]at c1;exact c1
       refine⟨_,rfl,_,rfl,p,q',r.lo,r.hi,rfl,n1,n2,wf.le y r hr,wf.ends y r hr,λtp a b H2 s2 fr pg a0 ab=>?_⟩;exact hRS _ H1 H2 pl t tp p q' _ _ y r a b _ don ps J s2 ht hr fr a0 ab (pk0 (λw=>c1 w.1) pg) λσ H' h1 h2=>⟨h1,h2⟩
      ·have c1:z.1.1=y.1:=by
        have c1:(!decide (V.int z.1.1=V.int y.1))=false:=c1;rw[Bool.not_eq_false',di,decide_eq_true_eq]at c1;exact c1
       refine⟨_,rfl,_,rfl,tq,q',z.2.1,z.2.2,r.hi,rfl,fz.at_,⟨fz.ba,fz.bb⟩,n2,λHk sk=>⟨_,rfl,?_⟩⟩;refine aT (λc2=>?_) (λc2=>?_)
       ·have c2:¬ro4 (z.2.1,0,0,z.2.2) r.hi<=0:=by
         rw[Bool.not_eq_true',decide_eq_false_iff_not]at c2;exact c2
        refine⟨_,rfl,_,rfl,p,q',r.lo,r.hi,rfl,n1.mono sk,n2.mono sk,wf.le y r hr,wf.ends y r hr,λtp a b H2 s2 fr pg a0 ab=>?_⟩;exact hRS _ H1 H2 pl t tp p q' _ _ y r a b _ don ps J (sk.trans s2) ht hr fr a0 ab (pk0 (λw=>c2 w.2) pg) λσ H' h1 h2=>⟨h1,h2⟩
       ·have c2:ro4 (z.2.1,0,0,z.2.2) r.hi<=0:=by
         rw[Bool.not_eq_false',decide_eq_true_eq]at c2;exact c2
        have pk:o5 (some z) y r z.2.1 z.2.2:=by
         unfold o5;dsimp only;rw[if_pos ⟨c1,c2⟩];exact⟨rfl,rfl⟩
        exact hRS _ H1 Hk pl t tq p q' _ _ y r _ _ _ don ps J sk ht hr (fz.mono sk) z0 z1 pk λσ H' h1 h2=>⟨h1,h2⟩
    ·rw[hn]at ly
     cases ly.1
  ·rintro σ H' Q1 Q2 hq ⟨v,e,hs,k,ek,r⟩
   exact⟨v,e,hs,k,ek,hq _ _ r⟩
noncomputable def OkR(r:Rv):Prop:=ro4 r.lo r.hi<=0/\(r.lo=(0,0,0,1)\/(GG r.lo/\GH r.hi))
theorem mn{gt:Option (N4×N4)}{st tu:Option Rv}{sd td:Dor}{r:Rv}(h:pas gt st tu sd td=some r):∃p,gt=some p/\r.hi=p.2/\((r.lo=p.1/\tu.isSome=true/\r.ah=some td)\/∃r',st=some r'/\(r.lo=p.1\/r.lo=r'.lo)/\ro4 r.lo r.hi<=0/\r.ah=some sd):=by
 cases gt with
 | none=>cases h
 | some p =>
  refine⟨p,rfl,?_⟩;unfold pas at h;dsimp only at h
  split at h
  ·rename_i c
   cases h;exact⟨rfl,.inl ⟨rfl,c,rfl⟩⟩
  ·cases st with
   | none=>cases h
   | some r' =>
    dsimp only at h
    split at h
    ·rename_i c
     cases h;exact⟨rfl,.inr ⟨r',rfl,ud _ _,c,rfl⟩⟩
    ·cases h
theorem tV{gt:Option (N4×N4)}{st tu:Option Rv}{sd td:Dor}{r:Rv}(gk:∀p,gt=some p->(GG p.1/\GH p.2)/\ro4 p.1 p.2<=0)(hs:∀r',st=some r'->OkR r')(h:pas gt st tu sd td=some r):OkR r:=by
 obtain⟨p,hp,eh,⟨el,_,_⟩|⟨r',hr',el,c,_⟩⟩:=mn h
 ·have k:=gk p hp
  refine⟨by rw[el,eh];exact k.2,.inr ?_⟩;rw[el,eh];exact k.1
 ·have k:=gk p hp
  refine⟨c,?_⟩;rcases el with el|el
  ·rw[el,eh]
   exact .inr k.1
  ·rw[el,eh]
   exact(hs r' hr').2.imp_right λz=>⟨z.1,k.1.2⟩
section
variable {wy:Str} {G:GF} {F:Int->Int->Bool} {n m:Nat}
theorem xw(gg:GGk G){U:Nat->Option Rv}(hu:∀j r,U j=some r->OkR r){i:Nat}:∀j r,Lc G U i j=some r->OkR r
 | 0,_,h=>by cases h
 | j+1,r,h=>tV (λp hp=>⟨dj (gg _ _ _ _ _ hp),ia (gg _ _ _ _ _ hp)⟩) (λr' h'=>xw gg hu j r' h') h
theorem Af(gg:GGk G){j:Nat}{r:Rv}(h:bgR wy G F m j=some r):OkR r:=by
 unfold bgR at h
 split at h
 ·split at h
  ·cases h
   exact⟨by decide,.inl rfl⟩
  ·cases h
 ·split at h
  ·obtain⟨p,hp,rfl⟩:=Option.map_eq_some_iff.mp h
   exact⟨ia (gg _ _ _ _ _ hp),.inr (dj (gg _ _ _ _ _ hp))⟩
  ·cases h
theorem sQ(gg:GGk G):∀i j r,Uc G (bgR wy G F m) i j=some r->OkR r
 | 0,j,r,h=>Af gg h
 | i+1,j,r,h=>tV (λp hp=>⟨dj (gg _ _ _ _ _ hp),ia (gg _ _ _ _ _ hp)⟩) (λr' h'=>sQ gg i j r' h') h
theorem Ag{j:Nat}{r:Rv}(h:bgR wy G F m j=some r):r.ah=none:=by
 unfold bgR at h
 split at h
 ·split at h
  ·cases h;rfl
  ·cases h
 ·split at h
  ·obtain⟨p,hp,rfl⟩:=Option.map_eq_some_iff.mp h
   rfl
  ·cases h
theorem mT{x:Dor}{r:Rv}(h:RR wy G F n m x=some r):(∃i j:Nat,x=(0,(i:Int),(j:Int))/\i<=n/\j<m/\Uc G (bgR wy G F m) i j=some r)\/∃i j:Nat,x=(1,(i:Int),(j:Int))/\i<n/\j<=m/\Lc G (Uc G (bgR wy G F m) i) i j=some r:=by
 unfold RR at h
 split at h
 ·rename_i c
  exact .inl ⟨x.2.1.toNat,x.2.2.toNat,Prod.ext c.1 (Prod.ext (by show x.2.1=((x.2.1.toNat:Nat):Int);omega) (by show x.2.2=((x.2.2.toNat:Nat):Int);omega)),by omega,by omega,h⟩
 ·split at h
  ·rename_i c
   exact .inr ⟨x.2.1.toNat,x.2.2.toNat,Prod.ext c.1 (Prod.ext (by show x.2.1=((x.2.1.toNat:Nat):Int);omega) (by show x.2.2=((x.2.2.toNat:Nat):Int);omega)),by omega,by omega,h⟩
  ·cases h
theorem zk{K:W.Frag}(gg:GGk G)(hn:n<=20)(hm:m<=20):Ic K (RR wy G F n m):=by
 have ok:∀x r,RR wy G F n m x=some r->OkR r:=λx r h=>by
  rcases mT h with⟨i,j,_,_,_,h⟩|⟨i,j,_,_,_,h⟩
  ·exact sQ gg i j r h
  ·exact xw gg (λj r h=>sQ gg i j r h) j r h
 refine⟨λx r h=>?_,λx r h=>(ok x r h).1,λx r h=>(ok x r h).2,λx r y h ha=>?_⟩
 ·rcases mT h with⟨i,j,rfl,_,_,_⟩|⟨i,j,rfl,_,_,_⟩
  ·exact⟨.inl rfl,⟨by show(0:Int)<=i;omega,by show(i:Int)<=1000;omega⟩,by show(0:Int)<=j;omega,by show(j:Int)<=1000;omega⟩
  ·exact⟨.inr rfl,⟨by show(0:Int)<=i;omega,by show(i:Int)<=1000;omega⟩,by show(0:Int)<=j;omega,by show(j:Int)<=1000;omega⟩
 ·rcases mT h with⟨i,j,rfl,hi,hj,h⟩|⟨i,j,rfl,hi,hj,h⟩
  ·cases i with
   | zero=>rw[Ag h]at ha;cases ha
   | succ i =>
    obtain⟨p,_,_,⟨_,ht,ea⟩|⟨r',hr',_,_,ea⟩⟩:=mn h
    ·rw[ea]at ha
     cases ha;exact⟨by rw[pV (by omega) (by omega)];exact ht,by unfold gC;show((i:Int)+j).toNat<(((i+1:Nat):Int)+j).toNat;omega⟩
    ·rw[ea]at ha
     cases ha;exact⟨by rw[ko (by omega) (by omega),hr'];rfl,by unfold gC;show((i:Int)+j).toNat<(((i+1:Nat):Int)+j).toNat;omega⟩
  ·cases j with
   | zero=>cases h
   | succ j =>
    obtain⟨p,_,_,⟨_,ht,ea⟩|⟨r',hr',_,_,ea⟩⟩:=mn h
    ·rw[ea]at ha
     cases ha;exact⟨by rw[ko (by omega) (by omega)];exact ht,by unfold gC;show((i:Int)+j).toNat<((i:Int)+((j+1:Nat):Int)).toNat;omega⟩
    ·rw[ea]at ha
     cases ha;exact⟨by rw[pV (by omega) (by omega),hr'];rfl,by unfold gC;show((i:Int)+j).toNat<((i:Int)+((j+1:Nat):Int)).toNat;omega⟩
end
noncomputable def wT(wy:Str)(n m:Nat)(G:GF)(F:Int->Int->Bool)(ps:List Pr):Prop:=∃(x:Dor) (l:List (Dor×Int×Int)) (ps0:List Pr),((iN wy n m).filter λx=>(RR wy G F n m x).isSome)[0]? = some x/\Bk (RR wy G F n m) none x l/\l.length<=60/\Paired oB l.reverse ps0/\((wy=wOn/\F n m=false/\∃q,ps=ps0++[q]/\prC q ((n:Int),(m:Int)))\/(wy=bI/\ps=ps0))
inductive G9 (K:W.Frag) (C:Addr) (vs:List V) (H:Hp) (Q:VK) (x_3:XK):Prop
 | mk:∀(fo:Addr) (n m:Nat) (room:Int) (G:GF) (F:Int->Int->Bool) (wy:Str),(vs = [.ref fo,.str wy])->(A9 K C H fo n m room G F)->((1<=n/\n<=20))->((1<=m/\m<=20))->((wy=wOn\/wy=bI))->(GGk G)->((∀H',Same H H'->NoW wy n m G F->Q .non H'))->(∀r H' ps,Same H H'->H r=none->wT wy n m G F ps->GE H' r ps->Q (.ref r) H')->G9 K C vs H Q x_3
theorem BP:AQ ["field","way","reached","ends","walk"] ["field","way"] (aq (top 66)):=smk
theorem ja(Ec:Df K mg "walk_through" (top 66))(AS:Dz K mg "Field" C_Field)(n_room:aR K C_Field "room")(n_last:aR K C_Field "last")(n_doors:aR K C_Field "doors")(n_far:aR K C_Field "far")(Cf:Fn P w K mg base "doors_reached" ["field","way"] 6 (Hx K C_Field))(Cr:Fn P w K mg base "doors_at_end" ["last","way"] 1 Hz)(Do:Fn P w K mg base "pairs_to" ["reached","door"] 7 (Gn K))(Bb:Fn P w K mg base "pair_at_corner" ["corner"] 1 DZ)(T:Txt mg):Fn P w K mg base "walk_through" ["field","way"] 8 (G9 K C_Field):=by
 refine Ec.fn BP (λ_ _ _ _ _ _ us hl=>by obtain⟨_,_,rfl⟩:=dh hl;rfl) (λvs H Q E h=>?_) (λf cdv A outer s H vs Q E hr h=>?_)
 ·obtain⟨fo,n,m,room,G,F,wy,rfl,_⟩:=h
  rfl
 ·obtain⟨fo,n,m,room,G,F,wy,rfl,fa,⟨hn,hn20⟩,⟨hm,hm20⟩,hw,gg,q0,q1⟩:=h
  have CN:DS (bY CX0 P w K mg base ["field","way","reached","ends","walk"] "walk_through" (aq (top 66)) f cdv A outer s H E).nox (lcA (top 66) 0) [("reached",s.heap.objs.size+1)] ["door"] [("reached",2)] :=
   ⟨by rfl,rfl,by decide +kernel,by decide +kernel,(λx hx=>by simp only[List.mem_cons,List.not_mem_nil,or_false]at hx;subst hx;rfl),(λp hp=>by simp only[List.mem_cons,List.not_mem_nil,or_false]at hp;subst hp;rfl),by rfl,by decide +kernel,(λp hp=>by simp only[List.mem_cons,List.not_mem_nil,or_false]at hp;subst hp;exact⟨rfl,rfl,.inr (.inl rfl),rfl,rfl⟩),⟨rfl,rfl⟩,rfl⟩
  obtain⟨dx,lt,d0,fr,hf,hl,_,fd⟩:=fa.ex;have wf:Ic K (RR wy G F n m):=zk gg hn20 hm20;have R1:∃u:TS,PSs (bY CX0 P w K mg base ["field","way","reached","ends","walk"] "walk_through" (aq (top 66)) f cdv A outer s H E).nox ((aP (top 66)).drop 1) u/\∀(H1:Hp),Same H H1->(wy=wOn->F n m=false)->u { nx:=λ_ H'=>Q .non H',rt:=Q } [some (.ref fo),some (.str wy),none,none,none] H1:=by
   refine⟨_,(ag (ay (i:=2) BP.nd rfl (Or.inr rfl) (aF Cf (hr.mono (by decide)) (by rfl) (ad (pv 0) (ad (pv 1) ak)))) (ag (iS (j:=3) rfl CN BP.nd rfl rfl (fg (aF Cr (hr.mono (by decide)) (by rfl) (ad (cF (pv 0) rfl) (ad (pv 1) ak)))) (λfp s₀ H₀=>(aO (i:=0) CN.nd rfl (Or.inl rfl) (Or.inr rfl))) (λfp s₀ H₀=>(l8 (iz (ml (cH hr) (pv 0) (pv 1)) (by rfl)))) (λfp s₀ H₀=>(pv 0))) (ag (aM (aE bR (aQ aS (by rfl) T.z_len cS (ad (pv 3) ak)) af (aH _)) (am (aB bJ)) aI) (ag (ay (i:=4) BP.nd rfl (Or.inl rfl) (aF Do (hr.mono (by decide)) (by rfl) (ad (pv 2) (ad (az aY (pv 3) af (λ_ _=>rfl)) ak)))) (ag (aM (aE bR (pv 1) dF (aH _)) (am (ce (eC PySem.F.plainAttrs_list PySem.F.slot_list_append PySem.F.type_list_append bO (pv 4) (ad (aF Bb (hr.mono (by decide)) (by rfl) (ad (cF (pv 0) rfl) ak)) ak)))) aI) (am (aB (pv 4)))))))),λH1 S1 hF=>?_⟩;refine⟨_,rfl,_,rfl,fo,n,m,room,G,F,wy,rfl,fa.mono S1,⟨hn,hn20⟩,⟨hm,hm20⟩,hw,λd H2 s2 nd rp2=>?_⟩;have S2:=S1.trans s2;refine⟨_,rfl,fo,C_Field,dx,_,_,rfl,S2 _ _ hf,AS.cls,n_last,rfl,_,rfl,lt,n,m,wy,rfl,S2 _ _ hl,hm20,hw,λr3 H3 s3 n3 ⟨v3,e3,p3⟩=>?_⟩;have S3:=S2.trans s3;have rp3:=rp2.mono s3;have l3:=Paired.length p3;have le:(iN wy n m).length<=30:=by
    unfold iN
    split
    ·simp
    ·rw[List.length_map,List.length_range];omega
   refine⟨r3,rfl,⟨_,SqL.of e3⟩,sH (K:=K) (k:=1) e3 (by omega) (DrV H3) p3 (λx=>(RR wy G F n m x).isSome) ?_ ?_⟩
   ·intro e x H4 τ Kc Kn he hre s4 hτ kc kn
    obtain⟨τ0,rfl⟩:∃τ0,τ = [τ0]:=eV hτ;obtain⟨t,rfl,ht⟩:=hre;refine⟨⟨[some (.ref t)],rfl,rfl⟩,?_⟩;obtain⟨o,dg,ho⟩:=(rp3.mono s4).get (s4 _ _ ht);refine⟨_,rfl,_,rfl,d,o,rfl,dg,?_⟩;rcases ho with⟨r,v,hr,rfl,_⟩|⟨hr,rfl⟩
    ·exact⟨_,rfl,cf rfl ⟨_,rfl,kc (by rw[hr];rfl) H4 (Same.refl _)⟩⟩
    ·exact⟨_,rfl,a6 rfl (kn (by rw[hr];rfl) H4 (Same.refl _))⟩
   ·intro r4 ys H4 nr4 s4 f4 pr4
    have S4:=S3.trans s4;have yl:=Paired.length pr4;refine⟨_,rfl,r4,_,rfl,.inl (SqL.of f4),rfl,_,rfl,?_⟩;rw[di];refine aT (λc=>?_) (λc=>?_)
    ·have c:ys.length=0:=by have:=bP c;omega
     have nil:∀x∈iN wy n m,RR wy G F n m x=none:=λx hx=>by
      cases h:RR wy G F n m x with
      | none=>rfl
      | some r =>
       have:x∈(iN wy n m).filter λx=>(RR wy G F n m x).isSome:=List.mem_filter.mpr ⟨hx,by rw[h];rfl⟩;have z:((iN wy n m).filter λx=>(RR wy G F n m x).isSome) = []:=List.length_eq_zero_iff.mp (by omega);rw[z]at this;cases this
     refine q0 H4 S4 ⟨λhw'=>.inr ?_,λhw' j hj=>nil _ ?_⟩
     ·have e1:(n:Int) - 1=((n - 1:Nat):Int):=by omega
      have e2:(m:Int) - 1=((m - 1:Nat):Int):=by omega
      rw[<- e1,<- e2];unfold iN at nil;rw[if_pos hw']at nil;exact⟨nil _ List.mem_cons_self,nil _ (List.mem_cons_of_mem _ List.mem_cons_self)⟩
     ·unfold iN
      rw[if_neg (λz=>cO (z.symm.trans hw'))];exact List.mem_map.mpr ⟨j,List.mem_range.mpr hj,rfl⟩
    ·have c:ys.length≠0:=λz=>bZ c (by rw[z];rfl)
     obtain⟨v0,hv0⟩:∃v0,ys[0]? = some v0:=⟨ys[0]'(by omega),List.getElem?_eq_getElem _⟩;obtain⟨x0,hx0,t0,rfl,ht0⟩:=dz pr4 0 v0 hv0;have mx:=List.mem_filter.mp (List.mem_of_getElem? hx0);have hsx:(RR wy G F n m x0).isSome=true:=mx.2;have rk:gC x0<=50:=by
      obtain⟨r,hr⟩:=Option.isSome_iff_exists.mp hsx;rcases mT hr with⟨i,j,rfl,_,_,_⟩|⟨i,j,rfl,_,_,_⟩
      ·unfold gC;show((i:Int)+j).toNat<=50;omega
      ·unfold gC;show((i:Int)+j).toNat<=50;omega
     refine⟨_,rfl,_,rfl,r4,_,_,_,rfl,rfl,SqL.of f4,dP (j:=0) hv0,d,t0,RR wy G F n m,900,x0,rfl,rp3.mono s4,wf,s4 _ _ ht0,⟨hsx,by omega⟩,λr5 H5 l ps0 s5 n5 bk ln pp pr=>?_⟩;have S5:=S4.trans s5;have pl:=Paired.length pr;rw[List.length_reverse]at pl;refine⟨_,rfl,rfl,_,rfl,aT (λc2=>?_) (λc2=>?_)⟩
     ·have c2:wy=wOn:=bP (ds c2)
      refine⟨_,rfl,.inl ⟨rfl,_,SqL.of pp.lst⟩,_,rfl,fo,C_Field,dx,_,_,rfl,S5 _ _ hf,AS.cls,n_last,rfl,lt,(n:Int),(m:Int),rfl,S5 _ _ hl,⟨by omega,by omega⟩,⟨by omega,by omega⟩,λq' H6 s6 pq cq=>?_⟩;have pp6:=pp.mono s6;refine⟨r5,_,_,rfl,rfl,pp6.lst,aZ (by rw[fe];omega),λH7 u=>⟨_,rfl,?_⟩⟩;have S6:=S5.trans s6;have nr5:H r5=none:=S4.free n5;refine q1 r5 H7 (ps0++[q']) (λb o e=>u.at (λz=>by rw[z,nr5]at e;cases e) (S6 b o e)) nr5 ⟨x0,l,ps0,hx0,bk,by omega,pr,.inl ⟨c2,hF c2,q',rfl,cq⟩⟩ ⟨by rw[u.now,jL],λz hz=>?_⟩;rcases List.mem_append.mp hz with hz|hz
      ·exact(pp6.pr z hz).t u.t
      ·rw[List.mem_singleton.mp hz]
       exact pq.two.t u.t
     ·have c2:¬wy=wOn:=bZ (ds c2)
      exact⟨_,rfl,q1 r5 H5 ps0 S5 (S4.free n5) ⟨x0,l,ps0,hx0,bk,by omega,pr,.inr ⟨hw.resolve_left c2,rfl⟩⟩ pp⟩
  obtain⟨u1,hu1,h1⟩:=R1;refine⟨_,(ag (aM (jJ (aE bR (pv 1) dF (aH _)) (jo (iz (ml (cH hr) (cF (pv 0) rfl) (cF (pv 0) rfl)) (by rfl)))).pt (am (aB bJ)) aI) hu1),?_⟩;refine⟨_,rfl,rfl,_,rfl,aT (λc=>?_) (λc=>?_)⟩
  ·have c:wy=wOn:=bP (ds c)
   obtain⟨o',dg',ho'⟩:=fd.get (x:=(n:Int)) (y:=(m:Int)) hl;refine⟨_,rfl,fo,C_Field,dx,_,_,rfl,hf,AS.cls,n_last,rfl,_,rfl,fo,C_Field,dx,_,_,rfl,hf,AS.cls,n_far,rfl,fr,o',rfl,dg',_,rfl,aT (λh=>?_) (λh=>?_)⟩
   ·rw[ho',decide_eq_true_eq]at h
    exact q0 H (Same.refl _) ⟨λ_=>.inl (dU.mp h).2.2.2.2,λz=>absurd (c.symm.trans z) cO⟩
   ·rw[ho',decide_eq_false_iff_not]at h
    refine h1 H (Same.refl _) λ_=>?_;cases e:F n m with
    | false=>rfl
    | true=>exact absurd (dU.mpr ⟨by omega,by omega,by omega,by omega,e⟩) h
  ·have c:¬wy=wOn:=bZ (ds c)
   exact h1 H (Same.refl _) λz=>absurd z c
inductive GA (vs:List V) (H:Hp) (Q:VK) (x_3:XK):Prop
 | mk:∀(c lt:Addr) (x y n m:Int) (wy:Str),(vs = [.ref c,.ref lt,.str wy])->(H c=some (.tup [.int x,.int y]))->(H lt=some (.tup [.int n,.int m]))->(Q (.bl (decide (y=m) || (decide (wy≠bI) && decide (x=0)))) H)->GA vs H Q x_3
inductive Gx (vs:List V) (H:Hp) (Q:VK) (x_3:XK):Prop
 | mk:∀(c lt:Addr) (x y n m:Int) (wy:Str),(vs = [.ref c,.ref lt,.str wy])->(H c=some (.tup [.int x,.int y]))->(H lt=some (.tup [.int n,.int m]))->(Q (.bl (decide (y=0) || (decide (wy≠bI) && decide (x=n)))) H)->Gx vs H Q x_3
theorem ds'{u v:Str}:decide (V.str u=V.str v)=decide (u=v):=(ds rfl).symm
theorem Ea:AQ ["corner","last","way"] ["corner","last","way"] (aq (top 40)):=smk
theorem ji(Ek:Df K mg "begins_fence" (top 40)):Fn P w K mg base "begins_fence" ["corner","last","way"] 1 GA:=by
 refine Ek.fn Ea (λ_ _ _ _ _ _ us hl=>by obtain⟨_,_,_,rfl⟩:=iG hl;rfl) (λvs H Q E h=>?_) (λf cdv A outer s H vs Q E hr h=>?_)
 ·obtain⟨c,lt,x,y,n,m,wy,rfl,_⟩:=h
  rfl
 ·obtain⟨c,lt,x,y,n,m,wy,rfl,hc,hl,q⟩:=h
  refine⟨_,(am (aB (xn (dO bR (az ar (pv 0) af (λ_ _=>rfl)) (az ar (pv 1) af (λ_ _=>rfl)) (aH _)) (iC (mf (dO fM (pv 2) dF (aH _)) (iC (dO bR (az ar (pv 0) af (λ_ _=>rfl)) af (aH _)))))))),?_⟩;refine⟨_,rfl,c,_,_,_,rfl,rfl,SqT.of hc,rfl,_,rfl,lt,_,_,_,rfl,rfl,SqT.of hl,rfl,rfl,_,rfl,?_⟩;rw[di];refine aT (λh1=>?_) (λh1=>?_)
  ·rw[h1,Bool.true_or]at q
   exact q
  rw[h1,Bool.false_or]at q;refine⟨_,rfl,rfl,_,rfl,?_⟩;rw[show(!decide (V.str wy=V.str "part"))=decide (wy≠bI) by rw[ds',decide_not];rfl];refine aT (λh2=>?_) (λh2=>?_)
  ·rw[h2,Bool.true_and]at q
   refine⟨_,rfl,c,_,_,_,rfl,rfl,SqT.of hc,rfl,rfl,?_⟩;rw[di];exact q
  ·rw[h2,Bool.false_and]at q
   exact q
theorem EJ:AQ ["corner","last","way"] ["corner","last","way"] (aq (top 41)):=smk
theorem kP(EZ:Df K mg "ends_fence" (top 41)):Fn P w K mg base "ends_fence" ["corner","last","way"] 1 Gx:=by
 refine EZ.fn EJ (λ_ _ _ _ _ _ us hl=>by obtain⟨_,_,_,rfl⟩:=iG hl;rfl) (λvs H Q E h=>?_) (λf cdv A outer s H vs Q E hr h=>?_)
 ·obtain⟨c,lt,x,y,n,m,wy,rfl,_⟩:=h
  rfl
 ·obtain⟨c,lt,x,y,n,m,wy,rfl,hc,hl,q⟩:=h
  refine⟨_,(am (aB (xn (dO bR (az ar (pv 0) af (λ_ _=>rfl)) af (aH _)) (iC (mf (dO fM (pv 2) dF (aH _)) (iC (dO bR (az ar (pv 0) af (λ_ _=>rfl)) (az ar (pv 1) af (λ_ _=>rfl)) (aH _)))))))),?_⟩;refine⟨_,rfl,c,_,_,_,rfl,rfl,SqT.of hc,rfl,rfl,_,rfl,?_⟩;rw[di];refine aT (λh1=>?_) (λh1=>?_)
  ·rw[h1,Bool.true_or]at q
   exact q
  rw[h1,Bool.false_or]at q;refine⟨_,rfl,rfl,_,rfl,?_⟩;rw[show(!decide (V.str wy=V.str "part"))=decide (wy≠bI) by rw[ds',decide_not];rfl];refine aT (λh2=>?_) (λh2=>?_)
  ·rw[h2,Bool.true_and]at q
   refine⟨_,rfl,c,_,_,_,rfl,rfl,SqT.of hc,rfl,_,rfl,lt,_,_,_,rfl,rfl,SqT.of hl,rfl,rfl,?_⟩;rw[di];exact q
  ·rw[h2,Bool.false_and]at q
   exact q
structure GS(l:N4):Prop where
 b0:ax l.1<=240
 b1:ax l.2.1<=2
 b2:ax l.2.2.1<=470
 b3:ax l.2.2.2<=240
 p2:0<=l.2.2.1
 p3:1<=l.2.2.2
theorem Nm.nb{K:W.Frag}{H:Hp}{p:Addr}{l:N4}(h:Nm K H p l):GS l:=⟨h.b0,h.b1,h.b2,h.b3,h.p2,h.p3⟩
theorem GS.nm{K:W.Frag}{H:Hp}{p:Addr}{l:N4}(h:GS l)(t:TpK K H p (n4 l)):Nm K H p l:=⟨t,h.b0,h.b1,h.b2,h.b3,h.p2,h.p3⟩
noncomputable def yG(x:Dor):Prop:=(x.1=0\/x.1=1)/\(0<=x.2.1/\x.2.1<=1000)/\0<=x.2.2/\x.2.2<=1000
noncomputable def xb:Lb->Prop
 | .no=>True
 | .key _=>False
 | .bend d e l m=>∃x y:Dor,d=dkD x/\e=dkD y/\yG x/\yG y/\(GH l/\GG m)/\ro4 l m<0/\GS l/\GS m
noncomputable def q9:Lb->List Pr->Prop
 | .bend d e l m,ps=>∃(x y:Dor) (t u:Int) (q1 q2:Pr),d=dkD x/\e=dkD y/\Wi l.1 l.2.1 l.2.2.1 l.2.2.2 m.1 m.2.1 m.2.2.1 m.2.2.2 t u/\oB (x,t,u) q1/\oB (y,t,u) q2/\ps = [q1,q2]
 | _,ps=>ps = []
inductive Hn (K:W.Frag) (vs:List V) (H:Hp) (Q:VK) (x_3:XK):Prop
 | mk:∀(v:V) (lb:Lb),(vs = [v])->(jk K H v lb)->(xb lb)->(∀(r:Addr) (H':Hp) (ps:List Pr),Same H H'->H r=none->q9 lb ps->GE H' r ps->Q (.ref r) H')->Hn K vs H Q x_3
theorem yL{P U L a0 a1 a2 a3 t u:Int}(hL:0<L)(hU:0<=U)(hu:0<u)(a2n:0<=a2)(a3p:0<a3)(h:0<=P\/P*P<=U)(w:Wi P 1 U L a0 a1 a2 a3 t u):0<=t:=by
 obtain⟨m1,_⟩:=w.mid hU hL a2n a3p;rcases Int.lt_or_le t 0 with y|y
 ·exfalso
  rw[cp (show 0<=1*u by omega)]at m1;have tl:t*L<0:=Int.mul_neg_of_neg_of_pos y hL;have e1:1*u*(1*u)*U=u*u*U:=by grind
  have u2:=Int.mul_nonneg (Int.mul_nonneg (show 0<=u by omega) (show 0<=u by omega)) hU;rcases h with h|h
  ·have:=Int.mul_nonneg h (show 0<=u by omega)
   rw[cp (show 0<=P*u - t*L by omega)]at m1;have:=sqx (P*u - t*L);omega
  ·rcases Int.lt_or_le (P*u - t*L) 0 with z|z
   ·rw[bS (by omega)]at m1
    have b1:=dR (show 0<=-(P*u - t*L) by omega) (show -(P*u - t*L)<=-(P*u) by omega);have b2:=Int.mul_le_mul_of_nonneg_left h (show 0<=u*u from Int.mul_nonneg (by omega) (by omega));have e2:-(P*u) * -(P*u)=u*u*(P*P):=by grind
    have e3:-(P*u - t*L) * -(P*u - t*L)=(P*u - t*L)*(P*u - t*L):=by grind
    omega
   ·rw[cp z]at m1
    have:=sqx (P*u - t*L);omega
 ·exact y
theorem yM{a0 a1 a2 a3 P U L t u:Int}(hL:0<L)(hU:0<=U)(hu:0<u)(a2n:0<=a2)(a3p:0<a3)(h:P - L<=0\/(P - L)*(P - L)<=U)(w:Wi a0 a1 a2 a3 P (-1) U L t u):t<=u:=by
 obtain⟨_,m2⟩:=w.mid a2n a3p hU hL;rcases Int.lt_or_le u t with y|y
 ·exfalso
  rw[show - -1*u=u by omega,cp (show 0<=u by omega)]at m2;have tl:u*L<t*L:=Int.mul_lt_mul_of_pos_right y hL;have u2:=Int.mul_nonneg (Int.mul_nonneg (show 0<=u by omega) (show 0<=u by omega)) hU;have e0:(P - L)*u=P*u - u*L:=by grind
  rcases h with h|h
  ·have:=Int.mul_nonpos_of_nonpos_of_nonneg h (show 0<=u by omega)
   rw[cp (show 0<=t*L - P*u by omega)]at m2;have:=sqx (t*L - P*u);omega
  ·rcases Int.lt_or_le (t*L - P*u) 0 with z|z
   ·rw[bS (by omega)]at m2
    have b1:=dR (show 0<=-(t*L - P*u) by omega) (show -(t*L - P*u)<=(P - L)*u by omega);have b2:=Int.mul_le_mul_of_nonneg_left h (show 0<=u*u from Int.mul_nonneg (by omega) (by omega));have e2:(P - L)*u*((P - L)*u)=u*u*((P - L)*(P - L)):=by grind
    have e3:-(t*L - P*u) * -(t*L - P*u)=(t*L - P*u)*(t*L - P*u):=by grind
    omega
   ·rw[cp z]at m2
    have:=sqx (t*L - P*u);omega
 ·exact y
theorem Cc:AQ ["bend","gap","part"] ["bend"] (aq (top 56)):=smk
theorem iK{C:Addr}(DV:Df K mg "pairs_of_bend" (top 56))(Bj:Fx P w K mg base "root_between" ["one","other"] 5 [] (GK K C))(Be:Fn P w K mg base "pair_in_door" ["door","part"] 4 FU):Fn P w K mg base "pairs_of_bend" ["bend"] 7 (Hn K):=by
 refine DV.fn Cc (λ_ _ _ _ _ _ us hl=>by obtain⟨_,rfl⟩:=eV hl;rfl) (λvs H Q E h=>?_) (λf cdv A outer s H vs Q E hr h=>?_)
 ·obtain⟨v,lb,rfl,_⟩:=h
  rfl
 ·obtain⟨v,lb,rfl,hv,ok,k⟩:=h
  refine⟨_,(ag (aM (aE gH (pv 0) bJ (aH _)) (am (aB (bz ak))) aI) (ag (ay (i:=1) Cc.nd rfl (Or.inl rfl) (az ar (pv 0) af (λ_ _=>rfl))) (ag (ay (i:=2) Cc.nd rfl (Or.inl rfl) (fL Bj (hr.mono (by decide)) (by rfl) (ad (az ar (pv 1) af (λ_ _=>rfl)) (ad (az ar (pv 1) af (λ_ _=>rfl)) ak)))) (am (aB (bz (ad (aF Be (hr.mono (by decide)) (by rfl) (ad (az ar (pv 0) af (λ_ _=>rfl)) (ad (pv 2) ak))) (ad (aF Be (hr.mono (by decide)) (by rfl) (ad (az ar (pv 0) af (λ_ _=>rfl)) (ad (pv 2) ak))) ak)))))))),?_⟩;cases lb with
  | key d=>exact ok.elim
  | no =>
   have hv:v = .non:=hv;subst hv;exact⟨_,rfl,rfl,_,rfl,cf rfl ⟨sz (by simp),λr H1 s1 f1 n1=>k r H1 [] s1 n1 rfl ⟨f1,λq hq=>nomatch hq⟩⟩⟩
  | bend d e l m =>
   obtain⟨t,p,q,gp,a,b,rfl,ht,hp,hq,hg,ta,tb⟩:=hv;obtain⟨x,y,rfl,rfl,kx,ky,⟨hl,hm⟩,lt,b1,b2⟩:=ok;have nm1:Nm K H a l:=b1.nm ta;have nm2:Nm K H b m:=b2.nm tb;refine⟨_,rfl,rfl,_,rfl,a6 (by simp) ?_⟩;refine⟨_,rfl,t,_,_,_,rfl,rfl,SqT.of ht,rfl,?_⟩;have rg:∀{t u:Int},Wi l.1 l.2.1 l.2.2.1 l.2.2.2 m.1 m.2.1 m.2.2.1 m.2.2.2 t u->0<u->0<=t/\t<=u:=λ{t u} w hu=>by
    cases hl with
    | e =>
     exfalso;cases hm with
     | b=>exact absurd lt (by decide)
     | n hL hU h _ =>
      have h1:=qC (L:=_) hU h;rw[gX]at lt;have h1:ro4 (_,-1,_,_) (1,0,0,1)<=0:=h1;omega
    | @n P U L hL hU h z=>cases hm with
     | b =>
      exfalso;have h1:ro4 (0,0,0,1) (P,1,U,L)<=0:=jY hU h;rw[gX]at lt;omega
     | @n P' U' L' hL' hU' h' z'=>exact⟨yL hL hU hu hU' hL' h w,yM hL' hU' hu hU hL h' w⟩
   refine⟨_,rfl,gp,_,_,_,rfl,rfl,SqT.of hg,rfl,_,rfl,gp,_,_,_,rfl,rfl,SqT.of hg,rfl,a,b,l.1,l.2.1,l.2.2.1,l.2.2.2,m.1,m.2.1,m.2.2.1,m.2.2.2,240,235,11,2600,rfl,nm1.rt,nm2.rt,⟨b1.p2,b1.p3,b2.p2,b2.p3,b1.b0,ap b1.b1 (by decide),b1.b2,b2.b0,ap b2.b1 (by decide),b2.b2,by decide,by decide⟩,⟨by decide,by decide,by decide⟩,(λz=>by have lt:ro l.1 l.2.1 l.2.2.1 l.2.2.2 m.1 m.2.1 m.2.2.1 m.2.2.2<0:=lt;omega),(λz=>by have lt:ro l.1 l.2.1 l.2.2.1 l.2.2.2 m.1 m.2.1 m.2.2.1 m.2.2.2<0:=lt;omega),λ_=>⟨qy nm1 nm2 lt,λtp t' u' H1 s1 f1 wi bt bu=>?_⟩⟩;have hlw:Em t' u':=by
    obtain⟨_,_,_,_,_,_,_,_,_,h5⟩:=id wi;exact h5.low
   have r2:=rg wi hlw.pos;have fr:Ga H1 tp t' u' 2600:=⟨f1,hlw,bt,bu⟩;refine⟨_,rfl,t,_,_,_,rfl,rfl,SqT.of (s1 _ _ ht),rfl,_,rfl,p,tp,x.1,x.2.1,x.2.2,t',u',rfl,s1 _ _ hp,kx.1,kx.2.1,kx.2.2,⟨fr,r2.1,r2.2⟩,λq1 H2 s2 pq1 dp1=>?_⟩;have S2:=s1.trans s2;refine⟨_,rfl,t,_,_,_,rfl,rfl,SqT.of (S2 _ _ ht),rfl,_,rfl,q,tp,y.1,y.2.1,y.2.2,t',u',rfl,S2 _ _ hq,ky.1,ky.2.1,ky.2.2,⟨fr.mono s2,r2.1,r2.2⟩,λq2 H3 s3 pq2 dp2=>⟨sz (by simp),λr H4 s4 f4 n4=>?_⟩⟩;refine k r H4 [q1,q2] (S2.trans (s3.trans s4)) ((S2.trans s3).free n4) ⟨x,y,t',u',q1,q2,rfl,rfl,wi,dp1,dp2,rfl⟩ ⟨f4,λz hz=>?_⟩;rcases List.mem_cons.mp hz with h|h
   ·rw[h]
    exact pq1.t (s3.trans s4).t
   ·rw[List.mem_singleton.mp h]
    exact pq2.t s4.t
theorem sj{room:Int}{gx gy:Option (N4×N4)}{l:N4×N4}(h:sr room gx gy=some l):∃p q,gx=some p/\gy=some q/\ro4 p.2 q.1<room/\l=(p.2,q.1):=by
 cases gx with
 | none=>cases h
 | some p=>cases gy with
  | none=>cases h
  | some q =>
   have h:(if ro4 p.2 q.1>=room then none else some (p.2,q.1))=some l:=h
   split at h
   ·cases h
   ·cases h
    exact⟨p,q,rfl,rfl,by omega,rfl⟩
noncomputable def NbG(n m:Nat)(G:GF):Prop:=∀k i j l h,DIn n m k i j->G k i j=some (l,h)->GS l/\GS h
theorem A9.nbg{K:W.Frag}{C:Addr}{H:Hp}{f:Addr}{n m:Nat}{room:Int}{G:GF}{F:Int->Int->Bool}(h:A9 K C H f n m room G F):NbG n m G:=by
 obtain⟨_,_,_,_,_,_,⟨_,d⟩,_⟩:=h.ex;obtain⟨_,_,_,a,_⟩:=d.ex;intro k i j l h di e;obtain⟨v,_,gv⟩:=a k i j di;rw[e]at gv;obtain⟨_,_,_,_,_,n1,n2⟩:=gv;exact⟨n1.nb,n2.nb⟩
theorem uO{n m:Nat}{G:GF}{k i j k' i' j':Int}{l:N4×N4}(gg:GGk G)(nb:NbG n m G)(dx:DIn n m k i j)(dy:DIn n m k' i' j')(h:sr 0 (G k i j) (G k' i' j')=some l):(GH l.1/\GG l.2)/\ro4 l.1 l.2<0/\GS l.1/\GS l.2:=by
 obtain⟨p,q,e1,e2,lt,rfl⟩:=sj h;exact⟨⟨(dj (gg _ _ _ _ _ e1)).2,(dj (gg _ _ _ _ _ e2)).1⟩,lt,(nb _ _ _ _ _ dx e1).2,(nb _ _ _ _ _ dy e2).1⟩
theorem jw{n m:Nat}{k i j:Int}(hn:n<=20)(hm:m<=20)(d:DIn n m k i j):yG (k,i,j):=by
 rcases d with⟨rfl,⟨h1,h2⟩,h3,h4⟩|⟨rfl,⟨h1,h2⟩,h3,h4⟩
 ·exact⟨.inl rfl,⟨h1,by show i<=1000;omega⟩,h3,by show j<=1000;omega⟩
 ·exact⟨.inr rfl,⟨h1,by show i<=1000;omega⟩,h3,by show j<=1000;omega⟩
theorem vz{n m:Nat}{G:GF}{F:Int->Int->Bool}(hn:n<=20)(hm:m<=20)(gg:GGk G)(nb:NbG n m G):∀s∈U n m,∀e∈lZ 0 G F n m s,e.1∈U n m/\xb e.2:=by
 intro s hs e he;obtain⟨i,j,rfl,g1,g2,g3,g4⟩:=fO.mp hs;have he:e∈(dnS 0 G i j++ovS 0 G n m i j)++bkS F n m i j:=he;rcases List.mem_append.mp he with he|he
 ·rcases List.mem_append.mp he with he|he
  ·unfold dnS at he
   split at he
   ·cases he
   ·rename_i c
    split at he
    ·rw[List.mem_singleton.mp he]
     exact⟨fO.mpr ⟨_,_,rfl,g1,g2,by omega,by omega⟩,trivial⟩
    ·obtain⟨k,hk,he⟩:=List.mem_filterMap.mp he
     have hk:=List.mem_range.mp hk;unfold dnE at he;obtain⟨l,hl,rfl⟩:=Option.map_eq_some_iff.mp he;have dx:DIn n m 0 i (j - 1):=.inl ⟨rfl,⟨g1,g2⟩,by omega,by omega⟩;have dy:DIn n m 0 (k:Int) (j - 1):=.inl ⟨rfl,⟨by omega,by omega⟩,by omega,by omega⟩;exact⟨fO.mpr ⟨_,_,rfl,by omega,by omega,by omega,by omega⟩,(0,i,j - 1),(0,(k:Int),j - 1),rfl,rfl,jw hn hm dx,jw hn hm dy,uO gg nb dx dy hl⟩
  ·unfold ovS at he
   split at he
   ·cases he
   ·rename_i c
    split at he
    ·rw[List.mem_singleton.mp he]
     exact⟨fO.mpr ⟨_,_,rfl,by omega,by omega,g3,g4⟩,trivial⟩
    ·obtain⟨k,hk,he⟩:=List.mem_filterMap.mp he
     have hk:=List.mem_range.mp hk;unfold ovE at he;obtain⟨l,hl,rfl⟩:=Option.map_eq_some_iff.mp he;have dx:DIn n m 1 i j:=.inr ⟨rfl,⟨g1,by omega⟩,g3,g4⟩;have dy:DIn n m 1 i (j+1+(k:Int)):=.inr ⟨rfl,⟨g1,by omega⟩,by omega,by omega⟩;exact⟨fO.mpr ⟨_,_,rfl,by omega,by omega,by omega,by omega⟩,(1,i,j),(1,i,j+1+(k:Int)),rfl,rfl,jw hn hm dx,jw hn hm dy,uO gg nb dy dx hl⟩
 ·obtain⟨p,hp,rfl⟩:=List.mem_map.mp he
  obtain⟨h1,h2,h3,h4,_⟩:=dU.mp (List.mem_filter.mp hp).1;exact⟨fO.mpr ⟨_,_,rfl,h1,h2,h3,h4⟩,trivial⟩
theorem vy{n m:Nat}{room:Int}{G:GF}{F:Int->Int->Bool}(hn:n<=20)(hm:m<=20):∀s∈U n m,(lZ room G F n m s).length<1000:=by
 intro s hs;obtain⟨i,j,rfl,g1,g2,g3,g4⟩:=fO.mp hs;show((dnS room G i j++ovS room G n m i j)++bkS F n m i j).length<1000;have a:(dnS room G i j).length<=21:=by
  unfold dnS
  split
  ·exact Nat.zero_le _
  ·split
   ·show 1<=21;omega
   ·refine Nat.le_trans (List.length_filterMap_le _ _) ?_
    rw[List.length_range];omega
 have b:(ovS room G n m i j).length<=21:=by
  unfold ovS
  split
  ·exact Nat.zero_le _
  ·split
   ·show 1<=21;omega
   ·refine Nat.le_trans (List.length_filterMap_le _ _) ?_
    rw[List.length_range];omega
 have c:(bkS F n m i j).length<900:=by
  unfold bkS;rw[List.length_map];exact Nat.lt_of_le_of_lt (List.length_filter_le _ _) (j9 hn hm)
 rw[List.length_append,List.length_append];omega
theorem pT{wy:Str}{n m:Nat}{F:Int->Int->Bool}:((kT wy n m F).map λp=>ck p.1 p.2).Nodup:=by
 have nd:(kT wy n m F).Nodup:=by
  unfold kT kQ;exact List.Pairwise.filter _ pQ
 refine List.pairwise_map.mpr (List.Pairwise.imp (λ{a b} h z=>h ?_) nd);obtain⟨z1,z2⟩:=u8 z;exact Prod.ext z1 z2
theorem ve{wy:Str}{n m:Nat}{F:Int->Int->Bool}:∀s∈(kT wy n m F).map λp=>ck p.1 p.2,s∈U n m:=λs hs=>by
 obtain⟨p,hp,rfl⟩:=List.mem_map.mp hs;obtain⟨g1,g2,g3,g4,_⟩:=dU.mp (List.mem_filter.mp hp).1;exact fO.mpr ⟨_,_,rfl,g1,g2,g3,g4⟩
theorem vH{bs U:List aJ}{stp:aJ->List (aJ×Lb)}{fin:aJ->Bool}{l:List (aJ×Lb)}(r:wW bs stp fin l)(hb:∀s∈bs,s∈U)(hs:∀s∈U,∀e∈stp s,e.1∈U/\xb e.2):∀(n:Nat) e,l[n]? = some e->e.1∈U/\xb e.2:=by
 have inU:=vK r hb (λs h e he=>(hs s h e he).1);obtain⟨⟨s,r',rfl,h1⟩,h2,_⟩:=r;intro n;cases n with
 | zero=>intro e he;simp at he;subst he;exact⟨hb s h1,trivial⟩
 | succ k =>
  intro e he;have lt:=(List.getElem?_eq_some_iff.mp he).1;obtain⟨a,ha⟩:∃a,((s,Lb.no)::r')[k]? = some a:=⟨((s,Lb.no)::r')[k]'(by omega),by rw[List.getElem?_eq_getElem (by omega)]⟩;exact hs _ (inU k a ha) e (h2 k a e ha he)
theorem jI{p:Addr}{H H':Hp}{b:Addr}{ls:List (Pos×Str)}(s:eA p H H')(t:Tab H' p ls)(n:H' b=none):H b=none:=by
 cases e:H b with
 | none=>rfl
 | some o =>
  by_cases z:b=p
  ·obtain⟨ps,e1,_⟩:=t
   rw[z,e1]at n;cases n
  ·rw[s b o z e]at n
   cases n
noncomputable def ca(H H':Hp):Prop:=∀b o,H b=some o->(∀ps,o≠.tbl ps)->H' b=some o
theorem ca.of{H H':Hp}(s:Same H H'):ca H H':=λb o e _=>s b o e
theorem ca.trans{H H1 H2:Hp}(a:ca H H1)(b:ca H1 H2):ca H H2:=λc o e n=>b c o (a c o e n) n
theorem ca.t{H H':Hp}(s:ca H H'){b:Addr}{xs:List V}(e:H b=some (.tup xs)):H' b=some (.tup xs):=s b _ e λps q=>by cases q
theorem ca.l{H H':Hp}(s:ca H H'){b:Addr}{xs:List V}(e:H b=some (.lst xs)):H' b=some (.lst xs):=s b _ e λps q=>by cases q
theorem ca.line{H H':Hp}(s:ca H H'){l:Addr}{qs:Crn}(L:LineM H l qs):LineM H' l qs:=⟨s.l L.lst,λq hq=>⟨s.t (L.crn q hq).1,(L.crn q hq).2⟩⟩
theorem ca.seq{H H':Hp}(s:ca H H'){l:Addr}{xs:List V}(L:SqL K H l xs):SqL K H' l xs:=by
 rcases L with(h|⟨o,h⟩)|h
 ·exact .inl (.inl (s.l h))
 ·exact .inl (.inr ⟨o,s _ _ h λps q=>by cases q⟩)
 ·exact .inr h
theorem eA.n{p:Addr}{H H':Hp}{ls:List (Pos×Str)}(s:eA p H H')(t:Tab H p ls):ca H H':=λb o e n=>s.keep t e n
theorem mY{K:W.Frag}{H H':Hp}{a:Addr}{xs:List V}(h:TpK K H a xs)(k:∀b o,H b=some o->(∀z,o≠KnO z)->(∀ps,o≠.tbl ps)->H' b=some o):TpK K H' a xs:=h.imp_left λh=>k _ _ h (λz q=>by cases q) (λz q=>by cases q)
theorem A9.keep{K:W.Frag}{C:Addr}{H H':Hp}{f:Addr}{n m:Nat}{room:Int}{G:GF}{F:Int->Int->Bool}(h:A9 K C H f n m room G F)(k:∀b o,H b=some o->(∀z,o≠KnO z)->(∀ps,o≠.tbl ps)->H' b=some o):A9 K C H' f n m room G F:=by
 obtain⟨dx,lt,d,fr,h1,h2,⟨c,⟨kvs,e,l,a,z⟩⟩,⟨o,h4⟩⟩:=h.ex;refine⟨dx,lt,d,fr,k _ _ h1 (λz q=>by cases q) (λz q=>by cases q),k _ _ h2 (λz q=>by cases q) (λz q=>by cases q),⟨c,⟨kvs,k _ _ e (λz q=>by cases q) (λz q=>by cases q),l,λkk i j x=>?_,z⟩⟩,⟨o,k _ _ h4 (λz q=>by cases q) (λz q=>by cases q)⟩⟩;obtain⟨v,ev,g⟩:=a kk i j x;refine⟨v,ev,?_⟩;cases hg:G kk i j with
 | none=>rw[hg]at g;exact g
 | some lm =>
  rw[hg]at g;obtain⟨t,p,q,e,f,n1,n2⟩:=g;exact⟨t,p,q,e,k _ _ f (λz q=>by cases q) (λz q=>by cases q),⟨mY n1.at_ k,n1.b0,n1.b1,n1.b2,n1.b3,n1.p2,n1.p3⟩,⟨mY n2.at_ k,n2.b0,n2.b1,n2.b2,n2.b3,n2.p2,n2.p3⟩⟩
noncomputable def qP:Str:="fence_past"++".<locals>."++"<lambda>"
noncomputable def laP:Expr:=qY ((aP (top 57)).getD 1 (.Pass ⟨0,0,0,0⟩)) 1
noncomputable def lbP:Expr:=qY ((aP (top 57)).getD 1 (.Pass ⟨0,0,0,0⟩)) 2
noncomputable def lsP:List (Pos×Str):=[(eG laP,qP),(eG lbP,qP)]
inductive GV:List (aJ×Lb)->List Pr->Prop
 | nil:GV [] []
 | cons {e:aJ×Lb} {l:List (aJ×Lb)} {bs ps:List Pr} {q:Pr} (hb:q9 e.2 bs) (hq:prC q (dec e.1)) (r:GV l ps):GV (e::l) (bs++q::ps)
theorem GV.snoc{e:aJ×Lb}{l:List (aJ×Lb)}{bs ps:List Pr}{q:Pr}(h:GV l ps)(hb:q9 e.2 bs)(hq:prC q (dec e.1)):GV (l++[e]) ((ps++bs)++[q]):=by
 induction h with
 | nil=>exact .cons hb hq .nil
 | cons hb' hq' _ ih =>
  have:=GV.cons hb' hq' ih;simpa only[List.cons_append,List.append_assoc]using this
theorem vd{lb:Lb}{ps:List Pr}(h:q9 lb ps):ps.length<=2:=by
 cases lb with
 | bend d e l m =>
  obtain⟨_,_,_,_,_,_,_,_,_,_,_,rfl⟩:=h;exact Nat.le_refl _
 | no=>rw[show ps = [] from h];exact Nat.zero_le _
 | key d=>rw[show ps = [] from h];exact Nat.zero_le _
noncomputable def Al(wy:Str)(n m:Nat)(G:GF)(F:Int->Int->Bool)(ps:List Pr):Prop:=∃lst,wW ((kT wy n m F).map λp=>ck p.1 p.2) (lZ 0 G F n m) (sE wy n) lst/\xI ((kT wy n m F).map λp=>ck p.1 p.2) (lZ 0 G F n m) (sE wy n) lst/\lst.length<=100/\GV lst ps/\ps.length<=300
inductive Hr (K:W.Frag) (C t:Addr) (vs:List V) (H:Hp) (Q:VK) (x_3:XK):Prop
 | mk:∀(fo:Addr) (n m:Nat) (G:GF) (F:Int->Int->Bool) (wy:Str),(vs = [.ref fo,.str wy])->(Tab H t lsP)->(A9 K C H fo n m 0 G F)->(((1<=n/\n<=9)/\1<=m/\m<=9))->(GGk G)->(¬wV ((kT wy n m F).map λp=>ck p.1 p.2) (lZ 0 G F n m) (sE wy n))->(∀r H' ps,H r=none->eA t H H'->Tab H' t lsP->Al wy n m G F ps->GE H' r ps->Q (.ref r) H')->Hr K C t vs H Q x_3
theorem Bz:AQ ["field","way","begins","row","pairs","corner","bend"] ["field","way"] (aq (top 57)):=smk
theorem kO{t_fence_past:Addr}(C0:HY K mg "fence_past" (top 57) t_fence_past)(AS:Dz K mg "Field" C_Field)(n_room:aR K C_Field "room")(n_last:aR K C_Field "last")(n_doors:aR K C_Field "doors")(n_far:aR K C_Field "far")(BF:xg K mg)(Fv:Fn P w K mg base "seek" ["begins","steps_from","is_end"] 10 (tj P w K mg base 8))(CJ:Fn P w K mg base "steps_from" ["field","corner"] 7 (Ha K C_Field))(Cs:Fn P w K mg base "begins_fence" ["corner","last","way"] 1 GA)(CZ:Fn P w K mg base "ends_fence" ["corner","last","way"] 1 Gx)(Bb:Fn P w K mg base "pair_at_corner" ["corner"] 1 DZ)(Ce:Fn P w K mg base "pairs_of_bend" ["bend"] 7 (Hn K))(T:Txt mg):Fn P w K mg base "fence_past" ["field","way"] 11 (Hr K C_Field t_fence_past):=by
 refine C0.fn Bz (λ_ _ _ _ _ _ us hl=>by obtain⟨_,_,rfl⟩:=dh hl;rfl) (λvs H Q E h=>?_) (λf cdv A outer s H vs Q E CF hr h=>?_)
 ·obtain⟨fo,n,m,G,F,wy,rfl,_⟩:=h
  rfl
 ·obtain⟨fo,n,m,G,F,wy,rfl,tb,fa,⟨⟨hn,hn20⟩,hm,hm20⟩,gg,nsh,q1⟩:=h
  obtain⟨c,ec,CF⟩:=CF;have CL_a:closureFor (eW laP) (bY CX0 P w K mg base ["field","way","begins","row","pairs","corner","bend"] "fence_past" (aq (top 57)) f cdv A outer s H E).nox.env=pure ([("field",s.heap.objs.size+1)]:List (Str×Addr)):=by rfl
  have CL_b:closureFor (eW lbP) (bY CX0 P w K mg base ["field","way","begins","row","pairs","corner","bend"] "fence_past" (aq (top 57)) f cdv A outer s H E).nox.env=pure ([("way",s.heap.objs.size+2),("field",s.heap.objs.size+1)]:List (Str×Addr)):=by rfl
  have CM_a:(eG laP,qP)∈lsP:=List.mem_cons_self;have CM_b:(eG lbP,qP)∈lsP:=List.mem_cons_of_mem _ List.mem_cons_self;have CD_a:∀l∈lsP,l≠(eG laP,qP)->¬(l.1.line=(eG laP).line/\l.1.col=(eG laP).col):=by
   intro l hl ne;rcases List.mem_cons.mp hl with rfl|hl
   ·exact absurd rfl ne
   ·rw[List.mem_singleton.mp hl]
    decide +kernel
  have CD_b:∀l∈lsP,l≠(eG lbP,qP)->¬(l.1.line=(eG lbP).line/\l.1.col=(eG lbP).col):=by
   intro l hl ne;rcases List.mem_cons.mp hl with rfl|hl
   ·decide +kernel
   ·rw[List.mem_singleton.mp hl]at ne
    exact absurd rfl ne
  have CS:∀p∈[((s.heap.objs.size+1:Addr),0),(s.heap.objs.size+2,1)],∃y,(bY CX0 P w K mg base ["field","way","begins","row","pairs","corner","bend"] "fence_past" (aq (top 57)) f cdv A outer s H E).nox.env.cells.lookup y=some p.1/\(bY CX0 P w K mg base ["field","way","begins","row","pairs","corner","bend"] "fence_past" (aq (top 57)) f cdv A outer s H E).nox.N[p.2]? = some y/\(bY CX0 P w K mg base ["field","way","begins","row","pairs","corner","bend"] "fence_past" (aq (top 57)) f cdv A outer s H E).nox.env.kindOf y=some .cell/\Vis (bY CX0 P w K mg base ["field","way","begins","row","pairs","corner","bend"] "fence_past" (aq (top 57)) f cdv A outer s H E).nox.env.scope y:=by
   intro p hp;simp only[List.mem_cons,List.not_mem_nil,or_false]at hp;rcases hp with rfl|rfl
   ·exact⟨"field",rfl,rfl,rfl,.inr (.inl rfl)⟩
   ·exact⟨"way",rfl,rfl,rfl,.inr (.inl rfl)⟩
  have CB:DS (bY CX0 P w K mg base ["field","way","begins","row","pairs","corner","bend"] "fence_past" (aq (top 57)) f cdv A outer s H E).nox (tD ((aP (top 57)).getD 0 (.Pass ⟨0,0,0,0⟩))) [("way",s.heap.objs.size+2),("field",s.heap.objs.size+1)] ["corner"] [("field",0),("way",1)] :=
   ⟨by rfl,rfl,by decide +kernel,by decide +kernel,(λx hx=>by simp only[List.mem_cons,List.not_mem_nil,or_false]at hx;subst hx;rfl),(λp hp=>by simp only[List.mem_cons,List.not_mem_nil,or_false]at hp;rcases hp with rfl|rfl <;> rfl),by rfl,by decide +kernel,(λp hp=>by simp only[List.mem_cons,List.not_mem_nil,or_false]at hp;rcases hp with rfl|rfl <;> exact⟨rfl,rfl,.inr (.inl rfl),rfl,rfl⟩),⟨rfl,rfl⟩,rfl⟩
  refine⟨_,(ag (iS (j:=2) rfl CB Bz.nd rfl rfl (qr (cF (pv 0) rfl)) (λfp s₀ H₀=>(aO (i:=0) CB.nd rfl (Or.inl rfl) (Or.inr rfl))) (λfp s₀ H₀=>(l8 (de (aF Cs (hr.mono (by decide)) (by rfl) (ad (pv 0) (ad (qt (K:=K) rfl (pv 1) rfl) (ad (pv 2) ak))))))) (λfp s₀ H₀=>(pv 0))) (ag (ay (i:=3) Bz.nd rfl (Or.inl rfl) (yi Fv (hr.mono (by decide)) (by rfl) (λ_=>rfl) CS (ad (pv 2) (ad (tR CL_a ec CF BF rfl rfl CM_a CD_a) (ad (tR CL_b ec CF BF rfl rfl CM_b CD_b) ak))))) (ag (ay (i:=4) Bz.nd rfl (Or.inl rfl) (bz ak)) (ag (cz PassesOwn.never rfl (fg (pv 3)) (d8 rfl (bo (aO (i:=5) Bz.nd rfl (Or.inl rfl)) (bo (aO (i:=6) Bz.nd rfl (Or.inl rfl)) dE))) (ag (ce (eC PySem.F.plainAttrs_list PySem.F.slot_list_extend PySem.F.type_list_extend pA (pv 4) (ad (aF Ce (hr.mono (by decide)) (by rfl) (ad (pv 6) ak)) ak))) (am (ce (eC PySem.F.plainAttrs_list PySem.F.slot_list_append PySem.F.type_list_append bO (pv 4) (ad (aF Bb (hr.mono (by decide)) (by rfl) (ad (pv 5) ak)) ak)))))) (am (aB (pv 4))))))),?_⟩;obtain⟨dx,lt,d,fr,hf,hl,_,fd⟩:=fa.ex;obtain⟨o,ed⟩:=id fd;have nb:=fa.nbg;refine⟨_,rfl,fo,C_Field,dx,_,_,rfl,hf,AS.cls,n_far,rfl,fr,o,_,rfl,ed,kg (k:=1) ed (by unfold kvF;rw[List.length_map];have:=j9 (F:=F) (show n<=20 by omega) (show m<=20 by omega);omega) (xV λp=>decide (p.2=(m:Int)) || (decide (wy≠bI) && decide (p.1=0))) (λe y H'=>bW H' y e.1) (λe v H H' st h=>h.mono st) ?_ ?_⟩
  ·intro k e b H2 τ Kc Kn he hb s2 hτ kc kn
   obtain⟨τ0,rfl⟩:∃τ0,τ = [τ0]:=eV hτ;have he':=List.mem_of_getElem? he;unfold kvF at he';obtain⟨p,hp,rfl⟩:=List.mem_map.mp he';obtain⟨x,y⟩:=p;refine⟨⟨[some (.ref b)],rfl,rfl⟩,?_⟩;refine⟨_,rfl,_,rfl,fo,C_Field,dx,_,_,rfl,s2 _ _ hf,AS.cls,n_last,rfl,_,rfl,b,lt,x,y,n,m,wy,rfl,hb,s2 _ _ hl,_,rfl,aT (λh=>?_) (λh=>kn h H2 (Same.refl _))⟩;exact⟨_,rfl,kc h _ H2 (Same.refl _) ⟨b,rfl,hb⟩⟩
  intro bl bvs H3 nb3 S3 f3 prb;rw[gI]at prb;have pb3:Paired (λs v=>bW H3 v s) ((kT wy n m F).map λp=>ck p.1 p.2) bvs:=g8 (gF (f:=λ(p:Int×Int)=>(ck p.1 p.2,V.bl true)) prb);have tb3:=tb.same S3;refine⟨_,rfl,tb3,λla_ H4 P4 tb4 la4 nfa=>⟨tb4,λlb_ H5 P5 tb5 lb5 nfb=>λH6 s6 cells=>?_⟩⟩;have kp:∀{x:Addr} {ob:HO},H3 x=some ob->(∀ps,ob≠.tbl ps)->H6 x=some ob:=λe n=>s6 _ _ (P5.keep tb4 (P4.keep tb3 e n) n);have c1:=cells (s.heap.objs.size+1,0) List.mem_cons_self (.ref fo) rfl;have c2:=cells (s.heap.objs.size+2,1) (List.mem_cons_of_mem _ List.mem_cons_self) (.str wy) rfl;have la6:=(la4.same λx ob e=>P5.keep tb4 e (λps q=>by cases q)).same λx ob e=>s6 _ _ e;have lb6:=lb5.same λx ob e=>s6 _ _ e;have fa6:A9 K C_Field H6 fo n m 0 G F:=(fa.mono S3).keep λb o e _ h2=>kp e h2;have AL:=vz (F:=F) (show n<=20 by omega) (show m<=20 by omega) gg nb;have FN:Im P w K mg base 8 H6 la_ lb_ (U n m) (lZ 0 G F n m) (sE wy n):=by
   refine⟨la6.obj,lb6.obj,?_,?_,λs hs e he=>(AL s hs e he).1,vy (by omega) (by omega)⟩
   ·obtain⟨pm,cc,ct,ea,ck6⟩:=la6
    have LN:GU "corner" (eW laP) [("field",s.heap.objs.size+1)]:=by
     refine⟨rfl,rfl,rfl,by decide +kernel,rfl,by rfl,?_,λp hp=>?_,λp hp q hq e=>?_⟩
     ·show(["corner","field"]:List Str).Nodup
      decide +kernel
     ·rw[List.mem_singleton.mp hp]
      rfl
     ·rw[List.mem_singleton.mp hp,List.mem_singleton.mp hq]
    refine⟨_,⟨_,["corner"],uG (P:=P) (w:=w) (K:=K) (mg:=mg) (base:=base) (x:="corner") (q:=qP) (params:=qE laP) (body:=qD laP) (scope:=eW laP) (pm:=pm) (ctv:=ct) (f:=la_) (c:=cc) (k:=7) LN (λA2 o2 s2 H2 hr2=>aF CJ (hr2.mono (by decide)) (by rfl) (ad (pv 1) (ad (pv 0) ak))),.all λus hl=>by obtain⟨_,rfl⟩:=eV hl;rfl⟩,?_⟩;intro H' v sp Q' s' hv hU k;obtain⟨x,y,rfl,b1,b2,b3,b4⟩:=fO.mp hU;obtain⟨p,rfl,hp⟩:=hv;have cs:Paired (λ(p:Str×Addr) z=>dH H' p.2 z) [("field",s.heap.objs.size+1)] [.ref fo]:=.cons (c1.mono s') .nil;have hC:=oJ cs;have CK:iZ H' cc qP:=by
     obtain⟨o,vs,t,e,r⟩:=ck6;exact⟨o,vs,t,s' _ _ e,r⟩
    refine⟨.ref p,[.ref fo],rfl,s' _ _ ea,CK,cs,?_⟩;refine⟨_,rfl,_,rfl,fo,p,n,m,0,G,F,x,y,rfl,(fa6.mono s').keep λb o e h1 _=>fU hC e h1,fU hC hp (λz q=>by cases q),⟨⟨b1,b2⟩,by omega⟩,⟨⟨b3,b4⟩,by omega⟩,λr H1 s1 nr st hC1=>?_⟩;refine k r _ (lj s1) ?_ (rJ hC1 st);obtain⟨vs,er,_⟩:=st;rw[cW λz=>by rw[hC1 r z]at er;cases er]at nr;exact nr
   ·obtain⟨pm,cc,ct,ea,ck6⟩:=lb6
    have LN:GU "spot" (eW lbP) [("way",s.heap.objs.size+2),("field",s.heap.objs.size+1)]:=by
     refine⟨rfl,rfl,rfl,by decide +kernel,rfl,by rfl,?_,λp hp=>?_,λp hp q hq e=>?_⟩
     ·show(["spot","way","field"]:List Str).Nodup
      decide +kernel
     ·simp only[List.mem_cons,List.not_mem_nil,or_false]at hp
      rcases hp with rfl|rfl <;> rfl
     ·simp only[List.mem_cons,List.not_mem_nil,or_false]at hp hq
      rcases hp with rfl|rfl <;> rcases hq with rfl|rfl
      ·rfl
      ·exact absurd (show s.heap.objs.size+2=s.heap.objs.size+1 from e) (by omega)
      ·exact absurd (show s.heap.objs.size+1=s.heap.objs.size+2 from e) (by omega)
      ·rfl
    refine⟨_,⟨_,["spot"],uG (P:=P) (w:=w) (K:=K) (mg:=mg) (base:=base) (x:="spot") (q:=qP) (params:=qE lbP) (body:=qD lbP) (scope:=eW lbP) (pm:=pm) (ctv:=ct) (f:=lb_) (c:=cc) (k:=7) LN (λA2 o2 s2 H2 hr2=>aF CZ (hr2.mono (by decide)) (by rfl) (ad (pv 0) (ad (qt (K:=K) rfl (pv 2) rfl) (ad (pv 1) ak)))),.all λus hl=>by obtain⟨_,rfl⟩:=eV hl;rfl⟩,?_⟩;intro H' v sp Q' s' hv hU k;obtain⟨x,y,rfl,_⟩:=fO.mp hU;obtain⟨p,rfl,hp⟩:=hv;have cs:Paired (λ(p:Str×Addr) z=>dH H' p.2 z) [("way",s.heap.objs.size+2),("field",s.heap.objs.size+1)] [.str wy,.ref fo]:=.cons (c2.mono s') (.cons (c1.mono s') .nil);have hC:=oJ cs;have CK:iZ H' cc qP:=by
     obtain⟨o,vs,t,e,r⟩:=ck6;exact⟨o,vs,t,s' _ _ e,r⟩
    obtain⟨dx',lt',d',fr',hf',hl',_,_⟩:=(fa6.mono s').ex;refine⟨.ref p,[.str wy,.ref fo],rfl,s' _ _ ea,CK,cs,?_⟩;exact⟨_,rfl,_,rfl,fo,C_Field,dx',_,_,rfl,fU hC hf' (λz q=>by cases q),AS.cls,n_last,rfl,_,rfl,p,lt',x,y,n,m,wy,rfl,fU hC hp (λz q=>by cases q),fU hC hl' (λz q=>by cases q),λhC1=>k _ (lj (Same.refl _))⟩
  have SP5:eA t_fence_past H H5:=(S3.p.trans P4).trans P5;have pb6:Paired (λs v=>bW H6 v s) ((kT wy n m F).map λp=>ck p.1 p.2) bvs:=Paired.mapP pb3 λa b ⟨p,e1,e2⟩=>⟨p,e1,kp e2 (λps q=>by cases q)⟩;have us:=wU (show n<=20 by omega) (show m<=20 by omega);refine⟨bl,la_,lb_,bvs,_,U n m,lZ 0 G F n m,sE wy n,rfl,kp f3 (λps q=>by cases q),pb6,pT,ve,us,FN,?_,?_⟩
  ·intro H7 s7 sh
   exact(nsh sh).elim
  ·intro r H7 lst s7 road fnd hlen ra H8 k1 k2
   have S8:Same H5 H8:=λx ob e=>k2 x ob e (s7 _ _ (s6 _ _ e));obtain⟨vs,hr8,pr8⟩:=vJ (wc k1) ra;have vl:=Paired.length pr8;have ok:=vH road ve AL;have ul:(U n m).length<=100:=by
    rw[xH];have:=Nat.mul_le_mul (show n+1<=10 by omega) (show m+1<=10 by omega);omega
   refine⟨sz (by simp),λpl H9 s9 f9 n9=>?_⟩;have nr:r≠pl:=λz=>by rw[<- z,hr8]at n9;cases n9
   have w9:H9 pl=some (.lst (prs [])):=f9;refine⟨_,rfl,r,rfl,⟨_,SqL.of (s9 _ _ hr8)⟩,fR (K:=K) (a:=r) (xs:=vs) (λi σ H'=>∃(ps':List Pr) (z5 z6:Option V),σ = [some (.ref fo),some (.str wy),some (.ref bl),some (.ref r),some (.ref pl),z5,z6]/\bX pl H9 H'/\H' pl=some (.lst (prs ps'))/\GV (lst.take i) ps'/\(∀q∈ps',GR H' q)/\ps'.length<=3*i)
    ⟨[],_,_,rfl,λb o _ e=>e,w9,.nil,(λq hq=>nomatch hq),Nat.le_refl _⟩ (λi σ H' _ ⟨_,_,_,_,b',_⟩=>SqL.of (b' _ _ nr (s9 _ _ hr8))) ?_ ?_⟩
   ·rintro i x σ H10 hx ⟨ps',z5,z6,rfl,b10,w10,fl,pts,len⟩
    have il:=(List.getElem?_eq_some_iff.mp hx).1;obtain⟨e,he,t,sv,hv,rfl,ht,⟨c,rfl,hc⟩,hlb⟩:=dz pr8 i x hx;have noT:∀xs,H9 pl≠some (.tup xs):=λxs z=>by rw[w9]at z;cases z
    have t10:SameT H8 H10:=s9.t.trans (b10.t noT);obtain⟨eu,el⟩:=ok i e he;obtain⟨x,y,ex,g1,g2,g3,g4⟩:=fO.mp eu;rw[ex]at hc;have lb10:=hlb.mono t10;have hvl:vs.length<=100:=by omega
    refine⟨t,_,rfl,SqT.of (t10 _ _ ht),rfl,_,_,rfl,_,_,rfl,rfl,?_⟩;refine⟨_,rfl,.inl ⟨rfl,_,SqL.of w10⟩,_,rfl,_,_,rfl,lb10,el,λr2 H11 bs s11 n2 bp pb=>?_⟩;have bl2:=vd bp;refine⟨pl,r2,_,_,rfl,rfl,s11 _ _ w10,pb.lst,Nat.le_trans (show(prs ps').length+(prs bs).length<=1000 by rw[fe,fe];omega) (by decide),λH12 u12=>?_⟩;have w12:H12 pl=some (.lst (prs (ps'++bs))):=by
     rw[u12.now];unfold prs;rw[List.map_append]
    have t12:=t10.trans (s11.t.trans u12.t);refine⟨_,rfl,.inl ⟨rfl,_,SqL.of w12⟩,_,rfl,c,x,y,rfl,t12 _ _ hc,⟨g1,by omega⟩,⟨g3,by omega⟩,λq H13 s13 pq cq=>?_⟩;refine⟨pl,_,_,rfl,rfl,s13 _ _ w12,aZ (by rw[fe,List.length_append];omega),λH14 u14=>?_⟩;refine⟨(ps'++bs)++[q],_,_,rfl,λb' o' nb' e'=>u14.at nb' (s13 _ _ (u12.at nb' (s11 _ _ (b10 _ _ nb' e')))),?_,?_,λq' hq'=>?_,?_⟩
    ·rw[u14.now,jL]
    ·rw[List.take_add_one,he]
     refine fl.snoc bp ?_;rw[ex];exact cq
    ·rcases List.mem_append.mp hq' with hq'|hq'
     ·have t14:SameT H12 H14:=s13.t.trans u14.t
      rcases List.mem_append.mp hq' with hq'|hq'
      ·exact(pts q' hq').t ((s11.t.trans u12.t).trans t14)
      ·exact(pb.pr q' hq').t (u12.t.trans t14)
     ·rw[List.mem_singleton.mp hq']
      exact pq.two.t u14.t
    ·rw[List.length_append,List.length_append,List.length_singleton]
     omega
   ·rintro σ H10 ⟨ps',z5,z6,rfl,b10,w10,fl,pts,len⟩
    rw[List.take_of_length_le (by omega)]at fl;have S10:Same H8 H10:=b10.same s9 n9;exact⟨_,rfl,q1 pl H10 ps' (jI (SP5.trans S8.p) (tb5.same S8) n9) ((SP5.trans S8.p).trans S10.p) (tb5.same (S8.trans S10)) ⟨lst,road,fnd,by omega,fl,by omega⟩ ⟨w10,pts⟩⟩
theorem qo{α:Type}{R:α->Pr->Prop}:∀{l:List α} {ys:List V},ys.length=l.length->(∀(i:Nat) y,ys[i]? = some y->∃q e,l[i]? = some e/\y=V.ref q.p/\R e q)->∃ps,ys=prs ps/\Paired R l ps
 | [],[],_,_=>⟨[],rfl,.nil⟩
 | e::l,y::ys,hl,h=>by
  obtain⟨q,e',h1,h2,h3⟩:=h 0 y rfl;cases h1;obtain⟨ps,h4,h5⟩:=qo (R:=R) (l:=l) (ys:=ys) (by simpa using hl) (λi y hy=>h (i+1) y (by simpa using hy));exact⟨q::ps,by rw[h2,h4];rfl,.cons h3 h5⟩
 | [],_::_,hl,_=>by simp at hl
 | _::_,[],hl,_=>by simp at hl
noncomputable def onB(n1:Bool)(a b a' b':Int):Prop:=if n1=true then a'=0/\b'=1 else a'=a/\b'=b
inductive Gq (vs:List V) (H:Hp) (Q:VK) (x_3:XK):Prop
 | mk:∀(l p:Addr) (qs:Crn) (a b:Int),(vs = [.ref l,.ref p])->(LineM H l qs)->((Ga H p a b 5300/\0<=a))->(∀(r:Addr) (a' b':Int) (H':Hp),Same H H'->Ga H' r a' b' 5300->0<=a'->onB (decide (qs.length=1)) a b a' b'->Q (.ref r) H')->Gq vs H Q x_3
noncomputable def vW(o1 o2:Bool)(q q':Pr):Prop:=onB o1 q.a q.b q'.a q'.b/\onB o2 q.c q.d q'.c q'.d
inductive EB (vs:List V) (H:Hp) (Q:VK) (x_3:XK):Prop
 | mk:∀(l1 l2 l:Addr) (qs rs:Crn) (ps:List Pr),(vs = [.ref l1,.ref l2,.ref l])->(LineM H l1 qs)->(LineM H l2 rs)->(GE H l ps)->(ps.length<990)->(∀(r:Addr) (ps':List Pr) (H':Hp),H r=none->Same H H'->GE H' r ps'->Paired (vW (decide (qs.length=1)) (decide (rs.length=1))) ps ps'->Q (.ref r) H')->EB vs H Q x_3
theorem Fo:AQ ["line","place"] ["line","place"] (aq (top 45)):=smk
theorem oa(Fy:Df K mg "place_on" (top 45))(T:Txt mg):Fn P w K mg base "place_on" ["line","place"] 1 Gq:=by
 refine Fy.fn Fo (λ_ _ _ _ _ _ us hl=>by obtain⟨_,_,rfl⟩:=dh hl;rfl) (λvs H Q E h=>?_) (λf cdv A outer s H vs Q E hr h=>?_)
 ·obtain⟨l,p,qs,a,b,rfl,_⟩:=h
  rfl
 ·obtain⟨l,p,qs,a,b,rfl,L,⟨fr,a0⟩,k⟩:=h
  refine⟨_,(am (aB (fK (aE bR (aQ aS (by rfl) T.z_len cS (ad (pv 0) ak)) af (aH _)) (aG (ad af (ad af ak))) (pv 1)))),?_⟩;have hll:(qs.map λ(q:Addr×Int×Int)=>V.ref q.1).length=qs.length:=List.length_map _;unfold onB at k;refine⟨_,rfl,l,_,rfl,.inl (SqL.of L.lst),rfl,_,rfl,?_⟩;rw[hll,di];refine aT (λc=>?_) (λc=>?_)
  ·have c:qs.length=1:=by have:((qs.length:Nat):Int)=1:=bP c;omega
   rw[decide_eq_true c]at k;exact⟨sz (by simp),λr H1 s1 f1 _=>k r 0 1 H1 s1 ⟨f1,⟨by decide,by decide⟩,by decide,by decide⟩ (by decide) ⟨rfl,rfl⟩⟩
  ·have c:¬qs.length=1:=λz=>bZ c (by rw[z];rfl)
   rw[decide_eq_false c]at k;exact⟨_,rfl,k p a b H (Same.refl _) fr a0 ⟨rfl,rfl⟩⟩
theorem Fp:AQ ["one","other","pairs"] ["one","other","pairs"] (aq (top 46)):=smk
theorem og(FB:Df K mg "pairs_on" (top 46))(CP:Fn P w K mg base "place_on" ["line","place"] 1 Gq)(T:Txt mg):Fn P w K mg base "pairs_on" ["one","other","pairs"] 2 EB:=by
 refine FB.fn Fp (λ_ _ _ _ _ _ us hl=>by obtain⟨_,_,_,rfl⟩:=iG hl;rfl) (λvs H Q E h=>?_) (λf cdv A outer s H vs Q E hr h=>?_)
 ·obtain⟨l1,l2,l,qs,rs,ps,rfl,_⟩:=h
  rfl
 ·obtain⟨l1,l2,l,qs,rs,ps,rfl,L1,L2,PP,hlen,k⟩:=h
  have CN:DR (bY CX0 P w K mg base ["one","other","pairs"] "pairs_on" (aq (top 46)) f cdv A outer s H E).nox (Sp7.retScope ((aP (top 46)).getD 0 (.Pass ⟨0,0,0,0⟩))) [("other",s.heap.objs.size+2),("one",s.heap.objs.size+1)] "pair" [("one",0),("other",1)] :=
   ⟨by rfl,rfl,by decide +kernel,by decide +kernel,rfl,(λp hp=>by simp only[List.mem_cons,List.not_mem_nil,or_false]at hp;rcases hp with rfl|rfl <;> rfl),by rfl,by decide +kernel,(λp hp=>by simp only[List.mem_cons,List.not_mem_nil,or_false]at hp;rcases hp with rfl|rfl <;> exact⟨rfl,rfl,.inr (.inl rfl),rfl,rfl⟩),⟨rfl,rfl⟩,rfl⟩
  refine⟨_,(am (aB (jO rfl CN (fg (pv 2)) (λfp s₀ H₀=>(aG (ad (aF CP (hr.mono (by decide)) (by rfl) (ad (pv 1) (ad (az (fm (K:=K) rfl) (pv 0) af (λ_ _=>rfl)) ak))) (ad (aF CP (hr.mono (by decide)) (by rfl) (ad (pv 2) (ad (az (fm (K:=K) rfl) (pv 0) af (λ_ _=>rfl)) ak))) ak))))))),?_⟩;refine⟨_,rfl,l,rfl,⟨_,SqL.of PP.lst⟩,yZ (SqL.of PP.lst) (by rw[fe];omega) (λi v H'=>∃(q':Pr) (q:Pr),ps[i]? = some q/\v = .ref q'.p/\(GR H' q'/\vW (decide (qs.length=1)) (decide (rs.length=1)) q q')) (λi v H H' st ⟨q',q,x1,x2,x3,x4⟩=>⟨q',q,x1,x2,x3.t st,x4⟩) ?_ ?_⟩
  ·intro i x H2 Kc hx s2 kk
   obtain⟨q,hq,rfl⟩:=vQ hx;have mq:=List.mem_of_getElem? hq;have pq:=(PP.pr q mq).t s2.t;have T:=λ{H':Hp} (s:Same H2 H')=>SqT.of (K:=K) (s _ _ pq.p_);refine⟨_,rfl,_,rfl,q.p,_,_,_,rfl,rfl,T (Same.refl _),rfl,l1,q.x,qs,q.a,q.b,rfl,L1.mono s2,⟨⟨pq.x_,pq.lx,pq.ba,pq.bb⟩,pq.nx⟩,λr1 a' b' H3 s3 f3 a0 o1=>?_⟩;refine⟨_,rfl,_,rfl,q.p,_,_,_,rfl,rfl,T s3,rfl,l2,q.y,rs,q.c,q.d,rfl,L2.mono (s2.trans s3),⟨⟨s3 _ _ pq.y_,pq.ly,pq.bc,pq.bd⟩,pq.ny⟩,λr2 c' d' H4 s4 f4 c0 o2=>⟨sz (by simp),λo H5 s5 f5 n5=>?_⟩⟩;have g3:=(f3.mono s4).mono s5;have g4:=f4.mono s5;exact kk _ H5 ((s3.trans s4).trans s5) ⟨⟨o,r1,r2,a',b',c',d'⟩,q,hq,rfl,⟨f5,g3.at_,g4.at_,g3.low,g4.low,a0,c0,g3.ba,g3.bb,g4.ba,g4.bb⟩,o1,o2⟩
  ·intro lr ys H9 nl s9 f9 hly hr
   rw[fe]at hly;obtain⟨ps',rfl,hp⟩:=qo (R:=λq q'=>GR H9 q'/\vW (decide (qs.length=1)) (decide (rs.length=1)) q q') (l:=ps) (ys:=ys) hly (λi y hy=>let ⟨q',q,h1,h2,h3⟩:=hr i y hy;⟨q',q,h1,h2,h3⟩);exact k lr ps' H9 nl s9 ⟨f9,λq hq=>by
    obtain⟨i,hi⟩:=List.mem_iff_getElem?.mp hq;obtain⟨e,_,h2⟩:=dz hp i q hi;exact h2.1⟩ (Paired.mapP hp λa b x=>x.2)
noncomputable def GoP(wy:Str)(qs rs:Crn)(a b:Int)(wk:Bool)(ps':List Pr):Prop:=∃ps,Paired (vW (decide (qs.length=1)) (decide (rs.length=1))) ps ps'/\(if wk=true then wT wy (bH qs) (bH rs) (cB (dbl qs) (dbl rs) a b 0) (d9 (dbl qs) (dbl rs) a b 0) ps else (NoW wy (bH qs) (bH rs) (cB (dbl qs) (dbl rs) a b 0) (d9 (dbl qs) (dbl rs) a b 0)/\Al wy (bH qs) (bH rs) (cB (dbl qs) (dbl rs) a b 0) (d9 (dbl qs) (dbl rs) a b 0) ps))
noncomputable def GoQ(C t:Addr)(wy:Str)(l1 l2:Addr)(x:V)(H:Hp)(Q:VK)(E:XK):Prop:=∃(qs rs:Crn),LineM H l1 qs/\LineM H l2 rs/\(1<=qs.length/\qs.length<=10)/\(1<=rs.length/\rs.length<=10)/\E6 H x /\
 ((sqV H x=false/\E (.ref C) none H)\/(sqV H x=true/\∃(p:Addr) (a b:Int),x = .ref p/\(Sq H p a b/\0<b/\0<=a)/\Tab H t lsP/\∀(u r:Addr) (H':Hp) (ps:List Pr) (wk:Bool),H r=none->H u=none->u≠r->ca H H'->Tab H' t lsP->GE H' r ps->H' u=some (.tup [.str (if wk=true then "walk" else "fence"),.ref r])->GoP wy qs rs a b wk ps->Q (.ref u) H'))
inductive FX (C t:Addr) (vs:List V) (H:Hp) (Q:VK) (E:XK):Prop
 | mk:∀(l1 l2:Addr) (x:V) (wy:Str),(vs = [.ref l1,.ref l2,x,.str wy])->((wy=wOn\/wy=bI))->(GoQ C t wy l1 l2 x H Q E)->FX C t vs H Q E
inductive E3 (C t:Addr) (wy:Str) (vs:List V) (H:Hp) (Q:VK) (E:XK):Prop
 | mk:∀(l1 l2:Addr) (x:V),(vs = [.ref l1,.ref l2,x])->(GoQ C t wy l1 l2 x H Q E)->E3 C t wy vs H Q E
theorem sO{wy:Str}{n m:Nat}{G:GF}{F:Int->Int->Bool}{ps:List Pr}(h:wT wy n m G F ps):ps.length<990:=by
 obtain⟨_,l,ps0,_,_,hl,pp,h⟩:=h;have:=Paired.length pp;rw[List.length_reverse]at this;rcases h with⟨_,_,q,rfl,_⟩|⟨_,rfl⟩
 ·rw[List.length_append,List.length_singleton];omega
 ·omega
theorem dL{qs:Crn}(h:1<=qs.length/\qs.length<=10):(dbl qs).length=bH qs+1/\1<=bH qs/\bH qs<=9:=by
 have:=mO h;unfold bH;omega
theorem EI:AQ ["one","other","square","way","field","walk"] ["one","other","square","way"] (aq (top 68)):=smk
theorem uT{C_NoSquare t_fence_past:Addr}(GX:Df K mg "go_by" (top 68))(AS:Dz K mg "Field" C_Field)(BX:Fx P w K mg base "look_at_square" ["square"] 3 [] (EC C_NoSquare))(Ct:Mt P w K mg base C_Field "__init__" ["self","one","other","square","room"] 7 (D3 K C_Field))(Cm:Fn P w K mg base "walk_through" ["field","way"] 8 (G9 K C_Field))(CY:Fn P w K mg base "fence_past" ["field","way"] 11 (Hr K C_Field t_fence_past))(CT:Fn P w K mg base "pairs_on" ["one","other","pairs"] 2 EB):Fx P w K mg base "go_by" ["one","other","square","way"] 12 [] (FX C_NoSquare t_fence_past):=by
 refine GX.fx EI (λ_ _ _ _ _ _ us hl=>by obtain⟨_,_,_,_,rfl⟩:=uA hl;rfl) (λvs H Q E h=>?_) (λf cdv A outer s H vs Q E hr h=>?_)
 ·obtain⟨l1,l2,x,wy,rfl,_⟩:=h
  rfl
 ·obtain⟨l1,l2,x,wy,rfl,hw,⟨qs,rs,L1,L2',b1,b2,th,q⟩⟩:=h
  refine⟨_,(ag (ce (nu BX (hr.mono (by decide)) (by rfl) (ad (pv 2) ak))) (ag (yb (ay (i:=4) EI.nd rfl (Or.inl rfl) (zL AS Ct (hr.mono (by decide)) (by rfl) (ad (pv 0) (ad (pv 1) (ad (pv 2) (ad af ak))))))) (ag (ay (i:=5) EI.nd rfl (Or.inl rfl) (aF Cm (hr.mono (by decide)) (by rfl) (ad (pv 4) (ad (pv 3) ak)))) (ag (aM (aE gb (pv 5) bJ (aH _)) (am (aB (aG (ad dF (ad (aF CT (hr.mono (by decide)) (by rfl) (ad (pv 0) (ad (pv 1) (ad (pv 5) ak)))) ak))))) aI) (am (aB (aG (ad dF (ad (aF CT (hr.mono (by decide)) (by rfl) (ad (pv 0) (ad (pv 1) (ad (aF CY (hr.mono (by decide)) (by rfl) (ad (pv 4) (ad (pv 3) ak))) ak)))) ak))))))))),?_⟩;rcases q with⟨sv,qe⟩|⟨sv,p,a,b,rfl,⟨sq,hb,ha⟩,tb,q⟩
  ·exact⟨_,rfl,x,rfl,th,λ_=>qe,λz=>by rw[sv]at z;cases z⟩
  refine⟨_,rfl,.ref p,rfl,th,(λz=>by rw[sv]at z;cases z),λ_=>?_⟩;obtain⟨d1,n1,n2⟩:=dL b1;obtain⟨d2,m1,m2⟩:=dL b2;refine⟨_,rfl,_,rfl,_,rfl,λfo dx nf nd ne=>?_⟩;have sX:Same H (upd (upd H dx (.own fo)) fo (.ins C_Field dx [])):=(Same.new nd).trans (Same.new (by rw[aN (λz=>ne z.symm)];exact nf));refine⟨fo,dx,l1,l2,p,qs,rs,a,b,0,rfl,upd_same,L1.mono sX,L2'.mono sX,b1,b2,⟨sq.mono sX,hb⟩,.inl rfl,λH2 bt fa=>⟨rfl,?_⟩⟩;have S2:Same H H2:=λc o e=>bt c o (λz=>by rw[z,nf]at e;cases e) (sX c o e);have tb2:=tb.same S2;have gg:GGk (cB (dbl qs) (dbl rs) a b 0):=fQ (.inl rfl) hb;refine⟨_,rfl,_,rfl,fo,bH qs,bH rs,0,_,_,wy,rfl,fa,⟨n1,by omega⟩,⟨m1,by omega⟩,hw,gg,λH3 s3 nh=>?_,λr H3 ps s3 nr hwk pp=>?_⟩
  ·refine⟨_,rfl,rfl,_,rfl,jX ?_⟩
   have tb3:=tb2.same s3;refine⟨_,rfl,_,rfl,_,rfl,_,rfl,fo,bH qs,bH rs,_,_,wy,rfl,tb3,fa.mono s3,⟨⟨n1,n2⟩,m1,m2⟩,gg,vY hb d1 d2 n1 m1 hw nh,λr H4 ps nr P4 tb4 hf pp=>?_⟩;have N4:=(ca.of (S2.trans s3)).trans (eA.n P4 tb3);refine⟨l1,l2,r,qs,rs,ps,rfl,N4.line L1,N4.line L2',pp,(by obtain⟨_,_,_,_,_,h⟩:=hf;omega),λr' ps' H5 nr' s5 pp' on=>⟨sz (by simp),λt H6 s6 f6 n6=>?_⟩⟩;have fr:∀{x:Addr},H4 x=none->H x=none:=λh=>(S2.trans s3).free (jI P4 tb4 h);have S6:=s5.trans s6;exact q t r' H6 ps' false (fr nr') (fr (s5.free n6)) (λz=>by rw[z,pp'.lst]at n6;cases n6) (N4.trans (ca.of S6)) (tb4.same S6) (pp'.mono s6) f6 ⟨ps,on,nh,hf⟩
  ·refine⟨_,rfl,rfl,_,rfl,rY ?_⟩
   have S3:=S2.trans s3;refine⟨_,rfl,_,rfl,_,rfl,l1,l2,r,qs,rs,ps,rfl,L1.mono S3,L2'.mono S3,pp,sO hwk,λr' ps' H4 nr' s4 pp' on=>⟨sz (by simp),λt H5 s5 f5 n5=>?_⟩⟩;have S5:=s4.trans s5;exact q t r' H5 ps' true (S3.free nr') (S3.free (s4.free n5)) (λz=>by rw[z,pp'.lst]at n5;cases n5) (ca.of (S3.trans S5)) (tb2.same (s3.trans S5)) (pp'.mono s5) f5 ⟨ps,on,hwk⟩
theorem GQ:AQ ["one","other","square"] ["one","other","square"] (aq (top 69)):=smk
theorem uS{C_NoSquare t_fence_past:Addr}(GW:Df K mg "go_on" (top 69))(Dg:Fx P w K mg base "go_by" ["one","other","square","way"] 12 [] (FX C_NoSquare t_fence_past)):Fx P w K mg base "go_on" ["one","other","square"] 13 [] (E3 C_NoSquare t_fence_past wOn):=by
 refine GW.fx GQ (λ_ _ _ _ _ _ us hl=>by obtain⟨_,_,_,rfl⟩:=iG hl;rfl) (λvs H Q E h=>?_) (λf cdv A outer s H vs Q E hr h=>?_)
 ·obtain⟨l1,l2,x,rfl,_⟩:=h
  rfl
 ·obtain⟨l1,l2,x,rfl,gq⟩:=h
  refine⟨_,(am (aB (nu Dg (hr.mono (by decide)) (by rfl) (ad (pv 0) (ad (pv 1) (ad (pv 2) (ad dF ak))))))),?_⟩;exact⟨_,rfl,_,rfl,_,rfl,l1,l2,x,wOn,rfl,.inl rfl,gq⟩
theorem F8:AQ ["one","other","square"] ["one","other","square"] (aq (top 70)):=smk
theorem pP{C_NoSquare t_fence_past:Addr}(Ge:Df K mg "go_part" (top 70))(Dg:Fx P w K mg base "go_by" ["one","other","square","way"] 12 [] (FX C_NoSquare t_fence_past)):Fx P w K mg base "go_part" ["one","other","square"] 13 [] (E3 C_NoSquare t_fence_past bI):=by
 refine Ge.fx F8 (λ_ _ _ _ _ _ us hl=>by obtain⟨_,_,_,rfl⟩:=iG hl;rfl) (λvs H Q E h=>?_) (λf cdv A outer s H vs Q E hr h=>?_)
 ·obtain⟨l1,l2,x,rfl,_⟩:=h
  rfl
 ·obtain⟨l1,l2,x,rfl,gq⟩:=h
  refine⟨_,(am (aB (nu Dg (hr.mono (by decide)) (by rfl) (ad (pv 0) (ad (pv 1) (ad (pv 2) (ad dF ak))))))),?_⟩;exact⟨_,rfl,_,rfl,_,rfl,l1,l2,x,bI,rfl,.inr rfl,gq⟩
noncomputable def Pol(H:Hp)(p:Addr):Prop:=∃n:Int,H p=some (.lst [.int n])
theorem Pol.same{H H':Hp}{p:Addr}(h:Pol H p)(s:Same H H'):Pol H' p:=by
 obtain⟨n,e⟩:=h;exact⟨n,s _ _ e⟩
theorem Pol.ne{H:Hp}{p q:Addr}(h:Pol H p)(n:H q=none):q≠p:=by
 obtain⟨m,e⟩:=h;exact(aU e n).symm
theorem Pol.t{H H':Hp}{p:Addr}(h:Pol H p)(b:But p H H'):SameT H H':=λc xs e=>b c _ (λz=>by
 obtain⟨m,e'⟩:=h;rw[z,e']at e;cases e) e
inductive Fj (K:W.Frag) (vs:List V) (H:Hp) (Q:VK) (x_3:XK):Prop
 | mk:∀(sa:Addr) (ss:List Int) (k:Int),(vs = [.ref sa,.int k])->(SqL K H sa (ss.map V.int))->((0<=k/\k<=1000))->(∀(p:Addr) H',Same H H'->H p=none->Pol H' p->Q (.ref p) H')->Fj K vs H Q x_3
inductive Dj (vs:List V) (H:Hp) (Q:VK) (x_3:XK):Prop
 | mk:∀(p:Addr) (m:Int),(vs = [.ref p,.int m])->(Pol H p)->((0<m/\ax m<=8000))->(∀(r:Int) H',0<=r->r<m->But p H H'->Pol H' p->Q (.int r) H')->Dj vs H Q x_3
inductive Fl (vs:List V) (H:Hp) (Q:VK) (x_3:XK):Prop
 | mk:∀(p:Addr) (k:Int),(vs = [.ref p,.int k])->(Pol H p)->(∀(q:Addr×Int×Int) H',But p H H'->Pol H' p->H q.1=none->H' q.1=some (.tup [.int q.2.1,.int q.2.2])->Sm q.2.1->Sm q.2.2->Q (.ref q.1) H')->Fl vs H Q x_3
inductive FV (vs:List V) (H:Hp) (Q:VK) (x_3:XK):Prop
 | mk:∀(p:Addr) (m:Int),(vs = [.ref p,.int m])->(Pol H p)->((1<=m/\m<=10))->(∀(l:Addr) (qs:Crn) H',But p H H'->Pol H' p->H l=none->LineM H' l qs->1<=qs.length->(qs.length:Int)<=m->Q (.ref l) H')->FV vs H Q x_3
inductive Gi (vs:List V) (H:Hp) (Q:VK) (x_3:XK):Prop
 | mk:∀(p l0:Addr) (qs0:Crn) (m:Int),(vs = [.ref p,.ref l0,.int m])->(Pol H p)->(LineM H l0 qs0)->(l0≠p)->((1<=qs0.length/\qs0.length<=20))->((1<=m/\m<=10))->(∀(l:Addr) (qs:Crn) H',But p H H'->Pol H' p->H l=none->LineM H' l qs->1<=qs.length->Q (.ref l) H')->Gi vs H Q x_3
theorem wJ{n:Nat}{lo:Int}{fv:List (Str×Nat)}{te:TE}{σ:St}{H1:Hp}{Q:VK}{p:Addr}(hlen:n<1000)(hp:Pol H1 p)(R:Nat->V->Hp->Prop)(hR:∀i v H H',SameT H H'->R i v H->R i v H')
  (hs:∀i H2 (Kc:VK),i<n->But p H1 H2->Pol H2 p->(∀y H4,But p H2 H4->Pol H4 p->R i y H4->Kc y H4)->te (some (.int (lo+i))::fvs fv σ) H2 Kc)
  (hd:∀l ys H',H1 l=none->But p H1 H'->Pol H' p->H' l=some (.lst ys)->ys.length=n->(∀i y,ys[i]? = some y->R i y H')->Q (.ref l) H') :
  mV (Itr lo n) fv te σ H1 Q:=by
 intro l hl;have ne:=hp.ne hl;have pu:∀{H:Hp} {ys:List V},Pol H p->Pol (upd H l (.lst ys)) p:=λ⟨m,e⟩=>⟨m,by rw[aN ne.symm];exact e⟩;refine kf (n:=n) (lo:=lo) (l:=l) (fv:=fv) (Qp:=λH2=>Q (.ref l) H2) (λi acc H2=>acc.length=i/\But p H1 H2/\Pol H2 p/\H2 l=some (.lst acc)/\∀j y,acc[j]? = some y->R j y H2)
  ⟨rfl,But.of (Same.new hl),pu hp,upd_same,λj y h=>by simp at h⟩ ?_ ?_ ?_
 ·rintro i acc H2 hi ⟨e1,bt,po,e3,_⟩
  exact⟨e3,aZ (by omega)⟩
 ·rintro i acc H2 Kc hx ⟨e1,bt,po,e3,hr⟩ kk
  refine hs i H2 Kc hx bt po λy H4 b4 p4 ry=>kk y H4 (b4 _ _ ne e3) ⟨by simp[e1],λc o n e=>?_,pu p4,upd_same,λj z hz=>?_⟩
  ·rw[aN (aU e hl)]
   exact b4 c o n (bt c o n e)
  have t4:=SameT.upd (ys:=acc++[y]) (b4 _ _ ne e3);rcases Nat.lt_trichotomy j acc.length with h|h|h
  ·rw[List.getElem?_append_left h]at hz
   exact hR _ _ _ _ ((po.t b4).trans t4) (hr j z hz)
  ·subst h
   rw[List.getElem?_append_right (Nat.le_refl _),Nat.sub_self]at hz;cases hz;rw[e1];exact hR _ _ _ _ t4 ry
  ·rw[List.getElem?_eq_none (by simp;omega)]at hz
   cases hz
 ·rintro acc H2 ⟨e1,bt,po,e3,hr⟩
  exact hd l acc H2 hl bt po e3 e1 hr
theorem Bp:AQ ["script","k","cell","number","found","turn"] ["script","k"] (aq (top 72)):=smk
theorem om(FE:Df K mg "_law_pool" (top 72))(T:Txt mg):Fn P w K mg base "_law_pool" ["script","k"] 1 (Fj K):=by
 refine FE.fn Bp (λ_ _ _ _ _ _ us hl=>by obtain⟨_,_,rfl⟩:=dh hl;rfl) (λvs H Q E h=>?_) (λf cdv A outer s H vs Q E hr h=>?_)
 ·obtain⟨sa,ss,k,rfl,_⟩:=h
  rfl
 ·obtain⟨sa,ss,k,rfl,hS,⟨h0,h1⟩,q⟩:=h
  have R:∃u,PSs (bY CX0 P w K mg base ["script","k","cell","number","found","turn"] "_law_pool" (aq (top 72)) f cdv A outer s H E).nox ((aP (top 72)).drop 2) u/\∀(c:Int) (z3 z4 z5:Option V),u { nx:=λ_ H'=>Q .non H',rt:=Q } [some (.ref sa),some (.int k),some (.int c),z3,z4,z5] H:=by
   refine⟨_,(ag (aM (aE lC (pv 2) (ao gG af af) (aH _)) (am (aB (bz (ad (ao fN (pv 2) (ao aA (ao aA (ao gG af af) (ao gG af af)) (ao gG af af))) ak)))) aI) (ag (ay (i:=3) Bp.nd rfl (Or.inl rfl) (ao fN (ao aK (ao aK (ao aK (pv 2) (ao aA (ao aA af (pv 1)) (pv 1))) (ao aA af (pv 1))) af) af)) (ag (ay (i:=4) Bp.nd rfl (Or.inl rfl) af) (ag (cz PassesOwn.never rfl (cU rfl T.z_range (ad af ak)) (aO (i:=5) Bp.nd rfl (Or.inl rfl)) (ag (ay (i:=3) Bp.nd rfl (Or.inl rfl) (ao fN (ao aK (ao aK (ao aA (pv 3) af) (ao aA af (pv 5))) af) af)) (ag (ay (i:=3) Bp.nd rfl (Or.inl rfl) (ao fN (ao aA (pv 3) (pv 3)) af)) (am (ay (i:=4) Bp.nd rfl (Or.inl rfl) (ao aK (ao aA (pv 4) af) (ao fN (ao aK (ao aA (pv 3) af) (pv 1)) af))))))) (am (aB (bz (ad (pv 4) ak)))))))),λc z3 z4 z5=>?_⟩;refine⟨_,rfl,_,_,rfl,rfl,⟨by decide,by decide,by decide⟩,_,_,rfl,rfl,_,rfl,aT (λc1=>?_) (λc1=>?_)⟩
   ·refine⟨_,rfl,_,_,rfl,rfl,⟨by decide,by decide⟩,_,_,rfl,rfl,⟨by decide,by decide⟩,_,_,rfl,rfl,CM.b (m:=400) (n:=400) (by decide) (by decide) (by decide) (by decide),_,_,rfl,rfl,⟨by decide,by decide⟩,_,_,rfl,rfl,CM.b (m:=800) (n:=400) (by decide) (by decide) (by decide) (by decide),_,_,rfl,rfl,(by show(0:Int)<10^60*10^60*10^60;decide +kernel),sz (by simp),λp H2 s2 f2 n2=>q p H2 s2 n2 ⟨_,f2⟩⟩
   refine⟨_,rfl,_,rfl,_,_,rfl,rfl,CM.l ⟨by decide,by decide⟩,_,rfl,_,_,rfl,rfl,CM.r (xr (by omega) (by omega)),_,_,rfl,rfl,_,rfl,_,_,rfl,rfl,CM.l ⟨by decide,by decide⟩,_,_,rfl,rfl,_,_,rfl,rfl,_,_,rfl,rfl,(by show(0:Int)<2147483647;decide),?_⟩;have r0:=Int.emod_nonneg (c+104729*k*k+7*k+11) (show(2147483647:Int)≠0 by decide);have r1:=Int.emod_lt_of_pos (c+104729*k*k+7*k+11) (show(0:Int)<2147483647 by decide);refine⟨12,rfl,by decide,by decide,cV (n:=12) (lo:=0) (λi σ H2=>∃(n f:Int) (z:Option V),σ = [some (.ref sa),some (.int k),some (.int c),some (.int n),some (.int f),z]/\(0<=n/\n<2147483647)/\H2=H) ⟨_,_,_,rfl,⟨r0,r1⟩,rfl⟩ ?_ ?_⟩
   ·rintro i σ H2 hi ⟨n,f,z,rfl,⟨n0,n1⟩,rfl⟩
    refine⟨_,rfl,_,_,rfl,rfl,CM.r ⟨by decide,by decide⟩,_,rfl,_,_,rfl,rfl,CM.l ⟨by decide,by decide⟩,_,_,rfl,rfl,_,_,rfl,rfl,_,_,rfl,rfl,(by show(0:Int)<2147483629;decide),?_⟩;have m0:=Int.emod_nonneg (n*48271+7919*(0+(i:Int))+3) (show(2147483629:Int)≠0 by decide);have m1:=Int.emod_lt_of_pos (n*48271+7919*(0+(i:Int))+3) (show(0:Int)<2147483629 by decide);refine⟨_,rfl,_,rfl,_,_,rfl,rfl,CM.l (by rw[show(2:Int)^64=18446744073709551616 by decide];omega),_,_,rfl,rfl,(by show(0:Int)<2147483587;decide),?_⟩;dsimp only;generalize hn:(n*48271+7919*(0+(i:Int))+3) % 2147483629=a;have k0:=Int.emod_nonneg (a*a) (show(2147483587:Int)≠0 by decide);have k1:=Int.emod_lt_of_pos (a*a) (show(0:Int)<2147483587 by decide);refine⟨_,rfl,_,_,rfl,rfl,CM.r ⟨by decide,by decide⟩,_,rfl,_,_,rfl,rfl,CM.r ⟨by decide,by decide⟩,_,rfl,_,_,rfl,rfl,_,_,rfl,rfl,(by show(0:Int)<2147483587;decide),_,_,rfl,rfl,_,_,_,rfl,⟨k0,by omega⟩,rfl⟩
   ·rintro σ H2 ⟨n,f,z,rfl,_,rfl⟩
    exact⟨_,rfl,sz (by simp),λp H3 s3 f3 n3=>q p H3 s3 n3 ⟨_,f3⟩⟩
  obtain⟨u,hu,ru⟩:=R;refine⟨_,(ag (ay (i:=2) Bp.nd rfl (Or.inl rfl) af) (ag (aM (aE dG (pv 1) (aQ aS (by rfl) T.z_len cS (ad (pv 0) ak)) (aH _)) (am (ay (i:=2) Bp.nd rfl (Or.inl rfl) (az aY (pv 0) (pv 1) (λ_ _=>rfl)))) aI) hu)),?_⟩;refine⟨_,rfl,_,rfl,sa,_,rfl,.inl hS,_,_,rfl,rfl,_,rfl,aT (λh1=>?_) (λh1=>?_)⟩
  ·have h1:k<(((ss.map V.int).length:Nat):Int):=bP h1
   rw[List.length_map]at h1;exact⟨_,rfl,_,rfl,sa,_,_,_,rfl,rfl,hS,zc k.toNat (by omega) (by omega),ru _ _ _ _⟩
  ·exact ru _ _ _ _
theorem D5:AQ ["pool","many","digit"] ["pool","many"] (aq (top 73)):=smk
theorem ol(FD:Df K mg "_law_take" (top 73)):Fn P w K mg base "_law_take" ["pool","many"] 1 Dj:=by
 refine FD.fn D5 (λ_ _ _ _ _ _ us hl=>by obtain⟨_,_,rfl⟩:=dh hl;rfl) (λvs H Q E h=>?_) (λf cdv A outer s H vs Q E hr h=>?_)
 ·obtain⟨p,m,rfl,_⟩:=h
  rfl
 ·obtain⟨p,m,rfl,⟨n,e⟩,⟨hm,bm⟩,q⟩:=h
  refine⟨_,(ag (ay (i:=2) D5.nd rfl (Or.inl rfl) (ao fN (az aY (pv 0) af (λ_ _=>rfl)) (pv 1))) (ag (jK (ao cR (az aY (pv 0) af (λ_ _=>rfl)) (pv 1)) (yf (pv 0) af rG)) (am (aB (pv 2))))),?_⟩;refine⟨_,rfl,p,_,_,_,rfl,rfl,SqL.of e,rfl,_,rfl,_,_,rfl,rfl,hm,?_⟩;refine⟨_,rfl,p,_,_,_,rfl,rfl,SqL.of e,rfl,_,rfl,_,_,rfl,rfl,⟨hm,bm⟩,_,rfl,p,_,_,0,rfl,rfl,e,rfl,λH2 u=>?_⟩;exact⟨_,rfl,q _ _ (Int.emod_nonneg _ (by omega)) (Int.emod_lt_of_pos _ hm) (λb o nb e=>u.at nb e) ⟨_,u.now⟩⟩
theorem Dx:AQ ["pool","kind","most"] ["pool","kind"] (aq (top 74)):=smk
theorem kM(EX:Df K mg "_law_corner" (top 74))(AR:Fn P w K mg base "_law_take" ["pool","many"] 1 Dj):Fn P w K mg base "_law_corner" ["pool","kind"] 2 Fl:=by
 refine EX.fn Dx (λ_ _ _ _ _ _ us hl=>by obtain⟨_,_,rfl⟩:=dh hl;rfl) (λvs H Q E h=>?_) (λf cdv A outer s H vs Q E hr h=>?_)
 ·obtain⟨p,kd,rfl,_⟩:=h
  rfl
 ·obtain⟨p,kd,rfl,po,k⟩:=h
  refine⟨_,(ag (aM (aE bR (pv 1) af (aH _)) (am (aB (aG (ad (ao aL (aF AR (hr.mono (by decide)) (by rfl) (ad (pv 0) (ad af ak))) af) (ad (ao aL (aF AR (hr.mono (by decide)) (by rfl) (ad (pv 0) (ad af ak))) af) ak))))) aI) (ag (aM (aE bR (pv 1) af (aH _)) (am (aB (aG (ad (aF AR (hr.mono (by decide)) (by rfl) (ad (pv 0) (ad af ak))) (ad af ak))))) aI) (ag (aM (aE bR (pv 1) af (aH _)) (am (aB (aG (ad (ao aL (aF AR (hr.mono (by decide)) (by rfl) (ad (pv 0) (ad af ak))) af) (ad (ao aL (aF AR (hr.mono (by decide)) (by rfl) (ad (pv 0) (ad af ak))) af) ak))))) aI) (ag (ay (i:=2) Dx.nd rfl (Or.inl rfl) (ao aL (ao gG af af) af)) (am (aB (aG (ad (ao aL (aF AR (hr.mono (by decide)) (by rfl) (ad (pv 0) (ad (ao aK (ao aA af (pv 2)) af) ak))) (pv 2)) (ad (ao aL (aF AR (hr.mono (by decide)) (by rfl) (ad (pv 0) (ad (ao aK (ao aA af (pv 2)) af) ak))) (pv 2)) ak))))))))),?_⟩;have e12:((10:Int)^(12:Int).toNat)=1000000000000:=by decide +kernel
  have fin:∀{H2:Hp} (x y:Int),But p H H2->Pol H2 p->Sm x->Sm y->∀(r:Addr) H3,Same H2 H3->H3 r=some (.tup [.int x,.int y])->H2 r=none->Q (.ref r) H3:=λ{H2} x y b2 p2 hx hy r H3 s3 f3 n3=>k (r,x,y) H3 (b2.trans (.of s3)) (p2.same s3) (b2.none (p2.ne n3) n3) f3 hx hy;refine⟨_,rfl,rfl,_,rfl,aT (λc=>?_) (λc=>?_)⟩
  ·refine⟨_,rfl,p,5,rfl,po,⟨by decide,by decide⟩,λr1 H1 a1 b1 t1 p1=>⟨_,_,rfl,rfl,?_⟩⟩
   exact⟨_,rfl,p,5,rfl,p1,⟨by decide,by decide⟩,λr2 H2 a2 b2 t2 p2=>⟨_,_,rfl,rfl,sz (by simp),λr H3 s3 f3 n3=>fin (r1 - 2) (r2 - 2) (t1.trans t2) p2 (by unfold Sm iH;omega) (by unfold Sm iH;omega) r H3 s3 f3 n3⟩⟩
  refine⟨_,rfl,rfl,_,rfl,aT (λc=>?_) (λc=>?_)⟩
  ·exact⟨_,rfl,p,7,rfl,po,⟨by decide,by decide⟩,λr1 H1 a1 b1 t1 p1=>⟨sz (by simp),λr H3 s3 f3 n3=>fin r1 0 t1 p1 (by unfold Sm iH;omega) (by unfold Sm iH;omega) r H3 s3 f3 n3⟩⟩
  refine⟨_,rfl,rfl,_,rfl,aT (λc=>?_) (λc=>?_)⟩
  ·refine⟨_,rfl,p,41,rfl,po,⟨by decide,by decide⟩,λr1 H1 a1 b1 t1 p1=>⟨_,_,rfl,rfl,?_⟩⟩
   exact⟨_,rfl,p,41,rfl,p1,⟨by decide,by decide⟩,λr2 H2 a2 b2 t2 p2=>⟨_,_,rfl,rfl,sz (by simp),λr H3 s3 f3 n3=>fin (r1 - 20) (r2 - 20) (t1.trans t2) p2 (by unfold Sm iH;omega) (by unfold Sm iH;omega) r H3 s3 f3 n3⟩⟩
  refine⟨_,_,rfl,rfl,⟨by decide,by decide,by decide⟩,_,_,rfl,rfl,?_⟩;dsimp only;rw[e12];refine⟨_,rfl,_,rfl,_,_,rfl,rfl,CM.l ⟨by decide,by decide⟩,_,_,rfl,rfl,p,_,rfl,po,⟨by decide,by decide⟩,λr1 H1 a1 b1 t1 p1=>⟨_,rfl,_,_,rfl,rfl,?_⟩⟩;exact⟨_,rfl,_,rfl,_,_,rfl,rfl,CM.l ⟨by decide,by decide⟩,_,_,rfl,rfl,p,_,rfl,p1,⟨by decide,by decide⟩,λr2 H2 a2 b2 t2 p2=>⟨_,rfl,_,_,rfl,rfl,sz (by simp),λr H3 s3 f3 n3=>fin (r1 - (1000000000000 - 1)) (r2 - (1000000000000 - 1)) (t1.trans t2) p2 (by unfold Sm iH;omega) (by unfold Sm iH;omega) r H3 s3 f3 n3⟩⟩
theorem oH{H:Hp}:∀(ys:List V),(∀(i:Nat) y,ys[i]? = some y->∃q:Addr×Int×Int,y = .ref q.1/\H q.1=some (.tup [.int q.2.1,.int q.2.2])/\Sm q.2.1/\Sm q.2.2)->∃fs:Crn,ys=fs.map (λ(q:Addr×Int×Int)=>V.ref q.1)/\∀q∈fs,H q.1=some (.tup [.int q.2.1,.int q.2.2])/\Sm q.2.1/\Sm q.2.2
 | [],_=>⟨[],rfl,λq h=>nomatch h⟩
 | y::ys,h=>by
  obtain⟨fs,e1,e2⟩:=oH ys λi z hz=>h (i+1) z (by simpa using hz);obtain⟨q,rfl,q3⟩:=h 0 y rfl;refine⟨q::fs,by rw[e1];rfl,λz hz=>?_⟩;rcases List.mem_cons.mp hz with rfl|hz
  ·exact q3
  ·exact e2 z hz
theorem Dl:AQ ["pool","most","kind","many"] ["pool","most"] (aq (top 75)):=smk
theorem oo(FF:Df K mg "_law_line" (top 75))(AR:Fn P w K mg base "_law_take" ["pool","many"] 1 Dj)(CW:Fn P w K mg base "_law_corner" ["pool","kind"] 2 Fl)(T:Txt mg):Fn P w K mg base "_law_line" ["pool","most"] 3 FV:=by
 refine FF.fn Dl (λ_ _ _ _ _ _ us hl=>by obtain⟨_,_,rfl⟩:=dh hl;rfl) (λvs H Q E h=>?_) (λf cdv A outer s H vs Q E hr h=>?_)
 ·obtain⟨p,m,rfl,_⟩:=h
  rfl
 ·obtain⟨p,m,rfl,po,⟨m1,m10⟩,k⟩:=h
  have CN:DR (bY CX0 P w K mg base ["pool","most","kind","many"] "_law_line" (aq (top 75)) f cdv A outer s H E).nox (Sp7.retScope ((aP (top 75)).getD 2 (.Pass ⟨0,0,0,0⟩))) [("pool",s.heap.objs.size+1),("kind",s.heap.objs.size+2)] "k" [("pool",0),("kind",2)] :=
   ⟨by rfl,rfl,by decide +kernel,by decide +kernel,rfl,(λp hp=>by simp only[List.mem_cons,List.not_mem_nil,or_false]at hp;rcases hp with rfl|rfl <;> rfl),by rfl,by decide +kernel,(λp hp=>by simp only[List.mem_cons,List.not_mem_nil,or_false]at hp;rcases hp with rfl|rfl <;> exact⟨rfl,rfl,.inr (.inl rfl),rfl,rfl⟩),⟨rfl,rfl⟩,rfl⟩
  refine⟨_,(@ag _ _ _ _ _ (@ay _ _ 2 _ _ _ _ Dl.nd rfl (Or.inr rfl) (@az _ _ _ _ _ _ _ aY (@bz _ _ _ _ (@ad _ _ _ _ _ af (@ad _ _ _ _ _ af (@ad _ _ _ _ _ af (@ad _ _ _ _ _ af (@ad _ _ _ _ _ af (@ad _ _ _ _ _ af (@ad _ _ _ _ _ af (@ad _ _ _ _ _ af ak (by rfl)) (by rfl)) (by rfl)) (by rfl)) (by rfl)) (by rfl)) (by rfl)) (by rfl))) (aF AR (hr.mono (by decide)) (by rfl) (ad (pv 0) (ad af ak))) (λ_ _=>rfl)) (by rfl) (by first|exact .inl rfl|exact .inr rfl|assumption)) (ag (ay (i:=3) Dl.nd rfl (Or.inl rfl) (aQ (gs rfl) (by rfl) T.z_min mR (ad (pv 1) (ad (az aY (@bz _ _ _ _ (@ad _ _ _ _ _ af (@ad _ _ _ _ _ af (@ad _ _ _ _ _ af (@ad _ _ _ _ _ af (@ad _ _ _ _ _ af (@ad _ _ _ _ _ af (@ad _ _ _ _ _ af (@ad _ _ _ _ _ af ak (by rfl)) (by rfl)) (by rfl)) (by rfl)) (by rfl)) (by rfl)) (by rfl)) (by rfl))) (aF AR (hr.mono (by decide)) (by rfl) (ad (pv 0) (ad af ak))) (λ_ _=>rfl)) ak)))) (am (aB (jO rfl CN (cU rfl T.z_range (ad (pv 3) ak)) (λfp s₀ H₀=>(aF CW (hr.mono (by decide)) (by rfl) (ad (pv 1) (ad (pv 2) ak))))))))),?_⟩
  refine⟨sz (by simp),λpl H1 s1 f1 n1=>?_⟩;refine⟨_,rfl,p,8,rfl,po.same s1,⟨by decide,by decide⟩,λr2 H2 a2 b2' b2 p2=>?_⟩;refine xq (λ_=>True) (b2 _ _ (po.ne n1) f1) a2 (by simpa using b2') (λv hv=>?_) λkd _=>?_
  ·simp only[List.mem_cons,List.not_mem_nil,or_false]at hv
   rcases hv with rfl|rfl|rfl|rfl|rfl|rfl|rfl|rfl <;> exact⟨_,rfl,trivial⟩
  refine⟨_,rfl,sz (by simp),λpl2 H3 s3 f3 n3=>?_⟩;refine⟨_,rfl,p,8,rfl,p2.same s3,⟨by decide,by decide⟩,λr4 H4 a4 b4' b4 p4=>?_⟩;refine xq (λm=>1<=m/\m<=10) (b4 _ _ (p2.ne n3) f3) a4 (by simpa using b4') (λv hv=>?_) λmm hm=>?_
  ·simp only[List.mem_cons,List.not_mem_nil,or_false]at hv
   rcases hv with rfl|rfl|rfl|rfl|rfl|rfl|rfl|rfl <;> exact⟨_,rfl,by decide,by decide⟩
  refine⟨_,_,rfl,?_⟩;have hn:1<=(if mm<m then mm else m)/\(if mm<m then mm else m)<=m/\(if mm<m then mm else m)<=10:=by split <;> omega
  dsimp only;generalize (if mm<m then mm else m)=n at hn ⊢
  have B4:But p H H4:=(But.of s1).trans (b2.trans ((But.of s3).trans b4));refine⟨_,rfl,_,rfl,by omega,by omega,wJ (n:=n.toNat) (lo:=0) (p:=p) (by omega) p4 (λ_ v H'=>∃q:Addr×Int×Int,v = .ref q.1/\H' q.1=some (.tup [.int q.2.1,.int q.2.2])/\Sm q.2.1/\Sm q.2.2) (λi v H H' st ⟨q,e1,e2,e3⟩=>⟨q,e1,st _ _ e2,e3⟩) ?_ ?_⟩
  ·intro i H5 Kc hi b5 p5 kk
   exact⟨_,rfl,_,rfl,p,kd,rfl,p5,λq H6 b6 p6 n6 f6 h1 h2=>kk _ H6 b6 p6 ⟨q,rfl,f6,h1,h2⟩⟩
  ·intro l ys H5 nl b5 p5 f5 hl hr
   obtain⟨fs,rfl,h2⟩:=oH ys hr;rw[List.length_map]at hl;exact k l fs H5 (B4.trans b5) p5 (B4.none (p4.ne nl) nl) ⟨f5,h2⟩ (by omega) (by omega)
theorem eT{H H':Hp}{l q:Addr}{qs:Crn}{x y:Int}(L:LineM H l qs)(f:H q=some (.tup [.int x,.int y]))(hx:Sm x)(hy:Sm y)(u:Fg H H' l (qs.map λ(q:Addr×Int×Int)=>V.ref q.1) ((qs.map λ(q:Addr×Int×Int)=>V.ref q.1)++[.ref q])):LineM H' l (qs++[(q,x,y)]):=by
 refine⟨by rw[u.now,List.map_append];rfl,λz hz=>?_⟩;rcases List.mem_append.mp hz with h|h
 ·exact⟨u.t _ _ (L.crn z h).1,(L.crn z h).2⟩
 ·rw[List.mem_singleton.mp h]
  exact⟨u.t _ _ f,hx,hy⟩
theorem eY{p r:Addr}{H H1 H2:Hp}{xs ys:List V}(b:But p H H1)(n:H r=none)(u:Fg H1 H2 r xs ys):But p H H2:=λc o nc e=>u.at (aU e n) (b c o nc e)
theorem ga{p r:Addr}{H1 H2:Hp}{xs ys:List V}(h:Pol H1 p)(n:r≠p)(u:Fg H1 H2 r xs ys):Pol H2 p:=by
 obtain⟨m,e⟩:=h;exact⟨m,u.at n.symm e⟩
theorem bC{p l:Addr}{H H':Hp}{qs:Crn}(L:LineM H l qs)(b:But p H H')(h:Pol H p)(n:p≠l):LineM H' l qs:=⟨b _ _ n.symm L.lst,λq hq=>⟨h.t b _ _ (L.crn q hq).1,(L.crn q hq).2⟩⟩
theorem Bo:AQ ["pool","line","most","way","found","x","y"] ["pool","line","most"] (aq (top 76)):=smk
theorem kK(EV:Df K mg "_law_second" (top 76))(AR:Fn P w K mg base "_law_take" ["pool","many"] 1 Dj)(BL:Fn P w K mg base "_law_line" ["pool","most"] 3 FV)(T:Txt mg):Fn P w K mg base "_law_second" ["pool","line","most"] 4 Gi:=by
 refine EV.fn Bo (λ_ _ _ _ _ _ us hl=>by obtain⟨_,_,_,rfl⟩:=iG hl;rfl) (λvs H Q E h=>?_) (λf cdv A outer s H vs Q E hr h=>?_)
 ·obtain⟨p,l0,qs0,m,rfl,_⟩:=h
  rfl
 ·obtain⟨p,l0,qs0,m,rfl,po,L0,n0,⟨l1,lm⟩,⟨m1,m10⟩,k⟩:=h
  refine⟨_,(ag (ay (i:=3) Bo.nd rfl (Or.inl rfl) (aF AR (hr.mono (by decide)) (by rfl) (ad (pv 0) (ad af ak)))) (ag (aM (aE dG (pv 3) af (aH _)) (am (aB (aF BL (hr.mono (by decide)) (by rfl) (ad (pv 0) (ad (pv 2) ak))))) aI) (ag (aM (aE bR (pv 3) af (aH _)) (am (aB (rL (pv 1) (ma (eJ dI af))))) aI) (ag (ay (i:=4) Bo.nd rfl (Or.inl rfl) (bz ak)) (ag (cz PassesOwn.never rfl (fg (pv 1)) (d8 rfl (bo (aO (i:=5) Bo.nd rfl (Or.inl rfl)) (bo (aO (i:=6) Bo.nd rfl (Or.inl rfl)) dE))) (ag (aM (jJ (aE dG (aQ eX (by rfl) T.z_abs iO (ad (pv 5) ak)) (ao aL (ao gG af af) af) (aH _)) (jo (aE dG (aQ eX (by rfl) T.z_abs iO (ad (pv 6) ak)) (ao aL (ao gG af af) af) (aH _)))).pt (ag (ay (i:=5) Bo.nd rfl (Or.inl rfl) (ao aL (ao aK (pv 5) (aF AR (hr.mono (by decide)) (by rfl) (ad (pv 0) (ad af ak)))) af)) (am (ay (i:=6) Bo.nd rfl (Or.inl rfl) (ao aL (ao aK (pv 6) (aF AR (hr.mono (by decide)) (by rfl) (ad (pv 0) (ad af ak)))) af)))) aI) (ag (ce (eC PySem.F.plainAttrs_list PySem.F.slot_list_append PySem.F.type_list_append bO (pv 4) (ad (aG (ad (pv 5) (ad (pv 6) ak))) ak))) (am (aM (jJ (aE bR (pv 3) af (aH _)) (jJ (aE dG (aQ aS (by rfl) T.z_len cS (ad (pv 4) ak)) (pv 2) (aH _)) (jo (aE bR (aF AR (hr.mono (by decide)) (by rfl) (ad (pv 0) (ad af ak))) af (aH _))))).pt (am (ce (eC PySem.F.plainAttrs_list PySem.F.slot_list_append PySem.F.type_list_append bO (pv 4) (ad (aG (ad (pv 5) (ad (pv 6) ak))) ak)))) aI))))) (am (aB (nj m7 (pv 4) qq (ma (pv 2)))))))))),?_⟩;have e12:((10:Int)^(12:Int).toNat - 2)=999999999998:=by decide +kernel
  have hl0:(qs0.map λ(q:Addr×Int×Int)=>V.ref q.1).length=qs0.length:=List.length_map _;refine⟨_,rfl,p,8,rfl,po,⟨by decide,by decide⟩,λwy H1 a1 a2 b1 p1=>?_⟩;refine⟨_,rfl,_,_,rfl,rfl,_,rfl,aT (λc1=>?_) (λc1=>?_)⟩
  ·exact⟨_,rfl,_,rfl,p,m,rfl,p1,⟨m1,m10⟩,λl qs H2 b2 p2 nl L h1 _=>k l qs H2 (b1.trans b2) p2 (b1.none (p1.ne nl) nl) L h1⟩
  have L1:=bC L0 b1 po n0.symm;refine⟨_,rfl,rfl,_,rfl,aT (λc2=>?_) (λc2=>?_)⟩
  ·refine⟨_,rfl,_,rfl,_,rfl,rfl,l0,_,rfl,SqL.of L1.lst,λl H2 s2 f2 nl=>?_⟩
   refine k l qs0.reverse H2 (b1.trans (.of s2)) (p1.same s2) (b1.none (p1.ne nl) nl) ⟨by rw[f2,List.map_reverse],λq hq=>((L1.mono s2).crn q (List.mem_reverse.mp hq))⟩ (by rw[List.length_reverse];exact l1)
  refine⟨sz (by simp),λr H2 s2 f2 nr=>?_⟩;have n1:H r=none:=b1.none (p1.ne nr) nr;have npr:r≠p:=p1.ne nr;refine⟨_,rfl,l0,rfl,⟨_,SqL.of (s2 _ _ L1.lst)⟩,fR (K:=K) (a:=l0) (xs:=qs0.map λ(q:Addr×Int×Int)=>V.ref q.1) (λi σ H'=>∃(z5 z6:Option V) (qs:Crn),σ = [some (.ref p),some (.ref l0),some (.int m),some (.int wy),some (.ref r),z5,z6]/\But p H H'/\Pol H' p/\LineM H' r qs/\i<=qs.length/\qs.length<=2*i)
   ⟨_,_,[],rfl,b1.trans (.of s2),p1.same s2,⟨f2,λq h=>nomatch h⟩,Nat.le_refl _,Nat.le_refl _⟩ (λi σ H' _ ⟨_,_,_,_,b,_⟩=>SqL.of (b _ _ n0 L0.lst)) ?_ ?_⟩
  ·rintro i v σ H3 hv ⟨z5,z6,qs,rfl,b3,p3,L3,g1,g2⟩
   rw[List.getElem?_map]at hv;obtain⟨u,hu,rfl⟩:=Option.map_eq_some_iff.mp hv;have iu:=(List.getElem?_eq_some_iff.mp hu).1;have cu:=(bC L0 b3 po n0.symm).crn u (List.mem_of_getElem? hu);obtain⟨x1,x2⟩:=cu.2.1;obtain⟨y1,y2⟩:=cu.2.2;unfold iH at x1 x2 y1 y2;refine⟨u.1,_,rfl,SqT.of cu.1,rfl,_,_,rfl,_,_,rfl,rfl,?_⟩;refine⟨_,rfl,_,rfl,_,_,rfl,rfl,⟨by decide,by decide,by decide⟩,_,_,rfl,rfl,_,_,rfl,rfl,_,rfl,aT (λc3=>?_) (λc3=>?_)⟩
   ·try dsimp only at c3
    rw[e12]at c3;have c3:(if u.2.1<0 then -u.2.1 else u.2.1)<999999999998:=bP c3
    refine⟨_,rfl,_,rfl,_,_,rfl,rfl,⟨by decide,by decide,by decide⟩,_,_,rfl,rfl,_,_,rfl,rfl,_,rfl,aT (λc4=>?_) (λc4=>?_)⟩
    ·try dsimp only at c4
     rw[e12]at c4;have c4:(if u.2.2<0 then -u.2.2 else u.2.2)<999999999998:=bP c4
     refine⟨_,rfl,_,rfl,p,3,rfl,p3,⟨by decide,by decide⟩,λr4 H4 a4 a4' b4 p4=>⟨_,_,rfl,rfl,_,_,rfl,rfl,?_⟩⟩;refine⟨_,rfl,_,rfl,p,3,rfl,p4,⟨by decide,by decide⟩,λr5 H5 a5 a5' b5 p5=>⟨_,_,rfl,rfl,_,_,rfl,rfl,?_⟩⟩
     try dsimp only
     have LL:=bC (bC L3 b4 p3 npr.symm) b5 p4 npr.symm;have BB:=(b3.trans b4).trans b5;have PP:=p5;have hX:Sm (u.2.1+r4 - 1):=by unfold Sm iH;split at c3 <;> omega
     have hY:Sm (u.2.2+r5 - 1):=by unfold Sm iH;split at c4 <;> omega
     refine⟨_,rfl,.inl ⟨rfl,_,SqL.of LL.lst⟩,_,rfl,_,rfl,sz (by simp),λq HA sA fA nA=>?_⟩;have LA:=LL.mono sA;have bA:=BB.trans (But.of sA);refine⟨r,_,_,rfl,rfl,LA.lst,Nat.lt_of_lt_of_le (by rw[List.length_map];omega) (sz (n:=900) (by omega)),λHB uB=>?_⟩;have LB:=eT LA fA hX hY uB;have bB:But p H HB:=eY bA n1 uB;have pB:Pol HB p:=ga (PP.same sA) npr uB;refine⟨_,rfl,rfl,_,rfl,aT (λd1=>?_) (λd1=>?_)⟩
     ·refine⟨_,rfl,r,_,rfl,.inl (SqL.of LB.lst),_,rfl,_,_,rfl,rfl,_,rfl,aT (λd2=>?_) (λd2=>?_)⟩
      ·refine⟨_,rfl,p,3,rfl,pB,⟨by decide,by decide⟩,λrC HC aC cC tC pC=>⟨rfl,_,rfl,aT (λd3=>?_) (λd3=>?_)⟩⟩
       ·have LC:=bC LB tC pB npr.symm
        refine⟨_,rfl,.inl ⟨rfl,_,SqL.of LC.lst⟩,_,rfl,_,rfl,sz (by simp),λq2 HD sD fD nD=>?_⟩;have LD:=LC.mono sD;refine⟨r,_,_,rfl,rfl,LD.lst,Nat.lt_of_lt_of_le (by rw[List.length_map,List.length_append,List.length_singleton];omega) (sz (n:=900) (by omega)),λHE uE=>?_⟩;exact⟨_,_,_,rfl,eY ((bB.trans tC).trans (But.of sD)) n1 uE,ga (pC.same sD) npr uE,eT LD fD hX hY uE,by simp only[List.length_append,List.length_singleton];omega,by simp only[List.length_append,List.length_singleton];omega⟩
       ·exact⟨_,_,_,rfl,bB.trans tC,pC,bC LB tC pB npr.symm,by simp only[List.length_append,List.length_singleton];omega,by simp only[List.length_append,List.length_singleton];omega⟩
      ·exact⟨_,_,_,rfl,bB,pB,LB,by simp only[List.length_append,List.length_singleton];omega,by simp only[List.length_append,List.length_singleton];omega⟩
     ·exact⟨_,_,_,rfl,bB,pB,LB,by simp only[List.length_append,List.length_singleton];omega,by simp only[List.length_append,List.length_singleton];omega⟩
    ·try dsimp only
     have LL:=L3;have BB:=b3;have PP:=p3;have hX:Sm u.2.1:=by exact cu.2.1
     have hY:Sm u.2.2:=by exact cu.2.2
     refine⟨_,rfl,.inl ⟨rfl,_,SqL.of LL.lst⟩,_,rfl,_,rfl,sz (by simp),λq HA sA fA nA=>?_⟩;have LA:=LL.mono sA;have bA:=BB.trans (But.of sA);refine⟨r,_,_,rfl,rfl,LA.lst,Nat.lt_of_lt_of_le (by rw[List.length_map];omega) (sz (n:=900) (by omega)),λHB uB=>?_⟩;have LB:=eT LA fA hX hY uB;have bB:But p H HB:=eY bA n1 uB;have pB:Pol HB p:=ga (PP.same sA) npr uB;refine⟨_,rfl,rfl,_,rfl,aT (λd1=>?_) (λd1=>?_)⟩
     ·refine⟨_,rfl,r,_,rfl,.inl (SqL.of LB.lst),_,rfl,_,_,rfl,rfl,_,rfl,aT (λd2=>?_) (λd2=>?_)⟩
      ·refine⟨_,rfl,p,3,rfl,pB,⟨by decide,by decide⟩,λrC HC aC cC tC pC=>⟨rfl,_,rfl,aT (λd3=>?_) (λd3=>?_)⟩⟩
       ·have LC:=bC LB tC pB npr.symm
        refine⟨_,rfl,.inl ⟨rfl,_,SqL.of LC.lst⟩,_,rfl,_,rfl,sz (by simp),λq2 HD sD fD nD=>?_⟩;have LD:=LC.mono sD;refine⟨r,_,_,rfl,rfl,LD.lst,Nat.lt_of_lt_of_le (by rw[List.length_map,List.length_append,List.length_singleton];omega) (sz (n:=900) (by omega)),λHE uE=>?_⟩;exact⟨_,_,_,rfl,eY ((bB.trans tC).trans (But.of sD)) n1 uE,ga (pC.same sD) npr uE,eT LD fD hX hY uE,by simp only[List.length_append,List.length_singleton];omega,by simp only[List.length_append,List.length_singleton];omega⟩
       ·exact⟨_,_,_,rfl,bB.trans tC,pC,bC LB tC pB npr.symm,by simp only[List.length_append,List.length_singleton];omega,by simp only[List.length_append,List.length_singleton];omega⟩
      ·exact⟨_,_,_,rfl,bB,pB,LB,by simp only[List.length_append,List.length_singleton];omega,by simp only[List.length_append,List.length_singleton];omega⟩
     ·exact⟨_,_,_,rfl,bB,pB,LB,by simp only[List.length_append,List.length_singleton];omega,by simp only[List.length_append,List.length_singleton];omega⟩
   ·try dsimp only
    have LL:=L3;have BB:=b3;have PP:=p3;have hX:Sm u.2.1:=by exact cu.2.1
    have hY:Sm u.2.2:=by exact cu.2.2
    refine⟨_,rfl,.inl ⟨rfl,_,SqL.of LL.lst⟩,_,rfl,_,rfl,sz (by simp),λq HA sA fA nA=>?_⟩;have LA:=LL.mono sA;have bA:=BB.trans (But.of sA);refine⟨r,_,_,rfl,rfl,LA.lst,Nat.lt_of_lt_of_le (by rw[List.length_map];omega) (sz (n:=900) (by omega)),λHB uB=>?_⟩;have LB:=eT LA fA hX hY uB;have bB:But p H HB:=eY bA n1 uB;have pB:Pol HB p:=ga (PP.same sA) npr uB;refine⟨_,rfl,rfl,_,rfl,aT (λd1=>?_) (λd1=>?_)⟩
    ·refine⟨_,rfl,r,_,rfl,.inl (SqL.of LB.lst),_,rfl,_,_,rfl,rfl,_,rfl,aT (λd2=>?_) (λd2=>?_)⟩
     ·refine⟨_,rfl,p,3,rfl,pB,⟨by decide,by decide⟩,λrC HC aC cC tC pC=>⟨rfl,_,rfl,aT (λd3=>?_) (λd3=>?_)⟩⟩
      ·have LC:=bC LB tC pB npr.symm
       refine⟨_,rfl,.inl ⟨rfl,_,SqL.of LC.lst⟩,_,rfl,_,rfl,sz (by simp),λq2 HD sD fD nD=>?_⟩;have LD:=LC.mono sD;refine⟨r,_,_,rfl,rfl,LD.lst,Nat.lt_of_lt_of_le (by rw[List.length_map,List.length_append,List.length_singleton];omega) (sz (n:=900) (by omega)),λHE uE=>?_⟩;exact⟨_,_,_,rfl,eY ((bB.trans tC).trans (But.of sD)) n1 uE,ga (pC.same sD) npr uE,eT LD fD hX hY uE,by simp only[List.length_append,List.length_singleton];omega,by simp only[List.length_append,List.length_singleton];omega⟩
      ·exact⟨_,_,_,rfl,bB.trans tC,pC,bC LB tC pB npr.symm,by simp only[List.length_append,List.length_singleton];omega,by simp only[List.length_append,List.length_singleton];omega⟩
     ·exact⟨_,_,_,rfl,bB,pB,LB,by simp only[List.length_append,List.length_singleton];omega,by simp only[List.length_append,List.length_singleton];omega⟩
    ·exact⟨_,_,_,rfl,bB,pB,LB,by simp only[List.length_append,List.length_singleton];omega,by simp only[List.length_append,List.length_singleton];omega⟩
  ·rintro σ H3 ⟨z5,z6,qs,rfl,b3,p3,L3,g1,g2⟩
   rw[hl0]at g1 g2;refine⟨_,rfl,_,rfl,_,rfl,r,_,rfl,SqL.of L3.lst,λl H4 s4 f4 nl=>?_⟩;obtain⟨j,hj⟩:∃j:Nat,m=(j:Int):=⟨m.toNat,by omega⟩;have e:kR (qs.map λ(q:Addr×Int×Int)=>V.ref q.1) none (some m)=(qs.take j).map λ(q:Addr×Int×Int)=>V.ref q.1:=by
    unfold kR;rw[hj,HT.sIx_nat,HT.sIx_none,List.length_map,List.drop_zero,Nat.sub_zero,<- List.map_take]
    congr 1
    rw[List.take_eq_take_iff];omega
   rw[e]at f4;refine k l (qs.take j) H4 (b3.trans (.of s4)) (p3.same s4) (b3.none (p3.ne nl) nl) ⟨f4,λq hq=>((L3.mono s4).crn q (List.mem_of_mem_take hq))⟩ ?_;rw[List.length_take];omega
noncomputable def sqI(c d:Int×Int):Int:=(c.1 - d.1)*(c.1 - d.1)+(c.2 - d.2)*(c.2 - d.2)
theorem jE(c d:Int×Int):sqI c d=sqI d c:=by unfold sqI;grind
theorem oU(c d:Int×Int):0<=sqI c d:=by
 unfold sqI;have h1:0<=(c.1 - d.1)*(c.1 - d.1):=jr (by omega);have h2:0<=(c.2 - d.2)*(c.2 - d.2):=jr (by omega);omega
theorem sx{A M N D s w:Int}(hM:0<M)(f:CG A M s w)(e:A*D=N*M):CG N D s w:=by
 refine⟨f.low,?_⟩;have h:=f.eq;refine Int.eq_of_mul_eq_mul_right (show M≠0 by omega) ?_;have e1:N*w*M=N*M*w:=Int.mul_right_comm _ _ _;rw[e1,<- e,Int.mul_right_comm A D w,h,Int.mul_right_comm]
noncomputable def leA(c x y:Int×Int):Int:=(c.1 - x.1)*(y.1 - x.1)+(c.2 - x.2)*(y.2 - x.2)
noncomputable def leL(x y:Int×Int):Int:=(y.1 - x.1)*(y.1 - x.1)+(y.2 - x.2)*(y.2 - x.2)
theorem pH(x y:Int×Int):0<=leL x y:=oU y x
noncomputable def leF(c x y:Int×Int):Int×Int:=if leL x y=0\/leA c x y<0 then (sqI c x,1) else if leL x y<leA c x y then (sqI c y,1) else (sqI c x*leL x y - leA c x y*leA c x y,leL x y)
theorem gf(c x y:Int×Int):0<(leF c x y).2:=by
 have:=pH x y;unfold leF
 split
 ·exact(by decide:(0:Int)<1)
 ·split
  ·exact(by decide:(0:Int)<1)
  ·rename_i h _
   show 0<leL x y;omega
noncomputable def Cb(c:Int×Int):Prop:=ax c.1<=50/\ax c.2<=50
theorem d6{c d:Int×Int}(h:Cb c)(h':Cb d):ax (sqI c d)<=103:=by
 have a:=aW h.1 h'.1;have b:=aW h.2 h'.2;exact ap (bU (bits_mul a a) (bits_mul b b)) (by decide)
theorem jV{c x y:Int×Int}(h:Cb c)(h1:Cb x)(h2:Cb y):ax (leA c x y)<=103 :=
 ap (bU (bits_mul (aW h.1 h1.1) (aW h2.1 h1.1)) (bits_mul (aW h.2 h1.2) (aW h2.2 h1.2))) (by decide)
theorem jU{x y:Int×Int}(h1:Cb x)(h2:Cb y):ax (leL x y)<=103:=d6 h2 h1
noncomputable def CnA(H:Hp)(p:Addr)(c:Int×Int):Prop:=H p=some (.tup [.int c.1,.int c.2])/\Cb c
theorem _root_.Sp2.LineAt.cnA{H:Hp}{l:Addr}{qs:Crn}(L:LineAt H l qs){u:Addr×Int×Int}{i:Nat}(h:qs[i]? = some u):CnA H u.1 u.2:=⟨(L.crn u (List.mem_of_getElem? h)).1,(L.crn u (List.mem_of_getElem? h)).2⟩
theorem dZ{H:Hp}{l:Addr}{qs:Crn}(L:LineM H l qs):LineAt H l qs:=⟨L.lst,λq h=>⟨(L.crn q h).1,eB (L.crn q h).2.1,eB (L.crn q h).2.2⟩⟩
inductive Gh (vs:List V) (H:Hp) (Q:VK) (x_3:XK):Prop
 | mk:∀a b:Int,(vs = [.int a,.int b])->(0<=b)->(Q (.int (Int.gcd a b:Int)) H)->Gh vs H Q x_3
inductive Gk (vs:List V) (H:Hp) (Q:VK) (x_3:XK):Prop
 | mk:∀(l p:Addr) (qs:Crn) (t b:Int),(vs = [.ref l,.ref p])->(LineAt H l qs)->((1<=qs.length/\qs.length<=20))->(H p=some (.tup [.int t,.int b]))->((0<b/\ax b<=1000))->((0<=t/\t<=((qs.length:Int) - 1)*b))->(ax t<=1000)->(∀(r:Addr) H',Same H H'->H' r=some (.tup [.int (ptX qs t b),.int (ptY qs t b),.int b])->Q (.ref r) H')->Gk vs H Q x_3
noncomputable def oP(X Y b X' Y' b':Int):Int:=(X*b' - X'*b)*(X*b' - X'*b)+(Y*b' - Y'*b)*(Y*b' - Y'*b)
inductive Fm (vs:List V) (H:Hp) (Q:VK) (x_3:XK):Prop
 | mk:∀(p q:Addr) (X Y b X' Y' b':Int),(vs = [.ref p,.ref q])->(H p=some (.tup [.int X,.int Y,.int b]))->(H q=some (.tup [.int X',.int Y',.int b']))->((ax X<=1500/\ax Y<=1500/\ax b<=1500/\ax X'<=1500/\ax Y'<=1500/\ax b'<=1500))->(∀(r:Addr) H',Same H H'->H' r=some (.tup [.int (oP X Y b X' Y' b'),.int (b*b'*(b*b'))])->Q (.ref r) H')->Fm vs H Q x_3
theorem tN{H:Hp}{l:Addr}{qs:Crn}{t b:Int}(L:LineAt H l qs)(hb:0<b)(bb:ax b<=1000):ax (ptX qs t b)<=1500/\ax (ptY qs t b)<=1500:=by
 have br:ax (t % b)<=1000:=cT (Int.emod_nonneg _ (by omega)) (Int.le_of_lt (Int.emod_lt_of_pos _ hb)) bb;have nb:∀{x y:Int},ax x<=50->ax y<=50->ax (x*b+(y - x)*(t % b))<=1500:=λhx hy=>ap (bU (n:=1051) (ap (bits_mul hx bb) (by decide)) (bits_mul (aW hy hx) br)) (by decide);exact⟨nb (ip L _).1 (ip L _).1,nb (ip L _).2 (ip L _).2⟩
theorem tO{qs:Crn}{t b:Int}{u:Addr×Int×Int}(h:qs[(t / b).toNat]? = some u):ld qs t b=u.2:=by
 unfold ld;rw[List.getD_eq_getElem?_getD,h];rfl
theorem xY{qs:Crn}{t b:Int}{v:Addr×Int×Int}(h:qs[(t / b).toNat+1]? = some v):lc qs t b=v.2:=by
 have:=(List.getElem?_eq_some_iff.mp h).1;unfold lc;rw[Nat.min_eq_left (by omega),List.getD_eq_getElem?_getD,h];rfl
theorem qZ{qs:Crn}{k:Nat}{u:Addr×Int×Int}(h:qs[k]? = some u):cX qs k=u.2.1/\cY qs k=u.2.2:=by
 unfold cX cY;rw[List.getD_eq_getElem?_getD,h];exact⟨rfl,rfl⟩
theorem Ah{qs:Crn}{c:Int×Int}{t b:Int}{k:Nat}{u v:Addr×Int×Int}(hb:0<b)(hu:qs[k]? = some u)(hv:qs[k+1]? = some v)(h1:(k:Int)*b<=t)(h2:t<=((k:Int)+1)*b) :
  oP c.1 c.2 1 (ptX qs t b) (ptY qs t b) b=b*b*sqI c u.2 - 2*b*(t - (k:Int)*b)*leA c u.2 v.2+(t - (k:Int)*b)*(t - (k:Int)*b)*leL u.2 v.2:=by
 have hk:=(List.getElem?_eq_some_iff.mp hv).1;rw[x6 hb hk h1 h2,xZ hb hk h1 h2,(qZ hu).1,(qZ hu).2,(qZ hv).1,(qZ hv).2];unfold oP sqI leA leL;generalize t - (k:Int)*b=w
 grind
theorem xv{c x y:Int×Int}(h:Cb c)(h1:Cb x)(h2:Cb y):ax (leF c x y).1<=208/\ax (leF c x y).2<=103:=by
 unfold leF
 split
 ·exact⟨ap (d6 h h1) (by decide),(by decide:ax 1<=103)⟩
 ·split
  ·exact⟨ap (d6 h h2) (by decide),(by decide:ax 1<=103)⟩
  ·exact⟨ap (aW (bits_mul (d6 h h1) (jU h1 h2)) (bits_mul (jV h h1 h2) (jV h h1 h2))) (by decide),jU h1 h2⟩
inductive FW (vs:List V) (H:Hp) (Q:VK) (x_3:XK):Prop
 | mk:∀(p l lo hi:Addr) (qs:Crn) (c:Int×Int) (k k':Nat) (u v:Addr×Int×Int),(vs = [.ref p,.ref l,.ref lo,.ref hi])->(CnA H p c)->((LineAt H l qs/\qs.length<=20))->(qs[k]? = some u)->(qs[k']? = some v)->(((k'=k/\k+1=qs.length)\/k'=k+1))->(H lo=some (.tup [.int (k:Int),.int 1]))->(H hi=some (.tup [.int (k':Int),.int 1]))->(∀(r:Addr) (N D:Int) H',Same H H'->H' r=some (.tup [.int N,.int D])->(0<D/\ax D<=300)->(0<=N/\ax N<=900)->N*(leF c u.2 v.2).2=(leF c u.2 v.2).1*D->Q (.ref r) H')->FW vs H Q x_3
theorem vg(X Y b X' Y' b':Int):0<=oP X Y b X' Y' b':=by
 unfold oP;have h1:0<=(X*b' - X'*b)*(X*b' - X'*b):=jr (by omega);have h2:0<=(Y*b' - Y'*b)*(Y*b' - Y'*b):=jr (by omega);omega
theorem xa{N D A B:Int}(hN:0<=N)(hB:0<B)(e:N*B=A*D)(bA:ax A<=208)(bD:ax D<=300):ax N<=900:=by
 have h:=Int.mul_le_mul_of_nonneg_left (show 1<=B by omega) hN;rw[Int.mul_one,e]at h;exact ap (cT hN h (bits_mul bA bD)) (by decide)
theorem CA:AQ ["a","b"] ["a","b"] (aq (top 78)):=smk
theorem kJ(EU:Df K mg "_law_shared" (top 78))(T:Txt mg):Fn P w K mg base "_law_shared" ["a","b"] 1 Gh:=by
 refine EU.fn CA (λ_ _ _ _ _ _ us hl=>by obtain⟨_,_,rfl⟩:=dh hl;rfl) (λvs H Q E h=>?_) (λf cdv A outer s H vs Q E hr h=>?_)
 ·obtain⟨a,b,rfl,_⟩:=h
  rfl
 ·obtain⟨a,b,rfl,hb,q⟩:=h
  refine⟨_,(ag (ay (i:=0) CA.nd rfl (Or.inl rfl) (aQ eX (by rfl) T.z_abs iO (ad (pv 0) ak))) (ag (dS PassesOwn.never (aE fM (pv 1) af (aH _)) (am (x9 (i:=0) (j:=1) rfl CA.nd rfl rfl (by decide) rfl rfl (ad (pv 1) (ad (ao fN (pv 0) (pv 1)) ak)) (by rfl)))) (am (aB (pv 0))))),?_⟩;refine⟨_,rfl,a,rfl,?_⟩;have ha:0<=(if a<0 then -a else a):=by split <;> omega
  have hgg:Int.gcd (if a<0 then -a else a) b=Int.gcd a b:=by
   split
   ·rw[Int.neg_gcd]
   ·rfl
  dsimp only;generalize (if a<0 then -a else a)=a' at ha hgg ⊢
  refine dQ (λσ H'=>∃x y:Int,σ = [some (.int x),some (.int y)]/\H'=H/\0<=x/\0<=y/\Int.gcd x y=Int.gcd a b)
   (λσ _=>match σ with | [_,some (.int y)]=>y.toNat|_=>0) ⟨_,_,rfl,rfl,ha,hb,hgg⟩ ?_ ?_
  ·rintro σ H' ⟨x,y,rfl,rfl,hx,hy,hg⟩
   refine⟨_,rfl,rfl,_,rfl,aT (λhc=>?_) (λhc=>?_)⟩
   ·have hy0:¬y=0:=by simpa using hc
    have hy1:0<y:=by omega
    refine⟨_,rfl,_,rfl,_,rfl,x,y,rfl,rfl,hy1,_,_,rfl,⟨y,x % y,rfl,rfl,hy,Int.emod_nonneg _ hy0,?_⟩,?_⟩
    ·rw[nX hx hy1]
     exact hg
    ·have h1:=Int.emod_lt_of_pos x hy1
     have h2:=Int.emod_nonneg x hy0;show(x % y).toNat<y.toNat;omega
   ·have hy0:y=0:=by simpa using hc
    subst hy0;refine⟨_,rfl,?_⟩;have e:(Int.gcd a b:Int)=x:=by rw[<- hg,Int.gcd_zero];omega
    rw[e]at q;exact q
  ·rintro σ H' Q1 Q2 hq ⟨v,e,hs,k,ek,r⟩
   exact⟨v,e,hs,k,ek,hq _ _ r⟩
theorem Fr:AQ ["a","b"] ["a","b"] (aq (top 82)):=smk
theorem oq(FG:Df K mg "_law_less" (top 82)):Fn P w K mg base "_law_less" ["a","b"] 1 D2:=by
 refine FG.fn Fr (λ_ _ _ _ _ _ us hl=>by obtain⟨_,_,rfl⟩:=dh hl;rfl) (λvs H Q E h=>?_) (λf cdv A outer s H vs Q E hr h=>?_)
 ·obtain⟨p,q,a,b,c,d,rfl,_⟩:=h
  rfl
 ·obtain⟨p,q,a,b,c,d,rfl,hp,hq,⟨ba,bb,bc,bd⟩,k⟩:=h
  refine⟨_,(am (aB (dO dG (ao aA (az ar (pv 0) af (λ_ _=>rfl)) (az ar (pv 1) af (λ_ _=>rfl))) (ao aA (az ar (pv 1) af (λ_ _=>rfl)) (az ar (pv 0) af (λ_ _=>rfl))) (aH _)))),?_⟩
  walk_at "rd"
  exact k
theorem Cv:AQ ["here","there","left","down","bottom"] ["here","there"] (aq (top 85)):=smk
theorem mL(Fe:Df K mg "_law_apart" (top 85)):Fn P w K mg base "_law_apart" ["here","there"] 1 Fm:=by
 refine Fe.fn Cv (λ_ _ _ _ _ _ us hl=>by obtain⟨_,_,rfl⟩:=dh hl;rfl) (λvs H Q E h=>?_) (λf cdv A outer s H vs Q E hr h=>?_)
 ·obtain⟨p,q,X,Y,b,X',Y',b',rfl,_⟩:=h
  rfl
 ·obtain⟨p,q,X,Y,b,X',Y',b',rfl,hp,hq,⟨h1,h2,h3,h4,h5,h6⟩,k⟩:=h
  refine⟨_,(ag (ay (i:=2) Cv.nd rfl (Or.inl rfl) (ao aL (ao aA (az ar (pv 0) af (λ_ _=>rfl)) (az ar (pv 1) af (λ_ _=>rfl))) (ao aA (az ar (pv 1) af (λ_ _=>rfl)) (az ar (pv 0) af (λ_ _=>rfl))))) (ag (ay (i:=3) Cv.nd rfl (Or.inl rfl) (ao aL (ao aA (az ar (pv 0) af (λ_ _=>rfl)) (az ar (pv 1) af (λ_ _=>rfl))) (ao aA (az ar (pv 1) af (λ_ _=>rfl)) (az ar (pv 0) af (λ_ _=>rfl))))) (ag (ay (i:=4) Cv.nd rfl (Or.inl rfl) (ao aA (az ar (pv 0) af (λ_ _=>rfl)) (az ar (pv 1) af (λ_ _=>rfl)))) (am (aB (aG (ad (ao aK (ao aA (pv 2) (pv 2)) (ao aA (pv 3) (pv 3))) (ad (ao aA (pv 4) (pv 4)) ak)))))))),?_⟩;have P:∀{α:Nat->Prop},α 0->α 0:=λh=>h;have cm:∀{x y:Int} {m n:Nat},ax x<=m->ax y<=n->m<=100000->n<=100000->CM x y:=λhx hy hm hn=>CM.b hx hy (Nat.le_trans hm (by decide)) (Nat.le_trans hn (by decide));have d1:ax (X*b' - X'*b)<=3001:=aW (bits_mul h1 h6) (bits_mul h4 h3);have d2:ax (Y*b' - Y'*b)<=3001:=aW (bits_mul h2 h6) (bits_mul h5 h3);have d3:ax (b*b')<=3000:=bits_mul h3 h6;refine⟨_,rfl,p,_,_,_,rfl,rfl,SqT.of hp,rfl,_,rfl,q,_,_,_,rfl,rfl,SqT.of hq,rfl,_,_,rfl,rfl,cm h1 h6 (by decide) (by decide),_,rfl,q,_,_,_,rfl,rfl,SqT.of hq,rfl,_,rfl,p,_,_,_,rfl,rfl,SqT.of hp,rfl,_,_,rfl,rfl,cm h4 h3 (by decide) (by decide),_,_,rfl,rfl,?_⟩;refine⟨_,rfl,p,_,_,_,rfl,rfl,SqT.of hp,rfl,_,rfl,q,_,_,_,rfl,rfl,SqT.of hq,rfl,_,_,rfl,rfl,cm h2 h6 (by decide) (by decide),_,rfl,q,_,_,_,rfl,rfl,SqT.of hq,rfl,_,rfl,p,_,_,_,rfl,rfl,SqT.of hp,rfl,_,_,rfl,rfl,cm h5 h3 (by decide) (by decide),_,_,rfl,rfl,?_⟩;refine⟨_,rfl,p,_,_,_,rfl,rfl,SqT.of hp,rfl,_,rfl,q,_,_,_,rfl,rfl,SqT.of hq,rfl,_,_,rfl,rfl,cm h3 h6 (by decide) (by decide),?_⟩;refine⟨_,rfl,_,rfl,_,_,rfl,rfl,cm d1 d1 (by decide) (by decide),_,rfl,_,rfl,_,_,rfl,rfl,cm d2 d2 (by decide) (by decide),_,_,rfl,rfl,_,rfl,_,rfl,_,_,rfl,rfl,cm d3 d3 (by decide) (by decide),sz (by simp),λr H1 s1 f1 n1=>?_⟩;exact k r H1 s1 f1
theorem Bl:AQ ["line","place","top","bottom","k","part","x","y","wide"] ["line","place"] (aq (top 84)):=smk
theorem mH(Fa:Df K mg "_law_point" (top 84))(T:Txt mg):Fn P w K mg base "_law_point" ["line","place"] 1 Gk:=by
 refine Fa.fn Bl (λ_ _ _ _ _ _ us hl=>by obtain⟨_,_,rfl⟩:=dh hl;rfl) (λvs H Q E h=>?_) (λf cdv A outer s H vs Q E hr h=>?_)
 ·obtain⟨l,p,qs,t,b,rfl,_⟩:=h
  rfl
 ·obtain⟨l,p,qs,t,b,rfl,L,⟨h1,h20⟩,hp,⟨hb,bb⟩,⟨t0,t1⟩,bt,k⟩:=h
  refine⟨_,(ag (jK (pv 1) (d8 rfl (bo (aO (i:=2) Bl.nd rfl (Or.inl rfl)) (bo (aO (i:=3) Bl.nd rfl (Or.inl rfl)) dE)))) (ag (ay (i:=4) Bl.nd rfl (Or.inl rfl) (ao cR (pv 2) (pv 3))) (ag (aM (aE bR (pv 4) (ao aL (aQ aS (by rfl) T.z_len cS (ad (pv 0) ak)) af) (aH _)) (am (aB (aG (ad (ao aA (az ar (az aY (pv 0) (pv 4) (λ_ _=>rfl)) af (λ_ _=>rfl)) (pv 3)) (ad (ao aA (az ar (az aY (pv 0) (pv 4) (λ_ _=>rfl)) af (λ_ _=>rfl)) (pv 3)) (ad (pv 3) ak)))))) aI) (ag (ay (i:=5) Bl.nd rfl (Or.inl rfl) (ao aL (pv 2) (ao aA (pv 4) (pv 3)))) (ag (jK (az aY (pv 0) (pv 4) (λ_ _=>rfl)) (d8 rfl (bo (aO (i:=6) Bl.nd rfl (Or.inl rfl)) (bo (aO (i:=7) Bl.nd rfl (Or.inl rfl)) dE)))) (ag (ay (i:=8) Bl.nd rfl (Or.inl rfl) (ao aL (az ar (az aY (pv 0) (ao aK (pv 4) af) (λ_ _=>rfl)) af (λ_ _=>rfl)) (pv 6))) (am (aB (aG (ad (ao aK (ao aA (pv 6) (pv 3)) (ao aA (pv 5) (pv 8))) (ad (ao aK (ao aA (pv 7) (pv 3)) (ao aA (pv 5) (ao aL (az ar (az aY (pv 0) (ao aK (pv 4) af) (λ_ _=>rfl)) af (λ_ _=>rfl)) (pv 7)))) (ad (pv 3) ak)))))))))))),?_⟩;have hll:(qs.map λ(q:Addr×Int×Int)=>V.ref q.1).length=qs.length:=List.length_map _;have q0:0<=t / b:=Int.ediv_nonneg t0 (by omega);have q1:t / b<=(qs.length:Int) - 1:=Int.ediv_le_of_le_mul hb t1;have em:=Int.emod_add_mul_ediv t b;have em':t - t / b*b=t % b:=by rw[Int.mul_comm];omega
  have r0:=Int.emod_nonneg t (show b≠0 by omega);have r1:=Int.emod_lt_of_pos t hb;have br:ax (t % b)<=1000:=cT r0 (Int.le_of_lt r1) bb;obtain⟨u,hu,au⟩:=kl (qs:=qs) (k:=t / b) q0 (by omega);have cu:=L.cnA hu;have cm:∀{x y:Int},ax x<=1000->ax y<=1000->CM x y:=λhx hy=>CM.b hx hy (by decide) (by decide);have b50:∀{x:Int},ax x<=50->ax x<=1000:=λh=>ap h (by decide);refine⟨_,rfl,p,_,rfl,SqT.of hp,rfl,_,_,rfl,_,_,rfl,rfl,?_⟩;refine⟨_,rfl,_,rfl,_,_,rfl,rfl,⟨hb,ap bb (by decide)⟩,?_⟩;refine⟨_,rfl,_,rfl,l,_,rfl,.inl (SqL.of L.lst),_,_,rfl,rfl,rfl,_,rfl,aT (λc1=>?_) (λc1=>?_)⟩
  ·have c1:t / b=(((qs.map λ(q:Addr×Int×Int)=>V.ref q.1).length:Nat):Int) - 1:=by simpa using c1
   rw[hll]at c1;refine⟨_,rfl,_,rfl,l,_,_,_,rfl,rfl,SqL.of L.lst,au,u.1,_,_,_,rfl,rfl,SqT.of cu.1,rfl,_,rfl,_,_,rfl,rfl,cm (b50 cu.2.1) bb,?_⟩;refine⟨_,rfl,_,rfl,l,_,_,_,rfl,rfl,SqL.of L.lst,au,u.1,_,_,_,rfl,rfl,SqT.of cu.1,rfl,_,rfl,_,_,rfl,rfl,cm (b50 cu.2.2) bb,_,rfl,sz (by simp),λr H1 s1 f1 n1=>?_⟩;have z:t % b=0:=by
    rw[c1]at em';have:=t1;omega
   refine k r H1 s1 ?_;rw[f1];unfold ptX ptY Sp11.numAt;rw[tO hu,z,Int.mul_zero,Int.mul_zero,Int.add_zero,Int.add_zero]
  have c1:¬t / b=(((qs.map λ(q:Addr×Int×Int)=>V.ref q.1).length:Nat):Int) - 1:=by simpa using c1
  rw[hll]at c1;obtain⟨v,hv,av⟩:=kl (qs:=qs) (k:=t / b+1) (by omega) (by omega);have cv:=L.cnA hv;have hv':qs[(t / b).toNat+1]? = some v:=by
   rw[show(t / b).toNat+1=(t / b+1).toNat by omega];exact hv
  have bw:∀{x y:Int},ax x<=50->ax y<=50->ax (x - y)<=1000:=λhx hy=>ap (aW hx hy) (by decide);refine⟨_,rfl,_,rfl,_,rfl,_,_,rfl,rfl,CM.l ?_,_,_,rfl,rfl,?_⟩
  ·rw[show(2:Int)^64=18446744073709551616 by decide]
   omega
  dsimp only;rw[em'];refine⟨_,rfl,_,rfl,l,_,_,_,rfl,rfl,SqL.of L.lst,au,u.1,_,rfl,SqT.of cu.1,rfl,_,_,rfl,_,_,rfl,rfl,?_⟩;refine⟨_,rfl,_,rfl,_,_,rfl,rfl,l,_,_,_,rfl,rfl,SqL.of L.lst,av,v.1,_,_,_,rfl,rfl,SqT.of cv.1,rfl,_,rfl,_,_,rfl,rfl,?_⟩;refine⟨_,rfl,_,rfl,_,_,rfl,rfl,cm (b50 cu.2.1) bb,_,rfl,_,rfl,_,_,rfl,rfl,cm br (bw cv.2.1 cu.2.1),_,_,rfl,rfl,?_⟩;refine⟨_,rfl,_,rfl,_,_,rfl,rfl,cm (b50 cu.2.2) bb,_,rfl,_,rfl,_,rfl,_,_,rfl,rfl,l,_,_,_,rfl,rfl,SqL.of L.lst,av,v.1,_,_,_,rfl,rfl,SqT.of cv.1,rfl,_,rfl,_,_,rfl,rfl,_,_,rfl,rfl,cm br (bw cv.2.2 cu.2.2),_,_,rfl,rfl,_,rfl,sz (by simp),λr H1 s1 f1 n1=>?_⟩;refine k r H1 s1 ?_;rw[f1];unfold ptX ptY Sp11.numAt;rw[tO hu,xY hv',Int.mul_comm (v.2.1 - u.2.1),Int.mul_comm (v.2.2 - u.2.2)]
theorem AV:AQ ["corner","line","low","high","k","x","y","wide","tall","long","place"] ["corner","line","low","high"] (aq (top 87)):=smk
theorem mI(Fb:Df K mg "_law_least" (top 87))(A6:Fn P w K mg base "_law_less" ["a","b"] 1 D2)(BN:Fn P w K mg base "_law_apart" ["here","there"] 1 Fm)(BM:Fn P w K mg base "_law_point" ["line","place"] 1 Gk)(T:Txt mg):Fn P w K mg base "_law_least" ["corner","line","low","high"] 2 FW:=by
 refine Fb.fn AV (λ_ _ _ _ _ _ us hl=>by obtain⟨_,_,_,_,rfl⟩:=uA hl;rfl) (λvs H Q E h=>?_) (λf cdv A outer s H vs Q E hr h=>?_)
 ·obtain⟨p,l,lo,hi,qs,c,k,k1,u,v,rfl,_⟩:=h
  rfl
 ·obtain⟨p,l,lo,hi,qs,c,k,k1,u,v,rfl,hc,⟨L,h20⟩,hu,hv,hkk,hlo,hhi,q⟩:=h
  have hll:(qs.map λ(q:Addr×Int×Int)=>V.ref q.1).length=qs.length:=List.length_map _;have cu:=L.cnA hu;have hk:((k:Int)) / 1=(k:Int):=Int.ediv_one _;rcases hkk with⟨ek,hk1⟩|rfl
  ·obtain rfl:k=k1:=ek.symm
   obtain rfl:u=v:=Option.some.inj (hu.symm.trans hv);refine⟨_,(ag (ay (i:=4) AV.nd rfl (Or.inl rfl) (ao cR (az ar (pv 2) af (λ_ _=>rfl)) (az ar (pv 2) af (λ_ _=>rfl)))) (ag (aM (aE bR (pv 4) (ao aL (aQ aS (by rfl) T.z_len cS (ad (pv 1) ak)) af) (aH _)) (am (aB (aF BN (hr.mono (by decide)) (by rfl) (ad (ao g9 (pv 0) (aG (ad af ak))) (ad (aF BM (hr.mono (by decide)) (by rfl) (ad (pv 1) (ad (pv 2) ak))) ak))))) aI) (ag (jK (az aY (pv 1) (pv 4) (λ_ _=>rfl)) (d8 rfl (bo (aO (i:=5) AV.nd rfl (Or.inl rfl)) (bo (aO (i:=6) AV.nd rfl (Or.inl rfl)) dE)))) (ag (ay (i:=7) AV.nd rfl (Or.inl rfl) (ao aL (az ar (az aY (pv 1) (ao aK (pv 4) af) (λ_ _=>rfl)) af (λ_ _=>rfl)) (pv 5))) (ag (ay (i:=8) AV.nd rfl (Or.inl rfl) (ao aL (az ar (az aY (pv 1) (ao aK (pv 4) af) (λ_ _=>rfl)) af (λ_ _=>rfl)) (pv 6))) (ag (ay (i:=9) AV.nd rfl (Or.inl rfl) (ao aK (ao aA (pv 7) (pv 7)) (ao aA (pv 8) (pv 8)))) (ag (ay (i:=10) AV.nd rfl (Or.inl rfl) (pv 2)) (ag (aM (aE lB (pv 9) af (aH _)) (am (ay (i:=10) AV.nd rfl (Or.inl rfl) (aG (ad (ao aK (ao aK (ao aA (pv 4) (pv 9)) (ao aA (ao aL (az ar (pv 0) af (λ_ _=>rfl)) (pv 5)) (pv 7))) (ao aA (ao aL (az ar (pv 0) af (λ_ _=>rfl)) (pv 6)) (pv 8))) (ad (pv 9) ak))))) aI) (ag (aM (de (aF A6 (hr.mono (by decide)) (by rfl) (ad (pv 10) (ad (pv 2) ak)))) (am (ay (i:=10) AV.nd rfl (Or.inl rfl) (pv 2))) aI) (ag (aM (de (aF A6 (hr.mono (by decide)) (by rfl) (ad (pv 3) (ad (pv 10) ak)))) (am (ay (i:=10) AV.nd rfl (Or.inl rfl) (pv 3))) aI) (am (aB (aF BN (hr.mono (by decide)) (by rfl) (ad (ao g9 (pv 0) (aG (ad af ak))) (ad (aF BM (hr.mono (by decide)) (by rfl) (ad (pv 1) (ad (pv 10) ak))) ak))))))))))))))),?_⟩;have kb:ax (k:Int)<=10:=bT (by omega) (by omega);refine⟨_,rfl,lo,_,_,_,rfl,rfl,SqT.of hlo,rfl,_,rfl,lo,_,_,_,rfl,rfl,SqT.of hlo,rfl,_,_,rfl,rfl,⟨by decide,by decide⟩,?_⟩;dsimp only;rw[hk];refine⟨_,rfl,_,rfl,l,_,rfl,.inl (SqL.of L.lst),_,_,rfl,rfl,rfl,_,rfl,cf (by rw[hll];simp;omega) ?_⟩;refine⟨_,rfl,sz (by simp),λz H2 s2 f2 _=>?_⟩;refine⟨p,z,_,_,rfl,rfl,s2 _ _ hc.1,f2,⟨by simp,by simp⟩,sz (by simp),λz2 H3 s3 f3 _=>?_⟩;have S3:=s2.trans s3;refine⟨_,rfl,_,rfl,l,lo,qs,(k:Int),1,rfl,L.mono S3,⟨by omega,h20⟩,S3 _ _ hlo,⟨by decide,by decide⟩,⟨by omega,by omega⟩,ap kb (by decide),λz3 H4 s4 f4=>?_⟩;have b50:∀{x:Int},ax x<=50->ax x<=1500:=λh=>ap h (by decide);have ex:ptX qs (k:Int) 1=u.2.1/\ptY qs (k:Int) 1=u.2.2:=by
    unfold ptX ptY Sp11.numAt;rw[tO (t:=(k:Int)) (b:=1) (u:=u) (by rw[hk,Int.toNat_natCast];exact hu),Int.emod_one];omega
   rw[ex.1,ex.2]at f4;refine⟨z2,z3,c.1,c.2,1,u.2.1,u.2.2,1,rfl,s4 _ _ f3,f4,⟨b50 hc.2.1,b50 hc.2.2,by decide,b50 cu.2.1,b50 cu.2.2,by decide⟩,λr H5 s5 f5=>?_⟩;have eN:oP c.1 c.2 1 u.2.1 u.2.2 1=sqI c u.2:=by
    unfold oP sqI;rw[Int.mul_one,Int.mul_one,Int.mul_one,Int.mul_one]
   have eF:leF c u.2 u.2=(sqI c u.2,1):=by
    unfold leF;rw[if_pos (.inl (by unfold leL;rw[Int.sub_self,Int.sub_self];rfl))]
   rw[eN]at f5;refine q r _ _ H5 (S3.trans (s4.trans s5)) f5 ⟨by decide,by decide⟩ ⟨oU _ _,ap (d6 hc.2 cu.2) (by decide)⟩ ?_;rw[eF];rfl
  have iv:=(List.getElem?_eq_some_iff.mp hv).1;rw[show((k+1:Nat):Int)=(k:Int)+1 by omega]at hhi;have cv:=L.cnA hv;have bL:=jU cu.2 cv.2;have bA:=jV hc.2 cu.2 cv.2;have nL:=pH u.2 v.2;have R:∃ww,PSs (bY CX0 P w K mg base ["corner","line","low","high","k","x","y","wide","tall","long","place"] "_law_least" (aq (top 87)) f cdv A outer s H E).nox ((aP (top 87)).drop 10) ww/\∀(pl:Addr) (t b:Int) (kv X Y W TT LL:Int) (H':Hp),Same H H'->H' pl=some (.tup [.int t,.int b])->(0<b/\ax b<=103)->ax t<=1000->(k:Int)*b<=t->t<=((k:Int)+1)*b->(b*b*sqI c u.2 - 2*b*(t - (k:Int)*b)*leA c u.2 v.2+(t - (k:Int)*b)*(t - (k:Int)*b)*leL u.2 v.2)*(leF c u.2 v.2).2=(leF c u.2 v.2).1*(b*b) ->
    ww { nx:=λ_ H'=>Q .non H',rt:=Q } [some (.ref p),some (.ref l),some (.ref lo),some (.ref hi),some (.int kv),some (.int X),some (.int Y),some (.int W),some (.int TT),some (.int LL),some (.ref pl)] H':=by
   refine⟨_,(am (aB (aF BN (hr.mono (by decide)) (by rfl) (ad (ao g9 (pv 0) (aG (ad af ak))) (ad (aF BM (hr.mono (by decide)) (by rfl) (ad (pv 1) (ad (pv 10) ak))) ak))))),λpl t b kv X Y W TT LL H1 s1 e1 ⟨hb,bb⟩ bt h1 h2 hN=>?_⟩;have t0:0<=t:=Int.le_trans (Int.mul_nonneg (by omega) (by omega)) h1;have t1:t<=((qs.length:Int) - 1)*b:=Int.le_trans h2 (Int.mul_le_mul_of_nonneg_right (by omega) (by omega));refine⟨_,rfl,sz (by simp),λz H2 s2 f2 _=>?_⟩;refine⟨p,z,_,_,rfl,rfl,s2 _ _ (s1 _ _ hc.1),f2,⟨by simp,by simp⟩,sz (by simp),λz2 H3 s3 f3 _=>?_⟩;have S3:=s1.trans (s2.trans s3);refine⟨_,rfl,_,rfl,l,pl,qs,t,b,rfl,L.mono S3,⟨by omega,h20⟩,s3 _ _ (s2 _ _ e1),⟨hb,ap bb (by decide)⟩,⟨t0,t1⟩,bt,λz3 H4 s4 f4=>?_⟩;have b50:∀{x:Int},ax x<=50->ax x<=1500:=λh=>ap h (by decide);have pb:=tN L hb (ap bb (by decide)) (t:=t);refine⟨z2,z3,c.1,c.2,1,ptX qs t b,ptY qs t b,b,rfl,s4 _ _ f3,f4,⟨b50 hc.2.1,b50 hc.2.2,by decide,pb.1,pb.2,ap bb (by decide)⟩,λr H5 s5 f5=>?_⟩;have eN:oP c.1 c.2 1 (ptX qs t b) (ptY qs t b) b*(leF c u.2 v.2).2=(leF c u.2 v.2).1*(1*b*(1*b)):=by rw[Ah hb hu hv h1 h2,hN,Int.one_mul]
   have bD:ax (1*b*(1*b))<=300:=by rw[Int.one_mul];exact ap (bits_mul bb bb) (by decide)
   exact q r _ _ H5 (S3.trans (s4.trans s5)) f5 ⟨Int.mul_pos (by omega) (by omega),bD⟩ ⟨vg _ _ _ _ _ _,xa (vg _ _ _ _ _ _) (gf _ _ _) eN (xv hc.2 cu.2 cv.2).1 bD⟩ eN
  obtain⟨ww,hw,rw'⟩:=R;refine⟨_,(ag (ay (i:=4) AV.nd rfl (Or.inl rfl) (ao cR (az ar (pv 2) af (λ_ _=>rfl)) (az ar (pv 2) af (λ_ _=>rfl)))) (ag (aM (aE bR (pv 4) (ao aL (aQ aS (by rfl) T.z_len cS (ad (pv 1) ak)) af) (aH _)) (am (aB (aF BN (hr.mono (by decide)) (by rfl) (ad (ao g9 (pv 0) (aG (ad af ak))) (ad (aF BM (hr.mono (by decide)) (by rfl) (ad (pv 1) (ad (pv 2) ak))) ak))))) aI) (ag (jK (az aY (pv 1) (pv 4) (λ_ _=>rfl)) (d8 rfl (bo (aO (i:=5) AV.nd rfl (Or.inl rfl)) (bo (aO (i:=6) AV.nd rfl (Or.inl rfl)) dE)))) (ag (ay (i:=7) AV.nd rfl (Or.inl rfl) (ao aL (az ar (az aY (pv 1) (ao aK (pv 4) af) (λ_ _=>rfl)) af (λ_ _=>rfl)) (pv 5))) (ag (ay (i:=8) AV.nd rfl (Or.inl rfl) (ao aL (az ar (az aY (pv 1) (ao aK (pv 4) af) (λ_ _=>rfl)) af (λ_ _=>rfl)) (pv 6))) (ag (ay (i:=9) AV.nd rfl (Or.inl rfl) (ao aK (ao aA (pv 7) (pv 7)) (ao aA (pv 8) (pv 8)))) (ag (ay (i:=10) AV.nd rfl (Or.inl rfl) (pv 2)) (ag (aM (aE lB (pv 9) af (aH _)) (am (ay (i:=10) AV.nd rfl (Or.inl rfl) (aG (ad (ao aK (ao aK (ao aA (pv 4) (pv 9)) (ao aA (ao aL (az ar (pv 0) af (λ_ _=>rfl)) (pv 5)) (pv 7))) (ao aA (ao aL (az ar (pv 0) af (λ_ _=>rfl)) (pv 6)) (pv 8))) (ad (pv 9) ak))))) aI) (ag (aM (de (aF A6 (hr.mono (by decide)) (by rfl) (ad (pv 10) (ad (pv 2) ak)))) (am (ay (i:=10) AV.nd rfl (Or.inl rfl) (pv 2))) aI) (ag (aM (de (aF A6 (hr.mono (by decide)) (by rfl) (ad (pv 3) (ad (pv 10) ak)))) (am (ay (i:=10) AV.nd rfl (Or.inl rfl) (pv 3))) aI) hw)))))))))),?_⟩;refine⟨_,rfl,lo,_,_,_,rfl,rfl,SqT.of hlo,rfl,_,rfl,lo,_,_,_,rfl,rfl,SqT.of hlo,rfl,_,_,rfl,rfl,⟨by decide,by decide⟩,?_⟩;dsimp only;rw[hk];refine⟨_,rfl,_,rfl,l,_,rfl,.inl (SqL.of L.lst),_,_,rfl,rfl,rfl,_,rfl,a6 (by rw[hll];simp;omega) ?_⟩;have au:atI (qs.map λ(q:Addr×Int×Int)=>V.ref q.1) (k:Int)=some (.ref u.1):=dP (by rw[List.getElem?_map,hu];rfl);have av:atI (qs.map λ(q:Addr×Int×Int)=>V.ref q.1) ((k:Int)+1)=some (.ref v.1):=dP (j:=k+1) (by rw[List.getElem?_map,hv];rfl);have bs:∀{x y:Int},ax x<=50->ax y<=50->ax (x - y)<=51:=λhx hy=>aW hx hy;have cm:∀{a b c d:Int},ax a<=50->ax b<=50->ax c<=50->ax d<=50->CM (a - b) (c - d):=λh1 h2 h3 h4=>CM.b (bs h1 h2) (bs h3 h4) (by decide) (by decide);refine⟨_,rfl,_,rfl,l,_,_,_,rfl,rfl,SqL.of L.lst,au,u.1,_,rfl,SqT.of cu.1,rfl,_,_,rfl,_,_,rfl,rfl,?_⟩;refine⟨_,rfl,_,rfl,_,_,rfl,rfl,l,_,_,_,rfl,rfl,SqL.of L.lst,av,v.1,_,_,_,rfl,rfl,SqT.of cv.1,rfl,_,rfl,_,_,rfl,rfl,?_⟩;refine⟨_,rfl,_,rfl,_,_,rfl,rfl,l,_,_,_,rfl,rfl,SqL.of L.lst,av,v.1,_,_,_,rfl,rfl,SqT.of cv.1,rfl,_,rfl,_,_,rfl,rfl,?_⟩;refine⟨_,rfl,_,rfl,_,_,rfl,rfl,cm cv.2.1 cu.2.1 cv.2.1 cu.2.1,_,rfl,_,rfl,_,_,rfl,rfl,cm cv.2.2 cu.2.2 cv.2.2 cu.2.2,_,_,rfl,rfl,?_⟩;dsimp only;rw[show(v.2.1 - u.2.1)*(v.2.1 - u.2.1)+(v.2.2 - u.2.2)*(v.2.2 - u.2.2)=leL u.2 v.2 from rfl];have kb:ax (k:Int)<=10:=bT (by omega) (by omega);have kb1:ax ((k:Int)+1)<=10:=bT (by omega) (by omega);have lowEnd:leL u.2 v.2=0\/leA c u.2 v.2<0->∀(kv X Y W TT LL:Int) (H':Hp),Same H H'->ww { nx:=λ_ H'=>Q .non H',rt:=Q } [some (.ref p),some (.ref l),some (.ref lo),some (.ref hi),some (.int kv),some (.int X),some (.int Y),some (.int W),some (.int TT),some (.int LL),some (.ref lo)] H':=λh kv X Y W TT LL H' s'=>rw' lo (k:Int) 1 kv X Y W TT LL H' s' (s' _ _ hlo) ⟨by decide,by decide⟩ (ap kb (by decide)) (by omega) (by omega) (by
   unfold leF;rw[if_pos h];simp)
  refine⟨_,rfl,?_⟩;refine⟨_,rfl,_,_,rfl,rfl,_,rfl,aT (λc1=>?_) (λc1=>?_)⟩
  ·have c1:leL u.2 v.2>0:=bP c1
   refine⟨_,rfl,_,rfl,_,_,rfl,rfl,CM.b kb bL (by decide) (by decide),_,rfl,p,_,_,_,rfl,rfl,SqT.of hc.1,rfl,_,rfl,_,_,rfl,rfl,_,rfl,_,_,rfl,rfl,cm hc.2.1 cu.2.1 cv.2.1 cu.2.1,_,_,rfl,rfl,_,rfl,p,_,_,_,rfl,rfl,SqT.of hc.1,rfl,_,rfl,_,_,rfl,rfl,_,rfl,_,_,rfl,rfl,cm hc.2.2 cu.2.2 cv.2.2 cu.2.2,_,_,rfl,rfl,_,rfl,?_⟩;dsimp only;rw[show(k:Int)*leL u.2 v.2+(c.1 - u.2.1)*(v.2.1 - u.2.1)+(c.2 - u.2.2)*(v.2.2 - u.2.2)=(k:Int)*leL u.2 v.2+leA c u.2 v.2 by unfold leA;omega];refine⟨sz (by simp),λpl H1 s1 f1 _=>?_⟩;have bt:ax ((k:Int)*leL u.2 v.2+leA c u.2 v.2)<=200:=ap (bU (n:=113) (bits_mul kb bL) (ap bA (by decide))) (by decide);have b2:∀{x:Int} {n:Nat},ax x<=n->n<=200->ax x<=2000:=λh hn=>ap h (by omega);have b1:ax 1<=2000:=by decide
   refine⟨_,rfl,_,rfl,pl,lo,_,_,_,_,rfl,f1,s1 _ _ hlo,⟨b2 bt (by decide),b2 bL (by decide),b2 kb (by decide),b1⟩,_,rfl,aT (λc2=>?_) (λc2=>?_)⟩
   ·have c2:((k:Int)*leL u.2 v.2+leA c u.2 v.2)*1<(k:Int)*leL u.2 v.2:=bP c2
    refine⟨_,rfl,_,rfl,_,rfl,hi,lo,_,_,_,_,rfl,s1 _ _ hhi,s1 _ _ hlo,⟨b2 kb1 (by decide),b1,b2 kb (by decide),b1⟩,_,rfl,a6 (by simp;omega) ?_⟩;exact lowEnd (.inr (by omega)) _ _ _ _ _ _ H1 s1
   ·have c2:¬((k:Int)*leL u.2 v.2+leA c u.2 v.2)*1<(k:Int)*leL u.2 v.2:=bZ c2
    refine⟨_,rfl,_,rfl,hi,pl,_,_,_,_,rfl,s1 _ _ hhi,f1,⟨b2 kb1 (by decide),b1,b2 bt (by decide),b2 bL (by decide)⟩,_,rfl,aT (λc3=>?_) (λc3=>?_)⟩
    ·have c3:((k:Int)+1)*leL u.2 v.2<((k:Int)*leL u.2 v.2+leA c u.2 v.2)*1:=bP c3
     rw[Int.add_mul,Int.one_mul]at c3;refine⟨_,rfl,rw' hi ((k:Int)+1) 1 _ _ _ _ _ _ H1 s1 (s1 _ _ hhi) ⟨by decide,by decide⟩ (ap kb1 (by decide)) (by omega) (by omega) ?_⟩;unfold leF;rw[if_neg (by omega),if_pos (by omega)];have e4:sqI c v.2=sqI c u.2 - 2*leA c u.2 v.2+leL u.2 v.2:=by
      unfold sqI leA leL
      grind
     simp only[e4];rw[show(k:Int)+1 - (k:Int)*1=1 by omega];omega
    ·have c3:¬((k:Int)+1)*leL u.2 v.2<((k:Int)*leL u.2 v.2+leA c u.2 v.2)*1:=bZ c3
     rw[Int.add_mul,Int.one_mul]at c3;refine rw' pl _ (leL u.2 v.2) _ _ _ _ _ _ H1 s1 f1 ⟨by omega,bL⟩ (ap bt (by decide)) (by omega) (by rw[Int.add_mul,Int.one_mul];omega) ?_;unfold leF;rw[if_neg (by omega),if_neg (by omega)];simp only;rw[show(k:Int)*leL u.2 v.2+leA c u.2 v.2 - (k:Int)*leL u.2 v.2=leA c u.2 v.2 by omega];generalize leA c u.2 v.2=al;generalize leL u.2 v.2=LV;generalize sqI c u.2=G
     grind
  ·have c1:¬leL u.2 v.2>0:=bZ c1
   have b2:ax (k:Int)<=2000/\ax ((k:Int)+1)<=2000:=⟨ap kb (by decide),ap kb1 (by decide)⟩;have b1:ax 1<=2000:=by decide
   refine⟨_,rfl,_,rfl,lo,lo,_,_,_,_,rfl,hlo,hlo,⟨b2.1,b1,b2.1,b1⟩,_,rfl,a6 (by simp) ?_⟩;refine⟨_,rfl,_,rfl,hi,lo,_,_,_,_,rfl,hhi,hlo,⟨b2.2,b1,b2.1,b1⟩,_,rfl,a6 (by simp;omega) ?_⟩;exact lowEnd (.inl (by omega)) _ _ _ _ _ _ H (Same.refl _)
inductive Gr (vs:List V) (H:Hp) (Q:VK) (x_3:XK):Prop
 | mk:∀a b:Int,(vs = [.int a,.int b])->((0<=a/\0<b))->(ax b<=1000)->(∀(p:Addr) (t u:Int) (H':Hp),CG a b t u->Same H H'->H' p=some (.tup [.int t,.int u])->Q (.ref p) H')->Gr vs H Q x_3
theorem wv{A B t u:Int}(hA:0<=A)(hB:0<B)(f:CG A B t u):0<=t/\t<=A/\u<=B:=by
 obtain⟨e1,e2⟩:=nY (by omega) f (ib hB);rw[e1,e2];exact⟨Int.ediv_nonneg hA (by omega),Int.ediv_le_self _ hA,Int.ediv_le_self _ (by omega)⟩
theorem qj{H:Hp}{p:Addr}{a b A B t u:Int}(h:H p=some (.tup [.int t,.int u]))(f:CG a b t u)(hb:0<b)(e:a*B=A*b)(hA:0<=A)(hB:0<B)(bA:ax A<=230)(bB:ax B<=130):Sq H p t u/\Em t u/\0<=t:=by
 have f2:=sx hb f e;obtain⟨h0,h1,h2⟩:=wv hA hB f2;exact⟨⟨h,cT h0 h1 bA,cT (Int.le_of_lt f2.low.pos) h2 bB⟩,f.low,h0⟩
inductive Gs (vs:List V) (H:Hp) (Q:VK) (x_3:XK):Prop
 | mk:∀(p l1 l2:Addr) (qs rs:Crn),(vs = [.ref p,.ref l1,.ref l2])->(Pol H p)->((LineM H l1 qs/\LineM H l2 rs))->((p≠l1/\p≠l2))->((1<=qs.length/\qs.length<=20))->((1<=rs.length/\rs.length<=20))->(∀(z:Addr) (a b:Int) (H':Hp),But p H H'->Pol H' p->Sq H' z a b->Em a b->0<=a->Q (.ref z) H')->Gs vs H Q x_3
theorem yy{c x y:Int×Int}{N D:Int}(hN:0<=N)(hD:0<D)(e:N*(leF c x y).2=(leF c x y).1*D):0<=(leF c x y).1:=by
 rcases Int.lt_or_le (leF c x y).1 0 with h|h
 ·have h1:=Int.mul_neg_of_neg_of_pos h hD
  have h2:=Int.mul_nonneg hN (Int.le_of_lt (gf c x y));omega
 ·exact h
theorem Dw:AQ ["top","bottom","by"] ["top","bottom"] (aq (top 88)):=smk
theorem kL(EW:Df K mg "_law_lowest" (top 88))(CU:Fn P w K mg base "_law_shared" ["a","b"] 1 Gh):Fn P w K mg base "_law_lowest" ["top","bottom"] 2 Gr:=by
 refine EW.fn Dw (λ_ _ _ _ _ _ us hl=>by obtain⟨_,_,rfl⟩:=dh hl;rfl) (λvs H Q E h=>?_) (λf cdv A outer s H vs Q E hr h=>?_)
 ·obtain⟨a,b,rfl,_⟩:=h
  rfl
 ·obtain⟨a,b,rfl,⟨ha,hb⟩,bb,q⟩:=h
  refine⟨_,(ag (ay (i:=2) Dw.nd rfl (Or.inl rfl) (aF CU (hr.mono (by decide)) (by rfl) (ad (pv 0) (ad (pv 1) ak)))) (am (aB (aG (ad (ao cR (pv 0) (pv 2)) (ad (ao cR (pv 1) (pv 2)) ak)))))),?_⟩;have hg:=jt (a:=a) (b:=b) (by omega);have bg:ax (Int.gcd a b:Int)<=8000:=ap (lJ (by omega) bb) (by decide);refine⟨_,rfl,_,rfl,a,b,rfl,by omega,?_⟩;refine⟨_,rfl,_,rfl,_,_,rfl,rfl,⟨hg,bg⟩,_,rfl,_,rfl,_,_,rfl,rfl,⟨hg,bg⟩,sz (by simp),λp H1 s1 f1 n1=>?_⟩;exact q p _ _ H1 (ib hb) s1 f1
theorem Bh:AQ ["pool","one","other","way","corner","k","high","least","left","down","more"] ["pool","one","other"] (aq (top 89)):=smk
theorem mJ(Fc:Df K mg "_law_leash" (top 89))(AR:Fn P w K mg base "_law_take" ["pool","many"] 1 Dj)(Bx:Fn P w K mg base "_law_least" ["corner","line","low","high"] 2 FW)(BG:Fn P w K mg base "_law_lowest" ["top","bottom"] 2 Gr)(T:Txt mg):Fn P w K mg base "_law_leash" ["pool","one","other"] 3 Gs:=by
 refine Fc.fn Bh (λ_ _ _ _ _ _ us hl=>by obtain⟨_,_,_,rfl⟩:=iG hl;rfl) (λvs H Q E h=>?_) (λf cdv A outer s H vs Q E hr h=>?_)
 ·obtain⟨p,l1,l2,qs,rs,rfl,_⟩:=h
  rfl
 ·obtain⟨p,l1,l2,qs,rs,rfl,po,⟨La,Lb⟩,⟨np1,np2⟩,⟨h1,h20⟩,⟨g1,g20⟩,q⟩:=h
  refine⟨_,(ag (ay (i:=3) Bh.nd rfl (Or.inl rfl) (aF AR (hr.mono (by decide)) (by rfl) (ad (pv 0) (ad af ak)))) (ag (ay (i:=4) Bh.nd rfl (Or.inl rfl) (az aY (pv 1) (aF AR (hr.mono (by decide)) (by rfl) (ad (pv 0) (ad (aQ aS (by rfl) T.z_len cS (ad (pv 1) ak)) ak))) (λ_ _=>rfl))) (ag (ay (i:=5) Bh.nd rfl (Or.inl rfl) (aF AR (hr.mono (by decide)) (by rfl) (ad (pv 0) (ad (aQ aS (by rfl) T.z_len cS (ad (pv 2) ak)) ak)))) (ag (ay (i:=6) Bh.nd rfl (Or.inl rfl) (aG (ad (aQ (gs rfl) (by rfl) T.z_min mR (ad (ao aK (pv 5) af) (ad (ao aL (aQ aS (by rfl) T.z_len cS (ad (pv 2) ak)) af) ak))) (ad af ak)))) (ag (ay (i:=7) Bh.nd rfl (Or.inl rfl) (aF Bx (hr.mono (by decide)) (by rfl) (ad (pv 4) (ad (pv 2) (ad (aG (ad (pv 5) (ad af ak))) (ad (pv 6) ak)))))) (ag (aM (aE dG (pv 3) af (aH _)) (am (aB (aF BG (hr.mono (by decide)) (by rfl) (ad (az ar (pv 7) af (λ_ _=>rfl)) (ad (az ar (pv 7) af (λ_ _=>rfl)) ak))))) aI) (ag (aM (aE bR (pv 3) af (aH _)) (ag (ay (i:=8) Bh.nd rfl (Or.inl rfl) (ao aL (az ar (pv 4) af (λ_ _=>rfl)) (az ar (az aY (pv 2) (pv 5) (λ_ _=>rfl)) af (λ_ _=>rfl)))) (ag (ay (i:=9) Bh.nd rfl (Or.inl rfl) (ao aL (az ar (pv 4) af (λ_ _=>rfl)) (az ar (az aY (pv 2) (pv 5) (λ_ _=>rfl)) af (λ_ _=>rfl)))) (am (aB (aG (ad (ao aK (ao aA (pv 8) (pv 8)) (ao aA (pv 9) (pv 9))) (ad af ak))))))) aI) (ag (ay (i:=10) Bh.nd rfl (Or.inl rfl) (ao aK af (aF AR (hr.mono (by decide)) (by rfl) (ad (pv 0) (ad af ak))))) (ag (aM (aE bR (pv 3) af (aH _)) (am (aB (aF BG (hr.mono (by decide)) (by rfl) (ad (ao aK (ao aA (az ar (pv 7) af (λ_ _=>rfl)) (pv 10)) (ao aA (aF AR (hr.mono (by decide)) (by rfl) (ad (pv 0) (ad af ak))) (az ar (pv 7) af (λ_ _=>rfl)))) (ad (ao aA (az ar (pv 7) af (λ_ _=>rfl)) (pv 10)) ak))))) aI) (ag (aM (aE bR (pv 3) af (aH _)) (am (aB (aF BG (hr.mono (by decide)) (by rfl) (ad (ao aA (az ar (pv 7) af (λ_ _=>rfl)) (ao aK af (pv 10))) (ad (ao aA (az ar (pv 7) af (λ_ _=>rfl)) af) ak))))) aI) (am (aB (aF BG (hr.mono (by decide)) (by rfl) (ad (aF AR (hr.mono (by decide)) (by rfl) (ad (pv 0) (ad af ak))) (ad (pv 10) ak))))))))))))))),?_⟩;have hlq:(qs.map λ(q:Addr×Int×Int)=>V.ref q.1).length=qs.length:=List.length_map _;have hlr:(rs.map λ(q:Addr×Int×Int)=>V.ref q.1).length=rs.length:=List.length_map _;refine⟨_,rfl,p,_,rfl,po,⟨by decide,by decide⟩,λway H1 a1 b1 B1 P1=>?_⟩;have L1:=bC La B1 po np1;refine⟨_,rfl,_,rfl,_,rfl,l1,_,rfl,.inl (SqL.of L1.lst),p,_,rfl,P1,⟨by rw[hlq];omega,by rw[hlq];exact ap (bT (by omega) (by omega)) (by decide)⟩,λi H2 a2 b2 B2 P2=>?_⟩;rw[hlq]at b2;have L2':=bC L1 B2 P1 np1;obtain⟨w,hw,aw⟩:=kl (qs:=qs) a2 b2;have cw:=(dZ L2').cnA hw;refine⟨l1,_,_,_,rfl,rfl,SqL.of L2'.lst,aw,?_⟩;have R2:=bC (bC Lb B1 po np2) B2 P1 np2;refine⟨_,rfl,_,rfl,l2,_,rfl,.inl (SqL.of R2.lst),p,_,rfl,P2,⟨by rw[hlr];omega,by rw[hlr];exact ap (bT (by omega) (by omega)) (by decide)⟩,λk H3 a3 b3 B3 P3=>?_⟩;rw[hlr]at b3;have R3:=bC R2 B3 P2 np2;have cw3:=(dZ (bC L2' B3 P2 np1)).cnA hw;refine⟨_,rfl,_,_,rfl,rfl,_,rfl,l2,_,rfl,.inl (SqL.of R3.lst),_,_,rfl,rfl,_,_,rfl,sz (by simp),λhp H4 s4 f4 n4=>?_⟩;rw[hlr]at f4;obtain⟨u,hu,au⟩:=kl (qs:=rs) a3 b3;obtain⟨k',v,hv,hkk,ek⟩:∃(k':Nat) (v:Addr×Int×Int),rs[k']? = some v/\((k'=k.toNat/\k.toNat+1=rs.length)\/k'=k.toNat+1)/\(if (rs.length:Int) - 1<k+1 then (rs.length:Int) - 1 else k+1)=(k':Int):=by
   by_cases c:(rs.length:Int) - 1<k+1
   ·exact⟨k.toNat,u,hu,.inl ⟨rfl,by omega⟩,by rw[if_pos c];omega⟩
   ·exact⟨k.toNat+1,rs[k.toNat+1]'(by omega),List.getElem?_eq_getElem _,.inr rfl,by rw[if_neg c];omega⟩
  rw[ek]at f4;refine⟨_,rfl,_,rfl,_,rfl,sz (by simp),λlp H5 s5 f5 n5=>?_⟩;have S5:=s4.trans s5;refine⟨_,rfl,w.1,l2,lp,hp,rs,w.2,k.toNat,k',u,v,rfl,⟨S5 _ _ cw3.1,cw3.2⟩,⟨(dZ R3).mono S5,g20⟩,hu,hv,hkk,by rw[show((k.toNat:Nat):Int)=k by omega];exact f5,s5 _ _ f4,λls N D H6 s6 f6 ⟨hD,bD⟩ ⟨hN,bN⟩ eF=>?_⟩;have S6:=S5.trans s6;have B6:But p H H6:=(B1.trans B2).trans (B3.trans (But.of S6));have P6:=P3.same S6;have cu:=(dZ R3).cnA hu;have cv:=(dZ R3).cnA hv;have lb:=xv cw.2 cu.2 cv.2;have lp:=gf w.2 u.2 v.2;have ln:=yy hN hD eF;refine⟨_,rfl,_,_,rfl,rfl,_,rfl,aT (λc1=>?_) (λc1=>?_)⟩
  ·refine⟨_,rfl,ls,_,_,_,rfl,rfl,SqT.of (f6),rfl,_,rfl,ls,_,_,_,rfl,rfl,SqT.of (f6),rfl,N,D,rfl,⟨hN,hD⟩,ap bD (by decide),λz t y H7 fr s7 f7=>?_⟩
   obtain⟨x1,x2,x3⟩:=qj f7 fr hD eF ln lp (ap lb.1 (by decide)) (ap lb.2 (by decide));exact q z t y H7 (B6.trans (But.of s7)) (P6.same s7) x1 x2 x3
  refine⟨_,rfl,rfl,_,rfl,aT (λc2=>?_) (λc2=>?_)⟩
  ·have cw6:=S6 _ _ cw3.1
   have R6:=R3.mono S6;have cu6:=S6 _ _ cu.1;have bs:∀{x y:Int},ax x<=50->ax y<=50->ax (x - y)<=51:=λhx hy=>aW hx hy;have d1:=bs cw.2.1 cu.2.1;have d2:=bs cw.2.2 cu.2.2;refine⟨_,rfl,w.1,_,_,_,rfl,rfl,SqT.of cw6,rfl,_,rfl,_,rfl,l2,_,_,_,rfl,rfl,SqL.of R6.lst,au,u.1,_,_,_,rfl,rfl,SqT.of cu6,rfl,_,_,rfl,rfl,?_⟩;refine⟨_,rfl,w.1,_,_,_,rfl,rfl,SqT.of cw6,rfl,_,rfl,_,rfl,l2,_,_,_,rfl,rfl,SqL.of R6.lst,au,u.1,_,_,_,rfl,rfl,SqT.of cu6,rfl,_,_,rfl,rfl,?_⟩;refine⟨_,rfl,_,rfl,_,_,rfl,rfl,CM.b d1 d1 (by decide) (by decide),_,rfl,_,rfl,_,_,rfl,rfl,CM.b d2 d2 (by decide) (by decide),_,_,rfl,rfl,sz (by simp),λz H7 s7 f7 n7=>?_⟩;have e:(w.2.1 - u.2.1)*(w.2.1 - u.2.1)+(w.2.2 - u.2.2)*(w.2.2 - u.2.2)=sqI w.2 u.2:=rfl;rw[e]at f7;exact q z _ _ H7 (B6.trans (But.of s7)) (P6.same s7) ⟨f7,ap (d6 cw.2 cu.2) (by decide),by decide⟩ ⟨by decide,Int.gcd_one_right _⟩ (oU _ _)
  refine⟨_,rfl,p,_,rfl,P6,⟨by decide,by decide⟩,λmo H7 a7 b7 B7 P7=>⟨_,_,rfl,rfl,?_⟩⟩;have f7:=P6.t B7 _ _ f6;have B67:=B6.trans B7;have bm:ax (1+mo)<=10:=bT (by omega) (by omega);have b1k:ax (1000:Int)<=10:=by decide
  have bm2:ax (1000+(1+mo))<=11:=bU b1k bm;refine⟨_,rfl,rfl,_,rfl,aT (λc3=>?_) (λc3=>?_)⟩
  ·refine⟨_,rfl,ls,_,_,_,rfl,rfl,SqT.of (f7),rfl,_,rfl,_,_,rfl,rfl,CM.b bN bm (by decide) (by decide),_,rfl,p,_,rfl,P7,⟨by decide,by decide⟩,λr8 H8 a8 b8 B8 P8=>?_⟩
   have f8:=P7.t B8 _ _ f7;have br:ax r8<=10:=bT (by omega) (by omega);refine⟨_,rfl,ls,_,_,_,rfl,rfl,SqT.of (f8),rfl,_,_,rfl,rfl,CM.b br bD (by decide) (by decide),_,_,rfl,rfl,_,rfl,ls,_,_,_,rfl,rfl,SqT.of (f8),rfl,_,rfl,_,_,rfl,rfl,CM.b bD bm (by decide) (by decide),?_⟩;have hA:0<=N*(1+mo)+r8*D:=Int.add_nonneg (Int.mul_nonneg hN (by omega)) (Int.mul_nonneg a8 (by omega));have hB:0<D*(1+mo):=Int.mul_pos hD (by omega);refine⟨_,_,rfl,⟨hA,hB⟩,ap (bits_mul bD bm) (by decide),λz t y H9 fr s9 f9=>?_⟩;have e:(N*(1+mo)+r8*D)*((leF w.2 u.2 v.2).2*(1+mo))=((leF w.2 u.2 v.2).1*(1+mo)+r8*(leF w.2 u.2 v.2).2)*(D*(1+mo)):=by
    generalize 1+mo=M;generalize (leF w.2 u.2 v.2).1=F1 at eF;generalize (leF w.2 u.2 v.2).2=F2 at eF;have e1:N*M*(F2*M)=F1*M*(D*M):=by
     rw[show N*M*(F2*M)=N*F2*(M*M) by grind,eF]
     grind
    rw[Int.add_mul,Int.add_mul,e1]
    grind
   obtain⟨x1,x2,x3⟩:=qj f9 fr hB e (Int.add_nonneg (Int.mul_nonneg ln (by omega)) (Int.mul_nonneg a8 (by omega))) (Int.mul_pos lp (by omega)) (ap (bU (bits_mul lb.1 bm) (ap (bits_mul br lb.2) (by decide))) (by decide)) (ap (bits_mul lb.2 bm) (by decide));exact q z t y H9 ((B67.trans B8).trans (But.of s9)) (P8.same s9) x1 x2 x3
  refine⟨_,rfl,rfl,_,rfl,aT (λc4=>?_) (λc4=>?_)⟩
  ·refine⟨_,rfl,ls,_,_,_,rfl,rfl,SqT.of (f7),rfl,_,rfl,_,_,rfl,rfl,_,_,rfl,rfl,CM.b bN bm2 (by decide) (by decide),_,rfl,ls,_,_,_,rfl,rfl,SqT.of (f7),rfl,_,_,rfl,rfl,CM.b bD b1k (by decide) (by decide),?_⟩
   have hA:0<=N*(1000+(1+mo)):=Int.mul_nonneg hN (by omega);have hB:0<D*1000:=by omega
   refine⟨_,_,rfl,⟨hA,hB⟩,ap (bits_mul bD b1k) (by decide),λz t y H9 fr s9 f9=>?_⟩;have e:N*(1000+(1+mo))*((leF w.2 u.2 v.2).2*1000)=(leF w.2 u.2 v.2).1*(1000+(1+mo))*(D*1000):=by
    generalize 1000+(1+mo)=M;generalize (leF w.2 u.2 v.2).1=F1 at eF;generalize (leF w.2 u.2 v.2).2=F2 at eF;rw[show N*M*(F2*1000)=N*F2*(M*1000) by grind,eF]
    grind
   obtain⟨x1,x2,x3⟩:=qj f9 fr hB e (Int.mul_nonneg ln (by omega)) (by omega) (ap (bits_mul lb.1 bm2) (by decide)) (ap (bits_mul lb.2 b1k) (by decide));exact q z t y H9 (B67.trans (But.of s9)) (P7.same s9) x1 x2 x3
  refine⟨_,rfl,p,_,rfl,P7,⟨by decide,by decide⟩,λr8 H8 a8 b8 B8 P8=>⟨_,rfl,?_⟩⟩;refine⟨_,_,rfl,⟨a8,by omega⟩,ap bm (by decide),λz t y H9 fr s9 f9=>?_⟩;obtain⟨x1,x2,x3⟩:=qj f9 fr (show 0<1+mo by omega) rfl a8 (by omega) (ap (bT (by omega) (by omega)) (by decide)) (ap bm (by decide));exact q z t y H9 ((B67.trans B8).trans (But.of s9)) (P8.same s9) x1 x2 x3
noncomputable def sqE(cx cy x y:Int):Int:=(cx - x)*(cx - x)+(cy - y)*(cy - y)
noncomputable def bsT(cx cy bx by_ ex ey:Int):Int:=um (cM bx by_ ex ey) (rAl cx cy bx by_ ex ey) (sqE cx cy bx by_)
noncomputable def bsB(cx cy bx by_ ex ey:Int):Int:=rR (cM bx by_ ex ey) (rAl cx cy bx by_ ex ey)
theorem vN(bx by_ ex ey:Int):0<=cM bx by_ ex ey:=Int.add_nonneg (sqx _) (sqx _)
theorem wt{cx cy bx by_ ex ey a b:Int}(hb:0<b):(cP cx cy bx by_ ex ey a b 0).isSome = !decide (a*bsB cx cy bx by_ ex ey<bsT cx cy bx by_ ex ey*b):=by
 have nn:∀x:Int,sg x<0↔x<0:=λx=>by
  unfold sg
  split
  ·omega
  ·split <;> omega
 have key:pwN cx cy bx by_ ex ey a b 0=decide (a*bsB cx cy bx by_ ex ey<bsT cx cy bx by_ ex ey*b):=by
  by_cases h:[bx,by_] = [ex,ey]
  ·have h1:bx=ex:=by injection h
   have h2:by_=ey:=by injection h with _ h;injection h
   subst h1 h2;have e0:cM bx by_ bx by_=0:=by unfold cM;rw[Int.sub_self,Int.sub_self];rfl
   unfold pwN bsB bsT um rR;rw[if_pos rfl,if_pos (.inl e0),if_pos (.inl e0),Int.mul_one];unfold lo sqE;rw[show(bx - cx)*(bx - cx)+(by_ - cy)*(by_ - cy)=(cx - bx)*(cx - bx)+(cy - by_)*(cy - by_) by grind];have:=nn (a - ((cx - bx)*(cx - bx)+(cy - by_)*(cy - by_))*b);rw[Bool.eq_iff_iff,Bool.not_eq_true',decide_eq_false_iff_not,decide_eq_true_eq];omega
  ·have g:=(qG (cx:=cx) (cy:=cy) (x:=a) h hb).none_iff
   unfold pwN;rw[if_neg h,Bool.eq_iff_iff,Bool.or_eq_true,Bool.or_eq_true,decide_eq_true_eq,decide_eq_true_eq,decide_eq_true_eq,decide_eq_true_eq];exact g
 unfold cP;rw[key];cases decide (a*bsB cx cy bx by_ ex ey<bsT cx cy bx by_ ex ey*b) <;> rfl
theorem wN(cx cy bx by_ ex ey:Int):0<bsB cx cy bx by_ ex ey:=by
 have:=vN bx by_ ex ey;unfold bsB rR
 split
 ·decide
 ·split
  ·decide
  ·omega
theorem xJ{wy:Str}{n m:Nat}{G:GF}{F:Int->Int->Bool}{ps:List Pr}(hn:1<=n)(hm:1<=m)(h:wT wy n m G F ps)(z:NoW wy n m G F):False:=by
 obtain⟨x,l,ps0,hx,_,_,_,h⟩:=h;obtain⟨hx1,hx2⟩:=List.mem_filter.mp (List.mem_of_getElem? hx);rcases h with⟨hw,hf,_⟩|⟨hw,_⟩
 ·rcases z.1 hw with z|⟨z1,z2⟩
  ·rw[hf]at z;cases z
  ·unfold iN at hx1
   rw[if_pos hw]at hx1;have e1:(n:Int) - 1=((n - 1:Nat):Int):=by omega
   have e2:(m:Int) - 1=((m - 1:Nat):Int):=by omega
   rw[e1,e2]at hx1;simp only[List.mem_cons,List.not_mem_nil,or_false]at hx1;rcases hx1 with rfl|rfl
   ·rw[z1]at hx2;cases hx2
   ·rw[z2]at hx2;cases hx2
 ·unfold iN at hx1
  rw[if_neg (λz=>cO (z.symm.trans hw))]at hx1;obtain⟨j,hj,rfl⟩:=List.mem_map.mp hx1;rw[z.2 hw j (List.mem_range.mp hj)]at hx2;cases hx2
noncomputable abbrev nB:N4:=(0,0,0,1)
noncomputable abbrev nE:N4:=(1,0,0,1)
noncomputable def cr(qs:Crn)(i:Nat):Int×Int:=(qs.getD i (0,0,0)).2
theorem uk{a b N D A B:Int}(hD:0<D)(hB:0<B)(e:N*B=A*D):a*D<N*b↔a*B<A*b:=by
 have e1:B*(N*b)=D*(A*b):=by
  rw[show B*(N*b)=N*B*b by grind,e]
  grind
 have e2:B*(a*D)=D*(a*B):=by grind
 constructor
 ·intro h
  have:=Int.mul_lt_mul_of_pos_left h hB;rw[e1,e2]at this;exact Int.lt_of_mul_lt_mul_left this (by omega)
 ·intro h
  have:=Int.mul_lt_mul_of_pos_left h hD;rw[<- e1,<- e2]at this;exact Int.lt_of_mul_lt_mul_left this (by omega)
theorem yz(c x y:Int×Int):(leF c x y).1*bsB c.1 c.2 x.1 x.2 y.1 y.2=bsT c.1 c.2 x.1 x.2 y.1 y.2*(leF c x y).2:=by
 have e1:cM x.1 x.2 y.1 y.2=leL x y:=rfl;have e2:rAl c.1 c.2 x.1 x.2 y.1 y.2=leA c x y:=rfl;have e3:sqE c.1 c.2 x.1 x.2=sqI c x:=rfl;have e4:sqI c y=sqI c x - 2*leA c x y+leL x y:=by
  unfold sqI leA leL
  grind
 unfold bsB bsT rR um leF;rw[e1,e2,e3];generalize sqI c x=C at e4;rw[e4];have nL:=pH x y;generalize leL x y=A at nL;generalize leA c x y=B
 by_cases h0:A=0
 ·rw[if_pos (.inl h0),if_pos (.inl h0),if_pos (.inl h0)]
 by_cases h1:B<0
 ·rw[if_pos (.inr h1),if_pos (.inr (by omega)),if_pos (.inr (by omega))]
 rw[if_neg (by omega)]
 by_cases h2:A<B
 ·rw[if_pos h2,if_neg (by omega),if_pos (by omega),if_neg (by omega),if_pos (by omega)]
  dsimp only;omega
 rw[if_neg h2]
 by_cases h3:B=0
 ·subst h3
  rw[if_pos (.inr (by omega)),if_pos (.inr (by omega))];dsimp only
  grind
 by_cases h4:B=A
 ·subst h4
  rw[if_neg (by omega),if_pos (by omega),if_neg (by omega),if_pos (by omega)];dsimp only
  grind
 ·rw[if_neg (by omega),if_neg (by omega),if_neg (by omega),if_neg (by omega)]
  dsimp only;rw[Int.mul_comm C A]
theorem qL{c x y:Int×Int}{a b:Int}(hb:0<b):cP c.1 c.2 x.1 x.2 y.1 y.2 a b 0=none↔a*(leF c x y).2<(leF c x y).1*b:=by
 have g:=wt (cx:=c.1) (cy:=c.2) (bx:=x.1) (by_:=x.2) (ex:=y.1) (ey:=y.2) (a:=a) hb;rw[uk (gf c x y) (wN c.1 c.2 x.1 x.2 y.1 y.2) (yz c x y)];cases h:cP c.1 c.2 x.1 x.2 y.1 y.2 a b 0 with
 | none =>
  rw[h]at g;have g:false = !decide _:=g;rw[eq_comm,Bool.not_eq_false',decide_eq_true_eq]at g;exact⟨λ_=>g,λ_=>rfl⟩
 | some p =>
  rw[h]at g;have g:true = !decide _:=g;rw[eq_comm,Bool.not_eq_true',decide_eq_false_iff_not]at g;exact⟨λz=>(nomatch z),λz=>absurd z g⟩
theorem uD(c x:Int×Int):leF c x x=(sqI c x,1):=by
 unfold leF;rw[if_pos (.inl (by unfold leL;rw[Int.sub_self,Int.sub_self];rfl))]
theorem lL{c x:Int×Int}{a b:Int}(hb:0<b):(a<sqI c x*b/\cP c.1 c.2 x.1 x.2 x.1 x.2 a b 0=none)\/(¬a<sqI c x*b/\cP c.1 c.2 x.1 x.2 x.1 x.2 a b 0=some (nB,nE)):=by
 have g:=qL (c:=c) (x:=x) (y:=x) (a:=a) hb;rw[uD,Int.mul_one]at g
 by_cases h:a<sqI c x*b
 ·exact .inl ⟨h,g.mpr h⟩
 ·refine .inr ⟨h,?_⟩
  cases e:cP c.1 c.2 x.1 x.2 x.1 x.2 a b 0 with
  | none=>exact absurd (g.mp e) h
  | some p =>
   unfold cP at e
   split at e
   ·cases e
   ·rw[if_pos (by simp),if_pos (by simp)]at e
    exact e.symm
theorem uU{qs rs:Crn}{a b:Int}{i j:Nat}(hi:i<qs.length)(hj:j<rs.length):(d9 qs rs a b 0 i j=true↔a<sqI (cr qs i) (cr rs j)*b):=by
 have h1:qs[i]? = some qs[i]:=List.getElem?_eq_getElem hi;have h2:rs[j]? = some rs[j]:=List.getElem?_eq_getElem hj;have e1:cr qs i=qs[i].2:=by unfold cr;rw[List.getD_eq_getElem?_getD,h1];rfl
 have e2:cr rs j=rs[j].2:=by unfold cr;rw[List.getD_eq_getElem?_getD,h2];rfl
 rw[qO h1 h2,decide_eq_true_eq,e1,e2];generalize qs[i].2=c;generalize rs[j].2=d;unfold lo;rw[show(d.1 - c.1)*(d.1 - c.1)+(d.2 - c.2)*(d.2 - c.2)=sqI c d by unfold sqI;grind];unfold sg
 split
 ·omega
 ·split <;> omega
theorem qJ{qs rs:Crn}{a b:Int}{i j:Nat}:cB qs rs a b 0 0 i j=cP (cr qs i).1 (cr qs i).2 (cr rs j).1 (cr rs j).2 (cr rs (j+1)).1 (cr rs (j+1)).2 a b 0:=by
 unfold cB;rw[if_pos rfl];unfold cnX cnY cr;rw[show((j:Int)+1).toNat=j+1 by omega,Int.toNat_natCast,Int.toNat_natCast]
theorem wq{qs rs:Crn}{a b:Int}{i j:Nat}:cB qs rs a b 0 1 i j=cP (cr rs j).1 (cr rs j).2 (cr qs i).1 (cr qs i).2 (cr qs (i+1)).1 (cr qs (i+1)).2 a b 0:=by
 unfold cB;rw[if_neg (by decide)];unfold cnX cnY cr;rw[show((i:Int)+1).toNat=i+1 by omega,Int.toNat_natCast,Int.toNat_natCast]
section
variable {G:GF} {F:Int->Int->Bool} {n m:Nat}
theorem yk{r:Rv}{sd td:Dor}(h:r.lo=nB):pas (some (nB,nE)) (some r) none sd td=some ⟨nB,nE,some sd⟩:=by
 unfold pas;dsimp only;rw[if_neg (by simp),h];rfl
theorem yj{r:Rv}{st:Option Rv}{sd td:Dor}:pas (some (nB,nE)) st (some r) sd td=some ⟨nB,nE,some td⟩:=by
 unfold pas;exact if_pos rfl
theorem tW{p:N4×N4}{sd td:Dor}:pas (some p) none none sd td=none:=by
 unfold pas;dsimp only;rw[if_neg (by simp)]
noncomputable def Ch(o:Option Rv)(f:Nat->Bool)(j:Nat):Prop:=((∀k,k<=j->f k=false)->∃r,o=some r/\r.lo=nB)/\((∃k,k<=j/\f k=true)->o=none)
theorem Ch.succ{o:Option Rv}{g:Option (N4×N4)}{f:Nat->Bool}{j:Nat}{sd td:Dor}(h:Ch o f j)(hg:(f (j+1)=true/\g=none)\/(f (j+1)=false/\g=some (nB,nE))):Ch (pas g o none sd td) f (j+1):=by
 refine⟨λal=>?_,λ⟨k,hk,fk⟩=>?_⟩
 ·obtain⟨r,e,lo⟩:=h.1 λk hk=>al k (by omega)
  rcases hg with⟨z,_⟩|⟨_,rfl⟩
  ·rw[al (j+1) (Nat.le_refl _)]at z
   cases z
  ·rw[e,yk lo]
   exact⟨_,rfl,rfl⟩
 ·rcases hg with⟨_,rfl⟩|⟨z,rfl⟩
  ·rfl
  ·have:k≠j+1:=λe=>by rw[e,z]at fk;cases fk
   rw[h.2 ⟨k,by omega,fk⟩,tW]
theorem uF(hG:∀j:Nat,1<=j->j<=m->(F 0 j=true/\G 1 0 j=none)\/(F 0 j=false/\G 1 0 j=some (nB,nE))):∀j:Nat,j+1<=m->Ch (Lc G (Uc G (bgR wOn G F m) 0) 0 (j+1)) (λk=>F 0 k) (j+1)
 | 0,h=>by
  have e:Lc G (Uc G (bgR wOn G F m) 0) 0 (0+1)=pas (G 1 0 ((0+1:Nat):Int)) none (bgR wOn G F m 0) (1,((0:Nat):Int),((0:Nat):Int)) (0,((0:Nat):Int),((0:Nat):Int)):=rfl;rw[e];have eb:bgR wOn G F m 0=if F 0 0=false then some ⟨nB,nB,none⟩ else none:=by
   unfold bgR;rw[if_pos rfl]
   by_cases z:F 0 0=false
   ·rw[if_pos ⟨rfl,z⟩,if_pos z]
   ·rw[if_neg (λy=>z y.2),if_neg z]
  rw[eb];refine⟨λal=>?_,λ⟨k,hk,fk⟩=>?_⟩
  ·have al:∀k:Nat,k<=0+1->F 0 (k:Int)=false:=al
   rcases hG 1 (by omega) h with⟨z,_⟩|⟨_,z⟩
   ·have:=al 1 (Nat.le_refl _)
    rw[z]at this;cases this
   ·rw[show((0+1:Nat):Int)=((1:Nat):Int) from rfl,z,if_pos (show F 0 0=false from al 0 (by omega)),yj]
    exact⟨_,rfl,rfl⟩
  ·rcases hG 1 (by omega) h with⟨_,z⟩|⟨y,z⟩
   ·rw[show((0+1:Nat):Int)=((1:Nat):Int) from rfl,z]
    rfl
   ·have:k≠1:=λe=>by
     have fk:F 0 (k:Int)=true:=fk;rw[e,y]at fk;cases fk
    obtain rfl:k=0:=by omega
    have fk:F 0 ((0:Nat):Int)=true:=fk;rw[show((0+1:Nat):Int)=((1:Nat):Int) from rfl,z,if_neg (λw=>by rw[show((0:Nat):Int)=0 from rfl,w]at fk;cases fk),tW]
 | j+1,h=>by
  have e:Lc G (Uc G (bgR wOn G F m) 0) 0 (j+1+1)=pas (G 1 0 ((j+1+1:Nat):Int)) (Lc G (Uc G (bgR wOn G F m) 0) 0 (j+1)) (bgR wOn G F m (j+1)) (1,((0:Nat):Int),((j+1:Nat):Int)) (0,((0:Nat):Int),((j+1:Nat):Int)):=rfl;have eb:bgR wOn G F m (j+1)=none:=by
   unfold bgR;rw[if_pos rfl,if_neg (λz=>absurd z.1 (by omega))]
  rw[e,eb];exact(uF hG j (by omega)).succ (hG (j+1+1) (by omega) h)
theorem yt(hm:1<=m)(hF:F 1 m=F 0 m)(hG:∀j:Nat,1<=j->j<=m->(F 0 j=true/\G 1 0 j=none)\/(F 0 j=false/\G 1 0 j=some (nB,nE))):NoW wOn 1 m G F↔∃j:Nat,j<=m/\F 0 j=true:=by
 have e0:((1 - 1:Nat):Int)=((0:Nat):Int):=rfl;have u:∀j:Nat,j<m->RR wOn G F 1 m (0,((0:Nat):Int),(j:Int))=bgR wOn G F m j:=λj hj=>ko (by omega) hj;have l:∀j:Nat,j<=m->RR wOn G F 1 m (1,((0:Nat):Int),(j:Int))=Lc G (Uc G (bgR wOn G F m) 0) 0 j:=λj hj=>pV (by omega) hj;have b0:F 0 0=true->bgR wOn G F m 0=none:=λh=>by
  unfold bgR;rw[if_pos rfl,if_neg (λz=>by rw[h]at z;cases z.2)]
 constructor
 ·intro h
  have h:=h.1 rfl;rw[e0,u _ (by omega),l _ (by omega)]at h;rcases h with h|⟨h1,h2⟩
  ·exact⟨m,Nat.le_refl _,by rw[<- hF];exact h⟩
  ·refine Classical.byContradiction λz=>?_
   have al:∀k:Nat,k<=m->F 0 (k:Int)=false:=λk hk=>by
    cases e:F 0 (k:Int) with
    | false=>rfl
    | true=>exact absurd ⟨k,hk,e⟩ z
   rcases Nat.lt_or_ge 1 m with c|c
   ·obtain⟨j,rfl⟩:∃j,m=j+1+1:=⟨m - 2,by omega⟩
    obtain⟨r,e,_⟩:=(uF hG j (by omega)).1 λk hk=>al k (by omega);rw[show j+1+1 - 1=j+1 by omega,e]at h2;cases h2
   ·obtain rfl:m=1:=by omega
    have:bgR wOn G F 1 0=some ⟨nB,nB,none⟩:=by
     unfold bgR;rw[if_pos rfl,if_pos ⟨rfl,al 0 (by omega)⟩]
    rw[show(1 - 1:Nat)=0 from rfl,this]at h1;cases h1
 ·rintro⟨j,hj,fj⟩
  refine⟨λ_=>?_,λz=>absurd z cO⟩;rw[e0,u _ (by omega),l _ (by omega)]
  by_cases c:j=m
  ·left
   rw[show((1:Nat):Int)=1 from rfl,hF,<- c];exact fj
  right;rcases Nat.lt_or_ge 1 m with d|d
  ·obtain⟨i,rfl⟩:∃i,m=i+1+1:=⟨m - 2,by omega⟩
   rw[show i+1+1 - 1=i+1 by omega];refine⟨?_,(uF hG i (by omega)).2 ⟨j,by omega,fj⟩⟩;unfold bgR;rw[if_pos rfl,if_neg (λz=>absurd z.1 (by omega))]
  ·obtain rfl:m=1:=by omega
   obtain rfl:j=0:=by omega
   exact⟨b0 fj,rfl⟩
theorem sR{wy:Str}(h0:Ch (bgR wy G F 1 0) (λk=>F k 0) 0)(hG:∀i:Nat,1<=i->i<=n->(F i 0=true/\G 0 i 0=none)\/(F i 0=false/\G 0 i 0=some (nB,nE))):∀i:Nat,i<=n->Ch (Uc G (bgR wy G F 1) i 0) (λk=>F k 0) i
 | 0,_=>h0
 | i+1,h=>(sR h0 hG i (by omega)).succ (hG (i+1) (by omega) h)
theorem yr(hn:1<=n)(hF:F n 1=F n 0)(hG:∀i:Nat,1<=i->i<=n->(F i 0=true/\G 0 i 0=none)\/(F i 0=false/\G 0 i 0=some (nB,nE))):NoW wOn n 1 G F↔∃i:Nat,i<=n/\F i 0=true:=by
 have h0:Ch (bgR wOn G F 1 0) (λk=>F k 0) 0:=by
  refine⟨λal=>⟨⟨nB,nB,none⟩,?_,rfl⟩,λ⟨k,hk,fk⟩=>?_⟩
  ·unfold bgR
   rw[if_pos rfl,if_pos ⟨rfl,al 0 (by omega)⟩]
  ·obtain rfl:k=0:=by omega
   have fk:F ((0:Nat):Int) 0=true:=fk;unfold bgR;rw[if_pos rfl,if_neg (λz=>by rw[show((0:Nat):Int)=0 from rfl,z.2]at fk;cases fk)]
 have c:=sR h0 hG (n - 1) (by omega);have u:RR wOn G F n 1 (0,((n - 1:Nat):Int),((1 - 1:Nat):Int))=Uc G (bgR wOn G F 1) (n - 1) 0:=ko (j:=0) (by omega) (by omega);have l:RR wOn G F n 1 (1,((n - 1:Nat):Int),((1 - 1:Nat):Int))=none:=rn rfl rfl;constructor
 ·intro h
  have h:=h.1 rfl;rw[u,l]at h;rcases h with h|⟨h,_⟩
  ·exact⟨n,Nat.le_refl _,by rw[<- hF];exact h⟩
  ·refine Classical.byContradiction λz=>?_
   obtain⟨r,e,_⟩:=c.1 λk hk=>by
    show F (k:Int) 0=false;cases e:F (k:Int) 0 with
    | false=>rfl
    | true=>exact absurd ⟨k,by omega,e⟩ z
   rw[e]at h;cases h
 ·rintro⟨i,hi,fi⟩
  refine⟨λ_=>?_,λz=>absurd z cO⟩;rw[u,l]
  by_cases d:i=n
  ·left
   rw[show((1:Nat):Int)=1 from rfl,hF,<- d];exact fi
  ·exact .inr ⟨c.2 ⟨i,by omega,fi⟩,rfl⟩
theorem t6(hG:∀i:Nat,i<=n->(F i 0=true/\G 0 i 0=none)\/(F i 0=false/\G 0 i 0=some (nB,nE))):NoW bI n 1 G F↔∃i:Nat,i<=n/\F i 0=true:=by
 have e0:bgR bI G F 1 0=(G 0 0 0).map λp=>⟨p.1,p.2,none⟩:=by
  unfold bgR;rw[if_neg (λz=>cO z.symm),if_pos (by omega)];rfl
 have h0:Ch (bgR bI G F 1 0) (λk=>F k 0) 0:=by
  rw[e0];rcases hG 0 (by omega) with⟨z,e⟩|⟨z,e⟩
  ·have e:G 0 0 0=none:=e
   rw[e];refine⟨λal=>?_,λ_=>rfl⟩;have al:F ((0:Nat):Int) 0=false:=al 0 (by omega);rw[z]at al;cases al
  ·have e:G 0 0 0=some (nB,nE):=e
   rw[e];refine⟨λ_=>⟨_,rfl,rfl⟩,λ⟨k,hk,fk⟩=>?_⟩;obtain rfl:k=0:=by omega
   have fk:F ((0:Nat):Int) 0=true:=fk;rw[z]at fk;cases fk
 have c:=sR h0 (λi _ hi=>hG i hi) n (by omega);have u:RR bI G F n 1 (0,(n:Int),((0:Nat):Int))=Uc G (bgR bI G F 1) n 0:=ko (by omega) (by omega);constructor
 ·intro h
  have h:=h.2 rfl 0 (by omega);rw[u]at h;refine Classical.byContradiction λz=>?_;obtain⟨r,e,_⟩:=c.1 λk hk=>by
   show F (k:Int) 0=false;cases e:F (k:Int) 0 with
   | false=>rfl
   | true=>exact absurd ⟨k,hk,e⟩ z
  rw[e]at h;cases h
 ·intro h
  refine⟨λz=>absurd z.symm cO,λ_ j hj=>?_⟩;obtain rfl:j=0:=by omega
  rw[u];exact c.2 h
theorem t8(gg:GGk G)(hG:∀j:Nat,j<m->G 0 1 j=G 0 0 j):NoW bI 1 m G F↔∀j:Nat,j<m->G 0 0 j=none:=by
 have u:∀j:Nat,j<m->RR bI G F 1 m (0,((1:Nat):Int),(j:Int))=pas (G 0 0 j) ((G 0 0 j).map λp=>⟨p.1,p.2,none⟩) (Lc G (Uc G (bgR bI G F m) 0) 0 j) (0,((0:Nat):Int),(j:Int)) (1,((0:Nat):Int),(j:Int)):=λj hj=>by
  rw[ko (by omega) hj];show pas (G 0 1 j) (bgR bI G F m j) _ _ _=_;unfold bgR;rw[hG j hj,if_neg (λz=>cO z.symm),if_pos hj]
 constructor
 ·intro h j hj
  have h:=h.2 rfl j hj;rw[u j hj]at h;cases e:G 0 0 (j:Int) with
  | none=>rfl
  | some p =>
   rw[e]at h;have own:=ia (gg _ _ _ _ _ e);unfold pas at h;dsimp only[Option.map_some]at h
   split at h
   ·cases h
   ·have:mxN p.1 p.1=p.1:=by
     unfold mxN
     split <;> rfl
    rw[this,if_pos own]at h;cases h
 ·intro h
  refine⟨λz=>absurd z.symm cO,λ_ j hj=>?_⟩;rw[u j hj,h j hj];rfl
end
theorem fh(c:Addr×Int×Int):1<=[c].length/\[c].length<=10:=⟨Nat.le_refl 1,(by decide:1<=10)⟩
theorem oF(c:Addr×Int×Int):dbl [c] = [c,c]:=rfl
theorem u6{qs:Crn}(h:1<=qs.length){a b:Int}{c:Int×Int}:(∃j:Nat,j<=bH qs/\a<sqI c (cr (dbl qs) j)*b)↔∃q,q∈qs/\a<sqI c q.2*b:=by
 have mem:∀q,q∈dbl qs↔q∈qs:=λq=>by
  unfold dbl
  split
  ·rw[List.mem_append,or_self]
  ·rfl
 have e:∀j,(hj:j<(dbl qs).length)->cr (dbl qs) j=(dbl qs)[j].2:=λj hj=>by
  unfold cr;rw[List.getD_eq_getElem?_getD,List.getElem?_eq_getElem hj];rfl
 have len:bH qs<(dbl qs).length:=by
  unfold bH dbl
  split
  ·rw[List.length_append];omega
  ·omega
 constructor
 ·rintro⟨j,hj,x⟩
  rw[e j (by omega)]at x;exact⟨_,(mem _).mp (List.getElem_mem _),x⟩
 ·rintro⟨q,hq,x⟩
  obtain⟨j,hj,rfl⟩:=List.mem_iff_getElem.mp ((mem q).mpr hq);exact⟨j,by unfold bH;omega,by rw[e j hj];exact x⟩
theorem pI{wy:Str}{qs rs:Crn}{a b:Int}{wk:Bool}{ps:List Pr}(b1:1<=qs.length/\qs.length<=10)(b2:1<=rs.length/\rs.length<=10)(h:GoP wy qs rs a b wk ps):wk=false↔NoW wy (bH qs) (bH rs) (cB (dbl qs) (dbl rs) a b 0) (d9 (dbl qs) (dbl rs) a b 0):=by
 obtain⟨p0,_,h⟩:=h;cases wk with
 | true=>exact⟨λz=>(nomatch z),λz=>(xJ (dL b1).2.1 (dL b2).2.1 h z).elim⟩
 | false=>exact⟨λ_=>h.1,λ_=>rfl⟩
theorem yp{c:Addr×Int×Int}{rs:Crn}{a b:Int}{wk:Bool}{ps:List Pr}(hb:0<b)(b2:1<=rs.length/\rs.length<=10)(h:GoP wOn [c] rs a b wk ps):wk=false↔∃q,q∈rs/\a<sqI c.2 q.2*b:=by
 obtain⟨d2,m1,_⟩:=dL b2;have f:∀(i j:Nat),i<=1->j<=bH rs->(d9 (dbl [c]) (dbl rs) a b 0 i j=true↔a<sqI c.2 (cr (dbl rs) j)*b):=λi j hi hj=>by
  rw[uU (by rw[oF];show i<2;omega) (by omega),oF];have:i=0\/i=1:=by omega
  rcases this with rfl|rfl <;> rfl
 rw[pI (fh c) b2 h,<- u6 b2.1,show bH [c]=1 from rfl,yt m1 (Bool.eq_iff_iff.mpr ((f 1 _ (by omega) (Nat.le_refl _)).trans (f 0 _ (by omega) (Nat.le_refl _)).symm)) λj _ hj=>?_]
 ·exact exists_congr λj=>and_congr_right λhj=>f 0 j (by omega) hj
 ·have g:=wq (qs:=dbl [c]) (rs:=dbl rs) (a:=a) (b:=b) (i:=0) (j:=j)
  rw[show((0:Nat):Int)=0 from rfl,show cr (dbl [c]) 0=c.2 from rfl,show cr (dbl [c]) (0+1)=c.2 from rfl]at g;have fj:=f 0 j (by omega) hj;rw[show((0:Nat):Int)=0 from rfl,jE]at fj;rcases lL (c:=cr (dbl rs) j) (x:=c.2) (a:=a) hb with⟨z,e⟩|⟨z,e⟩
  ·exact .inl ⟨fj.mpr z,g.trans e⟩
  ·exact .inr ⟨Bool.eq_false_iff.mpr λy=>z (fj.mp y),g.trans e⟩
theorem qu{wy:Str}{c:Addr×Int×Int}{qs:Crn}{a b:Int}{wk:Bool}{ps:List Pr}(hw:wy=wOn\/wy=bI)(hb:0<b)(b1:1<=qs.length/\qs.length<=10)(h:GoP wy qs [c] a b wk ps):wk=false↔∃q,q∈qs/\a<sqI c.2 q.2*b:=by
 obtain⟨d1,n1,_⟩:=dL b1;have f:∀(i j:Nat),i<=bH qs->j<=1->(d9 (dbl qs) (dbl [c]) a b 0 i j=true↔a<sqI c.2 (cr (dbl qs) i)*b):=λi j hi hj=>by
  rw[uU (by omega) (by rw[oF];show j<2;omega),oF,jE];have:j=0\/j=1:=by omega
  rcases this with rfl|rfl <;> rfl
 have hG:∀i:Nat,i<=bH qs->(d9 (dbl qs) (dbl [c]) a b 0 i 0=true/\cB (dbl qs) (dbl [c]) a b 0 0 i 0=none)\/(d9 (dbl qs) (dbl [c]) a b 0 i 0=false/\cB (dbl qs) (dbl [c]) a b 0 0 i 0=some (nB,nE)):=λi hi=>by
  have g:=qJ (qs:=dbl qs) (rs:=dbl [c]) (a:=a) (b:=b) (i:=i) (j:=0);rw[show((0:Nat):Int)=0 from rfl,show cr (dbl [c]) 0=c.2 from rfl,show cr (dbl [c]) (0+1)=c.2 from rfl]at g;have fj:=f i 0 hi (by omega);rw[show((0:Nat):Int)=0 from rfl,jE]at fj;rcases lL (c:=cr (dbl qs) i) (x:=c.2) (a:=a) hb with⟨z,e⟩|⟨z,e⟩
  ·exact .inl ⟨fj.mpr z,g.trans e⟩
  ·exact .inr ⟨Bool.eq_false_iff.mpr λy=>z (fj.mp y),g.trans e⟩
 rw[pI b1 (fh c) h,<- u6 b1.1,show bH [c]=1 from rfl];have ex:(∃i:Nat,i<=bH qs/\d9 (dbl qs) (dbl [c]) a b 0 i 0=true)↔∃j:Nat,j<=bH qs/\a<sqI c.2 (cr (dbl qs) j)*b:=exists_congr λi=>and_congr_right λhi=>f i 0 hi (by omega);rcases hw with rfl|rfl
 ·exact(yr n1 (Bool.eq_iff_iff.mpr ((f _ 1 (Nat.le_refl _) (by omega)).trans (f _ 0 (Nat.le_refl _) (by omega)).symm)) λi _ hi=>hG i hi).trans ex
 ·exact(t6 hG).trans ex
theorem tY{c:Addr×Int×Int}{rs:Crn}{a b:Int}{wk:Bool}{ps:List Pr}(hb:0<b)(b2:1<=rs.length/\rs.length<=10)(h:GoP bI [c] rs a b wk ps):wk=false↔∀j:Nat,j<bH rs->a*(leF c.2 (cr (dbl rs) j) (cr (dbl rs) (j+1))).2<(leF c.2 (cr (dbl rs) j) (cr (dbl rs) (j+1))).1*b:=by
 have g:∀(i j:Nat),i<=1->cB (dbl [c]) (dbl rs) a b 0 0 i j=cP c.2.1 c.2.2 (cr (dbl rs) j).1 (cr (dbl rs) j).2 (cr (dbl rs) (j+1)).1 (cr (dbl rs) (j+1)).2 a b 0:=λi j hi=>by
  rw[qJ,oF];have:i=0\/i=1:=by omega
  rcases this with rfl|rfl <;> rfl
 rw[pI (fh c) b2 h,show bH [c]=1 from rfl,t8 (fQ (.inl rfl) hb) λj _=>(g 1 j (by omega)).trans (g 0 j (by omega)).symm];refine forall_congr' λj=>imp_congr_right λ_=>?_;have:=g 0 j (by omega);rw[show((0:Nat):Int)=0 from rfl]at this;rw[this];exact qL hb
theorem yq{H:Hp}:∀y∈([]:List V),∃t,Kn H y t:=λy hy=>nomatch hy
theorem qx{H:Hp}{v:V}{vs:List V}{t:String}(k:Kn H v t)(h:∀y∈vs,∃t,Kn H y t):∀y∈v::vs,∃t,Kn H y t:=λy hy=>by
 rcases List.mem_cons.mp hy with rfl|hy
 ·exact⟨t,k⟩
 ·exact h y hy
theorem vo{H:Hp}{t:Addr}{ls:List (Pos×Str)}(e:H t=some (.tbl #[])):Tab H t ls:=⟨#[],e,trivial,λ_ _=>.inl rfl⟩
theorem xT{H:Hp}{z:Addr}{a b:Int}(sq:Sq H z a b)(lw:lowB a b=true)(ha:0<=a):sqV H (.ref z)=true:=by
 simp only[sqV,sq.at_,lw,Bool.true_and,Bool.not_eq_true',decide_eq_false_iff_not];omega
theorem zm{H:Hp}{z:Addr}{a b:Int}(sq:Sq H z a b):E6 H (.ref z):=th_tup sq.at_ (qx (.int _) (qx (.int _) yq))
theorem qc{K:W.Frag}{H:Hp}{a:Addr}{oc:Value}{od:Option Addr}{its:Array Value}{n:Nat}{sl:Array (Option Value)}{xs:List V}(hk:K.lookup a=some ⟨oc,od,.seq its n,sl⟩)(hc:oc = .type "tuple")(hz:its.size<=100)(r:aV xs its.toList):TpK K H a xs :=
 .inr ⟨_,its,n,hk,hc,rfl,Nat.le_of_lt (aZ (by omega)),r⟩
inductive Fk (vs:List V) (H:Hp) (Q:VK) (x_3:XK):Prop
 | mk:∀(p l:Addr) (qs:Crn) (c:Int×Int),(vs = [.ref p,.ref l])->(CnA H p c)->(LineM H l qs)->((1<=qs.length/\qs.length<=20))->(∀(r:Addr) (M:Int) H',Same H H'->H' r=some (.tup [.int M,.int 1])->ax M<=103->(∀a b:Int,0<b->(a*1<M*b↔∃q,q∈qs/\a<sqI c q.2*b))->Q (.ref r) H')->Fk vs H Q x_3
noncomputable def E2(c:Int×Int)(qs:Crn)(i:Nat)(N D:Int):Prop:=∀a b:Int,0<b->(a*D<N*b↔∀j:Nat,j<=i->a*(leF c (cr (dbl qs) j) (cr (dbl qs) (j+1))).2<(leF c (cr (dbl qs) j) (cr (dbl qs) (j+1))).1*b)
inductive Gy (vs:List V) (H:Hp) (Q:VK) (x_3:XK):Prop
 | mk:∀(p l:Addr) (qs:Crn) (c:Int×Int),(vs = [.ref p,.ref l])->(CnA H p c)->(LineM H l qs)->((1<=qs.length/\qs.length<=20))->(∀(r:Addr) (N D:Int) H',Same H H'->H' r=some (.tup [.int N,.int D])->(ax N<=900/\ax D<=300)->E2 c qs (bH qs - 1) N D->Q (.ref r) H')->Gy vs H Q x_3
theorem zO{a b N D N' D':Int}(hb:0<b)(hD:0<D)(hD':0<D')(h:N'*D<N*D')(k:a*D'<N'*b):a*D<N*b:=by
 have h1:=Int.mul_lt_mul_of_pos_left k hD;have h2:=Int.mul_lt_mul_of_pos_right h hb;have e1:D*(a*D')=D'*(a*D):=by grind
 have e2:D*(N'*b)=N'*D*b:=by grind
 have e3:N*D'*b=D'*(N*b):=by grind
 rw[e1,e2]at h1;rw[e3]at h2;exact Int.lt_of_mul_lt_mul_left (Int.lt_trans h1 h2) (by omega)
theorem zQ{a b N D N' D':Int}(hb:0<b)(hD:0<D)(hD':0<D')(h:¬N'*D<N*D')(k:a*D<N*b):a*D'<N'*b:=by
 have h1:=Int.mul_lt_mul_of_pos_left k hD';have h2:=Int.mul_le_mul_of_nonneg_right (show N*D'<=N'*D by omega) (show 0<=b by omega);have e1:D'*(a*D)=D*(a*D'):=by grind
 have e2:D'*(N*b)=N*D'*b:=by grind
 have e3:N'*D*b=D*(N'*b):=by grind
 rw[e1,e2]at h1;rw[e3]at h2;exact Int.lt_of_mul_lt_mul_left (Int.lt_of_lt_of_le h1 h2) (by omega)
theorem E2.zero{c:Int×Int}{qs:Crn}{N D:Int}(hD:0<D)(e:N*(leF c (cr (dbl qs) 0) (cr (dbl qs) (0+1))).2=(leF c (cr (dbl qs) 0) (cr (dbl qs) (0+1))).1*D):E2 c qs 0 N D:=λa b _=>by
 rw[uk hD (gf _ _ _) e];exact⟨λh j hj=>by rw[show j=0 by omega];exact h,λh=>h 0 (Nat.le_refl _)⟩
theorem E2.succ{c:Int×Int}{qs:Crn}{i:Nat}{N D N' D':Int}(h:E2 c qs i N D)(hD:0<D)(hD':0<D')(e:N'*(leF c (cr (dbl qs) (i+1)) (cr (dbl qs) (i+1+1))).2=(leF c (cr (dbl qs) (i+1)) (cr (dbl qs) (i+1+1))).1*D'):(N'*D<N*D'->E2 c qs (i+1) N' D')/\(¬N'*D<N*D'->E2 c qs (i+1) N D):=by
 have sp:∀{a b:Int},0<b->((∀j:Nat,j<=i+1->a*(leF c (cr (dbl qs) j) (cr (dbl qs) (j+1))).2<(leF c (cr (dbl qs) j) (cr (dbl qs) (j+1))).1*b)↔a*D<N*b/\a*D'<N'*b):=λ{a b} hb=>by
  rw[h a b hb,uk hD' (gf _ _ _) e];constructor
  ·exact λk=>⟨λj hj=>k j (by omega),k (i+1) (Nat.le_refl _)⟩
  ·intro k j hj
   rcases Nat.lt_or_ge i j with z|z
   ·obtain rfl:j=i+1:=by omega
    exact k.2
   ·exact k.1 j z
 exact⟨λc1 a b hb=>by rw[sp hb];exact⟨λk=>⟨zO hb hD hD' c1 k,k⟩,λk=>k.2⟩,λc1 a b hb=>by rw[sp hb];exact⟨λk=>⟨k,zQ hb hD hD' c1 k⟩,λk=>k.1⟩⟩
theorem qX{qs:Crn}{k:Nat}{u:Addr×Int×Int}(h:qs[k]? = some u):cr qs k=u.2:=by
 unfold cr;rw[List.getD_eq_getElem?_getD,h];rfl
theorem qV{qs:Crn}(h:2<=qs.length):dbl qs=qs/\bH qs=qs.length - 1:=by
 have e:dbl qs=qs:=by
  unfold dbl;rw[if_neg (by omega)]
 exact⟨e,by unfold bH;rw[e]⟩
theorem yQ{c:Int×Int}{qs:Crn}{M:Int}(hm:M∈qs.map λq=>sqI c q.2)(al:∀x∈qs.map λq=>sqI c q.2,x<=M)(a b:Int)(hb:0<b):a*1<M*b↔∃q,q∈qs/\a<sqI c q.2*b:=by
 rw[Int.mul_one];constructor
 ·intro h
  obtain⟨q,hq,e⟩:=List.mem_map.mp hm;exact⟨q,hq,by rw[e];exact h⟩
 ·rintro⟨q,hq,h⟩
  exact Int.lt_of_lt_of_le h (Int.mul_le_mul_of_nonneg_right (al _ (List.mem_map.mpr ⟨q,hq,rfl⟩)) (by omega))
noncomputable def wdS(k:Bool):Str:=if k=true then "walk" else "fence"
theorem pY{wk:Bool}{X Y:Prop}[Decidable Y](h:wk=false↔X)(k:Y↔X):wk = !decide Y:=by
 cases wk with
 | false=>rw[decide_eq_true (k.mpr (h.mp rfl))];rfl
 | true=>rw[decide_eq_false λy=>by have:=h.mpr (k.mp y);cases this];rfl
theorem xx(k:Bool):atI [V.str "walk",V.str "fence"] (if k=true then 1 else 0)=some (.str (wdS (!k))):=by
 cases k <;> rfl
theorem p8(k:Bool):(!decide (V.str (wdS k)=V.str (wdS k)))=false:=by simp
theorem qH{C t:Addr}{wy:Str}{l1 l2 p:Addr}{qs rs:Crn}{a b:Int}{H:Hp}{Q:VK}{E:XK}(L1:LineM H l1 qs)(L2':LineM H l2 rs)(b1:1<=qs.length/\qs.length<=10)(b2:1<=rs.length/\rs.length<=10)(sq:Sq H p a b)(lw:Em a b)(a0:0<=a)(tb:Tab H t lsP)(k:∀(u r:Addr) (H':Hp) (ps:List Pr) (wk:Bool),ca H H'->Tab H' t lsP->H' u=some (.tup [.str (wdS wk),.ref r])->GoP wy qs rs a b wk ps->Q (.ref u) H'):GoQ C t wy l1 l2 (.ref p) H Q E :=
 ⟨qs,rs,L1,L2',b1,b2,zm sq,.inr ⟨xT sq (xu lw) a0,p,a,b,rfl,⟨sq,lw.pos,a0⟩,tb,λu r H' ps wk _ _ _ N T _ e g=>k u r H' ps wk N T e g⟩⟩
noncomputable def wK(n:Int):Int:=if (if (18:Int)<n then 18 else n)>1 then (if (18:Int)<n then 18 else n) else 1
theorem mP(n:Int):0<=wK n/\wK n<=18:=by
 unfold wK
 split <;> split <;> omega
theorem Dc:AQ ["corner","line","found","x","y"] ["corner","line"] (aq (top 90)):=smk
theorem pN(Gc:Df K mg "_law_far" (top 90))(T:Txt mg):Fn P w K mg base "_law_far" ["corner","line"] 1 Fk:=by
 refine Gc.fn Dc (λ_ _ _ _ _ _ us hl=>by obtain⟨_,_,rfl⟩:=dh hl;rfl) (λvs H Q E h=>?_) (λf cdv A outer s H vs Q E hr h=>?_)
 ·obtain⟨p,l,qs,c,rfl,_⟩:=h
  rfl
 ·obtain⟨p,l,qs,c,rfl,cc,L,⟨h1,h20⟩,q⟩:=h
  refine⟨_,(ag (ay (i:=2) Dc.nd rfl (Or.inl rfl) (bz ak)) (ag (cz PassesOwn.never rfl (fg (pv 1)) (d8 rfl (bo (aO (i:=3) Dc.nd rfl (Or.inl rfl)) (bo (aO (i:=4) Dc.nd rfl (Or.inl rfl)) dE))) (am (ce (eC PySem.F.plainAttrs_list PySem.F.slot_list_append PySem.F.type_list_append bO (pv 2) (ad (ao aK (ao aA (ao aL (az ar (pv 0) af (λ_ _=>rfl)) (pv 3)) (ao aL (az ar (pv 0) af (λ_ _=>rfl)) (pv 3))) (ao aA (ao aL (az ar (pv 0) af (λ_ _=>rfl)) (pv 4)) (ao aL (az ar (pv 0) af (λ_ _=>rfl)) (pv 4)))) ak))))) (am (aB (aG (ad (aQ (sL rfl) (by rfl) T.z_max vb (ad (pv 2) ak)) (ad af ak))))))),?_⟩;have hll:(qs.map λ(q:Addr×Int×Int)=>V.ref q.1).length=qs.length:=List.length_map _;refine⟨sz (by simp),λr H1 s1 f1 n1=>?_⟩;have nl:l≠r:=aU L.lst n1;refine⟨_,rfl,l,rfl,⟨_,SqL.of (s1 _ _ L.lst)⟩,fR (K:=K) (a:=l) (xs:=qs.map λ(q:Addr×Int×Int)=>V.ref q.1) (λi σ H'=>∃(z3 z4:Option V),σ = [some (.ref p),some (.ref l),some (.ref r),z3,z4]/\bX r H1 H'/\H' r=some (.lst (((qs.take i).map λq=>sqI c q.2).map V.int)))
   ⟨_,_,rfl,λb o _ e=>e,f1⟩ (λi σ H' _ ⟨_,_,_,b,_⟩=>SqL.of (b _ _ nl (s1 _ _ L.lst))) ?_ ?_⟩
  ·rintro i v σ H2 hv ⟨z3,z4,rfl,b2,f2⟩
   rw[List.getElem?_map]at hv;obtain⟨u,hu,rfl⟩:=Option.map_eq_some_iff.mp hv;have iu:=(List.getElem?_eq_some_iff.mp hu).1;have noT:∀xs,H1 r≠some (.tup xs):=λxs z=>by rw[f1]at z;cases z
   have t2:SameT H H2:=s1.t.trans (b2.t noT);have cu:=(dZ L).cnA hu;have eu:=t2 _ _ cu.1;have ec:=t2 _ _ cc.1;have bs:∀{x y:Int},ax x<=50->ax y<=50->ax (x - y)<=51:=λhx hy=>aW hx hy;have d1:=bs cc.2.1 cu.2.1;have d2:=bs cc.2.2 cu.2.2;refine⟨u.1,_,rfl,SqT.of eu,rfl,_,_,rfl,_,_,rfl,rfl,?_⟩;refine⟨_,rfl,.inl ⟨rfl,_,SqL.of f2⟩,_,rfl,p,_,_,_,rfl,rfl,SqT.of ec,rfl,_,rfl,_,_,rfl,rfl,_,rfl,p,_,_,_,rfl,rfl,SqT.of ec,rfl,_,rfl,_,_,rfl,rfl,_,_,rfl,rfl,CM.b d1 d1 (by decide) (by decide),_,rfl,p,_,_,_,rfl,rfl,SqT.of ec,rfl,_,rfl,_,_,rfl,rfl,_,rfl,p,_,_,_,rfl,rfl,SqT.of ec,rfl,_,rfl,_,_,rfl,rfl,_,_,rfl,rfl,CM.b d2 d2 (by decide) (by decide),_,_,rfl,rfl,?_⟩;refine⟨r,_,_,rfl,rfl,f2,aZ (by rw[List.length_map,List.length_map,List.length_take];omega),λH3 u3=>⟨_,_,rfl,λb' o' nb' e'=>u3.at nb' (b2 _ _ nb' e'),?_⟩⟩;rw[u3.now,List.take_add_one,hu];simp only[List.map_append];rfl
  ·rintro σ H2 ⟨z3,z4,rfl,b2,f2⟩
   rw[hll,List.take_length]at f2;refine⟨_,rfl,r,_,rfl,SqL.of f2,by rw[List.length_map];omega,λM hm al=>⟨sz (by simp),λt H3 s3 f3 n3=>?_⟩⟩;refine q t M H3 ((b2.same s1 n1).trans s3) f3 ?_ (yQ hm al);obtain⟨q',hq,e⟩:=List.mem_map.mp hm;rw[<- e];exact d6 cc.2 ((dZ L).crn q' hq).2
theorem Ca:AQ ["corner","line","found","k","some"] ["corner","line"] (aq (top 91)):=smk
theorem mK(Fd:Df K mg "_law_close" (top 91))(Bx:Fn P w K mg base "_law_least" ["corner","line","low","high"] 2 FW)(A6:Fn P w K mg base "_law_less" ["a","b"] 1 D2)(T:Txt mg):Fn P w K mg base "_law_close" ["corner","line"] 3 Gy:=by
 refine Fd.fn Ca (λ_ _ _ _ _ _ us hl=>by obtain⟨_,_,rfl⟩:=dh hl;rfl) (λvs H Q E h=>?_) (λf cdv A outer s H vs Q E hr h=>?_)
 ·obtain⟨p,l,qs,c,rfl,_⟩:=h
  rfl
 ·obtain⟨p,l,qs,c,rfl,cc,L,⟨h1,h20⟩,q⟩:=h
  refine⟨_,(ag (ay (i:=2) Ca.nd rfl (Or.inl rfl) (aF Bx (hr.mono (by decide)) (by rfl) (ad (pv 0) (ad (pv 1) (ad (aG (ad af (ad af ak))) (ad (aG (ad (aQ (gs rfl) (by rfl) T.z_min mR (ad af (ad (ao aL (aQ aS (by rfl) T.z_len cS (ad (pv 1) ak)) af) ak))) (ad af ak))) ak)))))) (ag (cz PassesOwn.never rfl (lq rfl T.z_range (ad af (ad (ao aL (aQ aS (by rfl) T.z_len cS (ad (pv 1) ak)) af) ak))) (aO (i:=3) Ca.nd rfl (Or.inl rfl)) (ag (ay (i:=4) Ca.nd rfl (Or.inl rfl) (aF Bx (hr.mono (by decide)) (by rfl) (ad (pv 0) (ad (pv 1) (ad (aG (ad (pv 3) (ad af ak))) (ad (aG (ad (ao aK (pv 3) af) (ad af ak))) ak)))))) (am (aM (de (aF A6 (hr.mono (by decide)) (by rfl) (ad (pv 4) (ad (pv 2) ak)))) (am (ay (i:=2) Ca.nd rfl (Or.inl rfl) (pv 4))) aI)))) (am (aB (pv 2))))),?_⟩;have hll:(qs.map λ(q:Addr×Int×Int)=>V.ref q.1).length=qs.length:=List.length_map _;have LA:=dZ L;refine⟨_,rfl,_,rfl,sz (by simp),λlo H1 s1 f1 n1=>?_⟩;refine⟨_,rfl,l,_,rfl,.inl (SqL.of (L.mono s1).lst),_,_,rfl,rfl,_,_,rfl,sz (by simp),λhi H2 s2 f2 n2=>?_⟩;rw[hll]at f2;obtain⟨u,hu⟩:∃u,qs[0]? = some u:=⟨qs[0]'(by omega),List.getElem?_eq_getElem _⟩;obtain⟨k',v,hv,hkk,ek,e0,e1⟩:∃(k':Nat) (v:Addr×Int×Int),qs[k']? = some v/\((k'=0/\0+1=qs.length)\/k'=0+1)/\(if (qs.length:Int) - 1<1 then (qs.length:Int) - 1 else 1)=(k':Int)/\cr (dbl qs) 0=u.2/\cr (dbl qs) (0+1)=v.2:=by
   by_cases x:qs.length=1
   ·obtain⟨q0,rfl⟩:=eV x
    cases hu;exact⟨0,u,rfl,.inl ⟨rfl,rfl⟩,by rw[if_pos (by rw[x];decide),x];rfl,rfl,rfl⟩
   ·obtain⟨v,hv⟩:∃v,qs[1]? = some v:=⟨qs[1]'(by omega),List.getElem?_eq_getElem _⟩
    refine⟨1,v,hv,.inr rfl,by rw[if_neg (by omega)];rfl,?_,?_⟩
    ·rw[(qV (by omega)).1];exact qX hu
    ·rw[(qV (by omega)).1];exact qX hv
  rw[ek]at f2;have S2:=s1.trans s2;refine⟨p,l,lo,hi,qs,c,0,k',u,v,rfl,⟨S2 _ _ cc.1,cc.2⟩,⟨LA.mono S2,h20⟩,hu,hv,hkk,s2 _ _ f1,f2,λr N D H3 s3 f3 ⟨hD,bD⟩ ⟨hN,bN⟩ eF=>?_⟩;rw[<- e0,<- e1]at eF;have S3:=S2.trans s3;refine⟨_,rfl,l,_,rfl,.inl (SqL.of (L.mono S3).lst),_,_,rfl,rfl,_,_,rfl,?_⟩;rw[hll];have e62:(2:Int)^62=4611686018427387904:=by decide
  refine⟨by rw[e62];omega,cV (n:=((qs.length:Int) - 1 - 1).toNat) (lo:=1) (λi σ H'=>∃(r':Addr) (N' D':Int) (z3 z4:Option V),σ = [some (.ref p),some (.ref l),some (.ref r'),z3,z4]/\Same H H'/\H' r'=some (.tup [.int N',.int D'])/\(0<D'/\ax D'<=300)/\ax N'<=900/\E2 c qs i N' D') ⟨r,N,D,_,_,rfl,S3,f3,⟨hD,bD⟩,bN,E2.zero hD eF⟩ ?_ ?_⟩
  ·rintro i σ H4 hi ⟨r',N',D',z3,z4,rfl,S4,f4,⟨hD',bD'⟩,bN',cl⟩
   have i2:i+1+1<qs.length:=by omega
   obtain⟨x,hx⟩:∃x,qs[i+1]? = some x:=⟨qs[i+1]'(by omega),List.getElem?_eq_getElem _⟩;obtain⟨y,hy⟩:∃y,qs[i+1+1]? = some y:=⟨qs[i+1+1]'(by omega),List.getElem?_eq_getElem _⟩;refine⟨_,rfl,_,rfl,_,rfl,sz (by simp),λlo5 H5 s5 f5 n5=>?_⟩;refine⟨_,rfl,_,_,rfl,rfl,sz (by simp),λhi6 H6 s6 f6 n6=>?_⟩;rw[show(1:Int)+(i:Int)=((i+1:Nat):Int) by omega]at f5;rw[show(1:Int)+(i:Int)+1=((i+1+1:Nat):Int) by omega]at f6;have S6:=S4.trans (s5.trans s6);refine⟨p,l,lo5,hi6,qs,c,i+1,i+1+1,x,y,rfl,⟨S6 _ _ cc.1,cc.2⟩,⟨LA.mono S6,h20⟩,hx,hy,.inr rfl,s6 _ _ f5,f6,λr7 N7 D7 H7 s7 f7 ⟨hD7,bD7⟩ ⟨hN7,bN7⟩ e7=>?_⟩;have S7:=S6.trans s7;have f47:=(s5.trans (s6.trans s7)) _ _ f4;have d2:=(qV (qs:=qs) (by omega)).1;have sc:=cl.succ hD' hD7 (N':=N7) (D':=D7) (by rw[d2,qX hx,qX hy];exact e7);refine⟨_,rfl,_,rfl,r7,r',N7,D7,N',D',rfl,f7,f47,⟨ap bN7 (by decide),ap bD7 (by decide),ap bN' (by decide),ap bD' (by decide)⟩,_,rfl,aT (λc1=>?_) (λc1=>?_)⟩
   ·exact⟨_,rfl,⟨r7,N7,D7,_,_,rfl,S7,f7,⟨hD7,bD7⟩,bN7,sc.1 (bP c1)⟩⟩
   ·exact⟨r',N',D',_,_,rfl,S7,f47,⟨hD',bD'⟩,bN',sc.2 (bZ c1)⟩
  ·rintro σ H4 ⟨r',N',D',z3,z4,rfl,S4,f4,⟨hD',bD'⟩,bN',cl⟩
   refine⟨_,rfl,q r' N' D' H4 S4 f4 ⟨bN',bD'⟩ ?_⟩;have:bH qs - 1=((qs.length:Int) - 1 - 1).toNat:=by
    by_cases x:qs.length=1
    ·obtain⟨q0,rfl⟩:=eV x
     rfl
    ·rw[(qV (by omega)).2];omega
   rw[this];exact cl
theorem Dy:AQ ["script","at","pool","line","corner","square","due","close"] ["script"] (aq (top 92)):=smk
theorem yO{t_fence_past CQ:Addr}(Ia:Df K mg "law" (top 92))(BY:Fn P w K mg base "_law_pool" ["script","k"] 1 (Fj K))(BL:Fn P w K mg base "_law_line" ["pool","most"] 3 FV)(AR:Fn P w K mg base "_law_take" ["pool","many"] 1 Dj)(CV:Fn P w K mg base "_law_second" ["pool","line","most"] 4 Gi)(C9:Fn P w K mg base "_law_leash" ["pool","one","other"] 3 Gs)(A6:Fn P w K mg base "_law_less" ["a","b"] 1 D2)(DI:Fn P w K mg base "_law_far" ["corner","line"] 1 Fk)(Da:Fn P w K mg base "_law_close" ["corner","line"] 3 Gy)(D0:Fx P w K mg base "go_on" ["one","other","square"] 13 [] (E3 CQ t_fence_past wOn))(De:Fx P w K mg base "go_part" ["one","other","square"] 13 [] (E3 CQ t_fence_past bI))(T:Txt mg):Fn P w K mg base "law" ["script"] 15 (oV K [t_fence_past]):=by
 refine Ia.fn Dy (λ_ _ _ _ _ _ us hl=>by obtain⟨_,rfl⟩:=eV hl;rfl) (λvs H Q E h=>?_) (λf cdv A outer s H vs Q E hr h=>?_)
 ·obtain⟨sa,ss,rfl,_⟩:=h
  rfl
 ·obtain⟨sa,ss,rfl,hS,hlen,htab,fin⟩:=h
  have TB:Tab H t_fence_past lsP:=vo (htab _ List.mem_cons_self);have R:∃u:TS,PSs (bY CX0 P w K mg base ["script","at","pool","line","corner","square","due","close"] "law" (aq (top 92)) f cdv A outer s H E).nox ((wB ((aP (top 92)).getD 0 (.Pass ⟨0,0,0,0⟩))).drop 3) u/\∀(D:DA) (ai:Int) (p l:Addr) (qs:Crn) (H4:Hp) (z4 z5 z6 z7:Option V),(0<=ai/\ai<=900)->SqL K H4 sa (ss.map V.int)->Tab H4 t_fence_past lsP->LineM H4 l qs->(1<=qs.length/\qs.length<=10) ->
    (∀(w4 w5 w6 w7:Option V) (H':Hp),ca H4 H'->Tab H' t_fence_past lsP->D.nx [some (.ref sa),some (.int ai),some (.ref p),some (.ref l),w4,w5,w6,w7] H') ->
    u D [some (.ref sa),some (.int ai),some (.ref p),some (.ref l),z4,z5,z6,z7] H4:=by
   refine⟨_,(ag (ay (i:=4) Dy.nd rfl (Or.inl rfl) (az aY (aF CV (hr.mono (by decide)) (by rfl) (ad (aF BY (hr.mono (by decide)) (by rfl) (ad (pv 0) (ad (ao aK (pv 1) af) ak))) (ad (pv 3) (ad af ak)))) af (λ_ _=>rfl))) (ag (ay (i:=5) Dy.nd rfl (Or.inl rfl) (aF C9 (hr.mono (by decide)) (by rfl) (ad (aF BY (hr.mono (by decide)) (by rfl) (ad (pv 0) (ad (ao aK (pv 1) af) ak))) (ad (bz (ad (pv 4) ak)) (ad (pv 3) ak))))) (ag (ay (i:=6) Dy.nd rfl (Or.inl rfl) (az aY (bz (ad dF (ad dF ak))) (iD lQ (by rfl) T.z_int pS (ad (aF A6 (hr.mono (by decide)) (by rfl) (ad (pv 5) (ad (aF DI (hr.mono (by decide)) (by rfl) (ad (pv 4) (ad (pv 3) ak))) ak))) ak)) (λ_ _=>rfl))) (ag (ay (i:=7) Dy.nd rfl (Or.inl rfl) (az aY (bz (ad dF (ad dF ak))) (iD lQ (by rfl) T.z_int pS (ad (aF A6 (hr.mono (by decide)) (by rfl) (ad (pv 5) (ad (aF Da (hr.mono (by decide)) (by rfl) (ad (pv 4) (ad (pv 3) ak))) ak))) ak)) (λ_ _=>rfl))) (ag (aM (fw (aE fM (az ar (fL D0 (hr.mono (by decide)) (by rfl) (ad (bz (ad (pv 4) ak)) (ad (pv 3) (ad (pv 5) ak)))) af (λ_ _=>rfl)) (pv 6) (aH _)) (fc (aE fM (az ar (fL D0 (hr.mono (by decide)) (by rfl) (ad (pv 3) (ad (bz (ad (pv 4) ak)) (ad (pv 5) ak)))) af (λ_ _=>rfl)) (pv 6) (aH _)))).pt (am (aB iT)) aI) (am (aM (fw (aE fM (az ar (fL De (hr.mono (by decide)) (by rfl) (ad (bz (ad (pv 4) ak)) (ad (pv 3) (ad (pv 5) ak)))) af (λ_ _=>rfl)) (pv 7) (aH _)) (fc (aE fM (az ar (fL De (hr.mono (by decide)) (by rfl) (ad (pv 3) (ad (bz (ad (pv 4) ak)) (ad (pv 5) ak)))) af (λ_ _=>rfl)) (pv 6) (aH _)))).pt (am (aB iT)) aI))))))),λD ai p l qs H4 z4 z5 z6 z7 at0 hS4 T4 L4 b1 nx=>?_⟩;refine⟨_,rfl,_,rfl,_,_,rfl,rfl,sa,ss,ai+1,rfl,hS4,⟨by omega,by omega⟩,λp5 H5 s5 n5 q5=>?_⟩;refine⟨_,rfl,p5,l,qs,5,rfl,q5,L4.mono s5,aU L4.lst n5,⟨b1.1,by omega⟩,⟨by decide,by decide⟩,λl2 rs H6 b6 q6 n6 L6 g1=>?_⟩;have S6:Same H4 H6:=b6.same s5 n5;obtain⟨c,hc,ac⟩:=kl (qs:=rs) (k:=0) (by decide) (by omega);refine⟨l2,_,0,_,rfl,rfl,SqL.of L6.lst,ac,?_⟩;have mc:=List.mem_of_getElem? hc;refine⟨_,rfl,_,rfl,_,_,rfl,rfl,sa,ss,ai+2,rfl,S6.seq hS4,⟨by omega,by omega⟩,λp7 H7 s7 n7 q7=>?_⟩;refine⟨_,rfl,sz (by simp),λk8 H8 s8 f8 n8=>?_⟩;have S8:=S6.trans (s7.trans s8);have L68:=L6.mono (s7.trans s8);have C8:LineM H8 k8 [c]:=⟨f8,λq hq=>by rw[List.mem_singleton.mp hq];exact L68.crn c mc⟩;refine⟨_,rfl,p7,k8,l,[c],qs,rfl,q7.same s8,⟨C8,L4.mono S8⟩,⟨(q7.ne n8).symm,(aU (L4.mono S6).lst n7).symm⟩,⟨Nat.le_refl 1,(by decide:1<=20)⟩,⟨b1.1,by omega⟩,λz a b H9 B9 P9 sq lw a0=>?_⟩;have S9:Same H6 H9:=B9.same (s7.trans s8) n7;have hb:=lw.pos;have N9:ca H4 H9:=.of (S6.trans S9);have cc9:=(dZ (L6.mono S9)).cnA hc;have sq9:∀{H':Hp},ca H9 H'->Sq H' z a b:=λs=>⟨s.t sq.at_,sq.ba,sq.bb⟩;have cl1:∀{H':Hp} {k:Addr},ca H9 H'->H' k=some (.lst [.ref c.1])->LineM H' k [c]:=λs f=>⟨f,λq hq=>by rw[List.mem_singleton.mp hq];exact⟨s.t cc9.1,(L6.crn c mc).2⟩⟩;have L9:=N9.line L4;have SqB:ax a<=2000/\ax b<=2000:=⟨ap sq.ba (by decide),ap sq.bb (by decide)⟩;refine⟨sz (by simp),λdl HA sA fA nA=>?_⟩;refine⟨_,rfl,_,rfl,_,rfl,c.1,l,qs,c.2,rfl,⟨sA _ _ cc9.1,cc9.2⟩,L9.mono sA,⟨b1.1,by omega⟩,λfr M HB sB fB bM fo=>?_⟩;have SB:=sA.trans sB;refine⟨z,fr,a,b,M,1,rfl,SB _ _ sq.at_,fB,⟨SqB.1,SqB.2,ap bM (by decide),by decide⟩,.inr ⟨_,rfl,?_⟩⟩;refine⟨dl,_,_,_,rfl,rfl,SqL.of (sB _ _ fA),xx _,?_⟩;refine⟨sz (by simp),λdm HC sC fC nC=>?_⟩;have SC:=SB.trans sC;refine⟨_,rfl,_,rfl,_,rfl,c.1,l,qs,c.2,rfl,⟨SC _ _ cc9.1,cc9.2⟩,L9.mono SC,⟨b1.1,by omega⟩,λfs N1 D1 HD sD fD bND cls=>?_⟩;have SD:=SC.trans sD;refine⟨z,fs,a,b,N1,D1,rfl,SD _ _ sq.at_,fD,⟨SqB.1,SqB.2,ap bND.1 (by decide),ap bND.2 (by decide)⟩,.inr ⟨_,rfl,?_⟩⟩;refine⟨dm,_,_,_,rfl,rfl,SqL.of (sD _ _ fC),xx _,?_⟩;have ND:ca H9 HD:=.of SD;have L4:=L9;have TD:Tab HD t_fence_past lsP:=T4.same (S6.trans (S9.trans SD));have cl:=cls a b hb;rw[show(∀j:Nat,j<=bH qs - 1->a*(leF c.2 (cr (dbl qs) j) (cr (dbl qs) (j+1))).2<(leF c.2 (cr (dbl qs) j) (cr (dbl qs) (j+1))).1*b)↔(∀j:Nat,j<bH qs->a*(leF c.2 (cr (dbl qs) j) (cr (dbl qs) (j+1))).2<(leF c.2 (cr (dbl qs) j) (cr (dbl qs) (j+1))).1*b) from forall_congr' λj=>imp_congr_left (by have:=(dL b1).2.1;omega)]at cl;refine⟨_,rfl,sz (by simp),λke Je we ge me=>?_⟩;have Xe:=ND.trans (.of we);refine⟨_,rfl,_,rfl,ke,l,.ref z,rfl,qH (cl1 Xe ge) (Xe.line L4) (fh c) b1 (sq9 Xe) lw a0 (TD.same we) λue re He pse wke Ne Te ee gpe=>⟨ue,_,_,_,rfl,rfl,SqT.of ee,rfl,_,rfl,?_⟩⟩;have hw:=pY (yp hb b1 gpe) (fo a b hb);have Me:=Xe.trans Ne;refine⟨rfl,_,rfl,a6 (by rw[hw];exact p8 _) ?_⟩;refine⟨_,rfl,_,rfl,sz (by simp),λkh Jh wh gh mh=>?_⟩;have Xh:=Me.trans (.of wh);refine⟨_,rfl,l,kh,.ref z,rfl,qH (Xh.line L4) (cl1 Xh gh) b1 (fh c) (sq9 Xh) lw a0 (Te.same wh) λuh rh Hh psh wkh Nh Th eh gph=>⟨uh,_,_,_,rfl,rfl,SqT.of eh,rfl,_,rfl,?_⟩⟩;have hw2:=pY (qu (.inl rfl) hb b1 gph) (fo a b hb);have Mh:=Xh.trans Nh;refine⟨rfl,_,rfl,a6 (by rw[hw2];exact p8 _) ?_⟩;refine⟨_,rfl,sz (by simp),λki Ji wi gi mi=>?_⟩;have Xi:=Mh.trans (.of wi)
   refine⟨_,rfl,_,rfl,ki,l,.ref z,rfl,qH (cl1 Xi gi) (Xi.line L4) (fh c) b1 (sq9 Xi) lw a0 (Th.same wi) λui ri Hi psi wki Ni Ti ei gpi=>⟨ui,_,_,_,rfl,rfl,SqT.of ei,rfl,_,rfl,?_⟩⟩;have hw3:=pY (tY hb b1 gpi) cl;have Mi:=Xi.trans Ni;refine⟨rfl,_,rfl,a6 (by rw[hw3];exact p8 _) ?_⟩;refine⟨_,rfl,_,rfl,sz (by simp),λkj Jj wj gj mj=>?_⟩;have Xj:=Mi.trans (.of wj);refine⟨_,rfl,l,kj,.ref z,rfl,qH (Xj.line L4) (cl1 Xj gj) b1 (fh c) (sq9 Xj) lw a0 (Ti.same wj) λuj rj Hj psj wkj Nj Tj ej gpj=>⟨uj,_,_,_,rfl,rfl,SqT.of ej,rfl,_,rfl,?_⟩⟩;have hw4:=pY (qu (.inr rfl) hb b1 gpj) (fo a b hb);have Mj:=Xj.trans Nj;refine⟨rfl,_,rfl,a6 (by rw[hw4];exact p8 _) ?_⟩;exact nx _ _ _ _ Hj (N9.trans Mj) Tj
  obtain⟨u1,hu1,rd1⟩:=R;refine⟨_,ag (cz PassesOwn.never rfl (o6 rfl T.z_range (ad af (ad (aQ (sK rfl) (by rfl) T.z_max vb (ad af (ad (aQ (gs rfl) (by rfl) T.z_min mR (ad (aQ aS (by rfl) T.z_len cS (ad (pv 0) ak)) (ad af ak))) ak))) (ad af ak)))) (aO (i:=1) Dy.nd rfl (Or.inl rfl)) (ag (ay (i:=2) Dy.nd rfl (Or.inl rfl) (aF BY (hr.mono (by decide)) (by rfl) (ad (pv 0) (ad (pv 1) ak)))) (ag (ay (i:=3) Dy.nd rfl (Or.inl rfl) (aF BL (hr.mono (by decide)) (by rfl) (ad (pv 2) (ad af ak)))) (ag (aM (aE bR (aF AR (hr.mono (by decide)) (by rfl) (ad (pv 2) (ad af ak))) af (aH _)) (am (ay (i:=3) Dy.nd rfl (Or.inl rfl) (ao jq (pv 3) (aF BL (hr.mono (by decide)) (by rfl) (ad (aF BY (hr.mono (by decide)) (by rfl) (ad (pv 0) (ad (ao aK (pv 1) af) ak))) (ad af ak)))))) aI) hu1)))) (am (aB iT)),?_⟩;refine⟨_,rfl,sa,_,rfl,.inl hS,_,_,rfl,_,_,rfl,_,rfl,(mP _).1,Int.le_trans (mP (((ss.map V.int).length:Nat):Int)).2 (by decide),pL (λi σ H'=>∃(z1 z2 z3 z4 z5 z6 z7:Option V),σ = [some (.ref sa),z1,z2,z3,z4,z5,z6,z7]/\ca H H'/\Tab H' t_fence_past lsP) ⟨_,_,_,_,_,_,_,rfl,(λ_ _ e _=>e),TB⟩ ?_ ?_⟩
  ·rintro i σ H2 hi ⟨z1,z2,z3,z4,z5,z6,z7,rfl,S2,T2⟩
   have hi:i<((wK (((ss.map V.int).length:Nat):Int)+2) / 3).toNat:=hi;have hJ:=mP (((ss.map V.int).length:Nat):Int);have at0:0<=(0:Int)+(i:Int)*3/\(0:Int)+(i:Int)*3<=900:=by omega
   generalize (0:Int)+(i:Int)*3=ai at at0 ⊢;refine⟨_,rfl,_,rfl,sa,ss,ai,rfl,S2.seq hS,⟨at0.1,by omega⟩,λp H3 s3 n3 p3=>?_⟩;refine⟨_,rfl,p,5,rfl,p3,⟨by decide,by decide⟩,λl qs H4 b4 p4 n4 L4 h1 h5=>?_⟩;refine⟨_,rfl,p,4,rfl,p4,⟨by decide,by decide⟩,λdg H5 d0 d1 b5 p5=>⟨rfl,_,rfl,aT (λcc=>?_) (λcc=>?_)⟩⟩
   ·have S5:Same H2 H5:=(b4.trans b5).same s3 n3
    have L5:=bC L4 b5 p4 (p3.ne n4).symm;refine⟨_,rfl,_,rfl,_,rfl,_,_,rfl,rfl,sa,ss,ai+2,rfl,(S2.trans (ca.of S5)).seq hS,⟨by omega,by omega⟩,λp6 H6 s6 n6 p6'=>⟨p6,5,rfl,p6',⟨by decide,by decide⟩,λl7 qs7 H7 b7 p7 n7 L7 g1 g5=>?_⟩⟩;have S7:Same H5 H7:=b7.same s6 n6;have L57:=L5.mono S7;refine⟨l,l7,_,_,rfl,rfl,L57.lst,L7.lst,sz (by rw[List.length_map,List.length_map];omega),λd H8 s8 f8 n8=>?_⟩;have S8:=S5.trans (S7.trans s8);refine rd1 _ ai p d (qs++qs7) H8 _ _ _ _ at0 ((S2.trans (ca.of S8)).seq hS) (T2.same S8) ⟨by rw[f8,List.map_append],λq hq=>?_⟩ (by rw[List.length_append];omega) λw4 w5 w6 w7 H' s' t'=>⟨_,_,_,_,_,_,_,rfl,(S2.trans (ca.of S8)).trans s',t'⟩;rcases List.mem_append.mp hq with hq|hq
    ·exact(L57.mono s8).crn q hq
    ·exact(L7.mono s8).crn q hq
   ·have S5:Same H2 H5:=(b4.trans b5).same s3 n3
    refine rd1 _ ai p l qs H5 _ _ _ _ at0 ((S2.trans (ca.of S5)).seq hS) (T2.same S5) (bC L4 b5 p4 (p3.ne n4).symm) (by omega) λw4 w5 w6 w7 H' s' t'=>⟨_,_,_,_,_,_,_,rfl,(S2.trans (ca.of S5)).trans s',t'⟩
  ·rintro σ H2 ⟨z1,z2,z3,z4,z5,z6,z7,rfl,S2,T2⟩
   exact fin _
end
theorem hLeft:W.LeftO Challenge.rw_oneleash_k29_one_stands.prog hView hLoose (λ_=>true) (W.Hook.obs (Hd.hookT hFacts hGood)) (W.Hook.val (Hd.hookT hFacts hGood)) 100000:=AI
theorem hTabOk{K:W.Frag}(FK:hFacts K=hGood):hTabs.all (Hd.tabFact K)=true:=(congrArg Prod.fst (congrArg Prod.snd (congrArg Prod.snd FK)))
theorem all_of{P:Program}{w:World}{K0 K:W.Frag}(eK:K=Hd.strip K0)(FK0:hFacts K0=hGood){h:Heap}{mg:Str->Option Value}{fa:Addr}(X:K.In h)(G:h.Ns mainGlobals mg)(hfa:mg "law" = some (.ref fa)) :
  ∃fd:FuncData,(∀(s:Shared) (v:Value),BindsTo s fd ⟨[v],[]⟩ [("script",v)])/\∀base:Heap,K.In base->base.Ns mainGlobals mg->C3 P w K mg base CX0 15 fa fd ["script"] (oV K (hTabs.map (Hd.tabP K0))):=by
 have FK:(hF0 K,hF1 K,hF2 K0)=hGood:=by
  rw[eK];exact FK0
 have H0:(h8.map (λp=>Hd.fnFact K p.1):List (Option (Arguments×List Stmt×Scope×Value)))=h8.map (λp=>some (bK (top p.2),aP (top p.2),aq (top p.2),.none)):=congrArg Prod.fst FK;have dH0:∀i {n:Str} {t:Nat},h8[i]? = some (n,t)->Df K mg n (top t):=λi _ _ e=>Hd.df_of X G (Hd.at_map H0 i e);have q_1:=congrArg Prod.snd FK;have q_2:=congrArg Prod.fst q_1;have H1:(js.map (λp=>Hd.fnFactD K p.1):List (Option (Arguments×List Stmt×Scope×List V)))=js.map (λp=>some (bK (top p.2.1),aP (top p.2.1),aq (top p.2.1),p.2.2)):=congrArg Prod.fst q_2;have q_3:=congrArg Prod.snd q_2;have H2:(yK.all (Hd.excFact K):Bool)=true:=congrArg Prod.fst q_3;have eO:∀i {x:Str},yK[i]? = some x->E8 K mg x (Hd.cls K x):=λi _ e=>Hd.exc_of X G (Hd.at_all H2 i e);have q_4:=congrArg Prod.snd q_3;have H3:(hNo.all (Hd.noFact K):Bool)=true:=congrArg Prod.fst q_4;have zN:∀i {x:Str},hNo[i]? = some x->mg x=none:=λi _ e=>W.mg_none_of X G (Hd.no_of (Hd.at_all H3 i e));have q_5:=congrArg Prod.snd q_4;have H4:(wd.map (λp=>Hd.tupFact K p.1):List (Option (List V)))=wd.map (λp=>some p.2):=congrArg Prod.fst q_5;have q_6:=congrArg Prod.snd q_5;have H5:(zX.all (Hd.ownFact K):Bool)=true:=congrArg Prod.fst q_6;have q_7:=congrArg Prod.snd q_6;have H6:(hMt.map (λp=>Hd.mtFact K p.1 p.2.1 p.2.2.1):List (Option (Arguments×List Stmt×Scope×Value)))=hMt.map (λp=>some (bK p.2.2.2,aP p.2.2.2,aq p.2.2.2,.none)):=congrArg Prod.fst q_7;have q_8:=congrArg Prod.snd q_7;have H7:(Aa K:List (Option (Option V)))=xB:=congrArg Prod.fst q_8;have H8:(z9 K:List (Option (Option Value)))=xA:=congrArg Prod.snd q_8;have q_9:=congrArg Prod.snd q_1;have H9:(hTabs.all (Hd.tabFact K0):Bool)=true:=congrArg Prod.fst q_9;have q_10:=congrArg Prod.snd q_9;have H10:(Hd.bltFact (Hd.strip K0):Bool)=true:=congrArg Prod.fst q_10;have H11:(Hd.apart (hTabs.map (Hd.tabP K0)):Bool)=true:=congrArg Prod.snd q_10;have C0:HY K mg "fence_past" (top 57) (Hd.tabP K0 "fence_past"):=by
  subst eK;exact Hd.dft_of X G (Hd.at_map H0 40 rfl) (Hd.at_all H9 0 rfl)
 have ET:HN K mg "ratio" (top 7) [.int 1]:=Hd.dfd_of X G (Hd.at_map H1 0 rfl);have BD:=eO 0 (x:="NoRatio") rfl;have Dm:=eO 1 (x:="NoSquare") rfl;have T:Txt mg:=⟨zN 0 rfl,zN 1 rfl,zN 2 rfl,zN 3 rfl,zN 4 rfl,zN 5 rfl,zN 6 rfl,zN 7 rfl,zN 8 rfl,zN 9 rfl,zN 10 rfl,zN 11 rfl⟩;obtain⟨F3,od_BEGIN,its_BEGIN,n_BEGIN,sl_BEGIN,GJ,FP,DX⟩:=Hd.tup_of (Hd.at_map H4 0 rfl);obtain⟨G5,od_END,its_END,n_END,sl_END,HP,GY,FQ⟩:=Hd.tup_of (Hd.at_map H4 1 rfl);have BF:xg K mg:=by
  subst eK;exact Hd.blt_of X G H10
 have F5:(W.nsIn K mainGlobals "UPRIGHT").map (λo=>o.map Hd.bareV)=some (some (.int 0)):=Hd.at_two H7 0 rfl rfl;have GP:(W.nsIn K mainGlobals "LEVEL").map (λo=>o.map Hd.bareV)=some (some (.int 1)):=Hd.at_two H7 1 rfl rfl;have sa_Field:W.findIn K (.ref (Hd.cls K "Field")) "__setattr__" = some (some (.builtin "object.__setattr__")):=Hd.at_two H8 0 rfl rfl;have n_room:W.findIn K (.ref (Hd.cls K "Field")) "room" = some none:=Hd.at_two H8 1 rfl rfl;have n_last:W.findIn K (.ref (Hd.cls K "Field")) "last" = some none:=Hd.at_two H8 2 rfl rfl;have n_doors:W.findIn K (.ref (Hd.cls K "Field")) "doors" = some none:=Hd.at_two H8 3 rfl rfl;have n_far:W.findIn K (.ref (Hd.cls K "Field")) "far" = some none:=Hd.at_two H8 4 rfl rfl;have AS:Dz K mg "Field" (Hd.cls K "Field"):=Hd.own_of X G (Hd.at_all H5 0 rfl) sa_Field;have Cu:HZ K (Hd.cls K "Field") "__init__" "Field.__init__" (v5 39 0):=Hd.dfm_of (Hd.at_map H6 0 rfl);refine yA h hfa λbase=>?_;have hB:∀H,SqT K H F3 [.int 0,.int 0,.int 0,.int 1]:=λH=>SqT.mod FP rfl (Hd.vals_sz DX (by decide)) DX;have hE:∀H,SqT K H G5 [.int 1,.int 0,.int 0,.int 1]:=λH=>SqT.mod GY rfl (Hd.vals_sz FQ (by decide)) FQ;have tB:∀H,TpK K H F3 [.int 0,.int 0,.int 0,.int 1]:=λH=>qc FP rfl (Hd.vals_sz DX (by decide)) DX;have tE:∀H,TpK K H G5 [.int 1,.int 0,.int 0,.int 1]:=λH=>qc GY rfl (Hd.vals_sz FQ (by decide)) FQ;have iC_c_UPRIGHT:=Hd.int_of X G F5;have iC_c_LEVEL:=Hd.int_of X G GP;have iV_v_BEGIN:=W.mg_of X G GJ;have iV_v_END:=W.mg_of X G HP;have By:=ow (P:=P) (w:=w) (base:=base) (dH0 0 rfl) T;have Bc:=io (P:=P) (w:=w) (base:=base) (dH0 1 rfl) T;have Ci:=uR ET BD By Bc;have AY:=pM (P:=P) (w:=w) (base:=base) (dH0 4 rfl);have A4:=iJ (P:=P) (w:=w) (base:=base) (dH0 5 rfl) T;have BW:=ig (dH0 6 rfl) AY A4;have BT:=gK (dH0 7 rfl) AY A4 BW;have F4:=yN (dH0 8 rfl) BT;have AT:=kI F4;have BH:=kN (P:=P) (w:=w) (base:=base) (dH0 9 rfl);have Bi:=jc (dH0 11 rfl) BH;have Db:=mM (dH0 12 rfl) Bi;have Co:=jb (P:=P) (w:=w) (base:=base) (dH0 13 rfl) T;have BI:=fS (dH0 14 rfl) Ci T;have BU:=gL (dH0 15 rfl) Bi Db BI Co;have Cq:=jg (dH0 10 rfl) BD BH AY Ci;have Bj:=jd (dH0 16 rfl) BD AT Cq BU;have EL:=wD (dH0 2 rfl) Ci;have Dq:=ox (dH0 3 rfl) By Bc T;have BO:=pO (P:=P) (w:=w) (base:=base) (dH0 21 rfl) T;have Bt:=j5 (dH0 18 rfl) AY;have Dn:=nZ (P:=P) (w:=w) (base:=base) (dH0 19 rfl);have BX:=ik (dH0 17 rfl) Dm Dq;have B0:=j4 (dH0 20 rfl) iV_v_BEGIN iV_v_END hB hE tB tE Bt Dn AY AT;have Eb:=sy (P:=P) (w:=w) (base:=base) (dH0 32 rfl) T;have Fv:=wC (dH0 33 rfl) Eb T;have Bb:=ii (P:=P) (w:=w) (base:=base) (dH0 27 rfl);have Cz:=j7 (dH0 24 rfl) Bt T;have BE:=ie (P:=P) (w:=w) (base:=base) (dH0 22 rfl) T;have Ds:=oy (dH0 23 rfl) iC_c_UPRIGHT iC_c_LEVEL B0 BO T;have Ct:=jj Cu AS n_room n_last n_doors n_far BE BO Ds Cz T;have Be:=jf (dH0 29 rfl) iC_c_UPRIGHT EL;have Dt:=oz (P:=P) (w:=w) (base:=base) (dH0 42 rfl) iC_c_UPRIGHT iC_c_LEVEL;have Cp:=je (dH0 43 rfl) AS n_room n_last n_doors n_far AT T;have BZ:=im (P:=P) (w:=w) (base:=base) (dH0 41 rfl) AS n_room n_last n_doors n_far iC_c_UPRIGHT iC_c_LEVEL iV_v_BEGIN tB T;have Cf:=iL (dH0 44 rfl) AS n_room n_last n_doors n_far iC_c_UPRIGHT iC_c_LEVEL BZ Dt Cp T;have Bu:=j6 (dH0 34 rfl) AS n_room n_last n_doors n_far AT T;have CL:=kG (dH0 35 rfl) AS n_room n_last n_doors n_far iC_c_UPRIGHT iC_c_LEVEL Bu T;have CI:=kE (dH0 36 rfl) AS n_room n_last n_doors n_far iC_c_UPRIGHT iC_c_LEVEL Bu T;have CO:=kH (P:=P) (w:=w) (base:=base) (dH0 37 rfl) AS n_room n_last n_doors n_far;have CJ:=kF (dH0 38 rfl) CL CI CO;have C7:=mG (dH0 28 rfl) iV_v_BEGIN iV_v_END hB hE AT Bj;have Dp:=oj (dH0 46 rfl) F4;have Cr:=jh (P:=P) (w:=w) (base:=base) (dH0 45 rfl) iC_c_UPRIGHT iC_c_LEVEL T;have Do:=oe (dH0 47 rfl) Dp C7 Be;have Cm:=ja (dH0 48 rfl) AS n_room n_last n_doors n_far Cf Cr Do Bb T;have Cs:=ji (P:=P) (w:=w) (base:=base) (dH0 25 rfl);have CZ:=kP (P:=P) (w:=w) (base:=base) (dH0 26 rfl);have Ce:=iK (dH0 39 rfl) Bj Be;have CY:=kO C0 AS n_room n_last n_doors n_far BF Fv CJ Cs CZ Bb Ce T;have CP:=oa (P:=P) (w:=w) (base:=base) (dH0 30 rfl) T;have CT:=og (dH0 31 rfl) CP T;have Dg:=uT (dH0 49 rfl) AS BX Ct Cm CY CT;have D0:=uS (dH0 50 rfl) Dg;have De:=pP (dH0 51 rfl) Dg;have BY:=om (P:=P) (w:=w) (base:=base) (dH0 52 rfl) T;have AR:=ol (P:=P) (w:=w) (base:=base) (dH0 53 rfl);have CW:=kM (dH0 54 rfl) AR;have BL:=oo (dH0 55 rfl) AR CW T;have CV:=kK (dH0 56 rfl) AR BL T;have CU:=kJ (P:=P) (w:=w) (base:=base) (dH0 57 rfl) T;have A6:=oq (P:=P) (w:=w) (base:=base) (dH0 58 rfl);have BN:=mL (P:=P) (w:=w) (base:=base) (dH0 60 rfl);have BM:=mH (P:=P) (w:=w) (base:=base) (dH0 59 rfl) T;have Bx:=mI (dH0 61 rfl) A6 BN BM T;have BG:=kL (dH0 62 rfl) CU;have C9:=mJ (dH0 63 rfl) AR Bx BG T;have DI:=pN (P:=P) (w:=w) (base:=base) (dH0 64 rfl) T;have Da:=mK (dH0 65 rfl) Bx A6 T;exact yO (dH0 66 rfl) BY BL AR CV C9 A6 DI Da D0 De T
end K29
end
open PySem PySem.W PyProof.Rows
lay_quick Challenge.pw_oneleash_k29_one_stands
set_option maxRecDepth 100000 in
set_option maxHeartbeats 0 in
theorem PySem.Challenge.cw_oneleash_k29_one_stands_holds : PySem.Challenge.rw_oneleash_k29_one_stands.Holds := by
 w_on;o_law
 refine holds_open (q:=K29.hView) (loose:=K29.hLoose) (Xt:=fun _=>true) (XP:=fun _ _=>True) (Yf:=Hook.obs (Hd.hookT K29.hFacts K29.hGood)) (Ya:=Hook.val (Hd.hookT K29.hFacts K29.hGood)) (YP:=Hook.says (Hd.hookT K29.hFacts K29.hGood)) (N:=100000) K29.hLeft (Hook.of _) (Hook.keeps _) (fun _ _=>trivial) (fun _ _ _ _ _=>trivial) (by rfl) (by rfl) (by rfl) (fun _ _=>recFacts_nil rfl) (by rfl) (by first|assumption|decide +kernel) (by decide +kernel) ⟨rfl,rfl,rfl,rfl,rfl,by decide +kernel⟩ ?hw ?hc
 case hw=>w_witness2
 exact Hd.law_walkT (names:=K29.hTabs) (l:=Challenge.rw_oneleash_k29_one_stands) (k:=15) ⟨rfl,by decide,by decide,rfl⟩ rfl rfl (fun K FK=>K29.hTabOk FK) fun K FK w mg fa h KX G hmg=>K29.all_of rfl FK KX G hmg
