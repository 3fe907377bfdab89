import PyProof.Rows.All
import KE.KLam
import KE.KTryMore
import KE.IntTextLaws
import KE.KRevIter
import KE.KIntText
import Open.Boot
import PySem.Challenge.RW_oneleash_k65_rows_refused
local macro_rules | `(tactic| omega)=>`(tactic| lia)
section
set_option Elab.async false
set_option linter.all false
set_option maxRecDepth 100000
namespace L2
open PySem PySem.Spec PyProof.Rows
noncomputable abbrev Key:=Sum Int Str
noncomputable def lm:Key->Value->Bool
 | .inl k,v=>Value.isInt k v
 | .inr x,v=>Value.isStrOf x v
noncomputable def ug(w:World):Key->Int
 | .inl k=>hashInt k
 | .inr x=>hashStr w x
theorem aV:∀{k:Key} {v:Value},lm k v=true->(∃i t,k=Sum.inl i/\v=Value.int i t)\/(∃x t,k=Sum.inr x/\v=Value.str x t)
 | .inl i,v,h=>by
  obtain⟨t,e⟩:=Value.isInt_shape (k:=i) (v:=v) h;exact .inl ⟨i,t,rfl,e⟩
 | .inr x,v,h=>by
  obtain⟨t,e⟩:=Value.isStrOf_shape (x:=x) (v:=v) h;exact .inr ⟨x,t,rfl,e⟩
theorem mo(x:Str)(t:Tok):lm (.inr x) (.str x t)=true:=by simp[lm,Value.isStrOf]
theorem rT(a b:Int):decide ((Sum.inl a:Key)=Sum.inl b)=(a == b):=by
 by_cases e:a=b
 ·subst e;simp
 ·have h:¬(Sum.inl a:Key)=Sum.inl b:=λq=>e (Sum.inl.inj q)
  rw[decide_eq_false h];exact(beq_eq_false_iff_ne.mpr e).symm
theorem rP(a b:Str):decide ((Sum.inr a:Key)=Sum.inr b)=decide (a=b):=by
 by_cases e:a=b
 ·subst e;simp
 ·have h:¬(Sum.inr a:Key)=Sum.inr b:=λq=>e (Sum.inr.inj q)
  rw[decide_eq_false h,decide_eq_false e]
theorem rR(a:Int)(b:Str):decide ((Sum.inl a:Key)=Sum.inr b)=false:=decide_eq_false (λq=>nomatch q)
theorem rQ(a:Str)(b:Int):decide ((Sum.inr a:Key)=Sum.inl b)=false:=decide_eq_false (λq=>nomatch q)
noncomputable def br(prog:Program)(w:World):PySem.KeyKind prog w Key where
 is:=lm
 hash:=ug w
 inj:=λv a b ha hb=>by
  rcases aV ha with⟨i,t,rfl,rfl⟩|⟨x,t,rfl,rfl⟩
  ·rcases aV hb with⟨j,u,rfl,e⟩|⟨y,u,rfl,e⟩
   ·injection e with e1 _;rw[e1]
   ·exact nomatch e
  ·rcases aV hb with⟨j,u,rfl,e⟩|⟨y,u,rfl,e⟩
   ·exact nomatch e
   ·injection e with e1 _;rw[e1]
 byValue:=λk v h=>by
  rcases aV h with⟨i,t,rfl,rfl⟩|⟨x,t,rfl,rfl⟩ <;> rfl
 pyHash:=λhv h=>by
  rcases aV hv with⟨i,t,rfl,rfl⟩|⟨x,t,rfl,rfl⟩
  ·exact wpAny_pyHash_int h
  ·exact wpAny_pyHash_str h
 eqBool:=λhu hv h=>by
  rcases aV hu with⟨i,t,rfl,rfl⟩|⟨x,t,rfl,rfl⟩
  ·rcases aV hv with⟨j,u,rfl,rfl⟩|⟨y,u,rfl,rfl⟩
   ·rw[rT]at h;exact wpAny_eqBool_int h
   ·rw[rR]at h;exact SeqAt.EqAt.int_str i t y u _ _ _ _ h
  ·rcases aV hv with⟨j,u,rfl,rfl⟩|⟨y,u,rfl,rfl⟩
   ·rw[rQ]at h;exact SeqAt.EqAt.str_int x t j u _ _ _ _ h
   ·rw[rP]at h;exact wpAny_eqBool_str h
 «strs»:=λk x t v h=>by
  rcases aV h with⟨i,u,rfl,e⟩|⟨y,u,rfl,e⟩
  ·exact nomatch e
  ·injection e with e1 _
   subst e1;cases v <;> rfl
theorem eN(prog:Program)(w:World)(x:Str)(t:Tok):(br prog w).is (.inr x) (.str x t)=true:=mo x t
inductive V where
 | non|bl (b:Bool)|int (i:Int)|str (x:Str)|byt (b:Array UInt8)|flt (b:UInt64)|ref (a:Addr)|ty (n:String)
 deriving DecidableEq
noncomputable def aN:V->Value->Prop
 | .non,u=>u=Value.none
 | .bl b,u=>u=Value.bool b
 | .int i,u=>∃t,u=Value.int i t
 | .str x,u=>∃t,u=Value.str x t
 | .byt b,u=>∃t,u=Value.bytes b t
 | .flt b,u=>∃t,u=Value.float b t
 | .ref a,u=>u=Value.ref a
 | .ty n,u=>u=Value.type n
noncomputable abbrev aE:List V->List Value->Prop:=Paired aN
theorem aE.length{xs:List V}{us:List Value}(r:aE xs us):xs.length=us.length:=Paired.length r
theorem aE.get:∀{xs:List V} {us:List Value} {i:Nat} {x:V},aE xs us->xs[i]? = some x->∃u,us[i]? = some u/\aN x u
 | _,_,_,_,.nil,e=>by simp at e
 | _,_,0,_,.cons r _,e=>by simp at e;subst e;exact⟨_,rfl,r⟩
 | _,_,i+1,x,.cons _ t,e=>by
  obtain⟨u,h1,h2⟩:=aE.get (i:=i) (x:=x) t (by simpa using e);exact⟨u,by simpa using h1,h2⟩
theorem aE.append:∀{xs ys:List V} {us ws:List Value},aE xs us->aE ys ws->aE (xs++ys) (us++ws)
 | _,_,_,_,.nil,s=>s
 | _,_,_,_,.cons r t,s=>.cons r (aE.append t s)
theorem aE.take:∀{xs:List V} {us:List Value} (n:Nat),aE xs us->aE (xs.take n) (us.take n)
 | _,_,0,_=>.nil
 | _,_,_+1,.nil=>.nil
 | _,_,n+1,.cons r t=>.cons r (aE.take n t)
theorem aE.drop:∀{xs:List V} {us:List Value} (n:Nat),aE xs us->aE (xs.drop n) (us.drop n)
 | _,_,0,r=>r
 | _,_,_+1,.nil=>.nil
 | _,_,n+1,.cons _ t=>aE.drop n t
noncomputable def dX:Option V->Option Value->Prop
 | some v,some u=>aN v u
 | none,none=>True
 | _,_=>False
noncomputable def KV{κ:Type}:List (κ×V)->List (κ×Value)->Prop:=Paired λ(p:κ×V) (q:κ×Value)=>p.1=q.1/\aN p.2 q.2
noncomputable def kV:Key->V
 | .inl i=>.int i
 | .inr x=>.str x
inductive HO where
 /-- a list -/
 | lst (xs:List V)
 /-- a tuple (never changes) -/
 | tup (xs:List V)
 /-- a dict whose keys are ints and texts;one whose keys are tuples of ints and texts (the empty one is both) -/
 | dK (kvs:List (Key×V))|dT (kvs:List (List Key×V))
 /-- a set of ints: its members,its size -/
 | set (S:Int->Bool) (n:Nat)
 /-- an instance of the class at C,its dict at dx,its attributes -/
 | ins (C dx:Addr) (fs:List (Str×V))
 /-- the dict of the instance at x -/
 | own (x:Addr)
 /-- the dict of an exception -/
 | xd (fs:List (Str×V))
 /-- a bound method,f of x -/
 | met (f x:Addr)
 /-- a range object lo,lo+1,.. below hi -/
 | rng (lo hi:Int)
 /-- a thing that is known to the object (the script;a dict while a loop walks it): read,never written while it is so -/
 | frz (o:Obj) (u:HO)
 /-- a code object's table -/
 | tbl (ps:Array Value)
 /-- any other thing,by what is true of its one object (a def of one's own: SetO a S n:=HO.ext λh=>..) -/
 | ext (φ:Heap->Prop)
noncomputable abbrev Hp:=Addr->Option HO
noncomputable def upd(H:Hp)(a:Addr)(o:HO):Hp:=λb=>if b=a then some o else H b
theorem upd_same{H:Hp}{a:Addr}{o:HO}:upd H a o a=some o:=by unfold upd;rw[if_pos rfl]
theorem aA{H:Hp}{a b:Addr}{o:HO}(h:b≠a):upd H a o b=H b:=by unfold upd;rw[if_neg h]
theorem qQ{H:Hp}{a b:Addr}{o u:HO}(h:H a=some o)(h':H b=some u)(d:o≠u):a≠b:=by
 intro e;subst e;rw[h]at h';exact d (Option.some.inj h')
theorem aK{H:Hp}{a b:Addr}{o:HO}(h:H a=some o)(h':H b=none):a≠b:=by
 intro e;subst e;rw[h]at h';cases h'
section
variable (P:Program) (w:World)
noncomputable def a8(H:Hp)(h:Heap)(a:Addr):HO->Prop
 | .lst xs=>xs.length<=sizeLine/\∃(its:List Value) (n:Nat),aE xs its/\h.get? a=some { cls:=.type "list",data:=.seq its.toArray n }
 | .tup xs=>xs.length<=sizeLine/\∃its:List Value,aE xs its/\IsTup h a its.toArray
 | .dK kvs=>kvs.length<=sizeLine/\(a == sysModules)=false/\∃vs,KV kvs vs/\h.DictOf (br P w) a vs
 | .dT kvs=>kvs.length<=sizeLine/\(a == sysModules)=false/\∃xs:List (List Key×Addr×Value),
   Paired (λ(p:List Key×V) (q:List Key×Addr×Value)=>p.1=q.1/\H q.2.1=some (.tup (p.1.map kV))/\aN p.2 q.2.2) kvs xs /\
   ∃o es ep,h.get? a=some o/\o.ExactDict/\o.data = .dict es ep/\es.toList=xs.map (entryOfKey (tupleKind (br P w)))/\(xs.map (·.1)).Nodup
 | .set S n=>h.SetOf (intKind P w) a S n
 | .ins C dx fs=>H dx=some (.own a)/\fs.length<=1000/\dx≠a/\h.get? a=some (W.instObj C dx) /\
   ∃mA,h.Ns1 dx mA/\(∀f,dX (fs.lookup f) (mA f))/\PySem.Within mA (fs.map (·.1))
 | .own _=>∃o,h.get? a=some o
 | .xd fs=>∃mA,h.Ns1 a mA/\∀f,dX (fs.lookup f) (mA f)
 | .rng lo hi=>∃t u v,h.get? a=some { cls:=.type "range",data:=.fields #[.int lo t,.int hi u,.int 1 v] }
 | .frz o u=>h.get? a=some o/\a8 H h a u
 | .tbl ps=>h.get? a=some { cls:=.none,data:=.fields ps }
 | .met f x=>h.get? a=some (W.methodObj (.ref f) (.ref x))
 | .ext φ=>φ h/\(∃o,h.get? a=some o)/\∀h1 h2:Heap,φ h1->(∀o,h1.get? a=some o->h2.get? a=some o)->φ h2
noncomputable def HOk(H:Hp)(h:Heap):Prop:=∀a o,H a=some o->a8 P w H h a o
end
section
variable {P:Program} {w:World} {H H':Hp} {h h':Heap} {a:Addr} {o:HO}
theorem a8.lt(x:a8 P w H h a o):a<h.objs.size:=by
 cases o with
 | lst xs=>obtain⟨_,_,_,_,e⟩:=x;exact Heap.lt_size e
 | tup xs=>obtain⟨_,_,_,p⟩:=x;exact p.lt
 | dK kvs=>obtain⟨_,_,_,_,o,_,_,e,_⟩:=x;exact Heap.lt_size e
 | dT kvs=>obtain⟨_,_,_,_,o,_,_,e,_⟩:=x;exact Heap.lt_size e
 | set S n=>obtain⟨o,_,_,_,e,_⟩:=x;exact Heap.lt_size e
 | ins C dx fs=>obtain⟨_,_,_,e,_⟩:=x;exact Heap.lt_size e
 | own y=>obtain⟨_,e⟩:=x;exact Heap.lt_size e
 | xd fs=>obtain⟨_,⟨_,_,_,e,_⟩,_⟩:=x;exact Heap.lt_size e
 | rng lo hi=>obtain⟨_,_,_,e⟩:=x;exact Heap.lt_size e
 | frz ob u=>obtain⟨e,_⟩:=x;exact Heap.lt_size e
 | tbl ps=>exact Heap.lt_size (show h.get? a=some _ from x)
 | met f y=>exact Heap.lt_size (show h.get? a=some _ from x)
 | ext φ=>obtain⟨_,⟨_,e⟩,_⟩:=x;exact Heap.lt_size e
theorem Paired.mapP{α β:Type}{F G:α->β->Prop}:∀{l1:List α} {l2:List β},Paired F l1 l2->(∀a b,F a b->G a b)->Paired G l1 l2
 | _,_,.nil,_=>.nil
 | _,_,.cons r t,f=>.cons (f _ _ r) (Paired.mapP t f)
theorem a8.stay(x:a8 P w H h a o)(k:∀b u,(b=a\/H b=some (.own a))->h.get? b=some u->h'.get? b=some u)
  (ho:∀b,H b=some (.own a)->H' b=some (.own a)) (ht:∀b xs,H b=some (.tup xs)->H' b=some (.tup xs)):a8 P w H' h' a o:=by
 induction o with
 | lst xs=>obtain⟨z,its,n,r,e⟩:=x;exact⟨z,its,n,r,k _ _ (.inl rfl) e⟩
 | tup xs=>obtain⟨z,its,r,ob,e,c⟩:=x;exact⟨z,its,r,ob,k _ _ (.inl rfl) e,c⟩
 | dK kvs=>obtain⟨z,y,vs,r,ob,es,ep,e,c⟩:=x;exact⟨z,y,vs,r,ob,es,ep,k _ _ (.inl rfl) e,c⟩
 | dT kvs =>
  obtain⟨z,y,xs,r,ob,es,ep,e,c⟩:=x;exact⟨z,y,xs,Paired.mapP r λp q z=>⟨z.1,ht _ _ z.2.1,z.2.2⟩,ob,es,ep,k _ _ (.inl rfl) e,c⟩
 | set S n=>obtain⟨ob,es,ep,t,e,c⟩:=x;exact⟨ob,es,ep,t,k _ _ (.inl rfl) e,c⟩
 | ins C dx fs =>
  obtain⟨d,z,ne,e,mA,⟨od,es,ep,e2,c⟩,r⟩:=x;exact⟨ho _ d,z,ne,k _ _ (.inl rfl) e,mA,⟨od,es,ep,k _ _ (.inr d) e2,c⟩,r⟩
 | own y=>obtain⟨ob,e⟩:=x;exact⟨ob,k _ _ (.inl rfl) e⟩
 | xd fs=>obtain⟨mA,⟨od,es,ep,e,c⟩,r⟩:=x;exact⟨mA,⟨od,es,ep,k _ _ (.inl rfl) e,c⟩,r⟩
 | rng lo hi=>obtain⟨t,u,v,e⟩:=x;exact⟨t,u,v,k _ _ (.inl rfl) e⟩
 | frz ob u ih=>obtain⟨e,q⟩:=x;exact⟨k _ _ (.inl rfl) e,ih q⟩
 | tbl ps =>
  have e:h.get? a=some { cls:=.none,data:=.fields ps }:=x;show h'.get? a=some { cls:=.none,data:=.fields ps };exact k a _ (.inl rfl) e
 | met f y =>
  have e:h.get? a=some (W.methodObj (.ref f) (.ref y)):=x;show h'.get? a=some (W.methodObj (.ref f) (.ref y));exact k a _ (.inl rfl) e
 | ext φ=>obtain⟨p,⟨o,e⟩,st⟩:=x;exact⟨st _ _ p λo q=>k _ _ (.inl rfl) q,⟨o,k _ _ (.inl rfl) e⟩,st⟩
theorem HOk.lt(x:HOk P w H h)(e:H a=some o):a<h.objs.size:=(x a o e).lt
theorem HOk.fresh(x:HOk P w H h)(e:h.objs.size<=a):H a=none:=by
 cases q:H a with
 | none=>rfl
 | some u=>exact absurd (Nat.lt_of_lt_of_le (x.lt q) e) (Nat.lt_irrefl _)
theorem HOk.kept(x:HOk P w H h)(k:∀b u,h.get? b=some u->h'.get? b=some u):HOk P w H h':=λa o e =>
 (x a o e).stay (λb u _ q=>k b u q) (λ_ q=>q) λ_ _ q=>q
theorem HOk.laid(x:HOk P w H h)(k:∀b u,h.get? b=some u->h'.get? b=some u)(hp:h.objs.size<=a)(new:a8 P w (upd H a o) h' a o):HOk P w (upd H a o) h':=λb u e=>by
 have hn:=x.fresh hp
 by_cases hb:b=a
 ·subst hb;rw[upd_same]at e;cases e;exact new
 ·rw[aA hb]at e
  exact(x b u e).stay (λc v _ q=>k c v q) (λc q=>by rw[aA (aK q hn)];exact q) λc xs q=>by rw[aA (aK q hn)];exact q
end
noncomputable def Rd(H:Hp)(a:Addr)(u:HO):Prop:=H a=some u\/∃o,H a=some (.frz o u)
theorem Rd.ok{P:Program}{w:World}{H:Hp}{h:Heap}{a:Addr}{u:HO}(r:Rd H a u)(x:HOk P w H h):a8 P w H h a u:=by
 rcases r with r|⟨o,r⟩
 ·exact x a u r
 ·obtain⟨_,q⟩:=x a _ r
  exact q
noncomputable def Mut:Option HO->Prop
 | some (.lst _)=>True
 | some (.dK _)=>True
 | some (.dT _)=>True
 | some (.set _ _)=>True
 | some (.ins _ _ _)=>True
 | some (.ext _)=>True
 | _=>False
section
variable {P:Program} {w:World} {H:Hp} {h h':Heap} {x e:Addr} {o':HO}
theorem HOk.write(ok:HOk P w H h)(mu:Mut (H x))(he:e=x\/H e=some (.own x))(k:∀b u,b≠e->h.get? b=some u->h'.get? b=some u)(heo:∃u,h'.get? e=some u)
  (new:a8 P w (upd H x o') h' x o'):HOk P w (upd H x o') h':=λb u q=>by
 have nown:∀c y,H c=some (.own y)->c≠x:=λc y r z=>by subst z;rw[r]at mu;exact mu
 have ntup:∀c xs,H c=some (.tup xs)->c≠x:=λc xs r z=>by subst z;rw[r]at mu;exact mu
 by_cases hb:b=x
 ·subst hb;rw[upd_same]at q;cases q;exact new
 ·rw[aA hb]at q
  by_cases hbe:b=e
  ·have q':H b=some (.own x):=by
    rcases he with z|z
    ·exact absurd (hbe.trans z) hb
    ·rw[hbe];exact z
   rw[q]at q';cases q';obtain⟨v,hv⟩:=heo;exact⟨v,by rw[hbe];exact hv⟩
  ·refine(ok b u q).stay (λc v hc r=>k c v ?_ r) (λc r=>by rw[aA (nown c b r)];exact r) λc xs r=>by rw[aA (ntup c xs r)];exact r
   rcases hc with rfl|hc
   ·exact hbe
   ·rintro rfl
    rcases he with z|z
    ·exact nown c b hc z
    ·rw[hc]at z;cases z;exact hb rfl
end
structure Un(fs ex:List Addr)(H H':Hp)(h h':Heap):Prop where
 keep:∀b o,h.get? b=some o->H b=none->b∉fs->b∉ex->h'.get? b=some o
 slot:∀b o,h.get? b=some o->H b=none->b∈fs->b∉ex->∃sl,h'.get? b=some { o with slots:=sl }
 free:∀b o,h.get? b=some o->H b=none->b∉ex->H' b=none
 there:∀b o,h.get? b=some o->b∉ex->∃o',h'.get? b=some o'
 tups:∀b xs,H b=some (.tup xs)->H' b=some (.tup xs)
 frzs:∀b o u,H b=some (.frz o u)->H' b=some (.frz o u)
 tbls:∀b ps,H b=some (.tbl ps)->∃more,H' b=some (.tbl (ps++more))
section
variable {fs fs' ex ex':List Addr} {H H1 H2:Hp} {h h1 h2 h':Heap} {a x e:Addr} {o:HO}
theorem Un.any(u:Un fs ex H H1 h h1){b:Addr}{ob:Obj}(q:h.get? b=some ob)(n:H b=none)(hx:b∉ex):∃sl,h1.get? b=some { ob with slots:=sl }:=by
 by_cases hb:b∈fs
 ·exact u.slot b ob q n hb hx
 ·exact⟨ob.slots,u.keep b ob q n hb hx⟩
theorem Un.kept(k:∀b u,h.get? b=some u->h'.get? b=some u):Un fs ex H H h h' :=
 ⟨λb ob q _ _ _=>k b ob q,λb ob q _ _ _=>⟨ob.slots,k b ob q⟩,λ_ _ _ n _=>n,λb ob q _=>⟨ob,k b ob q⟩,λ_ _ q=>q,λ_ _ _ q=>q,λ_ ps q=>⟨#[],by rw[q];simp⟩⟩
theorem Un.refl:Un fs ex H H h h:=Un.kept λ_ _ q=>q
theorem Un.laid(k:∀b u,h.get? b=some u->h'.get? b=some u)(hp:h.objs.size<=a)(hn:H a=none):Un fs ex H (upd H a o) h h' where
 keep:=λb u q _ _ _=>k b u q
 slot:=λb u q _ _ _=>⟨u.slots,k b u q⟩
 free:=λb u q n _=>by rw[aA (Nat.ne_of_lt (Nat.lt_of_lt_of_le (Heap.lt_size q) hp))];exact n
 there:=λb u q _=>⟨u,k b u q⟩
 tups:=λb xs q=>by rw[aA (aK q hn)];exact q
 frzs:=λb u xs q=>by rw[aA (aK q hn)];exact q
 tbls:=λb ps q=>⟨#[],by rw[aA (aK q hn),q];simp⟩
theorem Un.write(mu:Mut (H x))(he:e=x\/H e=some (.own x))(k:∀b u,b≠e->h.get? b=some u->h'.get? b=some u)(heo:∃u,h'.get? e=some u):Un fs ex H (upd H x o) h h':=by
 have hx:∀b,H b=none->b≠x:=λb n z=>by subst z;rw[n]at mu;exact mu
 have hb:∀b,H b=none->b≠e:=λb n z=>by
  subst z;rcases he with r|r
  ·exact hx b n r
  ·rw[n]at r;cases r
 have hm:∀b u,H b=some u->¬Mut (some u)->b≠x:=λb u q nm z=>by subst z;rw[q]at mu;exact nm mu
 refine⟨λb u q n _ _=>k b u (hb b n) q,λb u q n _ _=>⟨u.slots,k b u (hb b n) q⟩,λb u q n _=>by rw[aA (hx b n)];exact n,λb u q _=>?_,
  λb xs q=>by rw[aA (hm b _ q λz=>z)];exact q,λb u xs q=>by rw[aA (hm b _ q λz=>z)];exact q,λb ps q=>⟨#[],by rw[aA (hm b _ q λz=>z),q];simp⟩⟩
 by_cases hbe:b=e
 ·subst hbe;exact heo
 ·exact⟨u,k b u hbe q⟩
end
noncomputable def trk(h:Heap)(H:Hp):List Addr:=(List.range h.objs.size).filter λa=>(H a).isSome
noncomputable def ir(h:Heap)(H:Hp):Heap:=W.hideAll h (trk h H)
theorem ms(h:Heap)(H:Hp):(ir h H).objs.size=h.objs.size:=W.hideAll_size _ _
theorem oF{h:Heap}{H:Hp}{b:Addr}{o:Obj}(e:h.get? b=some o)(n:H b=none):(ir h H).get? b=some o :=
 W.hideAll_get _ e λhm=>by
  have q:(H b).isSome=true:=(List.mem_filter.mp hm).2;rw[n]at q;simp at q
theorem pR{h:Heap}{H:Hp}{b:Addr}{o:Obj}(e:(ir h H).get? b=some o):h.get? b=some o/\H b=none:=by
 have e':h.get? b=some o:=W.of_hideAll (trk h H) e;refine⟨e',?_⟩;cases q:H b with
 | none=>rfl
 | some x =>
  have hm:b∈trk h H:=List.mem_filter.mpr ⟨List.mem_range.mpr (Heap.lt_size e'),by simp[q]⟩;have z:(ir h H).get? b=none:=W.hideAll_none (trk h H) hm;rw[z]at e;cases e
structure Mod(K:W.Frag)(mg:Str->Option Value)(base:Heap):Prop where
 kin:K.In base
 glob:base.Ns mainGlobals mg
 blt:∃mb,base.Ns builtinsNs mb/\∀x:Str,x≠"__name__"->mb x=bootBuiltins x
 nolimit:base.NoLimit
structure Cx where
 prog:Program
 w:World
 K:W.Frag
 mg:Str->Option Value
 base:Heap
 A:Around
 N:List Str
 s₀:Shared
 H₀:Hp
 env:Env
 outer:List Env
 stack:List Env
 ex:List Addr
 fn:Str->Bool
 calm:Bool
 pn:List (Addr×Obj)
 xe:Value->Shared->Prop
noncomputable def frs(l:List Env):List Addr:=l.filterMap (·.frame)
noncomputable abbrev Cx.fs(X:Cx):List Addr:=frs X.outer
noncomputable def Vis(sc:Scope)(x:Str):Prop:=sc.names.lookup x=some .local\/sc.names.lookup x=some .cell\/sc.names.lookup x=some .free
noncomputable def Loc(sc:Scope)(x:Str):Prop:=sc.names.lookup x=some .local\/sc.names.lookup x=some .cell
noncomputable def ul(env:Env)(h:Heap)(m:Str->Option Value)(x:Str)(u:Value):Prop :=
 (env.kindOf x=some .local/\m x=some u)\/((env.kindOf x=some .cell\/env.kindOf x=some .free)/\∃c,env.cells.lookup x=some c/\h.IsCell c (some u))
structure Cx.Ok(X:Cx):Prop where
 mod:Mod X.K X.mg X.base
 kind:X.env.scope.kind = .function
 glob:X.env.globals=mainGlobals
 blt:X.env.builtins=builtinsNs
 above:X.s₀.heap.objs.size<=X.env.locals
 inj:∀x y c,X.env.cells.lookup x=some c->X.env.cells.lookup y=some c->x=y
 has:∀x,(X.env.kindOf x=some .cell\/X.env.kindOf x=some .free)->∃c,X.env.cells.lookup x=some c
 cab:∀x c,X.fn x=true->X.env.cells.lookup x=some c->X.s₀.heap.objs.size<=c
 hd:X.calm=true->X.A.handled=none
 frames:X.A.frames=some X.stack
 stk:X.stack=X.outer\/(X.stack=X.env::X.outer/\X.env.frame=some X.env.locals)
 exf:∀b∈X.ex,b≠X.env.locals/\∀x c,X.env.cells.lookup x=some c->c≠b
 bs:∀b o,X.base.get? b=some o->X.s₀.heap.get? b=some o/\X.H₀ b=none
 bsz:X.base.objs.size<=X.s₀.heap.objs.size
 noex:∀b o,X.base.get? b=some o->b∉X.ex
 exfs:∀b∈X.ex,b∉X.fs
 funs:X.s₀.heap.FunFrames X.base X.outer
 frf:∀b∈X.fs,X.H₀ b=none
structure ur(X:Cx)(pins:List (Addr×Obj))(σ:List (Option V))(H:Hp)(s:Shared):Prop where
 ok:X.Ok
 os:s.os=X.s₀.os
 bare:AllBare s.gens
 base:Un X.fs X.ex X.H₀ H X.s₀.heap s.heap
 loc:∃m,s.heap.Ns X.env.locals m/\∀(i:Nat) (x:Str) (v:V),X.N[i]? = some x->σ[i]? = some (some v)->Vis X.env.scope x->∃u,aN v u/\ul X.env s.heap m x u
 cell:∀x c,X.env.cells.lookup x=some c->∃v,s.heap.IsCell c v
 free:H X.env.locals=none
 freeC:∀x c,X.env.cells.lookup x=some c->H c=none
 pin:∀p∈X.pn++pins,s.heap.get? p.1=some p.2/\H p.1=none/\p.1≠X.env.locals/\p.1∉X.fs/\∀v,p.2.data≠.cell v
 hok:HOk X.prog X.w H s.heap
 len:σ.length=X.N.length
section
variable {X:Cx} {pins:List (Addr×Obj)} {σ:List (Option V)} {H H':Hp} {s:Shared} {h':Heap}
theorem Cx.Ok.nofr(ok:X.Ok){b:Addr}{o:Obj}(e:X.base.get? b=some o):b∉X.fs:=λhb=>by
 have:=(ok.funs.mem hb).1;rw[e]at this;cases this
theorem ur.bs(I:ur X pins σ H s):∀b o,X.base.get? b=some o->s.heap.get? b=some o/\H b=none:=λb o e =>
 ⟨I.base.keep b o (I.ok.bs b o e).1 (I.ok.bs b o e).2 (I.ok.nofr e) (I.ok.noex b o e),I.base.free b o (I.ok.bs b o e).1 (I.ok.bs b o e).2 (I.ok.noex b o e)⟩
theorem ur.bk(I:ur X pins σ H s):∀b o,X.base.get? b=some o->s.heap.get? b=some o:=λb o e=>(I.bs b o e).1
theorem ur.mod(I:ur X pins σ H s):Mod X.K X.mg X.base:=I.ok.mod
theorem ur.kIn(I:ur X pins σ H s):X.K.In s.heap:=I.ok.mod.kin.keeps I.bk
theorem ur.lt(I:ur X pins σ H s):X.env.locals<s.heap.objs.size:=let ⟨_,hn,_⟩:=I.loc;hn.lt
theorem ur.sz(I:ur X pins σ H s):X.s₀.heap.objs.size<=s.heap.objs.size:=Nat.le_trans I.ok.above (Nat.le_of_lt I.lt)
theorem ur.nofs(I:ur X pins σ H s){a:Addr}(h:s.heap.objs.size<=a):a∉X.fs:=λhb=>by
 obtain⟨_,o,ho,_⟩:=I.ok.funs.mem hb;exact absurd (Nat.lt_of_lt_of_le (Heap.lt_size ho) (Nat.le_trans I.sz h)) (Nat.lt_irrefl _)
theorem ur.cne(I:ur X pins σ H s):∀x c,X.env.cells.lookup x=some c->c≠X.env.locals:=λx c e z=>by
 obtain⟨v,o,ho,hd⟩:=I.cell x c e;obtain⟨m,⟨o',es,ep,ho',hd',_⟩,_⟩:=I.loc;rw[z,ho']at ho;cases ho;rw[hd']at hd;cases hd
theorem ur.funs(I:ur X pins σ H s):s.heap.FunFrames X.base X.outer:=by
 have all:∀(l:List Env),(∀b∈frs l,b∈X.fs)->X.s₀.heap.FunFrames X.base l->s.heap.FunFrames X.base l:=by
  intro l
  induction l with
  | nil=>intro _ _;trivial
  | cons env r ih =>
   intro hs hl;obtain⟨hk,⟨L,o,hf,hn,ho,hd⟩,hr⟩:=hl;have hL:L∈X.fs:=hs L (by unfold frs;rw[List.filterMap_cons,hf];exact List.mem_cons_self);obtain⟨sl,e⟩:=I.base.slot L o ho (I.ok.frf L hL) hL λz=>I.ok.exfs L z hL;exact⟨hk,⟨L,_,hf,hn,e,hd⟩,ih (λb hb=>hs b (by unfold frs;rw[List.filterMap_cons,hf];exact List.mem_cons_of_mem _ hb)) hr⟩
 exact all X.outer (λ_ hb=>hb) I.ok.funs
theorem ur.stack(I:ur X pins σ H s):s.heap.FunFrames X.base X.stack:=by
 rcases I.ok.stk with e|⟨e,hf⟩
 ·rw[e];exact I.funs
 ·rw[e]
  obtain⟨m,hn,_⟩:=I.loc;refine .cons (by rw[I.ok.kind];decide) hf hn ?_ I.funs;exact Heap.get?_none_of_le (Nat.le_trans I.ok.bsz I.ok.above)
theorem ur.stkSub(I:ur X pins σ H s):∀b∈frs X.stack,b∈X.env.locals::X.fs:=λb hb=>by
 rcases I.ok.stk with e|⟨e,hf⟩
 ·rw[e]at hb;exact List.mem_cons_of_mem _ hb
 ·rw[e]at hb
  unfold frs at hb;rw[List.filterMap_cons,hf]at hb;exact hb
theorem ur.stkFree(I:ur X pins σ H s):∀b∈frs X.stack,H b=none:=λb hb=>by
 rcases List.mem_cons.mp (I.stkSub b hb) with e|hb
 ·rw[e];exact I.free
 ·obtain⟨_,o,ho,_⟩:=I.ok.funs.mem hb
  exact I.base.free b o ho (I.ok.frf b hb) λz=>I.ok.exfs b z hb
theorem ur.step{g':Array GenState}{t':Nat}{d':Drawn}{ch:List Addr}(I:ur X pins σ H s)
  (hch:∀b∈ch,(b∈X.ex\/X.s₀.heap.objs.size<=b)/\b≠X.env.locals/\(∀x c,X.env.cells.lookup x=some c->c≠b)/\∀p∈X.pn++pins,p.1≠b)
  (keep:∀b o,b≠X.env.locals->b∉X.fs->b∉ch->s.heap.get? b=some o->H b=none->h'.get? b=some o)
  (slot:∀b o,b≠X.env.locals->b∈X.fs->b∉ch->s.heap.get? b=some o->H b=none->∃sl,h'.get? b=some { o with slots:=sl }) (free:∀b o,b∉ch->s.heap.get? b=some o->H b=none->H' b=none)
  (there:∀b o,b∉ch->s.heap.get? b=some o->∃o',h'.get? b=some o')
  (tups:∀b xs,H b=some (.tup xs)->H' b=some (.tup xs)) (frzs:∀b o u,H b=some (.frz o u)->H' b=some (.frz o u)) (tbls:∀b ps,H b=some (.tbl ps)->∃more,H' b=some (.tbl (ps++more)))
  (ns:∀m,s.heap.Ns X.env.locals m->h'.Ns X.env.locals m) (hok:HOk X.prog X.w H' h') (hg:AllBare g') :
  ur X pins σ H' { s with heap:=h',gens:=g',drawn:=d',toks:=t' }:=by
 have neL:∀b o,X.s₀.heap.get? b=some o->b≠X.env.locals:=λb o e=>Nat.ne_of_lt (Nat.lt_of_lt_of_le (Heap.lt_size e) I.ok.above);have neC:∀b o,X.s₀.heap.get? b=some o->b∉X.ex->b∉ch:=λb o e hx hb=>by
  rcases(hch b hb).1 with z|z
  ·exact hx z
  ·exact absurd (Nat.lt_of_lt_of_le (Heap.lt_size e) z) (Nat.lt_irrefl _)
 have cellK:∀x c,X.env.cells.lookup x=some c->∀v,s.heap.IsCell c v->h'.IsCell c v:=λx c e v ⟨o,ho,hd⟩=>by
  have nch:c∉ch:=λz=>(hch c z).2.2.1 x c e rfl
  by_cases hc:c∈X.fs
  ·obtain⟨sl,q⟩:=slot c o (I.cne x c e) hc nch ho (I.freeC x c e)
   exact⟨_,q,hd⟩
  ·exact⟨o,keep c o (I.cne x c e) hc nch ho (I.freeC x c e),hd⟩
 refine⟨I.ok,I.os,hg,⟨λb o e n hb hx=>?_,λb o e n hb hx=>?_,λb o e n hx=>?_,λb o e hx=>?_,λb xs e=>tups b xs (I.base.tups b xs e),λb o xs e=>frzs b o xs (I.base.frzs b o xs e),λb ps e=>?_⟩,?_,λx c e=>?_,?_,λx c e=>?_,λp hp=>?_,hok,I.len⟩
 ·exact keep b o (neL b o e) hb (neC b o e hx) (I.base.keep b o e n hb hx) (I.base.free b o e n hx)
 ·obtain⟨sl,e1⟩:=I.base.slot b o e n hb hx
  obtain⟨sl',e2⟩:=slot b _ (neL b o e) hb (neC b o e hx) e1 (I.base.free b o e n hx);exact⟨sl',e2⟩
 ·obtain⟨o',e1⟩:=I.base.there b o e hx
  exact free b o' (neC b o e hx) e1 (I.base.free b o e n hx)
 ·obtain⟨o',e1⟩:=I.base.there b o e hx
  exact there b o' (neC b o e hx) e1
 ·obtain⟨m1,e1⟩:=I.base.tbls b ps e
  obtain⟨m2,e2⟩:=tbls b _ e1;exact⟨m1++m2,by rw[e2,Array.append_assoc]⟩
 ·obtain⟨m,hn,hl⟩:=I.loc
  refine⟨m,ns m hn,λi x v e1 e2 e3=>?_⟩;obtain⟨u,r,l⟩:=hl i x v e1 e2 e3;refine⟨u,r,?_⟩;rcases l with l|⟨k,c,e,z⟩
  ·exact .inl l
  ·exact .inr ⟨k,c,e,cellK x c e _ z⟩
 ·obtain⟨v,z⟩:=I.cell x c e
  exact⟨v,cellK x c e v z⟩
 ·obtain⟨m,⟨o,_,_,ho,_⟩,_⟩:=I.loc
  exact free _ o (λz=>(hch _ z).2.1 rfl) ho I.free
 ·obtain⟨v,o,ho,hd⟩:=I.cell x c e
  exact free c o (λz=>(hch c z).2.2.1 x c e rfl) ho (I.freeC x c e)
 ·obtain⟨e,n,ne,nf,d⟩:=I.pin p hp
  have nch:p.1∉ch:=λz=>(hch p.1 z).2.2.2 p hp rfl;exact⟨keep p.1 p.2 ne nf nch e n,free p.1 p.2 nch e n,ne,nf,d⟩
theorem ur.un{t':Nat}(I:ur X pins σ H s)(u:Un X.fs [] H H' s.heap h')(hok:HOk X.prog X.w H' h'):ur X pins σ H' { s with heap:=h',toks:=t' }:=by
 obtain⟨m,⟨o,es,ep,ho,r⟩,_⟩:=id I.loc;obtain⟨sl,hL⟩:=u.any ho I.free (by simp);exact I.step (g':=s.gens) (d':=s.drawn) (ch:=[]) (λ_ z=>nomatch z) (λb o _ hb _ e n=>u.keep b o e n hb (by simp)) (λb o _ hb _ e n=>u.slot b o e n hb (by simp)) (λb o _ e n=>u.free b o e n (by simp)) (λb o _ e=>u.there b o e (by simp)) u.tups u.frzs u.tbls (λm' hm=>by
  obtain⟨o',es',ep',ho',r'⟩:=hm;rw[ho]at ho';cases ho';exact⟨_,es',ep',hL,r'⟩) hok I.bare
theorem ur.call{g':Array GenState}{t':Nat}{d':Drawn}{ch:List Addr}(I:ur X pins σ H s)(u:Un (frs X.stack) ch H H' s.heap h')(hok:HOk X.prog X.w H' h')(hg:AllBare g')
  (hch:∀b∈ch,(b∈X.ex\/X.s₀.heap.objs.size<=b)/\b≠X.env.locals/\(∀x c,X.env.cells.lookup x=some c->c≠b)/\∀p∈X.pn++pins,p.1≠b) :
  ur X pins σ H' { s with heap:=h',gens:=g',drawn:=d',toks:=t' }:=by
 obtain⟨m,⟨o,es,ep,ho,r⟩,_⟩:=id I.loc;obtain⟨sl,hL⟩:=u.any ho I.free λz=>(hch _ z).2.1 rfl;exact I.step (ch:=ch) hch (λb o hL hb hc e n=>u.keep b o e n (λz=>(List.mem_cons.mp (I.stkSub b z)).elim hL hb) hc) (λb o _ _ hc e n=>u.any e n hc) (λb o hc e n=>u.free b o e n hc) (λb o hc e=>u.there b o e hc) u.tups u.frzs u.tbls (λm' hm=>by
  obtain⟨o',es',ep',ho',r'⟩:=hm;rw[ho]at ho';cases ho';exact⟨_,es',ep',hL,r'⟩) hok hg
theorem ur.turned{t':Nat}{it:Addr}(I:ur X pins σ H s)(k:∀b o,b≠it->s.heap.get? b=some o->h'.get? b=some o)(hn:H it=none)(hL:it≠X.env.locals)
  (h1:it∈X.ex\/X.s₀.heap.objs.size<=it) (h2:∀x c,X.env.cells.lookup x=some c->c≠it) (h3:∀p∈X.pn++pins,p.1≠it):ur X pins σ H { s with heap:=h',toks:=t' }:=by
 have nit:∀b u,H b=some u->b≠it:=λb u e z=>by rw[z,hn]at e;cases e
 refine I.step (g':=s.gens) (d':=s.drawn) (ch:=[it]) (λb hb=>?_) (λb o _ _ hc e _=>k b o (λz=>hc (by simp[z])) e) (λb o _ _ hc e _=>⟨o.slots,k b o (λz=>hc (by simp[z])) e⟩) (λ_ _ _ _ n=>n)
  (λb o hc e=>⟨o,k b o (λz=>hc (by simp[z])) e⟩) (λ_ _ e=>e) (λ_ _ _ e=>e) (λb ps e=>⟨#[],by rw[e];simp⟩) (λm hm=>?_) (λb u e=>?_) I.bare
 ·have e:b=it:=by simpa using hb
  subst e;exact⟨h1,hL,h2,h3⟩
 ·obtain⟨o,es,ep,ho,r⟩:=hm
  exact⟨o,es,ep,k _ o (Ne.symm hL) ho,r⟩
 ·refine(I.hok b u e).stay (λc v hc q=>k c v ?_ q) (λ_ q=>q) λ_ _ q=>q
  rcases hc with z|z
  ·rw[z];exact nit b u e
  ·exact nit c _ z
theorem ur.tok(I:ur X pins σ H s)(t:Nat):ur X pins σ H { s with toks:=t }:=I.un (h':=s.heap) (t':=t) Un.refl I.hok
theorem ur.kept{t':Nat}(I:ur X pins σ H s)(k:∀b u,s.heap.get? b=some u->h'.get? b=some u):ur X pins σ H { s with heap:=h',toks:=t' }:=I.un (Un.kept k) (I.hok.kept k)
theorem ur.laid{a:Addr}{o:HO}{t':Nat}(I:ur X pins σ H s)(k:∀b u,s.heap.get? b=some u->h'.get? b=some u)(hp:s.heap.objs.size<=a)(new:a8 X.prog X.w (upd H a o) h' a o) :
  ur X pins σ (upd H a o) { s with heap:=h',toks:=t' }:=I.un (Un.laid k hp (I.hok.fresh hp)) (I.hok.laid k hp new)
theorem ur.write{x e:Addr}{o:HO}{t':Nat}(I:ur X pins σ H s)(mu:Mut (H x))(he:e=x\/H e=some (.own x))(k:∀b u,b≠e->s.heap.get? b=some u->h'.get? b=some u)(heo:∃u,h'.get? e=some u)
  (new:a8 X.prog X.w (upd H x o) h' x o):ur X pins σ (upd H x o) { s with heap:=h',toks:=t' }:=I.un (Un.write mu he k heo) (I.hok.write mu he k heo new)
theorem ur.pins_of{pins':List (Addr×Obj)}(I:ur X pins σ H s)(h:∀p∈pins',s.heap.get? p.1=some p.2/\H p.1=none/\p.1≠X.env.locals/\p.1∉X.fs/\∀v,p.2.data≠.cell v):ur X pins' σ H s :=
 ⟨I.ok,I.os,I.bare,I.base,I.loc,I.cell,I.free,I.freeC,λp hp=>(List.mem_append.mp hp).elim (λz=>I.pin p (List.mem_append_left _ z)) (h p),I.hok,I.len⟩
theorem fA{N:List Str}(hN:N.Nodup){i j:Nat}{x:Str}(a:N[i]? = some x)(b:N[j]? = some x):i=j:=by
 obtain⟨h1,e1⟩:=List.getElem?_eq_some_iff.mp a;obtain⟨h2,e2⟩:=List.getElem?_eq_some_iff.mp b;exact(List.getElem_inj hN).mp (e1.trans e2.symm)
theorem cJ{M:Model}{A:Around}{E:Value->Shared->Prop}{i:Nat}{x:Str}{v:V}{u:Value}{Q:Unit->Shared->Prop}(I:ur X pins σ H s)(hN:X.N.Nodup)(hi:X.N[i]? = some x)(hx:Loc X.env.scope x)(r:aN v u)
  (h:∀s',ur X pins (σ.set i (some v)) H s'->(∃a,Heap.SameBut a s.heap s'.heap/\(a=X.env.locals\/X.env.cells.lookup x=some a))->Q () s') (hf:X.fn x=true\/X.env.scope.names.lookup x=some .local:=by first|exact .inl rfl|exact .inr rfl|assumption):wpAny M A (storeName X.env x u) Q E s:=by
 obtain⟨m,hn,hl⟩:=id I.loc;have hcls:(X.env.scope.kind == .class || (X.env.scope.kind == .module && X.env.locals != X.env.globals))=false:=by rw[I.ok.kind];rfl
 have hiσ:i<σ.length:=by rw[I.len];exact(List.getElem?_eq_some_iff.mp hi).1
 have cne:=I.cne;have tracked:∀{a:Addr} {h':Heap},(∃o,s.heap.get? a=some o/\H a=none)->Heap.SameBut a s.heap h'->HOk X.prog X.w H h':=λ{a h'} ha hs b ob e=>by
  obtain⟨_,_,hfree⟩:=ha;refine(I.hok b ob e).stay (λc w' hc q=>(hs.2 c ?_).trans q) (λ_ q=>q) λ_ _ q=>q;rintro rfl;rcases hc with rfl|hc
  ·rw[hfree]at e;cases e
  ·rw[hfree]at hc;cases hc
 rcases hx with hk|hk
 ·refine wpAny_storeName_local hk hn (λh' hn' hs=>?_) hcls
  obtain⟨oL,_,_,hoL,_⟩:=id hn;refine h _ ⟨I.ok,I.os,I.bare,⟨λb o e n hb hx=>?_,λb o e n hb hx=>?_,I.base.free,λb o e hx=>?_,I.base.tups,I.base.frzs,I.base.tbls⟩,⟨_,hn',λj y v' e1 e2 e3=>?_⟩,λy c e=>?_,I.free,I.freeC,λp hp=>?_,tracked ⟨oL,hoL,I.free⟩ hs,by simpa using I.len⟩ ⟨_,hs,.inl rfl⟩
  ·exact(hs.2 b (Nat.ne_of_lt (Nat.lt_of_lt_of_le (Heap.lt_size e) I.ok.above))).trans (I.base.keep b o e n hb hx)
  ·obtain⟨sl,e1⟩:=I.base.slot b o e n hb hx
   exact⟨sl,(hs.2 b (Nat.ne_of_lt (Nat.lt_of_lt_of_le (Heap.lt_size e) I.ok.above))).trans e1⟩
  ·obtain⟨o',e1⟩:=I.base.there b o e hx
   exact⟨o',(hs.2 b (Nat.ne_of_lt (Nat.lt_of_lt_of_le (Heap.lt_size e) I.ok.above))).trans e1⟩
  ·by_cases hj:j=i
   ·subst hj
    rw[hi]at e1;cases e1;rw[List.getElem?_set_self hiσ]at e2;cases e2;exact⟨u,r,.inl ⟨hk,by simp⟩⟩
   ·rw[List.getElem?_set_ne (Ne.symm hj)]at e2
    obtain⟨u',r',q⟩:=hl j y v' e1 e2 e3;refine⟨u',r',?_⟩;rcases q with⟨k,e⟩|⟨k,c,e,z⟩
    ·refine .inl ⟨k,?_⟩
     have:y≠x:=λe=>hj (fA hN e1 (e▸hi));simp[this,e]
    ·exact .inr ⟨k,c,e,z.sameBut hs (cne y c e)⟩
  ·obtain⟨w',z⟩:=I.cell y c e
   exact⟨w',z.sameBut hs (cne y c e)⟩
  ·obtain⟨e,n,ne,nf,d⟩:=I.pin p hp
   exact⟨(hs.2 p.1 ne).trans e,n,ne,nf,d⟩
 ·have hfn:X.fn x=true:=by
   rcases hf with z|z
   ·exact z
   ·rw[z]at hk;cases hk
  obtain⟨c,hc⟩:=I.ok.has x (.inl hk);obtain⟨w',z⟩:=I.cell x c hc;refine wpAny_storeName_cell I.ok.kind hk hc z (λh' hc' hs=>?_);obtain⟨oc,hoc,hocd⟩:=id z;refine h { s with heap:=h' } ⟨I.ok,I.os,I.bare,⟨λb o e n hb hx=>?_,λb o e n hb hx=>?_,I.base.free,λb o e hx=>?_,I.base.tups,I.base.frzs,I.base.tbls⟩,⟨m,hn.sameBut hs (Ne.symm (cne x c hc)),λj y v' e1 e2 e3=>?_⟩,λy c' e=>?_,I.free,I.freeC,λp hp=>?_,tracked ⟨oc,hoc,I.freeC x c hc⟩ hs,by simpa using I.len⟩ ⟨c,hs,.inr hc⟩
  ·exact(hs.2 b (Nat.ne_of_lt (Nat.lt_of_lt_of_le (Heap.lt_size e) (I.ok.cab x c hfn hc)))).trans (I.base.keep b o e n hb hx)
  ·obtain⟨sl,e1⟩:=I.base.slot b o e n hb hx
   exact⟨sl,(hs.2 b (Nat.ne_of_lt (Nat.lt_of_lt_of_le (Heap.lt_size e) (I.ok.cab x c hfn hc)))).trans e1⟩
  ·obtain⟨o',e1⟩:=I.base.there b o e hx
   exact⟨o',(hs.2 b (Nat.ne_of_lt (Nat.lt_of_lt_of_le (Heap.lt_size e) (I.ok.cab x c hfn hc)))).trans e1⟩
  ·by_cases hj:j=i
   ·subst hj
    rw[hi]at e1;cases e1;rw[List.getElem?_set_self hiσ]at e2;cases e2;exact⟨u,r,.inr ⟨.inl hk,c,hc,hc'⟩⟩
   ·rw[List.getElem?_set_ne (Ne.symm hj)]at e2
    obtain⟨u',r',q⟩:=hl j y v' e1 e2 e3;refine⟨u',r',?_⟩;rcases q with q|⟨k,c',e,z'⟩
    ·exact .inl q
    ·refine .inr ⟨k,c',e,z'.sameBut hs ?_⟩
     rintro rfl;exact hj (fA hN e1 (I.ok.inj _ _ _ e hc▸hi))
  ·by_cases hcc:c'=c
   ·subst hcc;exact⟨_,hc'⟩
   ·obtain⟨w2,z2⟩:=I.cell y c' e
    exact⟨w2,z2.sameBut hs hcc⟩
  ·obtain⟨e,n,ne,nf,d⟩:=I.pin p hp
   refine⟨(hs.2 p.1 ?_).trans e,n,ne,nf,d⟩;intro q;rw[q,hoc]at e;have q':oc=p.2:=Option.some.inj e;exact d w' (by rw[<- q'];exact hocd)
theorem fu{M:Model}{A:Around}{E:Value->Shared->Prop}{i:Nat}{x:Str}{v:V}{u:Value}{Q:Unit->Shared->Prop}(I:ur X pins σ H s)(hN:X.N.Nodup)(hi:X.N[i]? = some x)(hx:Loc X.env.scope x)(r:aN v u)
  (h:∀s',ur X pins (σ.set i (some v)) H s'->Q () s') (hf:X.fn x=true\/X.env.scope.names.lookup x=some .local:=by first|exact .inl rfl|exact .inr rfl|assumption):wpAny M A (storeName X.env x u) Q E s :=
 cJ I hN hi hx r (λs' I' _=>h s' I') hf
theorem ur.call'{s':Shared}{ch:List Addr}(I:ur X pins σ H s)(ho:s'.os=s.os)(u:Un (frs X.stack) ch H H' s.heap s'.heap)(hok:HOk X.prog X.w H' s'.heap)(hg:AllBare s'.gens)
  (hch:∀b∈ch,(b∈X.ex\/X.s₀.heap.objs.size<=b)/\b≠X.env.locals/\(∀x c,X.env.cells.lookup x=some c->c≠b)/\∀p∈X.pn++pins,p.1≠b):ur X pins σ H' s':=by
 obtain⟨h',g',d',t',o'⟩:=s';have e:o'=s.os:=ho;subst e;exact I.call (g':=g') (t':=t') (d':=d') u hok hg hch
end
noncomputable abbrev XK:=Value->Option Addr->Hp->Prop
noncomputable abbrev St:=List (Option V)
noncomputable abbrev VK:=V->Hp->Prop
noncomputable abbrev TE:=St->Hp->VK->Prop
noncomputable abbrev TT:=St->Hp->(Bool->Hp->Prop)->Prop
noncomputable abbrev TA:=St->Hp->(List V->Hp->Prop)->Prop
structure wn where
 nx:St->Hp->Prop
 rt:VK
 bk:St->Hp->Prop:=λ_ _=>False
 ct:St->Hp->Prop:=λ_ _=>False
noncomputable abbrev TS:=wn->St->Hp->Prop
noncomputable def EP(X:Cx)(pins:List (Addr×Obj))(σ:St)(Q:VK)(u:Value)(s':Shared):Prop:=∃v H',ur X pins σ H' s'/\aN v u/\Q v H'
noncomputable def TP(X:Cx)(pins:List (Addr×Obj))(σ:St)(Q:Bool->Hp->Prop)(b:Bool)(s':Shared):Prop:=∃H',ur X pins σ H' s'/\Q b H'
noncomputable def AP(X:Cx)(pins:List (Addr×Obj))(σ:St)(Q:List V->Hp->Prop)(us:List Value)(s':Shared):Prop:=∃vs H',ur X pins σ H' s'/\aE vs us/\Q vs H'
noncomputable def SP(X:Cx)(pins:List (Addr×Obj))(D:wn)(f:Flow)(s':Shared):Prop :=
 match f with
 | .next=>∃σ' H',ur X pins σ' H' s'/\D.nx σ' H'
 | .brk=>∃σ' H',ur X pins σ' H' s'/\D.bk σ' H'
 | .cont=>∃σ' H',ur X pins σ' H' s'/\D.ct σ' H'
 | .ret u=>∃v σ' H',ur X pins σ' H' s'/\aN v u/\D.rt v H'
noncomputable def PE(X:Cx)(e:Expr)(t:TE):Prop :=
 ∀(pins:List (Addr×Obj)) (s:Shared) (σ:St) (H:Hp) (Q:VK),ur X pins σ H s->t σ H Q->wpAny (model X.prog X.w) X.A (eval e X.env) (EP X pins σ Q) X.xe s
noncomputable def PT(X:Cx)(e:Expr)(t:TT):Prop :=
 ∀(pins:List (Addr×Obj)) (s:Shared) (σ:St) (H:Hp) (Q:Bool->Hp->Prop),ur X pins σ H s->t σ H Q->wpAny (model X.prog X.w) X.A (isTrue e X.env (eval e X.env)) (TP X pins σ Q) X.xe s
noncomputable def PW(X:Cx)(e:Expr)(t:TT):Prop :=
 ∀(whole:Sem Value) (pins:List (Addr×Obj)) (s:Shared) (σ:St) (H:Hp) (Q:Bool->Hp->Prop),ur X pins σ H s->t σ H Q->wpAny (model X.prog X.w) X.A (isTrue e X.env whole) (TP X pins σ Q) X.xe s
theorem PW.pt{X:Cx}{e:Expr}{t:TT}(h:PW X e t):PT X e t:=h _
noncomputable def PA(X:Cx)(es:List Expr)(t:TA):Prop :=
 ∀(pos:Pos) (pins:List (Addr×Obj)) (s:Shared) (σ:St) (H:Hp) (Q:List V->Hp->Prop),ur X pins σ H s->t σ H Q->wpAny (model X.prog X.w) X.A (spliced (backTo pos (starEach es X.env))) (AP X pins σ Q) X.xe s
noncomputable def PS(X:Cx)(st:Stmt)(t:TS):Prop :=
 ∀(pins:List (Addr×Obj)) (s:Shared) (σ:St) (H:Hp) (D:wn),ur X pins σ H s->t D σ H->wpAny (model X.prog X.w) X.A (exec st X.env) (SP X pins D) X.xe s
noncomputable def PSs(X:Cx)(st:List Stmt)(t:TS):Prop :=
 ∀(pins:List (Addr×Obj)) (s:Shared) (σ:St) (H:Hp) (D:wn),ur X pins σ H s->t D σ H->wpAny (model X.prog X.w) X.A (execs st X.env) (SP X pins D) X.xe s
theorem thn{α:Type}{t:Sem α}{Q Q':α->Shared->Prop}{M:Model}{A:Around}{E:Value->Shared->Prop}{s:Shared}(h:wpAny M A t Q E s)(hQ:∀a s,Q a s->Q' a s):wpAny M A t Q' E s:=wpAny_mono h hQ λ_ _ x=>x
section
variable {X:Cx}
inductive xm (i:Nat) (σ:St) (H:Hp) (Q:VK):Prop
 | mk (v:V) (e:σ[i]? = some (some v)) (q:Q v H):xm i σ H Q
noncomputable def tC(v:V):TE:=λ_ H Q=>Q v H
theorem rA{i:Nat}{x:Str}{pos:Pos}(hN:X.N[i]? = some x)(hv:Vis X.env.scope x)(hd:(x == ("__debug__" : Str))=false:=by decide)(hcd:(x == ("__classdict__" : Str))=false:=by decide):PE X (.Name x pos) (xm i):=by
 intro pins s σ H Q I h;obtain⟨v,e,h⟩:=h;obtain⟨m,hn,hl⟩:=I.loc;obtain⟨u,r,l⟩:=hl i x v hN e hv;have fin:EP X pins σ Q u s:=⟨v,H,I,r,h⟩;rcases l with⟨hk,hm⟩|⟨hk,c,hc,hcell⟩
 ·exact wpAny_Name (wpAny_loadName_local I.ok.kind hk hn hm fin) hd
 ·rcases hk with hk|hk
  ·exact wpAny_Name (wpAny_loadName_cell I.ok.kind hk hc hcell fin) hd
  ·exact wpAny_Name (wpAny_loadName_free I.ok.kind hk hc hcell fin hcd) hd
theorem aj{i j pos}:PE X (.Constant (.int i) j pos) (tC (.int i)):=λ_ _ _ H _ I h=>wpAny_Constant_int ⟨.int i,H,I.tok _,⟨_,rfl⟩,h⟩
theorem bS{b j pos}:PE X (.Constant (.bool b) j pos) (tC (.bl b)):=λ_ _ _ H _ I h=>Constant_bool ⟨.bl b,H,I,rfl,h⟩
theorem kh{j pos}:PE X (.Constant .none j pos) (tC .non):=λ_ _ _ H _ I h=>Constant_none ⟨.non,H,I,rfl,h⟩
theorem ah{x j pos}:PE X (.Constant (.str x) j pos) (tC (.str x)):=λ_ _ _ H _ I h=>Calls.Constant_str ⟨.str x,H,I.tok _,⟨_,rfl⟩,h⟩
noncomputable def Gl(X:Cx)(x:Str):Prop:=X.env.kindOf x=some .globalImplicit
theorem bU{E:Value->Shared->Prop}{pins:List (Addr×Obj)}{s:Shared}{σ:St}{H:Hp}{x:Str}{u:Value}{pos:Pos}{Q:Value->Shared->Prop}(I:ur X pins σ H s)(hg:Gl X x)(hm:X.mg x=some u)(h:Q u s)
  (hd:(x == ("__debug__" : Str))=false:=by decide):wpAny (model X.prog X.w) X.A (eval (.Name x pos) X.env) Q E s :=
 Calls.Name_function_global I.ok.kind hg (Calls.loadGlobal_global (by rw[I.ok.glob];exact I.mod.glob.keeps I.bk) hm h) hd
theorem fE{E:Value->Shared->Prop}{pins:List (Addr×Obj)}{s:Shared}{σ:St}{H:Hp}{x:Str}{u:Value}{pos:Pos}{Q:Value->Shared->Prop}(I:ur X pins σ H s)(hg:Gl X x)(hm:X.mg x=none)(hv:bootBuiltins x=some u)(h:Q u s)
  (hn:x≠"__name__":=by decide) (hd:(x == ("__debug__" : Str))=false:=by decide):wpAny (model X.prog X.w) X.A (eval (.Name x pos) X.env) Q E s:=by
 obtain⟨mb,h1,h2⟩:=I.mod.blt;exact Calls.Name_function_global I.ok.kind hg (Calls.loadGlobal_builtin (by rw[I.ok.glob];exact I.mod.glob.keeps I.bk) hm (by rw[I.ok.blt];exact h1.keeps I.bk) ((h2 x hn).trans hv) h) hd
theorem aO{x:Str}{v:V}{u:Value}{pos:Pos}(hg:Gl X x)(hm:X.mg x=some u)(r:aN v u)(hd:(x == ("__debug__" : Str))=false:=by decide):PE X (.Name x pos) (tC v) :=
 λ_ _ _ H _ I h=>bU I hg hm ⟨v,H,I,r,h⟩ hd
theorem pO{x:Str}{v:V}{u:Value}{pos:Pos}(hg:Gl X x)(hm:X.mg x=none)(hv:bootBuiltins x=some u)(r:aN v u)(hn:x≠"__name__":=by decide)(hd:(x == ("__debug__" : Str))=false:=by decide):PE X (.Name x pos) (tC v) :=
 λ_ _ _ H _ I h=>fE I hg hm hv ⟨v,H,I,r,h⟩ hn hd
variable {a b:Expr} {ta tb:TE} {pos:Pos}
noncomputable def PC(X:Cx)(op:CmpOp)(a b:Expr)(t:TE):Prop :=
 ∀(pins:List (Addr×Obj)) (s:Shared) (σ:St) (H:Hp) (Q:VK),ur X pins σ H s->t σ H Q ->
  wpAny (model X.prog X.w) X.A (eval a X.env) (λv s1=>wpAny (model X.prog X.w) X.A (eval b X.env) (λu s2=>wpAny (model X.prog X.w) X.A (compareOp op v u) (EP X pins σ Q) X.xe s2) X.xe s1) X.xe s
noncomputable def tB(t:TE):TT:=λσ H Q=>t σ H λx H1=>∃c,x = .bl c/\Q c H1
theorem rn{op:CmpOp}{t:TE}(h:PC X op a b t)(h1:behindInMarks op b=false:=by first|exact nobehind _ (by decide) (by decide)|rfl):PT X (.Compare a [op] [b] pos) (tB t):=by
 intro pins s σ H Q I hw;refine wpAny_isTrue_Compare1 (thn (h pins s σ H _ I hw) λv s1 h1=>thn h1 λu s2 h2=>thn h2 λc s3 ⟨x,H1,I1,r1,q1⟩=>?_) h1;obtain⟨d,rfl,q⟩:=q1;cases r1;exact wpAny_truthy_bool ⟨H1,I1,q⟩
theorem bq{e:Expr}{t:TE}(h:PE X e t)(he:∀whole,isTrue e X.env whole=(do let v <- whole;standAt e.pos;holding [v] (truthy v)):=by intro _;rfl):PT X e (tB t):=by
 intro pins s σ H Q I hw;refine isTrue_plain (thn (h pins s σ H _ I hw) λv s1 ⟨x,H1,I1,r1,q1⟩=>?_) (he _);obtain⟨d,rfl,q⟩:=q1;cases r1;exact wpAny_truthy_bool ⟨H1,I1,q⟩
variable {tA tB':TT} {rest:List Expr}
noncomputable def tV(t u:TT):TT:=λσ H Q=>t σ H λc H1=>if c=true then u σ H1 Q else Q false H1
noncomputable def tOr(t u:TT):TT:=λσ H Q=>t σ H λc H1=>if c=true then Q true H1 else u σ H1 Q
noncomputable def tK(t:TT):TT:=λσ H Q=>t σ H λc H1=>Q (!c) H1
theorem kY(ha:PT X a tA):PW X (.BoolOp .And [a] pos) tA:=by
 intro wh pins s σ H Q I h;refine isTrue_and (thn (ha pins s σ H Q I h) λc s1 e=>?_);cases c with
 | true=>exact isTrue_and_nil e
 | false=>exact e
theorem bK(ha:PT X a tA):PW X (.BoolOp .Or [a] pos) tA:=by
 intro wh pins s σ H Q I h;refine isTrue_or (thn (ha pins s σ H Q I h) λc s1 e=>?_);cases c with
 | false=>exact isTrue_or_nil e
 | true=>exact e
theorem nv(ha:PT X a tA)(hb:PW X (.BoolOp .And (b::rest) pos) tB'):PW X (.BoolOp .And (a::b::rest) pos) (tV tA tB'):=by
 intro wh pins s σ H Q I h;refine isTrue_and (thn (ha pins s σ H _ I h) λc s1 ⟨H1,I1,q1⟩=>?_);cases c with
 | true=>exact hb wh pins s1 σ H1 Q I1 q1
 | false=>exact⟨H1,I1,q1⟩
theorem b4(ha:PT X a tA)(hb:PW X (.BoolOp .Or (b::rest) pos) tB'):PW X (.BoolOp .Or (a::b::rest) pos) (tOr tA tB'):=by
 intro wh pins s σ H Q I h;refine isTrue_or (thn (ha pins s σ H _ I h) λc s1 ⟨H1,I1,q1⟩=>?_);cases c with
 | true=>exact⟨H1,I1,q1⟩
 | false=>exact hb wh pins s1 σ H1 Q I1 q1
theorem bi(ha:PT X a tA):PT X (.UnaryOp .Not a pos) (tK tA):=by
 intro pins s σ H Q I h;exact isTrue_not (ha pins s σ H (λc H1=>Q (!c) H1) I h)
noncomputable def sw(ta tb:TE):TE:=λσ H Q=>ta σ H λx H1=>∃c,x = .bl c/\if c=true then tb σ H1 Q else Q (.bl false) H1
noncomputable def tJ(ta tb:TE):TE:=λσ H Q=>ta σ H λx H1=>∃c,x = .bl c/\if c=true then Q (.bl true) H1 else tb σ H1 Q
noncomputable def sr(ta:TE):TE:=λσ H Q=>ta σ H λx H1=>∃c,x = .bl c/\Q (.bl (!c)) H1
theorem d9{op}{t:TE}(h:PE X a t):PE X (.BoolOp op [a] pos) t:=λpins s σ H Q I hw=>BoolOp_one (h pins s σ H Q I hw)
theorem cV(ha:PE X a ta)(hb:PE X (.BoolOp .And (b::rest) pos) tb):PE X (.BoolOp .And (a::b::rest) pos) (sw ta tb):=by
 intro pins s σ H Q I h;refine BoolOp_and (thn (ha pins s σ H _ I h) λv s1 ⟨x,H1,I1,r1,q1⟩=>?_);obtain⟨c,rfl,q1⟩:=q1;cases r1;refine wpAny_truthy_bool ?_;cases c with
 | true=>exact hb pins s1 σ H1 Q I1 q1
 | false=>exact⟨.bl false,H1,I1,rfl,q1⟩
theorem sB(ha:PE X a ta)(hb:PE X (.BoolOp .Or (b::rest) pos) tb):PE X (.BoolOp .Or (a::b::rest) pos) (tJ ta tb):=by
 intro pins s σ H Q I h;refine BoolOp_or (thn (ha pins s σ H _ I h) λv s1 ⟨x,H1,I1,r1,q1⟩=>?_);obtain⟨c,rfl,q1⟩:=q1;cases r1;refine wpAny_truthy_bool ?_;cases c with
 | false=>exact hb pins s1 σ H1 Q I1 q1
 | true=>exact⟨.bl true,H1,I1,rfl,q1⟩
theorem rC(ha:PE X a ta):PE X (.UnaryOp .Not a pos) (sr ta):=by
 intro pins s σ H Q I h;refine UnaryOp_ (thn (ha pins s σ H _ I h) λv s1 ⟨x,H1,I1,r1,q1⟩=>?_);obtain⟨c,rfl,q1⟩:=q1;cases r1;exact not_of (wpAny_truthy_bool ⟨.bl (!c),H1,I1,rfl,q1⟩)
noncomputable def tIf(t:TT)(ta tb:TE):TE:=λσ H Q=>t σ H λc H1=>if c=true then ta σ H1 Q else tb σ H1 Q
theorem du{c:Expr}(hc:PT X c tA)(ha:PE X a ta)(hb:PE X b tb):PE X (.IfExp c a b pos) (tIf tA ta tb):=by
 intro pins s σ H Q I h;refine wpAny_IfExp (thn (hc pins s σ H _ I h) λd s1 ⟨H1,I1,q1⟩=>?_);cases d with
 | true=>exact ha pins s1 σ H1 Q I1 q1
 | false=>exact hb pins s1 σ H1 Q I1 q1
end
noncomputable def SqL(K:W.Frag)(H:Hp)(a:Addr)(xs:List V):Prop :=
 Rd H a (.lst xs) \/
  ∃(o:Obj) (its:Array Value) (n:Nat),K.lookup a=some o/\o.cls = .type "list"/\o.dict=none/\o.data = .seq its n/\its.size<=sizeLine/\aE xs its.toList
noncomputable def SqT(K:W.Frag)(H:Hp)(a:Addr)(xs:List V):Prop :=
 Rd H a (.tup xs) \/
  ∃(o:Obj) (its:Array Value) (n:Nat),K.lookup a=some o/\o.cls = .type "tuple"/\o.data = .seq its n/\its.size<=sizeLine/\aE xs its.toList
noncomputable def uk:Value->Option V
 | .none=>some .non
 | .bool b=>some (.bl b)
 | .int i _=>some (.int i)
 | .str x _=>some (.str x)
 | .bytes b _=>some (.byt b)
 | .float b _=>some (.flt b)
 | .ref a=>some (.ref a)
 | .type n=>some (.ty n)
 | _=>none
theorem aN.abs{x:V}{u:Value}(r:aN x u):uk u=some x:=by
 cases x with
 | non=>cases r;rfl
 | bl _=>cases r;rfl
 | int _=>obtain⟨t,rfl⟩:=r;rfl
 | str _=>obtain⟨t,rfl⟩:=r;rfl
 | byt _=>obtain⟨t,rfl⟩:=r;rfl
 | flt _=>obtain⟨t,rfl⟩:=r;rfl
 | ref _=>cases r;rfl
 | ty _=>cases r;rfl
theorem aN.inj{x y:V}{u:Value}(r:aN x u)(q:aN y u):x=y:=Option.some.inj (r.abs.symm.trans q.abs)
theorem aE.inj:∀{xs ys:List V} {us:List Value},aE xs us->aE ys us->xs=ys
 | _,_,_,.nil,.nil=>rfl
 | _,_,_,.cons r t,.cons r' t'=>by rw[r.inj r',aE.inj t t']
section
variable {X:Cx} {pins:List (Addr×Obj)} {σ:St} {H:Hp} {s:Shared} {a:Addr} {xs ys:List V}
theorem SqL.of{K:W.Frag}(h:H a=some (.lst xs)):SqL K H a xs:=.inl (.inl h)
theorem SqT.of{K:W.Frag}(h:H a=some (.tup xs)):SqT K H a xs:=.inl (.inl h)
theorem ur.list(I:ur X pins σ H s)(h:SqL X.K H a xs):∃its:List Value,aE xs its/\PlainL s.heap a its.toArray/\xs.length<=sizeLine:=by
 rcases h with h|⟨o,its,n,hk,hc,hd,hs,hz,r⟩
 ·obtain⟨z,its,n,r,e⟩:=h.ok I.hok
  exact⟨its,r,⟨_,n,e,rfl,rfl,rfl⟩,z⟩
 ·refine⟨its.toList,r,⟨o,n,I.kIn a o hk,hc,hd,by simpa using hs⟩,?_⟩
  have e:=r.length;simp only[Array.length_toList]at e;omega
theorem ur.tuple(I:ur X pins σ H s)(h:SqT X.K H a xs):∃its:List Value,aE xs its/\IsTup s.heap a its.toArray/\xs.length<=sizeLine:=by
 rcases h with h|⟨o,its,n,hk,hc,hs,hz,r⟩
 ·obtain⟨z,its,r,p⟩:=h.ok I.hok
  exact⟨its,r,p,z⟩
 ·refine⟨its.toList,r,⟨o,I.kIn a o hk,hc,n,by simpa using hs⟩,?_⟩
  have e:=r.length;simp only[Array.length_toList]at e;omega
theorem ur.list_inj(I:ur X pins σ H s)(h:SqL X.K H a xs)(h':SqL X.K H a ys):xs=ys:=by
 obtain⟨its,r,⟨o,n,e,_,_,d⟩,_⟩:=I.list h;obtain⟨its',r',⟨o',n',e',_,_,d'⟩,_⟩:=I.list h';rw[e]at e';cases e';rw[d]at d';injection d' with d1 _
 have:its=its':=by simpa using congrArg Array.toList d1
 subst this;exact r.inj r'
theorem ur.tuple_inj(I:ur X pins σ H s)(h:SqT X.K H a xs)(h':SqT X.K H a ys):xs=ys:=by
 obtain⟨its,r,⟨o,e,_,n,d⟩,_⟩:=I.tuple h;obtain⟨its',r',⟨o',e',_,n',d'⟩,_⟩:=I.tuple h';rw[e]at e';cases e';rw[d]at d';injection d' with d1 _
 have:its=its':=by simpa using congrArg Array.toList d1
 subst this;exact r.inj r'
end
noncomputable abbrev Cx.wish(X:Cx)(E:Value->Shared->Prop):Cx:={ X with xe:=E }
noncomputable abbrev Cx.nox(X:Cx):Cx:=X.wish λ_ _=>False
theorem Cx.Ok.wish{X:Cx}(ok:X.Ok)(E:Value->Shared->Prop):(X.wish E).Ok :=
 ⟨ok.mod,ok.kind,ok.glob,ok.blt,ok.above,ok.inj,ok.has,ok.cab,ok.hd,ok.frames,ok.stk,ok.exf,ok.bs,ok.bsz,ok.noex,ok.exfs,ok.funs,ok.frf⟩
theorem Cx.Ok.unwish{X:Cx}{E:Value->Shared->Prop}(ok:(X.wish E).Ok):X.Ok :=
 ⟨ok.mod,ok.kind,ok.glob,ok.blt,ok.above,ok.inj,ok.has,ok.cab,ok.hd,ok.frames,ok.stk,ok.exf,ok.bs,ok.bsz,ok.noex,ok.exfs,ok.funs,ok.frf⟩
section
variable {X:Cx} {pins:List (Addr×Obj)} {σ:St} {H:Hp} {s:Shared} {E:Value->Shared->Prop}
theorem ur.wish(I:ur X pins σ H s)(E:Value->Shared->Prop):ur (X.wish E) pins σ H s:=⟨I.ok.wish E,I.os,I.bare,I.base,I.loc,I.cell,I.free,I.freeC,I.pin,I.hok,I.len⟩
theorem ur.unwish(I:ur (X.wish E) pins σ H s):ur X pins σ H s:=⟨I.ok.unwish,I.os,I.bare,I.base,I.loc,I.cell,I.free,I.freeC,I.pin,I.hok,I.len⟩
theorem SP.unwish{D:wn}{f:Flow}{s':Shared}(h:SP (X.wish E) pins D f s'):SP X pins D f s':=by
 cases f with
 | next=>obtain⟨σ',H',I,q⟩:=h;exact⟨σ',H',I.unwish,q⟩
 | brk=>obtain⟨σ',H',I,q⟩:=h;exact⟨σ',H',I.unwish,q⟩
 | cont=>obtain⟨σ',H',I,q⟩:=h;exact⟨σ',H',I.unwish,q⟩
 | ret u=>obtain⟨v,σ',H',I,r,q⟩:=h;exact⟨v,σ',H',I.unwish,r,q⟩
theorem PSs.nox{st:List Stmt}{t:TS}(h:PSs X.nox st t):PSs X st t:=λpins s σ H D I hw =>
 wpAny_mono (h pins s σ H D (I.wish _) hw) (λ_ _ q=>q.unwish) λ_ _ z=>False.elim z
end
section
variable {X:Cx} {st:Stmt} {rest:List Stmt} {t u:TS} {e:Expr} {te:TE} {pos:Pos}
noncomputable def su:TS:=λD σ H=>D.nx σ H
noncomputable def tH(t u:TS):TS:=λD σ H=>t { D with nx:=u D } σ H
theorem ax:PSs X [] su:=λ_ _ σ H _ I h=>wpAny_execs_nil ⟨σ,H,I,h⟩
theorem ae(h1:PS X st t)(h2:PSs X rest u):PSs X (st::rest) (tH t u):=by
 intro pins s σ H D I h;refine wpAny_execs_cons (thn (h1 pins s σ H { D with nx:=u D } I h) λf s1 q=>?_);cases f with
 | next =>
  obtain⟨σ',H',I',q⟩:=q;exact h2 pins s1 σ' H' D I' q
 | ret v=>exact q
 | brk=>exact q
 | cont=>exact q
theorem ai(h1:PS X st t):PSs X [st] t:=by
 intro pins s σ H D I h;refine wpAny_execs_cons (thn (h1 pins s σ H D I h) λf s1 q=>?_);cases f with
 | next=>exact wpAny_execs_nil q
 | ret v=>exact q
 | brk=>exact q
 | cont=>exact q
theorem ur.quiet{pins:List (Addr×Obj)}{σ:St}{H:Hp}{s:Shared}(I:ur X pins σ H s):interactive X.env=false:=by simp[interactive,I.ok.kind]
noncomputable def qL(te:TE):TS:=λD σ H=>te σ H λ_ H1=>D.nx σ H1
theorem aT(he:PE X e te)(hs:swapsWith e none pos.line X.env=pure false:=by rfl):PS X (.Expr e pos) (qL te):=by
 intro pins s σ H D I h;exact wpAny_Expr_any (thn (he pins s σ H _ I h) λv s1 ⟨x,H1,I1,r1,q1⟩=>⟨σ,H1,I1,q1⟩) I.quiet hs
noncomputable def tI(te:TE):TS:=λD σ H=>te σ H D.rt
theorem aw(he:PE X e te):PS X (.Return (some e) pos) (tI te):=by
 intro pins s σ H D I h;exact wpAny_Return_some (thn (he pins s σ H _ I h) λv s1 ⟨x,H1,I1,r1,q1⟩=>⟨x,σ,H1,I1,r1,q1⟩)
noncomputable def tP(c:TT)(t u:TS):TS:=λD σ H=>c σ H λb H1=>if b=true then t D σ H1 else u D σ H1
theorem aJ{c:Expr}{a b:List Stmt}{tc:TT}(hc:PT X c tc)(ha:PSs X a t)(hb:PSs X b u):PS X (.If c a b pos) (tP tc t u):=by
 intro pins s σ H D I h;refine wpAny_If (thn (hc pins s σ H _ I h) λd s1 ⟨H1,I1,q1⟩=>?_);cases d with
 | true=>exact ha pins s1 σ H1 D I1 q1
 | false=>exact hb pins s1 σ H1 D I1 q1
noncomputable def mV:TS:=λ_ _ _=>False
theorem dj:PS X st mV:=λ_ _ _ _ _ _ h=>h.elim
theorem gD{sts:List Stmt}:PSs X sts mV:=λ_ _ _ _ _ _ h=>h.elim
end
noncomputable abbrev TG:=V->St->Hp->(St->Hp->Prop)->Prop
noncomputable abbrev TGs:=List V->St->Hp->(St->Hp->Prop)->Prop
noncomputable def PG(X:Cx)(target:Expr)(t:TG):Prop :=
 ∀(pins:List (Addr×Obj)) (s:Shared) (σ:St) (H:Hp) (v:V) (u:Value) (Q:St->Hp->Prop),ur X pins σ H s->aN v u->t v σ H Q ->
  wpAny (model X.prog X.w) X.A (assign target X.env u) (λ_ s'=>∃σ' H',ur X pins σ' H' s'/\Q σ' H') X.xe s
noncomputable def PGs(X:Cx)(ts:List Expr)(t:TGs):Prop :=
 ∀(pins:List (Addr×Obj)) (s:Shared) (σ:St) (H:Hp) (vs:List V) (us:List Value) (Q:St->Hp->Prop),ur X pins σ H s->aE vs us->t vs σ H Q ->
  wpAny (model X.prog X.w) X.A (assignInOrder ((assignEach ts X.env).map (·.2)) us) (λ_ s'=>∃σ' H',ur X pins σ' H' s'/\Q σ' H') X.xe s
section
variable {X:Cx} {pos:Pos}
noncomputable def dI(i:Nat):TG:=λv σ H Q=>Q (σ.set i (some v)) H
theorem bg{i:Nat}{x:Str}(hN:X.N.Nodup)(hi:X.N[i]? = some x)(hx:Loc X.env.scope x)(hf:X.fn x=true\/X.env.scope.names.lookup x=some .local:=by first|exact .inl rfl|exact .inr rfl|assumption):PG X (.Name x pos) (dI i):=by
 intro pins s σ H v u Q I r h;exact wpAny_assign_Name (fu I hN hi hx r (λs' I'=>⟨_,H,I',h⟩) hf)
inductive AD (vs:List V) (σ:St) (H:Hp) (Q:St->Hp->Prop):Prop
 | mk (e:vs = []) (q:Q σ H):AD vs σ H Q
inductive Ao (t:TG) (u:TGs) (vs:List V) (σ:St) (H:Hp) (Q:St->Hp->Prop):Prop
 | mk (v:V) (r:List V) (e:vs=v::r) (q:t v σ H λσ' H'=>u r σ' H' Q):Ao t u vs σ H Q
theorem k6:PGs X [] AD:=by
 intro pins s σ H vs us Q I r h;obtain⟨e,h⟩:=h;subst e;cases r;exact assignInOrder_nil ⟨σ,H,I,h⟩
theorem dn{e:Expr}{es:List Expr}{t:TG}{u:TGs}(h1:PG X e t)(h2:PGs X es u)
  (hs:(assignEach (e::es) X.env).map (·.2)=assign e X.env::(assignEach es X.env).map (·.2):=by rfl):PGs X (e::es) (Ao t u):=by
 intro pins s σ H vs us Q I r h;obtain⟨v,vr,e1,h⟩:=h;subst e1;cases r with
 | cons r rr =>
  rw[hs];refine assignInOrder_cons (thn (h1 pins s σ H _ _ _ I r h) λ_ s1 ⟨σ1,H1,I1,q1⟩=>?_);exact h2 pins s1 σ1 H1 _ _ Q I1 rr q1
inductive Ax (K:W.Frag) (n:Nat) (t:TGs) (v:V) (σ:St) (H:Hp) (Q:St->Hp->Prop):Prop
 | mk (a:Addr) (xs:List V) (e:v = .ref a) (s:SqT K H a xs) (l:xs.length=n) (q:t xs σ H Q):Ax K n t v σ H Q
theorem nD{es:List Expr}{k:Nat}{t:TGs}{n:Nat}(hc:X.calm=true)(h:PGs X es t)
  (hn:(assignEach es X.env).length=n:=by rfl) (hst:(assignEach es X.env).findIdx? (·.1)=none:=by rfl):PG X (.Tuple es k pos) (Ax X.K n t):=by
 intro pins s σ H v u Q I r hw;obtain⟨a,xs,e1,hq,hl,hw⟩:=hw;subst e1;cases r;obtain⟨its,rv,ht,hz⟩:=I.tuple hq;refine assign_Tuple_tuple (I.ok.hd hc) ht (by simp[hn,<- hl,rv.length]) hst λh' hx=>?_;have I1:ur X pins σ H { s with heap:=h' }:=I.kept (t':=s.toks) λb o e=>hx b o (Nat.ne_of_lt (Heap.lt_size e)) e
 exact h pins _ σ H xs _ Q I1 (by simpa using rv) hw
noncomputable def lU(te:TE)(g:TG):TS:=λD σ H=>te σ H λx H1=>g x σ H1 D.nx
theorem rz{tg e:Expr}{te:TE}{g:TG}(he:PE X e te)(hg:PG X tg g)(hs:swapsWithSole [tg] e pos.line X.env=pure false:=by rfl)(hw:swappedStores [tg] e X.env=pure none:=by rfl)
  (h1:(assignEach [tg] X.env).map (·.2) = [assign tg X.env]:=by rfl):PS X (.Assign [tg] e pos) (lU te g):=by
 intro pins s σ H D I h;refine wpAny_Assign_stores (thn (he pins s σ H _ I h) λv s1 ⟨x,H1,I1,r1,q1⟩=>?_) hs hw;rw[h1];exact thn (hg pins s1 σ H1 x v _ I1 r1 q1) λ_ s2 q=>q
theorem au{i:Nat}{x:Str}{e:Expr}{te:TE}{pos':Pos}(hN:X.N.Nodup)(hi:X.N[i]? = some x)(hx:Loc X.env.scope x)(he:PE X e te)(hs:swapsWith e (some (.Name x pos')) pos.line X.env=pure false:=by rfl)(hf:X.fn x=true\/X.env.scope.names.lookup x=some .local:=by first|exact .inl rfl|exact .inr rfl|assumption) :
  PS X (.Assign [.Name x pos'] e pos) (lU te (dI i)):=by
 intro pins s σ H D I h;refine wpAny_Assign_Name (thn (he pins s σ H _ I h) λv s1 ⟨y,H1,I1,r1,q1⟩=>?_) hs;exact fu I1 hN hi hx r1 (λs2 I2=>⟨_,H1,I2,q1⟩) hf
end
section
variable {X:Cx} {pos:Pos}
noncomputable def mU(c:TT)(tb:TS):TS:=λD σ H=>∃W:Nat->St->Hp->Prop,(∃m,W m σ H)/\∀m σ H,W m σ H ->
 c σ H λb H1=>if b=true then ∃N:St->Hp->Prop,(∀σ' H',N σ' H'->∃m',m'<m/\W m' σ' H')/\tb { D with nx:=N,ct:=N,bk:=D.nx } σ H1 else D.nx σ H1
theorem ja{c:Expr}{body:List Stmt}{tc:TT}{tb:TS}(hp:PassesOwn (model X.prog X.w) X.A X.env X.xe)(hc:PT X c tc)(hb:PSs X body tb):PS X (.While c body [] pos) (mU tc tb):=by
 intro pins s σ H D I h;obtain⟨W,⟨m0,w0⟩,turn⟩:=h;refine wpAny_While (codeAny_whileLoop (λn s'=>∃σ' H',ur X pins σ' H' s'/\W n σ' H') ?_ m0 ⟨σ,H,I,w0⟩);rintro n s1 ⟨σ1,H1,I1,w1⟩;refine wpAny_passesOwn hp (thn (hc pins s1 σ1 H1 _ I1 (turn n σ1 H1 w1)) λb s2 ⟨H2,I2,q2⟩=>?_);cases b with
 | true =>
  obtain⟨N,hN,q2⟩:=q2;rw[if_pos rfl];refine wpAny_passesOwn hp (thn (hb pins s2 σ1 H2 _ I2 q2) λf s3 q3=>?_);cases f with
  | next =>
   obtain⟨σ3,H3,I3,n3⟩:=q3;obtain⟨m',hm,w3⟩:=hN σ3 H3 n3;exact⟨m',hm,σ3,H3,I3,w3⟩
  | cont =>
   obtain⟨σ3,H3,I3,n3⟩:=q3;obtain⟨m',hm,w3⟩:=hN σ3 H3 n3;exact⟨m',hm,σ3,H3,I3,w3⟩
  | brk=>exact q3
  | ret v=>exact q3
 | false =>
  rw[if_neg Bool.false_ne_true];exact wpAny_execs_nil ⟨σ1,H2,I2,q2⟩
end
structure It where
 go:Nat->Hp->Prop
 yld:Nat->Hp->V->Hp->Prop
 stop:Nat->Hp->Prop
noncomputable def bI(X:Cx)(pins:List (Addr×Obj))(H:Hp)(b:Addr):Prop :=
 H b=none/\b≠X.env.locals/\b∉X.fs/\(b∈X.ex\/X.s₀.heap.objs.size<=b)/\(∀x c,X.env.cells.lookup x=some c->c≠b)/\∀p∈X.pn++pins,p.1≠b
theorem ur.fpOk{X:Cx}{pins:List (Addr×Obj)}{σ:St}{H H':Hp}{s:Shared}{b:Addr}(I:ur X pins σ H s)(hb:s.heap.objs.size<=b)(hn:H' b=none):bI X pins H' b:=by
 refine⟨hn,Nat.ne_of_gt (Nat.lt_of_lt_of_le I.lt hb),I.nofs hb,.inr (Nat.le_trans I.sz hb),λx c e z=>?_,λp hp z=>?_⟩
 ·obtain⟨v,q⟩:=I.cell x c e
  exact absurd (Nat.lt_of_lt_of_le q.lt (by rw[z];exact hb)) (Nat.lt_irrefl _)
 ·exact absurd (Nat.lt_of_lt_of_le (Heap.lt_size (I.pin p hp).1) (by rw[z];exact hb)) (Nat.lt_irrefl _)
structure xr(P:Program)(w:World)(K:W.Frag)(tg:Expr)(J:It)(fp:List Addr)(it:Addr)(tn:Nat->Heap->Prop):Prop where
 mem:it∈fp
 obj:∀i h,tn i h->∀b∈fp,∃o,h.get? b=some o/\∀v,o.data≠.cell v
 keep:∀i h h',tn i h->(∀b∈fp,∀o,h.get? b=some o->h'.get? b=some o)->tn i h'
 item:∀(X:Cx),X.prog=P->X.w=w->X.K=K->X.calm=true->∀(i:Nat) (pins:List (Addr×Obj)) (s:Shared) (σ:St) (H:Hp) (E:Value->Shared->Prop),ur X pins σ H s->(∀b∈fp,bI X pins H b)->tn i s.heap->J.go i H ->
  wpAny (model P w) X.A (pyNext (.ref it)) (λr s1=>∃u,r=some u /\
   wpAny (model P w) X.A (letOwnedTupleGo tg (.ref it) u) (λ_ s2=>∃x H',ur X pins σ H' s2/\aN x u/\J.yld i H x H'/\tn (i+1) s2.heap/\∀b∈fp,H' b=none) E s1) E s
 done:∀(X:Cx),X.prog=P->X.w=w->X.K=K->X.calm=true->∀(i:Nat) (pins:List (Addr×Obj)) (s:Shared) (σ:St) (H:Hp) (E:Value->Shared->Prop),ur X pins σ H s->(∀b∈fp,bI X pins H b)->tn i s.heap->J.stop i H ->
  wpAny (model P w) X.A (pyNext (.ref it)) (λr s1=>r=none/\ur X pins σ H s1) E s
 self:∀(A:Around) (i:Nat) (s:Shared) (Q:Value->Shared->Prop) (E:Value->Shared->Prop),tn i s.heap->Q (.ref it) s->wpAny (model P w) A (pyIter (.ref it)) Q E s
noncomputable abbrev TI:=St->Hp->(It->Hp->Prop)->Prop
noncomputable def PIE(X:Cx)(pins:List (Addr×Obj))(σ:St)(tg:Expr)(R:It->Hp->Prop)(itv:Value)(s2:Shared):Prop :=
 ∃(it:Addr) (fp:List Addr) (tn:Nat->Heap->Prop) (J:It) (H':Hp),itv = .ref it/\ur X pins σ H' s2/\xr X.prog X.w X.K tg J fp it tn/\tn 0 s2.heap/\(∀b∈fp,bI X pins H' b)/\R J H'
noncomputable def PI(X:Cx)(tg iter:Expr)(wi:TI):Prop :=
 ∀(pins:List (Addr×Obj)) (s:Shared) (σ:St) (H:Hp) (R:It->Hp->Prop),ur X pins σ H s->wi σ H R ->
  wpAny (model X.prog X.w) X.A (eval iter X.env) (λv s1=>wpAny (model X.prog X.w) X.A (pyIter v) (PIE X pins σ tg R) X.xe s1) X.xe s
theorem oQ{M:Model}{A:Around}{E:Value->Shared->Prop}{s:Shared}{tg:Expr}{it:Addr}{u:Value}{o:Obj}{n:String}{vs:Array Value}{Q:Unit->Shared->Prop}(ho:s.heap.get? it=some o)(hc:o.cls = .type n)(hd:o.data = .fields vs)
    (hn:["enumerate","zip","dict_itemiterator","dict_reverseitemiterator","odict_iterator","itertools.zip_longest","itertools.pairwise"].contains n=false) (hQ:Q () s):wpAny M A (letOwnedTupleGo tg (.ref it) u) Q E s:=by
  unfold letOwnedTupleGo;cases tg <;> first
    | exact wpAny_pure hQ
    | (cases u <;> first
        | exact wpAny_pure hQ
        | (refine wpAny_bind (wpAny_load ho ?_)
           rw[hc,hd];show wpAny M A (if (["enumerate","zip","dict_itemiterator","dict_reverseitemiterator","odict_iterator","itertools.zip_longest","itertools.pairwise"].contains n && vs[0]? == some (rawInt _))=true then _ else _) Q E s
           rw[if_neg (by intro h;rw[hn,Bool.false_and]at h;cases h)];exact wpAny_pure hQ))
noncomputable def Itl(K:W.Frag)(a:Addr):It :=
 ⟨λi H=>∃xs x,SqL K H a xs/\xs[i]? = some x,λi H x H'=>H'=H/\∀xs,SqL K H a xs->xs[i]? = some x,λi H=>∃xs,SqL K H a xs/\xs.length<=i⟩
noncomputable def Itr(lo:Int)(n:Nat):It:=⟨λi _=>i<n,λi H x H'=>H'=H/\x = .int (lo+i),λi _=>n<=i⟩
theorem lR{P:Program}{w:World}{K:W.Frag}{tg:Expr}(a it:Addr):xr P w K tg (Itl K a) [it] it (λi h=>h.IsListIter it a i) where
 mem:=by simp
 obj:=λi h st b hb=>by
  have e:b=it:=by simpa using hb
  subst e;obtain⟨o,e,c,d⟩:=st;exact⟨o,e,λv z=>by rw[d]at z;cases z⟩
 keep:=λi h h' st k=>st.at λo e=>k it (by simp) o e
 item:=by
  intro X hP hw hK hc i pins s σ H E I hf st hg;subst hP hw hK;obtain⟨xs,x,hq,hx⟩:=hg;obtain⟨its,rv,p,hz⟩:=I.list hq;obtain⟨u,hu,ru⟩:=rv.get hx;obtain⟨f0,f1,f2,f3,f4,f5⟩:=hf it (by simp);refine wpAny_pyNext_list_item st p.isList (x:=u) (by simpa using hu) λh' st' sb=>?_;have I1:ur X pins σ H { s with heap:=h' }:=I.turned (t':=s.toks) (λb o hb e=>(sb.2 b hb).trans e) f0 f1 f3 f4 f5;obtain⟨o,e,c,d⟩:=id st';exact⟨u,rfl,oQ (s:={ s with heap:=h' }) e c d (by decide) ⟨x,H,I1,ru,⟨rfl,λys hy=>by rw[I.list_inj hy hq];exact hx⟩,st',λb hb=>(hf b hb).1⟩⟩
 done:=by
  intro X hP hw hK hc i pins s σ H E I hf st hg;subst hP hw hK;obtain⟨xs,hq,hx⟩:=hg;obtain⟨its,rv,p,hz⟩:=I.list hq;obtain⟨f0,f1,f2,f3,f4,f5⟩:=hf it (by simp);have hl:=rv.length;exact wpAny_pyNext_list_end (I.ok.hd hc) st p.isList (by simp;omega) λh' eb=>⟨rfl,I.turned (t':=s.toks) (λb o hb e=>eb b o hb e) f0 f1 f3 f4 f5⟩
 self:=λ_ _ _ _ _ st h=>wpAny_pyIter_listiter st h
theorem jU{P:Program}{w:World}{K:W.Frag}{tg:Expr}(it:Addr)(lo:Int)(n:Nat):xr P w K tg (Itr lo n) [it] it (λi h=>IsRangeIter h it (lo+(i:Nat)*1) ((n:Int) - (i:Nat)) 1) where
 mem:=by simp
 obj:=λi h st b hb=>by
  have e:b=it:=by simpa using hb
  subst e;exact⟨_,st,λv z=>by
   have z':Data.fields _=Data.cell v:=z;cases z'⟩
 keep:=λi h h' st k=>k it (by simp) _ st
 item:=by
  intro X hP hw hK hc i pins s σ H E I hf st hg;subst hP hw hK;obtain⟨f0,f1,f2,f3,f4,f5⟩:=hf it (by simp);have W:=Walks.range (prog:=X.prog) (w:=X.w) (I.ok.hd hc) it lo 1 n;refine W.item i s _ _ hg st λv h' tk hv st' kk=>?_;obtain⟨t,rfl⟩:=hv;have I1:ur X pins σ H { s with heap:=h',toks:=tk }:=I.turned (λb o hb e=>kk b o (by simpa using hb) e) f0 f1 f3 f4 f5;refine⟨_,rfl,oQ (s:={ s with heap:=h',toks:=tk }) (n:="range_iterator") st' rfl rfl (by decide) ⟨.int (lo+i),H,I1,⟨t,?_⟩,⟨rfl,rfl⟩,st',λb hb=>(hf b hb).1⟩⟩;rw[Int.mul_one]
 done:=by
  intro X hP hw hK hc i pins s σ H E I hf st hg;subst hP hw hK;obtain⟨f0,f1,f2,f3,f4,f5⟩:=hf it (by simp);exact wpAny_pyNext_range_end (I.ok.hd hc) st (by have:n<=i:=hg;omega) λh' eb=>⟨rfl,I.turned (t':=s.toks) (λb o hb e=>eb b o hb e) f0 f1 f3 f4 f5⟩
 self:=λ_ _ _ _ _ st h=>wpAny_pyIter_rangeiter st h
section
variable {X:Cx} {tg:Expr}
noncomputable def sN(K:W.Frag)(tl:TE):TI:=λσ H R=>tl σ H λx H1=>∃a,x = .ref a/\(∃xs,SqL K H1 a xs)/\R (Itl K a) H1
theorem bf{l:Expr}{tl:TE}(hl:PE X l tl):PI X tg l (sN X.K tl):=by
 intro pins s σ H R I h;refine thn (hl pins s σ H _ I h) λv s1 ⟨x,H1,I1,r1,q1⟩=>?_;obtain⟨a,e,⟨xs,hq⟩,q⟩:=q1;subst e;cases r1;obtain⟨its,rv,p,hz⟩:=I1.list hq;refine wpAny_pyIter_list p.isList ?_;refine⟨s1.heap.objs.size,[s1.heap.objs.size],_,_,H1,rfl,I1.kept (t':=s1.toks) λb o e=>Heap.get?_push_of_some _ e,lR a _,⟨_,Heap.get?_push_size _ rfl,rfl,rfl⟩,λb hb=>?_,q⟩;have e:b=s1.heap.objs.size:=by simpa using hb
 subst e;exact I1.fpOk (Nat.le_refl _) (I1.hok.fresh (Nat.le_refl _))
theorem nj{pins:List (Addr×Obj)}{σ:St}{H:Hp}{s:Shared}{R:It->Hp->Prop}{E:Value->Shared->Prop}{lo hi:Int}{t u v:Tok}{tk:Nat}(I:ur X pins σ H s)(h1:-(2^62)<=lo)(h2:lo<2^62)(h3:-(2^62)<=hi)(h4:hi<2^62)
  (q:R (Itr lo (hi - lo).toNat) H):wpAny (model X.prog X.w) X.A (pyIter (.ref s.heap.objs.size)) (PIE X pins σ tg R) E { s with heap:=s.heap.push { cls:=.type "range",data:=.fields #[.int lo t,.int hi u,.int 1 v] },toks:=tk }:=by
 refine wpAny_pyIter_range (IsRange.new ..) (small_one h1 h2 h3 h4) ?_;have I1:ur X pins σ H { s with heap:=s.heap.push { cls:=.type "range",data:=.fields #[.int lo t,.int hi u,.int 1 v] },toks:=tk }:=I.kept λb o e=>Heap.get?_push_of_some _ e;refine⟨(s.heap.push { cls:=.type "range",data:=.fields #[.int lo t,.int hi u,.int 1 v] }).objs.size,[(s.heap.push { cls:=.type "range",data:=.fields #[.int lo t,.int hi u,.int 1 v] }).objs.size],_,_,H,rfl,
  I1.kept (t':=tk) λb o e=>Heap.get?_push_of_some _ e,jU _ lo (hi - lo).toNat,?_,λb hb=>?_,q⟩
 ·have e1:lo+((0:Nat):Int)*1=lo:=by simp
  have e2:(((hi - lo).toNat:Nat):Int) - ((0:Nat):Int)=Builtin.Range.rangeSize lo hi 1:=by rw[rangeSize_one];split <;> omega
  show IsRangeIter _ _ (lo+((0:Nat):Int)*1) ((((hi - lo).toNat:Nat):Int) - ((0:Nat):Int)) 1;rw[e1,e2];exact Heap.get?_push_size _ rfl
 ·have e:b=(s.heap.push { cls:=.type "range",data:=.fields #[.int lo t,.int hi u,.int 1 v] }).objs.size:=by simpa using hb
  subst e;exact I1.fpOk (Nat.le_refl _) (I1.hok.fresh (Nat.le_refl _))
noncomputable def sM(ta:TA):TI:=λσ H R=>ta σ H λvs H1=>∃j:Int,vs = [.int j]/\-(2^62)<=j/\j<2^62/\R (Itr 0 j.toNat) H1
theorem gE{a:Expr}{ta:TA}{p pos:Pos}(hg:Gl X "range")(hm:X.mg "range" = none)(ha:PA X [a] ta)(hs:starEach [a] X.env = [(false,eval a X.env)]:=by rfl):PI X tg (.Call (.Name "range" p) [a] [] pos) (sM ta):=by
 intro pins s σ H R I h;refine Call_ (fE I hg hm boot_range (PyProof.Rows.callWith_type1 (thn (ha pos pins s σ H _ I h) λus s1 ⟨vs,H1,I1,r1,q1⟩=>?_) hs rfl));obtain⟨j,e,q1,q2,q⟩:=q1;subst e;cases r1 with
 | cons r rr =>
  cases rr;obtain⟨t,rfl⟩:=r;exact call_range_1 (nj I1 (by omega) (by omega) q1 q2 (by simpa using q))
noncomputable def tQ(wi:TI)(g:TG)(tb:TS):TS:=λD σ H=>wi σ H λJ H1=>∃W:Nat->Nat->St->Hp->Prop,(∃m,W 0 m σ H1)/\∀i m σ H,W i m σ H ->
 (J.stop i H/\D.nx σ H)\/(J.go i H/\∃N:St->Hp->Prop,(∀σ' H',N σ' H'->∃m',m'<m/\W (i+1) m' σ' H')/\∀x H',J.yld i H x H'->g x σ H' λσ2 H2=>tb { D with nx:=N,ct:=N,bk:=D.nx } σ2 H2)
noncomputable def d8(fp:List Addr)(h:Heap):List (Addr×Obj):=fp.filterMap λb=>(h.get? b).map λo=>(b,o)
theorem aX{fp:List Addr}{h:Heap}{b:Addr}{o:Obj}(hb:b∈fp)(e:h.get? b=some o):(b,o)∈d8 fp h:=List.mem_filterMap.mpr ⟨b,hb,by rw[e];rfl⟩
theorem md{fp:List Addr}{h:Heap}{p:Addr×Obj}(hp:p∈d8 fp h):p.1∈fp/\h.get? p.1=some p.2:=by
 obtain⟨b,hb,e⟩:=List.mem_filterMap.mp hp;cases q:h.get? b with
 | none=>rw[q]at e;cases e
 | some o =>
  rw[q]at e;have e':(b,o)=p:=Option.some.inj e;subst e';exact⟨hb,q⟩
theorem ur.pinned{pins:List (Addr×Obj)}{σ:St}{H:Hp}{s:Shared}{fp:List Addr}(I:ur X pins σ H s)(hf:∀b∈fp,bI X pins H b)(ho:∀b∈fp,∃o,s.heap.get? b=some o/\∀v,o.data≠.cell v):ur X (pins++d8 fp s.heap) σ H s :=
 I.pins_of λp hp=>(List.mem_append.mp hp).elim (λz=>I.pin p (List.mem_append_right _ z)) λz=>by
  obtain⟨hb,e⟩:=md z;obtain⟨f0,f1,f2,_⟩:=hf p.1 hb;obtain⟨o,e',d⟩:=ho p.1 hb;rw[e]at e';cases e';exact⟨e,f0,f1,f2,d⟩
theorem ur.unpinned{pins pl:List (Addr×Obj)}{σ:St}{H:Hp}{s:Shared}(I:ur X (pins++pl) σ H s):ur X pins σ H s:=I.pins_of λp hp=>I.pin p (List.mem_append_right _ (List.mem_append_left _ hp))
theorem h9{iter:Expr}{body:List Stmt}{wi:TI}{g:TG}{tb:TS}{pos:Pos}(hp:PassesOwn (model X.prog X.w) X.A X.env X.xe)(hc:X.calm=true)(hi:PI X tg iter wi)(hg:PG X tg g)(hb:PSs X body tb)
  (hs:∀x,foldedSetIterable iter X.env x=pure x:=by intro _;rfl):PS X (.For tg iter body [] pos) (tQ wi g tb):=by
 intro pins s σ H D I h;refine wpAny_For (thn (hi pins s σ H _ I h) λv s1 h1=>thn h1 λitv s2 h2=>?_) hs;obtain⟨it,fp,tn,J,H2,e,I2,T,st2,f2,W,⟨m0,w0⟩,turn⟩:=h2;subst e;have stat:∀{H':Hp},(∀b∈fp,H' b=none)->∀b∈fp,bI X pins H' b:=λhn b hb=>⟨hn b hb,(f2 b hb).2⟩;refine codeAny_forLoop_any (λn s'=>∃i σ' H',ur X pins σ' H' s'/\tn i s'.heap/\(∀b∈fp,H' b=none)/\W i n σ' H') ?_ m0 ⟨0,σ,H2,I2,st2,λb hb=>(f2 b hb).1,w0⟩;rintro n s3 ⟨i,σ3,H3,I3,st3,fr3,w3⟩;rcases turn i n σ3 H3 w3 with⟨stop,qn⟩|⟨go,N,hN,step⟩
 ·refine wpAny_passesOwn hp (thn (T.done X rfl rfl rfl hc i pins s3 σ3 H3 X.xe I3 (stat fr3) st3 stop) λr s4 ⟨hr,I4⟩=>?_)
  subst hr;exact wpAny_execs_nil ⟨σ3,H3,I4,qn⟩
 ·refine wpAny_passesOwn hp (thn (T.item X rfl rfl rfl hc i pins s3 σ3 H3 X.xe I3 (stat fr3) st3 go) λr s4 ⟨u,hr,h4⟩=>?_)
  subst hr;refine wpAny_passesOwn hp (thn h4 λ_ s5 ⟨x,H5,I5,r5,y5,st5,fr5⟩=>?_);have I5':=I5.pinned (stat fr5) (T.obj _ _ st5);refine wpAny_passesOwn hp (thn (hg _ s5 σ3 H5 x u _ I5' r5 (step x H5 y5)) λ_ s6 ⟨σ6,H6,I6,q6⟩=>?_);refine wpAny_passesOwn hp (thn (hb _ s6 σ6 H6 _ I6 q6) λf s7 q7=>?_);have again:∀{σ7:St} {H7:Hp},ur X (pins++d8 fp s5.heap) σ7 H7 s7->N σ7 H7->∃m,m<n/\∃i σ' H',ur X pins σ' H' s7/\tn i s7.heap/\(∀b∈fp,H' b=none)/\W i m σ' H':=λ{σ7 H7} I7 n7=>by
   obtain⟨m',hm,w7⟩:=hN σ7 H7 n7;refine⟨m',hm,i+1,σ7,H7,I7.unpinned,T.keep _ _ _ st5 λb hb o e=>(I7.pin (b,o) (List.mem_append_right _ (List.mem_append_right _ (aX hb e)))).1,λb hb=>?_,w7⟩;obtain⟨o,e,d⟩:=T.obj _ _ st5 b hb;exact(I7.pin (b,o) (List.mem_append_right _ (List.mem_append_right _ (aX hb e)))).2.1
  cases f with
  | next=>obtain⟨σ7,H7,I7,n7⟩:=q7;exact again I7 n7
  | cont=>obtain⟨σ7,H7,I7,n7⟩:=q7;exact again I7 n7
  | brk=>obtain⟨σ7,H7,I7,q7⟩:=q7;exact⟨σ7,H7,I7.unpinned,q7⟩
  | ret v=>obtain⟨x7,σ7,H7,I7,r7,q7⟩:=q7;exact⟨x7,σ7,H7,I7.unpinned,r7,q7⟩
end
theorem jp{K:W.Frag}{a:Addr}{xs:List V}{g:TG}{tb:TS}{D:wn}{σ:St}{H:Hp}(Pv:Nat->St->Hp->Prop)(h0:Pv 0 σ H)(hl:∀i σ H,i<=xs.length->Pv i σ H->SqL K H a xs)
  (hs:∀i x σ H,xs[i]? = some x->Pv i σ H->g x σ H λσ2 H2=>tb { D with nx:=Pv (i+1),ct:=Pv (i+1),bk:=D.nx } σ2 H2) (hd:∀σ H,Pv xs.length σ H->D.nx σ H) :
  ∃W:Nat->Nat->St->Hp->Prop,(∃m,W 0 m σ H)/\∀i m σ H,W i m σ H ->
   ((Itl K a).stop i H/\D.nx σ H)\/((Itl K a).go i H/\∃N:St->Hp->Prop,(∀σ' H',N σ' H'->∃m',m'<m/\W (i+1) m' σ' H')/\∀x H',(Itl K a).yld i H x H'->g x σ H' λσ2 H2=>tb { D with nx:=N,ct:=N,bk:=D.nx } σ2 H2):=by
 refine⟨λi m σ H=>m=xs.length - i/\i<=xs.length/\Pv i σ H,⟨xs.length,by simp,Nat.zero_le _,h0⟩,?_⟩;rintro i m σ H ⟨rfl,hi,p⟩;have q:=hl i σ H hi p
 by_cases hlt:i<xs.length
 ·refine .inr ⟨⟨xs,xs[i],q,by simp[hlt]⟩,Pv (i+1),λσ' H' p'=>⟨xs.length - (i+1),by omega,rfl,hlt,p'⟩,λx H' y=>?_⟩
  obtain⟨e,y⟩:=y;subst e;exact hs i x σ _ (y xs q) p
 ·have e:i=xs.length:=by omega
  subst e;exact .inl ⟨⟨xs,q,Nat.le_refl _⟩,hd σ H p⟩
theorem gL{lo:Int}{n:Nat}{g:TG}{tb:TS}{D:wn}{σ:St}{H:Hp}(Pv:Nat->St->Hp->Prop)(h0:Pv 0 σ H)
  (hs:∀i σ H,i<n->Pv i σ H->g (.int (lo+i)) σ H λσ2 H2=>tb { D with nx:=Pv (i+1),ct:=Pv (i+1),bk:=D.nx } σ2 H2) (hd:∀σ H,Pv n σ H->D.nx σ H) :
  ∃W:Nat->Nat->St->Hp->Prop,(∃m,W 0 m σ H)/\∀i m σ H,W i m σ H ->
   ((Itr lo n).stop i H/\D.nx σ H)\/((Itr lo n).go i H/\∃N:St->Hp->Prop,(∀σ' H',N σ' H'->∃m',m'<m/\W (i+1) m' σ' H')/\∀x H',(Itr lo n).yld i H x H'->g x σ H' λσ2 H2=>tb { D with nx:=N,ct:=N,bk:=D.nx } σ2 H2):=by
 refine⟨λi m σ H=>m=n - i/\i<=n/\Pv i σ H,⟨n,by simp,Nat.zero_le _,h0⟩,?_⟩;rintro i m σ H ⟨rfl,hi,p⟩
 by_cases hlt:i<n
 ·refine .inr ⟨hlt,Pv (i+1),λσ' H' p'=>⟨n - (i+1),by omega,rfl,hlt,p'⟩,λx H' y=>?_⟩
  obtain⟨e,y⟩:=y;subst e y;exact hs i σ _ hlt p
 ·have e:i=n:=by omega
  subst e;exact .inl ⟨Nat.le_refl _,hd σ H p⟩
theorem iR{c:TT}{tb:TS}{D:wn}{σ:St}{H:Hp}(Pv:St->Hp->Prop)(μ:St->Hp->Nat)(h0:Pv σ H)
  (hs:∀σ H,Pv σ H->c σ H λb H1=>if b=true then tb { D with nx:=λσ' H'=>Pv σ' H'/\μ σ' H'<μ σ H,ct:=λσ' H'=>Pv σ' H'/\μ σ' H'<μ σ H,bk:=D.nx } σ H1 else D.nx σ H1)
  (mono:∀σ H Q Q',(∀b H1,Q b H1->Q' b H1)->c σ H Q->c σ H Q'):mU c tb D σ H:=by
 refine⟨λm σ H=>m=μ σ H/\Pv σ H,⟨_,rfl,h0⟩,?_⟩;rintro m σ H ⟨rfl,p⟩;refine mono σ H _ _ (λb H1 q=>?_) (hs σ H p);cases b with
 | true=>exact⟨_,λσ' H' ⟨p',l⟩=>⟨_,l,rfl,p'⟩,q⟩
 | false=>exact q
noncomputable abbrev R2:=V->V->Hp->VK->Prop
noncomputable def OpR(X:Cx)(f:Value->Value->Sem Value)(r:R2):Prop :=
 ∀(pins:List (Addr×Obj)) (s:Shared) (σ:St) (H:Hp) (x y:V) (v u:Value) (Q:VK),ur X pins σ H s->aN x v->aN y u->r x y H Q ->
  wpAny (model X.prog X.w) X.A (f v u) (EP X pins σ Q) X.xe s
noncomputable def UnR(X:Cx)(f:Value->Sem Value)(r:V->Hp->VK->Prop):Prop :=
 ∀(pins:List (Addr×Obj)) (s:Shared) (σ:St) (H:Hp) (x:V) (v:Value) (Q:VK),ur X pins σ H s->aN x v->r x H Q ->
  wpAny (model X.prog X.w) X.A (f v) (EP X pins σ Q) X.xe s
noncomputable def bY(X:Cx)(f:Value)(r:List V->Hp->VK->Prop):Prop :=
 ∀(pins:List (Addr×Obj)) (s:Shared) (σ:St) (H:Hp) (xs:List V) (us:List Value) (Q:VK),ur X pins σ H s->aE xs us->r xs H Q ->
  wpAny (model X.prog X.w) X.A (call f us) (EP X pins σ Q) X.xe s
noncomputable def tOp(r:R2)(ta tb:TE):TE:=λσ H Q=>ta σ H λx H1=>tb σ H1 λy H2=>r x y H2 Q
noncomputable def tUn(r:V->Hp->VK->Prop)(ta:TE):TE:=λσ H Q=>ta σ H λx H1=>r x H1 Q
inductive rI (C:Int->Int->Prop) (g:Int->Int->V) (x y:V) (H:Hp) (Q:VK):Prop
 | mk (i j:Int) (e:x = .int i) (f:y = .int j) (c:C i j) (q:Q (g i j) H):rI C g x y H Q
inductive zX (g:Int->Int->V) (x y:V) (H:Hp) (Q:VK):Prop
 | mk (i j:Int) (e:x = .int i) (f:y = .int j) (q:Q (g i j) H):zX g x y H Q
noncomputable def rU(g:Int->V):V->Hp->VK->Prop:=λx H Q=>∃i,x = .int i/\Q (g i) H
section
variable {X:Cx} {a b c:Expr} {ta tb tc:TE} {pos:Pos}
theorem sg(ha:PE X a ta)(hb:PE X b tb){pins:List (Addr×Obj)}{s:Shared}{σ:St}{H:Hp}{R:V->V->Hp->Prop}(I:ur X pins σ H s)
  (h:ta σ H λx H1=>tb σ H1 λy H2=>R x y H2) {Q:Value->Shared->Prop} {f:Value->Value->Sem Value}
  (hf:∀v u s2 x y H2,ur X pins σ H2 s2->aN x v->aN y u->R x y H2->wpAny (model X.prog X.w) X.A (f v u) Q X.xe s2) :
  wpAny (model X.prog X.w) X.A (eval a X.env) (λv s₁=>wpAny (model X.prog X.w) X.A (eval b X.env) (λu s₂=>wpAny (model X.prog X.w) X.A (f v u) Q X.xe s₂) X.xe s₁) X.xe s:=by
 refine thn (ha pins s σ H _ I h) λv s1 ⟨x,H1,I1,r1,q1⟩=>?_;refine thn (hb pins s1 σ H1 _ I1 q1) λu s2 ⟨y,H2,I2,r2,q2⟩=>?_;exact hf v u s2 x y H2 I2 r1 r2 q2
theorem ap{op:Operator}{r:R2}(ho:OpR X (binaryOp op) r)(ha:PE X a ta)(hb:PE X b tb):PE X (.BinOp a op b pos) (tOp r ta tb):=by
 intro pins s σ H Q I h;exact wpAny_BinOp (sg ha hb I h λv u s2 x y H2 I2 rx ry q=>ho pins s2 σ H2 x y v u Q I2 rx ry q)
theorem qN{op:UnaryOp}{r:V->Hp->VK->Prop}(ho:UnR X (unaryOp op) r)(ha:PE X a ta):PE X (.UnaryOp op a pos) (tUn r ta):=by
 intro pins s σ H Q I h;exact UnaryOp_ (thn (ha pins s σ H _ I h) λv s1 ⟨x,H1,I1,r1,q1⟩=>ho pins s1 σ H1 x v Q I1 r1 q1)
theorem opI{f:Value->Value->Sem Value}{C:Int->Int->Prop}{g:Int->Int->Int}
  (rule:∀(i j:Int) (t u:Tok) (s:Shared) (Q:Value->Shared->Prop) (E:Value->Shared->Prop),C i j->Q (.int (g i j) s.toks) { s with toks:=s.toks+1 }->wpAny (model X.prog X.w) X.A (f (.int i t) (.int j u)) Q E s) :
  OpR X f (rI C λi j=>.int (g i j)):=by
 intro pins s σ H x y v u Q I rx ry h;obtain⟨i,j,rfl,rfl,hc,q⟩:=h;obtain⟨t,rfl⟩:=rx;obtain⟨t',rfl⟩:=ry;exact rule i j t t' s _ _ hc ⟨.int (g i j),H,I.tok _,⟨_,rfl⟩,q⟩
theorem sD{f:Value->Value->Sem Value}{g:Int->Int->Int}
  (rule:∀(i j:Int) (t u:Tok) (s:Shared) (Q:Value->Shared->Prop) (E:Value->Shared->Prop),Q (.int (g i j) s.toks) { s with toks:=s.toks+1 }->wpAny (model X.prog X.w) X.A (f (.int i t) (.int j u)) Q E s) :
  OpR X f (zX λi j=>.int (g i j)):=by
 intro pins s σ H x y v u Q I rx ry h;obtain⟨i,j,rfl,rfl,q⟩:=h;obtain⟨t,rfl⟩:=rx;obtain⟨t',rfl⟩:=ry;exact rule i j t t' s _ _ ⟨.int (g i j),H,I.tok _,⟨_,rfl⟩,q⟩
theorem pQ{f:Value->Value->Sem Value}{g:Int->Int->Bool}
  (rule:∀(i j:Int) (t u:Tok) (s:Shared) (Q:Value->Shared->Prop) (E:Value->Shared->Prop),Q (.bool (g i j)) s->wpAny (model X.prog X.w) X.A (f (.int i t) (.int j u)) Q E s) :
  OpR X f (zX λi j=>.bl (g i j)):=by
 intro pins s σ H x y v u Q I rx ry h;obtain⟨i,j,rfl,rfl,q⟩:=h;obtain⟨t,rfl⟩:=rx;obtain⟨t',rfl⟩:=ry;exact rule i j t t' s _ _ ⟨.bl (g i j),H,I,rfl,q⟩
noncomputable def um(i j:Int):Prop:=0<=j/\j<=1000000/\i.natAbs<2^64
noncomputable def qG(i j:Int):Prop:=(-(2^64)<i/\i<2^64)\/(-(2^64)<j/\j<2^64)
theorem qG.ok{i j:Int}(h:qG i j):IntMulOk i j:=by
 rcases h with⟨h1,h2⟩|⟨h1,h2⟩
 ·exact .of_left (intBits_le_64 h1 h2)
 ·exact .of_right (intBits_le_64 h1 h2)
theorem cj:OpR X (binaryOp .Add) (zX λi j=>.int (i+j)):=sD λ_ _ _ _ _ _ _ q=>add_int q
theorem ku:OpR X (binaryOp .Sub) (zX λi j=>.int (i - j)):=sD λ_ _ _ _ _ _ _ q=>sub_int q
theorem bz:OpR X (binaryOp .Mod) (rI (λ_ j=>0<j) λi j=>.int (i % j)):=opI λi j _ _ _ _ _ hc q=>by
 have h1:(0:Int)<j:=hc;exact mod_int' (by omega) (by rw[Int.fmod_eq_emod_of_nonneg i (by omega)];exact q)
theorem nS:OpR X (binaryOp .Pow) (rI um λi j=>.int (i^j.toNat)):=opI λ_ _ _ _ _ _ _ hc q=>pow_int_small hc.1 hc.2.1 hc.2.2 q
theorem unI{f:Value->Sem Value}{g:Int->Int}
  (rule:∀(i:Int) (t:Tok) (s:Shared) (Q:Value->Shared->Prop) (E:Value->Shared->Prop),Q (.int (g i) s.toks) { s with toks:=s.toks+1 }->wpAny (model X.prog X.w) X.A (f (.int i t)) Q E s) :
  UnR X f (rU λi=>.int (g i)):=by
 intro pins s σ H x v Q I rx h;obtain⟨i,rfl,q⟩:=h;obtain⟨t,rfl⟩:=rx;exact rule i t s _ _ ⟨.int (g i),H,I.tok _,⟨_,rfl⟩,q⟩
theorem mO:UnR X (unaryOp .USub) (rU λi=>.int (-i)):=unI λ_ _ _ _ _ q=>neg_int q
end
noncomputable def sy:V->V->Bool
 | .non,.non=>true | .non,.int _=>true | .int _,.non=>true | .non,.bl _=>true | .bl _,.non=>true | .non,.str _=>true | .str _,.non=>true
 | .int _,.int _=>true | .bl _,.bl _=>true | .str _,.str _=>true | .byt _,.byt _=>true
 | .int _,.str _=>true | .str _,.int _=>true | .bl _,.str _=>true | .str _,.bl _=>true
 | _,_=>false
inductive AJ (x y:V) (H:Hp) (Q:VK):Prop
 | mk (s:sy x y=true) (q:Q (.bl (decide (x=y))) H):AJ x y H Q
inductive AI (x y:V) (H:Hp) (Q:VK):Prop
 | mk (s:sy x y=true) (q:Q (.bl (!decide (x=y))) H):AI x y H Q
theorem lB{i j:Int}:decide (V.int i=V.int j)=(i == j):=by
 rw[Bool.eq_iff_iff];simp
theorem pi{i j:Bool}:decide (V.bl i=V.bl j)=(i == j):=by
 rw[Bool.eq_iff_iff];simp
theorem lA{i j:Str}:decide (V.str i=V.str j)=(i == j):=by
 rw[Bool.eq_iff_iff];simp
theorem lC{i j:Array UInt8}:decide (V.byt i=V.byt j)=(i.toList == j.toList):=by
 rw[Bool.eq_iff_iff];cases i;cases j;simp
section
variable {X:Cx} {a b c:Expr} {ta tb tc:TE} {pos:Pos}
theorem aL{pins:List (Addr×Obj)}{σ:St}{H:Hp}{s:Shared}{Q:VK}{k k':Bool}(I:ur X pins σ H s)(q:Q (.bl k) H)(e:k=k'):EP X pins σ Q (.bool k') s:=by
 subst e;exact⟨.bl k,H,I,rfl,q⟩
theorem a9:OpR X (compareOp .Eq) AJ:=by
 intro pins s σ H x y v u Q I rx ry h;obtain⟨hs,q⟩:=h;cases x with
 | non =>
  cases rx;cases y with
  | non=>cases ry;exact PySem.EqNone.eq_none_none (aL I q (by simp))
  | bl j=>cases ry;exact PySem.EqNone.eq_none_bool (aL I q (by simp))
  | int j=>obtain⟨t',rfl⟩:=ry;exact PySem.EqNone.eq_none_int (aL I q (by simp))
  | str j=>obtain⟨t',rfl⟩:=ry;exact PySem.EqNone.eq_none_str (aL I q (by simp))
  | _=>exact absurd (show false=true from hs) Bool.false_ne_true
 | bl i =>
  cases rx;cases y with
  | non=>cases ry;exact PySem.EqNone.eq_bool_none (aL I q (by simp))
  | bl j=>cases ry;exact eq_bool (aL I q pi)
  | str j=>obtain⟨t',rfl⟩:=ry;exact PySem.EqMixed.eq_bool_str (aL I q (by simp))
  | _=>exact absurd (show false=true from hs) Bool.false_ne_true
 | int i =>
  obtain⟨t,rfl⟩:=rx;cases y with
  | non=>cases ry;exact PySem.EqNone.eq_int_none (aL I q (by simp))
  | int j=>obtain⟨t',rfl⟩:=ry;exact eq_int (aL I q lB)
  | str j=>obtain⟨t',rfl⟩:=ry;exact PySem.EqMixed.eq_int_str (aL I q (by simp))
  | _=>exact absurd (show false=true from hs) Bool.false_ne_true
 | str i =>
  obtain⟨t,rfl⟩:=rx;cases y with
  | non=>cases ry;exact PySem.EqNone.eq_str_none (aL I q (by simp))
  | bl j=>cases ry;exact PySem.EqMixed.eq_str_bool (aL I q (by simp))
  | int j=>obtain⟨t',rfl⟩:=ry;exact PySem.EqMixed.eq_str_int (aL I q (by simp))
  | str j=>obtain⟨t',rfl⟩:=ry;exact eq_str (aL I q lA)
  | _=>exact absurd (show false=true from hs) Bool.false_ne_true
 | byt i =>
  obtain⟨t,rfl⟩:=rx;cases y with
  | byt j=>obtain⟨t',rfl⟩:=ry;exact W.eq_bytes (aL I q lC)
  | _=>exact absurd (show false=true from hs) Bool.false_ne_true
 | _=>cases y <;> exact absurd (show false=true from hs) Bool.false_ne_true
theorem bv:OpR X (compareOp .NotEq) AI:=by
 intro pins s σ H x y v u Q I rx ry h;obtain⟨hs,q⟩:=h;cases x with
 | non =>
  cases rx;cases y with
  | non=>cases ry;exact PySem.EqNone.ne_none_none (aL I q (by simp))
  | bl j=>cases ry;exact PySem.EqNone.ne_none_bool (aL I q (by simp))
  | int j=>obtain⟨t',rfl⟩:=ry;exact PySem.EqNone.ne_none_int (aL I q (by simp))
  | str j=>obtain⟨t',rfl⟩:=ry;exact PySem.EqNone.ne_none_str (aL I q (by simp))
  | _=>exact absurd (show false=true from hs) Bool.false_ne_true
 | bl i =>
  cases rx;cases y with
  | non=>cases ry;exact PySem.EqNone.ne_bool_none (aL I q (by simp))
  | bl j=>cases ry;exact ne_bool (aL I q (congrArg not pi))
  | str j=>obtain⟨t',rfl⟩:=ry;exact PySem.EqMixed.ne_bool_str (aL I q (by simp))
  | _=>exact absurd (show false=true from hs) Bool.false_ne_true
 | int i =>
  obtain⟨t,rfl⟩:=rx;cases y with
  | non=>cases ry;exact PySem.EqNone.ne_int_none (aL I q (by simp))
  | int j=>obtain⟨t',rfl⟩:=ry;exact ne_int (aL I q (congrArg not lB))
  | str j=>obtain⟨t',rfl⟩:=ry;exact PySem.EqMixed.ne_int_str (aL I q (by simp))
  | _=>exact absurd (show false=true from hs) Bool.false_ne_true
 | str i =>
  obtain⟨t,rfl⟩:=rx;cases y with
  | non=>cases ry;exact PySem.EqNone.ne_str_none (aL I q (by simp))
  | bl j=>cases ry;exact PySem.EqMixed.ne_str_bool (aL I q (by simp))
  | int j=>obtain⟨t',rfl⟩:=ry;exact PySem.EqMixed.ne_str_int (aL I q (by simp))
  | str j=>obtain⟨t',rfl⟩:=ry;exact ne_str (aL I q (congrArg not lA))
  | _=>exact absurd (show false=true from hs) Bool.false_ne_true
 | byt i =>
  obtain⟨t,rfl⟩:=rx;cases y with
  | byt j=>obtain⟨t',rfl⟩:=ry;exact W.ne_bytes (aL I q (congrArg not lC))
  | _=>exact absurd (show false=true from hs) Bool.false_ne_true
 | _=>cases y <;> exact absurd (show false=true from hs) Bool.false_ne_true
theorem qO:OpR X (compareOp .Lt) (zX λi j=>.bl (decide (i<j))):=pQ λ_ _ _ _ _ _ _ q=>lt_int q
theorem eL:OpR X (compareOp .LtE) (zX λi j=>.bl (decide (i<=j))):=pQ λ_ _ _ _ _ _ _ q=>le_int q
theorem nW:OpR X (compareOp .Gt) (zX λi j=>.bl (decide (j<i))):=pQ λ_ _ _ _ _ _ _ q=>gt_int q
theorem qP:OpR X (compareOp .GtE) (zX λi j=>.bl (decide (j<=i))):=pQ λ_ _ _ _ _ _ _ q=>ge_int q
theorem rF:OpR X (compareOp .Is) (λx y H Q=>y = .non/\Q (.bl (decide (x = .non))) H):=by
 intro pins s σ H x y v u Q I rx ry h;obtain⟨rfl,q⟩:=h;cases ry;refine is_none_gen (aL I q ?_);cases x <;> first
  | (cases rx;rfl)
  | (obtain⟨t,rfl⟩:=rx;rfl)
theorem az(b:Expr){op:CmpOp}(h:op≠.In:=by decide)(h2:op≠.NotIn:=by decide):behindInMarks op b=false:=by
 have e1:(op == CmpOp.In)=false:=by cases op <;> first|rfl|exact absurd rfl h
 have e2:(op == CmpOp.NotIn)=false:=by cases op <;> first|rfl|exact absurd rfl h2
 cases b <;> simp[behindInMarks,e1,e2]
theorem bR{op:CmpOp}{r:R2}(ho:OpR X (compareOp op) r)(ha:PE X a ta)(hb:PE X b tb)(hm:behindInMarks op b=false):PE X (.Compare a [op] [b] pos) (tOp r ta tb):=by
 intro pins s σ H Q I h;exact wpAny_Compare1 (sg ha hb I h λv u s2 x y H2 I2 rx ry q=>ho pins s2 σ H2 x y v u Q I2 rx ry q) hm
inductive AK (x:V) (H:Hp) (Q:Bool->Hp->Prop):Prop
 | mk (k:Bool) (e:x = .bl k) (q:Q k H):AK x H Q
noncomputable def qJ(t:TE):TT:=λσ H Q=>t σ H λx H'=>AK x H' Q
theorem ao{op:CmpOp}{r:R2}(ho:OpR X (compareOp op) r)(ha:PE X a ta)(hb:PE X b tb)(hm:behindInMarks op b=false):PT X (.Compare a [op] [b] pos) (qJ (tOp r ta tb)):=by
 intro pins s σ H Q I h;refine wpAny_isTrue_Compare1 (thn (ha pins s σ H _ I h) λv s1 ⟨x,H1,I1,r1,q1⟩=>thn (hb pins s1 σ H1 _ I1 q1) λu s2 ⟨y,H2,I2,r2,q2⟩ =>
  thn (ho pins s2 σ H2 x y v u _ I2 r1 r2 q2) λc s3 ⟨z,H3,I3,r3,k,e,q3⟩=>?_) hm
 subst e;cases r3;exact wpAny_truthy_bool ⟨H3,I3,q3⟩
noncomputable def mX(r r':R2)(ta tb tc:TE):TE:=λσ H Q=>ta σ H λx H1=>tb σ H1 λy H2=>r x y H2 λz H3=>∃k,z = .bl k /\
 (if k=true then tc σ H3 λw' H4=>r' y w' H4 Q else Q (.bl false) H3)
theorem nO{op op':CmpOp}{r r':R2}(ho:OpR X (compareOp op) r)(ho':OpR X (compareOp op') r')(ha:PE X a ta)(hb:PE X b tb)(hc:PE X c tc)
  (hm:lastMarks [op,op'] [b,c]=false:=by with_unfolding_all rfl):PE X (.Compare a [op,op'] [b,c] pos) (mX r r' ta tb tc):=by
 intro pins s σ H Q I h;refine Compare_chain (thn (ha pins s σ H _ I h) λv s1 ⟨x,H1,I1,r1,q1⟩=>chain_link (thn (hb pins s1 σ H1 _ I1 q1) λu s2 ⟨y,H2,I2,r2,q2⟩ =>
  thn (ho pins s2 σ H2 x y v u _ I2 r1 r2 q2) λd s3 ⟨z,H3,I3,r3,k,e,q3⟩=>?_)) hm
 subst e;cases r3;refine wpAny_truthy_bool ?_;cases k with
 | false=>exact ite_ff ⟨.bl false,H3,I3,rfl,q3⟩
 | true=>exact ite_tt (chain_last (thn (hc pins s3 σ H3 _ I3 q3) λw' s4 ⟨z',H4,I4,r4,q4⟩=>ho' pins s4 σ H4 y z' u w' Q I4 r2 r4 q4))
theorem fz{op op':CmpOp}{r r':R2}(ho:OpR X (compareOp op) r)(ho':OpR X (compareOp op') r')(ha:PE X a ta)(hb:PE X b tb)(hc:PE X c tc)
  (hm:lastMarks [op,op'] [b,c]=false:=by with_unfolding_all rfl):PT X (.Compare a [op,op'] [b,c] pos) (qJ (mX r r' ta tb tc)):=by
 intro pins s σ H Q I h;refine isTrue_chain (thn (ha pins s σ H _ I h) λv s1 ⟨x,H1,I1,r1,q1⟩=>test_link (thn (hb pins s1 σ H1 _ I1 q1) λu s2 ⟨y,H2,I2,r2,q2⟩ =>
  thn (ho pins s2 σ H2 x y v u _ I2 r1 r2 q2) λd s3 ⟨z,H3,I3,r3,k,e,q3⟩=>?_)) hm
 subst e;cases r3;refine wpAny_truthy_bool ?_;cases k with
 | false =>
  obtain⟨k',e',q'⟩:=q3;cases e';exact ite_ff ⟨H3,I3,q'⟩
 | true =>
  refine ite_tt (test_last (thn (hc pins s3 σ H3 _ I3 q3) λw' s4 ⟨z',H4,I4,r4,q4⟩=>thn (ho' pins s4 σ H4 y z' u w' _ I4 r2 r4 q4) λd' s5 ⟨z2,H5,I5,r5,k2,e2,q5⟩=>?_));subst e2;cases r5;exact wpAny_truthy_bool ⟨H5,I5,q5⟩
theorem io:(sizeLine:Nat)<2^63:=by rw[sizeLine_eq];decide
theorem ay:OpR X (binaryOp .Add) (λx y H Q=>∃i j,x = .str i/\y = .str j/\i.length+j.length<=sizeLine/\Q (.str (i++j)) H):=by
 intro pins s σ H x y v u Q I rx ry h;obtain⟨i,j,rfl,rfl,hz,q⟩:=h;obtain⟨t,rfl⟩:=rx;obtain⟨t',rfl⟩:=ry;exact add_str (λt' tk=>⟨.str (i++j),H,I.tok _,⟨_,rfl⟩,q⟩) hz
theorem b3{x:V}{us:List Value}(r:aE [x] us):∃u,us = [u]/\aN x u:=by
 cases r with
 | cons r1 r2=>cases r2;exact⟨_,rfl,r1⟩
theorem qH{x y:V}{us:List Value}(r:aE [x,y] us):∃u w',us = [u,w']/\aN x u/\aN y w':=by
 cases r with
 | cons r1 r2 =>
  cases r2 with
  | cons r3 r4=>cases r4;exact⟨_,_,rfl,r1,r3⟩
theorem jL:bY X (.builtin "abs") (λxs H Q=>∃i,xs = [.int i]/\Q (.int (if i<0 then -i else i)) H):=by
 intro pins s σ H xs us Q I r h;obtain⟨i,rfl,q⟩:=h;obtain⟨u,rfl,t,rfl⟩:=b3 r;exact call_abs_int λu tk=>⟨.int (if i<0 then -i else i),H,I.tok _,⟨_,rfl⟩,q⟩
end
structure yj(h:Heap)(x dx C:Addr)(mA:Str->Option Value):Prop where
 obj:h.get? x=some (W.instObj C dx)
 ns:h.Ns1 dx mA
 ne:dx≠x
theorem mm{h:Heap}{dx:Addr}{mA:Str->Option Value}(n:h.Ns1 dx mA):∃od,h.get? dx=some od/\∀name,W.lookIn name od=some (mA name):=by
 obtain⟨o,es,ep,ho,hd,hk,_,hm⟩:=n;refine⟨o,ho,λname=>?_⟩;have e:=hm name;unfold nsFind findBy at e;rw[<- Array.find?_toList]at e;unfold W.lookIn;rw[hd];dsimp only
 split
 ·rename_i y q
  rw[q]at e;exact congrArg some e
 ·rename_i q
  rw[q]at e;have a:es.toList.any (·.refKey)=false:=by
   rw[List.any_eq_false];intro y hy;obtain⟨z,t,hkey⟩:=hk y (Array.mem_toList_iff.mp hy);simp[DictEntry.refKey,hkey]
  have a':¬es.toList.any (·.refKey)=true:=by rw[a];exact Bool.false_ne_true
  rw[if_neg a'];exact congrArg some e
theorem yj.look{h:Heap}{x dx C:Addr}{mA:Str->Option Value}(I:yj h x dx C mA):∃od,W.InstAt h x (W.instObj C dx) C (some od)/\∀name,W.lookIn name od=some (mA name) :=
 let ⟨od,ho,hl⟩:=mm I.ns
 ⟨od,⟨I.obj,rfl,rfl,ho⟩,hl⟩
section
variable {prog:Program} {w:World} {A:Around} {E:Value->Shared->Prop} {s:Shared} {K:W.Frag} {x dx C f:Addr} {mA:Str->Option Value} {name:Str} {v:Value}
theorem qg{expr:Bool}{Q:Value->Shared->Prop}(X:K.In s.heap)(I:yj s.heap x dx C mA)(hg:W.plainGet K C name=true)(hh:W.hasDictIn K C=true)
  (ha:W.findIn K (.ref C) name=some none) (hv:mA name=some v) (hv':W.handedIn v=true) (h:Q v { s with toks:=s.toks+1 }) :
  wpAny (model prog w) A (getAttr (.ref x) name expr) Q E s:=by
 obtain⟨od,J,hl⟩:=I.look;exact W.get_value X J (W.plainGet_of hg).1 (W.findObj_own hh ha rfl (by rw[hl,hv])) hv' h
theorem oR{pl:Sem Bool}{Q:Value×List Value->Shared->Prop}(X:K.In s.heap)(I:yj s.heap x dx C mA)(hg:W.plainGet K C name=true)
  (hf:W.findIn K (.ref C) name=some (some (.ref f))) (ht:W.isFn K (.ref f)=true) (hv:mA name=none) (h:Q (.ref f,[.ref x]) s) :
  wpAny (model prog w) A (getMethod (.ref x) name pl) Q E s:=by
 obtain⟨od,J,hl⟩:=I.look;exact W.method_fn X J (W.plainGet_of hg).1 (W.plainGet_of hg).2 hf (beq_iff_eq.mp ht) (by show(W.lookIn name od).map (·.isSome)=some false;rw[hl,hv];rfl) h
theorem pJ{ns:List Str}{Q:Unit->Shared->Prop}(X:K.In s.heap)(I:yj s.heap x dx C mA)
  (hs:W.findIn K (.ref C) "__setattr__" = some (some (.builtin "object.__setattr__"))) (hp:W.plainOver K C=true) (ht:W.takerIn K C name=some none) (hh:W.hasDictIn K C=true)
  (hw:PySem.Within mA ns) (hsz:ns.length<=sizeLine)
  (h:∀h',yj h' x dx C (λy=>if y=name then some v else mA y)->Heap.SameBut dx s.heap h'->Q () { s with heap:=h',toks:=s.toks+2 }) :
  wpAny (model prog w) A (setAttr (.ref x) name v) Q E s:=by
 obtain⟨od,J,hl⟩:=I.look;refine W.set_plain X J hs (W.osa_open (s:={ s with toks:=s.toks+1 }) (r:=none) X J hp ht λb=>?_);obtain⟨cd,hc,hd'⟩:=W.any_some hh;have hx:s.heap.get? x=some ⟨.ref C,some dx,.plain,#[]⟩:=I.obj;refine wpAny_bind (wpAny_pure (wpAny_bind (wpAny_bind (wpAny_loadPart hx (wpAny_bind (W.Looks.here (s:={ s with toks:=s.toks+1 }) (W.looks_clsIn X hc) ?_))))));rw[hd'];refine wpAny_pure (a:=some dx) (wpAny_bind (wpAny_pure (wpAny_bind ?_)));refine wpAny_nsSet1 (s:={ s with toks:=s.toks+1 }) I.ns λh' hn2 hs2=>?_;obtain⟨oD,esD,epD,hoD,hdD,hcD⟩:=hn2.count (PySem.Within.cons name v hw);refine wpAny_bind (wpAny_lookBehind hoD (by rw[hdD];exact pastItsLine_dict (Nat.le_trans hcD (by rw[List.length_cons];omega))) ?_);exact wpAny_pure (h _ ⟨(hs2.2 _ (Ne.symm I.ne)).trans I.obj,hn2,I.ne⟩ hs2)
theorem ou{R:Result->Shared->Prop}{vs:List Value}{kw:List (Str×Value)}(X:K.In s.heap)(hm:W.makesIn K C=true)
  (hi:W.findIn K (.ref C) "__init__" = some (some (.ref f))) (hf:W.typeIn K (.ref f)=some (.type "function"))
  (h:codeAny (model prog w) (A.under (.builtin "type.__call__" ⟨.ref C::vs,kw⟩)) (.call (.ref f) ⟨.ref (s.heap.objs.size+1)::vs,kw⟩) (W.InitBack (s.heap.objs.size+1) R)
   { s with heap:=(s.heap.push W.emptyDict).push (W.instObj C s.heap.objs.size) }) :
  codeAny (model prog w) A (.call (.ref C) ⟨vs,kw⟩) R s:=by
 obtain⟨hh,g,d,t,os⟩:=s;exact W.make_core (W.makes_of X hm) (W.looks_findIn X hi) (λself=>W.bind_fn X self hf) (.inl rfl) h
end
noncomputable def cO(f:Str)(v:V):List (Str×V)->List (Str×V)
 | []=>[(f,v)]
 | (g,x)::r=>if g=f then (g,v)::r else (g,x)::cO f v r
theorem eQ(f g:Str)(v:V):∀fs:List (Str×V),(cO f v fs).lookup g=if g=f then some v else fs.lookup g
 | []=>by
  show List.lookup g [(f,v)]=_
  by_cases h:g=f
  ·have hb:(g == f)=true:=beq_iff_eq.mpr h
   simp only[List.lookup,hb,if_pos h]
  ·have hb:(g == f)=false:=beq_eq_false_iff_ne.mpr h
   simp only[List.lookup,hb,if_neg h]
 | (k,x)::r=>by
  have ih:=eQ f g v r;rw[show cO f v ((k,x)::r)=(if k=f then (k,v)::r else (k,x)::cO f v r) from rfl]
  by_cases hk:k=f
  ·rw[if_pos hk]
   by_cases h:g=k
   ·have hb:(g == k)=true:=beq_iff_eq.mpr h
    simp only[List.lookup,hb,if_pos (h.trans hk)]
   ·have hb:(g == k)=false:=beq_eq_false_iff_ne.mpr h
    simp only[List.lookup,hb,if_neg (λe:g=f=>h (e.trans hk.symm))]
  ·rw[if_neg hk]
   by_cases h:g=k
   ·have hb:(g == k)=true:=beq_iff_eq.mpr h
    simp only[List.lookup,hb,if_neg (λe:g=f=>hk (h.symm.trans e))]
   ·have hb:(g == k)=false:=beq_eq_false_iff_ne.mpr h
    simp only[List.lookup,hb];exact ih
theorem ej(f:Str)(v:V):∀fs:List (Str×V),f∈(cO f v fs).map (·.1)/\∀g,g∈fs.map (·.1)->g∈(cO f v fs).map (·.1)
 | []=>⟨by simp[cO],λg h=>by simp at h⟩
 | (k,x)::r=>by
  obtain⟨i1,i2⟩:=ej f v r;rw[show cO f v ((k,x)::r)=(if k=f then (k,v)::r else (k,x)::cO f v r) from rfl]
  by_cases hk:k=f
  ·rw[if_pos hk]
   subst hk;exact⟨by simp,λg h=>by simpa using h⟩
  ·rw[if_neg hk]
   refine⟨?_,λg h=>?_⟩
   ·rw[List.map_cons]
    exact List.mem_cons_of_mem _ i1
   ·rw[List.map_cons]at h ⊢
    rcases List.mem_cons.mp h with e|e
    ·exact List.mem_cons.mpr (.inl e)
    ·exact List.mem_cons_of_mem _ (i2 g e)
theorem eS(f:Str)(v:V):∀fs:List (Str×V),(cO f v fs).length<=fs.length+1
 | []=>by simp[cO]
 | (k,x)::r=>by
  have ih:=eS f v r;rw[show cO f v ((k,x)::r)=(if k=f then (k,v)::r else (k,x)::cO f v r) from rfl]
  by_cases hk:k=f
  ·rw[if_pos hk,List.length_cons,List.length_cons];omega
  ·rw[if_neg hk,List.length_cons,List.length_cons];omega
theorem dX.some_of{v:V}{o:Option Value}(r:dX (some v) o):∃u,o=some u/\aN v u:=by
 cases o with
 | none=>exact(show False from r).elim
 | some u=>exact⟨u,rfl,r⟩
theorem dX.none_of{o:Option Value}(r:dX none o):o=none:=by
 cases o with
 | none=>rfl
 | some u=>exact(show False from r).elim
theorem mv{v:V}{u:Value}(r:aN v u):W.handedIn u=true:=by
 cases v with
 | non=>cases (show u=Value.none from r);rfl
 | bl b=>cases (show u=Value.bool b from r);rfl
 | int i=>obtain⟨t,e⟩:=(show ∃t,u=Value.int i t from r);cases e;rfl
 | str x=>obtain⟨t,e⟩:=(show ∃t,u=Value.str x t from r);cases e;rfl
 | byt b=>obtain⟨t,e⟩:=(show ∃t,u=Value.bytes b t from r);cases e;rfl
 | flt b=>obtain⟨t,e⟩:=(show ∃t,u=Value.float b t from r);cases e;rfl
 | ref a=>cases (show u=Value.ref a from r);rfl
 | ty n=>cases (show u=Value.type n from r);rfl
section
variable {P:Program} {w:World} {H H':Hp} {h h':Heap} {a C dx:Addr} {fs fs':List (Str×V)}
theorem fj(hok:HOk P w H h)(e:H a=some (.ins C dx fs)):∃mA,yj h a dx C mA/\(∀f,dX (fs.lookup f) (mA f))/\PySem.Within mA (fs.map (·.1))/\fs.length<=1000/\H dx=some (.own a):=by
 obtain⟨d,z,ne,ob,mA,n,r,q⟩:=(show a8 P w H h a (.ins C dx fs) from hok a _ e);exact⟨mA,⟨ob,n,ne⟩,r,q,z,d⟩
end
structure zR(K:W.Frag)(C:Addr):Prop where
 pg:W.plainGet K C Str.empty=true
 hd:W.hasDictIn K C=true
 po:W.plainOver K C=true
 sa:W.findIn K (.ref C) "__setattr__" = some (some (.builtin "object.__setattr__"))
theorem zR.get{K:W.Frag}{C:Addr}(c:zR K C)(f:Str):W.plainGet K C f=true:=c.pg
noncomputable def aU(K:W.Frag)(C:Addr)(f:Str):Prop:=W.findIn K (.ref C) f=some none
theorem aU.taker{K:W.Frag}{C:Addr}{f:Str}(n:aU K C f):W.takerIn K C f=some none:=by
 unfold W.takerIn;rw[show W.findIn K (.ref C) f=some none from n];rfl
structure zQ(K:W.Frag)(C:Addr)(m:Str)(f:Addr):Prop where
 at_:W.findIn K (.ref C) m=some (some (.ref f))
 fn:W.isFn K (.ref f)=true
 kp:W.keepIn K (.ref f)=true
section
variable {X:Cx} {pins:List (Addr×Obj)} {σ:St} {H:Hp} {s:Shared} {a C dx:Addr} {fs:List (Str×V)} {f:Str} {v:V} {A:Around} {E:Value->Shared->Prop}
theorem kF{b:Bool}{Q:Value->Shared->Prop}(I:ur X pins σ H s)(e:H a=some (.ins C dx fs))(c:zR X.K C)(n:aU X.K C f)(l:fs.lookup f=some v)
  (h:∀u s',ur X pins σ H s'->aN v u->Q u s'):wpAny (model X.prog X.w) A (getAttr (.ref a) f b) Q E s:=by
 obtain⟨mA,O,r,_,_,_⟩:=fj I.hok e;obtain⟨u,hu,ru⟩:=dX.some_of (v:=v) (o:=mA f) (by rw[<- l];exact r f);exact qg I.kIn O (c.get f) c.hd n hu (mv ru) (h u _ (I.tok _) ru)
theorem cW{m:Str}{g:Addr}{pl:Sem Bool}{Q:Value×List Value->Shared->Prop}(I:ur X pins σ H s)(e:H a=some (.ins C dx fs))(c:zR X.K C)(k:zQ X.K C m g)(l:fs.lookup m=none)
  (h:Q (.ref g,[.ref a]) s):wpAny (model X.prog X.w) A (getMethod (.ref a) m pl) Q E s:=by
 obtain⟨mA,O,r,_,_,_⟩:=fj I.hok e;have hn:mA m=none:=dX.none_of (by rw[<- l];exact r m);exact oR I.kIn O (c.get m) k.at_ k.fn hn h
theorem j5{y:V}{u:Value}{Q:Unit->Shared->Prop}(I:ur X pins σ H s)(e:H a=some (.ins C dx fs))(c:zR X.K C)(n:aU X.K C f)(hl:fs.length<1000)(ry:aN y u)
  (h:∀s',ur X pins σ (upd H a (.ins C dx (cO f y fs))) s'->Q () s'):wpAny (model X.prog X.w) A (setAttr (.ref a) f u) Q E s:=by
 obtain⟨mA,O,r,wi,_,ho⟩:=fj I.hok e;have hz:(fs.map (·.1)).length<=sizeLine:=by rw[List.length_map,sizeLine_eq];omega
 refine pJ I.kIn O c.sa c.po n.taker c.hd wi hz λh' O' sb=>h _ ?_;have hd:∃o,h'.get? dx=some o:=let ⟨o,_,_,e',_⟩:=O'.ns;⟨o,e'⟩;refine I.write (x:=a) (e:=dx) (by rw[e];exact True.intro) (.inr ho) (λb q hb z=>(sb.2 b hb).trans z) hd ?_;refine⟨by rw[aA O.ne];exact ho,?_,O.ne,O'.obj,_,O'.ns,λg=>?_,λg hg=>?_⟩
 ·have:=eS f y fs;omega
 ·show dX ((cO f y fs).lookup g) (if g=f then some u else mA g)
  rw[eQ]
  by_cases q:g=f
  ·rw[if_pos q,if_pos q];exact ry
  ·rw[if_neg q,if_neg q];exact r g
 ·by_cases q:g=f
  ·rw[q];exact(ej f y fs).1
  ·refine(ej f y fs).2 g (wi g λz=>hg ?_)
   show(if g=f then some u else mA g)=none
   rw[if_neg q];exact z
theorem ur.made(I:ur X pins σ H s):ur X pins σ (upd (upd H s.heap.objs.size (.own (s.heap.objs.size+1))) (s.heap.objs.size+1) (.ins C s.heap.objs.size []))
  { s with heap:=(s.heap.push W.emptyDict).push (W.instObj C s.heap.objs.size) }:=by
 have e1:(s.heap.push W.emptyDict).get? s.heap.objs.size=some W.emptyDict:=Heap.get?_push_size s.heap rfl;have e2:((s.heap.push W.emptyDict).push (W.instObj C s.heap.objs.size)).get? (s.heap.objs.size+1)=some (W.instObj C s.heap.objs.size):=by
  have:=Heap.get?_push_size (s.heap.push W.emptyDict) (o:=W.instObj C s.heap.objs.size) rfl
  rwa [Heap.size_push]at this
 have e3:(s.heap.push W.emptyDict).Ns s.heap.objs.size (λ_=>none):=⟨W.emptyDict,#[],_,e1,rfl,(λe he=>absurd he (by simp)),λ_=>rfl⟩;have I1:=I.laid (a:=s.heap.objs.size) (o:=.own (s.heap.objs.size+1)) (h':=s.heap.push W.emptyDict) (t':=s.toks) (λb u q=>Heap.get?_push_of_some _ q) (Nat.le_refl _) ⟨_,e1⟩;refine I1.laid (a:=s.heap.objs.size+1) (o:=.ins C s.heap.objs.size []) (t':=s.toks) (λb u q=>Heap.get?_push_of_some _ q) (Nat.le_of_eq (Heap.size_push _ _)) ?_;have ne:s.heap.objs.size≠s.heap.objs.size+1:=Nat.ne_of_lt (Nat.lt_succ_self _);refine⟨by rw[aA ne,upd_same],Nat.zero_le _,ne,e2,λ_=>none,(Heap.Ns1.of_empty e3).at λo q=>Heap.get?_push_of_some _ q,λ_=>True.intro,λy hy=>absurd rfl hy⟩
theorem qz{prog:Program}{w:World}{env:Env}{e:Expr}{f:Str}{pos:Pos}{s:Shared}{Q:Value->Shared->Prop}(hb:attributeBase e f env (eval e env)=eval e env)
  (h:wpAny (model prog w) A (eval e env) (λo s1=>wpAny (model prog w) A (getAttr o f true) Q E s1) E s):wpAny (model prog w) A (eval (.Attribute e f pos) env) Q E s :=
 Attribute_any_ h (by rw[arm_eval_Attribute,hb])
end
noncomputable def tT(K:W.Frag)(ta:TE)(f:Str):TE:=λσ H Q=>ta σ H λx H1=>∃a C dx fs v,x = .ref a/\H1 a=some (.ins C dx fs)/\zR K C/\aU K C f/\fs.lookup f=some v/\Q v H1
noncomputable def tW(K:W.Frag)(ta tv:TE)(f:Str):TS:=λD σ H=>tv σ H λy H1=>ta σ H1 λx H2=>∃a C dx fs,x = .ref a/\H2 a=some (.ins C dx fs)/\zR K C/\aU K C f/\fs.length<1000 /\
 D.nx σ (upd H2 a (.ins C dx (cO f y fs)))
section
variable {X:Cx} {o e value:Expr} {f:Str} {pos pos' tpos:Pos} {ta tv:TE}
theorem bZ(he:PE X e ta)(hb:attributeBase e f X.env (eval e X.env)=eval e X.env):PE X (.Attribute e f pos) (tT X.K ta f):=by
 intro pins s σ H Q I h;refine qz hb (thn (he pins s σ H _ I h) λu s1 ⟨x,H1,I1,rx,a,C,dx,fs,v,ex,ea,c,n,l,q⟩=>?_);subst ex;obtain rfl:u=Value.ref a:=rx;exact kF I1 ea c n l λu' s2 I2 ru=>⟨v,H1,I2,ru,q⟩
theorem ia(ha:PE X o ta)(hv:PE X value tv)(hs:swapsWith value (some (.Attribute o f pos')) pos.line X.env=pure false):PS X (.Assign [.Attribute o f pos'] value pos) (tW X.K ta tv f):=by
 intro pins s σ H D I h;refine plainObj_wpAny_Assign_Attribute (thn (hv pins s σ H _ I h) λu s1 ⟨y,H1,I1,ry,q⟩=>thn (ha pins s1 σ H1 _ I1 q) λov s2 ⟨x,H2,I2,rx,a,C,dx,fs,ex,ea,c,n,l,q2⟩=>?_) hs;subst ex;obtain rfl:ov=Value.ref a:=rx;exact j5 I2 ea c n l ry λs3 I3=>⟨σ,_,I3,q2⟩
end
section
variable {X:Cx} {pins:List (Addr×Obj)} {σ:St} {H:Hp} {s:Shared} {A:Around} {E:Value->Shared->Prop} {Q:Value->Shared->Prop} {c:Value} {b:Bool}
inductive wu (K:W.Frag) (H:Hp):V->Value->Prop where
 | non:wu K H .non (.type "NoneType")
 | bl (x:Bool):wu K H (.bl x) (.type "bool")
 | int (i:Int):wu K H (.int i) (.type "int")
 | str (x:Str):wu K H (.str x) (.type "str")
 | flt (x:UInt64):wu K H (.flt x) (.type "float")
 | lst {a:Addr} {xs:List V} (e:H a=some (.lst xs)):wu K H (.ref a) (.type "list")
 | frz {a:Addr} {o:Obj} {xs:List V} (e:H a=some (.frz o (.lst xs))):wu K H (.ref a) (.type "list")
 | tup {a:Addr} {xs:List V} (e:H a=some (.tup xs)):wu K H (.ref a) (.type "tuple")
 | dK {a:Addr} {kvs:List (Key×V)} (e:H a=some (.dK kvs)):wu K H (.ref a) (.type "dict")
 | dT {a:Addr} {kvs:List (List Key×V)} (e:H a=some (.dT kvs)):wu K H (.ref a) (.type "dict")
 | ins {a C dx:Addr} {fs:List (Str×V)} (e:H a=some (.ins C dx fs)) (cl:zR K C) (ha:W.findIn K (.ref C) "__class__" = some (some (.builtin "object.__class__")))
   (hn:W.specialIn K (.builtin "object.__class__") "__get__" = some (some (.builtin "getset_descriptor.__get__"))) (htk:W.takesIn K (.builtin "object.__class__")=some true)
   (hm:W.mroIn K C (.type "object")=some true):wu K H (.ref a) (.ref C)
theorem mq{x:V}{u t:Value}(I:ur X pins σ H s)(rx:aN x u)(ty:wu X.K H x t)(e:W.kitOne X.K t c=some b)(h:∀tk,Q (.bool b) { s with toks:=tk }) :
  wpAny (model X.prog X.w) A (call (.builtin "isinstance") [u,c]) Q E s:=by
 cases ty with
 | non=>cases (show u=Value.none from rx);exact W.kia_one W.kitx_none I.kIn True.intro e (λz=>nomatch z) h
 | bl y=>cases (show u=Value.bool y from rx);exact W.kia_one W.kitx_bool I.kIn True.intro e (λz=>nomatch z) h
 | int i=>obtain⟨t,q⟩:=(show ∃t,u=Value.int i t from rx);cases q;exact W.kia_one W.kitx_int I.kIn True.intro e (λz=>nomatch z) h
 | str y=>obtain⟨t,q⟩:=(show ∃t,u=Value.str y t from rx);cases q;exact W.kia_one W.kitx_str I.kIn True.intro e (λz=>nomatch z) h
 | flt y=>obtain⟨t,q⟩:=(show ∃t,u=Value.float y t from rx);cases q;exact W.kia_one W.kitx_float I.kIn True.intro e (λz=>nomatch z) h
 | @lst a xs ea =>
  cases (show u=Value.ref a from rx);obtain⟨_,_,n,_,h1⟩:=(show a8 X.prog X.w H s.heap a (.lst xs) from I.hok a _ ea);exact W.kia_one W.kitx_list I.kIn ⟨_,h1,rfl⟩ e (λz=>nomatch z) h
 | @frz a ob xs ea =>
  cases (show u=Value.ref a from rx);obtain⟨_,_,_,n,_,h1⟩:=(show a8 X.prog X.w H s.heap a (.frz ob (.lst xs)) from I.hok a _ ea);exact W.kia_one W.kitx_list I.kIn ⟨_,h1,rfl⟩ e (λz=>nomatch z) h
 | @tup a xs ea =>
  cases (show u=Value.ref a from rx);obtain⟨_,_,_,p⟩:=(show a8 X.prog X.w H s.heap a (.tup xs) from I.hok a _ ea);obtain⟨o,h1,h2,_⟩:=p;exact W.kia_one W.kitx_tuple I.kIn ⟨o,h1,h2⟩ e (λz=>nomatch z) h
 | @dK a kvs ea =>
  cases (show u=Value.ref a from rx);obtain⟨_,_,vs,_,p⟩:=(show a8 X.prog X.w H s.heap a (.dK kvs) from I.hok a _ ea);obtain⟨o,es,ep,h1,h2,_⟩:=p;exact W.kia_one W.kitx_dict I.kIn ⟨o,h1,h2.1⟩ e (λz=>nomatch z) h
 | @dT a kvs ea =>
  cases (show u=Value.ref a from rx);obtain⟨_,_,xs,_,o,es,ep,h1,h2,_⟩:=(show a8 X.prog X.w H s.heap a (.dT kvs) from I.hok a _ ea);exact W.kia_one W.kitx_dict I.kIn ⟨o,h1,h2.1⟩ e (λz=>nomatch z) h
 | @ins a C dx fs ea cl ha hn htk hm =>
  cases (show u=Value.ref a from rx);obtain⟨mA,O,_⟩:=fj I.hok ea;obtain⟨od,J,_⟩:=O.look;exact W.kia_one (W.kitx_own (cl.get _) cl.hd ha hn htk hm) I.kIn J e (λz=>nomatch z) h
end
structure uE(k:Nat)(A:Around):Prop where
 hd:A.handled=none
 dp:A.depth+3*k+5<recursionLimit
 un:A.units+16*k+200<cLine
 gd:A.guards=some []
theorem uE.mono{j k:Nat}{A:Around}(r:uE k A)(h:j<=k):uE j A:=⟨r.hd,by have:=r.dp;omega,by have:=r.un;omega,r.gd⟩
theorem uE.deeper{k:Nat}{A:Around}(r:uE (k+1) A)(env:Env):uE k (A.deeper env) :=
 ⟨r.hd,by have:=r.dp;show A.depth+1+3*k+5<_;omega,by have:=r.un;show A.units+3+16*k+200<_;omega,r.gd⟩
theorem kD{A:Around}{C:Addr}{us:List Value}{kw:List (Str×Value)}:(A.under (.builtin "type.__call__" ⟨.ref C::us,kw⟩)).depth=A.depth+1:=by
 first|rfl|simp[Around.under,Code.weight,Code.isCreation,Code.isGuard,Code.isCaller,Code.frames,Code.isFrame,guardIds]
theorem kC{A:Around}{C:Addr}{us:List Value}{kw:List (Str×Value)}:(A.under (.builtin "type.__call__" ⟨.ref C::us,kw⟩)).units=A.units+1:=by
 first|rfl|simp[Around.under,Code.cUnits,Code.frames,Code.isFrame]
theorem jl{A:Around}{C:Addr}{us:List Value}{kw:List (Str×Value)}(h:A.guards=some []):(A.under (.builtin "type.__call__" ⟨.ref C::us,kw⟩)).guards=some []:=by
 first|exact h|(unfold Around.under;simp[h,Code.guards,Code.isGuard,guardIds,pushGuards])
theorem uE.make{k:Nat}{A:Around}(r:uE (k+1) A)(C:Addr)(us:List Value)(kw:List (Str×Value)):uE k (A.under (.builtin "type.__call__" ⟨.ref C::us,kw⟩)) :=
 ⟨r.hd,by have:=r.dp;rw[kD];omega,by have:=r.un;rw[kC];omega,jl r.gd⟩
theorem uE.depth{k:Nat}{A:Around}(r:uE k A):A.depth<recursionLimit:=by have:=r.dp;omega
theorem uE.units{k:Nat}{A:Around}(r:uE k A):A.units+64<cLine:=by have:=r.un;omega
noncomputable def g9:TA:=λ_ H Q=>Q [] H
noncomputable def iV(ta:TE)(tr:TA):TA:=λσ H Q=>ta σ H λx H1=>tr σ H1 λxs H2=>Q (x::xs) H2
section
variable {X:Cx} {e:Expr} {es:List Expr} {te:TE} {t:TA} {pos:Pos}
theorem ac:PA X [] g9:=λ_ _ _ _ H Q I h=>Calls.spliced_nil ⟨[],H,I,.nil,h⟩
theorem aa(ha:PE X e te)(hr:PA X es t)(hs:starEach (e::es) X.env=(false,eval e X.env)::starEach es X.env:=by rfl):PA X (e::es) (iV te t):=by
 intro pos pins s σ H Q I h;rw[hs];show wpAny _ _ (spliced ((false,eval e X.env)::backTo pos (starEach es X.env))) _ _ s;refine Calls.spliced_cons (thn (ha pins s σ H _ I h) λu s1 ⟨x,H1,I1,r1,q1⟩=>?_);exact thn (hr pos pins s1 σ H1 _ I1 q1) λus s2 ⟨xs,H2,I2,r2,q2⟩=>⟨x::xs,H2,I2,.cons r1 r2,q2⟩
noncomputable def tE(t:TA):TE:=λσ H Q=>t σ H λxs H1=>xs.length<=sizeLine/\∀p,H1 p=none->Q (.ref p) (upd H1 p (.tup xs))
noncomputable def tO(t:TA):TE:=λσ H Q=>t σ H λxs H1=>xs.length<=sizeLine/\∀p,H1 p=none->Q (.ref p) (upd H1 p (.lst xs))
theorem rB{x1}(h:PA X es t):PE X (.Tuple es x1 pos) (tE t):=by
 intro pins s σ H Q I hq;refine wpAny_Tuple_spliced (thn (h pos pins s σ H _ I hq) λus s1 ⟨xs,H1,I1,r,z,q⟩=>⟨by rw[<- r.length];exact z,?_⟩);have hf:H1 s1.heap.objs.size=none:=I1.hok.fresh (Nat.le_refl _);refine⟨.ref s1.heap.objs.size,upd H1 s1.heap.objs.size (.tup xs),I1.laid (t':=s1.toks) (λb u e=>Heap.get?_push_of_some _ e) (Nat.le_refl _) ?_,rfl,q _ hf⟩;exact⟨z,us,r,⟨_,Heap.get?_push_size _ rfl,rfl,_,rfl⟩⟩
theorem rD(h:PA X es t):PE X (.List es pos) (tO t):=by
 intro pins s σ H Q I hq;refine wpAny_List_spliced (thn (h pos pins s σ H _ I hq) λus s1 ⟨xs,H1,I1,r,z,q⟩=>⟨by rw[<- r.length];exact z,?_⟩);have hf:H1 s1.heap.objs.size=none:=I1.hok.fresh (Nat.le_refl _);refine⟨.ref s1.heap.objs.size,upd H1 s1.heap.objs.size (.lst xs),I1.laid (t':=s1.toks) (λb u e=>Heap.get?_push_of_some _ e) (Nat.le_refl _) ?_,rfl,q _ hf⟩;exact⟨z,us,0,r,Heap.get?_push_size _ rfl⟩
end
noncomputable abbrev Sp:=List V->Hp->VK->XK->Prop
noncomputable abbrev CXT:=List Env->Hp->Shared->XK->Value->Shared->Prop
structure yn(P:Program)(w:World)(K:W.Frag)(mg:Str->Option Value)(base:Heap)(A:Around)(outer:List Env)(s:Shared)(H:Hp):Prop where
 frames:A.frames=some outer
 mod:Mod K mg base
 bs:∀b o,base.get? b=some o->s.heap.get? b=some o/\H b=none
 bsz:base.objs.size<=s.heap.objs.size
 funs:s.heap.FunFrames base outer
 frf:∀b∈frs outer,H b=none
 hok:HOk P w H s.heap
 bare:AllBare s.gens
noncomputable def CE(outer:List Env)(P:Program)(w:World)(H:Hp)(s:Shared)(Q:VK)(u:Value)(s':Shared):Prop :=
 ∃v H',s'.os=s.os/\AllBare s'.gens/\Un (frs outer) [] H H' s.heap s'.heap/\HOk P w H' s'.heap/\aN v u/\Q v H'
noncomputable def CR(CX:CXT)(outer:List Env)(P:Program)(w:World)(H:Hp)(s:Shared)(Q:VK)(E:XK)(r:Result)(s':Shared):Prop :=
 match r with
 | .ok (.ret u)=>CE outer P w H s Q u s'
 | .ok _=>False
 | .error e=>CX outer H s E e s'
structure v7(P:Program)(w:World)(K:W.Frag)(mg:Str->Option Value)(base:Heap)(CX:CXT)(k:Nat)(f:Addr)(fd:FuncData)(ps:List Str)(sp:Sp):Prop where
 len:∀vs H Q E,sp vs H Q E->vs.length=ps.length
 run:∀(A:Around) (outer:List Env) (s:Shared) (H:Hp) (args:Args) (us:List Value) (vs:List V) (Q:VK) (E:XK),uE k A->yn P w K mg base A outer s H->BindsTo s fd args (ps.zip us)->aE vs us->sp vs H Q E ->
  codeAny (model P w) A (.call (.ref f) args) (CR CX outer P w H s Q E) s
theorem yn.make{P:Program}{w:World}{K:W.Frag}{mg:Str->Option Value}{base:Heap}{A:Around}{outer:List Env}{s:Shared}{H:Hp}(e:yn P w K mg base A outer s H)(C:Addr)(us:List Value)(kw:List (Str×Value)) :
  yn P w K mg base (A.under (.builtin "type.__call__" ⟨.ref C::us,kw⟩)) outer s H:=⟨by first|exact e.frames|(simpa[Around.under,Code.envs,Code.isFrame,pushEnvs]using e.frames),e.mod,e.bs,e.bsz,e.funs,e.frf,e.hok,e.bare⟩
section
variable {X:Cx} {pins:List (Addr×Obj)} {σ:St} {H:Hp} {s s':Shared}
theorem ur.env0(I:ur X pins σ H s):yn X.prog X.w X.K X.mg X.base X.A X.stack s H :=
 ⟨I.ok.frames,I.ok.mod,I.bs,Nat.le_trans I.ok.bsz I.sz,I.stack,I.stkFree,I.hok,I.bare⟩
theorem ur.after{Q:VK}{u:Value}(I:ur X pins σ H s)(h:CE X.stack X.prog X.w H s Q u s'):EP X pins σ Q u s':=by
 obtain⟨v,H',os,bare,un,hok,r,q⟩:=h;obtain⟨hh,g,d,t,os'⟩:=s';obtain rfl:os'=s.os:=os;exact⟨v,H',I.call (h':=hh) (g':=g) (d':=d) (t':=t) (ch:=[]) un hok bare (λb z=>absurd z (by simp)),r,q⟩
end
noncomputable def kT(sp:Sp)(dvs:List V)(E:XK)(t:TA):TE:=λσ H Q=>t σ H λvs H1=>sp (vs++dvs) H1 Q E
noncomputable def ft(C:Addr)(m:Str)(sp:Sp)(dvs:List V)(E:XK)(ta:TE)(t:TA):TE:=λσ H Q=>ta σ H λx H1=>∃a dx fs,x = .ref a/\H1 a=some (.ins C dx fs)/\fs.lookup m=none /\
 t σ H1 λvs H2=>sp (x::(vs++dvs)) H2 Q E
noncomputable def qK(C:Addr)(sp:Sp)(dvs:List V)(E:XK)(t:TA):TE:=λσ H Q=>t σ H λvs H1=>∀x dx,H1 x=none->H1 dx=none->dx≠x ->
 sp (.ref x::(vs++dvs)) (upd (upd H1 dx (.own x)) x (.ins C dx [])) (λv H2=>v = .non/\Q (.ref x) H2) E
noncomputable def cg(K:W.Frag)(fd:FuncData)(ps:List Str)(ds:List Value):Prop :=
 ∀(s:Shared) (us:List Value),K.In s.heap->(us++ds).length=ps.length->BindsTo s fd ⟨us,[]⟩ (ps.zip (us++ds))
theorem cg.all{K:W.Frag}{fd:FuncData}{ps:List Str}(h:∀us:List Value,us.length=ps.length->bindArgs fd ⟨us,[]⟩=pure (ps.zip us)):cg K fd ps []:=λs us _ hl=>by
 rw[List.append_nil]at hl ⊢;exact .of_eq (h us hl)
noncomputable def cp(CX:CXT)(X:Cx)(E:XK):Prop:=∀(pins:List (Addr×Obj)) (σ:St) (H:Hp) (s:Shared) (e:Value) (s':Shared),ur X pins σ H s->CX X.stack H s E e s'->X.xe e s'
section
variable {X:Cx} {CX:CXT} {k:Nat} {f C:Addr} {fd:FuncData} {ps:List Str} {sp:Sp} {dvs:List V} {ds:List Value} {E:XK} {x m:Str} {p pos apos:Pos} {e o:Expr} {es:List Expr} {ta:TE} {t:TA}
theorem j7{pins:List (Addr×Obj)}{σ:St}{H:Hp}{s:Shared}{Q:VK}{us:List Value}{vs:List V}(F:v7 X.prog X.w X.K X.mg X.base CX k f fd ps sp)(hr:uE k X.A)(hb:cg X.K fd ps ds)(hd:aE dvs ds)(hx:cp CX X E)
  (I:ur X pins σ H s) (r:aE vs us) (h:sp (vs++dvs) H Q E):wpAny (model X.prog X.w) X.A (call (.ref f) us) (EP X pins σ Q) X.xe s:=by
 have r2:aE (vs++dvs) (us++ds):=r.append hd;have hl:(us++ds).length=ps.length:=by rw[<- r2.length];exact F.len _ _ _ _ h
 refine wpAny_call (codeAny_mono (F.run X.A X.stack s H ⟨us,[]⟩ (us++ds) (vs++dvs) Q E hr I.env0 (hb s us I.kIn hl) r2 h) λr s' hq=>?_);cases r with
 | error e=>exact hx pins σ H s e s' I hq
 | ok fl =>
  cases fl with
  | ret u=>exact I.after hq
  | next=>exact False.elim hq
  | brk=>exact False.elim hq
  | cont=>exact False.elim hq
theorem ic(F:v7 X.prog X.w X.K X.mg X.base CX k f fd ps sp)(hr:uE k X.A)(hg:Gl X x)(hm:X.mg x=some (.ref f))(hk:W.keepIn X.K (.ref f)=true)(hb:cg X.K fd ps ds)(hd:aE dvs ds)(hx:cp CX X E)
  (ha:PA X (e::es) t) (hdb:(x == ("__debug__" : Str))=false:=by decide) (he:starEach (e::es) X.env=(false,eval e X.env)::starEach es X.env:=by rfl) (hpl:(backTo pos (starEach es X.env)).any (·.1)=false:=by rfl) :
  PE X (.Call (.Name x p) (e::es) [] pos) (kT sp dvs E t):=by
 intro pins s σ H Q I h;refine wpAny_Call_Name_kw (bU I hg hm ?_ hdb);refine W.callWith_K (h₀:=X.base) I.ok.mod.kin hk (thn (ha pos pins s σ H _ I h) λus s1 ⟨vs,H1,I1,r,q⟩=>⟨I1.kIn,?_⟩) he hpl;exact j7 F hr hb hd hx I1 r q
theorem k7{pl:Sem Bool}(he:PE X o ta)(c:zR X.K C)(hm:zQ X.K C m f)(F:v7 X.prog X.w X.K X.mg X.base CX k f fd ps sp)(hr:uE k X.A)(hb:cg X.K fd ps ds)(hd:aE dvs ds)(hx:cp CX X E)(ha:PA X (e::es) t)
  (hst:starEach (e::es) X.env=(false,eval e X.env)::starEach es X.env:=by rfl) (hpl:(backTo pos (starEach es X.env)).any (·.1)=false:=by rfl)
  (ht:eval (.Call (.Attribute o m apos) (e::es) [] pos) X.env=(do
   let ov <- eval o X.env
   standAt apos.atName
   let (f,first) <- holding [ov] (getMethod ov m pl)
   callWith pos f first (backTo pos (starEach (e::es) X.env)) (backToKw pos (keywordEach [] X.env))):=by rfl) :
  PE X (.Call (.Attribute o m apos) (e::es) [] pos) (ft C m sp dvs E ta t):=by
 intro pins s σ H Q I h;refine W.methodCall_KW (pl:=pl) (thn (he pins s σ H _ I h) λu s1 ⟨x,H1,I1,rx,a,dx,fs,ex,ea,l,q⟩=>?_) ht;subst ex;obtain rfl:u=Value.ref a:=rx;refine cW I1 ea c hm l ?_;refine W.callWith_K (first:=[.ref a]) (h₀:=X.base) I.ok.mod.kin hm.kp (thn (ha pos pins s1 σ H1 _ I1 q) λus s2 ⟨vs,H2,I2,r,q2⟩=>⟨I2.kIn,?_⟩) hst hpl
 exact j7 (us:=.ref a::us) (vs:=.ref a::vs) F hr hb hd hx I2 (.cons rfl r) q2
theorem jf{pl:Sem Bool}(he:PE X o ta)(c:zR X.K C)(hm:zQ X.K C m f)(F:v7 X.prog X.w X.K X.mg X.base CX k f fd ps sp)(hr:uE k X.A)(hb:cg X.K fd ps ds)(hd:aE dvs ds)(hx:cp CX X E)
  (ht:eval (.Call (.Attribute o m apos) [] [] pos) X.env=(do
   let ov <- eval o X.env
   standAt apos.atName
   let (f,first) <- holding [ov] (getMethod ov m pl)
   callWith pos f first (backTo pos (starEach [] X.env)) (backToKw pos (keywordEach [] X.env))):=by rfl) :
  PE X (.Call (.Attribute o m apos) [] [] pos) (ft C m sp dvs E ta g9):=by
 intro pins s σ H Q I h;refine W.methodCall_KW (pl:=pl) (thn (he pins s σ H _ I h) λu s1 ⟨x,H1,I1,rx,a,dx,fs,ex,ea,l,q⟩=>?_) ht;subst ex;obtain rfl:u=Value.ref a:=rx;refine cW I1 ea c hm l ?_;exact W.callWith_K0 (first:=[.ref a]) I1.kIn hm.kp (j7 (us:=[.ref a]) (vs:=[.ref a]) F hr hb hd hx I1 (.cons rfl .nil) q)
structure Mk(K:W.Frag)(C f:Addr):Prop where
 makes:W.makesIn K C=true
 init:W.findIn K (.ref C) "__init__" = some (some (.ref f))
 fn:W.isFn K (.ref f)=true
 kp:W.keepIn K (.ref C)=true
theorem nc{pins:List (Addr×Obj)}{σ:St}{H:Hp}{s:Shared}{Q:VK}{us:List Value}{vs:List V}(M:Mk X.K C f)(F:v7 X.prog X.w X.K X.mg X.base CX k f fd ps sp)(hr:uE (k+1) X.A)(hb:cg X.K fd ps ds)(hd:aE dvs ds)
  (hx:cp CX X E) (I:ur X pins σ H s) (r:aE vs us)
  (h:∀x dx,H x=none->H dx=none->dx≠x->sp (.ref x::(vs++dvs)) (upd (upd H dx (.own x)) x (.ins C dx [])) (λv H2=>v = .non/\Q (.ref x) H2) E) :
  wpAny (model X.prog X.w) X.A (call (.ref C) us) (EP X pins σ Q) X.xe s:=by
 have hq:=h (s.heap.objs.size+1) s.heap.objs.size (I.hok.fresh (Nat.le_succ _)) (I.hok.fresh (Nat.le_refl _)) (Nat.ne_of_lt (Nat.lt_succ_self _));have I2:=ur.made (C:=C) I;have r2:aE (V.ref (s.heap.objs.size+1)::(vs++dvs)) (Value.ref (s.heap.objs.size+1)::(us++ds)):=.cons rfl (r.append hd);have hl:(Value.ref (s.heap.objs.size+1)::us++ds).length=ps.length:=by
  have e:=r2.length;rw[F.len _ _ _ _ hq]at e;exact e.symm
 refine wpAny_call (ou (f:=f) I.kIn M.makes M.init (beq_iff_eq.mp M.fn) (codeAny_mono (F.run _ X.stack _ _ ⟨Value.ref (s.heap.objs.size+1)::us,[]⟩ (Value.ref (s.heap.objs.size+1)::(us++ds)) _ _ E (hr.make C us [])
  (I2.env0.make C us []) (hb _ (Value.ref (s.heap.objs.size+1)::us) I2.kIn hl) r2 hq) λr s' hq'=>?_))
 cases r with
 | error e=>exact hx pins σ _ _ e s' I2 hq'
 | ok fl =>
  cases fl with
  | ret u =>
   obtain⟨v,H',I3,rv,ev,q3⟩:=I2.after hq';subst ev;exact⟨rv,⟨V.ref (s.heap.objs.size+1),H',I3,rfl,q3⟩⟩
  | next=>exact False.elim hq'
  | brk=>exact False.elim hq'
  | cont=>exact False.elim hq'
theorem nF(M:Mk X.K C f)(F:v7 X.prog X.w X.K X.mg X.base CX k f fd ps sp)(hr:uE (k+1) X.A)(hg:Gl X x)(hm:X.mg x=some (.ref C))(hb:cg X.K fd ps ds)(hd:aE dvs ds)(hx:cp CX X E)
  (hdb:(x == ("__debug__" : Str))=false:=by decide):PE X (.Call (.Name x p) [] [] pos) (qK C sp dvs E g9):=by
 intro pins s σ H Q I h;refine wpAny_Call_Name_kw (bU I hg hm ?_ hdb);exact W.callWith_K0 I.kIn M.kp (nc (us:=[]) M F hr hb hd hx I .nil h)
end
structure uq(N P:List Str)(sc:Scope):Prop where
 kind:sc.kind = .function
 co:sc.isCoroutine=false
 gen:sc.isGenerator=false
 nd:N.Nodup
 pre:N.take P.length=P
 par:∀x∈P,sc.names.lookup x=some .local\/sc.names.lookup x=some .cell
 nofree:∀y∈sc.names,y.2≠.free
theorem gR{kindOf:Str->Option NameKind}{x:Str}:∀{binds:List (Str×Value)} {m:Str->Option Value},(∀v,(x,v)∉binds)->bindL kindOf binds m x=m x
 | [],_,_=>rfl
 | (n,v)::r,m,h=>by
  unfold bindL;rw[gR λw hw=>h w (List.mem_cons_of_mem _ hw)]
  split
  ·have:x≠n:=by rintro rfl;exact h v List.mem_cons_self
   simp[this]
  ·rfl
theorem gT{kindOf:Str->Option NameKind}{x:Str}:∀{binds:List (Str×Value)} {m:Str->Option Value},(∀v,(x,v)∉binds)->bindC kindOf binds m x=m x
 | [],_,_=>rfl
 | (n,v)::r,m,h=>by
  unfold bindC;rw[gT λw hw=>h w (List.mem_cons_of_mem _ hw)]
  split
  ·rfl
  ·have:x≠n:=by rintro rfl;exact h v List.mem_cons_self
   simp[this]
theorem gS{kindOf:Str->Option NameKind}{x:Str}{v:Value}:∀{P:List Str} {vs:List Value} {i:Nat} {m:Str->Option Value},P.Nodup->P[i]? = some x->vs[i]? = some v->kindOf x=some .local ->
  bindL kindOf (P.zip vs) m x=some v
 | [],_,_,_,_,h,_,_=>by simp at h
 | _::_,[],_,_,_,_,h,_=>by simp at h
 | p::P,w::vs,0,m,nd,h1,h2,hk=>by
  simp at h1 h2;subst h1;subst h2;show bindL kindOf ((p,w)::P.zip vs) m p=_;unfold bindL;rw[gR λv hv=>(List.nodup_cons.mp nd).1 (List.of_mem_zip hv).1,if_pos hk];simp
 | p::P,w::vs,i+1,m,nd,h1,h2,hk=>by
  show bindL kindOf ((p,w)::P.zip vs) m x=_;unfold bindL;exact gS (i:=i) (List.nodup_cons.mp nd).2 (by simpa using h1) (by simpa using h2) hk
theorem gU{kindOf:Str->Option NameKind}{x:Str}{v:Value}:∀{P:List Str} {vs:List Value} {i:Nat} {m:Str->Option Value},P.Nodup->P[i]? = some x->vs[i]? = some v->kindOf x≠some .local ->
  bindC kindOf (P.zip vs) m x=some v
 | [],_,_,_,_,h,_,_=>by simp at h
 | _::_,[],_,_,_,_,h,_=>by simp at h
 | p::P,w::vs,0,m,nd,h1,h2,hk=>by
  simp at h1 h2;subst h1;subst h2;show bindC kindOf ((p,w)::P.zip vs) m p=_;unfold bindC;rw[gT λv hv=>(List.nodup_cons.mp nd).1 (List.of_mem_zip hv).1,if_neg hk];simp
 | p::P,w::vs,i+1,m,nd,h1,h2,hk=>by
  show bindC kindOf ((p,w)::P.zip vs) m x=_;unfold bindC;exact gU (i:=i) (List.nodup_cons.mp nd).2 (by simpa using h1) (by simpa using h2) hk
noncomputable def cz(N:List Str)(vs:List V):St:=vs.map some++List.replicate (N.length - vs.length) none
noncomputable def ak(CX:CXT)(P:Program)(w:World)(K:W.Frag)(mg:Str->Option Value)(base:Heap)(N:List Str)(qual:Str)(scope:Scope)(f:Addr)(cd:Value)(A:Around)(outer:List Env)(s:Shared)(H:Hp)(E:XK):Cx where
 prog:=P
 w:=w
 K:=K
 mg:=mg
 base:=base
 A:=A.deeper (envOfC qual scope s.heap.objs.size f cd)
 N:=N
 s₀:=s
 H₀:=H
 env:=envOfC qual scope s.heap.objs.size f cd
 outer:=outer
 stack:=envOfC qual scope s.heap.objs.size f cd::outer
 ex:=[]
 calm:=true
 fn:=λ_=>true
 pn:=[]
 xe:=λe s'=>wpAny (model P w) (A.deeper (envOfC qual scope s.heap.objs.size f cd)) (leaving (envOfC qual scope s.heap.objs.size f cd) e) (λ_ s''=>CX outer H s E e s'') (λe' s''=>CX outer H s E e' s'') s'
theorem jJ{sc:Scope}{n:Nat}{x:Str}(h:sc.names.lookup x=some .cell):∃c,(cellsFrom n sc.names []).lookup x=some c:=by
 have q:=W.cellsFrom_some sc.names n [] (.inl h);exact Option.isSome_iff_exists.mp q
theorem mr{CX:CXT}{P:Program}{w:World}{K:W.Frag}{mg:Str->Option Value}{base:Heap}{N ps:List Str}{qual:Str}{scope:Scope}{f:Addr}{cd:Value}{A:Around}{outer:List Env}{s s1:Shared}{H:Hp}{E:XK}{us:List Value}{vs:List V}
  (S:uq N ps scope) (hd:A.handled=none) (e0:yn P w K mg base A outer s H) (hl:vs.length=ps.length) (r:aE vs us)
  (x:InCallC s s.heap.objs.size (bindL (envOfC qual scope s.heap.objs.size f cd).kindOf (ps.zip us) λ_=>none) (cellsFrom (s.heap.objs.size+1) scope.names []) (bindC (envOfC qual scope s.heap.objs.size f cd).kindOf (ps.zip us) λ_=>none) s1) :
  ur (ak CX P w K mg base N qual scope f cd A outer s H E) [] (cz N vs) H s1:=by
 have hpl:ps.length<=N.length:=by have:=congrArg List.length S.pre;rw[List.length_take]at this;omega
 obtain⟨h1,tk,rfl,hk⟩:=x.done;have noA:∀b:Addr,b∉(ak CX P w K mg base N qual scope f cd A outer s H E).ex:=λb z=>absurd (show b∈([]:List Addr) from z) (by simp);refine⟨⟨e0.mod,S.kind,rfl,rfl,Nat.le_refl _,λy z c h1 h2=>?_,λy hy=>?_,λy c _ h=>?_,λ_=>hd,Around.frames_deeper e0.frames,.inr ⟨rfl,rfl⟩,λb z=>absurd z (noA b),e0.bs,e0.bsz,λb _ _=>noA b,λb z=>absurd z (noA b),e0.funs,e0.frf⟩,
  rfl,e0.bare,Un.kept hk,⟨_,x.toInCall.ns,λi y v h1 h2 h3=>?_⟩,λy c h=>⟨_,x.cell y c h⟩,e0.hok.fresh (Nat.le_refl _),λy c h=>?_,λp hp=>absurd (show p∈([]:List (Addr×Obj)) from hp) (by simp),e0.hok.kept hk,?_⟩
 ·exact name_of_addr x.apart (PySem.mem_of_lookup h1) (PySem.mem_of_lookup h2)
 ·have hy:scope.names.lookup y=some .cell\/scope.names.lookup y=some .free:=hy
  rcases hy with hy|hy
  ·exact jJ hy
  ·exact absurd rfl (S.nofree _ (PySem.mem_of_lookup hy))
 ·exact Nat.le_of_lt (x.above y c (PySem.mem_of_lookup h))
 ·have hi:i<vs.length:=by
   unfold cz at h2
   by_cases hi:i<vs.length
   ·exact hi
   ·rw[List.getElem?_append_right (by simpa using hi)]at h2
    rw[List.getElem?_replicate]at h2
    split at h2 <;> cases h2
  have ha:vs[i]? = some v:=by
   unfold cz at h2;rw[List.getElem?_append_left (by simpa using hi),List.getElem?_map]at h2;cases e:vs[i]? with
   | none=>rw[e]at h2;cases h2
   | some a=>rw[e]at h2;cases h2;rfl
  obtain⟨u,hu,rv⟩:=r.get ha;have hp:ps[i]? = some y:=by
   rw[<- S.pre,List.getElem?_take_of_lt (by omega)];exact h1
  have ndP:ps.Nodup:=by rw[<- S.pre];exact S.nd.sublist (List.take_sublist _ _)
  refine⟨u,rv,?_⟩;rcases S.par y (List.mem_of_getElem? hp) with k|k
  ·exact .inl ⟨k,gS ndP hp hu k⟩
  ·obtain⟨c,e⟩:=jJ (n:=s.heap.objs.size+1) k
   refine .inr ⟨.inl k,c,e,?_⟩;have q:=x.cell y c e;rw[gU ndP hp hu (by show scope.names.lookup y≠_;rw[k];decide)]at q;exact q
 ·exact e0.hok.fresh (Nat.le_of_lt (x.above y c (PySem.mem_of_lookup h)))
 ·unfold cz
  show _=N.length;rw[List.length_append,List.length_map,List.length_replicate];omega
theorem lu{CX:CXT}{P:Program}{w:World}{K:W.Frag}{mg:Str->Option Value}{base:Heap}{k:Nat}{f:Addr}{name qual:Str}{params:Arguments}{body:List Stmt}{scope:Scope}{dV kV doc pm cdv ct oc:Value}{an od:Option Addr}
  {osl:Array (Option Value)} {N ps:List Str} {sp:Sp} (lk:K.lookup f=some ⟨oc,od,.func (W.fnOf name qual params body scope dV kV doc pm an cdv ct),osl⟩) (hcd:W.codeIn K cdv qual=true) (S:uq N ps scope)
  (len:∀vs H Q E,sp vs H Q E->vs.length=ps.length)
  (hbody:∀(A:Around) (outer:List Env) (s:Shared) (H:Hp) (vs:List V) (Q:VK) (E:XK),uE k (A.deeper (envOfC qual scope s.heap.objs.size f cdv))->sp vs H Q E ->
   ∃t,PSs (ak CX P w K mg base N qual scope f cdv A outer s H E) body t/\t { nx:=λ_ H'=>Q .non H',rt:=Q } (cz N vs) H) :
  v7 P w K mg base CX (k+1) f (W.fnOf name qual params body scope dV kV doc pm an cdv ct) ps sp:=by
 refine⟨len,λA outer s H args us vs Q E hr e0 hb r hsp=>?_⟩;have hl:=len _ _ _ _ hsp;have KX:K.In s.heap:=e0.mod.kin.keeps λb o e=>(e0.bs b o e).1;have lim:s.heap.NoLimit:=e0.mod.nolimit.keeps λb o e=>(e0.bs b o e).1;have hkind:∀y∈ps.zip us,scope.names.lookup y.1=some .local\/(scope.names.lookup y.1=some .cell/\((cellsFrom (s.heap.objs.size+1) scope.names []).lookup y.1).isSome=true):=λ⟨n,v⟩ hy=>by
  rcases S.par n (List.of_mem_zip hy).1 with q|q
  ·exact .inl q
  ·exact .inr ⟨q,W.cellsFrom_some _ _ _ (.inl q)⟩
 refine codeAny_call_function hr.depth (KX _ _ lk) rfl S.co S.gen rfl (W.codeRec_of KX hcd) (hb _ _ _ _ ?_);refine wpAny_newFunctionEnv_cells S.kind hkind λenv he s1 x=>?_;subst he;refine⟨lim.keeps x.toInCall.keep,codeAny_func ?_⟩;obtain⟨t,ht,hq⟩:=hbody A outer s H vs Q E (hr.deeper _) hsp;have I:ur (ak CX P w K mg base N qual scope f cdv A outer s H E) [] (cz N vs) H s1:=mr S hr.hd e0 hl r x;refine wpAny_mono (ht [] s1 (cz N vs) H _ I hq) (λfl s' hs=>?_) λe s' hs=>hs;have fin:∀{σ':St} {H':Hp} {v:V} {u:Value},ur (ak CX P w K mg base N qual scope f cdv A outer s H E) [] σ' H' s'->aN v u->Q v H'->CE outer P w H s Q u s' :=
  λ{σ' H' v u} J rv q=>⟨v,H',J.os,J.bare,J.base,J.hok,rv,q⟩
 cases fl with
 | ret u =>
  obtain⟨v,σ',H',J,rv,q⟩:=hs;exact fin J rv q
 | next =>
  obtain⟨σ',H',J,q⟩:=hs;exact fin (v:=V.non) (u:=Value.none) J rfl q
 | brk =>
  obtain⟨_,_,_,q⟩:=hs;exact False.elim q
 | cont =>
  obtain⟨_,_,_,q⟩:=hs;exact False.elim q
section
variable {X:Cx} {x:Str} {p pos:Pos} {e:Expr} {es:List Expr} {t:TA} {id T:String} {r:List V->Hp->VK->Prop}
noncomputable def tCB(r:List V->Hp->VK->Prop)(t:TA):TE:=λσ H Q=>t σ H λvs H1=>r vs H1 Q
theorem aq(hc:bY X (.builtin id) r)(hg:Gl X x)(hm:X.mg x=none)(hv:bootBuiltins x=some (.builtin id))(ha:PA X (e::es) t)(hn:x≠"__name__":=by decide)(hdb:(x == ("__debug__" : Str))=false:=by decide)
  (he:starEach (e::es) X.env=(false,eval e X.env)::starEach es X.env:=by rfl) (hpl:(backTo pos (starEach es X.env)).any (·.1)=false:=by rfl):PE X (.Call (.Name x p) (e::es) [] pos) (tCB r t):=by
 intro pins s σ H Q I h;refine wpAny_Call_Name_kw (fE I hg hm hv ?_ hn hdb);exact PyProof.Rows.callWith_builtin1 (thn (ha pos pins s σ H _ I h) λus s1 ⟨vs,H1,I1,r1,q1⟩=>hc pins s1 σ H1 vs us Q I1 r1 q1) he hpl
theorem cK(hc:bY X (.type T) r)(hg:Gl X x)(hm:X.mg x=none)(hv:bootBuiltins x=some (.type T))(ha:PA X (e::es) t)(hn:x≠"__name__":=by decide)(hdb:(x == ("__debug__" : Str))=false:=by decide)
  (he:starEach (e::es) X.env=(false,eval e X.env)::starEach es X.env:=by rfl) (hpl:(backTo pos (starEach es X.env)).any (·.1)=false:=by rfl):PE X (.Call (.Name x p) (e::es) [] pos) (tCB r t):=by
 intro pins s σ H Q I h;refine wpAny_Call_Name_kw (fE I hg hm hv ?_ hn hdb);exact PyProof.Rows.callWith_type1 (thn (ha pos pins s σ H _ I h) λus s1 ⟨vs,H1,I1,r1,q1⟩=>hc pins s1 σ H1 vs us Q I1 r1 q1) he hpl
end
end L2
namespace HT
open PySem PyProof.Rows
section
variable {prog:Program} {w:World} {A:Around} {E:Value->Shared->Prop} {s:Shared}
noncomputable def sIx(n d:Nat):Option Int->Nat
 | none=>d
 | some v=>if v<0 then (v+(n:Int)).toNat else min v.toNat n
theorem sIx_none(n d:Nat):sIx n d none=d:=rfl
theorem sIx_nat(n d k:Nat):sIx n d (some (k:Int))=min k n:=by
 show(if (k:Int)<0 then ((k:Int)+(n:Int)).toNat else min (k:Int).toNat n)=min k n
 rw[if_neg (by omega),Int.toNat_natCast]
end
end HT
namespace L2
open PySem PySem.Spec PyProof.Rows
noncomputable abbrev TO:=St->Hp->(Option Int->Hp->Prop)->Prop
noncomputable def PO(X:Cx)(e:Option Expr)(t:TO):Prop :=
 ∀(pins:List (Addr×Obj)) (s:Shared) (σ:St) (H:Hp) (Q:Option Int->Hp->Prop),ur X pins σ H s->t σ H Q ->
  wpAny (model X.prog X.w) X.A (evalPart e X.env) (λu s'=>∃o H',ur X pins σ H' s'/\IsPart u o/\Q o H') X.xe s
noncomputable def pC:TO:=λ_ H Q=>Q none H
noncomputable def sk(t:TE):TO:=λσ H Q=>t σ H λx H1=>∃i,x = .int i/\Q (some i) H1
section
variable {X:Cx} {e:Expr} {te:TE} {lo hi:Option Expr} {tl th:TO} {pos p2:Pos}
theorem dm:PO X none pC:=by
 intro pins s σ H Q I h;rw[evalPart_none];exact wpAny_pure ⟨none,H,I,.none,h⟩
theorem dl(h:PE X e te):PO X (some e) (sk te):=by
 intro pins s σ H Q I hw;rw[evalPart_some];refine thn (h pins s σ H _ I hw) λu s1 ⟨x,H1,I1,r1,q1⟩=>?_;obtain⟨i,rfl,q⟩:=q1;obtain⟨t,rfl⟩:=r1;exact⟨some i,H1,I1,.int i t,q⟩
noncomputable def SlR(X:Cx)(r:V->Option Int->Option Int->Hp->VK->Prop):Prop :=
 ∀(pins:List (Addr×Obj)) (s:Shared) (σ:St) (H:Hp) (x:V) (v vl vu:Value) (lo hi:Option Int) (sl:Addr) (Q:VK),ur X pins σ H s->aN x v->s.heap.IsSliceOf sl vl vu .none->IsPart vl lo->IsPart vu hi->r x lo hi H Q ->
  ∃T id,typeLookup (.type T) "__getitem__" = pure (some (.builtin id))/\s.TypeIs v T/\wpAny (model X.prog X.w) X.A (getItem v (.ref sl)) (EP X pins σ Q) X.xe s
noncomputable def tSl(r:V->Option Int->Option Int->Hp->VK->Prop)(te:TE)(tl th:TO):TE:=λσ H Q=>te σ H λx H1=>tl σ H1 λl H2=>th σ H2 λu H3=>r x l u H3 Q
theorem cB{r:V->Option Int->Option Int->Hp->VK->Prop}(hr:SlR X r)(he:PE X e te)(hl:PO X lo tl)(hu:PO X hi th):PE X (.Subscript e (.Slice lo hi none p2) pos) (tSl r te tl th):=by
 intro pins s σ H Q I h;refine Subscript_ (thn (he pins s σ H _ I h) λv s1 ⟨x,H1,I1,r1,q1⟩=>?_);refine wpAny_Slice (thn (hl pins s1 σ H1 _ I1 q1) λvl s2 ⟨l,H2,I2,pl,q2⟩=>thn (hu pins s2 σ H2 _ I2 q2) λvu s3 ⟨u,H3,I3,pu,q3⟩=>?_);rw[evalPart_none];refine wpAny_pure ?_;have I4:ur X pins σ H3 { s3 with heap:=s3.heap.push { cls:=.type "slice",data:=.fields #[vl,vu,.none] } }:=I3.kept (t':=s3.toks) λb ob q=>Heap.get?_push_of_some _ q;obtain⟨T,id,hT,ht,hg⟩:=hr pins { s3 with heap:=s3.heap.push { cls:=.type "slice",data:=.fields #[vl,vu,.none] } } σ H3 x v vl vu l u s3.heap.objs.size Q I4 r1 (Heap.IsSliceOf.new ..) pl pu q3;show wpAny (model X.prog X.w) X.A (subscriptTail e (.Slice lo hi none p2) v (.ref s3.heap.objs.size)) (EP X pins σ Q) X.xe { s3 with heap:=s3.heap.push { cls:=.type "slice",data:=.fields #[vl,vu,.none] } };exact tail_any (ops:=[.ref s3.heap.objs.size,v]) ht hT hg (by with_unfolding_all rfl)
noncomputable def dS(xs:List V)(lo hi:Option Int):List V:=(xs.drop (HT.sIx xs.length 0 lo)).take (HT.sIx xs.length xs.length hi - HT.sIx xs.length 0 lo)
theorem eV(xs:List V)(lo hi:Option Int):(dS xs lo hi).length<=xs.length:=by
 unfold dS;rw[List.length_take,List.length_drop];omega
end
noncomputable def ixN(n:Nat)(i:Int):Option Nat:=if 0<=i then (if i<n then some i.toNat else none) else if -(n:Int)<=i then some (i+n).toNat else none
noncomputable def atI{α:Type}(xs:List α)(i:Int):Option α:=(ixN xs.length i).bind λj=>xs[j]?
theorem p5{n:Nat}{i:Int}{j:Nat}(h:ixN n i=some j):seqIndex? i n=some j/\j<n/\-(n:Int)<=i/\i<n:=by
 unfold ixN at h
 by_cases h0:0<=i
 ·rw[if_pos h0]at h
  by_cases h1:i<n
  ·rw[if_pos h1]at h
   have e:i.toNat=j:=Option.some.inj h;exact⟨by rw[seqIndex_of h0 h1,e],by omega,by omega,h1⟩
  ·rw[if_neg h1]at h;cases h
 ·rw[if_neg h0]at h
  by_cases h1:-(n:Int)<=i
  ·rw[if_pos h1]at h
   have e:(i+n).toNat=j:=Option.some.inj h;exact⟨by rw[seqIndex_neg (by omega) h1,e],by omega,h1,by omega⟩
  ·rw[if_neg h1]at h;cases h
theorem lL{α:Type}{xs:List α}{i:Int}{v:α}(h:atI xs i=some v):∃j,seqIndex? i xs.length=some j/\xs[j]? = some v/\j<xs.length/\-(xs.length:Int)<=i/\i<xs.length:=by
 unfold atI at h;cases e:ixN xs.length i with
 | none=>rw[e]at h;cases h
 | some j =>
  rw[e]at h;obtain⟨h1,h2,h3,h4⟩:=p5 e;exact⟨j,h1,h,h2,h3,h4⟩
theorem fo{α:Type}{xs:List α}{j:Nat}{v:α}(h:xs[j]? = some v):atI xs (j:Int)=some v:=by
 have hj:j<xs.length:=(List.getElem?_eq_some_iff.mp h).1;have e:ixN xs.length (j:Int)=some j:=by
  unfold ixN;rw[if_pos (by omega),if_pos (by omega)];simp
 unfold atI;rw[e];exact h
noncomputable def qD(b:Expr):Prop:=∀o i,subscripted b false o i=operate [o,i] (getItem o i)
noncomputable def IxR(X:Cx)(r:R2):Prop :=
 ∀(value slice:Expr) (pins:List (Addr×Obj)) (s:Shared) (σ:St) (H:Hp) (x y:V) (v u:Value) (Q:VK),ur X pins σ H s->aN x v->aN y u->r x y H Q ->
  subscripted slice false v u=operate [v,u] (getItem v u)->wpAny (model X.prog X.w) X.A (subscriptTail value slice v u) (EP X pins σ Q) X.xe s
noncomputable def MtR(X:Cx)(id:String)(r:V->List V->Hp->VK->Prop):Prop :=
 ∀(pins:List (Addr×Obj)) (s:Shared) (σ:St) (H:Hp) (x:V) (xs:List V) (v:Value) (us:List Value) (Q:VK),ur X pins σ H s->aN x v->aE xs us->r x xs H Q ->
  wpAny (model X.prog X.w) X.A (call (.builtin id) (v::us)) (EP X pins σ Q) X.xe s
section
variable {X:Cx} {a b:Expr} {ta tb:TE} {pos:Pos}
theorem aC{r:R2}(hr:IxR X r)(ha:PE X a ta)(hb:PE X b tb)(hs:qD b):PE X (.Subscript a b pos) (tOp r ta tb):=by
 intro pins s σ H Q I h;exact Subscript_ (sg ha hb I h λv u s2 x y H2 I2 rx ry q=>hr a b pins s2 σ H2 x y v u Q I2 rx ry q (hs _ _))
inductive AA (K:W.Frag) (x y:V) (H:Hp) (Q:VK):Prop
 | mk (p:Addr) (xs:List V) (i:Int) (v:V) (e:x = .ref p) (f:y = .int i) (s:SqL K H p xs) (a:atI xs i=some v) (q:Q v H):AA K x y H Q
inductive As (K:W.Frag) (x y:V) (H:Hp) (Q:VK):Prop
 | mk (p:Addr) (xs:List V) (i:Int) (v:V) (e:x = .ref p) (f:y = .int i) (s:SqT K H p xs) (a:atI xs i=some v) (q:Q v H):As K x y H Q
theorem av:IxR X (AA X.K):=by
 intro value slice pins s σ H x y v u Q I rx ry h hs;obtain⟨p,xs,i,z,rfl,rfl,hq,he,q⟩:=h;cases rx;obtain⟨t,rfl⟩:=ry;obtain⟨its,r,pl,hz⟩:=I.list hq;obtain⟨j,h1,h2,h3,h4,h5⟩:=lL he;obtain⟨w,ew,rw'⟩:=r.get h2;have hl:=r.length;have hn:=io;have fin:EP X pins σ Q w s:=⟨z,H,I,rw',q⟩
 by_cases h0:0<=i
 ·have hj:i.toNat=j:=by
   rw[seqIndex_of h0 h5]at h1;exact Option.some.inj h1
  exact item_listR pl.isList h0 (by omega) (by rw[hj];simpa using ew) fin hs
 ·have hj:(i+(its.toArray.size:Int)).toNat=j:=by
   rw[seqIndex_neg (by omega) h4]at h1;rw[List.size_toArray,<- hl];exact Option.some.inj h1
  exact subscriptTail_builtinR (x:=w) pl.isList.typeIs slot_list_getitem.lookup
   (wpAny_getItem_list_neg (Q:=λr s'=>r=w/\EP X pins σ Q r s') pl.isList (by omega) (by rw[List.size_toArray] <;> omega) (by omega) (by rw[hj];simpa using ew) ⟨rfl,fin⟩) hs
theorem bB:IxR X (As X.K):=by
 intro value slice pins s σ H x y v u Q I rx ry h hs;obtain⟨p,xs,i,z,rfl,rfl,hq,he,q⟩:=h;cases rx;obtain⟨t,rfl⟩:=ry;obtain⟨its,r,pl,hz⟩:=I.tuple hq;obtain⟨j,h1,h2,h3,h4,h5⟩:=lL he;obtain⟨w,ew,rw'⟩:=r.get h2;have hl:=r.length;have hn:=io;have fin:EP X pins σ Q w s:=⟨z,H,I,rw',q⟩;exact subscriptTail_builtinR (x:=w) pl.typeIs slot_tuple_getitem.lookup
  (getItem_tuple (j:=j) (Q:=λr s'=>r=w/\EP X pins σ Q r s') pl (by omega) (by omega) (by rw[List.size_toArray,<- hl];exact h1) (by simpa using ew) ⟨rfl,fin⟩) hs
theorem hJ(lo hi:Option Int)(n:Nat):(sliceBounds lo hi none n).1=((HT.sIx n 0 lo:Nat):Int)/\(sliceBounds lo hi none n).2.1=((HT.sIx n n hi:Nat):Int)/\(sliceBounds lo hi none n).2.2=1:=by
 refine⟨?_,?_,rfl⟩
 ·cases lo with
  | none=>simp[sliceBounds,HT.sIx]
  | some i =>
   simp only[sliceBounds,HT.sIx,Option.getD_none,show(1:Int)>0 by decide,if_true]
   by_cases h:i<0
   ·simp only[h,if_true] <;> omega
   ·simp only[h,if_false] <;> omega
 ·cases hi with
  | none=>simp[sliceBounds,HT.sIx]
  | some i =>
   simp only[sliceBounds,HT.sIx,Option.getD_none,show(1:Int)>0 by decide,if_true]
   by_cases h:i<0
   ·simp only[h,if_true] <;> omega
   ·simp only[h,if_false] <;> omega
theorem fX(its:List Value)(lo hi:Option Int):slicePick its.toArray lo hi none=((its.drop (HT.sIx its.length 0 lo)).take (HT.sIx its.length its.length hi - HT.sIx its.length 0 lo)).toArray:=by
 obtain⟨h1,h2,h3⟩:=hJ lo hi its.toArray.size;unfold slicePick;rw[h1,h2,h3];simp only[sliceRange_one,pick_run,List.size_toArray] <;> rfl
noncomputable def tX(K:W.Frag):V->Option Int->Option Int->Hp->VK->Prop:=λx lo hi H Q=>∃a xs,x = .ref a/\SqL K H a xs/\∀p,H p=none->Q (.ref p) (upd H p (.lst (dS xs lo hi)))
theorem pI:SlR X (tX X.K):=by
 intro pins s σ H x v vl vu lo hi sl Q I rx hs pl pu h;obtain⟨a,xs,rfl,hx,q⟩:=h;cases rx;obtain⟨its,r,ht,hz⟩:=I.list hx;have hlen:=r.length;refine⟨"list",_,slot_list_getitem.lookup,ht.isList.typeIs,?_⟩;refine wpAny_getItem_list_slice ht.isList hs pl pu .none (by simp) ?_ (by rw[List.size_toArray] <;> omega);rw[fX,<- hlen];refine⟨.ref s.heap.objs.size,_,I.laid (t':=s.toks) (o:=.lst (dS xs lo hi)) (λb ob q=>Heap.get?_push_of_some _ q) (Nat.le_refl _) ?_,rfl,q _ (I.hok.fresh (Nat.le_refl _))⟩;exact⟨Nat.le_trans (eV xs lo hi) hz,_,0,(r.drop (HT.sIx xs.length 0 lo)).take (HT.sIx xs.length xs.length hi - HT.sIx xs.length 0 lo),Heap.get?_push_size _ rfl⟩
noncomputable def cS:V->Bool
 | .non=>true
 | .bl _=>true
 | .int _=>true
 | .str _=>true
 | _=>false
noncomputable def eqV:V->V->Bool
 | .non,.non=>true
 | .bl a,.bl b=>a == b
 | .bl a,.int b=>(if a then 1 else 0) == b
 | .int a,.bl b=>a == (if b then 1 else 0)
 | .int a,.int b=>a == b
 | .str a,.str b=>a == b
 | _,_=>false
theorem rZ{A:Around}{s:Shared}{y x:V}{u v:Value}(ry:aN y u)(rx:aN x v)(fy:cS y=true)(fx:cS x=true):SeqAt.EqAt A s u v (eqV y x):=by
 cases y with
 | non =>
  cases ry;cases x with
  | non=>cases rx;exact SeqAt.EqAt.same _
  | bl b=>cases rx;exact SeqAt.EqAt.none_bool b
  | int b=>obtain⟨t,rfl⟩:=rx;exact SeqAt.EqAt.none_int b t
  | str b=>obtain⟨t,rfl⟩:=rx;exact SeqAt.EqAt.none_str b t
  | _=>exact absurd (show false=true from fx) Bool.false_ne_true
 | bl a =>
  cases ry;cases x with
  | non=>cases rx;exact SeqAt.EqAt.bool_none a
  | bl b=>cases rx;exact SeqAt.EqAt.bool_bool a b
  | int b=>obtain⟨t,rfl⟩:=rx;exact SeqAt.EqAt.bool_int a b t
  | str b=>obtain⟨t,rfl⟩:=rx;exact SeqAt.EqAt.bool_str a b t
  | _=>exact absurd (show false=true from fx) Bool.false_ne_true
 | int a =>
  obtain⟨t',rfl⟩:=ry;cases x with
  | non=>cases rx;exact SeqAt.EqAt.int_none a t'
  | bl b=>cases rx;exact SeqAt.EqAt.int_bool a t' b
  | int b=>obtain⟨t,rfl⟩:=rx;exact SeqAt.EqAt.int_int a t' b t
  | str b=>obtain⟨t,rfl⟩:=rx;exact SeqAt.EqAt.int_str a t' b t
  | _=>exact absurd (show false=true from fx) Bool.false_ne_true
 | str a =>
  obtain⟨t',rfl⟩:=ry;cases x with
  | non=>cases rx;exact SeqAt.EqAt.str_none a t'
  | bl b=>cases rx;exact SeqAt.EqAt.str_bool a t' b
  | int b=>obtain⟨t,rfl⟩:=rx;exact SeqAt.EqAt.str_int a t' b t
  | str b=>obtain⟨t,rfl⟩:=rx;exact SeqAt.EqAt.str_str a t' b t
  | _=>exact absurd (show false=true from fx) Bool.false_ne_true
 | _=>exact absurd (show false=true from fy) Bool.false_ne_true
noncomputable def eqU(x:V)(u:Value):Bool:=match u with
 | .none=>eqV .non x
 | .bool b=>eqV (.bl b) x
 | .int i _=>eqV (.int i) x
 | .str z _=>eqV (.str z) x
 | _=>false
theorem o9{x y:V}{u:Value}(r:aN y u)(f:cS y=true):eqU x u=eqV y x:=by
 cases y with
 | non=>cases r;rfl
 | bl b=>cases r;rfl
 | int i=>obtain⟨t,rfl⟩:=r;rfl
 | str z=>obtain⟨t,rfl⟩:=r;rfl
 | _=>exact absurd (show false=true from f) Bool.false_ne_true
theorem dW{x:V}:∀{xs:List V} {us:List Value},aE xs us->xs.all cS=true->us.any (eqU x)=xs.any λy=>eqV y x
 | _,_,.nil,_=>rfl
 | y::xs,u::us,.cons r t,f=>by
  rw[List.all_cons,Bool.and_eq_true]at f;rw[List.any_cons,List.any_cons,o9 r f.1,dW t f.2]
theorem cC{A:Around}{s:Shared}{x:V}{v:Value}(rx:aN x v)(fx:cS x=true):∀{xs:List V} {us:List Value},aE xs us->xs.all cS=true->∀u∈us,SeqAt.EqAt A s u v (eqU x u)
 | _,_,.nil,_=>λu hu=>by cases hu
 | y::xs,u::us,.cons r t,f=>λu' hu=>by
  rw[List.all_cons,Bool.and_eq_true]at f;rcases List.mem_cons.mp hu with rfl|hu
  ·rw[o9 r f.1];exact rZ r rx f.1 fx
  ·exact cC rx fx t f.2 u' hu
noncomputable def inV(x:V)(xs:List V):Bool:=xs.any λy=>eqV y x
noncomputable def rIn(K:W.Frag)(neg:Bool):R2:=λx y H Q=>∃p xs,y = .ref p/\(SqL K H p xs\/SqT K H p xs)/\cS x=true/\xs.all cS=true/\Q (.bl (if neg then !inV x xs else inV x xs)) H
theorem eg:OpR X (compareOp .In) (rIn X.K false):=by
 intro pins s σ H x y v u Q I rx ry h;obtain⟨p,xs,rfl,hq,fx,fs,q⟩:=h;cases ry;rcases hq with hq|hq
 ·obtain⟨its,r,pl,hz⟩:=I.list hq
  refine SeqAt.in_listAt (eqU x) pl.isList (λw hw=>cC rx fx r fs w (by simpa using hw)) ⟨.bl _,H,I,rfl,?_⟩;rw[show its.toArray.any (eqU x)=its.any (eqU x) by simp,dW r fs];exact q
 ·obtain⟨its,r,pl,hz⟩:=I.tuple hq
  refine SeqAt.in_tupleAt (eqU x) pl (λw hw=>cC rx fx r fs w (by simpa using hw)) ⟨.bl _,H,I,rfl,?_⟩;rw[show its.toArray.any (eqU x)=its.any (eqU x) by simp,dW r fs];exact q
theorem dw:OpR X (compareOp .NotIn) (rIn X.K true):=by
 intro pins s σ H x y v u Q I rx ry h;obtain⟨p,xs,rfl,hq,fx,fs,q⟩:=h;cases ry;rcases hq with hq|hq
 ·obtain⟨its,r,pl,hz⟩:=I.list hq
  refine SeqAt.notIn_listAt (eqU x) pl.isList (λw hw=>cC rx fx r fs w (by simpa using hw)) ⟨.bl _,H,I,rfl,?_⟩;rw[show its.toArray.any (eqU x)=its.any (eqU x) by simp,dW r fs];exact q
 ·obtain⟨its,r,pl,hz⟩:=I.tuple hq
  refine SeqAt.notIn_tupleAt (eqU x) pl (λw hw=>cC rx fx r fs w (by simpa using hw)) ⟨.bl _,H,I,rfl,?_⟩;rw[show its.toArray.any (eqU x)=its.any (eqU x) by simp,dW r fs];exact q
inductive Ak (K:W.Frag) (xs:List V) (H:Hp) (Q:VK):Prop
 | mk (p:Addr) (ys:List V) (e:xs = [.ref p]) (s:SqL K H p ys\/SqT K H p ys) (q:Q (.int ys.length) H):Ak K xs H Q
theorem aG:bY X (.builtin "len") (Ak X.K):=by
 intro pins s σ H xs us Q I r h;obtain⟨p,ys,rfl,hq,q⟩:=h;obtain⟨u,rfl,rx⟩:=b3 r;cases rx;have hn:=io;rcases hq with hq|hq
 ·obtain⟨its,r',pl,hz⟩:=I.list hq
  have hlen:=r'.length;exact Calls.call_len_list pl.isList (by simp only[List.size_toArray] <;> omega) ⟨.int ys.length,H,I.tok _,⟨s.toks+1,by rw[List.size_toArray,hlen]⟩,q⟩
 ·obtain⟨its,r',pl,hz⟩:=I.tuple hq
  have hlen:=r'.length;exact len_tuple pl (by simp only[List.size_toArray] <;> omega) ⟨.int ys.length,H,I.tok _,⟨s.toks+1,by rw[List.size_toArray,hlen]⟩,q⟩
theorem dU:bY X (.builtin "len") (λxs H Q=>∃z,xs = [.str z]/\z.length<=sizeLine/\Q (.int z.length) H):=by
 intro pins s σ H xs us Q I r h;obtain⟨z,rfl,hz,q⟩:=h;obtain⟨u,rfl,t,rfl⟩:=b3 r;have hn:=io;exact len_str (by omega) ⟨.int z.length,H,I.tok _,⟨_,rfl⟩,q⟩
theorem iN:bY X (.type "list") (λxs H Q=>∃p ys,xs = [.ref p]/\(SqL X.K H p ys\/SqT X.K H p ys)/\∀l,H l=none->Q (.ref l) (upd H l (.lst ys))):=by
 intro pins s σ H xs us Q I r h;obtain⟨p,ys,rfl,hq,q⟩:=h;obtain⟨u,rfl,rx⟩:=b3 r;cases rx;have fin:∀(its:List Value),aE ys its->ys.length<=sizeLine->∀(h':Heap) (c':Nat),(∀b o',s.heap.get? b=some o'->h'.get? b=some o') ->
   h'.get? s.heap.objs.size=some { cls:=.type "list",dict:=none,data:=.seq its.toArray c',slots:=#[] }->EP X pins σ Q (.ref s.heap.objs.size) { s with heap:=h' }:=λits r' hz h' c' kp e =>
  ⟨.ref s.heap.objs.size,_,I.laid (t':=s.toks) kp (Nat.le_refl _) (show a8 X.prog X.w _ h' _ (.lst ys) from⟨hz,its,c',r',e⟩),rfl,q _ (I.hok.fresh (Nat.le_refl _))⟩
 rcases hq with hq|hq
 ·obtain⟨its,r',pl,hz⟩:=I.list hq
  have hlen:=r'.length;obtain⟨o,ho,hc,n,hd⟩:=pl.isList;exact call_list_seq p (.inl rfl) ho hc hd (λh' c' kp e=>fin its r' hz h' c' kp e) (by simp only[List.size_toArray] <;> omega)
 ·obtain⟨its,r',pl,hz⟩:=I.tuple hq
  have hlen:=r'.length;obtain⟨o,ho,hc,n,hd⟩:=pl;exact call_list_seq p (.inr rfl) ho hc hd (λh' c' kp e=>fin its r' hz h' c' kp e) (by simp only[List.size_toArray] <;> omega)
noncomputable def tyV(K:W.Frag)(T:String)(x:V)(H:Hp):Prop:=match x with
 | .str _=>T = "str"
 | .int _=>T = "int"
 | .ref p=>(T = "list"/\∃xs,SqL K H p xs)\/(T = "tuple"/\∃o,K.lookup p=some o/\o.cls = .type "tuple"/\o.dict=none) \/
   (T = "dict"/\((∃kvs,H p=some (.dK kvs))\/∃kvs,H p=some (.dT kvs)))\/(T = "set"/\∃S n,H p=some (.set S n))
 | _=>False
theorem mP{pins:List (Addr×Obj)}{σ:St}{H:Hp}{s:Shared}{T:String}{x:V}{v:Value}(I:ur X pins σ H s)(r:aN x v)(ty:tyV X.K T x H) :
  s.TypeIs v T/\∀a,v = .ref a->∃ob,s.heap.get? a=some ob/\ob.dict=none:=by
 cases x with
 | str z =>
  obtain⟨t,rfl⟩:=r;cases (show T = "str" from ty);exact⟨typeIs_str s z t,λ_ e=>nomatch e⟩
 | int i =>
  obtain⟨t,rfl⟩:=r;cases (show T = "int" from ty);exact⟨typeIs_int s i t,λ_ e=>nomatch e⟩
 | ref p =>
  cases r;rcases ty with⟨rfl,xs,hq⟩|⟨rfl,o,hk,hc,hd⟩|⟨rfl,hk⟩|⟨rfl,S,n,hk⟩
  ·obtain⟨its,_,pl,_⟩:=I.list hq
   refine⟨pl.isList.typeIs,λa e=>?_⟩;cases e;obtain⟨o,n,e,c,hd,_⟩:=pl;exact⟨o,e,hd⟩
  ·refine⟨⟨o,I.kIn p o hk,hc⟩,λa e=>?_⟩
   cases e;exact⟨o,I.kIn _ o hk,hd⟩
  ·have z:∃o,s.heap.get? p=some o/\o.ExactDict:=by
    rcases hk with⟨kvs,hk⟩|⟨kvs,hk⟩
    ·obtain⟨_,_,_,_,o,_,_,e,ex,_⟩:=I.hok p _ hk
     exact⟨o,e,ex⟩
    ·obtain⟨_,_,_,_,o,_,_,e,ex,_⟩:=I.hok p _ hk
     exact⟨o,e,ex⟩
   obtain⟨o,e,ex⟩:=z;refine⟨⟨o,e,ex.1⟩,λa e2=>?_⟩;cases e2;exact⟨o,e,ex.2.1⟩
  ·obtain⟨o,_,_,_,e,ex,_⟩:=I.hok p _ hk
   refine⟨⟨o,e,ex.1⟩,λa e2=>?_⟩;cases e2;exact⟨o,e,ex.2.1⟩
 | _=>exact False.elim ty
noncomputable def tU(K:W.Frag)(T:String)(r:V->List V->Hp->VK->Prop)(to:TE):TE:=λσ H Q=>to σ H λx H1=>tyV K T x H1/\r x [] H1 Q
noncomputable def tBM(K:W.Frag)(T:String)(r:V->List V->Hp->VK->Prop)(to:TE)(t:TA):TE:=λσ H Q=>to σ H λx H1=>tyV K T x H1/\t σ H1 λxs H2=>r x xs H2 Q
variable {o e:Expr} {es:List Expr} {to:TE} {t:TA} {name:Str} {apos cpos:Pos} {T id:String} {r:V->List V->Hp->VK->Prop}
theorem kj(pa:PlainAttrs T)(slot:Slot T name id)(hty:typeOf (.builtin id)=pure (.type "method_descriptor"))(hm:MtR X id r)(ho:PE X o to)
  (hbase:attributeBase o name X.env (eval o X.env)=eval o X.env:=by rfl) (hline:(apos.endLine == cpos.line)=true:=by rfl):PE X (.Call (.Attribute o name apos) [] [] cpos) (tU X.K T r to):=by
 intro pins s σ H Q I h;refine wpAny_Call_method0_late hbase hline (thn (ho pins s σ H _ I h) λv s1 ⟨x,H1,I1,r1,ty,q1⟩=>?_);obtain⟨h1,h2⟩:=mP I1 r1 ty;exact⟨T,id,pa,slot,hty,h1,h2,Calls.callWith_builtin rfl (PySem.evalArgs_none (hm pins s1 σ H1 x [] v [] Q I1 r1 .nil q1))⟩
theorem eK(pa:PlainAttrs T)(slot:Slot T name id)(hty:typeOf (.builtin id)=pure (.type "method_descriptor"))(hm:MtR X id r)(ho:PE X o to)(ha:PA X (e::es) t)
  (hbase:attributeBase o name X.env (eval o X.env)=eval o X.env:=by rfl)
  (hfew:((backTo cpos (starEach (e::es) X.env)).all (λx=>!x.1) && (backToKw cpos (keywordEach [] X.env)).all (λx=>x.1.isSome)
   && decide ((e::es).length+([]:List Keyword).length+(if ([]:List Keyword).isEmpty then 0 else 1)<30))=true:=by rfl)
  (hline:(apos.endLine == cpos.line)=true:=by rfl) (hs:starEach (e::es) X.env=(false,eval e X.env)::starEach es X.env:=by rfl) (hplain:(backTo cpos (starEach es X.env)).any (·.1)=false:=by rfl) :
  PE X (.Call (.Attribute o name apos) (e::es) [] cpos) (tBM X.K T r to t):=by
 intro pins s σ H Q I h;refine wpAny_Call_method_late hbase hfew hline rfl (thn (ho pins s σ H _ I h) λv s1 ⟨x,H1,I1,r1,ty,q1⟩=>?_);obtain⟨h1,h2⟩:=mP I1 r1 ty;refine⟨T,id,pa,slot,hty,h1,h2,?_⟩;have hA:=ha cpos pins s1 σ H1 _ I1 q1;rw[hs]at hA ⊢;refine Calls.callWith_builtin (by show(false || (backTo cpos (starEach es X.env)).any (·.1))=false;rw[hplain] <;> rfl) (Calls.evalArgs_plain ?_);exact thn hA λus s2 ⟨vs,H2,I2,r2,q2⟩=>hm pins s2 σ H2 x vs v us Q I2 r1 r2 q2
end
noncomputable def MtM(X:Cx)(id:String)(r:V->List V->Hp->VK->Prop):Prop :=
 ∀(pins:List (Addr×Obj)) (s:Shared) (σ:St) (H:Hp) (x:V) (xs:List V) (v:Value) (us:List Value) (Q:VK),ur X pins σ H s->aN x v->aE xs us->r x xs H Q ->
  wpAny (model X.prog X.w) X.A (call (.builtin id) (v::us)) (EP X pins σ Q) X.xe s
theorem aE.one:∀{x:V} {us:List Value},aE [x] us->∃u,us = [u]/\aN x u
 | _,_,.cons r .nil=>⟨_,rfl,r⟩
theorem aE.zero:∀{us:List Value},aE [] us->us = []
 | _,.nil=>rfl
theorem aE.dropLast{xs:List V}{us:List Value}(h:aE xs us):aE xs.dropLast us.dropLast:=by
 induction h with
 | nil=>exact .nil
 | cons r t ih =>
  cases t with
  | nil=>exact .nil
  | cons q t'=>exact .cons r ih
theorem aE.reverse{xs:List V}{us:List Value}(h:aE xs us):aE xs.reverse us.reverse:=by
 induction h with
 | nil=>exact .nil
 | cons r t ih=>rw[List.reverse_cons,List.reverse_cons];exact aE.append ih (.cons r .nil)
theorem kM{α:Type}(l:List α):l.eraseIdx (l.length - 1)=l.dropLast:=by
 induction l with
 | nil=>rfl
 | cons a r ih =>
  cases r with
  | nil=>rfl
  | cons b r =>
   have e:(a::b::r).length - 1=((b::r).length - 1)+1:=by
    have h1:(a::b::r).length=r.length+2:=rfl;have h2:(b::r).length=r.length+1:=rfl;omega
   rw[e,List.eraseIdx_cons_succ,ih]
   all_goals rfl
section
variable {X:Cx} {pins:List (Addr×Obj)} {σ:St} {H:Hp} {s:Shared} {l b:Addr} {xs ys zs:List V}
theorem ur.lset{its its':List Value}{n:Nat}{f:Array Value->Array Value}{t':Nat}(I:ur X pins σ H s)(hH:H l=some (.lst xs))
  (e:s.heap.get? l=some { cls:=.type "list",data:=.seq its.toArray n }) (hf:f its.toArray=its'.toArray) (hv:aE ys its') (hz:ys.length<=sizeLine) :
  ur X pins σ (upd H l (.lst ys)) { s with heap:=s.heap.update l (Obj.mapSeq f),toks:=t' }:=by
 have q:=PySem.IsL.update e f;rw[hf]at q;refine I.write (x:=l) (e:=l) (by rw[hH];exact trivial) (.inl rfl) (λb' u hb hu=>(Heap.get?_update_other s.heap (Obj.mapSeq f) (Ne.symm hb)).trans hu) ⟨_,q⟩ ?_;exact⟨hz,its',_,hv,q⟩
theorem ur.lnew{its:List Value}{t':Nat}(I:ur X pins σ H s)(hv:aE ys its)(hz:ys.length<=sizeLine) :
  ur X pins σ (upd H s.heap.objs.size (.lst ys)) { s with heap:=s.heap.push { cls:=.type "list",data:=.seq its.toArray },toks:=t' } :=
 I.laid (λ_ _ q=>Heap.get?_push_of_some _ q) (Nat.le_refl _) ⟨hz,its,0,hv,Heap.get?_push_size _ rfl⟩
theorem ur.fresh(I:ur X pins σ H s):H s.heap.objs.size=none:=I.hok.fresh (Nat.le_refl _)
theorem ur.lstM(I:ur X pins σ H s)(hH:H l=some (.lst xs)):xs.length<=sizeLine/\∃(its:List Value) (n:Nat),aE xs its/\xs.length=its.length/\s.heap.get? l=some { cls:=.type "list",data:=.seq its.toArray n }:=by
 obtain⟨z,its,n,r,e⟩:=I.hok l _ hH;exact⟨z,its,n,r,r.length,e⟩
end
section
variable {X:Cx}
noncomputable def kX:V->List V->Hp->VK->Prop:=λx vs H Q=>∃l xs y,x = .ref l/\vs = [y]/\H l=some (.lst xs)/\xs.length<sizeLine/\Q .non (upd H l (.lst (xs++[y])))
theorem bJ:MtM X "list.append" kX:=by
 intro pins s σ H x vs v us Q I rx rv h;obtain⟨l,xs,y,rfl,rfl,hH,hz,q⟩:=h;cases rx;obtain⟨u,rfl,ru⟩:=rv.one;obtain⟨z,its,n,r,hl,e⟩:=I.lstM hH;refine call_meets F.slot_list_append ⟨_,e,rfl⟩ F.entry_list_append (F.args_list_append_2 _ _) (PySem.list_append l its.toArray n u (by rw[List.size_toArray];omega)) ⟨e,?_⟩;refine⟨.non,_,I.lset (its':=its++[u]) hH e (by simp) (r.append (.cons ru .nil)) ?_,rfl,q⟩;rw[List.length_append,List.length_singleton];omega
noncomputable def tY:V->List V->Hp->VK->Prop:=λx vs H Q=>∃l xs y,x = .ref l/\vs = []/\H l=some (.lst xs)/\xs[xs.length - 1]? = some y/\Q y (upd H l (.lst xs.dropLast))
theorem rK:MtM X "list.pop" tY:=by
 intro pins s σ H x vs v us Q I rx rv h;obtain⟨l,xs,y,rfl,rfl,hH,hy,q⟩:=h;cases rx;have hus:=rv.zero;subst hus;obtain⟨z,its,n,r,hl,e⟩:=I.lstM hH;obtain⟨u,hu,ru⟩:=r.get hy;have hy':its.toArray[its.toArray.size - 1]? = some u:=by
  show its.toArray[its.length - 1]? = some u;rw[<- Array.getElem?_toList,<- hl];exact hu
 refine call_meets F.slot_list_pop ⟨_,e,rfl⟩ F.entry_list_pop (F.args_list_pop_1 _) (MeetsSeq.list_pop_last l its.toArray n u hy' (by rw[List.size_toArray];omega)) ⟨e,?_⟩;refine⟨y,_,I.lset (its':=its.dropLast) hH e ?_ r.dropLast ?_,ru,q⟩
 ·show its.toArray.eraseIdxIfInBounds (its.toArray.size - 1)=its.dropLast.toArray
  rw[List.size_toArray,List.eraseIdxIfInBounds_toArray,kM]
 ·rw[List.length_dropLast]
  omega
noncomputable def nq:V->List V->Hp->VK->Prop:=λx vs H Q=>∃l xs,x = .ref l/\vs = []/\H l=some (.lst xs)/\Q .non (upd H l (.lst xs.reverse))
theorem kx:MtM X "list.reverse" nq:=by
 intro pins s σ H x vs v us Q I rx rv h;obtain⟨l,xs,rfl,rfl,hH,q⟩:=h;cases rx;have hus:=rv.zero;subst hus;obtain⟨z,its,n,r,hl,e⟩:=I.lstM hH;refine call_meets F.slot_list_reverse ⟨_,e,rfl⟩ F.entry_list_reverse (F.args_list_reverse_1 _) (AutoSeq1.list_reverse_list_0 l its.toArray n (by rw[List.size_toArray];omega)) ⟨e,?_⟩;refine⟨.non,_,I.lset (its':=its.reverse) hH e (by simp) r.reverse ?_,rfl,q⟩;rw[List.length_reverse];omega
noncomputable def tZ:R2:=λx y H Q=>∃l b xs zs,x = .ref l/\y = .ref b/\H l=some (.lst xs)/\H b=some (.lst zs)/\xs.length+zs.length<=sizeLine/\∀p,H p=none->Q (.ref p) (upd H p (.lst (xs++zs)))
theorem rH:OpR X (binaryOp .Add) tZ:=by
 intro pins s σ H x y v u Q I rx ry h;obtain⟨l,b,xs,zs,rfl,rfl,hH,hB,hz,q⟩:=h;cases rx;cases ry;obtain⟨z,its,n,r,hl,e⟩:=I.lstM hH;obtain⟨z2,its2,n2,r2,hl2,e2⟩:=I.lstM hB;refine PySem.P.add_list e e2 ?_ (by rw[List.size_toArray,List.size_toArray];omega);have ea:its.toArray++its2.toArray=(its++its2).toArray:=by simp
 rw[ea];exact⟨.ref _,_,I.lnew (t':=s.toks) (r.append r2) (by rw[List.length_append];omega),rfl,q _ I.fresh⟩
end
section
variable {prog:Program} {w:World} {A:Around} {E:Value->Shared->Prop} {s:Shared}
set_option maxRecDepth 100000 in
end
end L2
namespace Att
open PySem PySem.W PySem.Calls PyProof.Rows
theorem eX{P:Params}{h:Heap}:∀(ns:List Int) (vs:List Value),WellAll P h vs (ns.map WData.int)->IntsAre vs ns:=by
 intro ns
 induction ns with
 | nil =>
  intro vs w;rw[List.map_nil]at w;cases w;exact .nil
 | cons n ns ih =>
  intro vs w;rw[List.map_cons]at w;cases w with
  | cons a b =>
   cases a;exact .cons _ _ (ih _ b)
theorem lW{l:OpenLaw}{n:Nat}(hn:l.most=some n){P:Params}{h:Heap}{args:List WData}{vals:List Value}
  (hpre:l.row.toRowW.claim.pre args=true) (hwl:WellAll P h vals args) :
  ∃a vs ns,vals = [Value.ref a]/\args = [WData.list (ns.map WData.int)]/\h.get? a=some { cls:=.type "list",data:=.seq vs.toArray }/\IntsAre vs ns/\ns.length<=n:=by
 have hsh:WShape.hasAll [] args [.list .int]=true:=(pre_splitW hpre).1;have hc:l.pre.holds [] { args:=args }=true:=(pre_splitW hpre).2;obtain⟨d,r,rfl,h1,h2⟩:=hasAllW_cons hsh;obtain rfl:=hasAllW_nil h2;obtain⟨xs,rfl,h3⟩:=hasW_list h1;obtain⟨ns,rfl⟩:=items_int h3;have hlen:ns.length<=n:=by
  unfold OpenLaw.pre at hc;have h4:(WTm.not (.lt (.lit (.int (n:Int))) (.len (.arg 0)))).holds [] { args:=[.list (ns.map .int)] }=true:=by
   have h4:=(holds_andW hc).1;rw[hn]at h4;exact h4
  have h5:=condW_of h4 (w_not (w_lt w_lit (w_len_list (w_arg rfl))));rw[List.length_map]at h5;refine Nat.le_of_not_lt λq=>?_;have q':(n:Int)<((ns.length:Nat):Int):=by omega
  first
   | (rw[decide_eq_true q']at h5;exact absurd h5 (by decide))
   | (simp at h5;omega)
 cases hwl with
 | cons w1 w2 =>
  cases w2;cases w1 with
  | list ho hall=>exact⟨_,_,ns,rfl,rfl,ho,eX ns _ hall,hlen⟩
theorem l8(l:OpenLaw)(args:List WData):l.row.toRowW.claim.post args (.bool true) args=true :=
 postW_of (r:=l.row.toRowW) (X:=(true == true))
  (show WShape.has [] (.bool true) .bool=true by first|rfl|decide|simp[WShape.has,WShape.arms,WShape.armsAll])
  (show(WTm.eq .res (.lit (.bool true))).value [] { args:=args,res:=some (.bool true),after:=args }=some (.bool (true == true)) from w_eq_bool (w_res rfl) w_lit) rfl
theorem attach_call{l:OpenLaw}{n:Nat}{q:Program}{loose:List Str}{XP:(Str->Option Value)->Heap->Prop}{YP:World->Heap->Prop}{d:DefRec}
  (hn:l.most=some n) (hdf:d.params.defaults = [])
  (call:∀(w:World) (s₀ s1:Shared) (mg mb:Str->Option Value) (fa:Addr) (o:Obj) (pm cd doc:Value) (a:Addr) (vs:List Value) (ns:List Int),
   Ground q loose [] XP w s₀ mg mb s1.heap->YP w s1.heap ->
   s1.heap.get? fa=some o->o.data = .func (docDef d.name d.params d.body d.scope pm cd doc)->s1.heap.CodeRec cd d.name->mg d.name=some (.ref fa) ->
   s1.heap.get? a=some { cls:=.type "list",data:=.seq vs.toArray }->IntsAre vs ns->ns.length<=n->s1.gens = #[] ->
   codeAny (model l.prog w) callerA (.call (.ref fa) ⟨[.ref a],[]⟩) (λr s'=>r = .ok (.ret (.bool true))/\OldK s1.heap s'.heap/\s'.os=s1.os/\AllBare s'.gens) s1) :
  WalkO q loose XP YP l.row.toRowW d [] (λf vs=>PySem.call f vs):=by
 intro w s₀ s1 mg mb G Y fa o pm cd doc dV kV ho hd hcd hD hmg hg args vals as hpre hlay hrd hwl hlo;obtain rfl:dV = .none:=Dflts.none hD hdf;obtain rfl:kV = .none:=Dflts.noKw hD;obtain⟨a,vs,ns,rfl,rfl,hobj,hints,hlen⟩:=lW hn hpre hwl;refine enter_call (codeAny_mono (call w s₀ s1 mg mb fa o pm cd doc a vs ns G Y ho (fd_plain hd) hcd hmg hobj hints hlen hg) λr s' hq=>?_);obtain⟨rfl,h2,h3,h4⟩:=hq;exact⟨.inl ⟨.bool true,.bool true,[],rfl,λ_=>rfl,.bool true,l8 l _,λ_=>⟨List.Pairwise.nil,λ_ hm=>(nomatch hm)⟩⟩,h2,h3,h4⟩
end Att
namespace L2
open PySem PySem.Spec PyProof.Rows
theorem gx:∀{vs:List Value} {ns:List Int},IntsAre vs ns->aE (ns.map V.int) vs
 | _,_,.nil=>.nil
 | _,_,.cons n t h=>.cons ⟨t,rfl⟩ (gx h)
noncomputable def tu(H:Hp):Prop:=∀b,H b=none\/∃o xs,H b=some (.frz o (.lst xs))
theorem oB{P:Program}{w:World}{K:W.Frag}{mg mb:Str->Option Value}{CX:CXT}{k:Nat}{fa a:Addr}{fd:FuncData}{x:Str}{sp:Sp}{s1:Shared}{vs:List Value}{ns:List Int}
  (KX:K.In s1.heap) (hns:s1.heap.Ns mainGlobals mg) (hb:s1.heap.Ns builtinsNs mb) (hbb:∀x:Str,x≠"__name__"->mb x=bootBuiltins x) (hlim:s1.heap.NoLimit) (hg:s1.gens = #[])
  (ha:s1.heap.get? a=some { cls:=.type "list",data:=.seq vs.toArray }) (hi:IntsAre vs ns) (hl:ns.length<=sizeLine) (hr:uE k callerA)
  (F:∀base:Heap,K.In base->base.Ns mainGlobals mg->v7 P w K mg base CX k fa fd [x] sp) (hbind:∀(s:Shared) (u:Value),BindsTo s fd ⟨[u],[]⟩ [(x,u)])
  (hsp:∀H:Hp,tu H->SqL K H a (ns.map V.int)->sp [.ref a] H (λv _=>v = .bl true) λ_ _ _=>False)
  (hCX:∀H e s',CX [] H s1 (λ_ _ _=>False) e s'->False) :
  codeAny (model P w) callerA (.call (.ref fa) ⟨[.ref a],[]⟩) (λr s'=>r = .ok (.ret (.bool true))/\OldK s1.heap s'.heap/\s'.os=s1.os/\AllBare s'.gens) s1:=by
 have rv:=gx hi;have lenV:=hi.length;have core:∀H:Hp,tu H->SqL K H a (ns.map V.int)->HOk P w H s1.heap->(∀b,H b≠none->b=a)->(H a≠none->K.lookup a=none) ->
   codeAny (model P w) callerA (.call (.ref fa) ⟨[.ref a],[]⟩) (λr s'=>r = .ok (.ret (.bool true))/\OldK s1.heap s'.heap/\s'.os=s1.os/\AllBare s'.gens) s1:=by
  intro H hO hS hok hA hK;have base_of:∀{b:Addr} {o:Obj},s1.heap.get? b=some o->H b=none->(ir s1.heap H).get? b=some o:=λe n=>oF e n;have noA:∀{b:Addr} {o:Obj} {es:Array DictEntry} {ep:Nat},s1.heap.get? b=some o->o.data = .dict es ep->H b=none:=λ{b o es ep} e d=>by
   cases q:H b with
   | none=>rfl
   | some u =>
    have e':b=a:=hA b (by rw[q];simp);subst e';rw[ha]at e;cases e;have d':Data.seq vs.toArray _=Data.dict es ep:=d;cases d'
  have nsK:∀{b:Addr} {m:Str->Option Value},s1.heap.Ns b m->(ir s1.heap H).Ns b m:=λ{b m} ⟨o,es,ep,e,d,r⟩=>⟨o,es,ep,base_of e (noA e d),d,r⟩;have hKb:K.In (ir s1.heap H):=λb o e=>base_of (KX b o e) (by
   cases q:H b with
   | none=>rfl
   | some u =>
    have e':b=a:=hA b (by rw[q];simp);subst e';rw[hK (by rw[q];simp)]at e;cases e)
  have hM:Mod K mg (ir s1.heap H):=⟨hKb,nsK hns,⟨mb,nsK hb,hbb⟩,let ⟨mc,h1,h2⟩:=hlim;⟨mc,nsK h1,h2⟩⟩;have e0:yn P w K mg (ir s1.heap H) callerA [] s1 H:=⟨rfl,hM,λb o e=>pR e,Nat.le_of_eq (ms _ _),trivial,λb hb=>absurd (show b∈([]:List Addr) from hb) (by simp),hok,.of_eq hg⟩;refine codeAny_mono ((F _ hKb (nsK hns)).run callerA [] s1 H ⟨[.ref a],[]⟩ [.ref a] [.ref a] _ _ hr e0 (hbind s1 (.ref a)) (.cons rfl .nil) (hsp H hO hS)) λr s' h=>?_;cases r with
  | error e=>exact(hCX H e s' h).elim
  | ok fl =>
   cases fl with
   | next=>exact False.elim h
   | brk=>exact False.elim h
   | cont=>exact False.elim h
   | ret u =>
    obtain⟨v,H',os,bare,un,hok',r',q⟩:=h;have q':v = .bl true:=q;subst q';obtain rfl:u=Value.bool true:=r';refine⟨rfl,OldK.of_keep λb o e=>?_,os,bare⟩;cases q:H b with
    | none=>exact un.keep b o e q (by intro z;exact absurd (show b∈([]:List Addr) from z) (by simp)) (by simp)
    | some u =>
     rcases hO b with z|⟨ob,xs,z⟩
     ·rw[q]at z;cases z
     ·have z2:=un.frzs b ob _ z
      obtain⟨e1,_⟩:=hok b _ z;obtain⟨e2,_⟩:=hok' b _ z2;rw[e]at e1;cases e1;exact e2
 cases hk:K.lookup a with
 | some o =>
  have e:=KX a o hk;rw[ha]at e;cases e;refine core (λ_=>none) (λ_=>.inl rfl) (.inr ⟨_,vs.toArray,_,hk,rfl,rfl,rfl,by rw[List.size_toArray,lenV];exact hl,by simpa using rv⟩) (λb u z=>by have z':(none:Option HO)=some u:=z;cases z') (λb z=>absurd rfl z) λz=>absurd rfl z
 | none =>
  refine core (λb=>if b=a then some (.frz { cls:=.type "list",data:=.seq vs.toArray } (.lst (ns.map V.int))) else none) (λb=>?_) (.inl (.inr ⟨{ cls:=.type "list",data:=.seq vs.toArray },if_pos rfl⟩)) (λb u z=>?_) (λb z=>?_) λ_=>hk
  ·by_cases hb:b=a
   ·exact .inr ⟨_,_,if_pos hb⟩
   ·exact .inl (if_neg hb)
  ·by_cases hb:b=a
   ·have z':=(if_pos hb).symm.trans z
    cases z';subst hb;exact⟨ha,by rw[List.length_map];exact hl,vs,_,rv,ha⟩
   ·have z':=(if_neg hb).symm.trans z
    cases z'
  ·by_cases hb:b=a
   ·exact hb
   ·exact absurd (if_neg hb) z
noncomputable def aR(s:Stmt):Arguments:=match s with
 | .FunctionDef _ a _ _ _ _ _ _ _ _=>a
 | _=>{ posonlyargs:=[],args:=[],vararg:=none,kwonlyargs:=[],kw_defaults:=[],kwarg:=none,defaults:=[] }
noncomputable def aF(s:Stmt):List Stmt:=match s with
 | .FunctionDef _ _ b _ _ _ _ _ _ _=>b
 | _=>[]
noncomputable def ag(s:Stmt):Scope:=match s with
 | .FunctionDef _ _ _ _ _ _ sc _ _ _=>sc
 | _=>{ kind:=.function,names:=[],isGenerator:=false,isCoroutine:=false }
noncomputable abbrev CX0:CXT:=λ_ _ _ _ _ _=>False
noncomputable abbrev E0:XK:=λ_ _ _=>False
theorem sC{X:Cx}:cp CX0 X E0:=λ_ _ _ _ _ _ _ h=>h.elim
theorem qR{A:Around}{k:Nat}(hr:uE k A):A.units+1<cLine:=Nat.lt_of_le_of_lt (Nat.add_le_add_left (by decide:1<=64) _) hr.units
theorem be{n:Nat}(h:n<=1000):n<sizeLine:=Nat.lt_of_le_of_lt h (by decide)
section
variable {X:Cx}
theorem pv(i:Nat){x:Str}{pos:Pos}(hN:X.N[i]? = some x:=by rfl)(hv:Vis X.env.scope x:=by first|exact Or.inl rfl|exact Or.inr (Or.inl rfl)|exact Or.inr (Or.inr rfl))(hd:(x == ("__debug__" : Str))=false:=by decide)
  (hcd:(x == ("__classdict__" : Str))=false:=by decide):PE X (.Name x pos) (xm i):=rA hN hv hd hcd
end
theorem dF{A B:Prop}(h:B):if false=true then A else B:=by
 rw[if_neg Bool.false_ne_true];exact h
theorem dD{A B:Prop}(h:A):if true=true then A else B:=by
 rw[if_pos rfl];exact h
noncomputable def Same(H H':Hp):Prop:=∀b o,H b=some o->H' b=some o
theorem Same.refl(H:Hp):Same H H:=λ_ _ h=>h
theorem Same.trans{H H1 H2:Hp}(a:Same H H1)(b:Same H1 H2):Same H H2:=λc o h=>b c o (a c o h)
theorem Same.free{H H':Hp}(e:Same H H'){l:Addr}(h:H' l=Option.none):H l=Option.none:=by
 cases q:H l with
 | none=>rfl
 | some o =>
  rw[e l o q]at h;cases h
theorem Same.seq{K:W.Frag}{H H':Hp}{a:Addr}{xs:List V}(e:Same H H')(h:SqL K H a xs):SqL K H' a xs:=by
 rcases h with(h|⟨o,h⟩)|h
 ·exact .inl (.inl (e _ _ h))
 ·exact .inl (.inr ⟨o,e _ _ h⟩)
 ·exact .inr h
end L2
end
section
set_option Elab.async false
set_option linter.all false
set_option maxRecDepth 100000
set_option maxHeartbeats 4000000
namespace Mth
theorem oS{a b:Int}(ha:0<=a)(hb:0<b):Int.gcd b (a % b)=Int.gcd a b:=by
 obtain⟨m,rfl⟩:=Int.eq_ofNat_of_zero_le ha;obtain⟨n,rfl⟩:=Int.eq_ofNat_of_zero_le (Int.le_of_lt hb);rw[<- Int.natCast_emod];show Nat.gcd (n:Int).natAbs ((m % n:Nat):Int).natAbs=Nat.gcd (m:Int).natAbs (n:Int).natAbs;simp only[Int.natAbs_natCast];rw[Nat.gcd_comm m n,Nat.gcd_comm n (m % n)];exact(Nat.gcd_rec n m).symm
theorem ls(a b:Int):Int.gcd (if a<0 then -a else a) b=Int.gcd a b:=by
 split
 ·exact Int.neg_gcd
 ·rfl
theorem oU(a b:Int):Int.gcd a (if b<0 then -b else b)=Int.gcd a b:=by
 rw[Int.gcd_comm,ls,Int.gcd_comm]
theorem gcd_zero{a:Int}(ha:0<=a):(Int.gcd a 0:Int)=a:=by
 rw[Int.gcd_zero];omega
structure AE(t b:Int):Prop where
 pos:1<=b
 one:Int.gcd t b=1
end Mth
namespace L2
open PySem PySem.Spec PyProof.Rows
noncomputable abbrev cQ(i:Int):Nat:=Builtin.Int.intBits i
theorem qw{i:Int}{n:Nat}(h:i.natAbs<2^n):cQ i<=n:=intBits_le h
theorem qx{i:Int}{n:Nat}(h:cQ i<=n):i.natAbs<2^n:=by
 unfold cQ Builtin.Int.intBits at h
 by_cases h0:i=0
 ·subst h0
  exact Nat.pos_of_ne_zero (by simp)
 ·rw[if_neg (by simpa using h0)]at h
  have h1:i.natAbs≠0:=by omega
  exact(Nat.log2_lt h1).mp (by omega)
theorem qy{i:Int}{m n:Nat}(h:cQ i<=m)(hm:m<=n):cQ i<=n:=Nat.le_trans h hm
section
variable {X:Cx} {pos:Pos}
noncomputable def CM(i j:Int):Prop:=IntMulOk i j
theorem CM.l{i j:Int}(h:-(2^64)<i/\i<2^64):CM i j:=qG.ok (.inl h)
theorem CM.r{i j:Int}(h:-(2^64)<j/\j<2^64):CM i j:=qG.ok (.inr h)
theorem bT:OpR X (binaryOp .Mult) (rI CM λi j=>.int (i*j)):=opI λ_ _ _ _ _ _ _ hc q=>mul_int q hc
noncomputable def CD(_ j:Int):Prop:=0<j/\cQ j<=8000
theorem im{j:Int}{n:Nat}(hj:j≠0)(h:cQ j<=n)(hn:n<=9000):j.natAbs.log2<9000:=by
 have h1:j.natAbs≠0:=by omega
 have h2:=(Nat.log2_lt h1).mpr (qx h);omega
theorem nX:OpR X (binaryOp .FloorDiv) (rI CD λi j=>.int (i / j)):=opI λi j _ _ _ _ _ hc q=>by
 have h1:(0:Int)<j:=hc.1;exact floordiv_int (by omega) (by rw[Int.fdiv_eq_ediv_of_nonneg i (by omega)];exact q) (.inl (PyProof.noPylong_of_log2 (im (by omega) hc.2 (by decide))))
theorem mj:MtR X "int.bit_length" (λx xs H Q=>∃i,x = .int i/\xs = []/\Q (.int ((cQ i:Nat):Int)) H):=by
 intro pins s σ H x xs v us Q I rx rs h;obtain⟨i,rfl,rfl,q⟩:=h;obtain⟨t,rfl⟩:=rx;cases rs;exact call_int_bit_length ⟨.int _,H,I.tok _,⟨_,rfl⟩,q⟩
end
theorem pp:bootBuiltins "int" = some (.type "int"):=by decide +kernel
theorem qu:bootBuiltins "bool" = some (.type "bool"):=by decide +kernel
theorem fV:bootBuiltins "str" = some (.type "str"):=by decide +kernel
theorem jM:bootBuiltins "tuple" = some (.type "tuple"):=by decide +kernel
theorem lH:bootBuiltins "list" = some (.type "list"):=by decide +kernel
theorem aB:bootBuiltins "isinstance" = some (.builtin "isinstance"):=by decide +kernel
theorem pq:bootBuiltins "abs" = some (.builtin "abs"):=by decide +kernel
theorem bc:bootBuiltins "len" = some (.builtin "len"):=by decide +kernel
theorem dq{X:Cx}{x:Str}{T:String}{pos:Pos}(hm:X.mg x=none)(hv:bootBuiltins x=some (.type T))(hg:Gl X x:=by rfl)(hn:x≠"__name__":=by decide)(hd:(x == ("__debug__" : Str))=false:=by decide) :
  PE X (.Name x pos) (tC (.ty T)):=pO hg hm hv rfl hn hd
inductive Kn (H:Hp):V->String->Prop where
 | non:Kn H .non "NoneType"
 | bl (b:Bool):Kn H (.bl b) "bool"
 | int (i:Int):Kn H (.int i) "int"
 | str (x:Str):Kn H (.str x) "str"
 | lst {a:Addr} {xs:List V} (e:H a=some (.lst xs)):Kn H (.ref a) "list"
 | tup {a:Addr} {xs:List V} (e:H a=some (.tup xs)):Kn H (.ref a) "tuple"
 | dict {a:Addr} {kvs:List (Key×V)} (e:H a=some (.dK kvs)):Kn H (.ref a) "dict"
theorem Kn.ty{K:W.Frag}{H:Hp}{x:V}{t:String}(k:Kn H x t):wu K H x (.type t):=by
 cases k with
 | non=>exact .non
 | bl b=>exact .bl b
 | int i=>exact .int i
 | str x=>exact .str x
 | lst e=>exact .lst e
 | tup e=>exact .tup e
 | dict e=>exact .dK e
theorem Kn.mono{H H':Hp}{x:V}{t:String}(k:Kn H x t)(s:Same H H'):Kn H' x t:=by
 cases k with
 | non=>exact .non
 | bl b=>exact .bl b
 | int i=>exact .int i
 | str x=>exact .str x
 | lst e=>exact .lst (s _ _ e)
 | tup e=>exact .tup (s _ _ e)
 | dict e=>exact .dict (s _ _ e)
noncomputable def cR(t T:String):Bool:=t == T || (t == "bool" && T == "int")
noncomputable def tD(T:String):Prop:=T = "int"\/T = "bool"\/T = "tuple"\/T = "list"\/T = "str"
theorem rO(K:W.Frag){H:Hp}{x:V}{t T:String}(k:Kn H x t)(n:tD T):W.kitOne K (.type t) (.type T)=some (cR t T):=by
 rcases n with rfl|rfl|rfl|rfl|rfl <;> cases k <;> kernel_rfl
inductive AC (xs:List V) (H:Hp) (Q:VK):Prop
 | mk (x:V) (t T:String) (e:xs = [x,.ty T]) (k:Kn H x t) (n:tD T) (q:Q (.bl (cR t T)) H):AC xs H Q
theorem aZ{X:Cx}:bY X (.builtin "isinstance") AC:=by
 intro pins s σ H xs us Q I rs h;obtain⟨x,t,T,rfl,k,n,q⟩:=h;obtain⟨u,v,rfl,ru,rv⟩:=qH rs;cases (show v=Value.type T from rv);exact mq I ru k.ty (rO X.K k n) λtk=>⟨.bl _,H,I.tok _,rfl,q⟩
structure Fn(P:Program)(w:World)(K:W.Frag)(mg:Str->Option Value)(base:Heap)(x:Str)(ps:List Str)(k:Nat)(sp:Sp):Prop where
 ex:∃(f:Addr) (fd:FuncData) (o:Obj),mg x=some (.ref f)/\W.keepIn K (.ref f)=true/\(∀us:List Value,us.length=ps.length->bindArgs fd ⟨us,[]⟩=pure (ps.zip us))/\(K.lookup f=some o/\o.data = .func fd)/\v7 P w K mg base CX0 k f fd ps sp
theorem aP{X:Cx}{x:Str}{ps:List Str}{k:Nat}{sp:Sp}{p pos:Pos}{e:Expr}{es:List Expr}{t:TA}(F:Fn X.prog X.w X.K X.mg X.base x ps k sp)(hr:uE k X.A)(hg:Gl X x)(ha:PA X (e::es) t)
  (hdb:(x == ("__debug__" : Str))=false:=by decide) (he:starEach (e::es) X.env=(false,eval e X.env)::starEach es X.env:=by rfl) (hpl:(backTo pos (starEach es X.env)).any (·.1)=false:=by rfl) :
  PE X (.Call (.Name x p) (e::es) [] pos) (kT sp [] E0 t):=by
 obtain⟨f,fd,o,hm,hk,hb,_,G⟩:=F.ex;exact ic G hr hg hm hk (.all hb) .nil sC ha hdb he hpl
structure Df(K:W.Frag)(mg:Str->Option Value)(x:Str)(st:Stmt):Prop where
 ex:∃(f:Addr) (oc:Value) (od:Option Addr) (kV doc pm:Value) (an:Option Addr) (cdv ct:Value) (osl:Array (Option Value)),
  mg x=some (.ref f)/\K.lookup f=some ⟨oc,od,.func (W.fnOf x x (aR st) (aF st) (ag st) .none kV doc pm an cdv ct),osl⟩/\W.codeIn K cdv x=true/\W.keepIn K (.ref f)=true
theorem tq{K:W.Frag}{mg:Str->Option Value}{h:Heap}{x:Str}{st:Stmt}{f:Addr}{oc:Value}{od an:Option Addr}{osl:Array (Option Value)}{kV doc pm cdv ct:Value}(X:K.In h)(G:h.Ns mainGlobals mg)
  (a:W.nsIn K mainGlobals x=some (some (.ref f))) (l:K.lookup f=some ⟨oc,od,.func (W.fnOf x x (aR st) (aF st) (ag st) .none kV doc pm an cdv ct),osl⟩) (c:W.codeIn K cdv x=true) (k:W.keepIn K (.ref f)=true) :
  Df K mg x st:=⟨⟨f,oc,od,kV,doc,pm,an,cdv,ct,osl,W.mg_of X G a,l,c,k⟩⟩
theorem Df.fn{P:Program}{w:World}{K:W.Frag}{mg:Str->Option Value}{base:Heap}{x:Str}{st:Stmt}{N ps:List Str}{k:Nat}{sp:Sp}(D:Df K mg x st)(S:uq N ps (ag st))
  (hbind:∀(kV doc pm:Value) (an:Option Addr) (cdv ct:Value) (us:List Value),us.length=ps.length->bindArgs (W.fnOf x x (aR st) (aF st) (ag st) .none kV doc pm an cdv ct) ⟨us,[]⟩=pure (ps.zip us))
  (len:∀vs H Q E,sp vs H Q E->vs.length=ps.length)
  (hbody:∀(f:Addr) (cdv:Value) (A:Around) (outer:List Env) (s:Shared) (H:Hp) (vs:List V) (Q:VK) (E:XK),uE k (A.deeper (envOfC x (ag st) s.heap.objs.size f cdv))->sp vs H Q E ->
   ∃t,PSs (ak CX0 P w K mg base N x (ag st) f cdv A outer s H E).nox (aF st) t/\t { nx:=λ_ H'=>Q .non H',rt:=Q } (cz N vs) H):Fn P w K mg base x ps (k+1) sp:=by
 obtain⟨f,oc,od,kV,doc,pm,an,cdv,ct,osl,hm,lk,hcd,hk⟩:=D.ex;refine⟨⟨f,_,_,hm,hk,hbind kV doc pm an cdv ct,⟨lk,rfl⟩,lu lk hcd S len λA outer s H vs Q E hr hsp=>?_⟩⟩;obtain⟨t,h,q⟩:=hbody f cdv A outer s H vs Q E hr hsp;exact⟨t,h.nox,q⟩
theorem rN{P:Program}{w:World}{K:W.Frag}{mg:Str->Option Value}{fa:Addr}{k:Nat}{sp:Sp}(h:Heap)(hfa:mg "law" = some (.ref fa))(F:∀base:Heap,Fn P w K mg base "law" ["script"] k sp) :
  ∃fd:FuncData,(∀(s:Shared) (v:Value),BindsTo s fd ⟨[v],[]⟩ [("script",v)])/\∀base:Heap,K.In base->base.Ns mainGlobals mg->v7 P w K mg base CX0 k fa fd ["script"] sp:=by
 obtain⟨f,fd,o,hm,_,hb,⟨hl,hd⟩,_⟩:=(F h).ex;rw[hfa]at hm;cases hm;refine⟨fd,λs v=>.of_eq (hb [v] rfl),λbase _ _=>?_⟩;obtain⟨f',fd',o',hm',_,_,⟨hl',hd'⟩,G⟩:=(F base).ex;rw[hfa]at hm';cases hm';rw[hl]at hl';cases hl';rw[hd]at hd';cases hd';exact G
noncomputable def mZ(K:W.Frag):Sp:=λvs H Q _=>∃(a:Addr) (ns:List Int),vs = [.ref a]/\SqL K H a (ns.map V.int)/\ns.length<=63/\∀H',Q (.bl true) H'
theorem Same.new{H:Hp}{p:Addr}{o:HO}(h:H p=none):Same H (upd H p o):=λb o' e=>by
 rw[aA (aK e h)];exact e
theorem a7{c:Bool}{A B:Prop}(h1:c=true->A)(h2:c=false->B):if c=true then A else B:=by
 cases c with
 | true=>exact dD (h1 rfl)
 | false=>exact dF (h2 rfl)
theorem am{b:Bool}{A B:Prop}(hb:b=false)(h:B):if b=true then A else B:=by
 subst hb;exact dF h
theorem aW{b:Bool}{A B:Prop}(hb:b=true)(h:A):if b=true then A else B:=by
 subst hb;exact dD h
noncomputable def ip:V->Bool
 | .int _=>true
 | _=>false
theorem oo{xs:List V}{lo hi:Option Int}{x:V}(h:x∈dS xs lo hi):x∈xs:=List.mem_of_mem_drop (List.mem_of_mem_take h)
end L2
namespace Sp1
open PySem PySem.Spec L2 Mth
inductive wM (vs:List V) (H:Hp) (Q:VK) (x_3:XK):Prop
 | mk:∀x t,(vs = [x])->(Kn H x t)->(Q (.bl (ip x)) H)->wM vs H Q x_3
inductive zx (vs:List V) (H:Hp) (Q:VK) (x_3:XK):Prop
 | mk:∀a b:Int,(vs = [.int a,.int b])->(Q (.int (Int.gcd a b:Int)) H)->zx vs H Q x_3
noncomputable def fC(a b:Int):Bool:=decide (1<=b) && decide (Int.gcd a b=1)
noncomputable def il:List V->Bool
 | [.int a,.int b]=>fC a b
 | _=>false
noncomputable def ge(H:Hp):V->Bool
 | .ref p=>match H p with
  | some (.tup xs)=>il xs
  | _=>false
 | _=>false
structure vF(H:Hp)(x:V):Prop where
 kn:∃t,Kn H x t
 parts:∀p xs,x = .ref p->H p=some (.tup xs)->∀y∈xs,∃t,Kn H y t
inductive zw (vs:List V) (H:Hp) (Q:VK) (x_3:XK):Prop
 | mk:∀x,(vs = [x])->(vF H x)->(Q (.bl (ge H x)) H)->zw vs H Q x_3
inductive xp (vs:List V) (H:Hp) (Q:VK) (x_3:XK):Prop
 | mk:∀c k:Int,(vs = [.int c,.int k])->(∀n:Int,Q (.int n) H)->xp vs H Q x_3
inductive wt (vs:List V) (H:Hp) (Q:VK) (x_3:XK):Prop
 | mk:∀(c:Int) (m:Nat) (b:Int),(vs = [.int c,.int (m:Int),.int b])->(m<=100)->((0<b/\cQ b<=2000))->(∀(p:Addr) (ns:List Int) (H':Hp),ns.length=m->(∀n∈ns,0<=n/\n<b)->Same H H'->H' p=some (.lst (ns.map V.int))->Q (.ref p) H')->wt vs H Q x_3
theorem gv{H:Hp}{x:V}{t:String}(k:Kn H x t):(cR t "int" = true->(!cR t "bool")=ip x)/\(cR t "int" = false->ip x=false):=by
 cases k with
 | non=>exact⟨λh=>absurd h (by decide),λ_=>rfl⟩
 | bl b=>exact⟨λ_=>(show(!cR "bool" "bool")=false by decide),λh=>absurd h (by decide)⟩
 | int i=>exact⟨λ_=>(show(!cR "int" "bool")=true by decide),λh=>absurd h (by decide)⟩
 | str x=>exact⟨λh=>absurd h (by decide),λ_=>rfl⟩
 | lst e=>exact⟨λh=>absurd h (by decide),λ_=>rfl⟩
 | tup e=>exact⟨λh=>absurd h (by decide),λ_=>rfl⟩
 | dict e=>exact⟨λh=>absurd h (by decide),λ_=>rfl⟩
theorem fW(a:Int):0<=(if a<0 then -a else a):=by split <;> omega
theorem Kn.cases_int{H:Hp}{y:V}{t:String}(k:Kn H y t):(∃a,y = .int a/\t = "int")\/((∀a,y≠.int a)/\ip y=false):=by
 cases k with
 | int a=>exact .inl ⟨a,rfl,rfl⟩
 | non=>exact .inr ⟨λa e=>(nomatch e),rfl⟩
 | bl b=>exact .inr ⟨λa e=>(nomatch e),rfl⟩
 | str x=>exact .inr ⟨λa e=>(nomatch e),rfl⟩
 | lst e=>exact .inr ⟨λa e=>(nomatch e),rfl⟩
 | tup e=>exact .inr ⟨λa e=>(nomatch e),rfl⟩
 | dict e=>exact .inr ⟨λa e=>(nomatch e),rfl⟩
theorem Kn.cases_tup{H:Hp}{y:V}{t:String}(k:Kn H y t):(∃p xs,y = .ref p/\H p=some (.tup xs)/\t = "tuple")\/(ge H y=false/\cR t "tuple" = false):=by
 cases k with
 | tup e=>exact .inl ⟨_,_,rfl,e,rfl⟩
 | non=>exact .inr ⟨rfl,by decide⟩
 | bl b=>exact .inr ⟨rfl,by decide⟩
 | str x=>exact .inr ⟨rfl,by decide⟩
 | int a=>exact .inr ⟨rfl,by decide⟩
 | lst e=>exact .inr ⟨by simp only[ge,e],by decide⟩
 | dict e=>exact .inr ⟨by simp only[ge,e],by decide⟩
theorem ow{H:Hp}{p:Addr}{xs:List V}(e:H p=some (.tup xs)):ge H (.ref p)=il xs:=by simp only[ge,e]
theorem oy{xs:List V}(h:xs.length≠2):il xs=false:=by
 unfold il
 split
 ·exact absurd rfl h
 ·rfl
theorem oz{y z:V}(h:∀a,y≠.int a):il [y,z]=false:=by
 unfold il
 split
 ·rename_i a b e
  cases e;exact absurd rfl (h a)
 ·rfl
theorem ox{y z:V}(h:∀a,z≠.int a):il [y,z]=false:=by
 unfold il
 split
 ·rename_i a b e
  cases e;exact absurd rfl (h b)
 ·rfl
theorem sz{n:Nat}(h:n<=1000):n<=sizeLine:=Nat.le_of_lt (be h)
theorem th_tup{H:Hp}{p:Addr}{xs:List V}(e:H p=some (.tup xs))(h:∀y∈xs,∃t,Kn H y t):vF H (.ref p):=⟨⟨_,.tup e⟩,λp' ys e1 e2=>by
 cases e1;rw[e]at e2;cases e2;exact h⟩
theorem t8{n:Int}(h0:0<=n)(h1:n<2147483647):-(2^64)<n/\n<2^64:=by
 have e:(2:Int)^64=18446744073709551616:=by decide
 rw[e];omega
end Sp1
namespace L2
open PySem PySem.Spec PyProof.Rows
theorem a8.has{P:Program}{w:World}{H:Hp}{h:Heap}{a:Addr}{o:HO}(x:a8 P w H h a o):∃ob,h.get? a=some ob:=by
 cases o with
 | lst xs=>obtain⟨_,_,_,_,e⟩:=x;exact⟨_,e⟩
 | tup xs=>obtain⟨_,_,_,ob,e,_⟩:=x;exact⟨_,e⟩
 | dK kvs=>obtain⟨_,_,_,_,ob,_,_,e,_⟩:=x;exact⟨_,e⟩
 | dT kvs=>obtain⟨_,_,_,_,ob,_,_,e,_⟩:=x;exact⟨_,e⟩
 | set S n=>obtain⟨ob,_,_,_,e,_⟩:=x;exact⟨_,e⟩
 | ins C dx fs=>obtain⟨_,_,_,e,_⟩:=x;exact⟨_,e⟩
 | own y=>obtain⟨ob,e⟩:=x;exact⟨_,e⟩
 | xd fs=>obtain⟨_,⟨od,_,_,e,_⟩,_⟩:=x;exact⟨_,e⟩
 | rng lo hi=>obtain⟨_,_,_,e⟩:=x;exact⟨_,e⟩
 | frz ob u=>obtain⟨e,_⟩:=x;exact⟨_,e⟩
 | tbl ps=>exact⟨_,(show h.get? a=some _ from x)⟩
 | met f y=>exact⟨_,(show h.get? a=some _ from x)⟩
 | ext φ=>obtain⟨_,⟨ob,e⟩,_⟩:=x;exact⟨_,e⟩
structure zT(B:Heap)(fs:List Addr)(H':Hp)(h:Heap):Prop where
 tr:∀b o,H' b=some o->∃ob,B.get? b=some ob
 old:∀b o,h.get? b=some o->b∉fs->∃ob,B.get? b=some ob
section
variable {P:Program} {w:World} {fs fs':List Addr} {H H1 H':Hp} {h h1 h2 B:Heap}
theorem Un.fly(un:Un fs [] H H' h h1)(big:zT B fs H' h)(st1:B.StaysIn h1)(st2:B.StaysIn h2)(sl:h1.UpToSlots h2)
  (fr:∀b∈fs,H b=none/\∀o,h1.get? b=some o->∀vs,o.data≠.fields vs):Un fs [] H H' h h2 where
 keep:=λb o e n hb hx=>by
  have e1:=un.keep b o e n hb hx;obtain⟨ob,eb⟩:=big.old b o e hb;have e2:=st1 b ob eb;rw[e1]at e2;cases e2;exact st2 b _ eb
 slot:=λb o e n hb hx=>by
  obtain⟨s1,e1⟩:=un.slot b o e n hb hx;obtain⟨s2,e2⟩:=sl b _ e1 ((fr b hb).2 _ e1);exact⟨s2,e2⟩
 free:=un.free
 there:=λb o e hx=>by
  by_cases hb:b∈fs
  ·obtain⟨s1,e1⟩:=un.slot b o e (fr b hb).1 hb hx
   obtain⟨s2,e2⟩:=sl b _ e1 ((fr b hb).2 _ e1);exact⟨_,e2⟩
  ·obtain⟨ob,eb⟩:=big.old b o e hb
   exact⟨_,st2 b ob eb⟩
 tups:=un.tups
 frzs:=un.frzs
 tbls:=un.tbls
theorem HOk.fly(hok:HOk P w H' h1)(big:zT B fs H' h)(st1:B.StaysIn h1)(st2:B.StaysIn h2):HOk P w H' h2:=λa o e=>by
 refine(hok a o e).stay (λb u hb q=>?_) (λ_ q=>q) λ_ _ q=>q;have hb':∃ob,B.get? b=some ob:=by
  rcases hb with z|z
  ·rw[z]
   exact big.tr a o e
  ·exact big.tr b _ z
 obtain⟨ob,eb⟩:=hb';have e2:=st1 b ob eb;rw[q]at e2;cases e2;exact st2 b _ eb
theorem Un.shed(a:Un fs [] H H1 h h1)(b:Un fs' [] H1 H' h1 h2)(sub:∀x∈fs,x∈fs')(out:∀x o,h.get? x=some o->x∈fs'->x∈fs):Un fs [] H H' h h2 where
 keep:=λx o e n hx hn=>b.keep x o (a.keep x o e n hx hn) (a.free x o e n hn) (λz=>hx (out x o e z)) hn
 slot:=λx o e n hx hn=>by
  obtain⟨s1,e1⟩:=a.slot x o e n hx hn;obtain⟨s2,e2⟩:=b.slot x _ e1 (a.free x o e n hn) (sub x hx) hn;exact⟨s2,e2⟩
 free:=λx o e n hn=>by
  obtain⟨o1,e1⟩:=a.there x o e hn;exact b.free x o1 e1 (a.free x o e n hn) hn
 there:=λx o e hn=>by
  obtain⟨o1,e1⟩:=a.there x o e hn;exact b.there x o1 e1 hn
 tups:=λx xs e=>b.tups x xs (a.tups x xs e)
 frzs:=λx o xs e=>b.frzs x o xs (a.frzs x o xs e)
 tbls:=λx ps e=>by
  obtain⟨m1,e1⟩:=a.tbls x ps e;obtain⟨m2,e2⟩:=b.tbls x _ e1;exact⟨m1++m2,by rw[e2,Array.append_assoc]⟩
end
noncomputable def Tr(base h:Heap)(e:Addr)(cls:Value)(g:Nat->Option Value)(fl:Value):Prop :=
 ∃oe vs T oT ts,h.get? e=some oe/\oe.cls=cls/\oe.data = .fields vs/\(∀i,i≠1->vs[i]? = g i)/\vs[1]? = some (.ref T)/\base.get? T=none/\T≠e/\h.get? T=some oT/\oT.data = .fields ts/\ts[3]? = some fl
noncomputable def Cn(h:Heap)(e:Addr):Prop:=∃oe vs,h.get? e=some oe/\oe.data = .fields vs/\vs[2]? = some .none
theorem Tr.w{base h:Heap}{e:Addr}{cls a0 fl:Value}{g:Nat->Option Value}(x:Tr base h e cls g fl)(h0:g 0=some a0):h.TracedAtW base e cls a0 fl:=by
 obtain⟨oe,vs,T,oT,ts,he,hc,hd,hg,r⟩:=x;exact⟨oe,vs,T,oT,ts,he,⟨hc,(hg 0 (by decide)).trans h0⟩,hd,r⟩
theorem Tr.of{base h:Heap}{e:Addr}{cls a0 fl:Value}(x:h.TracedAtW base e cls a0 fl):∃g,Tr base h e cls g fl/\g 0=some a0/\(Cn h e->g 2=some .none):=by
 obtain⟨oe,vs,T,oT,ts,he,⟨hc,h0⟩,hd,r⟩:=x;refine⟨λi=>vs[i]?,⟨oe,vs,T,oT,ts,he,hc,hd,λ_ _=>rfl,r⟩,h0,λ⟨o2,ws,h1,h2,h3⟩=>?_⟩;rw[he]at h1;cases h1;rw[hd]at h2;cases h2;exact h3
theorem Tr.cn{base h:Heap}{e:Addr}{cls fl:Value}{g:Nat->Option Value}(x:Tr base h e cls g fl)(h2:g 2=some .none):Cn h e:=by
 obtain⟨oe,vs,T,oT,ts,he,hc,hd,hg,r⟩:=x;exact⟨oe,vs,he,hd,(hg 2 (by decide)).trans h2⟩
section
variable {M:Model} {A:Around} {E:Value->Shared->Prop} {s:Shared} {base:Heap} {env:Env} {outer l:List Env} {L e:Addr} {cls:Value} {g:Nat->Option Value}
theorem jB{oe:Obj}{vs:Array Value}{head:Value}{hadNext:Bool}{Q:Unit->Shared->Prop}(hfr:A.frames=some (env::outer))(hf:env.frame=some L)(f1:base.StaysIn s.heap)(f2:base.get? e=none)(f3:s.heap.FunFrames base (env::outer))
  (he:s.heap.get? e=some oe) (hc:oe.cls=cls) (hd:oe.data = .fields vs) (hz:1<vs.size) (hg:∀i,i≠1->vs[i]? = g i)
  (hQ:∀h',base.StaysIn h'->h'.FunFrames base (env::outer)->Tr base h' e cls g (rawInt L)->s.heap.UpToSlots h'->Q () { s with heap:=h' }) :
  wpAny M A (do let a <- frameOf env;let pl <- entryPlaceOf L hadNext;let b <- EntryCells.newEntry head a .none (rawInt L) .none pl;setField (.ref e) 1 b) Q E s:=by
 have ne:e∉(env::outer).filterMap (·.frame):=λhm=>by
  obtain⟨_,o,ho,nf⟩:=f3.mem hm;rw[he]at ho;cases ho;exact nf vs hd
 refine wpAny_bind (wpAny_frameOf_fun hfr f3 hf λh1 so=>?_);refine wpAny_bind (wpAny_entryPlaceOf λpl hpl=>?_);unfold EntryCells.newEntry newFields;refine wpAny_bind (wpAny_newObj_type ?_ (hpl.sizeOk5 _ _ _ _ _));have e1:h1.get? e=some oe:=(so.2.1 e ne).trans he;have b1:base.StaysIn h1:=λb o hb=>(so.2.1 b λhm=>by rw[(f3.mem hm).1]at hb;cases hb).trans (f1 b o hb);generalize hT:(List.toArray ([head,Value.ref L,Value.none,rawInt L,Value.none]++if pl.isEmpty=true then List.replicate 6 Value.none else pl))=TT
 have t3:TT[3]? = some (rawInt L):=by
  rw[<- hT];rfl
 have e2:=Heap.get?_push_of_some (h:=h1) { cls:=.type "traceback",dict:=none,data:=.fields TT } e1;have nT:h1.objs.size≠e:=Nat.ne_of_gt (Heap.lt_size e1);have keep:∀b o,b≠e->h1.get? b=some o->((h1.push { cls:=.type "traceback",dict:=none,data:=.fields TT }).update e (Obj.mapFields (·.setIfInBounds 1 (Value.ref h1.objs.size)))).get? b=some o:=λb o hb eb=>(Heap.get?_update_other _ _ (Ne.symm hb)).trans (Heap.get?_push_of_some _ eb);have nr:∀b o,s.heap.get? b=some o->(∀ws,o.data≠.fields ws)->b≠e:=λb o hb nf q=>by
  rw[q,he]at hb;cases hb;exact nf vs hd
 refine wpAny_setField e2 hd hz (hQ _ ?_ ?_ ?_ ?_)
 ·exact λb o hb=>keep b o (λq=>by rw[q,f2]at hb;cases hb) (b1 b o hb)
 ·refine f3.of_keeps λb o hb nf=>?_
  obtain⟨sl,q⟩:=so.2.2 b o hb;exact⟨_,keep b _ (nr b o hb nf) q,rfl⟩
 ·have hd3:=Obj.data_mapFields hd (·.setIfInBounds 1 (Value.ref h1.objs.size))
  refine⟨_,_,h1.objs.size,_,_,Heap.get?_update_self (Obj.mapFields (·.setIfInBounds 1 (Value.ref h1.objs.size))) e2 (Obj.isFreed_of_fields hd3),(Obj.cls_mapFields _ _).trans hc,hd3,λi hi=>?_,by simp[hz],b1.fresh,nT,(Heap.get?_update_other _ _ (Ne.symm nT)).trans (Heap.get?_push_size h1 rfl),rfl,t3⟩;rw[Array.getElem?_setIfInBounds_ne (Ne.symm hi)];exact hg i hi
 ·intro b o hb nf
  obtain⟨sl,q⟩:=so.2.2 b o hb;exact⟨sl,keep b _ (nr b o hb nf) q⟩
theorem dy{Q:Unit->Shared->Prop}(hfr:A.frames=some (env::outer))(hf:env.frame=some L)(f1:base.StaysIn s.heap)(f2:base.get? e=none)(f3:s.heap.FunFrames base (env::outer))
  (f4:(∃oe vs,s.heap.get? e=some oe/\oe.cls=cls/\oe.data = .fields vs/\(∀i,i≠1->vs[i]? = g i)/\vs[1]? = some .none)\/∃fl,Tr base s.heap e cls g fl)
  (hQ:∀h',base.StaysIn h'->h'.FunFrames base (env::outer)->Tr base h' e cls g (rawInt L)->s.heap.UpToSlots h'->Q () { s with heap:=h' }):wpAny M A (noteFrame (.ref e) env) Q E s:=by
 unfold noteFrame;simp only[hf];rcases f4 with⟨oe,vs,he,hc,hd,hg,h1⟩|⟨fl,oe,vs,T,oT,ts,he,hc,hd,hg,h1,hn,hTe,hT,hdT,h3⟩
 ·refine wpAny_bind (wpAny_field he hd h1 ?_)
  rw[if_neg (by decide)];exact jB hfr hf f1 f2 f3 he hc hd (Array.getElem?_eq_some_iff.mp h1).1 hg hQ
 ·refine wpAny_bind (wpAny_field he hd h1 ?_)
  rw[if_pos (by simp)];refine wpAny_bind (wpAny_field hT hdT h3 ?_)
  by_cases c:(fl == rawInt L)=true
  ·rw[if_pos c]
   refine wpAny_pure (hQ s.heap f1 f3 ⟨oe,vs,T,oT,ts,he,hc,hd,hg,h1,hn,hTe,hT,hdT,?_⟩ (.refl _));rw[h3,eq_of_beq c]
  ·rw[if_neg c]
   refine wpAny_bind (wpAny_setField hT hdT (Array.getElem?_eq_some_iff.mp h3).1 ?_);have oth:∀b,b≠T->(s.heap.update T (Obj.mapFields (·.setIfInBounds 3 Value.none))).get? b=s.heap.get? b:=λb hb=>Heap.get?_update_other _ _ (Ne.symm hb);have nr:∀b o,s.heap.get? b=some o->(∀ws,o.data≠.fields ws)->b≠T:=λb o hb nf q=>by
    rw[q,hT]at hb;cases hb;exact nf ts hdT
   exact jB hfr hf (λb o hb=>(oth b λq=>by rw[q,hn]at hb;cases hb).trans (f1 b o hb)) f2 (f3.of_keeps λb o hb nf=>⟨o,(oth b (nr b o hb nf)).trans hb,rfl⟩) ((oth e (Ne.symm hTe)).trans he) hc hd (Array.getElem?_eq_some_iff.mp h1).1 hg
    λh' k1 k2 k3 k4=>hQ h' k1 k2 k3 λb o hb nf=>k4 b o ((oth b (nr b o hb nf)).trans hb) nf
theorem b9{fl:Value}{fr:Option Addr}{Q:Unit->Shared->Prop}(f1:base.StaysIn s.heap)(f3:s.heap.FunFrames base l)(f4:Tr base s.heap e cls g fl)
  (hQ:∀h',base.StaysIn h'->h'.FunFrames base l->Tr base h' e cls g (fr.elim Value.none λf=>rawInt f)->(∀b o,s.heap.get? b=some o->(∀vs,o.data≠.fields vs)->h'.get? b=some o)->Q () { s with heap:=h' }) :
  wpAny M A (setFlight (.ref e) fr) Q E s:=by
 obtain⟨oe,vs,T,oT,ts,he,hc,hd,hg,h1,hn,hTe,hT,hdT,h3⟩:=f4;have z3:3<ts.size:=(Array.getElem?_eq_some_iff.mp h3).1;have oth:∀b,b≠T->(s.heap.update T (Obj.mapFields (·.setIfInBounds 3 (fr.elim Value.none λf=>rawInt f)))).get? b=s.heap.get? b:=λb hb=>Heap.get?_update_other _ _ (Ne.symm hb);have nr:∀b o,s.heap.get? b=some o->(∀ws,o.data≠.fields ws)->b≠T:=λb o hb nf q=>by
  rw[q,hT]at hb;cases hb;exact nf ts hdT
 unfold setFlight;refine wpAny_bind (wpAny_field he hd h1 ?_);rw[if_pos (by simp)];refine wpAny_setField hT hdT z3 (hQ _ (λb o hb=>(oth b λq=>by rw[q,hn]at hb;cases hb).trans (f1 b o hb)) (f3.of_keeps λb o hb nf=>⟨o,(oth b (nr b o hb nf)).trans hb,rfl⟩) ?_ λb o hb nf=>(oth b (nr b o hb nf)).trans hb);exact⟨oe,vs,T,_,_,(oth e (Ne.symm hTe)).trans he,hc,hd,hg,h1,hn,hTe,Heap.get?_update_self _ hT (Obj.isFreed_of_fields (Obj.data_mapFields hdT _)),Obj.data_mapFields hdT _,by simp[z3]⟩
theorem cD{Q:Unit->Shared->Prop}(hfr:A.frames=some (env::outer))(hf:env.frame=some L)(f1:base.StaysIn s.heap)(f2:base.get? e=none)(f3:s.heap.FunFrames base (env::outer))
  (f4:(∃oe vs,s.heap.get? e=some oe/\oe.cls=cls/\oe.data = .fields vs/\(∀i,i≠1->vs[i]? = g i)/\vs[1]? = some .none)\/∃fl,Tr base s.heap e cls g fl)
  (hQ:∀h',base.StaysIn h'->h'.FunFrames base outer->Tr base h' e cls g .none->s.heap.UpToSlots h'->Q () { s with heap:=h' }):wpAny M A (leaving env (.ref e)) Q E s:=by
 unfold leaving;refine wpAny_bind (dy hfr hf f1 f2 f3 f4 λh1 k1 k2 k3 k4=>?_);refine b9 (s:={ s with heap:=h1 }) k1 k2 k3 λh2 m1 m2 m3 m4=>hQ h2 m1 m2.2.2 m3 (k4.trans λb o hb nf=>⟨o.slots,m4 b o hb nf⟩)
theorem mn{a0 fl:Value}{Q:Unit->Shared->Prop}(hfr:A.frames=some (env::outer))(hf:env.frame=some L)(f1:base.StaysIn s.heap)(f2:base.get? e=none)(f3:s.heap.FunFrames base (env::outer))(f4:s.heap.TracedAtW base e cls a0 fl)
  (hQ:∀h',Heap.FlyingW base outer e cls a0 h'->s.heap.UpToSlots h'->(Cn s.heap e->Cn h' e)->Q () { s with heap:=h' }):wpAny M A (leaving env (.ref e)) Q E s:=by
 obtain⟨g,t,g0,g2⟩:=Tr.of f4;exact cD hfr hf f1 f2 f3 (.inr ⟨_,t⟩) λh' k1 k2 k3 k4=>hQ h' ⟨k1,f2,k2,k3.w g0⟩ k4 λc=>k3.cn (g2 c)
end
noncomputable def CXE(P:Program)(w:World):CXT:=λouter H s E e s'=>∃(ea t:Addr) (cls:Value) (H':Hp) (B:Heap),
 e = .ref ea/\s'.os=s.os/\AllBare s'.gens/\Un (frs outer) [] H H' s.heap s'.heap/\HOk P w H' s'.heap/\Heap.FlyingW B outer ea cls (.ref t) s'.heap/\zT B (frs outer) H' s.heap/\∃o,E cls o H'/\(o=none->Cn s'.heap ea)
section
variable {P:Program} {w:World} {K:W.Frag} {mg:Str->Option Value} {base:Heap} {N:List Str} {qual:Str} {scope:Scope} {f:Addr} {cdv:Value} {A:Around} {outer:List Env} {s₀:Shared} {H₀:Hp} {E:XK}
theorem fK{env:Env}{L:Addr}(hf:env.frame=some L)(l:List Env):frs (env::l)=L::frs l:=by
 unfold frs;rw[List.filterMap_cons,hf]
noncomputable abbrev dG(X:Cx)(h:Heap):Heap:=W.hideAll h (frs X.stack)
theorem bN{pins:List (Addr×Obj)}{σ:St}{H:Hp}{s:Shared}{h'':Heap}{e t:Addr}{cls:Value}{g:Nat->Option Value}{o:Option Addr}(I:ur (ak (CXE P w) P w K mg base N qual scope f cdv A outer s₀ H₀ E) pins σ H s)
  (n:s.heap.get? e=none) (k1:(dG (ak (CXE P w) P w K mg base N qual scope f cdv A outer s₀ H₀ E) s.heap).StaysIn h'') (k2:h''.FunFrames (dG (ak (CXE P w) P w K mg base N qual scope f cdv A outer s₀ H₀ E) s.heap) outer) (k3:Tr (dG (ak (CXE P w) P w K mg base N qual scope f cdv A outer s₀ H₀ E) s.heap) h'' e cls g .none) (g0:g 0=some (.ref t)) (sl:s.heap.UpToSlots h'') (q:E cls o H) (g2:o=none->g 2=some .none):CXE P w outer H₀ s₀ E (.ref e) { s with heap:=h'' }:=by
 have neL:∀b o,s₀.heap.get? b=some o->b∉frs outer->b∉frs (ak (CXE P w) P w K mg base N qual scope f cdv A outer s₀ H₀ E).stack:=λb o eb hb hm=>by
  rcases List.mem_cons.mp (I.stkSub b hm) with z|z
  ·exact absurd z (Nat.ne_of_lt (Nat.lt_of_lt_of_le (Heap.lt_size eb) I.ok.above))
  ·exact hb z
 have big:zT (dG (ak (CXE P w) P w K mg base N qual scope f cdv A outer s₀ H₀ E) s.heap) (frs outer) H s₀.heap:=by
  refine⟨λb o eb=>?_,λb o eb hb=>?_⟩
  ·obtain⟨ob,z⟩:=(I.hok b o eb).has
   refine⟨ob,W.hideAll_get _ z λhm=>?_⟩;rw[I.stkFree b hm]at eb;cases eb
  ·obtain⟨ob,z⟩:=I.base.there b o eb (by intro z;cases z)
   exact⟨ob,W.hideAll_get _ z (neL b o eb hb)⟩
 have st1:(dG (ak (CXE P w) P w K mg base N qual scope f cdv A outer s₀ H₀ E) s.heap).StaysIn s.heap:=λb o z=>W.of_hideAll _ z;have nb:(dG (ak (CXE P w) P w K mg base N qual scope f cdv A outer s₀ H₀ E) s.heap).get? e=none:=by
  cases z:(dG (ak (CXE P w) P w K mg base N qual scope f cdv A outer s₀ H₀ E) s.heap).get? e with
  | none=>rfl
  | some o =>
   rw[st1 e o z]at n;cases n
 exact⟨e,t,cls,H,_,rfl,I.os,I.bare,Un.fly I.base big st1 k1 sl λb hb=>⟨I.ok.frf b hb,λo eo=>by
   obtain⟨_,o',eo',nf⟩:=I.funs.mem hb;rw[eo]at eo';cases eo';exact nf⟩,HOk.fly I.hok big st1 k1,⟨k1,nb,k2,k3.w g0⟩,big,o,q,λz=>k3.cn (g2 z)⟩
theorem fI{pins:List (Addr×Obj)}{σ:St}{H:Hp}{s:Shared}(I:ur (ak (CXE P w) P w K mg base N qual scope f cdv A outer s₀ H₀ E) pins σ H s):s.heap.FunFrames (dG (ak (CXE P w) P w K mg base N qual scope f cdv A outer s₀ H₀ E) s.heap) (ak (CXE P w) P w K mg base N qual scope f cdv A outer s₀ H₀ E).stack :=
 W.funFrames_hide I.stack λenv he a ha=>List.mem_filterMap.mpr ⟨env,he,ha⟩
theorem iq{X:Cx}{h:Heap}{e:Addr}(n:h.get? e=none):(dG X h).get? e=none:=by
 cases z:(dG X h).get? e with
 | none=>rfl
 | some o =>
  rw[W.of_hideAll _ z]at n;cases n
theorem rm{pins:List (Addr×Obj)}{σ:St}{H:Hp}{s:Shared}{h':Heap}{e:Addr}{cls:Value}{vs:List Value}(I:ur (ak (CXE P w) P w K mg base N qual scope f cdv A outer s₀ H₀ E) pins σ H s)
  (hx:Heap.MadeExcOf s.heap h' e cls vs) (q:E cls none H):(ak (CXE P w) P w K mg base N qual scope f cdv A outer s₀ H₀ E).xe (.ref e) { s with heap:=h' }:=by
 obtain⟨t,ht,_,_⟩:=hx.there;have st1:(dG (ak (CXE P w) P w K mg base N qual scope f cdv A outer s₀ H₀ E) s.heap).StaysIn h':=λb o z=>hx.keeps b o (W.of_hideAll _ z);refine cD (s:={ s with heap:=h' }) (base:=dG (ak (CXE P w) P w K mg base N qual scope f cdv A outer s₀ H₀ E) s.heap) (L:=s₀.heap.objs.size) I.ok.frames rfl st1 (iq hx.new) ((fI I).of_keeps λb o z _=>⟨o,hx.keeps b o z,rfl⟩) (.inl ⟨_,_,ht,rfl,rfl,λ_ _=>rfl,rfl⟩) λh'' k1 k2 k3 k4=>?_;exact bN (s:=s) (h'':=h'') I hx.new k1 k2 k3 rfl ((Heap.UpToSlots.of_keeps hx.keeps).trans k4) q λ_=>rfl
theorem ig{E1:XK}(hE:∀c o H',E1 c o H'->E c o H'):cp (CXE P w) (ak (CXE P w) P w K mg base N qual scope f cdv A outer s₀ H₀ E) E1:=by
 intro pins σ H s e s' I h;obtain⟨ea,t,cls,H',B,rfl,os,bare,un,hok,fl,big,oq,q,cq⟩:=h;refine mn (L:=s₀.heap.objs.size) I.ok.frames rfl fl.1 fl.2.1 fl.2.2.1 fl.2.2.2 λh'' fl' up cn=>?_;have out:∀x o,s₀.heap.get? x=some o->x∈frs (ak (CXE P w) P w K mg base N qual scope f cdv A outer s₀ H₀ E).stack->x∈frs outer:=λx o ex hm=>by
  rcases List.mem_cons.mp (I.stkSub x hm) with z|z
  ·exact absurd z (Nat.ne_of_lt (Nat.lt_of_lt_of_le (Heap.lt_size ex) I.ok.above))
  ·exact z
 have sub:∀x∈frs outer,x∈frs (ak (CXE P w) P w K mg base N qual scope f cdv A outer s₀ H₀ E).stack:=λx hx=>by
  show x∈frs (_::outer);rw[fK (L:=s₀.heap.objs.size) rfl];exact List.mem_cons_of_mem _ hx
 have un1:Un (frs outer) [] H₀ H' s₀.heap s'.heap:=Un.shed I.base un sub out;have big1:zT B (frs outer) H' s₀.heap:=by
  refine⟨big.tr,λb o eb hb=>?_⟩;obtain⟨ob,z⟩:=I.base.there b o eb (by intro z;cases z);exact big.old b ob z λhm=>hb (out b o eb hm)
 refine⟨ea,t,cls,H',B,rfl,os.trans I.os,bare,Un.fly un1 big1 fl.1 fl'.1 up λb hb=>⟨I.ok.frf b hb,λo eo=>?_⟩,HOk.fly hok big1 fl.1 fl'.1,fl',big1,oq,hE _ _ _ q,λz=>cn (cq z)⟩;obtain⟨_,o',eo',nf⟩:=fl'.2.2.1.mem hb;obtain⟨_,o2,eo2,nf2⟩:=fl.2.2.1.mem (sub b hb);rw[eo]at eo2;cases eo2;exact nf2
end
structure uG(K:W.Frag)(mg:Str->Option Value)(x:Str)(C:Addr):Prop where
 bound:mg x=some (.ref C)
 obj:∀h:Heap,K.In h->∃bm N nm qn bs hd sn sub ab col dd k0 k1 k2 k3 k5 mN,h.get? C=some (excClassObj nm qn C N bs bm hd sn sub ab col dd k0 k1 k2 k3 k5 "ValueError.__new__")/\h.Ns N mN/\mN "__init__" = none /\
  OwnTail h [.type "ValueError",.type "Exception",.type "BaseException",.type "object"] bm
theorem qj{K:W.Frag}{h:Heap}{C:Addr}{bmB:List Value}{newId:String}(X:K.In h)(q:W.excIn K C bmB newId=true) :
  ∃bm N nm qn bs hd sn sub ab col dd k0 k1 k2 k3 k5 mN,h.get? C=some (excClassObj nm qn C N bs bm hd sn sub ab col dd k0 k1 k2 k3 k5 newId)/\h.Ns N mN/\mN "__init__" = none/\OwnTail h bmB bm:=by
 unfold W.excIn at q
 split at q
 next dct cl sls look =>
  split at q
  next C2 bms a0 a1 a2 a3 nid a5 hmro hsls =>
   simp only[Bool.not_eq_true',beq_iff_eq,Bool.and_eq_true]at q;obtain⟨⟨⟨⟨⟨q1,q2⟩,q3⟩,q4⟩,q5⟩,q6⟩:=q;subst q1 q2;obtain⟨c1,c2,c3,c4,c5,c6,c7,c8,c9,c10,c11⟩:=cl;dsimp only at hmro q3 q5 q6;subst hmro q3;obtain⟨lst⟩:=sls;simp only at hsls;subst hsls;exact⟨bms,c4,c1,c5,c2,c6,c7,c8,c9,c10,dct,a0,a1,a2,a3,a5,_,X _ _ look,.of_isNs (W.isNs_of_in X q5),W.nsMap_none_of_in X q5 q6,W.tail_of_in X q4⟩
  next=>cases q
 next=>cases q
theorem rY{K:W.Frag}{mg:Str->Option Value}{h:Heap}{x:Str}{C:Addr}(X:K.In h)(G:h.Ns mainGlobals mg)(a:W.nsIn K mainGlobals x=some (some (.ref C)))
  (q:W.excIn K C [.type "ValueError",.type "Exception",.type "BaseException",.type "object"] "ValueError.__new__" = true):uG K mg x C:=⟨W.mg_of X G a,λ_ Y=>qj Y q⟩
section
variable {P:Program} {w:World} {K:W.Frag} {mg:Str->Option Value} {base:Heap} {N:List Str} {qual:Str} {scope:Scope} {f:Addr} {cdv:Value} {A:Around} {outer:List Env} {s₀:Shared} {H₀:Hp} {E:XK}
theorem aS{x:Str}{C:Addr}{np cpos pos:Pos}(O:uG K mg x C)(hg:Gl (ak (CXE P w) P w K mg base N qual scope f cdv A outer s₀ H₀ E) x)(hdb:(x == ("__debug__" : Str))=false:=by decide) :
  PS (ak (CXE P w) P w K mg base N qual scope f cdv A outer s₀ H₀ E) (.Raise (some (.Call (.Name x np) [] [] cpos)) none pos) (λ_ _ H=>E (.ref C) none H):=by
 intro pins s σ H D I h;obtain⟨bm,N',nm,qn,bs,hd,sn,sub,ab,col,dd,k0,k1,k2,k3,k5,mN,hC,hN,hni,T⟩:=O.obj s.heap I.kIn;refine wpAny_Raise_call_subT (C:=C) (nm:=nm) (q:=qn) (N:=N') (bs:=bs) (bm:=bm) (hdct:=hd) (sn:=sn) (sub:=sub) (ab:=ab) (col:=col) (dd:=dd) (k0:=k0) (k1:=k1) (k2:=k2) (k3:=k3) (k5:=k5) PySem.F.excBase_ValueError (mN:=mN) (T.hasType (by decide +kernel)) (I.ok.hd rfl) rfl hni (bU I hg O.bound ⟨rfl,?_⟩ hdb);exact evalArgs_empty ⟨rfl,Nat.zero_le _,hC,hN,T,λh' e hx=>rm I hx h⟩
end
noncomputable abbrev Cx.inH(X:Cx)(e:Addr):Cx:={ X with A:=X.A.mark (some (.ref e)),calm:=false,xe:=λ_ _=>False }
theorem ur.inH{X:Cx}{pins:List (Addr×Obj)}{σ:St}{H:Hp}{s:Shared}(I:ur X pins σ H s)(e:Addr):ur (X.inH e) pins σ H s :=
 ⟨⟨I.ok.mod,I.ok.kind,I.ok.glob,I.ok.blt,I.ok.above,I.ok.inj,I.ok.has,I.ok.cab,(λz=>by cases z),I.ok.frames,I.ok.stk,I.ok.exf,I.ok.bs,I.ok.bsz,I.ok.noex,I.ok.exfs,I.ok.funs,I.ok.frf⟩,
  I.os,I.bare,I.base,I.loc,I.cell,I.free,I.freeC,I.pin,I.hok,I.len⟩
theorem ur.outH{X:Cx}{e:Addr}{pins:List (Addr×Obj)}{σ:St}{H:Hp}{s:Shared}(ok:X.Ok)(I:ur (X.inH e) pins σ H s):ur X pins σ H s :=
 ⟨ok,I.os,I.bare,I.base,I.loc,I.cell,I.free,I.freeC,I.pin,I.hok,I.len⟩
noncomputable abbrev TX:=(Value->St->Hp->Prop)->TS
noncomputable def XP(X:Cx)(pins:List (Addr×Obj))(R:Value->St->Hp->Prop)(ev:Value)(s':Shared):Prop :=
 ∃(s1:Shared) (σ1:St) (H1:Hp) (E1:XK),ur X pins σ1 H1 s1/\CXE X.prog X.w X.stack H1 s1 E1 ev s'/\∀c o H',E1 c o H'->R c σ1 H'
noncomputable def PX(X:Cx)(st:Stmt)(t:TX):Prop :=
 ∀(pins:List (Addr×Obj)) (s:Shared) (σ:St) (H:Hp) (D:wn) (R:Value->St->Hp->Prop),ur X pins σ H s->t R D σ H->wpAny (model X.prog X.w) X.A (exec st X.env) (SP X pins D) (XP X pins R) s
noncomputable def PXs(X:Cx)(st:List Stmt)(t:TX):Prop :=
 ∀(pins:List (Addr×Obj)) (s:Shared) (σ:St) (H:Hp) (D:wn) (R:Value->St->Hp->Prop),ur X pins σ H s->t R D σ H->wpAny (model X.prog X.w) X.A (execs st X.env) (SP X pins D) (XP X pins R) s
structure Fx(P:Program)(w:World)(K:W.Frag)(mg:Str->Option Value)(base:Heap)(x:Str)(ps:List Str)(k:Nat)(ds:List V)(sp:Sp):Prop where
 ex:∃(f:Addr) (fd:FuncData) (its:List Value),mg x=some (.ref f)/\W.keepIn K (.ref f)=true/\cg K fd ps []/\cg K fd ps its/\aE ds its/\v7 P w K mg base (CXE P w) k f fd ps sp
structure Ap(K:W.Frag)(mg:Str->Option Value)(x:Str)(st:Stmt)(ds:List V):Prop where
 ex:∃(f T:Addr) (oT:Obj) (n:Nat) (its:List Value) (oc:Value) (od:Option Addr) (kV doc pm:Value) (an:Option Addr) (cdv ct:Value) (osl:Array (Option Value)),
  mg x=some (.ref f)/\K.lookup f=some ⟨oc,od,.func (W.fnOf x x (aR st) (aF st) (ag st) (.ref T) kV doc pm an cdv ct),osl⟩/\W.codeIn K cdv x=true/\W.keepIn K (.ref f)=true/\K.lookup T=some oT/\oT.data = .seq its.toArray n/\aE ds its
theorem r9{K:W.Frag}{mg:Str->Option Value}{h:Heap}{x:Str}{st:Stmt}{ds:List V}{its:List Value}{f T:Addr}{oT:Obj}{n:Nat}{oc:Value}{od an:Option Addr}{osl:Array (Option Value)}{kV doc pm cdv ct:Value}(X:K.In h)(G:h.Ns mainGlobals mg)
  (a:W.nsIn K mainGlobals x=some (some (.ref f))) (l:K.lookup f=some ⟨oc,od,.func (W.fnOf x x (aR st) (aF st) (ag st) (.ref T) kV doc pm an cdv ct),osl⟩) (c:W.codeIn K cdv x=true) (k:W.keepIn K (.ref f)=true)
  (t:K.lookup T=some oT) (d:oT.data = .seq its.toArray n) (v:aE ds its):Ap K mg x st ds:=⟨⟨f,T,oT,n,its,oc,od,kV,doc,pm,an,cdv,ct,osl,W.mg_of X G a,l,c,k,t,d,v⟩⟩
theorem Ap.fx{P:Program}{w:World}{K:W.Frag}{mg:Str->Option Value}{base:Heap}{x:Str}{st:Stmt}{ds:List V}{N ps:List Str}{k:Nat}{sp:Sp}(D:Ap K mg x st ds)(S:uq N ps (ag st))
  (hb:∀(T:Addr) (kV doc pm:Value) (an:Option Addr) (cdv ct:Value) (us its:List Value) (oT:Obj) (n:Nat) (s:Shared),aE ds its->us.length=ps.length->s.heap.get? T=some oT->oT.data = .seq its.toArray n ->
   BindsTo s (W.fnOf x x (aR st) (aF st) (ag st) (.ref T) kV doc pm an cdv ct) ⟨us,[]⟩ (ps.zip us))
  (hd:∀(T:Addr) (kV doc pm:Value) (an:Option Addr) (cdv ct:Value) (us its:List Value) (oT:Obj) (n:Nat) (s:Shared),aE ds its->(us++its).length=ps.length->s.heap.get? T=some oT->oT.data = .seq its.toArray n ->
   BindsTo s (W.fnOf x x (aR st) (aF st) (ag st) (.ref T) kV doc pm an cdv ct) ⟨us,[]⟩ (ps.zip (us++its)))
  (len:∀vs H Q E,sp vs H Q E->vs.length=ps.length)
  (hbody:∀(f:Addr) (cdv:Value) (A:Around) (outer:List Env) (s:Shared) (H:Hp) (vs:List V) (Q:VK) (E:XK),uE k (A.deeper (envOfC x (ag st) s.heap.objs.size f cdv))->sp vs H Q E ->
   ∃t,PSs (ak (CXE P w) P w K mg base N x (ag st) f cdv A outer s H E) (aF st) t/\t { nx:=λ_ H'=>Q .non H',rt:=Q } (cz N vs) H):Fx P w K mg base x ps (k+1) ds sp:=by
 obtain⟨f,T,oT,n,its,oc,od,kV,doc,pm,an,cdv,ct,osl,hm,lk,hcd,hk,hT,hs,hv⟩:=D.ex;refine⟨⟨f,_,its,hm,hk,λs us KX hl=>?_,λs us KX hl=>hd T kV doc pm an cdv ct us its oT n s hv hl (KX _ _ hT) hs,hv,lu lk hcd S len λA outer s H vs Q E hr hsp=>hbody f cdv A outer s H vs Q E hr hsp⟩⟩;rw[List.append_nil]at hl ⊢;exact hb T kV doc pm an cdv ct us its oT n s hv hl (KX _ _ hT) hs
theorem Df.fx{P:Program}{w:World}{K:W.Frag}{mg:Str->Option Value}{base:Heap}{x:Str}{st:Stmt}{N ps:List Str}{k:Nat}{sp:Sp}(D:Df K mg x st)(S:uq N ps (ag st))
  (hbind:∀(kV doc pm:Value) (an:Option Addr) (cdv ct:Value) (us:List Value),us.length=ps.length->bindArgs (W.fnOf x x (aR st) (aF st) (ag st) .none kV doc pm an cdv ct) ⟨us,[]⟩=pure (ps.zip us))
  (len:∀vs H Q E,sp vs H Q E->vs.length=ps.length)
  (hbody:∀(f:Addr) (cdv:Value) (A:Around) (outer:List Env) (s:Shared) (H:Hp) (vs:List V) (Q:VK) (E:XK),uE k (A.deeper (envOfC x (ag st) s.heap.objs.size f cdv))->sp vs H Q E ->
   ∃t,PSs (ak (CXE P w) P w K mg base N x (ag st) f cdv A outer s H E) (aF st) t/\t { nx:=λ_ H'=>Q .non H',rt:=Q } (cz N vs) H):Fx P w K mg base x ps (k+1) [] sp:=by
 obtain⟨f,oc,od,kV,doc,pm,an,cdv,ct,osl,hm,lk,hcd,hk⟩:=D.ex;have hb:cg K (W.fnOf x x (aR st) (aF st) (ag st) .none kV doc pm an cdv ct) ps []:=.all (hbind kV doc pm an cdv ct);exact⟨⟨f,_,[],hm,hk,hb,hb,.nil,lu lk hcd S len λA outer s H vs Q E hr hsp=>hbody f cdv A outer s H vs Q E hr hsp⟩⟩
theorem bQ{P:Program}{w:World}{K:W.Frag}{mg:Str->Option Value}{base:Heap}{N:List Str}{qual:Str}{scope:Scope}{f:Addr}{cdv:Value}{A:Around}{outer:List Env}{s₀:Shared}{H₀:Hp}{E:XK}
  {x:Str} {ps:List Str} {k:Nat} {ds:List V} {sp:Sp} {p pos:Pos} {e:Expr} {es:List Expr} {t:TA} (F:Fx P w K mg base x ps k ds sp) (hr:uE k (ak (CXE P w) P w K mg base N qual scope f cdv A outer s₀ H₀ E).A) (hg:Gl (ak (CXE P w) P w K mg base N qual scope f cdv A outer s₀ H₀ E) x)
  (ha:PA (ak (CXE P w) P w K mg base N qual scope f cdv A outer s₀ H₀ E) (e::es) t)
  (hdb:(x == ("__debug__" : Str))=false:=by decide) (he:starEach (e::es) (ak (CXE P w) P w K mg base N qual scope f cdv A outer s₀ H₀ E).env=(false,eval e (ak (CXE P w) P w K mg base N qual scope f cdv A outer s₀ H₀ E).env)::starEach es (ak (CXE P w) P w K mg base N qual scope f cdv A outer s₀ H₀ E).env:=by rfl)
  (hpl:(backTo pos (starEach es (ak (CXE P w) P w K mg base N qual scope f cdv A outer s₀ H₀ E).env)).any (·.1)=false:=by rfl) :
  PE (ak (CXE P w) P w K mg base N qual scope f cdv A outer s₀ H₀ E) (.Call (.Name x p) (e::es) [] pos) (kT sp [] E t):=by
 obtain⟨g,fd,its,hm,hk,hb,_,_,G⟩:=F.ex;exact ic G hr hg hm hk hb .nil (ig λ_ _ _ z=>z) ha hdb he hpl
theorem ee{P:Program}{w:World}{X:Cx}:cp (CXE P w) X E0:=λ_ _ _ _ _ _ _ h=>by
 obtain⟨_,_,_,_,_,_,_,_,_,_,_,_,_,q,_⟩:=h;exact q.elim
section
variable {X:Cx}
variable {x fn:Str} {i:Nat} {ps:List Str} {k:Nat} {ds:List V} {sp:Sp} {e:Expr} {es:List Expr} {ta:TA} {px pf cpos pos:Pos}
theorem pK{st:Stmt}{t:TX}(h1:PX X st t):PXs X [st] t:=by
 intro pins s σ H D R I h;refine wpAny_execs_cons (thn (h1 pins s σ H D R I h) λf s1 q=>?_);cases f with
 | next=>exact wpAny_execs_nil q
 | ret v=>exact q
 | brk=>exact q
 | cont=>exact q
end
end L2
namespace Sp2
open PySem PySem.Spec L2 Mth Sp1
theorem jm{H:Hp}{p:Addr}{a b:Int}(e:H p=some (.tup [.int a,.int b])):ge H (.ref p)=fC a b:=by
 simp only[ge,e,il]
structure w4(H:Hp)(l:Addr)(qs:List (Addr×Int×Int)):Prop where
 lst:H l=some (.lst (qs.map λq=>V.ref q.1))
 crn:∀q∈qs,H q.1=some (.tup [.int q.2.1,.int q.2.2])/\cQ q.2.1<=50/\cQ q.2.2<=50
theorem w4.mono{H H':Hp}{l:Addr}{qs:List (Addr×Int×Int)}(L:w4 H l qs)(s:Same H H'):w4 H' l qs:=⟨s _ _ L.lst,λq h=>⟨s _ _ (L.crn q h).1,(L.crn q h).2⟩⟩
end Sp2
namespace L2
open PySem PySem.Spec PyProof.Rows
noncomputable abbrev Cx.blk(X:Cx)(N':List Str)(scope:Scope)(cl:List (Str×Addr))(fp:List Addr)(s₀:Shared)(H₀:Hp):Cx :=
 { X with N:=N',s₀:=s₀,H₀:=H₀,env:=compEnvC scope cl s₀.heap.objs.size X.env,outer:=X.stack,ex:=fp,fn:=λ_=>false,pn:=[],xe:=λ_ _=>False }
theorem a6{α:Type}{y:Str}{c:α}:∀{l:List (Str×α)},l.lookup y=some c->(y,c)∈l
 | [],h=>by simp at h
 | (n,d)::r,h=>by
  rw[List.lookup_cons]at h;cases e:y == n with
  | true =>
   rw[e]at h;cases h;rw[beq_iff_eq.mp e];exact List.mem_cons_self
  | false =>
   rw[e]at h;exact List.mem_cons_of_mem _ (a6 h)
structure uQ(X:Cx)(scope:Scope)(cl:List (Str×Addr))(x:Str)(fv:List (Str×Nat)):Prop where
 clos:closureFor scope X.env=pure cl
 kind:scope.kind = .function
 cell:∀y∈scope.names,y.2≠.cell
 names:∀y∈scope.names,y.2 = .local->scope.names.lookup y.1=some .local
 own:scope.names.lookup x=some .local
 cells:∀p∈cl,X.env.cells.lookup p.1=some p.2
 has:((relabel scope X.env).names.all λq=>!(q.2 == .cell || q.2 == .free) || (cl.lookup q.1).isSome)=true
 nd:(x::fv.map (·.1)).Nodup
 slot:∀p∈fv,X.N[p.2]? = some p.1/\X.env.kindOf p.1=some .cell/\Vis X.env.scope p.1/\(cl.lookup p.1).isSome=true/\((relabel scope X.env).names.lookup p.1=some .cell)
 stk:X.stack=X.env::X.outer/\X.env.frame=some X.env.locals
 noex:X.ex = []
noncomputable def fvs(fv:List (Str×Nat))(σ:St):St:=fv.map λp=>(σ[p.2]?).join
noncomputable def qM(wi:TI)(fv:List (Str×Nat))(te:TE):TE:=λσ H Q=>wi σ H λJ H1=>∀p,H1 p=none->∃W:Nat->Nat->List V->Hp->Prop,(∃m,W 0 m [] (upd H1 p (.lst [])))/\∀i m acc H2,W i m acc H2 ->
 H2 p=some (.lst acc)/\acc.length<sizeLine/\((J.stop i H2/\Q (.ref p) H2)\/(J.go i H2/\∀x H3,J.yld i H2 x H3->te (some x::fvs fv σ) H3 λy H4=>H4 p=some (.lst acc)/\∃m',m'<m/\W (i+1) m' (acc++[y]) (upd H4 p (.lst (acc++[y])))))
section
variable {X:Cx} {scope:Scope} {cl:List (Str×Addr)} {x:Str} {fv:List (Str×Nat)} {elt iter:Expr} {px pos:Pos} {te:TE}
theorem sf{pins:List (Addr×Obj)}{σ:St}{H:Hp}{s:Shared}{fp:List Addr}(C:uQ X scope cl x fv)(I:ur X pins σ H s)(hf:∀b∈fp,bI X pins H b)(ho:∀b∈fp,b<s.heap.objs.size):(X.blk (x::fv.map (·.1)) scope cl fp s H).Ok:=by
 have hcl:∀y c,cl.lookup y=some c->X.env.cells.lookup y=some c:=λy c h=>C.cells _ (a6 h);have old:∀b∈fp,X.s₀.heap.objs.size<=b:=λb hb=>by
  rcases(hf b hb).2.2.2.1 with z|z
  ·rw[C.noex]at z
   cases z
  ·exact z
 refine⟨I.ok.mod,by show(relabel scope X.env).kind=_;exact C.kind,I.ok.glob,I.ok.blt,Nat.le_refl _,λy z c h1 h2=>I.ok.inj y z c (hcl y c h1) (hcl z c h2),λy hy=>?_,(λy c h=>by cases h),I.ok.hd,I.ok.frames,.inl rfl,λb hb=>?_,λb o e=>I.bs b o e,Nat.le_trans I.ok.bsz I.sz,λb o e hb=>?_,λb hb hm=>?_,I.stack,I.stkFree⟩
 ·have q:=C.has
  rw[List.all_eq_true]at q;have hm:∃k,(y,k)∈(relabel scope X.env).names/\(k = .cell\/k = .free):=by
   rcases hy with hy|hy
   ·exact⟨_,a6 hy,.inl rfl⟩
   ·exact⟨_,a6 hy,.inr rfl⟩
  obtain⟨k,hk,hk2⟩:=hm;have q2:=q _ hk;have q3:(cl.lookup y).isSome=true:=by
   rcases hk2 with rfl|rfl
   ·simpa using q2
   ·simpa using q2
  exact Option.isSome_iff_exists.mp q3
 ·obtain⟨f0,f1,f2,f3,f4,f5⟩:=hf b hb
  refine⟨?_,λy c h=>f4 y c (hcl y c h)⟩;exact Nat.ne_of_lt (ho b hb)
 ·have z:=Heap.lt_size e
  have z2:=old b hb;exact absurd (Nat.lt_of_lt_of_le z (Nat.le_trans I.ok.bsz z2)) (Nat.lt_irrefl _)
 ·obtain⟨f0,f1,f2,f3,f4,f5⟩:=hf b hb
  rcases List.mem_cons.mp (I.stkSub b hm) with z|z
  ·exact f1 z
  ·exact f2 z
theorem lJ{pins:List (Addr×Obj)}{σ:St}{H:Hp}{s s4:Shared}{fp:List Addr}(C:uQ X scope cl x fv)(I:ur X pins σ H s)(hf:∀b∈fp,bI X pins H b)(ho:∀b∈fp,b<s.heap.objs.size)
  (hs:s4.os=s.os/\s4.gens=s.gens) (ns:s4.heap.Ns s.heap.objs.size λ_=>none) (kp:∀b o,s.heap.get? b=some o->s4.heap.get? b=some o) :
  ur (X.blk (x::fv.map (·.1)) scope cl fp s H) [] (none::fvs fv σ) H s4:=by
 have hcl:∀y c,cl.lookup y=some c->X.env.cells.lookup y=some c:=λy c h=>C.cells _ (a6 h);refine⟨sf C I hf ho,hs.1,by rw[hs.2];exact I.bare,Un.kept kp,⟨_,ns,λi y v e1 e2 e3=>?_⟩,λy c h=>?_,I.hok.fresh (Nat.le_refl _),λy c h=>I.freeC y c (hcl y c h),λp hp=>by simp at hp,I.hok.kept kp,by simp[fvs]⟩
 ·cases i with
  | zero=>simp at e2
  | succ j =>
   have e1':(fv.map (·.1))[j]? = some y:=by simpa using e1
   have e2':(fvs fv σ)[j]? = some (some v):=by simpa using e2
   rw[List.getElem?_map]at e1';unfold fvs at e2';rw[List.getElem?_map]at e2';cases hq:fv[j]? with
   | none =>
    rw[hq]at e1';cases e1'
   | some q =>
    rw[hq]at e1' e2';have ey:q.1=y:=Option.some.inj e1';have ev:(σ[q.2]?).join=some v:=Option.some.inj e2';have hm:q∈fv:=List.mem_of_getElem? hq;obtain⟨s1,s2,s3,s4',s5⟩:=C.slot q hm;have ev2:σ[q.2]? = some (some v):=by
     cases hz:σ[q.2]? with
     | none =>
      rw[hz]at ev;cases ev
     | some z =>
      rw[hz]at ev;have ev':z=some v:=ev;rw[ev']
    obtain⟨m,hn,hl⟩:=I.loc;obtain⟨u,r,lk⟩:=hl q.2 q.1 v s1 ev2 s3;obtain⟨c,hc⟩:=Option.isSome_iff_exists.mp s4';refine⟨u,r,.inr ⟨.inl (by rw[<- ey];exact s5),c,by rw[<- ey];exact hc,?_⟩⟩;rcases lk with⟨k,_⟩|⟨_,c',hc',z⟩
    ·rw[s2]at k
     cases k
    ·rw[hcl _ _ hc]at hc'
     cases hc';obtain⟨o,ho',hd⟩:=z;exact⟨o,kp _ _ ho',hd⟩
 ·obtain⟨v,o,ho',hd⟩:=I.cell y c (hcl y c h)
  exact⟨v,o,kp _ _ ho',hd⟩
theorem lI{pins:List (Addr×Obj)}{σ:St}{H2:Hp}{s2:Shared}{it:Addr}{fp:List Addr}{tn:Nat->Heap->Prop}{J:It}{RR:Value->Addr->Result->Shared->Prop}{E:Value->Shared->Prop}{Qf:V->Hp->Prop}
  (hcalm:X.calm=true) (C:uQ X scope cl x fv) (I2:ur X pins σ H2 s2) (T:xr X.prog X.w X.K (.Name x px) J fp it tn) (st:tn 0 s2.heap) (f2:∀b∈fp,bI X pins H2 b)
  (rd:∀p,H2 p=none->∃W:Nat->Nat->List V->Hp->Prop,(∃m,W 0 m [] (upd H2 p (.lst [])))/\∀i m acc H2,W i m acc H2 ->
   H2 p=some (.lst acc)/\acc.length<sizeLine/\((J.stop i H2/\Qf (.ref p) H2)\/(J.go i H2/\∀x H3,J.yld i H2 x H3->te (some x::fvs fv σ) H3 λy H4=>H4 p=some (.lst acc)/\∃m',m'<m/\W (i+1) m' (acc++[y]) (upd H4 p (.lst (acc++[y]))))))
  (he:∀(s₀:Shared) (H₀:Hp),PE (X.blk (x::fv.map (·.1)) scope cl fp s₀ H₀) elt te)
  (hRR:∀(p C:Addr) (H':Hp) (s':Shared),(∃m,s'.heap.Ns C m)->C≠X.env.locals->H' C=none->X.s₀.heap.objs.size<=C->(∀y c,X.env.cells.lookup y=some c->c≠C)->(∀q∈X.pn++pins,q.1≠C)->ur X pins σ H' s'->Qf (.ref p) H'->RR (.ref p) C (.ok .next) s') :
  wpAny (model X.prog X.w) X.A (newList []) (λacc s₃=>wpAny (model X.prog X.w) X.A (newFunctionEnv scope X.env.globals cl [] X.env.qual none .none (some X.env)) (λcenv s₄ =>
   codeAny (model X.prog X.w) X.A (.compStart (.ListComp elt [⟨.Name x px,iter,[],0⟩] scope pos) 0 (.ref it) acc { cenv with scope:=relabel scope X.env }) (RR acc cenv.locals) s₄) E s₃) E s2:=by
 refine wpAny_newObj_type ?_;have hfresh:=I2.fresh;have I3:ur X pins σ (upd H2 s2.heap.objs.size (.lst [])) { s2 with heap:=s2.heap.push { cls:=.type "list",data:=.seq ([]:List Value).toArray } } :=
  I2.laid (t':=s2.toks) (λb u q=>Heap.get?_push_of_some _ q) (Nat.le_refl _) ⟨Nat.zero_le _,[],0,.nil,Heap.get?_push_size _ rfl⟩
 generalize hs3:({ s2 with heap:=s2.heap.push { cls:=.type "list",data:=.seq ([]:List Value).toArray } }:Shared)=s3 at I3 ⊢;have hp3:s2.heap.objs.size<s3.heap.objs.size:=by rw[<- hs3];exact Nat.lt_of_lt_of_le (Nat.lt_succ_self _) (Nat.le_of_eq (Heap.size_push _ _).symm)
 have k23:∀b o,s2.heap.get? b=some o->s3.heap.get? b=some o:=λb o e=>by rw[<- hs3];exact Heap.get?_push_of_some _ e
 have fpo:∀b∈fp,b<s2.heap.objs.size:=λb hb=>by
  obtain⟨o,e,_⟩:=T.obj 0 _ st b hb;exact Heap.lt_size e
 have f3:∀b∈fp,bI X pins (upd H2 s2.heap.objs.size (.lst [])) b:=λb hb=>⟨by rw[aA (Nat.ne_of_lt (fpo b hb))];exact(f2 b hb).1,(f2 b hb).2⟩;refine wpAny_newFunctionEnv C.cell (by intro y hy;simp at hy) (λh1 hns1 hsb1=>?_) C.kind;have kp:∀b o,s3.heap.get? b=some o->h1.get? b=some o:=λb o e=>(hsb1.2 b (Nat.ne_of_lt (Heap.lt_size e))).trans (Heap.get?_push_of_some _ e);have I4:=lJ (s4:={ s3 with heap:=h1,toks:=s3.toks+([]:List (Str×Value)).length }) C I3 f3 (λb hb=>Nat.lt_trans (fpo b hb) hp3) ⟨rfl,rfl⟩ hns1 kp;have st4:tn 0 h1:=T.keep 0 _ _ st λb _ o e=>kp b o (k23 b o e);obtain⟨W,⟨m0,w0⟩,step⟩:=rd _ hfresh;have loop:codeAny (model X.prog X.w) X.A (.compLoop (.ListComp elt [⟨.Name x px,iter,[],0⟩] scope pos) 0 (.ref it) (.ref s2.heap.objs.size) (compEnvC scope cl s3.heap.objs.size X.env)) (RR (.ref s2.heap.objs.size) s3.heap.objs.size)
   { s3 with heap:=h1,toks:=s3.toks+([]:List (Str×Value)).length }:=by
  refine codeAny_compLoop_list (λn s=>∃i acc σv H',ur (X.blk (x::fv.map (·.1)) scope cl fp s3 (upd H2 s2.heap.objs.size (.lst []))) [] (σv::fvs fv σ) H' s/\tn i s.heap/\(∀b∈fp,H' b=none)/\W i n acc H') ?_ m0 ⟨0,[],none,_,I4,st4,λb hb=>(f3 b hb).1,w0⟩;rintro n s ⟨i,acc,σv,H',I',st',fr',w'⟩;obtain⟨hp,hlen,alt⟩:=step i n acc H' w';have fpk:∀{H5:Hp},(∀b∈fp,H5 b=none)->∀b∈fp,bI (X.blk (x::fv.map (·.1)) scope cl fp s3 (upd H2 s2.heap.objs.size (.lst []))) [] H5 b:=λh5 b hb =>
   ⟨h5 b hb,(I'.ok.exf b hb).1,I'.ok.exfs b hb,.inl hb,λy c e=>(I'.ok.exf b hb).2 y c e,λq hq=>by simp at hq⟩
  rcases alt with⟨stop,qf⟩|⟨go,turn⟩
  ·refine wpAny_mono (T.done (X.blk (x::fv.map (·.1)) scope cl fp s3 (upd H2 s2.heap.objs.size (.lst []))) rfl rfl rfl hcalm i [] s _ H' (λ_ _=>False) I' (fpk fr') st' stop) (λr s5 ⟨hr,I5⟩=>?_) λ_ _ z=>False.elim z
   subst hr;refine hRR _ _ H' s5 (let ⟨m,hn,_⟩:=I5.loc;⟨m,hn⟩) (Nat.ne_of_gt I3.lt) I5.free I3.sz (λy c e=>?_) (λq hq=>?_) ?_ qf
   ·obtain⟨v,z⟩:=I3.cell y c e
    exact Nat.ne_of_lt z.lt
   ·exact Nat.ne_of_lt (Heap.lt_size (I3.pin q hq).1)
   ·exact I3.call' (s':=s5) (ch:=fp) I5.os I5.base I5.hok I5.bare λb hb=>⟨(f2 b hb).2.2.2.1,(f2 b hb).2.1,(f2 b hb).2.2.2.2.1,(f2 b hb).2.2.2.2.2⟩
  ·refine wpAny_mono (T.item (X.blk (x::fv.map (·.1)) scope cl fp s3 (upd H2 s2.heap.objs.size (.lst []))) rfl rfl rfl hcalm i [] s _ H' (λ_ _=>False) I' (fpk fr') st' go) (λr s5 ⟨u,hr,h5⟩=>?_) λ_ _ z=>False.elim z
   subst hr;have e5:assign (.Name x px) (compEnvC scope cl s3.heap.objs.size X.env) u=(letOwnedTupleGo (.Name x px) (.ref it) u >>= λ_=>assign (.Name x px) (compEnvC scope cl s3.heap.objs.size X.env) u):=by
    rw[show letOwnedTupleGo (.Name x px) (.ref it) u=pure () from rfl];rfl
   show wpAny _ _ (assign (.Name x px) (compEnvC scope cl s3.heap.objs.size X.env) u) _ _ _;rw[e5];refine wpAny_bind (wpAny_mono h5 (λ_ s6 ⟨y,H6,I6,r6,y6,st6,fr6⟩=>?_) λ_ _ z=>False.elim z);have I6':=I6.pinned (fpk fr6) (T.obj _ _ st6);have lx:(relabel scope X.env).names.lookup x=some .local:=lookup_relabel_local C.own;refine wpAny_mono (bg (X:=X.blk (x::fv.map (·.1)) scope cl fp s3 (upd H2 s2.heap.objs.size (.lst []))) (i:=0) C.nd rfl (.inl lx) (.inr lx) _ s6 _ H6 y u (λσ7 H7=>σ7=some y::fvs fv σ/\H7=H6) I6' r6 ⟨rfl,rfl⟩) (λ_ s7 ⟨σ7,H7,I7,e7,e7'⟩=>?_) λ_ _ z=>False.elim z;subst e7 e7';refine wpAny_mono (he s3 _ _ s7 _ _ _ I7 (turn y _ y6)) (λv8 s8 ⟨y8,H8,I8,r8,q8,m',hm',w8⟩=>?_) λ_ _ z=>False.elim z;refine wpAny_mono (bJ (X:=X.blk (x::fv.map (·.1)) scope cl fp s3 (upd H2 s2.heap.objs.size (.lst []))) _ s8 _ H8 (.ref s2.heap.objs.size) [y8] (.ref s2.heap.objs.size) [v8] (λ_ H9=>H9=upd H8 s2.heap.objs.size (.lst (acc++[y8]))) I8 rfl (.cons r8 .nil) ⟨_,acc,y8,rfl,rfl,q8,hlen,rfl⟩) (λ_ s9 ⟨_,H9,I9,_,e9⟩=>?_) λ_ _ z=>False.elim z;subst e9;refine⟨m',hm',i+1,acc++[y8],some y,_,I9.unpinned,T.keep _ _ _ st6 λb hb o e=>(I9.pin (b,o) (List.mem_append_right _ (List.mem_append_right _ (aX hb e)))).1,λb hb=>?_,w8⟩;obtain⟨o,e,d⟩:=T.obj _ _ st6 b hb;exact(I9.pin (b,o) (List.mem_append_right _ (List.mem_append_right _ (aX hb e)))).2.1
 exact codeAny_compStart_list loop (T.self _ 0 _ _ _ st4 loop)
theorem ib{wi:TI}(hcalm:X.calm=true)(C:uQ X scope cl x fv)(hi:PI X (.Name x px) iter wi)(he:∀(fp:List Addr) (s₀:Shared) (H₀:Hp),PE (X.blk (x::fv.map (·.1)) scope cl fp s₀ H₀) elt te)
  (hs:∀v,foldedSetIterable iter X.env v=pure v:=by intro _;rfl):PE X (.ListComp elt [⟨.Name x px,iter,[],0⟩] scope pos) (qM wi fv te):=by
 intro pins s σ H Q I h;rw[eval_ListComp];refine wpAny_comprehension_free (use:=none) rfl hs C.clos C.kind C.names (wpAny_mono (hi pins s σ H _ I h) (λv s1 h1=>wpAny_mono h1 (λitv s2 h2=>?_) λ_ _ z=>z) λ_ _ z=>z);obtain⟨it,fp,tn,J,H2,rfl,I2,T,st2,f2,rd⟩:=h2;refine lI (Qf:=Q) hcalm C I2 T st2 f2 rd (he fp) λp D H' s' ns nL nH n0 nC nP I8 q=>?_;obtain⟨m,hn⟩:=ns;exact⟨m,hn,λh'' sb=>⟨.ref p,H',I8.turned (t':=s'.toks) (λb o hb e=>(sb.2 b hb).trans e) nH nL (.inr n0) nC nP,rfl,q⟩⟩
theorem kg{wi:TI}{y:Str}{j:Nat}{py spos:Pos}(hcalm:X.calm=true)(C:uQ X scope cl x fv)(hN:X.N.Nodup)(hj:X.N[j]? = some y)(hy:X.env.scope.names.lookup y=some .local)(hi:PI X (.Name x px) iter wi)(he:∀(fp:List Addr) (s₀:Shared) (H₀:Hp),PE (X.blk (x::fv.map (·.1)) scope cl fp s₀ H₀) elt te)
  (hsw:swapsWith (.ListComp elt [⟨.Name x px,iter,[],0⟩] scope pos) (some (.Name y py)) spos.line X.env=pure true:=by rfl)
  (hs:∀v,foldedSetIterable iter X.env v=pure v:=by intro _;rfl):PS X (.Assign [.Name y py] (.ListComp elt [⟨.Name x px,iter,[],0⟩] scope pos) spos) (lU (qM wi fv te) (dI j)):=by
 intro pins s σ H D I h;rw[exec_Assign_Name_used _ _ _ _ hsw];refine wpAny_bind (wpAny_standAt (wpAny_bind ?_));show wpAny _ _ (do let _ <- comprehension (.ListComp elt [⟨.Name x px,iter,[],0⟩] scope pos) scope X.env _ (newList []) false (eval iter X.env) (some (assign (.Name y py) X.env))) _ _ s
 refine wpAny_bind (wpAny_mono (wpAny_comprehension_free (use:=some (assign (.Name y py) X.env)) (Q:=λ_ s'=>SP X pins D .next s') rfl hs C.clos C.kind C.names
  (wpAny_mono (hi pins s σ H _ I h) (λv s1 h1=>wpAny_mono h1 (λitv s2 h2=>?_) λ_ _ z=>z) λ_ _ z=>z)) (λ_ s' hq=>wpAny_pure (wpAny_pure hq)) λ_ _ z=>z)
 obtain⟨it,fp,tn,J,H2,rfl,I2,T,st2,f2,rd⟩:=h2;refine lI (Qf:=λv H'=>dI j v σ H' D.nx) hcalm C I2 T st2 f2 rd (he fp) λp D' H' s' ns nL nH n0 nC nP I8 q=>?_;obtain⟨m,hn⟩:=ns;show wpAny _ _ (assign (.Name y py) X.env (.ref p)) _ _ _;refine wpAny_assign_Name (cJ I8 hN hj (.inl hy) (v:=.ref p) rfl (λs9 I9 ⟨a,sb,ha⟩=>?_) (.inr hy));have aD:D'≠a:=by
  rintro rfl;rcases ha with z|z
  ·exact nL z
  ·exact nC y _ z rfl
 exact⟨m,hn.sameBut sb aD,λh'' sb2=>⟨_,H',I9.turned (t':=s9.toks) (λb o hb e=>(sb2.2 b hb).trans e) nH nL (.inr n0) nC nP,q⟩⟩
end
noncomputable def m8(s:Stmt):Scope:=match s with
 | .Assign _ (.ListComp _ _ sc _) _=>sc
 | _=>{ kind:=.function,names:=[],isGenerator:=false,isCoroutine:=false }
theorem dA{X:Cx}{K:W.Frag}(h:X.K=K):IxR X (As K):=h▸bB
theorem ce{K:W.Frag}{a:Addr}{xs:List V}{fv:List (Str×Nat)}{te:TE}{σ:St}{H1:Hp}{Qp:Hp->Prop}{l:Addr}(Pv:Nat->List V->Hp->Prop)(h0:Pv 0 [] (upd H1 l (.lst [])))(hp:∀i acc H2,i<=xs.length->Pv i acc H2->SqL K H2 a xs/\H2 l=some (.lst acc)/\acc.length<sizeLine)
  (hs:∀i x acc H2 (Kc:VK),xs[i]? = some x->Pv i acc H2->(∀y H4,H4 l=some (.lst acc)->Pv (i+1) (acc++[y]) (upd H4 l (.lst (acc++[y])))->Kc y H4)->te (some x::fvs fv σ) H2 Kc) (hd:∀acc H2,Pv xs.length acc H2->Qp H2) :
  ∃W:Nat->Nat->List V->Hp->Prop,(∃m,W 0 m [] (upd H1 l (.lst [])))/\∀i m acc H2,W i m acc H2 ->
   H2 l=some (.lst acc)/\acc.length<sizeLine/\(((Itl K a).stop i H2/\Qp H2)\/((Itl K a).go i H2/\∀x H3,(Itl K a).yld i H2 x H3->te (some x::fvs fv σ) H3 λy H4=>H4 l=some (.lst acc)/\∃m',m'<m/\W (i+1) m' (acc++[y]) (upd H4 l (.lst (acc++[y]))))):=by
 refine⟨λi m acc H2=>m=xs.length - i/\i<=xs.length/\Pv i acc H2,⟨xs.length,by simp,Nat.zero_le _,h0⟩,?_⟩;rintro i m acc H2 ⟨rfl,hi,p⟩;obtain⟨q1,q2,q3⟩:=hp i acc H2 hi p;refine⟨q2,q3,?_⟩
 by_cases hlt:i<xs.length
 ·refine .inr ⟨⟨xs,xs[i],q1,List.getElem?_eq_getElem hlt⟩,λx H3 y=>?_⟩
  obtain⟨e1,e2⟩:=y;subst e1;exact hs i x acc _ _ (e2 xs q1) p λy H4 z1 z2=>⟨z1,xs.length - (i+1),by omega,rfl,hlt,z2⟩
 ·have e:i=xs.length:=by omega
  subst e;exact .inl ⟨⟨xs,q1,Nat.le_refl _⟩,hd acc H2 p⟩
theorem kR{xs:List V}{us:List Value}{j:Nat}(r:aE xs us)(h:j<us.length):∃a,xs[j]? = some a/\aN a us[j]:=by
 have hl:=r.length;have hj:j<xs.length:=by omega
 obtain⟨u,e,q⟩:=r.get (i:=j) (x:=xs[j]) (List.getElem?_eq_getElem hj);rw[List.getElem?_eq_getElem h]at e;cases e;exact⟨xs[j],List.getElem?_eq_getElem hj,q⟩
end L2
namespace L2
open PySem
theorem uE.units10{k:Nat}{A:Around}(r:uE k A):A.units+10<cLine:=by have:=r.un;omega
end L2
namespace Sp3
open PySem PySem.Spec L2 Mth Sp1 Sp2
theorem vF.mono{H H':Hp}{x:V}(h:vF H x)(s:Same H H'):vF H' x:=by
 obtain⟨⟨t,k⟩,pt⟩:=h;refine⟨⟨t,k.mono s⟩,λp xs e1 e2 y hy=>?_⟩;subst e1;have e3:H p=some (.tup xs):=by
  cases k with
  | lst e=>rw[s _ _ e]at e2;cases e2
  | tup e=>rw[s _ _ e]at e2;cases e2;exact e
  | dict e=>rw[s _ _ e]at e2;cases e2
 obtain⟨t',k'⟩:=pt p xs rfl e3 y hy;exact⟨t',k'.mono s⟩
noncomputable abbrev Crn:=List (Addr×Int×Int)
end Sp3
namespace PySem
open Sem (wp)
noncomputable abbrev Lk{α:Type}(M:Model)(h:Heap)(t:Sem α)(r:α):Prop:=∀(A:Around) (Q:α->Shared->Prop) (E:Value->Shared->Prop) (g:Array GenState) (d:Drawn) (tk:Nat) (os:OsState),Q r ⟨h,g,d,tk,os⟩->wpAny M A t Q E ⟨h,g,d,tk,os⟩
section
variable {prog:Program} {w:World} {A:Around} {E:Value->Shared->Prop} {h:Heap} {g:Array GenState} {d:Drawn} {t:Nat} {os:OsState} {a:Addr} {o:Obj}
 {nm q:Str} {C N:Addr} {bs bm:List Value} {hdct:Bool} {sn:List Str} {sub:List Value} {ab:Bool} {col:Option Bool} {dd:Option Addr} {k0 k1 k2 k3 k5:Option Value} {newId:String}
theorem gq{R:Result->Shared->Prop}(atC:h.get? C=some (excClassObj nm q C N bs bm hdct sn sub ab col dd k0 k1 k2 k3 k5 newId))(hO:bm.contains (.type "object")=true)
  (atE:h.get? a=some o) (clE:o.cls = .ref C) (fin:R (.ok (.ret (.ref C))) ⟨h,g,d,t,os⟩) :
  codeAny (model prog w) A (.call (.builtin "getset_descriptor.__get__") ⟨[.builtin "object.__class__",.ref a,.ref C],[]⟩) R ⟨h,g,d,t,os⟩:=by
 have tg:(⟨h,g,d,t,os⟩:Shared).TypeIs (.builtin "object.__class__") "getset_descriptor":=F.typeOf_object_class;have e0:(".".intercalate ("object.__class__".cutAt '.').dropLast) = "object":=by
  have e0:"object.__class__".cutAt '.' = ["object","__class__"]:=by first|rfl|decide +kernel
  rw[e0];decide +kernel
 have cont:(Value.ref C::bm).contains (.type (".".intercalate ("object.__class__".cutAt '.').dropLast))=true:=by
  rw[e0,List.contains_cons,hO,Bool.or_true]
 refine codeAny_call_builtin F.slot_gs_get.plain F.entry_gs_get (F.slot_gs_get.check _ _ _ _ _ _ _ _ tg (F.args_gs_get _ _ _) ?_)
 repeat (any_goals (first|assumption|(with_reducible refine wpAny_loadPart_at atE ?_;rw[clE])|(with_reducible refine wpAny_isSubtype_exc atC ?_;rw[cont])|wp_step))
 refine⟨Code.quiet_builtin _ (by decide +kernel),codeAny_builtin F.entry_object_class ?_⟩
 repeat (any_goals (first|assumption|(with_reducible refine wpAny_loadPart_at atE ?_;rw[clE])|wp_step))
theorem iL{M:Model}{nameV:Value}{Q:Unit->Shared->Prop}(atC:h.get? C=some (excClassObj nm q C N bs bm hdct sn sub ab col dd k0 k1 k2 k3 k5 newId))(hB:bm.contains (.type "BaseException")=true)
  (atE:h.get? a=some o) (clE:o.cls = .ref C) (fin:Q () ⟨h,g,d,t,os⟩):wpAny M A (checkBuiltinCall "BaseException.__getattribute__" ⟨[.ref a,nameV],[]⟩) Q E ⟨h,g,d,t,os⟩:=by
 have kd:builtinKind "BaseException.__getattribute__" = some .slot:=by decide +kernel
 have spl:splitId "BaseException.__getattribute__" = some ("BaseException","__getattribute__"):=by decide +kernel
 have cont:(Value.ref C::bm).contains (.type "BaseException")=true:=by rw[List.contains_cons,hB,Bool.or_true]
 have okA:=F.args_bexc_ga (.ref a) nameV;simp only[checkBuiltinCall,kd,spl];refine wpAny_bind ?_
 ·unfold isInstance
  repeat (first|(with_reducible refine wpAny_loadPart_at atE ?_;rw[clE])|(with_reducible refine wpAny_isSubtype_exc atC ?_;rw[cont])|wp_step)
  exact fin
theorem eZ{tk:Tok}{Q:Fin->Shared->Prop}(atC:h.get? C=some (excClassObj nm q C N bs bm hdct sn sub ab col dd k0 k1 k2 k3 k5 newId))(hO:bm.contains (.type "object")=true)
  (lc:Lk (model prog w) h (typeLookup (.ref C) "__class__") (some (.builtin "object.__class__"))) (atE:h.get? a=some o) (clE:o.cls = .ref C) (fin:Q (.done (.ret (.ref C))) ⟨h,g,d,t,os⟩) :
  wpAny (model prog w) A (Builtin.«object.__getattribute__» ⟨[.ref a,.str "__class__" tk],[]⟩) Q E ⟨h,g,d,t,os⟩:=by
 have tg:(⟨h,g,d,t,os⟩:Shared).TypeIs (.builtin "object.__class__") "getset_descriptor":=F.typeOf_object_class;have tyC:=F.typeOf_object_class;have getL:=F.slot_gs_get.lookup;have setL:=F.slot_gs_set.lookup
 repeat (any_goals (first|assumption|(with_reducible refine wpAny_loadPart_at atE ?_;rw[clE])|with_reducible refine lc _ _ _ _ _ _ _ ?_|wp_step))
 refine gq atC hO atE clE ?_
 repeat (any_goals (first|assumption|wp_step))
theorem iK{tk:Tok}{Q:Value->Shared->Prop}(atC:h.get? C=some (excClassObj nm q C N bs bm hdct sn sub ab col dd k0 k1 k2 k3 k5 newId))(hO:bm.contains (.type "object")=true)(hB:bm.contains (.type "BaseException")=true)
  (lc:Lk (model prog w) h (typeLookup (.ref C) "__class__") (some (.builtin "object.__class__"))) (lg:Lk (model prog w) h (typeLookup (.ref C) "__getattribute__") (some (.builtin "BaseException.__getattribute__"))) (ln:Lk (model prog w) h (typeLookup (.ref C) "__getattr__") none)
  (atE:h.get? a=some o) (clE:o.cls = .ref C) (fin:Q (.ref C) ⟨h,g,d,t,os⟩) :
  wpAny (model prog w) A (getAttrBy (.ref a) (.str "__class__" tk) false) Q E ⟨h,g,d,t,os⟩:=by
 have bnd:=F.excAttr_ValueError.ga.bind (.ref a);have nh2:(Value.builtin "BaseException.__getattribute__" == Value.builtin "object.__getattribute__")=false:=by decide +kernel
 have nh1:(onTheHeap (Value.ref C) && Value.builtin "BaseException.__getattribute__" == Value.builtin "object.__getattribute__")=false:=by rw[nh2];rfl
 repeat (any_goals (first|assumption|(with_reducible refine wpAny_loadPart_at atE ?_;rw[clE])|with_reducible refine lg _ _ _ _ _ _ _ ?_|with_reducible refine ln _ _ _ _ _ _ _ ?_|wp_step))
 refine codeAny_call_builtin F.excAttr_ValueError.ga.plain F.entry_bexc_ga (iL atC hB atE clE (eZ atC hO lc atE clE ?_))
 repeat (any_goals (first|assumption|wp_step))
theorem fT{Q:Option Value->Shared->Prop}(atC:h.get? C=some (excClassObj nm q C N bs bm hdct sn sub ab col dd k0 k1 k2 k3 k5 newId))(hO:bm.contains (.type "object")=true)(hB:bm.contains (.type "BaseException")=true)
  (lc:Lk (model prog w) h (typeLookup (.ref C) "__class__") (some (.builtin "object.__class__"))) (lg:Lk (model prog w) h (typeLookup (.ref C) "__getattribute__") (some (.builtin "BaseException.__getattribute__"))) (ln:Lk (model prog w) h (typeLookup (.ref C) "__getattr__") none)
  (atE:h.get? a=some o) (clE:o.cls = .ref C) (fin:Q (some (.ref C)) ⟨h,g,d,t+1,os⟩) :
  wpAny (model prog w) A (getAttr? (.ref a) "__class__") Q E ⟨h,g,d,t,os⟩:=by
 unfold getAttr?
 repeat (any_goals (first|assumption|with_reducible refine iK atC hO hB lc lg ln atE clE ?_|wp_step))
end
end PySem
namespace L2
open PySem PySem.Spec PyProof.Rows
noncomputable def jA(C a:Addr):HO:=.ext λh=>∃o,h.get? a=some o/\o.cls = .ref C
theorem qk{P:Program}{w:World}{H:Hp}{h:Heap}{a C:Addr}(e:∃o,h.get? a=some o/\o.cls = .ref C):a8 P w H h a (jA C a) :=
 ⟨e,let ⟨o,e1,_⟩:=e;⟨o,e1⟩,λ_ _ ⟨o,e1,e2⟩ k=>⟨o,k o e1,e2⟩⟩
structure Ae(K:W.Frag)(C:Addr):Prop where
 ga:W.findIn K (.ref C) "__getattribute__" = some (some (.builtin "BaseException.__getattribute__"))
 gn:W.findIn K (.ref C) "__getattr__" = some none
 cl:W.findIn K (.ref C) "__class__" = some (some (.builtin "object.__class__"))
theorem oA{K:W.Frag}{M:Model}{h:Heap}{C:Addr}{n:Str}{r:Option Value}(X:K.In h)(e:W.findIn K (.ref C) n=some r):Lk M h (typeLookup (.ref C) n) r :=
 λ_ _ _ _ _ _ _ q=>(W.looks_findIn X e).here q
theorem fG{K:W.Frag}{mg:Str->Option Value}{n:Str}{C a:Addr}(O:uG K mg n C)(f:Ae K C):W.KitX K (.ref a) (.ref C) (λh=>∃o,h.get? a=some o/\o.cls = .ref C) where
 ty:=λM h _ p=>by
  obtain⟨o,e1,e2⟩:=p;exact e2▸(W.Looks.ld e1).andThen .now
 it:=λM h X _=>by
  obtain⟨bm,N',nm,qn,bs,hd,sn,sub,ab,col,dd,k0,k1,k2,k3,k5,mN,atC,_⟩:=O.obj h X;intro A' Q' E' s' k q;unfold isType loadHead;exact wpAny_bind (wpAny_loadPart (k _ _ atC) (wpAny_pure q))
 ne:=λh tp dd' its n' sl X htp=>by
  obtain⟨bm,N',nm,qn,bs,hd,sn,sub,ab,col,dd,k0,k1,k2,k3,k5,mN,atC,_⟩:=O.obj h X;refine Bool.eq_false_iff.mpr λq=>?_;cases Value.ref.inj (beq_iff_eq.mp q);rw[atC]at htp;have z:=congrArg Obj.cls (Option.some.inj htp);exact absurd (Value.type.inj z) (by decide)
 ca:=λ{prog w A E Q s} X p k=>by
  obtain⟨h,g,d,t,os⟩:=s;obtain⟨o,e1,e2⟩:=p;obtain⟨bm,N',nm,qn,bs,hd,sn,sub,ab,col,dd,k0,k1,k2,k3,k5,mN,atC,_,_,T⟩:=O.obj h X;exact fT atC (T.hasType (by decide +kernel)) (T.hasType (by decide +kernel)) (oA X f.cl) (oA X f.ga) (oA X f.gn) e1 e2 k
section
variable {X:Cx}
inductive At (K:W.Frag) (C:Addr) (xs:List V) (H:Hp) (Q:VK):Prop
 | mk:∀(a:Addr) (v:V) (b:Bool),(xs = [.ref a,v])->(H a=some (jA C a))->(((∃D,v = .ref D/\W.kitOne K (.ref C) (.ref D)=some b)\/(∃T,v = .ty T/\W.kitOne K (.ref C) (.type T)=some b)\/(∃(p:Addr) (ds:List Addr),v = .ref p/\H p=some (.tup (ds.map V.ref))/\W.kitAny K (.ref C) (ds.map Value.ref)=some b)))->(Q (.bl b) H)->At K C xs H Q
theorem gw:∀{ds:List Addr} {us:List Value},aE (ds.map V.ref) us->us=ds.map Value.ref
 | [],us,r=>by cases r;rfl
 | d::ds,us,r=>by
  cases r with
  | cons h t =>
   rw[gw t];cases h;rfl
theorem kN{n:Str}{C:Addr}(O:uG X.K X.mg n C)(f:Ae X.K C):bY X (.builtin "isinstance") (At X.K C):=by
 intro pins s σ H xs us Q I rs h;obtain⟨a,v,b,rfl,ea,hv,q⟩:=h;obtain⟨u,u',rfl,ru,rv⟩:=qH rs;cases ru;have p:∃o,s.heap.get? a=some o/\o.cls = .ref C:=(show a8 X.prog X.w H s.heap a (jA C a) from I.hok a _ ea).1;rcases hv with⟨D,rfl,e⟩|⟨T,rfl,e⟩|⟨p',ds,rfl,et,e⟩
 ·cases rv
  exact W.kia_one (fG O f) I.kIn p e (by intro z;cases z) λtk=>⟨.bl _,H,I.tok _,rfl,q⟩
 ·cases (show u'=Value.type T from rv)
  exact W.kia_one (fG O f) I.kIn p e (by intro z;cases z) λtk=>⟨.bl _,H,I.tok _,rfl,q⟩
 ·cases rv
  obtain⟨_,its,rv',⟨oc,odi,oda,osl⟩,eo,ec,nn,ed⟩:=I.hok _ _ et;dsimp only at ec ed;subst ec ed;cases gw rv';exact W.kia_tup (fG O f) I.kIn p eo e (by intro z;cases z) λtk=>⟨.bl _,H,I.tok _,rfl,q⟩
end
section
variable {X:Cx} {pins:List (Addr×Obj)} {σ:St} {H:Hp} {s:Shared}
theorem ur.track{a:Addr}{o:HO}(I:ur X pins σ H s)(hn:H a=none)(h0:X.s₀.heap.get? a=none)(hl:a≠X.env.locals)(hc:∀x c,X.env.cells.lookup x=some c->c≠a)(hp:∀p∈X.pn++pins,p.1≠a)
  (ho:a8 X.prog X.w (upd H a o) s.heap a o):ur X pins σ (upd H a o) s where
 ok:=I.ok
 os:=I.os
 bare:=I.bare
 base:={
  keep:=I.base.keep
  slot:=I.base.slot
  free:=λb ob e n hx=>by
   rw[aA (λz=>by subst z;rw[h0]at e;cases e)];exact I.base.free b ob e n hx
  there:=I.base.there
  tups:=λb xs q=>by
   have z:=I.base.tups b xs q;rw[aA (aK z hn)];exact z
  frzs:=λb ob u q=>by
   have z:=I.base.frzs b ob u q;rw[aA (aK z hn)];exact z
  tbls:=λb ps q=>by
   obtain⟨m,z⟩:=I.base.tbls b ps q;exact⟨m,by rw[aA (aK z hn)];exact z⟩ }
 loc:=I.loc
 cell:=I.cell
 free:=by rw[aA (Ne.symm hl)];exact I.free
 freeC:=λx c e=>by rw[aA (hc x c e)];exact I.freeC x c e
 pin:=λp m=>by
  obtain⟨p1,p2,p3⟩:=I.pin p m;exact⟨p1,by rw[aA (hp p m)];exact p2,p3⟩
 hok:=λb u q=>by
  by_cases hb:b=a
  ·subst hb
   rw[upd_same]at q;cases q;exact ho
  ·rw[aA hb]at q
   exact(I.hok b u q).stay (λ_ _ _ r=>r) (λc r=>by rw[aA (aK r hn)];exact r) λc xs r=>by rw[aA (aK r hn)];exact r
 len:=I.len
theorem fm{M:Model}{A:Around}{E:Value->Shared->Prop}{i:Nat}{x:Str}{pos:Pos}{Q:Unit->Shared->Prop}(I:ur X pins σ H s)(hN:X.N.Nodup)(hi:X.N[i]? = some x)(hk:X.env.kindOf x=some .local)
  (h:∀s',ur X pins (σ.set i none) H s'->Q () s'):wpAny M A (do bindName X.env x .none;unbindBehindTheSuite X.env x pos) Q E s:=by
 obtain⟨m,hn,hl⟩:=id I.loc;have plain:(X.env.scope.kind == .class || (X.env.scope.kind == .module && X.env.locals != X.env.globals))=false:=by rw[I.ok.kind];rfl
 have iσ:i<σ.length:=by rw[I.len];exact(List.getElem?_eq_some_iff.mp hi).1
 have cne:=I.cne;refine wpAny_nameGoes_keeps hk hn plain (λh' v hn' sb=>?_);have far:∀{b:Addr} {o:Obj},X.s₀.heap.get? b=some o->b≠X.env.locals:=λe=>Nat.ne_of_lt (Nat.lt_of_lt_of_le (Heap.lt_size e) I.ok.above);refine h _ ⟨I.ok,I.os,I.bare,⟨λb o e n hb hx=>(sb.2 b (far e)).trans (I.base.keep b o e n hb hx),λb o e n hb hx=>?_,I.base.free,λb o e hx=>?_,I.base.tups,I.base.frzs,I.base.tbls⟩,⟨_,hn',λj y v' e1 e2 e3=>?_⟩,λy c e=>?_,I.free,I.freeC,λp hp=>?_,λb ob e=>?_,by simpa using I.len⟩
 ·obtain⟨sl,z⟩:=I.base.slot b o e n hb hx
  exact⟨sl,(sb.2 b (far e)).trans z⟩
 ·obtain⟨o',z⟩:=I.base.there b o e hx
  exact⟨o',(sb.2 b (far e)).trans z⟩
 ·by_cases hj:j=i
  ·subst hj
   rw[List.getElem?_set_self iσ]at e2;cases e2
  ·rw[List.getElem?_set_ne (Ne.symm hj)]at e2
   obtain⟨u',r',q⟩:=hl j y v' e1 e2 e3;refine⟨u',r',?_⟩;rcases q with⟨k,e⟩|⟨k,c,e,z⟩
   ·have ny:y≠x:=λe=>hj (fA hN e1 (e▸hi))
    exact .inl ⟨k,by simp[ny,e]⟩
   ·exact .inr ⟨k,c,e,z.sameBut sb (cne y c e)⟩
 ·obtain⟨w',z⟩:=I.cell y c e
  exact⟨w',z.sameBut sb (cne y c e)⟩
 ·obtain⟨e,n,ne,nf,d⟩:=I.pin p hp
  exact⟨(sb.2 p.1 ne).trans e,n,ne,nf,d⟩
 ·refine(I.hok b ob e).stay (λc w' hc q=>(sb.2 c ?_).trans q) (λ_ q=>q) λ_ _ q=>q
  rintro rfl;rcases hc with rfl|hc
  ·rw[I.free]at e
   cases e
  ·rw[I.free]at hc
   cases hc
end
noncomputable def wn.drop(D:wn)(i:Nat):wn:={ nx:=λσ H=>D.nx (σ.set i none) H,rt:=D.rt,bk:=λσ H=>D.bk (σ.set i none) H,ct:=λσ H=>D.ct (σ.set i none) H }
section
variable {X:Cx}
theorem mE{pins:List (Addr×Obj)}{σ:St}{H:Hp}{s s':Shared}{E1:XK}{ev:Value}{x en:Str}{B C:Addr}{np pos:Pos}{b₀:Stmt}{suite:List Stmt}{rest:List ExceptHandler}{D:wn}{th:TS}{Ex:Value->Shared->Prop}{i:Nat}
  (I:ur X pins σ H s) (stk:X.stack=X.env::X.outer) (hf:X.env.frame=some X.env.locals) (O:uG X.K X.mg x B) (hg:Gl X x) (hm:W.exmOne X.K (.ref C) (.ref B)=some true) (hex:X.ex = []) (hN:X.N.Nodup) (hi:X.N[i]? = some en) (hk:X.env.kindOf en=some .local) (h:CXE X.prog X.w X.stack H s E1 ev s')
  (hE:∀c o H',E1 c o H'->c = .ref C/\∀e:Addr,H' e=none->th (D.drop i) (σ.set i (some (.ref e))) (upd H' e (jA C e))) (hb:∀e:Addr,PSs (X.inH e) (b₀::suite) th) (hdb:(x == ("__debug__" : Str))=false:=by decide) :
  wpAny (model X.prog X.w) X.A (noteFrame ev X.env) (λ_ s2=>wpAny (model X.prog X.w) X.A (setFlight ev none) (λ_ s3 =>
   wpAny (model X.prog X.w) X.A (handleBy ev X.env (.ExceptHandler (some (.Name x np)) (some en) (b₀::suite) pos::rest)) (SP X pins D) Ex s3) Ex s2) Ex s':=by
 obtain⟨ea,t,cls,H',B',rfl,os,bare,un,hok,fl,big,oq,q,cq⟩:=h;obtain⟨rfl,rd⟩:=hE _ _ _ q;have hfr:=I.ok.frames;rw[stk]at hfr;have fr:∀b∈frs X.stack,H b=none/\∀o,s'.heap.get? b=some o->∀vs,o.data≠.fields vs:=λb hb=>⟨I.stkFree b hb,λo eo=>by
  obtain⟨_,o',eo',nf⟩:=fl.2.2.1.mem hb;rw[eo]at eo';cases eo';exact nf⟩
 have J:∀h2:Heap,B'.StaysIn h2->s'.heap.UpToSlots h2->ur X pins σ H' { s' with heap:=h2 }:=λh2 st2 sl =>
  I.call' (s':={ s' with heap:=h2 }) (ch:=[]) os (Un.fly un big fl.1 st2 sl fr) (HOk.fly hok big fl.1 st2) bare λb z=>absurd z (by simp)
 have hn:H' ea=none:=by
  cases hz:H' ea with
  | none=>rfl
  | some o =>
   obtain⟨ob,e⟩:=big.tr ea o hz;rw[fl.2.1]at e;cases e
 have new:∀b o,s.heap.get? b=some o->b≠ea:=λb o e z=>by
  subst z
  by_cases hb:b∈frs X.stack
  ·obtain⟨_,o',eo',nf⟩:=fl.2.2.1.mem hb
   obtain⟨oe',vs,e1,_,e2,_⟩:=fl.first
   rw[eo']at e1;cases e1;exact nf vs e2
  ·obtain⟨ob,e1⟩:=big.old b o e hb
   rw[fl.2.1]at e1;cases e1
 have fl0:=fl;rw[stk]at fl0;refine wpAny_looks_onW (L:=X.env.locals) hfr hf fl0 λh4 hheld up4=>?_;refine wpAny_landsW hheld λh5 fl5 up5=>?_;have up45:=up4.trans up5;have I5:=(J h5 fl5.1 up45).inH ea;obtain⟨oe,he,hc⟩:=fl5.there;refine wpAny_handleBy_cons (codeAny_handlers_test (bU I5 hg O.bound ?_ hdb)) (by intro z;cases z);have LT:W.Looks (model X.prog X.w) h5 (typeOf (.ref ea)) (.ref C):=hc▸(W.Looks.ld he).andThen .now;refine(W.exm_one I5.kIn LT hm).here (codeAny_handlers_suite_as ?_);refine lands_againW fl5 λh6 fl6 up6=>?_;have I6:=(J h6 fl6.1 (up45.trans up6)).inH ea;have I7:=I6.track (a:=ea) (o:=jA C ea) hn (by
  cases hz:X.s₀.heap.get? ea with
  | none=>rfl
  | some o =>
   obtain⟨o',e⟩:=I.base.there ea o hz (by rw[hex];exact List.not_mem_nil);exact absurd rfl (new ea o' e)) (λz=>by
  obtain⟨m,⟨o',_,_,e,_⟩,_⟩:=I.loc;exact new _ o' e z.symm) (λy c e z=>by
  obtain⟨v,o',e',_⟩:=I.cell y c e;exact new _ o' e' z) (λp hp z=>new _ _ (I.pin p hp).1 z) (qk fl6.there)
 refine fu (X:=X.inH ea) I7 hN hi (.inl hk) (show aN (.ref ea) (.ref ea) from rfl) (λs8 I8=>?_) (.inr hk);refine wpAny_mono (hb ea pins _ _ _ (D.drop i) I8 (rd ea hn)) (λf s9 z=>?_) λ_ _ z=>False.elim z;cases f with
 | next =>
  obtain⟨σ',H2,I9,q9⟩:=z;exact fm (I9.outH I.ok) hN hi hk λs10 I10=>⟨_,_,I10,q9⟩
 | brk =>
  obtain⟨σ',H2,I9,q9⟩:=z;exact fm (I9.outH I.ok) hN hi hk λs10 I10=>⟨_,_,I10,q9⟩
 | cont =>
  obtain⟨σ',H2,I9,q9⟩:=z;exact fm (I9.outH I.ok) hN hi hk λs10 I10=>⟨_,_,I10,q9⟩
 | ret u =>
  obtain⟨v,σ',H2,I9,r,q9⟩:=z;exact fm (I9.outH I.ok) hN hi hk λs10 I10=>⟨v,_,_,I10,r,q9⟩
end
end L2
namespace Sp8
open PySem PySem.Spec L2 Mth Sp1 Sp2 Sp3
end Sp8
namespace L2
open PySem PySem.Spec PyProof.Rows
theorem gt:bootBuiltins "ValueError" = some (.type "ValueError"):=by decide +kernel
theorem SqT.mod{K:W.Frag}{H:Hp}{a:Addr}{oc:Value}{od:Option Addr}{its:Array Value}{n:Nat}{sl:Array (Option Value)}{xs:List V}(hk:K.lookup a=some ⟨oc,od,.seq its n,sl⟩)(hc:oc = .type "tuple")(hz:its.size<=100)(r:aE xs its.toList):SqT K H a xs :=
 .inr ⟨_,its,n,hk,hc,rfl,Nat.le_of_lt (be (by omega)),r⟩
end L2
namespace Sp24
open PySem PySem.Spec L2 Mth Sp1 Sp2 Sp3 Sp8
end Sp24
namespace L2
open PySem PySem.Spec PyProof.Rows
theorem kO:bootBuiltins "all" = some (.builtin "all"):=by decide +kernel
theorem tt{bs:List Bool}{us:List Value}{i:Nat}{v:Value}(r:aE (bs.map V.bl) us)(h:us[i]? = some v):∃b,bs[i]? = some b/\v = .bool b:=by
 have hl:=r.length;rw[List.length_map]at hl;have hi:i<us.length:=(List.getElem?_eq_some_iff.mp h).1;have hj:i<bs.length:=by omega
 obtain⟨u,e,q⟩:=r.get (i:=i) (x:=.bl bs[i]) (by rw[List.getElem?_map,List.getElem?_eq_getElem hj];rfl);rw[h]at e;cases e;exact⟨bs[i],List.getElem?_eq_getElem hj,q⟩
theorem mK(bs:List Bool):((List.range bs.length).all λi=>(bs[i]?).getD true)=bs.all id:=by
 rw[Bool.eq_iff_iff];simp only[List.all_eq_true,List.mem_range,id];constructor
 ·intro h b hb
  obtain⟨i,hi,rfl⟩:=List.mem_iff_getElem.mp hb;have z:=h i hi;rw[List.getElem?_eq_getElem hi]at z;exact z
 ·intro h i hi
  rw[List.getElem?_eq_getElem hi];exact h _ (List.getElem_mem hi)
theorem fU{X:Cx}(hc:X.calm=true):bY X (.builtin "all") (λxs H Q=>∃(p:Addr) (bs:List Bool),xs = [.ref p]/\SqL X.K H p (bs.map V.bl)/\Q (.bl (bs.all id)) H):=by
 intro pins s σ H xs us Q I r h;obtain⟨p,bs,rfl,hq,q⟩:=h;obtain⟨u,rfl,rx⟩:=b3 r;cases rx;obtain⟨its,rv,pl,_⟩:=I.list hq;have hl:=pl.isList;have lt:p<s.heap.objs.size:=by
  obtain⟨_,e,_⟩:=hl;exact Heap.lt_size e
 refine call_all_walk (wpAny_pyIter_list hl ?_);refine⟨s.heap.objs.size,[s.heap.objs.size,p],[s.heap.objs.size],its.toArray.size,_,_,λi=>(bs[i]?).getD true,rfl,Walks.list (A:=X.A.in1) (I.ok.hd hc) _ p (Nat.ne_of_lt lt) its.toArray,?_⟩;refine⟨⟨⟨_,Heap.get?_push_size _ rfl,rfl,rfl⟩,hl.push _⟩,λi v s' Q' E' hP hQ=>?_,λh' tk hk=>?_⟩
 ·obtain⟨b,e,rfl⟩:=tt rv (by simpa using hP)
  simp only[e,Option.getD_some]at hQ;exact wpAny_truthy_bool hQ
 ·have el:its.toArray.size=bs.length:=by
   have:=rv.length;rw[List.length_map]at this;rw[List.size_toArray];omega
  rw[el,mK];refine⟨.bl _,H,I.kept (t':=tk) λb o e=>?_,rfl,q⟩;exact hk b o (λhm=>by rw[List.mem_singleton.mp hm]at e;exact Nat.lt_irrefl _ (Heap.lt_size e)) (Heap.get?_push_of_some _ e)
end L2
namespace Sp7
open PySem PySem.Spec L2 Mth Sp1 Sp2 Sp3
noncomputable def bH:Int:=999999999999
noncomputable def bh:V->Bool
 | .int a=>decide (-bH<=a) && decide (a<=bH)
 | _=>false
noncomputable def lE:List V->Bool
 | [y,z]=>bh y && bh z
 | _=>false
noncomputable def bu(H:Hp):V->Bool
 | .ref p=>match H p with
  | some (.tup xs)=>lE xs
  | _=>false
 | _=>false
noncomputable def fD(H:Hp)(xs:List V):Bool:=(decide ((1:Int)<=(xs.length:Int)) && decide ((xs.length:Int)<=10)) && xs.all (bu H)
noncomputable def b7(H:Hp):V->Bool
 | .ref p=>match H p with
  | some (.lst xs)=>fD H xs
  | _=>false
 | _=>false
structure Ac(H:Hp)(v:V):Prop where
 kn:∃t,Kn H v t
 parts:∀p xs,v = .ref p->H p=some (.lst xs)->xs.length<=100/\∀y∈xs,vF H y
theorem cN{H:Hp}{p:Addr}{xs:List V}(e:H p=some (.tup xs)):bu H (.ref p)=lE xs:=by simp only[bu,e]
theorem de{H H':Hp}{x:V}{k:String}(kn:Kn H x k)(s:Same H H'):bu H' x=bu H x:=by
 cases kn with
 | non=>rfl
 | bl b=>rfl
 | int i=>rfl
 | str x=>rfl
 | lst e=>simp only[bu,e,s _ _ e]
 | tup e=>simp only[bu,e,s _ _ e]
 | dict e=>simp only[bu,e,s _ _ e]
theorem mC{xs:List V}(h:xs.length≠2):lE xs=false:=by
 unfold lE
 split
 ·exact absurd rfl h
 ·rfl
theorem lV{v:V}(h:∀a,v≠.int a):bh v=false:=by
 unfold bh
 split
 ·exact absurd rfl (h _)
 ·rfl
theorem b6{H:Hp}{p:Addr}{xs:List V}(e:H p=some (.lst xs)):b7 H (.ref p)=fD H xs:=by simp only[b7,e]
theorem Kn.cases_lst{H:Hp}{y:V}{t:String}(k:Kn H y t):(∃p xs,y = .ref p/\H p=some (.lst xs)/\t = "list")\/(b7 H y=false/\cR t "list" = false):=by
 cases k with
 | lst e=>exact .inl ⟨_,_,rfl,e,rfl⟩
 | non=>exact .inr ⟨rfl,by decide⟩
 | bl b=>exact .inr ⟨rfl,by decide⟩
 | str x=>exact .inr ⟨rfl,by decide⟩
 | int a=>exact .inr ⟨rfl,by decide⟩
 | tup e=>exact .inr ⟨by simp only[b7,e],by decide⟩
 | dict e=>exact .inr ⟨by simp only[b7,e],by decide⟩
theorem Kn.cases_tp{H:Hp}{y:V}{t:String}(k:Kn H y t):(∃p xs,y = .ref p/\H p=some (.tup xs)/\t = "tuple")\/(bu H y=false/\cR t "tuple" = false):=by
 cases k with
 | tup e=>exact .inl ⟨_,_,rfl,e,rfl⟩
 | non=>exact .inr ⟨rfl,by decide⟩
 | bl b=>exact .inr ⟨rfl,by decide⟩
 | str x=>exact .inr ⟨rfl,by decide⟩
 | int a=>exact .inr ⟨rfl,by decide⟩
 | lst e=>exact .inr ⟨by simp only[bu,e],by decide⟩
 | dict e=>exact .inr ⟨by simp only[bu,e],by decide⟩
noncomputable def Sm(x:Int):Prop:=-bH<=x/\x<=bH
theorem fe{x:Int}(h:Sm x):cQ x<=50:=by
 obtain⟨a,b⟩:=h;unfold bH at a b;refine qw (n:=50) ?_;show _<1125899906842624;omega
structure wm(H:Hp)(l:Addr)(qs:Crn):Prop where
 at_:w4 H l qs
 sml:∀q∈qs,(-bH<=q.2.1/\q.2.1<=bH)/\(-bH<=q.2.2/\q.2.2<=bH)
 len:1<=qs.length/\qs.length<=10
theorem wm.mono{H H':Hp}{l:Addr}{qs:Crn}(L:wm H l qs)(s:Same H H'):wm H' l qs:=⟨L.at_.mono s,L.sml,L.len⟩
inductive xn (vs:List V) (H:Hp) (Q:VK) (x_3:XK):Prop
 | mk:∀x t,(vs = [x])->(Kn H x t)->(Q (.bl (bh x)) H)->xn vs H Q x_3
inductive wS (vs:List V) (H:Hp) (Q:VK) (x_3:XK):Prop
 | mk:∀x,(vs = [x])->(vF H x)->(Q (.bl (bu H x)) H)->wS vs H Q x_3
inductive wQ (vs:List V) (H:Hp) (Q:VK) (x_3:XK):Prop
 | mk:∀x,(vs = [x])->(Ac H x)->(∀H',Same H H'->Q (.bl (b7 H x)) H')->wQ vs H Q x_3
inductive wP (C:Addr) (vs:List V) (H:Hp) (Q:VK) (E:XK):Prop
 | mk:∀x,(vs = [x])->(Ac H x)->(((b7 H x=false/\∀H',Same H H'->E (.ref C) none H') \/
 (∃p qs,x = .ref p/\wm H p qs/\∀(r:Addr) (rs:Crn) (H':Hp),H r=none->(∀z∈rs,H z.1=none)->rs.map (·.2)=qs.map (·.2)->w4 H' r rs->Same H H'->Q (.ref r) H')))->wP C vs H Q E
theorem wm.good{H:Hp}{l:Addr}{qs:Crn}(L:wm H l qs):b7 H (.ref l)=true:=by
 rw[b6 L.at_.lst];unfold fD;have hl:(qs.map λ(q:Addr×Int×Int)=>V.ref q.1).length=qs.length:=List.length_map _;have h1:=L.len;rw[hl,decide_eq_true (by omega:(1:Int)<=(qs.length:Int)),decide_eq_true (by omega:(qs.length:Int)<=10)];show(qs.map _).all (bu H)=true;rw[List.all_eq_true];intro v hv;obtain⟨q,hq,rfl⟩:=List.mem_map.mp hv;rw[cN (L.at_.crn q hq).1];show(bh (.int q.2.1) && bh (.int q.2.2))=true;obtain⟨⟨a,b⟩,c,d⟩:=L.sml q hq;simp only[bh,decide_eq_true a,decide_eq_true b,decide_eq_true c,decide_eq_true d,Bool.and_self]
theorem wm.th{H:Hp}{l:Addr}{qs:Crn}(L:wm H l qs):Ac H (.ref l):=by
 refine⟨⟨_,.lst L.at_.lst⟩,λp xs e1 e2=>?_⟩;cases e1;rw[L.at_.lst]at e2;cases e2;refine⟨by rw[List.length_map];have:=L.len;omega,λy hy=>?_⟩;obtain⟨q,hq,rfl⟩:=List.mem_map.mp hy;exact th_tup (L.at_.crn q hq).1 λv hv=>by
  simp only[List.mem_cons,List.not_mem_nil,or_false]at hv;rcases hv with rfl|rfl <;> exact⟨_,.int _⟩
theorem Ac.mono{H H':Hp}{v:V}(h:Ac H v)(s:Same H H'):Ac H' v:=by
 obtain⟨⟨t,k⟩,pt⟩:=h;refine⟨⟨t,k.mono s⟩,λp xs e1 e2=>?_⟩;subst e1;have e3:H p=some (.lst xs):=by
  cases k with
  | lst e=>rw[s _ _ e]at e2;cases e2;exact e
  | tup e=>rw[s _ _ e]at e2;cases e2
  | dict e=>rw[s _ _ e]at e2;cases e2
 obtain⟨hl,hy⟩:=pt p xs rfl e3;exact⟨hl,λy m=>vF.mono (hy y m) s⟩
theorem kE{H H':Hp}{v:V}(h:Ac H v)(s:Same H H'):b7 H' v=b7 H v:=by
 obtain⟨⟨t,k⟩,pt⟩:=h;cases k with
 | non=>rfl
 | bl b=>rfl
 | int i=>rfl
 | str x=>rfl
 | @lst a xs e =>
  rw[b6 e,b6 (s _ _ e)];unfold fD;have z:xs.all (bu H')=xs.all (bu H):=by
   have hp:=(pt a xs rfl e).2;rw[Bool.eq_iff_iff,List.all_eq_true,List.all_eq_true];constructor
   ·intro h y hy
    obtain⟨k',kn⟩:=(hp y hy).kn;rw[<- de kn s];exact h y hy
   ·intro h y hy
    obtain⟨k',kn⟩:=(hp y hy).kn;rw[de kn s];exact h y hy
  rw[z]
 | tup e=>simp only[b7,e,s _ _ e]
 | dict e=>simp only[b7,e,s _ _ e]
theorem pX{H:Hp}{r:Addr}{xs:List V}(e:H r=some (.lst xs))(hl:xs.length<=100)(h:∀y∈xs,vF H y):Ac H (.ref r):=⟨⟨_,.lst e⟩,λp ys e1 e2=>by
 cases e1;rw[e]at e2;cases e2;exact⟨hl,h⟩⟩
noncomputable def i7(s:Stmt):Scope:=match s with
 | .Return (some (.Call _ [.ListComp _ _ sc _] _ _)) _=>sc
 | .Return (some (.ListComp _ _ sc _)) _=>sc
 | _=>{ kind:=.function,names:=[],isGenerator:=false,isCoroutine:=false }
end Sp7
namespace L2
open PySem PySem.Spec PyProof.Rows
noncomputable def SameT(H H':Hp):Prop:=∀b xs,H b=some (.tup xs)->H' b=some (.tup xs)
theorem Same.t{H H':Hp}(s:Same H H'):SameT H H':=λb xs e=>s b _ e
theorem SameT.trans{H H1 H2:Hp}(a:SameT H H1)(b:SameT H1 H2):SameT H H2:=λc xs e=>b c xs (a c xs e)
theorem SameT.upd{H:Hp}{l:Addr}{xs ys:List V}(hl:H l=some (.lst xs)):SameT H (upd H l (.lst ys)):=λb zs e=>by
 rw[aA (qQ e hl (by intro z;cases z))];exact e
theorem Same.upd{H0 H:Hp}{l:Addr}{o:HO}(s:Same H0 H)(hl:H0 l=none):Same H0 (upd H l o):=λb u e=>by
 rw[aA (aK e hl)];exact s b u e
noncomputable def eH(J:It)(fv:List (Str×Nat))(te:TE)(σ:St)(H1:Hp)(Q:VK):Prop:=∀p,H1 p=none->∃W:Nat->Nat->List V->Hp->Prop,(∃m,W 0 m [] (upd H1 p (.lst [])))/\∀i m acc H2,W i m acc H2 ->
 H2 p=some (.lst acc)/\acc.length<sizeLine/\((J.stop i H2/\Q (.ref p) H2)\/(J.go i H2/\∀x H3,J.yld i H2 x H3->te (some x::fvs fv σ) H3 λy H4=>H4 p=some (.lst acc)/\∃m',m'<m/\W (i+1) m' (acc++[y]) (upd H4 p (.lst (acc++[y])))))
noncomputable def jY(wi:TI)(fv:List (Str×Nat))(te:TE):TE:=λσ H Q=>wi σ H λJ H1=>eH J fv te σ H1 Q
section
variable {X:Cx} {scope:Scope} {cl:List (Str×Addr)} {x:Str} {fv:List (Str×Nat)} {elt iter:Expr} {px pos:Pos} {te:TE}
theorem bL{wi:TI}(hcalm:X.calm=true)(C:uQ X scope cl x fv)(hi:PI X (.Name x px) iter wi)(he:∀(fp:List Addr) (s₀:Shared) (H₀:Hp),PE (X.blk (x::fv.map (·.1)) scope cl fp s₀ H₀) elt te)
  (hs:∀v,foldedSetIterable iter X.env v=pure v:=by intro _;rfl):PE X (.ListComp elt [⟨.Name x px,iter,[],0⟩] scope pos) (jY wi fv te):=ib hcalm C hi he hs
theorem jd{wi:TI}{y:Str}{j:Nat}{py spos:Pos}(hcalm:X.calm=true)(C:uQ X scope cl x fv)(hN:X.N.Nodup)(hj:X.N[j]? = some y)(hy:X.env.scope.names.lookup y=some .local)(hi:PI X (.Name x px) iter wi)(he:∀(fp:List Addr) (s₀:Shared) (H₀:Hp),PE (X.blk (x::fv.map (·.1)) scope cl fp s₀ H₀) elt te)
  (hsw:swapsWith (.ListComp elt [⟨.Name x px,iter,[],0⟩] scope pos) (some (.Name y py)) spos.line X.env=pure true:=by rfl)
  (hs:∀v,foldedSetIterable iter X.env v=pure v:=by intro _;rfl):PS X (.Assign [.Name y py] (.ListComp elt [⟨.Name x px,iter,[],0⟩] scope pos) spos) (lU (jY wi fv te) (dI j)):=kg hcalm C hN hj hy hi he hsw hs
end
theorem iJ{K:W.Frag}{a:Addr}{xs:List V}{fv:List (Str×Nat)}{te:TE}{σ:St}{H1:Hp}{Q:VK}(hL:SqL K H1 a xs)(hlen:xs.length<1000)(R:Nat->V->Hp->Prop)(hR:∀i v H H',SameT H H'->R i v H->R i v H')
  (hs:∀i x H2 (Kc:VK),xs[i]? = some x->Same H1 H2->(∀y H4,Same H2 H4->R i y H4->Kc y H4)->te (some x::fvs fv σ) H2 Kc)
  (hd:∀l ys H',H1 l=none->Same H1 H'->H' l=some (.lst ys)->ys.length=xs.length->(∀i y,ys[i]? = some y->R i y H')->Q (.ref l) H') :
  eH (Itl K a) fv te σ H1 Q:=by
 intro l hl;refine ce (K:=K) (a:=a) (xs:=xs) (l:=l) (fv:=fv) (Qp:=λH2=>Q (.ref l) H2) (λi acc H2=>acc.length=i/\Same H1 H2/\H2 l=some (.lst acc)/\∀j y,acc[j]? = some y->R j y H2)
  ⟨rfl,Same.new hl,upd_same,λj y h=>by simp at h⟩ ?_ ?_ ?_
 ·rintro i acc H2 hi ⟨e1,sm,e3,_⟩
  exact⟨sm.seq hL,e3,be (by omega)⟩
 ·rintro i x acc H2 Kc hx ⟨e1,sm,e3,hr⟩ kk
  refine hs i x H2 Kc hx sm λy H4 s4 ry=>kk y H4 (s4 _ _ e3) ⟨by simp[e1],(sm.trans s4).upd hl,upd_same,λj z hz=>?_⟩;have t4:=SameT.upd (ys:=acc++[y]) (s4 _ _ e3);rcases Nat.lt_trichotomy j acc.length with h|h|h
  ·rw[List.getElem?_append_left h]at hz
   exact hR _ _ _ _ (s4.t.trans t4) (hr j z hz)
  ·subst h
   rw[List.getElem?_append_right (Nat.le_refl _),Nat.sub_self]at hz;cases hz;rw[e1];exact hR _ _ _ _ t4 ry
  ·rw[List.getElem?_eq_none (by simp;omega)]at hz
   cases hz
 ·rintro acc H2 ⟨e1,sm,e3,hr⟩
  exact hd l acc H2 hl sm e3 e1 hr
section
variable {X:Cx} {pos:Pos} {es:List Expr} {ta:TA}
inductive Aw (f:List V->HO) (xs:List V) (H1:Hp) (Q:VK):Prop
 | mk (z:xs.length<=sizeLine) (q:∀p H2,Same H1 H2->H2 p=some (f xs)->H1 p=none->Q (.ref p) H2):Aw f xs H1 Q
noncomputable def qI(t:TA):TE:=λσ H Q=>t σ H λxs H1=>Aw .tup xs H1 Q
noncomputable def sv(t:TA):TE:=λσ H Q=>t σ H λxs H1=>Aw .lst xs H1 Q
theorem aM{x1}(h:PA X es ta):PE X (.Tuple es x1 pos) (qI ta):=by
 intro pins s σ H Q I hq;refine wpAny_Tuple_spliced (thn (h pos pins s σ H _ I hq) λus s1 ⟨xs,H1,I1,r,z,q⟩=>⟨by rw[<- r.length];exact z,?_⟩);have hf:H1 s1.heap.objs.size=none:=I1.hok.fresh (Nat.le_refl _);refine⟨.ref s1.heap.objs.size,upd H1 s1.heap.objs.size (.tup xs),I1.laid (t':=s1.toks) (λb u e=>Heap.get?_push_of_some _ e) (Nat.le_refl _) ?_,rfl,q _ _ (Same.new hf) upd_same hf⟩;exact⟨z,us,r,⟨_,Heap.get?_push_size _ rfl,rfl,_,rfl⟩⟩
theorem aI(h:PA X es ta):PE X (.List es pos) (sv ta):=by
 intro pins s σ H Q I hq;refine wpAny_List_spliced (thn (h pos pins s σ H _ I hq) λus s1 ⟨xs,H1,I1,r,z,q⟩=>⟨by rw[<- r.length];exact z,?_⟩);have hf:H1 s1.heap.objs.size=none:=I1.hok.fresh (Nat.le_refl _);refine⟨.ref s1.heap.objs.size,upd H1 s1.heap.objs.size (.lst xs),I1.laid (t':=s1.toks) (λb u e=>Heap.get?_push_of_some _ e) (Nat.le_refl _) ?_,rfl,q _ _ (Same.new hf) upd_same hf⟩;exact⟨z,us,0,r,Heap.get?_push_size _ rfl⟩
inductive Ah (K:W.Frag) (x:V) (lo:Option Int) (hi:Option Int) (H:Hp) (Q:VK):Prop
 | mk:∀a xs,(x = .ref a)->(SqL K H a xs)->(∀p H2,Same H H2->H2 p=some (.lst (dS xs lo hi))->H p=none->Q (.ref p) H2)->Ah K x lo hi H Q
theorem dh:SlR X (Ah X.K):=λpins s σ H x v vl vu lo hi sl Q I rx hs pl pu ⟨a,xs,e,hx,q⟩ =>
 pI pins s σ H x v vl vu lo hi sl Q I rx hs pl pu ⟨a,xs,e,hx,λp hp=>q p _ (Same.new hp) upd_same hp⟩
inductive An (x:V) (y:V) (H:Hp) (Q:VK):Prop
 | mk:∀l b xs zs,(x = .ref l)->(y = .ref b)->(H l=some (.lst xs))->(H b=some (.lst zs))->(xs.length+zs.length<=sizeLine)->(∀p H2,Same H H2->H2 p=some (.lst (xs++zs))->H p=none->Q (.ref p) H2)->An x y H Q
theorem aY:OpR X (binaryOp .Add) An:=λpins s σ H x y v u Q I rx ry ⟨l,b,xs,zs,e1,e2,h1,h2,hz,q⟩ =>
 rH pins s σ H x y v u Q I rx ry ⟨l,b,xs,zs,e1,e2,h1,h2,hz,λp hp=>q p _ (Same.new hp) upd_same hp⟩
theorem gr:bY X (.type "list") (λxs H Q=>∃p ys,xs = [.ref p]/\(SqL X.K H p ys\/SqT X.K H p ys)/\∀l H2,Same H H2->H2 l=some (.lst ys)->H l=none->Q (.ref l) H2):=λpins s σ H xs us Q I r ⟨p,ys,e,hq,q⟩ =>
 iN pins s σ H xs us Q I r ⟨p,ys,e,hq,λl hl=>q l _ (Same.new hl) upd_same hl⟩
structure zg(H H':Hp)(l:Addr)(xs ys:List V):Prop where
 was:H l=some (.lst xs)
 now:H' l=some (.lst ys)
 oth:∀b,b≠l->H' b=H b
theorem zg.mk'{H:Hp}{l:Addr}{xs ys:List V}(h:H l=some (.lst xs)):zg H (L2.upd H l (.lst ys)) l xs ys:=⟨h,upd_same,λ_ n=>aA n⟩
theorem zg.t{H H':Hp}{l:Addr}{xs ys:List V}(u:zg H H' l xs ys):SameT H H':=λb zs e=>by
 rw[u.oth b (qQ e u.was (by intro z;cases z))];exact e
theorem zg.same{H0 H H':Hp}{l:Addr}{xs ys:List V}(u:zg H H' l xs ys)(s:Same H0 H)(h:H0 l=none):Same H0 H':=λb o e=>by
 rw[u.oth b (aK e h)];exact s b o e
theorem zg.at{H H':Hp}{l b:Addr}{xs ys:List V}{o:HO}(u:zg H H' l xs ys)(n:b≠l)(e:H b=some o):H' b=some o:=by
 rw[u.oth b n];exact e
inductive xD (x:V) (vs:List V) (H:Hp) (Q:VK):Prop
 | mk:∀l xs y,(x = .ref l)->(vs = [y])->(H l=some (.lst xs))->(xs.length<sizeLine)->(∀H',zg H H' l xs (xs++[y])->Q .non H')->xD x vs H Q
theorem kA:MtM X "list.append" xD:=λpins s σ H x xs v us Q I rx rs ⟨l,ys,y,e1,e2,h,hz,q⟩ =>
 bJ pins s σ H x xs v us Q I rx rs ⟨l,ys,y,e1,e2,h,hz,q _ (.mk' h)⟩
inductive xj (x:V) (vs:List V) (H:Hp) (Q:VK):Prop
 | mk:∀l xs,(x = .ref l)->(vs = [])->(H l=some (.lst xs))->(∀H',zg H H' l xs xs.reverse->Q .non H')->xj x vs H Q
theorem jk:MtM X "list.reverse" xj:=λpins s σ H x xs v us Q I rx rs ⟨l,ys,e1,e2,h,q⟩ =>
 kx pins s σ H x xs v us Q I rx rs ⟨l,ys,e1,e2,h,q _ (.mk' h)⟩
end
theorem len3{α:Type}{xs:List α}(h:xs.length=3):∃a b c,xs = [a,b,c]:=match xs,h with | [a,b,c],_=>⟨a,b,c,rfl⟩
theorem uf{α:Type}{xs:List α}(h:xs.length=2):∃a b,xs = [a,b]:=match xs,h with | [a,b],_=>⟨a,b,rfl⟩
theorem ue{α:Type}{xs:List α}(h:xs.length=4):∃a b c d,xs = [a,b,c,d]:=match xs,h with | [a,b,c,d],_=>⟨a,b,c,d,rfl⟩
theorem len5{α:Type}{xs:List α}(h:xs.length=5):∃a b c d e,xs = [a,b,c,d,e]:=match xs,h with | [a,b,c,d,e],_=>⟨a,b,c,d,e,rfl⟩
theorem len6{α:Type}{xs:List α}(h:xs.length=6):∃a b c d e f,xs = [a,b,c,d,e,f]:=match xs,h with | [a,b,c,d,e,f],_=>⟨a,b,c,d,e,f,rfl⟩
section
variable {X:Cx} {pins:List (Addr×Obj)} {σ:St} {H:Hp} {s:Shared}
theorem ur.turnedL{h':Heap}{t':Nat}{ch:List Addr}(I:ur X pins σ H s)(k:∀b o,b∉ch->s.heap.get? b=some o->h'.get? b=some o)(hf:∀b∈ch,bI X pins H b):ur X pins σ H { s with heap:=h',toks:=t' }:=by
 have nit:∀b u,H b=some u->b∉ch:=λb u e z=>by
  have n:=(hf b z).1;rw[n]at e;cases e
 refine I.step (g':=s.gens) (d':=s.drawn) (ch:=ch) (λb hb=>?_) (λb o _ _ hc e _=>k b o hc e) (λb o _ _ hc e _=>⟨o.slots,k b o hc e⟩) (λ_ _ _ _ n=>n)
  (λb o hc e=>⟨o,k b o hc e⟩) (λ_ _ e=>e) (λ_ _ _ e=>e) (λb ps e=>⟨#[],by rw[e];simp⟩) (λm hm=>?_) (λb u e=>?_) I.bare
 ·obtain⟨f0,f1,f2,f3,f4,f5⟩:=hf b hb
  exact⟨f3,f1,f4,f5⟩
 ·obtain⟨o,es,ep,ho,r⟩:=hm
  exact⟨o,es,ep,k _ o (λz=>(hf _ z).2.1 rfl) ho,r⟩
 ·refine(I.hok b u e).stay (λc v hc q=>k c v ?_ q) (λ_ q=>q) λ_ _ q=>q
  rcases hc with z|z
  ·rw[z];exact nit b u e
  ·exact nit c _ z
theorem lS{E:Value->Shared->Prop}{elts:List Expr}{kt:Nat}{pos:Pos}{i n:Nat}{z:Addr}{fpw wr:List Addr}{Pt:Nat->Array Value->Prop}{Stt:Nat->Heap->Prop}{Mid:Nat->Addr->Heap->Prop}{R:Value->Shared->Prop}
  (W:WalksT X.prog X.w X.A z fpw wr n Pt Stt Mid) (I:ur X pins σ H s) (hwr:∀b∈wr,bI X pins H b) (hi:i<n) (st:Stt i s.heap)
  (k:∀T vals s2,Pt i vals->s.heap.objs.size<=T->s2.heap.IsTuple T vals->Stt (i+1) s2.heap->ur X pins σ H s2->(∀b o,b∉wr->s.heap.get? b=some o->s2.heap.get? b=some o)->R (.ref T) s2) :
  wpAny (model X.prog X.w) X.A (pyNext (.ref z)) (λr s1=>∃u,r=some u/\wpAny (model X.prog X.w) X.A (letOwnedTupleGo (.Tuple elts kt pos) (.ref z) u) (λ_ s2=>R u s2) E s1) E s:=by
 refine W.item i s _ E hi st λT vals h' tk hp hT tup mid kk=>⟨.ref T,rfl,?_⟩;refine W.go elts kt pos i T _ _ E mid λh2 st2 k2=>?_;have kall:∀b o,b∉wr->s.heap.get? b=some o->h2.get? b=some o:=λb o hb e=>k2 b o hb (kk b o hb e);obtain⟨o,eo,ro⟩:=tup;exact k T vals _ hp hT ⟨o,k2 T o (W.apart i T _ mid) eo,ro⟩ st2 (I.turnedL (t':=tk) kall hwr) kall
theorem lT{T:Addr}{s2:Shared}{xs:List V}{us:List Value}(I:ur X pins σ H s)(J:ur X pins σ H s2)(hT:s.heap.objs.size<=T)(ht:s2.heap.IsTuple T us.toArray)(r:aE xs us)(hz:xs.length<=sizeLine):ur X pins σ (upd H T (.tup xs)) s2/\H T=none:=by
 have hn:H T=none:=I.hok.fresh hT;obtain⟨f0,f1,f2,f3,f4,f5⟩:=I.fpOk hT hn;refine⟨J.track hn ?_ f1 f4 f5 ⟨hz,us,r,ht⟩,hn⟩;cases e:X.s₀.heap.get? T with
 | none=>rfl
 | some o =>
  have h1:=Heap.lt_size e;have h2:=I.sz;exact absurd (Nat.lt_of_lt_of_le h1 (Nat.le_trans h2 hT)) (Nat.lt_irrefl _)
end
section
variable {X:Cx} {elts:List Expr} {kt:Nat} {tpos:Pos}
theorem se:bootBuiltins "zip" = some (.type "zip"):=by decide +kernel
end
inductive D where
 | non|bl (b:Bool)|int (i:Int)|str (x:Str)|tup (ds:List D)|lst (ds:List D)
inductive Rp (H:Hp):Nat->V->D->Prop where
 | non {n:Nat}:Rp H n .non .non
 | bl {n:Nat} {b:Bool}:Rp H n (.bl b) (.bl b)
 | int {n:Nat} {i:Int}:Rp H n (.int i) (.int i)
 | str {n:Nat} {x:Str}:Rp H n (.str x) (.str x)
 | tup {n:Nat} {p:Addr} {xs:List V} {ds:List D} (e:H p=some (.tup xs)) (hl:xs.length=ds.length) (h:∀(j:Nat) x d,xs[j]? = some x->ds[j]? = some d->Rp H n x d):Rp H (n+1) (.ref p) (.tup ds)
 | lst {n:Nat} {p:Addr} {xs:List V} {ds:List D} (e:H p=some (.lst xs)) (hl:xs.length=ds.length) (h:∀(j:Nat) x d,xs[j]? = some x->ds[j]? = some d->Rp H n x d):Rp H (n+1) (.ref p) (.lst ds)
theorem Rp.mono{H H':Hp}{n:Nat}{v:V}{d:D}(r:Rp H n v d)(s:Same H H'):Rp H' n v d:=by
 induction r with
 | non=>exact .non
 | bl=>exact .bl
 | int=>exact .int
 | str=>exact .str
 | tup e hl h ih=>exact .tup (s _ _ e) hl ih
 | lst e hl h ih=>exact .lst (s _ _ e) hl ih
mutual
noncomputable def deq:D->D->Bool
 | .non,.non=>true
 | .bl a,.bl b=>a == b
 | .bl a,.int b=>(if a then 1 else 0) == b
 | .int a,.bl b=>a == (if b then 1 else 0)
 | .int a,.int b=>a == b
 | .str a,.str b=>a == b
 | .tup xs,.tup ys=>dR xs ys
 | .lst xs,.lst ys=>dR xs ys
 | _,_=>false
noncomputable def dR:List D->List D->Bool
 | [],[]=>true
 | x::xs,y::ys=>deq x y && dR xs ys
 | _,_=>false
end
theorem cc:∀(ds es:List D),((List.range (min ds.length es.length)).all (λj=>deq (ds.getD j .non) (es.getD j .non)) && ds.length == es.length)=dR ds es
 | [],[]=>by simp[dR]
 | [],e::es=>by simp[dR]
 | d::ds,[]=>by simp[dR]
 | d::ds,e::es=>by
  have ih:=cc ds es;have hm:min (d::ds).length (e::es).length=min ds.length es.length+1:=by simp only[List.length_cons];omega
  rw[hm,List.range_succ_eq_map,List.all_cons,List.all_map];simp only[dR,List.getD_cons_zero,List.length_cons];rw[<- ih,Bool.and_assoc]
  congr 1
  simp[Function.comp_def]
theorem fS{ds es:List D}(h:ds.length≠es.length):dR ds es=false:=by
 rw[<- cc];simp[h]
theorem cM{ds es:List D}(h:ds.length=es.length):(List.range ds.length).all (λj=>deq (ds.getD j .non) (es.getD j .non))=dR ds es:=by
 rw[<- cc,h];simp
theorem ly{ds es:List D}(hl:ds.length=es.length)(h:∀(j:Nat) d e,ds[j]? = some d->es[j]? = some e->deq d e=true):dR ds es=true:=by
 rw[<- cM hl,List.all_eq_true];intro j hj;have hj':j<ds.length:=List.mem_range.mp hj;have hj2:j<es.length:=by omega
 have e1:ds[j]? = some ds[j]:=List.getElem?_eq_getElem hj';have e2:es[j]? = some es[j]:=List.getElem?_eq_getElem hj2;rw[List.getD_eq_getElem?_getD,List.getD_eq_getElem?_getD,e1,e2];exact h j _ _ e1 e2
theorem fJ{α β:Type}{xs:List α}{ds:List β}{j:Nat}{d:β}(hl:xs.length=ds.length)(h:ds[j]? = some d):∃x,xs[j]? = some x:=by
 have:=(List.getElem?_eq_some_iff.mp h).1;exact⟨xs[j],List.getElem?_eq_getElem (by omega)⟩
theorem Rp.self{H:Hp}{n m:Nat}{v:V}{d e:D}(r:Rp H n v d)(q:Rp H m v e):deq d e=true:=by
 induction r generalizing m e with
 | non=>cases q;rfl
 | bl=>cases q;simp[deq]
 | int=>cases q;simp[deq]
 | str=>cases q;simp[deq]
 | tup e1 hl h ih =>
  cases q with
  | tup e2 hl2 h2 =>
   rw[e1]at e2;cases e2;refine ly (by omega) λj a b ea eb=>?_;obtain⟨x,hx⟩:=fJ hl ea;exact ih j x a hx ea (h2 j x b hx eb)
  | lst e2 hl2 h2=>rw[e1]at e2;cases e2
 | lst e1 hl h ih =>
  cases q with
  | tup e2 hl2 h2=>rw[e1]at e2;cases e2
  | lst e2 hl2 h2 =>
   rw[e1]at e2;cases e2;refine ly (by omega) λj a b ea eb=>?_;obtain⟨x,hx⟩:=fJ hl ea;exact ih j x a hx ea (h2 j x b hx eb)
section
variable {X:Cx} {pins:List (Addr×Obj)} {σ:St} {H:Hp} {s:Shared}
theorem cL{A:Around}{xs ys:List V}{us ws:List Value}{ds es:List D}(r:aE xs us)(r':aE ys ws)(hl:xs.length=ds.length)(hl':ys.length=es.length)
  (h:∀(j:Nat) x y d e u w,xs[j]? = some x->ys[j]? = some y->ds[j]? = some d->es[j]? = some e->aN x u->aN y w->SeqAt.EqAt A s u w (deq d e))
  (j:Nat) (h1:j<us.toArray.size) (h2:j<ws.toArray.size):SeqAt.EqAt A s us.toArray[j] ws.toArray[j] (deq (ds.getD j .non) (es.getD j .non)):=by
 rw[List.size_toArray]at h1 h2;obtain⟨a,ea,ra⟩:=kR r h1;obtain⟨c,ec,rc⟩:=kR r' h2;have g1:=(List.getElem?_eq_some_iff.mp ea).1;have g2:=(List.getElem?_eq_some_iff.mp ec).1;have e1:ds[j]? = some ds[j]:=List.getElem?_eq_getElem (by omega);have e2:es[j]? = some es[j]:=List.getElem?_eq_getElem (by omega);rw[List.getD_eq_getElem?_getD,List.getD_eq_getElem?_getD,e1,e2];exact h j a c _ _ _ _ ea ec e1 e2 ra rc
theorem Rp.eqAt{n:Nat}{x:V}{d:D}(r:Rp H n x d):∀{m:Nat} {y:V} {e:D} {A:Around} {u v:Value},Rp H m y e->ur X pins σ H s->aN x u->aN y v->A.units+n<cLine->SeqAt.EqAt A s u v (deq d e):=by
 induction r with
 | non =>
  intro m y e A u v q I ru rv hu;cases ru;cases q with
  | non=>cases rv;exact SeqAt.EqAt.same _
  | bl=>cases rv;exact SeqAt.EqAt.none_bool _
  | int=>obtain⟨_,rfl⟩:=rv;exact SeqAt.EqAt.none_int _ _
  | str=>obtain⟨_,rfl⟩:=rv;exact SeqAt.EqAt.none_str _ _
  | tup e1 hl h=>cases rv;obtain⟨its,_,pl,_⟩:=I.tuple (SqT.of e1);exact SeqAt.EqAt.none_tuple pl (by omega)
  | lst e1 hl h=>cases rv;obtain⟨its,_,pl,_⟩:=I.list (SqL.of e1);exact SeqAt.EqAt.none_list pl.isList (by omega)
 | bl =>
  intro m y e A u v q I ru rv hu;cases ru;cases q with
  | non=>cases rv;exact SeqAt.EqAt.bool_none _
  | bl=>cases rv;exact SeqAt.EqAt.bool_bool _ _
  | int=>obtain⟨_,rfl⟩:=rv;exact SeqAt.EqAt.bool_int _ _ _
  | str=>obtain⟨_,rfl⟩:=rv;exact SeqAt.EqAt.bool_str _ _ _
  | tup e1 hl h=>cases rv;obtain⟨its,_,pl,_⟩:=I.tuple (SqT.of e1);exact SeqAt.EqAt.bool_tuple _ pl (by omega)
  | lst e1 hl h=>cases rv;obtain⟨its,_,pl,_⟩:=I.list (SqL.of e1);exact SeqAt.EqAt.bool_list _ pl.isList (by omega)
 | int =>
  intro m y e A u v q I ru rv hu;obtain⟨_,rfl⟩:=ru;cases q with
  | non=>cases rv;exact SeqAt.EqAt.int_none _ _
  | bl=>cases rv;exact SeqAt.EqAt.int_bool _ _ _
  | int=>obtain⟨_,rfl⟩:=rv;exact SeqAt.EqAt.int_int _ _ _ _
  | str=>obtain⟨_,rfl⟩:=rv;exact SeqAt.EqAt.int_str _ _ _ _
  | tup e1 hl h=>cases rv;obtain⟨its,_,pl,_⟩:=I.tuple (SqT.of e1);exact SeqAt.EqAt.int_tuple _ _ pl (by omega)
  | lst e1 hl h=>cases rv;obtain⟨its,_,pl,_⟩:=I.list (SqL.of e1);exact SeqAt.EqAt.int_list _ _ pl.isList (by omega)
 | str =>
  intro m y e A u v q I ru rv hu;obtain⟨_,rfl⟩:=ru;cases q with
  | non=>cases rv;exact SeqAt.EqAt.str_none _ _
  | bl=>cases rv;exact SeqAt.EqAt.str_bool _ _ _
  | int=>obtain⟨_,rfl⟩:=rv;exact SeqAt.EqAt.str_int _ _ _ _
  | str=>obtain⟨_,rfl⟩:=rv;exact SeqAt.EqAt.str_str _ _ _ _
  | tup e1 hl h=>cases rv;obtain⟨its,_,pl,_⟩:=I.tuple (SqT.of e1);exact SeqAt.EqAt.str_tuple _ _ pl (by omega)
  | lst e1 hl h=>cases rv;obtain⟨its,_,pl,_⟩:=I.list (SqL.of e1);exact SeqAt.EqAt.str_list _ _ pl.isList (by omega)
 | @tup n p xs ds e0 hl h ih =>
  intro m y e A u v q I ru rv hu;cases ru;obtain⟨its,r1,pl,_⟩:=I.tuple (SqT.of e0);cases q with
  | non=>cases rv;exact SeqAt.EqAt.tuple_none pl (by omega)
  | bl=>cases rv;exact SeqAt.EqAt.tuple_bool _ pl (by omega)
  | int=>obtain⟨_,rfl⟩:=rv;exact SeqAt.EqAt.tuple_int _ _ pl (by omega)
  | str=>obtain⟨_,rfl⟩:=rv;exact SeqAt.EqAt.tuple_str _ _ pl (by omega)
  | lst e1 hl1 h1=>cases rv;obtain⟨jts,_,pl',_⟩:=I.list (SqL.of e1);exact SeqAt.EqAt.tuple_list pl pl'.isList (by omega)
  | @tup m p' ys es e1 hl1 h1 =>
   cases rv
   by_cases hne:p=p'
   ·subst hne
    have z:deq (.tup ds) (.tup es)=true:=Rp.self (Rp.tup e0 hl h) (Rp.tup e1 hl1 h1);rw[z];exact SeqAt.EqAt.same _
   ·obtain⟨jts,r2,pl',_⟩:=I.tuple (SqT.of e1)
    have y:=SeqAt.RcAt.tuples (A:=A) (e:=λj=>deq (ds.getD j .non) (es.getD j .non)) pl pl' (by omega) (cL r1 r2 hl hl1 λj x y d e u w a b c k ra rb=>ih j x d a c (h1 j y e b k) I ra rb (by show A.units+1+n<cLine;omega));rw[List.size_toArray,List.size_toArray,<- r1.length,<- r2.length,hl,hl1,cc]at y;exact SeqAt.EqAt.of_refs hne y
 | @lst n p xs ds e0 hl h ih =>
  intro m y e A u v q I ru rv hu;cases ru;obtain⟨its,r1,pl,_⟩:=I.list (SqL.of e0);cases q with
  | non=>cases rv;exact SeqAt.EqAt.list_none pl.isList (by omega)
  | bl=>cases rv;exact SeqAt.EqAt.list_bool _ pl.isList (by omega)
  | int=>obtain⟨_,rfl⟩:=rv;exact SeqAt.EqAt.list_int _ _ pl.isList (by omega)
  | str=>obtain⟨_,rfl⟩:=rv;exact SeqAt.EqAt.list_str _ _ pl.isList (by omega)
  | tup e1 hl1 h1=>cases rv;obtain⟨jts,_,pl',_⟩:=I.tuple (SqT.of e1);exact SeqAt.EqAt.list_tuple pl.isList pl' (by omega)
  | @lst m p' ys es e1 hl1 h1 =>
   cases rv
   by_cases hne:p=p'
   ·subst hne
    have z:deq (.lst ds) (.lst es)=true:=Rp.self (Rp.lst e0 hl h) (Rp.lst e1 hl1 h1);rw[z];exact SeqAt.EqAt.same _
   ·obtain⟨jts,r2,pl',_⟩:=I.list (SqL.of e1)
    have g1:=r1.length;have g2:=r2.length
    by_cases hz:ds.length=es.length
    ·have y:=SeqAt.RcAt.lists (A:=A) (e:=λj=>deq (ds.getD j .non) (es.getD j .non)) pl.isList pl'.isList (by rw[List.size_toArray,List.size_toArray];omega) (by omega) (cL r1 r2 hl hl1 λj x y d e u w a b c k ra rb=>ih j x d a c (h1 j y e b k) I ra rb (by show A.units+1+n<cLine;omega))
     rw[List.size_toArray,<- r1.length,hl,cM hz]at y;exact SeqAt.EqAt.of_refs hne y
    ·rw[show deq (.lst ds) (.lst es)=false from fS hz]
     exact SeqAt.EqAt.of_refs hne (SeqAt.RcAt.lists_lengths pl.isList pl'.isList (by rw[List.size_toArray,List.size_toArray];simp;omega) (by omega))
end
section
variable {X:Cx} {pins:List (Addr×Obj)} {σ:St} {H:Hp} {s:Shared}
theorem Rp.rcAt{A:Around}{n m:Nat}{x y:V}{d e:D}{u v:Value}(r:Rp H n x d)(q:Rp H m y e)(I:ur X pins σ H s)(ru:aN x u)(rv:aN y v)(hu:A.units+n+1<cLine):SeqAt.RcAt A s u v (deq d e):=by
 cases r with
 | non =>
  cases q with
  | non =>
   cases ru;cases rv;exact SeqAt.RcAt.none_none
  | bl =>
   cases ru;cases rv;exact SeqAt.RcAt.none_bool _
  | int =>
   cases ru;obtain⟨_,rfl⟩:=rv;exact SeqAt.RcAt.none_int _ _
  | str =>
   cases ru;obtain⟨_,rfl⟩:=rv;exact SeqAt.RcAt.none_str _ _
  | @tup m p' ys es e1 hl1 h1 =>
   cases ru;cases rv;obtain⟨jts,r2,pl',_⟩:=I.tuple (SqT.of e1);exact SeqAt.RcAt.none_tuple pl' (by omega)
  | @lst m p' ys es e1 hl1 h1 =>
   cases ru;cases rv;obtain⟨jts,r2,pl',_⟩:=I.list (SqL.of e1);exact SeqAt.RcAt.none_list pl'.isList (by omega)
 | bl =>
  cases q with
  | non =>
   cases ru;cases rv;exact SeqAt.RcAt.bool_none _
  | bl =>
   cases ru;cases rv;exact SeqAt.RcAt.bool_bool _ _
  | int =>
   cases ru;obtain⟨_,rfl⟩:=rv;exact SeqAt.RcAt.bool_int _ _ _
  | str =>
   cases ru;obtain⟨_,rfl⟩:=rv;exact SeqAt.RcAt.bool_str _ _ _
  | @tup m p' ys es e1 hl1 h1 =>
   cases ru;cases rv;obtain⟨jts,r2,pl',_⟩:=I.tuple (SqT.of e1);exact SeqAt.RcAt.bool_tuple _ pl' (by omega)
  | @lst m p' ys es e1 hl1 h1 =>
   cases ru;cases rv;obtain⟨jts,r2,pl',_⟩:=I.list (SqL.of e1);exact SeqAt.RcAt.bool_list _ pl'.isList (by omega)
 | int =>
  cases q with
  | non =>
   obtain⟨_,rfl⟩:=ru;cases rv;exact SeqAt.RcAt.int_none _ _
  | bl =>
   obtain⟨_,rfl⟩:=ru;cases rv;exact SeqAt.RcAt.int_bool _ _ _
  | int =>
   obtain⟨_,rfl⟩:=ru;obtain⟨_,rfl⟩:=rv;exact SeqAt.RcAt.int_int _ _ _ _
  | str =>
   obtain⟨_,rfl⟩:=ru;obtain⟨_,rfl⟩:=rv;exact SeqAt.RcAt.int_str _ _ _ _
  | @tup m p' ys es e1 hl1 h1 =>
   obtain⟨_,rfl⟩:=ru;cases rv;obtain⟨jts,r2,pl',_⟩:=I.tuple (SqT.of e1);exact SeqAt.RcAt.int_tuple _ _ pl' (by omega)
  | @lst m p' ys es e1 hl1 h1 =>
   obtain⟨_,rfl⟩:=ru;cases rv;obtain⟨jts,r2,pl',_⟩:=I.list (SqL.of e1);exact SeqAt.RcAt.int_list _ _ pl'.isList (by omega)
 | str =>
  cases q with
  | non =>
   obtain⟨_,rfl⟩:=ru;cases rv;exact SeqAt.RcAt.str_none _ _
  | bl =>
   obtain⟨_,rfl⟩:=ru;cases rv;exact SeqAt.RcAt.str_bool _ _ _
  | int =>
   obtain⟨_,rfl⟩:=ru;obtain⟨_,rfl⟩:=rv;exact SeqAt.RcAt.str_int _ _ _ _
  | str =>
   obtain⟨_,rfl⟩:=ru;obtain⟨_,rfl⟩:=rv;exact SeqAt.RcAt.str_str _ _ _ _
  | @tup m p' ys es e1 hl1 h1 =>
   obtain⟨_,rfl⟩:=ru;cases rv;obtain⟨jts,r2,pl',_⟩:=I.tuple (SqT.of e1);exact SeqAt.RcAt.str_tuple _ _ pl' (by omega)
  | @lst m p' ys es e1 hl1 h1 =>
   obtain⟨_,rfl⟩:=ru;cases rv;obtain⟨jts,r2,pl',_⟩:=I.list (SqL.of e1);exact SeqAt.RcAt.str_list _ _ pl'.isList (by omega)
 | @tup n p xs ds e0 hl h =>
  cases q with
  | non =>
   cases ru;cases rv;obtain⟨its,r1,pl,_⟩:=I.tuple (SqT.of e0);exact SeqAt.RcAt.tuple_none pl (by omega)
  | bl =>
   cases ru;cases rv;obtain⟨its,r1,pl,_⟩:=I.tuple (SqT.of e0);exact SeqAt.RcAt.tuple_bool _ pl (by omega)
  | int =>
   cases ru;obtain⟨_,rfl⟩:=rv;obtain⟨its,r1,pl,_⟩:=I.tuple (SqT.of e0);exact SeqAt.RcAt.tuple_int _ _ pl (by omega)
  | str =>
   cases ru;obtain⟨_,rfl⟩:=rv;obtain⟨its,r1,pl,_⟩:=I.tuple (SqT.of e0);exact SeqAt.RcAt.tuple_str _ _ pl (by omega)
  | @tup m p' ys es e1 hl1 h1 =>
   cases ru;cases rv;obtain⟨its,r1,pl,_⟩:=I.tuple (SqT.of e0);obtain⟨jts,r2,pl',_⟩:=I.tuple (SqT.of e1);have y:=SeqAt.RcAt.tuples (A:=A) (e:=λj=>deq (ds.getD j .non) (es.getD j .non)) pl pl' (by omega) (cL r1 r2 hl hl1 λj x y d e u w a b c k ra rb=>(h j x d a c).eqAt (h1 j y e b k) I ra rb (by show A.units+1+_<cLine;omega));rw[List.size_toArray,List.size_toArray,<- r1.length,<- r2.length,hl,hl1,cc]at y;exact y
  | @lst m p' ys es e1 hl1 h1 =>
   cases ru;cases rv;obtain⟨its,r1,pl,_⟩:=I.tuple (SqT.of e0);obtain⟨jts,r2,pl',_⟩:=I.list (SqL.of e1);exact SeqAt.RcAt.tuple_list pl pl'.isList (by omega)
 | @lst n p xs ds e0 hl h =>
  cases q with
  | non =>
   cases ru;cases rv;obtain⟨its,r1,pl,_⟩:=I.list (SqL.of e0);exact SeqAt.RcAt.list_none pl.isList (by omega)
  | bl =>
   cases ru;cases rv;obtain⟨its,r1,pl,_⟩:=I.list (SqL.of e0);exact SeqAt.RcAt.list_bool _ pl.isList (by omega)
  | int =>
   cases ru;obtain⟨_,rfl⟩:=rv;obtain⟨its,r1,pl,_⟩:=I.list (SqL.of e0);exact SeqAt.RcAt.list_int _ _ pl.isList (by omega)
  | str =>
   cases ru;obtain⟨_,rfl⟩:=rv;obtain⟨its,r1,pl,_⟩:=I.list (SqL.of e0);exact SeqAt.RcAt.list_str _ _ pl.isList (by omega)
  | @tup m p' ys es e1 hl1 h1 =>
   cases ru;cases rv;obtain⟨its,r1,pl,_⟩:=I.list (SqL.of e0);obtain⟨jts,r2,pl',_⟩:=I.tuple (SqT.of e1);exact SeqAt.RcAt.list_tuple pl.isList pl' (by omega)
  | @lst m p' ys es e1 hl1 h1 =>
   cases ru;cases rv;obtain⟨its,r1,pl,_⟩:=I.list (SqL.of e0);obtain⟨jts,r2,pl',_⟩:=I.list (SqL.of e1);have g1:=r1.length;have g2:=r2.length
   by_cases hz:ds.length=es.length
   ·have y:=SeqAt.RcAt.lists (A:=A) (e:=λj=>deq (ds.getD j .non) (es.getD j .non)) pl.isList pl'.isList (by rw[List.size_toArray,List.size_toArray];omega) (by omega) (cL r1 r2 hl hl1 λj x y d e u w a b c k ra rb=>(h j x d a c).eqAt (h1 j y e b k) I ra rb (by show A.units+1+_<cLine;omega))
    rw[List.size_toArray,<- r1.length,hl,cM hz]at y;exact y
   ·rw[show deq (.lst ds) (.lst es)=false from fS hz]
    exact SeqAt.RcAt.lists_lengths pl.isList pl'.isList (by rw[List.size_toArray,List.size_toArray];simp;omega) (by omega)
theorem Rp.rcNeAt{A:Around}{n m:Nat}{x y:V}{d e:D}{u v:Value}(r:Rp H n x d)(q:Rp H m y e)(I:ur X pins σ H s)(ru:aN x u)(rv:aN y v)(hu:A.units+n+1<cLine):SeqAt.RcNeAt A s u v (!(deq d e)):=by
 cases r with
 | non =>
  cases q with
  | non =>
   cases ru;cases rv;exact SeqAt.RcNeAt.none_none
  | bl =>
   cases ru;cases rv;exact SeqAt.RcNeAt.none_bool _
  | int =>
   cases ru;obtain⟨_,rfl⟩:=rv;exact SeqAt.RcNeAt.none_int _ _
  | str =>
   cases ru;obtain⟨_,rfl⟩:=rv;exact SeqAt.RcNeAt.none_str _ _
  | @tup m p' ys es e1 hl1 h1 =>
   cases ru;cases rv;obtain⟨jts,r2,pl',_⟩:=I.tuple (SqT.of e1);exact SeqAt.RcNeAt.none_tuple pl' (by omega)
  | @lst m p' ys es e1 hl1 h1 =>
   cases ru;cases rv;obtain⟨jts,r2,pl',_⟩:=I.list (SqL.of e1);exact SeqAt.RcNeAt.none_list pl'.isList (by omega)
 | bl =>
  cases q with
  | non =>
   cases ru;cases rv;exact SeqAt.RcNeAt.bool_none _
  | bl =>
   cases ru;cases rv;exact SeqAt.RcNeAt.bool_bool _ _
  | int =>
   cases ru;obtain⟨_,rfl⟩:=rv;exact SeqAt.RcNeAt.bool_int _ _ _
  | str =>
   cases ru;obtain⟨_,rfl⟩:=rv;exact SeqAt.RcNeAt.bool_str _ _ _
  | @tup m p' ys es e1 hl1 h1 =>
   cases ru;cases rv;obtain⟨jts,r2,pl',_⟩:=I.tuple (SqT.of e1);exact SeqAt.RcNeAt.bool_tuple _ pl' (by omega)
  | @lst m p' ys es e1 hl1 h1 =>
   cases ru;cases rv;obtain⟨jts,r2,pl',_⟩:=I.list (SqL.of e1);exact SeqAt.RcNeAt.bool_list _ pl'.isList (by omega)
 | int =>
  cases q with
  | non =>
   obtain⟨_,rfl⟩:=ru;cases rv;exact SeqAt.RcNeAt.int_none _ _
  | bl =>
   obtain⟨_,rfl⟩:=ru;cases rv;exact SeqAt.RcNeAt.int_bool _ _ _
  | int =>
   obtain⟨_,rfl⟩:=ru;obtain⟨_,rfl⟩:=rv;exact SeqAt.RcNeAt.int_int _ _ _ _
  | str =>
   obtain⟨_,rfl⟩:=ru;obtain⟨_,rfl⟩:=rv;exact SeqAt.RcNeAt.int_str _ _ _ _
  | @tup m p' ys es e1 hl1 h1 =>
   obtain⟨_,rfl⟩:=ru;cases rv;obtain⟨jts,r2,pl',_⟩:=I.tuple (SqT.of e1);exact SeqAt.RcNeAt.int_tuple _ _ pl' (by omega)
  | @lst m p' ys es e1 hl1 h1 =>
   obtain⟨_,rfl⟩:=ru;cases rv;obtain⟨jts,r2,pl',_⟩:=I.list (SqL.of e1);exact SeqAt.RcNeAt.int_list _ _ pl'.isList (by omega)
 | str =>
  cases q with
  | non =>
   obtain⟨_,rfl⟩:=ru;cases rv;exact SeqAt.RcNeAt.str_none _ _
  | bl =>
   obtain⟨_,rfl⟩:=ru;cases rv;exact SeqAt.RcNeAt.str_bool _ _ _
  | int =>
   obtain⟨_,rfl⟩:=ru;obtain⟨_,rfl⟩:=rv;exact SeqAt.RcNeAt.str_int _ _ _ _
  | str =>
   obtain⟨_,rfl⟩:=ru;obtain⟨_,rfl⟩:=rv;exact SeqAt.RcNeAt.str_str _ _ _ _
  | @tup m p' ys es e1 hl1 h1 =>
   obtain⟨_,rfl⟩:=ru;cases rv;obtain⟨jts,r2,pl',_⟩:=I.tuple (SqT.of e1);exact SeqAt.RcNeAt.str_tuple _ _ pl' (by omega)
  | @lst m p' ys es e1 hl1 h1 =>
   obtain⟨_,rfl⟩:=ru;cases rv;obtain⟨jts,r2,pl',_⟩:=I.list (SqL.of e1);exact SeqAt.RcNeAt.str_list _ _ pl'.isList (by omega)
 | @tup n p xs ds e0 hl h =>
  cases q with
  | non =>
   cases ru;cases rv;obtain⟨its,r1,pl,_⟩:=I.tuple (SqT.of e0);exact SeqAt.RcNeAt.tuple_none pl (by omega)
  | bl =>
   cases ru;cases rv;obtain⟨its,r1,pl,_⟩:=I.tuple (SqT.of e0);exact SeqAt.RcNeAt.tuple_bool _ pl (by omega)
  | int =>
   cases ru;obtain⟨_,rfl⟩:=rv;obtain⟨its,r1,pl,_⟩:=I.tuple (SqT.of e0);exact SeqAt.RcNeAt.tuple_int _ _ pl (by omega)
  | str =>
   cases ru;obtain⟨_,rfl⟩:=rv;obtain⟨its,r1,pl,_⟩:=I.tuple (SqT.of e0);exact SeqAt.RcNeAt.tuple_str _ _ pl (by omega)
  | @tup m p' ys es e1 hl1 h1 =>
   cases ru;cases rv;obtain⟨its,r1,pl,_⟩:=I.tuple (SqT.of e0);obtain⟨jts,r2,pl',_⟩:=I.tuple (SqT.of e1);have y:=SeqAt.RcNeAt.tuples (A:=A) (e:=λj=>deq (ds.getD j .non) (es.getD j .non)) pl pl' (by omega) (cL r1 r2 hl hl1 λj x y d e u w a b c k ra rb=>(h j x d a c).eqAt (h1 j y e b k) I ra rb (by show A.units+1+_<cLine;omega));rw[List.size_toArray,List.size_toArray,<- r1.length,<- r2.length,hl,hl1,cc]at y;exact y
  | @lst m p' ys es e1 hl1 h1 =>
   cases ru;cases rv;obtain⟨its,r1,pl,_⟩:=I.tuple (SqT.of e0);obtain⟨jts,r2,pl',_⟩:=I.list (SqL.of e1);exact SeqAt.RcNeAt.tuple_list pl pl'.isList (by omega)
 | @lst n p xs ds e0 hl h =>
  cases q with
  | non =>
   cases ru;cases rv;obtain⟨its,r1,pl,_⟩:=I.list (SqL.of e0);exact SeqAt.RcNeAt.list_none pl.isList (by omega)
  | bl =>
   cases ru;cases rv;obtain⟨its,r1,pl,_⟩:=I.list (SqL.of e0);exact SeqAt.RcNeAt.list_bool _ pl.isList (by omega)
  | int =>
   cases ru;obtain⟨_,rfl⟩:=rv;obtain⟨its,r1,pl,_⟩:=I.list (SqL.of e0);exact SeqAt.RcNeAt.list_int _ _ pl.isList (by omega)
  | str =>
   cases ru;obtain⟨_,rfl⟩:=rv;obtain⟨its,r1,pl,_⟩:=I.list (SqL.of e0);exact SeqAt.RcNeAt.list_str _ _ pl.isList (by omega)
  | @tup m p' ys es e1 hl1 h1 =>
   cases ru;cases rv;obtain⟨its,r1,pl,_⟩:=I.list (SqL.of e0);obtain⟨jts,r2,pl',_⟩:=I.tuple (SqT.of e1);exact SeqAt.RcNeAt.list_tuple pl.isList pl' (by omega)
  | @lst m p' ys es e1 hl1 h1 =>
   cases ru;cases rv;obtain⟨its,r1,pl,_⟩:=I.list (SqL.of e0);obtain⟨jts,r2,pl',_⟩:=I.list (SqL.of e1);have g1:=r1.length;have g2:=r2.length
   by_cases hz:ds.length=es.length
   ·have y:=SeqAt.RcNeAt.lists (A:=A) (e:=λj=>deq (ds.getD j .non) (es.getD j .non)) pl.isList pl'.isList (by rw[List.size_toArray,List.size_toArray];omega) (by omega) (cL r1 r2 hl hl1 λj x y d e u w a b c k ra rb=>(h j x d a c).eqAt (h1 j y e b k) I ra rb (by show A.units+1+_<cLine;omega))
    rw[List.size_toArray,<- r1.length,hl,cM hz]at y;exact y
   ·rw[show deq (.lst ds) (.lst es)=false from fS hz]
    exact SeqAt.RcNeAt.lists_lengths pl.isList pl'.isList (by rw[List.size_toArray,List.size_toArray];simp;omega) (by omega)
end
section
variable {X:Cx}
inductive Au (neg:Bool) (x:V) (y:V) (H:Hp) (Q:VK):Prop
 | mk:∀d e,(Rp H 9 x d)->(Rp H 9 y e)->(Q (.bl (if neg then !(deq d e) else deq d e)) H)->Au neg x y H Q
theorem rG(hu:X.A.units+10<cLine):OpR X (compareOp .Eq) (Au false):=by
 intro pins s σ H x y v u Q I rx ry h;obtain⟨d,e,rd,re,k⟩:=h;exact rd.rcAt re I rx ry (by omega) _ _ _ _ ⟨.bl _,H,I,rfl,k⟩
theorem rE(hu:X.A.units+10<cLine):OpR X (compareOp .NotEq) (Au true):=by
 intro pins s σ H x y v u Q I rx ry h;obtain⟨d,e,rd,re,k⟩:=h;exact rd.rcNeAt re I rx ry (by omega) _ _ _ _ ⟨.bl _,H,I,rfl,k⟩
end
section
variable {H:Hp} {n:Nat} {p:Addr} {x y z w:V} {a b c d:D}
theorem Rp.t2(e:H p=some (.tup [x,y]))(ha:Rp H n x a)(hb:Rp H n y b):Rp H (n+1) (.ref p) (.tup [a,b]):=.tup e rfl λj x d h k=>by
 match j with
 | 0=>cases h;cases k;exact ha
 | 1=>cases h;cases k;exact hb
 | j+2=>simp at h
theorem Rp.l0(e:H p=some (.lst [])):Rp H (n+1) (.ref p) (.lst []):=.lst e rfl λj x d h=>by simp at h
mutual
theorem jD:∀d:D,deq d d=true
 | .non=>rfl
 | .bl b=>by simp[deq]
 | .int i=>by simp[deq]
 | .str x=>by simp[deq]
 | .tup ds=>by simp only[deq];exact eD ds
 | .lst ds=>by simp only[deq];exact eD ds
theorem eD:∀ds:List D,dR ds ds=true
 | []=>by simp[dR]
 | d::ds=>by simp only[dR,Bool.and_eq_true];exact⟨jD d,eD ds⟩
end
end
section
variable {κ:Type} [DecidableEq κ]
noncomputable def dZ(kvs:List (κ×V))(k:κ):Option V:=(kvs.find? λkv=>decide (kv.1=k)).map (·.2)
theorem iT{p:κ×V}{r:List (κ×V)}{k:κ}(e:p.1=k):dZ (p::r) k=some p.2:=by simp[dZ,List.find?_cons,e]
theorem iU{p:κ×V}{r:List (κ×V)}{k:κ}(e:¬p.1=k):dZ (p::r) k=dZ r k:=by simp[dZ,List.find?_cons,e]
theorem dX.isSome_eq{o:Option V}{u:Option Value}(r:dX o u):o.isSome=u.isSome:=by
 cases o with
 | none=>cases u with
  | none=>rfl
  | some _=>exact(show False from r).elim
 | some _=>cases u with
  | none=>exact(show False from r).elim
  | some _=>rfl
theorem KV.val{kvs:List (κ×V)}{vs:List (κ×Value)}(r:KV kvs vs)(k:κ):dX (dZ kvs k) (valueAt vs k):=by
 unfold KV at r
 induction r with
 | nil=>exact True.intro
 | @cons p q ps qs h t ih =>
  obtain⟨h1,h2⟩:=h
  by_cases e:p.1=k
  ·have e':q.1=k:=h1.symm.trans e
   have b:valueAt (q::qs) k=some q.2:=by simp[valueAt,List.find?_cons,e']
   rw[iT e,b];exact h2
  ·have e':¬q.1=k:=λz=>e (h1.trans z)
   have b:valueAt (q::qs) k=valueAt qs k:=by simp[valueAt,List.find?_cons,e']
   rw[iU e,b];exact ih
end
noncomputable def tw(i:Expr):Prop:=∀ov iv,subscripted i false ov iv=operate [ov,iv] (getItem ov iv)
theorem pG{prog:Program}{w:World}{A:Around}{E:Value->Shared->Prop}{s:Shared}{env:Env}{value slice:Expr}{pos:Pos}{T id:String}{Q:Value->Shared->Prop}
  (hl:typeLookup (.type T) "__getitem__" = pure (some (.builtin id))) (hs:tw slice)
  (h:wpAny (model prog w) A (eval value env) (λo s1=>wpAny (model prog w) A (eval slice env) (λi s2=>s2.TypeIs o T/\wpAny (model prog w) A (getItem o i) Q E s2) E s1) E s) :
  wpAny (model prog w) A (eval (.Subscript value slice pos) env) Q E s:=by
 refine Subscript_ (wpAny_mono h (λo s1 h1=>wpAny_mono h1 (λi s2 h2=>?_) λ_ _ x=>x) λ_ _ x=>x);obtain⟨hT,h2⟩:=h2;unfold subscriptTail;refine wpAny_bind ?_;rw[getitemInPython_of_ne hT.not_modules];refine wpAny_bind (wpAny_specialOf hT hl ?_);have fin:wpAny (model prog w) A (subscripted slice false o i) (λr s3=>wpAny (model prog w) A (letTemporaryGo value o r >>= λ_=>pure r) Q E s3) E s2:=by
  rw[hs o i];exact wpAny_operating (wpAny_mono h2 (λr s3 h3=>wpAny_bind (wpAny_letTemporaryGo (wpAny_pure h3))) λ_ _ x=>x)
 first
  | exact wpAny_pure (wpAny_bind fin)
  | exact wpAny_bind (wpAny_pure (wpAny_bind fin))
  | exact wpAny_bind fin
structure v0(X:Cx)(scope:Scope)(cl:List (Str×Addr))(xs:List Str)(fv:List (Str×Nat)):Prop where
 clos:closureFor scope X.env=pure cl
 kind:scope.kind = .function
 cell:∀y∈scope.names,y.2≠.cell
 names:∀y∈scope.names,y.2 = .local->scope.names.lookup y.1=some .local
 own:∀x∈xs,scope.names.lookup x=some .local
 cells:∀p∈cl,X.env.cells.lookup p.1=some p.2
 has:((relabel scope X.env).names.all λq=>!(q.2 == .cell || q.2 == .free) || (cl.lookup q.1).isSome)=true
 nd:(xs++fv.map (·.1)).Nodup
 slot:∀p∈fv,X.N[p.2]? = some p.1/\X.env.kindOf p.1=some .cell/\Vis X.env.scope p.1/\(cl.lookup p.1).isSome=true/\((relabel scope X.env).names.lookup p.1=some .cell)
 stk:X.stack=X.env::X.outer/\X.env.frame=some X.env.locals
 noex:X.ex = []
noncomputable def PTs(X:Cx)(ifs:List Expr)(tc:TT):Prop :=
 ∀(pins:List (Addr×Obj)) (s:Shared) (σ:St) (H:Hp) (Q:Bool->Hp->Prop),ur X pins σ H s->tc σ H Q ->
  wpAny (model X.prog X.w) X.A (forIn ifs true λc r=>if r=true then do let ok <- isTrue c X.env (eval c X.env);pure (ForInStep.yield ok) else pure (ForInStep.yield r)) (λb s'=>∃H',ur X pins σ H' s'/\Q b H') X.xe s
noncomputable def rg:TT:=λ_ H Q=>Q true H
theorem pL{X:Cx}:PTs X [] rg:=λpins s σ H Q I h=>wpAny_tests_nil ⟨H,I,h⟩
theorem kZ{X:Cx}{c:Expr}{tc:TT}(h:PT X c tc):PTs X [c] tc:=λpins s σ H Q I q=>wpAny_tests_one (h pins s σ H Q I q)
theorem eW{prog:Program}{w:World}{A:Around}{R:Result->Shared->Prop}{s:Shared}{elt target iter:Expr}{ifs:List Expr}{scope:Scope}{pos:Pos}{it acc:Value}{env:Env}(I:Nat->Shared->Prop)
  (turn:∀n s,I n s->wpAny (model prog w) A (pyNext it) (λr s1=>match r with
   | none=>R (.ok .next) s1
   | some v=>wpAny (model prog w) A (letOwnedTupleGo target it v) (λ_ s₀=>wpAny (model prog w) A (assign target env v) (λ_ s2 =>
     wpAny (model prog w) A (forIn ifs true λc r=>if r=true then do let ok <- isTrue c env (eval c env);pure (ForInStep.yield ok) else pure (ForInStep.yield r)) (λok s3 =>
      if ok=true then wpAny (model prog w) A (eval elt env) (λx s4 =>
       wpAny (model prog w) A (call (.builtin "list.append") [acc,x]) (λ_ s5=>∃m,m<n/\I m s5) (notedBy (model prog w) A env λe s'=>R (.error e) s') s4) (notedBy (model prog w) A env λe s'=>R (.error e) s') s3
      else ∃m,m<n/\I m s3) (notedBy (model prog w) A env λe s'=>R (.error e) s') s2) (notedBy (model prog w) A env λe s'=>R (.error e) s') s₀) (notedBy (model prog w) A env λe s'=>R (.error e) s') s1) (notedBy (model prog w) A env λe s'=>R (.error e) s') s)
  (n:Nat) (h:I n s):codeAny (model prog w) A (.compLoop (.ListComp elt [⟨target,iter,ifs,0⟩] scope pos) 0 it acc env) R s:=by
 refine codeAny_loop rfl I (λn s hI=>?_) n h;show wpAny _ A ((compTurn (.ListComp elt [⟨target,iter,ifs,0⟩] scope pos) 0 it acc env).onRaise (λx=>do noteFrame x env;theTreesLotGoes x)) _ _ s
 refine wpAny_noted ?_;rw[compTurn_list];refine wpAny_bind (wpAny_standAt (wpAny_bind (wpAny_mono (turn n s hI) (λr s1 h1=>?_) λ_ _ h'=>h')));cases r with
 | none=>exact wpAny_pure h1
 | some v =>
  refine wpAny_bind (wpAny_mono h1 (λ_ s₀ h₀=>?_) λ_ _ h'=>h');refine wpAny_bind (wpAny_mono h₀ (λ_ s2 h2=>wpAny_bind (wpAny_mono h2 (λok s3 h3=>?_) λ_ _ h'=>h')) λ_ _ h'=>h');cases ok with
  | false=>exact wpAny_pure ⟨rfl,h3⟩
  | true=>exact wpAny_bind (wpAny_bind (wpAny_mono h3 (λx s4 h4=>wpAny_bind (wpAny_mono h4 (λ_ s5 h5=>wpAny_pure (wpAny_pure ⟨rfl,h5⟩)) λ_ _ h'=>h')) λ_ _ h'=>h'))
noncomputable def cu(J:It)(n:Nat)(fv:List (Str×Nat))(g:TG)(tc:TT)(te:TE)(σ:St)(H1:Hp)(Q:VK):Prop:=∀p,H1 p=none->∃W:Nat->Nat->List V->Hp->Prop,(∃m,W 0 m [] (upd H1 p (.lst [])))/\∀i m acc H2,W i m acc H2 ->
 H2 p=some (.lst acc)/\acc.length<sizeLine/\((J.stop i H2/\Q (.ref p) H2)\/(J.go i H2/\∀x H3,J.yld i H2 x H3->∀τ:St,τ.length=n->g x (τ++fvs fv σ) H3 λσ2 H4=>(∃τ':St,τ'.length=n/\σ2=τ'++fvs fv σ) /\
  tc σ2 H4 λb H5=>if b=true then te σ2 H5 (λy H6=>H6 p=some (.lst acc)/\∃m',m'<m/\W (i+1) m' (acc++[y]) (upd H6 p (.lst (acc++[y])))) else ∃m',m'<m/\W (i+1) m' acc H5))
noncomputable def mW(wi:TI)(n:Nat)(fv:List (Str×Nat))(g:TG)(tc:TT)(te:TE):TE:=λσ H Q=>wi σ H λJ H1=>cu J n fv g tc te σ H1 Q
section
variable {X:Cx} {scope:Scope} {cl:List (Str×Addr)} {xs:List Str} {fv:List (Str×Nat)} {elt iter tg:Expr} {ifs:List Expr} {pos:Pos} {te:TE} {tc:TT} {g:TG}
theorem qv{pins:List (Addr×Obj)}{σ:St}{H:Hp}{s:Shared}{fp:List Addr}(C:v0 X scope cl xs fv)(I:ur X pins σ H s)(hf:∀b∈fp,bI X pins H b)(ho:∀b∈fp,b<s.heap.objs.size):(X.blk (xs++fv.map (·.1)) scope cl fp s H).Ok:=by
 have hcl:∀y c,cl.lookup y=some c->X.env.cells.lookup y=some c:=λy c h=>C.cells _ (a6 h);have old:∀b∈fp,X.s₀.heap.objs.size<=b:=λb hb=>by
  rcases(hf b hb).2.2.2.1 with z|z
  ·rw[C.noex]at z
   cases z
  ·exact z
 refine⟨I.ok.mod,by show(relabel scope X.env).kind=_;exact C.kind,I.ok.glob,I.ok.blt,Nat.le_refl _,λy z c h1 h2=>I.ok.inj y z c (hcl y c h1) (hcl z c h2),λy hy=>?_,(λy c h=>by cases h),I.ok.hd,I.ok.frames,.inl rfl,λb hb=>?_,λb o e=>I.bs b o e,Nat.le_trans I.ok.bsz I.sz,λb o e hb=>?_,λb hb hm=>?_,I.stack,I.stkFree⟩
 ·have q:=C.has
  rw[List.all_eq_true]at q;have hm:∃k,(y,k)∈(relabel scope X.env).names/\(k = .cell\/k = .free):=by
   rcases hy with hy|hy
   ·exact⟨_,a6 hy,.inl rfl⟩
   ·exact⟨_,a6 hy,.inr rfl⟩
  obtain⟨k,hk,hk2⟩:=hm;have q2:=q _ hk;have q3:(cl.lookup y).isSome=true:=by
   rcases hk2 with rfl|rfl
   ·simpa using q2
   ·simpa using q2
  exact Option.isSome_iff_exists.mp q3
 ·obtain⟨f0,f1,f2,f3,f4,f5⟩:=hf b hb
  refine⟨?_,λy c h=>f4 y c (hcl y c h)⟩;exact Nat.ne_of_lt (ho b hb)
 ·have z:=Heap.lt_size e
  have z2:=old b hb;exact absurd (Nat.lt_of_lt_of_le z (Nat.le_trans I.ok.bsz z2)) (Nat.lt_irrefl _)
 ·obtain⟨f0,f1,f2,f3,f4,f5⟩:=hf b hb
  rcases List.mem_cons.mp (I.stkSub b hm) with z|z
  ·exact f1 z
  ·exact f2 z
theorem jO{pins:List (Addr×Obj)}{σ:St}{H:Hp}{s s4:Shared}{fp:List Addr}(C:v0 X scope cl xs fv)(I:ur X pins σ H s)(hf:∀b∈fp,bI X pins H b)(ho:∀b∈fp,b<s.heap.objs.size)
  (hs:s4.os=s.os/\s4.gens=s.gens) (ns:s4.heap.Ns s.heap.objs.size λ_=>none) (kp:∀b o,s.heap.get? b=some o->s4.heap.get? b=some o) :
  ur (X.blk (xs++fv.map (·.1)) scope cl fp s H) [] (List.replicate xs.length none++fvs fv σ) H s4:=by
 have hcl:∀y c,cl.lookup y=some c->X.env.cells.lookup y=some c:=λy c h=>C.cells _ (a6 h);refine⟨qv C I hf ho,hs.1,by rw[hs.2];exact I.bare,Un.kept kp,⟨_,ns,λi y v e1 e2 e3=>?_⟩,λy c h=>?_,I.hok.fresh (Nat.le_refl _),λy c h=>I.freeC y c (hcl y c h),λp hp=>by simp at hp,I.hok.kept kp,by simp[fvs]⟩
 ·by_cases hi:i<xs.length
  ·rw[List.getElem?_append_left (by rw[List.length_replicate];exact hi),List.getElem?_replicate]at e2
   simp[hi]at e2
  ·obtain⟨j,rfl⟩:∃j,i=xs.length+j:=⟨i - xs.length,by omega⟩
   have e1':(fv.map (·.1))[j]? = some y:=by
    have z:(xs++fv.map (·.1))[xs.length+j]? = some y:=e1;rw[List.getElem?_append_right (by omega)]at z;simpa using z
   have e2':(fvs fv σ)[j]? = some (some v):=by
    rw[List.getElem?_append_right (by rw[List.length_replicate];omega),List.length_replicate]at e2;simpa using e2
   rw[List.getElem?_map]at e1';unfold fvs at e2';rw[List.getElem?_map]at e2';cases hq:fv[j]? with
   | none =>
    rw[hq]at e1';cases e1'
   | some q =>
    rw[hq]at e1' e2';have ey:q.1=y:=Option.some.inj e1';have ev:(σ[q.2]?).join=some v:=Option.some.inj e2';have hm:q∈fv:=List.mem_of_getElem? hq;obtain⟨s1,s2,s3,s4',s5⟩:=C.slot q hm;have ev2:σ[q.2]? = some (some v):=by
     cases hz:σ[q.2]? with
     | none =>
      rw[hz]at ev;cases ev
     | some z =>
      rw[hz]at ev;have ev':z=some v:=ev;rw[ev']
    obtain⟨m,hn,hl⟩:=I.loc;obtain⟨u,r,lk⟩:=hl q.2 q.1 v s1 ev2 s3;obtain⟨c,hc⟩:=Option.isSome_iff_exists.mp s4';refine⟨u,r,.inr ⟨.inl (by rw[<- ey];exact s5),c,by rw[<- ey];exact hc,?_⟩⟩;rcases lk with⟨k,_⟩|⟨_,c',hc',z⟩
    ·rw[s2]at k
     cases k
    ·rw[hcl _ _ hc]at hc'
     cases hc';obtain⟨o,ho',hd⟩:=z;exact⟨o,kp _ _ ho',hd⟩
 ·obtain⟨v,o,ho',hd⟩:=I.cell y c (hcl y c h)
  exact⟨v,o,kp _ _ ho',hd⟩
theorem jN{pins:List (Addr×Obj)}{σ:St}{H2:Hp}{s2:Shared}{it:Addr}{fp:List Addr}{tn:Nat->Heap->Prop}{J:It}{RR:Value->Addr->Result->Shared->Prop}{E:Value->Shared->Prop}{Qf:V->Hp->Prop}
  (hcalm:X.calm=true) (C:v0 X scope cl xs fv) (I2:ur X pins σ H2 s2) (T:xr X.prog X.w X.K tg J fp it tn) (st:tn 0 s2.heap) (f2:∀b∈fp,bI X pins H2 b)
  (rd:cu J xs.length fv g tc te σ H2 Qf)
  (hg:∀(s₀:Shared) (H₀:Hp),PG (X.blk (xs++fv.map (·.1)) scope cl fp s₀ H₀) tg g) (ht:∀(s₀:Shared) (H₀:Hp),PTs (X.blk (xs++fv.map (·.1)) scope cl fp s₀ H₀) ifs tc)
  (he:∀(s₀:Shared) (H₀:Hp),PE (X.blk (xs++fv.map (·.1)) scope cl fp s₀ H₀) elt te)
  (hRR:∀(p C:Addr) (H':Hp) (s':Shared),(∃m,s'.heap.Ns C m)->C≠X.env.locals->H' C=none->X.s₀.heap.objs.size<=C->(∀y c,X.env.cells.lookup y=some c->c≠C)->(∀q∈X.pn++pins,q.1≠C)->ur X pins σ H' s'->Qf (.ref p) H'->RR (.ref p) C (.ok .next) s') :
  wpAny (model X.prog X.w) X.A (newList []) (λacc s₃=>wpAny (model X.prog X.w) X.A (newFunctionEnv scope X.env.globals cl [] X.env.qual none .none (some X.env)) (λcenv s₄ =>
   codeAny (model X.prog X.w) X.A (.compStart (.ListComp elt [⟨tg,iter,ifs,0⟩] scope pos) 0 (.ref it) acc { cenv with scope:=relabel scope X.env }) (RR acc cenv.locals) s₄) E s₃) E s2:=by
 refine wpAny_newObj_type ?_;have hfresh:=I2.fresh;have I3:ur X pins σ (upd H2 s2.heap.objs.size (.lst [])) { s2 with heap:=s2.heap.push { cls:=.type "list",data:=.seq ([]:List Value).toArray } } :=
  I2.laid (t':=s2.toks) (λb u q=>Heap.get?_push_of_some _ q) (Nat.le_refl _) ⟨Nat.zero_le _,[],0,.nil,Heap.get?_push_size _ rfl⟩
 generalize hs3:({ s2 with heap:=s2.heap.push { cls:=.type "list",data:=.seq ([]:List Value).toArray } }:Shared)=s3 at I3 ⊢;have hp3:s2.heap.objs.size<s3.heap.objs.size:=by rw[<- hs3];exact Nat.lt_of_lt_of_le (Nat.lt_succ_self _) (Nat.le_of_eq (Heap.size_push _ _).symm)
 have k23:∀b o,s2.heap.get? b=some o->s3.heap.get? b=some o:=λb o e=>by rw[<- hs3];exact Heap.get?_push_of_some _ e
 have fpo:∀b∈fp,b<s2.heap.objs.size:=λb hb=>by
  obtain⟨o,e,_⟩:=T.obj 0 _ st b hb;exact Heap.lt_size e
 have f3:∀b∈fp,bI X pins (upd H2 s2.heap.objs.size (.lst [])) b:=λb hb=>⟨by rw[aA (Nat.ne_of_lt (fpo b hb))];exact(f2 b hb).1,(f2 b hb).2⟩;refine wpAny_newFunctionEnv C.cell (by intro y hy;simp at hy) (λh1 hns1 hsb1=>?_) C.kind;have kp:∀b o,s3.heap.get? b=some o->h1.get? b=some o:=λb o e=>(hsb1.2 b (Nat.ne_of_lt (Heap.lt_size e))).trans (Heap.get?_push_of_some _ e);have I4:=jO (s4:={ s3 with heap:=h1,toks:=s3.toks+([]:List (Str×Value)).length }) C I3 f3 (λb hb=>Nat.lt_trans (fpo b hb) hp3) ⟨rfl,rfl⟩ hns1 kp;have st4:tn 0 h1:=T.keep 0 _ _ st λb _ o e=>kp b o (k23 b o e);obtain⟨W,⟨m0,w0⟩,step⟩:=rd _ hfresh;have loop:codeAny (model X.prog X.w) X.A (.compLoop (.ListComp elt [⟨tg,iter,ifs,0⟩] scope pos) 0 (.ref it) (.ref s2.heap.objs.size) (compEnvC scope cl s3.heap.objs.size X.env)) (RR (.ref s2.heap.objs.size) s3.heap.objs.size)
   { s3 with heap:=h1,toks:=s3.toks+([]:List (Str×Value)).length }:=by
  refine eW (λn s=>∃i acc τ H',τ.length=xs.length/\ur (X.blk (xs++fv.map (·.1)) scope cl fp s3 (upd H2 s2.heap.objs.size (.lst []))) [] (τ++fvs fv σ) H' s/\tn i s.heap/\(∀b∈fp,H' b=none)/\W i n acc H') ?_ m0 ⟨0,[],List.replicate xs.length none,_,List.length_replicate,I4,st4,λb hb=>(f3 b hb).1,w0⟩;rintro n s ⟨i,acc,τ,H',hτ,I',st',fr',w'⟩;obtain⟨hp,hlen,alt⟩:=step i n acc H' w';have fpk:∀{H5:Hp},(∀b∈fp,H5 b=none)->∀b∈fp,bI (X.blk (xs++fv.map (·.1)) scope cl fp s3 (upd H2 s2.heap.objs.size (.lst []))) [] H5 b:=λh5 b hb =>
   ⟨h5 b hb,(I'.ok.exf b hb).1,I'.ok.exfs b hb,.inl hb,λy c e=>(I'.ok.exf b hb).2 y c e,λq hq=>by simp at hq⟩
  rcases alt with⟨stop,qf⟩|⟨go,turn⟩
  ·refine wpAny_mono (T.done (X.blk (xs++fv.map (·.1)) scope cl fp s3 (upd H2 s2.heap.objs.size (.lst []))) rfl rfl rfl hcalm i [] s _ H' (λ_ _=>False) I' (fpk fr') st' stop) (λr s5 ⟨hr,I5⟩=>?_) λ_ _ z=>False.elim z
   subst hr;refine hRR _ _ H' s5 (let ⟨m,hn,_⟩:=I5.loc;⟨m,hn⟩) (Nat.ne_of_gt I3.lt) I5.free I3.sz (λy c e=>?_) (λq hq=>?_) ?_ qf
   ·obtain⟨v,z⟩:=I3.cell y c e
    exact Nat.ne_of_lt z.lt
   ·exact Nat.ne_of_lt (Heap.lt_size (I3.pin q hq).1)
   ·exact I3.call' (s':=s5) (ch:=fp) I5.os I5.base I5.hok I5.bare λb hb=>⟨(f2 b hb).2.2.2.1,(f2 b hb).2.1,(f2 b hb).2.2.2.2.1,(f2 b hb).2.2.2.2.2⟩
  ·refine wpAny_mono (T.item (X.blk (xs++fv.map (·.1)) scope cl fp s3 (upd H2 s2.heap.objs.size (.lst []))) rfl rfl rfl hcalm i [] s _ H' (λ_ _=>False) I' (fpk fr') st' go) (λr s5 ⟨u,hr,h5⟩=>?_) λ_ _ z=>False.elim z
   subst hr;refine wpAny_mono h5 (λ_ s6 ⟨y,H6,I6,r6,y6,st6,fr6⟩=>?_) λ_ _ z=>False.elim z;have I6':=I6.pinned (fpk fr6) (T.obj _ _ st6);have rt:=turn y _ y6 τ hτ;refine wpAny_mono (hg s3 _ _ s6 _ H6 y u _ I6' r6 rt) (λ_ s7 ⟨σ7,H7,I7,⟨τ',hτ',e7⟩,q7⟩=>?_) λ_ _ z=>False.elim z;subst e7;refine wpAny_mono (ht s3 _ _ s7 _ _ _ I7 q7) (λb s7b ⟨H7b,I7b,q7b⟩=>?_) λ_ _ z=>False.elim z;have kp6:∀{σ9:St} {H9:Hp} {s9:Shared},ur (X.blk (xs++fv.map (·.1)) scope cl fp s3 (upd H2 s2.heap.objs.size (.lst []))) ([]++d8 fp s6.heap) σ9 H9 s9->tn (i+1) s9.heap/\∀b∈fp,H9 b=none:=λ{σ9 H9 s9} I9=>by
    refine⟨T.keep _ _ _ st6 λb hb o e=>(I9.pin (b,o) (List.mem_append_right _ (List.mem_append_right _ (aX hb e)))).1,λb hb=>?_⟩;obtain⟨o,e,d⟩:=T.obj _ _ st6 b hb;exact(I9.pin (b,o) (List.mem_append_right _ (List.mem_append_right _ (aX hb e)))).2.1
   cases b with
   | false =>
    obtain⟨m',hm',w8⟩:=q7b;exact⟨m',hm',i+1,acc,τ',_,hτ',I7b.unpinned,(kp6 I7b).1,(kp6 I7b).2,w8⟩
   | true =>
    refine wpAny_mono (he s3 _ _ s7b _ _ _ I7b q7b) (λv8 s8 ⟨y8,H8,I8,r8,q8,m',hm',w8⟩=>?_) λ_ _ z=>False.elim z;refine wpAny_mono (bJ (X:=X.blk (xs++fv.map (·.1)) scope cl fp s3 (upd H2 s2.heap.objs.size (.lst []))) _ s8 _ H8 (.ref s2.heap.objs.size) [y8] (.ref s2.heap.objs.size) [v8] (λ_ H9=>H9=upd H8 s2.heap.objs.size (.lst (acc++[y8]))) I8 rfl (.cons r8 .nil) ⟨_,acc,y8,rfl,rfl,q8,hlen,rfl⟩) (λ_ s9 ⟨_,H9,I9,_,e9⟩=>?_) λ_ _ z=>False.elim z;subst e9;exact⟨m',hm',i+1,acc++[y8],τ',_,hτ',I9.unpinned,(kp6 I9).1,(kp6 I9).2,w8⟩
 exact codeAny_compStart_list loop (T.self _ 0 _ _ _ st4 loop)
theorem nN{wi:TI}(hcalm:X.calm=true)(C:v0 X scope cl xs fv)(hi:PI X tg iter wi)(hg:∀(fp:List Addr) (s₀:Shared) (H₀:Hp),PG (X.blk (xs++fv.map (·.1)) scope cl fp s₀ H₀) tg g)(ht:∀(fp:List Addr) (s₀:Shared) (H₀:Hp),PTs (X.blk (xs++fv.map (·.1)) scope cl fp s₀ H₀) ifs tc)(he:∀(fp:List Addr) (s₀:Shared) (H₀:Hp),PE (X.blk (xs++fv.map (·.1)) scope cl fp s₀ H₀) elt te)
  (hs:∀v,foldedSetIterable iter X.env v=pure v:=by intro _;rfl):PE X (.ListComp elt [⟨tg,iter,ifs,0⟩] scope pos) (mW wi xs.length fv g tc te):=by
 intro pins s σ H Q I h;rw[eval_ListComp];refine wpAny_comprehension_free (use:=none) rfl hs C.clos C.kind C.names (wpAny_mono (hi pins s σ H _ I h) (λv s1 h1=>wpAny_mono h1 (λitv s2 h2=>?_) λ_ _ z=>z) λ_ _ z=>z);obtain⟨it,fp,tn,J,H2,rfl,I2,T,st2,f2,rd⟩:=h2;refine jN (Qf:=Q) hcalm C I2 T st2 f2 rd (hg fp) (ht fp) (he fp) λp D H' s' ns nL nH n0 nC nP I8 q=>?_;obtain⟨m,hn⟩:=ns;exact⟨m,hn,λh'' sb=>⟨.ref p,H',I8.turned (t':=s'.toks) (λb o hb e=>(sb.2 b hb).trans e) nH nL (.inr n0) nC nP,rfl,q⟩⟩
theorem jc{wi:TI}{y:Str}{j:Nat}{py spos:Pos}(hcalm:X.calm=true)(C:v0 X scope cl xs fv)(hN:X.N.Nodup)(hj:X.N[j]? = some y)(hy:X.env.scope.names.lookup y=some .local)(hi:PI X tg iter wi)(hg:∀(fp:List Addr) (s₀:Shared) (H₀:Hp),PG (X.blk (xs++fv.map (·.1)) scope cl fp s₀ H₀) tg g)(ht:∀(fp:List Addr) (s₀:Shared) (H₀:Hp),PTs (X.blk (xs++fv.map (·.1)) scope cl fp s₀ H₀) ifs tc)(he:∀(fp:List Addr) (s₀:Shared) (H₀:Hp),PE (X.blk (xs++fv.map (·.1)) scope cl fp s₀ H₀) elt te)
  (hsw:swapsWith (.ListComp elt [⟨tg,iter,ifs,0⟩] scope pos) (some (.Name y py)) spos.line X.env=pure true:=by rfl)
  (hs:∀v,foldedSetIterable iter X.env v=pure v:=by intro _;rfl):PS X (.Assign [.Name y py] (.ListComp elt [⟨tg,iter,ifs,0⟩] scope pos) spos) (lU (mW wi xs.length fv g tc te) (dI j)):=by
 intro pins s σ H D I h;rw[exec_Assign_Name_used _ _ _ _ hsw];refine wpAny_bind (wpAny_standAt (wpAny_bind ?_));show wpAny _ _ (do let _ <- comprehension (.ListComp elt [⟨tg,iter,ifs,0⟩] scope pos) scope X.env _ (newList []) false (eval iter X.env) (some (assign (.Name y py) X.env))) _ _ s
 refine wpAny_bind (wpAny_mono (wpAny_comprehension_free (use:=some (assign (.Name y py) X.env)) (Q:=λ_ s'=>SP X pins D .next s') rfl hs C.clos C.kind C.names
  (wpAny_mono (hi pins s σ H _ I h) (λv s1 h1=>wpAny_mono h1 (λitv s2 h2=>?_) λ_ _ z=>z) λ_ _ z=>z)) (λ_ s' hq=>wpAny_pure (wpAny_pure hq)) λ_ _ z=>z)
 obtain⟨it,fp,tn,J,H2,rfl,I2,T,st2,f2,rd⟩:=h2;refine jN (Qf:=λv H'=>dI j v σ H' D.nx) hcalm C I2 T st2 f2 rd (hg fp) (ht fp) (he fp) λp D' H' s' ns nL nH n0 nC nP I8 q=>?_;obtain⟨m,hn⟩:=ns;show wpAny _ _ (assign (.Name y py) X.env (.ref p)) _ _ _;refine wpAny_assign_Name (cJ I8 hN hj (.inl hy) (v:=.ref p) rfl (λs9 I9 ⟨a,sb,ha⟩=>?_) (.inr hy));have aD:D'≠a:=by
  rintro rfl;rcases ha with z|z
  ·exact nL z
  ·exact nC y _ z rfl
 exact⟨m,hn.sameBut sb aD,λh'' sb2=>⟨_,H',I9.turned (t':=s9.toks) (λb o hb e=>(sb2.2 b hb).trans e) nH nL (.inr n0) nC nP,q⟩⟩
end
theorem qp{J:It}{n k:Nat}{fv:List (Str×Nat)}{g:TG}{te:TE}{σ:St}{H1:Hp}{Q:VK}(hlen:n<1000)(R:Nat->V->Hp->Prop)(hR:∀i v H H',SameT H H'->R i v H->R i v H')
  (hst:∀H2,Same H1 H2->J.stop n H2) (hgo:∀i H2,i<n->Same H1 H2->J.go i H2)
  (hs:∀i x H2 H3 (τ:St) (Kc:VK),i<n->Same H1 H2->J.yld i H2 x H3->τ.length=k->(∀y H4,Same H2 H4->R i y H4->Kc y H4)->g x (τ++fvs fv σ) H3 λσ2 H4=>(∃τ':St,τ'.length=k/\σ2=τ'++fvs fv σ)/\te σ2 H4 Kc)
  (hd:∀l ys H',H1 l=none->Same H1 H'->H' l=some (.lst ys)->ys.length=n->(∀i y,ys[i]? = some y->R i y H')->Q (.ref l) H') :
  cu J k fv g rg te σ H1 Q:=by
 intro l hl;refine⟨λi m acc H2=>m=n - i/\i<=n/\acc.length=i/\Same H1 H2/\H2 l=some (.lst acc)/\∀j y,acc[j]? = some y->R j y H2,⟨n,rfl,Nat.zero_le _,rfl,Same.new hl,upd_same,λj y h=>by simp at h⟩,?_⟩;rintro i m acc H2 ⟨rfl,hi,e1,sm,e3,hr⟩;refine⟨e3,be (by omega),?_⟩
 by_cases hlt:i<n
 ·refine .inr ⟨hgo i H2 hlt sm,λx H3 y τ hτ=>?_⟩
  refine hs i x H2 H3 τ _ hlt sm y hτ λy H4 s4 ry=>⟨s4 _ _ e3,n - (i+1),by omega,rfl,hlt,by simp[e1],(sm.trans s4).upd hl,upd_same,λj z hz=>?_⟩;have t4:=SameT.upd (ys:=acc++[y]) (s4 _ _ e3);rcases Nat.lt_trichotomy j acc.length with h|h|h
  ·rw[List.getElem?_append_left h]at hz
   exact hR _ _ _ _ (s4.t.trans t4) (hr j z hz)
  ·subst h
   rw[List.getElem?_append_right (Nat.le_refl _),Nat.sub_self]at hz;cases hz;rw[e1];exact hR _ _ _ _ t4 ry
  ·rw[List.getElem?_eq_none (by simp;omega)]at hz
   cases hz
 ·have e:i=n:=by omega
  subst e;exact .inl ⟨hst H2 sm,hd l acc H2 hl sm e3 e1 hr⟩
theorem Un.flyF{fs:List Addr}{H H':Hp}{h h1 h2 B:Heap}(un:Un fs [] H H' h h1)(big:zT B fs H' h)(st1:B.StaysIn h1)(st2:B.StaysIn h2)
  (fr:∀b∈fs,H b=none/\∀o,h1.get? b=some o->∃sl,h2.get? b=some { o with slots:=sl }):Un fs [] H H' h h2 where
 keep:=λb o e n hb hx=>by
  have e1:=un.keep b o e n hb hx;obtain⟨ob,eb⟩:=big.old b o e hb;have e2:=st1 b ob eb;rw[e1]at e2;cases e2;exact st2 b _ eb
 slot:=λb o e n hb hx=>by
  obtain⟨s1,e1⟩:=un.slot b o e n hb hx;obtain⟨s2,e2⟩:=(fr b hb).2 _ e1;exact⟨s2,e2⟩
 free:=un.free
 there:=λb o e hx=>by
  by_cases hb:b∈fs
  ·obtain⟨s1,e1⟩:=un.slot b o e (fr b hb).1 hb hx
   obtain⟨s2,e2⟩:=(fr b hb).2 _ e1;exact⟨_,e2⟩
  ·obtain⟨ob,eb⟩:=big.old b o e hb
   exact⟨_,st2 b ob eb⟩
 tups:=un.tups
 frzs:=un.frzs
 tbls:=un.tbls
theorem eT{h h' base base':Heap}:∀{l:List Env},h.FunFrames base l->(∀b,base.get? b=none->base'.get? b=none)->(∀b∈frs l,∀o,h.get? b=some o->h'.get? b=some o)->h'.FunFrames base' l
 | [],_,_,_=>trivial
 | env::r,⟨hk,⟨L,o,hf,hn,ho,hd⟩,hr⟩,h1,h2=>⟨hk,⟨L,o,hf,h1 L hn,h2 L (List.mem_filterMap.mpr ⟨env,.head _,hf⟩) o ho,hd⟩,eT hr h1 λb hb o e=>h2 b (by
   obtain⟨x,hx,hy⟩:=List.mem_filterMap.mp hb;exact List.mem_filterMap.mpr ⟨x,.tail _ hx,hy⟩) o e⟩
theorem ji{h h':Heap}{C:Addr}{m:Str->Option Value}(n:h.Ns C m)(up:h.UpToSlots h'):h'.Ns C m:=by
 obtain⟨o,es,ep,ho,hd,hr⟩:=n;obtain⟨sl,e⟩:=up C o ho (λvs z=>by rw[hd]at z;cases z);exact⟨_,es,ep,e,hd,hr⟩
section
variable {P:Program} {w:World} {K:W.Frag} {mg:Str->Option Value} {base:Heap} {N:List Str} {qual:Str} {scope:Scope} {f:Addr} {cdv:Value} {A:Around} {outer:List Env} {s₀:Shared} {H₀:Hp} {E:XK}
noncomputable def lM(M:Model)(A:Around)(E:Value->Shared->Prop)(C:Addr)(ev:Value)(s':Shared):Prop :=
 ∃m,s'.heap.Ns C m/\∀h',Heap.SameBut C s'.heap h'->∀cenv:Env,cenv.locals=C->wpAny M A (PySem.passOn "comprehension.variables-let-go" ev cenv:Sem Value) (λ_ _=>False) E { s' with heap:=h' }
theorem bC{B:Heap}{C b:Addr}{o:Obj}(e:(W.hideAll B [C]).get? b=some o):b≠C/\B.get? b=some o:=by
 refine⟨λz=>?_,W.of_hideAll _ e⟩;subst z;rw[W.hideAll_none _ (List.mem_singleton.mpr rfl)]at e;cases e
theorem b8{B:Heap}{C b:Addr}(e:B.get? b=none):(W.hideAll B [C]).get? b=none:=by
 cases q:(W.hideAll B [C]).get? b with
 | none=>rfl
 | some o =>
  rw[(bC q).2]at e;cases e
theorem gF{h4 h5 B:Heap}{l:List Env}{C ea:Addr}{cls fl:Value}{g:Nat->Option Value}{m:Str->Option Value}(ns4:h4.Ns C m)(sb:Heap.SameBut C h4 h5)(k1:B.StaysIn h4)(k3:h4.FunFrames B l)(k4:Tr B h4 ea cls g fl)(hCs:C∉frs l) :
  (W.hideAll B [C]).StaysIn h5/\h5.FunFrames (W.hideAll B [C]) l/\Tr (W.hideAll B [C]) h5 ea cls g fl:=by
 have ndC:∀b o,h4.get? b=some o->∀vs,o.data = .fields vs->b≠C:=λb o eb vs hd z=>by
  subst z;obtain⟨o2,es,ep,ho2,hd2,_⟩:=ns4;rw[eb]at ho2;cases ho2;rw[hd]at hd2;cases hd2
 refine⟨λb o eb=>(sb.2 b (bC eb).1).trans (k1 b o (bC eb).2),eT k3 (λb z=>b8 z) λb hb o e=>(sb.2 b (λz=>hCs (z▸hb))).trans e,?_⟩;obtain⟨oe,vs,T,oT,ts,he,hc,hd,hg,h1,hnT,hTe,hT,hdT,h3⟩:=k4;exact⟨oe,vs,T,oT,ts,(sb.2 _ (ndC _ _ he _ hd)).trans he,hc,hd,hg,h1,b8 hnT,hTe,(sb.2 _ (ndC _ _ hT _ hdT)).trans hT,hdT,h3⟩
theorem ie{α:Type}{M:Model}{A:Around}{E:Value->Shared->Prop}{s:Shared}{base:Heap}{l:List Env}{e:Addr}{cls fl:Value}{g:Nat->Option Value}{env:Env}{what:String}{Q:α->Shared->Prop}(f1:base.StaysIn s.heap)(f3:s.heap.FunFrames base l)(f4:Tr base s.heap e cls g fl)
  (hE:∀h',base.StaysIn h'->h'.FunFrames base l->Tr base h' e cls g (env.frame.elim Value.none λf=>rawInt f)->(∀b o,s.heap.get? b=some o->(∀vs,o.data≠.fields vs)->h'.get? b=some o)->E (.ref e) { s with heap:=h' }):wpAny M A (PySem.passOn what (.ref e) env:Sem α) Q E s:=by
 unfold PySem.passOn;obtain⟨oe,vs,T,oT,ts,he,hc,hd,hg,h1,r⟩:=id f4;refine wpAny_bind (wpAny_field he hd h1 ?_);rw[if_neg (by simp)];exact wpAny_bind (b9 f1 f3 f4 λh' a b c d=>wpAny_throw (hE h' a b c d))
theorem ma{E1:XK}{pins:List (Addr×Obj)}{σ:St}{H:Hp}{s s':Shared}{ev:Value}{C:Addr}{m:Str->Option Value}{cenv:Env}(I:ur (ak (CXE P w) P w K mg base N qual scope f cdv A outer s₀ H₀ E) pins σ H s)
  (h:CXE P w (ak (CXE P w) P w K mg base N qual scope f cdv A outer s₀ H₀ E).stack H s E1 ev s') (hE:∀c o H',E1 c o H'->E c o H')
  (hcf:cenv.frame=(ak (CXE P w) P w K mg base N qual scope f cdv A outer s₀ H₀ E).env.frame) (hns:s.heap.Ns C m) (hCn:H C=none) (hCs:C∉frs (ak (CXE P w) P w K mg base N qual scope f cdv A outer s₀ H₀ E).stack) (hC0:s₀.heap.objs.size<=C) :
  notedBy (model P w) (ak (CXE P w) P w K mg base N qual scope f cdv A outer s₀ H₀ E).A cenv (lM (model P w) (ak (CXE P w) P w K mg base N qual scope f cdv A outer s₀ H₀ E).A (ak (CXE P w) P w K mg base N qual scope f cdv A outer s₀ H₀ E).xe C) ev s':=by
 obtain⟨ea,t,cls,H',B,rfl,os,bare,un,hok,fl,big,oq,q,cq⟩:=h;have ns1:s'.heap.Ns C m:=by
  obtain⟨o,es,ep,ho,hd,hr⟩:=hns;exact⟨o,es,ep,un.keep C o ho hCn hCs (by simp),hd,hr⟩
 have hC':H' C=none:=by
  obtain⟨o,es,ep,ho,hd,hr⟩:=hns;exact un.free C o ho hCn (by simp)
 unfold notedBy;have en:noteFrame (.ref ea) cenv=noteFrame (.ref ea) (ak (CXE P w) P w K mg base N qual scope f cdv A outer s₀ H₀ E).env:=by
  unfold noteFrame PySem.frameOf;rw[hcf]
 rw[en];obtain⟨g,tg,g0,g2⟩:=Tr.of fl.2.2.2;refine dy (L:=s₀.heap.objs.size) I.ok.frames rfl fl.1 fl.2.1 fl.2.2.1 (.inr ⟨_,tg⟩) λh4 k1 k3 k4 up4=>?_;have ns4:h4.Ns C m:=ji ns1 up4;refine⟨m,ns4,λh5 sb cenv' _=>?_⟩;obtain⟨st5,ff5,tr5⟩:=gF ns4 sb k1 k3 k4 hCs;refine ie (s:={ s' with heap:=h5 }) st5 ff5 tr5 λh6 st6 ff6 tr6 kp6=>?_;refine cD (s:={ s' with heap:=h6 }) (L:=s₀.heap.objs.size) I.ok.frames rfl st6 (b8 fl.2.1) ff6 (.inr ⟨_,tr6⟩) λh7 fl7a fl7b tr7 up7=>?_;have fl7:Heap.FlyingW (W.hideAll B [C]) outer ea cls (.ref t) h7:=⟨fl7a,b8 fl.2.1,fl7b,tr7.w g0⟩;have out:∀x o,s₀.heap.get? x=some o->x∈frs (ak (CXE P w) P w K mg base N qual scope f cdv A outer s₀ H₀ E).stack->x∈frs outer:=λx o ex hm=>by
  rcases List.mem_cons.mp (I.stkSub x hm) with z|z
  ·exact absurd z (Nat.ne_of_lt (Nat.lt_of_lt_of_le (Heap.lt_size ex) I.ok.above))
  ·exact z
 have sub:∀x∈frs outer,x∈frs (ak (CXE P w) P w K mg base N qual scope f cdv A outer s₀ H₀ E).stack:=λx hx=>by
  show x∈frs (_::outer);rw[fK (L:=s₀.heap.objs.size) rfl];exact List.mem_cons_of_mem _ hx
 have un1:Un (frs outer) [] H₀ H' s₀.heap s'.heap:=Un.shed I.base un sub out;have keepB:∀b ob,b≠C->B.get? b=some ob->∃ob,(W.hideAll B [C]).get? b=some ob:=λb ob nb eb=>⟨ob,W.hideAll_get _ eb (by simpa using nb)⟩;have big1:zT (W.hideAll B [C]) (frs outer) H' s₀.heap:=by
  refine⟨λb o eb=>?_,λb o eb hb=>?_⟩
  ·obtain⟨ob,z⟩:=big.tr b o eb
   refine keepB b ob (λe=>?_) z;subst e;rw[hC']at eb;cases eb
  ·obtain⟨ob,z⟩:=I.base.there b o eb (by intro z;cases z)
   obtain⟨ob2,z2⟩:=big.old b ob z λhm=>hb (out b o eb hm);exact keepB b ob2 (Nat.ne_of_lt (Nat.lt_of_lt_of_le (Heap.lt_size eb) hC0)) z2
 have st1:(W.hideAll B [C]).StaysIn s'.heap:=λb o eb=>fl.1 b o (bC eb).2;refine⟨ea,t,cls,H',W.hideAll B [C],rfl,os.trans I.os,bare,Un.flyF un1 big1 st1 fl7.1 λb hb=>⟨I.ok.frf b hb,λo eo=>?_⟩,HOk.fly hok big1 st1 fl7.1,fl7,big1,oq,hE _ _ _ q,λz=>tr7.cn (g2 (cq z))⟩;have nf:∀vs,o.data≠.fields vs:=by
  obtain⟨_,o2,eo2,nf2⟩:=fl.2.2.1.mem (sub b hb);rw[eo]at eo2;cases eo2;exact nf2
 obtain⟨s1,e1⟩:=up4 b o eo nf;have e5:h5.get? b=some { o with slots:=s1 }:=(sb.2 b (λz=>hCs (z▸sub b hb))).trans e1;have e6:=kp6 b _ e5 nf;obtain⟨s2,e7⟩:=up7 b _ e6 nf;exact⟨s2,e7⟩
end
noncomputable abbrev Cx.blkX(X:Cx)(Ex:XK)(N':List Str)(scope:Scope)(cl:List (Str×Addr))(fp:List Addr)(s₀:Shared)(H₀:Hp):Cx :=
 (X.blk N' scope cl fp s₀ H₀).wish λev s'=>∃(sc:Shared) (Hc:Hp) (τ:St) (pc:List (Addr×Obj)) (E1:XK),ur (X.blk N' scope cl fp s₀ H₀) pc τ Hc sc/\CXE X.prog X.w X.stack Hc sc E1 ev s'/\∀c o H',E1 c o H'->Ex c o H'
section
variable {X:Cx} {scope:Scope} {cl:List (Str×Addr)} {x:Str} {fv:List (Str×Nat)} {elt iter:Expr} {px pos:Pos} {te:TE}
theorem pr{pins:List (Addr×Obj)}{σ:St}{H2:Hp}{s2:Shared}{it:Addr}{fp:List Addr}{tn:Nat->Heap->Prop}{J:It}{RR:Value->Addr->Result->Shared->Prop}{E:Value->Shared->Prop}{Qf:V->Hp->Prop}{Ex:XK}
  (hcalm:X.calm=true) (C:uQ X scope cl x fv) (I2:ur X pins σ H2 s2) (T:xr X.prog X.w X.K (.Name x px) J fp it tn) (st:tn 0 s2.heap) (f2:∀b∈fp,bI X pins H2 b)
  (rd:∀p,H2 p=none->∃W:Nat->Nat->List V->Hp->Prop,(∃m,W 0 m [] (upd H2 p (.lst [])))/\∀i m acc H2,W i m acc H2 ->
   H2 p=some (.lst acc)/\acc.length<sizeLine/\((J.stop i H2/\Qf (.ref p) H2)\/(J.go i H2/\∀x H3,J.yld i H2 x H3->te (some x::fvs fv σ) H3 λy H4=>H4 p=some (.lst acc)/\∃m',m'<m/\W (i+1) m' (acc++[y]) (upd H4 p (.lst (acc++[y]))))))
  (he:∀(s₀:Shared) (H₀:Hp),PE (X.blkX Ex (x::fv.map (·.1)) scope cl fp s₀ H₀) elt te)
  (hRR:∀(p C:Addr) (H':Hp) (s':Shared),(∃m,s'.heap.Ns C m)->C≠X.env.locals->H' C=none->X.s₀.heap.objs.size<=C->(∀y c,X.env.cells.lookup y=some c->c≠C)->(∀q∈X.pn++pins,q.1≠C)->ur X pins σ H' s'->Qf (.ref p) H'->RR (.ref p) C (.ok .next) s')
  (hEE:∀(p C:Addr) (Hc:Hp) (sc s':Shared) (ev:Value) (E1:XK) (m:Str->Option Value) (cenv:Env),ur X pins σ Hc sc->CXE X.prog X.w X.stack Hc sc E1 ev s'->(∀c o H',E1 c o H'->Ex c o H')->cenv.frame=X.env.frame->sc.heap.Ns C m->Hc C=none->C∉frs X.stack->X.s₀.heap.objs.size<=C->notedBy (model X.prog X.w) X.A cenv (λe s''=>RR (.ref p) C (.error e) s'') ev s') :
  wpAny (model X.prog X.w) X.A (newList []) (λacc s₃=>wpAny (model X.prog X.w) X.A (newFunctionEnv scope X.env.globals cl [] X.env.qual none .none (some X.env)) (λcenv s₄ =>
   codeAny (model X.prog X.w) X.A (.compStart (.ListComp elt [⟨.Name x px,iter,[],0⟩] scope pos) 0 (.ref it) acc { cenv with scope:=relabel scope X.env }) (RR acc cenv.locals) s₄) E s₃) E s2:=by
 refine wpAny_newObj_type ?_;have hfresh:=I2.fresh;have I3:ur X pins σ (upd H2 s2.heap.objs.size (.lst [])) { s2 with heap:=s2.heap.push { cls:=.type "list",data:=.seq ([]:List Value).toArray } } :=
  I2.laid (t':=s2.toks) (λb u q=>Heap.get?_push_of_some _ q) (Nat.le_refl _) ⟨Nat.zero_le _,[],0,.nil,Heap.get?_push_size _ rfl⟩
 generalize hs3:({ s2 with heap:=s2.heap.push { cls:=.type "list",data:=.seq ([]:List Value).toArray } }:Shared)=s3 at I3 ⊢;have hp3:s2.heap.objs.size<s3.heap.objs.size:=by rw[<- hs3];exact Nat.lt_of_lt_of_le (Nat.lt_succ_self _) (Nat.le_of_eq (Heap.size_push _ _).symm)
 have k23:∀b o,s2.heap.get? b=some o->s3.heap.get? b=some o:=λb o e=>by rw[<- hs3];exact Heap.get?_push_of_some _ e
 have fpo:∀b∈fp,b<s2.heap.objs.size:=λb hb=>by
  obtain⟨o,e,_⟩:=T.obj 0 _ st b hb;exact Heap.lt_size e
 have f3:∀b∈fp,bI X pins (upd H2 s2.heap.objs.size (.lst [])) b:=λb hb=>⟨by rw[aA (Nat.ne_of_lt (fpo b hb))];exact(f2 b hb).1,(f2 b hb).2⟩;refine wpAny_newFunctionEnv C.cell (by intro y hy;simp at hy) (λh1 hns1 hsb1=>?_) C.kind;have kp:∀b o,s3.heap.get? b=some o->h1.get? b=some o:=λb o e=>(hsb1.2 b (Nat.ne_of_lt (Heap.lt_size e))).trans (Heap.get?_push_of_some _ e);have I4:=lJ (s4:={ s3 with heap:=h1,toks:=s3.toks+([]:List (Str×Value)).length }) C I3 f3 (λb hb=>Nat.lt_trans (fpo b hb) hp3) ⟨rfl,rfl⟩ hns1 kp;have st4:tn 0 h1:=T.keep 0 _ _ st λb _ o e=>kp b o (k23 b o e);obtain⟨W,⟨m0,w0⟩,step⟩:=rd _ hfresh;have loop:codeAny (model X.prog X.w) X.A (.compLoop (.ListComp elt [⟨.Name x px,iter,[],0⟩] scope pos) 0 (.ref it) (.ref s2.heap.objs.size) (compEnvC scope cl s3.heap.objs.size X.env)) (RR (.ref s2.heap.objs.size) s3.heap.objs.size)
   { s3 with heap:=h1,toks:=s3.toks+([]:List (Str×Value)).length }:=by
  refine codeAny_compLoop_list (λn s=>∃i acc σv H',ur (X.blk (x::fv.map (·.1)) scope cl fp s3 (upd H2 s2.heap.objs.size (.lst []))) [] (σv::fvs fv σ) H' s/\tn i s.heap/\(∀b∈fp,H' b=none)/\W i n acc H') ?_ m0 ⟨0,[],none,_,I4,st4,λb hb=>(f3 b hb).1,w0⟩;rintro n s ⟨i,acc,σv,H',I',st',fr',w'⟩;obtain⟨hp,hlen,alt⟩:=step i n acc H' w';have fpk:∀{H5:Hp},(∀b∈fp,H5 b=none)->∀b∈fp,bI (X.blk (x::fv.map (·.1)) scope cl fp s3 (upd H2 s2.heap.objs.size (.lst []))) [] H5 b:=λh5 b hb =>
   ⟨h5 b hb,(I'.ok.exf b hb).1,I'.ok.exfs b hb,.inl hb,λy c e=>(I'.ok.exf b hb).2 y c e,λq hq=>by simp at hq⟩
  rcases alt with⟨stop,qf⟩|⟨go,turn⟩
  ·refine wpAny_mono (T.done (X.blk (x::fv.map (·.1)) scope cl fp s3 (upd H2 s2.heap.objs.size (.lst []))) rfl rfl rfl hcalm i [] s _ H' (λ_ _=>False) I' (fpk fr') st' stop) (λr s5 ⟨hr,I5⟩=>?_) λ_ _ z=>False.elim z
   subst hr;refine hRR _ _ H' s5 (let ⟨m,hn,_⟩:=I5.loc;⟨m,hn⟩) (Nat.ne_of_gt I3.lt) I5.free I3.sz (λy c e=>?_) (λq hq=>?_) ?_ qf
   ·obtain⟨v,z⟩:=I3.cell y c e
    exact Nat.ne_of_lt z.lt
   ·exact Nat.ne_of_lt (Heap.lt_size (I3.pin q hq).1)
   ·exact I3.call' (s':=s5) (ch:=fp) I5.os I5.base I5.hok I5.bare λb hb=>⟨(f2 b hb).2.2.2.1,(f2 b hb).2.1,(f2 b hb).2.2.2.2.1,(f2 b hb).2.2.2.2.2⟩
  ·refine wpAny_mono (T.item (X.blk (x::fv.map (·.1)) scope cl fp s3 (upd H2 s2.heap.objs.size (.lst []))) rfl rfl rfl hcalm i [] s _ H' (λ_ _=>False) I' (fpk fr') st' go) (λr s5 ⟨u,hr,h5⟩=>?_) λ_ _ z=>False.elim z
   subst hr;have e5:assign (.Name x px) (compEnvC scope cl s3.heap.objs.size X.env) u=(letOwnedTupleGo (.Name x px) (.ref it) u >>= λ_=>assign (.Name x px) (compEnvC scope cl s3.heap.objs.size X.env) u):=by
    rw[show letOwnedTupleGo (.Name x px) (.ref it) u=pure () from rfl];rfl
   show wpAny _ _ (assign (.Name x px) (compEnvC scope cl s3.heap.objs.size X.env) u) _ _ _;rw[e5];refine wpAny_bind (wpAny_mono h5 (λ_ s6 ⟨y,H6,I6,r6,y6,st6,fr6⟩=>?_) λ_ _ z=>False.elim z);have I6':=I6.pinned (fpk fr6) (T.obj _ _ st6);have lx:(relabel scope X.env).names.lookup x=some .local:=lookup_relabel_local C.own;refine wpAny_mono (bg (X:=X.blk (x::fv.map (·.1)) scope cl fp s3 (upd H2 s2.heap.objs.size (.lst []))) (i:=0) C.nd rfl (.inl lx) (.inr lx) _ s6 _ H6 y u (λσ7 H7=>σ7=some y::fvs fv σ/\H7=H6) I6' r6 ⟨rfl,rfl⟩) (λ_ s7 ⟨σ7,H7,I7,e7,e7'⟩=>?_) λ_ _ z=>False.elim z;subst e7 e7';refine wpAny_mono (he s3 _ _ s7 _ _ _ (I7.wish _) (turn y _ y6)) (λv8 s8 ⟨y8,H8,I8',r8,q8,m',hm',w8⟩=>?_) λev s8 z=>?_
   rotate_left
   ·obtain⟨sc,Hc,τ,pc,E1,Ic,cx,hE⟩:=z
    have J:ur X pins σ Hc sc:=I3.call' (s':=sc) (ch:=fp) Ic.os Ic.base Ic.hok Ic.bare λb hb=>⟨(f2 b hb).2.2.2.1,(f2 b hb).2.1,(f2 b hb).2.2.2.2.1,(f2 b hb).2.2.2.2.2⟩;obtain⟨mc,hmc,_⟩:=Ic.loc;refine hEE _ _ Hc sc s8 ev E1 mc _ J cx hE rfl hmc Ic.free (λhb=>?_) I3.sz;obtain⟨_,o,ho,_⟩:=I3.stack.mem hb;exact absurd (Heap.lt_size ho) (Nat.lt_irrefl _)
   have I8:=I8'.unwish;refine wpAny_mono (bJ (X:=X.blk (x::fv.map (·.1)) scope cl fp s3 (upd H2 s2.heap.objs.size (.lst []))) _ s8 _ H8 (.ref s2.heap.objs.size) [y8] (.ref s2.heap.objs.size) [v8] (λ_ H9=>H9=upd H8 s2.heap.objs.size (.lst (acc++[y8]))) I8 rfl (.cons r8 .nil) ⟨_,acc,y8,rfl,rfl,q8,hlen,rfl⟩) (λ_ s9 ⟨_,H9,I9,_,e9⟩=>?_) λ_ _ z=>False.elim z;subst e9;refine⟨m',hm',i+1,acc++[y8],some y,_,I9.unpinned,T.keep _ _ _ st6 λb hb o e=>(I9.pin (b,o) (List.mem_append_right _ (List.mem_append_right _ (aX hb e)))).1,λb hb=>?_,w8⟩;obtain⟨o,e,d⟩:=T.obj _ _ st6 b hb;exact(I9.pin (b,o) (List.mem_append_right _ (List.mem_append_right _ (aX hb e)))).2.1
 exact codeAny_compStart_list loop (T.self _ 0 _ _ _ st4 loop)
end
section
variable {P:Program} {w:World} {K:W.Frag} {mg:Str->Option Value} {base:Heap} {N:List Str} {qual:Str} {scope':Scope} {f:Addr} {cdv:Value} {A:Around} {outer:List Env} {s₀:Shared} {H₀:Hp} {E:XK}
variable {scope:Scope} {cl:List (Str×Addr)} {x:Str} {fv:List (Str×Nat)} {elt iter:Expr} {px pos:Pos} {te:TE}
theorem nJ{X:Cx}{Ex:XK}{N':List Str}{fp:List Addr}{s1:Shared}{H1:Hp}{y:Str}{ps:List Str}{k:Nat}{ds:List V}{sp:Sp}{p pos:Pos}{e:Expr}{es:List Expr}{t:TA}(F:Fx X.prog X.w X.K X.mg X.base y ps k ds sp)(hr:uE k X.A)(hg:Gl (X.blkX Ex N' scope cl fp s1 H1) y)(ha:PA (X.blkX Ex N' scope cl fp s1 H1) (e::es) t)
  (hdb:(y == ("__debug__" : Str))=false:=by decide) (he:starEach (e::es) (X.blkX Ex N' scope cl fp s1 H1).env=(false,eval e (X.blkX Ex N' scope cl fp s1 H1).env)::starEach es (X.blkX Ex N' scope cl fp s1 H1).env:=by rfl) (hpl:(backTo pos (starEach es (X.blkX Ex N' scope cl fp s1 H1).env)).any (·.1)=false:=by rfl) :
  PE (X.blkX Ex N' scope cl fp s1 H1) (.Call (.Name y p) (e::es) [] pos) (kT sp [] Ex t):=by
 obtain⟨g,fd,its,hm,hk,hb,_,_,G⟩:=F.ex;exact ic G hr hg hm hk hb .nil (λpins σ H s e s' I h=>⟨s,H,σ,pins,Ex,I.unwish,h,λ_ _ _ z=>z⟩) ha hdb he hpl
theorem jb{wi:TI}{y:Str}{j:Nat}{py spos:Pos}(C:uQ (ak (CXE P w) P w K mg base N qual scope' f cdv A outer s₀ H₀ E) scope cl x fv)(hN:N.Nodup)(hj:N[j]? = some y)(hy:(ak (CXE P w) P w K mg base N qual scope' f cdv A outer s₀ H₀ E).env.scope.names.lookup y=some .local)
  (hi:PI (ak (CXE P w) P w K mg base N qual scope' f cdv A outer s₀ H₀ E) (.Name x px) iter wi) (he:∀(fp:List Addr) (s₁:Shared) (H1:Hp),PE ((ak (CXE P w) P w K mg base N qual scope' f cdv A outer s₀ H₀ E).blkX E (x::fv.map (·.1)) scope cl fp s₁ H1) elt te)
  (hsw:swapsWith (.ListComp elt [⟨.Name x px,iter,[],0⟩] scope pos) (some (.Name y py)) spos.line (ak (CXE P w) P w K mg base N qual scope' f cdv A outer s₀ H₀ E).env=pure true:=by rfl)
  (hs:∀v,foldedSetIterable iter (ak (CXE P w) P w K mg base N qual scope' f cdv A outer s₀ H₀ E).env v=pure v:=by intro _;rfl):PS (ak (CXE P w) P w K mg base N qual scope' f cdv A outer s₀ H₀ E) (.Assign [.Name y py] (.ListComp elt [⟨.Name x px,iter,[],0⟩] scope pos) spos) (lU (jY wi fv te) (dI j)):=by
 intro pins s σ H D I h;rw[exec_Assign_Name_used _ _ _ _ hsw];refine wpAny_bind (wpAny_standAt (wpAny_bind ?_));show wpAny _ _ (do let _ <- comprehension (.ListComp elt [⟨.Name x px,iter,[],0⟩] scope pos) scope (ak (CXE P w) P w K mg base N qual scope' f cdv A outer s₀ H₀ E).env _ (newList []) false (eval iter (ak (CXE P w) P w K mg base N qual scope' f cdv A outer s₀ H₀ E).env) (some (assign (.Name y py) (ak (CXE P w) P w K mg base N qual scope' f cdv A outer s₀ H₀ E).env))) _ _ s
 refine wpAny_bind (wpAny_mono (wpAny_comprehension_free (use:=some (assign (.Name y py) (ak (CXE P w) P w K mg base N qual scope' f cdv A outer s₀ H₀ E).env)) (Q:=λ_ s'=>SP (ak (CXE P w) P w K mg base N qual scope' f cdv A outer s₀ H₀ E) pins D .next s') rfl hs C.clos C.kind C.names
  (wpAny_mono (hi pins s σ H _ I h) (λv s1 h1=>wpAny_mono h1 (λitv s2 h2=>?_) λ_ _ z=>z) λ_ _ z=>z)) (λ_ s' hq=>wpAny_pure (wpAny_pure hq)) λ_ _ z=>z)
 obtain⟨it,fp,tn,J,H2,rfl,I2,T,st2,f2,rd⟩:=h2;refine pr (Ex:=E) (Qf:=λv H'=>dI j v σ H' D.nx) rfl C I2 T st2 f2 rd (he fp) (λp D' H' s' ns nL nH n0 nC nP I8 q=>?_) λp D' Hc sc s' ev E1 m cenv Ic cx hE hcf hns hCn hCs hC0=>ma Ic cx hE hcf hns hCn hCs hC0;obtain⟨m,hn⟩:=ns;show wpAny _ _ (assign (.Name y py) (ak (CXE P w) P w K mg base N qual scope' f cdv A outer s₀ H₀ E).env (.ref p)) _ _ _;refine wpAny_assign_Name (cJ I8 hN hj (.inl hy) (v:=.ref p) rfl (λs9 I9 ⟨a,sb,ha⟩=>?_) (.inr hy));have aD:D'≠a:=by
  rintro rfl;rcases ha with z|z
  ·exact nL z
  ·exact nC y _ z rfl
 exact⟨m,hn.sameBut sb aD,λh'' sb2=>⟨_,H',I9.turned (t':=s9.toks) (λb o hb e=>(sb2.2 b hb).trans e) nH nL (.inr n0) nC nP,q⟩⟩
end
theorem qo{K:W.Frag}{a:Addr}{xs:List V}{fv:List (Str×Nat)}{te:TE}{σ:St}{H1:Hp}{Q:VK}(hL:SqL K H1 a xs)(hlen:xs.length<1000000)(R:Nat->V->Hp->Prop)(hR:∀i v H H',SameT H H'->R i v H->R i v H')
  (hs:∀i x H2 (Kc:VK),xs[i]? = some x->Same H1 H2->(∀y H4,Same H2 H4->R i y H4->Kc y H4)->te (some x::fvs fv σ) H2 Kc)
  (hd:∀l ys H',H1 l=none->Same H1 H'->H' l=some (.lst ys)->ys.length=xs.length->(∀i y,ys[i]? = some y->R i y H')->Q (.ref l) H') :
  eH (Itl K a) fv te σ H1 Q:=by
 intro l hl;have hz:sizeLine=16777216:=sizeLine_eq;refine ce (K:=K) (a:=a) (xs:=xs) (l:=l) (fv:=fv) (Qp:=λH2=>Q (.ref l) H2) (λi acc H2=>acc.length=i/\Same H1 H2/\H2 l=some (.lst acc)/\∀j y,acc[j]? = some y->R j y H2)
  ⟨rfl,Same.new hl,upd_same,λj y h=>by simp at h⟩ ?_ ?_ ?_
 ·rintro i acc H2 hi ⟨e1,sm,e3,_⟩
  exact⟨sm.seq hL,e3,by omega⟩
 ·rintro i x acc H2 Kc hx ⟨e1,sm,e3,hr⟩ kk
  refine hs i x H2 Kc hx sm λy H4 s4 ry=>kk y H4 (s4 _ _ e3) ⟨by simp[e1],(sm.trans s4).upd hl,upd_same,λj z hz=>?_⟩;have t4:=SameT.upd (ys:=acc++[y]) (s4 _ _ e3);rcases Nat.lt_trichotomy j acc.length with h|h|h
  ·rw[List.getElem?_append_left h]at hz
   exact hR _ _ _ _ (s4.t.trans t4) (hr j z hz)
  ·subst h
   rw[List.getElem?_append_right (Nat.le_refl _),Nat.sub_self]at hz;cases hz;rw[e1];exact hR _ _ _ _ t4 ry
  ·rw[List.getElem?_eq_none (by simp;omega)]at hz
   cases hz
 ·rintro acc H2 ⟨e1,sm,e3,hr⟩
  exact hd l acc H2 hl sm e3 e1 hr
end L2
namespace Dr
open PySem
end Dr
namespace PySem
namespace F
end F
end PySem
namespace Wk
open PySem PySem.Spec L2 Mth Sp1 Sp2 Sp3 Sp7 Dr
end Wk
namespace Sk
open PySem PySem.Spec L2 Sp24 Wk
end Sk
namespace L2
open PySem PySem.Spec PyProof.Rows
section
variable {X:Cx}
inductive Az (x:V) (lo:Option Int) (hi:Option Int) (H:Hp) (Q:VK):Prop
 | mk:∀z,(x = .str z)->((Txt.slice z lo hi).length<=sizeLine)->(Q (.str (Txt.slice z lo hi)) H)->Az x lo hi H Q
theorem pH:SlR X Az:=by
 intro pins s σ H x v vl vu lo hi sl Q I rx hs pl pu h;obtain⟨z,rfl,hz,q⟩:=h;obtain⟨t,rfl⟩:=rx;refine⟨"str",_,slot_str_getitem.lookup,typeIs_str s z t,?_⟩;obtain⟨l,el,ml⟩:∃l:Option (Int×Tok),partValue l=vl/\l.map (·.1)=lo:=by
  cases pl with
  | none=>exact⟨none,rfl,rfl⟩
  | int i t=>exact⟨some (i,t),rfl,rfl⟩
 obtain⟨u,eu,mu⟩:∃l:Option (Int×Tok),partValue l=vu/\l.map (·.1)=hi:=by
  cases pu with
  | none=>exact⟨none,rfl,rfl⟩
  | int i t=>exact⟨some (i,t),rfl,rfl⟩
 refine wpAny_getItem_str_slice (l:=l) (u:=u) (st:=none) (by rw[<- el,<- eu]at hs;exact hs) rfl ?_;subst ml mu;unfold Txt.slice at q hz;unfold sliceMade;have e:slicePicked z l u none=Builtin.Str.strSliceIndices (l.map (·.1)) (u.map (·.1)) 1 z.length:=rfl;rw[e]
 by_cases c:(Builtin.Str.strSliceIndices (l.map (·.1)) (u.map (·.1)) 1 z.length).length == z.length
 ·rw[if_pos (show(((none:Option (Int×Tok)).map (·.1)).getD 1 == 1 && _)=true by rw[c];rfl)]
  rw[if_pos (show((1:Int) == 1 && _)=true by rw[c];rfl)]at q;exact⟨.str z,H,I,⟨t,rfl⟩,q⟩
 ·have c:((Builtin.Str.strSliceIndices (l.map (·.1)) (u.map (·.1)) 1 z.length).length == z.length)=false:=by simpa using c
  rw[if_neg (show ¬(((none:Option (Int×Tok)).map (·.1)).getD 1 == 1 && _)=true by rw[c];simp)];rw[if_neg (show ¬((1:Int) == 1 && _)=true by rw[c];simp)]at q hz;exact⟨hz,.str _,H,I.tok _,⟨_,rfl⟩,q⟩
end
section
variable {X:Cx}
theorem ke{Cs:Addr->Prop}{n en:Str}{B:Addr}{np hpos pos:Pos}{body:List Stmt}{b₀:Stmt}{suite:List Stmt}{tx:TX}{th:TS}{i:Nat}(stk:X.stack=X.env::X.outer)(hfr:X.env.frame=some X.env.locals)(hb:PXs X body tx)(O:uG X.K X.mg n B)(hg:Gl X n)
  (hm:∀C,Cs C->W.exmOne X.K (.ref C) (.ref B)=some true) (hex:X.ex = []) (hN:X.N.Nodup) (hi:X.N[i]? = some en) (hk:X.env.kindOf en=some .local)
  (hh:∀e:Addr,PSs (X.inH e) (b₀::suite) th) (hdb:(n == ("__debug__" : Str))=false:=by decide) :
  PS X (.Try body [.ExceptHandler (some (.Name n np)) (some en) (b₀::suite) hpos] [] [] pos) (λD σ H=>tx (λc σ' H'=>∃C,c = .ref C/\Cs C/\∀e:Addr,H' e=none->th (D.drop i) (σ'.set i (some (.ref e))) (upd H' e (jA C e))) D σ H):=by
 intro pins s σ H D I h;refine wpAny_Try_except (wpAny_mono (hb pins s σ H D _ I h) (λf s1 q=>?_) λev s1 q=>?_)
 ·cases f with
  | next=>exact wpAny_execs_nil q
  | ret v=>exact q
  | brk=>exact q
  | cont=>exact q
 ·obtain⟨s₁,σ1,H1,E1,I1,hx,hE⟩:=q
  obtain⟨ea,t,cls,H',B',rfl,os,bare,un,hok,fl,big,oq,q,cq⟩:=hx;obtain⟨C,rfl,hC,rd⟩:=hE _ _ _ q;exact mE (E1:=λc o H''=>c = .ref C/\H''=H') I1 stk hfr O hg (hm C hC) hex hN hi hk ⟨ea,t,_,H',B',rfl,os,bare,un,hok,fl,big,oq,⟨rfl,rfl⟩,cq⟩ (λc o H'' z=>by obtain⟨rfl,rfl⟩:=z;exact⟨rfl,rd⟩) hh hdb
inductive zD (K:W.Frag) (Cs:Addr->Prop) (xs:List V) (H:Hp) (Q:VK):Prop
 | mk:∀C,(Cs C)->(At K C xs H Q)->zD K Cs xs H Q
theorem jK{Cs:Addr->Prop}(h:∀C,Cs C->(∃n,uG X.K X.mg n C)/\Ae X.K C):bY X (.builtin "isinstance") (zD X.K Cs):=by
 intro pins s σ H xs us Q I rs q;obtain⟨C,hC,q⟩:=q;obtain⟨⟨n,O⟩,f⟩:=h C hC;exact kN O f pins s σ H xs us Q I rs q
end
section
variable {X:Cx}
inductive Am (K:W.Frag) (x:V) (y:V) (H:Hp) (Q:VK):Prop
 | mk:∀l b xs zs,(x = .ref l)->(y = .ref b)->(SqL K H l xs)->(SqL K H b zs)->(xs.length+zs.length<=sizeLine)->(∀p H2,Same H H2->H2 p=some (.lst (xs++zs))->H p=none->Q (.ref p) H2)->Am K x y H Q
theorem pP:OpR X (binaryOp .Add) (Am X.K):=by
 intro pins s σ H x y v u Q I rx ry h;obtain⟨l,b,xs,zs,rfl,rfl,hH,hB,hz,q⟩:=h;cases rx;cases ry;obtain⟨its,r,pl,_⟩:=I.list hH;obtain⟨its2,r2,pl2,_⟩:=I.list hB;have t1:=pl.isList.typeIs;have t2:=pl2.isList.typeIs;obtain⟨⟨oc,od,odt,osl⟩,n,e,hc,hd,hs⟩:=pl;obtain⟨⟨oc2,od2,odt2,osl2⟩,n2,e2,hc2,hd2,hs2⟩:=pl2;dsimp only at hc hd hs hc2 hd2 hs2;subst hc hd hs hc2 hd2 hs2;have hl:=r.length;have hl2:=r2.length;refine concat_meets (T:="list") t1 t2 noFill_list_add seq_list_add F.slot_list_add F.entry_list_add (F.args_list_add_2 _ _) (list_addW l b its.toArray its2.toArray n n2 none none osl osl2 (by rw[List.size_toArray,List.size_toArray];omega)) ⟨e,e2,?_⟩;have ea:its.toArray++its2.toArray=(its++its2).toArray:=by simp
 rw[ea];exact⟨.ref _,_,I.lnew (t':=s.toks) (r.append r2) (by rw[List.length_append];omega),rfl,q _ _ (Same.new I.fresh) upd_same I.fresh⟩
end
end L2
namespace L2
open PySem PySem.Spec PyProof.Rows PySem.NumText
noncomputable def Dig(K:W.Frag):Prop:=W.nsIn K cStatics "sys.int_max_str_digits" = some none
theorem pe{K:W.Frag}{h:Heap}(X:K.In h)(l:h.NoLimit)(d:Dig K):h.NoDigits:=by
 obtain⟨mc,G,_⟩:=l;refine⟨mc,G,?_⟩;obtain⟨o,es,ep,ho,hd,_,hf⟩:=G;have e:=d;unfold Dig W.nsIn at e
 split at e
 ·rename_i c d es' n' sl q
  have:=X _ _ q;rw[ho]at this;cases this;cases hd
  split at e
  ·cases e
  ·rename_i he
   rw[<- hf];unfold nsFind findBy;rw[<- Array.find?_toList,he];rfl
 ·cases e
section
variable {X:Cx} {pins:List (Addr×Obj)} {σ:St} {H:Hp} {s:Shared}
theorem ur.nodig(I:ur X pins σ H s)(d:Dig X.K):s.heap.NoDigits:=(pe I.ok.mod.kin I.ok.mod.nolimit d).keeps I.bk
end
noncomputable def num(n:Int):Str:=Str.ofString (toString n)
noncomputable def Dg(n:Int):Prop:=n.natAbs<10^4300
section
variable {prog:Program} {w:World} {A:Around} {E:Value->Shared->Prop} {s:Shared} {Q:Value->Shared->Prop} {x:PySem.Str} {t:Tok} {n:Int}
theorem pz{M:Model}{A:Around}{E:Value->Shared->Prop}{s:Shared}{Q:Value->Shared->Prop}{v:Value}{text:List Nat}{n:Int}
  (hs:¬(text.takeWhile (· != 0)).length<=640) (hn:s.heap.NoDigits) (hr:(int_private% "readNumeral") 4300 10 (text.takeWhile (· != 0))=(int_private% "Numeral.value") n)
  (ha:((text.takeWhile (· != 0)).length == text.length)=true) (h:Q (.int n s.toks) { s with toks:=s.toks+1 }) :
  wpAny M A ((int_private% "intFromText") v text 10) Q E s:=by
 show wpAny M A (do
  let limit <- if (text.takeWhile (· != 0)).length<=640 then pure 0 else Builtin.intMaxStrDigits
  _) Q E s
 rw[if_neg hs];unfold Builtin.intMaxStrDigits;obtain⟨mc,hns,hnone⟩:=hn;refine wpAny_bind (wpAny_bind (wpAny_nsGet hns ?_));rw[hnone];refine wpAny_pure ?_;dsimp only;rw[hr];dsimp only
 repeat (any_goals (first
  | assumption
  | (with_reducible refine wpAny_ite_true (decide_eq_true ha) ?_)
  | wp_step))
set_option maxHeartbeats 4000000 in
theorem kB{x:PySem.Str}{u:Tok}{n:Int}(hl:x.length<=4300)(hn:PySem.intText? x=some n)(h6:¬(numSeenOf x).length<=640):Meets (Builtin.«int.__new__» ⟨[.type "int",.str x u],[]⟩) (λ_ R s=>s.heap.NoDigits/\R (.ok (.ret (.int n s.toks))) { s with toks:=s.toks+1 }) :=
 Meets.of_wp λprog w A R s ⟨nd,h⟩=>by
  have f1:=F.conv_sub_int;have f2:=F.madeHere_int;have f3:=W.KIN.str_int;have f4:=W.KIN.str_idx;have f5:=W.KIN.str_trunc;have f6:typeOf (.str x u)=pure (.type "str"):=rfl;have hr:(int_private% "readNumeral") 4300 10 (numSeenOf x)=(int_private% "Numeral.value") n/\((numSeenOf x).length == (numTextOf x).length)=true:=by
   rcases read4300 x (Nat.le_trans hl (by decide)) with⟨m,h1,h2,h3⟩|⟨h1,_⟩
   ·rw[hn]at h1
    injection h1 with h1;subst h1;exact⟨h3,h2⟩
   ·rw[hn]at h1
    cases h1
  have hk:=W.KIN.Hid.mk (And.intro h6 hr);have nk:=W.KIN.Hid.mk nd;have hq:=W.KIN.Hid.mk h;clear h6 hr hl hn nd h;obtain⟨hp,g,d,tk,os⟩:=s
  repeat (any_goals (first
   | assumption
   | ((with_reducible show wpAny _ _ ((int_private% "intFromText") _ _ _) _ _ _);refine pz hk.out.1 nk.out hk.out.2.1 hk.out.2.2 ?_)
   | wp_step))
  all_goals first|exact⟨_,rfl,hq.out⟩|skip
theorem oE(hn:s.heap.NoDigits)(hc:∀c∈x.cps.toList,c=45\/(48<=c/\c<=57))(hl:x.length<=4300)(e:PySem.intText? x=some n)(h:∀t' k,Q (.int n t') { s with toks:=k }):wpAny (model prog w) A (call (.type "int") [.str x t]) Q E s:=by
 by_cases h7:x.length<=640
 ·exact W.KIN.call_text e h7 (h _ _)
 ·refine PySem.call_int_1 (kB hl e ?_) ⟨hn,rfl,h _ _⟩
  rw[(numText_signs hc).2];have:x.cps.toList.length=x.length:=Array.length_toList;omega
end
section
variable {X:Cx}
inductive Ag (xs:List V) (H:Hp) (Q:VK):Prop
 | mk:∀n:Int,(xs = [.int n])->(Dg n)->(Q (.str (num n)) H)->Ag xs H Q
theorem gQ{K:W.Frag}(hK:X.K=K)(d:Dig K)(hc:X.calm=true):bY X (.type "str") Ag:=by
 subst hK;intro pins s σ H xs us Q I rs q;obtain⟨n,rfl,hd,q⟩:=q;obtain⟨u,rfl,ru⟩:=b3 rs;obtain⟨t,rfl⟩:=ru;exact str_of_int_or (I.ok.hd hc) (I.nodig d) (λ_=>⟨.str _,H,I.tok _,⟨_,rfl⟩,q⟩) λhge=>absurd hd (Nat.not_lt.mpr hge)
inductive Al (xs:List V) (H:Hp) (Q:VK):Prop
 | mk:∀(x:Str) (n:Int),(xs = [.str x])->((∀c∈x.cps.toList,c=45\/(48<=c/\c<=57)))->(x.length<=4300)->(PySem.intText? x=some n)->(Q (.int n) H)->Al xs H Q
theorem mF{K:W.Frag}(hK:X.K=K)(d:Dig K):bY X (.type "int") Al:=by
 subst hK;intro pins s σ H xs us Q I rs q;obtain⟨x,n,rfl,hc,hl,e,q⟩:=q;obtain⟨u,rfl,ru⟩:=b3 rs;obtain⟨t,rfl⟩:=ru;exact oE (I.nodig d) hc hl e λt' k=>⟨.int n,H,I.kept (t':=k) λb ob z=>z,⟨_,rfl⟩,q⟩
theorem gb:MtR X "str.startswith" (λx xs H Q=>∃z y,x = .str z/\xs = [.str y]/\Q (.bl (Txt.startswith z y)) H):=by
 intro pins s σ H x xs v us Q I rx rs h;obtain⟨z,y,rfl,rfl,q⟩:=h;obtain⟨t,rfl⟩:=rx;obtain⟨u,rfl,ru⟩:=b3 rs;obtain⟨t',rfl⟩:=ru;exact SC.startswith ⟨.bl _,H,I,rfl,q⟩
end
section
variable {X:Cx}
noncomputable def tR(te:TE):TE:=λσ H Q=>te σ H λv H1=>(∃n,v = .int n/\Dg n/\Q (.str (num n)) H1)\/∃z,v = .str z/\z.length<=sizeLine/\Q (.str z) H1
theorem nK{K:W.Frag}{e:Expr}{te:TE}{pos:Pos}(hK:X.K=K)(d:Dig K)(hc:X.calm=true)(h:PE X e te):PE X (.FormattedValue e (-1) none pos) (tR te):=by
 subst hK;intro pins s σ H Q I q;refine FormattedValue_plain (thn (h pins s σ H _ I q) λv s1 ⟨x,H1,I1,r1,q1⟩=>?_);rcases q1 with⟨n,rfl,hd,q1⟩|⟨z,rfl,hz,q1⟩
 ·obtain⟨t,rfl⟩:=r1
  exact formatField_int (I1.ok.hd hc) (I1.nodig d) (λ_=>⟨.str _,H1,I1.kept (t':=s1.toks+1+1) λb ob z=>z,⟨_,rfl⟩,q1⟩) λhge=>absurd hd (Nat.not_lt.mpr hge)
 ·obtain⟨t,rfl⟩:=r1
  exact formatField_str (λt' tk=>⟨.str _,H1,I1.kept (t':=tk) λb ob z=>z,⟨_,rfl⟩,q1⟩) hz
noncomputable def rh(t1 t2 t3:TE):TE:=λσ H Q=>t1 σ H λv1 H1=>∃y1,v1 = .str y1/\y1.length<=sizeLine/\t2 σ H1 λv2 H2=>∃y2,v2 = .str y2/\y1.length+y2.length<=sizeLine/\t3 σ H2 λv3 H3=>∃y3,v3 = .str y3/\y1.length+y2.length+y3.length<=sizeLine/\Q (.str (y1++y2++y3)) H3
theorem mz(y:Str):Str.empty++y=y:=by
 show(⟨#[]++y.cps⟩:Str)=y;rw[Array.empty_append]
theorem nG{e1 e2 e3:Expr}{t1 t2 t3:TE}{pos:Pos}(h1:PE X e1 t1)(h2:PE X e2 t2)(h3:PE X e3 t3):PE X (.JoinedStr [e1,e2,e3] pos) (rh t1 t2 t3):=by
 intro pins s σ H Q I q;refine JoinedStr_many (joinParts_cons (thn (h1 pins s σ H _ I q) λv s1 ⟨x1,H1,I1,r1,y1,e1,z1,q1⟩=>?_));subst e1;obtain⟨t,rfl⟩:=r1;dsimp only;rw[mz];refine⟨z1,joinParts_cons (thn (h2 pins s1 σ H1 _ I1 q1) λv s2 ⟨x2,H2,I2,r2,y2,e2,z2,q2⟩=>?_)⟩;subst e2;obtain⟨t,rfl⟩:=r2;refine⟨by rw[Str.length_append];exact z2,?_⟩;show wpAny _ _ (joinParts (y1++y2) [eval _ X.env]) _ _ _;refine joinParts_cons (thn (h3 pins s2 σ H2 _ I2 q2) λv s3 ⟨x3,H3,I3,r3,y3,e3,z3,q3⟩=>?_);subst e3;obtain⟨t,rfl⟩:=r3;refine⟨by rw[Str.length_append,Str.length_append];exact z3,joinParts_nil ⟨.str _,H3,I3.tok _,⟨_,rfl⟩,q3⟩ (by rw[Str.length_append,Str.length_append];exact z3)⟩
theorem nV:OpR X (compareOp .In) (λx y H Q=>∃a b,x = .str a/\y = .str b/\Q (.bl (Txt.contains b a)) H):=by
 intro pins s σ H x y v u Q I rx ry h;obtain⟨a,b,rfl,rfl,q⟩:=h;obtain⟨t,rfl⟩:=rx;obtain⟨t',rfl⟩:=ry;exact SB.contains ⟨.bl _,H,I,rfl,q⟩
theorem ii:OpR X (binaryOp .Mult) (λx y H Q=>∃a n,x = .str a/\y = .int n/\MulOk a n/\Q (.str (Txt.mul a n)) H):=by
 intro pins s σ H x y v u Q I rx ry h;obtain⟨a,n,rfl,rfl,ok,q⟩:=h;obtain⟨t,rfl⟩:=rx;obtain⟨t',rfl⟩:=ry;exact SB.mul ok λt' k=>⟨.str _,H,I.kept (t':=k) λb ob z=>z,⟨_,rfl⟩,q⟩
theorem gz:∀{l:List (Str×Tok)},aE ((l.map (·.1)).map V.str) (strValues l)
 | []=>.nil
 | (x,t)::l=>.cons ⟨t,rfl⟩ (gz (l:=l))
theorem fB:MtR X "str.split" (λx xs H Q=>∃z y,x = .str z/\xs = [.str y]/\(y.length == 0)=false/\z.length<=100000/\∀p H2,Same H H2->H2 p=some (.lst ((Txt.split z y).map V.str))->H p=none->Q (.ref p) H2):=by
 intro pins s σ H x xs v us Q I rx rs h;obtain⟨z,y,rfl,rfl,hy,hz,q⟩:=h;obtain⟨t,rfl⟩:=rx;obtain⟨u,rfl,ru⟩:=b3 rs;obtain⟨t',rfl⟩:=ru;have hs:sizeLine=16777216:=sizeLine_eq;have hle:=split_le z y;have fin:∀(l:List (Str×Tok)) (k:Nat),l.map (·.1)=Txt.split z y->EP X pins σ Q (.ref s.heap.objs.size) { s with toks:=k,heap:=s.heap.push { cls:=.type "list",data:=.seq (strValues l).toArray } }:=λl k e=>by
  have vs:=gz (l:=l);rw[e]at vs;exact⟨.ref _,_,I.lnew (t':=k) vs (by rw[List.length_map];omega),rfl,q _ _ (Same.new I.fresh) upd_same I.fresh⟩
 cases h1:(decide (z.length<y.length) || decide (Builtin.Str.strKind z<Builtin.Str.strKind y))
 ·cases hf:(Builtin.Str.occurrences z y 0 z.length (z.length+1)).isEmpty
  ·have es:Txt.split z y=Builtin.Str.partsBetween z (Builtin.Str.occurrences z y 0 z.length (z.length+1)) y.length:=(if_neg (ne_true_of_eq_false h1)).trans (if_neg (ne_true_of_eq_false hf))
   refine call_meets F.slot_str_split (typeIs_str _ _ _) F.entry_str_split (F.args_str_split_2 _ _) (meets_str_split_sep z y t t' h1 hy hf (by omega) (by rw[<- es];omega)) ?_;show wants _ _ _ { s with toks:=_,heap:=s.heap.push { cls:=.type "list",data:=.seq (strsFrom s.toks (Builtin.Str.partsBetween z (Builtin.Str.occurrences z y 0 z.length (z.length+1)) y.length)).toArray } };rw[strsFrom_eq];exact fin _ _ ((numbered_texts _ _).trans es.symm)
  ·exact call_meets F.slot_str_split (typeIs_str _ _ _) F.entry_str_split (F.args_str_split_2 _ _) (meets_str_split_not_found z y t t' h1 hy hf) (fin [(z,t)] s.toks ((if_neg (ne_true_of_eq_false h1)).trans (if_pos hf)).symm)
 ·exact call_meets F.slot_str_split (typeIs_str _ _ _) F.entry_str_split (F.args_str_split_2 _ _) (meets_str_split_cannot_occur z y t t' h1) (fin [(z,t)] s.toks (if_pos h1).symm)
end
noncomputable def Its(x:Str):It:=⟨λi _=>i<x.cps.size,λi H v H'=>H'=H/\∃c,x.cps.toList[i]? = some c/\v = .str ⟨#[c]⟩,λi _=>x.cps.size<=i⟩
theorem mR{P:Program}{w:World}{K:W.Frag}{tg:Expr}(x:Str)(t:Tok)(it:Addr)(ty:String)(hty:ty = "str_ascii_iterator"\/ty = "str_iterator"):xr P w K tg (Its x) [it] it (λi h=>h.IsStrIter it ty x t i) where
 mem:=by simp
 obj:=λi h st b hb=>by
  have e:b=it:=by simpa using hb
  subst e;obtain⟨o,e,c,d⟩:=st;exact⟨o,e,λv z=>by rw[d]at z;cases z⟩
 keep:=λi h h' st k=>by
  obtain⟨o,e,c,d⟩:=st;exact⟨o,k it (by simp) o e,c,d⟩
 item:=by
  intro X hP hw hK hc i pins s σ H E I hf st hg;subst hP hw hK;obtain⟨f0,f1,f2,f3,f4,f5⟩:=hf it (by simp);have hi:i<x.cps.size:=hg;have hx:x.cps[i]? = some x.cps[i]:=by simp[hi]
  have hx2:x.cps.toList[i]? = some x.cps[i]:=by simp[hi]
  have go:∀h' tk,h'.IsStrIter it ty x t (i+1)->Heap.SameBut it s.heap h'->∃u,some (Value.str ⟨#[x.cps[i]]⟩ s.toks)=some u/\wpAny (model X.prog X.w) X.A (letOwnedTupleGo tg (.ref it) u) (λ_ s2=>∃v H',ur X pins σ H' s2/\aN v u/\(Its x).yld i H v H'/\s2.heap.IsStrIter it ty x t (i+1)/\∀b∈[it],H' b=none) E { s with heap:=h',toks:=tk }:=λh' tk st' sb=>by
   have I1:ur X pins σ H { s with heap:=h',toks:=tk }:=I.turned (t':=tk) (λb o hb e=>(sb.2 b hb).trans e) f0 f1 f3 f4 f5;obtain⟨o,e,c,d⟩:=id st';exact⟨_,rfl,oQ (s:={ s with heap:=h',toks:=tk }) e c d (by rcases hty with rfl|rfl <;> decide) ⟨.str ⟨#[x.cps[i]]⟩,H,I1,⟨_,rfl⟩,⟨rfl,_,hx2,rfl⟩,st',λb hb=>(hf b hb).1⟩⟩
  rcases hty with rfl|rfl
  ·exact wpAny_pyNext_ascii_item st hx λh' st' sb=>go h' _ st' sb
  ·exact wpAny_pyNext_wide_item st hx λh' st' sb=>go h' _ st' sb
 done:=by
  intro X hP hw hK hc i pins s σ H E I hf st hg;subst hP hw hK;obtain⟨f0,f1,f2,f3,f4,f5⟩:=hf it (by simp);have hi:x.cps.size<=i:=hg;have hx:x.cps[i]? = none:=by simp[hi]
  rcases hty with rfl|rfl
  ·exact wpAny_pyNext_ascii_end (I.ok.hd hc) st hx λh' eb=>⟨rfl,I.turned (t':=s.toks) (λb o hb e=>eb b o hb e) f0 f1 f3 f4 f5⟩
  ·exact wpAny_pyNext_wide_end (I.ok.hd hc) st hx λh' eb=>⟨rfl,I.turned (t':=s.toks) (λb o hb e=>eb b o hb e) f0 f1 f3 f4 f5⟩
 self:=λ_ _ _ _ _ st h=>by
  rcases hty with rfl|rfl
  ·exact wpAny_pyIter_striter_ascii st h
  ·exact wpAny_pyIter_striter_wide st h
section
variable {X:Cx} {tg:Expr}
noncomputable def uh(tl:TE):TI:=λσ H R=>tl σ H λv H1=>∃x,v = .str x/\R (Its x) H1
theorem nB{l:Expr}{tl:TE}(hl:PE X l tl):PI X tg l (uh tl):=by
 intro pins s σ H R I h;refine thn (hl pins s σ H _ I h) λv s1 ⟨y,H1,I1,r1,q1⟩=>?_;obtain⟨x,e,q⟩:=q1;subst e;obtain⟨t,rfl⟩:=r1;refine wpAny_pyIter_strU ?_;refine⟨s1.heap.objs.size,[s1.heap.objs.size],_,_,H1,rfl,I1.kept (t':=s1.toks) λb o e=>Heap.get?_push_of_some _ e,mR x t _ (strIterType x) (by unfold strIterType;split <;> simp),⟨_,Heap.get?_push_size _ rfl,rfl,rfl⟩,λb hb=>?_,q⟩;have e:b=s1.heap.objs.size:=by simpa using hb
 subst e;exact I1.fpOk (Nat.le_refl _) (I1.hok.fresh (Nat.le_refl _))
end
theorem lG{x:Str}{fv:List (Str×Nat)}{te:TE}{σ:St}{H1:Hp}{Q:VK}(hlen:x.cps.size<1000000)(R:Nat->V->Hp->Prop)(hR:∀i v H H',SameT H H'->R i v H->R i v H')
  (hs:∀i c H2 (Kc:VK),x.cps.toList[i]? = some c->Same H1 H2->(∀y H4,Same H2 H4->R i y H4->Kc y H4)->te (some (.str ⟨#[c]⟩)::fvs fv σ) H2 Kc)
  (hd:∀l ys H',H1 l=none->Same H1 H'->H' l=some (.lst ys)->ys.length=x.cps.size->(∀i y,ys[i]? = some y->R i y H')->Q (.ref l) H') :
  eH (Its x) fv te σ H1 Q:=by
 intro l hl;have hz:sizeLine=16777216:=sizeLine_eq;refine⟨λi m acc H2=>m=x.cps.size - i/\i<=x.cps.size/\acc.length=i/\Same H1 H2/\H2 l=some (.lst acc)/\∀j y,acc[j]? = some y->R j y H2,⟨x.cps.size,by simp,Nat.zero_le _,rfl,Same.new hl,upd_same,λj y h=>by simp at h⟩,?_⟩;rintro i m acc H2 ⟨rfl,hi,e1,sm,e3,hr⟩;refine⟨e3,by omega,?_⟩
 by_cases hlt:i<x.cps.size
 ·refine .inr ⟨hlt,λv H3 y=>?_⟩
  obtain⟨rfl,c,hc,rfl⟩:=y;refine hs i c _ _ hc sm λy H4 s4 ry=>⟨s4 _ _ e3,x.cps.size - (i+1),by omega,rfl,hlt,by simp[e1],(sm.trans s4).upd hl,upd_same,λj z hz=>?_⟩;have t4:=SameT.upd (ys:=acc++[y]) (s4 _ _ e3);rcases Nat.lt_trichotomy j acc.length with h|h|h
  ·rw[List.getElem?_append_left h]at hz
   exact hR _ _ _ _ (s4.t.trans t4) (hr j z hz)
  ·subst h
   rw[List.getElem?_append_right (Nat.le_refl _),Nat.sub_self]at hz;cases hz;rw[e1];exact hR _ _ _ _ t4 ry
  ·rw[List.getElem?_eq_none (by simp;omega)]at hz
   cases hz
 ·have e:i=x.cps.size:=by omega
  subst e;exact .inl ⟨Nat.le_refl _,hd l acc H2 hl sm e3 e1 hr⟩
end L2
namespace L2
open PySem PySem.NumText
noncomputable def cy(m:Nat):List Nat:=(Nat.toDigits 10 m).map Char.toNat
theorem bD(m:Nat):AllDigits (cy m):=by
 intro c hc;obtain⟨ch,hch,e⟩:=List.mem_map.mp hc;have r:=PyProof.Rows.digit_range (Nat.isDigit_of_mem_toDigits (by decide) (by decide) hch);rw[<- e];exact r
theorem iI(m:Nat):cy m≠[]:=λe=>by
 have h:=Nat.length_toDigits_pos (b:=10) (n:=m);rw[List.map_eq_nil_iff.mp e]at h;exact absurd h (by decide)
theorem dP(m:Nat):digitsVal (cy m)=m:=W.KIN.val_back m
theorem jC{m k:Nat}(hk:0<k):(cy m).length<=k↔m<10^k:=by
 unfold cy;rw[List.length_map];exact Nat.length_toDigits_le_iff (by decide) hk
theorem pb{a b:Nat}(h:cy a=cy b):a=b:=by rw[<- dP a,<- dP b,h]
theorem dQ:∀(cs:List Nat) (a:Nat),AllDigits cs->cs.foldl (λacc c=>acc*10+(c - 48)) a<(a+1)*10^cs.length
 | [],a,_=>by simp
 | c::cs,a,h=>by
  have ih:=dQ cs (a*10+(c - 48)) h.tail;have hc:=h.head;rw[List.foldl_cons,List.length_cons,Nat.pow_succ];refine Nat.lt_of_lt_of_le ih ?_;have:a*10+(c - 48)+1<=(a+1)*10:=by omega
  calc (a*10+(c - 48)+1)*10^cs.length<=((a+1)*10)*10^cs.length:=Nat.mul_le_mul_right _ this
   _=(a+1)*(10^cs.length*10):=by rw[Nat.mul_assoc,Nat.mul_comm 10]
theorem qZ{cs:List Nat}(h:AllDigits cs):digitsVal cs<10^cs.length:=by
 have:=dQ cs 0 h;simpa[digitsVal]using this
theorem le(m:Nat):(num (m:Int)).cps.toList=cy m:=W.KIN.signs_num m
theorem k9(m:Nat):(num (-((m+1:Nat):Int))).cps.toList=45::cy (m+1):=by
 unfold num;rw[PyProof.Rows.signs_ofString];show(Int.repr (Int.negSucc m)).toList.map Char.toNat=_;have e:Int.repr (Int.negSucc m) = "-"++Nat.repr (m+1):=rfl;rw[e,String.toList_append,List.map_append,Nat.toList_repr];rfl
noncomputable def gm:List Nat->List Nat
 | 45::r=>r
 | l=>l
theorem kL(r:List Nat):gm (45::r)=r:=rfl
theorem iH{l:List Nat}(h:∀r,l≠45::r):gm l=l:=by
 unfold gm
 split
 ·rename_i r
  exact absurd rfl (h r)
 ·rfl
theorem bP{l:List Nat}(h:AllDigits l):∀r,l≠45::r:=λr e=>by
 subst e;have:=h.head;omega
theorem ij(n:Int):gm (num n).cps.toList=cy n.natAbs:=by
 cases n with
 | ofNat m =>
  rw[show Int.ofNat m=(m:Int) from rfl,le];exact iH (bP (bD m))
 | negSucc m =>
  rw[show Int.negSucc m = -((m+1:Nat):Int) from rfl,k9];rfl
theorem b5(n:Int):(num n).cps.toList=cy n.natAbs/\0<=n\/(num n).cps.toList=45::cy n.natAbs/\n<0:=by
 cases n with
 | ofNat m=>exact .inl ⟨le m,Int.natCast_nonneg m⟩
 | negSucc m =>
  refine .inr ⟨?_,by omega⟩;rw[show Int.negSucc m = -((m+1:Nat):Int) from rfl,k9];rfl
theorem gG(n:Int):∀c∈(num n).cps.toList,c=45\/(48<=c/\c<=57):=by
 rcases b5 n with⟨e,_⟩|⟨e,_⟩
 ·rw[e]
  exact λc hc=>.inr (bD _ c hc)
 ·rw[e]
  intro c hc;rcases List.mem_cons.mp hc with rfl|hc
  ·exact .inl rfl
  ·exact .inr (bD _ c hc)
theorem bA(x:Str):x.cps.toList.length=x.length:=Array.length_toList
theorem lf{n:Int}{k:Nat}(hk:0<k)(h:n.natAbs<10^k):(num n).length<=k+1:=by
 have:=(jC hk).mpr h;rw[<- bA];rcases b5 n with⟨e,_⟩|⟨e,_⟩
 ·rw[e];omega
 ·rw[e,List.length_cons];omega
theorem lp{n:Int}(h:(num n).length<=4300):intText? (num n)=some n:=by
 rcases b5 n with⟨e,h0⟩|⟨e,h0⟩
 ·have:=intText_digits (x:=num n) (by rw[e];exact bD _) (by rw[e];exact iI _) h
  rw[this,e,dP]
  congr 1
  omega
 ·have:=intText_neg (x:=num n) e (bD _) (iI _) h
  rw[this,dP]
  congr 1
  omega
theorem fh{a b:Int}(h:num a=num b):a=b:=by
 have e:=congrArg (λx=>x.cps.toList) h;have f:cy a.natAbs=cy b.natAbs:=by rw[<- ij a,<- ij b,h]
 have g:=pb f;rcases b5 a with⟨e1,h1⟩|⟨e1,h1⟩ <;> rcases b5 b with⟨e2,h2⟩|⟨e2,h2⟩
 ·omega
 ·exact absurd (show(num a).cps.toList=45::cy b.natAbs from e.trans e2) (by rw[e1];exact bP (bD _) _)
 ·exact absurd (show(num b).cps.toList=45::cy a.natAbs from e.symm.trans e1) (by rw[e2];exact bP (bD _) _)
 ·omega
theorem jS{x:Str}{k:Nat}(h:AllDigits (gm x.cps.toList))(hne:gm x.cps.toList≠[])(hl:(gm x.cps.toList).length<=k)(hk:k<=4000) :
  ∃v:Int,(∀c∈x.cps.toList,c=45\/(48<=c/\c<=57))/\x.length<=4300/\intText? x=some v/\v.natAbs<10^k/\∀n,x=num n->n=v:=by
 have ll:=bA x;have fin:∀v:Int,x.length<=4300->intText? x=some v->∀n,x=num n->n=v:=λv h1 h2 n e=>by
  subst e;rw[lp h1]at h2;exact Option.some.inj h2
 have lt:digitsVal (gm x.cps.toList)<10^k:=Nat.lt_of_lt_of_le (qZ h) (Nat.pow_le_pow_right (by decide) hl)
 by_cases hm:∃r,x.cps.toList=45::r
 ·obtain⟨r,e⟩:=hm
  rw[e,kL]at h hne hl lt;have h43:x.length<=4300:=by rw[<- ll,e,List.length_cons];omega
  have it:=intText_neg e h hne h43;refine⟨_,?_,h43,it,by omega,fin _ h43 it⟩;rw[e];intro c hc;rcases List.mem_cons.mp hc with rfl|hc
  ·exact .inl rfl
  ·exact .inr (h c hc)
 ·have ef:=iH (l:=x.cps.toList) λr e=>hm ⟨r,e⟩
  rw[ef]at h hne hl lt;have h43:x.length<=4300:=by omega
  have it:=intText_digits h hne h43;exact⟨_,λc hc=>.inr (h c hc),h43,it,by omega,fin _ h43 it⟩
theorem Dg.of{n:Int}{k:Nat}(h:n.natAbs<10^k)(hk:k<=4300):Dg n:=Nat.lt_of_lt_of_le h (Nat.pow_le_pow_right (by decide) hk)
theorem lD{c:Nat}:∀{a b r s:List Nat},c∉a->c∉b->a++c::r=b++c::s->a=b/\r=s
 | [],[],r,s,_,_,e=>⟨rfl,(List.cons.inj e).2⟩
 | [],y::b,r,s,_,hb,e=>absurd (show c∈y::b by rw[(List.cons.inj e).1];exact List.mem_cons_self) hb
 | x::a,[],r,s,ha,_,e=>absurd (show c∈x::a by rw[<- (List.cons.inj e).1];exact List.mem_cons_self) ha
 | x::a,y::b,r,s,ha,hb,e=>by
  obtain⟨h1,h2⟩:=List.cons.inj e;obtain⟨h3,h4⟩:=lD (λz=>ha (List.mem_cons_of_mem _ z)) (λz=>hb (List.mem_cons_of_mem _ z)) h2;exact⟨by rw[h1,h3],h4⟩
theorem cH(a y:Str):(a++y).cps.toList=a.cps.toList++y.cps.toList:=by rw[Str.cps_append,Array.toList_append]
theorem gK{c:Nat}:∀{ps qs:List Str},ps≠[]->qs≠[]->(∀p∈ps,c∉p.cps.toList)->(∀q∈qs,c∉q.cps.toList)->Str.join ⟨#[c]⟩ ps=Str.join ⟨#[c]⟩ qs->ps=qs
 | [],_,h,_,_,_,_=>absurd rfl h
 | _,[],_,h,_,_,_=>absurd rfl h
 | [a],[b],_,_,_,_,e=>by
  have e:a=b:=e;rw[e]
 | [a],b::b2::r,_,_,h1,h2,e=>by
  have e:a=b++⟨#[c]⟩++Str.join ⟨#[c]⟩ (b2::r):=e;refine absurd ?_ (h1 a (List.mem_singleton.mpr rfl));rw[e,cH,cH];simp
 | a::a2::r,[b],_,_,h1,h2,e=>by
  have e:a++⟨#[c]⟩++Str.join ⟨#[c]⟩ (a2::r)=b:=e;refine absurd ?_ (h2 b (List.mem_singleton.mpr rfl));rw[<- e,cH,cH];simp
 | a::a2::r,b::b2::s,_,_,h1,h2,e=>by
  have e:(a++⟨#[c]⟩++Str.join ⟨#[c]⟩ (a2::r)).cps.toList=(b++⟨#[c]⟩++Str.join ⟨#[c]⟩ (b2::s)).cps.toList:=congrArg (λx=>x.cps.toList) e;simp only[cH]at e;rw[List.append_assoc,List.append_assoc]at e;obtain⟨e1,e2⟩:=lD (c:=c) (h1 a List.mem_cons_self) (h2 b List.mem_cons_self) e;have e3:=gK (ps:=a2::r) (qs:=b2::s) (by simp) (by simp) (λp hp=>h1 p (List.mem_cons_of_mem _ hp)) (λp hp=>h2 p (List.mem_cons_of_mem _ hp)) (PyProof.Rows.ext_toList e2);rw[PyProof.Rows.ext_toList e1,e3]
theorem iX{c:Nat}{qs:List Str}(h:qs≠[])(h2:∀q∈qs,c∉q.cps.toList):Txt.split (Str.join ⟨#[c]⟩ qs) ⟨#[c]⟩=qs :=
 gK (λe=>by have:=PyProof.Rows.split_pos (Str.join ⟨#[c]⟩ qs) ⟨#[c]⟩;rw[e]at this;exact absurd this (by decide)) h (StrLaws.split_free _ c) h2 (StrLaws.join_split _ _)
end L2
namespace Hd
open PySem PySem.W PySem.Spec L2
noncomputable def live(o:Obj):Bool:=match o.data with
 | .freed=>false
 | _=>true
noncomputable def me:Nat->List Obj->Frag
 | _,[]=>[]
 | n,a::r=>bif live a then (n,a)::me (n+1) r else me (n+1) r
theorem k8:∀(l:List Obj) (n a:Nat) (o:Obj),(me n l).lookup a=some o->n<=a/\l[a - n]? = some o/\live o=true
 | [],_,_,_,e=>by cases e
 | x::r,n,a,o,e=>by
  have up:(me (n+1) r).lookup a=some o->n<=a/\(x::r)[a - n]? = some o/\live o=true:=λe=>by
   obtain⟨h1,h2,h3⟩:=k8 r (n+1) a o e;refine⟨by omega,?_,h3⟩;have:a - n=(a - (n+1))+1:=by omega
   rw[this];exact h2
  unfold me at e;cases hl:live x with
  | false =>
   rw[hl]at e;exact up e
  | true =>
   rw[hl,cond_true,List.lookup_cons]at e;cases hb:a == n with
   | true =>
    rw[hb]at e;have hb:=beq_iff_eq.mp hb;subst hb;cases e;exact⟨Nat.le_refl _,by simp,hl⟩
   | false =>
    rw[hb]at e;exact up e
noncomputable def frag(h:Heap):Frag:=me 0 h.objs.toList
theorem qh(h:Heap):(frag h).In h:=by
 intro a o e;obtain⟨_,q,hl⟩:=k8 _ _ _ _ e;have q:h.objs[a]? = some o:=by simpa using q
 unfold Heap.get?;rw[q];obtain⟨c,d,dt,sl⟩:=o;cases dt <;> first|rfl|cases hl
noncomputable def fnFact(K:Frag)(x:Str):Option (Arguments×List Stmt×Scope×Value):=match nsIn K mainGlobals x with
 | some (some (.ref f))=>(match K.lookup f with
  | some ⟨_,_,.func fd,_⟩=>(match fd.body,fd.closure with
   | .stmts b,[]=>bif (fd.name == x && (fd.qualname == x && (Nat.beq fd.globals mainGlobals && (Nat.beq fd.builtins builtinsNs && codeIn K fd.code x)))) then some (fd.params,b,fd.scope,fd.defaults) else none
   | _,_=>none)
  | _=>none)
 | _=>none
theorem eU{K:Frag}{x:Str}{a:Arguments}{b:List Stmt}{sc:Scope}{dv:Value}(e:fnFact K x=some (a,b,sc,dv)) :
  ∃(f:Addr) (oc:Value) (od:Option Addr) (kV doc pm:Value) (an:Option Addr) (cdv ct:Value) (osl:Array (Option Value)),
   nsIn K mainGlobals x=some (some (.ref f))/\K.lookup f=some ⟨oc,od,.func (fnOf x x a b sc dv kV doc pm an cdv ct),osl⟩/\codeIn K cdv x=true/\keepIn K (.ref f)=true:=by
 unfold fnFact at e
 split at e
 ·rename_i f hf
  split at e
  ·rename_i oc od fd osl hl
   split at e
   ·rename_i b' hb hc
    cases hq:(fd.name == x && (fd.qualname == x && (Nat.beq fd.globals mainGlobals && (Nat.beq fd.builtins builtinsNs && codeIn K fd.code x)))) with
    | false=>rw[hq]at e;cases e
    | true =>
     rw[hq]at e;simp only[Bool.and_eq_true]at hq;obtain⟨h1,h2,h3,h4,h5⟩:=hq
     replace h1:=eq_of_beq h1
     replace h2:=eq_of_beq h2
     replace h3:=Nat.eq_of_beq_eq_true h3
     replace h4:=Nat.eq_of_beq_eq_true h4
     simp only[cond_true,Option.some.injEq,Prod.mk.injEq]at e;obtain⟨e1,e2,e3,e4⟩:=e;obtain⟨n,qn,ps,bd,s,gl,cl,df,kw,dc,pm,an,cd,ct,bl⟩:=fd;simp only at h1 h2 h3 h4 h5 e1 e2 e3 e4 hb hc;subst h1 h2 h3 h4 e1 e2 e3 e4 hb hc;refine⟨f,oc,od,kw,dc,pm,an,cd,ct,osl,hf,hl,h5,?_⟩;unfold keepIn;dsimp only;rw[hl]
   ·cases e
  ·cases e
 ·cases e
theorem df_of{K:Frag}{mg:Str->Option Value}{h:Heap}{x:Str}{st:Stmt}(X:K.In h)(G:h.Ns mainGlobals mg)(e:fnFact K x=some (aR st,aF st,ag st,.none)):Df K mg x st:=by
 obtain⟨f,oc,od,kV,doc,pm,an,cdv,ct,osl,h1,h2,h3,h4⟩:=eU e;exact tq X G h1 h2 h3 h4
noncomputable def bareV:Value->V
 | .none=>.non
 | .bool b=>.bl b
 | .int i _=>.int i
 | .str x _=>.str x
 | .bytes b _=>.byt b
 | .float b _=>.flt b
 | .ref a=>.ref a
 | .type n=>.ty n
 | _=>.ty "no plain value"
noncomputable def cA:Value->Bool
 | .ellipsis | .notImplemented | .builtin _=>false
 | _=>true
theorem mJ:∀{v:Value},cA v=true->aN (bareV v) v
 | .none,_=>rfl
 | .bool _,_=>rfl
 | .int _ t,_=>⟨t,rfl⟩
 | .str _ t,_=>⟨t,rfl⟩
 | .bytes _ t,_=>⟨t,rfl⟩
 | .float _ t,_=>⟨t,rfl⟩
 | .ref _,_=>rfl
 | .type _,_=>rfl
 | .ellipsis,h=>by cases h
 | .notImplemented,h=>by cases h
 | .builtin _,h=>by cases h
theorem cI:∀{l:List Value},l.all cA=true->aE (l.map bareV) l
 | [],_=>.nil
 | _::_,h=>by
  rw[List.all_cons,Bool.and_eq_true]at h;exact .cons (mJ h.1) (cI h.2)
noncomputable def m9(K:Frag)(v:Value):Option (List V):=match v with
 | .ref a=>(match K.lookup a with
  | some ⟨_,_,.seq its _,_⟩=>bif its.toList.all cA then some (its.toList.map bareV) else none
  | _=>none)
 | _=>none
theorem j6{K:Frag}{v:Value}{ds:List V}(e:m9 K v=some ds):∃(a:Addr) (o:Obj) (its:List Value) (n:Nat),v = .ref a/\K.lookup a=some o/\o.data = .seq its.toArray n/\aE ds its:=by
 unfold m9 at e
 split at e
 ·rename_i a
  split at e
  ·rename_i oc od its n osl hl
   cases hq:its.toList.all cA with
   | false=>rw[hq]at e;cases e
   | true =>
    rw[hq]at e;cases e;exact⟨a,_,its.toList,n,rfl,hl,rfl,cI hq⟩
  ·cases e
 ·cases e
noncomputable def fnFactD(K:Frag)(x:Str):Option (Arguments×List Stmt×Scope×List V):=match fnFact K x with
 | some (a,b,s,dv)=>(match m9 K dv with
  | some ds=>some (a,b,s,ds)
  | none=>none)
 | none=>none
theorem dfd_of{K:Frag}{mg:Str->Option Value}{h:Heap}{x:Str}{st:Stmt}{ds:List V}(X:K.In h)(G:h.Ns mainGlobals mg)(e:fnFactD K x=some (aR st,aF st,ag st,ds)):Ap K mg x st ds:=by
 unfold fnFactD at e
 split at e
 ·rename_i a b s dv hf
  split at e
  ·rename_i ds' hs
   simp only[Option.some.injEq,Prod.mk.injEq]at e;obtain⟨e1,e2,e3,e4⟩:=e;subst e1 e2 e3 e4;obtain⟨f,oc,od,kV,doc,pm,an,cdv,ct,osl,h1,h2,h3,h4⟩:=eU hf;obtain⟨T,oT,its,n,rfl,hl,hd,hv⟩:=j6 hs;exact r9 X G h1 h2 h3 h4 hl hd hv
  ·cases e
 ·cases e
noncomputable def cls(K:Frag)(x:Str):Addr:=match nsIn K mainGlobals x with
 | some (some (.ref C))=>C
 | _=>0
noncomputable def excFact(K:Frag)(x:Str):Bool:=match nsIn K mainGlobals x with
 | some (some (.ref C))=>excIn K C [.type "ValueError",.type "Exception",.type "BaseException",.type "object"] "ValueError.__new__"
 | _=>false
theorem exc_of{K:Frag}{mg:Str->Option Value}{h:Heap}{x:Str}(X:K.In h)(G:h.Ns mainGlobals mg)(e:excFact K x=true):uG K mg x (cls K x):=by
 unfold excFact at e
 split at e
 ·rename_i C hC
  have:cls K x=C:=by unfold cls;rw[hC]
  rw[this];exact rY X G hC e
 ·cases e
noncomputable def tupFact(K:Frag)(x:Str):Option (List V):=match nsIn K mainGlobals x with
 | some (some (.ref a))=>(match K.lookup a with
  | some ⟨.type "tuple",_,.seq its _,_⟩=>bif its.toList.all cA then some (its.toList.map bareV) else none
  | _=>none)
 | _=>none
theorem tup_of{K:Frag}{x:Str}{ds:List V}(e:tupFact K x=some ds):∃(a:Addr) (od:Option Addr) (its:List Value) (n:Nat) (osl:Array (Option Value)),nsIn K mainGlobals x=some (some (.ref a))/\K.lookup a=some ⟨.type "tuple",od,.seq its.toArray n,osl⟩/\aE ds its:=by
 unfold tupFact at e
 split at e
 ·rename_i a ha
  split at e
  ·rename_i od its n osl hl
   cases hq:its.toList.all cA with
   | false=>rw[hq]at e;cases e
   | true =>
    rw[hq]at e;cases e;exact⟨a,od,its.toList,n,osl,ha,hl,cI hq⟩
  ·cases e
 ·cases e
noncomputable def noFact(K:Frag)(x:Str):Bool:=match nsIn K mainGlobals x with
 | some none=>true
 | _=>false
theorem no_of{K:Frag}{x:Str}(e:noFact K x=true):nsIn K mainGlobals x=some none:=by
 unfold noFact at e
 split at e
 ·rename_i h
  exact h
 ·cases e
theorem at_map{α β:Type}{f g:α->β}{l:List α}(e:l.map f=l.map g)(i:Nat){a:α}(h:l[i]? = some a):f a=g a:=by
 have q:=congrArg (λl:List β=>l[i]?) e;simp only[List.getElem?_map,h,Option.map_some,Option.some.injEq]at q;exact q
theorem at_all{α:Type}{f:α->Bool}{l:List α}(e:l.all f=true)(i:Nat){a:α}(h:l[i]? = some a):f a=true :=
 List.all_eq_true.mp e a (List.mem_of_getElem? h)
theorem at_two{α:Type}{l m:List α}(e:l=m)(i:Nat){a b:α}(h:l[i]? = some a)(h':m[i]? = some b):a=b:=by
 subst e;rw[h]at h';exact Option.some.inj h'
theorem vals_sz{ds:List V}{its:List Value}(u:aE ds its)(h:ds.length<=100):its.toArray.size<=100:=by
 rw[List.size_toArray,<- u.length];exact h
theorem pair2{α β:Type _}{a a':α}{b b':β}(h:a=a')(g:b=b'):(a,b)=(a',b'):=by rw[h,g]
theorem jI{K:Frag}{mg:Str->Option Value}{h:Heap}{x:Str}{v:V}(X:K.In h)(G:h.Ns mainGlobals mg)(e:(nsIn K mainGlobals x).map (λo=>o.map bareV)=some (some v)):∃u,mg x=some u/\bareV u=v:=by
 cases hn:nsIn K mainGlobals x with
 | none =>
  rw[hn]at e;cases e
 | some o =>
  cases o with
  | none =>
   rw[hn]at e;cases e
  | some u =>
   rw[hn]at e;exact⟨u,mg_of X G hn,Option.some.inj (Option.some.inj e)⟩
theorem int_of{K:Frag}{mg:Str->Option Value}{h:Heap}{x:Str}{i:Int}(X:K.In h)(G:h.Ns mainGlobals mg)(e:(nsIn K mainGlobals x).map (λo=>o.map bareV)=some (some (.int i))):∃tk,mg x=some (.int i tk):=by
 obtain⟨u,h1,h2⟩:=jI X G e;cases u <;> first|(cases h2;exact⟨_,h1⟩)|cases h2
theorem str_of{K:Frag}{mg:Str->Option Value}{h:Heap}{x z:Str}(X:K.In h)(G:h.Ns mainGlobals mg)(e:(nsIn K mainGlobals x).map (λo=>o.map bareV)=some (some (.str z))):∃tk,mg x=some (.str z tk):=by
 obtain⟨u,h1,h2⟩:=jI X G e;cases u <;> first|(cases h2;exact⟨_,h1⟩)|cases h2
noncomputable def ni(C:Addr):Value->Bool
 | .ref a=>Nat.beq a C
 | _=>false
noncomputable def mQ(n:String):Value->Bool
 | .type a=>a == n
 | _=>false
theorem nh(C:Addr)(v:Value):(Value.ref C == v)=ni C v:=by
 rw[Bool.eq_iff_iff,beq_iff_eq];cases v with
 | ref a=>exact⟨λe=>by cases e;exact Nat.beq_refl _,λe=>by rw[Nat.eq_of_beq_eq_true e]⟩
 | _=>exact⟨λe=>(nomatch e),λe=>(nomatch e)⟩
theorem pA(n:String)(v:Value):(Value.type n == v)=mQ n v:=by
 rw[Bool.eq_iff_iff,beq_iff_eq];cases v with
 | type a=>exact⟨λe=>by cases e;exact beq_self_eq_true n,λe=>by rw[beq_iff_eq.mp e]⟩
 | _=>exact⟨λe=>(nomatch e),λe=>(nomatch e)⟩
theorem p7(l:List Value)(C:Addr):l.contains (.ref C)=l.any (ni C):=by
 rw[List.contains_eq_any_beq];exact congrArg l.any (funext λv=>nh C v)
theorem oG(l:List Value)(n:String):l.contains (.type n)=l.any (mQ n):=by
 rw[List.contains_eq_any_beq];exact congrArg l.any (funext λv=>pA n v)
noncomputable def oj(K:Frag)(C:Addr):Option (List Value):=match K.lookup C with
 | some ⟨_,_,.cls cd,_⟩=>(match cd.mro with
  | []=>none
  | v::r=>some (v::r))
 | _=>none
theorem ik{K:Frag}{C:Addr}{l:List Value}(e:oj K C=some l)(b:Value):mroIn K C b=some (l.contains b):=by
 unfold oj at e
 split at e
 ·rename_i a d cd sl h
  split at e
  ·cases e
  ·rename_i v r hm
   cases e;unfold mroIn clsIn;rw[h];show(if cd.mro.isEmpty then none else some (cd.mro.contains b))=_
   rw[hm];rfl
 ·cases e
noncomputable def qr(K:Frag)(C:Addr):Bool:=match K.lookup C with
 | some ⟨.type n,_,.cls _,_⟩=>n == "type"
 | _=>false
theorem qq{K:Frag}{C:Addr}(e:qr K C=true):((clsIn K C).isSome && typeIn K (.ref C) == some (.type "type"))=true:=by
 unfold qr at e
 split at e
 ·rename_i n d cd sl h
  have e:=beq_iff_eq.mp e;subst e;unfold clsIn typeIn;rw[h,Bool.and_eq_true];exact⟨rfl,by rw[beq_iff_eq];dsimp only;rw[h];rfl⟩
 ·cases e
noncomputable def pE(K:Frag)(C D:Addr):Option Bool:=bif qr K D then (match oj K C with
  | some l=>some (l.any (ni D))
  | none=>none) else none
theorem iW{K:Frag}{C D:Addr}{b:Bool}(e:pE K C D=some b):kitCls K (.ref C) (.ref D)=some b:=by
 unfold pE at e;cases hc:qr K D with
 | false=>rw[hc]at e;cases e
 | true =>
  rw[hc,cond_true]at e
  split at e
  ·rename_i l hl
   cases e;unfold kitCls;dsimp only;rw[if_pos (qq hc),<- p7];exact ik hl _
  ·cases e
noncomputable def kitR(K:Frag)(C D:Addr):Option Bool:=bif Nat.beq C D then some true else pE K C D
theorem kitR_one{K:Frag}{C D:Addr}{b:Bool}(e:kitR K C D=some b):kitOne K (.ref C) (.ref D)=some b:=by
 unfold kitR at e;unfold kitOne;cases h:Nat.beq C D with
 | true =>
  rw[h,cond_true]at e;have h:=Nat.eq_of_beq_eq_true h;subst h;rw[if_pos (beq_self_eq_true _)];exact e
 | false =>
  rw[h,cond_false]at e;have h:=Nat.ne_of_beq_eq_false h;rw[if_neg (by rw[beq_iff_eq];exact λx=>h (by cases x;rfl))];exact iW e
theorem pV:kitMeta "ValueError" = true:=by decide +kernel
noncomputable def kitT(K:Frag)(C:Addr):Option Bool:=match oj K C with
 | some l=>some (l.any (mQ "ValueError"))
 | none=>none
theorem kitT_one{K:Frag}{C:Addr}{b:Bool}(e:kitT K C=some b):kitOne K (.ref C) (.type "ValueError")=some b:=by
 unfold kitT at e;unfold kitOne;rw[if_neg (by rw[beq_iff_eq];exact λx=>by cases x)]
 split at e
 ·rename_i l hl
  cases e;unfold kitCls;dsimp only;rw[if_pos pV,<- oG];exact ik hl _
 ·cases e
noncomputable def exmR(K:Frag)(C D:Addr):Option Bool:=match oj K D with
 | some l=>bif l.any (mQ "BaseException") then pE K C D else none
 | none=>none
theorem exmR_one{K:Frag}{C D:Addr}{b:Bool}(e:exmR K C D=some b):exmOne K (.ref C) (.ref D)=some b:=by
 unfold exmR at e
 split at e
 ·rename_i l hl
  cases h:l.any (mQ "BaseException") with
  | false=>rw[h]at e;cases e
  | true =>
   rw[h,cond_true]at e;unfold exmOne;have:subIn K (.ref D) (.type "BaseException")=some true:=by
    rw[<- h,<- oG];exact ik hl _
   rw[this,if_pos (by decide)];exact iW e
 ·cases e
noncomputable def jT:List Value->Bool
 | [.type a,.type b,.type c,.type d]=>a == "ValueError" && (b == "Exception" && (c == "BaseException" && d == "object"))
 | _=>false
theorem lQ:∀{l:List Value},jT l=true->l = [.type "ValueError",.type "Exception",.type "BaseException",.type "object"]:=λ{l} e=>by
 unfold jT at e
 split at e
 ·simp only[Bool.and_eq_true,beq_iff_eq]at e
  obtain⟨rfl,rfl,rfl,rfl⟩:=e;rfl
 ·cases e
noncomputable def iP(K:Frag)(x:Str):List Value->Bool
 | []=>false
 | v::r=>match v with
  | .ref a=>(match K.lookup a with
   | some ⟨_,_,.cls cd,_⟩=>(match nsIn K cd.ns x with
    | some none=>iP K x r
    | _=>false)
   | _=>false)
  | _=>jT (v::r)
theorem gW{K:Frag}{x:Str}{z:Option Value}(hz:alongIn K x [.type "ValueError",.type "Exception",.type "BaseException",.type "object"]=some z):∀{l:List Value},iP K x l=true->alongIn K x l=some z
 | [],e=>by cases e
 | v::r,e=>by
  unfold iP at e
  split at e
  ·rename_i a
   split at e
   ·rename_i a' d cd sl h
    split at e
    ·rename_i hn
     unfold alongIn ownIn;dsimp only;rw[h];dsimp only;rw[hn];exact gW hz e
    ·cases e
   ·cases e
  ·rw[lQ e]
   exact hz
noncomputable def findR(K:Frag)(C:Addr)(x:Str):Bool:=match K.lookup C with
 | some ⟨_,_,.cls cd,_⟩=>iP K x cd.mro
 | _=>false
theorem findR_eq{K:Frag}{C:Addr}{x:Str}{z:Option Value}(hz:alongIn K x [.type "ValueError",.type "Exception",.type "BaseException",.type "object"]=some z)(e:findR K C x=true):findIn K (.ref C) x=some z:=by
 unfold findR at e
 split at e
 ·rename_i a d cd sl h
  unfold findIn;dsimp only;rw[h];exact gW hz e
 ·cases e
theorem fE_ga(K:Frag):alongIn K "__getattribute__" [.type "ValueError",.type "Exception",.type "BaseException",.type "object"]=some (some (.builtin "BaseException.__getattribute__")):=by kernel_rfl
theorem fE_gn(K:Frag):alongIn K "__getattr__" [.type "ValueError",.type "Exception",.type "BaseException",.type "object"]=some none:=by kernel_rfl
theorem fE_cl(K:Frag):alongIn K "__class__" [.type "ValueError",.type "Exception",.type "BaseException",.type "object"]=some (some (.builtin "object.__class__")):=by kernel_rfl
end Hd
namespace L2
open PySem PySem.Spec PyProof.Rows
structure u6(K:W.Frag)(mg:Str->Option Value)(x:Str)(C:Addr):Prop where
 bound:mg x=some (.ref C)
 cls:zR K C
 makes:W.makesIn K C=true
 kp:W.keepIn K (.ref C)=true
structure vX(K:W.Frag)(C:Addr)(m q:Str)(st:Stmt):Prop where
 ex:∃(f:Addr) (oc:Value) (od:Option Addr) (kV doc pm:Value) (an:Option Addr) (cdv ct:Value) (osl:Array (Option Value)),
  zQ K C m f/\K.lookup f=some ⟨oc,od,.func (W.fnOf m q (aR st) (aF st) (ag st) .none kV doc pm an cdv ct),osl⟩/\W.codeIn K cdv q=true
structure Mt(P:Program)(w:World)(K:W.Frag)(mg:Str->Option Value)(base:Heap)(C:Addr)(m:Str)(ps:List Str)(k:Nat)(sp:Sp):Prop where
 ex:∃(f:Addr) (fd:FuncData),zQ K C m f/\cg K fd ps []/\v7 P w K mg base (CXE P w) k f fd ps sp
theorem vX.mt{P:Program}{w:World}{K:W.Frag}{mg:Str->Option Value}{base:Heap}{C:Addr}{m q:Str}{st:Stmt}{N ps:List Str}{k:Nat}{sp:Sp}(D:vX K C m q st)(S:uq N ps (ag st))
  (hbind:∀(kV doc pm:Value) (an:Option Addr) (cdv ct:Value) (us:List Value),us.length=ps.length->bindArgs (W.fnOf m q (aR st) (aF st) (ag st) .none kV doc pm an cdv ct) ⟨us,[]⟩=pure (ps.zip us))
  (len:∀vs H Q E,sp vs H Q E->vs.length=ps.length)
  (hbody:∀(f:Addr) (cdv:Value) (A:Around) (outer:List Env) (s:Shared) (H:Hp) (vs:List V) (Q:VK) (E:XK),uE k (A.deeper (envOfC q (ag st) s.heap.objs.size f cdv))->sp vs H Q E ->
   ∃t,PSs (ak (CXE P w) P w K mg base N q (ag st) f cdv A outer s H E) (aF st) t/\t { nx:=λ_ H'=>Q .non H',rt:=Q } (cz N vs) H):Mt P w K mg base C m ps (k+1) sp:=by
 obtain⟨f,oc,od,kV,doc,pm,an,cdv,ct,osl,hm,lk,hcd⟩:=D.ex;exact⟨⟨f,_,hm,.all (hbind kV doc pm an cdv ct),lu lk hcd S len λA outer s H vs Q E hr hsp=>hbody f cdv A outer s H vs Q E hr hsp⟩⟩
section
variable {X:Cx} {C:Addr} {m:Str} {ps:List Str} {k:Nat} {sp:Sp} {o e:Expr} {es:List Expr} {ta:TE} {t:TA} {apos pos:Pos}
theorem ki{pl:Sem Bool}{n:Str}(O:u6 X.K X.mg n C)(F:Mt X.prog X.w X.K X.mg X.base C m ps k sp)(hr:uE k X.A)(ho:PE X o ta)(ha:PA X (e::es) t)
  (hst:starEach (e::es) X.env=(false,eval e X.env)::starEach es X.env:=by rfl) (hpl:(backTo pos (starEach es X.env)).any (·.1)=false:=by rfl)
  (ht:eval (.Call (.Attribute o m apos) (e::es) [] pos) X.env=(do
   let ov <- eval o X.env
   standAt apos.atName
   let (f,first) <- holding [ov] (getMethod ov m pl)
   callWith pos f first (backTo pos (starEach (e::es) X.env)) (backToKw pos (keywordEach [] X.env))):=by rfl) :
  PE X (.Call (.Attribute o m apos) (e::es) [] pos) (ft C m sp [] E0 ta t):=by
 obtain⟨f,fd,hm,hb,G⟩:=F.ex;exact k7 (pl:=pl) ho O.cls hm G hr hb .nil ee ha hst hpl ht
theorem fg{pl:Sem Bool}{n:Str}(O:u6 X.K X.mg n C)(F:Mt X.prog X.w X.K X.mg X.base C m ps k sp)(hr:uE k X.A)(ho:PE X o ta)
  (ht:eval (.Call (.Attribute o m apos) [] [] pos) X.env=(do
   let ov <- eval o X.env
   standAt apos.atName
   let (f,first) <- holding [ov] (getMethod ov m pl)
   callWith pos f first (backTo pos (starEach [] X.env)) (backToKw pos (keywordEach [] X.env))):=by rfl) :
  PE X (.Call (.Attribute o m apos) [] [] pos) (ft C m sp [] E0 ta g9):=by
 obtain⟨f,fd,hm,hb,G⟩:=F.ex;exact jf (pl:=pl) ho O.cls hm G hr hb .nil ee ht
theorem nE{x:Str}{p:Pos}(O:u6 X.K X.mg x C)(F:Mt X.prog X.w X.K X.mg X.base C "__init__" ps k sp)(hr:uE (k+1) X.A)(hg:Gl X x)(hdb:(x == ("__debug__" : Str))=false:=by decide) :
  PE X (.Call (.Name x p) [] [] pos) (qK C sp [] E0 g9):=by
 obtain⟨f,fd,hm,hb,G⟩:=F.ex;exact nF ⟨O.makes,hm.at_,hm.fn,O.kp⟩ G hr hg O.bound hb .nil ee hdb
theorem rq{st:Stmt}{t:TS}(h:PS X.nox st t):PS X st t:=λpins s σ H D I hw =>
 wpAny_mono (h pins s σ H D (I.wish _) hw) (λ_ _ q=>q.unwish) λ_ _ z=>False.elim z
end
section
variable {P:Program} {w:World} {K:W.Frag} {mg:Str->Option Value} {base:Heap} {N:List Str} {qual:Str} {scope:Scope} {f:Addr} {cdv:Value} {A:Around} {outer:List Env} {s₀:Shared} {H₀:Hp} {E:XK}
 {C:Addr} {m:Str} {ps:List Str} {k:Nat} {sp:Sp} {o e:Expr} {es:List Expr} {ta:TE} {t:TA} {apos pos:Pos}
theorem a4{pl:Sem Bool}{n:Str}(O:u6 K mg n C)(F:Mt P w K mg base C m ps k sp)(hr:uE k (ak (CXE P w) P w K mg base N qual scope f cdv A outer s₀ H₀ E).A)(ho:PE (ak (CXE P w) P w K mg base N qual scope f cdv A outer s₀ H₀ E) o ta)
  (ha:PA (ak (CXE P w) P w K mg base N qual scope f cdv A outer s₀ H₀ E) (e::es) t)
  (hst:starEach (e::es) (ak (CXE P w) P w K mg base N qual scope f cdv A outer s₀ H₀ E).env=(false,eval e (ak (CXE P w) P w K mg base N qual scope f cdv A outer s₀ H₀ E).env)::starEach es (ak (CXE P w) P w K mg base N qual scope f cdv A outer s₀ H₀ E).env:=by rfl) (hpl:(backTo pos (starEach es (ak (CXE P w) P w K mg base N qual scope f cdv A outer s₀ H₀ E).env)).any (·.1)=false:=by rfl)
  (ht:eval (.Call (.Attribute o m apos) (e::es) [] pos) (ak (CXE P w) P w K mg base N qual scope f cdv A outer s₀ H₀ E).env=(do
   let ov <- eval o (ak (CXE P w) P w K mg base N qual scope f cdv A outer s₀ H₀ E).env
   standAt apos.atName
   let (fv,first) <- holding [ov] (getMethod ov m pl)
   callWith pos fv first (backTo pos (starEach (e::es) (ak (CXE P w) P w K mg base N qual scope f cdv A outer s₀ H₀ E).env)) (backToKw pos (keywordEach [] (ak (CXE P w) P w K mg base N qual scope f cdv A outer s₀ H₀ E).env))):=by rfl) :
  PE (ak (CXE P w) P w K mg base N qual scope f cdv A outer s₀ H₀ E) (.Call (.Attribute o m apos) (e::es) [] pos) (ft C m sp [] E ta t):=by
 obtain⟨g,fd,hm,hb,G⟩:=F.ex;exact k7 (pl:=pl) ho O.cls hm G hr hb .nil (ig λ_ _ _ z=>z) ha hst hpl ht
theorem dr{pl:Sem Bool}{n:Str}(O:u6 K mg n C)(F:Mt P w K mg base C m ps k sp)(hr:uE k (ak (CXE P w) P w K mg base N qual scope f cdv A outer s₀ H₀ E).A)(ho:PE (ak (CXE P w) P w K mg base N qual scope f cdv A outer s₀ H₀ E) o ta)
  (ht:eval (.Call (.Attribute o m apos) [] [] pos) (ak (CXE P w) P w K mg base N qual scope f cdv A outer s₀ H₀ E).env=(do
   let ov <- eval o (ak (CXE P w) P w K mg base N qual scope f cdv A outer s₀ H₀ E).env
   standAt apos.atName
   let (fv,first) <- holding [ov] (getMethod ov m pl)
   callWith pos fv first (backTo pos (starEach [] (ak (CXE P w) P w K mg base N qual scope f cdv A outer s₀ H₀ E).env)) (backToKw pos (keywordEach [] (ak (CXE P w) P w K mg base N qual scope f cdv A outer s₀ H₀ E).env))):=by rfl) :
  PE (ak (CXE P w) P w K mg base N qual scope f cdv A outer s₀ H₀ E) (.Call (.Attribute o m apos) [] [] pos) (ft C m sp [] E ta g9):=by
 obtain⟨g,fd,hm,hb,G⟩:=F.ex;exact jf (pl:=pl) ho O.cls hm G hr hb .nil (ig λ_ _ _ z=>z) ht
end
section
variable {X:Cx} {x:Str} {i:Nat} {C:Addr} {m:Str} {ps:List Str} {k:Nat} {sp:Sp} {o e:Expr} {es:List Expr} {ta:TE} {t:TA} {px apos cpos pos:Pos}
theorem rj{pins:List (Addr×Obj)}{s1:Shared}{σ:St}{H1:Hp}{Q:VK}{R:Value->St->Hp->Prop}{f:Addr}{fd:FuncData}{us:List Value}{vs:List V}(hb:cg X.K fd ps [])(G:v7 X.prog X.w X.K X.mg X.base (CXE X.prog X.w) k f fd ps sp)(hr:uE k X.A)
  (I1:ur X pins σ H1 s1) (r:aE vs us) (q1:sp vs H1 Q λc _ H2=>R c σ H2):wpAny (model X.prog X.w) X.A (call (.ref f) us) (EP X pins σ Q) (XP X pins R) s1:=by
 have hl:(us++[]).length=ps.length:=by rw[List.append_nil,<- r.length];exact G.len _ _ _ _ q1
 have hbb:=hb s1 us I1.kIn hl;rw[List.append_nil]at hbb;refine wpAny_call (codeAny_mono (G.run X.A X.stack s1 H1 ⟨us,[]⟩ us vs Q _ hr I1.env0 hbb r q1) λrr s' hq=>?_);cases rr with
 | error ev=>exact⟨s1,σ,H1,(λc _ H2=>R c σ H2),I1,hq,λc o H' z=>z⟩
 | ok flw =>
  cases flw with
  | ret u=>exact I1.after hq
  | next=>exact False.elim hq
  | brk=>exact False.elim hq
  | cont=>exact False.elim hq
end
section
variable {X:Cx}
inductive Ai (x:V) (vs:List V) (H:Hp) (Q:VK):Prop
 | mk:∀l xs y,(x = .ref l)->(vs = [])->(H l=some (.lst xs))->(xs[xs.length - 1]? = some y)->(∀H',zg H H' l xs xs.dropLast->Q y H')->Ai x vs H Q
theorem pT:MtM X "list.pop" Ai:=λpins s σ H x xs v us Q I rx rs ⟨l,ys,y,e1,e2,h,hy,q⟩ =>
 rK pins s σ H x xs v us Q I rx rs ⟨l,ys,y,e1,e2,h,hy,q _ (.mk' h)⟩
theorem o8(a b:Bool):MeetsSeq.EqGives (.bool a) (.bool b) (a == b):=λprog w _ E _ Q h=>PySem.SeqAt.EqAt.bool_bool a b prog w E Q h
noncomputable def isT:Value->Bool
 | .bool b=>b == true
 | _=>false
theorem gZ:∀{bs:List Bool} {its:List Value},aE (bs.map V.bl) its->its=bs.map Value.bool
 | [],_,.nil=>rfl
 | _::_,_,.cons r q=>by
  rw[gZ q];cases r;rfl
theorem oC{bs:List Bool}:∀y,y∈(bs.map Value.bool).toArray->MeetsSeq.EqGives y (.bool true) (isT y):=λy hy=>by
 obtain⟨b,_,rfl⟩:=List.mem_map.mp (List.mem_toArray.mp hy);exact o8 b true
theorem gN:∀bs:List Bool,(bs.map Value.bool).countP isT=bs.count true
 | []=>rfl
 | b::r=>by
  rw[List.map_cons,List.countP_cons,List.count_cons,gN r];cases b <;> rfl
inductive yC (x:V) (vs:List V) (H:Hp) (Q:VK):Prop
 | mk:∀(l:Addr) (bs:List Bool),(x = .ref l)->(vs = [.bl true])->(H l=some (.lst (bs.map V.bl)))->(Q (.int (bs.count true:Nat)) H)->yC x vs H Q
theorem mh:MtM X "list.count" yC:=by
 intro pins s σ H x vs v us Q I rx rv h;obtain⟨l,bs,rfl,rfl,hH,q⟩:=h;cases rx;obtain⟨u,rfl,ru⟩:=rv.one;cases ru;obtain⟨z,its,n,r,hl,e⟩:=I.lstM hH;have hi:=gZ r;subst hi;refine call_meets F.slot_list_count ⟨_,e,rfl⟩ F.entry_list_count (F.args_list_count_2 _ _) (MeetsSeq.list_count l _ n (.bool true) isT oC) ⟨e,?_⟩;refine⟨.int (bs.count true:Nat),H,I.tok _,⟨s.toks,?_⟩,q⟩;show Value.int (((bs.map Value.bool).countP isT:Nat):Int) s.toks=_;rw[gN]
inductive yB (x:V) (vs:List V) (H:Hp) (Q:VK):Prop
 | mk:∀(l:Addr) (bs:List Bool) (j:Nat),(x = .ref l)->(vs = [.bl true])->(H l=some (.lst (bs.map V.bl)))->(bs[j]? = some true)->((∀m,m<j->bs[m]? = some false))->(bs.length<=1000)->(Q (.int (j:Nat)) H)->yB x vs H Q
theorem mf:MtM X "list.index" yB:=by
 intro pins s σ H x vs v us Q I rx rv h;obtain⟨l,bs,j,rfl,rfl,hH,hj,hn,hz,q⟩:=h;cases rx;obtain⟨u,rfl,ru⟩:=rv.one;cases ru;obtain⟨z,its,n,r,hl,e⟩:=I.lstM hH;have hi:=gZ r;subst hi;obtain⟨hj1,hj2⟩:=List.getElem?_eq_some_iff.mp hj;refine call_meets F.slot_list_index ⟨_,e,rfl⟩ F.entry_list_index (F.args_list_index_2 _ _) (MeetsSeq.list_index l _ n (.bool true) isT oC j (by simpa using hj1) (by omega) (by simp[hj2,isT]) λm hm hmj=>?_) ⟨e,?_⟩
 ·have:=hn m hmj
  obtain⟨a1,a2⟩:=List.getElem?_eq_some_iff.mp this;simp[a2,isT]
 ·exact⟨.int (j:Nat),H,I.tok _,⟨_,rfl⟩,q⟩
end
end L2
namespace Hd
open PySem PySem.W PySem.Spec L2
noncomputable def ownFact(K:Frag)(x:Str):Bool:=match nsIn K mainGlobals x with
 | some (some (.ref C))=>plainGet K C Str.empty && (hasDictIn K C && (plainOver K C && (makesIn K C && keepIn K (.ref C))))
 | _=>false
theorem own_of{K:Frag}{mg:Str->Option Value}{h:Heap}{x:Str}(X:K.In h)(G:h.Ns mainGlobals mg)(e:ownFact K x=true)(sa:findIn K (.ref (cls K x)) "__setattr__" = some (some (.builtin "object.__setattr__"))):u6 K mg x (cls K x):=by
 unfold ownFact at e
 split at e
 ·rename_i C hC
  have hc:cls K x=C:=by unfold cls;rw[hC]
  rw[hc]at sa ⊢;simp only[Bool.and_eq_true]at e;obtain⟨e1,e2,e3,e4,e5⟩:=e;exact⟨mg_of X G hC,⟨e1,e2,e3,sa⟩,e4,e5⟩
 ·cases e
noncomputable def mtFact(K:Frag)(x m q:Str):Option (Arguments×List Stmt×Scope×Value):=match findIn K (.ref (cls K x)) m with
 | some (some (.ref f))=>(match K.lookup f with
  | some ⟨.type n,_,.func fd,_⟩=>(match fd.body,fd.closure with
   | .stmts b,[]=>bif (n == "function" && (fd.name == m && (fd.qualname == q && (Nat.beq fd.globals mainGlobals && (Nat.beq fd.builtins builtinsNs && codeIn K fd.code q))))) then some (fd.params,b,fd.scope,fd.defaults) else none
   | _,_=>none)
  | _=>none)
 | _=>none
theorem dfm_of{K:Frag}{x m q:Str}{st:Stmt}(e:mtFact K x m q=some (aR st,aF st,ag st,.none)):vX K (cls K x) m q st:=by
 unfold mtFact at e
 split at e
 ·rename_i f hf
  split at e
  ·rename_i n od fd osl hl
   split at e
   ·rename_i b' hb hc
    cases hq:(n == "function" && (fd.name == m && (fd.qualname == q && (Nat.beq fd.globals mainGlobals && (Nat.beq fd.builtins builtinsNs && codeIn K fd.code q))))) with
    | false=>rw[hq]at e;cases e
    | true =>
     rw[hq]at e;simp only[Bool.and_eq_true]at hq;obtain⟨h0,h1,h2,h3,h4,h5⟩:=hq
     replace h0:=eq_of_beq h0
     replace h1:=eq_of_beq h1
     replace h2:=eq_of_beq h2
     replace h3:=Nat.eq_of_beq_eq_true h3
     replace h4:=Nat.eq_of_beq_eq_true h4
     simp only[cond_true,Option.some.injEq,Prod.mk.injEq]at e;obtain⟨e1,e2,e3,e4⟩:=e;obtain⟨n',qn,ps,bd,s,gl,cl,df,kw,dc,pm,an,cd,ct,bl⟩:=fd;simp only at h1 h2 h3 h4 h5 e1 e2 e3 e4 hb hc;subst h0 h1 h2 h3 h4 e2 hb hc e4;refine⟨⟨f,.type "function",od,kw,dc,pm,an,cd,ct,osl,⟨hf,?_,?_⟩,?_,h5⟩⟩
     ·unfold isFn typeIn
      dsimp only;rw[hl];exact beq_self_eq_true _
     ·unfold keepIn
      dsimp only;rw[hl]
     ·rw[hl,<- e1,<- e3]
   ·cases e
  ·cases e
 ·cases e
end Hd
namespace L2
open PySem PySem.Spec PyProof.Rows
theorem pN{X:Cx}{K:W.Frag}{pos:Pos}{es:List Expr}{k:Nat}{t:TGs}{n:Nat}(hK:X.K=K)(hc:X.calm=true)(h:PGs X es t)
  (hn:(assignEach es X.env).length=n:=by rfl) (hst:(assignEach es X.env).findIdx? (·.1)=none:=by rfl):PG X (.Tuple es k pos) (Ax K n t):=by
 subst hK;exact nD hc h hn hst
end L2
namespace Fnc
open PySem PySem.Spec L2 Mth Sp1 Sp2 Sp3 Sp7 Dr Wk
end Fnc
namespace L2
open PySem PySem.Spec PyProof.Rows
structure DK(P:Program)(w:World)(K:W.Frag)(a:Addr)(kvs:List (Key×V)):Prop where
 ex:∃(o:Obj) (es:Array DictEntry) (ep:Nat) (vs:List (Key×Value)),K.lookup a=some o/\o.ExactDict/\o.data = .dict es ep/\KeysOf (br P w) es/\Pairs (br P w) es.toList vs/\(vs.map (·.1)).Nodup/\KV kvs vs
 ne:(a == sysModules)=false
section
variable {X:Cx} {pins:List (Addr×Obj)} {σ:St} {H:Hp} {s:Shared} {a:Addr} {kvs:List (Key×V)} {y v:V} {u:Value} {A:Around} {E:Value->Shared->Prop} {k:Str}
theorem DK.of(d:DK X.prog X.w X.K a kvs)(I:ur X pins σ H s):∃vs,KV kvs vs/\s.heap.DictOf (br X.prog X.w) a vs:=by
 obtain⟨o,es,ep,vs,hk,h1,h2,h3,h4,h5,h6⟩:=d.ex;exact⟨vs,h6,o,es,ep,I.kIn a o hk,h1,h2,h3,h4,h5⟩
inductive AB (P:Program) (w:World) (K:W.Frag) (x y:V) (H:Hp) (Q:VK):Prop
 | mk (a:Addr) (kvs:List (Key×V)) (k:Str) (v:V) (ex:x = .ref a) (d:DK P w K a kvs) (ey:y = .str k) (l:dZ kvs (.inr k)=some v) (q:Q v H):AB P w K x y H Q
inductive Aj (P:Program) (w:World) (K:W.Frag) (y x:V) (H:Hp) (Q:VK):Prop
 | mk (a:Addr) (kvs:List (Key×V)) (k:Str) (ex:x = .ref a) (d:DK P w K a kvs) (ey:y = .str k) (q:Q (.bl (!(dZ kvs (.inr k)).isSome)) H):Aj P w K y x H Q
theorem lj{P:Program}{w:World}{k:Str}{u:Value}(r:aN (.str k) u):(br P w).is (.inr k) u=true:=by
 obtain⟨t,rfl⟩:=r;exact eN P w k t
theorem nM{o i:Expr}{pos:Pos}{td ty:TE}(hu:X.A.units+1<cLine)(ho:PE X o td)(hi:PE X i ty)(hs:tw i):PE X (.Subscript o i pos) (tOp (AB X.prog X.w X.K) td ty):=by
 intro pins s σ H Q I h;refine pG PySem.F.slot_dict_getitem.lookup hs (thn (ho pins s σ H _ I h) λu s1 ⟨x,H1,I1,rx,q1⟩=>thn (hi pins s1 σ H1 _ I1 q1) λiv s2 ⟨y,H2,I2,ry,q2⟩=>?_);obtain⟨a,kvs,k,v,ex,d,ey,l,q⟩:=q2;subst ex;subst ey;obtain rfl:u=Value.ref a:=rx;obtain⟨vs,rel,dd⟩:=d.of I2;refine⟨dd.typeIs,?_⟩;obtain⟨w',hw,rw'⟩:=dX.some_of (v:=v) (o:=valueAt vs (.inr k)) (by rw[<- l];exact rel.val (.inr k));exact wpAny_getItem_of (lj ry) dd.mapOf hw ⟨v,H2,I2.tok _,rw',q⟩
theorem km{o i:Expr}{td ty:TE}(hu:X.A.units+1<cLine)(hi:PE X i ty)(ho:PE X o td):PC X .NotIn i o (tOp (Aj X.prog X.w X.K) ty td):=by
 intro pins s σ H Q I h;refine thn (hi pins s σ H _ I h) λiv s1 ⟨y,H1,I1,ry,q1⟩=>thn (ho pins s1 σ H1 _ I1 q1) λu s2 ⟨x,H2,I2,rx,q2⟩=>?_;obtain⟨a,kvs,k,ex,d,ey,q⟩:=q2;subst ex;subst ey;obtain rfl:u=Value.ref a:=rx;obtain⟨vs,rel,dd⟩:=d.of I2;refine wpAny_notIn_of (lj ry) d.ne dd.mapOf ?_;rw[<- (rel.val (.inr k)).isSome_eq];exact⟨.bl _,H2,I2.tok _,rfl,q⟩
end
end L2
namespace Hd
open PySem PySem.W PySem.Spec L2
noncomputable def mS(K:Frag)(v:Value):Option (Addr×List V):=match v with
 | .ref a=>(match K.lookup a with
  | some ⟨.type "tuple",_,.seq its _,_⟩=>bif (its.toList.all cA && Nat.ble its.toList.length 100) then some (a,its.toList.map bareV) else none
  | _=>none)
 | _=>none
theorem jW{K:Frag}{v:Value}{a:Addr}{ds:List V}(e:mS K v=some (a,ds)):v = .ref a/\∀H,SqT K H a ds:=by
 unfold mS at e
 split at e
 ·rename_i b
  split at e
  ·rename_i od its n osl hl
   cases hq:(its.toList.all cA && Nat.ble its.toList.length 100) with
   | false=>rw[hq]at e;cases e
   | true =>
    rw[hq]at e;cases e;rw[Bool.and_eq_true]at hq;have hz:its.toList.length<=100:=Nat.le_of_ble_eq_true hq.2;exact⟨rfl,λH=>SqT.mod hl rfl (by rw[<- Array.length_toList];exact hz) (cI hq.1)⟩
  ·cases e
 ·cases e
noncomputable def cF(K:Frag):List DictEntry->Option (List (Int×Str×Addr×List V))
 | []=>some []
 | e::es=>match e.key,mS K e.val,cF K es with
  | .str x _,some p,some r=>some ((e.hash,x,p)::r)
  | _,_,_=>none
noncomputable def dictFact(K:Frag)(x:Str):Option (List (Int×Str×List V)):=match nsIn K mainGlobals x with
 | some (some (.ref a))=>(match K.lookup a with
  | some ⟨.type "dict",none,.dict es _,⟨[]⟩⟩=>bif Nat.beq a sysModules then none else (cF K es.toList).map (λl=>l.map λr=>(r.1,r.2.1,r.2.2.2))
  | _=>none)
 | _=>none
theorem cT{K:Frag}{P:Program}{w:World}:∀{es:List DictEntry} {l:List (Int×Str×Addr×List V)},cF K es=some l->(∀r∈l,r.1=hashStr w r.2.1) ->
  (∀e∈es,∃k,(br P w).is k e.key=true/\e.hash=(br P w).hash k)/\Pairs (br P w) es (l.map λr=>((.inr r.2.1:Key),Value.ref r.2.2.1))/\∀r∈l,∀H,SqT K H r.2.2.1 r.2.2.2
 | [],l,e,_=>by
  cases e;exact⟨(λ_ h=>by cases h),.nil,(λ_ h=>by cases h)⟩
 | d::es,l,e,hh=>by
  unfold cF at e
  split at e
  ·rename_i x t p r h1 h2 h3
   cases e;obtain⟨pa,pd⟩:=p;obtain⟨q1,q2⟩:=jW h2;obtain⟨i1,i2,i3⟩:=cT (P:=P) (w:=w) h3 λr hr=>hh r (List.mem_cons_of_mem _ hr);have is1:(br P w).is (.inr x) d.key=true:=by rw[h1];exact eN P w x t
   refine⟨λd' hd=>?_,?_,λr' hr=>?_⟩
   ·rcases List.mem_cons.mp hd with rfl|hd
    ·exact⟨.inr x,is1,hh _ List.mem_cons_self⟩
    ·exact i1 d' hd
   ·exact .cons is1 q1 i2
   ·rcases List.mem_cons.mp hr with rfl|hr
    ·exact q2
    ·exact i3 r' hr
  ·cases e
theorem p4(l:List (Int×Str×Addr×List V)):KV (l.map λr=>((.inr r.2.1:Key),V.ref r.2.2.1)) (l.map λr=>((.inr r.2.1:Key),Value.ref r.2.2.1)):=by
 induction l with
 | nil=>exact .nil
 | cons r l ih=>exact .cons ⟨rfl,rfl⟩ ih
noncomputable def rowAt(rows:List (Int×Str×List V))(k:Str):Option (List V):=(rows.find? λr=>decide (r.2.1=k)).map (·.2.2)
structure AF(P:Program)(w:World)(K:Frag)(mg:Str->Option Value)(x:Str)(rows:List (Int×Str×List V)):Prop where
 ex:∃a kvs,mg x=some (.ref a)/\DK P w K a kvs/\(∀k ds,rowAt rows k=some ds->∃p,dZ kvs (.inr k)=some (.ref p)/\∀H,SqT K H p ds)/\∀k,rowAt rows k=none->dZ kvs (.inr k)=none
theorem dY(k:Str):∀(l:List (Int×Str×Addr×List V)),dZ (l.map λr=>((.inr r.2.1:Key),V.ref r.2.2.1)) (.inr k)=(l.find? λr=>decide (r.2.1=k)).map λr=>V.ref r.2.2.1
 | []=>rfl
 | r::l=>by
  rw[List.map_cons,List.find?_cons]
  by_cases h:r.2.1=k
  ·rw[iT (by rw[h]),decide_eq_true h]
   rfl
  ·rw[iU (λz=>h (Sum.inr.inj z)),decide_eq_false h]
   exact dY k l
theorem dict_of{P:Program}{w:World}{K:Frag}{mg:Str->Option Value}{h:Heap}{x:Str}{rows:List (Int×Str×List V)}(X:K.In h)(G:h.Ns mainGlobals mg)(e:dictFact K x=some rows)(hh:∀r∈rows,r.1=hashStr w r.2.1)(nd:(rows.map λr=>r.2.1).Nodup):AF P w K mg x rows:=by
 unfold dictFact at e
 split at e
 ·rename_i a ha
  split at e
  ·rename_i es ep hl
   cases hs:Nat.beq a sysModules with
   | true=>rw[hs]at e;cases e
   | false =>
    rw[hs]at e;have e:(cF K es.toList).map (λl=>l.map λr=>(r.1,r.2.1,r.2.2.2))=some rows:=e;obtain⟨l,hl2,rfl⟩:=Option.map_eq_some_iff.mp e;have hh':∀r∈l,r.1=hashStr w r.2.1:=λr hr=>hh _ (List.mem_map.mpr ⟨r,hr,rfl⟩);obtain⟨i1,i2,i3⟩:=cT (P:=P) (w:=w) hl2 hh';have nd':(l.map λr=>r.2.1).Nodup:=by
     rw[List.map_map]at nd;exact nd
    have kn:((l.map λr=>((.inr r.2.1:Key),Value.ref r.2.2.1)).map (·.1)).Nodup:=by
     rw[List.map_map];have:(l.map λr=>r.2.1).map (λz=>(Sum.inr z:Key))=l.map ((λx=>x.1) ∘ λr=>((.inr r.2.1:Key),Value.ref r.2.2.1)):=by
      rw[List.map_map];rfl
     rw[<- this];exact List.Pairwise.map _ (λa b hab z=>hab (Sum.inr.inj z)) nd'
    have fr:∀k,rowAt (l.map λr=>(r.1,r.2.1,r.2.2.2)) k=(l.find? λr=>decide (r.2.1=k)).map λr=>r.2.2.2:=λk=>by
     unfold rowAt;rw[List.find?_map,Option.map_map];rfl
    refine⟨a,_,W.mg_of X G ha,⟨⟨_,es,ep,_,hl,⟨rfl,rfl,rfl⟩,rfl,?_,i2,kn,p4 l⟩,?_⟩,λk ds hk=>?_,λk hk=>?_⟩
    ·exact λe he=>i1 e (Array.mem_toList_iff.mpr he)
    ·exact Bool.eq_false_iff.mpr λz=>by
      rw[beq_iff_eq.mp z,Nat.beq_refl]at hs;cases hs
    ·rw[fr]at hk
     obtain⟨r,hr,rfl⟩:=Option.map_eq_some_iff.mp hk;exact⟨r.2.2.1,by rw[dY,hr];rfl,i3 r (List.mem_of_find?_eq_some hr)⟩
    ·rw[fr]at hk
     rw[dY,Option.map_eq_none_iff.mp hk];rfl
  ·cases e
 ·cases e
noncomputable def wB(b:Bool)(w:World):World:={ w with params:={ w.params with followText:=λrow=>bif row == "special-get-raises" then b else w.params.followText row } }
theorem sj(w:World):wB (w.params.followText "special-get-raises") w=w:=by
 have h:(λrow=>bif row == "special-get-raises" then w.params.followText "special-get-raises" else w.params.followText row)=w.params.followText:=by
  funext row
  by_cases h:row = "special-get-raises"
  ·subst h
   simp
  ·have:(row == "special-get-raises")=false:=by simpa using h
   rw[this];rfl
 unfold wB;rw[h]
theorem wB_both{P:World->Prop}(h1:∀w,P (wB true w))(h0:∀w,P (wB false w))(w:World):P w:=by
 have h:=sj w;cases e:w.params.followText "special-get-raises" with
 | true =>
  rw[e]at h;have z:=h1 w;rw[h]at z;exact z
 | false =>
  rw[e]at h;have z:=h0 w;rw[h]at z;exact z
noncomputable def hookV{α:Type}(facts:Frag->α)(val:World->α):Hook :=
 ⟨α,λs=>facts (frag s.heap),val,λw h=>∃K:Frag,K.In h/\facts K=val w,λ_ s e=>⟨_,qh s.heap,e⟩,λ_ _ _ ⟨K,hi,e⟩ k=>⟨K,Frag.In.keeps hi k,e⟩⟩
theorem law_walkV{l:OpenLaw}{k:Nat}{q:Program}{loose:List Str}{XP:(Str->Option Value)->Heap->Prop}{d:DefRec}{α:Type}{facts:Frag->α}{val:World->α}(hk:uE k callerA)(hn:l.most=some 63)(hdf:d.params.defaults = [])
  (F:∀(K:Frag) (w:World),facts K=val w->∀(mg:Str->Option Value) (fa:Addr) (h:Heap),K.In h->h.Ns mainGlobals mg->mg d.name=some (.ref fa) ->
   ∃fd:FuncData,(∀(s:Shared) (u:Value),BindsTo s fd ⟨[u],[]⟩ [("script",u)])/\∀base:Heap,K.In base->base.Ns mainGlobals mg->v7 l.prog w K mg base CX0 k fa fd ["script"] (mZ K)) :
  WalkO q loose XP (Hook.says (hookV facts val)) l.row.toRowW d [] (λf vs=>PySem.call f vs):=by
 refine Att.attach_call hn hdf λw s₀ s1 mg mb fa o pm cd doc a vs ns G Y ho hd hcd hmg hobj hints hlen hg=>?_;obtain⟨K,hin,hf⟩:=Y;obtain⟨fd,hb,hF⟩:=F K w hf mg fa _ hin G.T.g hmg;exact oB hin G.T.g G.T.b G.T.builtins G.T.nolimit hg hobj hints (Nat.le_trans hlen (by decide)) hk hF hb (λH hO hS=>⟨a,ns,rfl,hS,hlen,λ_=>rfl⟩) λH e s' h=>h
end Hd
namespace Hd
open PySem PySem.W
section
variable {tb:String->Option Builtin} {p:Program} {w:World} {n0:Nat} {ann:Option Value}
noncomputable def fc(tb:String->Option Builtin)(p:Program)(w:World)(n0:Nat)(ann:Option Value):Nat->SharedT->Thread->Option SharedT
 | 0,_,_=>none
 | n+1,s,t=>match through t with
  | true=>some s
  | false=>match stepOk n0 ann t with
   | false=>none
   | true=>match stepT (denote tb) p w s t with
    | some (s',t')=>fc tb p w n0 ann n s' t'
    | none=>none
theorem gy:∀{n:Nat} {s s':SharedT} {t:Thread},fc tb p w n0 ann n s t=some s'->topRun tb p w n0 ann n s.abs t=some s'.abs
 | 0,_,_,_,h=>by cases h
 | n+1,s,s',t,h=>by
  unfold fc at h;unfold topRun;cases ht:through t with
  | true =>
   rw[ht]at h;cases h;rfl
  | false =>
   rw[ht]at h;cases hk:stepOk n0 ann t with
   | false =>
    rw[hk]at h;cases h
   | true =>
    rw[hk]at h;cases hs:stepT (denote tb) p w s t with
    | none =>
     rw[hs]at h;cases h
    | some r =>
     obtain⟨s2,t2⟩:=r;rw[hs]at h;rw[stepT_spec hs];exact gy h
noncomputable def pZ:List Obj->BT->Nat->Option (BT×Nat)
 | [],t,n=>some (t,n)
 | o::l,t,n=>match ((t.ins n o).get n).isSome with
  | true=>pZ l (t.ins n o) (n+1)
  | false=>none
theorem gJ{life:Life}:∀{l:List Obj} {t t':BT} {n n':Nat},pZ l t n=some (t',n')->absHeap t' n' life=l.foldl Heap.push (absHeap t n life)
 | [],t,t',n,n',h=>by
  cases h;rfl
 | o::l,t,t',n,n',h=>by
  unfold pZ at h;cases hg:((t.ins n o).get n).isSome with
  | false =>
   rw[hg]at h;cases h
  | true =>
   rw[hg]at h;rw[gJ h,absHeap_ins hg];rfl
theorem i9(life:Life):∀(l:List Obj) (a:Array Obj),l.foldl Heap.push ⟨a,life⟩=⟨a++l.toArray,life⟩
 | [],a=>by simp
 | o::l,a=>by
  rw[List.foldl_cons];show l.foldl Heap.push ⟨a.push o,life⟩=_;rw[i9 life l];simp
noncomputable def fq(tb:String->Option Builtin)(p:Program)(w:World)(N:Nat)(s₀:Shared):Option Shared :=
 match s₀.heap.isNs mainGlobals && s₀.gens.size == 0 with
 | true=>match pZ s₀.heap.objs.toList .nil 0 with
  | some (t,n)=>match fc tb p w n (s₀.heap.nsMap mainGlobals "__annotations__") N ⟨t,n,s₀.heap.life,s₀.gens,s₀.drawn,s₀.toks,s₀.os⟩ (topStub p) with
   | some s1=>match staticsOk (importedModules p.main.body) s₀.heap s1.abs.heap && namesBound p s1.abs.heap && gensDone s1.abs && laidKept s₀.heap s1.abs.heap with
    | true=>some s1.abs
    | false=>none
   | none=>none
  | none=>none
 | false=>none
theorem jX{N:Nat}{s₀ s:Shared}(h:fq tb p w N s₀=some s):topFrom tb p w N s₀=some s:=by
 obtain⟨⟨objs,life⟩,gens,drawn,toks,os⟩:=s₀;unfold fq at h;unfold topFrom;dsimp only at h ⊢
 split at h
 ·rename_i h1
  rw[h1];dsimp only
  split at h
  ·rename_i t n h2
   have ha:=gJ (life:=life) h2;have he:absHeap BT.nil 0 life=⟨#[],life⟩:=rfl;rw[he,i9]at ha;have ha:absHeap t n life=⟨objs,life⟩:=by
    rw[ha];simp
   have hn:n=objs.size:=by
    have:=absHeap_size t n life;rw[ha]at this;exact this.symm
   split at h
   ·rename_i s1 h3
    have hr:=gy h3;have e0:SharedT.abs ⟨t,n,life,gens,drawn,toks,os⟩=⟨⟨objs,life⟩,gens,drawn,toks,os⟩:=by
     unfold SharedT.abs;rw[ha]
    rw[e0]at hr;rw[hn]at hr;rw[hr];exact h
   ·cases h
  ·cases h
 ·cases h
noncomputable def openEndsT(tb:String->Option Builtin)(p:Program)(w:World)(N:Nat):Option Shared:=(fencedOpening tb p w N).bind (fq tb p w N)
theorem openT_map{N:Nat}{α:Type}{f:Shared->α}{v:α}(h:(openEndsT tb p w N).map f=some v):(openEnds tb p w N).map f=some v:=by
 obtain⟨s,hs,hf⟩:=Option.map_eq_some_iff.mp h;unfold openEndsT at hs;obtain⟨s0,h0,h1⟩:=Option.bind_eq_some_iff.mp hs;unfold openEnds;rw[h0];show((topFrom tb p w N s0)).map f=_;rw[jX h1];exact congrArg some hf
end
end Hd
namespace L2
open PySem PySem.Spec PyProof.Rows
theorem ei:fillsNumberSlot (.type "tuple") "mul" = pure false:=PySem.fillsNumberSlot_seq F.slot_tuple_mul.lookup (by decide) F.slot_tuple_rmul.lookup (by decide)
theorem hY:seqRepeat? (.type "tuple")=pure (some (.builtin "tuple.__mul__")):=by
 unfold seqRepeat?;rw[PySem.seqSlot_of (name:=Str.ofString "__mul__") F.slot_tuple_mul.lookup (by decide)];show(do let r <- seqSlot? (.type "tuple") (Str.ofString "__rmul__");match some (Value.builtin "tuple.__mul__"),r with|some f,some val=>pure (some f)|_,_=>pure none:Sem (Option Value))=_
 rw[PySem.seqSlot_of (name:=Str.ofString "__rmul__") F.slot_tuple_rmul.lookup (by decide)];rfl
theorem fH(a:Int)(t:Tok)(l:Addr)(items:Array Value)(n:Nat)(d:Option Addr)(sl:Array (Option Value)):Meets (Builtin.«int.__rmul__» { pos:=[.int a t,.ref l] }) λ_ R s =>
  s.heap.get? l=some ⟨.type "tuple",d,.seq items n,sl⟩/\R (.ok (.ret .notImplemented)) s:=Meets.of_wp λprog w A R s h=>by
 obtain⟨hl,h⟩:=h;unfold Builtin.«int.__rmul__» Builtin.Int.intBinary;refine wpAny_bind ?_;unfold slotArgs;refine wpAny_ite_false (by rfl) (wpAny_ite_false (by rfl) (wpAny_pure (wpAny_bind (wpAny_bind ?_))));refine wpAny_pure (wpAny_pure (wpAny_bind (wpAny_bind ?_)));refine wpAny_load' hl (wpAny_pure (wpAny_bind (wpAny_rule (wpAny_pure ⟨_,rfl,h⟩))))
theorem fL:∀(l:List (Array Value)) (a:Array Value),l.foldl (λa b=>a++b) a=(a.toList++(l.map Array.toList).flatten).toArray
 | [],a=>by simp
 | b::l,a=>by
  rw[List.foldl_cons,fL l];simp
theorem h8{α:Type}(xs:List α):∀n:Nat,(List.replicate n xs).flatten.length=xs.length*n
 | 0=>by simp
 | n+1=>by rw[List.replicate_succ,List.flatten_cons,List.length_append,h8 xs n,Nat.mul_succ];omega
theorem jV(l:Addr)(items:Array Value)(n:Nat)(x:Int)(u:Tok)(dd:Option Addr)(sl:Array (Option Value))(hi:items.isEmpty=false)(hx:x<2^20)(hn:-2^20<x)(hz:items.size*x.toNat<=1000000):Meets (Builtin.«tuple.__mul__» { pos:=[.ref l,.int x u] }) λ_ R s =>
  s.heap.get? l=some ⟨.type "tuple",dd,.seq items n,sl⟩/\(x=1->R (.ok (.ret (.ref l))) s) /\
  (x≠1->R (.ok (.ret (.ref s.heap.objs.size))) { s with heap:=s.heap.push ⟨.type "tuple",none,.seq ((List.replicate x.toNat items.toList).flatten.toArray) 0,#[]⟩ }):=Meets.of_wp λprog w A R s h=>by
 obtain⟨hl,h1,h2⟩:=h;unfold Builtin.«tuple.__mul__»;have e63:(2:Int)^63=9223372036854775808:=by decide
 have e20:(2:Int)^20=1048576:=by decide
 rw[e20]at hx hn;refine wpAny_ite_false (by rw[e63];simp;omega) ?_;refine wpAny_bind (wpAny_tupleItemsOf hl rfl ?_)
 by_cases hx1:x=1
 ·subst hx1
  refine wpAny_ite_true (by simp) ?_;refine wpAny_bind (wpAny_bind (wpAny_typeOf_ref hl (wpAny_pure ?_)));refine wpAny_ite_true (by rfl) ?_;exact wpAny_bind (wpAny_rule (wpAny_pure ⟨_,rfl,h1 rfl⟩))
 refine wpAny_ite_false (by simp[hi,hx1]) ?_
 by_cases hx0:x<=0
 ·refine wpAny_ite_true (by simp[hx0]) ?_
  refine wpAny_bind (wpAny_newObj_type ?_ (by simp[sizeOk]));have:=h2 hx1;rw[show x.toNat=0 by omega]at this;exact wpAny_pure ⟨_,rfl,this⟩
 refine wpAny_ite_false (by simp[hx0,hi]) ?_;have sz:(items.size:Int)*x<=1000000:=by
  have:((items.size*x.toNat:Nat):Int)=(items.size:Int)*x:=by
   rw[Int.natCast_mul,Int.toNat_of_nonneg (by omega)]
  omega
 refine wpAny_ite_false (by rw[e63];simp;omega) ?_;refine wpAny_ite_false (by simp[Builtin.Tuple.tupleTooMany,sizeLine_eq];omega) ?_;refine wpAny_bind (wpAny_newObj_type ?_ ?_)
 ·have:=h2 hx1
  rw[fL,List.map_replicate];exact wpAny_pure ⟨_,rfl,this⟩
 ·rw[fL,List.map_replicate]
  have:((#[]:Array Value).toList++(List.replicate x.toNat items.toList).flatten).toArray.size<=1000000:=by
   rw[List.size_toArray,List.length_append,h8,Array.length_toList];simpa using hz
  exact Nat.le_trans this (by rw[sizeLine_eq];omega)
inductive zC (x y:V) (H:Hp) (Q:VK):Prop
 | mk (l:Addr) (n:Int) (xs:List V) (ex:x = .ref l) (ey:y = .int n) (e:H l=some (.tup xs)) (ne:xs≠[]) (b:n<2^20/\-2^20<n) (z:xs.length*n.toNat<=1000000) (q1:n=1->Q (.ref l) H)
   (q2:n≠1->∀p H2,Same H H2->H2 p=some (.tup (List.replicate n.toNat xs).flatten)->H p=none->Q (.ref p) H2):zC x y H Q
section
variable {X:Cx} {pins:List (Addr×Obj)} {σ:St} {H:Hp} {s:Shared}
theorem iS{xs:List V}{us:List Value}(r:aE xs us):∀n:Nat,aE (List.replicate n xs).flatten (List.replicate n us).flatten
 | 0=>.nil
 | n+1=>by
  rw[List.replicate_succ,List.replicate_succ,List.flatten_cons,List.flatten_cons];exact r.append (iS r n)
theorem nU:OpR X (binaryOp .Mult) zC:=by
 intro pins s σ H x y v u Q I rx ry h;obtain⟨l,n,xs,rfl,rfl,hH,h1,⟨hb,hn⟩,hz,q1,q2⟩:=h;cases rx;obtain⟨tk,rfl⟩:=ry;obtain⟨z,its,r,⟨⟨cls,dd,data,sl⟩,ho,hc,k,hd⟩⟩:=I.hok _ _ hH;simp only at hc hd;subst hc hd;have l1:=r.length;have n1:its.toArray.isEmpty=false:=by
  cases its with
  | nil=>exact absurd (List.eq_nil_of_length_eq_zero l1) h1
  | cons _ _=>rfl
 have ti:s.TypeIs (.ref l) "tuple":=⟨_,ho,rfl⟩;refine wpAny_binaryOp_repeat_ref (T:="tuple") (U:="int") (by decide) ti (λs'=>typeIs_int s' n tk) ei F.fills_int_mul F.slot_int_rmul hY F.slot_int_index.lookup
  (call_meets F.slot_int_rmul (typeIs_int s n tk) F.entry_int_rmul (F.args_int_rmul_2 _ _) (fH n tk l its.toArray k dd sl) ⟨ho,rfl,ti,
   call_meets F.slot_tuple_mul ti F.entry_tuple_mul (F.args_tuple_mul_2 _ _) (jV l its.toArray k n tk dd sl n1 hb hn (by rw[List.size_toArray,<- l1];exact hz)) ⟨ho,λe1=>?_,λe1=>?_⟩⟩)
 ·exact⟨.ref l,H,I,rfl,q1 e1⟩
 ·have hf:H s.heap.objs.size=none:=I.fresh
  refine⟨.ref s.heap.objs.size,upd H s.heap.objs.size (.tup (List.replicate n.toNat xs).flatten),I.laid (t':=s.toks) (λb u e=>Heap.get?_push_of_some _ e) (Nat.le_refl _) ?_,rfl,q2 e1 _ _ (Same.new hf) upd_same hf⟩;refine⟨?_,(List.replicate n.toNat its).flatten,iS r _,IsTup.new _ _⟩;rw[h8,sizeLine_eq];omega
inductive xY (K:W.Frag) (x y:V) (H:Hp) (Q:VK):Prop
 | mk (l b:Addr) (xs zs:List V) (ex:x = .ref l) (ey:y = .ref b) (e:SqT K H l xs) (f:H b=some (.tup zs)) (ne:xs≠[]) (z:xs.length+zs.length<=1000000) (q1:zs = []->Q (.ref l) H)
   (q2:zs≠[]->∀p H2,Same H H2->H2 p=some (.tup (xs++zs))->H p=none->Q (.ref p) H2):xY K x y H Q
theorem nY:OpR X (binaryOp .Add) (xY X.K):=by
 intro pins s σ H x y v u Q I rx ry h;obtain⟨l,b,xs,zs,rfl,rfl,hH,hB,h1,hz,q1,q2⟩:=h;cases rx;cases ry;obtain⟨its,r,⟨⟨cls,dd,data,sl⟩,ho,hc,n,hd⟩,_⟩:=I.tuple hH;obtain⟨z2,its2,r2,⟨⟨cls2,dd2,data2,sl2⟩,ho2,hc2,n2,hd2⟩⟩:=I.hok _ _ hB;simp only at hc hd hc2 hd2;subst hc hd hc2 hd2;have l1:=r.length;have l2:=r2.length;have n1:its≠[]:=λe=>h1 (List.eq_nil_of_length_eq_zero (by rw[l1,e];rfl))
 by_cases hzs:zs = []
 ·have n2':its2 = []:=List.eq_nil_of_length_eq_zero (by rw[<- l2,hzs];rfl)
  refine concat_meets ⟨_,ho,rfl⟩ ⟨_,ho2,rfl⟩ noFill_tuple_add seq_tuple_add PySem.F.slot_tuple_add PySem.F.entry_tuple_add (PySem.F.args_tuple_add_2 _ _)
   (tuple_addW1 l b its.toArray its2.toArray n n2 dd dd2 sl sl2 (by simpa using n1) (by simpa using n2')) ⟨ho,ho2,?_⟩
  exact⟨.ref l,H,I,rfl,q1 hzs⟩
 have n2':its2≠[]:=λe=>hzs (List.eq_nil_of_length_eq_zero (by rw[l2,e];rfl));have e:its.toArray++its2.toArray=(its++its2).toArray:=by simp
 have hsl:sizeLine=16777216:=sizeLine_eq;refine concat_meets ⟨_,ho,rfl⟩ ⟨_,ho2,rfl⟩ noFill_tuple_add seq_tuple_add PySem.F.slot_tuple_add PySem.F.entry_tuple_add (PySem.F.args_tuple_add_2 _ _)
  (tuple_addW2 l b its.toArray its2.toArray n n2 dd dd2 sl sl2 (by simpa using n1) (by simpa using n2') (by rw[List.size_toArray,List.size_toArray];omega)) ⟨ho,ho2,?_⟩
 rw[e];have hf:H s.heap.objs.size=none:=I.fresh;refine⟨.ref s.heap.objs.size,upd H s.heap.objs.size (.tup (xs++zs)),I.laid (t':=s.toks) (λb u e=>Heap.get?_push_of_some _ e) (Nat.le_refl _) ?_,rfl,q2 hzs _ _ (Same.new hf) upd_same hf⟩;exact⟨by rw[List.length_append];omega,its++its2,r.append r2,IsTup.new _ _⟩
end
theorem gp:entryFor table "proto.unchain" = some Builtin.«proto.unchain»:=entryFor_of_tree (by kernel_rfl)
section
variable {M:Model} {A:Around} {E:Value->Shared->Prop} {s:Shared} {env:Env}
variable {nm q:Str} {C N:Addr} {bs bm:List Value} {hdct:Bool} {sn:List Str} {sub:List Value} {ab:Bool} {col:Option Bool} {dd:Option Addr} {k0 k1 k2 k3 k5:Option Value} {newId:String}
theorem j9{x:Sem Value}{Q:Flow->Shared->Prop}(hb:bm.contains (.type "BaseException")=true)
  (h:wpAny M A x (λv s1=>∃e t,v = .ref e/\s1.heap.get? C=some (excClassObj nm q C N bs bm hdct sn sub ab col dd k0 k1 k2 k3 k5 newId)/\s1.heap.get? e=some { cls:=.ref C,data:=.fields #[.ref t,.none,.none,.none,.bool false,.none] }/\wpAny M A (raiseNew (.ref e):Sem Flow) Q E s1) E s) :
  wpAny M A (raiseStmt env (some x) none) Q E s:=by
 have hcB:(Value.ref C::bm).contains (.type "BaseException")=true:=by rw[List.contains_cons,hb,Bool.or_true]
 unfold raiseStmt;refine wpAny_bind (wpAny_mono h (λv s1 h1=>?_) λ_ _ x=>x);obtain⟨e,t,rfl,hC,he,hE⟩:=h1;obtain⟨hp,g,d,tk,os⟩:=s1
 repeat (first|with_reducible refine wpAny_loadPart_at he ?_|with_reducible refine wpAny_loadPart_at hC ?_|(with_reducible refine wpAny_isSubtype_exc hC ?_;rw[hcB])|wp_step)
 exact hE
end
section
variable {prog:Program} {w:World} {A:Around} {E:Value->Shared->Prop} {s:Shared} {env:Env}
variable {nm q:Str} {C N:Addr} {bs bm bmB:List Value} {hdct:Bool} {sn:List Str} {sub:List Value} {ab:Bool} {col:Option Bool} {dd:Option Addr} {k0 k1 k2 k3 k5:Option Value} {B newId initId:String}
theorem ka(F:ExcBaseFacts B newId initId bmB){mN:Str->Option Value}{x:Str}{np cpos pos:Pos}{Q:Flow->Shared->Prop}(hb:bm.contains (.type "BaseException")=true)(hni:mN "__init__" = none)
  (h:wpAny (model prog w) A (eval (.Name x np) env) (λf s1=>f = .ref C/\s1.heap.get? C=some (excClassObj nm q C N bs bm hdct sn sub ab col dd k0 k1 k2 k3 k5 newId)/\s1.heap.Ns N mN/\OwnTail s1.heap bmB bm/\∀h' e,Heap.MadeExcOf s1.heap h' e (.ref C) []->wpAny (model prog w) A (raiseNew (.ref e):Sem Flow) Q E { s1 with heap:=h' }) E s) :
  wpAny (model prog w) A (exec (.Raise (some (.Call (.Name x np) [] [] cpos)) none pos) env) Q E s:=by
 rw[arm_exec_Raise];refine wpAny_bind (wpAny_standAt (j9 (C:=C) (nm:=nm) (q:=q) (N:=N) (bs:=bs) (bm:=bm) (hdct:=hdct) (sn:=sn) (sub:=sub) (ab:=ab) (col:=col) (dd:=dd) (k0:=k0) (k1:=k1) (k2:=k2) (k3:=k3) (k5:=k5) (newId:=newId) hb ?_));refine wpAny_bind (wpAny_mono (wpAny_Call_ofName (wpAny_mono h (λf s1 h1=>?_) λ_ _ x=>x)) (λv s3 h3=>wpAny_bind (wpAny_standAt (wpAny_pure h3))) λ_ _ x=>x);obtain⟨rfl,hC,hn,T,h2⟩:=h1;unfold callWith;refine wpAny_bind (wpAny_holding (evalArgs_empty (wpAny_bind (wpAny_standAt ?_))));obtain⟨hp,g,d,tk,os⟩:=s1;refine wpAny_bind (wpAny_keeperOf_exc hC ?_);refine wpAny_bind (wpAny_call_exc_subT F T hC hn hni λh' e hm=>wpAny_bind (wpAny_holding (wpAny_point (wpAny_pure ?_))));obtain⟨t,ht,_,_⟩:=hm.there;exact⟨e,t,rfl,hm.keeps _ _ hC,ht,h2 h' e hm⟩
theorem j8{α:Type}{e ea:Addr}{oe:Obj}{vs:Array Value}{Q:α->Shared->Prop}(hh:A.handled=some (.ref ea))(ne:ea≠e)(cn:Cn s.heap ea)(he:s.heap.get? e=some oe)(hd:oe.data = .fields vs)(hz:2<vs.size)
  (hE:E (.ref e) { s with heap:=s.heap.update e (Obj.mapFields (·.setIfInBounds 2 (.ref ea))) }):wpAny (model prog w) A (raiseNew (.ref e):Sem α) Q E s:=by
 obtain⟨oa,ws,h1,h2,h3⟩:=cn;unfold raiseNew;refine wpAny_bind (wpAny_handled ?_);rw[hh];dsimp only;have hn:(Value.ref ea != Value.ref e)=true:=by simp[ne]
 rw[if_pos hn];refine wpAny_bind (wpAny_holding (wpAny_runValue (codeAny_builtin gp ?_)));refine wpAny_bind (wpAny_field h1 h2 h3 ?_);rw[if_pos (by rfl)];refine wpAny_bind (wpAny_pure (wpAny_pure ?_));show wpAny _ _ (setField (.ref e) 2 (.ref ea) >>= λ_=>throw (.ref e)) _ _ _;exact wpAny_bind (wpAny_setField he hd hz (wpAny_throw hE))
end
section
variable {P:Program} {w:World} {K:W.Frag} {mg:Str->Option Value} {base:Heap} {N:List Str} {qual:Str} {scope':Scope} {f:Addr} {cdv:Value} {A:Around} {outer:List Env} {s₀:Shared} {H₀:Hp} {E:XK}
structure XPD(X:Cx)(pins:List (Addr×Obj))(s':Shared)(ea:Addr)(cls fl:Value)(g:Nat->Option Value)(H':Hp)(B:Heap)(σ₁:St):Prop where
 f1:B.StaysIn s'.heap
 f2:B.get? ea=none
 f3:s'.heap.FunFrames B X.stack
 f4:Tr B s'.heap ea cls g fl
 J:∀h2:Heap,B.StaysIn h2->s'.heap.UpToSlots h2->ur X pins σ₁ H' { s' with heap:=h2 }
 hok:HOk X.prog X.w H' s'.heap
 os:s'.os=X.s₀.os
 bare:AllBare s'.gens
 un:Un (frs X.outer) [] X.H₀ H' X.s₀.heap s'.heap
 big:zT B (frs X.outer) H' X.s₀.heap
 fr:∀b∈frs X.outer,X.H₀ b=none/\∀o,s'.heap.get? b=some o->∀vs,o.data≠.fields vs
noncomputable def XPA(X:Cx)(pins:List (Addr×Obj))(R:Value->Option Addr->St->Hp->Prop)(ev:Value)(s':Shared):Prop :=
 ∃(ea t:Addr) (cls fl:Value) (g:Nat->Option Value) (o:Option Addr) (H':Hp) (B:Heap) (σ1:St),ev = .ref ea/\XPD X pins s' ea cls fl g H' B σ1/\g 0=some (.ref t)/\(o=none->g 2=some .none)/\R cls o σ1 H'
theorem i8{pins:List (Addr×Obj)}{σ:St}{H:Hp}{s:Shared}{x:Str}{C ea:Addr}{np cpos pos:Pos}{Q:Flow->Shared->Prop}{o:Addr}(I:ur (ak (CXE P w) P w K mg base N qual scope' f cdv A outer s₀ H₀ E) pins σ H s)(O:uG K mg x C)(hg:Gl (ak (CXE P w) P w K mg base N qual scope' f cdv A outer s₀ H₀ E) x)(cn:Cn s.heap ea)(q:E (.ref C) (some o) H)(hdb:(x == ("__debug__" : Str))=false:=by decide) :
  wpAny (model P w) ((ak (CXE P w) P w K mg base N qual scope' f cdv A outer s₀ H₀ E).A.mark (some (.ref ea))) (exec (.Raise (some (.Call (.Name x np) [] [] cpos)) none pos) (ak (CXE P w) P w K mg base N qual scope' f cdv A outer s₀ H₀ E).env) Q (notedBy (model P w) ((ak (CXE P w) P w K mg base N qual scope' f cdv A outer s₀ H₀ E).A.mark (some (.ref ea))) (ak (CXE P w) P w K mg base N qual scope' f cdv A outer s₀ H₀ E).env (cameBackBy (model P w) (ak (CXE P w) P w K mg base N qual scope' f cdv A outer s₀ H₀ E).A (ak (CXE P w) P w K mg base N qual scope' f cdv A outer s₀ H₀ E).env (ak (CXE P w) P w K mg base N qual scope' f cdv A outer s₀ H₀ E).xe)) s:=by
 have I':=I.inH ea;obtain⟨bm,N',nm,qn,bs,hd,sn,sub,ab,col,dd,k0,k1,k2,k3,k5,mN,hC,hN,hni,T⟩:=O.obj s.heap I.kIn;refine ka (C:=C) (nm:=nm) (q:=qn) (N:=N') (bs:=bs) (bm:=bm) (hdct:=hd) (sn:=sn) (sub:=sub) (ab:=ab) (col:=col) (dd:=dd) (k0:=k0) (k1:=k1) (k2:=k2) (k3:=k3) (k5:=k5) PySem.F.excBase_ValueError (mN:=mN) (T.hasType (by decide +kernel)) hni (bU I' hg O.bound ⟨rfl,hC,hN,T,λh' e hx=>?_⟩ hdb);obtain⟨t,ht,_,_⟩:=hx.there;obtain⟨oa,ws,c1,c2,c3⟩:=cn;have ne:ea≠e:=λz=>by
  rw[z,hx.new]at c1;cases c1
 refine j8 (s:={ s with heap:=h' }) rfl ne ⟨oa,ws,hx.keeps _ _ c1,c2,c3⟩ ht rfl (by simp) ?_;have keep:∀b o,s.heap.get? b=some o->(h'.update e (Obj.mapFields (·.setIfInBounds 2 (.ref ea)))).get? b=some o:=λb o z=>(Heap.get?_update_other _ _ (λy=>by rw[<- y,hx.new]at z;cases z)).trans (hx.keeps b o z);have st1:(dG (ak (CXE P w) P w K mg base N qual scope' f cdv A outer s₀ H₀ E) s.heap).StaysIn (h'.update e (Obj.mapFields (·.setIfInBounds 2 (.ref ea)))):=λb o z=>keep b o (W.of_hideAll _ z);have he:=Heap.get?_update_self (Obj.mapFields (·.setIfInBounds 2 (.ref ea))) ht rfl;refine dy (s:={ s with heap:=h'.update e (Obj.mapFields (·.setIfInBounds 2 (.ref ea))) }) (base:=dG (ak (CXE P w) P w K mg base N qual scope' f cdv A outer s₀ H₀ E) s.heap) (L:=s₀.heap.objs.size) I.ok.frames rfl st1 (iq hx.new) ((fI I).of_keeps λb o z _=>⟨o,keep b o z,rfl⟩) (.inl ⟨_,_,he,rfl,rfl,λ_ _=>rfl,rfl⟩) λh2 k1 k2 k3 k4=>?_
 obtain⟨ob,vs,T1,oT,ts,e1,e2,e3,e4,e5,e6⟩:=id k3;refine wpAny_bind (wpAny_field (s:={ s with heap:=h2 }) e1 e3 e5 ?_);rw[if_neg (by simp)];refine b9 (s:={ s with heap:=h2 }) k1 k2 k3 λh3 m1 m2 m3 m4=>?_;refine cD (s:={ s with heap:=h3 }) (L:=s₀.heap.objs.size) I.ok.frames rfl m1 (iq hx.new) m2 (.inr ⟨_,m3⟩) λh4 n1 n2 n3 n4=>?_;exact bN (s:=s) (h'':=h4) I hx.new n1 n2 n3 rfl ((Heap.UpToSlots.of_keeps keep).trans (k4.trans (Heap.UpToSlots.trans (λb o hb nf=>⟨o.slots,m4 b o hb nf⟩) n4))) q λz=>by cases z
theorem qt{pins:List (Addr×Obj)}{s':Shared}{ev:Value}{x y:Str}{C R:Addr}{np np2 cpos rpos pos:Pos}{Q:Flow->Shared->Prop}
  (ok:(ak (CXE P w) P w K mg base N qual scope' f cdv A outer s₀ H₀ E).Ok) (O:uG K mg x C) (OR:uG K mg y R) (hg:Gl (ak (CXE P w) P w K mg base N qual scope' f cdv A outer s₀ H₀ E) x) (hgR:Gl (ak (CXE P w) P w K mg base N qual scope' f cdv A outer s₀ H₀ E) y) (h:XPA (ak (CXE P w) P w K mg base N qual scope' f cdv A outer s₀ H₀ E) pins (λc o _ H'=>(c = .ref C/\o=none/\E (.ref R) (some 0) H')\/∃Z,c = .ref Z/\W.exmOne K (.ref Z) (.ref C)=some false/\E c o H') ev s')
  (hdb:(x == ("__debug__" : Str))=false:=by decide) (hdb2:(y == ("__debug__" : Str))=false:=by decide) :
  wpAny (model P w) (ak (CXE P w) P w K mg base N qual scope' f cdv A outer s₀ H₀ E).A (noteFrame ev (ak (CXE P w) P w K mg base N qual scope' f cdv A outer s₀ H₀ E).env) (λ_ s₂=>wpAny (model P w) (ak (CXE P w) P w K mg base N qual scope' f cdv A outer s₀ H₀ E).A (setFlight ev none) (λ_ s3 =>
   wpAny (model P w) (ak (CXE P w) P w K mg base N qual scope' f cdv A outer s₀ H₀ E).A (handleBy ev (ak (CXE P w) P w K mg base N qual scope' f cdv A outer s₀ H₀ E).env [.ExceptHandler (some (.Name x np)) none [.Raise (some (.Call (.Name y np2) [] [] cpos)) none rpos] pos]) Q (ak (CXE P w) P w K mg base N qual scope' f cdv A outer s₀ H₀ E).xe s3) (ak (CXE P w) P w K mg base N qual scope' f cdv A outer s₀ H₀ E).xe s₂) (ak (CXE P w) P w K mg base N qual scope' f cdv A outer s₀ H₀ E).xe s':=by
 obtain⟨ea,t,cls,mk,g,o,H',B,σ,rfl,Y,g0,g2,rd⟩:=h;refine dy (L:=s₀.heap.objs.size) ok.frames rfl Y.f1 Y.f2 Y.f3 (.inr ⟨_,Y.f4⟩) λh4 k1 k3 k4 up4=>?_;refine b9 (s:={ s' with heap:=h4 }) k1 k3 k4 λh5 st5 ff5 tr5 kp5=>?_;have up5:s'.heap.UpToSlots h5:=up4.trans λb o hb nf=>⟨o.slots,kp5 b o hb nf⟩;have J5:=Y.J h5 st5 up5;have I5:=J5.inH ea;obtain⟨oe,vs,T,oT,ts,he,hc,hd,hgs,h1,r⟩:=id tr5;rcases rd with⟨rfl,ho,rd⟩|⟨Z,rfl,hm,rd⟩
 ·obtain⟨bm,N',nm,qn,bs,hd,sn,sub,ab,col,dd,k0,k1,k2,k3,k5,mN,hC,hN,hni,T⟩:=O.obj h5 I5.kIn
  refine wpAny_handleBy_cons (codeAny_handlers_test (bU I5 hg O.bound ?_ hdb)) (by intro z;cases z);refine wpAny_excMatches_sub_self hC he hc (T.hasType (by decide +kernel)) (codeAny_handlers_suite ?_);refine b9 (s:={ s' with heap:=h5 }) st5 ff5 tr5 λh6 st6 ff6 tr6 kp6=>?_
  have I6:=Y.J h6 st6 (up5.trans λb o hb nf=>⟨o.slots,kp6 b o hb nf⟩);exact wpAny_execs_cons (i8 I6 OR hgR (tr6.cn (g2 ho)) rd hdb2)
 ·have LT:W.Looks (model P w) h5 (typeOf (.ref ea)) (.ref Z):=hc▸(W.Looks.ld he).andThen .now
  refine wpAny_handleBy_cons (codeAny_handlers_test (bU I5 hg O.bound ?_ hdb)) (by intro z;cases z);refine(W.exm_one I5.kIn LT hm).here ?_;refine wpAny_handleBy_nil (ie (s:={ s' with heap:=h5 }) st5 ff5 tr5 λh6 st6 ff6 tr6 kp6=>?_)
  refine cD (s:={ s' with heap:=h6 }) (L:=s₀.heap.objs.size) ok.frames rfl st6 Y.f2 ff6 (.inr ⟨_,tr6⟩) λh7 f7a f7b tr7 up7=>?_;refine⟨ea,t,_,H',B,rfl,Y.os,Y.bare,Un.flyF Y.un Y.big Y.f1 f7a λb hb=>⟨(Y.fr b hb).1,λo eo=>?_⟩,HOk.fly Y.hok Y.big Y.f1 f7a,⟨f7a,Y.f2,f7b,tr7.w g0⟩,Y.big,o,rd,λz=>tr7.cn (g2 z)⟩;have nf:=(Y.fr b hb).2 o eo;obtain⟨s1,e1⟩:=up5 b o eo nf;have e6:=kp6 b _ e1 nf;obtain⟨s2,e7⟩:=up7 b _ e6 nf;exact⟨s2,e7⟩
theorem ko{R:Value->Option Addr->St->Hp->Prop}{E1:XK}{pins:List (Addr×Obj)}{σ:St}{H:Hp}{s s':Shared}{ev:Value}{C:Addr}{m:Str->Option Value}{cenv:Env}(I:ur (ak (CXE P w) P w K mg base N qual scope' f cdv A outer s₀ H₀ E) pins σ H s)
  (h:CXE P w (ak (CXE P w) P w K mg base N qual scope' f cdv A outer s₀ H₀ E).stack H s E1 ev s') (hE:∀c o H',E1 c o H'->R c o σ H')
  (hcf:cenv.frame=(ak (CXE P w) P w K mg base N qual scope' f cdv A outer s₀ H₀ E).env.frame) (hns:s.heap.Ns C m) (hCn:H C=none) (hCs:C∉frs (ak (CXE P w) P w K mg base N qual scope' f cdv A outer s₀ H₀ E).stack) (hC:(C∈(ak (CXE P w) P w K mg base N qual scope' f cdv A outer s₀ H₀ E).ex\/(ak (CXE P w) P w K mg base N qual scope' f cdv A outer s₀ H₀ E).s₀.heap.objs.size<=C)/\C≠(ak (CXE P w) P w K mg base N qual scope' f cdv A outer s₀ H₀ E).env.locals/\(∀x c,(ak (CXE P w) P w K mg base N qual scope' f cdv A outer s₀ H₀ E).env.cells.lookup x=some c->c≠C)/\∀p∈(ak (CXE P w) P w K mg base N qual scope' f cdv A outer s₀ H₀ E).pn++pins,p.1≠C) :
  notedBy (model P w) (ak (CXE P w) P w K mg base N qual scope' f cdv A outer s₀ H₀ E).A cenv (lM (model P w) (ak (CXE P w) P w K mg base N qual scope' f cdv A outer s₀ H₀ E).A (XPA (ak (CXE P w) P w K mg base N qual scope' f cdv A outer s₀ H₀ E) pins R) C) ev s':=by
 obtain⟨ea,t,cls,H',B,rfl,os,bare,un,hok,fl,big,oq,q,cq⟩:=h;have ns1:s'.heap.Ns C m:=by
  obtain⟨o,es,ep,ho,hd,hr⟩:=hns;exact⟨o,es,ep,un.keep C o ho hCn hCs (by simp),hd,hr⟩
 have hC':H' C=none:=by
  obtain⟨o,es,ep,ho,hd,hr⟩:=hns;exact un.free C o ho hCn (by simp)
 unfold notedBy;have en:noteFrame (.ref ea) cenv=noteFrame (.ref ea) (ak (CXE P w) P w K mg base N qual scope' f cdv A outer s₀ H₀ E).env:=by
  unfold noteFrame PySem.frameOf;rw[hcf]
 rw[en];obtain⟨g,tg,g0,g2⟩:=Tr.of fl.2.2.2;refine dy (L:=s₀.heap.objs.size) I.ok.frames rfl fl.1 fl.2.1 fl.2.2.1 (.inr ⟨_,tg⟩) λh4 k1 k3 k4 up4=>?_;have ns4:h4.Ns C m:=ji ns1 up4;refine⟨m,ns4,λh5 sb cenv' _=>?_⟩;obtain⟨st5,ff5,tr5⟩:=gF ns4 sb k1 k3 k4 hCs;refine ie (s:={ s' with heap:=h5 }) st5 ff5 tr5 λh6 st6 ff6 tr6 kp6=>?_;have out:∀x o,s₀.heap.get? x=some o->x∈frs (ak (CXE P w) P w K mg base N qual scope' f cdv A outer s₀ H₀ E).stack->x∈frs outer:=λx o ex hm=>by
  rcases List.mem_cons.mp (I.stkSub x hm) with z|z
  ·exact absurd z (Nat.ne_of_lt (Nat.lt_of_lt_of_le (Heap.lt_size ex) I.ok.above))
  ·exact z
 have sub:∀x∈frs outer,x∈frs (ak (CXE P w) P w K mg base N qual scope' f cdv A outer s₀ H₀ E).stack:=λx hx=>by
  show x∈frs (_::outer);rw[fK (L:=s₀.heap.objs.size) rfl];exact List.mem_cons_of_mem _ hx
 have un1:Un (frs outer) [] H₀ H' s₀.heap s'.heap:=Un.shed I.base un sub out;have keepB:∀b ob,b≠C->B.get? b=some ob->∃ob,(W.hideAll B [C]).get? b=some ob:=λb ob nb eb=>⟨ob,W.hideAll_get _ eb (by simpa using nb)⟩;have hC0:s₀.heap.objs.size<=C:=by
  rcases hC.1 with z|z
  ·cases z
  ·exact z
 have big0:zT (W.hideAll B [C]) (frs outer) H' s₀.heap:=by
  refine⟨λb o eb=>?_,λb o eb hb=>?_⟩
  ·obtain⟨ob,z⟩:=big.tr b o eb
   refine keepB b ob (λe=>?_) z;subst e;rw[hC']at eb;cases eb
  ·obtain⟨ob,z⟩:=I.base.there b o eb (by intro z;cases z)
   obtain⟨ob2,z2⟩:=big.old b ob z λhm=>hb (out b o eb hm);exact keepB b ob2 (Nat.ne_of_lt (Nat.lt_of_lt_of_le (Heap.lt_size eb) hC0)) z2
 have st0:(W.hideAll B [C]).StaysIn s'.heap:=λb o eb=>fl.1 b o (bC eb).2;have nfo:∀b∈frs outer,∀o,s'.heap.get? b=some o->∀vs,o.data≠.fields vs:=λb hb o eo=>by
  obtain⟨_,o2,eo2,nf2⟩:=fl.2.2.1.mem (sub b hb);rw[eo]at eo2;cases eo2;exact nf2
 have to6:∀b∈frs outer,∀o,s'.heap.get? b=some o->∃sl,h6.get? b=some { o with slots:=sl }:=λb hb o eo=>by
  have nf:=nfo b hb o eo;obtain⟨s1,e1⟩:=up4 b o eo nf;have e5:h5.get? b=some { o with slots:=s1 }:=(sb.2 b (λz=>hCs (z▸sub b hb))).trans e1;exact⟨s1,kp6 b _ e5 nf⟩
 refine⟨ea,t,cls,_,g,oq,H',W.hideAll B [C],σ,rfl,⟨st6,b8 fl.2.1,ff6,tr6,λh2 st2 up2=>?_,HOk.fly hok big0 st0 st6,os.trans I.os,bare,Un.flyF un1 big0 st0 st6 λb hb=>⟨I.ok.frf b hb,to6 b hb⟩,big0,λb hb=>⟨I.ok.frf b hb,λo eo vs=>?_⟩⟩,g0,λz=>g2 (cq z),hE _ _ _ q⟩
 rotate_left
 ·obtain⟨s1,ho⟩:∃o2 s1,s'.heap.get? b=some o2/\o={ o2 with slots:=s1 }:=by
   obtain⟨_,o2,eo2,nf2⟩:=fl.2.2.1.mem (sub b hb);obtain⟨s1,e1⟩:=to6 b hb o2 eo2;have eo:h6.get? b=some o:=eo;rw[e1]at eo;cases eo;exact⟨o2,s1,eo2,rfl⟩
  obtain⟨s2,e2,rfl⟩:=ho;exact nfo b hb _ e2 vs
 have toB:∀b o,s.heap.get? b=some o->b∉frs (ak (CXE P w) P w K mg base N qual scope' f cdv A outer s₀ H₀ E).stack->b≠C->∃ob,B.get? b=some ob/\(W.hideAll B [C]).get? b=some ob:=λb o e hb nb=>by
  obtain⟨ob,eb⟩:=big.old b o e hb;exact⟨ob,eb,W.hideAll_get _ eb (by simpa using nb)⟩
 have nfS:∀b∈frs (ak (CXE P w) P w K mg base N qual scope' f cdv A outer s₀ H₀ E).stack,∀o,s'.heap.get? b=some o->∀vs,o.data≠.fields vs:=λb hb o eo=>by
  obtain⟨_,o',eo',nf⟩:=fl.2.2.1.mem hb;rw[eo]at eo';cases eo';exact nf
 have slots:∀b∈frs (ak (CXE P w) P w K mg base N qual scope' f cdv A outer s₀ H₀ E).stack,∀o,s'.heap.get? b=some o->∃sl,h2.get? b=some { o with slots:=sl }:=λb hb o eo=>by
  have nf:=nfS b hb o eo;obtain⟨s1,e1⟩:=up4 b o eo nf;have e5:h5.get? b=some { o with slots:=s1 }:=(sb.2 b (λz=>hCs (z▸hb))).trans e1;have e6:=kp6 b _ e5 nf;obtain⟨s2,e7⟩:=up2 b _ e6 nf;exact⟨s2,e7⟩
 have unC:Un (frs (ak (CXE P w) P w K mg base N qual scope' f cdv A outer s₀ H₀ E).stack) [C] H H' s.heap h2:=by
  refine⟨λb o e n hb hx=>?_,λb o e n hb hx=>?_,λb o e n _=>un.free b o e n (by simp),λb o e hx=>?_,un.tups,un.frzs,un.tbls⟩
  ·have e1:=un.keep b o e n hb (by simp)
   obtain⟨ob,eb,eb'⟩:=toB b o e hb (by simpa using hx);have e2:=fl.1 b ob eb;rw[e1]at e2;cases e2;exact st2 b _ eb'
  ·obtain⟨s1,e1⟩:=un.slot b o e n hb (by simp)
   obtain⟨s2,e2⟩:=slots b hb _ e1;exact⟨s2,e2⟩
  ·by_cases hb:b∈frs (ak (CXE P w) P w K mg base N qual scope' f cdv A outer s₀ H₀ E).stack
   ·obtain⟨s1,e1⟩:=un.slot b o e (I.stkFree b hb) hb (by simp)
    obtain⟨s2,e2⟩:=slots b hb _ e1;exact⟨_,e2⟩
   ·obtain⟨ob,_,eb'⟩:=toB b o e hb (by simpa using hx)
    exact⟨ob,st2 b ob eb'⟩
 have st1:(W.hideAll B [C]).StaysIn s'.heap:=λb o eb=>fl.1 b o (bC eb).2;have big1:zT (W.hideAll B [C]) (frs (ak (CXE P w) P w K mg base N qual scope' f cdv A outer s₀ H₀ E).stack) H' (W.hideAll s.heap [C]):=by
  refine⟨λb o eb=>?_,λb o eb hb=>?_⟩
  ·obtain⟨ob,z⟩:=big.tr b o eb
   exact⟨ob,W.hideAll_get _ z (by
    simp only[List.mem_singleton];intro e;subst e;rw[hC']at eb;cases eb)⟩
  ·obtain⟨ob,_,z⟩:=toB b o (bC eb).2 hb (bC eb).1
   exact⟨ob,z⟩
 exact I.call' (s':={ s' with heap:=h2 }) (ch:=[C]) os unC (HOk.fly hok big1 st1 st2) bare λb hb=>by
  rw[List.mem_singleton.mp hb];exact hC
end
section
variable {X:Cx} {scope:Scope} {cl:List (Str×Addr)} {xs:List Str} {fv:List (Str×Nat)} {elt iter tg:Expr} {ifs:List Expr} {pos:Pos} {te:TE} {tc:TT} {g:TG}
theorem mG{pins:List (Addr×Obj)}{σ:St}{H2:Hp}{s2:Shared}{it:Addr}{fp:List Addr}{tn:Nat->Heap->Prop}{J:It}{RR:Value->Addr->Result->Shared->Prop}{E:Value->Shared->Prop}{Qf:V->Hp->Prop}{Ex:XK}
  (hcalm:X.calm=true) (C:v0 X scope cl xs fv) (I2:ur X pins σ H2 s2) (T:xr X.prog X.w X.K tg J fp it tn) (st:tn 0 s2.heap) (f2:∀b∈fp,bI X pins H2 b)
  (rd:cu J xs.length fv g tc te σ H2 Qf)
  (hg:∀(s₀:Shared) (H₀:Hp),PG (X.blk (xs++fv.map (·.1)) scope cl fp s₀ H₀) tg g) (ht:∀(s₀:Shared) (H₀:Hp),PTs (X.blk (xs++fv.map (·.1)) scope cl fp s₀ H₀) ifs tc)
  (he:∀(s₀:Shared) (H₀:Hp),PE (X.blkX Ex (xs++fv.map (·.1)) scope cl fp s₀ H₀) elt te)
  (hRR:∀(p C:Addr) (H':Hp) (s':Shared),(∃m,s'.heap.Ns C m)->C≠X.env.locals->H' C=none->X.s₀.heap.objs.size<=C->(∀y c,X.env.cells.lookup y=some c->c≠C)->(∀q∈X.pn++pins,q.1≠C)->ur X pins σ H' s'->Qf (.ref p) H'->RR (.ref p) C (.ok .next) s')
  (hEE:∀(p C:Addr) (Hc:Hp) (sc s':Shared) (ev:Value) (E1:XK) (m:Str->Option Value) (cenv:Env),ur X pins σ Hc sc->CXE X.prog X.w X.stack Hc sc E1 ev s'->(∀c o H',E1 c o H'->Ex c o H')->cenv.frame=X.env.frame->sc.heap.Ns C m->Hc C=none->C∉frs X.stack->((C∈X.ex\/X.s₀.heap.objs.size<=C)/\C≠X.env.locals/\(∀x c,X.env.cells.lookup x=some c->c≠C)/\∀q∈X.pn++pins,q.1≠C)->notedBy (model X.prog X.w) X.A cenv (λe s''=>RR (.ref p) C (.error e) s'') ev s') :
  wpAny (model X.prog X.w) X.A (newList []) (λacc s₃=>wpAny (model X.prog X.w) X.A (newFunctionEnv scope X.env.globals cl [] X.env.qual none .none (some X.env)) (λcenv s₄ =>
   codeAny (model X.prog X.w) X.A (.compStart (.ListComp elt [⟨tg,iter,ifs,0⟩] scope pos) 0 (.ref it) acc { cenv with scope:=relabel scope X.env }) (RR acc cenv.locals) s₄) E s₃) E s2:=by
 refine wpAny_newObj_type ?_;have hfresh:=I2.fresh;have I3:ur X pins σ (upd H2 s2.heap.objs.size (.lst [])) { s2 with heap:=s2.heap.push { cls:=.type "list",data:=.seq ([]:List Value).toArray } } :=
  I2.laid (t':=s2.toks) (λb u q=>Heap.get?_push_of_some _ q) (Nat.le_refl _) ⟨Nat.zero_le _,[],0,.nil,Heap.get?_push_size _ rfl⟩
 generalize hs3:({ s2 with heap:=s2.heap.push { cls:=.type "list",data:=.seq ([]:List Value).toArray } }:Shared)=s3 at I3 ⊢;have hp3:s2.heap.objs.size<s3.heap.objs.size:=by rw[<- hs3];exact Nat.lt_of_lt_of_le (Nat.lt_succ_self _) (Nat.le_of_eq (Heap.size_push _ _).symm)
 have k23:∀b o,s2.heap.get? b=some o->s3.heap.get? b=some o:=λb o e=>by rw[<- hs3];exact Heap.get?_push_of_some _ e
 have fpo:∀b∈fp,b<s2.heap.objs.size:=λb hb=>by
  obtain⟨o,e,_⟩:=T.obj 0 _ st b hb;exact Heap.lt_size e
 have f3:∀b∈fp,bI X pins (upd H2 s2.heap.objs.size (.lst [])) b:=λb hb=>⟨by rw[aA (Nat.ne_of_lt (fpo b hb))];exact(f2 b hb).1,(f2 b hb).2⟩;refine wpAny_newFunctionEnv C.cell (by intro y hy;simp at hy) (λh1 hns1 hsb1=>?_) C.kind;have kp:∀b o,s3.heap.get? b=some o->h1.get? b=some o:=λb o e=>(hsb1.2 b (Nat.ne_of_lt (Heap.lt_size e))).trans (Heap.get?_push_of_some _ e);have I4:=jO (s4:={ s3 with heap:=h1,toks:=s3.toks+([]:List (Str×Value)).length }) C I3 f3 (λb hb=>Nat.lt_trans (fpo b hb) hp3) ⟨rfl,rfl⟩ hns1 kp;have st4:tn 0 h1:=T.keep 0 _ _ st λb _ o e=>kp b o (k23 b o e);obtain⟨W,⟨m0,w0⟩,step⟩:=rd _ hfresh;have loop:codeAny (model X.prog X.w) X.A (.compLoop (.ListComp elt [⟨tg,iter,ifs,0⟩] scope pos) 0 (.ref it) (.ref s2.heap.objs.size) (compEnvC scope cl s3.heap.objs.size X.env)) (RR (.ref s2.heap.objs.size) s3.heap.objs.size)
   { s3 with heap:=h1,toks:=s3.toks+([]:List (Str×Value)).length }:=by
  refine eW (λn s=>∃i acc τ H',τ.length=xs.length/\ur (X.blk (xs++fv.map (·.1)) scope cl fp s3 (upd H2 s2.heap.objs.size (.lst []))) [] (τ++fvs fv σ) H' s/\tn i s.heap/\(∀b∈fp,H' b=none)/\W i n acc H') ?_ m0 ⟨0,[],List.replicate xs.length none,_,List.length_replicate,I4,st4,λb hb=>(f3 b hb).1,w0⟩;rintro n s ⟨i,acc,τ,H',hτ,I',st',fr',w'⟩;obtain⟨hp,hlen,alt⟩:=step i n acc H' w';have fpk:∀{H5:Hp},(∀b∈fp,H5 b=none)->∀b∈fp,bI (X.blk (xs++fv.map (·.1)) scope cl fp s3 (upd H2 s2.heap.objs.size (.lst []))) [] H5 b:=λh5 b hb =>
   ⟨h5 b hb,(I'.ok.exf b hb).1,I'.ok.exfs b hb,.inl hb,λy c e=>(I'.ok.exf b hb).2 y c e,λq hq=>by simp at hq⟩
  rcases alt with⟨stop,qf⟩|⟨go,turn⟩
  ·refine wpAny_mono (T.done (X.blk (xs++fv.map (·.1)) scope cl fp s3 (upd H2 s2.heap.objs.size (.lst []))) rfl rfl rfl hcalm i [] s _ H' (λ_ _=>False) I' (fpk fr') st' stop) (λr s5 ⟨hr,I5⟩=>?_) λ_ _ z=>False.elim z
   subst hr;refine hRR _ _ H' s5 (let ⟨m,hn,_⟩:=I5.loc;⟨m,hn⟩) (Nat.ne_of_gt I3.lt) I5.free I3.sz (λy c e=>?_) (λq hq=>?_) ?_ qf
   ·obtain⟨v,z⟩:=I3.cell y c e
    exact Nat.ne_of_lt z.lt
   ·exact Nat.ne_of_lt (Heap.lt_size (I3.pin q hq).1)
   ·exact I3.call' (s':=s5) (ch:=fp) I5.os I5.base I5.hok I5.bare λb hb=>⟨(f2 b hb).2.2.2.1,(f2 b hb).2.1,(f2 b hb).2.2.2.2.1,(f2 b hb).2.2.2.2.2⟩
  ·refine wpAny_mono (T.item (X.blk (xs++fv.map (·.1)) scope cl fp s3 (upd H2 s2.heap.objs.size (.lst []))) rfl rfl rfl hcalm i [] s _ H' (λ_ _=>False) I' (fpk fr') st' go) (λr s5 ⟨u,hr,h5⟩=>?_) λ_ _ z=>False.elim z
   subst hr;refine wpAny_mono h5 (λ_ s6 ⟨y,H6,I6,r6,y6,st6,fr6⟩=>?_) λ_ _ z=>False.elim z;have I6':=I6.pinned (fpk fr6) (T.obj _ _ st6);have rt:=turn y _ y6 τ hτ;refine wpAny_mono (hg s3 _ _ s6 _ H6 y u _ I6' r6 rt) (λ_ s7 ⟨σ7,H7,I7,⟨τ',hτ',e7⟩,q7⟩=>?_) λ_ _ z=>False.elim z;subst e7;refine wpAny_mono (ht s3 _ _ s7 _ _ _ I7 q7) (λb s7b ⟨H7b,I7b,q7b⟩=>?_) λ_ _ z=>False.elim z;have kp6:∀{σ9:St} {H9:Hp} {s9:Shared},ur (X.blk (xs++fv.map (·.1)) scope cl fp s3 (upd H2 s2.heap.objs.size (.lst []))) ([]++d8 fp s6.heap) σ9 H9 s9->tn (i+1) s9.heap/\∀b∈fp,H9 b=none:=λ{σ9 H9 s9} I9=>by
    refine⟨T.keep _ _ _ st6 λb hb o e=>(I9.pin (b,o) (List.mem_append_right _ (List.mem_append_right _ (aX hb e)))).1,λb hb=>?_⟩;obtain⟨o,e,d⟩:=T.obj _ _ st6 b hb;exact(I9.pin (b,o) (List.mem_append_right _ (List.mem_append_right _ (aX hb e)))).2.1
   cases b with
   | false =>
    obtain⟨m',hm',w8⟩:=q7b;exact⟨m',hm',i+1,acc,τ',_,hτ',I7b.unpinned,(kp6 I7b).1,(kp6 I7b).2,w8⟩
   | true =>
    refine wpAny_mono (he s3 _ _ s7b _ _ _ (I7b.wish _) q7b) (λv8 s8 ⟨y8,H8,I8',r8,q8,m',hm',w8⟩=>?_) λev s8 z=>?_
    rotate_left
    ·obtain⟨sc,Hc,τ,pc,E1,Ic,cx,hE⟩:=z
     have J:ur X pins σ Hc sc:=I3.call' (s':=sc) (ch:=fp) Ic.os Ic.base Ic.hok Ic.bare λb hb=>⟨(f2 b hb).2.2.2.1,(f2 b hb).2.1,(f2 b hb).2.2.2.2.1,(f2 b hb).2.2.2.2.2⟩;obtain⟨mc,hmc,_⟩:=Ic.loc;refine hEE _ _ Hc sc s8 ev E1 mc _ J cx hE rfl hmc Ic.free (λhb=>?_) ⟨.inr I3.sz,Nat.ne_of_gt I3.lt,λy c e=>?_,λq hq=>?_⟩
     ·obtain⟨_,o,ho,_⟩:=I3.stack.mem hb
      exact absurd (Heap.lt_size ho) (Nat.lt_irrefl _)
     ·obtain⟨v,z⟩:=I3.cell y c e
      exact Nat.ne_of_lt z.lt
     ·exact Nat.ne_of_lt (Heap.lt_size (I3.pin q hq).1)
    have I8:=I8'.unwish;refine wpAny_mono (bJ (X:=X.blk (xs++fv.map (·.1)) scope cl fp s3 (upd H2 s2.heap.objs.size (.lst []))) _ s8 _ H8 (.ref s2.heap.objs.size) [y8] (.ref s2.heap.objs.size) [v8] (λ_ H9=>H9=upd H8 s2.heap.objs.size (.lst (acc++[y8]))) I8 rfl (.cons r8 .nil) ⟨_,acc,y8,rfl,rfl,q8,hlen,rfl⟩) (λ_ s9 ⟨_,H9,I9,_,e9⟩=>?_) λ_ _ z=>False.elim z;subst e9;exact⟨m',hm',i+1,acc++[y8],τ',_,hτ',I9.unpinned,(kp6 I9).1,(kp6 I9).2,w8⟩
 exact codeAny_compStart_list loop (T.self _ 0 _ _ _ st4 loop)
end
section
variable {P:Program} {w:World} {K:W.Frag} {mg:Str->Option Value} {base:Heap} {N:List Str} {qual:Str} {scope':Scope} {f:Addr} {cdv:Value} {A:Around} {outer:List Env} {s₀:Shared} {H₀:Hp} {E:XK}
theorem kf{scope:Scope}{cl:List (Str×Addr)}{xs:List Str}{fv:List (Str×Nat)}{elt iter tg:Expr}{ifs:List Expr}{pos:Pos}{tc:TT}{g:TG}{wi:TI}{n y:Str}{C0 R0:Addr}{np np2 cpos rpos2 hpos rpos tpos:Pos}{tx:XK->TE}(O:uG K mg n C0)(OR:uG K mg y R0)(hgl:Gl (ak (CXE P w) P w K mg base N qual scope' f cdv A outer s₀ H₀ E) n)(hgR:Gl (ak (CXE P w) P w K mg base N qual scope' f cdv A outer s₀ H₀ E) y)
  (C:v0 (ak (CXE P w) P w K mg base N qual scope' f cdv A outer s₀ H₀ E) scope cl xs fv) (hi:PI (ak (CXE P w) P w K mg base N qual scope' f cdv A outer s₀ H₀ E).nox tg iter wi) (hg:∀(fp:List Addr) (s₁:Shared) (H₁:Hp),PG ((ak (CXE P w) P w K mg base N qual scope' f cdv A outer s₀ H₀ E).blk (xs++fv.map (·.1)) scope cl fp s₁ H₁) tg g) (ht:∀(fp:List Addr) (s₁:Shared) (H₁:Hp),PTs ((ak (CXE P w) P w K mg base N qual scope' f cdv A outer s₀ H₀ E).blk (xs++fv.map (·.1)) scope cl fp s₁ H₁) ifs tc)
  (he:∀(Ex:XK) (fp:List Addr) (s₁:Shared) (H₁:Hp),PE ((ak (CXE P w) P w K mg base N qual scope' f cdv A outer s₀ H₀ E).blkX Ex (xs++fv.map (·.1)) scope cl fp s₁ H₁) elt (tx Ex))
  (hs:∀v,foldedSetIterable iter (ak (CXE P w) P w K mg base N qual scope' f cdv A outer s₀ H₀ E).env v=pure v:=by intro _;rfl) (hdb:(n == ("__debug__" : Str))=false:=by decide) (hdb2:(y == ("__debug__" : Str))=false:=by decide) :
  PS (ak (CXE P w) P w K mg base N qual scope' f cdv A outer s₀ H₀ E) (.Try [.Return (some (.ListComp elt [⟨tg,iter,ifs,0⟩] scope pos)) rpos] [.ExceptHandler (some (.Name n np)) none [.Raise (some (.Call (.Name y np2) [] [] cpos)) none rpos2] hpos] [] [] tpos)
   (λD σ H=>wi σ H λJ H1=>cu J xs.length fv g tc (tx λc o H'=>(c = .ref C0/\o=none/\E (.ref R0) (some 0) H')\/∃Z,c = .ref Z/\W.exmOne K (.ref Z) (.ref C0)=some false/\E c o H') σ H1 λv H2=>D.rt v H2):=by
 intro pins s σ H D I h;refine wpAny_Try_except (wpAny_mono (E:=XPA (ak (CXE P w) P w K mg base N qual scope' f cdv A outer s₀ H₀ E) pins λc o _ H'=>(c = .ref C0/\o=none/\E (.ref R0) (some 0) H')\/∃Z,c = .ref Z/\W.exmOne K (.ref Z) (.ref C0)=some false/\E c o H') (Q:=SP (ak (CXE P w) P w K mg base N qual scope' f cdv A outer s₀ H₀ E) pins D) ?_ (λf s1 q=>?_) λev s1 z=>qt I.ok O OR hgl hgR z hdb hdb2)
 ·refine wpAny_execs_cons (wpAny_Return_some (thn (Q:=EP (ak (CXE P w) P w K mg base N qual scope' f cdv A outer s₀ H₀ E) pins σ λv H2=>D.rt v H2) ?_ λv s1 ⟨x,H1,I1,r1,q1⟩=>⟨x,σ,H1,I1,r1,q1⟩))
  rw[eval_ListComp];refine wpAny_comprehension_free (use:=none) rfl hs C.clos C.kind C.names (wpAny_mono (hi pins s σ H _ (I.wish _) h) (λv s1 h1=>wpAny_mono h1 (λitv s2 h2=>?_) λ_ _ z=>False.elim z) λ_ _ z=>False.elim z);obtain⟨it,fp,tn,J,H2,rfl,J2,T,st2,f2,rd⟩:=h2;have I2:ur (ak (CXE P w) P w K mg base N qual scope' f cdv A outer s₀ H₀ E) pins σ H2 s2:=J2.unwish;refine mG (X:=(ak (CXE P w) P w K mg base N qual scope' f cdv A outer s₀ H₀ E)) (Ex:=λc o H'=>(c = .ref C0/\o=none/\E (.ref R0) (some 0) H')\/∃Z,c = .ref Z/\W.exmOne K (.ref Z) (.ref C0)=some false/\E c o H') (Qf:=λv H2=>D.rt v H2) rfl C I2 T st2 f2 rd (hg fp) (ht fp) (he _ fp) (λp D' H' s' ns nL nH n0 nC nP I8 q=>?_) λp D' Hc sc s' ev E1 m cenv Ic cx hE hcf hns hCn hCs hC=>ko Ic cx hE hcf hns hCn hCs hC;obtain⟨m,hn⟩:=ns;exact⟨m,hn,λh'' sb=>⟨.ref p,H',I8.turned (t':=s'.toks) (λb o hb e=>(sb.2 b hb).trans e) nH nL (.inr n0) nC nP,rfl,q⟩⟩
 ·cases f with
  | next=>exact wpAny_execs_nil q
  | ret v=>exact q
  | brk=>exact q
  | cont=>exact q
end
section
variable {prog:Program} {w:World} {A:Around} {E:Value->Shared->Prop} {s:Shared}
theorem kS{it t:Addr}{k:Nat}{us:Array Value}{Q:Value->Shared->Prop}(hit:s.heap.IsTupleIter it t k)(ht:s.heap.IsTuple t us)(R:wpAny (model prog w) A.in1 (Builtin.«tuple_iterator.__next__» ⟨[.ref it],[]⟩) (λfin s'=>∃v,fin = .done (.ret v)/\Q v s') E s) :
  wpAny (model prog w) A (Builtin.SmallTypes.nextOf (.ref it)) Q E s:=by
 unfold Builtin.SmallTypes.nextOf;exact wpAny_bind (wpAny_callSpecial?_slot (name:=Str.ofString "__next__") hit.typeIs F.slot_tuple_iterator_next
  (wpAny_call_entry F.slot_tuple_iterator_next hit.typeIs F.entry_tuple_iterator_next (wpAny_mono R (λfin s' ⟨v,e,q⟩=>⟨v,e,wpAny_pure q⟩) λ_ _ z=>z) (F.args_tuple_iterator_next_1 _)))
theorem qY(hh:A.handled=none)(it t:Addr)(hne:t≠it)(us:Array Value):Draws prog w A it [it,t] us.size (λi v=>us[i]? = some v) (λi h=>h.IsTupleIter it t i/\h.IsTuple t us) where
 live:=λ_ _ st=>let ⟨o,ho,_⟩:=st.1;⟨o,ho⟩
 frame:=λ_ _ _ st hk=>⟨st.1.at λo e=>hk it (by simp) o e,st.2.at λo e=>hk t (by simp) o e⟩
 item:=λi s Q E hi st hQ=>by
  refine kS st.1 st.2 ?_;obtain⟨oi,h1,h2,h3⟩:=id st.1;obtain⟨ot,g1,_,gn,g3⟩:=id st.2;show wpAny _ _ (field (.ref it) 0 >>= _) _ _ s;refine wpAny_bind (wpAny_field h1 h3 (x:=.ref t) rfl (wpAny_ite_false (by rfl) ?_));show wpAny _ _ (field (.ref it) 1 >>= _) _ _ s;refine wpAny_bind (wpAny_field h1 h3 (x:=.int i 0) rfl ?_);show wpAny _ _ (seqItems? (.ref t) >>= _) _ _ s;have e:us[((i:Nat):Int).toNat]? = some us[i]:=by simp[hi]
  refine wpAny_bind (wpAny_seqItems g1 g3 ?_);simp only[e];have s1:Heap.SameBut it s.heap (s.heap.update it (Obj.mapFields (·.setIfInBounds 1 (rawInt ((i:Int)+1))))):=Heap.SameBut.update ..;refine wpAny_bind (wpAny_setField h1 h3 (by simp) (wpAny_pure ⟨_,rfl,hQ us[i] _ s.toks (by simp[hi]) ⟨⟨_,Heap.get?_update_self _ h1 (Obj.isFreed_of_fields (Obj.data_mapFields h3 _)),(Obj.cls_mapFields ..).trans h2,?_⟩,st.2.extBut s1.extBut hne⟩ s1⟩));rw[Obj.data_mapFields h3];simp[rawInt]
 done:=λs Q E st hE=>by
  refine kS st.1 st.2 ?_;obtain⟨oi,h1,h2,h3⟩:=id st.1;obtain⟨ot,g1,_,gn,g3⟩:=id st.2;show wpAny _ _ (field (.ref it) 0 >>= _) _ _ s;refine wpAny_bind (wpAny_field h1 h3 (x:=.ref t) rfl (wpAny_ite_false (by rfl) ?_));show wpAny _ _ (field (.ref it) 1 >>= _) _ _ s;refine wpAny_bind (wpAny_field h1 h3 (x:=.int us.size 0) rfl ?_);show wpAny _ _ (seqItems? (.ref t) >>= _) _ _ s;have e:us[((us.size:Nat):Int).toNat]? = none:=by simp
  refine wpAny_bind (wpAny_seqItems g1 g3 ?_);simp only[e];refine wpAny_bind (wpAny_rule (wpAny_bind (wpAny_setField h1 h3 (by simp) ?_)));show wpAny _ _ (newExc (.type "StopIteration") [] >>= _) _ _ _;refine wpAny_bind ?_;simp only[newExc,newTuple];refine wpAny_bind (wpAny_newObj_type ?_ (by size_fits));refine wpAny_bind (m:=firstArgMember _ _) (wpAny_of_eq (a:=Value.none) (by first|rfl|(simp only[firstArgMember];rfl)) (wpAny_newObj_type ?_ (by size_fits)))
  simp only[raiseNew];refine wpAny_bind (wpAny_handled ?_)
  first|rw[show A.in1.handled=none from hh] | rw[hh]
  exact wpAny_bind (wpAny_pure (wpAny_throw (hE _ _ (((Heap.SameBut.update ..).extBut.push _).push _) ⟨_,Heap.get?_push_size _ rfl,rfl⟩)))
structure AH(z TI TO i1 i2:Addr)(fp1 fp2:List Addr):Prop where
 a1:TI≠z
 a2:TO≠z
 a3:TI≠TO
 b1:i1∈fp1
 b2:i2∈fp2
 c1:z∉fp1
 c2:z∉fp2
 c3:TO∉fp1
 c4:TO∉fp2
 c5:TI≠i1
 c6:TI≠i2
 d1:i1∉fp2
 d2:i2∉fp1
section
variable {z TI TO i1 i2:Addr} {fp1 fp2:List Addr} {n1 n2:Nat} {P1 P2:Nat->Value->Prop} {S1 S2:Nat->Heap->Prop} {k:Nat} {a b:Value}
theorem nmem{x y:Addr}{l:List Addr}(h:x∈l)(g:y∉l):x≠y:=λe=>g (e▸h)
theorem lO{Q:Value->Shared->Prop}(D1:Draws prog w A i1 fp1 n1 P1 S1)(D2:Draws prog w A i2 fp2 n2 P2 S2)(Z:AH z TI TO i1 i2 fp1 fp2)
  (hz:IsZip s.heap z TI TO .none) (hI:IsPair s.heap TI (.ref i1) (.ref i2)) (hO:IsPair s.heap TO a b) (s1:S1 k s.heap) (s2:S2 k s.heap) (l1:k<n1) (l2:k<n2)
  (hQ:∀x y h' tk,P1 k x->P2 k y->IsZip h' z TI TO (rawInt s.heap.objs.size)->IsPair h' TO x y->S1 (k+1) h'->S2 (k+1) h'->IsPair h' s.heap.objs.size x y->(∀c o,c∉[z,TO,i1,i2]->s.heap.get? c=some o->h'.get? c=some o)->Q (.ref s.heap.objs.size) { s with heap:=h',toks:=tk }) :
  wpAny (model prog w) A (Builtin.«zip.__next__» ⟨[.ref z],[]⟩) (λfin s'=>∃v,fin = .done (.ret v)/\Q v s') E s:=by
 show wpAny _ _ (field (.ref z) 2 >>= _) _ _ _;refine wpAny_bind (wpAny_field hz rfl (x:=.bool false) rfl ?_);show wpAny _ _ (field (.ref z) 3 >>= _) _ _ _;refine wpAny_bind (wpAny_field hz rfl (x:=.ref TI) rfl (wpAny_bind (wpAny_seqItems hI rfl ?_)));show wpAny _ _ (Builtin.SmallTypes.ownedTupleIsFree (.ref z) >>= _) _ _ _;refine wpAny_bind ?_;unfold Builtin.SmallTypes.ownedTupleIsFree;refine wpAny_bind (wpAny_field hz rfl (x:=.none) rfl (wpAny_pure ?_));simp only[if_true];refine wpAny_bind (wpAny_rule (wpAny_bind (wpAny_field hz rfl (x:=.ref TO) rfl (wpAny_bind (wpAny_setField_rec hz (by simp) λg1 z1 e1=>?_)))));have z1:IsZip g1 z TI TO .ellipsis:=z1;have x1:=e1.extBut;refine wpAny_bind ?_;simp only[List.zipIdx_cons,List.zipIdx_nil,List.forIn_cons,List.forIn_nil];refine wpAny_bind (wpAny_bind (wpAny_onRaise ?_));show wpAny _ _ (Builtin.SmallTypes.nextOf (.ref i1) >>= _) _ _ _;have t1:S1 k g1:=D1.frame _ _ _ s1 λc hc o e=>x1 c o (nmem hc Z.c1) e;have t2:S2 k g1:=D2.frame _ _ _ s2 λc hc o e=>x1 c o (nmem hc Z.c2) e;refine wpAny_bind (D1.item k _ _ _ l1 t1 λx g2 tk2 p1 u1 e2=>wpAny_pure ?_);have x2:=e2.extBut;have o2:IsPair g2 TO a b:=x2 _ _ (λe=>Z.c3 (e▸Z.b1)) (x1 _ _ Z.a2 hO);refine wpAny_bind (wpAny_seqItems o2 rfl (wpAny_bind (wpAny_updateSeq_pair o2 λg3 o3 e3=>?_)));have o3:IsPair g3 TO x b:=o3;have x3:=e3.extBut;refine wpAny_bind (wpAny_letGo (wpAny_pure (wpAny_bind (wpAny_bind (wpAny_onRaise ?_)))));show wpAny _ _ (Builtin.SmallTypes.nextOf (.ref i2) >>= _) _ _ _;have t3:S2 k g3:=D2.frame _ _ _ t2 λc hc o e=>x3 c o (nmem hc Z.c4) (x2 c o (nmem hc Z.d1) e);refine wpAny_bind (D2.item k _ _ _ l2 t3 λy g4 tk4 p2 u2 e4=>wpAny_pure ?_);have x4:=e4.extBut;have o4:IsPair g4 TO x b:=x4 _ _ (λe=>Z.c4 (e▸Z.b2)) o3;refine wpAny_bind (wpAny_seqItems o4 rfl (wpAny_bind (wpAny_updateSeq_pair o4 λg5 o5 e5=>?_)));have o5:IsPair g5 TO x y:=o5;have x5:=e5.extBut;refine wpAny_bind (wpAny_letGo (wpAny_pure (wpAny_pure (wpAny_bind (wpAny_seqItems o5 rfl (wpAny_bind (wpAny_newTuple ?_)))))));have hs:g5.objs.size=s.heap.objs.size:=by rw[e5.1,e4.1,e3.1,e2.1,e1.1]
 have ne:∀{c:Addr},c∉[z,TO,i1,i2]->c≠z/\c≠TO/\c≠i1/\c≠i2:=λh=>by simpa using h
 have kp:∀c o,c∉[z,TO,i1,i2]->s.heap.get? c=some o->g5.get? c=some o:=λc o hc e =>
  let ⟨c1,c2,c3,c4⟩:=ne hc
  x5 _ _ c2 (x4 _ _ c4 (x3 _ _ c2 (x2 _ _ c3 (x1 _ _ c1 e))))
 have i1z:z≠i1:=λe=>Z.c1 (e▸Z.b1);have i2z:z≠i2:=λe=>Z.c2 (e▸Z.b2);have z5:IsZip g5 z TI TO .ellipsis:=x5 _ _ Z.a2.symm (x4 _ _ i2z (x3 _ _ Z.a2.symm (x2 _ _ i1z z1)));have v1:S1 (k+1) g5:=D1.frame _ _ _ u1 λc hc o e=>x5 c o (nmem hc Z.c3) (x4 c o (nmem hc Z.d2) (x3 c o (nmem hc Z.c3) e));have v2:S2 (k+1) g5:=D2.frame _ _ _ u2 λc hc o e=>x5 c o (nmem hc Z.c4) e;have lz:z<g5.objs.size:=Heap.lt_size z5;show wpAny _ _ (Builtin.SmallTypes.ownedTupleHandOut (.ref z) (.ref g5.objs.size) >>= _) _ _ _;refine wpAny_bind ?_;unfold Builtin.SmallTypes.ownedTupleHandOut;have z6:IsZip (g5.push { cls:=.type "tuple",data:=.seq #[x,y] }) z TI TO .ellipsis:=Heap.get?_push_of_some _ z5;refine wpAny_bind (wpAny_setField_rec z6 (by simp) λg7 z7 e7=>?_);have z7:IsZip g7 z TI TO (rawInt g5.objs.size):=z7;refine wpAny_setField_rec z7 (by simp) λg8 z8 e8=>?_;have z8:IsZip g8 z TI TO (rawInt g5.objs.size):=z8;have up:∀c o,c≠z->g5.get? c=some o->g8.get? c=some o:=λc o hc e=>e8.extBut _ _ hc (e7.extBut _ _ hc (Heap.get?_push_of_some _ e));have tp:IsPair g8 g5.objs.size x y:=e8.extBut _ _ (Nat.ne_of_gt lz) (e7.extBut _ _ (Nat.ne_of_gt lz) (Heap.get?_push_size _ rfl));refine wpAny_pure ⟨_,rfl,?_⟩;show Q (.ref g5.objs.size) _;rw[hs]at z8 tp ⊢;exact hQ x y g8 _ p1 p2 z8 (up _ _ Z.a2 o5) (D1.frame _ _ _ v1 λc hc o e=>up c o (nmem hc Z.c1) e) (D2.frame _ _ _ v2 λc hc o e=>up c o (nmem hc Z.c2) e) tp λc o hc e=>up c o (ne hc).1 (kp c o hc e)
theorem lP{Q:Fin->Shared->Prop}(D1:Draws prog w A i1 fp1 n1 P1 S1)(D2:Draws prog w A i2 fp2 n2 P2 S2)(Z:AH z TI TO i1 i2 fp1 fp2)
  (hz:IsZip s.heap z TI TO .none) (hI:IsPair s.heap TI (.ref i1) (.ref i2)) (s1:S1 n1 s.heap)
  (hE:∀h' e tk,(∀c o,c∉[z,TO,i1,i2]->s.heap.get? c=some o->h'.get? c=some o)->(∃o,h'.get? e=some o/\o.cls = .type "StopIteration")->E (.ref e) { s with heap:=h',toks:=tk }) :
  wpAny (model prog w) A (Builtin.«zip.__next__» ⟨[.ref z],[]⟩) Q E s:=by
 show wpAny _ _ (field (.ref z) 2 >>= _) _ _ _;refine wpAny_bind (wpAny_field hz rfl (x:=.bool false) rfl ?_);show wpAny _ _ (field (.ref z) 3 >>= _) _ _ _;refine wpAny_bind (wpAny_field hz rfl (x:=.ref TI) rfl (wpAny_bind (wpAny_seqItems hI rfl ?_)));show wpAny _ _ (Builtin.SmallTypes.ownedTupleIsFree (.ref z) >>= _) _ _ _;refine wpAny_bind ?_;unfold Builtin.SmallTypes.ownedTupleIsFree;refine wpAny_bind (wpAny_field hz rfl (x:=.none) rfl (wpAny_pure ?_));simp only[if_true];refine wpAny_bind (wpAny_rule (wpAny_bind (wpAny_field hz rfl (x:=.ref TO) rfl (wpAny_bind (wpAny_setField_rec hz (by simp) λg1 z1 e1=>?_)))));have z1:IsZip g1 z TI TO .ellipsis:=z1;have x1:=e1.extBut;refine wpAny_bind ?_;simp only[List.zipIdx_cons,List.zipIdx_nil,List.forIn_cons,List.forIn_nil];refine wpAny_bind (wpAny_bind (wpAny_onRaise ?_));show wpAny _ _ (Builtin.SmallTypes.nextOf (.ref i1) >>= _) _ _ _;have t1:S1 n1 g1:=D1.frame _ _ _ s1 λc hc o e=>x1 c o (nmem hc Z.c1) e;refine wpAny_bind (D1.done _ _ _ t1 λg2 e x2 he=>?_);obtain⟨oe,ho,hc⟩:=he;have z2:IsZip g2 z TI TO .ellipsis:=x2 _ _ (λe=>Z.c1 (e▸Z.b1)) z1;have ez:e≠z:=λq=>by
  rw[q]at ho;have z2':g2.get? z=_:=z2;rw[z2']at ho;cases ho;simp at hc
 refine wpAny_setField_rec z2 (by simp) λg3 _ e3=>hE g3 e _ (λc o hc e=>?_) ⟨oe,e3.extBut _ _ ez ho,hc⟩;have:c≠z/\c≠TO/\c≠i1/\c≠i2:=by simpa using hc
 exact e3.extBut _ _ this.1 (x2 _ _ this.2.2.1 (x1 _ _ this.1 e))
theorem mM(hh:A.handled=none)(D1:∀B:Around,B.handled=none->Draws prog w B i1 fp1 n1 P1 S1)(D2:∀B:Around,B.handled=none->Draws prog w B i2 fp2 n2 P2 S2)(Z:AH z TI TO i1 i2 fp1 fp2)(t1:TI∉fp1)(t2:TI∉fp2)(hn:n1<=n2) :
  WalksT prog w A z ([z,TI,TO]++(fp1++fp2)) [z,TO,i1,i2] n1 (λi vals=>∃x y,P1 i x/\P2 i y/\vals = #[x,y])
   (λi h=>IsZip h z TI TO .none/\IsPair h TI (.ref i1) (.ref i2)/\(∃a b,IsPair h TO a b)/\S1 i h/\S2 i h)
   (λi T h=>IsZip h z TI TO (rawInt T)/\IsPair h TI (.ref i1) (.ref i2)/\(∃a b,IsPair h TO a b)/\S1 (i+1) h/\S2 (i+1) h/\T∉[z,TO,i1,i2]) where
 sub:=λc hc=>by
  have b1:=Z.b1;have b2:=Z.b2;simp only[List.mem_cons,List.not_mem_nil,or_false]at hc;simp only[List.mem_append,List.mem_cons,List.not_mem_nil,or_false];rcases hc with rfl|rfl|rfl|rfl
  ·exact .inl (.inl rfl)
  ·exact .inl (.inr (.inr rfl))
  ·exact .inr (.inl b1)
  ·exact .inr (.inr b2)
 frame:=λi h h' ⟨hz,hI,⟨a,b,hO⟩,s1,s2⟩ hk =>
  ⟨hk z (by simp) _ hz,hk TI (by simp) _ hI,⟨a,b,hk TO (by simp) _ hO⟩,(D1 A hh).frame _ _ _ s1 λb hb o e=>hk b (by simp[hb]) o e,(D2 A hh).frame _ _ _ s2 λb hb o e=>hk b (by simp[hb]) o e⟩
 item:=λi s Q E hi ⟨hz,hI,⟨a,b,hO⟩,s1,s2⟩ hQ=>by
  have hT:s.TypeIs (.ref z) "zip":=⟨_,hz,rfl⟩;unfold pyNext;refine wpAny_bind (wpAny_attempt (wpAny_callSpecial?_slot (name:=Str.ofString "__next__") hT F.slot_zip_next
   (wpAny_call_entry F.slot_zip_next hT F.entry_zip_next (lO (D1 _ hh) (D2 _ hh) Z hz hI hO s1 s2 hi (Nat.lt_of_lt_of_le hi hn) λx y h' tk p1 p2 z1 o1 u1 u2 tp kp=>wpAny_pure ?_) (F.args_zip_next_1 _))))
  have nt:s.heap.objs.size∉[z,TO,i1,i2]:=λhm=>by
   have lt:∀{c o},s.heap.get? c=some o->s.heap.objs.size≠c:=λe=>Nat.ne_of_gt (Heap.lt_size e);obtain⟨o1',e1⟩:=(D1 A hh).live _ _ s1;obtain⟨o2',e2⟩:=(D2 A hh).live _ _ s2;simp only[List.mem_cons,List.not_mem_nil,or_false]at hm;rcases hm with h|h|h|h
   ·exact lt hz h
   ·exact lt hO h
   ·exact lt e1 h
   ·exact lt e2 h
  have nI:TI∉[z,TO,i1,i2]:=by
   simp only[List.mem_cons,List.not_mem_nil,or_false];rintro(h|h|h|h)
   ·exact Z.a1 h
   ·exact Z.a3 h
   ·exact Z.c5 h
   ·exact Z.c6 h
  exact hQ _ _ h' tk ⟨x,y,p1,p2,rfl⟩ (Nat.le_refl _) ⟨_,tp,rfl,_,rfl⟩ ⟨z1,kp _ _ nI hI,⟨x,y,o1⟩,u1,u2,nt⟩ kp
 go:=λelts k pos i T s Q E ⟨hz,hI,⟨a,b,hO⟩,s1,s2,_⟩ hQ=>by
  refine wpAny_letOwnedTupleGo_zip hz λh' hz' hs'=>?_;have x:=hs'.extBut;exact hQ h' ⟨hz',x _ _ Z.a1 hI,⟨a,b,x _ _ Z.a2 hO⟩,(D1 A hh).frame _ _ _ s1 λc hc o e=>x c o (nmem hc Z.c1) e,(D2 A hh).frame _ _ _ s2 λc hc o e=>x c o (nmem hc Z.c2) e⟩ λc o hc e=>x c o (λq=>hc (by simp[q])) e
 apart:=λi T h ⟨_,_,_,_,_,hT⟩=>hT
 done:=λs Q E ⟨hz,hI,⟨a,b,hO⟩,s1,s2⟩ hQ=>by
  have hT:s.TypeIs (.ref z) "zip":=⟨_,hz,rfl⟩;unfold pyNext;refine wpAny_bind (wpAny_attempt (wpAny_callSpecial?_slot (name:=Str.ofString "__next__") hT F.slot_zip_next
   (wpAny_call_entry F.slot_zip_next hT F.entry_zip_next (lP (D1 _ hh) (D2 _ hh) Z hz hI s1 λh' e tk kp he=>?_) (F.args_zip_next_1 _))))
  obtain⟨o,ho,hc⟩:=he;exact wpAny_bind (wpAny_isInstance (T:="StopIteration") (b:=true) ⟨o,ho,hc⟩ isSubtype_stop (wpAny_pure (hQ h' tk kp)))
 self:=λi s Q E st hQ=>wpAny_pyIter_zip st.1 hQ
end
noncomputable def zHa(h:Heap)(t:Addr):Heap:=h.push { cls:=.type "tuple_iterator",data:=.fields #[.ref t,.int 0 0] }
noncomputable def zHb(h:Heap)(t l:Addr):Heap:=(zHa h t).push { cls:=.type "list_iterator",data:=.fields #[.ref l,.int 0 0] }
noncomputable def zHc(h:Heap)(t l:Addr):Heap:=(zHb h t l).push { cls:=.type "tuple",data:=.seq #[.ref h.objs.size,.ref (zHa h t).objs.size] }
noncomputable def zHd(h:Heap)(t l:Addr):Heap:=(zHc h t l).push { cls:=.type "tuple",data:=.seq #[.none,.none] }
noncomputable def zHe(h:Heap)(t l:Addr):Heap:=(zHd h t l).push { cls:=.type "zip",data:=.fields #[.none,.bool false,.bool false,.ref (zHb h t l).objs.size,.ref (zHc h t l).objs.size] }
theorem mL(t l:Addr)(us vs:Array Value):Meets (Builtin.«zip.__new__» ⟨[.type "zip",.ref t,.ref l],[]⟩) (λ_ R s=>s.heap.IsTuple t us/\s.heap.IsList l vs/\R (.ok (.ret (.ref (zHd s.heap t l).objs.size))) { s with heap:=zHe s.heap t l }) :=
 .of_wp λprog w A R s h=>by
  obtain⟨hp,g,d,tk,os⟩:=s;obtain⟨h1,h2,h⟩:=h;have hsub:=sub_zip;have hT:Heap.IsTuple (Shared.heap ⟨hp,g,d,tk,os⟩) t us:=h1;have hL:Heap.IsList (Shared.heap ⟨hp.push { cls:=.type "tuple_iterator",data:=.fields #[.ref t,.int 0 0] },g,d,tk,os⟩) l vs:=Heap.IsList.push h2 _
  wp_walk using wpAny_pyIter_tuple hT,wpAny_pyIter_list hL
  exact⟨_,rfl,h⟩
theorem lN{t l:Addr}{us vs:Array Value}{Q:Value->Shared->Prop}(h1:s.heap.IsTuple t us)(h2:s.heap.IsList l vs)
  (h:∀h',IsZip h' (s.heap.objs.size+4) (s.heap.objs.size+2) (s.heap.objs.size+3) .none->IsPair h' (s.heap.objs.size+2) (.ref s.heap.objs.size) (.ref (s.heap.objs.size+1))->IsPair h' (s.heap.objs.size+3) .none .none ->
   h'.IsTupleIter s.heap.objs.size t 0->h'.IsListIter (s.heap.objs.size+1) l 0->(∀c o,s.heap.get? c=some o->h'.get? c=some o)->Q (.ref (s.heap.objs.size+4)) { s with heap:=h' }) :
  wpAny (model prog w) A (call (.type "zip") [.ref t,.ref l]) Q E s:=by
 refine callType_new F.called_zip (by decide) (F.typeCall_zip_2 _ _) (F.newCall_zip_2 _ _) (λobj=>F.args_object_init_3 obj _ _) F.entry_zip_new (mL t l us vs) ⟨h1,h2,?_⟩;have za:(zHa s.heap t).objs.size=s.heap.objs.size+1:=Heap.size_push ..;have zb:(zHb s.heap t l).objs.size=s.heap.objs.size+2:=(Heap.size_push ..).trans (by rw[za]);have zc:(zHc s.heap t l).objs.size=s.heap.objs.size+3:=(Heap.size_push ..).trans (by rw[zb]);have zd:(zHd s.heap t l).objs.size=s.heap.objs.size+4:=(Heap.size_push ..).trans (by rw[zc]);have ud:∀{c:Addr} {x:Obj},(zHd s.heap t l).get? c=some x->(zHe s.heap t l).get? c=some x:=λe=>Heap.get?_push_of_some _ e;have uc:∀{c:Addr} {x:Obj},(zHc s.heap t l).get? c=some x->(zHe s.heap t l).get? c=some x:=λe=>ud (Heap.get?_push_of_some _ e);have ub:∀{c:Addr} {x:Obj},(zHb s.heap t l).get? c=some x->(zHe s.heap t l).get? c=some x:=λe=>uc (Heap.get?_push_of_some _ e);have ua:∀{c:Addr} {x:Obj},(zHa s.heap t).get? c=some x->(zHe s.heap t l).get? c=some x:=λe=>ub (Heap.get?_push_of_some _ e);have e5:(zHe s.heap t l).get? (zHd s.heap t l).objs.size=some _:=Heap.get?_push_size _ rfl;have e4:(zHe s.heap t l).get? (zHc s.heap t l).objs.size=some _:=ud (Heap.get?_push_size _ rfl);have e3:(zHe s.heap t l).get? (zHb s.heap t l).objs.size=some _:=uc (Heap.get?_push_size _ rfl);have e2:(zHe s.heap t l).get? (zHa s.heap t).objs.size=some _:=ub (Heap.get?_push_size _ rfl);have e1:(zHe s.heap t l).get? s.heap.objs.size=some _:=ua (Heap.get?_push_size _ rfl);rw[zd]at e5 ⊢;rw[zb,zc]at e5;rw[zc]at e4;rw[zb]at e3;rw[za]at e3 e2;exact⟨⟨_,e5,rfl⟩,h _ e5 e3 e4 ⟨_,e1,rfl,rfl⟩ ⟨_,e2,rfl,rfl⟩ λc o e=>ua (Heap.get?_push_of_some _ e)⟩
end
noncomputable def Izt(K:W.Frag)(t l:Addr):It :=
  ⟨λi H=>∃xs ys x y,SqT K H t xs/\SqL K H l ys/\xs.length<=ys.length/\xs[i]? = some x/\ys[i]? = some y,
   λi H v H'=>∃p x y,v = .ref p/\H p=none/\H'=upd H p (.tup [x,y])/\∀xs ys,SqT K H t xs->SqL K H l ys->xs[i]? = some x/\ys[i]? = some y,
   λi H=>∃xs ys,SqT K H t xs/\SqL K H l ys/\xs.length<=ys.length/\i=xs.length⟩
theorem fZ{x a b:Nat}(h1:x≠a)(h2:x≠b):x∉[a,b]:=by
 simp only[List.mem_cons,List.not_mem_nil,or_false];exact λh=>h.elim h1 h2
theorem kQ{n t l:Nat}(h1:t<n)(h2:l<n):AH (n+4) (n+2) (n+3) n (n+1) [n,t] [n+1,l] where
 a1:=by show n+2≠n+4;omega
 a2:=by show n+3≠n+4;omega
 a3:=by show n+2≠n+3;omega
 b1:=List.mem_cons_self
 b2:=List.mem_cons_self
 c1:=fZ (by omega) (by omega)
 c2:=fZ (by omega) (by omega)
 c3:=fZ (by omega) (by omega)
 c4:=fZ (by omega) (by omega)
 c5:=by show n+2≠n;omega
 c6:=by show n+2≠n+1;omega
 d1:=fZ (by omega) (by omega)
 d2:=fZ (by omega) (by omega)
noncomputable def ztn(z TI TO i1 i2 t l:Addr)(i:Nat)(h:Heap):Prop:=IsZip h z TI TO .none/\IsPair h TI (.ref i1) (.ref i2)/\(∃a b,IsPair h TO a b)/\h.IsTupleIter i1 t i/\h.IsListIter i2 l i
section
variable {P:Program} {w:World} {K:W.Frag} {elts:List Expr} {kt:Nat} {pos:Pos}
theorem pB{n t l:Nat}(ht:t<n)(hl:l<n):xr P w K (.Tuple elts kt pos) (Izt K t l) [n+4,n+2,n+3,n,n+1] (n+4) (ztn (n+4) (n+2) (n+3) n (n+1) t l) where
 mem:=List.mem_cons_self
 obj:=λi h st b hb=>by
  obtain⟨hz,hI,⟨a,c,hO⟩,⟨o1,e1,c1,d1⟩,⟨o2,e2,c2,d2⟩⟩:=st;simp only[List.mem_cons,List.not_mem_nil,or_false]at hb;rcases hb with rfl|rfl|rfl|rfl|rfl
  ·exact⟨_,hz,λv y=>by cases y⟩
  ·exact⟨_,hI,λv y=>by cases y⟩
  ·exact⟨_,hO,λv y=>by cases y⟩
  ·exact⟨o1,e1,λv y=>by rw[d1]at y;cases y⟩
  ·exact⟨o2,e2,λv y=>by rw[d2]at y;cases y⟩
 keep:=λi h h' st k=>by
  obtain⟨hz,hI,⟨a,c,hO⟩,h1,h2⟩:=st;exact⟨k _ (by simp) _ hz,k _ (by simp) _ hI,⟨a,c,k _ (by simp) _ hO⟩,h1.at λo e=>k _ (by simp) o e,h2.at λo e=>k _ (by simp) o e⟩
 item:=by
  intro X hP hw hK hc i pins s σ H E I hf st hg;subst hP hw hK;obtain⟨xs,ys,x,y,q1,q2,len,hx,hy⟩:=hg;obtain⟨its,r1,p1,_⟩:=I.tuple q1;obtain⟨jts,r2,p2,_⟩:=I.list q2;obtain⟨u1,hu1,ru1⟩:=r1.get hx;obtain⟨u2,hu2,ru2⟩:=r2.get hy;have hle:its.toArray.size<=jts.toArray.size:=by
   rw[List.size_toArray,List.size_toArray,<- r1.length,<- r2.length];exact len
  have W:=mM (prog:=X.prog) (w:=X.w) (A:=X.A) (I.ok.hd hc) (λB hB=>qY hB n t (Nat.ne_of_lt ht) its.toArray) (λB hB=>Draws.list hB (n+1) l (Nat.ne_of_lt (Nat.lt_succ_of_lt hl)) jts.toArray) (kQ ht hl) (fZ (by omega) (by omega)) (fZ (by omega) (by omega)) hle;have hn:i<its.toArray.size:=by
   have g1:=(List.getElem?_eq_some_iff.mp hu1).1;simpa using g1
  obtain⟨hz,hI,hO,h1,h2⟩:=st;refine lS W I (λb hb=>hf b (by simp at hb ⊢;rcases hb with h|h|h|h <;> simp[h])) hn ⟨hz,hI,hO,⟨h1,p1⟩,⟨h2,p2.isList⟩⟩ λT vals s2 hp hT tup st2 J2 kall=>?_;obtain⟨v1,v2,e1,e2,rfl⟩:=hp;have e1':its[i]? = some v1:=by simpa using e1
  have e2':jts[i]? = some v2:=by simpa using e2
  rw[hu1]at e1';rw[hu2]at e2';cases e1';cases e2';obtain⟨J3,nT⟩:=lT (xs:=[x,y]) (us:=[u1,u2]) I J2 hT tup (.cons ru1 (.cons ru2 .nil)) (Sp1.sz (by simp));obtain⟨hz2,hI2,hO2,⟨h12,_⟩,⟨h22,_⟩⟩:=st2;refine⟨.ref T,upd H T (.tup [x,y]),J3,rfl,⟨T,x,y,rfl,nT,rfl,λas bs qa qb=>?_⟩,⟨hz2,hI2,hO2,h12,h22⟩,λb hb=>?_⟩
  ·rw[I.tuple_inj qa q1,I.list_inj qb q2]
   exact⟨hx,hy⟩
  ·have hb':∃o,s.heap.get? b=some o:=by
    obtain⟨a,c,hO⟩:=hO;obtain⟨o1,e1,_⟩:=h1;obtain⟨o2,e2,_⟩:=h2;simp only[List.mem_cons,List.not_mem_nil,or_false]at hb;rcases hb with rfl|rfl|rfl|rfl|rfl
    ·exact⟨_,hz⟩
    ·exact⟨_,hI⟩
    ·exact⟨_,hO⟩
    ·exact⟨_,e1⟩
    ·exact⟨_,e2⟩
   obtain⟨o,eo⟩:=hb';rw[aA (Nat.ne_of_lt (Nat.lt_of_lt_of_le (Heap.lt_size eo) hT))];exact(hf b hb).1
 done:=by
  intro X hP hw hK hc i pins s σ H E I hf st hg;subst hP hw hK;obtain⟨xs,ys,q1,q2,len,rfl⟩:=hg;obtain⟨its,r1,p1,_⟩:=I.tuple q1;obtain⟨jts,r2,p2,_⟩:=I.list q2;have hle:its.toArray.size<=jts.toArray.size:=by
   rw[List.size_toArray,List.size_toArray,<- r1.length,<- r2.length];exact len
  have W:=mM (prog:=X.prog) (w:=X.w) (A:=X.A) (I.ok.hd hc) (λB hB=>qY hB n t (Nat.ne_of_lt ht) its.toArray) (λB hB=>Draws.list hB (n+1) l (Nat.ne_of_lt (Nat.lt_succ_of_lt hl)) jts.toArray) (kQ ht hl) (fZ (by omega) (by omega)) (fZ (by omega) (by omega)) hle;have el:its.toArray.size=xs.length:=by rw[List.size_toArray,r1.length]
  obtain⟨hz,hI,hO,h1,h2⟩:=st;refine W.done s _ E ?_ λh' tk kk=>⟨rfl,I.turnedL (t':=tk) kk λb hb=>hf b (by simp at hb ⊢;rcases hb with h|h|h|h <;> simp[h])⟩;rw[el];exact⟨hz,hI,hO,⟨h1,p1⟩,⟨h2,p2.isList⟩⟩
 self:=λ_ _ _ _ _ st h=>wpAny_pyIter_zip st.1 h
end
section
variable {X:Cx} {elts:List Expr} {kt:Nat} {tpos:Pos}
inductive Af (K:W.Frag) (R:It->Hp->Prop) (vs:List V) (H:Hp):Prop
 | mk (a b:Addr) (ev:vs = [.ref a,.ref b]) (xs ys:List V) (h1:SqT K H a xs) (h2:SqL K H b ys) (q:R (Izt K a b) H):Af K R vs H
noncomputable def sL(K:W.Frag)(ta:TA):TI:=λσ H R=>ta σ H λvs H1=>Af K R vs H1
theorem pM{a b:Expr}{ta:TA}{p pos:Pos}(hg:Gl X "zip")(hm:X.mg "zip" = none)(ha:PA X [a,b] ta)(hs:starEach [a,b] X.env = [(false,eval a X.env),(false,eval b X.env)]:=by rfl)(hs2:starEach [b] X.env = [(false,eval b X.env)]:=by rfl) :
  PI X (.Tuple elts kt tpos) (.Call (.Name "zip" p) [a,b] [] pos) (sL X.K ta):=by
 intro pins s σ H R I h;refine Call_ (fE I hg hm se (PyProof.Rows.callWith_type1 (thn (ha pos pins s σ H _ I h) λus s1 ⟨vs,H1,I1,r1,q1⟩=>?_) (by rw[hs,hs2]) (by rw[hs2];rfl)));obtain⟨t,l,e,xs,ys,hx,hy,q⟩:=q1;subst e;cases r1 with
 | cons r rr =>
  cases rr with
  | cons r' rr =>
   cases rr;cases r;cases r';obtain⟨its,_,p1,_⟩:=I1.tuple hx;obtain⟨jts,_,p2,_⟩:=I1.list hy;refine lN p1 p2.isList λh' hz hI hO hi1 hi2 hk=>?_;refine wpAny_pyIter_zip hz ?_;have a1:t<s1.heap.objs.size:=by obtain⟨_,e,_⟩:=p1;exact Heap.lt_size e
   have a2:l<s1.heap.objs.size:=by obtain⟨_,e,_⟩:=p2.isList;exact Heap.lt_size e
   refine⟨s1.heap.objs.size+4,[s1.heap.objs.size+4,s1.heap.objs.size+2,s1.heap.objs.size+3,s1.heap.objs.size,s1.heap.objs.size+1],_,_,H1,rfl,I1.kept (t':=s1.toks) hk,pB a1 a2,⟨hz,hI,⟨_,_,hO⟩,hi1,hi2⟩,λb hb=>?_,q⟩;have hb':s1.heap.objs.size<=b:=by
    simp only[List.mem_cons,List.not_mem_nil,or_false]at hb;rcases hb with rfl|rfl|rfl|rfl|rfl <;> omega
   exact I1.fpOk hb' (I1.hok.fresh hb')
end
theorem fb{K:W.Frag}{H H':Hp}{a:Addr}{xs:List V}(h:SqT K H a xs)(s:Same H H'):SqT K H' a xs:=by
 rcases h with(h|⟨o,h⟩)|h
 ·exact .inl (.inl (s _ _ h))
 ·exact .inl (.inr ⟨o,s _ _ h⟩)
 ·exact .inr h
theorem mD{K:W.Frag}{a b:Addr}{xs ys:List V}{fv:List (Str×Nat)}{te:TE}{σ:St}{H1:Hp}{Q:VK}{g:TG}{k:Nat}(q1:SqT K H1 a xs)(q2:SqL K H1 b ys)(hle:xs.length<=ys.length)(hlen:xs.length<1000)(R:Nat->V->Hp->Prop)(hR:∀i v H H',SameT H H'->R i v H->R i v H')
  (hs:∀i x y p H2 (τ:St) (Kc:VK),xs[i]? = some x->ys[i]? = some y->Same H1 H2->H2 p=some (.tup [x,y])->τ.length=k->(∀y H4,Same H2 H4->R i y H4->Kc y H4)->g (.ref p) (τ++fvs fv σ) H2 λσ2 H4=>(∃τ':St,τ'.length=k/\σ2=τ'++fvs fv σ)/\te σ2 H4 Kc)
  (hd:∀l zs H',H1 l=none->Same H1 H'->H' l=some (.lst zs)->zs.length=xs.length->(∀i y,zs[i]? = some y->R i y H')->Q (.ref l) H') :
  cu (Izt K a b) k fv g rg te σ H1 Q:=by
 refine qp (n:=xs.length) hlen R hR (λH2 s2=>⟨xs,ys,fb q1 s2,s2.seq q2,hle,rfl⟩) (λi H2 hi s2=>⟨xs,ys,xs[i],ys[i],fb q1 s2,s2.seq q2,hle,by simp[hi],by simp[show i<ys.length by omega]⟩) ?_ hd;intro i x H2 H3 τ Kc hi s2 y hτ kk;obtain⟨p,u,v,rfl,np,rfl,e⟩:=y;obtain⟨e1,e2⟩:=e xs ys (fb q1 s2) (s2.seq q2);have s3:Same H2 (upd H2 p (.tup [u,v])):=Same.new np;exact hs i u v p _ τ Kc e1 e2 (s2.trans s3) upd_same hτ λy H4 s4 r=>kk y H4 (s3.trans s4) r
end L2
local macro_rules | `(tactic| omega)=>`(tactic| lia)
local macro_rules | `(tactic| walk_at "bt")=>`(tactic| first
 | assumption
 | (apply L2.bits_mul <;> walk_at "bt")
 | (apply L2.bits_add2 <;> walk_at "bt")
 | (apply L2.bits_sub2 <;> walk_at "bt")
 | (apply L2.bits_neg;walk_at "bt")
 | (apply L2.bits_abs;walk_at "bt")
 | exact L2.bits_lit)
local macro_rules | `(tactic| walk_at "bl")=>`(tactic| (apply L2.bits_of_le;(walk_at "bt");decide))
local macro_rules | `(tactic| walk_at "cm")=>`(tactic| first
 | exact L2.CM.l ⟨by decide,by decide⟩
 | exact L2.CM.r ⟨by decide,by decide⟩
 | (apply L2.CM.of;(walk_at "bt");(walk_at "bt");decide))
local macro_rules | `(tactic| walk_at "at")=>`(tactic| first
 | assumption
 | exact L2.upd_same
 | (refine L2.Same.at (by assumption) ?_;walk_at "at")
 | (refine L2.SameT.at (by assumption) ?_;walk_at "at"))
local macro_rules | `(tactic| walk_at "sm")=>`(tactic| first
 | assumption
 | exact L2.Same.rfl'
 | (refine L2.Same.trans ?_ (by assumption);walk_at "sm"))
local macro_rules | `(tactic| walk_at "kn")=>`(tactic| first
 | assumption
 | exact⟨_,.int _⟩|exact⟨_,.bl _⟩|exact⟨_,.str _⟩|exact⟨_,.non⟩
 | exact⟨_,.tup (by walk_at "at")⟩|exact⟨_,.lst (by walk_at "at")⟩|exact⟨_,.dict (by walk_at "at")⟩)
local macro_rules | `(tactic| walk_at "nice")=>`(tactic| first
 | exact L2.nice_int|exact L2.nice_bool|exact L2.nice_tuple|exact L2.nice_list|exact L2.nice_str)
local macro_rules | `(tactic| walk_at "th")=>`(tactic| first
 | assumption
 | exact Sp1.th_flat .non (fun p e=>nomatch e)|exact Sp1.th_flat (.int _) (fun p e=>nomatch e)|exact Sp1.th_flat (.bl _) (fun p e=>nomatch e)|exact Sp1.th_flat (.str _) (fun p e=>nomatch e)
 | exact Sp1.th_lst (by walk_at "at")
 | (refine' Sp1.th_tup ?hat ?hkn;(case hat=>walk_at "at");(case hkn=>(simp only[List.mem_cons,List.not_mem_nil,or_false,forall_eq_or_imp,forall_eq,false_imp_iff,implies_true];(try (first|(walk_at "kn")|(repeat' apply And.intro) <;> walk_at "kn")))))
 )
local macro_rules | `(tactic| walk_at "r1")=>`(tactic| first
 | (refine⟨_,rfl,?_⟩)
 | (refine⟨_,_,rfl,rfl,?_⟩)
 | (refine⟨_,_,rfl,rfl,by walk_at "cm",?_⟩)
 | (refine⟨_,_,rfl,rfl,(by show(0:Int)<_;decide),?_⟩)
 | (refine⟨_,_,rfl,rfl,⟨by decide,by decide⟩,?_⟩)
 | (refine⟨_,_,rfl,rfl,⟨by decide,by decide,by decide⟩,?_⟩)
 | (refine' ⟨_,_,_,_,rfl,rfl,L2.SqT.of ?hat,?hix,?nxt⟩;(case hat=>walk_at "at");(case hix=>exact rfl))
 | (refine' ⟨_,_,_,_,rfl,rfl,L2.SqL.of ?hat,?hix,?nxt⟩;(case hat=>walk_at "at");(case hix=>exact rfl))
 | (refine⟨by walk_at "cm",?_⟩)
 | (refine⟨(by show(0:Int)<_;decide),?_⟩)
 | (refine⟨⟨by decide,by decide⟩,?_⟩)
 | (refine⟨⟨by decide,by decide,by decide⟩,?_⟩)
 | (refine⟨Sp1.sz (by simp),fun _ _ _ _ _=>?_⟩)
 | (refine⟨Sp1.sz (by simp),L2.alloc fun _ _ _ _=>?_⟩)
 | (refine' ⟨_,_,_,_,rfl,rfl,?hat,?hbt,Sp1.sz ?hsz,fun _ _ _ _ _=>?nxt⟩;(case hat=>walk_at "at");(case hbt=>walk_at "at");(case hsz=>simp))
 | (refine' ⟨_,_,_,_,rfl,rfl,?hat,?hbt,Sp1.sz ?hsz,L2.alloc fun _ _ _ _=>?nxt⟩;(case hat=>walk_at "at");(case hbt=>walk_at "at");(case hsz=>simp))
 | (refine' ⟨_,_,rfl,.inl (L2.SqL.of ?hat),?nxt⟩;(case hat=>walk_at "at"))
 | (refine' ⟨_,_,rfl,.inr (L2.SqT.of ?hat),?nxt⟩;(case hat=>walk_at "at"))
 | (refine' L2.alloc fun _ _ _ _=>?nxt))
local macro_rules | `(tactic| walk_at "rd")=>`(tactic| repeat (walk_at "r1"))
namespace K65
open PySem PySem.Spec L2 Mth Sp1 Sp2 Sp3 Sp7 Dr
noncomputable def top(i:Nat):Stmt:=Challenge.pw_oneleash_k65_rows_refused.main.body.getD i (.Pass ⟨0,0,0,0⟩)
noncomputable def aH(i j:Nat):Stmt:=match top i with
 | .ClassDef _ _ _ b _ _ _ _ _ _ _=>b.getD j (.Pass ⟨0,0,0,0⟩)
 | x=>x
noncomputable def dH:List (Str×Nat):=[(Str.ofString "is_whole",15),(Str.ofString "common_divisor",16),(Str.ofString "is_ratio",26),(Str.ofString "is_small",51),(Str.ofString "is_corner",52),(Str.ofString "is_line",53),(Str.ofString "line_of",54),(Str.ofString "look_at_way",117),(Str.ofString "look_at_lines",140),(Str.ofString "show_ratio",148),(Str.ofString "show_line",150),(Str.ofString "read_whole",153),(Str.ofString "read_ratio",154),(Str.ofString "two_parts",155),(Str.ofString "read_corner",156),(Str.ofString "form_of",159),(Str.ofString "read_square",160),(Str.ofString "read_way",161),(Str.ofString "read_word",162),(Str.ofString "read_words",163),(Str.ofString "read_row",164),(Str.ofString "is_name",180),(Str.ofString "answer_of_leash",181),(Str.ofString "name_and_square",182),(Str.ofString "_law_mixed",185),(Str.ofString "_law_numbers",186),(Str.ofString "_law_word",187),(Str.ofString "_law_no_row",188),(Str.ofString "_law_other",189),(Str.ofString "_law_said",190),(Str.ofString "_law_full",191),(Str.ofString "law",192)]
noncomputable def fk:List (Str×Nat×List V):=[(Str.ofString "nearest",142,[.str "on"]),(Str.ofString "midst",144,[.str "on"])]
noncomputable def rV:List Str:=[Str.ofString "LeashError",Str.ofString "NoName",Str.ofString "Twice",Str.ofString "NoLine",Str.ofString "TooMany",Str.ofString "NoSquare",Str.ofString "NoDeed",Str.ofString "NoRow",Str.ofString "NoLines",Str.ofString "NoText"]
noncomputable def hNo:List Str:=[Str.ofString "ValueError",Str.ofString "abs",Str.ofString "all",Str.ofString "bool",Str.ofString "enumerate",Str.ofString "int",Str.ofString "isinstance",Str.ofString "len",Str.ofString "list",Str.ofString "min",Str.ofString "range",Str.ofString "reversed",Str.ofString "str",Str.ofString "tuple",Str.ofString "zip"]
noncomputable def p8:List (Str×List V):=[(Str.ofString "WAYS",[.str "on",.str "part",.str "free",.str "hops"]),(Str.ofString "DEEDS",[.str "put",.str "strike",.str "turn",.str "back"])]
noncomputable def sX(K:W.Frag):List (Option (Option V)):=[(W.nsIn K mainGlobals "LARGEST").map (λo=>o.map Hd.bareV),(W.nsIn K mainGlobals "MOST_CORNERS").map (λo=>o.map Hd.bareV),(W.nsIn K mainGlobals "MOST_LINES").map (λo=>o.map Hd.bareV),(W.nsIn K mainGlobals "MOST_LETTERS").map (λo=>o.map Hd.bareV),(W.nsIn K mainGlobals "LETTERS").map (λo=>o.map Hd.bareV),(W.nsIn K mainGlobals "NOTHING").map (λo=>o.map Hd.bareV),(W.nsIn K mainGlobals "FIGURES").map (λo=>o.map Hd.bareV),(W.nsIn K mainGlobals "MOST_FIGURES").map (λo=>o.map Hd.bareV)]
noncomputable def qW(w:World):List (Option (Option V)):=[some (some (.int 999999999999)),some (some (.int 10)),some (some (.int 6)),some (some (.int 8)),some (some (.str (Str.ofString "abcdefghijklmnopqrstuvwxyz"))),some (some (.str (Str.ofString "none"))),some (some (.str (Str.ofString "0123456789"))),some (some (.int 1000))]
noncomputable def sW(K:W.Frag):List (Option (Option Value)):=[W.findIn K (.ref (Hd.cls K "Book")) "__setattr__",W.findIn K (.ref (Hd.cls K "Book")) "kept",W.findIn K (.ref (Hd.cls K "Book")) "earlier",W.nsIn K cStatics "sys.int_max_str_digits"]
noncomputable def qV(w:World):List (Option (Option Value)):=[some (some (.builtin "object.__setattr__")),some none,some none,some none]
noncomputable def sV(K:W.Frag):List (Option Bool):=[Hd.exmR K (Hd.cls K "NoName") (Hd.cls K "LeashError"),Hd.kitT K (Hd.cls K "NoName"),Hd.kitR K (Hd.cls K "NoName") (Hd.cls K "NoName"),Hd.kitR K (Hd.cls K "NoName") (Hd.cls K "Twice"),Hd.kitR K (Hd.cls K "NoName") (Hd.cls K "NoLine"),Hd.kitR K (Hd.cls K "NoName") (Hd.cls K "TooMany"),Hd.kitR K (Hd.cls K "NoName") (Hd.cls K "NoSquare"),Hd.kitR K (Hd.cls K "NoName") (Hd.cls K "NoDeed"),Hd.kitR K (Hd.cls K "NoName") (Hd.cls K "NoRow"),Hd.kitR K (Hd.cls K "NoName") (Hd.cls K "NoLines"),Hd.exmR K (Hd.cls K "Twice") (Hd.cls K "LeashError"),Hd.kitT K (Hd.cls K "Twice"),Hd.kitR K (Hd.cls K "Twice") (Hd.cls K "NoName"),Hd.kitR K (Hd.cls K "Twice") (Hd.cls K "Twice"),Hd.kitR K (Hd.cls K "Twice") (Hd.cls K "NoLine"),Hd.kitR K (Hd.cls K "Twice") (Hd.cls K "TooMany"),Hd.kitR K (Hd.cls K "Twice") (Hd.cls K "NoSquare"),Hd.kitR K (Hd.cls K "Twice") (Hd.cls K "NoDeed"),Hd.kitR K (Hd.cls K "Twice") (Hd.cls K "NoRow"),Hd.kitR K (Hd.cls K "Twice") (Hd.cls K "NoLines"),Hd.exmR K (Hd.cls K "NoLine") (Hd.cls K "LeashError"),Hd.kitT K (Hd.cls K "NoLine"),Hd.kitR K (Hd.cls K "NoLine") (Hd.cls K "NoName"),Hd.kitR K (Hd.cls K "NoLine") (Hd.cls K "Twice"),Hd.kitR K (Hd.cls K "NoLine") (Hd.cls K "NoLine"),Hd.kitR K (Hd.cls K "NoLine") (Hd.cls K "TooMany"),Hd.kitR K (Hd.cls K "NoLine") (Hd.cls K "NoSquare"),Hd.kitR K (Hd.cls K "NoLine") (Hd.cls K "NoDeed"),Hd.kitR K (Hd.cls K "NoLine") (Hd.cls K "NoRow"),Hd.kitR K (Hd.cls K "NoLine") (Hd.cls K "NoLines"),Hd.exmR K (Hd.cls K "TooMany") (Hd.cls K "LeashError"),Hd.kitT K (Hd.cls K "TooMany"),Hd.kitR K (Hd.cls K "TooMany") (Hd.cls K "NoName"),Hd.kitR K (Hd.cls K "TooMany") (Hd.cls K "Twice"),Hd.kitR K (Hd.cls K "TooMany") (Hd.cls K "NoLine"),Hd.kitR K (Hd.cls K "TooMany") (Hd.cls K "TooMany"),Hd.kitR K (Hd.cls K "TooMany") (Hd.cls K "NoSquare"),Hd.kitR K (Hd.cls K "TooMany") (Hd.cls K "NoDeed"),Hd.kitR K (Hd.cls K "TooMany") (Hd.cls K "NoRow"),Hd.kitR K (Hd.cls K "TooMany") (Hd.cls K "NoLines"),Hd.exmR K (Hd.cls K "NoDeed") (Hd.cls K "LeashError"),Hd.kitT K (Hd.cls K "NoDeed"),Hd.kitR K (Hd.cls K "NoDeed") (Hd.cls K "NoName"),Hd.kitR K (Hd.cls K "NoDeed") (Hd.cls K "Twice"),Hd.kitR K (Hd.cls K "NoDeed") (Hd.cls K "NoLine"),Hd.kitR K (Hd.cls K "NoDeed") (Hd.cls K "TooMany"),Hd.kitR K (Hd.cls K "NoDeed") (Hd.cls K "NoSquare"),Hd.kitR K (Hd.cls K "NoDeed") (Hd.cls K "NoDeed"),Hd.kitR K (Hd.cls K "NoDeed") (Hd.cls K "NoRow"),Hd.kitR K (Hd.cls K "NoDeed") (Hd.cls K "NoLines"),Hd.exmR K (Hd.cls K "NoLines") (Hd.cls K "LeashError"),Hd.kitT K (Hd.cls K "NoLines"),Hd.kitR K (Hd.cls K "NoLines") (Hd.cls K "NoName"),Hd.kitR K (Hd.cls K "NoLines") (Hd.cls K "Twice"),Hd.kitR K (Hd.cls K "NoLines") (Hd.cls K "NoLine"),Hd.kitR K (Hd.cls K "NoLines") (Hd.cls K "TooMany"),Hd.kitR K (Hd.cls K "NoLines") (Hd.cls K "NoSquare"),Hd.kitR K (Hd.cls K "NoLines") (Hd.cls K "NoDeed"),Hd.kitR K (Hd.cls K "NoLines") (Hd.cls K "NoRow"),Hd.kitR K (Hd.cls K "NoLines") (Hd.cls K "NoLines"),Hd.exmR K (Hd.cls K "NoRow") (Hd.cls K "LeashError"),Hd.kitT K (Hd.cls K "NoRow"),Hd.kitR K (Hd.cls K "NoRow") (Hd.cls K "NoName"),Hd.kitR K (Hd.cls K "NoRow") (Hd.cls K "Twice"),Hd.kitR K (Hd.cls K "NoRow") (Hd.cls K "NoLine"),Hd.kitR K (Hd.cls K "NoRow") (Hd.cls K "TooMany"),Hd.kitR K (Hd.cls K "NoRow") (Hd.cls K "NoSquare"),Hd.kitR K (Hd.cls K "NoRow") (Hd.cls K "NoDeed"),Hd.kitR K (Hd.cls K "NoRow") (Hd.cls K "NoRow"),Hd.kitR K (Hd.cls K "NoRow") (Hd.cls K "NoLines"),Hd.exmR K (Hd.cls K "NoRow") (Hd.cls K "NoText")]
noncomputable def qU(w:World):List (Option Bool):=[some true,some true,some true,some false,some false,some false,some false,some false,some false,some false,some true,some true,some false,some true,some false,some false,some false,some false,some false,some false,some true,some true,some false,some false,some true,some false,some false,some false,some false,some false,some true,some true,some false,some false,some false,some true,some false,some false,some false,some false,some true,some true,some false,some false,some false,some false,some false,some true,some false,some false,some true,some true,some false,some false,some false,some false,some false,some false,some false,some true,some true,some true,some false,some false,some false,some false,some false,some false,some true,some false,some false]
noncomputable def sU(K:W.Frag):List (Bool):=[Hd.findR K (Hd.cls K "NoName") "__getattribute__",Hd.findR K (Hd.cls K "NoName") "__getattr__",Hd.findR K (Hd.cls K "NoName") "__class__",Hd.findR K (Hd.cls K "Twice") "__getattribute__",Hd.findR K (Hd.cls K "Twice") "__getattr__",Hd.findR K (Hd.cls K "Twice") "__class__",Hd.findR K (Hd.cls K "NoLine") "__getattribute__",Hd.findR K (Hd.cls K "NoLine") "__getattr__",Hd.findR K (Hd.cls K "NoLine") "__class__",Hd.findR K (Hd.cls K "TooMany") "__getattribute__",Hd.findR K (Hd.cls K "TooMany") "__getattr__",Hd.findR K (Hd.cls K "TooMany") "__class__",Hd.findR K (Hd.cls K "NoDeed") "__getattribute__",Hd.findR K (Hd.cls K "NoDeed") "__getattr__",Hd.findR K (Hd.cls K "NoDeed") "__class__",Hd.findR K (Hd.cls K "NoLines") "__getattribute__",Hd.findR K (Hd.cls K "NoLines") "__getattr__",Hd.findR K (Hd.cls K "NoLines") "__class__",Hd.findR K (Hd.cls K "NoRow") "__getattribute__",Hd.findR K (Hd.cls K "NoRow") "__getattr__",Hd.findR K (Hd.cls K "NoRow") "__class__"]
noncomputable def qT(w:World):List (Bool):=[true,true,true,true,true,true,true,true,true,true,true,true,true,true,true,true,true,true,true,true,true]
noncomputable def sT(K:W.Frag):List (Option (List (Int×Str×List V))):=[Hd.dictFact K "FORMS"]
noncomputable def qS(w:World):List (Option (List (Int×Str×List V))):=[some [(hashStr w (Str.ofString "put"),Str.ofString "put",[V.str (Str.ofString "name"),V.str (Str.ofString "corner")]),(hashStr w (Str.ofString "strike"),Str.ofString "strike",[V.str (Str.ofString "name")]),(hashStr w (Str.ofString "turn"),Str.ofString "turn",[V.str (Str.ofString "name")]),(hashStr w (Str.ofString "thin"),Str.ofString "thin",[V.str (Str.ofString "name"),V.str (Str.ofString "square")]),(hashStr w (Str.ofString "back"),Str.ofString "back",[]),(hashStr w (Str.ofString "line"),Str.ofString "line",[V.str (Str.ofString "name")]),(hashStr w (Str.ofString "leash"),Str.ofString "leash",[V.str (Str.ofString "name"),V.str (Str.ofString "name"),V.str (Str.ofString "way")]),(hashStr w (Str.ofString "walk"),Str.ofString "walk",[V.str (Str.ofString "name"),V.str (Str.ofString "name"),V.str (Str.ofString "way")]),(hashStr w (Str.ofString "fence"),Str.ofString "fence",[V.str (Str.ofString "name"),V.str (Str.ofString "name"),V.str (Str.ofString "way")]),(hashStr w (Str.ofString "near"),Str.ofString "near",[V.str (Str.ofString "name"),V.str (Str.ofString "way")]),(hashStr w (Str.ofString "midst"),Str.ofString "midst",[V.str (Str.ofString "way")]),(hashStr w (Str.ofString "names"),Str.ofString "names",[])]]
noncomputable def sO:List Str:=[Str.ofString "Book"]
noncomputable def hMt:List (Str×Str×Str×Stmt):=[(Str.ofString "Book",Str.ofString "__init__",Str.ofString "Book.__init__",aH 183 0),(Str.ofString "Book",Str.ofString "change_to",Str.ofString "Book.change_to",aH 183 1),(Str.ofString "Book",Str.ofString "change_line",Str.ofString "Book.change_line",aH 183 2),(Str.ofString "Book",Str.ofString "names",Str.ofString "Book.names",aH 183 3),(Str.ofString "Book",Str.ofString "line",Str.ofString "Book.line",aH 183 4),(Str.ofString "Book",Str.ofString "put",Str.ofString "Book.put",aH 183 5),(Str.ofString "Book",Str.ofString "strike",Str.ofString "Book.strike",aH 183 6),(Str.ofString "Book",Str.ofString "turn",Str.ofString "Book.turn",aH 183 7),(Str.ofString "Book",Str.ofString "thin",Str.ofString "Book.thin",aH 183 8),(Str.ofString "Book",Str.ofString "back",Str.ofString "Book.back",aH 183 9),(Str.ofString "Book",Str.ofString "do_deed",Str.ofString "Book.do_deed",aH 183 10),(Str.ofString "Book",Str.ofString "tell_near",Str.ofString "Book.tell_near",aH 183 12),(Str.ofString "Book",Str.ofString "tell_midst",Str.ofString "Book.tell_midst",aH 183 13),(Str.ofString "Book",Str.ofString "answer_to",Str.ofString "Book.answer_to",aH 183 14),(Str.ofString "Book",Str.ofString "said",Str.ofString "Book.said",aH 183 15)]
noncomputable def hF0(K:W.Frag):List (Option (Arguments×List Stmt×Scope×Value)):=dH.map (λp=>Hd.fnFact K p.1)
noncomputable def hG0(w:World):List (Option (Arguments×List Stmt×Scope×Value)):=dH.map (λp=>some (aR (top p.2),aF (top p.2),ag (top p.2),.none))
noncomputable def hF1(K:W.Frag):List (Option (Arguments×List Stmt×Scope×List V))×Bool×Bool×List (Option (List V))×Bool×List (Option (Arguments×List Stmt×Scope×Value)):=(fk.map (λp=>Hd.fnFactD K p.1),rV.all (Hd.excFact K),hNo.all (Hd.noFact K),p8.map (λp=>Hd.tupFact K p.1),sO.all (Hd.ownFact K),hMt.map (λp=>Hd.mtFact K p.1 p.2.1 p.2.2.1))
noncomputable def hG1(w:World):List (Option (Arguments×List Stmt×Scope×List V))×Bool×Bool×List (Option (List V))×Bool×List (Option (Arguments×List Stmt×Scope×Value)):=(fk.map (λp=>some (aR (top p.2.1),aF (top p.2.1),ag (top p.2.1),p.2.2)),true,true,p8.map (λp=>some p.2),true,hMt.map (λp=>some (aR p.2.2.2,aF p.2.2.2,ag p.2.2.2,.none)))
noncomputable def hF2(K:W.Frag):List (Option (Option V))×List (Option (Option Value))×List (Option Bool)×List (Bool)×List (Option (List (Int×Str×List V))):=(sX K,sW K,sV K,sU K,sT K)
noncomputable def hG2(w:World):List (Option (Option V))×List (Option (Option Value))×List (Option Bool)×List (Bool)×List (Option (List (Int×Str×List V))):=(qW w,qV w,qU w,qT w,qS w)
noncomputable def hFacts(K:W.Frag):(List (Option (Arguments×List Stmt×Scope×Value)))×(List (Option (Arguments×List Stmt×Scope×List V))×Bool×Bool×List (Option (List V))×Bool×List (Option (Arguments×List Stmt×Scope×Value)))×(List (Option (Option V))×List (Option (Option Value))×List (Option Bool)×List (Bool)×List (Option (List (Int×Str×List V)))):=(hF0 (K),hF1 (K),hF2 (K))
noncomputable def hGood(w:World):(List (Option (Arguments×List Stmt×Scope×Value)))×(List (Option (Arguments×List Stmt×Scope×List V))×Bool×Bool×List (Option (List V))×Bool×List (Option (Arguments×List Stmt×Scope×Value)))×(List (Option (Option V))×List (Option (Option Value))×List (Option Bool)×List (Bool)×List (Option (List (Int×Str×List V)))):=(hG0 w,hG1 w,hG2 w)
noncomputable def hView:Program:=W.view Challenge.pw_oneleash_k65_rows_refused [192]
noncomputable def hLoose:List Str:=[Str.ofString "LeashError",Str.ofString "NoRatio",Str.ofString "NoLine",Str.ofString "NoPlace",Str.ofString "NoWay",Str.ofString "NoSquare",Str.ofString "NoLines",Str.ofString "NoText",Str.ofString "NoName",Str.ofString "Twice",Str.ofString "TooMany",Str.ofString "NoRow",Str.ofString "NoDeed",Str.ofString "is_whole",Str.ofString "common_divisor",Str.ofString "ratio",Str.ofString "plus",Str.ofString "minus",Str.ofString "times",Str.ofString "over",Str.ofString "less",Str.ofString "floor_of",Str.ofString "number_of_least",Str.ofString "number_of_greatest",Str.ofString "is_ratio",Str.ofString "sign_of",Str.ofString "signed_square",Str.ofString "sign_with_root",Str.ofString "sign_with_roots",Str.ofString "root_order",Str.ofString "floor_root",Str.ofString "own_fraction",Str.ofString "scaled_floor",Str.ofString "below_all",Str.ofString "shared_terms",Str.ofString "fraction_of_terms",Str.ofString "fraction_within",Str.ofString "root_between",Str.ofString "BEGIN",Str.ofString "END",Str.ofString "look_at_square",Str.ofString "leash_order",Str.ofString "reach_of",Str.ofString "part_within",Str.ofString "MOST_CORNERS",Str.ofString "LARGEST",Str.ofString "is_small",Str.ofString "is_corner",Str.ofString "is_line",Str.ofString "line_of",Str.ofString "last_of",Str.ofString "UPRIGHT",Str.ofString "LEVEL",Str.ofString "with_a_stretch",Str.ofString "doors_of",Str.ofString "far_corners",Str.ofString "Field",Str.ofString "begins_fence",Str.ofString "ends_fence",Str.ofString "pair_at_corner",Str.ofString "part_from",Str.ofString "pair_in_door",Str.ofString "place_on",Str.ofString "pairs_on",Str.ofString "row_to",Str.ofString "seek",Str.ofString "is_cell",Str.ofString "steps_through",Str.ofString "pair_within",Str.ofString "free_walk",Str.ofString "steps_along",Str.ofString "free_fence",Str.ofString "go_free",Str.ofString "fence_freely",Str.ofString "gap_between",Str.ofString "steps_down",Str.ofString "steps_over",Str.ofString "steps_back",Str.ofString "steps_from",Str.ofString "pairs_of_bend",Str.ofString "fence_past",Str.ofString "doors_at_begin",Str.ofString "door_out",Str.ofString "pass_through",Str.ofString "doors_reached",Str.ofString "doors_at_end",Str.ofString "may_keep",Str.ofString "pairs_to",Str.ofString "walk_through",Str.ofString "go_by",Str.ofString "go_on",Str.ofString "go_part",Str.ofString "fence_by",Str.ofString "is_place",Str.ofString "look_at_place",Str.ofString "number_at",Str.ofString "point_at",Str.ofString "step_from",Str.ofString "inner_product",Str.ofString "square_between",Str.ofString "square_of",Str.ofString "nearest_part",Str.ofString "least_along",Str.ofString "WAYS",Str.ofString "look_at_way",Str.ofString "hops_aside",Str.ofString "steps_on",Str.ofString "hops_walk",Str.ofString "steps_aside",Str.ofString "hops_fence",Str.ofString "go_hops",Str.ofString "fence_hops",Str.ofString "first_number",Str.ofString "put_in",Str.ofString "square_apart",Str.ofString "least_beside",Str.ofString "even_squares",Str.ofString "squares_beside",Str.ofString "stretches_of",Str.ofString "candidates",Str.ofString "go",Str.ofString "fence_at",Str.ofString "leash",Str.ofString "look_at_lines",Str.ofString "leashes",Str.ofString "nearest",Str.ofString "far_show",Str.ofString "midst",Str.ofString "MOST_FIGURES",Str.ofString "FIGURES",Str.ofString "show_ratio",Str.ofString "show_corner",Str.ofString "show_line",Str.ofString "show_pair",Str.ofString "show_paper",Str.ofString "read_whole",Str.ofString "read_ratio",Str.ofString "two_parts",Str.ofString "read_corner",Str.ofString "FORMS",Str.ofString "form_of",Str.ofString "read_square",Str.ofString "read_way",Str.ofString "read_word",Str.ofString "read_words",Str.ofString "read_row",Str.ofString "part_of",Str.ofString "short_cut",Str.ofString "corners_apart",Str.ofString "cuts_of",Str.ofString "good_begins",Str.ofString "marks_of",Str.ofString "kept_of",Str.ofString "thinned",Str.ofString "MOST_LINES",Str.ofString "MOST_LETTERS",Str.ofString "LETTERS",Str.ofString "NOTHING",Str.ofString "DEEDS",Str.ofString "is_name",Str.ofString "answer_of_leash",Str.ofString "name_and_square",Str.ofString "Book",Str.ofString "_law_mixed",Str.ofString "_law_numbers",Str.ofString "_law_word",Str.ofString "_law_no_row",Str.ofString "_law_other",Str.ofString "_law_said",Str.ofString "_law_full"]
noncomputable def hRunS(w:World):=(Hd.openEndsT treeTable Challenge.pw_oneleash_k65_rows_refused w 100000).map (λs=>W.openSeen hView hLoose (importedModules Challenge.pw_oneleash_k65_rows_refused.main.body) (λ_=>true) true s)
noncomputable def hEndS(w:World):=some (W.openGood hView hLoose)
theorem hRunS_self:@hRunS = @hRunS:=rfl
theorem hEndS_self:@hEndS = @hEndS:=rfl
noncomputable def _root_.PySem.W.Fast.tw18200765956741626346:Program:=Challenge.pw_oneleash_k65_rows_refused
theorem _root_.PySem.W.Fast.te18200765956741626346:Challenge.pw_oneleash_k65_rows_refused=W.Fast.tw18200765956741626346:=rfl
set_option maxHeartbeats 0 in
lay_quick K65.hRunS K65.hEndS
name_quick hRunSQ for K65.hRunS by K65.hRunS_self
name_quick hEndSQ for K65.hEndS by K65.hEndS_self
set_option maxHeartbeats 0 in
theorem oH(w:World):W.Fast.hRunSQ (Hd.wB true w)=W.Fast.hEndSQ (Hd.wB true w):=by kernel_rfl
set_option maxHeartbeats 0 in
theorem oI(w:World):W.Fast.hRunSQ (Hd.wB false w)=W.Fast.hEndSQ (Hd.wB false w):=by kernel_rfl
theorem p9(w:World):W.Fast.hRunSQ w=W.Fast.hEndSQ w:=Hd.wB_both (P:=λw=>W.Fast.hRunSQ w=W.Fast.hEndSQ w) oH oI w
theorem sP(w:World):hRunS w=hEndS w:=(congrFun W.Fast.hRunSQ_eq w).trans ((p9 w).trans (congrFun W.Fast.hEndSQ_eq w).symm)
noncomputable def hRun0(w:World):=(Hd.openEndsT treeTable Challenge.pw_oneleash_k65_rows_refused w 100000).map (λs=>hF0 (Hd.frag s.heap))
noncomputable def hEnd0(w:World):=some (hG0 w)
theorem hRun0_self:@hRun0 = @hRun0:=rfl
theorem hEnd0_self:@hEnd0 = @hEnd0:=rfl
set_option maxHeartbeats 0 in
lay_quick K65.hRun0 K65.hEnd0
name_quick hRun0Q for K65.hRun0 by K65.hRun0_self
name_quick hEnd0Q for K65.hEnd0 by K65.hEnd0_self
set_option maxHeartbeats 0 in
theorem oO(w:World):W.Fast.hRun0Q (Hd.wB true w)=W.Fast.hEnd0Q (Hd.wB true w):=by kernel_rfl
set_option maxHeartbeats 0 in
theorem oP(w:World):W.Fast.hRun0Q (Hd.wB false w)=W.Fast.hEnd0Q (Hd.wB false w):=by kernel_rfl
theorem qe(w:World):W.Fast.hRun0Q w=W.Fast.hEnd0Q w:=Hd.wB_both (P:=λw=>W.Fast.hRun0Q w=W.Fast.hEnd0Q w) oO oP w
theorem sS(w:World):hRun0 w=hEnd0 w:=(congrFun W.Fast.hRun0Q_eq w).trans ((qe w).trans (congrFun W.Fast.hEnd0Q_eq w).symm)
noncomputable def hRun1(w:World):=(Hd.openEndsT treeTable Challenge.pw_oneleash_k65_rows_refused w 100000).map (λs=>hF1 (Hd.frag s.heap))
noncomputable def hEnd1(w:World):=some (hG1 w)
theorem hRun1_self:@hRun1 = @hRun1:=rfl
theorem hEnd1_self:@hEnd1 = @hEnd1:=rfl
set_option maxHeartbeats 0 in
lay_quick K65.hRun1 K65.hEnd1
name_quick hRun1Q for K65.hRun1 by K65.hRun1_self
name_quick hEnd1Q for K65.hEnd1 by K65.hEnd1_self
set_option maxHeartbeats 0 in
theorem oM(w:World):W.Fast.hRun1Q (Hd.wB true w)=W.Fast.hEnd1Q (Hd.wB true w):=by kernel_rfl
set_option maxHeartbeats 0 in
theorem oN(w:World):W.Fast.hRun1Q (Hd.wB false w)=W.Fast.hEnd1Q (Hd.wB false w):=by kernel_rfl
theorem qd(w:World):W.Fast.hRun1Q w=W.Fast.hEnd1Q w:=Hd.wB_both (P:=λw=>W.Fast.hRun1Q w=W.Fast.hEnd1Q w) oM oN w
theorem sR(w:World):hRun1 w=hEnd1 w:=(congrFun W.Fast.hRun1Q_eq w).trans ((qd w).trans (congrFun W.Fast.hEnd1Q_eq w).symm)
noncomputable def hRun2(w:World):=(Hd.openEndsT treeTable Challenge.pw_oneleash_k65_rows_refused w 100000).map (λs=>hF2 (Hd.frag s.heap))
noncomputable def hEnd2(w:World):=some (hG2 w)
theorem hRun2_self:@hRun2 = @hRun2:=rfl
theorem hEnd2_self:@hEnd2 = @hEnd2:=rfl
set_option maxHeartbeats 0 in
lay_quick K65.hRun2 K65.hEnd2
name_quick hRun2Q for K65.hRun2 by K65.hRun2_self
name_quick hEnd2Q for K65.hEnd2 by K65.hEnd2_self
set_option maxHeartbeats 0 in
theorem oJ(w:World):W.Fast.hRun2Q (Hd.wB true w)=W.Fast.hEnd2Q (Hd.wB true w):=by kernel_rfl
set_option maxHeartbeats 0 in
theorem oK(w:World):W.Fast.hRun2Q (Hd.wB false w)=W.Fast.hEnd2Q (Hd.wB false w):=by kernel_rfl
theorem qc(w:World):W.Fast.hRun2Q w=W.Fast.hEnd2Q w:=Hd.wB_both (P:=λw=>W.Fast.hRun2Q w=W.Fast.hEnd2Q w) oJ oK w
theorem sQ(w:World):hRun2 w=hEnd2 w:=(congrFun W.Fast.hRun2Q_eq w).trans ((qc w).trans (congrFun W.Fast.hEnd2Q_eq w).symm)
theorem ui(w:World):(W.openEnds treeTable Challenge.pw_oneleash_k65_rows_refused w 100000).map (λs=>(W.openSeen hView hLoose (importedModules Challenge.pw_oneleash_k65_rows_refused.main.body) (λ_=>true) true s,hFacts (Hd.frag s.heap)))=some (W.openGood hView hLoose,hGood w):=by
 have rS:(W.openEnds treeTable Challenge.pw_oneleash_k65_rows_refused w 100000).map (λs=>W.openSeen hView hLoose (importedModules Challenge.pw_oneleash_k65_rows_refused.main.body) (λ_=>true) true s)=some (W.openGood hView hLoose):=Hd.openT_map (sP w);have r0:(W.openEnds treeTable Challenge.pw_oneleash_k65_rows_refused w 100000).map (λs=>hF0 (Hd.frag s.heap))=some (hG0 w):=Hd.openT_map (sS w);have r1:(W.openEnds treeTable Challenge.pw_oneleash_k65_rows_refused w 100000).map (λs=>hF1 (Hd.frag s.heap))=some (hG1 w):=Hd.openT_map (sR w);have r2:(W.openEnds treeTable Challenge.pw_oneleash_k65_rows_refused w 100000).map (λs=>hF2 (Hd.frag s.heap))=some (hG2 w):=Hd.openT_map (sQ w)
 skip
 generalize (W.openEnds treeTable Challenge.pw_oneleash_k65_rows_refused w 100000)=x at *;cases x with
 | none=>cases rS
 | some s =>
  have zS:=Option.some.inj rS;have z0:=Option.some.inj r0;have z1:=Option.some.inj r1;have z2:=Option.some.inj r2;show some (W.openSeen hView hLoose (importedModules Challenge.pw_oneleash_k65_rows_refused.main.body) (λ_=>true) true s,hFacts (Hd.frag s.heap))=_;unfold hFacts hGood;have z:=zS;have q0:=z0;have q1:=z1;have q2:=z2;exact congrArg some (Hd.pair2 z (Hd.pair2 q0 (Hd.pair2 q1 q2)))
structure Txt(mg:Str->Option Value):Prop where
 z_ValueError:mg "ValueError" = none
 z_abs:mg "abs" = none
 z_all:mg "all" = none
 z_bool:mg "bool" = none
 z_enumerate:mg "enumerate" = none
 z_int:mg "int" = none
 z_isinstance:mg "isinstance" = none
 z_len:mg "len" = none
 z_list:mg "list" = none
 z_min:mg "min" = none
 z_range:mg "range" = none
 z_reversed:mg "reversed" = none
 z_str:mg "str" = none
 z_tuple:mg "tuple" = none
 z_zip:mg "zip" = none
section
variable {P:Program} {w:World} {K:W.Frag} {mg:Str->Option Value} {base:Heap} {C_Book:Addr}
theorem smk{N M:List Str}{c:Scope}(a:c.kind=.function:=by rfl)(b:c.isCoroutine=false:=by rfl)(d:c.isGenerator=false:=by rfl)(e:N.Nodup:=by decide +kernel)(f:N.take M.length=M:=by rfl)(g:∀x∈M,c.names.lookup x=some .local\/c.names.lookup x=some .cell:=by decide +kernel)(h:∀y∈c.names,y.2≠.free:=by decide +kernel):uq N M c:=⟨a,b,d,e,f,g,h⟩
theorem yg:uq ["thing"] ["thing"] (ag (top 15)):=smk
theorem jw(yu:Df K mg "is_whole" (top 15))(T:Txt mg):Fn P w K mg base "is_whole" ["thing"] 1 wM:=by
 refine yu.fn yg (λ_ _ _ _ _ _ us hl=>match us,hl with | [_],_=>rfl) (λvs H Q E h=>?_) (λf cdv A outer s H vs Q E hr h=>?_)
 ·obtain⟨x,t,rfl,_⟩:=h
  rfl
 ·obtain⟨x,t,rfl,k,q⟩:=h
  refine⟨_,(ai (aw (cV (aq aZ (by rfl) T.z_isinstance aB (aa (pv 0) (aa (dq T.z_int pp) ac))) (d9 (rC (aq aZ (by rfl) T.z_isinstance aB (aa (pv 0) (aa (dq T.z_bool qu) ac)))))))),?_⟩;refine⟨_,rfl,x,t,"int",rfl,k,.inl rfl,_,rfl,?_⟩;refine a7 (λhc=>?_) (λhc=>?_)
  ·refine⟨_,rfl,x,t,"bool",rfl,k,.inr (.inl rfl),_,rfl,?_⟩
   rw[(gv k).1 hc];exact q
  ·rw[(gv k).2 hc]at q
   exact q
theorem uz:uq ["one","other","rest"] ["one","other"] (ag (top 16)):=smk
theorem dJ(wE:Df K mg "common_divisor" (top 16))(T:Txt mg):Fn P w K mg base "common_divisor" ["one","other"] 1 zx:=by
 refine wE.fn uz (λ_ _ _ _ _ _ us hl=>match us,hl with | [_,_],_=>rfl) (λvs H Q E h=>?_) (λf cdv A outer s H vs Q E hr h=>?_)
 ·obtain⟨a,b,rfl,_⟩:=h
  rfl
 ·obtain⟨a,b,rfl,q⟩:=h
  refine⟨_,(ae (au (i:=0) uz.nd rfl (Or.inl rfl) (aq jL (by rfl) T.z_abs pq (aa (pv 0) ac))) (ae (au (i:=1) uz.nd rfl (Or.inl rfl) (aq jL (by rfl) T.z_abs pq (aa (pv 1) ac))) (ae (ja PassesOwn.never (ao bv (pv 1) aj (az _)) (ae (au (i:=2) uz.nd rfl (Or.inl rfl) (ap bz (pv 0) (pv 1))) (ae (au (i:=0) uz.nd rfl (Or.inl rfl) (pv 1)) (ai (au (i:=1) uz.nd rfl (Or.inl rfl) (pv 2)))))) (ai (aw (pv 0)))))),?_⟩;refine⟨_,rfl,a,rfl,_,rfl,b,rfl,?_⟩;refine iR (λσ H'=>∃x y r,σ = [some (.int x),some (.int y),r]/\H'=H/\0<=x/\0<=y/\Int.gcd x y=Int.gcd a b)
   (λσ _=>match σ with | [_,some (.int y),_]=>y.toNat|_=>0) ⟨_,_,_,rfl,rfl,fW a,fW b,by rw[ls,oU]⟩ ?_ ?_
  ·rintro σ H' ⟨x,y,r,rfl,rfl,hx,hy,hg⟩
   refine⟨_,rfl,rfl,_,rfl,?_⟩;refine a7 (λhc=>?_) (λhc=>?_)
   ·have hy0:¬y=0:=by simpa using hc
    have hy1:0<y:=by omega
    refine⟨_,rfl,_,rfl,x,y,rfl,rfl,hy1,_,rfl,_,rfl,⟨y,x % y,_,rfl,rfl,hy,Int.emod_nonneg _ hy0,?_⟩,?_⟩
    ·rw[oS hx hy1]
     exact hg
    ·have h1:=Int.emod_lt_of_pos x hy1
     have h2:=Int.emod_nonneg x hy0;show(x % y).toNat<y.toNat;omega
   ·have hy0:y=0:=by simpa using hc
    subst hy0;refine⟨_,rfl,?_⟩;have e:(Int.gcd a b:Int)=x:=by rw[<- hg];exact gcd_zero hx
    rw[e]at q;exact q
  ·rintro σ H' Q1 Q2 hq ⟨v,e,hs,k,ek,r⟩
   exact⟨v,e,hs,k,ek,hq _ _ r⟩
theorem yi:uq ["thing"] ["thing"] (ag (top 26)):=smk
theorem jy(yw:Df K mg "is_ratio" (top 26))(uJ:Fn P w K mg base "is_whole" ["thing"] 1 wM)(uV:Fn P w K mg base "common_divisor" ["one","other"] 1 zx)(T:Txt mg):Fn P w K mg base "is_ratio" ["thing"] 2 zw:=by
 refine yw.fn yi (λ_ _ _ _ _ _ us hl=>match us,hl with | [_],_=>rfl) (λvs H Q E h=>?_) (λf cdv A outer s H vs Q E hr h=>?_)
 ·obtain⟨x,rfl,_⟩:=h
  rfl
 ·obtain⟨x,rfl,th,q⟩:=h
  obtain⟨t,k⟩:=th.kn;refine⟨_,(ae (aJ (b4 (bi (bq (aq aZ (by rfl) T.z_isinstance aB (aa (pv 0) (aa (dq T.z_tuple jM) ac))))) (bK (ao bv (aq aG (by rfl) T.z_len bc (aa (pv 0) ac)) aj (az _)))).pt (ai (aw bS)) ax) (ae (aJ (b4 (bi (bq (aP uJ (hr.mono (by decide)) (by rfl) (aa (aC bB (pv 0) aj (λ_ _=>rfl)) ac)))) (bK (bi (bq (aP uJ (hr.mono (by decide)) (by rfl) (aa (aC bB (pv 0) aj (λ_ _=>rfl)) ac)))))).pt (ai (aw bS)) ax) (ai (aw (cV (bR qP (aC bB (pv 0) aj (λ_ _=>rfl)) aj (az _)) (d9 (bR a9 (aP uV (hr.mono (by decide)) (by rfl) (aa (aC bB (pv 0) aj (λ_ _=>rfl)) (aa (aC bB (pv 0) aj (λ_ _=>rfl)) ac))) aj (az _)))))))),?_⟩;refine⟨_,rfl,x,t,"tuple",rfl,k,.inr (.inr (.inl rfl)),_,rfl,?_⟩;rcases Kn.cases_tup k with⟨p,xs,rfl,e,rfl⟩|⟨hl,hs⟩
  ·-- a tuple
   rw[ow e]at q;refine dF ?_;refine⟨_,rfl,p,xs,rfl,.inr (SqT.of e),rfl,_,rfl,?_⟩;refine a7 (λhc=>?_) (λhc=>?_)
   ·have hn:xs.length≠2:=by
     intro z;rw[z]at hc;exact absurd hc (by decide)
    rw[oy hn]at q;exact q
   ·have hn:xs.length=2:=by
     have z:(xs.length:Int)=2:=by simpa using hc
     omega
    match xs,hn,e,q with
    | [y,z],_,e,q =>
     obtain⟨ty,ky⟩:=th.parts p _ rfl e y (by simp);obtain⟨tz,kz⟩:=th.parts p _ rfl e z (by simp);refine⟨_,rfl,p,_,_,_,rfl,rfl,SqT.of e,rfl,y,ty,rfl,ky,_,rfl,?_⟩;rcases Kn.cases_int ky with⟨a,rfl,rfl⟩|⟨ny,ey⟩
     ·refine dF ?_
      refine⟨_,rfl,p,_,_,_,rfl,rfl,SqT.of e,rfl,z,tz,rfl,kz,_,rfl,?_⟩;rcases Kn.cases_int kz with⟨b,rfl,rfl⟩|⟨nz,ez⟩
      ·refine dF ?_
       refine⟨_,rfl,p,_,_,_,rfl,rfl,SqT.of e,rfl,b,1,rfl,rfl,_,rfl,?_⟩;have q':Q (.bl (fC a b)) H:=q;unfold fC at q';refine a7 (λhc=>?_) (λhc=>?_)
       ·refine⟨_,rfl,p,_,_,_,rfl,rfl,SqT.of e,rfl,_,rfl,p,_,_,_,rfl,rfl,SqT.of e,rfl,a,b,rfl,rfl,?_⟩
        rw[hc,Bool.true_and]at q';have e1:decide (V.int (Int.gcd a b:Int)=V.int 1)=decide (Int.gcd a b=1):=by
         rw[Bool.eq_iff_iff];simp;omega
        rw[<- e1]at q';exact q'
       ·rw[hc,Bool.false_and]at q'
        exact q'
      ·rw[ez,ox nz]at *
       exact q
     ·rw[ey,oz ny]at *
      exact q
  ·rw[hs]
   rw[hl]at q;exact q
theorem yh:uq ["thing"] ["thing"] (ag (top 51)):=smk
theorem jx(yv:Df K mg "is_small" (top 51))(V_LARGEST:∃tk,mg "LARGEST" = some (.int 999999999999 tk))(uJ:Fn P w K mg base "is_whole" ["thing"] 1 wM):Fn P w K mg base "is_small" ["thing"] 2 xn:=by
 obtain⟨tL,xl⟩:=V_LARGEST;refine yv.fn yh (λ_ _ _ _ _ _ us hl=>match us,hl with | [_],_=>rfl) (λvs H Q E h=>?_) (λf cdv A outer s H vs Q E hr h=>?_)
 ·obtain⟨x,t,rfl,_⟩:=h
  rfl
 ·obtain⟨x,t,rfl,k,q⟩:=h
  refine⟨_,(ai (aw (cV (aP uJ (hr.mono (by decide)) (by rfl) (aa (pv 0) ac)) (d9 (nO eL eL (qN mO (aO (v:=.int 999999999999) (by rfl) xl ⟨_,rfl⟩)) (pv 0) (aO (v:=.int 999999999999) (by rfl) xl ⟨_,rfl⟩)))))),?_⟩;refine⟨_,rfl,x,t,rfl,k,_,rfl,?_⟩;rcases Kn.cases_int k with⟨a,rfl,rfl⟩|⟨nx,ex⟩
  ·refine aW rfl ?_
   refine⟨_,rfl,_,rfl,_,_,rfl,rfl,_,rfl,a7 (λhd=>?_) (λhd=>?_)⟩
   ·have z:bh (.int a)=decide (a<=999999999999):=by
     show(decide (-bH<=a) && decide (a<=bH))=_;rw[show decide (-bH<=a)=true from hd];rfl
    rw[z]at q;exact⟨_,_,rfl,rfl,q⟩
   ·have z:bh (.int a)=false:=by
     show(decide (-bH<=a) && decide (a<=bH))=_;rw[show decide (-bH<=a)=false from hd];rfl
    rw[z]at q;exact q
  ·rw[lV nx]at q
   rw[ex];exact dF q
theorem xG:uq ["thing"] ["thing"] (ag (top 52)):=smk
theorem iB(xO:Df K mg "is_corner" (top 52))(vC:Fn P w K mg base "is_small" ["thing"] 2 xn)(T:Txt mg):Fn P w K mg base "is_corner" ["thing"] 3 wS:=by
 refine xO.fn xG (λ_ _ _ _ _ _ us hl=>match us,hl with | [_],_=>rfl) (λvs H Q E h=>?_) (λf cdv A outer s H vs Q E hr h=>?_)
 ·obtain⟨x,rfl,_⟩:=h
  rfl
 ·obtain⟨x,rfl,th,q⟩:=h
  obtain⟨t,k⟩:=th.kn;refine⟨_,(ai (aw (cV (aq aZ (by rfl) T.z_isinstance aB (aa (pv 0) (aa (dq T.z_tuple jM) ac))) (cV (bR a9 (aq aG (by rfl) T.z_len bc (aa (pv 0) ac)) aj (az _)) (cV (aP vC (hr.mono (by decide)) (by rfl) (aa (aC bB (pv 0) aj (λ_ _=>rfl)) ac)) (d9 (aP vC (hr.mono (by decide)) (by rfl) (aa (aC bB (pv 0) aj (λ_ _=>rfl)) ac)))))))),?_⟩;refine⟨_,rfl,x,t,"tuple",rfl,k,.inr (.inr (.inl rfl)),_,rfl,?_⟩;rcases Kn.cases_tp k with⟨p,xs,rfl,e,rfl⟩|⟨hl,hs⟩
  ·rw[cN e]at q
   refine aW (by decide) ?_;refine⟨_,rfl,p,xs,rfl,.inr (SqT.of e),rfl,_,rfl,a7 (λhc=>?_) (λhc=>?_)⟩
   ·have hn:xs.length=2:=by
     have z:(xs.length:Int)=2:=by simpa using hc
     omega
    match xs,hn,e,q with
    | [y,z],_,e,q =>
     obtain⟨ty,ky⟩:=th.parts p _ rfl e y (by simp);obtain⟨tz,kz⟩:=th.parts p _ rfl e z (by simp);have q:Q (.bl (bh y && bh z)) H:=q;refine⟨_,rfl,p,_,_,_,rfl,rfl,SqT.of e,rfl,y,ty,rfl,ky,_,rfl,a7 (λh1=>?_) (λh1=>?_)⟩
     ·rw[h1,Bool.true_and]at q
      exact⟨_,rfl,p,_,_,_,rfl,rfl,SqT.of e,rfl,z,tz,rfl,kz,q⟩
     ·rw[h1,Bool.false_and]at q
      exact q
   ·have hn:xs.length≠2:=by
     intro z;rw[z]at hc;exact absurd hc (by decide)
    rw[mC hn]at q;exact q
  ·rw[hl]at q
   rw[hs];exact dF q
theorem yY:uq ["thing"] ["thing"] (ag (top 53)):=smk
theorem kJ(ze:Df K mg "is_line" (top 53))(V_MOST:∃tk,mg "MOST_CORNERS" = some (.int 10 tk))(vM:Fn P w K mg base "is_corner" ["thing"] 3 wS)(T:Txt mg):Fn P w K mg base "is_line" ["thing"] 4 wQ:=by
 obtain⟨tM,w9⟩:=V_MOST;refine ze.fn yY (λ_ _ _ _ _ _ us hl=>match us,hl with | [_],_=>rfl) (λvs H Q E h=>?_) (λf cdv A outer s H vs Q E hr h=>?_)
 ·obtain⟨x,rfl,_⟩:=h
  rfl
 ·obtain⟨x,rfl,lt,q⟩:=h
  have CN:uQ (ak CX0 P w K mg base ["thing"] "is_line" (ag (top 53)) f cdv A outer s H E).nox (i7 ((aF (top 53)).getD 1 (.Pass ⟨0,0,0,0⟩))) [] "corner" [] :=
   ⟨by rfl,rfl,by decide +kernel,by decide +kernel,rfl,(λp hp=>nomatch hp),by rfl,by decide +kernel,(λp hp=>nomatch hp),⟨rfl,rfl⟩,rfl⟩
  obtain⟨t,k⟩:=lt.kn;refine⟨_,(ae (aJ (b4 (bi (bq (aq aZ (by rfl) T.z_isinstance aB (aa (pv 0) (aa (dq T.z_list lH) ac))))) (bK (bi (fz eL eL aj (aq aG (by rfl) T.z_len bc (aa (pv 0) ac)) (aO (v:=.int 10) (by rfl) w9 ⟨_,rfl⟩))))).pt (ai (aw bS)) ax) (ai (aw (aq (fU rfl) (by rfl) T.z_all kO (aa ((ib rfl CN (bf (pv 0)) (λfp s₀ H₀=>(aP vM (hr.mono (by decide)) (by rfl) (aa (pv 0) ac))))) ac))))),?_⟩;refine⟨_,rfl,x,t,"list",rfl,k,.inr (.inr (.inr (.inl rfl))),_,rfl,?_⟩;rcases Kn.cases_lst k with⟨p,xs,rfl,e,rfl⟩|⟨hl,hs⟩
  ·refine am (by decide) ?_
   obtain⟨h100,hth⟩:=lt.parts p xs rfl e;rw[b6 e]at q;unfold fD at q;have bad:(decide ((1:Int)<=(xs.length:Int)) && decide ((xs.length:Int)<=10))=false->Q (.bl false) H:=λz=>by
    have y:=q H (Same.refl _);rw[z,Bool.false_and]at y;exact y
   refine⟨_,rfl,p,xs,rfl,.inl (SqL.of e),_,_,rfl,rfl,_,rfl,a7 (λh1=>?_) (λh1=>?_)⟩
   ·refine⟨_,_,rfl,rfl,_,rfl,a7 (λh2=>?_) (λh2=>?_)⟩
    ·exact bad (by rw[h1,show decide ((xs.length:Int)<=10)=false by simpa using h2];rfl)
    ·have z:(decide ((1:Int)<=(xs.length:Int)) && decide ((xs.length:Int)<=10))=true:=by rw[h1,show decide ((xs.length:Int)<=10)=true by simpa using h2];rfl
     rw[z,Bool.true_and]at q;refine⟨_,rfl,p,rfl,⟨_,SqL.of e⟩,λl hl=>?_⟩;refine ce (K:=K) (a:=p) (xs:=xs) (l:=l) (fv:=[]) (λi acc H2=>i<=xs.length/\acc=((xs.take i).map (bu H)).map V.bl/\Same H H2/\H2 l=some (.lst acc))
      ⟨Nat.zero_le _,rfl,Same.new hl,upd_same⟩ ?_ ?_ ?_
     ·rintro i acc H2 hi ⟨_,rfl,sm,e3⟩
      exact⟨SqL.of (sm _ _ e),e3,be (by rw[List.length_map,List.length_map,List.length_take];omega)⟩
     ·rintro i y acc H2 Kc hy ⟨hi,rfl,sm,e3⟩ kk
      have hlt:i<xs.length:=(List.getElem?_eq_some_iff.mp hy).1;have ty:=hth y (List.mem_of_getElem? hy);obtain⟨kd,kn⟩:=ty.kn;refine⟨_,rfl,y,rfl,vF.mono ty sm,kk _ _ e3 ⟨hlt,?_,λb o eb=>?_,upd_same⟩⟩
      ·rw[de kn sm,List.take_add_one,hy,List.map_append,List.map_append]
       rfl
      ·rw[aA (aK eb hl)]
       exact sm b o eb
     ·rintro acc H2 ⟨_,rfl,sm,e3⟩
      rw[List.take_length]at e3;have y:=q H2 sm;have al:xs.all (bu H)=(xs.map (bu H)).all id:=by rw[List.all_map];rfl
      rw[al]at y;exact⟨l,xs.map (bu H),rfl,SqL.of e3,y⟩
   ·refine⟨_,rfl,dD (bad ?_)⟩
    rw[h1];rfl
  ·have y:=q H (Same.refl _)
   rw[hl]at y;rw[hs];exact dD y
theorem yW:uq ["thing"] ["thing"] (ag (top 54)):=smk
theorem kH{C:Addr}(y7:Df K mg "line_of" (top 54))(va:uG K mg "NoLine" C)(wA:Fn P w K mg base "is_line" ["thing"] 4 wQ):Fx P w K mg base "line_of" ["thing"] 5 [] (wP C):=by
 refine y7.fx yW (λ_ _ _ _ _ _ us hl=>match us,hl with | [_],_=>rfl) (λvs H Q E h=>?_) (λf cdv A outer s H vs Q E hr h=>?_)
 ·obtain⟨x,rfl,_⟩:=h
  rfl
 ·obtain⟨x,rfl,lt,h⟩:=h
  have CN:uQ (ak (CXE P w) P w K mg base ["thing"] "line_of" (ag (top 54)) f cdv A outer s H E) (i7 ((aF (top 54)).getD 1 (.Pass ⟨0,0,0,0⟩))) [] "corner" [] :=
   ⟨by rfl,rfl,by decide +kernel,by decide +kernel,rfl,(λp hp=>nomatch hp),by rfl,by decide +kernel,(λp hp=>nomatch hp),⟨rfl,rfl⟩,rfl⟩
  refine⟨_,(ae (aJ (bi (bq (aP wA (hr.mono (by decide)) (by rfl) (aa (pv 0) ac)))) (ai (aS va (by rfl))) ax) (ai (aw ((ib rfl CN (bf (pv 0)) (λfp s₀ H₀=>(rB (aa (aC (dA (K:=K) rfl) (pv 0) aj (λ_ _=>rfl)) (aa (aC (dA (K:=K) rfl) (pv 0) aj (λ_ _=>rfl)) ac))))))))),?_⟩;refine⟨_,rfl,x,rfl,lt,λH1 s1=>⟨_,rfl,?_⟩⟩;rcases h with⟨hb,hE⟩|⟨p,qs,rfl,L,k⟩
  ·rw[hb]
   exact dD (hE H1 s1)
  rw[L.good];refine dF ?_;have L1:=L.mono s1;have hq:=L.len;have hll:(qs.map λ(q:Addr×Int×Int)=>V.ref q.1).length=qs.length:=List.length_map _;refine⟨_,rfl,p,rfl,⟨_,SqL.of L1.at_.lst⟩,λl hl=>?_⟩;refine ce (K:=K) (a:=p) (xs:=qs.map λ(q:Addr×Int×Int)=>V.ref q.1) (l:=l) (fv:=[]) (λi acc H2=>∃rs:Crn,i<=qs.length/\acc=rs.map (λz=>V.ref z.1)/\rs.map (·.2)=(qs.take i).map (·.2)/\(∀z∈rs,H1 z.1=none/\H2 z.1=some (.tup [.int z.2.1,.int z.2.2]))/\Same H1 H2/\H2 l=some (.lst acc))
   ⟨[],Nat.zero_le _,rfl,rfl,(λz h=>nomatch h),Same.new hl,upd_same⟩ ?_ ?_ ?_
  ·rintro i acc H2 hi ⟨rs,hi',rfl,er,_,sm,e3⟩
   have z:=congrArg List.length er;rw[List.length_map,List.length_map,List.length_take]at z;exact⟨SqL.of (sm _ _ L1.at_.lst),e3,be (by rw[List.length_map];omega)⟩
  ·rintro i y acc H2 Kc hy ⟨rs,hi,rfl,er,hrs,sm,e3⟩ kk
   rw[List.getElem?_map]at hy;obtain⟨q,hqi,rfl⟩:=Option.map_eq_some_iff.mp hy;have hlt:i<qs.length:=(List.getElem?_eq_some_iff.mp hqi).1;have c:=(L1.at_.crn q (List.mem_of_getElem? hqi)).1;have c2:=sm _ _ c;refine⟨_,rfl,q.1,_,_,_,rfl,rfl,SqT.of c2,rfl,_,rfl,q.1,_,_,_,rfl,rfl,SqT.of c2,rfl,sz (by simp),λpt hpt=>?_⟩;have npl:pt≠l:=λz=>by
    subst z;rw[hpt]at e3;cases e3
   have s4:Same H2 (upd H2 pt (.tup [.int q.2.1,.int q.2.2])):=Same.new hpt;refine kk (.ref pt) _ (s4 _ _ e3) ⟨rs++[(pt,q.2)],hlt,by rw[List.map_append];rfl,?_,λz hz=>?_,λb o eb=>?_,upd_same⟩
   ·rw[List.map_append,er,List.take_add_one,hqi,List.map_append]
    rfl
   ·have nl:∀{a:Addr} {o:HO},H1 a=none->upd H2 pt (.tup [.int q.2.1,.int q.2.2]) a=some o->(∃u,o = .tup u)->a≠l:=λ{a o} _ h2 ho z=>by
     subst z;obtain⟨u,rfl⟩:=ho;rw[s4 _ _ e3]at h2;cases h2
    rcases List.mem_append.mp hz with hz|hz
    ·obtain⟨h0,h2⟩:=hrs z hz
     refine⟨h0,?_⟩;rw[aA (nl h0 (s4 _ _ h2) ⟨_,rfl⟩)];exact s4 _ _ h2
    ·rw[List.mem_singleton.mp hz]
     refine⟨Same.free sm hpt,?_⟩;rw[aA npl];exact upd_same
   ·rw[aA (aK eb hl)]
    exact s4 _ _ (sm b o eb)
  ·rintro acc H2 ⟨rs,_,rfl,er,hrs,sm,e3⟩
   rw[hll,List.take_length]at er;refine k l rs H2 (Same.free s1 hl) (λz hz=>Same.free s1 (hrs z hz).1) er ⟨e3,λz hz=>⟨(hrs z hz).2,?_⟩⟩ (s1.trans sm);have m:z.2∈qs.map (·.2):=by
    rw[<- er];exact List.mem_map.mpr ⟨z,hz,rfl⟩
   obtain⟨q,hq',eq⟩:=List.mem_map.mp m;rw[<- eq];exact(L.at_.crn q hq').2
theorem vG:uq ["cell","k","number"] ["cell","k"] (ag (top 185)):=smk
theorem iA(xN:Df K mg "_law_mixed" (top 185)):Fn P w K mg base "_law_mixed" ["cell","k"] 1 xp:=by
 refine xN.fn vG (λ_ _ _ _ _ _ us hl=>match us,hl with | [_,_],_=>rfl) (λvs H Q E h=>?_) (λf cdv A outer s H vs Q E hr h=>?_)
 ·obtain⟨c,k,rfl,_⟩:=h
  rfl
 ·obtain⟨c,k,rfl,q⟩:=h
  refine⟨_,(ae (au (i:=2) vG.nd rfl (Or.inl rfl) (ap bz (ap bT (ap cj (ap cj (ap bz (pv 0) aj) (ap bT aj (pv 1))) aj) aj) aj)) (ae (au (i:=2) vG.nd rfl (Or.inl rfl) (ap bz (ap cj (ap bz (ap bT (pv 2) (pv 2)) aj) (ap bT aj (pv 1))) aj)) (ai (aw (ap bz (ap bT (pv 2) aj) aj))))),?_⟩;refine⟨_,rfl,c,_,rfl,rfl,(by show(0:Int)<2147483629;decide),_,rfl,_,_,rfl,rfl,CM.l ⟨by decide,by decide⟩,_,_,rfl,rfl,_,_,rfl,rfl,_,_,rfl,rfl,CM.r ⟨by decide,by decide⟩,_,_,rfl,rfl,(by show(0:Int)<2147483647;decide),?_⟩;refine⟨_,rfl,_,rfl,_,_,rfl,rfl,CM.l (t8 (Int.emod_nonneg _ (by decide)) (Int.emod_lt_of_pos _ (by decide))),_,_,rfl,rfl,(by show(0:Int)<2147483629;decide),_,rfl,_,_,rfl,rfl,CM.l ⟨by decide,by decide⟩,_,_,rfl,rfl,_,_,rfl,rfl,(by show(0:Int)<2147483629;decide),?_⟩;exact⟨_,rfl,_,_,rfl,rfl,CM.r ⟨by decide,by decide⟩,_,_,rfl,rfl,(by show(0:Int)<2147483647;decide),q _⟩
theorem uw:uq ["cell","many","base","found","left","k","number","turns"] ["cell","many","base"] (ag (top 186)):=smk
theorem fP(xi:Df K mg "_law_numbers" (top 186))(vL:Fn P w K mg base "_law_mixed" ["cell","k"] 1 xp)(T:Txt mg):Fn P w K mg base "_law_numbers" ["cell","many","base"] 2 wt:=by
 refine xi.fn uw (λ_ _ _ _ _ _ us hl=>match us,hl with | [_,_,_],_=>rfl) (λvs H Q E h=>?_) (λf cdv A outer s H vs Q E hr h=>?_)
 ·obtain⟨c,m,b,rfl,_⟩:=h
  rfl
 ·obtain⟨c,m,b,rfl,hm,⟨hb,bb⟩,q⟩:=h
  refine⟨_,(ae (au (i:=3) uw.nd rfl (Or.inl rfl) (rD ac)) (ae (au (i:=4) uw.nd rfl (Or.inl rfl) (ap ku (pv 0) (ap nS aj aj))) (ae (h9 PassesOwn.never rfl (gE rfl T.z_range (aa (pv 1) ac)) (bg (i:=5) uw.nd rfl (Or.inl rfl)) (ae (au (i:=6) uw.nd rfl (Or.inl rfl) (pv 4)) (ae (aJ (ao nW (pv 4) aj (az _)) (ai (au (i:=4) uw.nd rfl (Or.inl rfl) (ap nX (pv 4) (pv 2)))) (ae (au (i:=6) uw.nd rfl (Or.inl rfl) aj) (ae (au (i:=7) uw.nd rfl (Or.inl rfl) aj) (ai (ja PassesOwn.never (ao qO (ap bT (pv 7) aj) (ap cj (kj PySem.F.plainAttrs_int PySem.F.slot_int_bit_length PySem.F.type_int_bit_length mj (pv 2)) aj) (az _)) (ae (au (i:=6) uw.nd rfl (Or.inl rfl) (ap cj (ap bT (pv 6) aj) (aP vL (hr.mono (by decide)) (by rfl) (aa (pv 0) (aa (ap cj (ap bT aj (pv 5)) (pv 7)) ac))))) (ai (au (i:=7) uw.nd rfl (Or.inl rfl) (ap cj (pv 7) aj))))))))) (ai (aT (eK PySem.F.plainAttrs_list PySem.F.slot_list_append PySem.F.type_list_append bJ (pv 3) (aa (ap bz (pv 6) (pv 2)) ac))))))) (ai (aw (pv 3)))))),?_⟩;refine⟨by decide,λl hl=>?_⟩;refine⟨_,rfl,_,_,rfl,rfl,⟨by decide,by decide,by decide⟩,_,_,rfl,rfl,?_⟩;refine⟨_,rfl,_,rfl,by omega,by omega,?_⟩;rw[Int.toNat_natCast];refine gL (λi σ H'=>∃(ns:List Int) (left:Int) (x5 x6 x7:Option V),σ = [some (.int c),some (.int (m:Int)),some (.int b),some (.ref l),some (.int left),x5,x6,x7]/\Same H H'/\H' l=some (.lst (ns.map V.int))/\ns.length=i/\∀n∈ns,0<=n/\n<b)
   ⟨[],_,_,_,_,rfl,Same.new hl,upd_same,rfl,λn h=>nomatch h⟩ ?_ ?_
  ·rintro i σ H' hi ⟨ns,left,x5,x6,x7,rfl,sm,hl',hlen,hns⟩
   refine⟨_,rfl,?_⟩;refine⟨_,rfl,_,_,rfl,rfl,_,rfl,?_⟩;have tail:∀(n left':Int) (x7':Option V),(qL (tBM K "list" kX (xm 3) (iV (tOp (rI (λ_ j=>0<j) λi j=>.int (i % j)) (xm 6) (xm 2)) g9))) { nx:=λσ H'=>∃(ns:List Int) (left:Int) (x5 x6 x7:Option V),σ = [some (.int c),some (.int (m:Int)),some (.int b),some (.ref l),some (.int left),x5,x6,x7]/\Same H H'/\H' l=some (.lst (ns.map V.int))/\ns.length=i+1/\∀n∈ns,0<=n/\n<b,rt:=Q } [some (.int c),some (.int (m:Int)),some (.int b),some (.ref l),some (.int left'),some (.int (0+(i:Int))),some (.int n),x7'] H':=by
    intro n left' x7';refine⟨_,rfl,.inl ⟨rfl,_,SqL.of hl'⟩,_,rfl,_,rfl,n,b,rfl,rfl,hb,l,_,_,rfl,rfl,hl',?_,?_⟩
    ·rw[List.length_map]
     exact be (by omega)
    ·refine⟨ns++[n % b],left',_,_,_,rfl,?_,?_,?_,?_⟩
     ·intro a o ea
      rw[aA (aK ea hl)];exact sm a o ea
     ·rw[upd_same,List.map_append]
      rfl
     ·rw[List.length_append,hlen]
      rfl
     ·intro y hy
      rcases List.mem_append.mp hy with hy|hy
      ·exact hns y hy
      ·rw[List.mem_singleton.mp hy]
       exact⟨Int.emod_nonneg _ (by omega),Int.emod_lt_of_pos _ hb⟩
   refine a7 (λhc=>?_) (λhc=>?_)
   ·refine⟨_,rfl,_,rfl,_,_,rfl,rfl,⟨hb,qy bb (by decide)⟩,?_⟩
    exact tail left (left / b) x7
   ·refine iR (λσ H2=>∃(n t:Int),σ = [some (.int c),some (.int (m:Int)),some (.int b),some (.ref l),some (.int left),some (.int (0+(i:Int))),some (.int n),some (.int t)]/\H2=H'/\0<=t)
     (λσ _=>match σ with | [_,_,_,_,_,_,_,some (.int t)]=>(((cQ b:Nat):Int)+8 - t).toNat|_=>0) ⟨_,_,rfl,rfl,Int.le_refl 0⟩ ?_ ?_
    ·rintro σ H2 ⟨n,t,rfl,rfl,ht⟩
     refine⟨_,rfl,_,_,rfl,rfl,CM.r ⟨by decide,by decide⟩,_,rfl,rfl,b,rfl,rfl,_,_,rfl,rfl,_,_,rfl,rfl,_,rfl,?_⟩;refine a7 (λhd=>?_) (λhd=>?_)
     ·have hd':t*30<((cQ b:Nat):Int)+8:=by simpa using hd
      refine⟨_,rfl,_,_,rfl,rfl,CM.r ⟨by decide,by decide⟩,_,rfl,_,rfl,_,_,rfl,rfl,CM.l ⟨by decide,by decide⟩,_,rfl,_,_,rfl,rfl,c,_,rfl,λz=>⟨_,_,rfl,rfl,?_⟩⟩;refine⟨_,rfl,_,_,rfl,rfl,⟨_,t+1,rfl,rfl,by omega⟩,?_⟩;show(((cQ b:Nat):Int)+8 - (t+1)).toNat<(((cQ b:Nat):Int)+8 - t).toNat;omega
     ·exact tail n left _
    ·rintro σ H2 Q1 Q2 hq h
     obtain⟨v,e,i1,j1,e1,e2,cm,v2,e3,ty,i2,e4,e5,i3,j3,e6,e7,i4,j4,e8,e9,k,ek,r⟩:=h;exact⟨v,e,i1,j1,e1,e2,cm,v2,e3,ty,i2,e4,e5,i3,j3,e6,e7,i4,j4,e8,e9,k,ek,hq _ _ r⟩
  ·rintro σ H' ⟨ns,left,x5,x6,x7,rfl,sm,hl',hlen,hns⟩
   refine⟨_,rfl,?_⟩;exact q l ns H' hlen hns sm hl'
noncomputable def iZ:Str:=Str.ofString "/"
noncomputable def bn(a b:Int):Str:=if b=1 then num a else num a++iZ++num b
inductive xQ (vs:List V) (H:Hp) (Q:VK) (x_3:XK):Prop
 | mk:∀(p:Addr) (a b:Int),(vs = [.ref p])->(H p=some (.tup [.int a,.int b]))->((Dg a/\Dg b))->(Q (.str (bn a b)) H)->xQ vs H Q x_3
theorem mY{n:Int}(h:Dg n):(num n).length<=4301:=lf (by decide) h
theorem dz{n:Nat}(h:n<=100000):n<=sizeLine:=by
 have:sizeLine=16777216:=sizeLine_eq;omega
inductive wN (C:Addr) (vs:List V) (H:Hp) (Q:VK) (E:XK):Prop
 | mk:∀x:Str,(vs = [.str x])->(x.length<=50000)->(((∃n:Int,x=num n/\n.natAbs<10^1000/\∀H',Same H H'->Q (.int n) H')\/((∀n:Int,n.natAbs<10^1000->x≠num n)/\∀H',Same H H'->E (.ref C) none H')))->wN C vs H Q E
theorem vn:uq ["a","top","bottom"] ["a"] (ag (top 148)):=smk
theorem gf(xx:Df K mg "show_ratio" (top 148))(DG:Dig K)(T:Txt mg):Fn P w K mg base "show_ratio" ["a"] 1 xQ:=by
 refine xx.fn vn (λ_ _ _ _ _ _ us hl=>match us,hl with | [_],_=>rfl) (λvs H Q E h=>?_) (λf cdv A outer s H vs Q E hr h=>?_)
 ·obtain⟨p,a,b,rfl,_⟩:=h
  rfl
 ·obtain⟨p,a,b,rfl,e,⟨da,db⟩,q⟩:=h
  refine⟨_,(ae (au (i:=1) vn.nd rfl (Or.inl rfl) (aC bB (pv 0) aj (λ_ _=>rfl))) (ae (au (i:=2) vn.nd rfl (Or.inl rfl) (aC bB (pv 0) aj (λ_ _=>rfl))) (ai (aw (du (ao a9 (pv 2) aj (az _)) (cK (gQ (K:=K) rfl DG rfl) (by rfl) T.z_str fV (aa (pv 1) ac)) (nG (nK (K:=K) rfl DG rfl (pv 1)) ah (nK (K:=K) rfl DG rfl (pv 2)))))))),?_⟩;refine⟨_,rfl,p,_,_,_,rfl,rfl,SqT.of e,rfl,?_⟩;refine⟨_,rfl,p,_,_,_,rfl,rfl,SqT.of e,rfl,?_⟩;refine⟨_,rfl,rfl,_,rfl,a7 (λh=>?_) (λh=>?_)⟩
  ·have h:b=1:=by simpa using h
   refine⟨_,rfl,a,rfl,da,?_⟩;unfold bn at q;rw[if_pos h]at q;exact q
  ·have h:¬b=1:=by simpa using h
   unfold bn at q;rw[if_neg h]at q;have za:=mY da;have zb:=mY db;have zs:(Str.ofString "/").length=1:=rfl;refine⟨_,rfl,.inl ⟨a,rfl,da,_,rfl,dz (by omega),_,rfl,dz (by omega),_,rfl,.inl ⟨b,rfl,db,_,rfl,dz (by omega),q⟩⟩⟩
theorem jZ(x:Str)(c:Nat):Txt.startswith x ⟨#[c]⟩=true↔x.cps.toList[0]? = some c:=by
 rw[<- StrLaws.subAt_one];unfold Txt.startswith;rw[Bool.and_eq_true,decide_eq_true_eq]
theorem gA{x:Str}{c:Nat}:Txt.startswith x ⟨#[c]⟩=true↔∃r,x.cps.toList=c::r:=by
 rw[jZ];cases x.cps.toList with
 | nil=>simp
 | cons a l=>simp
theorem iY{x:Str}{c:Nat}{r:List Nat}(e:x.cps.toList=c::r):(Txt.slice x (some 1) none).cps.toList=r:=by
 have hl:=bA x;rw[e,List.length_cons]at hl;rw[PyProof.Rows.slice_from_eq (x:=x) (i:=1) (b:=x.length) (by decide) (by omega) rfl,e];show List.take ((x.length:Int) - 1).toNat r=r;exact List.take_of_length_le (by omega)
noncomputable def kr(s:Stmt):Scope:=match s with
 | .If (.BoolOp _ [_,.UnaryOp _ (.Call _ [.ListComp _ _ sc _] _ _) _] _) _ _ _=>sc
 | _=>{ kind:=.function,names:=[],isGenerator:=false,isCoroutine:=false }
theorem oZ:(Str.ofString "0123456789").cps.toList = [48,49,50,51,52,53,54,55,56,57]:=by decide +kernel
theorem p6(c:Nat):Txt.contains (Str.ofString "0123456789") ⟨#[c]⟩=decide (48<=c/\c<=57):=by
 refine(StrLaws.found_one (Str.ofString "0123456789") c).trans ?_;rw[oZ,decide_eq_decide];simp only[List.mem_cons,List.not_mem_nil,or_false];omega
theorem gH:Str.ofString "-" = ⟨#[45]⟩:=by decide +kernel
theorem vp:uq ["text","figures","number"] ["text"] (ag (top 153)):=smk
theorem gh{C:Addr}(xz:Df K mg "read_whole" (top 153))(uD:uG K mg "NoText" C)(DG:Dig K)(V_FIGURES:∃tk,mg "FIGURES" = some (.str (Str.ofString "0123456789") tk))(V_MOST:∃tk,mg "MOST_FIGURES" = some (.int 1000 tk))(T:Txt mg):Fx P w K mg base "read_whole" ["text"] 2 [] (wN C):=by
 refine xz.fx vp (λ_ _ _ _ _ _ us hl=>match us,hl with | [_],_=>rfl) (λvs H Q E h=>?_) (λf cdv A outer s H vs Q E hr h=>?_)
 ·obtain⟨x,rfl,_⟩:=h
  rfl
 ·obtain⟨x,rfl,hl,h⟩:=h
  obtain⟨tF,y4⟩:=V_FIGURES;obtain⟨tM,w6⟩:=V_MOST;have CN:uQ (ak (CXE P w) P w K mg base ["text","figures","number"] "read_whole" (ag (top 153)) f cdv A outer s H E) (kr ((aF (top 153)).getD 1 (.Pass ⟨0,0,0,0⟩))) [] "sign" [] :=
   ⟨by rfl,rfl,by decide +kernel,by decide +kernel,rfl,(λp hp=>nomatch hp),by rfl,by decide +kernel,(λp hp=>nomatch hp),⟨rfl,rfl⟩,rfl⟩
  have no:(∀n:Int,n.natAbs<10^1000->x≠num n)->∀H',Same H H'->E (.ref C) none H':=λz H' s'=>by
   rcases h with⟨n,e,hn,_⟩|⟨_,k⟩
   ·exact absurd e (z n hn)
   ·exact k H' s'
  have R:∃u:TS,PSs (ak (CXE P w) P w K mg base ["text","figures","number"] "read_whole" (ag (top 153)) f cdv A outer s H E) ((aF (top 153)).drop 1) u/\∀(F:Str),F.cps.toList=gm x.cps.toList->F.length<=50000->u { nx:=λ_ H'=>Q .non H',rt:=Q } [some (.str x),some (.str F),none] H:=by
   refine⟨_,(ae (aJ (b4 (bi (fz eL eL aj (aq dU (by rfl) T.z_len bc (aa (pv 1) ac)) (aO (v:=.int 1000) (by rfl) w6 ⟨_,rfl⟩))) (bK (bi (bq (aq (fU rfl) (by rfl) T.z_all kO (aa (bL rfl CN (nB (pv 1)) (λfp s₀ H₀=>(bR nV (pv 0) (aO (v:=.str (Str.ofString "0123456789")) (by rfl) y4 ⟨_,rfl⟩) (by rfl)))) ac)))))).pt (ai (aS uD (by rfl))) ax) (ae (au (i:=2) vp.nd rfl (Or.inl rfl) (cK (mF (K:=K) rfl DG) (by rfl) T.z_int pp (aa (pv 0) ac))) (ae (aJ (ao bv (cK (gQ (K:=K) rfl DG rfl) (by rfl) T.z_str fV (aa (pv 2) ac)) (pv 0) (az _)) (ai (aS uD (by rfl))) ax) (ai (aw (pv 2)))))),λF hF hz=>?_⟩;have lF:=bA F;have nf:∀n:Int,n.natAbs<10^1000->x=num n->F.cps.toList=cy n.natAbs:=λn hn e=>by rw[hF,e,ij]
   refine⟨_,rfl,F,rfl,dz (by omega),_,_,rfl,rfl,_,rfl,a7 (λc1=>?_) (λc1=>?_)⟩
   rotate_left
   ·refine⟨_,rfl,dD (no (λn hn e=>?_) H (Same.refl _))⟩
    have z:=nf n hn e;have c1:¬(1:Int)<=(F.length:Int):=by simpa using c1
    refine iI n.natAbs ?_;rw[<- z];exact List.length_eq_zero_iff.mp (by omega)
   have c1:(1:Int)<=(F.length:Int):=by simpa using c1
   refine⟨_,_,rfl,rfl,_,rfl,a7 (λc2=>no (λn hn e=>?_) H (Same.refl _)) (λc2=>?_)⟩
   ·have c2:¬(F.length:Int)<=1000:=by simpa using c2
    have z:=nf n hn e;have:=(jC (k:=1000) (by decide)).mpr hn;rw[<- z]at this;omega
   have c2:(F.length:Int)<=1000:=by simpa using c2
   refine⟨_,rfl,F,rfl,lG (x:=F) (by show F.length<_;omega) (λi v H'=>∃c,F.cps.toList[i]? = some c/\v = .bl (decide (48<=c/\c<=57))) (λi v H H' _ z=>z) ?_ ?_⟩
   ·intro i c H2 Kc hc s2 kk
    refine⟨_,rfl,_,_,rfl,rfl,kk _ _ (Same.refl _) ⟨c,hc,?_⟩⟩;rw[p6]
   ·intro l ys H2 nl s2 f2 hly hr
    have ey:ys=(F.cps.toList.map λc=>decide (48<=c/\c<=57)).map V.bl:=by
     apply List.ext_getElem?;intro i;rw[List.map_map,List.getElem?_map];cases hy:ys[i]? with
     | none =>
      have:F.cps.toList.length<=i:=by
       have:=List.getElem?_eq_none_iff.mp hy;have e9:F.cps.size=F.cps.toList.length:=by simp
       omega
      rw[List.getElem?_eq_none this];rfl
     | some y =>
      obtain⟨c,hc,rfl⟩:=hr i y hy;rw[hc];rfl
    subst ey;refine⟨l,_,rfl,SqL.of f2,_,rfl,a7 (λc3=>no (λn hn e=>?_) H2 s2) (λc3=>?_)⟩
    ·have z:=nf n hn e
     have c3:((F.cps.toList.map λc=>decide (48<=c/\c<=57)).all id)=false:=by simpa only[Bool.not_eq_true']using c3
     rw[z,List.all_map]at c3;have:(cy n.natAbs).all (id ∘ λc=>decide (48<=c/\c<=57))=true:=List.all_eq_true.mpr λc hc=>decide_eq_true (bD _ c hc);rw[this]at c3;cases c3
    have c3:((F.cps.toList.map λc=>decide (48<=c/\c<=57)).all id)=true:=by simpa only[Bool.not_eq_false']using c3
    have ad:PySem.NumText.AllDigits (gm x.cps.toList):=λc hc=>by
     rw[<- hF]at hc;rw[List.all_map,List.all_eq_true]at c3;exact of_decide_eq_true (c3 c hc)
    obtain⟨v,hs,h43,it,hv,hu⟩:=jS (x:=x) (k:=1000) ad (by rw[<- hF];intro z;rw[z]at lF;simp at lF;omega) (by rw[<- hF];omega) (by decide);refine⟨_,rfl,x,v,rfl,hs,h43,it,?_⟩;refine⟨_,rfl,v,rfl,Dg.of hv (by decide),_,rfl,rfl,_,rfl,a7 (λc4=>no (λn hn e=>?_) H2 s2) (λc4=>?_)⟩
    ·have:=hu n e
     subst this;rw[e]at c4;simp at c4
    ·have c4:num v=x:=by simpa using c4
     refine⟨_,rfl,?_⟩;rcases h with⟨n,e,hn,k⟩|⟨hno,_⟩
     ·have:=hu n e
      subst this;exact k H2 s2
     ·exact absurd c4.symm (hno v hv)
  obtain⟨u,hu,rd⟩:=R;refine⟨_,(ae (au (i:=1) vp.nd rfl (Or.inl rfl) (du (bq (eK PySem.F.plainAttrs_str PySem.F.slot_str_startswith PySem.F.type_str_startswith gb (pv 0) (aa ah ac))) (cB pH (pv 0) (dl aj) dm) (pv 0))) hu),?_⟩;refine⟨_,rfl,rfl,x,_,rfl,rfl,_,rfl,a7 (λh1=>?_) (λh1=>?_)⟩
  ·rw[gH]at h1
   obtain⟨r,e⟩:=gA.mp h1;have es:=iY e;have l1:=bA (Txt.slice x (some 1) none);have l2:=bA x;rw[es]at l1;rw[e,List.length_cons]at l2;refine⟨_,rfl,_,rfl,x,rfl,dz (by omega),?_⟩;exact rd _ (by rw[es,e];rfl) (by omega)
  ·refine⟨_,rfl,rd x (iH λr e=>?_).symm hl⟩
   rw[gH,gA.mpr ⟨r,e⟩]at h1;cases h1
theorem gB:iZ=⟨#[47]⟩:=by decide +kernel
theorem jh(n:Int):47∉(num n).cps.toList:=λh=>by
 have:=gG n 47 h;omega
noncomputable def parts(a b:Int):List Int:=if b=1 then [a] else [a,b]
theorem j2(a b:Int):bn a b=Str.join ⟨#[47]⟩ ((parts a b).map num):=by
 unfold bn parts
 split
 ·rfl
 ·rw[gB]
  rfl
theorem eJ(a b:Int):Txt.split (bn a b) (Str.ofString "/")=(parts a b).map num:=by
 rw[j2];rw[show Str.ofString "/" = (⟨#[47]⟩:Str) from gB];refine iX ?_ ?_
 ·unfold parts
  split <;> simp
 ·intro q hq
  obtain⟨n,_,rfl⟩:=List.mem_map.mp hq;exact jh n
structure Wr(a b:Int):Prop where
 low:AE a b
 top:a.natAbs<10^1000
 bot:b.natAbs<10^1000
theorem Wr.dg{a b:Int}(h:Wr a b):Dg a/\Dg b:=⟨Dg.of h.top (by decide),Dg.of h.bot (by decide)⟩
theorem ck{H H':Hp}{t:Addr}(s:Same H H')(n:H' t=none):H t=none:=by
 cases e:H t with
 | none=>rfl
 | some o =>
  rw[s _ _ e]at n;cases n
theorem mT{H:Hp}{p:Addr}{a b:Int}(e:H p=some (.tup [.int a,.int b])):vF H (.ref p):=⟨⟨_,.tup e⟩,λq xs e1 e2 y hy=>by
 cases e1;rw[e]at e2;cases e2;simp only[List.mem_cons,List.not_mem_nil,or_false]at hy;rcases hy with rfl|rfl <;> exact⟨_,.int _⟩⟩
theorem sJ{H:Hp}{p:Addr}{a b:Int}(e:H p=some (.tup [.int a,.int b]))(l:AE a b):ge H (.ref p)=true:=by
 rw[jm e];unfold fC;rw[decide_eq_true l.pos,decide_eq_true l.one];rfl
inductive wO (C:Addr) (vs:List V) (H:Hp) (Q:VK) (E:XK):Prop
 | mk:∀x:Str,(vs = [.str x])->(x.length<=50000)->(((∃a b:Int,x=bn a b/\Wr a b/\∀(p:Addr) (H':Hp),Same H H'->H' p=some (.tup [.int a,.int b])->H p=none->Q (.ref p) H')\/((∀a b:Int,Wr a b->x≠bn a b)/\∀H',Same H H'->E (.ref C) none H')))->wO C vs H Q E
theorem eP:∀{as bs:List Int},as.map num=bs.map num->as=bs
 | [],[],_=>rfl
 | [],_::_,h=>by simp at h
 | _::_,[],h=>by simp at h
 | a::as,b::bs,h=>by
  simp only[List.map_cons,List.cons.injEq]at h;rw[fh h.1,eP h.2]
theorem jP:∀{ps:List Str},(∀p∈ps,∃n:Int,p=num n/\n.natAbs<10^1000)->∃ns:List Int,ps=ns.map num/\∀n∈ns,n.natAbs<10^1000
 | [],_=>⟨[],rfl,λ_ h=>nomatch h⟩
 | p::ps,h=>by
  obtain⟨n,e,hn⟩:=h p List.mem_cons_self;obtain⟨ns,e2,h2⟩:=jP (ps:=ps) λq hq=>h q (List.mem_cons_of_mem _ hq);exact⟨n::ns,by rw[e,e2];rfl,λm hm=>by
   rcases List.mem_cons.mp hm with rfl|hm
   ·exact hn
   ·exact h2 m hm⟩
noncomputable def jn(ns:List Int):Int:=if 1<ns.length then ns.getLast?.getD 1 else 1
theorem nQ{a b:Int}{ns:List Int}(h:ns=parts a b):ns.head?.getD 0=a/\jn ns=b:=by
 subst h;unfold parts jn
 split
 ·rename_i e
  exact⟨rfl,e.symm⟩
 ·exact⟨rfl,rfl⟩
theorem jg{a b:Int}(h:Wr a b):∀n∈parts a b,n.natAbs<10^1000:=λn hn=>by
 unfold parts at hn
 split at hn
 ·rw[List.mem_singleton.mp hn]
  exact h.top
 ·simp only[List.mem_cons,List.not_mem_nil,or_false]at hn
  rcases hn with rfl|rfl
  ·exact h.top
  ·exact h.bot
theorem ar{α:Type}(x:α)(xs:List α):atI (x::xs) 0=some x:=by
 unfold atI ixN;rw[if_pos (Int.le_refl 0),if_pos (by rw[List.length_cons];omega)];rfl
theorem qA{α:Type}{xs:List α}{b:α}(h:xs.getLast? = some b):atI xs (-1)=some b:=by
 have hl:0<xs.length:=by
  cases xs with
  | nil=>cases h
  | cons _ _=>simp
 unfold atI ixN;rw[List.getLast?_eq_getElem?]at h;rw[if_neg (by decide),if_pos (by omega),show((-1:Int)+(xs.length:Int)).toNat=xs.length - 1 by omega];exact h
theorem hG{x y p:Str}(h:p∈Txt.split x y):p.length<=x.length:=PyProof.Rows.part_short h
theorem vq:uq ["text","numbers","fraction"] ["text"] (ag (top 154)):=smk
theorem gi{C:Addr}(xA:Df K mg "read_ratio" (top 154))(uD:uG K mg "NoText" C)(we:Fn P w K mg base "is_ratio" ["thing"] 2 zw)(vy:Fn P w K mg base "show_ratio" ["a"] 1 xQ)(uF:Fx P w K mg base "read_whole" ["text"] 2 [] (wN C))(T:Txt mg):Fx P w K mg base "read_ratio" ["text"] 3 [] (wO C):=by
 refine xA.fx vq (λ_ _ _ _ _ _ us hl=>match us,hl with | [_],_=>rfl) (λvs H Q E h=>?_) (λf cdv A outer s H vs Q E hr h=>?_)
 ·obtain⟨x,rfl,_⟩:=h
  rfl
 ·obtain⟨x,rfl,hl,h⟩:=h
  have CN:uQ (ak (CXE P w) P w K mg base ["text","numbers","fraction"] "read_ratio" (ag (top 154)) f cdv A outer s H E) (m8 ((aF (top 154)).getD 0 (.Pass ⟨0,0,0,0⟩))) [] "part" [] :=
   ⟨by rfl,rfl,by decide +kernel,by decide +kernel,rfl,(λp hp=>nomatch hp),by rfl,by decide +kernel,(λp hp=>nomatch hp),⟨rfl,rfl⟩,rfl⟩
  have no:(∀a b:Int,Wr a b->x≠bn a b)->∀H',Same H H'->E (.ref C) none H':=λz H' s'=>by
   rcases h with⟨a,b,e,wr,_⟩|⟨_,k⟩
   ·exact absurd e (z a b wr)
   ·exact k H' s'
  have hsp:∀a b:Int,x=bn a b->Txt.split x (Str.ofString "/")=(parts a b).map num:=λa b e=>by rw[e,eJ]
  have R:∃u:TS,PSs (ak (CXE P w) P w K mg base ["text","numbers","fraction"] "read_ratio" (ag (top 154)) f cdv A outer s H E) ((aF (top 154)).drop 2) u/\∀(l t:Addr) (a b:Int) (H3:Hp),(∀a' b',Wr a' b'->x=bn a' b'->a=a'/\b=b')->a.natAbs<10^1000->b.natAbs<10^1000->Same H H3->H3 t=some (.tup [.int a,.int b])->H t=none->u { nx:=λ_ H'=>Q .non H',rt:=Q } [some (.str x),some (.ref l),some (.ref t)] H3:=by
   refine⟨_,(ae (aJ (b4 (bi (bq (aP we (hr.mono (by decide)) (by rfl) (aa (pv 2) ac)))) (bK (ao bv (aP vy (hr.mono (by decide)) (by rfl) (aa (pv 2) ac)) (pv 0) (az _)))).pt (ai (aS uD (by rfl))) ax) (ai (aw (pv 2)))),λl t a b H3 hu ha hb s3 f3 n3=>?_⟩;refine⟨_,rfl,_,rfl,mT f3,_,rfl,a7 (λc1=>no (λa' b' w' e=>?_) H3 s3) (λc1=>?_)⟩
   ·obtain⟨rfl,rfl⟩:=hu a' b' w' e
    rw[sJ f3 w'.low]at c1;cases c1
   have lw:AE a b:=by
    have c1:ge H3 (.ref t)=true:=by simpa using c1
    rw[jm f3]at c1;unfold fC at c1;rw[Bool.and_eq_true,decide_eq_true_eq,decide_eq_true_eq]at c1;exact⟨c1.1,c1.2⟩
   have wr:Wr a b:=⟨lw,ha,hb⟩;refine⟨_,rfl,t,a,b,rfl,f3,wr.dg,_,rfl,rfl,_,rfl,a7 (λc2=>no (λa' b' w' e=>?_) H3 s3) (λc2=>?_)⟩
   ·obtain⟨rfl,rfl⟩:=hu a' b' w' e
    rw[e]at c2;simp at c2
   ·have c2:bn a b=x:=by simpa using c2
    rcases h with⟨a',b',e,w',k⟩|⟨z,_⟩
    ·obtain⟨rfl,rfl⟩:=hu a' b' w' e
     exact⟨_,rfl,k t H3 s3 f3 n3⟩
    ·exact absurd c2.symm (z a b wr)
  obtain⟨u,hu,rd⟩:=R;refine⟨_,(ae (jb (j:=1) CN vq.nd rfl rfl (bf (eK PySem.F.plainAttrs_str PySem.F.slot_str_split PySem.F.type_str_split fB (pv 0) (aa ah ac))) (λfp s₀ H₀=>(nJ uF (hr.mono (by decide)) (by rfl) (aa (pv 0) ac)))) (ae (au (i:=2) vq.nd rfl (Or.inl rfl) (aM (aa (aC av (pv 1) aj (λ_ _=>rfl)) (aa (du (ao nW (aq aG (by rfl) T.z_len bc (aa (pv 1) ac)) aj (az _)) (aC av (pv 1) (qN mO aj) (λ_ _=>rfl)) aj) ac)))) hu)),?_⟩;refine⟨_,rfl,rfl,_,_,rfl,rfl,rfl,by omega,λl1 H1 s1 f1 n1=>?_⟩;have hpl:=PyProof.Rows.split_le x (Str.ofString "/");refine⟨l1,rfl,⟨_,SqL.of f1⟩,qo (SqL.of f1) (by rw[List.length_map];omega) (λi v H'=>∃n:Int,(Txt.split x (Str.ofString "/"))[i]? = some (num n)/\n.natAbs<10^1000/\v = .int n) (λi v H H' _ z=>z) ?_ ?_⟩
  ·intro i y H2 Kc hx s2 kk
   rw[List.getElem?_map]at hx;obtain⟨pt,hp,rfl⟩:=Option.map_eq_some_iff.mp hx;have hm:=List.mem_of_getElem? hp;have hsz:=hG hm
   by_cases hn:∃n:Int,pt=num n/\n.natAbs<10^1000
   ·obtain⟨n,rfl,hn⟩:=hn
    exact⟨_,rfl,num n,rfl,by omega,.inl ⟨n,rfl,hn,λH3 s3=>kk _ _ s3 ⟨n,hp,hn,rfl⟩⟩⟩
   ·refine⟨_,rfl,pt,rfl,by omega,.inr ⟨λn hb e=>hn ⟨n,e,hb⟩,λH3 s3=>no (λa b w' e=>?_) H3 (s1.trans (s2.trans s3))⟩⟩
    rw[hsp a b e]at hm;obtain⟨n,hn2,e2⟩:=List.mem_map.mp hm;exact hn ⟨n,e2.symm,jg w' n hn2⟩
  ·intro l ys H2 nl s2 f2 hly hr
   rw[List.length_map]at hly;obtain⟨ns,e1,hsm⟩:=jP (ps:=Txt.split x (Str.ofString "/")) λp hp=>by
    obtain⟨i,hi,e⟩:=List.mem_iff_getElem.mp hp;have hy:i<ys.length:=by omega
    obtain⟨n,h1,h2,_⟩:=hr i _ (List.getElem?_eq_getElem hy);rw[List.getElem?_eq_getElem hi,e]at h1;exact⟨n,Option.some.inj h1,h2⟩
   have ey:ys=ns.map V.int:=by
    apply List.ext_getElem?;intro i;rw[List.getElem?_map];cases hy:ys[i]? with
    | none =>
     have h2:=List.getElem?_eq_none_iff.mp hy;have:(Txt.split x (Str.ofString "/")).length=ns.length:=by rw[e1,List.length_map]
     rw[List.getElem?_eq_none (by omega)];rfl
    | some y =>
     obtain⟨n,h1,_,rfl⟩:=hr i y hy;rw[e1,List.getElem?_map]at h1;obtain⟨m,hm,e2⟩:=Option.map_eq_some_iff.mp h1;rw[hm,fh e2];rfl
   subst ey;have hun:∀a' b',Wr a' b'->x=bn a' b'->ns.head?.getD 0=a'/\jn ns=b':=λa' b' _ e=>nQ (eP (by rw[<- e1,hsp a' b' e]));have S2:=s1.trans s2
   match hns:ns with
   | [] =>
    have:=PyProof.Rows.split_pos x (Str.ofString "/");rw[e1]at this;exact absurd this (by simp)
   | [a] =>
    have f2:H2 l=some (.lst [.int a]):=f2;refine⟨_,rfl,l,_,_,_,rfl,rfl,SqL.of f2,rfl,_,rfl,l,_,rfl,.inl (SqL.of f2),_,_,rfl,rfl,_,rfl,am (by simp) ?_⟩;exact⟨sz (by simp),λt H3 s3 f3 n3=>rd l t a 1 H3 hun (hsm a (by simp)) (by show 1<10^1000;exact Nat.one_lt_pow (by decide) (by decide)) (S2.trans s3) f3 (ck S2 n3)⟩
   | a::c::r =>
    have f2:H2 l=some (.lst (.int a::.int c::r.map V.int)):=f2;obtain⟨b,hb1,hb2⟩:∃b,(a::c::r).getLast? = some b/\b∈a::c::r:=⟨_,List.getLast?_eq_some_getLast (by simp),List.getLast_mem (by simp)⟩;have hat:atI ((a::c::r).map V.int) (-1)=some (.int b):=by
     refine qA ?_;rw[List.getLast?_map,hb1];rfl
    have hlo:jn (a::c::r)=b:=by
     unfold jn;rw[if_pos (by simp),hb1];rfl
    refine⟨_,rfl,l,_,_,_,rfl,rfl,SqL.of f2,ar _ _,_,rfl,l,_,rfl,.inl (SqL.of f2),_,_,rfl,rfl,_,rfl,aW (by simp;omega) ?_⟩;refine⟨_,rfl,_,rfl,l,_,_,_,rfl,rfl,SqL.of f2,hat,?_⟩;exact⟨sz (by simp),λt H3 s3 f3 n3=>rd l t a b H3 (λa' b' w' e=>by rw[<- hlo];exact hun a' b' w' e) (hsm a (by simp)) (hsm b hb2) (S2.trans s3) f3 (ck S2 n3)⟩
noncomputable def cv:Str:=Str.ofString ","
theorem cf:cv=⟨#[44]⟩:=by decide +kernel
noncomputable def bW(c:Int×Int):Str:=num c.1++cv++num c.2
noncomputable def Th(c:Int×Int):Prop:=c.1.natAbs<10^1000/\c.2.natAbs<10^1000
theorem rJ{n:Int}{c:Nat}(h:c≠45/\(c<48\/57<c)):c∉(num n).cps.toList:=λhm=>by
 have:=gG n c hm;omega
theorem bw(c:Int×Int):Txt.split (bW c) cv = [num c.1,num c.2]:=by
 rw[cf];have e:bW c=Str.join ⟨#[44]⟩ [num c.1,num c.2]:=by
  unfold bW;rw[cf];rfl
 rw[e];refine iX (by simp) λq hq=>?_;simp only[List.mem_cons,List.not_mem_nil,or_false]at hq;rcases hq with rfl|rfl <;> exact rJ (by decide)
theorem pk{c d:Int×Int}(h:bW c=bW d):c=d:=by
 have e:[num c.1,num c.2] = [num d.1,num d.2]:=by rw[<- bw,<- bw,h]
 simp only[List.cons.injEq,and_true]at e;exact Prod.ext (fh e.1) (fh e.2)
inductive zi (C:Addr) (vs:List V) (H:Hp) (Q:VK) (E:XK):Prop
 | mk:∀(x y:Str),(vs = [.str x,.str y])->((y.length == 0)=false)->(x.length<=50000)->(((∃a b,Txt.split x y = [a,b]/\∀(l:Addr) (H':Hp),Same H H'->H' l=some (.lst [.str a,.str b])->Q (.ref l) H')\/((∀a b,Txt.split x y≠[a,b])/\∀H',Same H H'->E (.ref C) none H')))->zi C vs H Q E
inductive xo (C:Addr) (vs:List V) (H:Hp) (Q:VK) (E:XK):Prop
 | mk:∀x:Str,(vs = [.str x])->(x.length<=50000)->(((∃c,x=bW c/\Th c/\∀(p:Addr) (H':Hp),Same H H'->H' p=some (.tup [.int c.1,.int c.2])->H p=none->Q (.ref p) H')\/((∀c,Th c->x≠bW c)/\∀H',Same H H'->E (.ref C) none H')))->xo C vs H Q E
theorem wF:uq ["text","sign","parts"] ["text","sign"] (ag (top 155)):=smk
theorem iw{C:Addr}(xJ:Df K mg "two_parts" (top 155))(uD:uG K mg "NoText" C)(T:Txt mg):Fx P w K mg base "two_parts" ["text","sign"] 1 [] (zi C):=by
 refine xJ.fx wF (λ_ _ _ _ _ _ us hl=>match us,hl with | [_,_],_=>rfl) (λvs H Q E h=>?_) (λf cdv A outer s H vs Q E hr h=>?_)
 ·obtain⟨x,y,rfl,_⟩:=h
  rfl
 ·obtain⟨x,y,rfl,hy,hl,h⟩:=h
  refine⟨_,(ae (au (i:=2) wF.nd rfl (Or.inl rfl) (eK PySem.F.plainAttrs_str PySem.F.slot_str_split PySem.F.type_str_split fB (pv 0) (aa (pv 1) ac))) (ae (aJ (ao bv (aq aG (by rfl) T.z_len bc (aa (pv 2) ac)) aj (az _)) (ai (aS uD (by rfl))) ax) (ai (aw (pv 2))))),?_⟩;have hpl:=PyProof.Rows.split_le x y;refine⟨_,rfl,rfl,_,rfl,x,y,rfl,rfl,hy,by omega,λl1 H1 s1 f1 n1=>?_⟩;refine⟨_,rfl,l1,_,rfl,.inl (SqL.of f1),rfl,_,rfl,a7 (λc1=>?_) (λc1=>?_)⟩
  ·rcases h with⟨a,b,e,_⟩|⟨_,k⟩
   ·rw[e]at c1
    simp at c1
   ·exact k H1 s1
  ·have c1:((Txt.split x y).map V.str).length=2:=by
    have:((((Txt.split x y).map V.str).length:Nat):Int)=2:=by simpa using c1
    omega
   rw[List.length_map]at c1;obtain⟨a,b,e⟩:=uf c1;refine⟨_,rfl,?_⟩;rcases h with⟨a',b',e',k⟩|⟨z,_⟩
   ·rw[e']at f1
    exact k l1 H1 s1 f1
   ·exact absurd e (z a b)
theorem vZ:uq ["text","parts"] ["text"] (ag (top 156)):=smk
theorem fN{C:Addr}(xg:Df K mg "read_corner" (top 156))(vH:Fx P w K mg base "two_parts" ["text","sign"] 1 [] (zi C))(uF:Fx P w K mg base "read_whole" ["text"] 2 [] (wN C)):Fx P w K mg base "read_corner" ["text"] 3 [] (xo C):=by
 refine xg.fx vZ (λ_ _ _ _ _ _ us hl=>match us,hl with | [_],_=>rfl) (λvs H Q E h=>?_) (λf cdv A outer s H vs Q E hr h=>?_)
 ·obtain⟨x,rfl,_⟩:=h
  rfl
 ·obtain⟨x,rfl,hl,h⟩:=h
  refine⟨_,(ae (au (i:=1) vZ.nd rfl (Or.inl rfl) (bQ vH (hr.mono (by decide)) (by rfl) (aa (pv 0) (aa ah ac)))) (ai (aw (aM (aa (bQ uF (hr.mono (by decide)) (by rfl) (aa (aC av (pv 1) aj (λ_ _=>rfl)) ac)) (aa (bQ uF (hr.mono (by decide)) (by rfl) (aa (aC av (pv 1) aj (λ_ _=>rfl)) ac)) ac)))))),?_⟩;have no:(∀c,Th c->x≠bW c)->∀H',Same H H'->E (.ref C) none H':=λz H' s'=>by
   rcases h with⟨c,e,th,_⟩|⟨_,k⟩
   ·exact absurd e (z c th)
   ·exact k H' s'
  have hjo:=StrLaws.join_split x cv;have yl:(cv.length == 0)=false:=rfl
  by_cases hsp:∃a b,Txt.split x cv = [a,b]
  ·obtain⟨a,b,e⟩:=hsp
   have la:a.length<=x.length:=PyProof.Rows.part_short (x:=x) (y:=cv) (by rw[e];simp);have lb:b.length<=x.length:=PyProof.Rows.part_short (x:=x) (y:=cv) (by rw[e];simp);refine⟨_,rfl,x,cv,rfl,yl,hl,.inl ⟨a,b,e,λl H1 s1 f1=>?_⟩⟩;refine⟨_,rfl,l,_,_,_,rfl,rfl,SqL.of f1,rfl,a,rfl,by omega,?_⟩
   by_cases ha:∃n:Int,a=num n/\n.natAbs<10^1000
   ·obtain⟨n,rfl,hn⟩:=ha
    refine .inl ⟨n,rfl,hn,λH2 s2=>?_⟩;refine⟨_,rfl,l,_,_,_,rfl,rfl,SqL.of (s2 _ _ f1),rfl,b,rfl,by omega,?_⟩
    by_cases hb:∃m:Int,b=num m/\m.natAbs<10^1000
    ·obtain⟨m,rfl,hm⟩:=hb
     refine .inl ⟨m,rfl,hm,λH3 s3=>⟨sz (by simp),λp H4 s4 f4 n4=>?_⟩⟩;have S3:=s1.trans (s2.trans s3);have ex:x=bW (n,m):=by
      rw[<- hjo,e];unfold bW;rw[cf];rfl
     rcases h with⟨c,e',th,k⟩|⟨z,_⟩
     ·have:=pk (ex.symm.trans e')
      subst this;exact k p H4 (S3.trans s4) f4 (ck S3 n4)
     ·exact absurd ex (z (n,m) ⟨hn,hm⟩)
    ·refine .inr ⟨λm hm e2=>hb ⟨m,e2,hm⟩,λH3 s3=>no (λc th e'=>?_) H3 (s1.trans (s2.trans s3))⟩
     rw[e',bw]at e;simp only[List.cons.injEq,and_true]at e;exact hb ⟨c.2,e.2.symm,th.2⟩
   ·refine .inr ⟨λm hm e2=>ha ⟨m,e2,hm⟩,λH3 s3=>no (λc th e'=>?_) H3 (s1.trans s3)⟩
    rw[e',bw]at e;simp only[List.cons.injEq,and_true]at e;exact ha ⟨c.1,e.1.symm,th.1⟩
  ·refine⟨_,rfl,x,cv,rfl,yl,hl,.inr ⟨λa b e=>hsp ⟨a,b,e⟩,λH1 s1=>no (λc th e'=>?_) H1 s1⟩⟩
   exact hsp ⟨_,_,by rw[e',bw]⟩
noncomputable def lcE:Nat->Expr->List Scope
 | 0,_=>[]
 | n+1,e=>match e with
  | .ListComp _ _ sc _=>[sc]
  | .Call f as _ _=>lcE n f++as.flatMap (lcE n)
  | .BoolOp _ vs _=>vs.flatMap (lcE n)
  | .UnaryOp _ a _=>lcE n a
  | .Compare a _ bs _=>lcE n a++bs.flatMap (lcE n)
  | _=>[]
noncomputable def lcS:Nat->Stmt->List Scope
 | 0,_=>[]
 | n+1,s=>match s with
  | .Return (some e) _=>lcE 6 e
  | .Assign _ e _=>lcE 6 e
  | .Expr e _=>lcE 6 e
  | .If c b e _=>lcE 6 c++(b.flatMap (lcS n)++e.flatMap (lcS n))
  | .For _ _ b _ _=>b.flatMap (lcS n)
  | .Try b _ _ _ _=>b.flatMap (lcS n)
  | _=>[]
noncomputable def lcA(s:Stmt)(i:Nat):Scope:=((aF s).flatMap (lcS 4)).getD i { kind:=.function,names:=[],isGenerator:=false,isCoroutine:=false }
noncomputable abbrev Cs:=List (Int×Int)
noncomputable abbrev Bk:=List (Str×Cs)
noncomputable def But(N:List Addr)(H H':Hp):Prop:=∀a o,a∉N->H a=some o->H' a=some o
theorem But.of{N:List Addr}{H H':Hp}(s:Same H H'):But N H H':=λa o _ e=>s a o e
theorem But.trans{N:List Addr}{H H' H2:Hp}(a:But N H H')(b:But N H' H2):But N H H2:=λx o n e=>b x o n (a x o n e)
theorem But.upd{N:List Addr}{H H':Hp}{l:Addr}{xs ys:List V}(u:zg H H' l xs ys)(h:l∈N):But N H H':=λa o n e=>by
 rw[u.oth a (λz=>n (z▸h))];exact e
theorem But.put{N:List Addr}{H:Hp}{l:Addr}{o:HO}(h:l∈N):But N H (L2.upd H l o):=λa o' n e=>by
 rw[aA (b:=a) (a:=l) (λz=>n (by rw[z];exact h))];exact e
noncomputable def gu(M:List Addr)(H:Hp):Prop:=∀a∈M,H a≠none/\∀xs,H a≠some (.tup xs)
theorem gu.out{M:List Addr}{H:Hp}{a:Addr}(L:gu M H)(h:H a=none):a∉M:=λm=>(L a m).1 h
theorem gu.go{M N:List Addr}{H H':Hp}(L:gu M H)(b:But N H H')(hN:∀a∈N,H' a≠none/\∀xs,H' a≠some (.tup xs)):gu M H':=λa m=>by
 by_cases h:a∈N
 ·exact hN a h
 ·cases e:H a with
  | none=>exact absurd e (L a m).1
  | some o =>
   have:=L a m;rw[e]at this;rw[b a o h e];exact this
theorem gu.mono{M:List Addr}{H H':Hp}(L:gu M H)(s:Same H H'):gu M H':=L.go (N:=[]) (.of s) (by simp)
structure Ln(M:List Addr)(H:Hp)(p:Addr)(cs:Cs):Prop where
 ex:∃qs:Crn,qs.map (·.2)=cs/\p∉M/\H p=some (.lst (qs.map λq=>V.ref q.1))/\∀q∈qs,q.1∉M/\H q.1=some (.tup [.int q.2.1,.int q.2.2])
theorem bN{M M':List Addr}{H:Hp}{a:Addr}{o:HO}(hM:∀x∈M',x∈M\/H x=none)(n:a∉M)(e:H a=some o):a∉M':=λm=>by
 rcases hM a m with h|h
 ·exact n h
 ·rw[e]at h;cases h
theorem Ln.re{M M':List Addr}{H:Hp}{p:Addr}{cs:Cs}(L:Ln M H p cs)(hM:∀a∈M',a∈M\/H a=none):Ln M' H p cs:=by
 obtain⟨qs,h1,h2,h3,h4⟩:=L.ex;exact⟨qs,h1,bN hM h2 h3,h3,λq hq=>⟨bN hM (h4 q hq).1 (h4 q hq).2,(h4 q hq).2⟩⟩
theorem Ln.go{M N:List Addr}{H H':Hp}{p:Addr}{cs:Cs}(L:Ln M H p cs)(b:But N H H')(hN:∀a∈N,a∈M\/H a=none):Ln M H' p cs:=by
 obtain⟨qs,h1,h2,h3,h4⟩:=L.ex;exact⟨qs,h1,h2,b _ _ (bN hN h2 h3) h3,λq hq=>⟨(h4 q hq).1,b _ _ (bN hN (h4 q hq).1 (h4 q hq).2) (h4 q hq).2⟩⟩
noncomputable def En(M:List Addr)(H:Hp)(r:Addr×Str×Cs):Prop:=r.1∉M/\∃l,H r.1=some (.tup [.str r.2.1,.ref l])/\Ln M H l r.2.2
theorem En.re{M M':List Addr}{H:Hp}{r:Addr×Str×Cs}(L:En M H r)(hM:∀a∈M',a∈M\/H a=none):En M' H r:=by
 obtain⟨h1,l,h2,h3⟩:=L;exact⟨bN hM h1 h2,l,h2,h3.re hM⟩
theorem En.go{M N:List Addr}{H H':Hp}{r:Addr×Str×Cs}(L:En M H r)(b:But N H H')(hN:∀a∈N,a∈M\/H a=none):En M H' r:=by
 obtain⟨h1,l,h2,h3⟩:=L;exact⟨h1,l,b _ _ (bN hN h1 h2) h2,h3.go b hN⟩
structure Bo(M:List Addr)(H:Hp)(k:Addr)(es:Bk):Prop where
 ex:∃rs:List (Addr×Str×Cs),rs.map (·.2)=es/\k∉M/\H k=some (.lst (rs.map λr=>V.ref r.1))/\∀r∈rs,En M H r
theorem Bo.re{M M':List Addr}{H:Hp}{k:Addr}{es:Bk}(L:Bo M H k es)(hM:∀a∈M',a∈M\/H a=none):Bo M' H k es:=by
 obtain⟨rs,h1,h2,h3,h4⟩:=L.ex;exact⟨rs,h1,bN hM h2 h3,h3,λr hr=>(h4 r hr).re hM⟩
theorem Bo.go{M N:List Addr}{H H':Hp}{k:Addr}{es:Bk}(L:Bo M H k es)(b:But N H H')(hN:∀a∈N,a∈M\/H a=none):Bo M H' k es:=by
 obtain⟨rs,h1,h2,h3,h4⟩:=L.ex;exact⟨rs,h1,h2,b _ _ (bN hN h2 h3) h3,λr hr=>(h4 r hr).go b hN⟩
structure Pa(M:List Addr)(H:Hp)(e:Addr)(ps:List Bk):Prop where
 ex:∃ks:List (Addr×Bk),ks.map (·.2)=ps/\H e=some (.lst (ks.map λr=>V.ref r.1))/\∀r∈ks,Bo M H r.1 r.2
theorem Pa.re{M M':List Addr}{H:Hp}{e:Addr}{ps:List Bk}(L:Pa M H e ps)(hM:∀a∈M',a∈M\/H a=none):Pa M' H e ps:=by
 obtain⟨ks,h1,h2,h3⟩:=L.ex;exact⟨ks,h1,h2,λr hr=>(h3 r hr).re hM⟩
theorem Pa.go{M N:List Addr}{H H':Hp}{e:Addr}{ps:List Bk}(L:Pa M H e ps)(b:But N H H')(hN:∀a∈N,a∈M\/H a=none)(he:e∉N):Pa M H' e ps:=by
 obtain⟨ks,h1,h2,h3⟩:=L.ex;exact⟨ks,h1,b _ _ he h2,λr hr=>(h3 r hr).go b hN⟩
noncomputable def fsB(k e:Addr):List (Str×V):=[("kept",.ref k),("earlier",.ref e)]
structure uR(M:List Addr)(C:Addr)(H:Hp)(b e:Addr)(kept:Bk)(past:List Bk):Prop where
 ex:∃dx k,H b=some (.ins C dx (fsB k e))/\Bo M H k kept/\Pa M H e past
theorem uR.re{M M':List Addr}{C:Addr}{H:Hp}{b e:Addr}{kept:Bk}{past:List Bk}(L:uR M C H b e kept past)(hM:∀a∈M',a∈M\/H a=none):uR M' C H b e kept past:=by
 obtain⟨dx,k,h1,h2,h3⟩:=L.ex;exact⟨dx,k,h1,h2.re hM,h3.re hM⟩
theorem uR.go{M N:List Addr}{C:Addr}{H H':Hp}{b e:Addr}{kept:Bk}{past:List Bk}(L:uR M C H b e kept past)(bt:But N H H')(hN:∀a∈N,a∈M\/H a=none)(hb:b∉N)(he:e∉N):uR M C H' b e kept past:=by
 obtain⟨dx,k,h1,h2,h3⟩:=L.ex;exact⟨dx,k,bt _ _ hb h1,h2.go bt hN,h3.go bt hN he⟩
theorem uR.mono{M:List Addr}{C:Addr}{H H':Hp}{b e:Addr}{kept:Bk}{past:List Bk}(L:uR M C H b e kept past)(s:Same H H'):uR M C H' b e kept past:=L.go (N:=[]) (.of s) (by simp) (by simp) (by simp)
theorem uR.ne{M:List Addr}{C:Addr}{H:Hp}{b e:Addr}{kept:Bk}{past:List Bk}(L:uR M C H b e kept past):b≠e:=λz=>by
 obtain⟨dx,k,h1,h2,h3⟩:=L.ex;obtain⟨ks,_,h4,_⟩:=h3.ex;rw[z,h4]at h1;cases h1
noncomputable def ABC:Str:=Str.ofString "abcdefghijklmnopqrstuvwxyz"
noncomputable def aQ(n:Str):Bool:=(decide ((1:Int)<=(n.length:Int)) && decide ((n.length:Int)<=8)) && (!decide (V.str n=V.str (Str.ofString "none")) && n.cps.toList.all (λc=>Txt.contains ABC ⟨#[c]⟩))
noncomputable def nmV:V->Bool
 | .str n=>aQ n
 | _=>false
structure Nm(H:Hp)(x:V):Prop where
 kn:∃t,Kn H x t
 rp:∃d,Rp H 3 x d
 sz:∀z,x = .str z->z.length<=100
theorem Nm.str{H:Hp}{x:V}(n:Nm H x)(h:nmV x=true):∃z,x = .str z/\aQ z=true:=by
 cases x <;> first|exact⟨_,rfl,h⟩|cases h
noncomputable def ri(k:Bk)(n:Str):Bk:=k.filter λr=>!decide (V.str r.1=V.str n)
noncomputable def trn(k:Bk)(n:Str):Bk:=k.map λr=>if r.1=n then (r.1,r.2.reverse) else r
noncomputable def fnd(k:Bk)(n:Str):Option Cs:=(k.find? λr=>decide (V.str r.1=V.str n)).map (·.2)
structure yk(k:Bk):Prop where
 len:k.length<=6
 nd:(k.map (·.1)).Nodup
 nm:∀r∈k,aQ r.1=true
 ln:∀r∈k,r.2.length<=10
noncomputable def bj(way:Nat)(x:V)(lo:Option Cs)(kept:Bk)(past:List Bk):Nat×Bk×List Bk :=
 if way=5 then (match past.getLast? with
  | none=>(5,kept,past)
  | some p=>(0,p,past.dropLast))
 else match x with
  | .str n=>if aQ n=false then (1,kept,past) else
   if way<3 then (if n∈kept.map (·.1) then (2,kept,past) else match lo with
    | none=>(3,kept,past)
    | some cs=>if 6<=kept.length then (4,kept,past) else (0,kept++[(n,cs)],past++[kept]))
   else (match fnd kept n with
    | none=>(1,kept,past)
    | some _=>(0,if way=3 then ri kept n else trn kept n,past++[kept]))
  | _=>(1,kept,past)
theorem hX{β:Type}{G:Addr×β->Prop}:∀{es:List β} {ys:List V},ys.length=es.length->(∀(i:Nat) y e,ys[i]? = some y->es[i]? = some e->∃a,y = .ref a/\G (a,e))->∃rs:List (Addr×β),rs.map (·.2)=es/\ys=rs.map (λr=>V.ref r.1)/\∀r∈rs,G r
 | [],[],_,_=>⟨[],rfl,rfl,λ_ h=>nomatch h⟩
 | [],_::_,h,_=>by cases h
 | _::_,[],h,_=>by cases h
 | e::es,y::ys,h,q=>by
  obtain⟨a,rfl,g⟩:=q 0 y e rfl rfl;obtain⟨rs,h1,h2,h3⟩:=hX (G:=G) (es:=es) (ys:=ys) (by simpa using h) (λi y' e' hy he=>q (i+1) y' e' hy he);refine⟨(a,e)::rs,by rw[List.map_cons,h1],by rw[List.map_cons,h2],λr hr=>?_⟩;rcases List.mem_cons.mp hr with z|z
  ·rw[z];exact g
  ·exact h3 r z
theorem gO{K:W.Frag}{a:Addr}{xs:List V}{fv:List (Str×Nat)}{g:TG}{tc:TT}{te:TE}{σ:St}{H1:Hp}{Q:VK}{k:Nat}(hD:H1 a=some (.lst xs))(hlen:xs.length<1000)(sel:V->Bool)(val:V->V)
  (hs:∀x H2 (τ:St) (Kc:VK) (Kn:Hp->Prop),x∈xs->Same H1 H2->τ.length=k->(sel x=true->∀H4,Same H2 H4->Kc (val x) H4)->(sel x=false->∀H4,Same H2 H4->Kn H4) ->
   g x (τ++fvs fv σ) H2 λσ2 H4=>(∃τ':St,τ'.length=k/\σ2=τ'++fvs fv σ)/\tc σ2 H4 λb H5=>if b=true then te σ2 H5 Kc else Kn H5)
  (hd:∀l H',H1 l=none->Same H1 H'->H' l=some (.lst ((xs.filter sel).map val))->Q (.ref l) H'):cu (Itl K a) k fv g tc te σ H1 Q:=by
 intro l hl;refine⟨λi m acc H2=>m=xs.length - i/\i<=xs.length/\acc.length<=i/\Same H1 H2/\H2 l=some (.lst acc)/\acc=((xs.take i).filter sel).map val,⟨_,rfl,Nat.zero_le _,Nat.le_refl _,Same.new hl,upd_same,rfl⟩,?_⟩;rintro i m acc H2 ⟨rfl,hi,e1,sm,e3,hr⟩;refine⟨e3,be (by omega),?_⟩
 by_cases hlt:i<xs.length
 ·refine .inr ⟨⟨xs,xs[i],SqL.of (sm _ _ hD),List.getElem?_eq_getElem hlt⟩,λx H3 y τ hτ=>?_⟩
  obtain⟨rfl,e⟩:=y;have hx:=e xs (SqL.of (sm _ _ hD));have tk:xs.take (i+1)=xs.take i++[x]:=by rw[List.take_add_one,hx];rfl
  refine hs x H3 τ _ _ (List.mem_of_getElem? hx) sm hτ (λhsel H4 s4=>⟨s4 _ _ e3,xs.length - (i+1),by omega,rfl,hlt,by simp;exact e1,(sm.trans s4).upd hl,upd_same,?_⟩) λhsel H4 s4=>⟨xs.length - (i+1),by omega,rfl,hlt,by omega,sm.trans s4,s4 _ _ e3,?_⟩
  ·rw[tk,List.filter_append,List.map_append,<- hr,List.filter_cons,hsel]
   rfl
  ·rw[tk,List.filter_append,List.map_append,<- hr,List.filter_cons,hsel]
   simp
 ·have e:i=xs.length:=by omega
  subst e;rw[List.take_length]at hr;exact .inl ⟨⟨xs,SqL.of (sm _ _ hD),Nat.le_refl _⟩,hd l H2 hl sm (by rw[<- hr];exact e3)⟩
inductive wg (vs:List V) (H:Hp) (Q:VK) (x_3:XK):Prop
 | mk:∀x,(vs = [x])->(Nm H x)->(∀H',Same H H'->Q (.bl (nmV x)) H')->wg vs H Q x_3
inductive xU (C:Addr) (vs:List V) (H:Hp) (Q:VK) (x_3:XK):Prop
 | mk:∀(b dx:Addr),(vs = [.ref b])->(H b=some (.ins C dx []))->(∀(k e:Addr) (H':Hp),But [b] H H'->H' b=some (.ins C dx (fsB k e))->H k=none->H e=none->k≠e->H' k=some (.lst [])->H' e=some (.lst [])->Q .non H')->xU C vs H Q x_3
inductive zj (C:Addr) (vs:List V) (H:Hp) (Q:VK) (x_3:XK):Prop
 | mk:∀(b k' dx k e:Addr) (ks:List V),(vs = [.ref b,.ref k'])->(H b=some (.ins C dx (fsB k e)))->(H e=some (.lst ks))->(ks.length<=1000)->(∀H',But [b,e] H H'->H' b=some (.ins C dx (fsB k' e))->H' e=some (.lst (ks++[.ref k]))->Q .non H')->zj C vs H Q x_3
inductive vm (C:Addr) (vs:List V) (H:Hp) (Q:VK) (x_3:XK):Prop
 | mk:∀(b:Addr) (M:List Addr) (e:Addr) (kept:Bk) (past:List Bk),(vs = [.ref b])->(uR M C H b e kept past)->(kept.length<=100)->(∀(l:Addr) (H':Hp),Same H H'->H l=none->H' l=some (.lst (kept.map λr=>V.str r.1))->Q (.ref l) H')->vm C vs H Q x_3
noncomputable def atN(x:V)(kept:Bk):Option Cs:=match x with
 | .str n=>if aQ n=false then none else fnd kept n
 | _=>none
inductive u8 (C N:Addr) (vs:List V) (H:Hp) (Q:VK) (E:XK):Prop
 | mk:∀(b:Addr) (x:V) (M:List Addr) (e:Addr) (kept:Bk) (past:List Bk),(vs = [.ref b,x])->(uR M C H b e kept past)->(Nm H x)->(kept.length<=100)->((∀r∈kept,r.2.length<=10))->((∀cs,atN x kept=some cs->∀(l:Addr) (qs:Crn) (H':Hp),Same H H'->H l=none->qs.map (·.2)=cs->H' l=some (.lst (qs.map λq=>V.ref q.1))->(∀q∈qs,q.1∉M/\H' q.1=some (.tup [.int q.2.1,.int q.2.2]))->Q (.ref l) H'))->((atN x kept=none->∀H',Same H H'->E (.ref N) none H'))->u8 C N vs H Q E
noncomputable def pw(M:List Addr)(C:Addr)(cl:Nat->Addr)(b e:Addr)(H:Hp)(Q:VK)(E:XK)(r:Nat×Bk×List Bk):Prop :=
 (r.1≠0->∀H',Same H H'->E (.ref (cl r.1)) none H')/\(r.1=0->∀H',But [b,e] H H'->uR M C H' b e r.2.1 r.2.2->Q .non H')
structure u7(M:List Addr)(C:Addr)(H:Hp)(b e:Addr)(kept:Bk)(past:List Bk):Prop where
 bk:uR M C H b e kept past
 lv:gu M H
 bM:b∈M
 eM:e∈M
 gd:yk kept
 pl:past.length<=100
theorem u7.mono{M:List Addr}{C:Addr}{H H':Hp}{b e:Addr}{kept:Bk}{past:List Bk}(o:u7 M C H b e kept past)(s:Same H H'):u7 M C H' b e kept past:=⟨o.bk.mono s,o.lv.mono s,o.bM,o.eM,o.gd,o.pl⟩
inductive wR (C:Addr) (cl:Nat->Addr) (way:Nat) (vs:List V) (H:Hp) (Q:VK) (E:XK):Prop
 | mk:∀(b:Addr) (x:V) (M:List Addr) (e:Addr) (kept:Bk) (past:List Bk),(vs = [.ref b,x])->(u7 M C H b e kept past)->(Nm H x)->(pw M C cl b e H Q E (bj way x none kept past))->wR C cl way vs H Q E
inductive xX (C:Addr) (cl:Nat->Addr) (vs:List V) (H:Hp) (Q:VK) (E:XK):Prop
 | mk:∀(b:Addr) (M:List Addr) (e:Addr) (kept:Bk) (past:List Bk),(vs = [.ref b])->(u7 M C H b e kept past)->(pw M C cl b e H Q E (bj 5 .non none kept past))->xX C cl vs H Q E
noncomputable def LnO(H:Hp)(y:V):Option Cs->Prop
 | none=>Ac H y/\b7 H y=false
 | some cs=>∃p qs,y = .ref p/\wm H p qs/\qs.map (·.2)=cs
theorem LnO.mono{H H':Hp}{y:V}{lo:Option Cs}(h:LnO H y lo)(s:Same H H'):LnO H' y lo:=by
 cases lo with
 | none=>exact⟨h.1.mono s,by rw[kE h.1 s];exact h.2⟩
 | some cs=>obtain⟨p,qs,h1,h2,h3⟩:=h;exact⟨p,qs,h1,h2.mono s,h3⟩
inductive yy (C:Addr) (cl:Nat->Addr) (vs:List V) (H:Hp) (Q:VK) (E:XK):Prop
 | mk:∀(b:Addr) (x y:V) (M:List Addr) (e:Addr) (kept:Bk) (past:List Bk) (lo:Option Cs),(vs = [.ref b,x,y])->(u7 M C H b e kept past)->(Nm H x)->(LnO H y lo)->(pw M C cl b e H Q E (bj 0 x lo kept past))->yy C cl vs H Q E
theorem ng{rs:List (Addr×Str×Cs)}{es:Bk}(h:rs.map (·.2)=es)(n:Str):fnd es n=(rs.find? λr=>decide (V.str r.2.1=V.str n)).map (·.2.2):=by
 subst h;unfold fnd
 induction rs with
 | nil=>rfl
 | cons r rs ih =>
  rw[List.map_cons,List.find?_cons,List.find?_cons];cases decide (V.str r.2.1=V.str n) with
  | true=>rfl
  | false=>exact ih
theorem yX:uq ["thing"] ["thing"] (ag (top 180)):=smk
theorem kI(y9:Df K mg "is_name" (top 180))(V_LETTERS:∃tk,mg "LETTERS" = some (.str (Str.ofString "abcdefghijklmnopqrstuvwxyz") tk))(V_NOTHING:∃tk,mg "NOTHING" = some (.str (Str.ofString "none") tk))(V_MOST:∃tk,mg "MOST_LETTERS" = some (.int 8 tk))(T:Txt mg):Fn P w K mg base "is_name" ["thing"] 1 wg:=by
 refine y9.fn yX (λ_ _ _ _ _ _ us hl=>match us,hl with | [_],_=>rfl) (λvs H Q E h=>?_) (λf cdv A outer s H vs Q E hr h=>?_)
 ·obtain⟨x,rfl,_⟩:=h
  rfl
 ·obtain⟨x,rfl,nm,q⟩:=h
  have CN:uQ (ak CX0 P w K mg base ["thing"] "is_name" (ag (top 180)) f cdv A outer s H E).nox (lcA (top 180) 0) [] "letter" [] :=
   ⟨by rfl,rfl,by decide +kernel,by decide +kernel,rfl,(λp hp=>nomatch hp),by rfl,by decide +kernel,(λp hp=>nomatch hp),⟨rfl,rfl⟩,rfl⟩
  obtain⟨tL,y0⟩:=V_LETTERS;obtain⟨tN,yZ⟩:=V_NOTHING;obtain⟨tM,w5⟩:=V_MOST;obtain⟨t,k⟩:=nm.kn;refine⟨_,(ae (aJ (b4 (bi (bq (aq aZ (by rfl) T.z_isinstance aB (aa (pv 0) (aa (dq T.z_str fV) ac))))) (b4 (bi (fz eL eL aj (aq dU (by rfl) T.z_len bc (aa (pv 0) ac)) (aO (v:=.int 8) (by rfl) w5 ⟨_,rfl⟩))) (bK (ao a9 (pv 0) (aO (v:=.str (Str.ofString "none")) (by rfl) yZ ⟨_,rfl⟩) (az _))))).pt (ai (aw bS)) ax) (ai (aw (aq (fU rfl) (by rfl) T.z_all kO (aa (bL rfl CN (nB (pv 0)) (λfp s₀ H₀=>(bR nV (pv 0) (aO (v:=.str (Str.ofString "abcdefghijklmnopqrstuvwxyz")) (by rfl) y0 ⟨_,rfl⟩) (by rfl)))) ac))))),?_⟩;refine⟨_,rfl,x,t,"str",rfl,k,.inr (.inr (.inr (.inr rfl))),_,rfl,?_⟩;cases k with
  | str z =>
   have hz:=nm.sz z rfl;refine am (by decide) ?_;have q':Q (.bl (aQ z)) H:=q H (Same.refl _);refine⟨_,rfl,z,rfl,by rw[sizeLine_eq];omega,_,_,rfl,rfl,_,rfl,a7 (λh1=>?_) (λh1=>?_)⟩
   ·refine⟨_,_,rfl,rfl,_,rfl,a7 (λh2=>?_) (λh2=>?_)⟩
    ·have e:aQ z=false:=by
      unfold aQ;rw[show decide ((z.length:Int)<=8)=false by simpa using h2,Bool.and_false,Bool.false_and]
     rw[e]at q';exact q'
    ·have h2':decide ((z.length:Int)<=8)=true:=by simpa using h2
     refine⟨_,rfl,rfl,_,rfl,a7 (λh3=>?_) (λh3=>?_)⟩
     ·have e:aQ z=false:=by
       unfold aQ;rw[h3,Bool.not_true,Bool.false_and,Bool.and_false]
      rw[e]at q';exact q'
     ·refine⟨_,rfl,z,rfl,lG (by have:z.cps.size=z.length:=rfl;omega) (λi v _=>∀c,z.cps.toList[i]? = some c->v = .bl (Txt.contains ABC ⟨#[c]⟩)) (λ_ _ _ _ _ h=>h) (λi c H2 Kc hc s2 kk=>?_) (λl ys H' hl s' e' hn hy=>?_)⟩
      ·exact⟨_,rfl,_,_,rfl,rfl,kk _ _ (Same.refl _) λc' hc'=>by rw[hc]at hc';cases hc';rfl⟩
      ·have ey:ys=(z.cps.toList.map λc=>Txt.contains ABC ⟨#[c]⟩).map V.bl:=by
        refine List.ext_getElem? λi=>?_;rw[List.getElem?_map,List.getElem?_map];cases hc:z.cps.toList[i]? with
        | none =>
         have:z.cps.toList.length<=i:=List.getElem?_eq_none_iff.mp hc;rw[List.getElem?_eq_none (by rw[hn];simpa using this)];rfl
        | some c =>
         have hi:i<ys.length:=by
          have:=(List.getElem?_eq_some_iff.mp hc).1;rw[hn];simpa using this
         rw[List.getElem?_eq_getElem hi,hy i _ (List.getElem?_eq_getElem hi) c hc];rfl
       rw[ey]at e';refine⟨l,_,rfl,SqL.of e',?_⟩;have e:aQ z=(z.cps.toList.map λc=>Txt.contains ABC ⟨#[c]⟩).all id:=by
        unfold aQ;rw[h1,h2',h3,List.all_map];rfl
       rw[<- e];exact q H' s'
   ·have e:aQ z=false:=by
     unfold aQ;rw[show decide ((1:Int)<=(z.length:Int))=false from h1,Bool.false_and,Bool.false_and]
    rw[e]at q';exact⟨_,rfl,dD q'⟩
  | _=>exact dD (q H (Same.refl _))
theorem xc:uq ["self"] ["self"] (ag (aH 183 0)):=smk
theorem fR(vj:vX K C_Book "__init__" "Book.__init__" (aH 183 0))(uo:u6 K mg "Book" C_Book)(n_kept:aU K C_Book "kept")(n_earlier:aU K C_Book "earlier")(T:Txt mg):Mt P w K mg base C_Book "__init__" ["self"] 1 (xU C_Book):=by
 refine vj.mt xc (λ_ _ _ _ _ _ us hl=>match us,hl with | [_],_=>rfl) (λvs H Q E h=>?_) (λf cdv A outer s H vs Q E hr h=>?_)
 ·obtain⟨b,dx,rfl,_⟩:=h
  rfl
 ·obtain⟨b,dx,rfl,hb,q⟩:=h
  refine⟨_,(ae (ia (pv 0) (aI ac) rfl) (ai (ia (pv 0) (aI ac) rfl))),?_⟩;refine⟨sz (by simp),λk H1 s1 f1 n1=>⟨_,rfl,b,C_Book,dx,[],rfl,s1 _ _ hb,uo.cls,n_kept,by simp,?_⟩⟩;have kb:k≠b:=λz=>by
   rw[z,hb]at n1;cases n1
  refine⟨sz (by simp),λe H2 s2 f2 n2=>⟨_,rfl,b,C_Book,dx,[("kept",.ref k)],rfl,s2 _ _ upd_same,uo.cls,n_earlier,by simp,?_⟩⟩;have eb:e≠b:=λz=>by
   rw[z,upd_same]at n2;cases n2
  have ek:k≠e:=λz=>by
   rw[<- z,aA kb]at n2;rw[f1]at n2;cases n2
  have ne:H e=none:=by
   cases hz:H e with
   | none=>rfl
   | some o =>
    rw[aA eb,s1 _ _ hz]at n2;cases n2
  refine q k e _ (((But.of s1).trans (But.put (by simp))).trans ((But.of s2).trans (But.put (by simp)))) upd_same n1 ne ek ?_ ?_
  ·rw[aA kb]
   exact s2 _ _ (by rw[aA kb];exact f1)
  ·rw[aA eb]
   exact f2
theorem wv:uq ["self","kept"] ["self","kept"] (ag (aH 183 1)):=smk
theorem dN(u3:vX K C_Book "change_to" "Book.change_to" (aH 183 1))(uo:u6 K mg "Book" C_Book)(n_kept:aU K C_Book "kept")(n_earlier:aU K C_Book "earlier")(T:Txt mg):Mt P w K mg base C_Book "change_to" ["self","kept"] 1 (zj C_Book):=by
 refine u3.mt wv (λ_ _ _ _ _ _ us hl=>match us,hl with | [_,_],_=>rfl) (λvs H Q E h=>?_) (λf cdv A outer s H vs Q E hr h=>?_)
 ·obtain⟨b,k',dx,k,e,ks,rfl,_⟩:=h
  rfl
 ·obtain⟨b,k',dx,k,e,ks,rfl,hb,he,hk,q⟩:=h
  refine⟨_,(ae (aT (eK PySem.F.plainAttrs_list PySem.F.slot_list_append PySem.F.type_list_append kA (bZ (pv 0) rfl) (aa (bZ (pv 0) rfl) ac))) (ai (ia (pv 0) (pv 1) rfl))),?_⟩;have eb:e≠b:=λz=>by
   rw[z,hb]at he;cases he
  refine⟨_,rfl,b,C_Book,dx,_,_,rfl,hb,uo.cls,n_earlier,rfl,.inl ⟨rfl,_,SqL.of he⟩,_,rfl,b,C_Book,dx,_,_,rfl,hb,uo.cls,n_kept,rfl,e,ks,_,rfl,rfl,he,by rw[sizeLine_eq];omega,λH1 u1=>?_⟩;have b1:=u1.at (λz=>eb z.symm) hb;refine⟨_,rfl,_,rfl,b,C_Book,dx,_,rfl,b1,uo.cls,n_kept,by simp[fsB],?_⟩;exact q _ ((But.upd u1 (by simp)).trans (But.put (by simp))) upd_same (by rw[aA eb];exact u1.now)
theorem xu:uq ["self"] ["self"] (ag (aH 183 3)):=smk
theorem gk(vD:vX K C_Book "names" "Book.names" (aH 183 3))(uo:u6 K mg "Book" C_Book)(n_kept:aU K C_Book "kept")(n_earlier:aU K C_Book "earlier")(T:Txt mg):Mt P w K mg base C_Book "names" ["self"] 1 (vm C_Book):=by
 refine vD.mt xu (λ_ _ _ _ _ _ us hl=>match us,hl with | [_],_=>rfl) (λvs H Q E h=>?_) (λf cdv A outer s H vs Q E hr h=>?_)
 ·obtain⟨b,M,e,kept,past,rfl,_⟩:=h
  rfl
 ·obtain⟨b,M,e,kept,past,rfl,bk,hz,q⟩:=h
  have CN:uQ (ak (CXE P w) P w K mg base ["self"] "Book.names" (ag (aH 183 3)) f cdv A outer s H E) (lcA (aH 183 3) 0) [] "entry" [] :=
   ⟨by rfl,rfl,by decide +kernel,by decide +kernel,rfl,(λp hp=>nomatch hp),by rfl,by decide +kernel,(λp hp=>nomatch hp),⟨rfl,rfl⟩,rfl⟩
  obtain⟨dx,k,hb,bo,pa⟩:=bk.ex;obtain⟨rs,er,nk,hk,hr'⟩:=bo.ex;have hn:rs.length=kept.length:=by rw[<- er,List.length_map]
  refine⟨_,(ai (aw (bL rfl CN (bf (bZ (pv 0) rfl)) (λfp s₀ H₀=>(aC (dA (K:=K) rfl) (pv 0) aj (λ_ _=>rfl)))))),?_⟩;refine⟨_,rfl,b,C_Book,dx,_,_,rfl,hb,uo.cls,n_kept,rfl,k,rfl,⟨_,SqL.of hk⟩,iJ (SqL.of hk) (by rw[List.length_map];omega) (λi v _=>∀r,rs[i]? = some r->v = .str r.2.1) (λ_ _ _ _ _ h=>h) (λi x H2 Kc hx s2 kk=>?_) (λl ys H' hl s' e' hn' hy=>?_)⟩
  ·rw[List.getElem?_map]at hx
   obtain⟨r,hr1,rfl⟩:=Option.map_eq_some_iff.mp hx;obtain⟨n1,ln,ht,_⟩:=hr' r (List.mem_of_getElem? hr1);exact⟨_,rfl,r.1,_,_,_,rfl,rfl,SqT.of (s2 _ _ ht),rfl,kk _ _ (Same.refl _) λr' h'=>by rw[hr1]at h';cases h';rfl⟩
  ·refine q l H' s' hl ?_
   rw[e',<- er,List.map_map];refine congrArg (λz=>some (HO.lst z)) (List.ext_getElem? λi=>?_);rw[List.getElem?_map];rw[List.length_map]at hn';cases hc:rs[i]? with
   | none =>
    rw[List.getElem?_eq_none (by rw[hn'];exact List.getElem?_eq_none_iff.mp hc)];rfl
   | some r =>
    have hi:i<ys.length:=by rw[hn'];exact(List.getElem?_eq_some_iff.mp hc).1
    rw[List.getElem?_eq_getElem hi,hy i _ (List.getElem?_eq_getElem hi) r hc];rfl
theorem qi{α:Type}{p:α->Bool}{rs:List α}{i:Nat}{r:α}(h:(rs.take i).find? p=none)(hi:rs[i]? = some r)(hp:p r=true):rs.find? p=some r:=by
 have e:rs=rs.take i++r::rs.drop (i+1):=by
  obtain⟨a,b⟩:=List.getElem?_eq_some_iff.mp hi;rw[<- b,List.getElem_cons_drop,List.take_append_drop]
 rw[e,List.find?_append,h,List.find?_cons,hp];rfl
theorem mx{α:Type}{p:α->Bool}{rs:List α}{i:Nat}{r:α}(h:(rs.take i).find? p=none)(hi:rs[i]? = some r)(hp:p r=false):(rs.take (i+1)).find? p=none:=by
 rw[List.take_add_one,hi,List.find?_append,h];show(none:Option α).or ([r].find? p)=none;rw[List.find?_cons,hp];rfl
theorem lK{x:V}{kept:Bk}{cs:Cs}(h:atN x kept=some cs):∃n,x = .str n/\aQ n=true/\fnd kept n=some cs:=by
 unfold atN at h
 split at h
 ·rename_i n
  cases e:aQ n with
  | false=>rw[e,if_pos rfl]at h;cases h
  | true=>rw[e,if_neg (by decide)]at h;exact⟨n,rfl,e,h⟩
 ·cases h
theorem eE{way:Nat}{x:V}{lo:Option Cs}{kept:Bk}{past:List Bk}(hw:way=3\/way=4)(h:atN x kept=none):bj way x lo kept past=(1,kept,past):=by
 unfold bj;rw[if_neg (by omega)];unfold atN at h
 split at h
 ·rename_i n
  cases e:aQ n with
  | false=>rw[if_pos rfl]
  | true =>
   rw[e,if_neg (by decide)]at h;rw[if_neg (by decide),if_neg (by omega),h]
 ·rfl
theorem gM{way:Nat}{n:Str}{lo:Option Cs}{kept:Bk}{past:List Bk}{cs:Cs}(hw:way=3\/way=4)(h1:aQ n=true)(h:fnd kept n=some cs):bj way (.str n) lo kept past=(0,if way=3 then ri kept n else trn kept n,past++[kept]):=by
 unfold bj;rw[if_neg (by omega)];dsimp only;rw[h1,if_neg (by decide),if_neg (by omega),h]
theorem u7.to{M:List Addr}{C:Addr}{H H1:Hp}{b e k':Addr}{kept kept':Bk}{past:List Bk}(o:u7 M C H b e kept past)(s:Same H H1)(bo':Bo M H1 k' kept') :
  ∃dx k ks,H1 b=some (.ins C dx (fsB k e))/\H1 e=some (.lst ks)/\ks.length<=1000/\∀H',But [b,e] H1 H'->H' b=some (.ins C dx (fsB k' e))->H' e=some (.lst (ks++[.ref k]))->But [b,e] H H'/\uR M C H' b e kept' (past++[kept]):=by
 obtain⟨dx,k,h1,h2,h3⟩:=(o.bk.mono s).ex;obtain⟨ks,h4,h5,h6⟩:=h3.ex;have hl:ks.length=past.length:=by rw[<- h4,List.length_map]
 have hM:∀a∈[b,e],a∈M\/H1 a=none:=λa ha=>by
  simp only[List.mem_cons,List.not_mem_nil,or_false]at ha;rcases ha with rfl|rfl
  ·exact .inl o.bM
  ·exact .inl o.eM
 refine⟨dx,k,_,h1,h5,by rw[List.length_map];have:=o.pl;omega,λH' bt g1 g2=>⟨(But.of s).trans bt,dx,k',g1,bo'.go bt hM,ks++[(k,kept)],by rw[List.map_append,h4];rfl,by rw[g2,List.map_append];rfl,λr hr=>?_⟩⟩;rcases List.mem_append.mp hr with hr|hr
 ·exact(h6 r hr).go bt hM
 ·rw[List.mem_singleton.mp hr]
  exact h2.go bt hM
inductive zA (C:Addr) (vs:List V) (H:Hp) (Q:VK) (x_3:XK):Prop
 | mk:∀(b:Addr) (n:Str) (l:Addr) (M:List Addr) (e:Addr) (kept:Bk) (past:List Bk) (cs:Cs),(vs = [.ref b,.str n,.ref l])->(u7 M C H b e kept past)->(Ln M H l cs)->(∀H',But [b,e] H H'->uR M C H' b e (kept.map λr=>if r.1=n then (n,cs) else r) (past++[kept])->Q .non H')->zA C vs H Q x_3
theorem wJ:uq ["self","name","entry"] ["self","name"] (ag (aH 183 4)):=smk
theorem iF{cl:Nat->Addr}(vU:vX K C_Book "line" "Book.line" (aH 183 4))(uo:u6 K mg "Book" C_Book)(n_kept:aU K C_Book "kept")(n_earlier:aU K C_Book "earlier")(uI:uG K mg "NoName" (cl 1))(u9:Fn P w K mg base "is_name" ["thing"] 1 wg)(T:Txt mg):Mt P w K mg base C_Book "line" ["self","name"] 2 (u8 C_Book (cl 1)):=by
 refine vU.mt wJ (λ_ _ _ _ _ _ us hl=>match us,hl with | [_,_],_=>rfl) (λvs H Q E h=>?_) (λf cdv A outer s H vs Q E hr h=>?_)
 ·obtain⟨b,x,M,e,kept,past,rfl,_⟩:=h
  rfl
 ·obtain⟨b,x,M,e,kept,past,rfl,bk,nm,hz,hl,ok,no⟩:=h
  refine⟨_,(ae (aJ (bq (aP u9 (hr.mono (by decide)) (by rfl) (aa (pv 1) ac))) (ai (rq (h9 PassesOwn.never rfl (bf (bZ (pv 0) rfl)) (bg (i:=2) wJ.nd rfl (Or.inl rfl)) (ai (aJ (ao a9 (aC bB (pv 2) aj (λ_ _=>rfl)) (pv 1) (az _)) (ai (aw (cK gr (by rfl) T.z_list lH (aa (aC bB (pv 2) aj (λ_ _=>rfl)) ac)))) ax))))) ax) (ai (aS uI (by rfl)))),?_⟩;obtain⟨dx,k,hb,bo,pa⟩:=bk.ex;obtain⟨rs,er,nk,hk,hr'⟩:=bo.ex;refine⟨_,rfl,x,rfl,nm,λH1 s1=>⟨_,rfl,?_⟩⟩;cases hx:nmV x with
  | false =>
   refine dF (no ?_ H1 s1);unfold atN
   split
   ·rename_i n
    rw[show aQ n=false from hx,if_pos rfl]
   ·rfl
  | true =>
   obtain⟨z,rfl,hn⟩:=nm.str hx;have ea:atN (.str z) kept=(rs.find? λr=>decide (V.str r.2.1=V.str z)).map (·.2.2):=by
    unfold atN;dsimp only;rw[hn,if_neg (by decide),ng er]
   refine dD ?_;refine⟨_,rfl,b,C_Book,dx,_,_,rfl,s1 _ _ hb,uo.cls,n_kept,rfl,k,rfl,⟨_,SqL.of (s1 _ _ hk)⟩,jp (K:=K) (a:=k) (xs:=rs.map λr=>V.ref r.1) (λi σ H3=>∃z2,σ = [some (.ref b),some (.str z),z2]/\H3=H1/\(rs.take i).find? (λr=>decide (V.str r.2.1=V.str z))=none) ⟨_,rfl,rfl,rfl⟩ ?_ ?_ ?_⟩
   ·rintro i σ H3 hi ⟨z2,rfl,rfl,hf⟩
    exact SqL.of (s1 _ _ hk)
   ·rintro i v σ H3 hv ⟨z2,rfl,rfl,hf⟩
    rw[List.getElem?_map]at hv;obtain⟨r,hr1,rfl⟩:=Option.map_eq_some_iff.mp hv;obtain⟨n1,ln,ht,L⟩:=hr' r (List.mem_of_getElem? hr1);obtain⟨qs,eq,n2,hl2,hq⟩:=L.ex;have ht1:=s1 _ _ ht;refine⟨_,rfl,r.1,_,_,_,rfl,rfl,SqT.of ht1,rfl,_,rfl,rfl,_,rfl,a7 (λh1=>?_) (λh1=>?_)⟩
    ·refine⟨_,rfl,r.1,_,_,_,rfl,rfl,SqT.of ht1,rfl,ln,_,rfl,.inl (SqL.of (s1 _ _ hl2)),λl H2 s2 f2 n3=>?_⟩
     refine ok r.2.2 (by rw[ea,qi hf hr1 h1];rfl) l qs H2 (s1.trans s2) (Same.free s1 n3) eq f2 λq hq'=>⟨(hq q hq').1,s2 _ _ (s1 _ _ (hq q hq').2)⟩
    ·exact⟨_,rfl,rfl,mx hf hr1 h1⟩
   ·rintro σ H3 ⟨z2,rfl,rfl,hf⟩
    rw[List.length_map,List.take_length]at hf;exact no (by rw[ea,hf];rfl) H3 s1
theorem xH:uq ["self"] ["self"] (ag (aH 183 9)):=smk
theorem iG{cl:Nat->Addr}(vV:vX K C_Book "back" "Book.back" (aH 183 9))(uo:u6 K mg "Book" C_Book)(n_kept:aU K C_Book "kept")(n_earlier:aU K C_Book "earlier")(vb:uG K mg "NoDeed" (cl 5))(T:Txt mg):Mt P w K mg base C_Book "back" ["self"] 1 (xX C_Book cl):=by
 refine vV.mt xH (λ_ _ _ _ _ _ us hl=>match us,hl with | [_],_=>rfl) (λvs H Q E h=>?_) (λf cdv A outer s H vs Q E hr h=>?_)
 ·obtain⟨b,M,e,kept,past,rfl,_⟩:=h
  rfl
 ·obtain⟨b,M,e,kept,past,rfl,op,af⟩:=h
  refine⟨_,(ae (aJ (ao a9 (aq aG (by rfl) T.z_len bc (aa (bZ (pv 0) rfl) ac)) aj (az _)) (ai (aS vb (by rfl))) ax) (ai (ia (pv 0) (kj PySem.F.plainAttrs_list PySem.F.slot_list_pop PySem.F.type_list_pop pT (bZ (pv 0) rfl)) rfl))),?_⟩;obtain⟨dx,k,hb,bo,pa⟩:=op.bk.ex;obtain⟨ks,ep,he,hk⟩:=pa.ex;have hl:ks.length=past.length:=by rw[<- ep,List.length_map]
  have eb:e≠b:=λz=>op.bk.ne z.symm;refine⟨_,rfl,b,C_Book,dx,_,_,rfl,hb,uo.cls,n_earlier,rfl,e,_,rfl,.inl (SqL.of he),rfl,_,rfl,a7 (λh1=>?_) (λh1=>?_)⟩
  ·have h0:past = []:=by
    rw[List.length_map]at h1;have:ks.length=0:=by simpa using h1
    rw[hl]at this;exact List.eq_nil_of_length_eq_zero this
   subst h0;exact af.1 (by simp[bj]) H (Same.refl _)
  ·rcases List.eq_nil_or_concat ks with rfl|⟨ks',⟨a,p⟩,rfl⟩
   ·exact absurd h1 (by decide)
   have ep':past=ks'.map (·.2)++[p]:=by rw[<- ep];simp
   subst ep';have hx:(List.map (λr:Addr×Bk=>V.ref r.1) (ks'.concat (a,p)))=ks'.map (λr=>V.ref r.1)++[.ref a]:=by simp
   rw[hx]at he;refine⟨_,rfl,b,C_Book,dx,_,_,rfl,hb,uo.cls,n_earlier,rfl,.inl ⟨rfl,_,SqL.of he⟩,e,_,.ref a,rfl,rfl,he,by simp,λH1 u1=>?_⟩;have b1:=u1.at (λz=>eb z.symm) hb;refine⟨_,rfl,b,C_Book,dx,_,rfl,b1,uo.cls,n_kept,by simp[fsB],?_⟩;have hM:∀x∈[b,e],x∈M\/H x=none:=λx ha=>by
    simp only[List.mem_cons,List.not_mem_nil,or_false]at ha;rcases ha with rfl|rfl
    ·exact .inl op.bM
    ·exact .inl op.eM
   have bt:But [b,e] H (upd H1 b (.ins C_Book dx (fsB a e))):=(But.upd u1 (by simp)).trans (But.put (by simp));have hd:bj 5 .non none kept (ks'.map (·.2)++[p])=(0,p,ks'.map (·.2)):=by
    unfold bj;rw[if_pos rfl];simp
   rw[hd]at af;refine af.2 rfl _ bt ⟨dx,a,upd_same,(hk (a,p) (by simp)).go bt hM,ks',rfl,?_,λr hr=>(hk r (by simp[hr])).go bt hM⟩;rw[aA eb,u1.now];simp
theorem jq{kept:Bk}{n:Str}{cs:Cs}(nd:(kept.map (·.1)).Nodup)(h:fnd kept n=some cs):∀r∈kept,r.1=n->r.2=cs:=by
 induction kept with
 | nil=>intro r hr;cases hr
 | cons a r ih =>
  rw[List.map_cons,List.nodup_cons]at nd;unfold fnd at h;rw[List.find?_cons]at h;intro x hx ex
  by_cases e:a.1=n
  ·rw[decide_eq_true (by rw[e])]at h
   have h:a.2=cs:=Option.some.inj h;rcases List.mem_cons.mp hx with rfl|hx
   ·exact h
   ·exact absurd (List.mem_map.mpr ⟨x,hx,by rw[ex,e]⟩) nd.1
  ·rw[decide_eq_false (by intro z;cases z;exact e rfl)]at h
   rcases List.mem_cons.mp hx with rfl|hx
   ·exact absurd ex e
   ·exact ih nd.2 h x hx ex
theorem rf{kept:Bk}{n:Str}{cs:Cs}(nd:(kept.map (·.1)).Nodup)(h:fnd kept n=some cs):(kept.map λr=>if r.1=n then (n,cs.reverse) else r)=trn kept n:=by
 unfold trn;refine List.map_congr_left λr hr=>?_
 by_cases e:r.1=n
 ·rw[if_pos e,if_pos e,jq nd h r hr e,e]
 ·rw[if_neg e,if_neg e]
theorem my{rs:List (Addr×Str×Cs)}{f:V->Bool}{p:Str×Cs->Bool}(h:∀r∈rs,f (.ref r.1)=p r.2):(rs.map λr=>V.ref r.1).filter f=(rs.filter λr=>p r.2).map (λr=>V.ref r.1)/\(rs.filter λr=>p r.2).map (·.2)=(rs.map (·.2)).filter p:=by
 induction rs with
 | nil=>exact⟨rfl,rfl⟩
 | cons r rs ih =>
  obtain⟨i1,i2⟩:=ih λr' hr=>h r' (List.mem_cons_of_mem _ hr);have hr:=h r List.mem_cons_self;simp only[List.map_cons,List.filter_cons,hr];cases p r.2 with
  | true=>exact⟨by simp[i1],by simp[i2]⟩
  | false=>exact⟨by simp[i1],by simp[i2]⟩
noncomputable def rowAt(rs:List (Addr×Str×Cs))(p:Str×Cs->Bool)(v:V):Bool:=match v with
 | .ref a=>(match rs.find? (λr=>decide (r.1=a)) with
  | some r=>p r.2
  | none=>false)
 | _=>false
theorem i6{M:List Addr}{H:Hp}{rs:List (Addr×Str×Cs)}{p:Str->Bool}(hr:∀r∈rs,En M H r){r:Addr×Str×Cs}(m:r∈rs):rowAt rs (λe=>p e.1) (.ref r.1)=p r.2.1:=by
 unfold rowAt;dsimp only;cases h:rs.find? (λr'=>decide (r'.1=r.1)) with
 | none =>
  have:=List.find?_eq_none.mp h r m;simp at this
 | some r' =>
  have e:r'.1=r.1:=by simpa using List.find?_some h
  obtain⟨_,l,h1,_⟩:=hr r' (List.mem_of_find?_eq_some h);obtain⟨_,l',h2,_⟩:=hr r m;rw[e,h2]at h1;have:r.2.1=r'.2.1:=by
   have:=HO.tup.inj (Option.some.inj h1);exact V.str.inj (List.cons.inj this).1
  show p r'.2.1=p r.2.1;rw[this]
theorem v5:uq ["self","name","line"] ["self","name","line"] (ag (aH 183 2)):=smk
theorem cP(uL:vX K C_Book "change_line" "Book.change_line" (aH 183 2))(uo:u6 K mg "Book" C_Book)(n_kept:aU K C_Book "kept")(n_earlier:aU K C_Book "earlier")(uv:Mt P w K mg base C_Book "change_to" ["self","kept"] 1 (zj C_Book))(T:Txt mg):Mt P w K mg base C_Book "change_line" ["self","name","line"] 3 (zA C_Book):=by
 refine uL.mt v5 (λ_ _ _ _ _ _ us hl=>match us,hl with | [_,_,_],_=>rfl) (λvs H Q E h=>?_) (λf cdv A outer s H vs Q E hr h=>?_)
 ·obtain⟨b,n,ln,M,e,kept,past,cs,rfl,_⟩:=h
  rfl
 ·obtain⟨b,n,ln,M,e,kept,past,cs,rfl,op,L,q⟩:=h
  have CN:uQ (ak (CXE P w) P w K mg base ["self","name","line"] "Book.change_line" (ag (aH 183 2)) f cdv A outer s H E) (lcA (aH 183 2) 0) [("name",s.heap.objs.size+1),("line",s.heap.objs.size+2)] "entry" [("name",1),("line",2)] :=
   ⟨by rfl,rfl,by decide +kernel,by decide +kernel,rfl,(λp hp=>by simp only[List.mem_cons,List.not_mem_nil,or_false]at hp;rcases hp with rfl|rfl <;> exact rfl),by rfl,by decide +kernel,(λp hp=>by simp only[List.mem_cons,List.not_mem_nil,or_false]at hp;rcases hp with rfl|rfl <;> exact⟨rfl,rfl,.inr (.inl rfl),rfl,rfl⟩),⟨rfl,rfl⟩,rfl⟩
  obtain⟨dx,k,hb,bo,pa⟩:=op.bk.ex;obtain⟨rs,er,nk,hk,hr'⟩:=bo.ex;have hn:rs.length=kept.length:=by rw[<- er,List.length_map]
  have hz:=op.gd.len;refine⟨_,(ai (aT (a4 uo uv (hr.mono (by decide)) (pv 0) (aa (bL rfl CN (bf (bZ (pv 0) rfl)) (λfp s₀ H₀=>(du (ao a9 (aC (dA (K:=K) rfl) (pv 0) aj (λ_ _=>rfl)) (pv 1) (az _)) (aM (aa (pv 1) (aa (pv 2) ac))) (pv 0)))) ac)))),?_⟩;refine⟨_,rfl,b,dx,_,rfl,hb,rfl,_,rfl,b,C_Book,dx,_,_,rfl,hb,uo.cls,n_kept,rfl,k,rfl,⟨_,SqL.of hk⟩,iJ (SqL.of hk) (by rw[List.length_map];omega) (λi v H2=>∀r,rs[i]? = some r->(r.2.1≠n/\v = .ref r.1)\/(r.2.1=n/\∃t,v = .ref t/\H t=none/\H2 t=some (.tup [.str n,.ref ln]))) (λi v H2 H3 st h r hr=>?_) (λi x H2 Kc hx s2 kk=>?_) (λl ys H2 hl s2 e2 hn' hy=>?_)⟩
  ·rcases h r hr with h|⟨h1,t,h2,h3,h4⟩
   ·exact .inl h
   ·exact .inr ⟨h1,t,h2,h3,st _ _ h4⟩
  ·rw[List.getElem?_map]at hx
   obtain⟨r,hr1,rfl⟩:=Option.map_eq_some_iff.mp hx;obtain⟨n1,l0,ht,_⟩:=hr' r (List.mem_of_getElem? hr1);refine⟨_,rfl,r.1,_,_,_,rfl,rfl,SqT.of (s2 _ _ ht),rfl,_,rfl,rfl,_,rfl,a7 (λh1=>?_) (λh1=>?_)⟩
   ·refine⟨_,rfl,_,rfl,sz (by simp),λt H4 s4 f4 n4=>kk _ _ s4 λr' h'=>?_⟩
    rw[hr1]at h';cases h';exact .inr ⟨by simpa using h1,t,rfl,Same.free s2 n4,f4⟩
   ·refine⟨_,rfl,kk _ _ (Same.refl _) λr' h'=>?_⟩
    rw[hr1]at h';cases h';exact .inl ⟨by simpa using h1,rfl⟩
  ·rw[List.length_map]at hn'
   have lv:=op.lv;obtain⟨rs',e1',e2',h3'⟩:=hX (G:=λr=>En M H2 r) (es:=kept.map λr=>if r.1=n then (n,cs) else r) (ys:=ys) (by rw[List.length_map];omega) (λi y e' h1 h2=>by
    rw[List.getElem?_map]at h2;obtain⟨r0,hr0,rfl⟩:=Option.map_eq_some_iff.mp h2;rw[<- er,List.getElem?_map]at hr0;obtain⟨r,hr1,rfl⟩:=Option.map_eq_some_iff.mp hr0;have E0:=(hr' r (List.mem_of_getElem? hr1)).go (N:=[]) (.of s2) (by simp);rcases hy i y h1 r hr1 with⟨q1,q2⟩|⟨q1,t,q2,q3,q4⟩
    ·exact⟨r.1,q2,by rw[if_neg q1];exact E0⟩
    ·refine⟨t,q2,?_⟩
     rw[if_pos q1];exact⟨lv.out q3,ln,q4,L.go (N:=[]) (.of s2) (by simp)⟩)
   have bo2:Bo M H2 l (kept.map λr=>if r.1=n then (n,cs) else r):=⟨rs',e1',lv.out hl,by rw[e2,e2'],h3'⟩
   obtain⟨dx2,k2,ks2,g1,g2,g3,g4⟩:=op.to s2 bo2;refine⟨b,l,dx2,k2,e,ks2,rfl,g1,g2,g3,λH' bt a1 a2=>?_⟩;obtain⟨bt',bk'⟩:=g4 H' bt a1 a2;exact q H' bt' bk'
theorem xb:uq ["self","name"] ["self","name"] (ag (aH 183 6)):=smk
theorem fQ{cl:Nat->Addr}(vi:vX K C_Book "strike" "Book.strike" (aH 183 6))(uo:u6 K mg "Book" C_Book)(n_kept:aU K C_Book "kept")(n_earlier:aU K C_Book "earlier")(uv:Mt P w K mg base C_Book "change_to" ["self","kept"] 1 (zj C_Book))(ut:Mt P w K mg base C_Book "line" ["self","name"] 2 (u8 C_Book (cl 1)))(T:Txt mg):Mt P w K mg base C_Book "strike" ["self","name"] 3 (wR C_Book cl 3):=by
 refine vi.mt xb (λ_ _ _ _ _ _ us hl=>match us,hl with | [_,_],_=>rfl) (λvs H Q E h=>?_) (λf cdv A outer s H vs Q E hr h=>?_)
 ·obtain⟨b,x,M,e,kept,past,rfl,_⟩:=h
  rfl
 ·obtain⟨b,x,M,e,kept,past,rfl,op,nm,af⟩:=h
  have CN:v0 (ak (CXE P w) P w K mg base ["self","name"] "Book.strike" (ag (aH 183 6)) f cdv A outer s H E) (lcA (aH 183 6) 0) [("name",s.heap.objs.size+1)] ["entry"] [("name",1)] :=
   ⟨by rfl,rfl,by decide +kernel,by decide +kernel,(λx hx=>by simp only[List.mem_cons,List.not_mem_nil,or_false]at hx;rcases hx with rfl <;> exact rfl),(λp hp=>by simp only[List.mem_cons,List.not_mem_nil,or_false]at hp;rcases hp with rfl <;> exact rfl),by rfl,by decide +kernel,(λp hp=>by simp only[List.mem_cons,List.not_mem_nil,or_false]at hp;rcases hp with rfl <;> exact⟨rfl,rfl,.inr (.inl rfl),rfl,rfl⟩),⟨rfl,rfl⟩,rfl⟩
  obtain⟨dx,k,hb,bo,pa⟩:=op.bk.ex;have hz:=op.gd.len;refine⟨_,(ae (aT (a4 uo ut (hr.mono (by decide)) (pv 0) (aa (pv 1) ac))) (ai (aT (a4 uo uv (hr.mono (by decide)) (pv 0) (aa (nN rfl CN (bf (bZ (pv 0) rfl)) (λfp s₀ H₀=>(bg (i:=0) CN.nd rfl (Or.inl rfl) (Or.inr rfl))) (λfp s₀ H₀=>(kZ (ao bv (aC (dA (K:=K) rfl) (pv 0) aj (λ_ _=>rfl)) (pv 1) (az _)))) (λfp s₀ H₀=>(pv 0))) ac))))),?_⟩;refine⟨_,rfl,b,dx,_,rfl,hb,rfl,_,rfl,b,x,M,e,kept,past,rfl,op.bk,nm,by omega,op.gd.ln,λcs hc l qs H1 s1 _ _ _ _=>?_,λhc H1 s1=>?_⟩
  ·obtain⟨n,rfl,hn,hf⟩:=lK hc
   rw[gM (.inl rfl) hn hf]at af;obtain⟨dx,k,hb,bo,pa⟩:=(op.bk.mono s1).ex;obtain⟨rs,er,nk,hk,hr'⟩:=bo.ex;have hl:rs.length=kept.length:=by rw[<- er,List.length_map]
   refine⟨_,rfl,b,dx,_,rfl,hb,rfl,_,rfl,b,C_Book,dx,_,_,rfl,hb,uo.cls,n_kept,rfl,k,rfl,⟨_,SqL.of hk⟩,gO hk (by rw[List.length_map];omega) (rowAt rs λr=>!decide (V.str r.1=V.str n)) id (λv H2 τ Kc Kn hv s2 hτ k1 k2=>?_) (λl2 H2 hl2 s2 e2=>?_)⟩
   ·obtain⟨r,hr1,rfl⟩:=List.mem_map.mp hv
    obtain⟨n1,l0,ht,_⟩:=hr' r hr1;obtain⟨τ0,rfl⟩:=List.length_eq_one_iff.mp hτ;have er':=i6 (p:=λm=>!decide (V.str m=V.str n)) hr' hr1;refine⟨⟨[some (.ref r.1)],rfl,rfl⟩,_,rfl,r.1,_,_,_,rfl,rfl,SqT.of (s2 _ _ ht),rfl,_,rfl,rfl,_,rfl,a7 (λh1=>?_) (λh1=>?_)⟩
    ·exact⟨_,rfl,k1 (by rw[er'];exact h1) _ (Same.refl _)⟩
    ·exact k2 (by rw[er'];exact h1) _ (Same.refl _)
   ·have fr:=my (rs:=rs) (f:=rowAt rs λr=>!decide (V.str r.1=V.str n)) (p:=λr=>!decide (V.str r.1=V.str n)) (λr hr=>i6 (p:=λm=>!decide (V.str m=V.str n)) hr' hr)
    have op1:=op.mono s1;have bo2:Bo M H2 l2 (ri kept n):=⟨_,by rw[fr.2,er];rfl,op1.lv.out hl2,by rw[e2,List.map_id,fr.1],λr hr=>(hr' r (List.mem_filter.mp hr).1).go (N:=[]) (.of s2) (by simp)⟩;obtain⟨dx2,k2,ks2,g1,g2,g3,g4⟩:=op.to (s1.trans s2) bo2;refine⟨b,l2,dx2,k2,e,ks2,rfl,g1,g2,g3,λH' bt a1 a2=>?_⟩;obtain⟨bt',bk'⟩:=g4 H' bt a1 a2;exact af.2 rfl H' bt' bk'
  ·rw[eE (.inl rfl) hc]at af
   exact af.1 (by simp) H1 s1
theorem wG:uq ["self","name","line"] ["self","name"] (ag (aH 183 7)):=smk
theorem iC{cl:Nat->Addr}(vR:vX K C_Book "turn" "Book.turn" (aH 183 7))(uo:u6 K mg "Book" C_Book)(n_kept:aU K C_Book "kept")(n_earlier:aU K C_Book "earlier")(ut:Mt P w K mg base C_Book "line" ["self","name"] 2 (u8 C_Book (cl 1)))(uK:Mt P w K mg base C_Book "change_line" ["self","name","line"] 3 (zA C_Book))(T:Txt mg):Mt P w K mg base C_Book "turn" ["self","name"] 4 (wR C_Book cl 4):=by
 refine vR.mt wG (λ_ _ _ _ _ _ us hl=>match us,hl with | [_,_],_=>rfl) (λvs H Q E h=>?_) (λf cdv A outer s H vs Q E hr h=>?_)
 ·obtain⟨b,x,M,e,kept,past,rfl,_⟩:=h
  rfl
 ·obtain⟨b,x,M,e,kept,past,rfl,op,nm,af⟩:=h
  refine⟨_,(ae (au (i:=2) wG.nd rfl (Or.inl rfl) (a4 uo ut (hr.mono (by decide)) (pv 0) (aa (pv 1) ac))) (ae (aT (kj PySem.F.plainAttrs_list PySem.F.slot_list_reverse PySem.F.type_list_reverse jk (pv 2))) (ai (aT (a4 uo uK (hr.mono (by decide)) (pv 0) (aa (pv 1) (aa (pv 2) ac))))))),?_⟩;obtain⟨dx,k,hb,bo,pa⟩:=op.bk.ex;have hz:=op.gd.len;refine⟨_,rfl,b,dx,_,rfl,hb,rfl,_,rfl,b,x,M,e,kept,past,rfl,op.bk,nm,by omega,op.gd.ln,λcs hc l qs H1 s1 n1 eq e1 hq=>?_,λhc H1 s1=>?_⟩
  ·obtain⟨n,rfl,hn,hf⟩:=lK hc
   rw[gM (.inr rfl) hn hf]at af;refine⟨_,rfl,.inl ⟨rfl,_,SqL.of e1⟩,l,_,rfl,rfl,e1,λH2 u2=>?_⟩;have s2:Same H H2:=u2.same s1 n1;have op2:=op.mono s2;obtain⟨dx,k,hb,bo,pa⟩:=op2.bk.ex;have nl:l∉M:=op.lv.out n1;have L:Ln M H2 l cs.reverse:=⟨qs.reverse,by rw[List.map_reverse,eq],nl,by rw[u2.now,List.map_reverse],λq hq'=>⟨(hq q (List.mem_reverse.mp hq')).1,u2.t _ _ (hq q (List.mem_reverse.mp hq')).2⟩⟩;refine⟨_,rfl,b,dx,_,rfl,hb,rfl,_,rfl,_,rfl,b,n,l,M,e,kept,past,cs.reverse,rfl,op2,L,λH' bt bk'=>?_⟩;rw[rf op.gd.nd hf]at bk';exact af.2 rfl H' ((But.of s2).trans bt) bk'
  ·rw[eE (.inr rfl) hc]at af
   exact af.1 (by simp) H1 s1
theorem bO{x:Str}{ws:List Str}:inV (.str x) (ws.map V.str)=decide (x∈ws):=by
 unfold inV
 induction ws with
 | nil=>simp
 | cons a r ih =>
  rw[List.map_cons,List.any_cons,ih];show((a == x) || _)=_
  by_cases h:a=x
  ·subst h
   simp
  ·rw[beq_eq_false_iff_ne.mpr h,Bool.false_or]
   have:¬x=a:=λz=>h z.symm;simp[this]
theorem lq{x:Str}{kept:Bk}:inV (.str x) (kept.map λr=>V.str r.1)=decide (x∈kept.map (·.1)):=by
 rw[<- bO,List.map_map];rfl
theorem oX(kept:Bk):(kept.map λr=>V.str r.1).all cS=true:=by
 rw[List.all_eq_true];intro v hv;obtain⟨r,_,rfl⟩:=List.mem_map.mp hv;rfl
theorem jE{way:Nat}{x:V}{lo:Option Cs}{kept:Bk}{past:List Bk}(hw:way≠5)(h:nmV x=false):bj way x lo kept past=(1,kept,past):=by
 unfold bj;rw[if_neg hw]
 split
 ·rename_i n
  rw[if_pos (show aQ n=false from h)]
 ·rfl
theorem cG{way : Nat}{n : Str}{lo : Option Cs}{kept : Bk}{past : List Bk}(hw : way < 3)(h : aQ n = true) : bj way (.str n) lo kept past = (if n ∈ kept.map (·.1) then (2, kept, past) else match lo with
        | none=>(3,kept,past)
        | some cs=>if 6<=kept.length then (4,kept,past) else (0,kept++[(n,cs)],past++[kept])):=by
  unfold bj;rw[if_neg (by omega)];dsimp only;rw[h,if_neg (by decide),if_pos hw]
theorem wX:uq ["self","name","corners","line"] ["self","name","corners"] (ag (aH 183 5)):=smk
theorem jz{cl:Nat->Addr}(wf:vX K C_Book "put" "Book.put" (aH 183 5))(uo:u6 K mg "Book" C_Book)(n_kept:aU K C_Book "kept")(n_earlier:aU K C_Book "earlier")(V_MOST:∃tk,mg "MOST_LINES" = some (.int 6 tk))(uI:uG K mg "NoName" (cl 1))(vw:uG K mg "Twice" (cl 2))(uT:uG K mg "TooMany" (cl 4))(u9:Fn P w K mg base "is_name" ["thing"] 1 wg)(uu:Mt P w K mg base C_Book "names" ["self"] 1 (vm C_Book))(wz:Fx P w K mg base "line_of" ["thing"] 5 [] (wP (cl 3)))(uv:Mt P w K mg base C_Book "change_to" ["self","kept"] 1 (zj C_Book))(T:Txt mg):Mt P w K mg base C_Book "put" ["self","name","corners"] 6 (yy C_Book cl):=by
 refine wf.mt wX (λ_ _ _ _ _ _ us hl=>match us,hl with | [_,_,_],_=>rfl) (λvs H Q E h=>?_) (λf cdv A outer s H vs Q E hr h=>?_)
 ·obtain⟨b,x,y,M,e,kept,past,lo,rfl,_⟩:=h
  rfl
 ·obtain⟨b,x,y,M,e,kept,past,lo,rfl,op,nm,lno,af⟩:=h
  obtain⟨tS,xv⟩:=V_MOST;have hz:=op.gd.len;refine⟨_,(ae (aJ (bi (bq (aP u9 (hr.mono (by decide)) (by rfl) (aa (pv 1) ac)))) (ai (aS uI (by rfl))) ax) (ae (aJ (ao eg (pv 1) (dr uo uu (hr.mono (by decide)) (pv 0)) (by rfl)) (ai (aS vw (by rfl))) ax) (ae (au (i:=3) wX.nd rfl (Or.inl rfl) (bQ wz (hr.mono (by decide)) (by rfl) (aa (pv 2) ac))) (ae (aJ (ao qP (aq aG (by rfl) T.z_len bc (aa (bZ (pv 0) rfl) ac)) (aO (v:=.int 6) (by rfl) xv ⟨_,rfl⟩) (az _)) (ai (aS uT (by rfl))) ax) (ai (aT (a4 uo uv (hr.mono (by decide)) (pv 0) (aa (ap aY (bZ (pv 0) rfl) (@aI _ _ _ _ (@aa _ _ _ _ _ (@aM _ _ _ _ _ (@aa _ _ _ _ _ (pv 1) (@aa _ _ _ _ _ (pv 3) ac (by rfl)) (by rfl))) ac (by rfl)))) ac)))))))),?_⟩;refine⟨_,rfl,x,rfl,nm,λH1 s1=>⟨_,rfl,?_⟩⟩;cases hx:nmV x with
  | false =>
   rw[jE (by decide) hx]at af;exact dD (af.1 (by simp) H1 s1)
  | true =>
   refine dF ?_;obtain⟨z,rfl,hn⟩:=nm.str hx;rw[cG (by decide) hn]at af;have op1:=op.mono s1;obtain⟨dx,k,hb,bo,pa⟩:=op1.bk.ex;refine⟨_,rfl,_,rfl,b,dx,_,rfl,hb,rfl,b,M,e,kept,past,rfl,op1.bk,by omega,λl2 H2 s2 n2 f2=>⟨l2,_,rfl,.inl (SqL.of f2),rfl,oX kept,_,rfl,a7 (λh1=>?_) (λh1=>?_)⟩⟩
   ·rw[if_pos (by rw[if_neg (by decide),lq]at h1;simpa using h1)]at af
    exact af.1 (by simp) H2 (s1.trans s2)
   ·rw[if_neg (by rw[if_neg (by decide),lq]at h1;simpa using h1)]at af
    have S2:=s1.trans s2;have op2:=op.mono S2;cases lo with
    | none =>
     have lo2:=lno.mono S2;exact⟨_,rfl,y,rfl,lo2.1,.inl ⟨lo2.2,λH3 s3=>af.1 (by simp) H3 (S2.trans s3)⟩⟩
    | some cs =>
     have lo2:=lno.mono S2;obtain⟨p,qs,rfl,L,eq⟩:=lo2;refine⟨_,rfl,_,rfl,L.th,.inr ⟨p,qs,rfl,L,λr rs H3 nr nrs ers L3 s3=>?_⟩⟩;have S3:=S2.trans s3;have op3:=op.mono S3;obtain⟨dx,k,hb,bo,pa⟩:=op3.bk.ex;obtain⟨ts,et,nk,hk,ht⟩:=bo.ex;have hl:(ts.map λr=>V.ref r.1).length=kept.length:=by rw[List.length_map,<- et,List.length_map]
     refine⟨_,rfl,b,C_Book,dx,_,_,rfl,hb,uo.cls,n_kept,rfl,k,_,rfl,.inl (SqL.of hk),_,_,rfl,rfl,_,rfl,a7 (λh2=>?_) (λh2=>?_)⟩
     ·have h2':6<=kept.length:=by
       rw[hl]at h2;have:(6:Int)<=(kept.length:Int):=by simpa using h2
       omega
      dsimp only at af;rw[if_pos h2']at af;exact af.1 (by simp) H3 S3
     ·have h2':¬6<=kept.length:=by
       rw[hl]at h2;have:¬(6:Int)<=(kept.length:Int):=by simpa using h2
       omega
      dsimp only at af;rw[if_neg h2']at af;refine⟨_,rfl,b,dx,_,rfl,hb,rfl,_,rfl,b,C_Book,dx,_,_,rfl,hb,uo.cls,n_kept,rfl,_,rfl,_,rfl,sz (by simp),λt H4 s4 f4 n4=>⟨sz (by simp),λl5 H5 s5 f5 n5=>⟨k,l5,_,_,rfl,rfl,s5 _ _ (s4 _ _ hk),f5,?_,λl6 H6 s6 f6 n6=>?_⟩⟩⟩
      ·rw[sizeLine_eq,hl]
       simp only[List.length_cons,List.length_nil];omega
      ·have s36:Same H3 H6:=s4.trans (s5.trans s6)
       have lv:=op3.lv;have l1:Ln M H6 r cs:=⟨rs,by rw[ers,eq],(op2.lv).out nr,s36 _ _ L3.lst,λq hq=>⟨(op2.lv).out (nrs q hq),s36 _ _ (L3.crn q hq).1⟩⟩;have bo6:Bo M H6 l6 (kept++[(z,cs)]):=by
        refine⟨ts++[(t,z,cs)],by rw[List.map_append,et];rfl,((lv.mono s4).mono s5).out n6,by rw[f6,List.map_append];rfl,λr' hr'=>?_⟩;rcases List.mem_append.mp hr' with hr'|hr'
        ·exact(ht r' hr').go (N:=[]) (.of s36) (by simp)
        ·rw[List.mem_singleton.mp hr']
         exact⟨lv.out n4,r,s6 _ _ (s5 _ _ f4),l1⟩
       obtain⟨dx2,k2,ks2,g1,g2,g3,g4⟩:=op.to (S3.trans s36) bo6;refine⟨b,l6,dx2,k2,e,ks2,rfl,g1,g2,g3,λH' bt a1 a2=>?_⟩;obtain⟨bt',bk'⟩:=g4 H' bt a1 a2;exact af.2 rfl H' bt' bk'
noncomputable def ci(x:Str):Option Int:=match intText? x with
 | some n=>if num n=x/\n.natAbs<10^1000 then some n else none
 | none=>none
theorem cU{n:Int}(h:n.natAbs<10^1000):ci (num n)=some n:=by
 unfold ci;rw[lp (Nat.le_trans (lf (k:=1000) (by decide) h) (by decide))];exact if_pos ⟨rfl,h⟩
theorem eI{x:Str}{n:Int}(h:ci x=some n):x=num n/\n.natAbs<10^1000:=by
 unfold ci at h
 split at h
 ·rename_i m e
  by_cases c:num m=x/\m.natAbs<10^1000
  ·rw[if_pos c]at h
   cases h;exact⟨c.1.symm,c.2⟩
  ·rw[if_neg c]at h
   cases h
 ·cases h
noncomputable def eF(x:Str):Option (Int×Int):=match Txt.split x cv with
 | [a,b]=>match ci a,ci b with
  | some m,some n=>some (m,n)
  | _,_=>none
 | _=>none
theorem jH{c:Int×Int}(h:Th c):eF (bW c)=some c:=by
 unfold eF;rw[bw];dsimp only;rw[cU h.1,cU h.2]
theorem jF{x:Str}{c:Int×Int}(h:eF x=some c):x=bW c/\Th c:=by
 unfold eF at h
 split at h
 ·rename_i a b e
  split at h
  ·rename_i m n h1 h2
   cases h;obtain⟨rfl,g1⟩:=eI h1;obtain⟨rfl,g2⟩:=eI h2;refine⟨?_,g1,g2⟩;rw[<- StrLaws.join_split x cv,e,cf];unfold bW;rw[cf];rfl
  ·cases h
 ·cases h
theorem jG{x:Str}(h:eF x=none):∀c,Th c->x≠bW c:=λc hc e=>by
 rw[e,jH hc]at h;cases h
noncomputable def wrB(a b:Int):Bool:=decide (a.natAbs<10^1000) && (decide (b.natAbs<10^1000) && fC a b)
noncomputable def fY(x:Str):Option (Int×Int):=match (Txt.split x iZ).map ci with
 | [some a]=>if wrB a 1=true/\x=bn a 1 then some (a,1) else none
 | [some a,some b]=>if wrB a b=true/\x=bn a b then some (a,b) else none
 | _=>none
theorem rL{a b:Int}(h:fC a b=true):AE a b:=by
 unfold fC at h;rw[Bool.and_eq_true,decide_eq_true_eq,decide_eq_true_eq]at h;exact⟨h.1,h.2⟩
theorem sK{a b:Int}(h:AE a b):fC a b=true:=by
 unfold fC;rw[Bool.and_eq_true,decide_eq_true_eq,decide_eq_true_eq];exact⟨h.pos,h.one⟩
theorem gY{a b:Int}:wrB a b=true↔Wr a b:=by
 unfold wrB;rw[Bool.and_eq_true,Bool.and_eq_true,decide_eq_true_eq,decide_eq_true_eq];exact⟨λ⟨h1,h2,h3⟩=>⟨rL h3,h1,h2⟩,λh=>⟨h.top,h.bot,sK h.low⟩⟩
theorem gC{x:Str}{c:Int×Int}(h:fY x=some c):x=bn c.1 c.2/\Wr c.1 c.2:=by
 unfold fY at h
 split at h
 ·split at h
  ·rename_i g
   cases h;exact⟨g.2,gY.mp g.1⟩
  ·cases h
 ·split at h
  ·rename_i g
   cases h;exact⟨g.2,gY.mp g.1⟩
  ·cases h
 ·cases h
theorem lX{a b:Int}(h:Wr a b):fY (bn a b)=some (a,b):=by
 have e:(Txt.split (bn a b) iZ).map ci=(parts a b).map some:=by
  rw[show iZ=Str.ofString "/" from rfl,eJ,List.map_map];refine List.map_congr_left λn hn=>?_;show ci (num n)=some n;refine cU ?_;unfold parts at hn
  split at hn
  ·rw[List.mem_singleton.mp hn];exact h.top
  ·simp only[List.mem_cons,List.not_mem_nil,or_false]at hn
   rcases hn with rfl|rfl
   ·exact h.top
   ·exact h.bot
 unfold fY;rw[e]
 by_cases hb:b=1
 ·rw[show parts a b = [a] from if_pos hb]
  subst hb;exact if_pos ⟨gY.mpr h,rfl⟩
 ·rw[show parts a b = [a,b] from if_neg hb]
  exact if_pos ⟨gY.mpr h,rfl⟩
theorem lY{x:Str}(h:fY x=none):∀a b:Int,Wr a b->x≠bn a b:=λa b hw e=>by
 rw[e,lX hw]at h;cases h
inductive RW
 | nm (s:Str)|cr (c:Int×Int)|sq (c:Int×Int)|wy (s:Str)
 deriving DecidableEq
noncomputable def kn:Str:=Str.ofString "name"
noncomputable def kc:Str:=Str.ofString "corner"
noncomputable def kq:Str:=Str.ofString "square"
noncomputable def kw:Str:=Str.ofString "way"
noncomputable def bX:List Str:=[Str.ofString "on",Str.ofString "part",Str.ofString "free",Str.ofString "hops"]
noncomputable def bG(k x:Str):Option RW :=
 if k=kc then (eF x).map .cr
 else if k=kq then (match fY x with|some c=>if 0<=c.1 then some (.sq c) else none|none=>none)
 else if k=kw then (if x∈bX then some (.wy x) else none)
 else some (.nm x)
noncomputable def iQ:List (Str×List Str):=[(Str.ofString "put",[kn,kc]),(Str.ofString "strike",[kn]),(Str.ofString "turn",[kn]),(Str.ofString "thin",[kn,kq]),(Str.ofString "back",[]),(Str.ofString "line",[kn]),(Str.ofString "leash",[kn,kn,kw]),(Str.ofString "walk",[kn,kn,kw]),(Str.ofString "fence",[kn,kn,kw]),(Str.ofString "near",[kn,kw]),(Str.ofString "midst",[kw]),(Str.ofString "names",[])]
noncomputable def cE(w:Str):Option (List Str):=(iQ.find? λr=>decide (r.1=w)).map (·.2)
noncomputable def bV(ws:List Str)(f:List Str):List Str:=if ws.head? = some (Str.ofString "put") then f++List.replicate (ws.length - 3) kc else f
noncomputable def bp(x:Str):Option (Str×List RW):=match Txt.split x (Str.ofString " ") with
 | []=>none
 | w::ws=>if Str.empty∈w::ws then none else match cE w with
  | none=>none
  | some f=>if ws.length≠(bV (w::ws) f).length then none else
   match (List.zip (bV (w::ws) f) ws).mapM λp=>bG p.1 p.2 with
   | some l=>some (w,l)
   | none=>none
structure FD(P:Program)(w:World)(K:W.Frag)(pF:Addr):Prop where
 ex:∃kvs,DK P w K pF kvs/\(∀k f,cE k=some f->∃p,dZ kvs (.inr k)=some (.ref p)/\∀H,SqT K H p (f.map V.str))/\∀k,cE k=none->dZ kvs (.inr k)=none
inductive xW (K:W.Frag) (vs:List V) (H:Hp) (Q:VK) (x_3:XK):Prop
 | mk:∀(l:Addr) (w:Str) (ws:List Str) (f:List Str),(vs = [.ref l])->(H l=some (.lst ((w::ws).map V.str)))->(ws.length<=1000)->(cE w=some f)->(∀(p:Addr) (H':Hp),Same H H'->SqT K H' p ((bV (w::ws) f).map V.str)->Q (.ref p) H')->xW K vs H Q x_3
theorem xk:uq ["words","form"] ["words"] (ag (top 159)):=smk
theorem kK{pF:Addr}(zf:Df K mg "form_of" (top 159))(vW:mg "FORMS" = some (.ref pF))(FF:FD P w K pF)(T:Txt mg):Fn P w K mg base "form_of" ["words"] 1 (xW K):=by
 refine zf.fn xk (λ_ _ _ _ _ _ us hl=>match us,hl with | [_],_=>rfl) (λvs H Q E h=>?_) (λf cdv A outer s H vs Q E hr h=>?_)
 ·obtain⟨l,w,ws,f,rfl,_⟩:=h
  rfl
 ·obtain⟨l,w,ws,f,rfl,el,h1,hf,q⟩:=h
  refine⟨_,(ae (au (i:=1) xk.nd rfl (Or.inl rfl) (nM (qR hr) (aO (v:=.ref _) (by rfl) vW rfl) (aC av (pv 0) aj (λ_ _=>rfl)) (λ_ _=>rfl))) (ae (aJ (ao a9 (aC av (pv 0) aj (λ_ _=>rfl)) ah (az _)) (ai (aw (ap nY (pv 1) (ap nU (aM (aa ah ac)) (ap ku (aq aG (by rfl) T.z_len bc (aa (pv 0) ac)) aj))))) ax) (ai (aw (pv 1))))),?_⟩;obtain⟨kvs,dk,gs,gn⟩:=FF.ex;obtain⟨p,hv,sq⟩:=gs w f hf;refine⟨_,rfl,l,_,_,_,rfl,rfl,SqL.of el,ar _ _,pF,kvs,w,_,rfl,dk,rfl,hv,?_⟩;refine⟨_,rfl,l,_,_,_,rfl,rfl,SqL.of el,ar _ _,rfl,_,rfl,a7 (λc1=>?_) (λc1=>?_)⟩
  ·refine⟨_,rfl,sz (by simp),λa H1 s1 f1 n1=>?_⟩
   refine⟨_,rfl,l,_,rfl,.inl (SqL.of (s1 _ _ el)),_,_,rfl,rfl,?_⟩;have hn:(((w::ws).map V.str).length:Int) - 3=((w::ws).length:Int) - 3:=by rw[List.length_map]
   rw[hn];have hl:(w::ws).length=ws.length+1:=rfl;have h20:(2:Int)^20=1048576:=by decide
   have ew:w=Str.ofString "put":=by simpa using c1
   have ef:bV (w::ws) f=f++List.replicate ((w::ws).length - 3) kc:=by
    unfold bV;rw[ew];exact if_pos rfl
   have hne:f≠[]:=λz=>by
    rw[ew,z]at hf;exact absurd hf (by decide +kernel)
   have hfl:f.length<=10:=by
    rw[ew]at hf;have:cE (Str.ofString "put")=some [kn,kc]:=by decide +kernel
    rw[this]at hf;cases hf;decide
   have fin:∀(b:Addr) (H2:Hp),Same H H2->H2 b=some (.tup (List.replicate ((w::ws).length - 3) (V.str kc)))->xY K (V.ref p) (.ref b) H2 Q:=λb H2 s2 e2=>by
    refine⟨p,b,f.map V.str,_,rfl,rfl,sq H2,e2,(by simpa using hne),(by rw[List.length_map,List.length_replicate];omega),λhz=>?_,λhz p3 H3 s3 f3 n3=>?_⟩
    ·have e0:(w::ws).length - 3=0:=by
      have:=congrArg List.length hz;rw[List.length_replicate]at this;exact this
     refine q p H2 s2 ?_;rw[ef,e0,List.replicate_zero,List.append_nil];exact sq H2
    ·refine q p3 H3 (s2.trans s3) ?_
     rw[ef,List.map_append,List.map_replicate];exact SqT.of f3
   refine⟨a,_,_,rfl,rfl,f1,(by simp),⟨by rw[h20];omega,by rw[h20];omega⟩,(by simp;omega),λe1=>?_,λe1 b H2 s2 f2 n2=>?_⟩
   ·refine fin a H1 s1 ?_
    rw[f1,show(w::ws).length - 3=1 by omega];rfl
   ·refine fin b H2 (s1.trans s2) ?_
    rw[f2];have e2:(((w::ws).length:Int) - 3).toNat=(w::ws).length - 3:=by omega
    rw[e2];have:∀m:Nat,(List.replicate m [V.str kc]).flatten=List.replicate m (V.str kc):=λm=>by
     induction m with
     | zero=>rfl
     | succ m ih=>rw[List.replicate_succ,List.flatten_cons,ih];rfl
    rw[show[V.str (Str.ofString "corner")] = [V.str kc] from rfl,this]
  ·refine⟨_,rfl,q p H (Same.refl _) ?_⟩
   have ew:¬w=Str.ofString "put":=by simpa using c1
   have ef:bV (w::ws) f=f:=by
    unfold bV;exact if_neg (λz=>ew (Option.some.inj z))
   rw[ef];exact sq H
inductive zq (C R:Addr) (vs:List V) (H:Hp) (Q:VK) (E:XK):Prop
 | mk:∀x:Str,(vs = [.str x])->(x.length<=50000)->(((∃c,fY x=some c/\0<=c.1/\∀(p:Addr) (H':Hp),Same H H'->H' p=some (.tup [.int c.1,.int c.2])->H p=none->Q (.ref p) H')\/((∀c,fY x=some c->c.1<0)/\(∀H',Same H H'->E (.ref C) none H')/\∀H',Same H H'->E (.ref R) none H')))->zq C R vs H Q E
inductive zn (R:Addr) (vs:List V) (H:Hp) (Q:VK) (E:XK):Prop
 | mk:∀x:Str,(vs = [.str x])->(x.length<=50000)->(((x∈bX/\∀H',Same H H'->Q (.str x) H')\/(x∉bX/\∀H',Same H H'->E (.ref R) none H')))->zn R vs H Q E
noncomputable def jQ(H:Hp)(v:V):RW->Prop
 | .nm s=>v = .str s
 | .wy s=>v = .str s
 | .cr c=>∃p,v = .ref p/\H p=some (.tup [.int c.1,.int c.2])
 | .sq c=>∃p,v = .ref p/\H p=some (.tup [.int c.1,.int c.2])
theorem jQ.t{H H':Hp}{v:V}{r:RW}(h:jQ H v r)(s:SameT H H'):jQ H' v r:=by
 cases r with
 | nm x=>exact h
 | wy x=>exact h
 | cr c=>obtain⟨p,e,f⟩:=h;exact⟨p,e,s _ _ f⟩
 | sq c=>obtain⟨p,e,f⟩:=h;exact⟨p,e,s _ _ f⟩
inductive zp (C R:Addr) (vs:List V) (H:Hp) (Q:VK) (E:XK):Prop
 | mk:∀k x:Str,(vs = [.str k,.str x])->(x.length<=50000)->(((∃r,bG k x=some r/\∀(v:V) (H':Hp),Same H H'->jQ H' v r->Q v H')\/(bG k x=none/\(∀H',Same H H'->E (.ref C) none H')/\∀H',Same H H'->E (.ref R) none H')))->zp C R vs H Q E
theorem cb(ws:List Str):(ws.map V.str).all cS=true:=by
 rw[List.all_eq_true];intro v hv;obtain⟨r,_,rfl⟩:=List.mem_map.mp hv;rfl
theorem vY:uq ["text","square"] ["text"] (ag (top 160)):=smk
theorem fM{cl:Nat->Addr}(xf:Df K mg "read_square" (top 160))(uA:uG K mg "NoRow" (cl 7))(vA:Fx P w K mg base "read_ratio" ["text"] 3 [] (wO (cl 8)))(T:Txt mg):Fx P w K mg base "read_square" ["text"] 5 [] (zq (cl 8) (cl 7)):=by
 refine xf.fx vY (λ_ _ _ _ _ _ us hl=>match us,hl with | [_],_=>rfl) (λvs H Q E h=>?_) (λf cdv A outer s H vs Q E hr h=>?_)
 ·obtain⟨x,rfl,_⟩:=h
  rfl
 ·obtain⟨x,rfl,hl,h⟩:=h
  refine⟨_,(ae (au (i:=1) vY.nd rfl (Or.inl rfl) (bQ vA (hr.mono (by decide)) (by rfl) (aa (pv 0) ac))) (ae (aJ (ao qO (aC bB (pv 1) aj (λ_ _=>rfl)) aj (az _)) (ai (aS uA (by rfl))) ax) (ai (aw (pv 1))))),?_⟩;refine⟨_,rfl,x,rfl,hl,?_⟩;rcases h with⟨c,e,c0,q⟩|⟨hn,eC,eR⟩
  ·obtain⟨ex,wr⟩:=gC e
   refine .inl ⟨c.1,c.2,ex,wr,λp H1 s1 f1 n1=>?_⟩;refine⟨_,rfl,p,_,_,_,rfl,rfl,SqT.of f1,rfl,_,_,rfl,rfl,_,rfl,a7 (λc1=>?_) (λc1=>?_)⟩
   ·have:=of_decide_eq_true c1
    omega
   ·exact⟨_,rfl,q p H1 s1 f1 n1⟩
  ·cases e:fY x with
   | none=>exact .inr ⟨lY e,eC⟩
   | some c =>
    obtain⟨ex,wr⟩:=gC e;have c0:=hn c e;refine .inl ⟨c.1,c.2,ex,wr,λp H1 s1 f1 n1=>?_⟩;refine⟨_,rfl,p,_,_,_,rfl,rfl,SqT.of f1,rfl,_,_,rfl,rfl,_,rfl,a7 (λc1=>?_) (λc1=>?_)⟩
    ·exact eR H1 s1
    ·have:=of_decide_eq_false c1
     omega
theorem yf:uq ["text"] ["text"] (ag (top 161)):=smk
theorem jr{cl:Nat->Addr}{pW:Addr}(yo:Df K mg "read_way" (top 161))(uA:uG K mg "NoRow" (cl 7))(ym:mg "WAYS" = some (.ref pW))(hW:∀H,SqT K H pW (bX.map V.str))(T:Txt mg):Fx P w K mg base "read_way" ["text"] 1 [] (zn (cl 7)):=by
 refine yo.fx yf (λ_ _ _ _ _ _ us hl=>match us,hl with | [_],_=>rfl) (λvs H Q E h=>?_) (λf cdv A outer s H vs Q E hr h=>?_)
 ·obtain⟨x,rfl,_⟩:=h
  rfl
 ·obtain⟨x,rfl,hl,h⟩:=h
  refine⟨_,(ae (aJ (ao dw (pv 0) (aO (v:=.ref _) (by rfl) ym rfl) (by rfl)) (ai (aS uA (by rfl))) ax) (ai (aw (pv 0)))),?_⟩;refine⟨_,rfl,pW,_,rfl,.inr (hW _),rfl,cb _,_,rfl,?_⟩;rw[bO];rcases h with⟨hm,q⟩|⟨hm,e⟩
  ·rw[decide_eq_true hm]
   exact dF ⟨_,rfl,q H (Same.refl _)⟩
  ·rw[decide_eq_false hm]
   exact dD (e H (Same.refl _))
theorem xF:uq ["kind","word"] ["kind","word"] (ag (top 162)):=smk
theorem iy{cl:Nat->Addr}(xL:Df K mg "read_word" (top 162))(vf:Fx P w K mg base "read_corner" ["text"] 3 [] (xo (cl 8)))(ve:Fx P w K mg base "read_square" ["text"] 5 [] (zq (cl 8) (cl 7)))(v9:Fx P w K mg base "read_way" ["text"] 1 [] (zn (cl 7)))(T:Txt mg):Fx P w K mg base "read_word" ["kind","word"] 6 [] (zp (cl 8) (cl 7)):=by
 refine xL.fx xF (λ_ _ _ _ _ _ us hl=>match us,hl with | [_,_],_=>rfl) (λvs H Q E h=>?_) (λf cdv A outer s H vs Q E hr h=>?_)
 ·obtain⟨k,x,rfl,_⟩:=h
  rfl
 ·obtain⟨k,x,rfl,hl,h⟩:=h
  refine⟨_,(ae (aJ (ao a9 (pv 0) ah (az _)) (ai (aw (bQ vf (hr.mono (by decide)) (by rfl) (aa (pv 1) ac)))) ax) (ae (aJ (ao a9 (pv 0) ah (az _)) (ai (aw (bQ ve (hr.mono (by decide)) (by rfl) (aa (pv 1) ac)))) ax) (ae (aJ (ao a9 (pv 0) ah (az _)) (ai (aw (bQ v9 (hr.mono (by decide)) (by rfl) (aa (pv 1) ac)))) ax) (ai (aw (pv 1)))))),?_⟩;refine⟨_,rfl,rfl,_,rfl,a7 (λc1=>?_) (λc1=>?_)⟩
  ·have ek:k=kc:=(by simpa using c1:k=Str.ofString "corner")
   refine⟨_,rfl,x,rfl,hl,?_⟩;unfold bG at h;rw[if_pos ek]at h;rcases h with⟨r,e,q⟩|⟨e,eC,eR⟩
   ·obtain⟨c,ec,rfl⟩:=Option.map_eq_some_iff.mp e
    obtain⟨ex,th⟩:=jF ec;exact .inl ⟨c,ex,th,λp H1 s1 f1 n1=>q (.ref p) H1 s1 ⟨p,rfl,f1⟩⟩
   ·exact .inr ⟨jG (Option.map_eq_none_iff.mp e),eC⟩
  have n1:¬k=kc:=(by simpa using c1:¬k=Str.ofString "corner");refine⟨_,rfl,rfl,_,rfl,a7 (λc2=>?_) (λc2=>?_)⟩
  ·have ek:k=kq:=(by simpa using c2:k=Str.ofString "square")
   refine⟨_,rfl,x,rfl,hl,?_⟩;unfold bG at h;rw[if_neg n1,if_pos ek]at h;cases er:fY x with
   | none =>
    rw[er]at h;rcases h with⟨r,e,q⟩|⟨e,eC,eR⟩
    ·cases e
    ·exact .inr ⟨(λc ec=>by cases ec),eC,eR⟩
   | some c =>
    rw[er]at h
    by_cases c0:0<=c.1
    ·rcases h with⟨r,e,q⟩|⟨e,eC,eR⟩
     ·have e:(if 0<=c.1 then some (RW.sq c) else none)=some r:=e
      rw[if_pos c0]at e;cases e;exact .inl ⟨c,rfl,c0,λp H1 s1 f1 n1=>q (.ref p) H1 s1 ⟨p,rfl,f1⟩⟩
     ·have e:(if 0<=c.1 then some (RW.sq c) else none)=none:=e
      rw[if_pos c0]at e;cases e
    ·rcases h with⟨r,e,q⟩|⟨e,eC,eR⟩
     ·have e:(if 0<=c.1 then some (RW.sq c) else none)=some r:=e
      rw[if_neg c0]at e;cases e
     ·exact .inr ⟨(λc' ec=>by cases ec;omega),eC,eR⟩
  have n2:¬k=kq:=(by simpa using c2:¬k=Str.ofString "square");refine⟨_,rfl,rfl,_,rfl,a7 (λc3=>?_) (λc3=>?_)⟩
  ·have ek:k=kw:=(by simpa using c3:k=Str.ofString "way")
   refine⟨_,rfl,x,rfl,hl,?_⟩;unfold bG at h;rw[if_neg n1,if_neg n2,if_pos ek]at h
   by_cases hm:x∈bX
   ·rw[if_pos hm]at h
    rcases h with⟨r,e,q⟩|⟨e,eC,eR⟩
    ·cases e
     exact .inl ⟨hm,λH1 s1=>q (.str x) H1 s1 rfl⟩
    ·cases e
   ·rw[if_neg hm]at h
    rcases h with⟨r,e,q⟩|⟨e,eC,eR⟩
    ·cases e
    ·exact .inr ⟨hm,eR⟩
  have n3:¬k=kw:=(by simpa using c3:¬k=Str.ofString "way");unfold bG at h;rw[if_neg n1,if_neg n2,if_neg n3]at h;rcases h with⟨r,e,q⟩|⟨e,eC,eR⟩
  ·cases e
   exact⟨_,rfl,q (.str x) H (Same.refl _) rfl⟩
  ·cases e
theorem fi{α β:Type}{f:α->Option β}:∀{l:List α} {r:List β},l.mapM f=some r->r.length=l.length/\∀(i:Nat) a,l[i]? = some a->∃b,f a=some b/\r[i]? = some b
 | [],r,h=>by
  cases h;exact⟨rfl,λi a e=>by simp at e⟩
 | x::l,r,h=>by
  rw[List.mapM_cons]at h;cases e:f x with
  | none=>rw[e]at h;cases h
  | some y =>
   rw[e]at h;cases e2:l.mapM f with
   | none =>
    have h:(do let bs <- l.mapM f;pure (y::bs))=some r:=h
    rw[e2]at h;cases h
   | some ys =>
    have h:(do let bs <- l.mapM f;pure (y::bs))=some r:=h
    rw[e2]at h;cases h;obtain⟨h1,h2⟩:=fi e2;refine⟨by simp[h1],λi a ea=>?_⟩;cases i with
    | zero=>cases ea;exact⟨y,e,rfl⟩
    | succ i=>exact h2 i a ea
theorem li{α β:Type}{f:α->Option β}:∀{l:List α},l.mapM f=none->∃(i:Nat) (a:α),l[i]? = some a/\f a=none
 | [],h=>by cases h
 | x::l,h=>by
  rw[List.mapM_cons]at h;cases e:f x with
  | none=>exact⟨0,x,rfl,e⟩
  | some y =>
   rw[e]at h;cases e2:l.mapM f with
   | none=>obtain⟨i,a,h1,h2⟩:=li e2;exact⟨i+1,a,h1,h2⟩
   | some ys =>
    have h:(do let bs <- l.mapM f;pure (y::bs))=none:=h
    rw[e2]at h;cases h
noncomputable def RWs(H:Hp)(vs:List V)(rs:List RW):Prop:=vs.length=rs.length/\∀(i:Nat) v r,vs[i]? = some v->rs[i]? = some r->jQ H v r
theorem RWs.mono{H H':Hp}{vs:List V}{rs:List RW}(h:RWs H vs rs)(s:Same H H'):RWs H' vs rs:=⟨h.1,λi v r e1 e2=>(h.2 i v r e1 e2).t s.t⟩
inductive zo (K:W.Frag) (R:Addr) (vs:List V) (H:Hp) (Q:VK) (E:XK):Prop
 | mk:∀(p l:Addr) (fs ws:List Str),(vs = [.ref p,.ref l])->(SqT K H p (fs.map V.str))->(H l=some (.lst (ws.map V.str)))->(ws.length=fs.length)->(fs.length<1000)->((∀x∈ws,x.length<=50000))->((∀rs,(List.zip fs ws).mapM (λp=>bG p.1 p.2)=some rs->∀(a:Addr) (vs:List V) (H':Hp),Same H H'->H a=none->H' a=some (.lst vs)->RWs H' vs rs->Q (.ref a) H'))->(((List.zip fs ws).mapM (λp=>bG p.1 p.2)=none->∀o H',Same H H'->E (.ref R) o H'))->zo K R vs H Q E
theorem xt:uq ["form","words"] ["form","words"] (ag (top 163)):=smk
theorem gg{cl:Nat->Addr}(xy:Df K mg "read_words" (top 163))(uD:uG K mg "NoText" (cl 8))(uA:uG K mg "NoRow" (cl 7))(xmA:W.exmOne K (.ref (cl 7)) (.ref (cl 8))=some false)(vJ:Fx P w K mg base "read_word" ["kind","word"] 6 [] (zp (cl 8) (cl 7)))(T:Txt mg):Fx P w K mg base "read_words" ["form","words"] 7 [] (zo K (cl 7)):=by
 refine xy.fx xt (λ_ _ _ _ _ _ us hl=>match us,hl with | [_,_],_=>rfl) (λvs H Q E h=>?_) (λf cdv A outer s H vs Q E hr h=>?_)
 ·obtain⟨p,l,fs,ws,rfl,_⟩:=h
  rfl
 ·obtain⟨p,l,fs,ws,rfl,hp,hl,len,hz,hx,qs,qn⟩:=h
  have CN:v0 (ak (CXE P w) P w K mg base ["form","words"] "read_words" (ag (top 163)) f cdv A outer s H E) (lcA (top 163) 0) [] ["kind","word"] [] :=
   ⟨by rfl,rfl,by decide +kernel,by decide +kernel,(λx hx=>by simp only[List.mem_cons,List.not_mem_nil,or_false]at hx;rcases hx with rfl|rfl <;> exact rfl),(λp hp=>nomatch hp),by rfl,by decide +kernel,(λp hp=>nomatch hp),⟨rfl,rfl⟩,rfl⟩
  refine⟨_,(ai (kf uD uA (by rfl) (by rfl) CN (pM rfl T.z_zip (aa (pv 0) (aa (pv 1) ac))) (λfp s₀ H₀=>(pN (K:=K) (n:=2) rfl rfl (dn (bg (i:=0) CN.nd rfl (Or.inl rfl) (Or.inr rfl)) (dn (bg (i:=1) CN.nd rfl (Or.inl rfl) (Or.inr rfl)) k6)))) (λfp s₀ H₀=>pL) (λEx fp s₀ H₀=>(nJ vJ (hr.mono (by decide)) (by rfl) (aa (pv 0) (aa (pv 1) ac)))))),?_⟩;refine⟨_,rfl,_,rfl,p,l,rfl,_,_,hp,SqL.of hl,?_⟩;refine mD (hp) (SqL.of hl) (by rw[List.length_map,List.length_map,len];exact Nat.le_refl _) (by rw[List.length_map];exact hz) (λi v H'=>∀k x,fs[i]? = some k->ws[i]? = some x->∃r,bG k x=some r/\jQ H' v r) (λi v H1 H2 st h k x e1 e2=>let ⟨r,h1,h2⟩:=h k x e1 e2;⟨r,h1,h2.t st⟩) (λi x y q H2 τ Kc hx1 hy1 s2 hq hτ kk=>?_) (λa vs H' na s' ea hn hy=>?_)
  ·obtain⟨t0,t1,rfl⟩:∃a b,τ = [a,b]:=match τ,hτ with | [a,b],_=>⟨a,b,rfl⟩
   rw[List.getElem?_map]at hx1 hy1;obtain⟨k,hk,rfl⟩:=Option.map_eq_some_iff.mp hx1;obtain⟨z,hz1,rfl⟩:=Option.map_eq_some_iff.mp hy1;refine⟨q,_,rfl,SqT.of hq,rfl,_,_,rfl,_,_,rfl,rfl,⟨[some (.str k),some (.str z)],rfl,rfl⟩,?_⟩;refine⟨_,rfl,_,rfl,k,z,rfl,hx z (List.mem_of_getElem? hz1),?_⟩;cases e:bG k z with
   | some r=>exact .inl ⟨r,rfl,λv H4 s4 w=>kk v H4 s4 λk' x' e1 e2=>by rw[hk]at e1;rw[hz1]at e2;cases e1;cases e2;exact⟨r,e,w⟩⟩
   | none =>
    have en:(List.zip fs ws).mapM (λp=>bG p.1 p.2)=none:=by
     cases em:(List.zip fs ws).mapM (λp=>bG p.1 p.2) with
     | none=>rfl
     | some rs =>
      obtain⟨r,h1,_⟩:=(fi em).2 i (k,z) (by rw[List.getElem?_zip_eq_some];exact⟨hk,hz1⟩);rw[e]at h1;cases h1
    exact .inr ⟨rfl,(λH4 s4=>.inl ⟨rfl,rfl,qn en _ _ (s2.trans s4)⟩),λH4 s4=>.inr ⟨_,rfl,xmA,qn en _ _ (s2.trans s4)⟩⟩
  ·rw[List.length_map]at hn
   cases em:(List.zip fs ws).mapM (λp=>bG p.1 p.2) with
   | some rs =>
    obtain⟨hl1,hr⟩:=fi em;rw[List.length_zip,len,Nat.min_self]at hl1;refine qs rs em a vs H' s' na ea ⟨by rw[hn,hl1],λi v r e1 e2=>?_⟩;have hi:i<fs.length:=by
     have:=(List.getElem?_eq_some_iff.mp e1).1;omega
    have hi2:i<ws.length:=by omega
    obtain⟨r',h1,h2⟩:=hr i (fs[i],ws[i]) (by rw[List.getElem?_zip_eq_some];exact⟨List.getElem?_eq_getElem hi,List.getElem?_eq_getElem hi2⟩);rw[e2]at h2;cases h2;obtain⟨r2,h3,h4⟩:=hy i v e1 _ _ (List.getElem?_eq_getElem hi) (List.getElem?_eq_getElem hi2);rw[show bG fs[i] ws[i]=some r from h1]at h3;cases h3;exact h4
   | none =>
    exfalso;obtain⟨i,⟨k,x⟩,h1,h2⟩:=li em;rw[List.getElem?_zip_eq_some]at h1;have hi:i<vs.length:=by
     have:=(List.getElem?_eq_some_iff.mp h1.1).1;omega
    obtain⟨r,h3,_⟩:=hy i _ (List.getElem?_eq_getElem hi) k x h1.1 h1.2;rw[h2]at h3;cases h3
theorem oV{w:Str}{f:List Str}(h:cE w=some f):f.length<=10:=by
 unfold cE at h;obtain⟨r,hr,rfl⟩:=Option.map_eq_some_iff.mp h;have:∀r∈iQ,r.2.length<=10:=by decide +kernel
 exact this r (List.mem_of_find?_eq_some hr)
theorem pj(v:V)(l:List V):dS (v::l) (some 1) none=l:=by
 unfold dS;rw[show(1:Int)=((1:Nat):Int) from rfl,HT.sIx_nat,HT.sIx_none];simp
noncomputable def spc:Str:=Str.ofString " "
inductive xR (R:Addr) (vs:List V) (H:Hp) (Q:VK) (E:XK):Prop
 | mk:∀x:V,(vs = [x])->((∃t,Kn H x t))->((∀z,x = .str z->z.length<=900 /\
  (∀w rs,bp z=some (w,rs)->∀(a:Addr) (ys:List V) (H':Hp),Same H H'->H a=none->H' a=some (.lst (.str w::ys))->RWs H' ys rs->Q (.ref a) H') /\
  (bp z=none->∀o H',Same H H'->E (.ref R) o H')))->(((∀z,x≠.str z)->∀H',Same H H'->E (.ref R) none H'))->xR R vs H Q E
theorem v4:uq ["row","words","form"] ["row"] (ag (top 164)):=smk
theorem js{cl:Nat->Addr}{pF:Addr}(yp:Df K mg "read_row" (top 164))(uA:uG K mg "NoRow" (cl 7))(vW:mg "FORMS" = some (.ref pF))(FF:FD P w K pF)(wC:Fn P w K mg base "form_of" ["words"] 1 (xW K))(vz:Fx P w K mg base "read_words" ["form","words"] 7 [] (zo K (cl 7)))(T:Txt mg):Fx P w K mg base "read_row" ["row"] 8 [] (xR (cl 7)):=by
 refine yp.fx v4 (λ_ _ _ _ _ _ us hl=>match us,hl with | [_],_=>rfl) (λvs H Q E h=>?_) (λf cdv A outer s H vs Q E hr h=>?_)
 ·obtain⟨x,rfl,_⟩:=h
  rfl
 ·obtain⟨x,rfl,hk,hs,hn⟩:=h
  obtain⟨t,k⟩:=hk;obtain⟨kvs,dk,gs,gn⟩:=FF.ex;refine⟨_,(ae (aJ (bi (bq (aq aZ (by rfl) T.z_isinstance aB (aa (pv 0) (aa (dq T.z_str fV) ac))))) (ai (aS uA (by rfl))) ax) (ae (au (i:=1) v4.nd rfl (Or.inl rfl) (eK PySem.F.plainAttrs_str PySem.F.slot_str_split PySem.F.type_str_split fB (pv 0) (aa ah ac))) (ae (aJ (b4 (ao eg ah (pv 1) (by rfl)) (bK (rn (km (qR hr) (aC av (pv 1) aj (λ_ _=>rfl)) (aO (v:=.ref _) (by rfl) vW rfl)) (by rfl)))).pt (ai (aS uA (by rfl))) ax) (ae (au (i:=2) v4.nd rfl (Or.inl rfl) (aP wC (hr.mono (by decide)) (by rfl) (aa (pv 1) ac))) (ae (aJ (ao bv (ap ku (aq aG (by rfl) T.z_len bc (aa (pv 1) ac)) aj) (aq aG (by rfl) T.z_len bc (aa (pv 2) ac)) (az _)) (ai (aS uA (by rfl))) ax) (ai (aw (ap aY (aI (aa (aC av (pv 1) aj (λ_ _=>rfl)) ac)) (bQ vz (hr.mono (by decide)) (by rfl) (aa (pv 2) (aa (cB dh (pv 1) (dl aj) dm) ac))))))))))),?_⟩;refine⟨_,rfl,x,t,"str",rfl,k,.inr (.inr (.inr (.inr rfl))),_,rfl,?_⟩;cases k with
  | str z =>
   obtain⟨hl,hy,hno⟩:=hs z rfl;refine am (by decide) ?_;refine⟨_,rfl,rfl,z,spc,rfl,rfl,rfl,by omega,λl H1 s1 f1 n1=>?_⟩;cases e:Txt.split z spc with
   | nil =>
    exfalso;have h:=StrLaws.join_split z spc;rw[e]at h;rw[<- h]at e;exact absurd e (by decide +kernel)
   | cons w ws =>
    rw[e]at f1;have er:bp z=if Str.empty∈w::ws then none else match cE w with
     | none=>none
     | some f=>if ws.length≠(bV (w::ws) f).length then none else
      match (List.zip (bV (w::ws) f) ws).mapM λp=>bG p.1 p.2 with
      | some l=>some (w,l)
      | none=>none:=by
     unfold bp;rw[show Str.ofString " " = spc from rfl,e]
     all_goals rfl
    have hws:∀y∈w::ws,y.length<=z.length:=λy hy=>PyProof.Rows.part_short (x:=z) (y:=spc) (by rw[e];exact hy);have hzl:(w::ws).length<=902:=by
     have:=PyProof.Rows.split_le z spc;rw[e]at this;omega
    refine⟨_,rfl,l,_,rfl,.inl (SqL.of f1),rfl,cb _,_,rfl,a7 (λc1=>?_) (λc1=>?_)⟩
    ·rw[if_neg (by decide),bO,show Str.ofString "" = Str.empty from rfl]at c1
     refine hno ?_ _ H1 s1;rw[er];exact if_pos (by simpa using c1)
    ·rw[if_neg (by decide),bO,show Str.ofString "" = Str.empty from rfl]at c1
     have ne:¬Str.empty∈w::ws:=by simpa using c1
     rw[if_neg ne]at er;refine⟨_,rfl,l,_,_,_,rfl,rfl,SqL.of f1,ar _ _,pF,kvs,w,rfl,dk,rfl,?_⟩;cases ef:cE w with
     | none =>
      rw[ef]at er;rw[gn w ef];exact⟨_,rfl,dD (hno er _ H1 s1)⟩
     | some f =>
      rw[ef]at er;obtain⟨p,hp,sp⟩:=gs w f ef;rw[hp];refine⟨_,rfl,dF ?_⟩;refine⟨_,rfl,l,w,ws,f,rfl,f1,by simp at hzl;omega,ef,λp2 H2 s2 sq2=>?_⟩;have S2:=s1.trans s2;have f2:=s2 _ _ f1;have hl2:(bV (w::ws) f).length<=950:=by
       unfold bV;have hf:f.length<=10:=oV ef
       split
       ·rw[List.length_append,List.length_replicate]
        omega
       ·omega
      refine⟨_,rfl,l,_,rfl,.inl (SqL.of f2),_,_,rfl,rfl,_,rfl,p2,_,rfl,.inr sq2,rfl,_,rfl,a7 (λc2=>?_) (λc2=>?_)⟩
      ·refine hno ?_ _ H2 S2
       rw[er];refine if_pos λz=>?_;simp only[List.length_map,List.length_cons]at c2;rw[z]at c2;simp at c2
      ·have el:ws.length=(bV (w::ws) f).length:=by
        simp only[List.length_map,List.length_cons]at c2;have:((ws.length+1:Nat):Int) - 1=((bV (w::ws) f).length:Int):=by simpa using c2
        omega
       have er2:=er;dsimp only at er2;rw[if_neg (λz=>z el)]at er2;refine⟨_,rfl,l,_,_,_,rfl,rfl,SqL.of f2,ar _ _,sz (by simp),λa H3 s3 f3 n3=>?_⟩;refine⟨_,rfl,_,rfl,_,rfl,l,_,rfl,SqL.of (s3 _ _ f2),λb H4 s4 f4 n4=>?_⟩;have f5:H4 b=some (.lst (ws.map V.str)):=by
        rw[f4];exact congrArg (λq=>some (HO.lst q)) (pj _ _)
       have S4:=S2.trans (s3.trans s4);refine⟨p2,b,bV (w::ws) f,ws,rfl,fb sq2 (s3.trans s4),f5,el,by omega,λy hy=>by have:=hws y (List.mem_cons_of_mem _ hy);omega,λrs em c vs H5 s5 n5 f6 wr=>?_,λem o H5 s5=>hno ?_ o H5 (S4.trans s5)⟩
       ·rw[em]at er2
        refine⟨a,c,_,_,rfl,rfl,s5 _ _ (s4 _ _ f3),f6,?_,λd H6 s6 f7 n7=>?_⟩
        ·have h1:=wr.1
         have h2:=(fi em).1;rw[List.length_zip]at h2;rw[sizeLine_eq];simp only[List.length_cons,List.length_nil];omega
        ·exact hy w rs er2 d vs H6 (S4.trans (s5.trans s6)) (Same.free (S4.trans s5) n7) f7 (wr.mono s6)
       ·rw[em]at er2
        exact er2
  | _=>exact dD (hn (by intro z e;cases e) H (Same.refl _))
theorem je{X:Cx}{e:Expr}:PE X e (λ_ _ _=>False):=λ_ _ _ _ _ _ h=>h.elim
noncomputable def j0:Sp:=λ_ _ _ _=>False
inductive yz (vs:List V) (H:Hp) (Q:VK) (x_3:XK):Prop
 | mk:∀x:Str,(vs = [.str x])->(x∈bX)->(Q .non H)->yz vs H Q x_3
inductive yA (C:Addr) (vs:List V) (H:Hp) (x_2:VK) (E:XK):Prop
 | mk:∀l:Addr,(vs = [.ref l])->(H l=some (.lst []))->(E (.ref C) none H)->yA C vs H x_2 E
inductive xS (C:Addr) (vs:List V) (H:Hp) (x_2:VK) (E:XK):Prop
 | mk:∀(n:V) (l:Addr) (x:Str),(vs = [n,.ref l,.str x])->(H l=some (.lst []))->(x∈bX)->(E (.ref C) none H)->xS C vs H x_2 E
inductive xT (C:Addr) (vs:List V) (H:Hp) (x_2:VK) (E:XK):Prop
 | mk:∀(l:Addr) (x:Str),(vs = [.ref l,.str x])->(H l=some (.lst []))->(x∈bX)->(E (.ref C) none H)->xT C vs H x_2 E
theorem wj:uq ["names","answer","name","square"] ["names","answer"] (ag (top 182)):=smk
theorem cX(wo:Df K mg "name_and_square" (top 182)):Fn P w K mg base "name_and_square" ["names","answer"] 1 j0:=by
 refine wo.fn wj (λ_ _ _ _ _ _ us hl=>match us,hl with | [_,_],_=>rfl) (λvs H Q E h=>?_) (λf cdv A outer s H vs Q E hr h=>?_)
 ·exact h.elim
 ·exact h.elim
theorem wk:uq ["word","one","other","way","answer"] ["word","one","other","way"] (ag (top 181)):=smk
theorem cY(wq:Df K mg "answer_of_leash" (top 181)):Fn P w K mg base "answer_of_leash" ["word","one","other","way"] 1 j0:=by
 refine wq.fn wk (λ_ _ _ _ _ _ us hl=>match us,hl with | [_,_,_,_],_=>rfl) (λvs H Q E h=>?_) (λf cdv A outer s H vs Q E hr h=>?_)
 ·exact h.elim
 ·exact h.elim
theorem xE:uq ["line"] ["line"] (ag (top 150)):=smk
theorem ix(xK:Df K mg "show_line" (top 150)):Fn P w K mg base "show_line" ["line"] 1 j0:=by
 refine xK.fn xE (λ_ _ _ _ _ _ us hl=>match us,hl with | [_],_=>rfl) (λvs H Q E h=>?_) (λf cdv A outer s H vs Q E hr h=>?_)
 ·exact h.elim
 ·exact h.elim
theorem xa:uq ["way"] ["way"] (ag (top 117)):=smk
theorem fO{pW:Addr}(xh:Df K mg "look_at_way" (top 117))(ym:mg "WAYS" = some (.ref pW))(hW:∀H,SqT K H pW (bX.map V.str))(T:Txt mg):Fn P w K mg base "look_at_way" ["way"] 1 yz:=by
 refine xh.fn xa (λ_ _ _ _ _ _ us hl=>match us,hl with | [_],_=>rfl) (λvs H Q E h=>?_) (λf cdv A outer s H vs Q E hr h=>?_)
 ·obtain⟨x,rfl,_⟩:=h
  rfl
 ·obtain⟨x,rfl,hm,q⟩:=h
  refine⟨_,(ai (aJ (b4 (bi (bq (aq aZ (by rfl) T.z_isinstance aB (aa (pv 0) (aa (dq T.z_str fV) ac))))) (bK (ao dw (pv 0) (aO (v:=.ref _) (by rfl) ym rfl) (by rfl)))).pt (ai dj) ax)),?_⟩;refine⟨_,rfl,.str x,_,"str",rfl,.str x,.inr (.inr (.inr (.inr rfl))),_,rfl,?_⟩;refine am (by decide) ?_;refine⟨_,rfl,pW,_,rfl,.inr (hW _),rfl,cb _,_,rfl,?_⟩;rw[bO,decide_eq_true hm];exact dF q
theorem wK:uq ["lines"] ["lines"] (ag (top 140)):=smk
theorem eB{cl:Nat->Addr}(wL:Df K mg "look_at_lines" (top 140))(uU:uG K mg "NoLines" (cl 6))(T:Txt mg):Fx P w K mg base "look_at_lines" ["lines"] 1 [] (yA (cl 6)):=by
 refine wL.fx wK (λ_ _ _ _ _ _ us hl=>match us,hl with | [_],_=>rfl) (λvs H Q E h=>?_) (λf cdv A outer s H vs Q E hr h=>?_)
 ·obtain⟨l,rfl,_⟩:=h
  rfl
 ·obtain⟨l,rfl,hl,e⟩:=h
  refine⟨_,(ai (aJ (ao a9 (aq aG (by rfl) T.z_len bc (aa (pv 0) ac)) aj (az _)) (ai (aS uU (by rfl))) ax)),?_⟩;refine⟨_,rfl,l,_,rfl,.inl (SqL.of hl),rfl,_,rfl,aW (by decide) e⟩
theorem yV:uq ["line","lines","way","answers","number","fences"] ["line","lines","way"] (ag (top 142)):=smk
theorem kG{cl:Nat->Addr}(wD:Ap K mg "nearest" (top 142) [.str "on"])(uH:Fn P w K mg base "look_at_way" ["way"] 1 yz)(uB:Fx P w K mg base "look_at_lines" ["lines"] 1 [] (yA (cl 6)))(T:Txt mg):Fx P w K mg base "nearest" ["line","lines","way"] 2 [.str "on"] (xS (cl 6)):=by
 refine wD.fx yV (λT kV doc pm an cdv ct us its oT n s hv hl ho hs=>?_) (λT kV doc pm an cdv ct us its oT n s hv hl ho hs=>?_) (λvs H Q E h=>?_) (λf cdv A outer s H vs Q E hr h=>?_)
 ·obtain⟨u,rfl,_⟩:=b3 hv
  match us,hl with
  | [_,_,_],_=>exact BindsTo.of_defaults rfl ho hs rfl rfl
 ·obtain⟨u,rfl,_⟩:=b3 hv
  have hl1:us.length=2:=by simpa using hl
  match us,hl1 with
  | [_,_],_=>exact BindsTo.of_defaults rfl ho hs rfl rfl
 ·obtain⟨n,l,x,rfl,_⟩:=h
  rfl
 ·obtain⟨n,l,x,rfl,hl,hm,e⟩:=h
  refine⟨_,(ae (aT (aP uH (hr.mono (by decide)) (by rfl) (aa (pv 2) ac))) (ae (aT (bQ uB (hr.mono (by decide)) (by rfl) (aa (pv 1) ac))) gD)),?_⟩;exact⟨_,rfl,x,rfl,hm,_,rfl,l,rfl,hl,e⟩
theorem Ab:uq ["lines","way","table","shows","number","walks"] ["lines","way"] (ag (top 144)):=smk
theorem oW{cl:Nat->Addr}(xB:Ap K mg "midst" (top 144) [.str "on"])(uH:Fn P w K mg base "look_at_way" ["way"] 1 yz)(uB:Fx P w K mg base "look_at_lines" ["lines"] 1 [] (yA (cl 6)))(T:Txt mg):Fx P w K mg base "midst" ["lines","way"] 2 [.str "on"] (xT (cl 6)):=by
 refine xB.fx Ab (λT kV doc pm an cdv ct us its oT n s hv hl ho hs=>?_) (λT kV doc pm an cdv ct us its oT n s hv hl ho hs=>?_) (λvs H Q E h=>?_) (λf cdv A outer s H vs Q E hr h=>?_)
 ·obtain⟨u,rfl,_⟩:=b3 hv
  match us,hl with
  | [_,_],_=>exact BindsTo.of_defaults rfl ho hs rfl rfl
 ·obtain⟨u,rfl,_⟩:=b3 hv
  have hl1:us.length=1:=by simpa using hl
  match us,hl1 with
  | [_],_=>exact BindsTo.of_defaults rfl ho hs rfl rfl
 ·obtain⟨l,x,rfl,_⟩:=h
  rfl
 ·obtain⟨l,x,rfl,hl,hm,e⟩:=h
  refine⟨_,(ae (aT (aP uH (hr.mono (by decide)) (by rfl) (aa (pv 1) ac))) (ae (aT (bQ uB (hr.mono (by decide)) (by rfl) (aa (pv 0) ac))) gD)),?_⟩;exact⟨_,rfl,x,rfl,hm,_,rfl,l,rfl,hl,e⟩
theorem bE{H:Hp}{n:Str}(h:n.length<=100):Nm H (.str n):=⟨⟨_,.str n⟩,⟨_,.str⟩,λz e=>by cases e;exact h⟩
theorem jj{n:Str}(h:aQ n=true):n.length<=100:=by
 unfold aQ at h;rw[Bool.and_eq_true,Bool.and_eq_true,decide_eq_true_eq,decide_eq_true_eq]at h;omega
theorem b0(a b:V)(r:List V):atI (a::b::r) 1=some b:=fo (j:=1) rfl
theorem at_two(a b c:V)(r:List V):atI (a::b::c::r) 2=some c:=fo (j:=2) rfl
theorem ql(a b:V)(l:List V):dS (a::b::l) (some 2) none=l:=by
 unfold dS;rw[show(2:Int)=((2:Nat):Int) from rfl,HT.sIx_nat,HT.sIx_none];simp
noncomputable def okC(cs:Cs):Bool:=(decide ((1:Int)<=(cs.length:Int)) && decide ((cs.length:Int)<=10)) && cs.all λc=>bh (.int c.1) && bh (.int c.2)
noncomputable def okL(cs:Cs):Option Cs:=if okC cs=true then some cs else none
theorem kU{H:Hp}:∀{cs:Cs} {vs:List V},RWs H vs (cs.map .cr)->∃qs:Crn,vs=qs.map (λq=>V.ref q.1)/\qs.map (·.2)=cs/\∀q∈qs,H q.1=some (.tup [.int q.2.1,.int q.2.2])
 | [],[],_=>⟨[],rfl,rfl,(λq h=>by cases h)⟩
 | [],_::_,h=>by have:=h.1;simp at this
 | _::_,[],h=>by have:=h.1;simp at this
 | c::cs,v::vs,h=>by
  obtain⟨p,rfl,e⟩:=h.2 0 v (.cr c) rfl rfl;obtain⟨qs,h1,h2,h3⟩:=kU (cs:=cs) (vs:=vs) ⟨by have:=h.1;simpa using this,λi v r e1 e2=>h.2 (i+1) v r e1 e2⟩;refine⟨(p,c)::qs,by rw[h1];rfl,by rw[<- h2];rfl,λq hq=>?_⟩;rcases List.mem_cons.mp hq with rfl|hq
  ·exact e
  ·exact h3 q hq
theorem rM{H:Hp}{l:Addr}{vs:List V}{cs:Cs}(e:H l=some (.lst vs))(h:RWs H vs (cs.map .cr))(hl:cs.length<=100):LnO H (.ref l) (okL cs):=by
 obtain⟨qs,rfl,rfl,hq⟩:=kU h;have ek:fD H (qs.map λq=>V.ref q.1)=okC (qs.map (·.2)):=by
  unfold fD okC;rw[List.length_map,List.length_map,List.all_map,List.all_map]
  congr 1
  rw[Bool.eq_iff_iff,List.all_eq_true,List.all_eq_true];constructor
  ·intro z q m
   have:=z q m;rw[Function.comp,cN (hq q m)]at this;exact this
  ·intro z q m
   rw[Function.comp,cN (hq q m)];exact z q m
 unfold okL
 by_cases c:okC (qs.map (·.2))=true
 ·rw[if_pos c]
  refine⟨l,qs,rfl,?_,rfl⟩;unfold okC at c;rw[Bool.and_eq_true,Bool.and_eq_true,decide_eq_true_eq,decide_eq_true_eq,List.length_map,List.all_eq_true]at c;obtain⟨⟨c1,c2⟩,c3⟩:=c;have sm:∀q∈qs,(-bH<=q.2.1/\q.2.1<=bH)/\(-bH<=q.2.2/\q.2.2<=bH):=λq m=>by
   have:=c3 q.2 (List.mem_map.mpr ⟨q,m,rfl⟩);simpa[bh]using this
  exact⟨⟨e,λq m=>⟨hq q m,fe (sm q m).1,fe (sm q m).2⟩⟩,sm,by omega,by omega⟩
 ·rw[if_neg c]
  refine⟨pX e (by rw[List.length_map]at hl ⊢;exact hl) λy hy=>?_,by rw[b6 e,ek];simpa using c⟩;obtain⟨q,m,rfl⟩:=List.mem_map.mp hy;exact mT (hq q m)
inductive xI (kept:Bk) (past:List Bk):Str->List RW->Nat->Prop
 | put {n:Str} {cs:Cs} {k:Nat} (hn:n.length<=100) (hc:cs.length<=100) (h:(bj 0 (.str n) (okL cs) kept past).1=k) (h0:k≠0):xI kept past (Str.ofString "put") (.nm n::cs.map .cr) k
 | strike {n:Str} {k:Nat} (hn:n.length<=100) (h:(bj 3 (.str n) none kept past).1=k) (h0:k≠0):xI kept past (Str.ofString "strike") [.nm n] k
 | turn {n:Str} {k:Nat} (hn:n.length<=100) (h:(bj 4 (.str n) none kept past).1=k) (h0:k≠0):xI kept past (Str.ofString "turn") [.nm n] k
 | back (h:past = []):xI kept past (Str.ofString "back") [] 5
inductive wZ (kept:Bk):Str->List RW->Nat->Prop
 | thin {n:Str} {c:Int×Int} (hn:n.length<=100) (h:atN (.str n) kept=none):wZ kept (Str.ofString "thin") [.nm n,.sq c] 1
 | line {n:Str} (hn:n.length<=100) (h:atN (.str n) kept=none):wZ kept (Str.ofString "line") [.nm n] 1
 | near {n y:Str} (hn:n.length<=100) (h:atN (.str n) kept=none):wZ kept (Str.ofString "near") [.nm n,.wy y] 1
 | alone {n y:Str} {cs:Cs} (hn:aQ n=true) (h:kept = [(n,cs)]) (hy:y∈bX):wZ kept (Str.ofString "near") [.nm n,.wy y] 6
 | midst {y:Str} (h:kept = []) (hy:y∈bX):wZ kept (Str.ofString "midst") [.wy y] 6
 | two {w n m y:Str} (hw:w=Str.ofString "leash"\/w=Str.ofString "walk"\/w=Str.ofString "fence") (hn:n.length<=100) (h:atN (.str n) kept=none):wZ kept w [.nm n,.nm m,.wy y] 1
 | other {w n m y:Str} {cs:Cs} (hw:w=Str.ofString "leash"\/w=Str.ofString "walk"\/w=Str.ofString "fence") (hn:n.length<=100) (hm:m.length<=100) (h1:atN (.str n) kept=some cs) (h:atN (.str m) kept=none):wZ kept w [.nm n,.nm m,.wy y] 1
inductive zk (C:Addr) (cl:Nat->Addr) (vs:List V) (H:Hp) (x_2:VK) (E:XK):Prop
 | mk:∀(b:Addr) (n:Str) (y:V) (M:List Addr) (e:Addr) (kept:Bk) (past:List Bk),(vs = [.ref b,.str n,y])->(u7 M C H b e kept past)->(n.length<=100)->(atN (.str n) kept=none)->(∀H',Same H H'->E (.ref (cl 1)) none H')->zk C cl vs H x_2 E
inductive zu (C:Addr) (cl:Nat->Addr) (vs:List V) (H:Hp) (x_2:VK) (E:XK):Prop
 | mk:∀(b:Addr) (n y:Str) (M:List Addr) (e:Addr) (kept:Bk) (past:List Bk) (k:Nat),(vs = [.ref b,.str n,.str y])->(u7 M C H b e kept past)->(((n.length<=100/\atN (.str n) kept=none/\k=1)\/∃cs,aQ n=true/\kept = [(n,cs)]/\y∈bX/\k=6))->(∀H',Same H H'->E (.ref (cl k)) none H')->zu C cl vs H x_2 E
inductive zv (C:Addr) (cl:Nat->Addr) (vs:List V) (H:Hp) (x_2:VK) (E:XK):Prop
 | mk:∀(b:Addr) (y:Str) (M:List Addr) (e:Addr) (kept:Bk) (past:List Bk),(vs = [.ref b,.str y])->(u7 M C H b e kept past)->(kept = [])->(y∈bX)->(∀H',Same H H'->E (.ref (cl 6)) none H')->zv C cl vs H x_2 E
inductive zy (C:Addr) (cl:Nat->Addr) (vs:List V) (H:Hp) (x_2:VK) (E:XK):Prop
 | mk:∀(b l:Addr) (w:Str) (ys:List V) (rs:List RW) (M:List Addr) (e:Addr) (kept:Bk) (past:List Bk) (k:Nat),(vs = [.ref b,.ref l])->(H l=some (.lst (.str w::ys)))->(RWs H ys rs)->(u7 M C H b e kept past)->(xI kept past w rs k)->(∀H',Same H H'->E (.ref (cl k)) none H')->zy C cl vs H x_2 E
inductive zB (C:Addr) (cl:Nat->Addr) (vs:List V) (H:Hp) (x_2:VK) (E:XK):Prop
 | mk:∀(b l:Addr) (w:Str) (ys:List V) (rs:List RW) (M:List Addr) (e:Addr) (kept:Bk) (past:List Bk) (k:Nat),(vs = [.ref b,.ref l])->(H l=some (.lst (.str w::ys)))->(RWs H ys rs)->(u7 M C H b e kept past)->(wZ kept w rs k)->(∀H',Same H H'->E (.ref (cl k)) none H')->zB C cl vs H x_2 E
theorem hV{H:Hp}{ys:List V}{r:RW}(h:RWs H ys [r]):∃v,ys = [v]/\jQ H v r:=by
 obtain⟨v,rfl⟩:∃v,ys = [v]:=List.length_eq_one_iff.mp h.1;exact⟨v,rfl,h.2 0 v r rfl rfl⟩
theorem i5{H:Hp}{ys:List V}{r:RW}{rs:List RW}(h:RWs H ys (r::rs)):∃v vs,ys=v::vs/\jQ H v r/\RWs H vs rs:=by
 cases ys with
 | nil=>have:=h.1;simp at this
 | cons v vs=>exact⟨v,vs,rfl,h.2 0 v r rfl rfl,by have:=h.1;simpa using this,λi v r e1 e2=>h.2 (i+1) v r e1 e2⟩
theorem wY:uq ["self","words"] ["self","words"] (ag (aH 183 10)):=smk
theorem eY{cl:Nat->Addr}(vd:vX K C_Book "do_deed" "Book.do_deed" (aH 183 10))(uo:u6 K mg "Book" C_Book)(uX:Mt P w K mg base C_Book "put" ["self","name","corners"] 6 (yy C_Book cl))(vh:Mt P w K mg base C_Book "strike" ["self","name"] 3 (wR C_Book cl 3))(vN:Mt P w K mg base C_Book "turn" ["self","name"] 4 (wR C_Book cl 4))(vQ:Mt P w K mg base C_Book "back" ["self"] 1 (xX C_Book cl))(T:Txt mg):Mt P w K mg base C_Book "do_deed" ["self","words"] 7 (zy C_Book cl):=by
 refine vd.mt wY (λ_ _ _ _ _ _ us hl=>match us,hl with | [_,_],_=>rfl) (λvs H Q E h=>?_) (λf cdv A outer s H vs Q E hr h=>?_)
 ·obtain⟨b,l,w,ys,rs,M,e,kept,past,k,rfl,_⟩:=h
  rfl
 ·obtain⟨b,l,w,ys,rs,M,e,kept,past,k,rfl,hl,hrs,op,rd,q⟩:=h
  refine⟨_,(ai (aJ (ao a9 (aC av (pv 1) aj (λ_ _=>rfl)) ah (az _)) (ai (aT (a4 uo uX (hr.mono (by decide)) (pv 0) (aa (aC av (pv 1) aj (λ_ _=>rfl)) (aa (cB dh (pv 1) (dl aj) dm) ac))))) (ai (aJ (ao a9 (aC av (pv 1) aj (λ_ _=>rfl)) ah (az _)) (ai (aT (a4 uo vh (hr.mono (by decide)) (pv 0) (aa (aC av (pv 1) aj (λ_ _=>rfl)) ac)))) (ai (aJ (ao a9 (aC av (pv 1) aj (λ_ _=>rfl)) ah (az _)) (ai (aT (a4 uo vN (hr.mono (by decide)) (pv 0) (aa (aC av (pv 1) aj (λ_ _=>rfl)) ac)))) (ai (aT (dr uo vQ (hr.mono (by decide)) (pv 0)))))))))),?_⟩;obtain⟨dx,kk,hb,bo,pa⟩:=op.bk.ex;cases rd with
  | put hn hc h h0 =>
   obtain⟨v,vs,rfl,rfl,hv⟩:=i5 hrs;refine⟨_,rfl,l,_,_,_,rfl,rfl,SqL.of hl,ar _ _,rfl,_,rfl,aW (by decide) ?_⟩;refine⟨_,rfl,b,dx,_,rfl,hb,rfl,_,rfl,l,_,_,_,rfl,rfl,SqL.of hl,b0 _ _ _,_,rfl,_,rfl,l,_,rfl,SqL.of hl,λp H1 s1 f1 n1=>?_⟩;rw[ql]at f1;refine⟨b,_,_,M,e,kept,past,_,rfl,op.mono s1,bE hn,rM f1 (hv.mono s1) hc,λ_ H' s'=>?_,λz=>absurd (h.symm.trans z) h0⟩;rw[h];exact q H' (s1.trans s')
  | strike hn h h0 =>
   obtain⟨v,rfl,rfl⟩:=hV hrs;refine⟨_,rfl,l,_,_,_,rfl,rfl,SqL.of hl,ar _ _,rfl,_,rfl,am (by decide) ?_⟩;refine⟨_,rfl,l,_,_,_,rfl,rfl,SqL.of hl,ar _ _,rfl,_,rfl,aW (by decide) ?_⟩;exact⟨_,rfl,b,dx,_,rfl,hb,rfl,_,rfl,l,_,_,_,rfl,rfl,SqL.of hl,b0 _ _ _,b,_,M,e,kept,past,rfl,op,bE hn,(λ_ H' s'=>by rw[h];exact q H' s'),λz=>absurd (h.symm.trans z) h0⟩
  | turn hn h h0 =>
   obtain⟨v,rfl,rfl⟩:=hV hrs;refine⟨_,rfl,l,_,_,_,rfl,rfl,SqL.of hl,ar _ _,rfl,_,rfl,am (by decide) ?_⟩;refine⟨_,rfl,l,_,_,_,rfl,rfl,SqL.of hl,ar _ _,rfl,_,rfl,am (by decide) ?_⟩;refine⟨_,rfl,l,_,_,_,rfl,rfl,SqL.of hl,ar _ _,rfl,_,rfl,aW (by decide) ?_⟩;exact⟨_,rfl,b,dx,_,rfl,hb,rfl,_,rfl,l,_,_,_,rfl,rfl,SqL.of hl,b0 _ _ _,b,_,M,e,kept,past,rfl,op,bE hn,(λ_ H' s'=>by rw[h];exact q H' s'),λz=>absurd (h.symm.trans z) h0⟩
  | back h =>
   refine⟨_,rfl,l,_,_,_,rfl,rfl,SqL.of hl,ar _ _,rfl,_,rfl,am (by decide) ?_⟩;refine⟨_,rfl,l,_,_,_,rfl,rfl,SqL.of hl,ar _ _,rfl,_,rfl,am (by decide) ?_⟩;refine⟨_,rfl,l,_,_,_,rfl,rfl,SqL.of hl,ar _ _,rfl,_,rfl,am (by decide) ?_⟩;subst h;exact⟨_,rfl,b,dx,_,rfl,hb,rfl,b,M,e,kept,[],rfl,op,(λ_ H' s'=>q H' s'),λz=>absurd z (by simp[bj])⟩
theorem wH:uq ["self","name","square","line"] ["self","name","square"] (ag (aH 183 8)):=smk
theorem iD{cl:Nat->Addr}(vS:vX K C_Book "thin" "Book.thin" (aH 183 8))(uo:u6 K mg "Book" C_Book)(ut:Mt P w K mg base C_Book "line" ["self","name"] 2 (u8 C_Book (cl 1)))(T:Txt mg):Mt P w K mg base C_Book "thin" ["self","name","square"] 3 (zk C_Book cl):=by
 refine vS.mt wH (λ_ _ _ _ _ _ us hl=>match us,hl with | [_,_,_],_=>rfl) (λvs H Q E h=>?_) (λf cdv A outer s H vs Q E hr h=>?_)
 ·obtain⟨b,n,y,M,e,kept,past,rfl,_⟩:=h
  rfl
 ·obtain⟨b,n,y,M,e,kept,past,rfl,op,hn,h,q⟩:=h
  refine⟨_,(ae (au (i:=3) wH.nd rfl (Or.inr rfl) (a4 uo ut (hr.mono (by decide)) (pv 0) (aa (pv 1) ac))) (ai dj)),?_⟩;obtain⟨dx,kk,hb,bo,pa⟩:=op.bk.ex;exact⟨_,rfl,b,dx,_,rfl,hb,rfl,_,rfl,b,_,M,e,kept,past,rfl,op.bk,bE hn,by have:=op.gd.len;omega,op.gd.ln,(λcs hc=>by rw[h]at hc;cases hc),λ_ H1 s1=>q H1 s1⟩
theorem uS:uq ["self","name","way","line","others"] ["self","name","way"] (ag (aH 183 12)):=smk
theorem dM{cl:Nat->Addr}(uZ:vX K C_Book "tell_near" "Book.tell_near" (aH 183 12))(uo:u6 K mg "Book" C_Book)(ut:Mt P w K mg base C_Book "line" ["self","name"] 2 (u8 C_Book (cl 1)))(uu:Mt P w K mg base C_Book "names" ["self"] 1 (vm C_Book))(wx:Fx P w K mg base "nearest" ["line","lines","way"] 2 [.str "on"] (xS (cl 6)))(uy:Fn P w K mg base "name_and_square" ["names","answer"] 1 j0)(T:Txt mg):Mt P w K mg base C_Book "tell_near" ["self","name","way"] 3 (zu C_Book cl):=by
 refine uZ.mt uS (λ_ _ _ _ _ _ us hl=>match us,hl with | [_,_,_],_=>rfl) (λvs H Q E h=>?_) (λf cdv A outer s H vs Q E hr h=>?_)
 ·obtain⟨b,n,y,M,e,kept,past,k,rfl,_⟩:=h
  rfl
 ·obtain⟨b,n,y,M,e,kept,past,k,rfl,op,ra,q⟩:=h
  have C3:v0 (ak (CXE P w) P w K mg base ["self","name","way","line","others"] "Book.tell_near" (ag (aH 183 12)) f cdv A outer s H E) (lcA (aH 183 12) 0) [("name",s.heap.objs.size+2)] ["other"] [("name",1)] :=
   ⟨by rfl,rfl,by decide +kernel,by decide +kernel,(λx hx=>by simp only[List.mem_cons,List.not_mem_nil,or_false]at hx;rcases hx with rfl <;> exact rfl),(λp hp=>by simp only[List.mem_cons,List.not_mem_nil,or_false]at hp;rcases hp with rfl <;> exact rfl),by rfl,by decide +kernel,(λp hp=>by simp only[List.mem_cons,List.not_mem_nil,or_false]at hp;rcases hp with rfl <;> exact⟨rfl,rfl,.inr (.inl rfl),rfl,rfl⟩),⟨rfl,rfl⟩,rfl⟩
  have C4:uQ (ak (CXE P w) P w K mg base ["self","name","way","line","others"] "Book.tell_near" (ag (aH 183 12)) f cdv A outer s H E) (lcA (aH 183 12) 1) [("self",s.heap.objs.size+1)] "other" [("self",0)] :=
   ⟨by rfl,rfl,by decide +kernel,by decide +kernel,rfl,(λp hp=>by simp only[List.mem_cons,List.not_mem_nil,or_false]at hp;rcases hp with rfl <;> exact rfl),by rfl,by decide +kernel,(λp hp=>by simp only[List.mem_cons,List.not_mem_nil,or_false]at hp;rcases hp with rfl <;> exact⟨rfl,rfl,.inr (.inl rfl),rfl,rfl⟩),⟨rfl,rfl⟩,rfl⟩
  refine⟨_,(ae (au (i:=3) uS.nd rfl (Or.inl rfl) (a4 uo ut (hr.mono (by decide)) (pv 0) (aa (pv 1) ac))) (ae (jc (j:=4) rfl C3 uS.nd rfl rfl (bf (dr uo uu (hr.mono (by decide)) (pv 0))) (λfp s₀ H₀=>(bg (i:=0) C3.nd rfl (Or.inl rfl) (Or.inr rfl))) (λfp s₀ H₀=>(kZ (ao bv (pv 0) (pv 1) (az _)))) (λfp s₀ H₀=>(pv 0))) (ai (aw (aP uy (hr.mono (by decide)) (by rfl) (aa (pv 4) (aa (bQ wx (hr.mono (by decide)) (by rfl) (aa (pv 3) (aa (bL rfl C4 (bf (pv 4)) (λfp s₀ H₀=>je)) (aa (pv 2) ac)))) ac))))))),?_⟩;obtain⟨dx,kk,hb,bo,pa⟩:=op.bk.ex;have kl:=op.gd.len;rcases ra with⟨hn,h,rfl⟩|⟨cs,hn,h,hy,rfl⟩
  ·exact⟨_,rfl,b,dx,_,rfl,hb,rfl,_,rfl,b,_,M,e,kept,past,rfl,op.bk,bE hn,by omega,op.gd.ln,(λcs hc=>by rw[h]at hc;cases hc),λ_ H1 s1=>q H1 s1⟩
  ·have hl:n.length<=100:=jj hn
   refine⟨_,rfl,b,dx,_,rfl,hb,rfl,_,rfl,b,_,M,e,kept,past,rfl,op.bk,bE hl,by omega,op.gd.ln,(λcs' hc l qs H1 s1 n1 eq e1 hq=>?_),λz=>?_⟩
   rotate_left
   ·exfalso
    rw[h]at z;unfold atN fnd at z;dsimp only at z;rw[hn,if_neg (by decide)]at z;simp at z
   obtain⟨dx,kk,hb,bo,pa⟩:=(op.bk.mono s1).ex;refine⟨_,rfl,b,dx,_,rfl,hb,rfl,b,M,e,kept,past,rfl,op.bk.mono s1,by omega,λl2 H2 s2 n2 f2=>⟨l2,rfl,⟨_,SqL.of f2⟩,?_⟩⟩;rw[h]at f2;have f2:H2 l2=some (.lst [.str n]):=f2;refine gO f2 (by simp) (λv=>!decide (v = .str n)) id (λv H3 τ Kc Kn hv s3 hτ k1 k2=>?_) (λl3 H3 n3 s3 e3=>?_)
   ·obtain⟨τ0,rfl⟩:=List.length_eq_one_iff.mp hτ
    have ev:=List.mem_singleton.mp hv;subst ev;exact⟨⟨[some (.str n)],rfl,rfl⟩,_,rfl,_,rfl,rfl,_,rfl,am (by simp) (k2 (by simp) _ (Same.refl _))⟩
   ·have e3:H3 l3=some (.lst []):=by
     rw[e3];simp
    refine⟨_,rfl,_,rfl,_,rfl,l3,rfl,⟨_,SqL.of e3⟩,iJ (SqL.of e3) (by simp) (λ_ _ _=>True) (λ_ _ _ _ _ h=>h) (λi x H4 Kc hx=>by simp at hx) (λl4 ys H4 n4 s4 e4 hn4 _=>?_)⟩;have ey:ys = []:=List.eq_nil_of_length_eq_zero hn4;subst ey;exact⟨_,rfl,_,l4,y,rfl,e4,hy,q H4 (s1.trans (s2.trans (s3.trans s4)))⟩
theorem wl:uq ["self","way"] ["self","way"] (ag (aH 183 13)):=smk
theorem cZ{cl:Nat->Addr}(uP:vX K C_Book "tell_midst" "Book.tell_midst" (aH 183 13))(uo:u6 K mg "Book" C_Book)(uu:Mt P w K mg base C_Book "names" ["self"] 1 (vm C_Book))(xw:Fx P w K mg base "midst" ["lines","way"] 2 [.str "on"] (xT (cl 6)))(uy:Fn P w K mg base "name_and_square" ["names","answer"] 1 j0)(T:Txt mg):Mt P w K mg base C_Book "tell_midst" ["self","way"] 3 (zv C_Book cl):=by
 refine uP.mt wl (λ_ _ _ _ _ _ us hl=>match us,hl with | [_,_],_=>rfl) (λvs H Q E h=>?_) (λf cdv A outer s H vs Q E hr h=>?_)
 ·obtain⟨b,y,M,e,kept,past,rfl,_⟩:=h
  rfl
 ·obtain⟨b,y,M,e,kept,past,rfl,op,hk,hy,q⟩:=h
  have CN:uQ (ak (CXE P w) P w K mg base ["self","way"] "Book.tell_midst" (ag (aH 183 13)) f cdv A outer s H E) (lcA (aH 183 13) 0) [("self",s.heap.objs.size+1)] "name" [("self",0)] :=
   ⟨by rfl,rfl,by decide +kernel,by decide +kernel,rfl,(λp hp=>by simp only[List.mem_cons,List.not_mem_nil,or_false]at hp;rcases hp with rfl <;> exact rfl),by rfl,by decide +kernel,(λp hp=>by simp only[List.mem_cons,List.not_mem_nil,or_false]at hp;rcases hp with rfl <;> exact⟨rfl,rfl,.inr (.inl rfl),rfl,rfl⟩),⟨rfl,rfl⟩,rfl⟩
  refine⟨_,(ai (aw (aP uy (hr.mono (by decide)) (by rfl) (aa (dr uo uu (hr.mono (by decide)) (pv 0)) (aa (bQ xw (hr.mono (by decide)) (by rfl) (aa (bL rfl CN (bf (dr uo uu (hr.mono (by decide)) (pv 0))) (λfp s₀ H₀=>je)) (aa (pv 1) ac))) ac))))),?_⟩;obtain⟨dx,kk,hb,bo,pa⟩:=op.bk.ex;subst hk;refine⟨_,rfl,b,dx,_,rfl,hb,rfl,b,M,e,[],past,rfl,op.bk,by simp,λl1 H1 s1 n1 f1=>?_⟩;obtain⟨dx,kk,hb,bo,pa⟩:=(op.bk.mono s1).ex;refine⟨_,rfl,b,dx,_,rfl,hb,rfl,b,M,e,[],past,rfl,op.bk.mono s1,by simp,λl2 H2 s2 n2 f2=>⟨l2,rfl,⟨_,SqL.of f2⟩,iJ (SqL.of f2) (by simp) (λ_ _ _=>True) (λ_ _ _ _ _ h=>h) (λi x H4 Kc hx=>by simp at hx) (λl4 ys H4 n4 s4 e4 hn4 _=>?_)⟩⟩;have ey:ys = []:=List.eq_nil_of_length_eq_zero hn4;subst ey;exact⟨_,rfl,l4,y,rfl,e4,hy,q H4 (s1.trans (s2.trans s4))⟩
theorem ww:uq ["self","words"] ["self","words"] (ag (aH 183 14)):=smk
theorem dO{cl:Nat->Addr}(u4:vX K C_Book "answer_to" "Book.answer_to" (aH 183 14))(uo:u6 K mg "Book" C_Book)(vO:Mt P w K mg base C_Book "thin" ["self","name","square"] 3 (zk C_Book cl))(ut:Mt P w K mg base C_Book "line" ["self","name"] 2 (u8 C_Book (cl 1)))(uW:Mt P w K mg base C_Book "tell_near" ["self","name","way"] 3 (zu C_Book cl))(uO:Mt P w K mg base C_Book "tell_midst" ["self","way"] 3 (zv C_Book cl))(uN:Fn P w K mg base "answer_of_leash" ["word","one","other","way"] 1 j0)(vI:Fn P w K mg base "show_line" ["line"] 1 j0)(T:Txt mg):Mt P w K mg base C_Book "answer_to" ["self","words"] 4 (zB C_Book cl):=by
 refine u4.mt ww (λ_ _ _ _ _ _ us hl=>match us,hl with | [_,_],_=>rfl) (λvs H Q E h=>?_) (λf cdv A outer s H vs Q E hr h=>?_)
 ·obtain⟨b,l,w,ys,rs,M,e,kept,past,k,rfl,_⟩:=h
  rfl
 ·obtain⟨b,l,w,ys,rs,M,e,kept,past,k,rfl,hl,hrs,op,ra,q⟩:=h
  refine⟨_,(ae (aJ (ao a9 (aC av (pv 1) aj (λ_ _=>rfl)) ah (az _)) (ae (aT (a4 uo vO (hr.mono (by decide)) (pv 0) (aa (aC av (pv 1) aj (λ_ _=>rfl)) (aa (aC av (pv 1) aj (λ_ _=>rfl)) ac)))) (ai dj)) ax) (ae (aJ (ao a9 (aC av (pv 1) aj (λ_ _=>rfl)) ah (az _)) (ai (aw (aP vI (hr.mono (by decide)) (by rfl) (aa (a4 uo ut (hr.mono (by decide)) (pv 0) (aa (aC av (pv 1) aj (λ_ _=>rfl)) ac)) ac)))) ax) (ae (aJ (ao a9 (aC av (pv 1) aj (λ_ _=>rfl)) ah (az _)) (ai dj) ax) (ae (aJ (ao a9 (aC av (pv 1) aj (λ_ _=>rfl)) ah (az _)) (ai (aw (a4 uo uW (hr.mono (by decide)) (pv 0) (aa (aC av (pv 1) aj (λ_ _=>rfl)) (aa (aC av (pv 1) aj (λ_ _=>rfl)) ac))))) ax) (ae (aJ (ao a9 (aC av (pv 1) aj (λ_ _=>rfl)) ah (az _)) (ai (aw (a4 uo uO (hr.mono (by decide)) (pv 0) (aa (aC av (pv 1) aj (λ_ _=>rfl)) ac)))) ax) (ai (aw (aP uN (hr.mono (by decide)) (by rfl) (aa (aC av (pv 1) aj (λ_ _=>rfl)) (aa (a4 uo ut (hr.mono (by decide)) (pv 0) (aa (aC av (pv 1) aj (λ_ _=>rfl)) ac)) (aa (a4 uo ut (hr.mono (by decide)) (pv 0) (aa (aC av (pv 1) aj (λ_ _=>rfl)) ac)) (aa (aC av (pv 1) aj (λ_ _=>rfl)) ac)))))))))))),?_⟩;obtain⟨dx,kk,hb,bo,pa⟩:=op.bk.ex;have kl:=op.gd.len;cases ra with
  | thin hn h =>
   obtain⟨v,vs,rfl,rfl,hv⟩:=i5 hrs;obtain⟨v2,rfl,h2⟩:=hV hv;refine⟨_,rfl,l,_,_,_,rfl,rfl,SqL.of hl,ar _ _,rfl,_,rfl,aW (by decide) ?_⟩;exact⟨_,rfl,b,dx,_,rfl,hb,rfl,_,rfl,l,_,_,_,rfl,rfl,SqL.of hl,b0 _ _ _,_,rfl,l,_,_,_,rfl,rfl,SqL.of hl,at_two _ _ _ _,b,_,v2,M,e,kept,past,rfl,op,hn,h,q⟩
  | line hn h =>
   obtain⟨v,rfl,rfl⟩:=hV hrs;refine⟨_,rfl,l,_,_,_,rfl,rfl,SqL.of hl,ar _ _,rfl,_,rfl,am (by decide) ?_⟩;refine⟨_,rfl,l,_,_,_,rfl,rfl,SqL.of hl,ar _ _,rfl,_,rfl,aW (by decide) ?_⟩;exact⟨_,rfl,b,dx,_,rfl,hb,rfl,_,rfl,l,_,_,_,rfl,rfl,SqL.of hl,b0 _ _ _,b,_,M,e,kept,past,rfl,op.bk,bE hn,by omega,op.gd.ln,(λcs hc=>by rw[h]at hc;cases hc),λ_ H1 s1=>q H1 s1⟩
  | near hn h =>
   obtain⟨v,vs,rfl,rfl,hv⟩:=i5 hrs;obtain⟨v2,rfl,rfl⟩:=hV hv;refine⟨_,rfl,l,_,_,_,rfl,rfl,SqL.of hl,ar _ _,rfl,_,rfl,am (by decide) ?_⟩;refine⟨_,rfl,l,_,_,_,rfl,rfl,SqL.of hl,ar _ _,rfl,_,rfl,am (by decide) ?_⟩;refine⟨_,rfl,l,_,_,_,rfl,rfl,SqL.of hl,ar _ _,rfl,_,rfl,am (by decide) ?_⟩;refine⟨_,rfl,l,_,_,_,rfl,rfl,SqL.of hl,ar _ _,rfl,_,rfl,aW (by decide) ?_⟩;exact⟨_,rfl,b,dx,_,rfl,hb,rfl,_,rfl,l,_,_,_,rfl,rfl,SqL.of hl,b0 _ _ _,_,rfl,l,_,_,_,rfl,rfl,SqL.of hl,at_two _ _ _ _,b,_,_,M,e,kept,past,_,rfl,op,.inl ⟨hn,h,rfl⟩,q⟩
  | alone hn h hy =>
   obtain⟨v,vs,rfl,rfl,hv⟩:=i5 hrs;obtain⟨v2,rfl,rfl⟩:=hV hv;refine⟨_,rfl,l,_,_,_,rfl,rfl,SqL.of hl,ar _ _,rfl,_,rfl,am (by decide) ?_⟩;refine⟨_,rfl,l,_,_,_,rfl,rfl,SqL.of hl,ar _ _,rfl,_,rfl,am (by decide) ?_⟩;refine⟨_,rfl,l,_,_,_,rfl,rfl,SqL.of hl,ar _ _,rfl,_,rfl,am (by decide) ?_⟩;refine⟨_,rfl,l,_,_,_,rfl,rfl,SqL.of hl,ar _ _,rfl,_,rfl,aW (by decide) ?_⟩;exact⟨_,rfl,b,dx,_,rfl,hb,rfl,_,rfl,l,_,_,_,rfl,rfl,SqL.of hl,b0 _ _ _,_,rfl,l,_,_,_,rfl,rfl,SqL.of hl,at_two _ _ _ _,b,_,_,M,e,kept,past,_,rfl,op,.inr ⟨_,hn,h,hy,rfl⟩,q⟩
  | midst h hy =>
   obtain⟨v,rfl,rfl⟩:=hV hrs;refine⟨_,rfl,l,_,_,_,rfl,rfl,SqL.of hl,ar _ _,rfl,_,rfl,am (by decide) ?_⟩;refine⟨_,rfl,l,_,_,_,rfl,rfl,SqL.of hl,ar _ _,rfl,_,rfl,am (by decide) ?_⟩;refine⟨_,rfl,l,_,_,_,rfl,rfl,SqL.of hl,ar _ _,rfl,_,rfl,am (by decide) ?_⟩;refine⟨_,rfl,l,_,_,_,rfl,rfl,SqL.of hl,ar _ _,rfl,_,rfl,am (by decide) ?_⟩;refine⟨_,rfl,l,_,_,_,rfl,rfl,SqL.of hl,ar _ _,rfl,_,rfl,aW (by decide) ?_⟩;exact⟨_,rfl,b,dx,_,rfl,hb,rfl,_,rfl,l,_,_,_,rfl,rfl,SqL.of hl,b0 _ _ _,b,_,M,e,kept,past,rfl,op,h,hy,q⟩
  | two hw hn h =>
   obtain⟨v,vs,rfl,rfl,hv⟩:=i5 hrs;obtain⟨v2,vs2,rfl,h2,hv2⟩:=i5 hv;obtain⟨v3,rfl,h3⟩:=hV hv2;have nw:∀s∈[Str.ofString "thin",Str.ofString "line",Str.ofString "names",Str.ofString "near",Str.ofString "midst"],decide (V.str w=V.str s)=false:=by
    rcases hw with rfl|rfl|rfl <;> decide
   refine⟨_,rfl,l,_,_,_,rfl,rfl,SqL.of hl,ar _ _,rfl,_,rfl,am (nw _ (by simp)) ?_⟩;refine⟨_,rfl,l,_,_,_,rfl,rfl,SqL.of hl,ar _ _,rfl,_,rfl,am (nw _ (by simp)) ?_⟩;refine⟨_,rfl,l,_,_,_,rfl,rfl,SqL.of hl,ar _ _,rfl,_,rfl,am (nw _ (by simp)) ?_⟩;refine⟨_,rfl,l,_,_,_,rfl,rfl,SqL.of hl,ar _ _,rfl,_,rfl,am (nw _ (by simp)) ?_⟩;refine⟨_,rfl,l,_,_,_,rfl,rfl,SqL.of hl,ar _ _,rfl,_,rfl,am (nw _ (by simp)) ?_⟩;exact⟨_,rfl,l,_,_,_,rfl,rfl,SqL.of hl,ar _ _,_,rfl,b,dx,_,rfl,hb,rfl,_,rfl,l,_,_,_,rfl,rfl,SqL.of hl,b0 _ _ _,b,_,M,e,kept,past,rfl,op.bk,bE hn,by omega,op.gd.ln,(λcs hc=>by rw[h]at hc;cases hc),λ_ H1 s1=>q H1 s1⟩
  | other hw hn hm h1 h =>
   obtain⟨v,vs,rfl,rfl,hv⟩:=i5 hrs;obtain⟨v2,vs2,rfl,h2,hv2⟩:=i5 hv;obtain⟨v3,rfl,h3⟩:=hV hv2;have e2:v2 = .str _:=h2;subst e2;have nw:∀s∈[Str.ofString "thin",Str.ofString "line",Str.ofString "names",Str.ofString "near",Str.ofString "midst"],decide (V.str w=V.str s)=false:=by
    rcases hw with rfl|rfl|rfl <;> decide
   refine⟨_,rfl,l,_,_,_,rfl,rfl,SqL.of hl,ar _ _,rfl,_,rfl,am (nw _ (by simp)) ?_⟩;refine⟨_,rfl,l,_,_,_,rfl,rfl,SqL.of hl,ar _ _,rfl,_,rfl,am (nw _ (by simp)) ?_⟩;refine⟨_,rfl,l,_,_,_,rfl,rfl,SqL.of hl,ar _ _,rfl,_,rfl,am (nw _ (by simp)) ?_⟩;refine⟨_,rfl,l,_,_,_,rfl,rfl,SqL.of hl,ar _ _,rfl,_,rfl,am (nw _ (by simp)) ?_⟩;refine⟨_,rfl,l,_,_,_,rfl,rfl,SqL.of hl,ar _ _,rfl,_,rfl,am (nw _ (by simp)) ?_⟩;refine⟨_,rfl,l,_,_,_,rfl,rfl,SqL.of hl,ar _ _,_,rfl,b,dx,_,rfl,hb,rfl,_,rfl,l,_,_,_,rfl,rfl,SqL.of hl,b0 _ _ _,b,_,M,e,kept,past,rfl,op.bk,bE hn,by omega,op.gd.ln,(λcs hc l2 qs H1 s1 n1 _ _ _=>?_),λz=>by rw[h1]at z;cases z⟩;have op1:=op.mono s1;have hl:=s1 _ _ hl;obtain⟨dx,kk,hb,bo,pa⟩:=op1.bk.ex;exact⟨_,rfl,b,dx,_,rfl,hb,rfl,_,rfl,l,_,_,_,rfl,rfl,SqL.of hl,at_two _ _ _ _,b,_,M,e,kept,past,rfl,op1.bk,bE hm,by omega,op1.gd.ln,(λcs hc=>by rw[h]at hc;cases hc),λ_ H2 s2=>q H2 (s1.trans s2)⟩
inductive vE (kept:Bk) (past:List Bk):V->Nat->Prop
 | no {z:Str} (hz:z.length<=900) (h:bp z=none):vE kept past (.str z) 7
 | odd {x:V} (h:∀z,x≠.str z):vE kept past x 7
 | dee {z w:Str} {rs:List RW} {k:Nat} (hz:z.length<=900) (h:bp z=some (w,rs)) (r:xI kept past w rs k):vE kept past (.str z) k
 | ans {z w:Str} {rs:List RW} {k:Nat} (hz:z.length<=900) (h:bp z=some (w,rs)) (r:wZ kept w rs k):vE kept past (.str z) k
inductive zm (C:Addr) (cl:Nat->Addr) (vs:List V) (H:Hp) (x_2:VK) (E:XK):Prop
 | mk:∀(b:Addr) (x:V) (M:List Addr) (e:Addr) (kept:Bk) (past:List Bk) (k:Nat),(vs = [.ref b,x])->(u7 M C H b e kept past)->((∃t,Kn H x t))->(vE kept past x k)->(∀o H',Same H H'->E (.ref (cl k)) o H')->zm C cl vs H x_2 E
noncomputable def jR:List Str:=[Str.ofString "put",Str.ofString "strike",Str.ofString "turn",Str.ofString "back"]
theorem xI.mem{kept:Bk}{past:List Bk}{w:Str}{rs:List RW}{k:Nat}(h:xI kept past w rs k):w∈jR:=by cases h <;> simp[jR]
theorem wZ.nmem{kept:Bk}{w:Str}{rs:List RW}{k:Nat}(h:wZ kept w rs k):w∉jR:=by
 cases h with
 | two hw=>rcases hw with rfl|rfl|rfl <;> decide +kernel
 | other hw=>rcases hw with rfl|rfl|rfl <;> decide +kernel
 | _=>decide +kernel
theorem wI:uq ["self","row","words"] ["self","row"] (ag (aH 183 15)):=smk
theorem iE{cl:Nat->Addr}{pD:Addr}(vT:vX K C_Book "said" "Book.said" (aH 183 15))(uo:u6 K mg "Book" C_Book)(Ad:mg "DEEDS" = some (.ref pD))(hD:∀H,SqT K H pD (jR.map V.str))(wa:Fx P w K mg base "read_row" ["row"] 8 [] (xR (cl 7)))(vc:Mt P w K mg base C_Book "do_deed" ["self","words"] 7 (zy C_Book cl))(uY:Mt P w K mg base C_Book "answer_to" ["self","words"] 4 (zB C_Book cl))(T:Txt mg):Mt P w K mg base C_Book "said" ["self","row"] 9 (zm C_Book cl):=by
 refine vT.mt wI (λ_ _ _ _ _ _ us hl=>match us,hl with | [_,_],_=>rfl) (λvs H Q E h=>?_) (λf cdv A outer s H vs Q E hr h=>?_)
 ·obtain⟨b,x,M,e,kept,past,k,rfl,_⟩:=h
  rfl
 ·obtain⟨b,x,M,e,kept,past,k,rfl,op,kn,rr,q⟩:=h
  refine⟨_,(ae (au (i:=2) wI.nd rfl (Or.inl rfl) (bQ wa (hr.mono (by decide)) (by rfl) (aa (pv 1) ac))) (ae (aJ (ao eg (aC av (pv 2) aj (λ_ _=>rfl)) (aO (v:=.ref _) (by rfl) Ad rfl) (by rfl)) (ae (aT (a4 uo vc (hr.mono (by decide)) (pv 0) (aa (pv 2) ac))) (ai (aw ah))) ax) (ai (aw (a4 uo uY (hr.mono (by decide)) (pv 0) (aa (pv 2) ac)))))),?_⟩;obtain⟨dx,kk,hb,bo,pa⟩:=op.bk.ex;cases rr with
  | no hz h=>exact⟨_,rfl,_,rfl,kn,(λz e=>by cases e;exact⟨hz,(λw rs hw=>by rw[h]at hw;cases hw),λ_ o H' s'=>q o H' s'⟩),λhn=>absurd rfl (hn _)⟩
  | odd h=>exact⟨_,rfl,x,rfl,kn,(λz e=>absurd e (h z)),λ_ H' s'=>q none H' s'⟩
  | @dee z w rs k hz h r =>
   refine⟨_,rfl,_,rfl,kn,(λz e=>?_),λhn=>absurd rfl (hn _)⟩;cases e;refine⟨hz,(λw' rs' hw l ys H1 s1 n1 hl hrs=>?_),λz=>by rw[h]at z;cases z⟩;rw[h]at hw;cases hw;have op1:=op.mono s1;obtain⟨dx,kk,hb,bo,pa⟩:=op1.bk.ex;refine⟨_,rfl,l,_,_,_,rfl,rfl,SqL.of hl,ar _ _,pD,_,rfl,.inr (hD _),rfl,cb _,_,rfl,?_⟩;rw[bO,decide_eq_true r.mem];refine dD ⟨_,rfl,b,dx,_,rfl,hb,rfl,_,rfl,b,l,w,ys,rs,M,e,kept,past,k,rfl,hl,hrs,op1,r,λH' s'=>q none H' (s1.trans s')⟩
  | @ans z w rs k hz h r =>
   refine⟨_,rfl,_,rfl,kn,(λz e=>?_),λhn=>absurd rfl (hn _)⟩;cases e;refine⟨hz,(λw' rs' hw l ys H1 s1 n1 hl hrs=>?_),λz=>by rw[h]at z;cases z⟩;rw[h]at hw;cases hw;have op1:=op.mono s1;obtain⟨dx,kk,hb,bo,pa⟩:=op1.bk.ex;refine⟨_,rfl,l,_,_,_,rfl,rfl,SqL.of hl,ar _ _,pD,_,rfl,.inr (hD _),rfl,cb _,_,rfl,?_⟩;rw[bO,decide_eq_false r.nmem];refine dF ⟨_,rfl,b,dx,_,rfl,hb,rfl,_,rfl,b,l,w,ys,rs,M,e,kept,past,k,rfl,hl,hrs,op1,r,λH' s'=>q none H' (s1.trans s')⟩
theorem nu{X:Cx}{k:Nat}{C:Addr}{ps:List Str}{sp:Sp}{n m:Str}{o e:Expr}{es:List Expr}{ta:TE}{t:TA}{apos cpos pos:Pos}{pl:Sem Bool}(O:u6 X.K X.mg n C)(F:Mt X.prog X.w X.K X.mg X.base C m ps k sp)(hr:uE k X.A)(ho:PE X.nox o ta)(ha:PA X.nox (e::es) t)
  (hs:swapsWith (.Call (.Attribute o m apos) (e::es) [] cpos) none pos.line X.env=pure false:=by rfl)
  (hst:starEach (e::es) X.env=(false,eval e X.env)::starEach es X.env:=by rfl) (hpl:(backTo cpos (starEach es X.env)).any (·.1)=false:=by rfl)
  (ht:eval (.Call (.Attribute o m apos) (e::es) [] cpos) X.env=(do
   let ov <- eval o X.env
   standAt apos.atName
   let (f,first) <- holding [ov] (getMethod ov m pl)
   callWith cpos f first (backTo cpos (starEach (e::es) X.env)) (backToKw cpos (keywordEach [] X.env))):=by rfl) :
  PX X (.Expr (.Call (.Attribute o m apos) (e::es) [] cpos) pos) (λR D σ H=>ta σ H λx H1=>∃a dx fs,x = .ref a/\H1 a=some (.ins C dx fs)/\fs.lookup m=none/\t σ H1 λvs H2=>sp (x::vs) H2 (λ_ H3=>D.nx σ H3) λc _ H3=>R c σ H3):=by
 obtain⟨f,fd,hm,hb,G⟩:=F.ex;intro pins s σ H D R I h;refine wpAny_Expr_any (thn (Q:=EP X pins σ λv H2=>D.nx σ H2) ?_ λv s1 ⟨y,H1,I1,r1,q1⟩=>⟨σ,H1,I1,q1⟩) I.quiet hs;refine W.methodCall_KW (pl:=pl) (wpAny_mono (ho pins s σ H _ (I.wish _) h) (λu s1 ⟨x,H1,J1,rx,a,dx,fs,ex,ea,l,q⟩=>?_) λ_ _ z=>False.elim z) ht;have I1:ur X pins σ H1 s1:=J1.unwish;subst ex;obtain rfl:u=Value.ref a:=rx;refine cW I1 ea O.cls hm l ?_;refine W.callWith_K (first:=[.ref a]) (h₀:=X.base) I.ok.mod.kin hm.kp (wpAny_mono (ha cpos pins s1 σ H1 _ (I1.wish _) q) (λus s2 ⟨vs,H2,J2,r,q2⟩=>?_) λ_ _ z=>False.elim z) hst hpl
 have I2:ur X pins σ H2 s2:=J2.unwish;exact⟨I2.kIn,rj (us:=.ref a::us) (vs:=.ref a::vs) hb G hr I2 (.cons rfl r) q2⟩
noncomputable def wrd(c:Nat):Str:=[Str.ofString "",Str.ofString "name",Str.ofString "twice",Str.ofString "line",Str.ofString "many",Str.ofString "deed",Str.ofString "lines",Str.ofString "row"].getD c (Str.ofString "")
noncomputable def ixc(c:Nat):Nat:=if c=5 then 5 else if c=6 then 7 else if c=7 then 6 else c - 1
noncomputable def mks(c:Nat):List Bool:=[0 == ixc c,1 == ixc c,2 == ixc c,3 == ixc c,4 == ixc c,5 == ixc c,6 == ixc c,7 == ixc c]
noncomputable def w8:List V:=[.str (Str.ofString "name"),.str (Str.ofString "twice"),.str (Str.ofString "line"),.str (Str.ofString "many"),.str (Str.ofString "square"),.str (Str.ofString "deed"),.str (Str.ofString "row"),.str (Str.ofString "lines")]
theorem oY{c:Nat}(h:1<=c/\c<=7):c=1\/c=2\/c=3\/c=4\/c=5\/c=6\/c=7:=by omega
theorem om{c:Nat}(h:1<=c/\c<=7):(mks c).count true=1:=by rcases oY h with rfl|rfl|rfl|rfl|rfl|rfl|rfl <;> decide
theorem sI{c:Nat}(h:1<=c/\c<=7):(mks c)[ixc c]? = some true:=by rcases oY h with rfl|rfl|rfl|rfl|rfl|rfl|rfl <;> decide
theorem sF{c:Nat}(h:1<=c/\c<=7):∀m,m<ixc c->(mks c)[m]? = some false:=by rcases oY h with rfl|rfl|rfl|rfl|rfl|rfl|rfl <;> decide
theorem pU{c:Nat}(h:1<=c/\c<=7):atI w8 (ixc c:Nat)=some (.str (wrd c)):=by rcases oY h with rfl|rfl|rfl|rfl|rfl|rfl|rfl <;> rfl
structure Wd(K:W.Frag)(mg:Str->Option Value)(cl:Nat->Addr)(L:Addr)(ds:List Addr):Prop where
 exc:∀c,1<=c/\c<=7->∃n,uG K mg n (cl c)
 f:∀c,1<=c/\c<=7->Ae K (cl c)
 v:∀c,1<=c/\c<=7->W.kitOne K (.ref (cl c)) (.type "ValueError")=some true
 i:∀c,1<=c/\c<=7->∀(j:Nat) D,ds[j]? = some D->W.kitOne K (.ref (cl c)) (.ref D)=some (j == ixc c)
 m:∀c,1<=c/\c<=7->W.exmOne K (.ref (cl c)) (.ref L)=some true
inductive Ay (cl:Nat->Addr) (C:Addr):Prop
 | mk:∀c,((1<=c/\c<=7))->(C=cl c)->Ay cl C
inductive xP (cl:Nat->Addr) (vs:List V) (H:Hp) (Q:VK) (x_3:XK):Prop
 | mk:∀(x:Addr) (c:Nat),(vs = [.ref x])->((1<=c/\c<=7))->(H x=some (jA (cl c) x))->(∀H',Same H H'->Q (.str (wrd c)) H')->xP cl vs H Q x_3
theorem ph{way:Nat}{x:V}{lo:Option Cs}{kept:Bk}{past:List Bk}:(bj way x lo kept past).1≠0->(1<=(bj way x lo kept past).1/\(bj way x lo kept past).1<=5)/\(bj way x lo kept past).2=(kept,past):=by
 generalize hr:bj way x lo kept past=r;unfold bj at hr;intro h
 (repeat' split at hr) <;> subst hr <;> first|exact absurd rfl h|exact⟨⟨by simp,by simp⟩,rfl⟩
theorem vE.rng{kept:Bk}{past:List Bk}{x:V}{k:Nat}(h:vE kept past x k):1<=k/\k<=7:=by
 have dd:∀{way:Nat} {n:Str} {lo:Option Cs},(bj way (.str n) lo kept past).1=k->k≠0->1<=k/\k<=7:=λ{way n lo} e h0=>by
  have:=(ph (way:=way) (x:=.str n) (lo:=lo) (kept:=kept) (past:=past) (by rw[e];exact h0)).1;omega
 cases h with
 | no _ _=>exact⟨by decide,by decide⟩
 | odd _=>exact⟨by decide,by decide⟩
 | dee _ _ r =>
  cases r with
  | put _ _ h h0=>exact dd h h0
  | strike _ h h0=>exact dd h h0
  | turn _ h h0=>exact dd h h0
  | back _=>exact⟨by decide,by decide⟩
 | ans _ _ r=>cases r <;> exact⟨by decide,by decide⟩
inductive zW (C:Addr) (vs:List V) (H:Hp) (Q:VK) (x_3:XK):Prop
 | mk:∀(b:Addr) (x:V) (M:List Addr) (e:Addr) (kept:Bk) (past:List Bk) (k:Nat),(vs = [.ref b,x])->(u7 M C H b e kept past)->((∃t,Kn H x t))->(vE kept past x k)->(∀H',Same H H'->Q (.str (wrd k)) H')->zW C vs H Q x_3
theorem vt:uq ["caught","some"] ["caught"] (ag (top 187)):=smk
theorem jt{cl:Nat->Addr}{L d0 d1 d2 d3 d4 d5 d6 d7:Addr}(yq:Df K mg "_law_word" (top 187))(uI:uG K mg "NoName" d0)(vw:uG K mg "Twice" d1)(va:uG K mg "NoLine" d2)(uT:uG K mg "TooMany" d3)(v6:uG K mg "NoSquare" d4)(vb:uG K mg "NoDeed" d5)(uA:uG K mg "NoRow" d6)(uU:uG K mg "NoLines" d7)(wd:Wd K mg cl L [d0,d1,d2,d3,d4,d5,d6,d7])(T:Txt mg):Fn P w K mg base "_law_word" ["caught"] 1 (xP cl):=by
 refine yq.fn vt (λ_ _ _ _ _ _ us hl=>match us,hl with | [_],_=>rfl) (λvs H Q E h=>?_) (λf cdv A outer s H vs Q E hr h=>?_)
 ·obtain⟨x,c,rfl,_⟩:=h
  rfl
 ·obtain⟨x,c,rfl,hc,hx,q⟩:=h
  have IE:bY (ak CX0 P w K mg base ["caught","some"] "_law_word" (ag (top 187)) f cdv A outer s H E).nox (.builtin "isinstance") (zD K (Ay cl)):=jK λZ hZ=>by
   obtain⟨c,hc,rfl⟩:=hZ;exact⟨wd.exc c hc,wd.f c hc⟩
  refine⟨_,(ae (au (i:=1) vt.nd rfl (Or.inl rfl) (aI (aa (aq (IE) (by rfl) T.z_isinstance aB (aa (pv 0) (aa (aO (v:=.ref _) (by rfl) uI.bound rfl) ac))) (aa (aq (IE) (by rfl) T.z_isinstance aB (aa (pv 0) (aa (aO (v:=.ref _) (by rfl) vw.bound rfl) ac))) (aa (aq (IE) (by rfl) T.z_isinstance aB (aa (pv 0) (aa (aO (v:=.ref _) (by rfl) va.bound rfl) ac))) ac))))) (ae (au (i:=1) vt.nd rfl (Or.inl rfl) (ap aY (pv 1) (aI (aa (aq (IE) (by rfl) T.z_isinstance aB (aa (pv 0) (aa (aO (v:=.ref _) (by rfl) uT.bound rfl) ac))) (aa (aq (IE) (by rfl) T.z_isinstance aB (aa (pv 0) (aa (aO (v:=.ref _) (by rfl) v6.bound rfl) ac))) (aa (aq (IE) (by rfl) T.z_isinstance aB (aa (pv 0) (aa (aO (v:=.ref _) (by rfl) vb.bound rfl) ac))) ac)))))) (ae (au (i:=1) vt.nd rfl (Or.inl rfl) (ap aY (pv 1) (aI (aa (aq (IE) (by rfl) T.z_isinstance aB (aa (pv 0) (aa (aO (v:=.ref _) (by rfl) uA.bound rfl) ac))) (aa (aq (IE) (by rfl) T.z_isinstance aB (aa (pv 0) (aa (aO (v:=.ref _) (by rfl) uU.bound rfl) ac))) ac))))) (ae (aJ (b4 (ao bv (eK PySem.F.plainAttrs_list PySem.F.slot_list_count PySem.F.type_list_count mh (pv 1) (aa bS ac)) aj (az _)) (bK (bi (bq (aq (IE) (by rfl) T.z_isinstance aB (aa (pv 0) (aa (dq T.z_ValueError gt) ac))))))).pt (ai (aw ah)) ax) (ai (aw (aC av (@aI _ _ _ _ (@aa _ _ _ _ _ ah (@aa _ _ _ _ _ ah (@aa _ _ _ _ _ ah (@aa _ _ _ _ _ ah (@aa _ _ _ _ _ ah (@aa _ _ _ _ _ ah (@aa _ _ _ _ _ ah (@aa _ _ _ _ _ ah ac (by rfl)) (by rfl)) (by rfl)) (by rfl)) (by rfl)) (by rfl)) (by rfl)) (by rfl))) (eK PySem.F.plainAttrs_list PySem.F.slot_list_index PySem.F.type_list_index mf (pv 1) (aa bS ac)) (λ_ _=>rfl)))))))),?_⟩;refine⟨_,rfl,cl c,⟨c,hc,rfl⟩,x,_,_,rfl,hx,.inl ⟨_,rfl,wd.i c hc 0 _ rfl⟩,_,rfl,cl c,⟨c,hc,rfl⟩,x,_,_,rfl,hx,.inl ⟨_,rfl,wd.i c hc 1 _ rfl⟩,_,rfl,cl c,⟨c,hc,rfl⟩,x,_,_,rfl,hx,.inl ⟨_,rfl,wd.i c hc 2 _ rfl⟩,sz (by simp),λl1 H1 s1 f1 n1=>?_⟩;have x1:=s1 _ _ hx;refine⟨_,rfl,_,rfl,cl c,⟨c,hc,rfl⟩,x,_,_,rfl,x1,.inl ⟨_,rfl,wd.i c hc 3 _ rfl⟩,_,rfl,cl c,⟨c,hc,rfl⟩,x,_,_,rfl,x1,.inl ⟨_,rfl,wd.i c hc 4 _ rfl⟩,_,rfl,cl c,⟨c,hc,rfl⟩,x,_,_,rfl,x1,.inl ⟨_,rfl,wd.i c hc 5 _ rfl⟩,sz (by simp),λl2 H2 s2 f2 n2=>⟨l1,l2,_,_,rfl,rfl,s2 _ _ f1,f2,sz (by simp),λl3 H3 s3 f3 n3=>?_⟩⟩;have x3:=s3 _ _ (s2 _ _ x1);refine⟨_,rfl,_,rfl,cl c,⟨c,hc,rfl⟩,x,_,_,rfl,x3,.inl ⟨_,rfl,wd.i c hc 6 _ rfl⟩,_,rfl,cl c,⟨c,hc,rfl⟩,x,_,_,rfl,x3,.inl ⟨_,rfl,wd.i c hc 7 _ rfl⟩,sz (by simp),λl4 H4 s4 f4 n4=>⟨l3,l4,_,_,rfl,rfl,s4 _ _ f3,f4,sz (by simp),λl5 H5 s5 f5 n5=>?_⟩⟩;have x5:=s5 _ _ (s4 _ _ x3);have f5':H5 l5=some (.lst ((mks c).map V.bl)):=f5;have S5:Same H H5:=s1.trans (s2.trans (s3.trans (s4.trans s5)));refine⟨_,rfl,.inl ⟨rfl,_,SqL.of f5⟩,l5,mks c,rfl,rfl,f5',?_⟩;rw[om hc];refine⟨rfl,_,rfl,am (by decide) ?_⟩;refine⟨_,rfl,cl c,⟨c,hc,rfl⟩,x,_,_,rfl,x5,.inr (.inl ⟨_,rfl,wd.v c hc⟩),_,rfl,am (by decide) ?_⟩;refine⟨sz (by simp),λl6 H6 s6 f6 n6=>⟨_,rfl,.inl ⟨rfl,_,SqL.of (s6 _ _ f5)⟩,l5,mks c,ixc c,rfl,rfl,s6 _ _ f5',sI hc,sF hc,by simp[mks],l6,w8,_,_,rfl,rfl,SqL.of f6,pU hc,q H6 (S5.trans s6)⟩⟩
theorem vv:uq ["book","row","caught","e"] ["book","row"] (ag (top 190)):=smk
theorem ju{cl:Nat->Addr}{L d0 d1 d2 d3 d4 d5 d6 d7:Addr}(yr:Df K mg "_law_said" (top 190))(uo:u6 K mg "Book" C_Book)(vx:uG K mg "LeashError" L)(wd:Wd K mg cl L [d0,d1,d2,d3,d4,d5,d6,d7])(vP:Mt P w K mg base C_Book "said" ["self","row"] 9 (zm C_Book cl))(wb:Fn P w K mg base "_law_word" ["caught"] 1 (xP cl))(T:Txt mg):Fn P w K mg base "_law_said" ["book","row"] 10 (zW C_Book):=by
 refine yr.fn vv (λ_ _ _ _ _ _ us hl=>match us,hl with | [_,_],_=>rfl) (λvs H Q E h=>?_) (λf cdv A outer s H vs Q E hr h=>?_)
 ·obtain⟨b,x,M,e,kept,past,k,rfl,_⟩:=h
  rfl
 ·obtain⟨b,x,M,e,kept,past,k,rfl,op,kn,rr,q⟩:=h
  have HM:∀C,Ay cl C->W.exmOne K (.ref C) (.ref L)=some true:=λZ hZ=>by
   obtain⟨c,hc,rfl⟩:=hZ;exact wd.m c hc
  have R:∃u:TS,PSs (ak CX0 P w K mg base ["book","row","caught","e"] "_law_said" (ag (top 190)) f cdv A outer s H E).nox ((aF (top 190)).drop 2) u/\∀(a:Addr) (H':Hp),H' a=some (jA (cl k) a)->(∀H2,Same H' H2->Q (.str (wrd k)) H2)->u { nx:=λ_ H'=>Q .non H',rt:=Q } [some (.ref b),some x,some (.ref a),none] H':=by
   refine⟨_,(ae (aJ (ao rF (pv 2) kh (az _)) (ai (aw ah)) ax) (ai (aw (aP wb (hr.mono (by decide)) (by rfl) (aa (pv 2) ac))))),λa H' ha kk=>?_⟩;exact⟨_,rfl,rfl,_,rfl,am (by simp) ⟨_,rfl,a,k,rfl,rr.rng,ha,kk⟩⟩
  obtain⟨u,hu,hR⟩:=R;refine⟨_,(ae (au (i:=2) vv.nd rfl (Or.inl rfl) kh) (ae (ke (i:=3) rfl rfl (pK (nu uo vP (hr.mono (by decide)) (pv 0) (aa (pv 1) ac))) vx (by rfl) (HM) rfl vv.nd rfl rfl (λe=>(ai (au (i:=2) vv.nd rfl (Or.inl rfl) (pv 3))))) hu)),?_⟩;obtain⟨dx,kk,hb,bo,pa⟩:=op.bk.ex;refine⟨_,rfl,b,dx,_,rfl,hb,rfl,_,rfl,b,x,M,e,kept,past,k,rfl,op,kn,rr,λo H' s'=>⟨_,rfl,⟨_,rr.rng,rfl⟩,λa ha=>?_⟩⟩;exact⟨_,rfl,hR a _ upd_same λH2 s2=>q H2 (s'.trans ((Same.new ha).trans s2))⟩
noncomputable def S(s:String):Str:=Str.ofString s
noncomputable def eh(n:Str):List Str:=[S "",S " ",S "put",S "put "++n,S "puts "++n++S " 1,2",S "Put b 1,2",S "put b 1",
 S "put b 1,2,3",S "put b 1,",S "put b ,2",S "put b 01,2",S "put b 1,-0",S "put b +1,2",
 S "put b 1/2,3",S "put b 1,2  3,4",S "put  b 1,2",S " put b 1,2",S "put b 1,2 ",S "put b 1, 2",
 S "put NO x",S "strike",S "strike "++n++S " b",S "turn",S "turn NO 1",S "thin",S "thin "++n,
 S "thin "++n++S " -1",S "thin NO 2/4",S "thin b 1/0",S "thin b 3/1",S "thin b x",S "back 1",
 S "backs",S "line",S "line NO b",S "leash "++n++S " b",S "leash NO b off",S "walk a b On",
 S "fence a b  on",S "near NO",S "near b up",S "midst",S "midst on on",S "names 1"]
noncomputable def bx(n o:Str):List (Str×Str):=[(S "line zz",S "name"),(S "strike zz",S "name"),(S "turn NO",S "name"),(S "thin zz 1",S "name"),
 (S "put NO 1,2",S "name"),(S "put none 1,2",S "name"),(S "put "++o++S " 1,2",S "name"),
 (S "leash zz "++n++S " on",S "name"),(S "walk "++n++S " zz hops",S "name"),
 (S "near zz on",S "name"),(S "fence zz NO part",S "name"),(S "put zz"++Txt.mul (S " 1,2") 11,S "line"),
 (S "put zz 1000000000000,0",S "line"),(S "put NO 9"++Txt.mul (S "9") 20++S ",0",S "name")]
theorem pY(a b:Str):(a++b).length=a.length+b.length:=by
 show(a.cps++b.cps).size=_;exact Array.size_append
theorem bF{a b:Str}(ha:a.length<=1000)(hb:b.length<=1000):a.length+b.length<=sizeLine:=by
 rw[sizeLine_eq];omega
theorem apz{a b:Str}(ha:a.length<=500)(hb:b.length<=500):(a++b).length<=1000:=by
 rw[pY];omega
theorem iO{xs:List V}{i:Int}(h0:0<=i)(h1:i<(xs.length:Int)):∃v,atI xs i=some v/\v∈xs:=by
 obtain⟨k,rfl⟩:∃k:Nat,i=(k:Int):=⟨i.toNat,by omega⟩;have hk:k<xs.length:=by omega
 exact⟨xs[k],fo (List.getElem?_eq_getElem hk),List.getElem_mem hk⟩
noncomputable def RT(H:Hp):List V->List (Str×Str)->Prop
 | [],[]=>True
 | v::vs,r::rs=>(∃p,v = .ref p/\H p=some (.tup [.str r.1,.str r.2]))/\RT H vs rs
 | _,_=>False
theorem RT.mono{H H':Hp}(s:Same H H'):∀{vs:List V} {rs:List (Str×Str)},RT H vs rs->RT H' vs rs
 | [],[],_=>trivial
 | v::vs,r::rs,⟨⟨p,e,f⟩,h⟩=>⟨⟨p,e,s _ _ f⟩,RT.mono s h⟩
 | [],_::_,h=>h.elim
 | _::_,[],h=>h.elim
theorem RT.app{H:Hp}:∀{vs ws:List V} {rs qs:List (Str×Str)},RT H vs rs->RT H ws qs->RT H (vs++ws) (rs++qs)
 | [],_,[],_,_,h=>h
 | v::vs,_,r::rs,_,⟨a,b⟩,h=>⟨a,RT.app b h⟩
 | [],_,_::_,_,h,_=>h.elim
 | _::_,_,[],_,h,_=>h.elim
theorem RT.len{H:Hp}:∀{vs:List V} {rs:List (Str×Str)},RT H vs rs->vs.length=rs.length
 | [],[],_=>rfl
 | v::vs,r::rs,⟨_,b⟩=>congrArg (· + 1) (RT.len b)
 | [],_::_,h=>h.elim
 | _::_,[],h=>h.elim
theorem RT.mem{H:Hp}{v:V}:∀{vs:List V} {rs:List (Str×Str)},RT H vs rs->v∈vs->∃r∈rs,∃p,v = .ref p/\H p=some (.tup [.str r.1,.str r.2])
 | v::vs,r::rs,⟨a,b⟩,h=>by
  rcases List.mem_cons.mp h with rfl|h
  ·exact⟨r,List.mem_cons_self,a⟩
  ·obtain⟨r',h1,h2⟩:=RT.mem b h
   exact⟨r',List.mem_cons_of_mem _ h1,h2⟩
 | [],[],_,h=>by cases h
 | [],_::_,h,_=>h.elim
 | _::_,[],h,_=>h.elim
inductive zt (vs:List V) (H:Hp) (Q:VK) (x_3:XK):Prop
 | mk:∀(n:Int) (nm:Str),(vs = [.int n,.str nm])->(nm.length<=100)->(∀v H',Same H H'->(v = .non\/v = .int 5\/(∃l,v = .ref l/\H' l=some (.lst [.str (S "names")]))\/v = .bl true\/∃z∈eh nm,v = .str z)->Q v H')->zt vs H Q x_3
inductive zr (vs:List V) (H:Hp) (Q:VK) (x_3:XK):Prop
 | mk:∀(n:Int) (nm od:Str),(vs = [.int n,.str nm,.str od])->(nm.length<=100)->(od.length<=100)->(∀p H' r d,Same H H'->H' p=some (.tup [.str r,.str d])->(r,d)∈bx nm od->Q (.ref p) H')->zr vs H Q x_3
theorem uC:uq ["number","name","some"] ["number","name"] (ag (top 188)):=smk
theorem gj(xC:Df K mg "_law_no_row" (top 188))(T:Txt mg):Fn P w K mg base "_law_no_row" ["number","name"] 1 zt:=by
 refine xC.fn uC (λ_ _ _ _ _ _ us hl=>match us,hl with | [_,_],_=>rfl) (λvs H Q E h=>?_) (λf cdv A outer s H vs Q E hr h=>?_)
 ·obtain⟨n,nm,rfl,_⟩:=h
  rfl
 ·obtain⟨n,nm,rfl,hn,q⟩:=h
  refine⟨_,(@ae _ _ _ _ _ (@au _ _ 2 _ _ _ _ uC.nd rfl (Or.inl rfl) (@aI _ _ _ _ (@aa _ _ _ _ _ ah (@aa _ _ _ _ _ ah (@aa _ _ _ _ _ ah (@aa _ _ _ _ _ (ap ay ah (pv 1)) (@aa _ _ _ _ _ (ap ay (ap ay ah (pv 1)) ah) (@aa _ _ _ _ _ ah (@aa _ _ _ _ _ ah ac (by rfl)) (by rfl)) (by rfl)) (by rfl)) (by rfl)) (by rfl)) (by rfl))) (by rfl) (by first|exact .inl rfl|exact .inr rfl|assumption)) (ae (au (i:=2) uC.nd rfl (Or.inl rfl) (ap aY (pv 2) (@aI _ _ _ _ (@aa _ _ _ _ _ ah (@aa _ _ _ _ _ ah (@aa _ _ _ _ _ ah (@aa _ _ _ _ _ ah (@aa _ _ _ _ _ ah (@aa _ _ _ _ _ ah ac (by rfl)) (by rfl)) (by rfl)) (by rfl)) (by rfl)) (by rfl))))) (ae (au (i:=2) uC.nd rfl (Or.inl rfl) (ap aY (pv 2) (@aI _ _ _ _ (@aa _ _ _ _ _ ah (@aa _ _ _ _ _ ah (@aa _ _ _ _ _ ah (@aa _ _ _ _ _ ah (@aa _ _ _ _ _ ah (@aa _ _ _ _ _ ah ac (by rfl)) (by rfl)) (by rfl)) (by rfl)) (by rfl)) (by rfl))))) (ae (au (i:=2) uC.nd rfl (Or.inl rfl) (ap aY (pv 2) (@aI _ _ _ _ (@aa _ _ _ _ _ ah (@aa _ _ _ _ _ ah (@aa _ _ _ _ _ (ap ay (ap ay ah (pv 1)) ah) (@aa _ _ _ _ _ ah (@aa _ _ _ _ _ ah (@aa _ _ _ _ _ ah (@aa _ _ _ _ _ (ap ay ah (pv 1)) ac (by rfl)) (by rfl)) (by rfl)) (by rfl)) (by rfl)) (by rfl)) (by rfl))))) (ae (au (i:=2) uC.nd rfl (Or.inl rfl) (ap aY (pv 2) (@aI _ _ _ _ (@aa _ _ _ _ _ (ap ay (ap ay ah (pv 1)) ah) (@aa _ _ _ _ _ ah (@aa _ _ _ _ _ ah (@aa _ _ _ _ _ ah (@aa _ _ _ _ _ ah (@aa _ _ _ _ _ ah ac (by rfl)) (by rfl)) (by rfl)) (by rfl)) (by rfl)) (by rfl))))) (ae (au (i:=2) uC.nd rfl (Or.inl rfl) (ap aY (pv 2) (@aI _ _ _ _ (@aa _ _ _ _ _ ah (@aa _ _ _ _ _ ah (@aa _ _ _ _ _ ah (@aa _ _ _ _ _ (ap ay (ap ay ah (pv 1)) ah) (@aa _ _ _ _ _ ah (@aa _ _ _ _ _ ah ac (by rfl)) (by rfl)) (by rfl)) (by rfl)) (by rfl)) (by rfl))))) (ae (au (i:=2) uC.nd rfl (Or.inl rfl) (ap aY (pv 2) (@aI _ _ _ _ (@aa _ _ _ _ _ ah (@aa _ _ _ _ _ ah (@aa _ _ _ _ _ ah (@aa _ _ _ _ _ ah (@aa _ _ _ _ _ ah (@aa _ _ _ _ _ ah ac (by rfl)) (by rfl)) (by rfl)) (by rfl)) (by rfl)) (by rfl))))) (ai (aw (aC av (ap aY (pv 2) (@aI _ _ _ _ (@aa _ _ _ _ _ kh (@aa _ _ _ _ _ aj (@aa _ _ _ _ _ (@aI _ _ _ _ (@aa _ _ _ _ _ ah ac (by rfl))) (@aa _ _ _ _ _ bS ac (by rfl)) (by rfl)) (by rfl)) (by rfl)))) (ap bz (pv 0) aj) (λ_ _=>rfl))))))))))),?_⟩
  refine⟨_,rfl,_,_,rfl,rfl,bF (by decide +kernel) (by omega),_,rfl,_,_,rfl,rfl,bF (by decide +kernel) (by omega),_,_,rfl,rfl,bF (apz (by decide +kernel) (by omega)) (by decide +kernel),sz (by simp),λl1 H1 s1 f1 n1=>?_⟩;refine⟨_,rfl,sz (by simp),λm2 G2 t2 g2 o2=>⟨l1,m2,_,_,rfl,rfl,t2 _ _ f1,g2,sz (by simp),λl2 H2 s2 f2 n2=>?_⟩⟩;refine⟨_,rfl,sz (by simp),λm3 G3 t3 g3 o3=>⟨l2,m3,_,_,rfl,rfl,t3 _ _ f2,g3,sz (by simp),λl3 H3 s3 f3 n3=>?_⟩⟩;refine⟨_,rfl,_,rfl,_,_,rfl,rfl,bF (by decide +kernel) (by omega),_,_,rfl,rfl,bF (apz (by decide +kernel) (by omega)) (by decide +kernel),_,rfl,_,_,rfl,rfl,bF (by decide +kernel) (by omega),sz (by simp),λm4 G4 t4 g4 o4=>⟨l3,m4,_,_,rfl,rfl,t4 _ _ f3,g4,sz (by simp),λl4 H4 s4 f4 n4=>?_⟩⟩;refine⟨_,rfl,_,rfl,_,_,rfl,rfl,bF (by decide +kernel) (by omega),_,_,rfl,rfl,bF (apz (by decide +kernel) (by omega)) (by decide +kernel),sz (by simp),λm5 G5 t5 g5 o5=>⟨l4,m5,_,_,rfl,rfl,t5 _ _ f4,g5,sz (by simp),λl5 H5 s5 f5 n5=>?_⟩⟩;refine⟨_,rfl,_,rfl,_,_,rfl,rfl,bF (by decide +kernel) (by omega),_,_,rfl,rfl,bF (apz (by decide +kernel) (by omega)) (by decide +kernel),sz (by simp),λm6 G6 t6 g6 o6=>⟨l5,m6,_,_,rfl,rfl,t6 _ _ f5,g6,sz (by simp),λl6 H6 s6 f6 n6=>?_⟩⟩;refine⟨_,rfl,sz (by simp),λm7 G7 t7 g7 o7=>⟨l6,m7,_,_,rfl,rfl,t7 _ _ f6,g7,sz (by simp),λl7 H7 s7 f7 n7=>?_⟩⟩;have f8:H7 l7=some (.lst ((eh nm).map V.str)):=f7;have S7:Same H H7:=s1.trans (t2.trans (s2.trans (t3.trans (s3.trans (t4.trans (s4.trans (t5.trans (s5.trans (t6.trans (s6.trans (t7.trans s7)))))))))));clear f7 f1 f2 f3 f4 f5 f6 g2 g3 g4 g5 g6 g7;have hl:(eh nm).length=44:=rfl;have r0:=Int.emod_nonneg n (show(48:Int)≠0 by decide);have r1:=Int.emod_lt_of_pos n (show(0:Int)<48 by decide);refine⟨_,rfl,sz (by simp),λp H8 s8 fp np=>⟨sz (by simp),λl9 H9 s9 f9 n9=>⟨l7,l9,_,_,rfl,rfl,s9 _ _ (s8 _ _ f8),f9,by rw[List.length_map,hl,sizeLine_eq];simp,λl H10 s10 f10 n10=>?_⟩⟩⟩;obtain⟨v,hv,hm⟩:=iO (xs:=(eh nm).map V.str++[.non,.int 5,.ref p,.bl true]) r0 (by rw[List.length_append,List.length_map,hl];exact r1);refine⟨_,rfl,_,_,rfl,rfl,(by show(0:Int)<48;decide),l,_,_,_,rfl,rfl,SqL.of f10,hv,q v H10 (S7.trans (s8.trans (s9.trans s10))) ?_⟩;rcases List.mem_append.mp hm with hm|hm
  ·obtain⟨z,hz,rfl⟩:=List.mem_map.mp hm
   exact .inr (.inr (.inr (.inr ⟨z,hz,rfl⟩)))
  ·simp only[List.mem_cons,List.not_mem_nil,or_false]at hm
   rcases hm with rfl|rfl|rfl|rfl
   ·exact .inl rfl
   ·exact .inr (.inl rfl)
   ·exact .inr (.inr (.inl ⟨p,rfl,s10 _ _ (s9 _ _ fp)⟩))
   ·exact .inr (.inr (.inr (.inl rfl)))
theorem uM:uq ["number","name","odd","some"] ["number","name","odd"] (ag (top 189)):=smk
theorem iz(xM:Df K mg "_law_other" (top 189))(T:Txt mg):Fn P w K mg base "_law_other" ["number","name","odd"] 1 zr:=by
 refine xM.fn uM (λ_ _ _ _ _ _ us hl=>match us,hl with | [_,_,_],_=>rfl) (λvs H Q E h=>?_) (λf cdv A outer s H vs Q E hr h=>?_)
 ·obtain⟨n,nm,od,rfl,_⟩:=h
  rfl
 ·obtain⟨n,nm,od,rfl,hn,ho,q⟩:=h
  refine⟨_,(@ae _ _ _ _ _ (@au _ _ 3 _ _ _ _ uM.nd rfl (Or.inl rfl) (@aI _ _ _ _ (@aa _ _ _ _ _ (@aM _ _ _ _ _ (@aa _ _ _ _ _ ah (@aa _ _ _ _ _ ah ac (by rfl)) (by rfl))) (@aa _ _ _ _ _ (@aM _ _ _ _ _ (@aa _ _ _ _ _ ah (@aa _ _ _ _ _ ah ac (by rfl)) (by rfl))) (@aa _ _ _ _ _ (@aM _ _ _ _ _ (@aa _ _ _ _ _ ah (@aa _ _ _ _ _ ah ac (by rfl)) (by rfl))) (@aa _ _ _ _ _ (@aM _ _ _ _ _ (@aa _ _ _ _ _ ah (@aa _ _ _ _ _ ah ac (by rfl)) (by rfl))) ac (by rfl)) (by rfl)) (by rfl)) (by rfl))) (by rfl) (by first|exact .inl rfl|exact .inr rfl|assumption)) (@ae _ _ _ _ _ (@au _ _ 3 _ _ _ _ uM.nd rfl (Or.inl rfl) (ap aY (pv 3) (@aI _ _ _ _ (@aa _ _ _ _ _ (@aM _ _ _ _ _ (@aa _ _ _ _ _ ah (@aa _ _ _ _ _ ah ac (by rfl)) (by rfl))) (@aa _ _ _ _ _ (@aM _ _ _ _ _ (@aa _ _ _ _ _ ah (@aa _ _ _ _ _ ah ac (by rfl)) (by rfl))) (@aa _ _ _ _ _ (@aM _ _ _ _ _ (@aa _ _ _ _ _ (ap ay (ap ay ah (pv 2)) ah) (@aa _ _ _ _ _ ah ac (by rfl)) (by rfl))) ac (by rfl)) (by rfl)) (by rfl)))) (by rfl) (by first|exact .inl rfl|exact .inr rfl|assumption)) (@ae _ _ _ _ _ (@au _ _ 3 _ _ _ _ uM.nd rfl (Or.inl rfl) (ap aY (pv 3) (@aI _ _ _ _ (@aa _ _ _ _ _ (@aM _ _ _ _ _ (@aa _ _ _ _ _ (ap ay (ap ay ah (pv 1)) ah) (@aa _ _ _ _ _ ah ac (by rfl)) (by rfl))) (@aa _ _ _ _ _ (@aM _ _ _ _ _ (@aa _ _ _ _ _ (ap ay (ap ay ah (pv 1)) ah) (@aa _ _ _ _ _ ah ac (by rfl)) (by rfl))) ac (by rfl)) (by rfl)))) (by rfl) (by first|exact .inl rfl|exact .inr rfl|assumption)) (@ae _ _ _ _ _ (@au _ _ 3 _ _ _ _ uM.nd rfl (Or.inl rfl) (ap aY (pv 3) (@aI _ _ _ _ (@aa _ _ _ _ _ (@aM _ _ _ _ _ (@aa _ _ _ _ _ ah (@aa _ _ _ _ _ ah ac (by rfl)) (by rfl))) (@aa _ _ _ _ _ (@aM _ _ _ _ _ (@aa _ _ _ _ _ ah (@aa _ _ _ _ _ ah ac (by rfl)) (by rfl))) (@aa _ _ _ _ _ (@aM _ _ _ _ _ (@aa _ _ _ _ _ (ap ay ah (ap ii ah aj)) (@aa _ _ _ _ _ ah ac (by rfl)) (by rfl))) ac (by rfl)) (by rfl)) (by rfl)))) (by rfl) (by first|exact .inl rfl|exact .inr rfl|assumption)) (@ae _ _ _ _ _ (@au _ _ 3 _ _ _ _ uM.nd rfl (Or.inl rfl) (ap aY (pv 3) (@aI _ _ _ _ (@aa _ _ _ _ _ (@aM _ _ _ _ _ (@aa _ _ _ _ _ ah (@aa _ _ _ _ _ ah ac (by rfl)) (by rfl))) (@aa _ _ _ _ _ (@aM _ _ _ _ _ (@aa _ _ _ _ _ (ap ay (ap ay ah (ap ii ah aj)) ah) (@aa _ _ _ _ _ ah ac (by rfl)) (by rfl))) ac (by rfl)) (by rfl)))) (by rfl) (by first|exact .inl rfl|exact .inr rfl|assumption)) (ai (aw (aC av (pv 3) (ap bz (pv 0) aj) (λ_ _=>rfl))))))))),?_⟩
  refine⟨sz (by simp),λp10 H10 s10 f10 n10=>⟨sz (by simp),λp11 H11 s11 f11 n11=>⟨sz (by simp),λp12 H12 s12 f12 n12=>⟨sz (by simp),λp13 H13 s13 f13 n13=>⟨sz (by simp),λl1 H1 s1 f1 n1=>?_⟩⟩⟩⟩⟩;have S1:Same H H1:=s10.trans (s11.trans (s12.trans (s13.trans (s1))));have r1:RT H1 [.ref p10,.ref p11,.ref p12,.ref p13] ((bx nm od).take 4):=⟨⟨_,rfl,s1 _ _ (s13 _ _ (s12 _ _ (s11 _ _ (f10))))⟩,⟨_,rfl,s1 _ _ (s13 _ _ (s12 _ _ (f11)))⟩,⟨_,rfl,s1 _ _ (s13 _ _ (f12))⟩,⟨_,rfl,s1 _ _ (f13)⟩,trivial⟩;refine⟨_,rfl,sz (by simp),λp20 H20 s20 f20 n20=>⟨sz (by simp),λp21 H21 s21 f21 n21=>⟨_,rfl,_,_,rfl,rfl,bF (by decide +kernel) (by omega),_,_,rfl,rfl,bF (apz (by decide +kernel) (by omega)) (by decide +kernel),sz (by simp),λp22 H22 s22 f22 n22=>⟨sz (by simp),λm2 G2 t2 g2 o2=>⟨l1,m2,_,_,rfl,rfl,t2 _ _ (s22 _ _ (s21 _ _ (s20 _ _ (f1)))),g2,?_,λl2 H2 s2 f2 n2=>?_⟩⟩⟩⟩⟩
  ·have:=r1.len
   rw[List.length_take]at this;rw[sizeLine_eq,this];simp only[List.length_cons,List.length_nil];omega
  have S2:Same H1 H2:=s20.trans (s21.trans (s22.trans (t2.trans (s2))));have r2:RT H2 _ ((bx nm od).take 7):=RT.app (ws:=[.ref p20,.ref p21,.ref p22]) (qs:=((bx nm od).drop 4).take 3) (r1.mono S2) ⟨⟨_,rfl,s2 _ _ (t2 _ _ (s22 _ _ (s21 _ _ (f20))))⟩,⟨_,rfl,s2 _ _ (t2 _ _ (s22 _ _ (f21)))⟩,⟨_,rfl,s2 _ _ (t2 _ _ (f22))⟩,trivial⟩;clear r1 f1 g2;refine⟨_,rfl,_,rfl,_,_,rfl,rfl,bF (by decide +kernel) (by omega),_,_,rfl,rfl,bF (apz (by decide +kernel) (by omega)) (by decide +kernel),sz (by simp),λp30 H30 s30 f30 n30=>⟨_,rfl,_,_,rfl,rfl,bF (by decide +kernel) (by omega),_,_,rfl,rfl,bF (apz (by decide +kernel) (by omega)) (by decide +kernel),sz (by simp),λp31 H31 s31 f31 n31=>⟨sz (by simp),λm3 G3 t3 g3 o3=>⟨l2,m3,_,_,rfl,rfl,t3 _ _ (s31 _ _ (s30 _ _ (f2))),g3,?_,λl3 H3 s3 f3 n3=>?_⟩⟩⟩⟩
  ·have:=r2.len
   rw[List.length_take]at this;rw[sizeLine_eq,this];simp only[List.length_cons,List.length_nil];omega
  have S3:Same H2 H3:=s30.trans (s31.trans (t3.trans (s3)));have r3:RT H3 _ ((bx nm od).take 9):=RT.app (ws:=[.ref p30,.ref p31]) (qs:=((bx nm od).drop 7).take 2) (r2.mono S3) ⟨⟨_,rfl,s3 _ _ (t3 _ _ (s31 _ _ (f30)))⟩,⟨_,rfl,s3 _ _ (t3 _ _ (f31))⟩,trivial⟩;clear r2 f2 g3;refine⟨_,rfl,sz (by simp),λp40 H40 s40 f40 n40=>⟨sz (by simp),λp41 H41 s41 f41 n41=>⟨_,_,rfl,rfl,(by unfold MulOk;decide +kernel),_,_,rfl,rfl,bF (by decide +kernel) (by decide +kernel),sz (by simp),λp42 H42 s42 f42 n42=>⟨sz (by simp),λm4 G4 t4 g4 o4=>⟨l3,m4,_,_,rfl,rfl,t4 _ _ (s42 _ _ (s41 _ _ (s40 _ _ (f3)))),g4,?_,λl4 H4 s4 f4 n4=>?_⟩⟩⟩⟩⟩
  ·have:=r3.len
   rw[List.length_take]at this;rw[sizeLine_eq,this];simp only[List.length_cons,List.length_nil];omega
  have S4:Same H3 H4:=s40.trans (s41.trans (s42.trans (t4.trans (s4))));have r4:RT H4 _ ((bx nm od).take 12):=RT.app (ws:=[.ref p40,.ref p41,.ref p42]) (qs:=((bx nm od).drop 9).take 3) (r3.mono S4) ⟨⟨_,rfl,s4 _ _ (t4 _ _ (s42 _ _ (s41 _ _ (f40))))⟩,⟨_,rfl,s4 _ _ (t4 _ _ (s42 _ _ (f41)))⟩,⟨_,rfl,s4 _ _ (t4 _ _ (f42))⟩,trivial⟩;clear r3 f3 g4;refine⟨_,rfl,sz (by simp),λp50 H50 s50 f50 n50=>⟨_,_,rfl,rfl,(by unfold MulOk;decide +kernel),_,_,rfl,rfl,bF (by decide +kernel) (by decide +kernel),_,_,rfl,rfl,bF (by decide +kernel) (by decide +kernel),sz (by simp),λp51 H51 s51 f51 n51=>⟨sz (by simp),λm5 G5 t5 g5 o5=>⟨l4,m5,_,_,rfl,rfl,t5 _ _ (s51 _ _ (s50 _ _ (f4))),g5,?_,λl5 H5 s5 f5 n5=>?_⟩⟩⟩⟩
  ·have:=r4.len
   rw[List.length_take]at this;rw[sizeLine_eq,this];simp only[List.length_cons,List.length_nil];omega
  have S5:Same H4 H5:=s50.trans (s51.trans (t5.trans (s5)));have r5:RT H5 _ ((bx nm od).take 14):=RT.app (ws:=[.ref p50,.ref p51]) (qs:=((bx nm od).drop 12).take 2) (r4.mono S5) ⟨⟨_,rfl,s5 _ _ (t5 _ _ (s51 _ _ (f50)))⟩,⟨_,rfl,s5 _ _ (t5 _ _ (f51))⟩,trivial⟩;clear r4 f4 g5;have r5:RT H5 _ (bx nm od):=r5;have q0:=Int.emod_nonneg n (show(14:Int)≠0 by decide);have q1:=Int.emod_lt_of_pos n (show(0:Int)<14 by decide);obtain⟨v,hv,hm⟩:=iO q0 (by rw[r5.len];exact q1);obtain⟨⟨r,d⟩,hr,p,rfl,fp⟩:=r5.mem hm;exact⟨_,rfl,_,rfl,_,_,rfl,rfl,(by show(0:Int)<14;decide),l5,_,_,_,rfl,rfl,SqL.of f5,hv,q p H5 r d (S1.trans (S2.trans (S3.trans (S4.trans S5)))) fp hr⟩
noncomputable def cw:List Str:=[S "a",S "b",S "ba",S "walk",S "puts",S "onx"]
noncomputable def pS:List Str:=[S "abcdefghi",S "a1",S "zZ",S "-"]
noncomputable def nm6(k:Nat):Str:=cw.getD k Str.empty
noncomputable def cs6(k:Nat):Cs:=[((k:Int),0),(1,(k:Int)),((k:Int),(k:Int))].take (1+k % 3)
noncomputable def K6(m:Nat):Bk:=(List.range m).map λk=>(nm6 k,cs6 k)
theorem sE:(cw.all λn=>(eh n).all λx=>decide (x.length<=900) && (bp x).isNone)=true:=by decide +kernel
theorem rl{nm z:Str}{kept:Bk}{past:List Bk}(hn:nm∈cw)(hz:z∈eh nm):vE kept past (.str z) 7:=by
 have h:=List.all_eq_true.mp (List.all_eq_true.mp sE nm hn) z hz;rw[Bool.and_eq_true,decide_eq_true_eq,Option.isNone_iff_eq_none]at h;exact .no h.1 h.2
theorem qC{n:Str}{kept:Bk}(h:aQ n=false):atN (.str n) kept=none:=by
 unfold atN;dsimp only;rw[h,if_pos rfl]
theorem qB(n:Str):atN (.str n) []=none:=by
 unfold atN;dsimp only;cases aQ n <;> rfl
theorem gX:∀m,m<7->atN (.str (S "zz")) (K6 m)=none/\S "zz"∉(K6 m).map (·.1):=by decide +kernel
theorem og:∀m,m<7->∀nm∈cw.take m,(atN (.str nm) (K6 m)).isSome=true:=by decide +kernel
theorem hU:∀nm∈cw,nm.length<=100:=by decide +kernel
theorem ff{n:Str}{cs:Cs}{kept:Bk}{past:List Bk}(h:aQ n=false):(bj 0 (.str n) (okL cs) kept past).1=1:=by
 rw[jE (by decide) (show nmV (.str n)=false from h)]
theorem fw{n:Str}{cs:Cs}{kept:Bk}{past:List Bk}(h:aQ n=true)(h2:n∉kept.map (·.1))(h3:okL cs=none):(bj 0 (.str n) (okL cs) kept past).1=3:=by
 rw[cG (by decide) h,if_neg h2,h3]
theorem lZ{n:Str}{cs:Cs}{kept:Bk}{past:List Bk}(h:aQ n=true)(h2:n∈kept.map (·.1)):(bj 0 (.str n) (okL cs) kept past).1=2:=by
 rw[cG (by decide) h,if_pos h2]
theorem nA{n:Str}{cs:Cs}{kept:Bk}{past:List Bk}(h:aQ n=true)(h2:n∉kept.map (·.1))(h3:okL cs=some cs)(h6:kept.length=6):(bj 0 (.str n) (okL cs) kept past).1=4:=by
 rw[cG (by decide) h,if_neg h2,h3];dsimp only;rw[if_pos (by omega)]
theorem qX{way:Nat}{n:Str}{kept:Bk}{past:List Bk}(hw:way=3\/way=4)(h:atN (.str n) kept=none):(bj way (.str n) none kept past).1=1:=by
 rw[eE hw h]
noncomputable def nZ:Cs:=[(1,2)]
noncomputable def tm:Cs:=List.replicate 11 (1,2)
theorem nR{m:Nat}{nm od r d:Str}{past:List Bk}(hm:m<7)(hn:nm∈cw.take m)(ho:od∈pS)(h:(r,d)∈bx nm od):∃k,vE (K6 m) past (.str r) k/\wrd k=d:=by
 have hs:nm∈cw:=List.mem_of_mem_take hn;have hl:=hU nm hs;obtain⟨z1,z2⟩:=gX m hm;have zl:(S "zz").length<=100:=by decide +kernel
 have nl:(S "NO").length<=100:=by decide +kernel
 have no:atN (.str (S "NO")) (K6 m)=none:=qC (by decide +kernel);simp only[bx,List.mem_cons,List.not_mem_nil,or_false,Prod.mk.injEq]at h;rcases h with⟨rfl,rfl⟩|⟨rfl,rfl⟩|⟨rfl,rfl⟩|⟨rfl,rfl⟩|⟨rfl,rfl⟩|⟨rfl,rfl⟩|⟨rfl,rfl⟩|⟨rfl,rfl⟩|⟨rfl,rfl⟩|⟨rfl,rfl⟩|⟨rfl,rfl⟩|⟨rfl,rfl⟩|⟨rfl,rfl⟩|⟨rfl,rfl⟩
 ·exact⟨1,.ans (by decide +kernel) (show bp (S "line zz")=some (S "line",[.nm (S "zz")]) by decide +kernel) (.line zl z1),rfl⟩
 ·exact⟨1,.dee (by decide +kernel) (show bp (S "strike zz")=some (S "strike",[.nm (S "zz")]) by decide +kernel) (.strike zl (qX (.inl rfl) z1) (by decide)),rfl⟩
 ·exact⟨1,.dee (by decide +kernel) (show bp (S "turn NO")=some (S "turn",[.nm (S "NO")]) by decide +kernel) (.turn nl (qX (.inr rfl) no) (by decide)),rfl⟩
 ·exact⟨1,.ans (by decide +kernel) (show bp (S "thin zz 1")=some (S "thin",[.nm (S "zz"),.sq (1,1)]) by decide +kernel) (.thin zl z1),rfl⟩
 ·exact⟨1,.dee (by decide +kernel) (show bp (S "put NO 1,2")=some (S "put",.nm (S "NO")::nZ.map .cr) by decide +kernel) (.put nl (by decide) (ff (by decide +kernel)) (by decide)),rfl⟩
 ·exact⟨1,.dee (by decide +kernel) (show bp (S "put none 1,2")=some (S "put",.nm (S "none")::nZ.map .cr) by decide +kernel) (.put (by decide +kernel) (by decide) (ff (by decide +kernel)) (by decide)),rfl⟩
 ·have q:∀o∈pS,(S "put "++o++S " 1,2").length<=900/\bp (S "put "++o++S " 1,2")=some (S "put",.nm o::nZ.map .cr)/\o.length<=100/\aQ o=false:=by decide +kernel
  obtain⟨q1,q2,q3,q4⟩:=q od ho;exact⟨1,.dee q1 q2 (.put q3 (by decide) (ff q4) (by decide)),rfl⟩
 ·have q:∀n∈cw,(S "leash zz "++n++S " on").length<=900/\bp (S "leash zz "++n++S " on")=some (S "leash",[.nm (S "zz"),.nm n,.wy (S "on")]):=by decide +kernel
  obtain⟨q1,q2⟩:=q nm hs;exact⟨1,.ans q1 q2 (.two (.inl rfl) zl z1),rfl⟩
 ·have q:∀n∈cw,(S "walk "++n++S " zz hops").length<=900/\bp (S "walk "++n++S " zz hops")=some (S "walk",[.nm n,.nm (S "zz"),.wy (S "hops")]):=by decide +kernel
  obtain⟨q1,q2⟩:=q nm hs;obtain⟨cs,hc⟩:=Option.isSome_iff_exists.mp (og m hm nm hn);exact⟨1,.ans q1 q2 (.other (.inr (.inl rfl)) hl zl hc z1),rfl⟩
 ·exact⟨1,.ans (by decide +kernel) (show bp (S "near zz on")=some (S "near",[.nm (S "zz"),.wy (S "on")]) by decide +kernel) (.near zl z1),rfl⟩
 ·exact⟨1,.ans (by decide +kernel) (show bp (S "fence zz NO part")=some (S "fence",[.nm (S "zz"),.nm (S "NO"),.wy (S "part")]) by decide +kernel) (.two (.inr (.inr rfl)) zl z1),rfl⟩
 ·exact⟨3,.dee (by decide +kernel) (show bp (S "put zz"++Txt.mul (S " 1,2") 11)=some (S "put",.nm (S "zz")::tm.map .cr) by decide +kernel) (.put zl (by decide) (fw (by decide +kernel) z2 (by decide +kernel)) (by decide)),rfl⟩
 ·exact⟨3,.dee (by decide +kernel) (show bp (S "put zz 1000000000000,0")=some (S "put",.nm (S "zz")::([(1000000000000,0)]:Cs).map .cr) by decide +kernel) (.put zl (by decide) (fw (by decide +kernel) z2 (by decide +kernel)) (by decide)),rfl⟩
 ·exact⟨1,.dee (by decide +kernel) (show bp (S "put NO 9"++Txt.mul (S "9") 20++S ",0")=some (S "put",.nm (S "NO")::([(999999999999999999999,0)]:Cs).map .cr) by decide +kernel) (.put nl (by decide) (ff (by decide +kernel)) (by decide)),rfl⟩
noncomputable def iu:Str:=S "put "++S "a"++Txt.mul (S " 1,2") 11
theorem tj{m:Nat}{past:List Bk}(h0:0<m)(hm:m<7):vE (K6 m) past (.str iu) 2 :=
 .dee (by decide +kernel) (show bp iu=some (S "put",.nm (S "a")::tm.map .cr) by decide +kernel) (.put (by decide +kernel) (by decide) (lZ (by decide +kernel) ((by decide +kernel:∀m,m<7->0<m->S "a"∈(K6 m).map (·.1)) m hm h0)) (by decide))
theorem tf{past:List Bk}:vE (K6 6) past (.str (S "put zz 0,0")) 4 :=
 .dee (by decide +kernel) (show bp (S "put zz 0,0")=some (S "put",.nm (S "zz")::([(0,0)]:Cs).map .cr) by decide +kernel) (.put (by decide +kernel) (by decide) (nA (by decide +kernel) (gX 6 (by decide)).2 (by decide +kernel) (by decide)) (by decide))
theorem sZ{past:List Bk}:vE (K6 6) past (.str (S "put zz 0,1000000000000")) 3 :=
 .dee (by decide +kernel) (show bp (S "put zz 0,1000000000000")=some (S "put",.nm (S "zz")::([(0,1000000000000)]:Cs).map .cr) by decide +kernel) (.put (by decide +kernel) (by decide) (fw (by decide +kernel) (gX 6 (by decide)).2 (by decide +kernel)) (by decide))
theorem sY{past:List Bk}:vE (K6 1) past (.str (S "near "++S "a"++S " on")) 6 :=
 .ans (by decide +kernel) (show bp (S "near "++S "a"++S " on")=some (S "near",[.nm (S "a"),.wy (S "on")]) by decide +kernel) (.alone (cs:=cs6 0) (by decide +kernel) (by decide +kernel) (by decide +kernel))
theorem mI:vE [] [] (.str (S "back")) 5:=.dee (by decide +kernel) (show bp (S "back")=some (S "back",[]) by decide +kernel) (.back rfl)
theorem kP:vE [] [] (.str (S "midst free")) 6:=.ans (by decide +kernel) (show bp (S "midst free")=some (S "midst",[.wy (S "free")]) by decide +kernel) (.midst rfl (by decide +kernel))
theorem mH{nm:Str}(h:nm∈cw):vE [] [] (.str (S "near "++nm++S " on")) 1:=by
 have q:∀n∈cw,(S "near "++n++S " on").length<=900/\bp (S "near "++n++S " on")=some (S "near",[.nm n,.wy (S "on")]):=by decide +kernel
 obtain⟨q1,q2⟩:=q nm h;exact .ans q1 q2 (.near (hU nm h) (qB _))
inductive xV (C:Addr) (vs:List V) (H:Hp) (Q:VK) (x_3:XK):Prop
 | mk:∀(b:Addr) (x:V) (M:List Addr) (e:Addr) (m:Nat) (past:List Bk),(vs = [.ref b,x])->(u7 M C H b e (K6 m) past)->(0<m)->(m<7)->(∀H',Same H H'->Q (.bl true) H')->xV C vs H Q x_3
theorem eG(m:Nat):(K6 m).length=m:=by unfold K6;rw[List.length_map,List.length_range]
theorem wW:uq ["book","names","here"] ["book","names"] (ag (top 191)):=smk
theorem jv(yt:Df K mg "_law_full" (top 191))(uo:u6 K mg "Book" C_Book)(uu:Mt P w K mg base C_Book "names" ["self"] 1 (vm C_Book))(ux:Fn P w K mg base "_law_said" ["book","row"] 10 (zW C_Book))(T:Txt mg):Fn P w K mg base "_law_full" ["book","names"] 11 (xV C_Book):=by
 refine yt.fn wW (λ_ _ _ _ _ _ us hl=>match us,hl with | [_,_],_=>rfl) (λvs H Q E h=>?_) (λf cdv A outer s H vs Q E hr h=>?_)
 ·obtain⟨b,x,M,e,m,past,rfl,_⟩:=h
  rfl
 ·obtain⟨b,x,M,e,m,past,rfl,op,h0,hm,q⟩:=h
  refine⟨_,(ae (au (i:=2) wW.nd rfl (Or.inl rfl) (fg uo uu (hr.mono (by decide)) (pv 0))) (ae (aJ (ao bv (aP ux (hr.mono (by decide)) (by rfl) (aa (pv 0) (aa (ap ay (ap ay ah (aC av (pv 2) aj (λ_ _=>rfl))) (ap ii ah aj)) ac))) ah (az _)) (ai (aw bS)) ax) (ae (aJ (nv (ao a9 (aq aG (by rfl) T.z_len bc (aa (pv 2) ac)) aj (az _)) (kY (ao bv (aP ux (hr.mono (by decide)) (by rfl) (aa (pv 0) (aa ah ac))) ah (az _)))).pt (ai (aw bS)) ax) (ae (aJ (nv (ao a9 (aq aG (by rfl) T.z_len bc (aa (pv 2) ac)) aj (az _)) (kY (ao bv (aP ux (hr.mono (by decide)) (by rfl) (aa (pv 0) (aa ah ac))) ah (az _)))).pt (ai (aw bS)) ax) (ai (aw (sB (bR nW (aq aG (by rfl) T.z_len bc (aa (pv 2) ac)) aj (az _)) (d9 (bR a9 (aP ux (hr.mono (by decide)) (by rfl) (aa (pv 0) (aa (ap ay (ap ay ah (aC av (pv 2) aj (λ_ _=>rfl))) ah) ac))) ah (az _)))))))))),?_⟩;obtain⟨dx,kk,hb,bo,pa⟩:=op.bk.ex;refine⟨_,rfl,b,dx,_,rfl,hb,rfl,b,M,e,K6 m,past,rfl,op.bk,by rw[eG];omega,λl H1 s1 n1 f1=>?_⟩;have hz:atI ((K6 m).map λr=>V.str r.1) 0=some (.str (S "a")):=by
   have h:=(by decide +kernel:∀m,m<7->0<m->((K6 m).map (·.1)).head? = some (S "a")) m hm h0;cases e:K6 m with
   | nil=>rw[e]at h;cases h
   | cons r rs =>
    rw[e]at h;have h:some r.1=some (S "a"):=h;rw[List.map_cons,ar,Option.some.inj h]
  refine⟨_,rfl,_,rfl,l,_,_,_,rfl,rfl,SqL.of f1,hz,_,_,rfl,rfl,bF (by decide +kernel) (by decide +kernel),_,_,rfl,rfl,(by unfold MulOk;decide +kernel),_,_,rfl,rfl,bF (by decide +kernel) (by decide +kernel),b,.str iu,M,e,K6 m,past,2,rfl,op.mono s1,⟨_,.str _⟩,tj h0 hm,λH2 s2=>⟨rfl,_,rfl,am (by decide +kernel) ?_⟩⟩;have ln:((K6 m).map λr=>V.str r.1).length=m:=by rw[List.length_map,eG]
  by_cases h6:m=6
  ·subst h6
   have S2:=s1.trans s2;refine⟨_,rfl,l,_,rfl,.inl (SqL.of (s2 _ _ f1)),rfl,_,rfl,aW (by rw[ln];decide) ⟨_,rfl,b,_,M,e,_,past,4,rfl,op.mono (S2),⟨_,.str _⟩,tf,λH3 s3=>⟨rfl,_,rfl,am (by decide +kernel) ?_⟩⟩⟩;have S3:=S2.trans s3;refine⟨_,rfl,l,_,rfl,.inl (SqL.of (s3 _ _ (s2 _ _ f1))),rfl,_,rfl,aW (by rw[ln];decide) ⟨_,rfl,b,_,M,e,_,past,3,rfl,op.mono (S3),⟨_,.str _⟩,sZ,λH4 s4=>⟨rfl,_,rfl,am (by decide +kernel) ?_⟩⟩⟩;exact⟨_,rfl,l,_,rfl,.inl (SqL.of (s4 _ _ (s3 _ _ (s2 _ _ f1)))),_,_,rfl,rfl,_,rfl,aW (by rw[ln];decide) (q _ (S3.trans s4))⟩
  ·have S2:=s1.trans s2
   refine⟨_,rfl,l,_,rfl,.inl (SqL.of (s2 _ _ f1)),rfl,_,rfl,am (by rw[ln];simp;omega) ?_⟩;refine⟨_,rfl,l,_,rfl,.inl (SqL.of (s2 _ _ f1)),rfl,_,rfl,am (by rw[ln];simp;omega) ?_⟩;have hl:=s2 _ _ f1
   by_cases h1:m=1
   ·subst h1
    exact⟨_,rfl,l,_,rfl,.inl (SqL.of (hl)),_,_,rfl,rfl,_,rfl,am (by rw[ln];decide) ⟨_,rfl,_,rfl,l,_,_,_,rfl,rfl,SqL.of hl,hz,_,_,rfl,rfl,bF (by decide +kernel) (by decide +kernel),_,_,rfl,rfl,bF (by decide +kernel) (by decide +kernel),b,_,M,e,_,past,6,rfl,op.mono (S2),⟨_,.str _⟩,sY,λH3 s3=>⟨rfl,q _ (S2.trans s3)⟩⟩⟩
   ·exact⟨_,rfl,l,_,rfl,.inl (SqL.of (hl)),_,_,rfl,rfl,_,rfl,aW (by rw[ln];simp;omega) (q _ S2)⟩
theorem qm{K:W.Frag}{a:Addr}{xs:List V}{fv:List (Str×Nat)}{te:TE}{σ:St}{H1:Hp}{Q:VK}(hL:SqL K H1 a xs)(hlen:xs.length<1000)(R:Addr->Nat->V->Hp->Prop)(hR:∀l i v H H',But [l] H H'->R l i v H->R l i v H')
  (hs:∀l i x H2 (Kc:VK),H1 l=none->H2 l≠none->xs[i]? = some x->Same H1 H2->(∀y H4,Same H2 H4->R l i y H4->Kc y H4)->te (some x::fvs fv σ) H2 Kc)
  (hd:∀l ys H',H1 l=none->Same H1 H'->H' l=some (.lst ys)->ys.length=xs.length->(∀i y,ys[i]? = some y->R l i y H')->Q (.ref l) H') :
  eH (Itl K a) fv te σ H1 Q:=by
 intro l hl;refine ce (K:=K) (a:=a) (xs:=xs) (l:=l) (fv:=fv) (Qp:=λH2=>Q (.ref l) H2) (λi acc H2=>acc.length=i/\Same H1 H2/\H2 l=some (.lst acc)/\∀j y,acc[j]? = some y->R l j y H2)
  ⟨rfl,Same.new hl,upd_same,λj y h=>by simp at h⟩ ?_ ?_ ?_
 ·rintro i acc H2 hi ⟨e1,sm,e3,_⟩
  exact⟨sm.seq hL,e3,be (by omega)⟩
 ·rintro i x acc H2 Kc hx ⟨e1,sm,e3,hr⟩ kk
  refine hs l i x H2 Kc hl (by rw[e3];simp) hx sm λy H4 s4 ry=>kk y H4 (s4 _ _ e3) ⟨by simp[e1],(sm.trans s4).upd hl,upd_same,λj z hz=>?_⟩;have t4:But [l] H4 (upd H4 l (.lst (acc++[y]))):=But.put (by simp);rcases Nat.lt_trichotomy j acc.length with h|h|h
  ·rw[List.getElem?_append_left h]at hz
   exact hR _ _ _ _ _ ((But.of s4).trans t4) (hr j z hz)
  ·subst h
   rw[List.getElem?_append_right (Nat.le_refl _),Nat.sub_self]at hz;cases hz;rw[e1];exact hR _ _ _ _ _ t4 ry
  ·rw[List.getElem?_eq_none (by simp;omega)]at hz
   cases hz
 ·rintro acc H2 ⟨e1,sm,e3,hr⟩
  exact hd l acc H2 hl sm e3 e1 hr
theorem at0{α:Type}(a:α)(r:List α):atI (a::r) 0=some a:=by
 unfold atI ixN;rw[if_pos (by decide),if_pos (by simp only[List.length_cons];omega)];rfl
theorem lh{H2:Hp}{l t:Addr}(h:H2 l≠none)(n:H2 t=none):t≠l:=λz=>h (by rw[<- z];exact n)
theorem sx{H H':Hp}{l:Addr}(s:Same H H')(h:H l≠none):H' l≠none:=by
 cases e:H l with
 | none=>exact absurd e h
 | some o=>rw[s _ _ e];simp
noncomputable def dC(c:Int×Int):D:=.tup [.int c.1,.int c.2]
noncomputable def dL(cs:Cs):D:=.lst (cs.map dC)
noncomputable def dE(r:Str×Cs):D:=.tup [.str r.1,dL r.2]
noncomputable def dB(k:Bk):D:=.lst (k.map dE)
theorem kW{β:Type}{H:Hp}{n:Nat}{p:Addr}{f:β->D}{rs:List (Addr×β)}(e:H p=some (.lst (rs.map λr=>V.ref r.1)))(h:∀r∈rs,Rp H n (.ref r.1) (f r.2)):Rp H (n+1) (.ref p) (.lst ((rs.map (·.2)).map f)):=by
 refine .lst e (by simp) λj x d hx hd=>?_;rw[List.getElem?_map]at hx;obtain⟨r,hr,rfl⟩:=Option.map_eq_some_iff.mp hx;rw[List.getElem?_map,List.getElem?_map,hr]at hd;cases hd;exact h r (List.mem_of_getElem? hr)
theorem sA{H:Hp}{p:Addr}{n:Nat}{qs:Crn}(e:H p=some (.lst (qs.map λq=>V.ref q.1)))(h:∀q∈qs,H q.1=some (.tup [.int q.2.1,.int q.2.2])):Rp H (n+2) (.ref p) (dL (qs.map (·.2))) :=
 kW (f:=dC) e λq hq=>Rp.t2 (h q hq) .int .int
theorem Ln.rp{M:List Addr}{H:Hp}{p:Addr}{cs:Cs}{n:Nat}(L:Ln M H p cs):Rp H (n+2) (.ref p) (dL cs):=by
 obtain⟨qs,rfl,_,h3,h4⟩:=L.ex;exact sA h3 λq hq=>(h4 q hq).2
theorem gI{H H1 H':Hp}{x:Addr}(s:Same H H1)(bt:But [x] H1 H')(n:H x=none):Same H H':=λa o e=>bt a o (λz=>by rw[List.mem_singleton.mp z,n]at e;cases e) (s a o e)
noncomputable def clK(K:W.Frag):Nat->Addr:=λc=>Hd.cls K ([Str.ofString "",Str.ofString "NoName",Str.ofString "Twice",Str.ofString "NoLine",Str.ofString "TooMany",Str.ofString "NoDeed",Str.ofString "NoLines",Str.ofString "NoRow",Str.ofString "NoText"].getD c (Str.ofString ""))
noncomputable def eA(w:World):List (Int×Str×List V):=iQ.map λr=>(hashStr w r.1,r.1,r.2.map V.str)
theorem jo{w:World}:∀r∈eA w,r.1=hashStr w r.2.1:=λr hr=>by
 obtain⟨q,_,rfl⟩:=List.mem_map.mp hr;rfl
theorem mw{w:World}:((eA w).map λr=>r.2.1).Nodup:=by
 have h:(iQ.map λr=>r.1).Nodup:=by decide +kernel
 unfold eA;rw[List.map_map];exact h
theorem di(w:World)(k:Str):Hd.rowAt (eA w) k=(cE k).map λf=>f.map V.str:=by
 unfold Hd.rowAt eA cE;rw[List.find?_map,Option.map_map,Option.map_map];rfl
theorem rX(ss:List Int):∃v,atI (ss.map V.int++[V.int 0]) 0=some (.int v):=by
 cases ss with
 | nil=>exact⟨0,rfl⟩
 | cons a r=>exact⟨a,at0 _ _⟩
theorem sd{ss:List Int}{a:Int}{o:V}{i:Nat}(h:(dS (ss.map V.int) none (some 30)++[V.int a])[i]? = some o):∃c,o=V.int c:=by
 have hm:=List.mem_of_getElem? h;rcases List.mem_append.mp hm with hm|hm
 ·obtain⟨c,_,e⟩:=List.mem_map.mp (oo hm)
  exact⟨c,e.symm⟩
 ·exact⟨_,List.mem_singleton.mp hm⟩
theorem uj(i:Nat)(a b c:V):dS [a,b,c] none (some (1+(i:Int) % 3)) = [a,b,c].take (1+i % 3):=by
 unfold dS;rw[show(1+(i:Int) % 3)=((1+i % 3:Nat):Int) by omega,HT.sIx_nat,HT.sIx_none];have h:i % 3=0\/i % 3=1\/i % 3=2:=by omega
 rcases h with h|h|h <;> rw[h] <;> rfl
theorem t9{H:Hp}{t1 t2 t3 pl:Addr}{i:Nat}(hi:i<6)(f1:H t1=some (.tup [.int (i:Int),.int 0]))(f2:H t2=some (.tup [.int 1,.int (i:Int)]))(f3:H t3=some (.tup [.int (i:Int),.int (i:Int)]))(e:H pl=some (.lst ([V.ref t1,.ref t2,.ref t3].take (1+i % 3)))):LnO H (.ref pl) (some (cs6 i)):=by
 have hm:∀q∈([(t1,(i:Int),(0:Int)),(t2,(1:Int),(i:Int)),(t3,(i:Int),(i:Int))]:Crn).take (1+i % 3),H q.1=some (.tup [.int q.2.1,.int q.2.2])/\(-bH<=q.2.1/\q.2.1<=bH)/\(-bH<=q.2.2/\q.2.2<=bH):=λq hq=>by
  have:=List.mem_of_mem_take hq;simp only[List.mem_cons,List.not_mem_nil,or_false]at this;unfold bH;rcases this with rfl|rfl|rfl
  ·exact⟨f1,⟨by omega,by omega⟩,by omega,by omega⟩
  ·exact⟨f2,⟨by omega,by omega⟩,by omega,by omega⟩
  ·exact⟨f3,⟨by omega,by omega⟩,by omega,by omega⟩
 refine⟨pl,([(t1,(i:Int),(0:Int)),(t2,(1:Int),(i:Int)),(t3,(i:Int),(i:Int))]:Crn).take (1+i % 3),rfl,⟨⟨?_,λq hq=>⟨(hm q hq).1,fe (hm q hq).2.1,fe (hm q hq).2.2⟩⟩,λq hq=>(hm q hq).2,?_⟩,?_⟩
 ·rw[e,List.map_take]
  rfl
 ·rw[List.length_take]
  simp only[List.length_cons,List.length_nil];omega
 ·rw[List.map_take]
  rfl
theorem oh{i:Nat}(h:i<6):atI (cw.map V.str) (i:Int)=some (.str (nm6 i)):=by
 refine fo ?_;rw[List.getElem?_map];exact congrArg (Option.map V.str) ((by decide +kernel:∀i,i<6->cw[i]? = some (nm6 i)) i h)
noncomputable def P6(m:Nat):List Bk:=(List.range m).map K6
theorem qF(i:Nat):K6 (i+1)=K6 i++[(nm6 i,cs6 i)]:=by
 unfold K6;rw[List.range_succ,List.map_append];rfl
theorem qE(i:Nat):P6 (i+1)=P6 i++[K6 i]:=by
 unfold P6;rw[List.range_succ,List.map_append];rfl
theorem si(i:Nat):(P6 i).length=i:=by unfold P6;rw[List.length_map,List.length_range]
theorem mB{i:Nat}(h:i<6):bj 0 (.str (nm6 i)) (some (cs6 i)) (K6 i) (P6 i)=(0,K6 (i+1),P6 (i+1)):=by
 obtain⟨h1,h2⟩:=(by decide +kernel:∀i,i<6->aQ (nm6 i)=true/\nm6 i∉(K6 i).map (·.1)) i h;rw[cG (by decide) h1,if_neg h2];dsimp only;rw[if_neg (by rw[eG];omega),qF,qE]
theorem lr{m:Nat}(h:m<7):yk (K6 m):=by
 obtain⟨h1,h2,h3⟩:=(by decide +kernel:∀m,m<7->((K6 m).map (·.1)).Nodup/\(∀r∈K6 m,aQ r.1=true)/\∀r∈K6 m,r.2.length<=10) m h;exact⟨by rw[eG];omega,h1,h2,h3⟩
theorem yk.nil:yk []:=⟨by simp,by simp,(λ_ h=>nomatch h),(λ_ h=>nomatch h)⟩
theorem u7.upd{M:List Addr}{C:Addr}{H H':Hp}{b e:Addr}{kept:Bk}{past:List Bk}{m:Nat}(o:u7 M C H b e kept past)(bt:But [b,e] H H')(bk:uR M C H' b e (K6 m) (P6 m))(h:m<7):u7 M C H' b e (K6 m) (P6 m):=by
 refine⟨bk,o.lv.go bt λa ha=>?_,o.bM,o.eM,lr h,by rw[si];omega⟩;obtain⟨dx,k,h1,_,h3⟩:=bk.ex;obtain⟨ks,_,h5,_⟩:=h3.ex;simp only[List.mem_cons,List.not_mem_nil,or_false]at ha;rcases ha with rfl|rfl
 ·rw[h1]
  exact⟨by simp,λxs=>by simp⟩
 ·rw[h5]
  exact⟨by simp,λxs=>by simp⟩
theorem sh{kept:Bk}{n:Str}{cs:Cs}(gd:yk kept)(h:(n,cs)∈kept):atN (.str n) kept=some cs:=by
 have hb:=gd.nm _ h;have e:atN (.str n) kept=fnd kept n:=by
  unfold atN;dsimp only;rw[show aQ n=true from hb,if_neg (by decide)]
 rw[e];cases hf:fnd kept n with
 | none =>
  unfold fnd at hf;rw[Option.map_eq_none_iff,List.find?_eq_none]at hf;exact absurd (decide_eq_true rfl) (hf _ h)
 | some c=>exact congrArg some (jq gd.nd hf _ h rfl).symm
theorem gP{K:W.Frag}{C a b e N:Addr}{M:List Addr}{kept:Bk}{past:List Bk}{σ:St}{H1:Hp}{Q:VK}{fv:List (Str×Nat)}(gd:yk kept)(bk:uR M C H1 b e kept past)(hk:H1 a=some (.lst (kept.map λr=>V.str r.1)))(hσ:fvs fv σ = [some (.ref b)])
  (hd:∀l H',H1 l=none->Same H1 H'->Rp H' 9 (.ref l) (dB kept)->Q (.ref l) H') :
  eH (Itl K a) fv (qI (iV (xm 0) (iV (ft C (Str.ofString "line") (u8 C N) [] E0 (xm 1) (iV (xm 0) g9)) g9))) σ H1 Q:=by
 have kl:=gd.len;refine qm (SqL.of hk) (by rw[List.length_map];omega) (λl i v H=>∀n cs,kept[i]? = some (n,cs)->∃t,v = .ref t/\En [l] H (t,n,cs)) (λl i v H H' bt h n cs hi=>?_) (λl i x H2 Kc nl ll hx s2 kk=>?_) (λl ys H' nl s' el hn hy=>?_)
 ·obtain⟨t,rfl,en⟩:=h n cs hi
  exact⟨t,rfl,en.go bt λa m=>.inl m⟩
 ·rw[List.getElem?_map]at hx
  obtain⟨⟨n,cs⟩,hi,rfl⟩:=Option.map_eq_some_iff.mp hx;have hm:=List.mem_of_getElem? hi;have hc:=sh gd hm;have nl':∀x∈l::M,x∈M\/H1 x=none:=λx m=>by
   rcases List.mem_cons.mp m with rfl|m
   ·exact .inr nl
   ·exact .inl m
  have bk2:=(bk.re nl').mono s2;obtain⟨dx,kk2,hb,bo,pa⟩:=bk2.ex;rw[hσ];refine⟨_,rfl,_,rfl,b,dx,_,rfl,hb,rfl,_,rfl,b,.str n,l::M,e,kept,past,rfl,bk2,bE (jj (gd.nm _ hm)),by omega,gd.ln,(λcs' hc' ln qs H3 s3 n3 eq e3 hq=>?_),λz=>by rw[hc]at z;cases z⟩;rw[hc]at hc';cases hc';refine⟨sz (by simp),λt H4 s4 f4 n4=>kk _ _ (s3.trans s4) λn' cs2 h2=>?_⟩;rw[hi]at h2;cases h2;have lt:t∉[l]:=λm=>lh (sx s3 ll) n4 (List.mem_singleton.mp m);refine⟨t,rfl,lt,ln,f4,qs,eq,λm=>lh ll n3 (List.mem_singleton.mp m),s4 _ _ e3,λq m=>⟨λz=>(hq q m).1 (by rw[List.mem_singleton.mp z];exact List.mem_cons_self),s4 _ _ (hq q m).2⟩⟩
 ·rw[List.length_map]at hn
  obtain⟨rs,h1,h2,h3⟩:=hX (G:=λr=>En [l] H' r) (es:=kept) (ys:=ys) hn λi y e' hi he=>hy i y hi e'.1 e'.2 he;refine hd l H' nl s' ?_;rw[h2]at el;rw[<- h1];refine kW (f:=dE) (n:=8) el λr hr=>?_;obtain⟨_,l',h5,h6⟩:=h3 r hr;exact Rp.t2 h5 .str h6.rp
theorem vk:uq ["script","bare","book","names","many","k","kept","cell","numbers","name","row","due"] ["script"] (ag (top 192)):=smk
theorem rW{cl:Nat->Addr}(AG:Df K mg "law" (top 192))(uo:u6 K mg "Book" C_Book)(u5:Mt P w K mg base C_Book "__init__" ["self"] 1 (xU C_Book))(uX:Mt P w K mg base C_Book "put" ["self","name","corners"] 6 (yy C_Book cl))(uu:Mt P w K mg base C_Book "names" ["self"] 1 (vm C_Book))(ut:Mt P w K mg base C_Book "line" ["self","name"] 2 (u8 C_Book (cl 1)))(vg:Fn P w K mg base "_law_numbers" ["cell","many","base"] 2 wt)(vB:Fn P w K mg base "_law_no_row" ["number","name"] 1 zt)(vK:Fn P w K mg base "_law_other" ["number","name","odd"] 1 zr)(ux:Fn P w K mg base "_law_said" ["book","row"] 10 (zW C_Book))(wc:Fn P w K mg base "_law_full" ["book","names"] 11 (xV C_Book))(T:Txt mg):Fn P w K mg base "law" ["script"] 12 (mZ K):=by
 refine AG.fn vk (λ_ _ _ _ _ _ us hl=>match us,hl with | [_],_=>rfl) (λvs H Q E h=>?_) (λf cdv A outer s H vs Q E hr h=>?_)
 ·obtain⟨sa,ss,rfl,_⟩:=h
  rfl
 ·obtain⟨sa,ss,rfl,hS,hlen,fin⟩:=h
  have CN:uQ (ak CX0 P w K mg base ["script","bare","book","names","many","k","kept","cell","numbers","name","row","due"] "law" (ag (top 192)) f cdv A outer s H E).nox (lcA (top 192) 0) [("book",s.heap.objs.size+1)] "name" [("book",2)] :=
   ⟨by rfl,rfl,by decide +kernel,by decide +kernel,rfl,(λp hp=>by simp only[List.mem_cons,List.not_mem_nil,or_false]at hp;rcases hp with rfl <;> exact rfl),by rfl,by decide +kernel,(λp hp=>by simp only[List.mem_cons,List.not_mem_nil,or_false]at hp;rcases hp with rfl <;> exact⟨rfl,rfl,.inr (.inl rfl),rfl,rfl⟩),⟨rfl,rfl⟩,rfl⟩
  refine⟨_,(ae (au (i:=1) vk.nd rfl (Or.inl rfl) (nE uo u5 (hr.mono (by decide)) (by rfl))) (ae (au (i:=2) vk.nd rfl (Or.inr rfl) (nE uo u5 (hr.mono (by decide)) (by rfl))) (@ae _ _ _ _ _ (@au _ _ 3 _ _ _ _ vk.nd rfl (Or.inl rfl) (@aI _ _ _ _ (@aa _ _ _ _ _ ah (@aa _ _ _ _ _ ah (@aa _ _ _ _ _ ah (@aa _ _ _ _ _ ah (@aa _ _ _ _ _ ah (@aa _ _ _ _ _ ah ac (by rfl)) (by rfl)) (by rfl)) (by rfl)) (by rfl)) (by rfl))) (by rfl) (by first|exact .inl rfl|exact .inr rfl|assumption)) (ae (au (i:=4) vk.nd rfl (Or.inl rfl) (ap cj aj (ap bz (aC av (ap pP (pv 0) (aI (aa aj ac))) aj (λ_ _=>rfl)) aj))) (ae (h9 PassesOwn.never rfl (gE rfl T.z_range (aa (pv 4) ac)) (bg (i:=5) vk.nd rfl (Or.inl rfl)) (ai (aT (ki uo uX (hr.mono (by decide)) (pv 2) (aa (aC av (pv 3) (pv 5) (λ_ _=>rfl)) (aa (cB dh (@aI _ _ _ _ (@aa _ _ _ _ _ (@aM _ _ _ _ _ (@aa _ _ _ _ _ (pv 5) (@aa _ _ _ _ _ aj ac (by rfl)) (by rfl))) (@aa _ _ _ _ _ (@aM _ _ _ _ _ (@aa _ _ _ _ _ aj (@aa _ _ _ _ _ (pv 5) ac (by rfl)) (by rfl))) (@aa _ _ _ _ _ (@aM _ _ _ _ _ (@aa _ _ _ _ _ (pv 5) (@aa _ _ _ _ _ (pv 5) ac (by rfl)) (by rfl))) ac (by rfl)) (by rfl)) (by rfl))) dm (dl (ap cj aj (ap bz (pv 5) aj)))) ac)))))) (ae (jd (j:=6) rfl CN vk.nd rfl rfl (bf (fg uo uu (hr.mono (by decide)) (pv 2))) (λfp s₀ H₀=>(aM (aa (pv 0) (aa (ki uo ut (hr.mono (by decide)) (pv 1) (aa (pv 0) ac)) ac))))) (ae (h9 PassesOwn.never rfl (bf (ap aY (cB dh (pv 0) dm (dl aj)) (aI (aa (aq aG (by rfl) T.z_len bc (aa (pv 0) ac)) ac)))) (bg (i:=7) vk.nd rfl (Or.inl rfl)) (ae (au (i:=8) vk.nd rfl (Or.inl rfl) (aP vg (hr.mono (by decide)) (by rfl) (aa (pv 7) (aa aj (aa (ap nS aj aj) ac))))) (ae (au (i:=9) vk.nd rfl (Or.inl rfl) (aC av (pv 3) (ap bz (aC av (pv 8) aj (λ_ _=>rfl)) (pv 4)) (λ_ _=>rfl))) (ae (au (i:=10) vk.nd rfl (Or.inl rfl) (aP vB (hr.mono (by decide)) (by rfl) (aa (aC av (pv 8) aj (λ_ _=>rfl)) (aa (pv 9) ac)))) (ae (aJ (b4 (ao bv (aP ux (hr.mono (by decide)) (by rfl) (aa (pv 1) (aa (pv 10) ac))) ah (az _)) (bK (ao bv (aP ux (hr.mono (by decide)) (by rfl) (aa (pv 2) (aa (pv 10) ac))) ah (az _)))).pt (ai (aw bS)) ax) (ae (rz (aP vK (hr.mono (by decide)) (by rfl) (aa (aC av (pv 8) aj (λ_ _=>rfl)) (aa (pv 9) (aa (aC av (aI (aa ah (aa ah (aa ah (aa ah ac))))) (ap bz (aC av (pv 8) aj (λ_ _=>rfl)) aj) (λ_ _=>rfl)) ac)))) (nD rfl (dn (bg (i:=10) vk.nd rfl (Or.inl rfl)) (dn (bg (i:=11) vk.nd rfl (Or.inl rfl)) k6)))) (ae (aJ (ao bv (aP ux (hr.mono (by decide)) (by rfl) (aa (pv 2) (aa (pv 10) ac))) (pv 11) (az _)) (ai (aw bS)) ax) (ae (aJ (b4 (ao bv (aP ux (hr.mono (by decide)) (by rfl) (aa (pv 1) (aa ah ac))) ah (az _)) (b4 (ao bv (aP ux (hr.mono (by decide)) (by rfl) (aa (pv 1) (aa ah ac))) ah (az _)) (bK (ao (rE hr.units10) (fg uo uu (hr.mono (by decide)) (pv 1)) (aI ac) (az _))))).pt (ai (aw bS)) ax) (ai (aJ (ao bv (aP ux (hr.mono (by decide)) (by rfl) (aa (pv 1) (aa (ap ay (ap ay ah (pv 9)) ah) ac))) ah (az _)) (ai (aw bS)) ax)))))))))) (ai (aw (cV (aP wc (hr.mono (by decide)) (by rfl) (aa (pv 2) (aa (pv 3) ac))) (d9 (bR (rG hr.units10) (bL rfl CN (bf (fg uo uu (hr.mono (by decide)) (pv 2))) (λfp s₀ H₀=>(aM (aa (pv 0) (aa (ki uo ut (hr.mono (by decide)) (pv 1) (aa (pv 0) ac)) ac))))) (pv 6) (az _))))))))))))),?_⟩
  refine λx0 dx0 nx0 nd0 ne0=>⟨x0,dx0,rfl,upd_same,λi0 e0 H2 bt2 hb0 ni0 nne0 ie0 hi0 he0=>⟨rfl,λx1 dx1 nx1 nd1 ne1=>⟨x1,dx1,rfl,upd_same,λi1 e1 H3 bt3 hb1 ni1 nne1 ie1 hi1 he1=>⟨rfl,sz (by simp),λnl H4 s4 f4 n4=>?_⟩⟩⟩⟩;have w1:Same H (upd (upd H dx0 (.own x0)) x0 (.ins C_Book dx0 [])):=(Same.new nd0).trans (Same.new (by rw[aA (λz=>ne0 z.symm)];exact nx0));have s2:Same H H2:=gI w1 bt2 nx0;have w2:Same H2 (upd (upd H2 dx1 (.own x1)) x1 (.ins C_Book dx1 [])):=(Same.new nd1).trans (Same.new (by rw[aA (λz=>ne1 z.symm)];exact nx1));have s3:Same H2 H3:=gI w2 bt3 nx1;obtain⟨fv,hfv⟩:=rX ss;have S4:Same H H4:=s2.trans (s3.trans s4);refine⟨_,rfl,sz (by simp),λq0 G0 t0 g0 m0=>⟨sa,q0,_,_,rfl,rfl,(S4.trans t0).seq hS,SqL.of g0,by rw[sizeLine_eq,List.length_map];simp only[List.length_cons,List.length_nil];omega,λq1 G1 t1 g1 m1=>⟨q1,_,_,_,rfl,rfl,SqL.of g1,hfv,_,_,rfl,rfl,(by show(0:Int)<6;decide),_,_,rfl,rfl,?_⟩⟩⟩;have r0:=Int.emod_nonneg fv (show(6:Int)≠0 by decide);have r1:=Int.emod_lt_of_pos fv (show(0:Int)<6 by decide);generalize hmi:1+fv % 6=mi;obtain⟨m,rfl⟩:∃m:Nat,mi=(m:Int):=⟨mi.toNat,by omega⟩;have h0:0<m:=by omega
  have h7:m<7:=by omega
  have a3:Same H3 G1:=s4.trans (t0.trans t1);have sG:Same H G1:=s2.trans (s3.trans a3);have k0:H2 x0≠none:=by rw[hb0];simp
  have k1:H2 e0≠none:=by rw[he0];simp
  have k2:H2 i0≠none:=by rw[hi0];simp
  have xe0:x0≠e0:=λz=>by rw[<- z,hb0]at he0;cases he0
  have xi0:x0≠i0:=λz=>by rw[<- z,hb0]at hi0;cases hi0
  have xe1:x1≠e1:=λz=>by rw[<- z,hb1]at he1;cases he1
  have xi1:x1≠i1:=λz=>by rw[<- z,hb1]at hi1;cases hi1
  have fe1:H2 e1=none:=Same.free w2 nne1;have fi1:H2 i1=none:=Same.free w2 ni1;have gb0:=a3 _ _ (s3 _ _ hb0);have ge0:=a3 _ _ (s3 _ _ he0);have gi0:=a3 _ _ (s3 _ _ hi0);have gb1:=a3 _ _ hb1;have ge1:=a3 _ _ he1;have gi1:=a3 _ _ hi1;have nx:∀{a b:Addr},H2 a≠none->H2 b=none->a≠b:=λh n z=>h (by rw[z];exact n);generalize hM:[x0,e0,x1,e1]=M;have iM:∀a,a∈M↔a=x0\/a=e0\/a=x1\/a=e1:=λa=>by rw[<- hM];simp
  have i0M:i0∉M:=λz=>by
   rcases(iM _).mp z with h|h|h|h
   ·exact xi0 h.symm
   ·exact ie0 h
   ·exact nx k2 nx1 h
   ·exact nx k2 fe1 h
  have i1M:i1∉M:=λz=>by
   rcases(iM _).mp z with h|h|h|h
   ·exact nx k0 fi1 h.symm
   ·exact nx k1 fi1 h.symm
   ·exact xi1 h.symm
   ·exact ie1 h
  have lv:gu M G1:=λa ha=>by
   rcases(iM _).mp ha with rfl|rfl|rfl|rfl
   ·rw[gb0];exact⟨by simp,λxs=>by simp⟩
   ·rw[ge0];exact⟨by simp,λxs=>by simp⟩
   ·rw[gb1];exact⟨by simp,λxs=>by simp⟩
   ·rw[ge1];exact⟨by simp,λxs=>by simp⟩
  have op0:u7 M C_Book G1 x0 e0 [] []:=⟨⟨dx0,i0,gb0,⟨[],rfl,i0M,gi0,λ_ z=>nomatch z⟩,⟨[],rfl,ge0,λ_ z=>nomatch z⟩⟩,lv,(iM _).mpr (.inl rfl),(iM _).mpr (.inr (.inl rfl)),yk.nil,by simp⟩
  have op1:u7 M C_Book G1 x1 e1 (K6 0) (P6 0):=⟨⟨dx1,i1,gb1,⟨[],rfl,i1M,gi1,λ_ z=>nomatch z⟩,⟨[],rfl,ge1,λ_ z=>nomatch z⟩⟩,lv,(iM _).mpr (.inr (.inr (.inl rfl))),(iM _).mpr (.inr (.inr (.inr rfl))),lr (by decide),by simp[P6]⟩
  have gnl:G1 nl=some (.lst (cw.map V.str)):=t1 _ _ (t0 _ _ f4);have nlN:nl∉[x1,e1]:=λz=>by
   simp only[List.mem_cons,List.not_mem_nil,or_false]at z;rcases z with rfl|rfl
   ·rw[hb1]at n4;cases n4
   ·rw[he1]at n4;cases n4
  have apart:x0∉[x1,e1]/\e0∉[x1,e1]:=by
   constructor
   ·intro z
    simp only[List.mem_cons,List.not_mem_nil,or_false]at z;rcases z with h|h
    ·exact nx k0 nx1 h
    ·exact nx k0 fe1 h
   ·intro z
    simp only[List.mem_cons,List.not_mem_nil,or_false]at z;rcases z with h|h
    ·exact nx k1 nx1 h
    ·exact nx k1 fe1 h
  have newN:∀a∈[x1,e1],H a=none:=λa ha=>by
   simp only[List.mem_cons,List.not_mem_nil,or_false]at ha;rcases ha with rfl|rfl
   ·exact Same.free s2 nx1
   ·exact Same.free s2 fe1
  clear f4 hb0 he0 hi0 hb1 he1 hi1 g0 g1 k0 k1 k2 gb0 ge0 gi0 gb1 ge1 gi1;refine⟨_,rfl,_,rfl,by omega,by omega,?_⟩;rw[Int.toNat_natCast];refine gL (λi σ H'=>∃(z5:Option V),σ = [some (.ref sa),some (.ref x0),some (.ref x1),some (.ref nl),some (.int (m:Int)),z5,none,none,none,none,none,none]/\Same H H'/\H' nl=some (.lst (cw.map V.str))/\u7 M C_Book H' x0 e0 [] []/\u7 M C_Book H' x1 e1 (K6 i) (P6 i)) ⟨_,rfl,sG,gnl,op0,op1⟩ ?_ ?_
  ·rintro i σ H' hi ⟨z5,rfl,sH,hnl,o0,o1⟩
   have hi6:i<6:=by omega
   rw[show((0:Int)+(i:Int))=(i:Int) by omega];obtain⟨dx,kk,hb,bo,pa⟩:=o1.bk.ex;refine⟨_,rfl,x1,dx,_,rfl,hb,rfl,_,rfl,_,rfl,nl,_,_,_,rfl,rfl,SqL.of hnl,oh hi6,?_⟩;refine⟨_,rfl,sz (by simp),λt1 H4 s4 f4 n4=>⟨_,rfl,sz (by simp),λt2 H5 s5 f5 n5=>⟨_,rfl,_,rfl,sz (by simp),λt3 H6 s6 f6 n6=>⟨sz (by simp),λll H7 s7 f7 n7=>?_⟩⟩⟩⟩;refine⟨_,rfl,_,_,rfl,rfl,(by show(0:Int)<3;decide),_,_,rfl,rfl,_,rfl,ll,_,rfl,SqL.of f7,λpl H8 s8 f8 n8=>?_⟩;rw[uj]at f8;have S7:Same H' H7:=s4.trans (s5.trans (s6.trans s7));have S8:=S7.trans s8;refine⟨x1,.str (nm6 i),.ref pl,M,e1,K6 i,P6 i,some (cs6 i),rfl,o1.mono S8,bE ((by decide +kernel:∀i,i<6->(nm6 i).length<=100) i hi6),t9 hi6 (s8 _ _ (s7 _ _ (s6 _ _ (s5 _ _ f4)))) (s8 _ _ (s7 _ _ (s6 _ _ f5))) (s8 _ _ (s7 _ _ f6)) f8,?_⟩;rw[mB hi6];refine⟨λz=>absurd rfl z,λ_ H9 bt bk=>?_⟩;have o1':=(o1.mono S8).upd bt bk (by omega);have o0':=o0.mono S8;exact⟨_,rfl,λa o e=>bt a o (λz=>by rw[newN a z]at e;cases e) ((sH.trans S8) a o e),bt _ _ nlN (S8 _ _ hnl),⟨o0'.bk.go bt (λa ha=>by
    simp only[List.mem_cons,List.not_mem_nil,or_false]at ha;rcases ha with rfl|rfl
    ·exact .inl o1.bM
    ·exact .inl o1.eM) apart.1 apart.2,o1'.lv,o0'.bM,o0'.eM,o0'.gd,o0'.pl⟩,o1'⟩
  ·rintro σ H' ⟨z5,rfl,sH,hnl,o0,o1⟩
   obtain⟨dx,kk,hb,bo,pa⟩:=o1.bk.ex;refine⟨_,rfl,x1,dx,_,rfl,hb,rfl,x1,M,e1,K6 m,P6 m,rfl,o1.bk,by rw[eG];omega,λl1 H1 s1 n1 f1=>⟨l1,rfl,⟨_,SqL.of f1⟩,gP (lr h7) (o1.bk.mono s1) f1 rfl λkl H2 n2 s2' rk=>?_⟩⟩;have hS2:SqL K H2 sa (ss.map V.int):=(sH.trans (s1.trans s2')).seq hS;refine⟨_,rfl,_,rfl,sa,_,rfl,hS2,λq2 G2 t2 g2 m2=>⟨_,rfl,sa,_,rfl,.inl (t2.seq hS2),sz (by simp),λq3 G3 t3 g3 m3=>⟨q2,q3,_,_,rfl,rfl,t3 _ _ g2,g3,?_,λpc G t4 gc m4=>?_⟩⟩⟩
   ·have lcut:=eV (ss.map V.int) none (some 30)
    rw[List.length_map]at lcut;rw[sizeLine_eq];simp only[List.length_cons,List.length_nil];omega
   have tG:Same H2 G:=t2.trans (t3.trans t4);have S':Same H' G:=s1.trans (s2'.trans tG);have rkG:=rk.mono tG;have p0:=o0.mono S';have p1:=o1.mono S';have hnlG:=S' _ _ hnl;refine⟨pc,rfl,⟨_,SqL.of gc⟩,jp (K:=K) (a:=pc) (xs:=dS (ss.map V.int) none (some 30)++[.int (((ss.map V.int).length:Nat):Int)]) (λi σ H3=>∃(z5 z7 z8 z9 z10 z11:Option V),σ = [some (.ref sa),some (.ref x0),some (.ref x1),some (.ref nl),some (.int (m:Int)),z5,some (.ref kl),z7,z8,z9,z10,z11]/\Same G H3) ⟨_,_,_,_,_,_,rfl,Same.refl _⟩ ?_ ?_ ?_⟩
   ·rintro i σ H3 hi ⟨z5,z7,z8,z9,z10,z11,rfl,sG3⟩
    exact SqL.of (sG3 _ _ gc)
   ·rintro i o σ H3 hi ⟨z5,z7,z8,z9,z10,z11,rfl,sG3⟩
    obtain⟨c,rfl⟩:=sd hi;refine⟨_,rfl,_,_,rfl,rfl,⟨by decide,by decide,by decide⟩,c,4,_,rfl,by decide,⟨by decide +kernel,by decide +kernel⟩,λpn ns H4 hn hns s4 f4=>?_⟩;obtain⟨n0,n1,n2,n3,rfl⟩:=ue hn;have m0:=Int.emod_nonneg n2 (show(m:Int)≠0 by omega);have m1:=Int.emod_lt_of_pos n2 (show(0:Int)<(m:Int) by omega);obtain⟨j,hj⟩:∃j:Nat,n2 % (m:Int)=(j:Int):=⟨(n2 % (m:Int)).toNat,by omega⟩;have hjm:j<m:=by omega
    refine⟨_,rfl,_,rfl,pn,_,_,_,rfl,rfl,SqL.of f4,rfl,_,rfl,_,_,rfl,rfl,(by show(0:Int)<(m:Int);omega),?_⟩;rw[hj];have A4:=sG3.trans s4;refine⟨nl,_,_,_,rfl,rfl,SqL.of (A4 _ _ hnlG),oh (by omega),?_⟩;have hnm:nm6 j∈cw.take m:=(by decide +kernel:∀m,m<7->∀j,j<m->nm6 j∈cw.take m) m h7 j hjm;generalize nm6 j=nm at hnm;have hn6:nm∈cw:=List.mem_of_mem_take hnm;have hnl100:=hU nm hn6;refine⟨_,rfl,pn,_,_,_,rfl,rfl,SqL.of f4,rfl,_,rfl,n0,nm,rfl,hnl100,λv H5 s5 hv=>?_⟩;have A5:=A4.trans s5;have kv:∃t,Kn H5 v t:=by
     rcases hv with rfl|rfl|⟨l,rfl,e⟩|rfl|⟨z,_,rfl⟩
     ·exact⟨_,.non⟩
     ·exact⟨_,.int _⟩
     ·exact⟨_,.lst e⟩
     ·exact⟨_,.bl _⟩
     ·exact⟨_,.str _⟩
    have rv:∀(kept:Bk) (past:List Bk),vE kept past v 7:=λkept past=>by
     rcases hv with rfl|rfl|⟨l,rfl,e⟩|rfl|⟨z,hz,rfl⟩
     ·exact .odd (by intro z e;cases e)
     ·exact .odd (by intro z e;cases e)
     ·exact .odd (by intro z e;cases e)
     ·exact .odd (by intro z e;cases e)
     ·exact rl hn6 hz
    refine⟨_,rfl,_,rfl,x0,v,M,e0,[],[],7,rfl,p0.mono A5,kv,rv _ _,λH6 s6=>⟨rfl,_,rfl,am (by decide +kernel) ⟨_,rfl,_,rfl,x1,v,M,e1,K6 m,P6 m,7,rfl,p1.mono (A5.trans s6),(let ⟨t,k⟩:=kv;⟨t,k.mono s6⟩),rv _ _,λH7 s7=>⟨rfl,_,rfl,am (by decide +kernel) ?_⟩⟩⟩⟩;have A7:=A5.trans (s6.trans s7);have f7:=s7 _ _ (s6 _ _ (s5 _ _ f4));have u0:=Int.emod_nonneg n3 (show(4:Int)≠0 by decide);have u1:=Int.emod_lt_of_pos n3 (show(0:Int)<4 by decide);obtain⟨vo,hvo,hmo⟩:=iO (xs:=pS.map V.str) u0 (by rw[List.length_map];exact u1);obtain⟨od,ho,rfl⟩:=List.mem_map.mp hmo;refine⟨_,rfl,pn,_,_,_,rfl,rfl,SqL.of f7,rfl,_,rfl,sz (by simp),λol H8 s8 f8 n8=>?_⟩;refine⟨_,rfl,pn,_,_,_,rfl,rfl,SqL.of (s8 _ _ f7),rfl,_,_,rfl,rfl,(by show(0:Int)<4;decide),ol,_,_,_,rfl,rfl,SqL.of f8,hvo,n1,nm,od,rfl,hnl100,(by decide +kernel:∀o∈pS,o.length<=100) od ho,λp H9 r d s9 f9 hrd=>?_⟩;refine⟨p,_,rfl,SqT.of f9,rfl,_,_,rfl,_,_,rfl,rfl,?_⟩;obtain⟨k,rr,hk⟩:=nR (past:=P6 m) h7 hnm ho hrd;have A9:=A7.trans (s8.trans s9);refine⟨_,rfl,_,rfl,x1,.str r,M,e1,K6 m,P6 m,k,rfl,p1.mono A9,⟨_,.str _⟩,rr,λH10 s10=>⟨_,rfl,rfl,_,rfl,am (by rw[hk];simp) ?_⟩⟩;have A10:=A9.trans s10;have o10:=p0.mono A10;refine⟨_,rfl,x0,_,M,e0,[],[],5,rfl,o10,⟨_,.str _⟩,mI,λH11 s11=>⟨rfl,_,rfl,am (by decide +kernel) ?_⟩⟩;have o11:=o10.mono s11;refine⟨_,rfl,x0,_,M,e0,[],[],6,rfl,o11,⟨_,.str _⟩,kP,λH12 s12=>⟨rfl,_,rfl,am (by decide +kernel) ?_⟩⟩;have o12:=o11.mono s12;obtain⟨dx,kk,hb,bo,pa⟩:=o12.bk.ex;refine⟨_,rfl,x0,dx,_,rfl,hb,rfl,x0,M,e0,[],[],rfl,o12.bk,by simp,λlb H13 s13 n13 f13=>⟨sz (by simp),λlc H14 s14 f14 n14=>⟨_,_,Rp.l0 (s14 _ _ f13),Rp.l0 f14,_,rfl,?_⟩⟩⟩;refine am (by rfl) ?_;have o14:=o12.mono (s13.trans s14);refine⟨_,rfl,_,rfl,_,_,rfl,rfl,bF (by decide +kernel) (by omega),_,_,rfl,rfl,bF (apz (by decide +kernel) (by omega)) (by decide +kernel),x0,_,M,e0,[],[],1,rfl,o14,⟨_,.str _⟩,mH hn6,λH15 s15=>⟨rfl,_,rfl,am (by decide +kernel) ?_⟩⟩;exact⟨_,_,_,_,_,_,rfl,A10.trans (s11.trans (s12.trans (s13.trans (s14.trans s15))))⟩
   ·rintro σ H3 ⟨z5,z7,z8,z9,z10,z11,rfl,sG3⟩
    refine⟨_,rfl,_,rfl,x1,_,M,e1,m,P6 m,rfl,p1.mono sG3,h0,h7,λH4 s4=>⟨_,rfl,aW rfl ?_⟩⟩;have A4:=sG3.trans s4;have o4:=p1.mono A4;obtain⟨dx,kk,hb,bo,pa⟩:=o4.bk.ex;refine⟨_,rfl,x1,dx,_,rfl,hb,rfl,x1,M,e1,K6 m,P6 m,rfl,o4.bk,by rw[eG];omega,λl5 H5 s5 n5 f5=>⟨l5,rfl,⟨_,SqL.of f5⟩,gP (lr h7) (o4.bk.mono s5) f5 rfl λk2 H6 n6 s6 r6=>?_⟩⟩;refine⟨_,rfl,_,_,r6,rkG.mono (A4.trans (s5.trans s6)),?_⟩;rw[jD];exact fin _
end
theorem hLeft:W.LeftO Challenge.rw_oneleash_k65_rows_refused.prog hView hLoose (λ_=>true) (W.Hook.obs (Hd.hookV hFacts hGood)) (W.Hook.val (Hd.hookV hFacts hGood)) 100000:=ui
theorem all_of{P:Program}{w:World}{K:W.Frag}(FK:hFacts K=hGood w){h:Heap}{mg:Str->Option Value}{fa:Addr}(X:K.In h)(G:h.Ns mainGlobals mg)(hfa:mg "law" = some (.ref fa)) :
  ∃fd:FuncData,(∀(s:Shared) (v:Value),BindsTo s fd ⟨[v],[]⟩ [("script",v)])/\∀base:Heap,K.In base->base.Ns mainGlobals mg->v7 P w K mg base CX0 12 fa fd ["script"] (mZ K):=by
 have H0:(dH.map (λp=>Hd.fnFact K p.1):List (Option (Arguments×List Stmt×Scope×Value)))=dH.map (λp=>some (aR (top p.2),aF (top p.2),ag (top p.2),.none)):=congrArg Prod.fst FK;have dH0:∀i {n:Str} {t:Nat},dH[i]? = some (n,t)->Df K mg n (top t):=λi _ _ e=>Hd.df_of X G (Hd.at_map H0 i e);have q_1:=congrArg Prod.snd FK;have q_2:=congrArg Prod.fst q_1;have H1:(fk.map (λp=>Hd.fnFactD K p.1):List (Option (Arguments×List Stmt×Scope×List V)))=fk.map (λp=>some (aR (top p.2.1),aF (top p.2.1),ag (top p.2.1),p.2.2)):=congrArg Prod.fst q_2;have q_3:=congrArg Prod.snd q_2;have H2:(rV.all (Hd.excFact K):Bool)=true:=congrArg Prod.fst q_3;have eO:∀i {x:Str},rV[i]? = some x->uG K mg x (Hd.cls K x):=λi _ e=>Hd.exc_of X G (Hd.at_all H2 i e);have q_4:=congrArg Prod.snd q_3;have H3:(hNo.all (Hd.noFact K):Bool)=true:=congrArg Prod.fst q_4;have zN:∀i {x:Str},hNo[i]? = some x->mg x=none:=λi _ e=>W.mg_none_of X G (Hd.no_of (Hd.at_all H3 i e));have q_5:=congrArg Prod.snd q_4;have H4:(p8.map (λp=>Hd.tupFact K p.1):List (Option (List V)))=p8.map (λp=>some p.2):=congrArg Prod.fst q_5;have q_6:=congrArg Prod.snd q_5;have H5:(sO.all (Hd.ownFact K):Bool)=true:=congrArg Prod.fst q_6;have H6:(hMt.map (λp=>Hd.mtFact K p.1 p.2.1 p.2.2.1):List (Option (Arguments×List Stmt×Scope×Value)))=hMt.map (λp=>some (aR p.2.2.2,aF p.2.2.2,ag p.2.2.2,.none)):=congrArg Prod.snd q_6;have q_7:=congrArg Prod.snd q_1;have H7:(sX K:List (Option (Option V)))=qW w:=congrArg Prod.fst q_7;have q_8:=congrArg Prod.snd q_7;have H8:(sW K:List (Option (Option Value)))=qV w:=congrArg Prod.fst q_8;have q_9:=congrArg Prod.snd q_8;have H9:(sV K:List (Option Bool))=qU w:=congrArg Prod.fst q_9;have q_10:=congrArg Prod.snd q_9;have H10:(sU K:List (Bool))=qT w:=congrArg Prod.fst q_10;have H11:(sT K:List (Option (List (Int×Str×List V))))=qS w:=congrArg Prod.snd q_10;have wD:Ap K mg "nearest" (top 142) [.str "on"]:=Hd.dfd_of X G (Hd.at_map H1 0 rfl);have xB:Ap K mg "midst" (top 144) [.str "on"]:=Hd.dfd_of X G (Hd.at_map H1 1 rfl);have vx:=eO 0 (x:="LeashError") rfl;have uI:=eO 1 (x:="NoName") rfl;have vw:=eO 2 (x:="Twice") rfl;have va:=eO 3 (x:="NoLine") rfl;have uT:=eO 4 (x:="TooMany") rfl;have v6:=eO 5 (x:="NoSquare") rfl;have vb:=eO 6 (x:="NoDeed") rfl;have uA:=eO 7 (x:="NoRow") rfl;have uU:=eO 8 (x:="NoLines") rfl;have uD:=eO 9 (x:="NoText") rfl;have T:Txt mg:=⟨zN 0 rfl,zN 1 rfl,zN 2 rfl,zN 3 rfl,zN 4 rfl,zN 5 rfl,zN 6 rfl,zN 7 rfl,zN 8 rfl,zN 9 rfl,zN 10 rfl,zN 11 rfl,zN 12 rfl,zN 13 rfl,zN 14 rfl⟩;obtain⟨Av,od_WAYS,its_WAYS,n_WAYS,sl_WAYS,Ar,Aq,zh⟩:=Hd.tup_of (Hd.at_map H4 0 rfl);obtain⟨zY,od_DEEDS,its_DEEDS,n_DEEDS,sl_DEEDS,zV,zU,yx⟩:=Hd.tup_of (Hd.at_map H4 1 rfl);have yT:(W.nsIn K mainGlobals "LARGEST").map (λo=>o.map Hd.bareV)=some (some (.int 999999999999)):=Hd.at_two H7 0 rfl rfl;have wV:(W.nsIn K mainGlobals "MOST_CORNERS").map (λo=>o.map Hd.bareV)=some (some (.int 10)):=Hd.at_two H7 1 rfl rfl;have xq:(W.nsIn K mainGlobals "MOST_LINES").map (λo=>o.map Hd.bareV)=some (some (.int 6)):=Hd.at_two H7 2 rfl rfl;have wT:(W.nsIn K mainGlobals "MOST_LETTERS").map (λo=>o.map Hd.bareV)=some (some (.int 8)):=Hd.at_two H7 3 rfl rfl;have yS:(W.nsIn K mainGlobals "LETTERS").map (λo=>o.map Hd.bareV)=some (some (.str (Str.ofString "abcdefghijklmnopqrstuvwxyz"))):=Hd.at_two H7 4 rfl rfl;have yR:(W.nsIn K mainGlobals "NOTHING").map (λo=>o.map Hd.bareV)=some (some (.str (Str.ofString "none"))):=Hd.at_two H7 5 rfl rfl;have yU:(W.nsIn K mainGlobals "FIGURES").map (λo=>o.map Hd.bareV)=some (some (.str (Str.ofString "0123456789"))):=Hd.at_two H7 6 rfl rfl;have wU:(W.nsIn K mainGlobals "MOST_FIGURES").map (λo=>o.map Hd.bareV)=some (some (.int 1000)):=Hd.at_two H7 7 rfl rfl;have sa_Book:W.findIn K (.ref (Hd.cls K "Book")) "__setattr__" = some (some (.builtin "object.__setattr__")):=Hd.at_two H8 0 rfl rfl;have n_kept:W.findIn K (.ref (Hd.cls K "Book")) "kept" = some none:=Hd.at_two H8 1 rfl rfl;have n_earlier:W.findIn K (.ref (Hd.cls K "Book")) "earlier" = some none:=Hd.at_two H8 2 rfl rfl;have DG:W.nsIn K cStatics "sys.int_max_str_digits" = some none:=Hd.at_two H8 3 rfl rfl;have zE:W.exmOne K (.ref (Hd.cls K "NoName")) (.ref (Hd.cls K "LeashError"))=some true:=Hd.exmR_one (Hd.at_two H9 0 rfl rfl);have yF:W.kitOne K (.ref (Hd.cls K "NoName")) (.type "ValueError")=some true:=Hd.kitT_one (Hd.at_two H9 1 rfl rfl);have i_NoName_NoName:W.kitOne K (.ref (Hd.cls K "NoName")) (.ref (Hd.cls K "NoName"))=some true:=Hd.kitR_one (Hd.at_two H9 2 rfl rfl);have i_NoName_Twice:W.kitOne K (.ref (Hd.cls K "NoName")) (.ref (Hd.cls K "Twice"))=some false:=Hd.kitR_one (Hd.at_two H9 3 rfl rfl);have i_NoName_NoLine:W.kitOne K (.ref (Hd.cls K "NoName")) (.ref (Hd.cls K "NoLine"))=some false:=Hd.kitR_one (Hd.at_two H9 4 rfl rfl)
 have i_NoName_TooMany:W.kitOne K (.ref (Hd.cls K "NoName")) (.ref (Hd.cls K "TooMany"))=some false:=Hd.kitR_one (Hd.at_two H9 5 rfl rfl);have i_NoName_NoSquare:W.kitOne K (.ref (Hd.cls K "NoName")) (.ref (Hd.cls K "NoSquare"))=some false:=Hd.kitR_one (Hd.at_two H9 6 rfl rfl);have i_NoName_NoDeed:W.kitOne K (.ref (Hd.cls K "NoName")) (.ref (Hd.cls K "NoDeed"))=some false:=Hd.kitR_one (Hd.at_two H9 7 rfl rfl);have i_NoName_NoRow:W.kitOne K (.ref (Hd.cls K "NoName")) (.ref (Hd.cls K "NoRow"))=some false:=Hd.kitR_one (Hd.at_two H9 8 rfl rfl);have i_NoName_NoLines:W.kitOne K (.ref (Hd.cls K "NoName")) (.ref (Hd.cls K "NoLines"))=some false:=Hd.kitR_one (Hd.at_two H9 9 rfl rfl);have z4:W.exmOne K (.ref (Hd.cls K "Twice")) (.ref (Hd.cls K "LeashError"))=some true:=Hd.exmR_one (Hd.at_two H9 10 rfl rfl);have zH:W.kitOne K (.ref (Hd.cls K "Twice")) (.type "ValueError")=some true:=Hd.kitT_one (Hd.at_two H9 11 rfl rfl);have i_Twice_NoName:W.kitOne K (.ref (Hd.cls K "Twice")) (.ref (Hd.cls K "NoName"))=some false:=Hd.kitR_one (Hd.at_two H9 12 rfl rfl);have i_Twice_Twice:W.kitOne K (.ref (Hd.cls K "Twice")) (.ref (Hd.cls K "Twice"))=some true:=Hd.kitR_one (Hd.at_two H9 13 rfl rfl);have i_Twice_NoLine:W.kitOne K (.ref (Hd.cls K "Twice")) (.ref (Hd.cls K "NoLine"))=some false:=Hd.kitR_one (Hd.at_two H9 14 rfl rfl);have i_Twice_TooMany:W.kitOne K (.ref (Hd.cls K "Twice")) (.ref (Hd.cls K "TooMany"))=some false:=Hd.kitR_one (Hd.at_two H9 15 rfl rfl);have i_Twice_NoSquare:W.kitOne K (.ref (Hd.cls K "Twice")) (.ref (Hd.cls K "NoSquare"))=some false:=Hd.kitR_one (Hd.at_two H9 16 rfl rfl);have i_Twice_NoDeed:W.kitOne K (.ref (Hd.cls K "Twice")) (.ref (Hd.cls K "NoDeed"))=some false:=Hd.kitR_one (Hd.at_two H9 17 rfl rfl);have i_Twice_NoRow:W.kitOne K (.ref (Hd.cls K "Twice")) (.ref (Hd.cls K "NoRow"))=some false:=Hd.kitR_one (Hd.at_two H9 18 rfl rfl);have i_Twice_NoLines:W.kitOne K (.ref (Hd.cls K "Twice")) (.ref (Hd.cls K "NoLines"))=some false:=Hd.kitR_one (Hd.at_two H9 19 rfl rfl);have zF:W.exmOne K (.ref (Hd.cls K "NoLine")) (.ref (Hd.cls K "LeashError"))=some true:=Hd.exmR_one (Hd.at_two H9 20 rfl rfl);have yG:W.kitOne K (.ref (Hd.cls K "NoLine")) (.type "ValueError")=some true:=Hd.kitT_one (Hd.at_two H9 21 rfl rfl);have i_NoLine_NoName:W.kitOne K (.ref (Hd.cls K "NoLine")) (.ref (Hd.cls K "NoName"))=some false:=Hd.kitR_one (Hd.at_two H9 22 rfl rfl);have i_NoLine_Twice:W.kitOne K (.ref (Hd.cls K "NoLine")) (.ref (Hd.cls K "Twice"))=some false:=Hd.kitR_one (Hd.at_two H9 23 rfl rfl);have i_NoLine_NoLine:W.kitOne K (.ref (Hd.cls K "NoLine")) (.ref (Hd.cls K "NoLine"))=some true:=Hd.kitR_one (Hd.at_two H9 24 rfl rfl);have i_NoLine_TooMany:W.kitOne K (.ref (Hd.cls K "NoLine")) (.ref (Hd.cls K "TooMany"))=some false:=Hd.kitR_one (Hd.at_two H9 25 rfl rfl);have i_NoLine_NoSquare:W.kitOne K (.ref (Hd.cls K "NoLine")) (.ref (Hd.cls K "NoSquare"))=some false:=Hd.kitR_one (Hd.at_two H9 26 rfl rfl);have i_NoLine_NoDeed:W.kitOne K (.ref (Hd.cls K "NoLine")) (.ref (Hd.cls K "NoDeed"))=some false:=Hd.kitR_one (Hd.at_two H9 27 rfl rfl);have i_NoLine_NoRow:W.kitOne K (.ref (Hd.cls K "NoLine")) (.ref (Hd.cls K "NoRow"))=some false:=Hd.kitR_one (Hd.at_two H9 28 rfl rfl);have i_NoLine_NoLines:W.kitOne K (.ref (Hd.cls K "NoLine")) (.ref (Hd.cls K "NoLines"))=some false:=Hd.kitR_one (Hd.at_two H9 29 rfl rfl);have yD:W.exmOne K (.ref (Hd.cls K "TooMany")) (.ref (Hd.cls K "LeashError"))=some true:=Hd.exmR_one (Hd.at_two H9 30 rfl rfl);have xZ:W.kitOne K (.ref (Hd.cls K "TooMany")) (.type "ValueError")=some true:=Hd.kitT_one (Hd.at_two H9 31 rfl rfl);have i_TooMany_NoName:W.kitOne K (.ref (Hd.cls K "TooMany")) (.ref (Hd.cls K "NoName"))=some false:=Hd.kitR_one (Hd.at_two H9 32 rfl rfl);have i_TooMany_Twice:W.kitOne K (.ref (Hd.cls K "TooMany")) (.ref (Hd.cls K "Twice"))=some false:=Hd.kitR_one (Hd.at_two H9 33 rfl rfl);have i_TooMany_NoLine:W.kitOne K (.ref (Hd.cls K "TooMany")) (.ref (Hd.cls K "NoLine"))=some false:=Hd.kitR_one (Hd.at_two H9 34 rfl rfl);have i_TooMany_TooMany:W.kitOne K (.ref (Hd.cls K "TooMany")) (.ref (Hd.cls K "TooMany"))=some true:=Hd.kitR_one (Hd.at_two H9 35 rfl rfl);have i_TooMany_NoSquare:W.kitOne K (.ref (Hd.cls K "TooMany")) (.ref (Hd.cls K "NoSquare"))=some false:=Hd.kitR_one (Hd.at_two H9 36 rfl rfl);have i_TooMany_NoDeed:W.kitOne K (.ref (Hd.cls K "TooMany")) (.ref (Hd.cls K "NoDeed"))=some false:=Hd.kitR_one (Hd.at_two H9 37 rfl rfl);have i_TooMany_NoRow:W.kitOne K (.ref (Hd.cls K "TooMany")) (.ref (Hd.cls K "NoRow"))=some false:=Hd.kitR_one (Hd.at_two H9 38 rfl rfl);have i_TooMany_NoLines:W.kitOne K (.ref (Hd.cls K "TooMany")) (.ref (Hd.cls K "NoLines"))=some false:=Hd.kitR_one (Hd.at_two H9 39 rfl rfl)
 have zG:W.exmOne K (.ref (Hd.cls K "NoDeed")) (.ref (Hd.cls K "LeashError"))=some true:=Hd.exmR_one (Hd.at_two H9 40 rfl rfl);have yH:W.kitOne K (.ref (Hd.cls K "NoDeed")) (.type "ValueError")=some true:=Hd.kitT_one (Hd.at_two H9 41 rfl rfl);have i_NoDeed_NoName:W.kitOne K (.ref (Hd.cls K "NoDeed")) (.ref (Hd.cls K "NoName"))=some false:=Hd.kitR_one (Hd.at_two H9 42 rfl rfl);have i_NoDeed_Twice:W.kitOne K (.ref (Hd.cls K "NoDeed")) (.ref (Hd.cls K "Twice"))=some false:=Hd.kitR_one (Hd.at_two H9 43 rfl rfl);have i_NoDeed_NoLine:W.kitOne K (.ref (Hd.cls K "NoDeed")) (.ref (Hd.cls K "NoLine"))=some false:=Hd.kitR_one (Hd.at_two H9 44 rfl rfl);have i_NoDeed_TooMany:W.kitOne K (.ref (Hd.cls K "NoDeed")) (.ref (Hd.cls K "TooMany"))=some false:=Hd.kitR_one (Hd.at_two H9 45 rfl rfl);have i_NoDeed_NoSquare:W.kitOne K (.ref (Hd.cls K "NoDeed")) (.ref (Hd.cls K "NoSquare"))=some false:=Hd.kitR_one (Hd.at_two H9 46 rfl rfl);have i_NoDeed_NoDeed:W.kitOne K (.ref (Hd.cls K "NoDeed")) (.ref (Hd.cls K "NoDeed"))=some true:=Hd.kitR_one (Hd.at_two H9 47 rfl rfl);have i_NoDeed_NoRow:W.kitOne K (.ref (Hd.cls K "NoDeed")) (.ref (Hd.cls K "NoRow"))=some false:=Hd.kitR_one (Hd.at_two H9 48 rfl rfl);have i_NoDeed_NoLines:W.kitOne K (.ref (Hd.cls K "NoDeed")) (.ref (Hd.cls K "NoLines"))=some false:=Hd.kitR_one (Hd.at_two H9 49 rfl rfl);have yE:W.exmOne K (.ref (Hd.cls K "NoLines")) (.ref (Hd.cls K "LeashError"))=some true:=Hd.exmR_one (Hd.at_two H9 50 rfl rfl);have x8:W.kitOne K (.ref (Hd.cls K "NoLines")) (.type "ValueError")=some true:=Hd.kitT_one (Hd.at_two H9 51 rfl rfl);have i_NoLines_NoName:W.kitOne K (.ref (Hd.cls K "NoLines")) (.ref (Hd.cls K "NoName"))=some false:=Hd.kitR_one (Hd.at_two H9 52 rfl rfl);have i_NoLines_Twice:W.kitOne K (.ref (Hd.cls K "NoLines")) (.ref (Hd.cls K "Twice"))=some false:=Hd.kitR_one (Hd.at_two H9 53 rfl rfl);have i_NoLines_NoLine:W.kitOne K (.ref (Hd.cls K "NoLines")) (.ref (Hd.cls K "NoLine"))=some false:=Hd.kitR_one (Hd.at_two H9 54 rfl rfl);have i_NoLines_TooMany:W.kitOne K (.ref (Hd.cls K "NoLines")) (.ref (Hd.cls K "TooMany"))=some false:=Hd.kitR_one (Hd.at_two H9 55 rfl rfl);have i_NoLines_NoSquare:W.kitOne K (.ref (Hd.cls K "NoLines")) (.ref (Hd.cls K "NoSquare"))=some false:=Hd.kitR_one (Hd.at_two H9 56 rfl rfl);have i_NoLines_NoDeed:W.kitOne K (.ref (Hd.cls K "NoLines")) (.ref (Hd.cls K "NoDeed"))=some false:=Hd.kitR_one (Hd.at_two H9 57 rfl rfl);have i_NoLines_NoRow:W.kitOne K (.ref (Hd.cls K "NoLines")) (.ref (Hd.cls K "NoRow"))=some false:=Hd.kitR_one (Hd.at_two H9 58 rfl rfl);have i_NoLines_NoLines:W.kitOne K (.ref (Hd.cls K "NoLines")) (.ref (Hd.cls K "NoLines"))=some true:=Hd.kitR_one (Hd.at_two H9 59 rfl rfl);have Aa:W.exmOne K (.ref (Hd.cls K "NoRow")) (.ref (Hd.cls K "LeashError"))=some true:=Hd.exmR_one (Hd.at_two H9 60 rfl rfl);have zI:W.kitOne K (.ref (Hd.cls K "NoRow")) (.type "ValueError")=some true:=Hd.kitT_one (Hd.at_two H9 61 rfl rfl);have i_NoRow_NoName:W.kitOne K (.ref (Hd.cls K "NoRow")) (.ref (Hd.cls K "NoName"))=some false:=Hd.kitR_one (Hd.at_two H9 62 rfl rfl);have i_NoRow_Twice:W.kitOne K (.ref (Hd.cls K "NoRow")) (.ref (Hd.cls K "Twice"))=some false:=Hd.kitR_one (Hd.at_two H9 63 rfl rfl);have i_NoRow_NoLine:W.kitOne K (.ref (Hd.cls K "NoRow")) (.ref (Hd.cls K "NoLine"))=some false:=Hd.kitR_one (Hd.at_two H9 64 rfl rfl);have i_NoRow_TooMany:W.kitOne K (.ref (Hd.cls K "NoRow")) (.ref (Hd.cls K "TooMany"))=some false:=Hd.kitR_one (Hd.at_two H9 65 rfl rfl);have i_NoRow_NoSquare:W.kitOne K (.ref (Hd.cls K "NoRow")) (.ref (Hd.cls K "NoSquare"))=some false:=Hd.kitR_one (Hd.at_two H9 66 rfl rfl);have i_NoRow_NoDeed:W.kitOne K (.ref (Hd.cls K "NoRow")) (.ref (Hd.cls K "NoDeed"))=some false:=Hd.kitR_one (Hd.at_two H9 67 rfl rfl);have i_NoRow_NoRow:W.kitOne K (.ref (Hd.cls K "NoRow")) (.ref (Hd.cls K "NoRow"))=some true:=Hd.kitR_one (Hd.at_two H9 68 rfl rfl);have i_NoRow_NoLines:W.kitOne K (.ref (Hd.cls K "NoRow")) (.ref (Hd.cls K "NoLines"))=some false:=Hd.kitR_one (Hd.at_two H9 69 rfl rfl);have xm7:W.exmOne K (.ref (Hd.cls K "NoRow")) (.ref (Hd.cls K "NoText"))=some false:=Hd.exmR_one (Hd.at_two H9 70 rfl rfl);have yO:W.findIn K (.ref (Hd.cls K "NoName")) "__getattribute__" = some (some (.builtin "BaseException.__getattribute__")):=Hd.findR_eq (Hd.fE_ga K) (Hd.at_two H10 0 rfl rfl);have yL:W.findIn K (.ref (Hd.cls K "NoName")) "__getattr__" = some none:=Hd.findR_eq (Hd.fE_gn K) (Hd.at_two H10 1 rfl rfl);have yI:W.findIn K (.ref (Hd.cls K "NoName")) "__class__" = some (some (.builtin "object.__class__")):=Hd.findR_eq (Hd.fE_cl K) (Hd.at_two H10 2 rfl rfl);have zO:W.findIn K (.ref (Hd.cls K "Twice")) "__getattribute__" = some (some (.builtin "BaseException.__getattribute__")):=Hd.findR_eq (Hd.fE_ga K) (Hd.at_two H10 3 rfl rfl)
 have zL:W.findIn K (.ref (Hd.cls K "Twice")) "__getattr__" = some none:=Hd.findR_eq (Hd.fE_gn K) (Hd.at_two H10 4 rfl rfl);have zJ:W.findIn K (.ref (Hd.cls K "Twice")) "__class__" = some (some (.builtin "object.__class__")):=Hd.findR_eq (Hd.fE_cl K) (Hd.at_two H10 5 rfl rfl);have yP:W.findIn K (.ref (Hd.cls K "NoLine")) "__getattribute__" = some (some (.builtin "BaseException.__getattribute__")):=Hd.findR_eq (Hd.fE_ga K) (Hd.at_two H10 6 rfl rfl);have yM:W.findIn K (.ref (Hd.cls K "NoLine")) "__getattr__" = some none:=Hd.findR_eq (Hd.fE_gn K) (Hd.at_two H10 7 rfl rfl);have yJ:W.findIn K (.ref (Hd.cls K "NoLine")) "__class__" = some (some (.builtin "object.__class__")):=Hd.findR_eq (Hd.fE_cl K) (Hd.at_two H10 8 rfl rfl);have yd:W.findIn K (.ref (Hd.cls K "TooMany")) "__getattribute__" = some (some (.builtin "BaseException.__getattribute__")):=Hd.findR_eq (Hd.fE_ga K) (Hd.at_two H10 9 rfl rfl);have yb:W.findIn K (.ref (Hd.cls K "TooMany")) "__getattr__" = some none:=Hd.findR_eq (Hd.fE_gn K) (Hd.at_two H10 10 rfl rfl);have x9:W.findIn K (.ref (Hd.cls K "TooMany")) "__class__" = some (some (.builtin "object.__class__")):=Hd.findR_eq (Hd.fE_cl K) (Hd.at_two H10 11 rfl rfl);have yQ:W.findIn K (.ref (Hd.cls K "NoDeed")) "__getattribute__" = some (some (.builtin "BaseException.__getattribute__")):=Hd.findR_eq (Hd.fE_ga K) (Hd.at_two H10 12 rfl rfl);have yN:W.findIn K (.ref (Hd.cls K "NoDeed")) "__getattr__" = some none:=Hd.findR_eq (Hd.fE_gn K) (Hd.at_two H10 13 rfl rfl);have yK:W.findIn K (.ref (Hd.cls K "NoDeed")) "__class__" = some (some (.builtin "object.__class__")):=Hd.findR_eq (Hd.fE_cl K) (Hd.at_two H10 14 rfl rfl);have ye:W.findIn K (.ref (Hd.cls K "NoLines")) "__getattribute__" = some (some (.builtin "BaseException.__getattribute__")):=Hd.findR_eq (Hd.fE_ga K) (Hd.at_two H10 15 rfl rfl);have yc:W.findIn K (.ref (Hd.cls K "NoLines")) "__getattr__" = some none:=Hd.findR_eq (Hd.fE_gn K) (Hd.at_two H10 16 rfl rfl);have ya:W.findIn K (.ref (Hd.cls K "NoLines")) "__class__" = some (some (.builtin "object.__class__")):=Hd.findR_eq (Hd.fE_cl K) (Hd.at_two H10 17 rfl rfl);have zP:W.findIn K (.ref (Hd.cls K "NoRow")) "__getattribute__" = some (some (.builtin "BaseException.__getattribute__")):=Hd.findR_eq (Hd.fE_ga K) (Hd.at_two H10 18 rfl rfl);have zM:W.findIn K (.ref (Hd.cls K "NoRow")) "__getattr__" = some none:=Hd.findR_eq (Hd.fE_gn K) (Hd.at_two H10 19 rfl rfl);have zK:W.findIn K (.ref (Hd.cls K "NoRow")) "__class__" = some (some (.builtin "object.__class__")):=Hd.findR_eq (Hd.fE_cl K) (Hd.at_two H10 20 rfl rfl);have fF:Hd.dictFact K "FORMS" = some [(hashStr w (Str.ofString "put"),Str.ofString "put",[V.str (Str.ofString "name"),V.str (Str.ofString "corner")]),(hashStr w (Str.ofString "strike"),Str.ofString "strike",[V.str (Str.ofString "name")]),(hashStr w (Str.ofString "turn"),Str.ofString "turn",[V.str (Str.ofString "name")]),(hashStr w (Str.ofString "thin"),Str.ofString "thin",[V.str (Str.ofString "name"),V.str (Str.ofString "square")]),(hashStr w (Str.ofString "back"),Str.ofString "back",[]),(hashStr w (Str.ofString "line"),Str.ofString "line",[V.str (Str.ofString "name")]),(hashStr w (Str.ofString "leash"),Str.ofString "leash",[V.str (Str.ofString "name"),V.str (Str.ofString "name"),V.str (Str.ofString "way")]),(hashStr w (Str.ofString "walk"),Str.ofString "walk",[V.str (Str.ofString "name"),V.str (Str.ofString "name"),V.str (Str.ofString "way")]),(hashStr w (Str.ofString "fence"),Str.ofString "fence",[V.str (Str.ofString "name"),V.str (Str.ofString "name"),V.str (Str.ofString "way")]),(hashStr w (Str.ofString "near"),Str.ofString "near",[V.str (Str.ofString "name"),V.str (Str.ofString "way")]),(hashStr w (Str.ofString "midst"),Str.ofString "midst",[V.str (Str.ofString "way")]),(hashStr w (Str.ofString "names"),Str.ofString "names",[])]:=Hd.at_two H11 0 rfl rfl;have uo:u6 K mg "Book" (Hd.cls K "Book"):=Hd.own_of X G (Hd.at_all H5 0 rfl) sa_Book;have vj:vX K (Hd.cls K "Book") "__init__" "Book.__init__" (aH 183 0):=Hd.dfm_of (Hd.at_map H6 0 rfl);have u3:vX K (Hd.cls K "Book") "change_to" "Book.change_to" (aH 183 1):=Hd.dfm_of (Hd.at_map H6 1 rfl);have uL:vX K (Hd.cls K "Book") "change_line" "Book.change_line" (aH 183 2):=Hd.dfm_of (Hd.at_map H6 2 rfl);have vD:vX K (Hd.cls K "Book") "names" "Book.names" (aH 183 3):=Hd.dfm_of (Hd.at_map H6 3 rfl);have vU:vX K (Hd.cls K "Book") "line" "Book.line" (aH 183 4):=Hd.dfm_of (Hd.at_map H6 4 rfl);have wf:vX K (Hd.cls K "Book") "put" "Book.put" (aH 183 5):=Hd.dfm_of (Hd.at_map H6 5 rfl);have vi:vX K (Hd.cls K "Book") "strike" "Book.strike" (aH 183 6):=Hd.dfm_of (Hd.at_map H6 6 rfl);have vR:vX K (Hd.cls K "Book") "turn" "Book.turn" (aH 183 7):=Hd.dfm_of (Hd.at_map H6 7 rfl);have vS:vX K (Hd.cls K "Book") "thin" "Book.thin" (aH 183 8):=Hd.dfm_of (Hd.at_map H6 8 rfl);have vV:vX K (Hd.cls K "Book") "back" "Book.back" (aH 183 9):=Hd.dfm_of (Hd.at_map H6 9 rfl)
 have vd:vX K (Hd.cls K "Book") "do_deed" "Book.do_deed" (aH 183 10):=Hd.dfm_of (Hd.at_map H6 10 rfl);have uZ:vX K (Hd.cls K "Book") "tell_near" "Book.tell_near" (aH 183 12):=Hd.dfm_of (Hd.at_map H6 11 rfl);have uP:vX K (Hd.cls K "Book") "tell_midst" "Book.tell_midst" (aH 183 13):=Hd.dfm_of (Hd.at_map H6 12 rfl);have u4:vX K (Hd.cls K "Book") "answer_to" "Book.answer_to" (aH 183 14):=Hd.dfm_of (Hd.at_map H6 13 rfl);have vT:vX K (Hd.cls K "Book") "said" "Book.said" (aH 183 15):=Hd.dfm_of (Hd.at_map H6 14 rfl);refine rN h hfa λbase=>?_;have wd:Wd K mg (clK K) (Hd.cls K "LeashError") [Hd.cls K "NoName",Hd.cls K "Twice",Hd.cls K "NoLine",Hd.cls K "TooMany",Hd.cls K "NoSquare",Hd.cls K "NoDeed",Hd.cls K "NoRow",Hd.cls K "NoLines"]:=by
  refine⟨λc hc=>?_,λc hc=>?_,λc hc=>?_,λc hc j D hD=>?_,λc hc=>?_⟩ <;> rcases oY hc with rfl|rfl|rfl|rfl|rfl|rfl|rfl
  ·exact⟨_,uI⟩
  ·exact⟨_,vw⟩
  ·exact⟨_,va⟩
  ·exact⟨_,uT⟩
  ·exact⟨_,vb⟩
  ·exact⟨_,uU⟩
  ·exact⟨_,uA⟩
  ·exact⟨yO,yL,yI⟩
  ·exact⟨zO,zL,zJ⟩
  ·exact⟨yP,yM,yJ⟩
  ·exact⟨yd,yb,x9⟩
  ·exact⟨yQ,yN,yK⟩
  ·exact⟨ye,yc,ya⟩
  ·exact⟨zP,zM,zK⟩
  ·exact yF
  ·exact zH
  ·exact yG
  ·exact xZ
  ·exact yH
  ·exact x8
  ·exact zI
  ·match j,hD with
   | 0,hD=>exact(Option.some.inj hD)▸i_NoName_NoName
   | 1,hD=>exact(Option.some.inj hD)▸i_NoName_Twice
   | 2,hD=>exact(Option.some.inj hD)▸i_NoName_NoLine
   | 3,hD=>exact(Option.some.inj hD)▸i_NoName_TooMany
   | 4,hD=>exact(Option.some.inj hD)▸i_NoName_NoSquare
   | 5,hD=>exact(Option.some.inj hD)▸i_NoName_NoDeed
   | 6,hD=>exact(Option.some.inj hD)▸i_NoName_NoRow
   | 7,hD=>exact(Option.some.inj hD)▸i_NoName_NoLines
   | j+8,hD=>exact absurd hD (by simp)
  ·match j,hD with
   | 0,hD=>exact(Option.some.inj hD)▸i_Twice_NoName
   | 1,hD=>exact(Option.some.inj hD)▸i_Twice_Twice
   | 2,hD=>exact(Option.some.inj hD)▸i_Twice_NoLine
   | 3,hD=>exact(Option.some.inj hD)▸i_Twice_TooMany
   | 4,hD=>exact(Option.some.inj hD)▸i_Twice_NoSquare
   | 5,hD=>exact(Option.some.inj hD)▸i_Twice_NoDeed
   | 6,hD=>exact(Option.some.inj hD)▸i_Twice_NoRow
   | 7,hD=>exact(Option.some.inj hD)▸i_Twice_NoLines
   | j+8,hD=>exact absurd hD (by simp)
  ·match j,hD with
   | 0,hD=>exact(Option.some.inj hD)▸i_NoLine_NoName
   | 1,hD=>exact(Option.some.inj hD)▸i_NoLine_Twice
   | 2,hD=>exact(Option.some.inj hD)▸i_NoLine_NoLine
   | 3,hD=>exact(Option.some.inj hD)▸i_NoLine_TooMany
   | 4,hD=>exact(Option.some.inj hD)▸i_NoLine_NoSquare
   | 5,hD=>exact(Option.some.inj hD)▸i_NoLine_NoDeed
   | 6,hD=>exact(Option.some.inj hD)▸i_NoLine_NoRow
   | 7,hD=>exact(Option.some.inj hD)▸i_NoLine_NoLines
   | j+8,hD=>exact absurd hD (by simp)
  ·match j,hD with
   | 0,hD=>exact(Option.some.inj hD)▸i_TooMany_NoName
   | 1,hD=>exact(Option.some.inj hD)▸i_TooMany_Twice
   | 2,hD=>exact(Option.some.inj hD)▸i_TooMany_NoLine
   | 3,hD=>exact(Option.some.inj hD)▸i_TooMany_TooMany
   | 4,hD=>exact(Option.some.inj hD)▸i_TooMany_NoSquare
   | 5,hD=>exact(Option.some.inj hD)▸i_TooMany_NoDeed
   | 6,hD=>exact(Option.some.inj hD)▸i_TooMany_NoRow
   | 7,hD=>exact(Option.some.inj hD)▸i_TooMany_NoLines
   | j+8,hD=>exact absurd hD (by simp)
  ·match j,hD with
   | 0,hD=>exact(Option.some.inj hD)▸i_NoDeed_NoName
   | 1,hD=>exact(Option.some.inj hD)▸i_NoDeed_Twice
   | 2,hD=>exact(Option.some.inj hD)▸i_NoDeed_NoLine
   | 3,hD=>exact(Option.some.inj hD)▸i_NoDeed_TooMany
   | 4,hD=>exact(Option.some.inj hD)▸i_NoDeed_NoSquare
   | 5,hD=>exact(Option.some.inj hD)▸i_NoDeed_NoDeed
   | 6,hD=>exact(Option.some.inj hD)▸i_NoDeed_NoRow
   | 7,hD=>exact(Option.some.inj hD)▸i_NoDeed_NoLines
   | j+8,hD=>exact absurd hD (by simp)
  ·match j,hD with
   | 0,hD=>exact(Option.some.inj hD)▸i_NoLines_NoName
   | 1,hD=>exact(Option.some.inj hD)▸i_NoLines_Twice
   | 2,hD=>exact(Option.some.inj hD)▸i_NoLines_NoLine
   | 3,hD=>exact(Option.some.inj hD)▸i_NoLines_TooMany
   | 4,hD=>exact(Option.some.inj hD)▸i_NoLines_NoSquare
   | 5,hD=>exact(Option.some.inj hD)▸i_NoLines_NoDeed
   | 6,hD=>exact(Option.some.inj hD)▸i_NoLines_NoRow
   | 7,hD=>exact(Option.some.inj hD)▸i_NoLines_NoLines
   | j+8,hD=>exact absurd hD (by simp)
  ·match j,hD with
   | 0,hD=>exact(Option.some.inj hD)▸i_NoRow_NoName
   | 1,hD=>exact(Option.some.inj hD)▸i_NoRow_Twice
   | 2,hD=>exact(Option.some.inj hD)▸i_NoRow_NoLine
   | 3,hD=>exact(Option.some.inj hD)▸i_NoRow_TooMany
   | 4,hD=>exact(Option.some.inj hD)▸i_NoRow_NoSquare
   | 5,hD=>exact(Option.some.inj hD)▸i_NoRow_NoDeed
   | 6,hD=>exact(Option.some.inj hD)▸i_NoRow_NoRow
   | 7,hD=>exact(Option.some.inj hD)▸i_NoRow_NoLines
   | j+8,hD=>exact absurd hD (by simp)
  ·exact zE
  ·exact z4
  ·exact zF
  ·exact yD
  ·exact zG
  ·exact yE
  ·exact Aa
 obtain⟨pF,kvs,vW,dkF,gsF,gnF⟩:=(Hd.dict_of (P:=P) (w:=w) X G (rows:=eA w) fF jo mw).ex;have FF:FD P w K pF:=⟨kvs,dkF,(λk f h=>gsF k _ (by rw[di,h];rfl)),λk h=>gnF k (by rw[di,h];rfl)⟩;have hW:∀H,SqT K H Av (bX.map V.str):=λH=>SqT.mod Aq rfl (Hd.vals_sz zh (by decide)) zh;have hD:∀H,SqT K H zY (jR.map V.str):=λH=>SqT.mod zU rfl (Hd.vals_sz yx (by decide)) yx;have iV_v_WAYS:=W.mg_of X G Ar;have uJ:=jw (P:=P) (w:=w) (base:=base) (dH0 0 rfl) T;have uV:=dJ (P:=P) (w:=w) (base:=base) (dH0 1 rfl) T;have we:=jy (dH0 2 rfl) uJ uV T;have vC:=jx (dH0 3 rfl) (Hd.int_of X G yT) uJ;have vM:=iB (dH0 4 rfl) vC T;have wA:=kJ (dH0 5 rfl) (Hd.int_of X G wV) vM T;have wz:=kH (dH0 6 rfl) va wA;have vL:=iA (P:=P) (w:=w) (base:=base) (dH0 24 rfl);have vg:=fP (dH0 25 rfl) vL T;have vy:=gf (P:=P) (w:=w) (base:=base) (dH0 9 rfl) DG T;have uF:=gh (P:=P) (w:=w) (base:=base) (dH0 11 rfl) uD DG (Hd.str_of X G yU) (Hd.int_of X G wU) T;have vA:=gi (dH0 12 rfl) uD we vy uF T;have vH:=iw (P:=P) (w:=w) (base:=base) (dH0 13 rfl) uD T;have vf:=fN (dH0 14 rfl) vH uF;have u9:=kI (P:=P) (w:=w) (base:=base) (dH0 21 rfl) (Hd.str_of X G yS) (Hd.str_of X G yR) (Hd.int_of X G wT) T;have u5:=fR (P:=P) (w:=w) (base:=base) vj uo n_kept n_earlier T;have uv:=dN (P:=P) (w:=w) (base:=base) u3 uo n_kept n_earlier T;have uu:=gk (P:=P) (w:=w) (base:=base) vD uo n_kept n_earlier T;have ut:=iF vU (cl:=clK K) uo n_kept n_earlier uI u9 T;have vQ:=iG (P:=P) (w:=w) (base:=base) vV (cl:=clK K) uo n_kept n_earlier vb T;have uK:=cP uL uo n_kept n_earlier uv T;have vh:=fQ vi (cl:=clK K) uo n_kept n_earlier uv ut T;have vN:=iC vR (cl:=clK K) uo n_kept n_earlier ut uK T;have uX:=jz wf (cl:=clK K) uo n_kept n_earlier (Hd.int_of X G xq) uI vw uT u9 uu wz uv T;have wC:=kK (P:=P) (w:=w) (base:=base) (dH0 15 rfl) vW FF T;have ve:=fM (dH0 16 rfl) (cl:=clK K) uA vA T;have v9:=jr (P:=P) (w:=w) (base:=base) (dH0 17 rfl) (cl:=clK K) uA iV_v_WAYS hW T;have vJ:=iy (dH0 18 rfl) (cl:=clK K) vf ve v9 T;have vz:=gg (dH0 19 rfl) (cl:=clK K) uD uA xm7 vJ T;have wa:=js (dH0 20 rfl) (cl:=clK K) uA vW FF wC vz T;have uy:=cX (P:=P) (w:=w) (base:=base) (dH0 23 rfl);have uN:=cY (P:=P) (w:=w) (base:=base) (dH0 22 rfl);have vI:=ix (P:=P) (w:=w) (base:=base) (dH0 10 rfl);have uH:=fO (P:=P) (w:=w) (base:=base) (dH0 7 rfl) iV_v_WAYS hW T;have uB:=eB (P:=P) (w:=w) (base:=base) (dH0 8 rfl) (cl:=clK K) uU T;have wx:=kG wD (cl:=clK K) uH uB T;have xw:=oW xB (cl:=clK K) uH uB T;have vc:=eY vd (cl:=clK K) uo uX vh vN vQ T;have vO:=iD vS (cl:=clK K) uo ut T;have uW:=dM uZ (cl:=clK K) uo ut uu wx uy T;have uO:=cZ uP (cl:=clK K) uo uu xw uy T;have uY:=dO u4 (cl:=clK K) uo vO ut uW uO uN vI T;have vP:=iE vT (cl:=clK K) uo (W.mg_of X G zV) hD wa vc uY T;have wb:=jt (P:=P) (w:=w) (base:=base) (dH0 26 rfl) (cl:=clK K) uI vw va uT v6 vb uA uU wd T;have ux:=ju (dH0 29 rfl) (cl:=clK K) uo vx wd vP wb T;have vB:=gj (P:=P) (w:=w) (base:=base) (dH0 27 rfl) T;have vK:=iz (P:=P) (w:=w) (base:=base) (dH0 28 rfl) T;have wc:=jv (dH0 30 rfl) uo uu ux T;exact rW (dH0 31 rfl) (cl:=clK K) uo u5 uX uu ut vg vB vK ux wc T
end K65
end
open PySem PySem.W PyProof.Rows
lay_quick Challenge.pw_oneleash_k65_rows_refused
set_option maxRecDepth 100000 in
set_option maxHeartbeats 0 in
theorem PySem.Challenge.cw_oneleash_k65_rows_refused_holds : PySem.Challenge.rw_oneleash_k65_rows_refused.Holds := by
 w_on;o_law
 refine holds_open (q:=K65.hView) (loose:=K65.hLoose) (Xt:=fun _=>true) (XP:=fun _ _=>True) (Yf:=Hook.obs (Hd.hookV K65.hFacts K65.hGood)) (Ya:=Hook.val (Hd.hookV K65.hFacts K65.hGood)) (YP:=Hook.says (Hd.hookV K65.hFacts K65.hGood)) (N:=100000) K65.hLeft (Hook.of _) (Hook.keeps _) (fun _ _=>trivial) (fun _ _ _ _ _=>trivial) (by rfl) (by rfl) (by rfl) (fun _ _=>recFacts_nil rfl) (by rfl) (by first|assumption|decide +kernel) (by decide +kernel) ⟨rfl,rfl,rfl,rfl,rfl,by decide +kernel⟩ ?hw ?hc
 case hw=>w_witness2
 exact Hd.law_walkV (l:=Challenge.rw_oneleash_k65_rows_refused) (k:=12) ⟨rfl,by decide,by decide,rfl⟩ rfl rfl fun K w FK mg fa h KX G hmg=>K65.all_of FK KX G hmg
