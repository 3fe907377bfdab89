import PyProof.Rows.All
import Wide.All
import OpenK.AllK
import Wide.FinOn
import Lean
import PyProof.EqAt
import PyProof.EqKinds
import PyProof.TupleCall
import PyProof.ExcArgsOwn
import KE.KTryMore
import PyProof.NsDelKeeps
import PyProof.ConsumeWalk
import PyProof.ZipIter
import PyProof.WalksEnum
import PyProof.EnumMake
import PyProof.NeKinds
import PyProof.CompMap
import PyProof.DictWalks
import KE.KLam
import KE.KRevIter
import PyProof.ListRange
import PyProof.AttrMissHeap
import KE.KDictOf
import PyProof.ReprRoads
import PyProof.CallStr
import PySem.Challenge.RW_oneleash_k26_part_gone_or_fenced
local macro_rules | `(tactic| omega)=>`(tactic| lia)
local syntax "§" "§§" : term
local syntax "¶" "§§" : term
local syntax "#" "§§" : term
local syntax "^" : term
local syntax "%" : term
local macro:max "~" : term => `(by omega)
local macro "~" : tactic => `(tactic| omega)
local macro:max "&" : term => `(by decide)
local macro "#" t:term : tactic => `(tactic| exact $t)
local syntax (name := l7) ("?" <|> "§" <|> "¶") term,+ : tactic
@[local macro l7] def l7m : Lean.Macro := fun s => do
  let l ← s[1].getSepArgs.foldlM (fun r t => do
    let u ← `(_)
    let v ← `(rfl)
    return r ++ (match t[0].getAtomVal with | "^" => #[u, v] | "%" => #[u, u, v, v] | _ => #[⟨t⟩])) #[]
  match s[0].getAtomVal ++ s[0][0].getAtomVal with
  | "?" => `(tactic| refine ⟨$l,*, ?_⟩)
  | "§" => `(tactic| exact ⟨$l,*⟩)
  | _ => `(tactic| refine ⟨$l,*⟩)
open Lean.Parser.Tactic in
local macro "@" p:sepBy1(rcasesPatLo,",") ":=" t:term : tactic => `(tactic| obtain ⟨$p,*⟩ := $t)
local macro "!" d:Lean.Parser.Term.letDecl : tactic => `(tactic| have $d:letDecl)
local macro "¤" n:Lean.Parser.Command.declId s:Lean.Parser.Command.declSig v:Lean.Parser.Command.declVal : command => `(command| theorem $n $s:declSig $v:declVal)
local macro "¦" n:Lean.Parser.Command.declId s:Lean.Parser.Command.optDeclSig v:Lean.Parser.Command.declVal : command => `(command| noncomputable def $n $s:optDeclSig $v:declVal)
local macro:max "®" n:num : term => do let x := Lean.mkIdent; `($(x `ax) $(x `ap) ($(x `pv) $n) $(x `af) (fun _ _ => rfl))
local macro "¢" f:term:max x:term:max : term => do let y := Lean.mkIdent; `($(y `aH) $f ($(y `hr.mono) (by decide)) (by rfl) $x)
local macro "£" i:num y:ident x:term:max : term => `($(Lean.mkIdent `aA) (i:=$i) $(Lean.mkIdent (y.getId ++ `nd)) rfl (Or.inl rfl) $x)
local macro:max "©" n:num : term => `($(Lean.mkIdent `pv) $n)
section
set_option Elab.async false
set_option linter.all false
set_option maxRecDepth 100000
namespace L2
open PySem PySem.Spec PyProof.Rows
noncomputable abbrev Key:=Sum Int Str
¦mZ:Key->Value->Bool
 | .inl k,v=>Value.isInt k v
 | .inr x,v=>Value.isStrOf x v
¦C6(w:World):Key->Int
 | .inl k=>hashInt k
 | .inr x=>hashStr w x
¤cM:∀{k:Key} {v:Value},mZ k v=true->(∃i t,k=Sum.inl i/\v=Value.int i t)\/(∃x t,k=Sum.inr x/\v=Value.str x t)
 | .inl i,v,h=>by
  @t,e:=Value.isInt_shape (k:=i) (v:=v) h;#.inl ⟨i,t,rfl,e⟩
 | .inr x,v,h=>by
  @t,e:=Value.isStrOf_shape (x:=x) (v:=v) h;#.inr ⟨x,t,rfl,e⟩
¤uw(i:Int)(t:Tok):mZ (.inl i) (.int i t)=true:=by simp[mZ,Value.isInt]
¤ut(x:Str)(t:Tok):mZ (.inr x) (.str x t)=true:=by simp[mZ,Value.isStrOf]
¤AA(a b:Int):decide ((Sum.inl a:Key)=Sum.inl b)=(a == b):=by
 by_cases e:a=b
 ·subst e;simp
 ·!h:¬(Sum.inl a:Key)=Sum.inl b:=λq=>e (Sum.inl.inj q)
  rw[decide_eq_false h];#(beq_eq_false_iff_ne.mpr e).symm
¤Ax(a b:Str):decide ((Sum.inr a:Key)=Sum.inr b)=decide (a=b):=by
 by_cases e:a=b
 ·subst e;simp
 ·!h:¬(Sum.inr a:Key)=Sum.inr b:=λq=>e (Sum.inr.inj q)
  rw[decide_eq_false h,decide_eq_false e]
¤Az(a:Int)(b:Str):decide ((Sum.inl a:Key)=Sum.inr b)=false:=decide_eq_false (λq=>nomatch q)
¤Ay(a:Str)(b:Int):decide ((Sum.inr a:Key)=Sum.inl b)=false:=decide_eq_false (λq=>nomatch q)
¦da(prog:Program)(w:World):PySem.KeyKind prog w Key where
 is:=mZ
 hash:=C6 w
 inj:=λv a b ha hb=>by
  rcases cM ha with⟨i,t,rfl,rfl⟩|⟨x,t,rfl,rfl⟩
  ·rcases cM hb with⟨j,u,rfl,e⟩|⟨y,u,rfl,e⟩
   ·injection e with e1 _;rw[e1]
   ·#nomatch e
  ·rcases cM hb with⟨j,u,rfl,e⟩|⟨y,u,rfl,e⟩
   ·#nomatch e
   ·injection e with e1 _;rw[e1]
 byValue:=λk v h=>by
  rcases cM h with⟨i,t,rfl,rfl⟩|⟨x,t,rfl,rfl⟩ <;> rfl
 pyHash:=λhv h=>by
  rcases cM hv with⟨i,t,rfl,rfl⟩|⟨x,t,rfl,rfl⟩
  ·#wpAny_pyHash_int h
  ·#wpAny_pyHash_str h
 eqBool:=λhu hv h=>by
  rcases cM hu with⟨i,t,rfl,rfl⟩|⟨x,t,rfl,rfl⟩
  ·rcases cM hv with⟨j,u,rfl,rfl⟩|⟨y,u,rfl,rfl⟩
   ·rw[AA]at h;#wpAny_eqBool_int h
   ·rw[Az]at h;#SeqAt.EqAt.int_str i t y u _ _ _ _ h
  ·rcases cM hv with⟨j,u,rfl,rfl⟩|⟨y,u,rfl,rfl⟩
   ·rw[Ay]at h;#SeqAt.EqAt.str_int x t j u _ _ _ _ h
   ·rw[Ax]at h;#wpAny_eqBool_str h
 «strs»:=λk x t v h=>by
  rcases cM h with⟨i,u,rfl,e⟩|⟨y,u,rfl,e⟩
  ·#nomatch e
  ·injection e with e1 _
   subst e1;cases v <;> rfl
¤pL(prog:Program)(w:World)(i:Int)(t:Tok):(da prog w).is (.inl i) (.int i t)=true:=uw i t
¤pJ(prog:Program)(w:World)(x:Str)(t:Tok):(da prog w).is (.inr x) (.str x t)=true:=ut x t
inductive V where
 | non|bl (b:Bool)|int (i:Int)|str (x:Str)|byt (b:Array UInt8)|flt (b:UInt64)|ref (a:Addr)|ty (n:String)
 deriving DecidableEq
¦bz:V->Value->Prop
 | .non,u=>u=Value.none
 | .bl b,u=>u=Value.bool b
 | .int i,u=>∃t,u=Value.int i t
 | .str x,u=>∃t,u=Value.str x t
 | .byt b,u=>∃t,u=Value.bytes b t
 | .flt b,u=>∃t,u=Value.float b t
 | .ref a,u=>u=Value.ref a
 | .ty n,u=>u=Value.type n
noncomputable abbrev aZ:List V->List Value->Prop:=Paired bz
¤aZ.length{xs:List V}{us:List Value}(r:aZ xs us):xs.length=us.length:=Paired.length r
¤aZ.get:∀{xs:List V} {us:List Value} {i:Nat} {x:V},aZ xs us->xs[i]? = some x->∃u,us[i]? = some u/\bz x u
 | _,_,_,_,.nil,e=>by simp at e
 | _,_,0,_,.cons r _,e=>by simp at e;subst e;§^,r
 | _,_,i+1,x,.cons _ t,e=>by
  @u,h1,h2:=aZ.get (i:=i) (x:=x) t (by simpa using e);§u,by simpa using h1,h2
¤aZ.set{x:V}{u:Value}(r:bz x u):∀{xs:List V} {us:List Value} (i:Nat),aZ xs us->aZ (xs.set i x) (us.set i u)
 | _,_,_,.nil=>.nil
 | _,_,0,.cons _ t=>.cons r t
 | _,_,i+1,.cons q t=>.cons q (aZ.set r i t)
¤aZ.append:∀{xs ys:List V} {us ws:List Value},aZ xs us->aZ ys ws->aZ (xs++ys) (us++ws)
 | _,_,_,_,.nil,s=>s
 | _,_,_,_,.cons r t,s=>.cons r (aZ.append t s)
¤aZ.take:∀{xs:List V} {us:List Value} (n:Nat),aZ xs us->aZ (xs.take n) (us.take n)
 | _,_,0,_=>.nil
 | _,_,_+1,.nil=>.nil
 | _,_,n+1,.cons r t=>.cons r (aZ.take n t)
¤aZ.drop:∀{xs:List V} {us:List Value} (n:Nat),aZ xs us->aZ (xs.drop n) (us.drop n)
 | _,_,0,r=>r
 | _,_,_+1,.nil=>.nil
 | _,_,n+1,.cons _ t=>aZ.drop n t
¦jE:Option V->Option Value->Prop
 | some v,some u=>bz v u
 | none,none=>True
 | _,_=>False
¦KV{κ:Type}:List (κ×V)->List (κ×Value)->Prop:=Paired λ(p:κ×V) (q:κ×Value)=>p.1=q.1/\bz p.2 q.2
¦kV:Key->V
 | .inl i=>.int i
 | .inr x=>.str x
inductive HO where
 /-- a list -/
 | lst (xs:List V)
 /-- a tuple (never changes) -/
 | tup (xs:List V)
 /-- a dict whose keys are ints and texts;one whose keys are tuples of ints and texts (the empty one is both) -/
 | dK (kvs:List (Key×V))|dT (kvs:List (List Key×V))
 /-- a set of ints: its members,its size -/
 | set (S:Int->Bool) (n:Nat)
 /-- an instance of the class at C,its dict at dx,its attributes -/
 | ins (C dx:Addr) (fs:List (Str×V))
 /-- the dict of the instance at x -/
 | own (x:Addr)
 /-- the dict of an exception -/
 | xd (fs:List (Str×V))
 /-- a bound method,f of x -/
 | met (f x:Addr)
 /-- a range object lo,lo+1,.. zG hi -/
 | rng (lo hi:Int)
 /-- a thing that is known to the object (the script;a dict while a loop walks it): read,never written while it is so -/
 | frz (o:Obj) (u:HO)
 /-- a code object's table -/
 | tbl (ps:Array Value)
 /-- any other thing,by what is true of its one object (a def of one's own: SetO a S n:=HO.ext λh=>..) -/
 | ext (φ:Heap->Prop)
noncomputable abbrev Hp:=Addr->Option HO
¦upd(H:Hp)(a:Addr)(o:HO):Hp:=λb=>if b=a then some o else H b
¤upd_same{H:Hp}{a:Addr}{o:HO}:upd H a o a=some o:=by unfold upd;rw[if_pos rfl]
¤aR{H:Hp}{a b:Addr}{o:HO}(h:b≠a):upd H a o b=H b:=by unfold upd;rw[if_neg h]
¤vO{H:Hp}{a b:Addr}{o u:HO}(h:H a=some o)(h':H b=some u)(d:o≠u):a≠b:=by
 intro e;subst e;rw[h]at h';#d (Option.some.inj h')
¤a6{H:Hp}{a b:Addr}{o:HO}(h:H a=some o)(h':H b=none):a≠b:=by
 intro e;subst e;rw[h]at h';cases h'
section
variable (P:Program) (w:World)
¦cf(H:Hp)(h:Heap)(a:Addr):HO->Prop
 | .lst xs=>xs.length<=sizeLine/\∃(its:List Value) (n:Nat),aZ xs its/\h.get? a=some { cls:=.type "list",data:=.seq its.toArray n }
 | .tup xs=>xs.length<=sizeLine/\∃its:List Value,aZ xs its/\IsTup h a its.toArray
 | .dK kvs=>kvs.length<=sizeLine/\(a == sysModules)=false/\∃vs,KV kvs vs/\h.DictOf (da P w) a vs
 | .dT kvs=>kvs.length<=sizeLine/\(a == sysModules)=false/\∃xs:List (List Key×Addr×Value),
   Paired (λ(p:List Key×V) (q:List Key×Addr×Value)=>p.1=q.1/\H q.2.1=some (.tup (p.1.map kV))/\bz p.2 q.2.2) kvs xs /\
   ∃o es ep,h.get? a=some o/\o.ExactDict/\o.data = .dict es ep/\es.toList=xs.map (entryOfKey (tupleKind (da P w)))/\(xs.map (·.1)).Nodup
 | .set S n=>h.SetOf (intKind P w) a S n
 | .ins C dx fs=>H dx=some (.own a)/\fs.length<=1000/\dx≠a/\h.get? a=some (W.instObj C dx) /\
   ∃mA,h.Ns1 dx mA/\(∀f,jE (fs.lookup f) (mA f))/\PySem.Within mA (fs.map (·.1))
 | .own _=>∃o,h.get? a=some o
 | .xd fs=>∃mA,h.Ns1 a mA/\∀f,jE (fs.lookup f) (mA f)
 | .rng lo hi=>∃t u v,h.get? a=some { cls:=.type "range",data:=.fields #[.int lo t,.int hi u,.int 1 v] }
 | .frz o u=>h.get? a=some o/\cf H h a u
 | .tbl ps=>h.get? a=some { cls:=.none,data:=.fields ps }
 | .met f x=>h.get? a=some (W.methodObj (.ref f) (.ref x))
 | .ext φ=>φ h/\(∃o,h.get? a=some o)/\∀h1 h2:Heap,φ h1->(∀o,h1.get? a=some o->h2.get? a=some o)->φ h2
¦HOk(H:Hp)(h:Heap):Prop:=∀a o,H a=some o->cf P w H h a o
end
section
variable {P:Program} {w:World} {H H':Hp} {h h':Heap} {a:Addr} {o:HO}
¤cf.lt(x:cf P w H h a o):a<h.objs.size:=by
 cases o with
 | lst xs=>@_,_,_,_,e:=x;#Heap.lt_size e
 | tup xs=>@_,_,_,p:=x;#p.lt
 | dK kvs=>@_,_,_,_,o,_,_,e,_:=x;#Heap.lt_size e
 | dT kvs=>@_,_,_,_,o,_,_,e,_:=x;#Heap.lt_size e
 | set S n=>@o,_,_,_,e,_:=x;#Heap.lt_size e
 | ins C dx fs=>@_,_,_,e,_:=x;#Heap.lt_size e
 | own y=>@_,e:=x;#Heap.lt_size e
 | xd fs=>@_,⟨_,_,_,e,_⟩,_:=x;#Heap.lt_size e
 | rng lo hi=>@_,_,_,e:=x;#Heap.lt_size e
 | frz ob u=>@e,_:=x;#Heap.lt_size e
 | tbl ps=>#Heap.lt_size (show h.get? a=some _ from x)
 | met f y=>#Heap.lt_size (show h.get? a=some _ from x)
 | ext φ=>@_,⟨_,e⟩,_:=x;#Heap.lt_size e
¤Paired.mapP{α β:Type}{F G:α->β->Prop}:∀{l1:List α} {l₂:List β},Paired F l1 l₂->(∀a b,F a b->G a b)->Paired G l1 l₂
 | _,_,.nil,_=>.nil
 | _,_,.cons r t,f=>.cons (f _ _ r) (Paired.mapP t f)
¤cf.stay(x:cf P w H h a o)(k:∀b u,(b=a\/H b=some (.own a))->h.get? b=some u->h'.get? b=some u)
  (ho:∀b,H b=some (.own a)->H' b=some (.own a)) (ht:∀b xs,H b=some (.tup xs)->H' b=some (.tup xs)):cf P w H' h' a o:=by
 induction o with
 | lst xs=>@z,its,n,r,e:=x;§z,its,n,r,k _ _ (.inl rfl) e
 | tup xs=>@z,its,r,ob,e,c:=x;§z,its,r,ob,k _ _ (.inl rfl) e,c
 | dK kvs=>@z,y,vs,r,ob,es,ep,e,c:=x;§z,y,vs,r,ob,es,ep,k _ _ (.inl rfl) e,c
 | dT kvs =>
  @z,y,xs,r,ob,es,ep,e,c:=x;§z,y,xs,Paired.mapP r λp q z=>⟨z.1,ht _ _ z.2.1,z.2.2⟩,ob,es,ep,k _ _ (.inl rfl) e,c
 | set S n=>@ob,es,ep,t,e,c:=x;§ob,es,ep,t,k _ _ (.inl rfl) e,c
 | ins C dx fs =>
  @d,z,ne,e,mA,⟨od,es,ep,e2,c⟩,r:=x;§ho _ d,z,ne,k _ _ (.inl rfl) e,mA,⟨od,es,ep,k _ _ (.inr d) e2,c⟩,r
 | own y=>@ob,e:=x;§ob,k _ _ (.inl rfl) e
 | xd fs=>@mA,⟨od,es,ep,e,c⟩,r:=x;§mA,⟨od,es,ep,k _ _ (.inl rfl) e,c⟩,r
 | rng lo hi=>@t,u,v,e:=x;§t,u,v,k _ _ (.inl rfl) e
 | frz ob u ih=>@e,q:=x;§k _ _ (.inl rfl) e,ih q
 | tbl ps =>
  !e:h.get? a=some { cls:=.none,data:=.fields ps }:=x;show h'.get? a=some { cls:=.none,data:=.fields ps };#k a _ (.inl rfl) e
 | met f y =>
  !e:h.get? a=some (W.methodObj (.ref f) (.ref y)):=x;show h'.get? a=some (W.methodObj (.ref f) (.ref y));#k a _ (.inl rfl) e
 | ext φ=>@p,⟨o,e⟩,st:=x;§st _ _ p λo q=>k _ _ (.inl rfl) q,⟨o,k _ _ (.inl rfl) e⟩,st
¤HOk.lt(x:HOk P w H h)(e:H a=some o):a<h.objs.size:=(x a o e).lt
¤HOk.fresh(x:HOk P w H h)(e:h.objs.size<=a):H a=none:=by
 cases q:H a with
 | none=>rfl
 | some u=>#absurd (Nat.lt_of_lt_of_le (x.lt q) e) (Nat.lt_irrefl _)
¤HOk.kept(x:HOk P w H h)(k:∀b u,h.get? b=some u->h'.get? b=some u):HOk P w H h':=λa o e =>
 (x a o e).stay (λb u _ q=>k b u q) (λ_ q=>q) λ_ _ q=>q
¤HOk.laid(x:HOk P w H h)(k:∀b u,h.get? b=some u->h'.get? b=some u)(hp:h.objs.size<=a)(new:cf P w (upd H a o) h' a o):HOk P w (upd H a o) h':=λb u e=>by
 !hn:=x.fresh hp
 by_cases hb:b=a
 ·subst hb;rw[upd_same]at e;cases e;#new
 ·rw[aR hb]at e
  #(x b u e).stay (λc v _ q=>k c v q) (λc q=>by rw[aR (a6 q hn)];#q) λc xs q=>by rw[aR (a6 q hn)];#q
end
¦Rd(H:Hp)(a:Addr)(u:HO):Prop:=H a=some u\/∃o,H a=some (.frz o u)
¤Rd.ok{P:Program}{w:World}{H:Hp}{h:Heap}{a:Addr}{u:HO}(r:Rd H a u)(x:HOk P w H h):cf P w H h a u:=by
 rcases r with r|⟨o,r⟩
 ·#x a u r
 ·@_,q:=x a _ r
  #q
¦Mut:Option HO->Prop
 | some (.lst _)=>True
 | some (.dK _)=>True
 | some (.dT _)=>True
 | some (.set _ _)=>True
 | some (.ins _ _ _)=>True
 | some (.ext _)=>True
 | _=>False
section
variable {P:Program} {w:World} {H:Hp} {h h':Heap} {x e:Addr} {o':HO}
¤HOk.write(ok:HOk P w H h)(mu:Mut (H x))(he:e=x\/H e=some (.own x))(k:∀b u,b≠e->h.get? b=some u->h'.get? b=some u)(heo:∃u,h'.get? e=some u)
  (new:cf P w (upd H x o') h' x o'):HOk P w (upd H x o') h':=λb u q=>by
 !nown:∀c y,H c=some (.own y)->c≠x:=λc y r z=>by subst z;rw[r]at mu;#mu
 !ntup:∀c xs,H c=some (.tup xs)->c≠x:=λc xs r z=>by subst z;rw[r]at mu;#mu
 by_cases hb:b=x
 ·subst hb;rw[upd_same]at q;cases q;#new
 ·rw[aR hb]at q
  by_cases hbe:b=e
  ·!q':H b=some (.own x):=by
    rcases he with z|z
    ·#absurd (hbe.trans z) hb
    ·rw[hbe];#z
   rw[q]at q';cases q';@v,hv:=heo;§v,(by rw[hbe];#hv)
  ·refine(ok b u q).stay (λc v hc r=>k c v ?_ r) (λc r=>by rw[aR (nown c b r)];#r) λc xs r=>by rw[aR (ntup c xs r)];#r
   rcases hc with rfl|hc
   ·#hbe
   ·rintro rfl
    rcases he with z|z
    ·#nown c b hc z
    ·rw[hc]at z;cases z;#hb rfl
end
structure Un(fs ex:List Addr)(H H':Hp)(h h':Heap):Prop where
 keep:∀b o,h.get? b=some o->H b=none->b∉fs->b∉ex->h'.get? b=some o
 slot:∀b o,h.get? b=some o->H b=none->b∈fs->b∉ex->∃sl,h'.get? b=some { o with slots:=sl }
 free:∀b o,h.get? b=some o->H b=none->b∉ex->H' b=none
 there:∀b o,h.get? b=some o->b∉ex->∃o',h'.get? b=some o'
 tups:∀b xs,H b=some (.tup xs)->H' b=some (.tup xs)
 frzs:∀b o u,H b=some (.frz o u)->H' b=some (.frz o u)
 tbls:∀b ps,H b=some (.tbl ps)->∃more,H' b=some (.tbl (ps++more))
section
variable {fs fs' ex ex':List Addr} {H H1 H2:Hp} {h h1 h2 h':Heap} {a x e:Addr} {o:HO}
¤Un.any(u:Un fs ex H H1 h h1){b:Addr}{ob:Obj}(q:h.get? b=some ob)(n:H b=none)(hx:b∉ex):∃sl,h1.get? b=some { ob with slots:=sl }:=by
 by_cases hb:b∈fs
 ·#u.slot b ob q n hb hx
 ·§ob.slots,u.keep b ob q n hb hx
¤Un.kept(k:∀b u,h.get? b=some u->h'.get? b=some u):Un fs ex H H h h' :=
 ⟨λb ob q _ _ _=>k b ob q,λb ob q _ _ _=>⟨ob.slots,k b ob q⟩,λ_ _ _ n _=>n,λb ob q _=>⟨ob,k b ob q⟩,λ_ _ q=>q,λ_ _ _ q=>q,λ_ ps q=>⟨#[],by rw[q];simp⟩⟩
¤Un.refl:Un fs ex H H h h:=Un.kept λ_ _ q=>q
¤Un.laid(k:∀b u,h.get? b=some u->h'.get? b=some u)(hp:h.objs.size<=a)(hn:H a=none):Un fs ex H (upd H a o) h h' where
 keep:=λb u q _ _ _=>k b u q
 slot:=λb u q _ _ _=>⟨u.slots,k b u q⟩
 free:=λb u q n _=>by rw[aR (Nat.ne_of_lt (Nat.lt_of_lt_of_le (Heap.lt_size q) hp))];#n
 there:=λb u q _=>⟨u,k b u q⟩
 tups:=λb xs q=>by rw[aR (a6 q hn)];#q
 frzs:=λb u xs q=>by rw[aR (a6 q hn)];#q
 tbls:=λb ps q=>⟨#[],by rw[aR (a6 q hn),q];simp⟩
¤Un.write(mu:Mut (H x))(he:e=x\/H e=some (.own x))(k:∀b u,b≠e->h.get? b=some u->h'.get? b=some u)(heo:∃u,h'.get? e=some u):Un fs ex H (upd H x o) h h':=by
 !hx:∀b,H b=none->b≠x:=λb n z=>by subst z;rw[n]at mu;#mu
 !hb:∀b,H b=none->b≠e:=λb n z=>by
  subst z;rcases he with r|r
  ·#hx b n r
  ·rw[n]at r;cases r
 !hm:∀b u,H b=some u->¬Mut (some u)->b≠x:=λb u q nm z=>by subst z;rw[q]at mu;#nm mu
 refine⟨λb u q n _ _=>k b u (hb b n) q,λb u q n _ _=>⟨u.slots,k b u (hb b n) q⟩,λb u q n _=>by rw[aR (hx b n)];#n,λb u q _=>?_,
  λb xs q=>by rw[aR (hm b _ q λz=>z)];#q,λb u xs q=>by rw[aR (hm b _ q λz=>z)];#q,λb ps q=>⟨#[],by rw[aR (hm b _ q λz=>z),q];simp⟩⟩
 by_cases hbe:b=e
 ·subst hbe;#heo
 ·§u,k b u hbe q
end
¦trk(h:Heap)(H:Hp):List Addr:=(List.range h.objs.size).filter λa=>(H a).isSome
¦oo(h:Heap)(H:Hp):Heap:=W.hideAll h (trk h H)
¤uA(h:Heap)(H:Hp):(oo h H).objs.size=h.objs.size:=W.hideAll_size _ _
¤wg{h:Heap}{H:Hp}{b:Addr}{o:Obj}(e:h.get? b=some o)(n:H b=none):(oo h H).get? b=some o :=
 W.hideAll_get _ e λhm=>by
  !q:(H b).isSome=true:=(List.mem_filter.mp hm).2;rw[n]at q;simp at q
¤xX{h:Heap}{H:Hp}{b:Addr}{o:Obj}(e:(oo h H).get? b=some o):h.get? b=some o/\H b=none:=by
 !e':h.get? b=some o:=W.of_hideAll (trk h H) e;?e';cases q:H b with
 | none=>rfl
 | some x =>
  !hm:b∈trk h H:=List.mem_filter.mpr ⟨List.mem_range.mpr (Heap.lt_size e'),by simp[q]⟩;!z:(oo h H).get? b=none:=W.hideAll_none (trk h H) hm;rw[z]at e;cases e
structure Mod(K:W.Frag)(mg:Str->Option Value)(base:Heap):Prop where
 kin:K.In base
 glob:base.Ns mainGlobals mg
 blt:∃mb,base.Ns builtinsNs mb/\∀x:Str,x≠"__name__"->mb x=bootBuiltins x
 nolimit:base.NoLimit
structure Cx where
 prog:Program
 w:World
 K:W.Frag
 mg:Str->Option Value
 base:Heap
 A:Around
 N:List Str
 s₀:Shared
 H₀:Hp
 env:Env
 outer:List Env
 stack:List Env
 ex:List Addr
 fn:Str->Bool
 calm:Bool
 pn:List (Addr×Obj)
 xe:Value->Shared->Prop
¦frs(l:List Env):List Addr:=l.filterMap (·.frame)
noncomputable abbrev Cx.fs(X:Cx):List Addr:=frs X.outer
¦Vis(sc:Scope)(x:Str):Prop:=sc.names.lookup x=some .local\/sc.names.lookup x=some .cell\/sc.names.lookup x=some .free
¦Loc(sc:Scope)(x:Str):Prop:=sc.names.lookup x=some .local\/sc.names.lookup x=some .cell
¦Di(env:Env)(h:Heap)(m:Str->Option Value)(x:Str)(u:Value):Prop :=
 (env.kindOf x=some .local/\m x=some u)\/((env.kindOf x=some .cell\/env.kindOf x=some .free)/\∃c,env.cells.lookup x=some c/\h.IsCell c (some u))
structure Cx.Ok(X:Cx):Prop where
 mod:Mod X.K X.mg X.base
 kind:X.env.scope.kind = .function
 glob:X.env.globals=mainGlobals
 blt:X.env.builtins=builtinsNs
 above:X.s₀.heap.objs.size<=X.env.locals
 inj:∀x y c,X.env.cells.lookup x=some c->X.env.cells.lookup y=some c->x=y
 has:∀x,(X.env.kindOf x=some .cell\/X.env.kindOf x=some .free)->∃c,X.env.cells.lookup x=some c
 cab:∀x c,X.fn x=true->X.env.cells.lookup x=some c->X.s₀.heap.objs.size<=c
 hd:X.calm=true->X.A.handled=none
 frames:X.A.frames=some X.stack
 stk:X.stack=X.outer\/(X.stack=X.env::X.outer/\X.env.frame=some X.env.locals)
 exf:∀b∈X.ex,b≠X.env.locals/\∀x c,X.env.cells.lookup x=some c->c≠b
 bs:∀b o,X.base.get? b=some o->X.s₀.heap.get? b=some o/\X.H₀ b=none
 bsz:X.base.objs.size<=X.s₀.heap.objs.size
 noex:∀b o,X.base.get? b=some o->b∉X.ex
 exfs:∀b∈X.ex,b∉X.fs
 funs:X.s₀.heap.FunFrames X.base X.outer
 frf:∀b∈X.fs,X.H₀ b=none
structure Dn(X:Cx)(pins:List (Addr×Obj))(σ:List (Option V))(H:Hp)(s:Shared):Prop where
 ok:X.Ok
 os:s.os=X.s₀.os
 bare:AllBare s.gens
 base:Un X.fs X.ex X.H₀ H X.s₀.heap s.heap
 loc:∃m,s.heap.Ns X.env.locals m/\∀(i:Nat) (x:Str) (v:V),X.N[i]? = some x->σ[i]? = some (some v)->Vis X.env.scope x->∃u,bz v u/\Di X.env s.heap m x u
 cell:∀x c,X.env.cells.lookup x=some c->∃v,s.heap.IsCell c v
 free:H X.env.locals=none
 freeC:∀x c,X.env.cells.lookup x=some c->H c=none
 pin:∀p∈X.pn++pins,s.heap.get? p.1=some p.2/\H p.1=none/\p.1≠X.env.locals/\p.1∉X.fs/\∀v,p.2.data≠.cell v
 hok:HOk X.prog X.w H s.heap
 len:σ.length=X.N.length
section
variable {X:Cx} {pins:List (Addr×Obj)} {σ:List (Option V)} {H H':Hp} {s:Shared} {h':Heap}
¤Cx.Ok.nofr(ok:X.Ok){b:Addr}{o:Obj}(e:X.base.get? b=some o):b∉X.fs:=λhb=>by
 !:=(ok.funs.mem hb).1;rw[e]at this;cases this
¤Dn.bs(I:Dn X pins σ H s):∀b o,X.base.get? b=some o->s.heap.get? b=some o/\H b=none:=λb o e =>
 ⟨I.base.keep b o (I.ok.bs b o e).1 (I.ok.bs b o e).2 (I.ok.nofr e) (I.ok.noex b o e),I.base.free b o (I.ok.bs b o e).1 (I.ok.bs b o e).2 (I.ok.noex b o e)⟩
¤Dn.bk(I:Dn X pins σ H s):∀b o,X.base.get? b=some o->s.heap.get? b=some o:=λb o e=>(I.bs b o e).1
¤Dn.mod(I:Dn X pins σ H s):Mod X.K X.mg X.base:=I.ok.mod
¤Dn.kIn(I:Dn X pins σ H s):X.K.In s.heap:=I.ok.mod.kin.keeps I.bk
¤Dn.lt(I:Dn X pins σ H s):X.env.locals<s.heap.objs.size:=let ⟨_,hn,_⟩:=I.loc;hn.lt
¤Dn.sz(I:Dn X pins σ H s):X.s₀.heap.objs.size<=s.heap.objs.size:=Nat.le_trans I.ok.above (Nat.le_of_lt I.lt)
¤Dn.nofs(I:Dn X pins σ H s){a:Addr}(h:s.heap.objs.size<=a):a∉X.fs:=λhb=>by
 @_,o,ho,_:=I.ok.funs.mem hb;#absurd (Nat.lt_of_lt_of_le (Heap.lt_size ho) (Nat.le_trans I.sz h)) (Nat.lt_irrefl _)
¤Dn.cne(I:Dn X pins σ H s):∀x c,X.env.cells.lookup x=some c->c≠X.env.locals:=λx c e z=>by
 @v,o,ho,hd:=I.cell x c e;@m,⟨o',es,ep,ho',hd',_⟩,_:=I.loc;rw[z,ho']at ho;cases ho;rw[hd']at hd;cases hd
¤Dn.funs(I:Dn X pins σ H s):s.heap.FunFrames X.base X.outer:=by
 !all:∀(l:List Env),(∀b∈frs l,b∈X.fs)->X.s₀.heap.FunFrames X.base l->s.heap.FunFrames X.base l:=by
  intro l
  induction l with
  | nil=>intro _ _;trivial
  | cons env r ih =>
   intro hs hl;@hk,⟨L,o,hf,hn,ho,hd⟩,hr:=hl;!hL:L∈X.fs:=hs L (by unfold frs;rw[List.filterMap_cons,hf];#List.mem_cons_self);@sl,e:=I.base.slot L o ho (I.ok.frf L hL) hL λz=>I.ok.exfs L z hL;§hk,⟨L,_,hf,hn,e,hd⟩,ih (λb hb=>hs b (by unfold frs;rw[List.filterMap_cons,hf];#List.mem_cons_of_mem _ hb)) hr
 #all X.outer (λ_ hb=>hb) I.ok.funs
¤Dn.stack(I:Dn X pins σ H s):s.heap.FunFrames X.base X.stack:=by
 rcases I.ok.stk with e|⟨e,hf⟩
 ·rw[e];#I.funs
 ·rw[e]
  @m,hn,_:=I.loc;refine .cons (by rw[I.ok.kind];decide) hf hn ?_ I.funs;#Heap.get?_none_of_le (Nat.le_trans I.ok.bsz I.ok.above)
¤Dn.stkSub(I:Dn X pins σ H s):∀b∈frs X.stack,b∈X.env.locals::X.fs:=λb hb=>by
 rcases I.ok.stk with e|⟨e,hf⟩
 ·rw[e]at hb;#List.mem_cons_of_mem _ hb
 ·rw[e]at hb
  unfold frs at hb;rw[List.filterMap_cons,hf]at hb;#hb
¤Dn.stkFree(I:Dn X pins σ H s):∀b∈frs X.stack,H b=none:=λb hb=>by
 rcases List.mem_cons.mp (I.stkSub b hb) with e|hb
 ·rw[e];#I.free
 ·@_,o,ho,_:=I.ok.funs.mem hb
  #I.base.free b o ho (I.ok.frf b hb) λz=>I.ok.exfs b z hb
¤Dn.step{g':Array GenState}{t':Nat}{d':Drawn}{ch:List Addr}(I:Dn X pins σ H s)
  (hch:∀b∈ch,(b∈X.ex\/X.s₀.heap.objs.size<=b)/\b≠X.env.locals/\(∀x c,X.env.cells.lookup x=some c->c≠b)/\∀p∈X.pn++pins,p.1≠b)
  (keep:∀b o,b≠X.env.locals->b∉X.fs->b∉ch->s.heap.get? b=some o->H b=none->h'.get? b=some o)
  (slot:∀b o,b≠X.env.locals->b∈X.fs->b∉ch->s.heap.get? b=some o->H b=none->∃sl,h'.get? b=some { o with slots:=sl }) (free:∀b o,b∉ch->s.heap.get? b=some o->H b=none->H' b=none)
  (there:∀b o,b∉ch->s.heap.get? b=some o->∃o',h'.get? b=some o')
  (tups:∀b xs,H b=some (.tup xs)->H' b=some (.tup xs)) (frzs:∀b o u,H b=some (.frz o u)->H' b=some (.frz o u)) (tbls:∀b ps,H b=some (.tbl ps)->∃more,H' b=some (.tbl (ps++more)))
  (ns:∀m,s.heap.Ns X.env.locals m->h'.Ns X.env.locals m) (hok:HOk X.prog X.w H' h') (hg:AllBare g') :
  Dn X pins σ H' { s with heap:=h',gens:=g',drawn:=d',toks:=t' }:=by
 !neL:∀b o,X.s₀.heap.get? b=some o->b≠X.env.locals:=λb o e=>Nat.ne_of_lt (Nat.lt_of_lt_of_le (Heap.lt_size e) I.ok.above);!neC:∀b o,X.s₀.heap.get? b=some o->b∉X.ex->b∉ch:=λb o e hx hb=>by
  rcases(hch b hb).1 with z|z
  ·#hx z
  ·#absurd (Nat.lt_of_lt_of_le (Heap.lt_size e) z) (Nat.lt_irrefl _)
 !cellK:∀x c,X.env.cells.lookup x=some c->∀v,s.heap.IsCell c v->h'.IsCell c v:=λx c e v ⟨o,ho,hd⟩=>by
  !nch:c∉ch:=λz=>(hch c z).2.2.1 x c e rfl
  by_cases hc:c∈X.fs
  ·@sl,q:=slot c o (I.cne x c e) hc nch ho (I.freeC x c e)
   §_,q,hd
  ·§o,keep c o (I.cne x c e) hc nch ho (I.freeC x c e),hd
 ¶I.ok,I.os,hg,⟨λb o e n hb hx=>?_,λb o e n hb hx=>?_,λb o e n hx=>?_,λb o e hx=>?_,λb xs e=>tups b xs (I.base.tups b xs e),λb o xs e=>frzs b o xs (I.base.frzs b o xs e),λb ps e=>?_⟩,?_,λx c e=>?_,?_,λx c e=>?_,λp hp=>?_,hok,I.len
 ·#keep b o (neL b o e) hb (neC b o e hx) (I.base.keep b o e n hb hx) (I.base.free b o e n hx)
 ·@sl,e1:=I.base.slot b o e n hb hx
  @sl',e2:=slot b _ (neL b o e) hb (neC b o e hx) e1 (I.base.free b o e n hx);§sl',e2
 ·@o',e1:=I.base.there b o e hx
  #free b o' (neC b o e hx) e1 (I.base.free b o e n hx)
 ·@o',e1:=I.base.there b o e hx
  #there b o' (neC b o e hx) e1
 ·@m1,e1:=I.base.tbls b ps e
  @m2,e2:=tbls b _ e1;§m1++m2,(by rw[e2,Array.append_assoc])
 ·@m,hn,hl:=I.loc
  ¶m,ns m hn,λi x v e1 e2 e3=>?_;@u,r,l:=hl i x v e1 e2 e3;?u,r;rcases l with l|⟨k,c,e,z⟩
  ·#.inl l
  ·#.inr ⟨k,c,e,cellK x c e _ z⟩
 ·@v,z:=I.cell x c e
  §v,cellK x c e v z
 ·@m,⟨o,_,_,ho,_⟩,_:=I.loc
  #free _ o (λz=>(hch _ z).2.1 rfl) ho I.free
 ·@v,o,ho,hd:=I.cell x c e
  #free c o (λz=>(hch c z).2.2.1 x c e rfl) ho (I.freeC x c e)
 ·@e,n,ne,nf,d:=I.pin p hp
  !nch:p.1∉ch:=λz=>(hch p.1 z).2.2.2 p hp rfl;§keep p.1 p.2 ne nf nch e n,free p.1 p.2 nch e n,ne,nf,d
¤Dn.un{t':Nat}(I:Dn X pins σ H s)(u:Un X.fs [] H H' s.heap h')(hok:HOk X.prog X.w H' h'):Dn X pins σ H' { s with heap:=h',toks:=t' }:=by
 @m,⟨o,es,ep,ho,r⟩,_:=id I.loc;@sl,hL:=u.any ho I.free (by simp);#I.step (g':=s.gens) (d':=s.drawn) (ch:=[]) (λ_ z=>nomatch z) (λb o _ hb _ e n=>u.keep b o e n hb (by simp)) (λb o _ hb _ e n=>u.slot b o e n hb (by simp)) (λb o _ e n=>u.free b o e n (by simp)) (λb o _ e=>u.there b o e (by simp)) u.tups u.frzs u.tbls (λm' hm=>by
  @o',es',ep',ho',r':=hm;rw[ho]at ho';cases ho';§_,es',ep',hL,r') hok I.bare
¤Dn.call{g':Array GenState}{t':Nat}{d':Drawn}{ch:List Addr}(I:Dn X pins σ H s)(u:Un (frs X.stack) ch H H' s.heap h')(hok:HOk X.prog X.w H' h')(hg:AllBare g')
  (hch:∀b∈ch,(b∈X.ex\/X.s₀.heap.objs.size<=b)/\b≠X.env.locals/\(∀x c,X.env.cells.lookup x=some c->c≠b)/\∀p∈X.pn++pins,p.1≠b) :
  Dn X pins σ H' { s with heap:=h',gens:=g',drawn:=d',toks:=t' }:=by
 @m,⟨o,es,ep,ho,r⟩,_:=id I.loc;@sl,hL:=u.any ho I.free λz=>(hch _ z).2.1 rfl;#I.step (ch:=ch) hch (λb o hL hb hc e n=>u.keep b o e n (λz=>(List.mem_cons.mp (I.stkSub b z)).elim hL hb) hc) (λb o _ _ hc e n=>u.any e n hc) (λb o hc e n=>u.free b o e n hc) (λb o hc e=>u.there b o e hc) u.tups u.frzs u.tbls (λm' hm=>by
  @o',es',ep',ho',r':=hm;rw[ho]at ho';cases ho';§_,es',ep',hL,r') hok hg
¤Dn.turned{t':Nat}{it:Addr}(I:Dn X pins σ H s)(k:∀b o,b≠it->s.heap.get? b=some o->h'.get? b=some o)(hn:H it=none)(hL:it≠X.env.locals)
  (h1:it∈X.ex\/X.s₀.heap.objs.size<=it) (h2:∀x c,X.env.cells.lookup x=some c->c≠it) (h3:∀p∈X.pn++pins,p.1≠it):Dn X pins σ H { s with heap:=h',toks:=t' }:=by
 !nit:∀b u,H b=some u->b≠it:=λb u e z=>by rw[z,hn]at e;cases e
 refine I.step (g':=s.gens) (d':=s.drawn) (ch:=[it]) (λb hb=>?_) (λb o _ _ hc e _=>k b o (λz=>hc (by simp[z])) e) (λb o _ _ hc e _=>⟨o.slots,k b o (λz=>hc (by simp[z])) e⟩) (λ_ _ _ _ n=>n)
  (λb o hc e=>⟨o,k b o (λz=>hc (by simp[z])) e⟩) (λ_ _ e=>e) (λ_ _ _ e=>e) (λb ps e=>⟨#[],by rw[e];simp⟩) (λm hm=>?_) (λb u e=>?_) I.bare
 ·!e:b=it:=by simpa using hb
  subst e;§h1,hL,h2,h3
 ·@o,es,ep,ho,r:=hm
  §o,es,ep,k _ o (Ne.symm hL) ho,r
 ·refine(I.hok b u e).stay (λc v hc q=>k c v ?_ q) (λ_ q=>q) λ_ _ q=>q
  rcases hc with z|z
  ·rw[z];#nit b u e
  ·#nit c _ z
¤Dn.tok(I:Dn X pins σ H s)(t:Nat):Dn X pins σ H { s with toks:=t }:=I.un (h':=s.heap) (t':=t) Un.refl I.hok
¤Dn.kept{t':Nat}(I:Dn X pins σ H s)(k:∀b u,s.heap.get? b=some u->h'.get? b=some u):Dn X pins σ H { s with heap:=h',toks:=t' }:=I.un (Un.kept k) (I.hok.kept k)
¤Dn.laid{a:Addr}{o:HO}{t':Nat}(I:Dn X pins σ H s)(k:∀b u,s.heap.get? b=some u->h'.get? b=some u)(hp:s.heap.objs.size<=a)(new:cf X.prog X.w (upd H a o) h' a o) :
  Dn X pins σ (upd H a o) { s with heap:=h',toks:=t' }:=I.un (Un.laid k hp (I.hok.fresh hp)) (I.hok.laid k hp new)
¤Dn.write{x e:Addr}{o:HO}{t':Nat}(I:Dn X pins σ H s)(mu:Mut (H x))(he:e=x\/H e=some (.own x))(k:∀b u,b≠e->s.heap.get? b=some u->h'.get? b=some u)(heo:∃u,h'.get? e=some u)
  (new:cf X.prog X.w (upd H x o) h' x o):Dn X pins σ (upd H x o) { s with heap:=h',toks:=t' }:=I.un (Un.write mu he k heo) (I.hok.write mu he k heo new)
¤Dn.pins_of{pins':List (Addr×Obj)}(I:Dn X pins σ H s)(h:∀p∈pins',s.heap.get? p.1=some p.2/\H p.1=none/\p.1≠X.env.locals/\p.1∉X.fs/\∀v,p.2.data≠.cell v):Dn X pins' σ H s :=
 ⟨I.ok,I.os,I.bare,I.base,I.loc,I.cell,I.free,I.freeC,λp hp=>(List.mem_append.mp hp).elim (λz=>I.pin p (List.mem_append_left _ z)) (h p),I.hok,I.len⟩
¤pH{N:List Str}(hN:N.Nodup){i j:Nat}{x:Str}(a:N[i]? = some x)(b:N[j]? = some x):i=j:=by
 @h1,e1:=List.getElem?_eq_some_iff.mp a;@h2,e2:=List.getElem?_eq_some_iff.mp b;#(List.getElem_inj hN).mp (e1.trans e2.symm)
¤jd{M:Model}{A:Around}{E:Value->Shared->Prop}{i:Nat}{x:Str}{v:V}{u:Value}{Q:Unit->Shared->Prop}(I:Dn X pins σ H s)(hN:X.N.Nodup)(hi:X.N[i]? = some x)(hx:Loc X.env.scope x)(r:bz v u)
  (h:∀s',Dn X pins (σ.set i (some v)) H s'->(∃a,Heap.SameBut a s.heap s'.heap/\(a=X.env.locals\/X.env.cells.lookup x=some a))->Q () s') (hf:X.fn x=true\/X.env.scope.names.lookup x=some .local:=by first|#.inl rfl|#.inr rfl|assumption):wpAny M A (storeName X.env x u) Q E s:=by
 @m,hn,hl:=id I.loc;!hcls:(X.env.scope.kind == .class || (X.env.scope.kind == .module && X.env.locals != X.env.globals))=false:=by rw[I.ok.kind];rfl
 !hiσ:i<σ.length:=by rw[I.len];#(List.getElem?_eq_some_iff.mp hi).1
 !cne:=I.cne;!tracked:∀{a:Addr} {h':Heap},(∃o,s.heap.get? a=some o/\H a=none)->Heap.SameBut a s.heap h'->HOk X.prog X.w H h':=λ{a h'} ha hs b ob e=>by
  @_,_,hfree:=ha;refine(I.hok b ob e).stay (λc w' hc q=>(hs.2 c ?_).trans q) (λ_ q=>q) λ_ _ q=>q;rintro rfl;rcases hc with rfl|hc
  ·rw[hfree]at e;cases e
  ·rw[hfree]at hc;cases hc
 rcases hx with hk|hk
 ·refine wpAny_storeName_local hk hn (λh' hn' hs=>?_) hcls
  @oL,_,_,hoL,_:=id hn;refine h _ ⟨I.ok,I.os,I.bare,⟨λb o e n hb hx=>?_,λb o e n hb hx=>?_,I.base.free,λb o e hx=>?_,I.base.tups,I.base.frzs,I.base.tbls⟩,⟨_,hn',λj y v' e1 e2 e3=>?_⟩,λy c e=>?_,I.free,I.freeC,λp hp=>?_,tracked ⟨oL,hoL,I.free⟩ hs,by simpa using I.len⟩ ⟨_,hs,.inl rfl⟩
  ·#(hs.2 b (Nat.ne_of_lt (Nat.lt_of_lt_of_le (Heap.lt_size e) I.ok.above))).trans (I.base.keep b o e n hb hx)
  ·@sl,e1:=I.base.slot b o e n hb hx
   §sl,(hs.2 b (Nat.ne_of_lt (Nat.lt_of_lt_of_le (Heap.lt_size e) I.ok.above))).trans e1
  ·@o',e1:=I.base.there b o e hx
   §o',(hs.2 b (Nat.ne_of_lt (Nat.lt_of_lt_of_le (Heap.lt_size e) I.ok.above))).trans e1
  ·by_cases hj:j=i
   ·subst hj
    rw[hi]at e1;cases e1;rw[List.getElem?_set_self hiσ]at e2;cases e2;§u,r,.inl ⟨hk,by simp⟩
   ·rw[List.getElem?_set_ne (Ne.symm hj)]at e2
    @u',r',q:=hl j y v' e1 e2 e3;?u',r';rcases q with⟨k,e⟩|⟨k,c,e,z⟩
    ·refine .inl ⟨k,?_⟩
     !:y≠x:=λe=>hj (pH hN e1 (e▸hi));simp[this,e]
    ·#.inr ⟨k,c,e,z.sameBut hs (cne y c e)⟩
  ·@w',z:=I.cell y c e
   §w',z.sameBut hs (cne y c e)
  ·@e,n,ne,nf,d:=I.pin p hp
   §(hs.2 p.1 ne).trans e,n,ne,nf,d
 ·!hfn:X.fn x=true:=by
   rcases hf with z|z
   ·#z
   ·rw[z]at hk;cases hk
  @c,hc:=I.ok.has x (.inl hk);@w',z:=I.cell x c hc;refine wpAny_storeName_cell I.ok.kind hk hc z (λh' hc' hs=>?_);@oc,hoc,hocd:=id z;refine h { s with heap:=h' } ⟨I.ok,I.os,I.bare,⟨λb o e n hb hx=>?_,λb o e n hb hx=>?_,I.base.free,λb o e hx=>?_,I.base.tups,I.base.frzs,I.base.tbls⟩,⟨m,hn.sameBut hs (Ne.symm (cne x c hc)),λj y v' e1 e2 e3=>?_⟩,λy c' e=>?_,I.free,I.freeC,λp hp=>?_,tracked ⟨oc,hoc,I.freeC x c hc⟩ hs,by simpa using I.len⟩ ⟨c,hs,.inr hc⟩
  ·#(hs.2 b (Nat.ne_of_lt (Nat.lt_of_lt_of_le (Heap.lt_size e) (I.ok.cab x c hfn hc)))).trans (I.base.keep b o e n hb hx)
  ·@sl,e1:=I.base.slot b o e n hb hx
   §sl,(hs.2 b (Nat.ne_of_lt (Nat.lt_of_lt_of_le (Heap.lt_size e) (I.ok.cab x c hfn hc)))).trans e1
  ·@o',e1:=I.base.there b o e hx
   §o',(hs.2 b (Nat.ne_of_lt (Nat.lt_of_lt_of_le (Heap.lt_size e) (I.ok.cab x c hfn hc)))).trans e1
  ·by_cases hj:j=i
   ·subst hj
    rw[hi]at e1;cases e1;rw[List.getElem?_set_self hiσ]at e2;cases e2;§u,r,.inr ⟨.inl hk,c,hc,hc'⟩
   ·rw[List.getElem?_set_ne (Ne.symm hj)]at e2
    @u',r',q:=hl j y v' e1 e2 e3;?u',r';rcases q with q|⟨k,c',e,z'⟩
    ·#.inl q
    ·refine .inr ⟨k,c',e,z'.sameBut hs ?_⟩
     rintro rfl;#hj (pH hN e1 (I.ok.inj _ _ _ e hc▸hi))
  ·by_cases hcc:c'=c
   ·subst hcc;§_,hc'
   ·@w2,z2:=I.cell y c' e
    §w2,z2.sameBut hs hcc
  ·@e,n,ne,nf,d:=I.pin p hp
   ¶(hs.2 p.1 ?_).trans e,n,ne,nf,d;intro q;rw[q,hoc]at e;!q':oc=p.2:=Option.some.inj e;#d w' (by rw[<- q'];#hocd)
¤gs{M:Model}{A:Around}{E:Value->Shared->Prop}{i:Nat}{x:Str}{v:V}{u:Value}{Q:Unit->Shared->Prop}(I:Dn X pins σ H s)(hN:X.N.Nodup)(hi:X.N[i]? = some x)(hx:Loc X.env.scope x)(r:bz v u)
  (h:∀s',Dn X pins (σ.set i (some v)) H s'->Q () s') (hf:X.fn x=true\/X.env.scope.names.lookup x=some .local:=by first|#.inl rfl|#.inr rfl|assumption):wpAny M A (storeName X.env x u) Q E s :=
 jd I hN hi hx r (λs' I' _=>h s' I') hf
¤Dn.call'{s':Shared}{ch:List Addr}(I:Dn X pins σ H s)(ho:s'.os=s.os)(u:Un (frs X.stack) ch H H' s.heap s'.heap)(hok:HOk X.prog X.w H' s'.heap)(hg:AllBare s'.gens)
  (hch:∀b∈ch,(b∈X.ex\/X.s₀.heap.objs.size<=b)/\b≠X.env.locals/\(∀x c,X.env.cells.lookup x=some c->c≠b)/\∀p∈X.pn++pins,p.1≠b):Dn X pins σ H' s':=by
 @h',g',d',t',o':=s';!e:o'=s.os:=ho;subst e;#I.call (g':=g') (t':=t') (d':=d') u hok hg hch
end
noncomputable abbrev XK:=Value->Option Addr->Hp->Prop
noncomputable abbrev St:=List (Option V)
noncomputable abbrev VK:=V->Hp->Prop
noncomputable abbrev TE:=St->Hp->VK->Prop
noncomputable abbrev TT:=St->Hp->(Bool->Hp->Prop)->Prop
noncomputable abbrev TA:=St->Hp->(List V->Hp->Prop)->Prop
structure FS where
 nx:St->Hp->Prop
 rt:VK
 bk:St->Hp->Prop:=λ_ _=>False
 ct:St->Hp->Prop:=λ_ _=>False
noncomputable abbrev TS:=FS->St->Hp->Prop
¦EP(X:Cx)(pins:List (Addr×Obj))(σ:St)(Q:VK)(u:Value)(s':Shared):Prop:=∃v H',Dn X pins σ H' s'/\bz v u/\Q v H'
¦TP(X:Cx)(pins:List (Addr×Obj))(σ:St)(Q:Bool->Hp->Prop)(b:Bool)(s':Shared):Prop:=∃H',Dn X pins σ H' s'/\Q b H'
¦AP(X:Cx)(pins:List (Addr×Obj))(σ:St)(Q:List V->Hp->Prop)(us:List Value)(s':Shared):Prop:=∃vs H',Dn X pins σ H' s'/\aZ vs us/\Q vs H'
¦SP(X:Cx)(pins:List (Addr×Obj))(D:FS)(f:Flow)(s':Shared):Prop :=
 match f with
 | .next=>∃σ' H',Dn X pins σ' H' s'/\D.nx σ' H'
 | .brk=>∃σ' H',Dn X pins σ' H' s'/\D.bk σ' H'
 | .cont=>∃σ' H',Dn X pins σ' H' s'/\D.ct σ' H'
 | .ret u=>∃v σ' H',Dn X pins σ' H' s'/\bz v u/\D.rt v H'
¦PE(X:Cx)(e:Expr)(t:TE):Prop :=
 ∀(pins:List (Addr×Obj)) (s:Shared) (σ:St) (H:Hp) (Q:VK),Dn X pins σ H s->t σ H Q->wpAny (model X.prog X.w) X.A (eval e X.env) (EP X pins σ Q) X.xe s
¦PT(X:Cx)(e:Expr)(t:TT):Prop :=
 ∀(pins:List (Addr×Obj)) (s:Shared) (σ:St) (H:Hp) (Q:Bool->Hp->Prop),Dn X pins σ H s->t σ H Q->wpAny (model X.prog X.w) X.A (isTrue e X.env (eval e X.env)) (TP X pins σ Q) X.xe s
¦PW(X:Cx)(e:Expr)(t:TT):Prop :=
 ∀(whole:Sem Value) (pins:List (Addr×Obj)) (s:Shared) (σ:St) (H:Hp) (Q:Bool->Hp->Prop),Dn X pins σ H s->t σ H Q->wpAny (model X.prog X.w) X.A (isTrue e X.env whole) (TP X pins σ Q) X.xe s
¤PW.pt{X:Cx}{e:Expr}{t:TT}(h:PW X e t):PT X e t:=h _
¦PA(X:Cx)(es:List Expr)(t:TA):Prop :=
 ∀(pos:Pos) (pins:List (Addr×Obj)) (s:Shared) (σ:St) (H:Hp) (Q:List V->Hp->Prop),Dn X pins σ H s->t σ H Q->wpAny (model X.prog X.w) X.A (spliced (backTo pos (starEach es X.env))) (AP X pins σ Q) X.xe s
¦PS(X:Cx)(st:Stmt)(t:TS):Prop :=
 ∀(pins:List (Addr×Obj)) (s:Shared) (σ:St) (H:Hp) (D:FS),Dn X pins σ H s->t D σ H->wpAny (model X.prog X.w) X.A (exec st X.env) (SP X pins D) X.xe s
¦PSs(X:Cx)(st:List Stmt)(t:TS):Prop :=
 ∀(pins:List (Addr×Obj)) (s:Shared) (σ:St) (H:Hp) (D:FS),Dn X pins σ H s->t D σ H->wpAny (model X.prog X.w) X.A (execs st X.env) (SP X pins D) X.xe s
¤thn{α:Type}{t:Sem α}{Q Q':α->Shared->Prop}{M:Model}{A:Around}{E:Value->Shared->Prop}{s:Shared}(h:wpAny M A t Q E s)(hQ:∀a s,Q a s->Q' a s):wpAny M A t Q' E s:=wpAny_mono h hQ λ_ _ x=>x
section
variable {X:Cx}
inductive Jl (i:Nat) (σ:St) (H:Hp) (Q:VK):Prop
 | mk (v:V) (e:σ[i]? = some (some v)) (q:Q v H):Jl i σ H Q
¦tC(v:V):TE:=λ_ H Q=>Q v H
¤vC{i:Nat}{x:Str}{pos:Pos}(hN:X.N[i]? = some x)(hv:Vis X.env.scope x)(hd:(x == ("__debug__" : Str))=false:=by decide)(hcd:(x == ("__classdict__" : Str))=false:=by decide):PE X (.Name x pos) (Jl i):=by
 intro pins s σ H Q I h;@v,e,h:=h;@m,hn,hl:=I.loc;@u,r,l:=hl i x v hN e hv;!fin:EP X pins σ Q u s:=⟨v,H,I,r,h⟩;rcases l with⟨hk,hm⟩|⟨hk,c,hc,hcell⟩
 ·#wpAny_Name (wpAny_loadName_local I.ok.kind hk hn hm fin) hd
 ·rcases hk with hk|hk
  ·#wpAny_Name (wpAny_loadName_cell I.ok.kind hk hc hcell fin) hd
  ·#wpAny_Name (wpAny_loadName_free I.ok.kind hk hc hcell fin hcd) hd
¤af{i j pos}:PE X (.Constant (.int i) j pos) (tC (.int i)):=λ_ _ _ H _ I h=>wpAny_Constant_int ⟨.int i,H,I.tok _,⟨_,rfl⟩,h⟩
¤cW{b j pos}:PE X (.Constant (.bool b) j pos) (tC (.bl b)):=λ_ _ _ H _ I h=>Constant_bool ⟨.bl b,H,I,rfl,h⟩
¤bI{j pos}:PE X (.Constant .none j pos) (tC .non):=λ_ _ _ H _ I h=>Constant_none ⟨.non,H,I,rfl,h⟩
¤fg{x j pos}:PE X (.Constant (.str x) j pos) (tC (.str x)):=λ_ _ _ H _ I h=>Calls.Constant_str ⟨.str x,H,I.tok _,⟨_,rfl⟩,h⟩
¦Gl(X:Cx)(x:Str):Prop:=X.env.kindOf x=some .globalImplicit
¤iO{E:Value->Shared->Prop}{pins:List (Addr×Obj)}{s:Shared}{σ:St}{H:Hp}{x:Str}{u:Value}{pos:Pos}{Q:Value->Shared->Prop}(I:Dn X pins σ H s)(hg:Gl X x)(hm:X.mg x=some u)(h:Q u s)
  (hd:(x == ("__debug__" : Str))=false:=by decide):wpAny (model X.prog X.w) X.A (eval (.Name x pos) X.env) Q E s :=
 Calls.Name_function_global I.ok.kind hg (Calls.loadGlobal_global (by rw[I.ok.glob];#I.mod.glob.keeps I.bk) hm h) hd
¤gI{E:Value->Shared->Prop}{pins:List (Addr×Obj)}{s:Shared}{σ:St}{H:Hp}{x:Str}{u:Value}{pos:Pos}{Q:Value->Shared->Prop}(I:Dn X pins σ H s)(hg:Gl X x)(hm:X.mg x=none)(hv:bootBuiltins x=some u)(h:Q u s)
  (hn:x≠"__name__":=by decide) (hd:(x == ("__debug__" : Str))=false:=by decide):wpAny (model X.prog X.w) X.A (eval (.Name x pos) X.env) Q E s:=by
 @mb,h1,h2:=I.mod.blt;#Calls.Name_function_global I.ok.kind hg (Calls.loadGlobal_builtin (by rw[I.ok.glob];#I.mod.glob.keeps I.bk) hm (by rw[I.ok.blt];#h1.keeps I.bk) ((h2 x hn).trans hv) h) hd
¤bC{x:Str}{v:V}{u:Value}{pos:Pos}(hg:Gl X x)(hm:X.mg x=some u)(r:bz v u)(hd:(x == ("__debug__" : Str))=false:=by decide):PE X (.Name x pos) (tC v) :=
 λ_ _ _ H _ I h=>iO I hg hm ⟨v,H,I,r,h⟩ hd
¤xU{x:Str}{v:V}{u:Value}{pos:Pos}(hg:Gl X x)(hm:X.mg x=none)(hv:bootBuiltins x=some u)(r:bz v u)(hn:x≠"__name__":=by decide)(hd:(x == ("__debug__" : Str))=false:=by decide):PE X (.Name x pos) (tC v) :=
 λ_ _ _ H _ I h=>gI I hg hm hv ⟨v,H,I,r,h⟩ hn hd
variable {a b:Expr} {ta tb:TE} {pos:Pos}
¦PC(X:Cx)(op:CmpOp)(a b:Expr)(t:TE):Prop :=
 ∀(pins:List (Addr×Obj)) (s:Shared) (σ:St) (H:Hp) (Q:VK),Dn X pins σ H s->t σ H Q ->
  wpAny (model X.prog X.w) X.A (eval a X.env) (λv s1=>wpAny (model X.prog X.w) X.A (eval b X.env) (λu s2=>wpAny (model X.prog X.w) X.A (compareOp op v u) (EP X pins σ Q) X.xe s2) X.xe s1) X.xe s
¦tB(t:TE):TT:=λσ H Q=>t σ H λx H1=>∃c,x = .bl c/\Q c H1
¤jf{op:CmpOp}{t:TE}(h:PC X op a b t)(h1:behindInMarks op b=false:=by first|#nobehind _ & &|rfl):PT X (.Compare a [op] [b] pos) (tB t):=by
 intro pins s σ H Q I hw;refine wpAny_isTrue_Compare1 (thn (h pins s σ H _ I hw) λv s1 h1=>thn h1 λu s2 h2=>thn h2 λc s3 ⟨x,H1,I1,r1,q1⟩=>?_) h1;@d,rfl,q:=q1;cases r1;#wpAny_truthy_bool ⟨H1,I1,q⟩
¤bH{e:Expr}{t:TE}(h:PE X e t)(he:∀whole,isTrue e X.env whole=(do let v <- whole;standAt e.pos;holding [v] (truthy v)):=by intro _;rfl):PT X e (tB t):=by
 intro pins s σ H Q I hw;refine isTrue_plain (thn (h pins s σ H _ I hw) λv s1 ⟨x,H1,I1,r1,q1⟩=>?_) (he _);@d,rfl,q:=q1;cases r1;#wpAny_truthy_bool ⟨H1,I1,q⟩
variable {tA tB':TT} {rest:List Expr}
¦CZ(t u:TT):TT:=λσ H Q=>t σ H λc H1=>if c=true then u σ H1 Q else Q false H1
¦tOr(t u:TT):TT:=λσ H Q=>t σ H λc H1=>if c=true then Q true H1 else u σ H1 Q
¦CL(t:TT):TT:=λσ H Q=>t σ H λc H1=>Q (!c) H1
¤eC(ha:PT X a tA):PW X (.BoolOp .And [a] pos) tA:=by
 intro wh pins s σ H Q I h;refine isTrue_and (thn (ha pins s σ H Q I h) λc s1 e=>?_);cases c with
 | true=>#isTrue_and_nil e
 | false=>#e
¤cZ(ha:PT X a tA):PW X (.BoolOp .Or [a] pos) tA:=by
 intro wh pins s σ H Q I h;refine isTrue_or (thn (ha pins s σ H Q I h) λc s1 e=>?_);cases c with
 | false=>#isTrue_or_nil e
 | true=>#e
¤d8(ha:PT X a tA)(hb:PW X (.BoolOp .And (b::rest) pos) tB'):PW X (.BoolOp .And (a::b::rest) pos) (CZ tA tB'):=by
 intro wh pins s σ H Q I h;refine isTrue_and (thn (ha pins s σ H _ I h) λc s1 ⟨H1,I1,q1⟩=>?_);cases c with
 | true=>#hb wh pins s1 σ H1 Q I1 q1
 | false=>§H1,I1,q1
¤dw(ha:PT X a tA)(hb:PW X (.BoolOp .Or (b::rest) pos) tB'):PW X (.BoolOp .Or (a::b::rest) pos) (tOr tA tB'):=by
 intro wh pins s σ H Q I h;refine isTrue_or (thn (ha pins s σ H _ I h) λc s1 ⟨H1,I1,q1⟩=>?_);cases c with
 | true=>§H1,I1,q1
 | false=>#hb wh pins s1 σ H1 Q I1 q1
¤cE(ha:PT X a tA):PT X (.UnaryOp .Not a pos) (CL tA):=by
 intro pins s σ H Q I h;#isTrue_not (ha pins s σ H (λc H1=>Q (!c) H1) I h)
¦BG(ta tb:TE):TE:=λσ H Q=>ta σ H λx H1=>∃c,x = .bl c/\if c=true then tb σ H1 Q else Q (.bl false) H1
¦CJ(ta tb:TE):TE:=λσ H Q=>ta σ H λx H1=>∃c,x = .bl c/\if c=true then Q (.bl true) H1 else tb σ H1 Q
¦Bw(ta:TE):TE:=λσ H Q=>ta σ H λx H1=>∃c,x = .bl c/\Q (.bl (!c)) H1
¤gC{op}{t:TE}(h:PE X a t):PE X (.BoolOp op [a] pos) t:=λpins s σ H Q I hw=>BoolOp_one (h pins s σ H Q I hw)
¤jn(ha:PE X a ta)(hb:PE X (.BoolOp .And (b::rest) pos) tb):PE X (.BoolOp .And (a::b::rest) pos) (BG ta tb):=by
 intro pins s σ H Q I h;refine BoolOp_and (thn (ha pins s σ H _ I h) λv s1 ⟨x,H1,I1,r1,q1⟩=>?_);@c,rfl,q1:=q1;cases r1;refine wpAny_truthy_bool ?_;cases c with
 | true=>#hb pins s1 σ H1 Q I1 q1
 | false=>§.bl false,H1,I1,rfl,q1
¤za(ha:PE X a ta)(hb:PE X (.BoolOp .Or (b::rest) pos) tb):PE X (.BoolOp .Or (a::b::rest) pos) (CJ ta tb):=by
 intro pins s σ H Q I h;refine BoolOp_or (thn (ha pins s σ H _ I h) λv s1 ⟨x,H1,I1,r1,q1⟩=>?_);@c,rfl,q1:=q1;cases r1;refine wpAny_truthy_bool ?_;cases c with
 | false=>#hb pins s1 σ H1 Q I1 q1
 | true=>§.bl true,H1,I1,rfl,q1
¤vD(ha:PE X a ta):PE X (.UnaryOp .Not a pos) (Bw ta):=by
 intro pins s σ H Q I h;refine UnaryOp_ (thn (ha pins s σ H _ I h) λv s1 ⟨x,H1,I1,r1,q1⟩=>?_);@c,rfl,q1:=q1;cases r1;#not_of (wpAny_truthy_bool ⟨.bl (!c),H1,I1,rfl,q1⟩)
¦tIf(t:TT)(ta tb:TE):TE:=λσ H Q=>t σ H λc H1=>if c=true then ta σ H1 Q else tb σ H1 Q
¤gD{c:Expr}(hc:PT X c tA)(ha:PE X a ta)(hb:PE X b tb):PE X (.IfExp c a b pos) (tIf tA ta tb):=by
 intro pins s σ H Q I h;refine wpAny_IfExp (thn (hc pins s σ H _ I h) λd s1 ⟨H1,I1,q1⟩=>?_);cases d with
 | true=>#ha pins s1 σ H1 Q I1 q1
 | false=>#hb pins s1 σ H1 Q I1 q1
end
¦SqL(K:W.Frag)(H:Hp)(a:Addr)(xs:List V):Prop :=
 Rd H a (.lst xs) \/
  ∃(o:Obj) (its:Array Value) (n:Nat),K.lookup a=some o/\o.cls = .type "list"/\o.dict=none/\o.data = .seq its n/\its.size<=sizeLine/\aZ xs its.toList
¦SqT(K:W.Frag)(H:Hp)(a:Addr)(xs:List V):Prop :=
 Rd H a (.tup xs) \/
  ∃(o:Obj) (its:Array Value) (n:Nat),K.lookup a=some o/\o.cls = .type "tuple"/\o.data = .seq its n/\its.size<=sizeLine/\aZ xs its.toList
¦Dh:Value->Option V
 | .none=>some .non
 | .bool b=>some (.bl b)
 | .int i _=>some (.int i)
 | .str x _=>some (.str x)
 | .bytes b _=>some (.byt b)
 | .float b _=>some (.flt b)
 | .ref a=>some (.ref a)
 | .type n=>some (.ty n)
 | _=>none
¤bz.abs{x:V}{u:Value}(r:bz x u):Dh u=some x:=by
 cases x with
 | non=>cases r;rfl
 | bl _=>cases r;rfl
 | int _=>@t,rfl:=r;rfl
 | str _=>@t,rfl:=r;rfl
 | byt _=>@t,rfl:=r;rfl
 | flt _=>@t,rfl:=r;rfl
 | ref _=>cases r;rfl
 | ty _=>cases r;rfl
¤bz.inj{x y:V}{u:Value}(r:bz x u)(q:bz y u):x=y:=Option.some.inj (r.abs.symm.trans q.abs)
¤aZ.inj:∀{xs ys:List V} {us:List Value},aZ xs us->aZ ys us->xs=ys
 | _,_,_,.nil,.nil=>rfl
 | _,_,_,.cons r t,.cons r' t'=>by rw[r.inj r',aZ.inj t t']
section
variable {X:Cx} {pins:List (Addr×Obj)} {σ:St} {H:Hp} {s:Shared} {a:Addr} {xs ys:List V}
¤SqL.of{K:W.Frag}(h:H a=some (.lst xs)):SqL K H a xs:=.inl (.inl h)
¤SqT.of{K:W.Frag}(h:H a=some (.tup xs)):SqT K H a xs:=.inl (.inl h)
¤Dn.list(I:Dn X pins σ H s)(h:SqL X.K H a xs):∃its:List Value,aZ xs its/\PlainL s.heap a its.toArray/\xs.length<=sizeLine:=by
 rcases h with h|⟨o,its,n,hk,hc,hd,hs,hz,r⟩
 ·@z,its,n,r,e:=h.ok I.hok
  §its,r,⟨_,n,e,rfl,rfl,rfl⟩,z
 ·?its.toList,r,⟨o,n,I.kIn a o hk,hc,hd,by simpa using hs⟩
  !e:=r.length;simp only[Array.length_toList]at e;~
¤Dn.tuple(I:Dn X pins σ H s)(h:SqT X.K H a xs):∃its:List Value,aZ xs its/\IsTup s.heap a its.toArray/\xs.length<=sizeLine:=by
 rcases h with h|⟨o,its,n,hk,hc,hs,hz,r⟩
 ·@z,its,r,p:=h.ok I.hok
  §its,r,p,z
 ·?its.toList,r,⟨o,I.kIn a o hk,hc,n,by simpa using hs⟩
  !e:=r.length;simp only[Array.length_toList]at e;~
¤Dn.list_inj(I:Dn X pins σ H s)(h:SqL X.K H a xs)(h':SqL X.K H a ys):xs=ys:=by
 @its,r,⟨o,n,e,_,_,d⟩,_:=I.list h;@its',r',⟨o',n',e',_,_,d'⟩,_:=I.list h';rw[e]at e';cases e';rw[d]at d';injection d' with d1 _
 !:its=its':=by simpa using congrArg Array.toList d1
 subst this;#r.inj r'
¤Dn.tuple_inj(I:Dn X pins σ H s)(h:SqT X.K H a xs)(h':SqT X.K H a ys):xs=ys:=by
 @its,r,⟨o,e,_,n,d⟩,_:=I.tuple h;@its',r',⟨o',e',_,n',d'⟩,_:=I.tuple h';rw[e]at e';cases e';rw[d]at d';injection d' with d1 _
 !:its=its':=by simpa using congrArg Array.toList d1
 subst this;#r.inj r'
end
noncomputable abbrev Cx.wish(X:Cx)(E:Value->Shared->Prop):Cx:={ X with xe:=E }
noncomputable abbrev Cx.nox(X:Cx):Cx:=X.wish λ_ _=>False
¤Cx.Ok.wish{X:Cx}(ok:X.Ok)(E:Value->Shared->Prop):(X.wish E).Ok :=
 ⟨ok.mod,ok.kind,ok.glob,ok.blt,ok.above,ok.inj,ok.has,ok.cab,ok.hd,ok.frames,ok.stk,ok.exf,ok.bs,ok.bsz,ok.noex,ok.exfs,ok.funs,ok.frf⟩
¤Cx.Ok.unwish{X:Cx}{E:Value->Shared->Prop}(ok:(X.wish E).Ok):X.Ok :=
 ⟨ok.mod,ok.kind,ok.glob,ok.blt,ok.above,ok.inj,ok.has,ok.cab,ok.hd,ok.frames,ok.stk,ok.exf,ok.bs,ok.bsz,ok.noex,ok.exfs,ok.funs,ok.frf⟩
section
variable {X:Cx} {pins:List (Addr×Obj)} {σ:St} {H:Hp} {s:Shared} {E:Value->Shared->Prop}
¤Dn.wish(I:Dn X pins σ H s)(E:Value->Shared->Prop):Dn (X.wish E) pins σ H s:=⟨I.ok.wish E,I.os,I.bare,I.base,I.loc,I.cell,I.free,I.freeC,I.pin,I.hok,I.len⟩
¤Dn.unwish(I:Dn (X.wish E) pins σ H s):Dn X pins σ H s:=⟨I.ok.unwish,I.os,I.bare,I.base,I.loc,I.cell,I.free,I.freeC,I.pin,I.hok,I.len⟩
¤SP.unwish{D:FS}{f:Flow}{s':Shared}(h:SP (X.wish E) pins D f s'):SP X pins D f s':=by
 cases f with
 | next=>@σ',H',I,q:=h;§σ',H',I.unwish,q
 | brk=>@σ',H',I,q:=h;§σ',H',I.unwish,q
 | cont=>@σ',H',I,q:=h;§σ',H',I.unwish,q
 | ret u=>@v,σ',H',I,r,q:=h;§v,σ',H',I.unwish,r,q
¤PSs.nox{st:List Stmt}{t:TS}(h:PSs X.nox st t):PSs X st t:=λpins s σ H D I hw =>
 wpAny_mono (h pins s σ H D (I.wish _) hw) (λ_ _ q=>q.unwish) λ_ _ z=>False.elim z
end
section
variable {X:Cx} {st:Stmt} {rest:List Stmt} {t u:TS} {e:Expr} {te:TE} {pos:Pos}
¦Bx:TS:=λD σ H=>D.nx σ H
¦CG(t u:TS):TS:=λD σ H=>t { D with nx:=u D } σ H
¤aI:PSs X [] Bx:=λ_ _ σ H _ I h=>wpAny_execs_nil ⟨σ,H,I,h⟩
¤ag(h1:PS X st t)(h2:PSs X rest u):PSs X (st::rest) (CG t u):=by
 intro pins s σ H D I h;refine wpAny_execs_cons (thn (h1 pins s σ H { D with nx:=u D } I h) λf s1 q=>?_);cases f with
 | next =>
  @σ',H',I',q:=q;#h2 pins s1 σ' H' D I' q
 | ret v=>#q
 | brk=>#q
 | cont=>#q
¤am(h1:PS X st t):PSs X [st] t:=by
 intro pins s σ H D I h;refine wpAny_execs_cons (thn (h1 pins s σ H D I h) λf s1 q=>?_);cases f with
 | next=>#wpAny_execs_nil q
 | ret v=>#q
 | brk=>#q
 | cont=>#q
¤Dn.quiet{pins:List (Addr×Obj)}{σ:St}{H:Hp}{s:Shared}(I:Dn X pins σ H s):interactive X.env=false:=by simp[interactive,I.ok.kind]
¦BC(te:TE):TS:=λD σ H=>te σ H λ_ H1=>D.nx σ H1
¤cH(he:PE X e te)(hs:swapsWith e none pos.line X.env=pure false:=by rfl):PS X (.Expr e pos) (BC te):=by
 intro pins s σ H D I h;#wpAny_Expr_any (thn (he pins s σ H _ I h) λv s1 ⟨x,H1,I1,r1,q1⟩=>⟨σ,H1,I1,q1⟩) I.quiet hs
¦Bu(te:TE):TS:=λD σ H=>te σ H D.rt
¤aB(he:PE X e te):PS X (.Return (some e) pos) (Bu te):=by
 intro pins s σ H D I h;#wpAny_Return_some (thn (he pins s σ H _ I h) λv s1 ⟨x,H1,I1,r1,q1⟩=>⟨x,σ,H1,I1,r1,q1⟩)
¦Bt:TS:=λD _ H=>D.rt .non H
¤si:PS X (.Return none pos) Bt:=λ_ _ σ H _ I h=>wpAny_Return_none ⟨.non,σ,H,I,rfl,h⟩
¦CP(c:TT)(t u:TS):TS:=λD σ H=>c σ H λb H1=>if b=true then t D σ H1 else u D σ H1
¤aM{c:Expr}{a b:List Stmt}{tc:TT}(hc:PT X c tc)(ha:PSs X a t)(hb:PSs X b u):PS X (.If c a b pos) (CP tc t u):=by
 intro pins s σ H D I h;refine wpAny_If (thn (hc pins s σ H _ I h) λd s1 ⟨H1,I1,q1⟩=>?_);cases d with
 | true=>#ha pins s1 σ H1 D I1 q1
 | false=>#hb pins s1 σ H1 D I1 q1
end
noncomputable abbrev TG:=V->St->Hp->(St->Hp->Prop)->Prop
noncomputable abbrev TGs:=List V->St->Hp->(St->Hp->Prop)->Prop
¦PG(X:Cx)(target:Expr)(t:TG):Prop :=
 ∀(pins:List (Addr×Obj)) (s:Shared) (σ:St) (H:Hp) (v:V) (u:Value) (Q:St->Hp->Prop),Dn X pins σ H s->bz v u->t v σ H Q ->
  wpAny (model X.prog X.w) X.A (assign target X.env u) (λ_ s'=>∃σ' H',Dn X pins σ' H' s'/\Q σ' H') X.xe s
¦PGs(X:Cx)(ts:List Expr)(t:TGs):Prop :=
 ∀(pins:List (Addr×Obj)) (s:Shared) (σ:St) (H:Hp) (vs:List V) (us:List Value) (Q:St->Hp->Prop),Dn X pins σ H s->aZ vs us->t vs σ H Q ->
  wpAny (model X.prog X.w) X.A (assignInOrder ((assignEach ts X.env).map (·.2)) us) (λ_ s'=>∃σ' H',Dn X pins σ' H' s'/\Q σ' H') X.xe s
noncomputable abbrev Be:=V->V->V->Hp->(Hp->Prop)->Prop
¦Bg(X:Cx)(t:Be):Prop :=
 ∀(pins:List (Addr×Obj)) (s:Shared) (σ:St) (H:Hp) (o i v:V) (ov iv u:Value) (Q:Hp->Prop),Dn X pins σ H s->bz o ov->bz i iv->bz v u->t o i v H Q ->
  wpAny (model X.prog X.w) X.A (setItem ov iv u) (λ_ s'=>∃H',Dn X pins σ H' s'/\Q H') X.xe s
noncomputable abbrev TIp:=V->V->Hp->VK->Prop
¦PIp(X:Cx)(op:Operator)(t:TIp):Prop :=
 ∀(pins:List (Addr×Obj)) (s:Shared) (σ:St) (H:Hp) (x y:V) (v u:Value) (Q:VK),Dn X pins σ H s->bz x v->bz y u->t x y H Q ->
  wpAny (model X.prog X.w) X.A (inplaceOp op v u) (EP X pins σ Q) X.xe s
section
variable {X:Cx} {pos:Pos}
¦lE(i:Nat):TG:=λv σ H Q=>Q (σ.set i (some v)) H
¤aQ{i:Nat}{x:Str}(hN:X.N.Nodup)(hi:X.N[i]? = some x)(hx:Loc X.env.scope x)(hf:X.fn x=true\/X.env.scope.names.lookup x=some .local:=by first|#.inl rfl|#.inr rfl|assumption):PG X (.Name x pos) (lE i):=by
 intro pins s σ H v u Q I r h;#wpAny_assign_Name (gs I hN hi hx r (λs' I'=>⟨_,H,I',h⟩) hf)
inductive KH (vs:List V) (σ:St) (H:Hp) (Q:St->Hp->Prop):Prop
 | mk (e:vs = []) (q:Q σ H):KH vs σ H Q
inductive J6 (t:TG) (u:TGs) (vs:List V) (σ:St) (H:Hp) (Q:St->Hp->Prop):Prop
 | mk (v:V) (r:List V) (e:vs=v::r) (q:t v σ H λσ' H'=>u r σ' H' Q):J6 t u vs σ H Q
¤dX:PGs X [] KH:=by
 intro pins s σ H vs us Q I r h;@e,h:=h;subst e;cases r;#assignInOrder_nil ⟨σ,H,I,h⟩
¤bK{e:Expr}{es:List Expr}{t:TG}{u:TGs}(h1:PG X e t)(h2:PGs X es u)
  (hs:(assignEach (e::es) X.env).map (·.2)=assign e X.env::(assignEach es X.env).map (·.2):=by rfl):PGs X (e::es) (J6 t u):=by
 intro pins s σ H vs us Q I r h;@v,vr,e1,h:=h;subst e1;cases r with
 | cons r rr =>
  rw[hs];refine assignInOrder_cons (thn (h1 pins s σ H _ _ _ I r h) λ_ s1 ⟨σ1,H1,I1,q1⟩=>?_);#h2 pins s1 σ1 H1 _ _ Q I1 rr q1
inductive KG (K:W.Frag) (n:Nat) (t:TGs) (v:V) (σ:St) (H:Hp) (Q:St->Hp->Prop):Prop
 | mk (a:Addr) (xs:List V) (e:v = .ref a) (s:SqT K H a xs) (l:xs.length=n) (q:t xs σ H Q):KG K n t v σ H Q
¤fe{es:List Expr}{k:Nat}{t:TGs}{n:Nat}(hc:X.calm=true)(h:PGs X es t)
  (hn:(assignEach es X.env).length=n:=by rfl) (hst:(assignEach es X.env).findIdx? (·.1)=none:=by rfl):PG X (.Tuple es k pos) (KG X.K n t):=by
 intro pins s σ H v u Q I r hw;@a,xs,e1,hq,hl,hw:=hw;subst e1;cases r;@its,rv,ht,hz:=I.tuple hq;refine assign_Tuple_tuple (I.ok.hd hc) ht (by simp[hn,<- hl,rv.length]) hst λh' hx=>?_;!I1:Dn X pins σ H { s with heap:=h' }:=I.kept (t':=s.toks) λb o e=>hx b o (Nat.ne_of_lt (Heap.lt_size e)) e
 #h pins _ σ H xs _ Q I1 (by simpa using rv) hw
¦Db(to ti:TE)(t:Be):TG:=λv σ H Q=>to σ H λo H1=>ti σ H1 λi H2=>t o i v H2 λH3=>Q σ H3
¤Af{o i:Expr}{to ti:TE}{t:Be}(ho:PE X o to)(hi:PE X i ti)(hs:Bg X t)
  (ha:∀v,assign (.Subscript o i pos) X.env v=(do
   let ov <- holding [v] (eval o X.env)
   let iv <- holding [v,ov] (eval i X.env)
   standAt pos
   holding [v,ov,iv] (setItem ov iv v)
   release [v,ov,iv] []):=by intro _;rfl):PG X (.Subscript o i pos) (Db to ti t):=by
 intro pins s σ H v u Q I r h;rw[ha];refine wpAny_bind (wpAny_holding (thn (ho pins s σ H _ I h) λov s1 ⟨x,H1,I1,r1,q1⟩=>?_));refine wpAny_bind (wpAny_holding (thn (hi pins s1 σ H1 _ I1 q1) λiv s2 ⟨y,H2,I2,r2,q2⟩=>?_));refine wpAny_bind (wpAny_standAt (wpAny_bind (wpAny_holding (thn (hs pins s2 σ H2 x y v ov iv u _ I2 r1 r2 r q2) λ_ s3 ⟨H3,I3,q3⟩=>?_))));#wpAny_release ⟨σ,H3,I3,q3⟩
¦ve(te:TE)(g:TG):TS:=λD σ H=>te σ H λx H1=>g x σ H1 D.nx
¤jg{tg e:Expr}{te:TE}{g:TG}(he:PE X e te)(hg:PG X tg g)(hs:swapsWithSole [tg] e pos.line X.env=pure false:=by rfl)(hw:swappedStores [tg] e X.env=pure none:=by rfl)
  (h1:(assignEach [tg] X.env).map (·.2) = [assign tg X.env]:=by rfl):PS X (.Assign [tg] e pos) (ve te g):=by
 intro pins s σ H D I h;refine wpAny_Assign_stores (thn (he pins s σ H _ I h) λv s1 ⟨x,H1,I1,r1,q1⟩=>?_) hs hw;rw[h1];#thn (hg pins s1 σ H1 x v _ I1 r1 q1) λ_ s2 q=>q
¤aA{i:Nat}{x:Str}{e:Expr}{te:TE}{pos':Pos}(hN:X.N.Nodup)(hi:X.N[i]? = some x)(hx:Loc X.env.scope x)(he:PE X e te)(hs:swapsWith e (some (.Name x pos')) pos.line X.env=pure false:=by rfl)(hf:X.fn x=true\/X.env.scope.names.lookup x=some .local:=by first|#.inl rfl|#.inr rfl|assumption) :
  PS X (.Assign [.Name x pos'] e pos) (ve te (lE i)):=by
 intro pins s σ H D I h;refine wpAny_Assign_Name (thn (he pins s σ H _ I h) λv s1 ⟨y,H1,I1,r1,q1⟩=>?_) hs;#gs I1 hN hi hx r1 (λs2 I2=>⟨_,H1,I2,q1⟩) hf
¦CI(i j:Nat)(ta:TA):TS:=λD σ H=>ta σ H λvs H1=>∃v w,vs = [v,w]/\D.nx ((σ.set i (some v)).set j (some w)) H1
¤qS{i j:Nat}{x y:Str}{a b:Expr}{ta:TA}{px py pt:Pos}{kt k2 pt2}(hc:X.calm=true)(hN:X.N.Nodup)(hi:X.N[i]? = some x)(hj:X.N[j]? = some y)(hij:i≠j)
  (hx:X.env.scope.names.lookup x=some .local) (hy:X.env.scope.names.lookup y=some .local) (ha:PA X [a,b] ta)
  (hw:swappedStores [.Tuple [.Name x px,.Name y py] kt pt] (.Tuple [a,b] k2 pt2) X.env=pure (some [x,y]))
  (hs:swapsWithSole [.Tuple [.Name x px,.Name y py] kt pt] (.Tuple [a,b] k2 pt2) pos.line X.env=pure false:=by rfl) :
  PS X (.Assign [.Tuple [.Name x px,.Name y py] kt pt] (.Tuple [a,b] k2 pt2) pos) (CI i j ta):=by
 intro pins s σ H D I h;rw[exec_Assign_arm];refine wpAny_bind (wpAny_standAt ?_);rw[hs];refine wpAny_bind (wpAny_pure ?_);rw[if_neg &];refine wpAny_bind (Tuple_ (thn (ha _ pins s σ H _ I h) λus s1 ⟨vs,H1,I1,r1,q1⟩=>?_));@v,w,e1,q1:=q1;subst e1;obtain⟨u1,u2,rfl,rv,rw'⟩:∃u1 u2,us = [u1,u2]/\bz v u1/\bz w u2:=by
  cases r1 with
  | cons p q =>
   cases q with
   | cons p' q' =>
    cases q';§_,^,p,p'
 refine wpAny_newObj_type ?_ (by show 2<=sizeLine;decide);!I2:Dn X pins σ H1 { s1 with heap:=s1.heap.push { cls:=.type "tuple",data:=.seq [u1,u2].toArray } }:=I1.kept (t':=s1.toks) λb o e=>Heap.get?_push_of_some _ e;rw[hw];refine wpAny_bind (wpAny_pure ?_);show wpAny (model X.prog X.w) X.A (do rule "assign.swapped-stores";let items <- unpackItems (.ref s1.heap.objs.size) 2 none;assignInOrder [λv=>bindName X.env y v,λv=>bindName X.env x v] items.reverse;pure Flow.next) _ _ _
 refine wpAny_bind (wpAny_rule (wpAny_bind (unpackItems_tuple (items:=#[u1,u2]) (I.ok.hd hc) (IsTup.new s1.heap _) λh' hx'=>?_)));!I3:=I2.kept (h':=h') (t':=s1.toks) λb o e=>hx' b o (Nat.ne_of_lt (Heap.lt_size e)) e;show wpAny _ _ (assignInOrder [λv=>bindName X.env y v,λv=>bindName X.env x v] [u2,u1] >>= λ_=>pure Flow.next) _ _ _;refine wpAny_bind (assignInOrder_cons (wpAny_bindName (gs I3 hN hj (.inl hy) rw' (λs2 I4=>?_) (.inr hy))));refine assignInOrder_cons (wpAny_bindName (gs I4 hN hi (.inl hx) rv (λs3 I5=>assignInOrder_nil (wpAny_pure ?_)) (.inr hx)));rw[List.set_comm _ _ (Ne.symm hij)]at I5;§_,H1,I5,q1
¦CY(i:Nat)(te:TE)(ti:TIp):TS:=λD σ H=>∃x,σ[i]? = some (some x)/\te σ H λy H1=>ti x y H1 λz H2=>D.nx (σ.set i (some z)) H2
¤z9{i:Nat}{x:Str}{e:Expr}{te:TE}{op:Operator}{ti:TIp}{pos':Pos}(hN:X.N.Nodup)(hi:X.N[i]? = some x)(hx:Loc X.env.scope x)(he:PE X e te)(ho:PIp X op ti)(hf:X.fn x=true\/X.env.scope.names.lookup x=some .local:=by first|#.inl rfl|#.inr rfl|assumption) :
  PS X (.AugAssign (.Name x pos') op e pos) (CY i te ti):=by
 intro pins s σ H D I h;@v,e1,h:=h;@m,hn,hl:=I.loc;!vis:Vis X.env.scope x:=by rcases hx with k|k;#.inl k;#.inr (.inl k)
 @u,r,l:=hl i x v hi e1 vis;refine wpAny_AugAssign_Name ?_;!go:wpAny (model X.prog X.w) X.A (eval e X.env) (λw s₂=>wpAny (model X.prog X.w) X.A (inplaceOp op u w) (λr s₃=>wpAny (model X.prog X.w) X.A (storeName X.env x r) (λ_=>SP X pins D .next) X.xe s₃) X.xe s₂) X.xe s:=by
  refine thn (he pins s σ H _ I h) λw s1 ⟨y,H1,I1,r1,q1⟩=>?_;refine thn (ho pins s1 σ H1 v y u w _ I1 r r1 q1) λz s2 ⟨zv,H2,I2,r2,q2⟩=>?_;#gs I2 hN hi hx r2 (λs3 I3=>⟨_,H2,I3,q2⟩) hf
 rcases l with⟨hk,hm⟩|⟨hk,c,hc,hcell⟩
 ·#wpAny_loadName_local I.ok.kind hk hn hm go
 ·rcases hk with hk|hk
  ·#wpAny_loadName_cell I.ok.kind hk hc hcell go
  ·rcases hx with k|k
   ·!:X.env.scope.names.lookup x=some .free:=hk
    rw[k]at this;cases this
   ·!:X.env.scope.names.lookup x=some .free:=hk
    rw[k]at this;cases this
¦ipI(f:Int->Int->Int):TIp:=λx y H Q=>∃i j,x = .int i/\y = .int j/\Q (.int (f i j)) H
¤AD:PIp X .Add (ipI λi j=>i+j):=by
 intro pins s σ H x y v u Q I r1 r2 h;@i,j,e1,e2,q:=h;subst e1;subst e2;@t,rfl:=r1;@t',rfl:=r2;#iadd_int ⟨.int _,H,I.tok _,⟨_,rfl⟩,q⟩
end
section
variable {X:Cx} {pos:Pos}
¦u7(c:TT)(tb:TS):TS:=λD σ H=>∃W:Nat->St->Hp->Prop,(∃m,W m σ H)/\∀m σ H,W m σ H ->
 c σ H λb H1=>if b=true then ∃N:St->Hp->Prop,(∀σ' H',N σ' H'->∃m',m'<m/\W m' σ' H')/\tb { D with nx:=N,ct:=N,bk:=D.nx } σ H1 else D.nx σ H1
¤eJ{c:Expr}{body:List Stmt}{tc:TT}{tb:TS}(hp:PassesOwn (model X.prog X.w) X.A X.env X.xe)(hc:PT X c tc)(hb:PSs X body tb):PS X (.While c body [] pos) (u7 tc tb):=by
 intro pins s σ H D I h;@W,⟨m0,w0⟩,turn:=h;refine wpAny_While (codeAny_whileLoop (λn s'=>∃σ' H',Dn X pins σ' H' s'/\W n σ' H') ?_ m0 ⟨σ,H,I,w0⟩);rintro n s1 ⟨σ1,H1,I1,w1⟩;refine wpAny_passesOwn hp (thn (hc pins s1 σ1 H1 _ I1 (turn n σ1 H1 w1)) λb s2 ⟨H2,I2,q2⟩=>?_);cases b with
 | true =>
  @N,hN,q2:=q2;rw[if_pos rfl];refine wpAny_passesOwn hp (thn (hb pins s2 σ1 H2 _ I2 q2) λf s3 q3=>?_);cases f with
  | next =>
   @σ3,H3,I3,n3:=q3;@m',hm,w3:=hN σ3 H3 n3;§m',hm,σ3,H3,I3,w3
  | cont =>
   @σ3,H3,I3,n3:=q3;@m',hm,w3:=hN σ3 H3 n3;§m',hm,σ3,H3,I3,w3
  | brk=>#q3
  | ret v=>#q3
 | false =>
  rw[if_neg Bool.false_ne_true];#wpAny_execs_nil ⟨σ1,H2,I2,q2⟩
end
structure It where
 go:Nat->Hp->Prop
 yld:Nat->Hp->V->Hp->Prop
 stop:Nat->Hp->Prop
¦gi(X:Cx)(pins:List (Addr×Obj))(H:Hp)(b:Addr):Prop :=
 H b=none/\b≠X.env.locals/\b∉X.fs/\(b∈X.ex\/X.s₀.heap.objs.size<=b)/\(∀x c,X.env.cells.lookup x=some c->c≠b)/\∀p∈X.pn++pins,p.1≠b
¤Dn.fpOk{X:Cx}{pins:List (Addr×Obj)}{σ:St}{H H':Hp}{s:Shared}{b:Addr}(I:Dn X pins σ H s)(hb:s.heap.objs.size<=b)(hn:H' b=none):gi X pins H' b:=by
 ¶hn,Nat.ne_of_gt (Nat.lt_of_lt_of_le I.lt hb),I.nofs hb,.inr (Nat.le_trans I.sz hb),λx c e z=>?_,λp hp z=>?_
 ·@v,q:=I.cell x c e
  #absurd (Nat.lt_of_lt_of_le q.lt (by rw[z];#hb)) (Nat.lt_irrefl _)
 ·#absurd (Nat.lt_of_lt_of_le (Heap.lt_size (I.pin p hp).1) (by rw[z];#hb)) (Nat.lt_irrefl _)
structure GM(P:Program)(w:World)(K:W.Frag)(tg:Expr)(J:It)(fp:List Addr)(it:Addr)(tn:Nat->Heap->Prop):Prop where
 mem:it∈fp
 obj:∀i h,tn i h->∀b∈fp,∃o,h.get? b=some o/\∀v,o.data≠.cell v
 keep:∀i h h',tn i h->(∀b∈fp,∀o,h.get? b=some o->h'.get? b=some o)->tn i h'
 item:∀(X:Cx),X.prog=P->X.w=w->X.K=K->X.calm=true->∀(i:Nat) (pins:List (Addr×Obj)) (s:Shared) (σ:St) (H:Hp) (E:Value->Shared->Prop),Dn X pins σ H s->(∀b∈fp,gi X pins H b)->tn i s.heap->J.go i H ->
  wpAny (model P w) X.A (pyNext (.ref it)) (λr s1=>∃u,r=some u /\
   wpAny (model P w) X.A (letOwnedTupleGo tg (.ref it) u) (λ_ s2=>∃x H',Dn X pins σ H' s2/\bz x u/\J.yld i H x H'/\tn (i+1) s2.heap/\∀b∈fp,H' b=none) E s1) E s
 done:∀(X:Cx),X.prog=P->X.w=w->X.K=K->X.calm=true->∀(i:Nat) (pins:List (Addr×Obj)) (s:Shared) (σ:St) (H:Hp) (E:Value->Shared->Prop),Dn X pins σ H s->(∀b∈fp,gi X pins H b)->tn i s.heap->J.stop i H ->
  wpAny (model P w) X.A (pyNext (.ref it)) (λr s1=>r=none/\Dn X pins σ H s1) E s
 self:∀(A:Around) (i:Nat) (s:Shared) (Q:Value->Shared->Prop) (E:Value->Shared->Prop),tn i s.heap->Q (.ref it) s->wpAny (model P w) A (pyIter (.ref it)) Q E s
noncomputable abbrev TI:=St->Hp->(It->Hp->Prop)->Prop
¦PIE(X:Cx)(pins:List (Addr×Obj))(σ:St)(tg:Expr)(R:It->Hp->Prop)(itv:Value)(s2:Shared):Prop :=
 ∃(it:Addr) (fp:List Addr) (tn:Nat->Heap->Prop) (J:It) (H':Hp),itv = .ref it/\Dn X pins σ H' s2/\GM X.prog X.w X.K tg J fp it tn/\tn 0 s2.heap/\(∀b∈fp,gi X pins H' b)/\R J H'
¦PI(X:Cx)(tg iter:Expr)(wi:TI):Prop :=
 ∀(pins:List (Addr×Obj)) (s:Shared) (σ:St) (H:Hp) (R:It->Hp->Prop),Dn X pins σ H s->wi σ H R ->
  wpAny (model X.prog X.w) X.A (eval iter X.env) (λv s1=>wpAny (model X.prog X.w) X.A (pyIter v) (PIE X pins σ tg R) X.xe s1) X.xe s
¤m7{M:Model}{A:Around}{E:Value->Shared->Prop}{s:Shared}{tg:Expr}{it:Addr}{u:Value}{o:Obj}{n:String}{vs:Array Value}{Q:Unit->Shared->Prop}(ho:s.heap.get? it=some o)(hc:o.cls = .type n)(hd:o.data = .fields vs)
    (hn:["enumerate","zip","dict_itemiterator","dict_reverseitemiterator","odict_iterator","itertools.zip_longest","itertools.pairwise"].contains n=false) (hQ:Q () s):wpAny M A (letOwnedTupleGo tg (.ref it) u) Q E s:=by
  unfold letOwnedTupleGo;cases tg <;> first
    | #wpAny_pure hQ
    | (cases u <;> first
        | #wpAny_pure hQ
        | (refine wpAny_bind (wpAny_load ho ?_)
           rw[hc,hd];show wpAny M A (if (["enumerate","zip","dict_itemiterator","dict_reverseitemiterator","odict_iterator","itertools.zip_longest","itertools.pairwise"].contains n && vs[0]? == some (rawInt _))=true then _ else _) Q E s
           rw[if_neg (by intro h;rw[hn,Bool.false_and]at h;cases h)];#wpAny_pure hQ))
¦Itl(K:W.Frag)(a:Addr):It :=
 ⟨λi H=>∃xs x,SqL K H a xs/\xs[i]? = some x,λi H x H'=>H'=H/\∀xs,SqL K H a xs->xs[i]? = some x,λi H=>∃xs,SqL K H a xs/\xs.length<=i⟩
¦Itt(K:W.Frag)(a:Addr):It :=
 ⟨λi H=>∃xs x,SqT K H a xs/\xs[i]? = some x,λi H x H'=>H'=H/\∀xs,SqT K H a xs->xs[i]? = some x,λi H=>∃xs,SqT K H a xs/\xs.length<=i⟩
¦Itr(lo:Int)(n:Nat):It:=⟨λi _=>i<n,λi H x H'=>H'=H/\x = .int (lo+i),λi _=>n<=i⟩
¤tV{P:Program}{w:World}{K:W.Frag}{tg:Expr}(a it:Addr):GM P w K tg (Itl K a) [it] it (λi h=>h.IsListIter it a i) where
 mem:=by simp
 obj:=λi h st b hb=>by
  !e:b=it:=by simpa using hb
  subst e;@o,e,c,d:=st;§o,e,(λv z=>by rw[d]at z;cases z)
 keep:=λi h h' st k=>st.at λo e=>k it (by simp) o e
 item:=by
  intro X hP hw hK hc i pins s σ H E I hf st hg;subst hP hw hK;@xs,x,hq,hx:=hg;@its,rv,p,hz:=I.list hq;@u,hu,ru:=rv.get hx;@f0,f1,f2,f3,f4,f5:=hf it (by simp);refine wpAny_pyNext_list_item st p.isList (x:=u) (by simpa using hu) λh' st' sb=>?_;!I1:Dn X pins σ H { s with heap:=h' }:=I.turned (t':=s.toks) (λb o hb e=>(sb.2 b hb).trans e) f0 f1 f3 f4 f5;@o,e,c,d:=id st';§u,rfl,m7 (s:={ s with heap:=h' }) e c d & ⟨x,H,I1,ru,⟨rfl,λys hy=>by rw[I.list_inj hy hq];#hx⟩,st',λb hb=>(hf b hb).1⟩
 done:=by
  intro X hP hw hK hc i pins s σ H E I hf st hg;subst hP hw hK;@xs,hq,hx:=hg;@its,rv,p,hz:=I.list hq;@f0,f1,f2,f3,f4,f5:=hf it (by simp);!hl:=rv.length;#wpAny_pyNext_list_end (I.ok.hd hc) st p.isList (by simp;~) λh' eb=>⟨rfl,I.turned (t':=s.toks) (λb o hb e=>eb b o hb e) f0 f1 f3 f4 f5⟩
 self:=λ_ _ _ _ _ st h=>wpAny_pyIter_listiter st h
¤qG{P:Program}{w:World}{K:W.Frag}{tg:Expr}(a it:Addr):GM P w K tg (Itt K a) [it] it (λi h=>h.IsTupleIter it a i) where
 mem:=by simp
 obj:=λi h st b hb=>by
  !e:b=it:=by simpa using hb
  subst e;@o,e,c,d:=st;§o,e,(λv z=>by rw[d]at z;cases z)
 keep:=λi h h' st k=>st.at λo e=>k it (by simp) o e
 item:=by
  intro X hP hw hK hc i pins s σ H E I hf st hg;subst hP hw hK;@xs,x,hq,hx:=hg;@its,rv,p,hz:=I.tuple hq;@u,hu,ru:=rv.get hx;@f0,f1,f2,f3,f4,f5:=hf it (by simp);refine wpAny_pyNext_tuple_item st (show s.heap.IsTuple a its.toArray from p) (x:=u) (by simpa using hu) λh' st' sb=>?_;!I1:Dn X pins σ H { s with heap:=h' }:=I.turned (t':=s.toks) (λb o hb e=>(sb.2 b hb).trans e) f0 f1 f3 f4 f5;@o,e,c,d:=id st';§u,rfl,m7 (s:={ s with heap:=h' }) e c d & ⟨x,H,I1,ru,⟨rfl,λys hy=>by rw[I.tuple_inj hy hq];#hx⟩,st',λb hb=>(hf b hb).1⟩
 done:=by
  intro X hP hw hK hc i pins s σ H E I hf st hg;subst hP hw hK;@xs,hq,hx:=hg;@its,rv,p,hz:=I.tuple hq;@f0,f1,f2,f3,f4,f5:=hf it (by simp);!hl:=rv.length;#wpAny_pyNext_tuple_end (I.ok.hd hc) st (show s.heap.IsTuple a its.toArray from p) (by simp;~) λh' eb=>⟨rfl,I.turned (t':=s.toks) (λb o hb e=>eb b o hb e) f0 f1 f3 f4 f5⟩
 self:=λ_ _ _ _ _ st h=>wpAny_pyIter_tupleiter st h
¤qH{P:Program}{w:World}{K:W.Frag}{tg:Expr}(it:Addr)(lo:Int)(n:Nat):GM P w K tg (Itr lo n) [it] it (λi h=>IsRangeIter h it (lo+(i:Nat)*1) ((n:Int) - (i:Nat)) 1) where
 mem:=by simp
 obj:=λi h st b hb=>by
  !e:b=it:=by simpa using hb
  subst e;#⟨_,st,λv z=>by
   !z':Data.fields _=Data.cell v:=z;cases z'⟩
 keep:=λi h h' st k=>k it (by simp) _ st
 item:=by
  intro X hP hw hK hc i pins s σ H E I hf st hg;subst hP hw hK;@f0,f1,f2,f3,f4,f5:=hf it (by simp);!W:=Walks.range (prog:=X.prog) (w:=X.w) (I.ok.hd hc) it lo 1 n;refine W.item i s _ _ hg st λv h' tk hv st' kk=>?_;@t,rfl:=hv;!I1:Dn X pins σ H { s with heap:=h',toks:=tk }:=I.turned (λb o hb e=>kk b o (by simpa using hb) e) f0 f1 f3 f4 f5;¶^,m7 (s:={ s with heap:=h',toks:=tk }) (n:="range_iterator") st' rfl rfl & ⟨.int (lo+i),H,I1,⟨t,?_⟩,⟨rfl,rfl⟩,st',λb hb=>(hf b hb).1⟩;rw[Int.mul_one]
 done:=by
  intro X hP hw hK hc i pins s σ H E I hf st hg;subst hP hw hK;@f0,f1,f2,f3,f4,f5:=hf it (by simp);#wpAny_pyNext_range_end (I.ok.hd hc) st (by !:n<=i:=hg;~) λh' eb=>⟨rfl,I.turned (t':=s.toks) (λb o hb e=>eb b o hb e) f0 f1 f3 f4 f5⟩
 self:=λ_ _ _ _ _ st h=>wpAny_pyIter_rangeiter st h
section
variable {X:Cx} {tg:Expr}
¦B9(K:W.Frag)(tl:TE):TI:=λσ H R=>tl σ H λx H1=>∃a,x = .ref a/\(∃xs,SqL K H1 a xs)/\R (Itl K a) H1
¦C7(K:W.Frag)(tl:TE):TI:=λσ H R=>tl σ H λx H1=>∃a,x = .ref a/\(∃xs,SqT K H1 a xs)/\R (Itt K a) H1
¤eG{l:Expr}{tl:TE}(hl:PE X l tl):PI X tg l (B9 X.K tl):=by
 intro pins s σ H R I h;refine thn (hl pins s σ H _ I h) λv s1 ⟨x,H1,I1,r1,q1⟩=>?_;@a,e,⟨xs,hq⟩,q:=q1;subst e;cases r1;@its,rv,p,hz:=I1.list hq;refine wpAny_pyIter_list p.isList ?_;¶s1.heap.objs.size,[s1.heap.objs.size],_,_,H1,rfl,I1.kept (t':=s1.toks) λb o e=>Heap.get?_push_of_some _ e,tV a _,⟨_,Heap.get?_push_size _ rfl,rfl,rfl⟩,λb hb=>?_,q;!e:b=s1.heap.objs.size:=by simpa using hb
 subst e;#I1.fpOk (Nat.le_refl _) (I1.hok.fresh (Nat.le_refl _))
¤Ad{l:Expr}{tl:TE}(hl:PE X l tl):PI X tg l (C7 X.K tl):=by
 intro pins s σ H R I h;refine thn (hl pins s σ H _ I h) λv s1 ⟨x,H1,I1,r1,q1⟩=>?_;@a,e,⟨xs,hq⟩,q:=q1;subst e;cases r1;@its,rv,p,hz:=I1.tuple hq;refine wpAny_pyIter_tuple (show s1.heap.IsTuple a its.toArray from p) ?_;¶s1.heap.objs.size,[s1.heap.objs.size],_,_,H1,rfl,I1.kept (t':=s1.toks) λb o e=>Heap.get?_push_of_some _ e,qG a _,⟨_,Heap.get?_push_size _ rfl,rfl,rfl⟩,λb hb=>?_,q;!e:b=s1.heap.objs.size:=by simpa using hb
 subst e;#I1.fpOk (Nat.le_refl _) (I1.hok.fresh (Nat.le_refl _))
¤oZ{pins:List (Addr×Obj)}{σ:St}{H:Hp}{s:Shared}{R:It->Hp->Prop}{E:Value->Shared->Prop}{lo hi:Int}{t u v:Tok}{tk:Nat}(I:Dn X pins σ H s)(h1:-(2^62)<=lo)(h2:lo<2^62)(h3:-(2^62)<=hi)(h4:hi<2^62)
  (q:R (Itr lo (hi - lo).toNat) H):wpAny (model X.prog X.w) X.A (pyIter (.ref s.heap.objs.size)) (PIE X pins σ tg R) E { s with heap:=s.heap.push { cls:=.type "range",data:=.fields #[.int lo t,.int hi u,.int 1 v] },toks:=tk }:=by
 refine wpAny_pyIter_range (IsRange.new ..) (small_one h1 h2 h3 h4) ?_;!I1:Dn X pins σ H { s with heap:=s.heap.push { cls:=.type "range",data:=.fields #[.int lo t,.int hi u,.int 1 v] },toks:=tk }:=I.kept λb o e=>Heap.get?_push_of_some _ e;refine⟨(s.heap.push { cls:=.type "range",data:=.fields #[.int lo t,.int hi u,.int 1 v] }).objs.size,[(s.heap.push { cls:=.type "range",data:=.fields #[.int lo t,.int hi u,.int 1 v] }).objs.size],_,_,H,rfl,
  I1.kept (t':=tk) λb o e=>Heap.get?_push_of_some _ e,qH _ lo (hi - lo).toNat,?_,λb hb=>?_,q⟩
 ·!e1:lo+((0:Nat):Int)*1=lo:=by simp
  !e2:(((hi - lo).toNat:Nat):Int) - ((0:Nat):Int)=Builtin.Range.rangeSize lo hi 1:=by rw[rangeSize_one];split <;> ~
  show IsRangeIter _ _ (lo+((0:Nat):Int)*1) ((((hi - lo).toNat:Nat):Int) - ((0:Nat):Int)) 1;rw[e1,e2];#Heap.get?_push_size _ rfl
 ·!e:b=(s.heap.push { cls:=.type "range",data:=.fields #[.int lo t,.int hi u,.int 1 v] }).objs.size:=by simpa using hb
  subst e;#I1.fpOk (Nat.le_refl _) (I1.hok.fresh (Nat.le_refl _))
¦BZ(ta:TA):TI:=λσ H R=>ta σ H λvs H1=>∃j:Int,vs = [.int j]/\-(2^62)<=j/\j<2^62/\R (Itr 0 j.toNat) H1
¦BY(ta:TA):TI:=λσ H R=>ta σ H λvs H1=>∃i j:Int,vs = [.int i,.int j]/\(-(2^62)<=i/\i<2^62/\-(2^62)<=j/\j<2^62)/\R (Itr i (j - i).toNat) H1
¤dh{a:Expr}{ta:TA}{p pos:Pos}(hg:Gl X "range")(hm:X.mg "range" = none)(ha:PA X [a] ta)(hs:starEach [a] X.env = [(false,eval a X.env)]:=by rfl):PI X tg (.Call (.Name "range" p) [a] [] pos) (BZ ta):=by
 intro pins s σ H R I h;refine Call_ (gI I hg hm boot_range (PyProof.Rows.callWith_type1 (thn (ha pos pins s σ H _ I h) λus s1 ⟨vs,H1,I1,r1,q1⟩=>?_) hs rfl));@j,e,q1,q2,q:=q1;subst e;cases r1 with
 | cons r rr =>
  cases rr;@t,rfl:=r;#call_range_1 (oZ I1 ~ ~ q1 q2 (by simpa using q))
¤ji{a b:Expr}{ta:TA}{p pos:Pos}(hg:Gl X "range")(hm:X.mg "range" = none)(ha:PA X [a,b] ta)(hs:starEach [a,b] X.env = [(false,eval a X.env),(false,eval b X.env)]:=by rfl)(hs2:starEach [b] X.env = [(false,eval b X.env)]:=by rfl) :
  PI X tg (.Call (.Name "range" p) [a,b] [] pos) (BY ta):=by
 intro pins s σ H R I h;refine Call_ (gI I hg hm boot_range (PyProof.Rows.callWith_type1 (thn (ha pos pins s σ H _ I h) λus s1 ⟨vs,H1,I1,r1,q1⟩=>?_) (by rw[hs,hs2]) (by rw[hs2];rfl)));@i,j,e,⟨q1,q2,q3,q4⟩,q:=q1;subst e;cases r1 with
 | cons r rr =>
  cases rr with
  | cons r' rr =>
   cases rr;@t,rfl:=r;@t',rfl:=r';#call_range_2 (oZ I1 q1 q2 q3 q4 q)
¦CU(wi:TI)(g:TG)(tb:TS):TS:=λD σ H=>wi σ H λJ H1=>∃W:Nat->Nat->St->Hp->Prop,(∃m,W 0 m σ H1)/\∀i m σ H,W i m σ H ->
 (J.stop i H/\D.nx σ H)\/(J.go i H/\∃N:St->Hp->Prop,(∀σ' H',N σ' H'->∃m',m'<m/\W (i+1) m' σ' H')/\∀x H',J.yld i H x H'->g x σ H' λσ2 H2=>tb { D with nx:=N,ct:=N,bk:=D.nx } σ2 H2)
¦kT(fp:List Addr)(h:Heap):List (Addr×Obj):=fp.filterMap λb=>(h.get? b).map λo=>(b,o)
¤d9{fp:List Addr}{h:Heap}{b:Addr}{o:Obj}(hb:b∈fp)(e:h.get? b=some o):(b,o)∈kT fp h:=List.mem_filterMap.mpr ⟨b,hb,by rw[e];rfl⟩
¤uf{fp:List Addr}{h:Heap}{p:Addr×Obj}(hp:p∈kT fp h):p.1∈fp/\h.get? p.1=some p.2:=by
 @b,hb,e:=List.mem_filterMap.mp hp;cases q:h.get? b with
 | none=>rw[q]at e;cases e
 | some o =>
  rw[q]at e;!e':(b,o)=p:=Option.some.inj e;subst e';§hb,q
¤Dn.pinned{pins:List (Addr×Obj)}{σ:St}{H:Hp}{s:Shared}{fp:List Addr}(I:Dn X pins σ H s)(hf:∀b∈fp,gi X pins H b)(ho:∀b∈fp,∃o,s.heap.get? b=some o/\∀v,o.data≠.cell v):Dn X (pins++kT fp s.heap) σ H s :=
 I.pins_of λp hp=>(List.mem_append.mp hp).elim (λz=>I.pin p (List.mem_append_right _ z)) λz=>by
  @hb,e:=uf z;@f0,f1,f2,_:=hf p.1 hb;@o,e',d:=ho p.1 hb;rw[e]at e';cases e';§e,f0,f1,f2,d
¤Dn.unpinned{pins pl:List (Addr×Obj)}{σ:St}{H:Hp}{s:Shared}(I:Dn X (pins++pl) σ H s):Dn X pins σ H s:=I.pins_of λp hp=>I.pin p (List.mem_append_right _ (List.mem_append_left _ hp))
¤cj{iter:Expr}{body:List Stmt}{wi:TI}{g:TG}{tb:TS}{pos:Pos}(hp:PassesOwn (model X.prog X.w) X.A X.env X.xe)(hc:X.calm=true)(hi:PI X tg iter wi)(hg:PG X tg g)(hb:PSs X body tb)
  (hs:∀x,foldedSetIterable iter X.env x=pure x:=by intro _;rfl):PS X (.For tg iter body [] pos) (CU wi g tb):=by
 intro pins s σ H D I h;refine wpAny_For (thn (hi pins s σ H _ I h) λv s1 h1=>thn h1 λitv s2 h2=>?_) hs;@it,fp,tn,J,H2,e,I2,T,st2,f2,W,⟨m0,w0⟩,turn:=h2;subst e;!stat:∀{H':Hp},(∀b∈fp,H' b=none)->∀b∈fp,gi X pins H' b:=λhn b hb=>⟨hn b hb,(f2 b hb).2⟩;refine codeAny_forLoop_any (λn s'=>∃i σ' H',Dn X pins σ' H' s'/\tn i s'.heap/\(∀b∈fp,H' b=none)/\W i n σ' H') ?_ m0 ⟨0,σ,H2,I2,st2,λb hb=>(f2 b hb).1,w0⟩;rintro n s3 ⟨i,σ3,H3,I3,st3,fr3,w3⟩;rcases turn i n σ3 H3 w3 with⟨stop,qn⟩|⟨go,N,hN,step⟩
 ·refine wpAny_passesOwn hp (thn (T.done X rfl rfl rfl hc i pins s3 σ3 H3 X.xe I3 (stat fr3) st3 stop) λr s4 ⟨hr,I4⟩=>?_)
  subst hr;#wpAny_execs_nil ⟨σ3,H3,I4,qn⟩
 ·refine wpAny_passesOwn hp (thn (T.item X rfl rfl rfl hc i pins s3 σ3 H3 X.xe I3 (stat fr3) st3 go) λr s4 ⟨u,hr,h4⟩=>?_)
  subst hr;refine wpAny_passesOwn hp (thn h4 λ_ s5 ⟨x,H5,I5,r5,y5,st5,fr5⟩=>?_);!I5':=I5.pinned (stat fr5) (T.obj _ _ st5);refine wpAny_passesOwn hp (thn (hg _ s5 σ3 H5 x u _ I5' r5 (step x H5 y5)) λ_ s6 ⟨σ6,H6,I6,q6⟩=>?_);refine wpAny_passesOwn hp (thn (hb _ s6 σ6 H6 _ I6 q6) λf s7 q7=>?_);!again:∀{σ7:St} {H7:Hp},Dn X (pins++kT fp s5.heap) σ7 H7 s7->N σ7 H7->∃m,m<n/\∃i σ' H',Dn X pins σ' H' s7/\tn i s7.heap/\(∀b∈fp,H' b=none)/\W i m σ' H':=λ{σ7 H7} I7 n7=>by
   @m',hm,w7:=hN σ7 H7 n7;¶m',hm,i+1,σ7,H7,I7.unpinned,T.keep _ _ _ st5 λb hb o e=>(I7.pin (b,o) (List.mem_append_right _ (List.mem_append_right _ (d9 hb e)))).1,λb hb=>?_,w7;@o,e,d:=T.obj _ _ st5 b hb;#(I7.pin (b,o) (List.mem_append_right _ (List.mem_append_right _ (d9 hb e)))).2.1
  cases f with
  | next=>@σ7,H7,I7,n7:=q7;#again I7 n7
  | cont=>@σ7,H7,I7,n7:=q7;#again I7 n7
  | brk=>@σ7,H7,I7,q7:=q7;§σ7,H7,I7.unpinned,q7
  | ret v=>@x7,σ7,H7,I7,r7,q7:=q7;§x7,σ7,H7,I7.unpinned,r7,q7
end
¤fQ{K:W.Frag}{a:Addr}{xs:List V}{g:TG}{tb:TS}{D:FS}{σ:St}{H:Hp}(Pv:Nat->St->Hp->Prop)(h0:Pv 0 σ H)(hl:∀i σ H,i<=xs.length->Pv i σ H->SqL K H a xs)
  (hs:∀i x σ H,xs[i]? = some x->Pv i σ H->g x σ H λσ2 H2=>tb { D with nx:=Pv (i+1),ct:=Pv (i+1),bk:=D.nx } σ2 H2) (hd:∀σ H,Pv xs.length σ H->D.nx σ H) :
  ∃W:Nat->Nat->St->Hp->Prop,(∃m,W 0 m σ H)/\∀i m σ H,W i m σ H ->
   ((Itl K a).stop i H/\D.nx σ H)\/((Itl K a).go i H/\∃N:St->Hp->Prop,(∀σ' H',N σ' H'->∃m',m'<m/\W (i+1) m' σ' H')/\∀x H',(Itl K a).yld i H x H'->g x σ H' λσ2 H2=>tb { D with nx:=N,ct:=N,bk:=D.nx } σ2 H2):=by
 ?λi m σ H=>m=xs.length - i/\i<=xs.length/\Pv i σ H,⟨xs.length,by simp,Nat.zero_le _,h0⟩;rintro i m σ H ⟨rfl,hi,p⟩;!q:=hl i σ H hi p
 by_cases hlt:i<xs.length
 ·refine .inr ⟨⟨xs,xs[i],q,by simp[hlt]⟩,Pv (i+1),λσ' H' p'=>⟨xs.length - (i+1),~,rfl,hlt,p'⟩,λx H' y=>?_⟩
  @e,y:=y;subst e;#hs i x σ _ (y xs q) p
 ·!e:i=xs.length:= ~
  subst e;#.inl ⟨⟨xs,q,Nat.le_refl _⟩,hd σ H p⟩
¤ym{K:W.Frag}{a:Addr}{xs:List V}{g:TG}{tb:TS}{D:FS}{σ:St}{H:Hp}(Pv:Nat->St->Hp->Prop)(h0:Pv 0 σ H)(hl:∀i σ H,i<=xs.length->Pv i σ H->SqT K H a xs)
  (hs:∀i x σ H,xs[i]? = some x->Pv i σ H->g x σ H λσ2 H2=>tb { D with nx:=Pv (i+1),ct:=Pv (i+1),bk:=D.nx } σ2 H2) (hd:∀σ H,Pv xs.length σ H->D.nx σ H) :
  ∃W:Nat->Nat->St->Hp->Prop,(∃m,W 0 m σ H)/\∀i m σ H,W i m σ H ->
   ((Itt K a).stop i H/\D.nx σ H)\/((Itt K a).go i H/\∃N:St->Hp->Prop,(∀σ' H',N σ' H'->∃m',m'<m/\W (i+1) m' σ' H')/\∀x H',(Itt K a).yld i H x H'->g x σ H' λσ2 H2=>tb { D with nx:=N,ct:=N,bk:=D.nx } σ2 H2):=by
 ?λi m σ H=>m=xs.length - i/\i<=xs.length/\Pv i σ H,⟨xs.length,by simp,Nat.zero_le _,h0⟩;rintro i m σ H ⟨rfl,hi,p⟩;!q:=hl i σ H hi p
 by_cases hlt:i<xs.length
 ·refine .inr ⟨⟨xs,xs[i],q,by simp[hlt]⟩,Pv (i+1),λσ' H' p'=>⟨xs.length - (i+1),~,rfl,hlt,p'⟩,λx H' y=>?_⟩
  @e,y:=y;subst e;#hs i x σ _ (y xs q) p
 ·!e:i=xs.length:= ~
  subst e;#.inl ⟨⟨xs,q,Nat.le_refl _⟩,hd σ H p⟩
¤cU{lo:Int}{n:Nat}{g:TG}{tb:TS}{D:FS}{σ:St}{H:Hp}(Pv:Nat->St->Hp->Prop)(h0:Pv 0 σ H)
  (hs:∀i σ H,i<n->Pv i σ H->g (.int (lo+i)) σ H λσ2 H2=>tb { D with nx:=Pv (i+1),ct:=Pv (i+1),bk:=D.nx } σ2 H2) (hd:∀σ H,Pv n σ H->D.nx σ H) :
  ∃W:Nat->Nat->St->Hp->Prop,(∃m,W 0 m σ H)/\∀i m σ H,W i m σ H ->
   ((Itr lo n).stop i H/\D.nx σ H)\/((Itr lo n).go i H/\∃N:St->Hp->Prop,(∀σ' H',N σ' H'->∃m',m'<m/\W (i+1) m' σ' H')/\∀x H',(Itr lo n).yld i H x H'->g x σ H' λσ2 H2=>tb { D with nx:=N,ct:=N,bk:=D.nx } σ2 H2):=by
 ?λi m σ H=>m=n - i/\i<=n/\Pv i σ H,⟨n,by simp,Nat.zero_le _,h0⟩;rintro i m σ H ⟨rfl,hi,p⟩
 by_cases hlt:i<n
 ·refine .inr ⟨hlt,Pv (i+1),λσ' H' p'=>⟨n - (i+1),~,rfl,hlt,p'⟩,λx H' y=>?_⟩
  @e,y:=y;subst e y;#hs i σ _ hlt p
 ·!e:i=n:= ~
  subst e;#.inl ⟨Nat.le_refl _,hd σ H p⟩
¤eI{c:TT}{tb:TS}{D:FS}{σ:St}{H:Hp}(Pv:St->Hp->Prop)(μ:St->Hp->Nat)(h0:Pv σ H)
  (hs:∀σ H,Pv σ H->c σ H λb H1=>if b=true then tb { D with nx:=λσ' H'=>Pv σ' H'/\μ σ' H'<μ σ H,ct:=λσ' H'=>Pv σ' H'/\μ σ' H'<μ σ H,bk:=D.nx } σ H1 else D.nx σ H1)
  (mono:∀σ H Q Q',(∀b H1,Q b H1->Q' b H1)->c σ H Q->c σ H Q'):u7 c tb D σ H:=by
 ?λm σ H=>m=μ σ H/\Pv σ H,⟨_,rfl,h0⟩;rintro m σ H ⟨rfl,p⟩;refine mono σ H _ _ (λb H1 q=>?_) (hs σ H p);cases b with
 | true=>§_,λσ' H' ⟨p',l⟩=>⟨_,l,rfl,p'⟩,q
 | false=>#q
noncomputable abbrev R2:=V->V->Hp->VK->Prop
¦OpR(X:Cx)(f:Value->Value->Sem Value)(r:R2):Prop :=
 ∀(pins:List (Addr×Obj)) (s:Shared) (σ:St) (H:Hp) (x y:V) (v u:Value) (Q:VK),Dn X pins σ H s->bz x v->bz y u->r x y H Q ->
  wpAny (model X.prog X.w) X.A (f v u) (EP X pins σ Q) X.xe s
¦UnR(X:Cx)(f:Value->Sem Value)(r:V->Hp->VK->Prop):Prop :=
 ∀(pins:List (Addr×Obj)) (s:Shared) (σ:St) (H:Hp) (x:V) (v:Value) (Q:VK),Dn X pins σ H s->bz x v->r x H Q ->
  wpAny (model X.prog X.w) X.A (f v) (EP X pins σ Q) X.xe s
¦g8(X:Cx)(f:Value)(r:List V->Hp->VK->Prop):Prop :=
 ∀(pins:List (Addr×Obj)) (s:Shared) (σ:St) (H:Hp) (xs:List V) (us:List Value) (Q:VK),Dn X pins σ H s->aZ xs us->r xs H Q ->
  wpAny (model X.prog X.w) X.A (call f us) (EP X pins σ Q) X.xe s
¦tOp(r:R2)(ta tb:TE):TE:=λσ H Q=>ta σ H λx H1=>tb σ H1 λy H2=>r x y H2 Q
¦tUn(r:V->Hp->VK->Prop)(ta:TE):TE:=λσ H Q=>ta σ H λx H1=>r x H1 Q
inductive rI (C:Int->Int->Prop) (g:Int->Int->V) (x y:V) (H:Hp) (Q:VK):Prop
 | mk (i j:Int) (e:x = .int i) (f:y = .int j) (c:C i j) (q:Q (g i j) H):rI C g x y H Q
inductive JR (g:Int->Int->V) (x y:V) (H:Hp) (Q:VK):Prop
 | mk (i j:Int) (e:x = .int i) (f:y = .int j) (q:Q (g i j) H):JR g x y H Q
¦rU(g:Int->V):V->Hp->VK->Prop:=λx H Q=>∃i,x = .int i/\Q (g i) H
section
variable {X:Cx} {a b c:Expr} {ta tb tc:TE} {pos:Pos}
¤Bb(ha:PE X a ta)(hb:PE X b tb){pins:List (Addr×Obj)}{s:Shared}{σ:St}{H:Hp}{R:V->V->Hp->Prop}(I:Dn X pins σ H s)
  (h:ta σ H λx H1=>tb σ H1 λy H2=>R x y H2) {Q:Value->Shared->Prop} {f:Value->Value->Sem Value}
  (hf:∀v u s2 x y H2,Dn X pins σ H2 s2->bz x v->bz y u->R x y H2->wpAny (model X.prog X.w) X.A (f v u) Q X.xe s2) :
  wpAny (model X.prog X.w) X.A (eval a X.env) (λv s₁=>wpAny (model X.prog X.w) X.A (eval b X.env) (λu s₂=>wpAny (model X.prog X.w) X.A (f v u) Q X.xe s₂) X.xe s₁) X.xe s:=by
 refine thn (ha pins s σ H _ I h) λv s1 ⟨x,H1,I1,r1,q1⟩=>?_;refine thn (hb pins s1 σ H1 _ I1 q1) λu s2 ⟨y,H2,I2,r2,q2⟩=>?_;#hf v u s2 x y H2 I2 r1 r2 q2
¤ay{op:Operator}{r:R2}(ho:OpR X (binaryOp op) r)(ha:PE X a ta)(hb:PE X b tb):PE X (.BinOp a op b pos) (tOp r ta tb):=by
 intro pins s σ H Q I h;#wpAny_BinOp (Bb ha hb I h λv u s2 x y H2 I2 rx ry q=>ho pins s2 σ H2 x y v u Q I2 rx ry q)
¤eM{op:UnaryOp}{r:V->Hp->VK->Prop}(ho:UnR X (unaryOp op) r)(ha:PE X a ta):PE X (.UnaryOp op a pos) (tUn r ta):=by
 intro pins s σ H Q I h;#UnaryOp_ (thn (ha pins s σ H _ I h) λv s1 ⟨x,H1,I1,r1,q1⟩=>ho pins s1 σ H1 x v Q I1 r1 q1)
¤opI{f:Value->Value->Sem Value}{C:Int->Int->Prop}{g:Int->Int->Int}
  (rule:∀(i j:Int) (t u:Tok) (s:Shared) (Q:Value->Shared->Prop) (E:Value->Shared->Prop),C i j->Q (.int (g i j) s.toks) { s with toks:=s.toks+1 }->wpAny (model X.prog X.w) X.A (f (.int i t) (.int j u)) Q E s) :
  OpR X f (rI C λi j=>.int (g i j)):=by
 intro pins s σ H x y v u Q I rx ry h;@i,j,rfl,rfl,hc,q:=h;@t,rfl:=rx;@t',rfl:=ry;#rule i j t t' s _ _ hc ⟨.int (g i j),H,I.tok _,⟨_,rfl⟩,q⟩
¤BT{f:Value->Value->Sem Value}{g:Int->Int->Int}
  (rule:∀(i j:Int) (t u:Tok) (s:Shared) (Q:Value->Shared->Prop) (E:Value->Shared->Prop),Q (.int (g i j) s.toks) { s with toks:=s.toks+1 }->wpAny (model X.prog X.w) X.A (f (.int i t) (.int j u)) Q E s) :
  OpR X f (JR λi j=>.int (g i j)):=by
 intro pins s σ H x y v u Q I rx ry h;@i,j,rfl,rfl,q:=h;@t,rfl:=rx;@t',rfl:=ry;#rule i j t t' s _ _ ⟨.int (g i j),H,I.tok _,⟨_,rfl⟩,q⟩
¤xW{f:Value->Value->Sem Value}{g:Int->Int->Bool}
  (rule:∀(i j:Int) (t u:Tok) (s:Shared) (Q:Value->Shared->Prop) (E:Value->Shared->Prop),Q (.bool (g i j)) s->wpAny (model X.prog X.w) X.A (f (.int i t) (.int j u)) Q E s) :
  OpR X f (JR λi j=>.bl (g i j)):=by
 intro pins s σ H x y v u Q I rx ry h;@i,j,rfl,rfl,q:=h;@t,rfl:=rx;@t',rfl:=ry;#rule i j t t' s _ _ ⟨.bl (g i j),H,I,rfl,q⟩
¦CC(i j:Int):Prop:=0<=j/\j<=1000000/\i.natAbs<2^64
¦yR(i j:Int):Prop:=(-(2^64)<i/\i<2^64)\/(-(2^64)<j/\j<2^64)
¤yR.ok{i j:Int}(h:yR i j):IntMulOk i j:=by
 rcases h with⟨h1,h2⟩|⟨h1,h2⟩
 ·#.of_left (intBits_le_64 h1 h2)
 ·#.of_right (intBits_le_64 h1 h2)
¤aS:OpR X (binaryOp .Add) (JR λi j=>.int (i+j)):=BT λ_ _ _ _ _ _ _ q=>add_int q
¤aP:OpR X (binaryOp .Sub) (JR λi j=>.int (i - j)):=BT λ_ _ _ _ _ _ _ q=>sub_int q
¤gG:OpR X (binaryOp .Mod) (rI (λ_ j=>0<j) λi j=>.int (i % j)):=opI λi j _ _ _ _ _ hc q=>by
 !h1:(0:Int)<j:=hc;#mod_int' ~ (by rw[Int.fmod_eq_emod_of_nonneg i ~];#q)
¤hZ:OpR X (binaryOp .Pow) (rI CC λi j=>.int (i^j.toNat)):=opI λ_ _ _ _ _ _ _ hc q=>pow_int_small hc.1 hc.2.1 hc.2.2 q
¤vI:OpR X (binaryOp .LShift) (rI CC λi j=>.int (i*2^j.toNat)):=opI λ_ _ _ _ _ _ _ hc q=>lshift_int_small hc.1 hc.2.1 hc.2.2 q
¤unI{f:Value->Sem Value}{g:Int->Int}
  (rule:∀(i:Int) (t:Tok) (s:Shared) (Q:Value->Shared->Prop) (E:Value->Shared->Prop),Q (.int (g i) s.toks) { s with toks:=s.toks+1 }->wpAny (model X.prog X.w) X.A (f (.int i t)) Q E s) :
  UnR X f (rU λi=>.int (g i)):=by
 intro pins s σ H x v Q I rx h;@i,rfl,q:=h;@t,rfl:=rx;#rule i t s _ _ ⟨.int (g i),H,I.tok _,⟨_,rfl⟩,q⟩
¤dn:UnR X (unaryOp .USub) (rU λi=>.int (-i)):=unI λ_ _ _ _ _ q=>neg_int q
end
¦BI:V->V->Bool
 | .non,.non=>true | .non,.int _=>true | .int _,.non=>true | .non,.bl _=>true | .bl _,.non=>true | .non,.str _=>true | .str _,.non=>true
 | .int _,.int _=>true | .bl _,.bl _=>true | .str _,.str _=>true | .byt _,.byt _=>true
 | .int _,.str _=>true | .str _,.int _=>true | .bl _,.str _=>true | .str _,.bl _=>true
 | _,_=>false
inductive K1 (x y:V) (H:Hp) (Q:VK):Prop
 | mk (s:BI x y=true) (q:Q (.bl (decide (x=y))) H):K1 x y H Q
inductive KZ (x y:V) (H:Hp) (Q:VK):Prop
 | mk (s:BI x y=true) (q:Q (.bl (!decide (x=y))) H):KZ x y H Q
¤tH{i j:Int}:decide (V.int i=V.int j)=(i == j):=by
 rw[Bool.eq_iff_iff];simp
¤wQ{i j:Bool}:decide (V.bl i=V.bl j)=(i == j):=by
 rw[Bool.eq_iff_iff];simp
¤tG{i j:Str}:decide (V.str i=V.str j)=(i == j):=by
 rw[Bool.eq_iff_iff];simp
¤tI{i j:Array UInt8}:decide (V.byt i=V.byt j)=(i.toList == j.toList):=by
 rw[Bool.eq_iff_iff];cases i;cases j;simp
section
variable {X:Cx} {a b c:Expr} {ta tb tc:TE} {pos:Pos}
¤bO{pins:List (Addr×Obj)}{σ:St}{H:Hp}{s:Shared}{Q:VK}{k k':Bool}(I:Dn X pins σ H s)(q:Q (.bl k) H)(e:k=k'):EP X pins σ Q (.bool k') s:=by
 subst e;§.bl k,H,I,rfl,q
¤bP:OpR X (compareOp .Eq) K1:=by
 intro pins s σ H x y v u Q I rx ry h;@hs,q:=h;cases x with
 | non =>
  cases rx;cases y with
  | non=>cases ry;#PySem.EqNone.eq_none_none (bO I q (by simp))
  | bl j=>cases ry;#PySem.EqNone.eq_none_bool (bO I q (by simp))
  | int j=>@t',rfl:=ry;#PySem.EqNone.eq_none_int (bO I q (by simp))
  | str j=>@t',rfl:=ry;#PySem.EqNone.eq_none_str (bO I q (by simp))
  | _=>#absurd (show false=true from hs) Bool.false_ne_true
 | bl i =>
  cases rx;cases y with
  | non=>cases ry;#PySem.EqNone.eq_bool_none (bO I q (by simp))
  | bl j=>cases ry;#eq_bool (bO I q wQ)
  | str j=>@t',rfl:=ry;#PySem.EqMixed.eq_bool_str (bO I q (by simp))
  | _=>#absurd (show false=true from hs) Bool.false_ne_true
 | int i =>
  @t,rfl:=rx;cases y with
  | non=>cases ry;#PySem.EqNone.eq_int_none (bO I q (by simp))
  | int j=>@t',rfl:=ry;#eq_int (bO I q tH)
  | str j=>@t',rfl:=ry;#PySem.EqMixed.eq_int_str (bO I q (by simp))
  | _=>#absurd (show false=true from hs) Bool.false_ne_true
 | str i =>
  @t,rfl:=rx;cases y with
  | non=>cases ry;#PySem.EqNone.eq_str_none (bO I q (by simp))
  | bl j=>cases ry;#PySem.EqMixed.eq_str_bool (bO I q (by simp))
  | int j=>@t',rfl:=ry;#PySem.EqMixed.eq_str_int (bO I q (by simp))
  | str j=>@t',rfl:=ry;#eq_str (bO I q tG)
  | _=>#absurd (show false=true from hs) Bool.false_ne_true
 | byt i =>
  @t,rfl:=rx;cases y with
  | byt j=>@t',rfl:=ry;#W.eq_bytes (bO I q tI)
  | _=>#absurd (show false=true from hs) Bool.false_ne_true
 | _=>cases y <;> #absurd (show false=true from hs) Bool.false_ne_true
¤gF:OpR X (compareOp .NotEq) KZ:=by
 intro pins s σ H x y v u Q I rx ry h;@hs,q:=h;cases x with
 | non =>
  cases rx;cases y with
  | non=>cases ry;#PySem.EqNone.ne_none_none (bO I q (by simp))
  | bl j=>cases ry;#PySem.EqNone.ne_none_bool (bO I q (by simp))
  | int j=>@t',rfl:=ry;#PySem.EqNone.ne_none_int (bO I q (by simp))
  | str j=>@t',rfl:=ry;#PySem.EqNone.ne_none_str (bO I q (by simp))
  | _=>#absurd (show false=true from hs) Bool.false_ne_true
 | bl i =>
  cases rx;cases y with
  | non=>cases ry;#PySem.EqNone.ne_bool_none (bO I q (by simp))
  | bl j=>cases ry;#ne_bool (bO I q (congrArg not wQ))
  | str j=>@t',rfl:=ry;#PySem.EqMixed.ne_bool_str (bO I q (by simp))
  | _=>#absurd (show false=true from hs) Bool.false_ne_true
 | int i =>
  @t,rfl:=rx;cases y with
  | non=>cases ry;#PySem.EqNone.ne_int_none (bO I q (by simp))
  | int j=>@t',rfl:=ry;#ne_int (bO I q (congrArg not tH))
  | str j=>@t',rfl:=ry;#PySem.EqMixed.ne_int_str (bO I q (by simp))
  | _=>#absurd (show false=true from hs) Bool.false_ne_true
 | str i =>
  @t,rfl:=rx;cases y with
  | non=>cases ry;#PySem.EqNone.ne_str_none (bO I q (by simp))
  | bl j=>cases ry;#PySem.EqMixed.ne_str_bool (bO I q (by simp))
  | int j=>@t',rfl:=ry;#PySem.EqMixed.ne_str_int (bO I q (by simp))
  | str j=>@t',rfl:=ry;#ne_str (bO I q (congrArg not tG))
  | _=>#absurd (show false=true from hs) Bool.false_ne_true
 | byt i =>
  @t,rfl:=rx;cases y with
  | byt j=>@t',rfl:=ry;#W.ne_bytes (bO I q (congrArg not tI))
  | _=>#absurd (show false=true from hs) Bool.false_ne_true
 | _=>cases y <;> #absurd (show false=true from hs) Bool.false_ne_true
¤dH:OpR X (compareOp .Lt) (JR λi j=>.bl (decide (i<j))):=xW λ_ _ _ _ _ _ _ q=>lt_int q
¤k6:OpR X (compareOp .LtE) (JR λi j=>.bl (decide (i<=j))):=xW λ_ _ _ _ _ _ _ q=>le_int q
¤mW:OpR X (compareOp .Gt) (JR λi j=>.bl (decide (j<i))):=xW λ_ _ _ _ _ _ _ q=>gt_int q
¤k7:OpR X (compareOp .GtE) (JR λi j=>.bl (decide (j<=i))):=xW λ_ _ _ _ _ _ _ q=>ge_int q
¤fW:OpR X (compareOp .Is) (λx y H Q=>y = .non/\Q (.bl (decide (x = .non))) H):=by
 intro pins s σ H x y v u Q I rx ry h;@rfl,q:=h;cases ry;refine is_none_gen (bO I q ?_);cases x <;> first
  | (cases rx;rfl)
  | (@t,rfl:=rx;rfl)
¤gQ:OpR X (compareOp .IsNot) (λx y H Q=>y = .non/\Q (.bl (!decide (x = .non))) H):=by
 intro pins s σ H x y v u Q I rx ry h;@rfl,q:=h;cases ry;refine isnot_none_gen (bO I q ?_);cases x <;> first
  | (cases rx;rfl)
  | (@t,rfl:=rx;rfl)
¤aG(b:Expr){op:CmpOp}(h:op≠.In:=by decide)(h2:op≠.NotIn:=by decide):behindInMarks op b=false:=by
 !e1:(op == CmpOp.In)=false:=by cases op <;> first|rfl|#absurd rfl h
 !e2:(op == CmpOp.NotIn)=false:=by cases op <;> first|rfl|#absurd rfl h2
 cases b <;> simp[behindInMarks,e1,e2]
¤dj{op:CmpOp}{r:R2}(ho:OpR X (compareOp op) r)(ha:PE X a ta)(hb:PE X b tb)(hm:behindInMarks op b=false):PE X (.Compare a [op] [b] pos) (tOp r ta tb):=by
 intro pins s σ H Q I h;#wpAny_Compare1 (Bb ha hb I h λv u s2 x y H2 I2 rx ry q=>ho pins s2 σ H2 x y v u Q I2 rx ry q) hm
inductive K2 (x:V) (H:Hp) (Q:Bool->Hp->Prop):Prop
 | mk (k:Bool) (e:x = .bl k) (q:Q k H):K2 x H Q
¦Br(t:TE):TT:=λσ H Q=>t σ H λx H'=>K2 x H' Q
¤aE{op:CmpOp}{r:R2}(ho:OpR X (compareOp op) r)(ha:PE X a ta)(hb:PE X b tb)(hm:behindInMarks op b=false):PT X (.Compare a [op] [b] pos) (Br (tOp r ta tb)):=by
 intro pins s σ H Q I h;refine wpAny_isTrue_Compare1 (thn (ha pins s σ H _ I h) λv s1 ⟨x,H1,I1,r1,q1⟩=>thn (hb pins s1 σ H1 _ I1 q1) λu s2 ⟨y,H2,I2,r2,q2⟩ =>
  thn (ho pins s2 σ H2 x y v u _ I2 r1 r2 q2) λc s3 ⟨z,H3,I3,r3,k,e,q3⟩=>?_) hm
 subst e;cases r3;#wpAny_truthy_bool ⟨H3,I3,q3⟩
¤og:(sizeLine:Nat)<2^63:=by rw[sizeLine_eq];decide
¤kG{x:V}{us:List Value}(r:aZ [x] us):∃u,us = [u]/\bz x u:=by
 cases r with
 | cons r1 r2=>cases r2;§^,r1
¤rO{x y:V}{us:List Value}(r:aZ [x,y] us):∃u w',us = [u,w']/\bz x u/\bz y w':=by
 cases r with
 | cons r1 r2 =>
  cases r2 with
  | cons r3 r4=>cases r4;§_,^,r1,r3
¤fS:g8 X (.builtin "abs") (λxs H Q=>∃i,xs = [.int i]/\Q (.int (if i<0 then -i else i)) H):=by
 intro pins s σ H xs us Q I r h;@i,rfl,q:=h;@u,rfl,t,rfl:=kG r;#call_abs_int λu tk=>⟨.int (if i<0 then -i else i),H,I.tok _,⟨_,rfl⟩,q⟩
¤uO(hc:X.calm=true):g8 X (.builtin "max") (λxs H Q=>∃i j,xs = [.int i,.int j]/\Q (.int (if j>i then j else i)) H):=by
 intro pins s σ H xs us Q I r h;@i,j,rfl,q:=h;@u,w',rfl,⟨t,rfl⟩,⟨t',rfl⟩:=rO r;refine max_two_ints (I.ok.hd hc) λh' tk k=>⟨_,H,I.kept k,?_,q⟩
 by_cases hj:j>i
 ·rw[if_pos hj,if_pos hj];§^
 ·rw[if_neg hj,if_neg hj];§^
¤jC(hc:X.calm=true):g8 X (.builtin "min") (λxs H Q=>∃i j,xs = [.int i,.int j]/\Q (.int (if j<i then j else i)) H):=by
 intro pins s σ H xs us Q I r h;@i,j,rfl,q:=h;@u,w',rfl,⟨t,rfl⟩,⟨t',rfl⟩:=rO r;refine min_two_ints (I.ok.hd hc) λh' tk k=>⟨_,H,I.kept k,?_,q⟩
 by_cases hj:j<i
 ·rw[if_pos hj,if_pos hj];§^
 ·rw[if_neg hj,if_neg hj];§^
end
structure Jg(h:Heap)(x dx C:Addr)(mA:Str->Option Value):Prop where
 obj:h.get? x=some (W.instObj C dx)
 ns:h.Ns1 dx mA
 ne:dx≠x
¤uq{h:Heap}{dx:Addr}{mA:Str->Option Value}(n:h.Ns1 dx mA):∃od,h.get? dx=some od/\∀name,W.lookIn name od=some (mA name):=by
 @o,es,ep,ho,hd,hk,_,hm:=n;¶o,ho,λname=>?_;!e:=hm name;unfold nsFind findBy at e;rw[<- Array.find?_toList]at e;unfold W.lookIn;rw[hd];dsimp only
 split
 ·rename_i y q
  rw[q]at e;#congrArg some e
 ·rename_i q
  rw[q]at e;!a:es.toList.any (·.refKey)=false:=by
   rw[List.any_eq_false];intro y hy;@z,t,hkey:=hk y (Array.mem_toList_iff.mp hy);simp[DictEntry.refKey,hkey]
  !a':¬es.toList.any (·.refKey)=true:=by rw[a];#Bool.false_ne_true
  rw[if_neg a'];#congrArg some e
¤Jg.look{h:Heap}{x dx C:Addr}{mA:Str->Option Value}(I:Jg h x dx C mA):∃od,W.InstAt h x (W.instObj C dx) C (some od)/\∀name,W.lookIn name od=some (mA name) :=
 let ⟨od,ho,hl⟩:=uq I.ns
 ⟨od,⟨I.obj,rfl,rfl,ho⟩,hl⟩
section
variable {prog:Program} {w:World} {A:Around} {E:Value->Shared->Prop} {s:Shared} {K:W.Frag} {x dx C f:Addr} {mA:Str->Option Value} {name:Str} {v:Value}
¤yj{expr:Bool}{Q:Value->Shared->Prop}(X:K.In s.heap)(I:Jg s.heap x dx C mA)(hg:W.plainGet K C name=true)(hh:W.hasDictIn K C=true)
  (ha:W.findIn K (.ref C) name=some none) (hv:mA name=some v) (hv':W.handedIn v=true) (h:Q v { s with toks:=s.toks+1 }) :
  wpAny (model prog w) A (getAttr (.ref x) name expr) Q E s:=by
 @od,J,hl:=I.look;#W.get_value X J (W.plainGet_of hg).1 (W.findObj_own hh ha rfl (by rw[hl,hv])) hv' h
¤xE{ns:List Str}{Q:Unit->Shared->Prop}(X:K.In s.heap)(I:Jg s.heap x dx C mA)
  (hs:W.findIn K (.ref C) "__setattr__" = some (some (.builtin "object.__setattr__"))) (hp:W.plainOver K C=true) (ht:W.takerIn K C name=some none) (hh:W.hasDictIn K C=true)
  (hw:PySem.Within mA ns) (hsz:ns.length<=sizeLine)
  (h:∀h',Jg h' x dx C (λy=>if y=name then some v else mA y)->Heap.SameBut dx s.heap h'->Q () { s with heap:=h',toks:=s.toks+2 }) :
  wpAny (model prog w) A (setAttr (.ref x) name v) Q E s:=by
 @od,J,hl:=I.look;refine W.set_plain X J hs (W.osa_open (s:={ s with toks:=s.toks+1 }) (r:=none) X J hp ht λb=>?_);@cd,hc,hd':=W.any_some hh;!hx:s.heap.get? x=some ⟨.ref C,some dx,.plain,#[]⟩:=I.obj;refine wpAny_bind (wpAny_pure (wpAny_bind (wpAny_bind (wpAny_loadPart hx (wpAny_bind (W.Looks.here (s:={ s with toks:=s.toks+1 }) (W.looks_clsIn X hc) ?_))))));rw[hd'];refine wpAny_pure (a:=some dx) (wpAny_bind (wpAny_pure (wpAny_bind ?_)));refine wpAny_nsSet1 (s:={ s with toks:=s.toks+1 }) I.ns λh' hn2 hs2=>?_;@oD,esD,epD,hoD,hdD,hcD:=hn2.count (PySem.Within.cons name v hw);refine wpAny_bind (wpAny_lookBehind hoD (by rw[hdD];#pastItsLine_dict (Nat.le_trans hcD (by rw[List.length_cons];~))) ?_);#wpAny_pure (h _ ⟨(hs2.2 _ (Ne.symm I.ne)).trans I.obj,hn2,I.ne⟩ hs2)
¤vS{R:Result->Shared->Prop}{vs:List Value}{kw:List (Str×Value)}(X:K.In s.heap)(hm:W.makesIn K C=true)
  (hi:W.findIn K (.ref C) "__init__" = some (some (.ref f))) (hf:W.typeIn K (.ref f)=some (.type "function"))
  (h:codeAny (model prog w) (A.under (.builtin "type.__call__" ⟨.ref C::vs,kw⟩)) (.call (.ref f) ⟨.ref (s.heap.objs.size+1)::vs,kw⟩) (W.InitBack (s.heap.objs.size+1) R)
   { s with heap:=(s.heap.push W.emptyDict).push (W.instObj C s.heap.objs.size) }) :
  codeAny (model prog w) A (.call (.ref C) ⟨vs,kw⟩) R s:=by
 @hh,g,d,t,os:=s;#W.make_core (W.makes_of X hm) (W.looks_findIn X hi) (λself=>W.bind_fn X self hf) (.inl rfl) h
end
¦dU(f:Str)(v:V):List (Str×V)->List (Str×V)
 | []=>[(f,v)]
 | (g,x)::r=>if g=f then (g,v)::r else (g,x)::dU f v r
¤jJ(f g:Str)(v:V):∀fs:List (Str×V),(dU f v fs).lookup g=if g=f then some v else fs.lookup g
 | []=>by
  show List.lookup g [(f,v)]=_
  by_cases h:g=f
  ·!hb:(g == f)=true:=beq_iff_eq.mpr h
   simp only[List.lookup,hb,if_pos h]
  ·!hb:(g == f)=false:=beq_eq_false_iff_ne.mpr h
   simp only[List.lookup,hb,if_neg h]
 | (k,x)::r=>by
  !ih:=jJ f g v r;rw[show dU f v ((k,x)::r)=(if k=f then (k,v)::r else (k,x)::dU f v r) from rfl]
  by_cases hk:k=f
  ·rw[if_pos hk]
   by_cases h:g=k
   ·!hb:(g == k)=true:=beq_iff_eq.mpr h
    simp only[List.lookup,hb,if_pos (h.trans hk)]
   ·!hb:(g == k)=false:=beq_eq_false_iff_ne.mpr h
    simp only[List.lookup,hb,if_neg (λe:g=f=>h (e.trans hk.symm))]
  ·rw[if_neg hk]
   by_cases h:g=k
   ·!hb:(g == k)=true:=beq_iff_eq.mpr h
    simp only[List.lookup,hb,if_neg (λe:g=f=>hk (h.symm.trans e))]
   ·!hb:(g == k)=false:=beq_eq_false_iff_ne.mpr h
    simp only[List.lookup,hb];#ih
¤jr(f:Str)(v:V):∀fs:List (Str×V),f∈(dU f v fs).map (·.1)/\∀g,g∈fs.map (·.1)->g∈(dU f v fs).map (·.1)
 | []=>⟨by simp[dU],λg h=>by simp at h⟩
 | (k,x)::r=>by
  @i1,i2:=jr f v r;rw[show dU f v ((k,x)::r)=(if k=f then (k,v)::r else (k,x)::dU f v r) from rfl]
  by_cases hk:k=f
  ·rw[if_pos hk]
   subst hk;§by simp,(λg h=>by simpa using h)
  ·rw[if_neg hk]
   ¶?_,λg h=>?_
   ·rw[List.map_cons]
    #List.mem_cons_of_mem _ i1
   ·rw[List.map_cons]at h ⊢
    rcases List.mem_cons.mp h with e|e
    ·#List.mem_cons.mpr (.inl e)
    ·#List.mem_cons_of_mem _ (i2 g e)
¤jL(f:Str)(v:V):∀fs:List (Str×V),(dU f v fs).length<=fs.length+1
 | []=>by simp[dU]
 | (k,x)::r=>by
  !ih:=jL f v r;rw[show dU f v ((k,x)::r)=(if k=f then (k,v)::r else (k,x)::dU f v r) from rfl]
  by_cases hk:k=f
  ·rw[if_pos hk,List.length_cons,List.length_cons];~
  ·rw[if_neg hk,List.length_cons,List.length_cons];~
¤jE.some_of{v:V}{o:Option Value}(r:jE (some v) o):∃u,o=some u/\bz v u:=by
 cases o with
 | none=>#(show False from r).elim
 | some u=>§u,rfl,r
¤uC{v:V}{u:Value}(r:bz v u):W.handedIn u=true:=by
 cases v with
 | non=>cases (show u=Value.none from r);rfl
 | bl b=>cases (show u=Value.bool b from r);rfl
 | int i=>@t,e:=(show ∃t,u=Value.int i t from r);cases e;rfl
 | str x=>@t,e:=(show ∃t,u=Value.str x t from r);cases e;rfl
 | byt b=>@t,e:=(show ∃t,u=Value.bytes b t from r);cases e;rfl
 | flt b=>@t,e:=(show ∃t,u=Value.float b t from r);cases e;rfl
 | ref a=>cases (show u=Value.ref a from r);rfl
 | ty n=>cases (show u=Value.type n from r);rfl
section
variable {P:Program} {w:World} {H H':Hp} {h h':Heap} {a C dx:Addr} {fs fs':List (Str×V)}
¤om(hok:HOk P w H h)(e:H a=some (.ins C dx fs)):∃mA,Jg h a dx C mA/\(∀f,jE (fs.lookup f) (mA f))/\PySem.Within mA (fs.map (·.1))/\fs.length<=1000/\H dx=some (.own a):=by
 @d,z,ne,ob,mA,n,r,q:=(show cf P w H h a (.ins C dx fs) from hok a _ e);§mA,⟨ob,n,ne⟩,r,q,z,d
end
structure Kb(K:W.Frag)(C:Addr):Prop where
 pg:W.plainGet K C Str.empty=true
 hd:W.hasDictIn K C=true
 po:W.plainOver K C=true
 sa:W.findIn K (.ref C) "__setattr__" = some (some (.builtin "object.__setattr__"))
¤Kb.get{K:W.Frag}{C:Addr}(c:Kb K C)(f:Str):W.plainGet K C f=true:=c.pg
¦aX(K:W.Frag)(C:Addr)(f:Str):Prop:=W.findIn K (.ref C) f=some none
¤aX.taker{K:W.Frag}{C:Addr}{f:Str}(n:aX K C f):W.takerIn K C f=some none:=by
 unfold W.takerIn;rw[show W.findIn K (.ref C) f=some none from n];rfl
structure KL(K:W.Frag)(C:Addr)(m:Str)(f:Addr):Prop where
 at_:W.findIn K (.ref C) m=some (some (.ref f))
 fn:W.isFn K (.ref f)=true
 kp:W.keepIn K (.ref f)=true
section
variable {X:Cx} {pins:List (Addr×Obj)} {σ:St} {H:Hp} {s:Shared} {a C dx:Addr} {fs:List (Str×V)} {f:Str} {v:V} {A:Around} {E:Value->Shared->Prop}
¤rj{b:Bool}{Q:Value->Shared->Prop}(I:Dn X pins σ H s)(e:H a=some (.ins C dx fs))(c:Kb X.K C)(n:aX X.K C f)(l:fs.lookup f=some v)
  (h:∀u s',Dn X pins σ H s'->bz v u->Q u s'):wpAny (model X.prog X.w) A (getAttr (.ref a) f b) Q E s:=by
 @mA,O,r,_,_,_:=om I.hok e;@u,hu,ru:=jE.some_of (v:=v) (o:=mA f) (by rw[<- l];#r f);#yj I.kIn O (c.get f) c.hd n hu (uC ru) (h u _ (I.tok _) ru)
¤qL{y:V}{u:Value}{Q:Unit->Shared->Prop}(I:Dn X pins σ H s)(e:H a=some (.ins C dx fs))(c:Kb X.K C)(n:aX X.K C f)(hl:fs.length<1000)(ry:bz y u)
  (h:∀s',Dn X pins σ (upd H a (.ins C dx (dU f y fs))) s'->Q () s'):wpAny (model X.prog X.w) A (setAttr (.ref a) f u) Q E s:=by
 @mA,O,r,wi,_,ho:=om I.hok e;!hz:(fs.map (·.1)).length<=sizeLine:=by rw[List.length_map,sizeLine_eq];~
 refine xE I.kIn O c.sa c.po n.taker c.hd wi hz λh' O' sb=>h _ ?_;!hd:∃o,h'.get? dx=some o:=let ⟨o,_,_,e',_⟩:=O'.ns;⟨o,e'⟩;refine I.write (x:=a) (e:=dx) (by rw[e];#True.intro) (.inr ho) (λb q hb z=>(sb.2 b hb).trans z) hd ?_;¶by rw[aR O.ne];#ho,?_,O.ne,O'.obj,_,O'.ns,λg=>?_,λg hg=>?_
 ·!:=jL f y fs;~
 ·show jE ((dU f y fs).lookup g) (if g=f then some u else mA g)
  rw[jJ]
  by_cases q:g=f
  ·rw[if_pos q,if_pos q];#ry
  ·rw[if_neg q,if_neg q];#r g
 ·by_cases q:g=f
  ·rw[q];#(jr f y fs).1
  ·refine(jr f y fs).2 g (wi g λz=>hg ?_)
   show(if g=f then some u else mA g)=none
   rw[if_neg q];#z
¤Dn.made(I:Dn X pins σ H s):Dn X pins σ (upd (upd H s.heap.objs.size (.own (s.heap.objs.size+1))) (s.heap.objs.size+1) (.ins C s.heap.objs.size []))
  { s with heap:=(s.heap.push W.emptyDict).push (W.instObj C s.heap.objs.size) }:=by
 !e1:(s.heap.push W.emptyDict).get? s.heap.objs.size=some W.emptyDict:=Heap.get?_push_size s.heap rfl;!e2:((s.heap.push W.emptyDict).push (W.instObj C s.heap.objs.size)).get? (s.heap.objs.size+1)=some (W.instObj C s.heap.objs.size):=by
  !:=Heap.get?_push_size (s.heap.push W.emptyDict) (o:=W.instObj C s.heap.objs.size) rfl
  rwa [Heap.size_push]at this
 !e3:(s.heap.push W.emptyDict).Ns s.heap.objs.size (λ_=>none):=⟨W.emptyDict,#[],_,e1,rfl,(λe he=>absurd he (by simp)),λ_=>rfl⟩;!I1:=I.laid (a:=s.heap.objs.size) (o:=.own (s.heap.objs.size+1)) (h':=s.heap.push W.emptyDict) (t':=s.toks) (λb u q=>Heap.get?_push_of_some _ q) (Nat.le_refl _) ⟨_,e1⟩;refine I1.laid (a:=s.heap.objs.size+1) (o:=.ins C s.heap.objs.size []) (t':=s.toks) (λb u q=>Heap.get?_push_of_some _ q) (Nat.le_of_eq (Heap.size_push _ _)) ?_;!ne:s.heap.objs.size≠s.heap.objs.size+1:=Nat.ne_of_lt (Nat.lt_succ_self _);¶by rw[aR ne,upd_same],Nat.zero_le _,ne,e2,λ_=>none,(Heap.Ns1.of_empty e3).at λo q=>Heap.get?_push_of_some _ q,λ_=>True.intro,λy hy=>absurd rfl hy
¤yG{prog:Program}{w:World}{env:Env}{e:Expr}{f:Str}{pos:Pos}{s:Shared}{Q:Value->Shared->Prop}(hb:attributeBase e f env (eval e env)=eval e env)
  (h:wpAny (model prog w) A (eval e env) (λo s1=>wpAny (model prog w) A (getAttr o f true) Q E s1) E s):wpAny (model prog w) A (eval (.Attribute e f pos) env) Q E s :=
 Attribute_any_ h (by rw[arm_eval_Attribute,hb])
end
¦Bz(K:W.Frag)(ta:TE)(f:Str):TE:=λσ H Q=>ta σ H λx H1=>∃a C dx fs v,x = .ref a/\H1 a=some (.ins C dx fs)/\Kb K C/\aX K C f/\fs.lookup f=some v/\Q v H1
¦C0(K:W.Frag)(ta tv:TE)(f:Str):TS:=λD σ H=>tv σ H λy H1=>ta σ H1 λx H2=>∃a C dx fs,x = .ref a/\H2 a=some (.ins C dx fs)/\Kb K C/\aX K C f/\fs.length<1000 /\
 D.nx σ (upd H2 a (.ins C dx (dU f y fs)))
section
variable {X:Cx} {o e value:Expr} {f:Str} {pos pos' tpos:Pos} {ta tv:TE}
¤cS(he:PE X e ta)(hb:attributeBase e f X.env (eval e X.env)=eval e X.env):PE X (.Attribute e f pos) (Bz X.K ta f):=by
 intro pins s σ H Q I h;refine yG hb (thn (he pins s σ H _ I h) λu s1 ⟨x,H1,I1,rx,a,C,dx,fs,v,ex,ea,c,n,l,q⟩=>?_);subst ex;obtain rfl:u=Value.ref a:=rx;#rj I1 ea c n l λu' s2 I2 ru=>⟨v,H1,I2,ru,q⟩
¤nR(ha:PE X o ta)(hv:PE X value tv)(hs:swapsWith value (some (.Attribute o f pos')) pos.line X.env=pure false):PS X (.Assign [.Attribute o f pos'] value pos) (C0 X.K ta tv f):=by
 intro pins s σ H D I h;refine plainObj_wpAny_Assign_Attribute (thn (hv pins s σ H _ I h) λu s1 ⟨y,H1,I1,ry,q⟩=>thn (ha pins s1 σ H1 _ I1 q) λov s2 ⟨x,H2,I2,rx,a,C,dx,fs,ex,ea,c,n,l,q2⟩=>?_) hs;subst ex;obtain rfl:ov=Value.ref a:=rx;#qL I2 ea c n l ry λs3 I3=>⟨σ,_,I3,q2⟩
end
section
variable {X:Cx} {pins:List (Addr×Obj)} {σ:St} {H:Hp} {s:Shared} {A:Around} {E:Value->Shared->Prop} {Q:Value->Shared->Prop} {c:Value} {b:Bool}
inductive FW (K:W.Frag) (H:Hp):V->Value->Prop where
 | non:FW K H .non (.type "NoneType")
 | bl (x:Bool):FW K H (.bl x) (.type "bool")
 | int (i:Int):FW K H (.int i) (.type "int")
 | str (x:Str):FW K H (.str x) (.type "str")
 | flt (x:UInt64):FW K H (.flt x) (.type "float")
 | lst {a:Addr} {xs:List V} (e:H a=some (.lst xs)):FW K H (.ref a) (.type "list")
 | frz {a:Addr} {o:Obj} {xs:List V} (e:H a=some (.frz o (.lst xs))):FW K H (.ref a) (.type "list")
 | tup {a:Addr} {xs:List V} (e:H a=some (.tup xs)):FW K H (.ref a) (.type "tuple")
 | dK {a:Addr} {kvs:List (Key×V)} (e:H a=some (.dK kvs)):FW K H (.ref a) (.type "dict")
 | dT {a:Addr} {kvs:List (List Key×V)} (e:H a=some (.dT kvs)):FW K H (.ref a) (.type "dict")
 | ins {a C dx:Addr} {fs:List (Str×V)} (e:H a=some (.ins C dx fs)) (cl:Kb K C) (ha:W.findIn K (.ref C) "__class__" = some (some (.builtin "object.__class__")))
   (hn:W.specialIn K (.builtin "object.__class__") "__get__" = some (some (.builtin "getset_descriptor.__get__"))) (htk:W.takesIn K (.builtin "object.__class__")=some true)
   (hm:W.mroIn K C (.type "object")=some true):FW K H (.ref a) (.ref C)
¤uy{x:V}{u t:Value}(I:Dn X pins σ H s)(rx:bz x u)(ty:FW X.K H x t)(e:W.kitOne X.K t c=some b)(h:∀tk,Q (.bool b) { s with toks:=tk }) :
  wpAny (model X.prog X.w) A (call (.builtin "isinstance") [u,c]) Q E s:=by
 cases ty with
 | non=>cases (show u=Value.none from rx);#W.kia_one W.kitx_none I.kIn True.intro e (λz=>nomatch z) h
 | bl y=>cases (show u=Value.bool y from rx);#W.kia_one W.kitx_bool I.kIn True.intro e (λz=>nomatch z) h
 | int i=>@t,q:=(show ∃t,u=Value.int i t from rx);cases q;#W.kia_one W.kitx_int I.kIn True.intro e (λz=>nomatch z) h
 | str y=>@t,q:=(show ∃t,u=Value.str y t from rx);cases q;#W.kia_one W.kitx_str I.kIn True.intro e (λz=>nomatch z) h
 | flt y=>@t,q:=(show ∃t,u=Value.float y t from rx);cases q;#W.kia_one W.kitx_float I.kIn True.intro e (λz=>nomatch z) h
 | @lst a xs ea =>
  cases (show u=Value.ref a from rx);@_,_,n,_,h1:=(show cf X.prog X.w H s.heap a (.lst xs) from I.hok a _ ea);#W.kia_one W.kitx_list I.kIn ⟨_,h1,rfl⟩ e (λz=>nomatch z) h
 | @frz a ob xs ea =>
  cases (show u=Value.ref a from rx);@_,_,_,n,_,h1:=(show cf X.prog X.w H s.heap a (.frz ob (.lst xs)) from I.hok a _ ea);#W.kia_one W.kitx_list I.kIn ⟨_,h1,rfl⟩ e (λz=>nomatch z) h
 | @tup a xs ea =>
  cases (show u=Value.ref a from rx);@_,_,_,p:=(show cf X.prog X.w H s.heap a (.tup xs) from I.hok a _ ea);@o,h1,h2,_:=p;#W.kia_one W.kitx_tuple I.kIn ⟨o,h1,h2⟩ e (λz=>nomatch z) h
 | @dK a kvs ea =>
  cases (show u=Value.ref a from rx);@_,_,vs,_,p:=(show cf X.prog X.w H s.heap a (.dK kvs) from I.hok a _ ea);@o,es,ep,h1,h2,_:=p;#W.kia_one W.kitx_dict I.kIn ⟨o,h1,h2.1⟩ e (λz=>nomatch z) h
 | @dT a kvs ea =>
  cases (show u=Value.ref a from rx);@_,_,xs,_,o,es,ep,h1,h2,_:=(show cf X.prog X.w H s.heap a (.dT kvs) from I.hok a _ ea);#W.kia_one W.kitx_dict I.kIn ⟨o,h1,h2.1⟩ e (λz=>nomatch z) h
 | @ins a C dx fs ea cl ha hn htk hm =>
  cases (show u=Value.ref a from rx);@mA,O,_:=om I.hok ea;@od,J,_:=O.look;#W.kia_one (W.kitx_own (cl.get _) cl.hd ha hn htk hm) I.kIn J e (λz=>nomatch z) h
end
structure DO(k:Nat)(A:Around):Prop where
 hd:A.handled=none
 dp:A.depth+3*k+5<recursionLimit
 un:A.units+16*k+200<cLine
 gd:A.guards=some []
¤DO.mono{j k:Nat}{A:Around}(r:DO k A)(h:j<=k):DO j A:=⟨r.hd,by !:=r.dp;~,by !:=r.un;~,r.gd⟩
¤DO.deeper{k:Nat}{A:Around}(r:DO (k+1) A)(env:Env):DO k (A.deeper env) :=
 ⟨r.hd,by !:=r.dp;show A.depth+1+3*k+5<_;~,by !:=r.un;show A.units+3+16*k+200<_;~,r.gd⟩
¤qZ{A:Around}{C:Addr}{us:List Value}{kw:List (Str×Value)}:(A.under (.builtin "type.__call__" ⟨.ref C::us,kw⟩)).depth=A.depth+1:=by
 first|rfl|simp[Around.under,Code.weight,Code.isCreation,Code.isGuard,Code.isCaller,Code.frames,Code.isFrame,guardIds]
¤qY{A:Around}{C:Addr}{us:List Value}{kw:List (Str×Value)}:(A.under (.builtin "type.__call__" ⟨.ref C::us,kw⟩)).units=A.units+1:=by
 first|rfl|simp[Around.under,Code.cUnits,Code.frames,Code.isFrame]
¤pM{A:Around}{C:Addr}{us:List Value}{kw:List (Str×Value)}(h:A.guards=some []):(A.under (.builtin "type.__call__" ⟨.ref C::us,kw⟩)).guards=some []:=by
 first|#h|(unfold Around.under;simp[h,Code.guards,Code.isGuard,guardIds,pushGuards])
¤DO.make{k:Nat}{A:Around}(r:DO (k+1) A)(C:Addr)(us:List Value)(kw:List (Str×Value)):DO k (A.under (.builtin "type.__call__" ⟨.ref C::us,kw⟩)) :=
 ⟨r.hd,by !:=r.dp;rw[qZ];~,by !:=r.un;rw[qY];~,pM r.gd⟩
¤DO.depth{k:Nat}{A:Around}(r:DO k A):A.depth<recursionLimit:=by !:=r.dp;~
¤DO.units{k:Nat}{A:Around}(r:DO k A):A.units+64<cLine:=by !:=r.un;~
¤DO.units0{k:Nat}{A:Around}(r:DO k A):A.units<cLine:=by !:=r.un;~
¦zL:TA:=λ_ H Q=>Q [] H
¦rT(ta:TE)(tr:TA):TA:=λσ H Q=>ta σ H λx H1=>tr σ H1 λxs H2=>Q (x::xs) H2
section
variable {X:Cx} {e:Expr} {es:List Expr} {te:TE} {t:TA} {pos:Pos}
¤ak:PA X [] zL:=λ_ _ _ _ H Q I h=>Calls.spliced_nil ⟨[],H,I,.nil,h⟩
¤ad(ha:PE X e te)(hr:PA X es t)(hs:starEach (e::es) X.env=(false,eval e X.env)::starEach es X.env:=by rfl):PA X (e::es) (rT te t):=by
 intro pos pins s σ H Q I h;rw[hs];show wpAny _ _ (spliced ((false,eval e X.env)::backTo pos (starEach es X.env))) _ _ s;refine Calls.spliced_cons (thn (ha pins s σ H _ I h) λu s1 ⟨x,H1,I1,r1,q1⟩=>?_);#thn (hr pos pins s1 σ H1 _ I1 q1) λus s2 ⟨xs,H2,I2,r2,q2⟩=>⟨x::xs,H2,I2,.cons r1 r2,q2⟩
¦Bq(t:TA):TE:=λσ H Q=>t σ H λxs H1=>xs.length<=sizeLine/\∀p,H1 p=none->Q (.ref p) (upd H1 p (.tup xs))
¤jj{x1}(h:PA X es t):PE X (.Tuple es x1 pos) (Bq t):=by
 intro pins s σ H Q I hq;refine wpAny_Tuple_spliced (thn (h pos pins s σ H _ I hq) λus s1 ⟨xs,H1,I1,r,z,q⟩=>⟨by rw[<- r.length];#z,?_⟩);!hf:H1 s1.heap.objs.size=none:=I1.hok.fresh (Nat.le_refl _);¶.ref s1.heap.objs.size,upd H1 s1.heap.objs.size (.tup xs),I1.laid (t':=s1.toks) (λb u e=>Heap.get?_push_of_some _ e) (Nat.le_refl _) ?_,rfl,q _ hf;§z,us,r,⟨_,Heap.get?_push_size _ rfl,rfl,_,rfl⟩
end
noncomputable abbrev Sp:=List V->Hp->VK->XK->Prop
noncomputable abbrev CXT:=List Env->Hp->Shared->XK->Value->Shared->Prop
structure Hu(P:Program)(w:World)(K:W.Frag)(mg:Str->Option Value)(base:Heap)(A:Around)(outer:List Env)(s:Shared)(H:Hp):Prop where
 frames:A.frames=some outer
 mod:Mod K mg base
 bs:∀b o,base.get? b=some o->s.heap.get? b=some o/\H b=none
 bsz:base.objs.size<=s.heap.objs.size
 funs:s.heap.FunFrames base outer
 frf:∀b∈frs outer,H b=none
 hok:HOk P w H s.heap
 bare:AllBare s.gens
¦CE(outer:List Env)(P:Program)(w:World)(H:Hp)(s:Shared)(Q:VK)(u:Value)(s':Shared):Prop :=
 ∃v H',s'.os=s.os/\AllBare s'.gens/\Un (frs outer) [] H H' s.heap s'.heap/\HOk P w H' s'.heap/\bz v u/\Q v H'
¦CR(CX:CXT)(outer:List Env)(P:Program)(w:World)(H:Hp)(s:Shared)(Q:VK)(E:XK)(r:Result)(s':Shared):Prop :=
 match r with
 | .ok (.ret u)=>CE outer P w H s Q u s'
 | .ok _=>False
 | .error e=>CX outer H s E e s'
structure Fg(P:Program)(w:World)(K:W.Frag)(mg:Str->Option Value)(base:Heap)(CX:CXT)(k:Nat)(f:Addr)(fd:FuncData)(ps:List Str)(sp:Sp):Prop where
 len:∀vs H Q E,sp vs H Q E->vs.length=ps.length
 run:∀(A:Around) (outer:List Env) (s:Shared) (H:Hp) (args:Args) (us:List Value) (vs:List V) (Q:VK) (E:XK),DO k A->Hu P w K mg base A outer s H->BindsTo s fd args (ps.zip us)->aZ vs us->sp vs H Q E ->
  codeAny (model P w) A (.call (.ref f) args) (CR CX outer P w H s Q E) s
¤Fg.imp{P:Program}{w:World}{K:W.Frag}{mg:Str->Option Value}{base:Heap}{CX:CXT}{k:Nat}{f:Addr}{fd:FuncData}{ps:List Str}{sp sp':Sp}(F:Fg P w K mg base CX k f fd ps sp)
  (h:∀vs H Q E,sp' vs H Q E->sp vs H Q E):Fg P w K mg base CX k f fd ps sp' :=
 ⟨λvs H Q E q=>F.len vs H Q E (h _ _ _ _ q),λA outer s H args us vs Q E hr he hb hv hs=>F.run A outer s H args us vs Q E hr he hb hv (h _ _ _ _ hs)⟩
¤Hu.make{P:Program}{w:World}{K:W.Frag}{mg:Str->Option Value}{base:Heap}{A:Around}{outer:List Env}{s:Shared}{H:Hp}(e:Hu P w K mg base A outer s H)(C:Addr)(us:List Value)(kw:List (Str×Value)) :
  Hu P w K mg base (A.under (.builtin "type.__call__" ⟨.ref C::us,kw⟩)) outer s H:=⟨by first|#e.frames|(simpa[Around.under,Code.envs,Code.isFrame,pushEnvs]using e.frames),e.mod,e.bs,e.bsz,e.funs,e.frf,e.hok,e.bare⟩
section
variable {X:Cx} {pins:List (Addr×Obj)} {σ:St} {H:Hp} {s s':Shared}
¤Dn.env0(I:Dn X pins σ H s):Hu X.prog X.w X.K X.mg X.base X.A X.stack s H :=
 ⟨I.ok.frames,I.ok.mod,I.bs,Nat.le_trans I.ok.bsz I.sz,I.stack,I.stkFree,I.hok,I.bare⟩
¤Dn.after{Q:VK}{u:Value}(I:Dn X pins σ H s)(h:CE X.stack X.prog X.w H s Q u s'):EP X pins σ Q u s':=by
 @v,H',os,bare,un,hok,r,q:=h;@hh,g,d,t,os':=s';obtain rfl:os'=s.os:=os;§v,H',I.call (h':=hh) (g':=g) (d':=d) (t':=t) (ch:=[]) un hok bare (λb z=>absurd z (by simp)),r,q
end
¦rV(sp:Sp)(dvs:List V)(E:XK)(t:TA):TE:=λσ H Q=>t σ H λvs H1=>sp (vs++dvs) H1 Q E
¦yU(C:Addr)(sp:Sp)(dvs:List V)(E:XK)(t:TA):TE:=λσ H Q=>t σ H λvs H1=>∀x dx,H1 x=none->H1 dx=none->dx≠x ->
 sp (.ref x::(vs++dvs)) (upd (upd H1 dx (.own x)) x (.ins C dx [])) (λv H2=>v = .non/\Q (.ref x) H2) E
¦gb(K:W.Frag)(fd:FuncData)(ps:List Str)(ds:List Value):Prop :=
 ∀(s:Shared) (us:List Value),K.In s.heap->(us++ds).length=ps.length->BindsTo s fd ⟨us,[]⟩ (ps.zip (us++ds))
¤gb.all{K:W.Frag}{fd:FuncData}{ps:List Str}(h:∀us:List Value,us.length=ps.length->bindArgs fd ⟨us,[]⟩=pure (ps.zip us)):gb K fd ps []:=λs us _ hl=>by
 rw[List.append_nil]at hl ⊢;#.of_eq (h us hl)
¦iw(CX:CXT)(X:Cx)(E:XK):Prop:=∀(pins:List (Addr×Obj)) (σ:St) (H:Hp) (s:Shared) (e:Value) (s':Shared),Dn X pins σ H s->CX X.stack H s E e s'->X.xe e s'
section
variable {X:Cx} {CX:CXT} {k:Nat} {f C:Addr} {fd:FuncData} {ps:List Str} {sp:Sp} {dvs:List V} {ds:List Value} {E:XK} {x m:Str} {p pos apos:Pos} {e o:Expr} {es:List Expr} {ta:TE} {t:TA}
¤vo{pins:List (Addr×Obj)}{σ:St}{H:Hp}{s:Shared}{Q:VK}{us:List Value}{vs:List V}(F:Fg X.prog X.w X.K X.mg X.base CX k f fd ps sp)(hr:DO k X.A)(hb:gb X.K fd ps ds)(hd:aZ dvs ds)(hx:iw CX X E)
  (I:Dn X pins σ H s) (r:aZ vs us) (h:sp (vs++dvs) H Q E):wpAny (model X.prog X.w) X.A (call (.ref f) us) (EP X pins σ Q) X.xe s:=by
 !r2:aZ (vs++dvs) (us++ds):=r.append hd;!hl:(us++ds).length=ps.length:=by rw[<- r2.length];#F.len _ _ _ _ h
 refine wpAny_call (codeAny_mono (F.run X.A X.stack s H ⟨us,[]⟩ (us++ds) (vs++dvs) Q E hr I.env0 (hb s us I.kIn hl) r2 h) λr s' hq=>?_);cases r with
 | error e=>#hx pins σ H s e s' I hq
 | ok fl =>
  cases fl with
  | ret u=>#I.after hq
  | next=>#False.elim hq
  | brk=>#False.elim hq
  | cont=>#False.elim hq
¤nW(F:Fg X.prog X.w X.K X.mg X.base CX k f fd ps sp)(hr:DO k X.A)(hg:Gl X x)(hm:X.mg x=some (.ref f))(hk:W.keepIn X.K (.ref f)=true)(hb:gb X.K fd ps ds)(hd:aZ dvs ds)(hx:iw CX X E)
  (ha:PA X (e::es) t) (hdb:(x == ("__debug__" : Str))=false:=by decide) (he:starEach (e::es) X.env=(false,eval e X.env)::starEach es X.env:=by rfl) (hpl:(backTo pos (starEach es X.env)).any (·.1)=false:=by rfl) :
  PE X (.Call (.Name x p) (e::es) [] pos) (rV sp dvs E t):=by
 intro pins s σ H Q I h;refine wpAny_Call_Name_kw (iO I hg hm ?_ hdb);refine W.callWith_K (h₀:=X.base) I.ok.mod.kin hk (thn (ha pos pins s σ H _ I h) λus s1 ⟨vs,H1,I1,r,q⟩=>⟨I1.kIn,?_⟩) he hpl;#vo F hr hb hd hx I1 r q
structure Mk(K:W.Frag)(C f:Addr):Prop where
 makes:W.makesIn K C=true
 init:W.findIn K (.ref C) "__init__" = some (some (.ref f))
 fn:W.isFn K (.ref f)=true
 kp:W.keepIn K (.ref C)=true
¤vn{pins:List (Addr×Obj)}{σ:St}{H:Hp}{s:Shared}{Q:VK}{us:List Value}{vs:List V}(M:Mk X.K C f)(F:Fg X.prog X.w X.K X.mg X.base CX k f fd ps sp)(hr:DO (k+1) X.A)(hb:gb X.K fd ps ds)(hd:aZ dvs ds)
  (hx:iw CX X E) (I:Dn X pins σ H s) (r:aZ vs us)
  (h:∀x dx,H x=none->H dx=none->dx≠x->sp (.ref x::(vs++dvs)) (upd (upd H dx (.own x)) x (.ins C dx [])) (λv H2=>v = .non/\Q (.ref x) H2) E) :
  wpAny (model X.prog X.w) X.A (call (.ref C) us) (EP X pins σ Q) X.xe s:=by
 !hq:=h (s.heap.objs.size+1) s.heap.objs.size (I.hok.fresh (Nat.le_succ _)) (I.hok.fresh (Nat.le_refl _)) (Nat.ne_of_lt (Nat.lt_succ_self _));!I2:=Dn.made (C:=C) I;!r2:aZ (V.ref (s.heap.objs.size+1)::(vs++dvs)) (Value.ref (s.heap.objs.size+1)::(us++ds)):=.cons rfl (r.append hd);!hl:(Value.ref (s.heap.objs.size+1)::us++ds).length=ps.length:=by
  !e:=r2.length;rw[F.len _ _ _ _ hq]at e;#e.symm
 refine wpAny_call (vS (f:=f) I.kIn M.makes M.init (beq_iff_eq.mp M.fn) (codeAny_mono (F.run _ X.stack _ _ ⟨Value.ref (s.heap.objs.size+1)::us,[]⟩ (Value.ref (s.heap.objs.size+1)::(us++ds)) _ _ E (hr.make C us [])
  (I2.env0.make C us []) (hb _ (Value.ref (s.heap.objs.size+1)::us) I2.kIn hl) r2 hq) λr s' hq'=>?_))
 cases r with
 | error e=>#hx pins σ _ _ e s' I2 hq'
 | ok fl =>
  cases fl with
  | ret u =>
   @v,H',I3,rv,ev,q3:=I2.after hq';subst ev;§rv,⟨V.ref (s.heap.objs.size+1),H',I3,rfl,q3⟩
  | next=>#False.elim hq'
  | brk=>#False.elim hq'
  | cont=>#False.elim hq'
¤xS(M:Mk X.K C f)(F:Fg X.prog X.w X.K X.mg X.base CX k f fd ps sp)(hr:DO (k+1) X.A)(hg:Gl X x)(hm:X.mg x=some (.ref C))(hb:gb X.K fd ps ds)(hd:aZ dvs ds)(hx:iw CX X E)
  (ha:PA X (e::es) t) (hdb:(x == ("__debug__" : Str))=false:=by decide) (he:starEach (e::es) X.env=(false,eval e X.env)::starEach es X.env:=by rfl) (hpl:(backTo pos (starEach es X.env)).any (·.1)=false:=by rfl) :
  PE X (.Call (.Name x p) (e::es) [] pos) (yU C sp dvs E t):=by
 intro pins s σ H Q I h;refine wpAny_Call_Name_kw (iO I hg hm ?_ hdb);refine W.callWith_K (h₀:=X.base) I.ok.mod.kin M.kp (thn (ha pos pins s σ H _ I h) λus s1 ⟨vs,H1,I1,r,q⟩=>⟨I1.kIn,?_⟩) he hpl;#vn M F hr hb hd hx I1 r q
end
structure Dj(N P:List Str)(sc:Scope):Prop where
 kind:sc.kind = .function
 co:sc.isCoroutine=false
 gen:sc.isGenerator=false
 nd:N.Nodup
 pre:N.take P.length=P
 par:∀x∈P,sc.names.lookup x=some .local\/sc.names.lookup x=some .cell
 nofree:∀y∈sc.names,y.2≠.free
¤nu{kindOf:Str->Option NameKind}{x:Str}:∀{binds:List (Str×Value)} {m:Str->Option Value},(∀v,(x,v)∉binds)->bindL kindOf binds m x=m x
 | [],_,_=>rfl
 | (n,v)::r,m,h=>by
  unfold bindL;rw[nu λw hw=>h w (List.mem_cons_of_mem _ hw)]
  split
  ·!:x≠n:=by rintro rfl;#h v List.mem_cons_self
   simp[this]
  ·rfl
¤nF{kindOf:Str->Option NameKind}{x:Str}:∀{binds:List (Str×Value)} {m:Str->Option Value},(∀v,(x,v)∉binds)->bindC kindOf binds m x=m x
 | [],_,_=>rfl
 | (n,v)::r,m,h=>by
  unfold bindC;rw[nF λw hw=>h w (List.mem_cons_of_mem _ hw)]
  split
  ·rfl
  ·!:x≠n:=by rintro rfl;#h v List.mem_cons_self
   simp[this]
¤nw{kindOf:Str->Option NameKind}{x:Str}{v:Value}:∀{P:List Str} {vs:List Value} {i:Nat} {m:Str->Option Value},P.Nodup->P[i]? = some x->vs[i]? = some v->kindOf x=some .local ->
  bindL kindOf (P.zip vs) m x=some v
 | [],_,_,_,_,h,_,_=>by simp at h
 | _::_,[],_,_,_,_,h,_=>by simp at h
 | p::P,w::vs,0,m,nd,h1,h2,hk=>by
  simp at h1 h2;subst h1;subst h2;show bindL kindOf ((p,w)::P.zip vs) m p=_;unfold bindL;rw[nu λv hv=>(List.nodup_cons.mp nd).1 (List.of_mem_zip hv).1,if_pos hk];simp
 | p::P,w::vs,i+1,m,nd,h1,h2,hk=>by
  show bindL kindOf ((p,w)::P.zip vs) m x=_;unfold bindL;#nw (i:=i) (List.nodup_cons.mp nd).2 (by simpa using h1) (by simpa using h2) hk
¤nG{kindOf:Str->Option NameKind}{x:Str}{v:Value}:∀{P:List Str} {vs:List Value} {i:Nat} {m:Str->Option Value},P.Nodup->P[i]? = some x->vs[i]? = some v->kindOf x≠some .local ->
  bindC kindOf (P.zip vs) m x=some v
 | [],_,_,_,_,h,_,_=>by simp at h
 | _::_,[],_,_,_,_,h,_=>by simp at h
 | p::P,w::vs,0,m,nd,h1,h2,hk=>by
  simp at h1 h2;subst h1;subst h2;show bindC kindOf ((p,w)::P.zip vs) m p=_;unfold bindC;rw[nF λv hv=>(List.nodup_cons.mp nd).1 (List.of_mem_zip hv).1,if_neg hk];simp
 | p::P,w::vs,i+1,m,nd,h1,h2,hk=>by
  show bindC kindOf ((p,w)::P.zip vs) m x=_;unfold bindC;#nG (i:=i) (List.nodup_cons.mp nd).2 (by simpa using h1) (by simpa using h2) hk
¦fY(N:List Str)(vs:List V):St:=vs.map some++List.replicate (N.length - vs.length) none
¦bV(CX:CXT)(P:Program)(w:World)(K:W.Frag)(mg:Str->Option Value)(base:Heap)(N:List Str)(qual:Str)(scope:Scope)(f:Addr)(cd:Value)(A:Around)(outer:List Env)(s:Shared)(H:Hp)(E:XK):Cx where
 prog:=P
 w:=w
 K:=K
 mg:=mg
 base:=base
 A:=A.deeper (envOfC qual scope s.heap.objs.size f cd)
 N:=N
 s₀:=s
 H₀:=H
 env:=envOfC qual scope s.heap.objs.size f cd
 outer:=outer
 stack:=envOfC qual scope s.heap.objs.size f cd::outer
 ex:=[]
 calm:=true
 fn:=λ_=>true
 pn:=[]
 xe:=λe s'=>wpAny (model P w) (A.deeper (envOfC qual scope s.heap.objs.size f cd)) (leaving (envOfC qual scope s.heap.objs.size f cd) e) (λ_ s''=>CX outer H s E e s'') (λe' s''=>CX outer H s E e' s'') s'
¤qB{sc:Scope}{n:Nat}{x:Str}(h:sc.names.lookup x=some .cell):∃c,(cellsFrom n sc.names []).lookup x=some c:=by
 !q:=W.cellsFrom_some sc.names n [] (.inl h);#Option.isSome_iff_exists.mp q
¤uz{CX:CXT}{P:Program}{w:World}{K:W.Frag}{mg:Str->Option Value}{base:Heap}{N ps:List Str}{qual:Str}{scope:Scope}{f:Addr}{cd:Value}{A:Around}{outer:List Env}{s s1:Shared}{H:Hp}{E:XK}{us:List Value}{vs:List V}
  (S:Dj N ps scope) (hd:A.handled=none) (e0:Hu P w K mg base A outer s H) (hl:vs.length=ps.length) (r:aZ vs us)
  (x:InCallC s s.heap.objs.size (bindL (envOfC qual scope s.heap.objs.size f cd).kindOf (ps.zip us) λ_=>none) (cellsFrom (s.heap.objs.size+1) scope.names []) (bindC (envOfC qual scope s.heap.objs.size f cd).kindOf (ps.zip us) λ_=>none) s1) :
  Dn (bV CX P w K mg base N qual scope f cd A outer s H E) [] (fY N vs) H s1:=by
 !hpl:ps.length<=N.length:=by !:=congrArg List.length S.pre;rw[List.length_take]at this;~
 @h1,tk,rfl,hk:=x.done;!noA:∀b:Addr,b∉(bV CX P w K mg base N qual scope f cd A outer s H E).ex:=λb z=>absurd (show b∈([]:List Addr) from z) (by simp);refine⟨⟨e0.mod,S.kind,rfl,rfl,Nat.le_refl _,λy z c h1 h2=>?_,λy hy=>?_,λy c _ h=>?_,λ_=>hd,Around.frames_deeper e0.frames,.inr ⟨rfl,rfl⟩,λb z=>absurd z (noA b),e0.bs,e0.bsz,λb _ _=>noA b,λb z=>absurd z (noA b),e0.funs,e0.frf⟩,
  rfl,e0.bare,Un.kept hk,⟨_,x.toInCall.ns,λi y v h1 h2 h3=>?_⟩,λy c h=>⟨_,x.cell y c h⟩,e0.hok.fresh (Nat.le_refl _),λy c h=>?_,λp hp=>absurd (show p∈([]:List (Addr×Obj)) from hp) (by simp),e0.hok.kept hk,?_⟩
 ·#name_of_addr x.apart (PySem.mem_of_lookup h1) (PySem.mem_of_lookup h2)
 ·!hy:scope.names.lookup y=some .cell\/scope.names.lookup y=some .free:=hy
  rcases hy with hy|hy
  ·#qB hy
  ·#absurd rfl (S.nofree _ (PySem.mem_of_lookup hy))
 ·#Nat.le_of_lt (x.above y c (PySem.mem_of_lookup h))
 ·!hi:i<vs.length:=by
   unfold fY at h2
   by_cases hi:i<vs.length
   ·#hi
   ·rw[List.getElem?_append_right (by simpa using hi)]at h2
    rw[List.getElem?_replicate]at h2
    split at h2 <;> cases h2
  !ha:vs[i]? = some v:=by
   unfold fY at h2;rw[List.getElem?_append_left (by simpa using hi),List.getElem?_map]at h2;cases e:vs[i]? with
   | none=>rw[e]at h2;cases h2
   | some a=>rw[e]at h2;cases h2;rfl
  @u,hu,rv:=r.get ha;!hp:ps[i]? = some y:=by
   rw[<- S.pre,List.getElem?_take_of_lt ~];#h1
  !ndP:ps.Nodup:=by rw[<- S.pre];#S.nd.sublist (List.take_sublist _ _)
  ?u,rv;rcases S.par y (List.mem_of_getElem? hp) with k|k
  ·#.inl ⟨k,nw ndP hp hu k⟩
  ·@c,e:=qB (n:=s.heap.objs.size+1) k
   refine .inr ⟨.inl k,c,e,?_⟩;!q:=x.cell y c e;rw[nG ndP hp hu (by show scope.names.lookup y≠_;rw[k];decide)]at q;#q
 ·#e0.hok.fresh (Nat.le_of_lt (x.above y c (PySem.mem_of_lookup h)))
 ·unfold fY
  show _=N.length;rw[List.length_append,List.length_map,List.length_replicate];~
¤pY{CX:CXT}{P:Program}{w:World}{K:W.Frag}{mg:Str->Option Value}{base:Heap}{k:Nat}{f:Addr}{name qual:Str}{params:Arguments}{body:List Stmt}{scope:Scope}{dV kV doc pm cdv ct oc:Value}{an od:Option Addr}
  {osl:Array (Option Value)} {N ps:List Str} {sp:Sp} (lk:K.lookup f=some ⟨oc,od,.func (W.fnOf name qual params body scope dV kV doc pm an cdv ct),osl⟩) (hcd:W.codeIn K cdv qual=true) (S:Dj N ps scope)
  (len:∀vs H Q E,sp vs H Q E->vs.length=ps.length)
  (hbody:∀(A:Around) (outer:List Env) (s:Shared) (H:Hp) (vs:List V) (Q:VK) (E:XK),DO k (A.deeper (envOfC qual scope s.heap.objs.size f cdv))->sp vs H Q E ->
   ∃t,PSs (bV CX P w K mg base N qual scope f cdv A outer s H E) body t/\t { nx:=λ_ H'=>Q .non H',rt:=Q } (fY N vs) H) :
  Fg P w K mg base CX (k+1) f (W.fnOf name qual params body scope dV kV doc pm an cdv ct) ps sp:=by
 ¶len,λA outer s H args us vs Q E hr e0 hb r hsp=>?_;!hl:=len _ _ _ _ hsp;!KX:K.In s.heap:=e0.mod.kin.keeps λb o e=>(e0.bs b o e).1;!lim:s.heap.NoLimit:=e0.mod.nolimit.keeps λb o e=>(e0.bs b o e).1;!hkind:∀y∈ps.zip us,scope.names.lookup y.1=some .local\/(scope.names.lookup y.1=some .cell/\((cellsFrom (s.heap.objs.size+1) scope.names []).lookup y.1).isSome=true):=λ⟨n,v⟩ hy=>by
  rcases S.par n (List.of_mem_zip hy).1 with q|q
  ·#.inl q
  ·#.inr ⟨q,W.cellsFrom_some _ _ _ (.inl q)⟩
 refine codeAny_call_function hr.depth (KX _ _ lk) rfl S.co S.gen rfl (W.codeRec_of KX hcd) (hb _ _ _ _ ?_);refine wpAny_newFunctionEnv_cells S.kind hkind λenv he s1 x=>?_;subst he;¶lim.keeps x.toInCall.keep,codeAny_func ?_;@t,ht,hq:=hbody A outer s H vs Q E (hr.deeper _) hsp;!I:Dn (bV CX P w K mg base N qual scope f cdv A outer s H E) [] (fY N vs) H s1:=uz S hr.hd e0 hl r x;refine wpAny_mono (ht [] s1 (fY N vs) H _ I hq) (λfl s' hs=>?_) λe s' hs=>hs;!fin:∀{σ':St} {H':Hp} {v:V} {u:Value},Dn (bV CX P w K mg base N qual scope f cdv A outer s H E) [] σ' H' s'->bz v u->Q v H'->CE outer P w H s Q u s' :=
  λ{σ' H' v u} J rv q=>⟨v,H',J.os,J.bare,J.base,J.hok,rv,q⟩
 cases fl with
 | ret u =>
  @v,σ',H',J,rv,q:=hs;#fin J rv q
 | next =>
  @σ',H',J,q:=hs;#fin (v:=V.non) (u:=Value.none) J rfl q
 | brk =>
  @_,_,_,q:=hs;#False.elim q
 | cont =>
  @_,_,_,q:=hs;#False.elim q
section
variable {X:Cx} {x:Str} {p pos:Pos} {e:Expr} {es:List Expr} {t:TA} {id T:String} {r:List V->Hp->VK->Prop}
¦tCB(r:List V->Hp->VK->Prop)(t:TA):TE:=λσ H Q=>t σ H λvs H1=>r vs H1 Q
¤aN(hc:g8 X (.builtin id) r)(hg:Gl X x)(hm:X.mg x=none)(hv:bootBuiltins x=some (.builtin id))(ha:PA X (e::es) t)(hn:x≠"__name__":=by decide)(hdb:(x == ("__debug__" : Str))=false:=by decide)
  (he:starEach (e::es) X.env=(false,eval e X.env)::starEach es X.env:=by rfl) (hpl:(backTo pos (starEach es X.env)).any (·.1)=false:=by rfl):PE X (.Call (.Name x p) (e::es) [] pos) (tCB r t):=by
 intro pins s σ H Q I h;refine wpAny_Call_Name_kw (gI I hg hm hv ?_ hn hdb);#PyProof.Rows.callWith_builtin1 (thn (ha pos pins s σ H _ I h) λus s1 ⟨vs,H1,I1,r1,q1⟩=>hc pins s1 σ H1 vs us Q I1 r1 q1) he hpl
¤jm(hc:g8 X (.type T) r)(hg:Gl X x)(hm:X.mg x=none)(hv:bootBuiltins x=some (.type T))(ha:PA X (e::es) t)(hn:x≠"__name__":=by decide)(hdb:(x == ("__debug__" : Str))=false:=by decide)
  (he:starEach (e::es) X.env=(false,eval e X.env)::starEach es X.env:=by rfl) (hpl:(backTo pos (starEach es X.env)).any (·.1)=false:=by rfl):PE X (.Call (.Name x p) (e::es) [] pos) (tCB r t):=by
 intro pins s σ H Q I h;refine wpAny_Call_Name_kw (gI I hg hm hv ?_ hn hdb);#PyProof.Rows.callWith_type1 (thn (ha pos pins s σ H _ I h) λus s1 ⟨vs,H1,I1,r1,q1⟩=>hc pins s1 σ H1 vs us Q I1 r1 q1) he hpl
end
end L2
namespace HT
open PySem PyProof.Rows
section
variable {prog:Program} {w:World} {A:Around} {E:Value->Shared->Prop} {s:Shared}
¦sIx(n d:Nat):Option Int->Nat
 | none=>d
 | some v=>if v<0 then (v+(n:Int)).toNat else min v.toNat n
¤sIx_none(n d:Nat):sIx n d none=d:=rfl
¤sIx_nat(n d k:Nat):sIx n d (some (k:Int))=min k n:=by
 show(if (k:Int)<0 then ((k:Int)+(n:Int)).toNat else min (k:Int).toNat n)=min k n
 rw[if_neg ~,Int.toNat_natCast]
end
end HT
namespace L2
open PySem PySem.Spec PyProof.Rows
noncomputable abbrev TO:=St->Hp->(Option Int->Hp->Prop)->Prop
¦PO(X:Cx)(e:Option Expr)(t:TO):Prop :=
 ∀(pins:List (Addr×Obj)) (s:Shared) (σ:St) (H:Hp) (Q:Option Int->Hp->Prop),Dn X pins σ H s->t σ H Q ->
  wpAny (model X.prog X.w) X.A (evalPart e X.env) (λu s'=>∃o H',Dn X pins σ H' s'/\IsPart u o/\Q o H') X.xe s
¦xq:TO:=λ_ H Q=>Q none H
¦Bv(t:TE):TO:=λσ H Q=>t σ H λx H1=>∃i,x = .int i/\Q (some i) H1
section
variable {X:Cx} {e:Expr} {te:TE} {lo hi:Option Expr} {tl th:TO} {pos p2:Pos}
¤nU:PO X none xq:=by
 intro pins s σ H Q I h;rw[evalPart_none];#wpAny_pure ⟨none,H,I,.none,h⟩
¤kf(h:PE X e te):PO X (some e) (Bv te):=by
 intro pins s σ H Q I hw;rw[evalPart_some];refine thn (h pins s σ H _ I hw) λu s1 ⟨x,H1,I1,r1,q1⟩=>?_;@i,rfl,q:=q1;@t,rfl:=r1;§some i,H1,I1,.int i t,q
¦SlR(X:Cx)(r:V->Option Int->Option Int->Hp->VK->Prop):Prop :=
 ∀(pins:List (Addr×Obj)) (s:Shared) (σ:St) (H:Hp) (x:V) (v vl vu:Value) (lo hi:Option Int) (sl:Addr) (Q:VK),Dn X pins σ H s->bz x v->s.heap.IsSliceOf sl vl vu .none->IsPart vl lo->IsPart vu hi->r x lo hi H Q ->
  ∃T id,typeLookup (.type T) "__getitem__" = pure (some (.builtin id))/\s.TypeIs v T/\wpAny (model X.prog X.w) X.A (getItem v (.ref sl)) (EP X pins σ Q) X.xe s
¦tSl(r:V->Option Int->Option Int->Hp->VK->Prop)(te:TE)(tl th:TO):TE:=λσ H Q=>te σ H λx H1=>tl σ H1 λl H2=>th σ H2 λu H3=>r x l u H3 Q
¤kW{r:V->Option Int->Option Int->Hp->VK->Prop}(hr:SlR X r)(he:PE X e te)(hl:PO X lo tl)(hu:PO X hi th):PE X (.Subscript e (.Slice lo hi none p2) pos) (tSl r te tl th):=by
 intro pins s σ H Q I h;refine Subscript_ (thn (he pins s σ H _ I h) λv s1 ⟨x,H1,I1,r1,q1⟩=>?_);refine wpAny_Slice (thn (hl pins s1 σ H1 _ I1 q1) λvl s2 ⟨l,H2,I2,pl,q2⟩=>thn (hu pins s2 σ H2 _ I2 q2) λvu s3 ⟨u,H3,I3,pu,q3⟩=>?_);rw[evalPart_none];refine wpAny_pure ?_;!I4:Dn X pins σ H3 { s3 with heap:=s3.heap.push { cls:=.type "slice",data:=.fields #[vl,vu,.none] } }:=I3.kept (t':=s3.toks) λb ob q=>Heap.get?_push_of_some _ q;@T,id,hT,ht,hg:=hr pins { s3 with heap:=s3.heap.push { cls:=.type "slice",data:=.fields #[vl,vu,.none] } } σ H3 x v vl vu l u s3.heap.objs.size Q I4 r1 (Heap.IsSliceOf.new ..) pl pu q3;show wpAny (model X.prog X.w) X.A (subscriptTail e (.Slice lo hi none p2) v (.ref s3.heap.objs.size)) (EP X pins σ Q) X.xe { s3 with heap:=s3.heap.push { cls:=.type "slice",data:=.fields #[vl,vu,.none] } };#tail_any (ops:=[.ref s3.heap.objs.size,v]) ht hT hg (by with_unfolding_all rfl)
¦j5(xs:List V)(lo hi:Option Int):List V:=(xs.drop (HT.sIx xs.length 0 lo)).take (HT.sIx xs.length xs.length hi - HT.sIx xs.length 0 lo)
¤qt(xs:List V)(lo hi:Option Int):(j5 xs lo hi).length<=xs.length:=by
 unfold j5;rw[List.length_take,List.length_drop];~
end
¦ixN(n:Nat)(i:Int):Option Nat:=if 0<=i then (if i<n then some i.toNat else none) else if -(n:Int)<=i then some (i+n).toNat else none
¦atI{α:Type}(xs:List α)(i:Int):Option α:=(ixN xs.length i).bind λj=>xs[j]?
¤sS{n:Nat}{i:Int}{j:Nat}(h:ixN n i=some j):seqIndex? i n=some j/\j<n/\-(n:Int)<=i/\i<n:=by
 unfold ixN at h
 by_cases h0:0<=i
 ·rw[if_pos h0]at h
  by_cases h1:i<n
  ·rw[if_pos h1]at h
   !e:i.toNat=j:=Option.some.inj h;§by rw[seqIndex_of h0 h1,e],~,~,h1
  ·rw[if_neg h1]at h;cases h
 ·rw[if_neg h0]at h
  by_cases h1:-(n:Int)<=i
  ·rw[if_pos h1]at h
   !e:(i+n).toNat=j:=Option.some.inj h;§by rw[seqIndex_neg ~ h1,e],~,h1,(~)
  ·rw[if_neg h1]at h;cases h
¤tQ{α:Type}{xs:List α}{i:Int}{v:α}(h:atI xs i=some v):∃j,seqIndex? i xs.length=some j/\xs[j]? = some v/\j<xs.length/\-(xs.length:Int)<=i/\i<xs.length:=by
 unfold atI at h;cases e:ixN xs.length i with
 | none=>rw[e]at h;cases h
 | some j =>
  rw[e]at h;@h1,h2,h3,h4:=sS e;§j,h1,h,h2,h3,h4
¤dD{α:Type}{xs:List α}{j:Nat}{v:α}(h:xs[j]? = some v):atI xs (j:Int)=some v:=by
 !hj:j<xs.length:=(List.getElem?_eq_some_iff.mp h).1;!e:ixN xs.length (j:Int)=some j:=by
  unfold ixN;rw[if_pos ~,if_pos ~];simp
 unfold atI;rw[e];#h
¤xc{α:Type}(xs:List α)(v:α):atI (xs++[v]) (-1)=some v:=by
 !hl:(xs++[v]).length=xs.length+1:=by simp
 !e:ixN (xs++[v]).length (-1)=some xs.length:=by
  unfold ixN;rw[hl,if_neg &,if_pos ~]
  congr 1
  ~
 unfold atI;rw[e];show(xs++[v])[xs.length]? = some v;simp
¦yN(b:Expr):Prop:=∀o i,subscripted b false o i=operate [o,i] (getItem o i)
¦IxR(X:Cx)(r:R2):Prop :=
 ∀(value slice:Expr) (pins:List (Addr×Obj)) (s:Shared) (σ:St) (H:Hp) (x y:V) (v u:Value) (Q:VK),Dn X pins σ H s->bz x v->bz y u->r x y H Q ->
  subscripted slice false v u=operate [v,u] (getItem v u)->wpAny (model X.prog X.w) X.A (subscriptTail value slice v u) (EP X pins σ Q) X.xe s
¦MtR(X:Cx)(id:String)(r:V->List V->Hp->VK->Prop):Prop :=
 ∀(pins:List (Addr×Obj)) (s:Shared) (σ:St) (H:Hp) (x:V) (xs:List V) (v:Value) (us:List Value) (Q:VK),Dn X pins σ H s->bz x v->aZ xs us->r x xs H Q ->
  wpAny (model X.prog X.w) X.A (call (.builtin id) (v::us)) (EP X pins σ Q) X.xe s
section
variable {X:Cx} {a b:Expr} {ta tb:TE} {pos:Pos}
¤ax{r:R2}(hr:IxR X r)(ha:PE X a ta)(hb:PE X b tb)(hs:yN b):PE X (.Subscript a b pos) (tOp r ta tb):=by
 intro pins s σ H Q I h;#Subscript_ (Bb ha hb I h λv u s2 x y H2 I2 rx ry q=>hr a b pins s2 σ H2 x y v u Q I2 rx ry q (hs _ _))
inductive JQ (K:W.Frag) (x y:V) (H:Hp) (Q:VK):Prop
 | mk (p:Addr) (xs:List V) (i:Int) (v:V) (e:x = .ref p) (f:y = .int i) (s:SqL K H p xs) (a:atI xs i=some v) (q:Q v H):JQ K x y H Q
inductive Ku (K:W.Frag) (x y:V) (H:Hp) (Q:VK):Prop
 | mk (p:Addr) (xs:List V) (i:Int) (v:V) (e:x = .ref p) (f:y = .int i) (s:SqT K H p xs) (a:atI xs i=some v) (q:Q v H):Ku K x y H Q
¤aW:IxR X (JQ X.K):=by
 intro value slice pins s σ H x y v u Q I rx ry h hs;@p,xs,i,z,rfl,rfl,hq,he,q:=h;cases rx;@t,rfl:=ry;@its,r,pl,hz:=I.list hq;@j,h1,h2,h3,h4,h5:=tQ he;@w,ew,rw':=r.get h2;!hl:=r.length;!hn:=og;!fin:EP X pins σ Q w s:=⟨z,H,I,rw',q⟩
 by_cases h0:0<=i
 ·!hj:i.toNat=j:=by
   rw[seqIndex_of h0 h5]at h1;#Option.some.inj h1
  #item_listR pl.isList h0 ~ (by rw[hj];simpa using ew) fin hs
 ·!hj:(i+(its.toArray.size:Int)).toNat=j:=by
   rw[seqIndex_neg ~ h4]at h1;rw[List.size_toArray,<- hl];#Option.some.inj h1
  #subscriptTail_builtinR (x:=w) pl.isList.typeIs slot_list_getitem.lookup
   (wpAny_getItem_list_neg (Q:=λr s'=>r=w/\EP X pins σ Q r s') pl.isList ~ (by rw[List.size_toArray] <;> ~) ~ (by rw[hj];simpa using ew) ⟨rfl,fin⟩) hs
¤ap:IxR X (Ku X.K):=by
 intro value slice pins s σ H x y v u Q I rx ry h hs;@p,xs,i,z,rfl,rfl,hq,he,q:=h;cases rx;@t,rfl:=ry;@its,r,pl,hz:=I.tuple hq;@j,h1,h2,h3,h4,h5:=tQ he;@w,ew,rw':=r.get h2;!hl:=r.length;!hn:=og;!fin:EP X pins σ Q w s:=⟨z,H,I,rw',q⟩;#subscriptTail_builtinR (x:=w) pl.typeIs slot_tuple_getitem.lookup
  (getItem_tuple (j:=j) (Q:=λr s'=>r=w/\EP X pins σ Q r s') pl ~ ~ (by rw[List.size_toArray,<- hl];#h1) (by simpa using ew) ⟨rfl,fin⟩) hs
¤qX(its:List Value)(n j:Nat)(u:Value):Obj.mapSeq (·.setIfInBounds j u) { cls:=.type "list",data:=.seq its.toArray n }={ cls:=.type "list",data:=.seq (its.set j u).toArray n }:=by
 simp[Obj.mapSeq]
¤Dn.lst{pins:List (Addr×Obj)}{σ:St}{H:Hp}{s:Shared}{p:Addr}{xs:List V}(I:Dn X pins σ H s)(h:H p=some (.lst xs)) :
  ∃(its:List Value) (n:Nat),aZ xs its/\s.heap.get? p=some { cls:=.type "list",data:=.seq its.toArray n }/\xs.length<=sizeLine:=by
 @z,its,n,r,e:=I.hok p _ h;§its,n,r,e,z
¤Dn.lstUpd{pins:List (Addr×Obj)}{σ:St}{H:Hp}{s:Shared}{p:Addr}{xs ys:List V}{its its':List Value}{n n':Nat}{f:Obj->Obj}(I:Dn X pins σ H s)(h:H p=some (.lst xs))
  (ho:s.heap.get? p=some { cls:=.type "list",data:=.seq its.toArray n }) (hf:f { cls:=.type "list",data:=.seq its.toArray n }={ cls:=.type "list",data:=.seq its'.toArray n' }) (r:aZ ys its') (hz:ys.length<=sizeLine) (t:Nat) :
  Dn X pins σ (upd H p (.lst ys)) { s with heap:=s.heap.update p f,toks:=t }:=by
 !e:(s.heap.update p f).get? p=some { cls:=.type "list",data:=.seq its'.toArray n' }:=by
  rw[Heap.get?_update_self f ho (by rw[hf] <;> rfl),hf]
 refine I.write (x:=p) (e:=p) (by rw[h];trivial) (.inl rfl) (λb u hb q=>(Heap.get?_update_other _ _ (Ne.symm hb)).trans q) ⟨_,e⟩ ?_;§hz,its',n',r,e
¦BP:V->V->V->Hp->(Hp->Prop)->Prop:=λo i v H Q=>∃p xs k j,o = .ref p/\i = .int k/\H p=some (.lst xs)/\ixN xs.length k=some j/\Q (upd H p (.lst (xs.set j v)))
¤vj:Bg X BP:=by
 intro pins s σ H o i v ov iv u Q I ro ri rv h;@p,xs,k,j,rfl,rfl,hp,hj,q:=h;cases ro;@t,rfl:=ri;@its,n,r,ho,hz:=I.lst hp;@h1,h2,h3,h4:=sS hj;!hl:=r.length;!hn:=og;!I':Dn X pins σ (upd H p (.lst (xs.set j v))) { s with heap:=s.heap.update p (Obj.mapSeq (·.setIfInBounds j u)) } :=
  I.lstUpd hp ho (qX its n j u) (r.set rv j) (by rw[List.length_set];#hz) s.toks
 by_cases h0:0<=k
 ·!hk:k.toNat=j:=by
   rw[seqIndex_of h0 h4]at h1;#Option.some.inj h1
  #W.ki_setAt ho h0 ~ (by rw[List.size_toArray,<- hl];#h4) (by rw[hk];§_,I',q)
 ·!hk:(k+(its.toArray.size:Int)).toNat=j:=by
   rw[seqIndex_neg ~ h3]at h1;rw[List.size_toArray,<- hl];#Option.some.inj h1
  #W.ki_setBack ho ~ (by rw[List.size_toArray,<- hl];#h3) ~ (by rw[hk];§_,I',q)
¤nM(lo hi:Option Int)(n:Nat):(sliceBounds lo hi none n).1=((HT.sIx n 0 lo:Nat):Int)/\(sliceBounds lo hi none n).2.1=((HT.sIx n n hi:Nat):Int)/\(sliceBounds lo hi none n).2.2=1:=by
 ¶?_,?_,rfl
 ·cases lo with
  | none=>simp[sliceBounds,HT.sIx]
  | some i =>
   simp only[sliceBounds,HT.sIx,Option.getD_none,show(1:Int)>0 by decide,if_true]
   by_cases h:i<0
   ·simp only[h,if_true] <;> ~
   ·simp only[h,if_false] <;> ~
 ·cases hi with
  | none=>simp[sliceBounds,HT.sIx]
  | some i =>
   simp only[sliceBounds,HT.sIx,Option.getD_none,show(1:Int)>0 by decide,if_true]
   by_cases h:i<0
   ·simp only[h,if_true] <;> ~
   ·simp only[h,if_false] <;> ~
¤l6(its:List Value)(lo hi:Option Int):slicePick its.toArray lo hi none=((its.drop (HT.sIx its.length 0 lo)).take (HT.sIx its.length its.length hi - HT.sIx its.length 0 lo)).toArray:=by
 @h1,h2,h3:=nM lo hi its.toArray.size;unfold slicePick;rw[h1,h2,h3];simp only[sliceRange_one,pick_run,List.size_toArray] <;> rfl
¦C3(K:W.Frag):V->Option Int->Option Int->Hp->VK->Prop:=λx lo hi H Q=>∃a xs,x = .ref a/\SqL K H a xs/\∀p,H p=none->Q (.ref p) (upd H p (.lst (j5 xs lo hi)))
¤xD:SlR X (C3 X.K):=by
 intro pins s σ H x v vl vu lo hi sl Q I rx hs pl pu h;@a,xs,rfl,hx,q:=h;cases rx;@its,r,ht,hz:=I.list hx;!hlen:=r.length;?"list",_,slot_list_getitem.lookup,ht.isList.typeIs;refine wpAny_getItem_list_slice ht.isList hs pl pu .none (by simp) ?_ (by rw[List.size_toArray] <;> ~);rw[l6,<- hlen];¶.ref s.heap.objs.size,_,I.laid (t':=s.toks) (o:=.lst (j5 xs lo hi)) (λb ob q=>Heap.get?_push_of_some _ q) (Nat.le_refl _) ?_,rfl,q _ (I.hok.fresh (Nat.le_refl _));§Nat.le_trans (qt xs lo hi) hz,_,0,(r.drop (HT.sIx xs.length 0 lo)).take (HT.sIx xs.length xs.length hi - HT.sIx xs.length 0 lo),Heap.get?_push_size _ rfl
¦zB:V->Bool
 | .non=>true
 | .bl _=>true
 | .int _=>true
 | .str _=>true
 | _=>false
¦eqV:V->V->Bool
 | .non,.non=>true
 | .bl a,.bl b=>a == b
 | .bl a,.int b=>(if a then 1 else 0) == b
 | .int a,.bl b=>a == (if b then 1 else 0)
 | .int a,.int b=>a == b
 | .str a,.str b=>a == b
 | _,_=>false
¤AS{A:Around}{s:Shared}{y x:V}{u v:Value}(ry:bz y u)(rx:bz x v)(fy:zB y=true)(fx:zB x=true):SeqAt.EqAt A s u v (eqV y x):=by
 cases y with
 | non =>
  cases ry;cases x with
  | non=>cases rx;#SeqAt.EqAt.same _
  | bl b=>cases rx;#SeqAt.EqAt.none_bool b
  | int b=>@t,rfl:=rx;#SeqAt.EqAt.none_int b t
  | str b=>@t,rfl:=rx;#SeqAt.EqAt.none_str b t
  | _=>#absurd (show false=true from fx) Bool.false_ne_true
 | bl a =>
  cases ry;cases x with
  | non=>cases rx;#SeqAt.EqAt.bool_none a
  | bl b=>cases rx;#SeqAt.EqAt.bool_bool a b
  | int b=>@t,rfl:=rx;#SeqAt.EqAt.bool_int a b t
  | str b=>@t,rfl:=rx;#SeqAt.EqAt.bool_str a b t
  | _=>#absurd (show false=true from fx) Bool.false_ne_true
 | int a =>
  @t',rfl:=ry;cases x with
  | non=>cases rx;#SeqAt.EqAt.int_none a t'
  | bl b=>cases rx;#SeqAt.EqAt.int_bool a t' b
  | int b=>@t,rfl:=rx;#SeqAt.EqAt.int_int a t' b t
  | str b=>@t,rfl:=rx;#SeqAt.EqAt.int_str a t' b t
  | _=>#absurd (show false=true from fx) Bool.false_ne_true
 | str a =>
  @t',rfl:=ry;cases x with
  | non=>cases rx;#SeqAt.EqAt.str_none a t'
  | bl b=>cases rx;#SeqAt.EqAt.str_bool a t' b
  | int b=>@t,rfl:=rx;#SeqAt.EqAt.str_int a t' b t
  | str b=>@t,rfl:=rx;#SeqAt.EqAt.str_str a t' b t
  | _=>#absurd (show false=true from fx) Bool.false_ne_true
 | _=>#absurd (show false=true from fy) Bool.false_ne_true
inductive JZ (K:W.Frag) (xs:List V) (H:Hp) (Q:VK):Prop
 | mk (p:Addr) (ys:List V) (e:xs = [.ref p]) (s:SqL K H p ys\/SqT K H p ys) (q:Q (.int ys.length) H):JZ K xs H Q
¤aO:g8 X (.builtin "len") (JZ X.K):=by
 intro pins s σ H xs us Q I r h;@p,ys,rfl,hq,q:=h;@u,rfl,rx:=kG r;cases rx;!hn:=og;rcases hq with hq|hq
 ·@its,r',pl,hz:=I.list hq
  !hlen:=r'.length;#Calls.call_len_list pl.isList (by simp only[List.size_toArray] <;> ~) ⟨.int ys.length,H,I.tok _,⟨s.toks+1,by rw[List.size_toArray,hlen]⟩,q⟩
 ·@its,r',pl,hz:=I.tuple hq
  !hlen:=r'.length;#len_tuple pl (by simp only[List.size_toArray] <;> ~) ⟨.int ys.length,H,I.tok _,⟨s.toks+1,by rw[List.size_toArray,hlen]⟩,q⟩
¤oG:g8 X (.type "list") (λxs H Q=>∃p ys,xs = [.ref p]/\(SqL X.K H p ys\/SqT X.K H p ys)/\∀l,H l=none->Q (.ref l) (upd H l (.lst ys))):=by
 intro pins s σ H xs us Q I r h;@p,ys,rfl,hq,q:=h;@u,rfl,rx:=kG r;cases rx;!fin:∀(its:List Value),aZ ys its->ys.length<=sizeLine->∀(h':Heap) (c':Nat),(∀b o',s.heap.get? b=some o'->h'.get? b=some o') ->
   h'.get? s.heap.objs.size=some { cls:=.type "list",dict:=none,data:=.seq its.toArray c',slots:=#[] }->EP X pins σ Q (.ref s.heap.objs.size) { s with heap:=h' }:=λits r' hz h' c' kp e =>
  ⟨.ref s.heap.objs.size,_,I.laid (t':=s.toks) kp (Nat.le_refl _) (show cf X.prog X.w _ h' _ (.lst ys) from⟨hz,its,c',r',e⟩),rfl,q _ (I.hok.fresh (Nat.le_refl _))⟩
 rcases hq with hq|hq
 ·@its,r',pl,hz:=I.list hq
  !hlen:=r'.length;@o,ho,hc,n,hd:=pl.isList;#call_list_seq p (.inl rfl) ho hc hd (λh' c' kp e=>fin its r' hz h' c' kp e) (by simp only[List.size_toArray] <;> ~)
 ·@its,r',pl,hz:=I.tuple hq
  !hlen:=r'.length;@o,ho,hc,n,hd:=pl;#call_list_seq p (.inr rfl) ho hc hd (λh' c' kp e=>fin its r' hz h' c' kp e) (by simp only[List.size_toArray] <;> ~)
¦tyV(K:W.Frag)(T:String)(x:V)(H:Hp):Prop:=match x with
 | .str _=>T = "str"
 | .int _=>T = "int"
 | .ref p=>(T = "list"/\∃xs,SqL K H p xs)\/(T = "tuple"/\∃o,K.lookup p=some o/\o.cls = .type "tuple"/\o.dict=none) \/
   (T = "dict"/\((∃kvs,H p=some (.dK kvs))\/∃kvs,H p=some (.dT kvs)))\/(T = "set"/\∃S n,H p=some (.set S n))
 | _=>False
¤uY{pins:List (Addr×Obj)}{σ:St}{H:Hp}{s:Shared}{T:String}{x:V}{v:Value}(I:Dn X pins σ H s)(r:bz x v)(ty:tyV X.K T x H) :
  s.TypeIs v T/\∀a,v = .ref a->∃ob,s.heap.get? a=some ob/\ob.dict=none:=by
 cases x with
 | str z =>
  @t,rfl:=r;cases (show T = "str" from ty);§typeIs_str s z t,λ_ e=>nomatch e
 | int i =>
  @t,rfl:=r;cases (show T = "int" from ty);§typeIs_int s i t,λ_ e=>nomatch e
 | ref p =>
  cases r;rcases ty with⟨rfl,xs,hq⟩|⟨rfl,o,hk,hc,hd⟩|⟨rfl,hk⟩|⟨rfl,S,n,hk⟩
  ·@its,_,pl,_:=I.list hq
   ¶pl.isList.typeIs,λa e=>?_;cases e;@o,n,e,c,hd,_:=pl;§o,e,hd
  ·¶⟨o,I.kIn p o hk,hc⟩,λa e=>?_
   cases e;§o,I.kIn _ o hk,hd
  ·!z:∃o,s.heap.get? p=some o/\o.ExactDict:=by
    rcases hk with⟨kvs,hk⟩|⟨kvs,hk⟩
    ·@_,_,_,_,o,_,_,e,ex,_:=I.hok p _ hk
     §o,e,ex
    ·@_,_,_,_,o,_,_,e,ex,_:=I.hok p _ hk
     §o,e,ex
   @o,e,ex:=z;¶⟨o,e,ex.1⟩,λa e2=>?_;cases e2;§o,e,ex.2.1
  ·@o,_,_,_,e,ex,_:=I.hok p _ hk
   ¶⟨o,e,ex.1⟩,λa e2=>?_;cases e2;§o,e,ex.2.1
 | _=>#False.elim ty
¦CW(K:W.Frag)(T:String)(r:V->List V->Hp->VK->Prop)(to:TE):TE:=λσ H Q=>to σ H λx H1=>tyV K T x H1/\r x [] H1 Q
¦tBM(K:W.Frag)(T:String)(r:V->List V->Hp->VK->Prop)(to:TE)(t:TA):TE:=λσ H Q=>to σ H λx H1=>tyV K T x H1/\t σ H1 λxs H2=>r x xs H2 Q
variable {o e:Expr} {es:List Expr} {to:TE} {t:TA} {name:Str} {apos cpos:Pos} {T id:String} {r:V->List V->Hp->VK->Prop}
¤qU(pa:PlainAttrs T)(slot:Slot T name id)(hty:typeOf (.builtin id)=pure (.type "method_descriptor"))(hm:MtR X id r)(ho:PE X o to)
  (hbase:attributeBase o name X.env (eval o X.env)=eval o X.env:=by rfl) (hline:(apos.endLine == cpos.line)=true:=by rfl):PE X (.Call (.Attribute o name apos) [] [] cpos) (CW X.K T r to):=by
 intro pins s σ H Q I h;refine wpAny_Call_method0_late hbase hline (thn (ho pins s σ H _ I h) λv s1 ⟨x,H1,I1,r1,ty,q1⟩=>?_);@h1,h2:=uY I1 r1 ty;§T,id,pa,slot,hty,h1,h2,Calls.callWith_builtin rfl (PySem.evalArgs_none (hm pins s1 σ H1 x [] v [] Q I1 r1 .nil q1))
¤fF(pa:PlainAttrs T)(slot:Slot T name id)(hty:typeOf (.builtin id)=pure (.type "method_descriptor"))(hm:MtR X id r)(ho:PE X o to)(ha:PA X (e::es) t)
  (hbase:attributeBase o name X.env (eval o X.env)=eval o X.env:=by rfl)
  (hfew:((backTo cpos (starEach (e::es) X.env)).all (λx=>!x.1) && (backToKw cpos (keywordEach [] X.env)).all (λx=>x.1.isSome)
   && decide ((e::es).length+([]:List Keyword).length+(if ([]:List Keyword).isEmpty then 0 else 1)<30))=true:=by rfl)
  (hline:(apos.endLine == cpos.line)=true:=by rfl) (hs:starEach (e::es) X.env=(false,eval e X.env)::starEach es X.env:=by rfl) (hplain:(backTo cpos (starEach es X.env)).any (·.1)=false:=by rfl) :
  PE X (.Call (.Attribute o name apos) (e::es) [] cpos) (tBM X.K T r to t):=by
 intro pins s σ H Q I h;refine wpAny_Call_method_late hbase hfew hline rfl (thn (ho pins s σ H _ I h) λv s1 ⟨x,H1,I1,r1,ty,q1⟩=>?_);@h1,h2:=uY I1 r1 ty;?T,id,pa,slot,hty,h1,h2;!hA:=ha cpos pins s1 σ H1 _ I1 q1;rw[hs]at hA ⊢;refine Calls.callWith_builtin (by show(false || (backTo cpos (starEach es X.env)).any (·.1))=false;rw[hplain] <;> rfl) (Calls.evalArgs_plain ?_);#thn hA λus s2 ⟨vs,H2,I2,r2,q2⟩=>hm pins s2 σ H2 x vs v us Q I2 r1 r2 q2
end
¦MtM(X:Cx)(id:String)(r:V->List V->Hp->VK->Prop):Prop :=
 ∀(pins:List (Addr×Obj)) (s:Shared) (σ:St) (H:Hp) (x:V) (xs:List V) (v:Value) (us:List Value) (Q:VK),Dn X pins σ H s->bz x v->aZ xs us->r x xs H Q ->
  wpAny (model X.prog X.w) X.A (call (.builtin id) (v::us)) (EP X pins σ Q) X.xe s
¤aZ.one:∀{x:V} {us:List Value},aZ [x] us->∃u,us = [u]/\bz x u
 | _,_,.cons r .nil=>⟨_,rfl,r⟩
¤aZ.zero:∀{us:List Value},aZ [] us->us = []
 | _,.nil=>rfl
¤aZ.reverse{xs:List V}{us:List Value}(h:aZ xs us):aZ xs.reverse us.reverse:=by
 induction h with
 | nil=>#.nil
 | cons r t ih=>rw[List.reverse_cons,List.reverse_cons];#aZ.append ih (.cons r .nil)
section
variable {X:Cx} {pins:List (Addr×Obj)} {σ:St} {H:Hp} {s:Shared} {l b:Addr} {xs ys zs:List V}
¤Dn.lset{its its':List Value}{n:Nat}{f:Array Value->Array Value}{t':Nat}(I:Dn X pins σ H s)(hH:H l=some (.lst xs))
  (e:s.heap.get? l=some { cls:=.type "list",data:=.seq its.toArray n }) (hf:f its.toArray=its'.toArray) (hv:aZ ys its') (hz:ys.length<=sizeLine) :
  Dn X pins σ (upd H l (.lst ys)) { s with heap:=s.heap.update l (Obj.mapSeq f),toks:=t' }:=by
 !q:=PySem.IsL.update e f;rw[hf]at q;refine I.write (x:=l) (e:=l) (by rw[hH];#trivial) (.inl rfl) (λb' u hb hu=>(Heap.get?_update_other s.heap (Obj.mapSeq f) (Ne.symm hb)).trans hu) ⟨_,q⟩ ?_;§hz,its',_,hv,q
¤Dn.lnew{its:List Value}{t':Nat}(I:Dn X pins σ H s)(hv:aZ ys its)(hz:ys.length<=sizeLine) :
  Dn X pins σ (upd H s.heap.objs.size (.lst ys)) { s with heap:=s.heap.push { cls:=.type "list",data:=.seq its.toArray },toks:=t' } :=
 I.laid (λ_ _ q=>Heap.get?_push_of_some _ q) (Nat.le_refl _) ⟨hz,its,0,hv,Heap.get?_push_size _ rfl⟩
¤Dn.fresh(I:Dn X pins σ H s):H s.heap.objs.size=none:=I.hok.fresh (Nat.le_refl _)
¤Dn.lstM(I:Dn X pins σ H s)(hH:H l=some (.lst xs)):xs.length<=sizeLine/\∃(its:List Value) (n:Nat),aZ xs its/\xs.length=its.length/\s.heap.get? l=some { cls:=.type "list",data:=.seq its.toArray n }:=by
 @z,its,n,r,e:=I.hok l _ hH;§z,its,n,r,r.length,e
¤vM{n:Nat}(h:n<=sizeLine):Builtin.List.listTooLong n=false:=by
 unfold Builtin.List.listTooLong;#decide_eq_false ~
end
section
variable {X:Cx}
¦xR:V->List V->Hp->VK->Prop:=λx vs H Q=>∃l xs y,x = .ref l/\vs = [y]/\H l=some (.lst xs)/\xs.length<sizeLine/\Q .non (upd H l (.lst (xs++[y])))
¤jo:MtM X "list.append" xR:=by
 intro pins s σ H x vs v us Q I rx rv h;@l,xs,y,rfl,rfl,hH,hz,q:=h;cases rx;@u,rfl,ru:=rv.one;@z,its,n,r,hl,e:=I.lstM hH;refine call_meets F.slot_list_append ⟨_,e,rfl⟩ F.entry_list_append (F.args_list_append_2 _ _) (PySem.list_append l its.toArray n u (by rw[List.size_toArray];~)) ⟨e,?_⟩;¶.non,_,I.lset (its':=its++[u]) hH e (by simp) (r.append (.cons ru .nil)) ?_,rfl,q;rw[List.length_append,List.length_singleton];~
¦xQ:V->List V->Hp->VK->Prop:=λx vs H Q=>∃l b xs zs,x = .ref l/\vs = [.ref b]/\H l=some (.lst xs)/\H b=some (.lst zs)/\xs.length+zs.length<=sizeLine/\Q .non (upd H l (.lst (xs++zs)))
¤uj:MtM X "list.extend" xQ:=by
 intro pins s σ H x vs v us Q I rx rv h;@l,b,xs,zs,rfl,rfl,hH,hB,hz,q:=h;cases rx;@u,rfl,ru:=rv.one;cases ru;@z,its,n,r,hl,e:=I.lstM hH;@z2,its2,n2,r2,hl2,e2:=I.lstM hB;!hsz:its.toArray.size+its2.toArray.size<=sizeLine:=by rw[List.size_toArray,List.size_toArray];~
 !hlong:¬(!its.toArray.isEmpty && Builtin.List.listTooLong (its.toArray.size+its2.toArray.size))=true:=by
  rw[vM hsz,Bool.and_false];#Bool.false_ne_true
 refine call_meets F.slot_list_extend ⟨_,e,rfl⟩ F.entry_list_extend (F.args_list_extend_2 _ _)
  (AutoSeq1.list_extend_list_list_0 l its.toArray n b its2.toArray n2 hlong (by rw[List.size_toArray];~) ~) ⟨e,e2,?_⟩
 ¶.non,_,I.lset (its':=its++its2) hH e (by simp) (r.append r2) ?_,rfl,q;rw[List.length_append];~
¦vy:V->List V->Hp->VK->Prop:=λx vs H Q=>∃l xs,x = .ref l/\vs = []/\H l=some (.lst xs)/\Q .non (upd H l (.lst xs.reverse))
¤qW:MtM X "list.reverse" vy:=by
 intro pins s σ H x vs v us Q I rx rv h;@l,xs,rfl,rfl,hH,q:=h;cases rx;!hus:=rv.zero;subst hus;@z,its,n,r,hl,e:=I.lstM hH;refine call_meets F.slot_list_reverse ⟨_,e,rfl⟩ F.entry_list_reverse (F.args_list_reverse_1 _) (AutoSeq1.list_reverse_list_0 l its.toArray n (by rw[List.size_toArray];~)) ⟨e,?_⟩;¶.non,_,I.lset (its':=its.reverse) hH e (by simp) r.reverse ?_,rfl,q;rw[List.length_reverse];~
¦C4:R2:=λx y H Q=>∃l b xs zs,x = .ref l/\y = .ref b/\H l=some (.lst xs)/\H b=some (.lst zs)/\xs.length+zs.length<=sizeLine/\∀p,H p=none->Q (.ref p) (upd H p (.lst (xs++zs)))
¤Ak:OpR X (binaryOp .Add) C4:=by
 intro pins s σ H x y v u Q I rx ry h;@l,b,xs,zs,rfl,rfl,hH,hB,hz,q:=h;cases rx;cases ry;@z,its,n,r,hl,e:=I.lstM hH;@z2,its2,n2,r2,hl2,e2:=I.lstM hB;refine PySem.P.add_list e e2 ?_ (by rw[List.size_toArray,List.size_toArray];~);!ea:its.toArray++its2.toArray=(its++its2).toArray:=by simp
 rw[ea];§.ref _,_,I.lnew (t':=s.toks) (r.append r2) (by rw[List.length_append];~),rfl,q _ I.fresh
end
section
variable {prog:Program} {w:World} {A:Around} {E:Value->Shared->Prop} {s:Shared}
set_option maxRecDepth 100000 in
end
end L2
namespace Att
open PySem PySem.W PySem.Calls PyProof.Rows
¤jQ{P:Params}{h:Heap}:∀(ns:List Int) (vs:List Value),WellAll P h vs (ns.map WData.int)->IntsAre vs ns:=by
 intro ns
 induction ns with
 | nil =>
  intro vs w;rw[List.map_nil]at w;cases w;#.nil
 | cons n ns ih =>
  intro vs w;rw[List.map_cons]at w;cases w with
  | cons a b =>
   cases a;#.cons _ _ (ih _ b)
¤t8{l:OpenLaw}{n:Nat}(hn:l.most=some n){P:Params}{h:Heap}{args:List WData}{vals:List Value}
  (hpre:l.row.toRowW.claim.pre args=true) (hwl:WellAll P h vals args) :
  ∃a vs ns,vals = [Value.ref a]/\args = [WData.list (ns.map WData.int)]/\h.get? a=some { cls:=.type "list",data:=.seq vs.toArray }/\IntsAre vs ns/\ns.length<=n:=by
 !hsh:WShape.hasAll [] args [.list .int]=true:=(pre_splitW hpre).1;!hc:l.pre.holds [] { args:=args }=true:=(pre_splitW hpre).2;@d,r,rfl,h1,h2:=hasAllW_cons hsh;obtain rfl:=hasAllW_nil h2;@xs,rfl,h3:=hasW_list h1;@ns,rfl:=items_int h3;!hlen:ns.length<=n:=by
  unfold OpenLaw.pre at hc;!h4:(WTm.not (.lt (.lit (.int (n:Int))) (.len (.arg 0)))).holds [] { args:=[.list (ns.map .int)] }=true:=by
   !h4:=(holds_andW hc).1;rw[hn]at h4;#h4
  !h5:=condW_of h4 (w_not (w_lt w_lit (w_len_list (w_arg rfl))));rw[List.length_map]at h5;refine Nat.le_of_not_lt λq=>?_;!q':(n:Int)<((ns.length:Nat):Int):= ~
  first
   | (rw[decide_eq_true q']at h5;#absurd h5 &)
   | (simp at h5;~)
 cases hwl with
 | cons w1 w2 =>
  cases w2;cases w1 with
  | list ho hall=>§_,_,ns,rfl,rfl,ho,jQ ns _ hall,hlen
¤uc(l:OpenLaw)(args:List WData):l.row.toRowW.claim.post args (.bool true) args=true :=
 postW_of (r:=l.row.toRowW) (X:=(true == true))
  (show WShape.has [] (.bool true) .bool=true by first|rfl|decide|simp[WShape.has,WShape.arms,WShape.armsAll])
  (show(WTm.eq .res (.lit (.bool true))).value [] { args:=args,res:=some (.bool true),after:=args }=some (.bool (true == true)) from w_eq_bool (w_res rfl) w_lit) rfl
¤attach_call{l:OpenLaw}{n:Nat}{q:Program}{loose:List Str}{XP:(Str->Option Value)->Heap->Prop}{YP:World->Heap->Prop}{d:DefRec}
  (hn:l.most=some n) (hdf:d.params.defaults = [])
  (call:∀(w:World) (s₀ s1:Shared) (mg mb:Str->Option Value) (fa:Addr) (o:Obj) (pm cd doc:Value) (a:Addr) (vs:List Value) (ns:List Int),
   Ground q loose [] XP w s₀ mg mb s1.heap->YP w s1.heap ->
   s1.heap.get? fa=some o->o.data = .func (docDef d.name d.params d.body d.scope pm cd doc)->s1.heap.CodeRec cd d.name->mg d.name=some (.ref fa) ->
   s1.heap.get? a=some { cls:=.type "list",data:=.seq vs.toArray }->IntsAre vs ns->ns.length<=n->s1.gens = #[] ->
   codeAny (model l.prog w) callerA (.call (.ref fa) ⟨[.ref a],[]⟩) (λr s'=>r = .ok (.ret (.bool true))/\OldK s1.heap s'.heap/\s'.os=s1.os/\AllBare s'.gens) s1) :
  WalkO q loose XP YP l.row.toRowW d [] (λf vs=>PySem.call f vs):=by
 intro w s₀ s1 mg mb G Y fa o pm cd doc dV kV ho hd hcd hD hmg hg args vals as hpre hlay hrd hwl hlo;obtain rfl:dV = .none:=Dflts.none hD hdf;obtain rfl:kV = .none:=Dflts.noKw hD;@a,vs,ns,rfl,rfl,hobj,hints,hlen:=t8 hn hpre hwl;refine enter_call (codeAny_mono (call w s₀ s1 mg mb fa o pm cd doc a vs ns G Y ho (fd_plain hd) hcd hmg hobj hints hlen hg) λr s' hq=>?_);@rfl,h2,h3,h4:=hq;§.inl ⟨.bool true,.bool true,[],rfl,λ_=>rfl,.bool true,uc l _,λ_=>⟨List.Pairwise.nil,λ_ hm=>(nomatch hm)⟩⟩,h2,h3,h4
end Att
namespace L2
open PySem PySem.Spec PyProof.Rows
¤mJ:∀{vs:List Value} {ns:List Int},IntsAre vs ns->aZ (ns.map V.int) vs
 | _,_,.nil=>.nil
 | _,_,.cons n t h=>.cons ⟨t,rfl⟩ (mJ h)
¦bQ(s:Stmt):Arguments:=match s with
 | .FunctionDef _ a _ _ _ _ _ _ _ _=>a
 | _=>{ posonlyargs:=[],args:=[],vararg:=none,kwonlyargs:=[],kw_defaults:=[],kwarg:=none,defaults:=[] }
¦aT(s:Stmt):List Stmt:=match s with
 | .FunctionDef _ _ b _ _ _ _ _ _ _=>b
 | _=>[]
¦ao(s:Stmt):Scope:=match s with
 | .FunctionDef _ _ _ _ _ _ sc _ _ _=>sc
 | _=>{ kind:=.function,names:=[],isGenerator:=false,isCoroutine:=false }
noncomputable abbrev CX0:CXT:=λ_ _ _ _ _ _=>False
noncomputable abbrev E0:XK:=λ_ _ _=>False
¤zb{X:Cx}:iw CX0 X E0:=λ_ _ _ _ _ _ _ h=>h.elim
¤cT{A:Around}{k:Nat}(hr:DO k A):A.units+1<cLine:=Nat.lt_of_le_of_lt (Nat.add_le_add_left (by decide:1<=64) _) hr.units
¤bJ{n:Nat}(h:n<=1000):n<sizeLine:=Nat.lt_of_le_of_lt h &
section
variable {X:Cx}
¤pv(i:Nat){x:Str}{pos:Pos}(hN:X.N[i]? = some x:=by rfl)(hv:Vis X.env.scope x:=by first|#Or.inl rfl|#Or.inr (Or.inl rfl)|#Or.inr (Or.inr rfl))(hd:(x == ("__debug__" : Str))=false:=by decide)
  (hcd:(x == ("__classdict__" : Str))=false:=by decide):PE X (.Name x pos) (Jl i):=vC hN hv hd hcd
end
¤lB{A B:Prop}(h:B):if false=true then A else B:=by
 rw[if_neg Bool.false_ne_true];#h
¤ux{A B:Prop}(h:A):if true=true then A else B:=by
 rw[if_pos rfl];#h
¦Same(H H':Hp):Prop:=∀b o,H b=some o->H' b=some o
¤Same.refl(H:Hp):Same H H:=λ_ _ h=>h
¤Same.trans{H H1 H2:Hp}(a:Same H H1)(b:Same H1 H2):Same H H2:=λc o h=>b c o (a c o h)
¤Same.free{H H':Hp}(e:Same H H'){l:Addr}(h:H' l=Option.none):H l=Option.none:=by
 cases q:H l with
 | none=>rfl
 | some o =>
  rw[e l o q]at h;cases h
¤Same.seq{K:W.Frag}{H H':Hp}{a:Addr}{xs:List V}(e:Same H H')(h:SqL K H a xs):SqL K H' a xs:=by
 rcases h with(h|⟨o,h⟩)|h
 ·#.inl (.inl (e _ _ h))
 ·#.inl (.inr ⟨o,e _ _ h⟩)
 ·#.inr h
end L2
end
section
set_option Elab.async false
set_option linter.all false
set_option maxRecDepth 100000
set_option maxHeartbeats 4000000
namespace Mth
¤pS{a b:Int}(ha:0<=a)(hb:0<b):Int.gcd b (a % b)=Int.gcd a b:=by
 @m,rfl:=Int.eq_ofNat_of_zero_le ha;@n,rfl:=Int.eq_ofNat_of_zero_le (Int.le_of_lt hb);rw[<- Int.natCast_emod];show Nat.gcd (n:Int).natAbs ((m % n:Nat):Int).natAbs=Nat.gcd (m:Int).natAbs (n:Int).natAbs;simp only[Int.natAbs_natCast];rw[Nat.gcd_comm m n,Nat.gcd_comm n (m % n)];#(Nat.gcd_rec n m).symm
¤sT(a b:Int):Int.gcd (if a<0 then -a else a) b=Int.gcd a b:=by
 split
 ·#Int.neg_gcd
 ·rfl
¤wq(a b:Int):Int.gcd a (if b<0 then -b else b)=Int.gcd a b:=by
 rw[Int.gcd_comm,sT,Int.gcd_comm]
¤gcd_zero{a:Int}(ha:0<=a):(Int.gcd a 0:Int)=a:=by
 rw[Int.gcd_zero];~
structure EG(t b:Int):Prop where
 pos:1<=b
 one:Int.gcd t b=1
¤kr{a b:Int}(h:b≠0):0<(Int.gcd a b:Int):=by
 !:=Int.gcd_pos_of_ne_zero_right a h;~
¤AU(a b:Int):a=a / (Int.gcd a b:Int)*(Int.gcd a b:Int):=(Int.ediv_mul_cancel (Int.gcd_dvd_left a b)).symm
¤tm(a b:Int):b=b / (Int.gcd a b:Int)*(Int.gcd a b:Int):=(Int.ediv_mul_cancel (Int.gcd_dvd_right a b)).symm
¤yw{a b:Int}(hb:0<b):EG (a / (Int.gcd a b:Int)) (b / (Int.gcd a b:Int)):=by
 !hg:=kr (a:=a) (b:=b) ~;¶?_,?_
 ·!h1:=tm a b
  !h2:0<b / (Int.gcd a b:Int):=Int.ediv_pos_of_pos_of_dvd hb ~ (Int.gcd_dvd_right a b);~
 ·rw[Int.gcd_ediv (Int.gcd_dvd_left a b) (Int.gcd_dvd_right a b)]
  simp only[Int.natAbs_natCast];#Nat.div_self ~
¤sL{t b t' b':Int}(h:EG t b)(e:t*b'=t'*b):b∣b':=by
 !h1:b.natAbs∣t.natAbs*b'.natAbs:=by
  rw[<- Int.natAbs_mul,e,Int.natAbs_mul];#Nat.dvd_mul_left _ _
 !h2:Nat.Coprime b.natAbs t.natAbs:=by
  !:=h.one;unfold Nat.Coprime;rw[Nat.gcd_comm];#this
 #Int.natAbs_dvd_natAbs.mp (h2.dvd_of_dvd_mul_left h1)
¤lg{t b t' b':Int}(h:EG t b)(h':EG t' b')(e:t*b'=t'*b):t=t'/\b=b':=by
 !d1:=sL h e;!d2:=sL h' e.symm;!p1:=h.pos;!p2:=h'.pos;!eb:b=b':=Int.le_antisymm (Int.le_of_dvd ~ d1) (Int.le_of_dvd ~ d2);subst eb;§Int.eq_of_mul_eq_mul_right ~ e,rfl
structure E2(top bottom t b:Int):Prop where
 low:EG t b
 eq:top*b=t*bottom
¤iQ{a b:Int}(hb:0<b):E2 a b (a / (Int.gcd a b:Int)) (b / (Int.gcd a b:Int)):=by
 ?yw hb;!h1:=AU a b;!h2:=tm a b;generalize a / (Int.gcd a b:Int)=x at *;generalize b / (Int.gcd a b:Int)=y at *;generalize (Int.gcd a b:Int)=g at *;subst h1 h2
 grind
¤ng{a b:Int}(hb:b≠0)(d:Int)(hd:d=if b<0 then -(Int.gcd a b:Int) else (Int.gcd a b:Int)):E2 a b (a.fdiv d) (b.fdiv d):=by
 !hg:=kr (a:=a) (b:=b) hb
 by_cases h:b<0
 ·rw[if_pos h]at hd
  !f:=iQ (a:=-a) (b:=-b) ~;rw[Int.gcd_neg,Int.neg_gcd]at f;subst hd;!e1:a.fdiv (-(Int.gcd a b:Int)) = -a / (Int.gcd a b:Int):=by
   rw[<- Int.neg_fdiv_neg,Int.neg_neg];#Int.fdiv_eq_ediv_of_nonneg _ ~
  !e2:b.fdiv (-(Int.gcd a b:Int)) = -b / (Int.gcd a b:Int):=by
   rw[<- Int.neg_fdiv_neg,Int.neg_neg];#Int.fdiv_eq_ediv_of_nonneg _ ~
  rw[e1,e2];§f.low,(by !:=f.eq;grind)
 ·rw[if_neg h]at hd
  subst hd;rw[Int.fdiv_eq_ediv_of_nonneg _ ~,Int.fdiv_eq_ediv_of_nonneg _ ~];#iQ ~
¤pT{a b t u t' u':Int}(hb:b≠0)(h:E2 a b t u)(h':E2 a b t' u'):t=t'/\u=u':=by
 refine lg h.low h'.low ?_;!e1:=h.eq;!e2:=h'.eq;!:b*(t*u')=b*(t'*u):=by grind
 #Int.eq_of_mul_eq_mul_left hb this
end Mth
namespace L2
open PySem PySem.Spec PyProof.Rows
noncomputable abbrev ar(i:Int):Nat:=Builtin.Int.intBits i
¤dM{i:Int}{n:Nat}(h:i.natAbs<2^n):ar i<=n:=intBits_le h
¤dm{i:Int}{n:Nat}(h:ar i<=n):i.natAbs<2^n:=by
 unfold ar Builtin.Int.intBits at h
 by_cases h0:i=0
 ·subst h0
  #Nat.pos_of_ne_zero (by simp)
 ·rw[if_neg (by simpa using h0)]at h
  !h1:i.natAbs≠0:= ~
  #(Nat.log2_lt h1).mp ~
¤gU{i j:Int}{n:Nat}(h:i.natAbs<=j.natAbs)(hj:ar j<=n):ar i<=n:=dM (Nat.lt_of_le_of_lt h (dm hj))
¤bits_mul{i j:Int}{m n:Nat}(hi:ar i<=m)(hj:ar j<=n):ar (i*j)<=m+n:=by
 refine dM ?_;rw[Int.natAbs_mul,Nat.pow_add];#Nat.mul_lt_mul'' (dm hi) (dm hj)
¤bT{i j:Int}{n:Nat}(hi:ar i<=n)(hj:ar j<=n):ar (i+j)<=n+1:=by
 refine dM ?_;!h1:=dm hi;!h2:=dm hj;!h3:(2:Nat)^(n+1)=2*2^n:=by rw[Nat.pow_succ,Nat.mul_comm]
 omega+splitNatSub
¤a9{i j:Int}{n:Nat}(hi:ar i<=n)(hj:ar j<=n):ar (i - j)<=n+1:=by
 refine dM ?_;!h1:=dm hi;!h2:=dm hj;!h3:(2:Nat)^(n+1)=2*2^n:=by rw[Nat.pow_succ,Nat.mul_comm]
 omega+splitNatSub
¤bits_neg{i:Int}{n:Nat}(hi:ar i<=n):ar (-i)<=n:=gU ~ hi
¤bits_abs{i:Int}{n:Nat}(hi:ar i<=n):ar (if i<0 then -i else i)<=n:=gU (by split <;> ~) hi
¤gW{i j:Int}{n:Nat}(hi:ar i<=n):ar (i.fdiv j)<=n:=PySem.intBits_fdiv_le hi
¤de{i b:Int}{n:Nat}(h0:0<=i)(h1:i<=b)(hb:ar b<=n):ar i<=n:=gU ~ hb
¤aq{i:Int}{m n:Nat}(h:ar i<=m)(hm:m<=n):ar i<=n:=Nat.le_trans h hm
section
variable {X:Cx} {pos:Pos}
¦CM(i j:Int):Prop:=IntMulOk i j
¤CM.b{i j:Int}{m n:Nat}(hi:ar i<=m)(hj:ar j<=n)(hm:m<=2^20)(hn:n<=2^20):CM i j:=IntMulOk.of_bits (Nat.le_trans hi hm) (Nat.le_trans hj hn)
¤CM.l{i j:Int}(h:-(2^64)<i/\i<2^64):CM i j:=yR.ok (.inl h)
¤CM.r{i j:Int}(h:-(2^64)<j/\j<2^64):CM i j:=yR.ok (.inr h)
¤aF:OpR X (binaryOp .Mult) (rI CM λi j=>.int (i*j)):=opI λ_ _ _ _ _ _ _ hc q=>mul_int q hc
¦CD(_ j:Int):Prop:=0<j/\ar j<=8000
¤iM{j:Int}{n:Nat}(hj:j≠0)(h:ar j<=n)(hn:n<=9000):j.natAbs.log2<9000:=by
 !h1:j.natAbs≠0:= ~
 !h2:=(Nat.log2_lt h1).mpr (dm h);~
¤dA:OpR X (binaryOp .FloorDiv) (rI CD λi j=>.int (i / j)):=opI λi j _ _ _ _ _ hc q=>by
 !h1:(0:Int)<j:=hc.1;#floordiv_int ~ (by rw[Int.fdiv_eq_ediv_of_nonneg i ~];#q) (.inl (PyProof.noPylong_of_log2 (iM ~ hc.2 &)))
¦CDZ(_ j:Int):Prop:=j≠0/\ar j<=8000
¤pd:OpR X (binaryOp .FloorDiv) (rI CDZ λi j=>.int (i.fdiv j)):=opI λi j _ _ _ _ _ hc q =>
 floordiv_int hc.1 q (.inl (PyProof.noPylong_of_log2 (iM hc.1 hc.2 &)))
¤uk:MtR X "int.bit_length" (λx xs H Q=>∃i,x = .int i/\xs = []/\Q (.int ((ar i:Nat):Int)) H):=by
 intro pins s σ H x xs v us Q I rx rs h;@i,rfl,rfl,q:=h;@t,rfl:=rx;cases rs;#call_int_bit_length ⟨.int _,H,I.tok _,⟨_,rfl⟩,q⟩
end
¤wX:bootBuiltins "int" = some (.type "int"):=by decide +kernel
¤tN:bootBuiltins "bool" = some (.type "bool"):=by decide +kernel
¤iZ:bootBuiltins "tuple" = some (.type "tuple"):=by decide +kernel
¤kC:bootBuiltins "list" = some (.type "list"):=by decide +kernel
¤bW:bootBuiltins "isinstance" = some (.builtin "isinstance"):=by decide +kernel
¤jD:bootBuiltins "abs" = some (.builtin "abs"):=by decide +kernel
¤bX:bootBuiltins "len" = some (.builtin "len"):=by decide +kernel
¤rH:bootBuiltins "min" = some (.builtin "min"):=by decide +kernel
¤AZ:bootBuiltins "max" = some (.builtin "max"):=by decide +kernel
¤iG{X:Cx}{x:Str}{T:String}{pos:Pos}(hm:X.mg x=none)(hv:bootBuiltins x=some (.type T))(hg:Gl X x:=by rfl)(hn:x≠"__name__":=by decide)(hd:(x == ("__debug__" : Str))=false:=by decide) :
  PE X (.Name x pos) (tC (.ty T)):=xU hg hm hv rfl hn hd
inductive Kn (H:Hp):V->String->Prop where
 | non:Kn H .non "NoneType"
 | bl (b:Bool):Kn H (.bl b) "bool"
 | int (i:Int):Kn H (.int i) "int"
 | str (x:Str):Kn H (.str x) "str"
 | lst {a:Addr} {xs:List V} (e:H a=some (.lst xs)):Kn H (.ref a) "list"
 | tup {a:Addr} {xs:List V} (e:H a=some (.tup xs)):Kn H (.ref a) "tuple"
 | dict {a:Addr} {kvs:List (Key×V)} (e:H a=some (.dK kvs)):Kn H (.ref a) "dict"
¤Kn.ty{K:W.Frag}{H:Hp}{x:V}{t:String}(k:Kn H x t):FW K H x (.type t):=by
 cases k with
 | non=>#.non
 | bl b=>#.bl b
 | int i=>#.int i
 | str x=>#.str x
 | lst e=>#.lst e
 | tup e=>#.tup e
 | dict e=>#.dK e
¦jM(t T:String):Bool:=t == T || (t == "bool" && T == "int")
¦uS(T:String):Prop:=T = "int"\/T = "bool"\/T = "tuple"\/T = "list"\/T = "str"
¤Aw(K:W.Frag){H:Hp}{x:V}{t T:String}(k:Kn H x t)(n:uS T):W.kitOne K (.type t) (.type T)=some (jM t T):=by
 rcases n with rfl|rfl|rfl|rfl|rfl <;> cases k <;> kernel_rfl
inductive KD (xs:List V) (H:Hp) (Q:VK):Prop
 | mk (x:V) (t T:String) (e:xs = [x,.ty T]) (k:Kn H x t) (n:uS T) (q:Q (.bl (jM t T)) H):KD xs H Q
¤cO{X:Cx}:g8 X (.builtin "isinstance") KD:=by
 intro pins s σ H xs us Q I rs h;@x,t,T,rfl,k,n,q:=h;@u,v,rfl,ru,rv:=rO rs;cases (show v=Value.type T from rv);#uy I ru k.ty (Aw X.K k n) λtk=>⟨.bl _,H,I.tok _,rfl,q⟩
structure Fn(P:Program)(w:World)(K:W.Frag)(mg:Str->Option Value)(base:Heap)(x:Str)(ps:List Str)(k:Nat)(sp:Sp):Prop where
 ex:∃(f:Addr) (fd:FuncData) (o:Obj),mg x=some (.ref f)/\W.keepIn K (.ref f)=true/\(∀us:List Value,us.length=ps.length->bindArgs fd ⟨us,[]⟩=pure (ps.zip us))/\(K.lookup f=some o/\o.data = .func fd)/\Fg P w K mg base CX0 k f fd ps sp
¤aH{X:Cx}{x:Str}{ps:List Str}{k:Nat}{sp:Sp}{p pos:Pos}{e:Expr}{es:List Expr}{t:TA}(F:Fn X.prog X.w X.K X.mg X.base x ps k sp)(hr:DO k X.A)(hg:Gl X x)(ha:PA X (e::es) t)
  (hdb:(x == ("__debug__" : Str))=false:=by decide) (he:starEach (e::es) X.env=(false,eval e X.env)::starEach es X.env:=by rfl) (hpl:(backTo pos (starEach es X.env)).any (·.1)=false:=by rfl) :
  PE X (.Call (.Name x p) (e::es) [] pos) (rV sp [] E0 t):=by
 @f,fd,o,hm,hk,hb,_,G:=F.ex;#nW G hr hg hm hk (.all hb) .nil zb ha hdb he hpl
structure Df(K:W.Frag)(mg:Str->Option Value)(x:Str)(st:Stmt):Prop where
 ex:∃(f:Addr) (oc:Value) (od:Option Addr) (kV doc pm:Value) (an:Option Addr) (cdv ct:Value) (osl:Array (Option Value)),
  mg x=some (.ref f)/\K.lookup f=some ⟨oc,od,.func (W.fnOf x x (bQ st) (aT st) (ao st) .none kV doc pm an cdv ct),osl⟩/\W.codeIn K cdv x=true/\W.keepIn K (.ref f)=true
¤Cr{K:W.Frag}{mg:Str->Option Value}{h:Heap}{x:Str}{st:Stmt}{f:Addr}{oc:Value}{od an:Option Addr}{osl:Array (Option Value)}{kV doc pm cdv ct:Value}(X:K.In h)(G:h.Ns mainGlobals mg)
  (a:W.nsIn K mainGlobals x=some (some (.ref f))) (l:K.lookup f=some ⟨oc,od,.func (W.fnOf x x (bQ st) (aT st) (ao st) .none kV doc pm an cdv ct),osl⟩) (c:W.codeIn K cdv x=true) (k:W.keepIn K (.ref f)=true) :
  Df K mg x st:=⟨⟨f,oc,od,kV,doc,pm,an,cdv,ct,osl,W.mg_of X G a,l,c,k⟩⟩
¤Df.fn{P:Program}{w:World}{K:W.Frag}{mg:Str->Option Value}{base:Heap}{x:Str}{st:Stmt}{N ps:List Str}{k:Nat}{sp:Sp}(D:Df K mg x st)(S:Dj N ps (ao st))
  (hbind:∀(kV doc pm:Value) (an:Option Addr) (cdv ct:Value) (us:List Value),us.length=ps.length->bindArgs (W.fnOf x x (bQ st) (aT st) (ao st) .none kV doc pm an cdv ct) ⟨us,[]⟩=pure (ps.zip us))
  (len:∀vs H Q E,sp vs H Q E->vs.length=ps.length)
  (hbody:∀(f:Addr) (cdv:Value) (A:Around) (outer:List Env) (s:Shared) (H:Hp) (vs:List V) (Q:VK) (E:XK),DO k (A.deeper (envOfC x (ao st) s.heap.objs.size f cdv))->sp vs H Q E ->
   ∃t,PSs (bV CX0 P w K mg base N x (ao st) f cdv A outer s H E).nox (aT st) t/\t { nx:=λ_ H'=>Q .non H',rt:=Q } (fY N vs) H):Fn P w K mg base x ps (k+1) sp:=by
 @f,oc,od,kV,doc,pm,an,cdv,ct,osl,hm,lk,hcd,hk:=D.ex;¶⟨f,_,_,hm,hk,hbind kV doc pm an cdv ct,⟨lk,rfl⟩,pY lk hcd S len λA outer s H vs Q E hr hsp=>?_⟩;@t,h,q:=hbody f cdv A outer s H vs Q E hr hsp;§t,h.nox,q
¤Av{P:Program}{w:World}{K:W.Frag}{mg:Str->Option Value}{fa:Addr}{k:Nat}{sp:Sp}(h:Heap)(hfa:mg "law" = some (.ref fa))(F:∀base:Heap,Fn P w K mg base "law" ["script"] k sp) :
  ∃fd:FuncData,(∀(s:Shared) (v:Value),BindsTo s fd ⟨[v],[]⟩ [("script",v)])/\∀base:Heap,K.In base->base.Ns mainGlobals mg->Fg P w K mg base CX0 k fa fd ["script"] sp:=by
 @f,fd,o,hm,_,hb,⟨hl,hd⟩,_:=(F h).ex;rw[hfa]at hm;cases hm;¶fd,λs v=>.of_eq (hb [v] rfl),λbase _ _=>?_;@f',fd',o',hm',_,_,⟨hl',hd'⟩,G:=(F base).ex;rw[hfa]at hm';cases hm';rw[hl]at hl';cases hl';rw[hd]at hd';cases hd';#G
¤Same.new{H:Hp}{p:Addr}{o:HO}(h:H p=none):Same H (upd H p o):=λb o' e=>by
 rw[aR (a6 e h)];#e
¤aY{c:Bool}{A B:Prop}(h1:c=true->A)(h2:c=false->B):if c=true then A else B:=by
 cases c with
 | true=>#ux (h1 rfl)
 | false=>#lB (h2 rfl)
¤aK{b:Bool}{A B:Prop}(hb:b=false)(h:B):if b=true then A else B:=by
 subst hb;#lB h
¤bM{b:Bool}{A B:Prop}(hb:b=true)(h:A):if b=true then A else B:=by
 subst hb;#ux h
¦yp(s:Stmt):List Stmt:=match s with
 | .For _ _ b _ _=>b
 | _=>[]
¦ol:V->Bool
 | .int _=>true
 | _=>false
end L2
namespace Sp1
open PySem PySem.Spec L2 Mth
inductive Gn (vs:List V) (H:Hp) (Q:VK) (x_3:XK):Prop
 | mk:∀x t,(vs = [x])->(Kn H x t)->(Q (.bl (ol x)) H)->Gn vs H Q x_3
inductive IZ (vs:List V) (H:Hp) (Q:VK) (x_3:XK):Prop
 | mk:∀a b:Int,(vs = [.int a,.int b])->(Q (.int (Int.gcd a b:Int)) H)->IZ vs H Q x_3
¦lowB(a b:Int):Bool:=decide (1<=b) && decide (Int.gcd a b=1)
¦ma:List V->Bool
 | [.int a,.int b]=>lowB a b
 | _=>false
¦jP(H:Hp):V->Bool
 | .ref p=>match H p with
  | some (.tup xs)=>ma xs
  | _=>false
 | _=>false
structure HR(H:Hp)(x:V):Prop where
 kn:∃t,Kn H x t
 parts:∀p xs,x = .ref p->H p=some (.tup xs)->∀y∈xs,∃t,Kn H y t
inductive Jw (vs:List V) (H:Hp) (Q:VK) (x_3:XK):Prop
 | mk:∀x,(vs = [x])->(HR H x)->(Q (.bl (jP H x)) H)->Jw vs H Q x_3
¤mI{H:Hp}{x:V}{t:String}(k:Kn H x t):(jM t "int" = true->(!jM t "bool")=ol x)/\(jM t "int" = false->ol x=false):=by
 cases k with
 | non=>§λh=>absurd h &,λ_=>rfl
 | bl b=>§λ_=>(show(!jM "bool" "bool")=false by decide),λh=>absurd h &
 | int i=>§λ_=>(show(!jM "int" "bool")=true by decide),λh=>absurd h &
 | str x=>§λh=>absurd h &,λ_=>rfl
 | lst e=>§λh=>absurd h &,λ_=>rfl
 | tup e=>§λh=>absurd h &,λ_=>rfl
 | dict e=>§λh=>absurd h &,λ_=>rfl
¤lW(a:Int):0<=(if a<0 then -a else a):=by split <;> ~
¤Kn.cases_int{H:Hp}{y:V}{t:String}(k:Kn H y t):(∃a,y = .int a/\t = "int")\/((∀a,y≠.int a)/\ol y=false):=by
 cases k with
 | int a=>#.inl ⟨a,rfl,rfl⟩
 | non=>#.inr ⟨λa e=>(nomatch e),rfl⟩
 | bl b=>#.inr ⟨λa e=>(nomatch e),rfl⟩
 | str x=>#.inr ⟨λa e=>(nomatch e),rfl⟩
 | lst e=>#.inr ⟨λa e=>(nomatch e),rfl⟩
 | tup e=>#.inr ⟨λa e=>(nomatch e),rfl⟩
 | dict e=>#.inr ⟨λa e=>(nomatch e),rfl⟩
¤Kn.cases_tup{H:Hp}{y:V}{t:String}(k:Kn H y t):(∃p xs,y = .ref p/\H p=some (.tup xs)/\t = "tuple")\/(jP H y=false/\jM t "tuple" = false):=by
 cases k with
 | tup e=>#.inl ⟨_,_,rfl,e,rfl⟩
 | non=>#.inr ⟨rfl,&⟩
 | bl b=>#.inr ⟨rfl,&⟩
 | str x=>#.inr ⟨rfl,&⟩
 | int a=>#.inr ⟨rfl,&⟩
 | lst e=>#.inr ⟨by simp only[jP,e],&⟩
 | dict e=>#.inr ⟨by simp only[jP,e],&⟩
¤vW{H:Hp}{p:Addr}{xs:List V}(e:H p=some (.tup xs)):jP H (.ref p)=ma xs:=by simp only[jP,e]
¤vZ{xs:List V}(h:xs.length≠2):ma xs=false:=by
 unfold ma
 split
 ·#absurd rfl h
 ·rfl
¤v5{y z:V}(h:∀a,y≠.int a):ma [y,z]=false:=by
 unfold ma
 split
 ·rename_i a b e
  cases e;#absurd rfl (h a)
 ·rfl
¤vY{y z:V}(h:∀a,z≠.int a):ma [y,z]=false:=by
 unfold ma
 split
 ·rename_i a b e
  cases e;#absurd rfl (h b)
 ·rfl
¤sz{n:Nat}(h:n<=1000):n<=sizeLine:=Nat.le_of_lt (bJ h)
¤Da{H:Hp}{p:Addr}{o:HO}(h:H p=none):∃H1,upd H p o=H1/\Same H H1/\H1 p=some o:=⟨_,rfl,Same.new h,upd_same⟩
¤atI_mem{α:Type}{xs:List α}{k:Int}(h0:0<=k)(h1:k<(xs.length:Int)):∃v,atI xs k=some v/\v∈xs:=by
 !hk:k.toNat<xs.length:= ~
 !ek:k=((k.toNat:Nat):Int):= ~
 !q:=dD (xs:=xs) (j:=k.toNat) (List.getElem?_eq_getElem hk);rw[<- ek]at q;§xs[k.toNat],q,List.getElem_mem hk
¤th_tup{H:Hp}{p:Addr}{xs:List V}(e:H p=some (.tup xs))(h:∀y∈xs,∃t,Kn H y t):HR H (.ref p):=⟨⟨_,.tup e⟩,λp' ys e1 e2=>by
 cases e1;rw[e]at e2;cases e2;#h⟩
¤m8{a b:Int}{n:Nat}(hb:b≠0)(h:ar b<=n):ar (Int.gcd a b:Int)<=n:=by
 refine gU ?_ h;!h1:(Int.gcd a b)∣b.natAbs:=Int.gcd_dvd_natAbs_right a b;!h2:=Nat.le_of_dvd ~ h1;~
end Sp1
namespace L2
open PySem PySem.Spec PyProof.Rows
¤xi(ns ms:List Int):((List.range (min ns.length ms.length)).all (λj=>decide (ns[j]? = ms[j]?)) && ns.length == ms.length)=decide (ns=ms):=by
 rw[Bool.eq_iff_iff];simp only[Bool.and_eq_true,List.all_eq_true,List.mem_range,decide_eq_true_eq,beq_iff_eq];constructor
 ·rintro⟨h1,h2⟩
  refine List.ext_getElem? λj=>?_
  by_cases hj:j<ns.length
  ·#h1 j ~
  ·rw[List.getElem?_eq_none ~,List.getElem?_eq_none ~]
 ·rintro rfl
  §λ_ _=>rfl,rfl
¤uX{ns:List Int}{us:List Value}{j:Nat}(r:aZ (ns.map V.int) us)(h:j<us.length):∃a,ns[j]? = some a/\bz (.int a) us[j]:=by
 !hl:=r.length;rw[List.length_map]at hl;!hj:j<ns.length:= ~
 @u,e,q:=r.get (i:=j) (x:=.int ns[j]) (by rw[List.getElem?_map,List.getElem?_eq_getElem hj];rfl);rw[List.getElem?_eq_getElem h]at e;cases e;§ns[j],List.getElem?_eq_getElem hj,q
section
variable {X:Cx}
inductive KF (K:W.Frag) (neg:Bool) (x:V) (y:V) (H:Hp) (Q:VK):Prop
 | mk:∀(p q:Addr) (ns ms:List Int),(x = .ref p)->(y = .ref q)->(SqT K H p (ns.map V.int))->(SqT K H q (ms.map V.int))->(Q (.bl (if neg then !decide (ns=ms) else decide (ns=ms))) H)->KF K neg x y H Q
¤we{A:Around}{s:Shared}{ns ms:List Int}{us vs:List Value}(r:aZ (ns.map V.int) us)(r':aZ (ms.map V.int) vs)(j:Nat)(h1:j<us.toArray.size)(h2:j<vs.toArray.size) :
  SeqAt.EqAt A s us.toArray[j] vs.toArray[j] (decide (ns[j]? = ms[j]?)):=by
 rw[List.size_toArray]at h1 h2;@a,ea,ra:=uX r h1;@b,eb,rb:=uX r' h2;!q:=AS (A:=A) (s:=s) ra rb rfl rfl;!e:eqV (.int a) (.int b)=decide (ns[j]? = ms[j]?):=by
  rw[ea,eb];show(a == b)=decide (some a=some b);rw[Bool.eq_iff_iff];simp
 rw[e]at q;#q
¤Aj(hu:X.A.units<cLine):OpR X (compareOp .Eq) (KF X.K false):=by
 intro pins s σ H x y v u Q I rx ry h;@p,q,ns,ms,rfl,rfl,hp,hq,k:=h;cases rx;cases ry;@its,r,pl,_:=I.tuple hp;@jts,r',pl',_:=I.tuple hq;refine SeqAt.eq_tupleAt pl pl' hu (we r r') ⟨.bl _,H,I,rfl,?_⟩;!e1:=r.length;!e2:=r'.length;rw[List.length_map]at e1 e2;rw[List.size_toArray,List.size_toArray,<- e1,<- e2,xi];#k
end
¤cf.has{P:Program}{w:World}{H:Hp}{h:Heap}{a:Addr}{o:HO}(x:cf P w H h a o):∃ob,h.get? a=some ob:=by
 cases o with
 | lst xs=>@_,_,_,_,e:=x;§_,e
 | tup xs=>@_,_,_,ob,e,_:=x;§_,e
 | dK kvs=>@_,_,_,_,ob,_,_,e,_:=x;§_,e
 | dT kvs=>@_,_,_,_,ob,_,_,e,_:=x;§_,e
 | set S n=>@ob,_,_,_,e,_:=x;§_,e
 | ins C dx fs=>@_,_,_,e,_:=x;§_,e
 | own y=>@ob,e:=x;§_,e
 | xd fs=>@_,⟨od,_,_,e,_⟩,_:=x;§_,e
 | rng lo hi=>@_,_,_,e:=x;§_,e
 | frz ob u=>@e,_:=x;§_,e
 | tbl ps=>§_,(show h.get? a=some _ from x)
 | met f y=>§_,(show h.get? a=some _ from x)
 | ext φ=>@_,⟨ob,e⟩,_:=x;§_,e
structure KS(B:Heap)(fs:List Addr)(H':Hp)(h:Heap):Prop where
 tr:∀b o,H' b=some o->∃ob,B.get? b=some ob
 old:∀b o,h.get? b=some o->b∉fs->∃ob,B.get? b=some ob
section
variable {P:Program} {w:World} {fs fs':List Addr} {H H1 H':Hp} {h h1 h2 B:Heap}
¤Un.fly(un:Un fs [] H H' h h1)(big:KS B fs H' h)(st1:B.StaysIn h1)(st2:B.StaysIn h2)(sl:h1.UpToSlots h2)
  (fr:∀b∈fs,H b=none/\∀o,h1.get? b=some o->∀vs,o.data≠.fields vs):Un fs [] H H' h h2 where
 keep:=λb o e n hb hx=>by
  !e1:=un.keep b o e n hb hx;@ob,eb:=big.old b o e hb;!e2:=st1 b ob eb;rw[e1]at e2;cases e2;#st2 b _ eb
 slot:=λb o e n hb hx=>by
  @s1,e1:=un.slot b o e n hb hx;@s2,e2:=sl b _ e1 ((fr b hb).2 _ e1);§s2,e2
 free:=un.free
 there:=λb o e hx=>by
  by_cases hb:b∈fs
  ·@s1,e1:=un.slot b o e (fr b hb).1 hb hx
   @s2,e2:=sl b _ e1 ((fr b hb).2 _ e1);§_,e2
  ·@ob,eb:=big.old b o e hb
   §_,st2 b ob eb
 tups:=un.tups
 frzs:=un.frzs
 tbls:=un.tbls
¤HOk.fly(hok:HOk P w H' h1)(big:KS B fs H' h)(st1:B.StaysIn h1)(st2:B.StaysIn h2):HOk P w H' h2:=λa o e=>by
 refine(hok a o e).stay (λb u hb q=>?_) (λ_ q=>q) λ_ _ q=>q;!hb':∃ob,B.get? b=some ob:=by
  rcases hb with z|z
  ·rw[z]
   #big.tr a o e
  ·#big.tr b _ z
 @ob,eb:=hb';!e2:=st1 b ob eb;rw[q]at e2;cases e2;#st2 b _ eb
¤Un.shed(a:Un fs [] H H1 h h1)(b:Un fs' [] H1 H' h1 h2)(sub:∀x∈fs,x∈fs')(out:∀x o,h.get? x=some o->x∈fs'->x∈fs):Un fs [] H H' h h2 where
 keep:=λx o e n hx hn=>b.keep x o (a.keep x o e n hx hn) (a.free x o e n hn) (λz=>hx (out x o e z)) hn
 slot:=λx o e n hx hn=>by
  @s1,e1:=a.slot x o e n hx hn;@s2,e2:=b.slot x _ e1 (a.free x o e n hn) (sub x hx) hn;§s2,e2
 free:=λx o e n hn=>by
  @o1,e1:=a.there x o e hn;#b.free x o1 e1 (a.free x o e n hn) hn
 there:=λx o e hn=>by
  @o1,e1:=a.there x o e hn;#b.there x o1 e1 hn
 tups:=λx xs e=>b.tups x xs (a.tups x xs e)
 frzs:=λx o xs e=>b.frzs x o xs (a.frzs x o xs e)
 tbls:=λx ps e=>by
  @m1,e1:=a.tbls x ps e;@m2,e2:=b.tbls x _ e1;§m1++m2,(by rw[e2,Array.append_assoc])
end
¦CXE(P:Program)(w:World):CXT:=λouter H s E e s'=>∃(ea t:Addr) (cls:Value) (H':Hp) (B:Heap),
 e = .ref ea/\s'.os=s.os/\AllBare s'.gens/\Un (frs outer) [] H H' s.heap s'.heap/\HOk P w H' s'.heap/\Heap.FlyingW B outer ea cls (.ref t) s'.heap/\KS B (frs outer) H' s.heap/\E cls none H'
section
variable {P:Program} {w:World} {K:W.Frag} {mg:Str->Option Value} {base:Heap} {N:List Str} {qual:Str} {scope:Scope} {f:Addr} {cdv:Value} {A:Around} {outer:List Env} {s₀:Shared} {H₀:Hp} {E:XK}
¤wF{env:Env}{L:Addr}(hf:env.frame=some L)(l:List Env):frs (env::l)=L::frs l:=by
 unfold frs;rw[List.filterMap_cons,hf]
¤zX{pins:List (Addr×Obj)}{σ:St}{H:Hp}{s:Shared}{h':Heap}{e:Addr}{cls:Value}{vs:List Value}(I:Dn (bV (CXE P w) P w K mg base N qual scope f cdv A outer s₀ H₀ E) pins σ H s)
  (hx:Heap.MadeExcOf s.heap h' e cls vs) (q:E cls none H):(bV (CXE P w) P w K mg base N qual scope f cdv A outer s₀ H₀ E).xe (.ref e) { s with heap:=h' }:=by
 !hin:∀env∈(bV (CXE P w) P w K mg base N qual scope f cdv A outer s₀ H₀ E).stack,∀a,env.frame=some a->a∈frs (bV (CXE P w) P w K mg base N qual scope f cdv A outer s₀ H₀ E).stack :=
  λenv he a ha=>List.mem_filterMap.mpr ⟨env,he,ha⟩
 !neL:∀b o,s₀.heap.get? b=some o->b∉frs outer->b∉frs (bV (CXE P w) P w K mg base N qual scope f cdv A outer s₀ H₀ E).stack:=λb o eb hb hm=>by
  rcases List.mem_cons.mp (I.stkSub b hm) with z|z
  ·#absurd z (Nat.ne_of_lt (Nat.lt_of_lt_of_le (Heap.lt_size eb) I.ok.above))
  ·#hb z
 refine wpAny_leaves_madeW (base:=W.hideAll s.heap (frs (bV (CXE P w) P w K mg base N qual scope f cdv A outer s₀ H₀ E).stack)) (h:=s.heap) (L:=s₀.heap.objs.size) I.ok.frames rfl (λb o z=>W.of_hideAll _ z) (W.funFrames_hide I.stack hin) hx λh'' t fl _ _ up=>?_;!big:KS (W.hideAll s.heap (frs (bV (CXE P w) P w K mg base N qual scope f cdv A outer s₀ H₀ E).stack)) (frs outer) H s₀.heap:=by
  ¶λb o eb=>?_,λb o eb hb=>?_
  ·@ob,z:=(I.hok b o eb).has
   ¶ob,W.hideAll_get _ z λhm=>?_;rw[I.stkFree b hm]at eb;cases eb
  ·@ob,z:=I.base.there b o eb (by intro z;cases z)
   §ob,W.hideAll_get _ z (neL b o eb hb)
 !st1:(W.hideAll s.heap (frs (bV (CXE P w) P w K mg base N qual scope f cdv A outer s₀ H₀ E).stack)).StaysIn s.heap:=λb o z=>W.of_hideAll _ z;!sl:s.heap.UpToSlots h'':=(Heap.UpToSlots.of_keeps hx.keeps).trans up;#⟨e,t,cls,H,_,rfl,I.os,I.bare,Un.fly I.base big st1 fl.1 sl λb hb=>⟨I.ok.frf b hb,λo eo=>by
   @_,o',eo',nf:=I.funs.mem hb;rw[eo]at eo';cases eo';#nf⟩,HOk.fly I.hok big st1 fl.1,fl,big,q⟩
¤xV{E1:XK}(hE:∀c o H',E1 c o H'->E c o H'):iw (CXE P w) (bV (CXE P w) P w K mg base N qual scope f cdv A outer s₀ H₀ E) E1:=by
 intro pins σ H s e s' I h;@ea,t,cls,H',B,rfl,os,bare,un,hok,fl,big,q:=h;refine wpAny_leaves_onW (L:=s₀.heap.objs.size) I.ok.frames rfl fl λh'' fl' up=>?_;!out:∀x o,s₀.heap.get? x=some o->x∈frs (bV (CXE P w) P w K mg base N qual scope f cdv A outer s₀ H₀ E).stack->x∈frs outer:=λx o ex hm=>by
  rcases List.mem_cons.mp (I.stkSub x hm) with z|z
  ·#absurd z (Nat.ne_of_lt (Nat.lt_of_lt_of_le (Heap.lt_size ex) I.ok.above))
  ·#z
 !sub:∀x∈frs outer,x∈frs (bV (CXE P w) P w K mg base N qual scope f cdv A outer s₀ H₀ E).stack:=λx hx=>by
  show x∈frs (_::outer);rw[wF (L:=s₀.heap.objs.size) rfl];#List.mem_cons_of_mem _ hx
 !un1:Un (frs outer) [] H₀ H' s₀.heap s'.heap:=Un.shed I.base un sub out;!big1:KS B (frs outer) H' s₀.heap:=by
  ¶big.tr,λb o eb hb=>?_;@ob,z:=I.base.there b o eb (by intro z;cases z);#big.old b ob z λhm=>hb (out b o eb hm)
 ¶ea,t,cls,H',B,rfl,os.trans I.os,bare,Un.fly un1 big1 fl.1 fl'.1 up λb hb=>⟨I.ok.frf b hb,λo eo=>?_⟩,HOk.fly hok big1 fl.1 fl'.1,fl',big1,hE _ _ _ q;@_,o',eo',nf:=fl'.2.2.1.mem hb;@_,o2,eo2,nf2:=fl.2.2.1.mem (sub b hb);rw[eo]at eo2;cases eo2;#nf2
end
structure HV(K:W.Frag)(mg:Str->Option Value)(x:Str)(C:Addr):Prop where
 bound:mg x=some (.ref C)
 obj:∀h:Heap,K.In h->∃bm N nm qn bs hd sn sub ab col dd k0 k1 k2 k3 k5 mN,h.get? C=some (excClassObj nm qn C N bs bm hd sn sub ab col dd k0 k1 k2 k3 k5 "ValueError.__new__")/\h.Ns N mN/\mN "__init__" = none /\
  OwnTail h [.type "ValueError",.type "Exception",.type "BaseException",.type "object"] bm
¤yv{K:W.Frag}{h:Heap}{C:Addr}{bmB:List Value}{newId:String}(X:K.In h)(q:W.excIn K C bmB newId=true) :
  ∃bm N nm qn bs hd sn sub ab col dd k0 k1 k2 k3 k5 mN,h.get? C=some (excClassObj nm qn C N bs bm hd sn sub ab col dd k0 k1 k2 k3 k5 newId)/\h.Ns N mN/\mN "__init__" = none/\OwnTail h bmB bm:=by
 unfold W.excIn at q
 split at q
 next dct cl sls look =>
  split at q
  next C2 bms a0 a1 a2 a3 nid a5 hmro hsls =>
   simp only[Bool.not_eq_true',beq_iff_eq,Bool.and_eq_true]at q;@⟨⟨⟨⟨q1,q2⟩,q3⟩,q4⟩,q5⟩,q6:=q;subst q1 q2;@c1,c2,c3,c4,c5,c6,c7,c8,c9,c10,c11:=cl;dsimp only at hmro q3 q5 q6;subst hmro q3;@lst:=sls;simp only at hsls;subst hsls;§bms,c4,c1,c5,c2,c6,c7,c8,c9,c10,dct,a0,a1,a2,a3,a5,_,X _ _ look,.of_isNs (W.isNs_of_in X q5),W.nsMap_none_of_in X q5 q6,W.tail_of_in X q4
  next=>cases q
 next=>cases q
¤AR{K:W.Frag}{mg:Str->Option Value}{h:Heap}{x:Str}{C:Addr}(X:K.In h)(G:h.Ns mainGlobals mg)(a:W.nsIn K mainGlobals x=some (some (.ref C)))
  (q:W.excIn K C [.type "ValueError",.type "Exception",.type "BaseException",.type "object"] "ValueError.__new__" = true):HV K mg x C:=⟨W.mg_of X G a,λ_ Y=>yv Y q⟩
section
variable {P:Program} {w:World} {K:W.Frag} {mg:Str->Option Value} {base:Heap} {N:List Str} {qual:Str} {scope:Scope} {f:Addr} {cdv:Value} {A:Around} {outer:List Env} {s₀:Shared} {H₀:Hp} {E:XK}
¤iF{x:Str}{C:Addr}{np cpos pos:Pos}(O:HV K mg x C)(hg:Gl (bV (CXE P w) P w K mg base N qual scope f cdv A outer s₀ H₀ E) x)(hdb:(x == ("__debug__" : Str))=false:=by decide) :
  PS (bV (CXE P w) P w K mg base N qual scope f cdv A outer s₀ H₀ E) (.Raise (some (.Call (.Name x np) [] [] cpos)) none pos) (λ_ _ H=>E (.ref C) none H):=by
 intro pins s σ H D I h;@bm,N',nm,qn,bs,hd,sn,sub,ab,col,dd,k0,k1,k2,k3,k5,mN,hC,hN,hni,T:=O.obj s.heap I.kIn;refine wpAny_Raise_call_subT (C:=C) (nm:=nm) (q:=qn) (N:=N') (bs:=bs) (bm:=bm) (hdct:=hd) (sn:=sn) (sub:=sub) (ab:=ab) (col:=col) (dd:=dd) (k0:=k0) (k1:=k1) (k2:=k2) (k3:=k3) (k5:=k5) PySem.F.excBase_ValueError (mN:=mN) (T.hasType (by decide +kernel)) (I.ok.hd rfl) rfl hni (iO I hg O.bound ⟨rfl,?_⟩ hdb);# evalArgs_empty ⟨rfl,Nat.zero_le _,hC,hN,T,λh' e hx=>zX I hx h⟩
end
structure Fx(P:Program)(w:World)(K:W.Frag)(mg:Str->Option Value)(base:Heap)(x:Str)(ps:List Str)(k:Nat)(ds:List V)(sp:Sp):Prop where
 ex:∃(f:Addr) (fd:FuncData) (its:List Value),mg x=some (.ref f)/\W.keepIn K (.ref f)=true/\gb K fd ps []/\gb K fd ps its/\aZ ds its/\Fg P w K mg base (CXE P w) k f fd ps sp
structure KB(K:W.Frag)(mg:Str->Option Value)(x:Str)(st:Stmt)(ds:List V):Prop where
 ex:∃(f T:Addr) (oT:Obj) (n:Nat) (its:List Value) (oc:Value) (od:Option Addr) (kV doc pm:Value) (an:Option Addr) (cdv ct:Value) (osl:Array (Option Value)),
  mg x=some (.ref f)/\K.lookup f=some ⟨oc,od,.func (W.fnOf x x (bQ st) (aT st) (ao st) (.ref T) kV doc pm an cdv ct),osl⟩/\W.codeIn K cdv x=true/\W.keepIn K (.ref f)=true/\K.lookup T=some oT/\oT.data = .seq its.toArray n/\aZ ds its
¤AW{K:W.Frag}{mg:Str->Option Value}{h:Heap}{x:Str}{st:Stmt}{ds:List V}{its:List Value}{f T:Addr}{oT:Obj}{n:Nat}{oc:Value}{od an:Option Addr}{osl:Array (Option Value)}{kV doc pm cdv ct:Value}(X:K.In h)(G:h.Ns mainGlobals mg)
  (a:W.nsIn K mainGlobals x=some (some (.ref f))) (l:K.lookup f=some ⟨oc,od,.func (W.fnOf x x (bQ st) (aT st) (ao st) (.ref T) kV doc pm an cdv ct),osl⟩) (c:W.codeIn K cdv x=true) (k:W.keepIn K (.ref f)=true)
  (t:K.lookup T=some oT) (d:oT.data = .seq its.toArray n) (v:aZ ds its):KB K mg x st ds:=⟨⟨f,T,oT,n,its,oc,od,kV,doc,pm,an,cdv,ct,osl,W.mg_of X G a,l,c,k,t,d,v⟩⟩
¤KB.fx{P:Program}{w:World}{K:W.Frag}{mg:Str->Option Value}{base:Heap}{x:Str}{st:Stmt}{ds:List V}{N ps:List Str}{k:Nat}{sp:Sp}(D:KB K mg x st ds)(S:Dj N ps (ao st))
  (hb:∀(T:Addr) (kV doc pm:Value) (an:Option Addr) (cdv ct:Value) (us its:List Value) (oT:Obj) (n:Nat) (s:Shared),aZ ds its->us.length=ps.length->s.heap.get? T=some oT->oT.data = .seq its.toArray n ->
   BindsTo s (W.fnOf x x (bQ st) (aT st) (ao st) (.ref T) kV doc pm an cdv ct) ⟨us,[]⟩ (ps.zip us))
  (hd:∀(T:Addr) (kV doc pm:Value) (an:Option Addr) (cdv ct:Value) (us its:List Value) (oT:Obj) (n:Nat) (s:Shared),aZ ds its->(us++its).length=ps.length->s.heap.get? T=some oT->oT.data = .seq its.toArray n ->
   BindsTo s (W.fnOf x x (bQ st) (aT st) (ao st) (.ref T) kV doc pm an cdv ct) ⟨us,[]⟩ (ps.zip (us++its)))
  (len:∀vs H Q E,sp vs H Q E->vs.length=ps.length)
  (hbody:∀(f:Addr) (cdv:Value) (A:Around) (outer:List Env) (s:Shared) (H:Hp) (vs:List V) (Q:VK) (E:XK),DO k (A.deeper (envOfC x (ao st) s.heap.objs.size f cdv))->sp vs H Q E ->
   ∃t,PSs (bV (CXE P w) P w K mg base N x (ao st) f cdv A outer s H E) (aT st) t/\t { nx:=λ_ H'=>Q .non H',rt:=Q } (fY N vs) H):Fx P w K mg base x ps (k+1) ds sp:=by
 @f,T,oT,n,its,oc,od,kV,doc,pm,an,cdv,ct,osl,hm,lk,hcd,hk,hT,hs,hv:=D.ex;¶⟨f,_,its,hm,hk,λs us KX hl=>?_,λs us KX hl=>hd T kV doc pm an cdv ct us its oT n s hv hl (KX _ _ hT) hs,hv,pY lk hcd S len λA outer s H vs Q E hr hsp=>hbody f cdv A outer s H vs Q E hr hsp⟩;rw[List.append_nil]at hl ⊢;#hb T kV doc pm an cdv ct us its oT n s hv hl (KX _ _ hT) hs
¤Df.fx{P:Program}{w:World}{K:W.Frag}{mg:Str->Option Value}{base:Heap}{x:Str}{st:Stmt}{N ps:List Str}{k:Nat}{sp:Sp}(D:Df K mg x st)(S:Dj N ps (ao st))
  (hbind:∀(kV doc pm:Value) (an:Option Addr) (cdv ct:Value) (us:List Value),us.length=ps.length->bindArgs (W.fnOf x x (bQ st) (aT st) (ao st) .none kV doc pm an cdv ct) ⟨us,[]⟩=pure (ps.zip us))
  (len:∀vs H Q E,sp vs H Q E->vs.length=ps.length)
  (hbody:∀(f:Addr) (cdv:Value) (A:Around) (outer:List Env) (s:Shared) (H:Hp) (vs:List V) (Q:VK) (E:XK),DO k (A.deeper (envOfC x (ao st) s.heap.objs.size f cdv))->sp vs H Q E ->
   ∃t,PSs (bV (CXE P w) P w K mg base N x (ao st) f cdv A outer s H E) (aT st) t/\t { nx:=λ_ H'=>Q .non H',rt:=Q } (fY N vs) H):Fx P w K mg base x ps (k+1) [] sp:=by
 @f,oc,od,kV,doc,pm,an,cdv,ct,osl,hm,lk,hcd,hk:=D.ex;!hb:gb K (W.fnOf x x (bQ st) (aT st) (ao st) .none kV doc pm an cdv ct) ps []:=.all (hbind kV doc pm an cdv ct);§⟨f,_,[],hm,hk,hb,hb,.nil,pY lk hcd S len λA outer s H vs Q E hr hsp=>hbody f cdv A outer s H vs Q E hr hsp⟩
¤sr{P:Program}{w:World}{K:W.Frag}{mg:Str->Option Value}{base:Heap}{N:List Str}{qual:Str}{scope:Scope}{f:Addr}{cdv:Value}{A:Around}{outer:List Env}{s₀:Shared}{H₀:Hp}{E:XK}
  {x:Str} {ps:List Str} {k:Nat} {ds:List V} {sp:Sp} {p pos:Pos} {e:Expr} {es:List Expr} {t:TA} (F:Fx P w K mg base x ps k ds sp) (hr:DO k (bV (CXE P w) P w K mg base N qual scope f cdv A outer s₀ H₀ E).A) (hg:Gl (bV (CXE P w) P w K mg base N qual scope f cdv A outer s₀ H₀ E) x)
  (ha:PA (bV (CXE P w) P w K mg base N qual scope f cdv A outer s₀ H₀ E) (e::es) t)
  (hdb:(x == ("__debug__" : Str))=false:=by decide) (he:starEach (e::es) (bV (CXE P w) P w K mg base N qual scope f cdv A outer s₀ H₀ E).env=(false,eval e (bV (CXE P w) P w K mg base N qual scope f cdv A outer s₀ H₀ E).env)::starEach es (bV (CXE P w) P w K mg base N qual scope f cdv A outer s₀ H₀ E).env:=by rfl)
  (hpl:(backTo pos (starEach es (bV (CXE P w) P w K mg base N qual scope f cdv A outer s₀ H₀ E).env)).any (·.1)=false:=by rfl) :
  PE (bV (CXE P w) P w K mg base N qual scope f cdv A outer s₀ H₀ E) (.Call (.Name x p) (e::es) [] pos) (rV sp [] E t):=by
 @g,fd,its,hm,hk,hb,_,_,G:=F.ex;#nW G hr hg hm hk hb .nil (xV λ_ _ _ z=>z) ha hdb he hpl
¤mU{P:Program}{w:World}{X:Cx}:iw (CXE P w) X E0:=λ_ _ _ _ _ _ _ h=>by
 @_,_,_,_,_,_,_,_,_,_,_,_,q:=h;#q.elim
¤kX{X:Cx}{x:Str}{ps:List Str}{k:Nat}{ds:List V}{sp:Sp}{p pos:Pos}{e:Expr}{es:List Expr}{t:TA}(F:Fx X.prog X.w X.K X.mg X.base x ps k ds sp)(hr:DO k X.A)(hg:Gl X x)(ha:PA X (e::es) t)
  (hdb:(x == ("__debug__" : Str))=false:=by decide) (he:starEach (e::es) X.env=(false,eval e X.env)::starEach es X.env:=by rfl) (hpl:(backTo pos (starEach es X.env)).any (·.1)=false:=by rfl) :
  PE X (.Call (.Name x p) (e::es) [] pos) (rV sp [] E0 t):=by
 @g,fd,its,hm,hk,hb,_,_,G:=F.ex;#nW G hr hg hm hk hb .nil mU ha hdb he hpl
end L2
namespace Sp2
open PySem PySem.Spec L2 Mth Sp1
¤vX{H:Hp}{x:V}(h:jP H x=true):∃p a b,x = .ref p/\H p=some (.tup [.int a,.int b])/\EG a b:=by
 unfold jP at h
 split at h
 ·split at h
  ·rename_i p _ xs e
   unfold ma at h
   split at h
   ·rename_i a b
    unfold lowB at h;rw[Bool.and_eq_true,decide_eq_true_eq,decide_eq_true_eq]at h;§p,a,b,rfl,e,h.1,h.2
   ·cases h
  ·cases h
 ·cases h
¤vV{H:Hp}{p:Addr}{a b:Int}(e:H p=some (.tup [.int a,.int b])):jP H (.ref p)=lowB a b:=by
 simp only[jP,e,ma]
¤zn{a b:Int}(h:EG a b):lowB a b=true:=by
 unfold lowB;rw[decide_eq_true h.pos,decide_eq_true h.one];rfl
inductive G7 (vs:List V) (H:Hp) (Q:VK) (x_3:XK):Prop
 | mk:∀(p:Addr) (xs:List V),(vs = [.ref p])->(H p=some (.lst xs))->(Q (.int ((xs.length:Int) - 1)) H)->G7 vs H Q x_3
structure LineAt(H:Hp)(l:Addr)(qs:List (Addr×Int×Int)):Prop where
 lst:H l=some (.lst (qs.map λq=>V.ref q.1))
 crn:∀q∈qs,H q.1=some (.tup [.int q.2.1,.int q.2.2])/\ar q.2.1<=50/\ar q.2.2<=50
¤LineAt.mono{H H':Hp}{l:Addr}{qs:List (Addr×Int×Int)}(L:LineAt H l qs)(s:Same H H'):LineAt H' l qs:=⟨s _ _ L.lst,λq h=>⟨s _ _ (L.crn q h).1,(L.crn q h).2⟩⟩
¤zm{n:Int}(h0:-1000<=n)(h1:n<=1000):-(2^64)<n/\n<2^64:=by
 !e:(2:Int)^64=18446744073709551616:= &
 rw[e];~
¤Bc{ns:List Int}{k:Int}(j:Nat)(e:k=(j:Int))(h:j<ns.length):atI (ns.map V.int) k=some (.int ns[j]):=by
 subst e;#dD (by rw[List.getElem?_map,List.getElem?_eq_getElem h];rfl)
¤cF{n:Int}(h0:-1000<=n)(h1:n<=1000):ar n<=10:=by
 refine dM (n:=10) ?_;show _<1024;~
¤Cm{a b k:Int}(hb:0<b)(h:k*b<=a):k<=a / b:=(Int.le_ediv_iff_mul_le hb).mpr h
end Sp2
namespace L2
open PySem PySem.Spec PyProof.Rows
noncomputable abbrev Cx.blk(X:Cx)(N':List Str)(scope:Scope)(cl:List (Str×Addr))(fp:List Addr)(s₀:Shared)(H₀:Hp):Cx :=
 { X with N:=N',s₀:=s₀,H₀:=H₀,env:=compEnvC scope cl s₀.heap.objs.size X.env,outer:=X.stack,ex:=fp,fn:=λ_=>false,pn:=[],xe:=λ_ _=>False }
¤db{α:Type}{y:Str}{c:α}:∀{l:List (Str×α)},l.lookup y=some c->(y,c)∈l
 | [],h=>by simp at h
 | (n,d)::r,h=>by
  rw[List.lookup_cons]at h;cases e:y == n with
  | true =>
   rw[e]at h;cases h;rw[beq_iff_eq.mp e];#List.mem_cons_self
  | false =>
   rw[e]at h;#List.mem_cons_of_mem _ (db h)
structure Ff(X:Cx)(scope:Scope)(cl:List (Str×Addr))(x:Str)(fv:List (Str×Nat)):Prop where
 clos:closureFor scope X.env=pure cl
 kind:scope.kind = .function
 cell:∀y∈scope.names,y.2≠.cell
 names:∀y∈scope.names,y.2 = .local->scope.names.lookup y.1=some .local
 own:scope.names.lookup x=some .local
 cells:∀p∈cl,X.env.cells.lookup p.1=some p.2
 has:((relabel scope X.env).names.all λq=>!(q.2 == .cell || q.2 == .free) || (cl.lookup q.1).isSome)=true
 nd:(x::fv.map (·.1)).Nodup
 slot:∀p∈fv,X.N[p.2]? = some p.1/\X.env.kindOf p.1=some .cell/\Vis X.env.scope p.1/\(cl.lookup p.1).isSome=true/\((relabel scope X.env).names.lookup p.1=some .cell)
 stk:X.stack=X.env::X.outer/\X.env.frame=some X.env.locals
 noex:X.ex = []
¦fvs(fv:List (Str×Nat))(σ:St):St:=fv.map λp=>(σ[p.2]?).join
¦yV(wi:TI)(fv:List (Str×Nat))(te:TE):TE:=λσ H Q=>wi σ H λJ H1=>∀p,H1 p=none->∃W:Nat->Nat->List V->Hp->Prop,(∃m,W 0 m [] (upd H1 p (.lst [])))/\∀i m acc H2,W i m acc H2 ->
 H2 p=some (.lst acc)/\acc.length<sizeLine/\((J.stop i H2/\Q (.ref p) H2)\/(J.go i H2/\∀x H3,J.yld i H2 x H3->te (some x::fvs fv σ) H3 λy H4=>H4 p=some (.lst acc)/\∃m',m'<m/\W (i+1) m' (acc++[y]) (upd H4 p (.lst (acc++[y])))))
section
variable {X:Cx} {scope:Scope} {cl:List (Str×Addr)} {x:Str} {fv:List (Str×Nat)} {elt iter:Expr} {px pos:Pos} {te:TE}
¤A9{pins:List (Addr×Obj)}{σ:St}{H:Hp}{s:Shared}{fp:List Addr}(C:Ff X scope cl x fv)(I:Dn X pins σ H s)(hf:∀b∈fp,gi X pins H b)(ho:∀b∈fp,b<s.heap.objs.size):(X.blk (x::fv.map (·.1)) scope cl fp s H).Ok:=by
 !hcl:∀y c,cl.lookup y=some c->X.env.cells.lookup y=some c:=λy c h=>C.cells _ (db h);!old:∀b∈fp,X.s₀.heap.objs.size<=b:=λb hb=>by
  rcases(hf b hb).2.2.2.1 with z|z
  ·rw[C.noex]at z
   cases z
  ·#z
 ¶I.ok.mod,by show(relabel scope X.env).kind=_;#C.kind,I.ok.glob,I.ok.blt,Nat.le_refl _,λy z c h1 h2=>I.ok.inj y z c (hcl y c h1) (hcl z c h2),λy hy=>?_,(λy c h=>by cases h),I.ok.hd,I.ok.frames,.inl rfl,λb hb=>?_,λb o e=>I.bs b o e,Nat.le_trans I.ok.bsz I.sz,λb o e hb=>?_,λb hb hm=>?_,I.stack,I.stkFree
 ·!q:=C.has
  rw[List.all_eq_true]at q;!hm:∃k,(y,k)∈(relabel scope X.env).names/\(k = .cell\/k = .free):=by
   rcases hy with hy|hy
   ·§_,db hy,.inl rfl
   ·§_,db hy,.inr rfl
  @k,hk,hk2:=hm;!q2:=q _ hk;!q3:(cl.lookup y).isSome=true:=by
   rcases hk2 with rfl|rfl
   ·simpa using q2
   ·simpa using q2
  #Option.isSome_iff_exists.mp q3
 ·@f0,f1,f2,f3,f4,f5:=hf b hb
  ¶?_,λy c h=>f4 y c (hcl y c h);#Nat.ne_of_lt (ho b hb)
 ·!z:=Heap.lt_size e
  !z2:=old b hb;#absurd (Nat.lt_of_lt_of_le z (Nat.le_trans I.ok.bsz z2)) (Nat.lt_irrefl _)
 ·@f0,f1,f2,f3,f4,f5:=hf b hb
  rcases List.mem_cons.mp (I.stkSub b hm) with z|z
  ·#f1 z
  ·#f2 z
¤yE{pins:List (Addr×Obj)}{σ:St}{H:Hp}{s s4:Shared}{fp:List Addr}(C:Ff X scope cl x fv)(I:Dn X pins σ H s)(hf:∀b∈fp,gi X pins H b)(ho:∀b∈fp,b<s.heap.objs.size)
  (hs:s4.os=s.os/\s4.gens=s.gens) (ns:s4.heap.Ns s.heap.objs.size λ_=>none) (kp:∀b o,s.heap.get? b=some o->s4.heap.get? b=some o) :
  Dn (X.blk (x::fv.map (·.1)) scope cl fp s H) [] (none::fvs fv σ) H s4:=by
 !hcl:∀y c,cl.lookup y=some c->X.env.cells.lookup y=some c:=λy c h=>C.cells _ (db h);¶A9 C I hf ho,hs.1,by rw[hs.2];#I.bare,Un.kept kp,⟨_,ns,λi y v e1 e2 e3=>?_⟩,λy c h=>?_,I.hok.fresh (Nat.le_refl _),λy c h=>I.freeC y c (hcl y c h),λp hp=>by simp at hp,I.hok.kept kp,(by simp[fvs])
 ·cases i with
  | zero=>simp at e2
  | succ j =>
   !e1':(fv.map (·.1))[j]? = some y:=by simpa using e1
   !e2':(fvs fv σ)[j]? = some (some v):=by simpa using e2
   rw[List.getElem?_map]at e1';unfold fvs at e2';rw[List.getElem?_map]at e2';cases hq:fv[j]? with
   | none =>
    rw[hq]at e1';cases e1'
   | some q =>
    rw[hq]at e1' e2';!ey:q.1=y:=Option.some.inj e1';!ev:(σ[q.2]?).join=some v:=Option.some.inj e2';!hm:q∈fv:=List.mem_of_getElem? hq;@s1,s2,s3,s4',s5:=C.slot q hm;!ev2:σ[q.2]? = some (some v):=by
     cases hz:σ[q.2]? with
     | none =>
      rw[hz]at ev;cases ev
     | some z =>
      rw[hz]at ev;!ev':z=some v:=ev;rw[ev']
    @m,hn,hl:=I.loc;@u,r,lk:=hl q.2 q.1 v s1 ev2 s3;@c,hc:=Option.isSome_iff_exists.mp s4';¶u,r,.inr ⟨.inl (by rw[<- ey];#s5),c,by rw[<- ey];#hc,?_⟩;rcases lk with⟨k,_⟩|⟨_,c',hc',z⟩
    ·rw[s2]at k
     cases k
    ·rw[hcl _ _ hc]at hc'
     cases hc';@o,ho',hd:=z;§o,kp _ _ ho',hd
 ·@v,o,ho',hd:=I.cell y c (hcl y c h)
  §v,o,kp _ _ ho',hd
¤tO{pins:List (Addr×Obj)}{σ:St}{H2:Hp}{s2:Shared}{it:Addr}{fp:List Addr}{tn:Nat->Heap->Prop}{J:It}{RR:Value->Addr->Result->Shared->Prop}{E:Value->Shared->Prop}{Qf:V->Hp->Prop}
  (hcalm:X.calm=true) (C:Ff X scope cl x fv) (I2:Dn X pins σ H2 s2) (T:GM X.prog X.w X.K (.Name x px) J fp it tn) (st:tn 0 s2.heap) (f2:∀b∈fp,gi X pins H2 b)
  (rd:∀p,H2 p=none->∃W:Nat->Nat->List V->Hp->Prop,(∃m,W 0 m [] (upd H2 p (.lst [])))/\∀i m acc H2,W i m acc H2 ->
   H2 p=some (.lst acc)/\acc.length<sizeLine/\((J.stop i H2/\Qf (.ref p) H2)\/(J.go i H2/\∀x H3,J.yld i H2 x H3->te (some x::fvs fv σ) H3 λy H4=>H4 p=some (.lst acc)/\∃m',m'<m/\W (i+1) m' (acc++[y]) (upd H4 p (.lst (acc++[y]))))))
  (he:∀(s₀:Shared) (H₀:Hp),PE (X.blk (x::fv.map (·.1)) scope cl fp s₀ H₀) elt te)
  (hRR:∀(p C:Addr) (H':Hp) (s':Shared),(∃m,s'.heap.Ns C m)->C≠X.env.locals->H' C=none->X.s₀.heap.objs.size<=C->(∀y c,X.env.cells.lookup y=some c->c≠C)->(∀q∈X.pn++pins,q.1≠C)->Dn X pins σ H' s'->Qf (.ref p) H'->RR (.ref p) C (.ok .next) s') :
  wpAny (model X.prog X.w) X.A (newList []) (λacc s₃=>wpAny (model X.prog X.w) X.A (newFunctionEnv scope X.env.globals cl [] X.env.qual none .none (some X.env)) (λcenv s₄ =>
   codeAny (model X.prog X.w) X.A (.compStart (.ListComp elt [⟨.Name x px,iter,[],0⟩] scope pos) 0 (.ref it) acc { cenv with scope:=relabel scope X.env }) (RR acc cenv.locals) s₄) E s₃) E s2:=by
 refine wpAny_newObj_type ?_;!hfresh:=I2.fresh;!I3:Dn X pins σ (upd H2 s2.heap.objs.size (.lst [])) { s2 with heap:=s2.heap.push { cls:=.type "list",data:=.seq ([]:List Value).toArray } } :=
  I2.laid (t':=s2.toks) (λb u q=>Heap.get?_push_of_some _ q) (Nat.le_refl _) ⟨Nat.zero_le _,[],0,.nil,Heap.get?_push_size _ rfl⟩
 generalize hs3:({ s2 with heap:=s2.heap.push { cls:=.type "list",data:=.seq ([]:List Value).toArray } }:Shared)=s3 at I3 ⊢;!hp3:s2.heap.objs.size<s3.heap.objs.size:=by rw[<- hs3];#Nat.lt_of_lt_of_le (Nat.lt_succ_self _) (Nat.le_of_eq (Heap.size_push _ _).symm)
 !k23:∀b o,s2.heap.get? b=some o->s3.heap.get? b=some o:=λb o e=>by rw[<- hs3];#Heap.get?_push_of_some _ e
 !fpo:∀b∈fp,b<s2.heap.objs.size:=λb hb=>by
  @o,e,_:=T.obj 0 _ st b hb;#Heap.lt_size e
 !f3:∀b∈fp,gi X pins (upd H2 s2.heap.objs.size (.lst [])) b:=λb hb=>⟨by rw[aR (Nat.ne_of_lt (fpo b hb))];#(f2 b hb).1,(f2 b hb).2⟩;refine wpAny_newFunctionEnv C.cell (by intro y hy;simp at hy) (λh1 hns1 hsb1=>?_) C.kind;!kp:∀b o,s3.heap.get? b=some o->h1.get? b=some o:=λb o e=>(hsb1.2 b (Nat.ne_of_lt (Heap.lt_size e))).trans (Heap.get?_push_of_some _ e);!I4:=yE (s4:={ s3 with heap:=h1,toks:=s3.toks+([]:List (Str×Value)).length }) C I3 f3 (λb hb=>Nat.lt_trans (fpo b hb) hp3) ⟨rfl,rfl⟩ hns1 kp;!st4:tn 0 h1:=T.keep 0 _ _ st λb _ o e=>kp b o (k23 b o e);@W,⟨m0,w0⟩,step:=rd _ hfresh;!loop:codeAny (model X.prog X.w) X.A (.compLoop (.ListComp elt [⟨.Name x px,iter,[],0⟩] scope pos) 0 (.ref it) (.ref s2.heap.objs.size) (compEnvC scope cl s3.heap.objs.size X.env)) (RR (.ref s2.heap.objs.size) s3.heap.objs.size)
   { s3 with heap:=h1,toks:=s3.toks+([]:List (Str×Value)).length }:=by
  refine codeAny_compLoop_list (λn s=>∃i acc σv H',Dn (X.blk (x::fv.map (·.1)) scope cl fp s3 (upd H2 s2.heap.objs.size (.lst []))) [] (σv::fvs fv σ) H' s/\tn i s.heap/\(∀b∈fp,H' b=none)/\W i n acc H') ?_ m0 ⟨0,[],none,_,I4,st4,λb hb=>(f3 b hb).1,w0⟩;rintro n s ⟨i,acc,σv,H',I',st',fr',w'⟩;@hp,hlen,alt:=step i n acc H' w';!fpk:∀{H5:Hp},(∀b∈fp,H5 b=none)->∀b∈fp,gi (X.blk (x::fv.map (·.1)) scope cl fp s3 (upd H2 s2.heap.objs.size (.lst []))) [] H5 b:=λh5 b hb =>
   ⟨h5 b hb,(I'.ok.exf b hb).1,I'.ok.exfs b hb,.inl hb,λy c e=>(I'.ok.exf b hb).2 y c e,λq hq=>by simp at hq⟩
  rcases alt with⟨stop,qf⟩|⟨go,turn⟩
  ·refine wpAny_mono (T.done (X.blk (x::fv.map (·.1)) scope cl fp s3 (upd H2 s2.heap.objs.size (.lst []))) rfl rfl rfl hcalm i [] s _ H' (λ_ _=>False) I' (fpk fr') st' stop) (λr s5 ⟨hr,I5⟩=>?_) λ_ _ z=>False.elim z
   subst hr;refine hRR _ _ H' s5 (let ⟨m,hn,_⟩:=I5.loc;⟨m,hn⟩) (Nat.ne_of_gt I3.lt) I5.free I3.sz (λy c e=>?_) (λq hq=>?_) ?_ qf
   ·@v,z:=I3.cell y c e
    #Nat.ne_of_lt z.lt
   ·#Nat.ne_of_lt (Heap.lt_size (I3.pin q hq).1)
   ·#I3.call' (s':=s5) (ch:=fp) I5.os I5.base I5.hok I5.bare λb hb=>⟨(f2 b hb).2.2.2.1,(f2 b hb).2.1,(f2 b hb).2.2.2.2.1,(f2 b hb).2.2.2.2.2⟩
  ·refine wpAny_mono (T.item (X.blk (x::fv.map (·.1)) scope cl fp s3 (upd H2 s2.heap.objs.size (.lst []))) rfl rfl rfl hcalm i [] s _ H' (λ_ _=>False) I' (fpk fr') st' go) (λr s5 ⟨u,hr,h5⟩=>?_) λ_ _ z=>False.elim z
   subst hr;!e5:assign (.Name x px) (compEnvC scope cl s3.heap.objs.size X.env) u=(letOwnedTupleGo (.Name x px) (.ref it) u >>= λ_=>assign (.Name x px) (compEnvC scope cl s3.heap.objs.size X.env) u):=by
    rw[show letOwnedTupleGo (.Name x px) (.ref it) u=pure () from rfl];rfl
   show wpAny _ _ (assign (.Name x px) (compEnvC scope cl s3.heap.objs.size X.env) u) _ _ _;rw[e5];refine wpAny_bind (wpAny_mono h5 (λ_ s6 ⟨y,H6,I6,r6,y6,st6,fr6⟩=>?_) λ_ _ z=>False.elim z);!I6':=I6.pinned (fpk fr6) (T.obj _ _ st6);!lx:(relabel scope X.env).names.lookup x=some .local:=lookup_relabel_local C.own;refine wpAny_mono (aQ (X:=X.blk (x::fv.map (·.1)) scope cl fp s3 (upd H2 s2.heap.objs.size (.lst []))) (i:=0) C.nd rfl (.inl lx) (.inr lx) _ s6 _ H6 y u (λσ7 H7=>σ7=some y::fvs fv σ/\H7=H6) I6' r6 ⟨rfl,rfl⟩) (λ_ s7 ⟨σ7,H7,I7,e7,e7'⟩=>?_) λ_ _ z=>False.elim z;subst e7 e7';refine wpAny_mono (he s3 _ _ s7 _ _ _ I7 (turn y _ y6)) (λv8 s8 ⟨y8,H8,I8,r8,q8,m',hm',w8⟩=>?_) λ_ _ z=>False.elim z;refine wpAny_mono (jo (X:=X.blk (x::fv.map (·.1)) scope cl fp s3 (upd H2 s2.heap.objs.size (.lst []))) _ s8 _ H8 (.ref s2.heap.objs.size) [y8] (.ref s2.heap.objs.size) [v8] (λ_ H9=>H9=upd H8 s2.heap.objs.size (.lst (acc++[y8]))) I8 rfl (.cons r8 .nil) ⟨_,acc,y8,rfl,rfl,q8,hlen,rfl⟩) (λ_ s9 ⟨_,H9,I9,_,e9⟩=>?_) λ_ _ z=>False.elim z;subst e9;¶m',hm',i+1,acc++[y8],some y,_,I9.unpinned,T.keep _ _ _ st6 λb hb o e=>(I9.pin (b,o) (List.mem_append_right _ (List.mem_append_right _ (d9 hb e)))).1,λb hb=>?_,w8;@o,e,d:=T.obj _ _ st6 b hb;#(I9.pin (b,o) (List.mem_append_right _ (List.mem_append_right _ (d9 hb e)))).2.1
 #codeAny_compStart_list loop (T.self _ 0 _ _ _ st4 loop)
¤xT{wi:TI}(hcalm:X.calm=true)(C:Ff X scope cl x fv)(hi:PI X (.Name x px) iter wi)(he:∀(fp:List Addr) (s₀:Shared) (H₀:Hp),PE (X.blk (x::fv.map (·.1)) scope cl fp s₀ H₀) elt te)
  (hs:∀v,foldedSetIterable iter X.env v=pure v:=by intro _;rfl):PE X (.ListComp elt [⟨.Name x px,iter,[],0⟩] scope pos) (yV wi fv te):=by
 intro pins s σ H Q I h;rw[eval_ListComp];refine wpAny_comprehension_free (use:=none) rfl hs C.clos C.kind C.names (wpAny_mono (hi pins s σ H _ I h) (λv s1 h1=>wpAny_mono h1 (λitv s2 h2=>?_) λ_ _ z=>z) λ_ _ z=>z);@it,fp,tn,J,H2,rfl,I2,T,st2,f2,rd:=h2;refine tO (Qf:=Q) hcalm C I2 T st2 f2 rd (he fp) λp D H' s' ns nL nH n0 nC nP I8 q=>?_;@m,hn:=ns;§m,hn,λh'' sb=>⟨.ref p,H',I8.turned (t':=s'.toks) (λb o hb e=>(sb.2 b hb).trans e) nH nL (.inr n0) nC nP,rfl,q⟩
¤qR{wi:TI}{y:Str}{j:Nat}{py spos:Pos}(hcalm:X.calm=true)(C:Ff X scope cl x fv)(hN:X.N.Nodup)(hj:X.N[j]? = some y)(hy:X.env.scope.names.lookup y=some .local)(hi:PI X (.Name x px) iter wi)(he:∀(fp:List Addr) (s₀:Shared) (H₀:Hp),PE (X.blk (x::fv.map (·.1)) scope cl fp s₀ H₀) elt te)
  (hsw:swapsWith (.ListComp elt [⟨.Name x px,iter,[],0⟩] scope pos) (some (.Name y py)) spos.line X.env=pure true:=by rfl)
  (hs:∀v,foldedSetIterable iter X.env v=pure v:=by intro _;rfl):PS X (.Assign [.Name y py] (.ListComp elt [⟨.Name x px,iter,[],0⟩] scope pos) spos) (ve (yV wi fv te) (lE j)):=by
 intro pins s σ H D I h;rw[exec_Assign_Name_used _ _ _ _ hsw];refine wpAny_bind (wpAny_standAt (wpAny_bind ?_));show wpAny _ _ (do let _ <- comprehension (.ListComp elt [⟨.Name x px,iter,[],0⟩] scope pos) scope X.env _ (newList []) false (eval iter X.env) (some (assign (.Name y py) X.env))) _ _ s
 refine wpAny_bind (wpAny_mono (wpAny_comprehension_free (use:=some (assign (.Name y py) X.env)) (Q:=λ_ s'=>SP X pins D .next s') rfl hs C.clos C.kind C.names
  (wpAny_mono (hi pins s σ H _ I h) (λv s1 h1=>wpAny_mono h1 (λitv s2 h2=>?_) λ_ _ z=>z) λ_ _ z=>z)) (λ_ s' hq=>wpAny_pure (wpAny_pure hq)) λ_ _ z=>z)
 @it,fp,tn,J,H2,rfl,I2,T,st2,f2,rd:=h2;refine tO (Qf:=λv H'=>lE j v σ H' D.nx) hcalm C I2 T st2 f2 rd (he fp) λp D' H' s' ns nL nH n0 nC nP I8 q=>?_;@m,hn:=ns;show wpAny _ _ (assign (.Name y py) X.env (.ref p)) _ _ _;refine wpAny_assign_Name (jd I8 hN hj (.inl hy) (v:=.ref p) rfl (λs9 I9 ⟨a,sb,ha⟩=>?_) (.inr hy));!aD:D'≠a:=by
  rintro rfl;rcases ha with z|z
  ·#nL z
  ·#nC y _ z rfl
 §m,hn.sameBut sb aD,λh'' sb2=>⟨_,H',I9.turned (t':=s9.toks) (λb o hb e=>(sb2.2 b hb).trans e) nH nL (.inr n0) nC nP,q⟩
end
¤lU{n:Nat}{lo:Int}{fv:List (Str×Nat)}{te:TE}{σ:St}{H1:Hp}{Qp:Hp->Prop}{l:Addr}(Pv:Nat->List V->Hp->Prop)(h0:Pv 0 [] (upd H1 l (.lst [])))(hp:∀i acc H2,i<=n->Pv i acc H2->H2 l=some (.lst acc)/\acc.length<sizeLine)
  (hs:∀i acc H2 (K:VK),i<n->Pv i acc H2->(∀y H4,H4 l=some (.lst acc)->Pv (i+1) (acc++[y]) (upd H4 l (.lst (acc++[y])))->K y H4)->te (some (.int (lo+i))::fvs fv σ) H2 K) (hd:∀acc H2,Pv n acc H2->Qp H2) :
  ∃W:Nat->Nat->List V->Hp->Prop,(∃m,W 0 m [] (upd H1 l (.lst [])))/\∀i m acc H2,W i m acc H2 ->
   H2 l=some (.lst acc)/\acc.length<sizeLine/\(((Itr lo n).stop i H2/\Qp H2)\/((Itr lo n).go i H2/\∀x H3,(Itr lo n).yld i H2 x H3->te (some x::fvs fv σ) H3 λy H4=>H4 l=some (.lst acc)/\∃m',m'<m/\W (i+1) m' (acc++[y]) (upd H4 l (.lst (acc++[y]))))):=by
 ?λi m acc H2=>m=n - i/\i<=n/\Pv i acc H2,⟨n,by simp,Nat.zero_le _,h0⟩;rintro i m acc H2 ⟨rfl,hi,p⟩;?(hp i acc H2 hi p).1,(hp i acc H2 hi p).2
 by_cases hlt:i<n
 ·refine .inr ⟨hlt,λx H3 y=>?_⟩
  @e1,e2:=y;subst e1 e2;#hs i acc _ _ hlt p λy H4 z1 z2=>⟨z1,n - (i+1),~,rfl,hlt,z2⟩
 ·!e:i=n:= ~
  subst e;#.inl ⟨Nat.le_refl _,hd acc H2 p⟩
¦vk(s:Stmt):Scope:=match s with
 | .Assign _ (.ListComp _ _ sc _) _=>sc
 | _=>{ kind:=.function,names:=[],isGenerator:=false,isCoroutine:=false }
¤fX{X:Cx}{K:W.Frag}(h:X.K=K):IxR X (Ku K):=h▸ap
¤uM{K:W.Frag}{a:Addr}{xs:List V}{fv:List (Str×Nat)}{te:TE}{σ:St}{H1:Hp}{Qp:Hp->Prop}{l:Addr}(Pv:Nat->List V->Hp->Prop)(h0:Pv 0 [] (upd H1 l (.lst [])))(hp:∀i acc H2,i<=xs.length->Pv i acc H2->SqL K H2 a xs/\H2 l=some (.lst acc)/\acc.length<sizeLine)
  (hs:∀i x acc H2 (Kc:VK),xs[i]? = some x->Pv i acc H2->(∀y H4,H4 l=some (.lst acc)->Pv (i+1) (acc++[y]) (upd H4 l (.lst (acc++[y])))->Kc y H4)->te (some x::fvs fv σ) H2 Kc) (hd:∀acc H2,Pv xs.length acc H2->Qp H2) :
  ∃W:Nat->Nat->List V->Hp->Prop,(∃m,W 0 m [] (upd H1 l (.lst [])))/\∀i m acc H2,W i m acc H2 ->
   H2 l=some (.lst acc)/\acc.length<sizeLine/\(((Itl K a).stop i H2/\Qp H2)\/((Itl K a).go i H2/\∀x H3,(Itl K a).yld i H2 x H3->te (some x::fvs fv σ) H3 λy H4=>H4 l=some (.lst acc)/\∃m',m'<m/\W (i+1) m' (acc++[y]) (upd H4 l (.lst (acc++[y]))))):=by
 ?λi m acc H2=>m=xs.length - i/\i<=xs.length/\Pv i acc H2,⟨xs.length,by simp,Nat.zero_le _,h0⟩;rintro i m acc H2 ⟨rfl,hi,p⟩;@q1,q2,q3:=hp i acc H2 hi p;?q2,q3
 by_cases hlt:i<xs.length
 ·refine .inr ⟨⟨xs,xs[i],q1,List.getElem?_eq_getElem hlt⟩,λx H3 y=>?_⟩
  @e1,e2:=y;subst e1;#hs i x acc _ _ (e2 xs q1) p λy H4 z1 z2=>⟨z1,xs.length - (i+1),~,rfl,hlt,z2⟩
 ·!e:i=xs.length:= ~
  subst e;#.inl ⟨⟨xs,q1,Nat.le_refl _⟩,hd acc H2 p⟩
¤rP{xs:List V}{us:List Value}{j:Nat}(r:aZ xs us)(h:j<us.length):∃a,xs[j]? = some a/\bz a us[j]:=by
 !hl:=r.length;!hj:j<xs.length:= ~
 @u,e,q:=r.get (i:=j) (x:=xs[j]) (List.getElem?_eq_getElem hj);rw[List.getElem?_eq_getElem h]at e;cases e;§xs[j],List.getElem?_eq_getElem hj,q
end L2
namespace L2
open PySem
¤DO.units10{k:Nat}{A:Around}(r:DO k A):A.units+10<cLine:=by !:=r.un;~
end L2
namespace Sp3
open PySem PySem.Spec L2 Mth Sp1 Sp2
noncomputable abbrev Crn:=List (Addr×Int×Int)
end Sp3
namespace L2
open PySem PySem.Spec PyProof.Rows
section
variable {X:Cx} {pins:List (Addr×Obj)} {σ:St} {H:Hp} {s:Shared}
¤Dn.track{a:Addr}{o:HO}(I:Dn X pins σ H s)(hn:H a=none)(h0:X.s₀.heap.get? a=none)(hl:a≠X.env.locals)(hc:∀x c,X.env.cells.lookup x=some c->c≠a)(hp:∀p∈X.pn++pins,p.1≠a)
  (ho:cf X.prog X.w (upd H a o) s.heap a o):Dn X pins σ (upd H a o) s where
 ok:=I.ok
 os:=I.os
 bare:=I.bare
 base:={
  keep:=I.base.keep
  slot:=I.base.slot
  free:=λb ob e n hx=>by
   rw[aR (λz=>by subst z;rw[h0]at e;cases e)];#I.base.free b ob e n hx
  there:=I.base.there
  tups:=λb xs q=>by
   !z:=I.base.tups b xs q;rw[aR (a6 z hn)];#z
  frzs:=λb ob u q=>by
   !z:=I.base.frzs b ob u q;rw[aR (a6 z hn)];#z
  tbls:=λb ps q=>by
   @m,z:=I.base.tbls b ps q;#⟨m,by rw[aR (a6 z hn)];#z⟩ }
 loc:=I.loc
 cell:=I.cell
 free:=by rw[aR (Ne.symm hl)];#I.free
 freeC:=λx c e=>by rw[aR (hc x c e)];#I.freeC x c e
 pin:=λp m=>by
  @p1,p2,p3:=I.pin p m;§p1,by rw[aR (hp p m)];#p2,p3
 hok:=λb u q=>by
  by_cases hb:b=a
  ·subst hb
   rw[upd_same]at q;cases q;#ho
  ·rw[aR hb]at q
   #(I.hok b u q).stay (λ_ _ _ r=>r) (λc r=>by rw[aR (a6 r hn)];#r) λc xs r=>by rw[aR (a6 r hn)];#r
 len:=I.len
end
end L2
namespace Sp8
open PySem PySem.Spec L2 Mth Sp1 Sp2 Sp3
end Sp8
namespace L2
open PySem PySem.Spec PyProof.Rows
¤SqT.mod{K:W.Frag}{H:Hp}{a:Addr}{oc:Value}{od:Option Addr}{its:Array Value}{n:Nat}{sl:Array (Option Value)}{xs:List V}(hk:K.lookup a=some ⟨oc,od,.seq its n,sl⟩)(hc:oc = .type "tuple")(hz:its.size<=100)(r:aZ xs its.toList):SqT K H a xs :=
 .inr ⟨_,its,n,hk,hc,rfl,Nat.le_of_lt (bJ ~),r⟩
end L2
namespace Sp24
open PySem PySem.Spec L2 Mth Sp1 Sp2 Sp3 Sp8
¦sg(n:Int):Int:=if n>0 then 1 else if n<0 then -1 else 0
¦ssq(n:Int):Int:=n*(if n<0 then -n else n)
¦swr(w p u:Int):Int:=sg (ssq w+ssq p*u)
¦cR(w p u s b:Int):Int:=if sg w*sg (ssq p*u+ssq s*b)>=0 then sg (sg w+sg (ssq p*u+ssq s*b)) else sg w*swr (w*w - p*p*u - s*s*b) (-2*p*s) (u*b)
¦ro(a0 a1 a2 a3 b0 b1 b2 b3:Int):Int:=cR (a0*b3 - b0*a3) (a1*b3) a2 (-b1*a3) b2
¤kP(n:Int):-1<=sg n/\sg n<=1:=by
 unfold sg
 split
 ·~
 ·split <;> ~
¤j8(n:Int):ar (sg n)<=10:=cF (by !:=kP n;~) (by !:=kP n;~)
¤kM{n:Int}{k:Nat}(h:ar n<=k):ar (ssq n)<=k+k:=bits_mul h (bits_abs h)
inductive Fs (vs:List V) (H:Hp) (Q:VK) (x_3:XK):Prop
 | mk:∀n:Int,(vs = [.int n])->(Q (.int (sg n)) H)->Fs vs H Q x_3
structure Rt(K:W.Frag)(H:Hp)(p:Addr)(a0 a1 a2 a3:Int):Prop where
 at_:SqT K H p [.int a0,.int a1,.int a2,.int a3]
 b0:ar a0<=450
 b1:ar a1<=450
 b2:ar a2<=1000
 b3:ar a3<=450
inductive Ih (K:W.Frag) (vs:List V) (H:Hp) (Q:VK) (x_3:XK):Prop
 | mk:∀(p q:Addr) (a0 a1 a2 a3 b0 b1 b2 b3:Int),(vs = [.ref p,.ref q])->(Rt K H p a0 a1 a2 a3)->(Rt K H q b0 b1 b2 b3)->(Q (.int (ro a0 a1 a2 a3 b0 b1 b2 b3)) H)->Ih K vs H Q x_3
structure Cn(H:Hp)(p:Addr)(x y:Int):Prop where
 at_:H p=some (.tup [.int x,.int y])
 bx:ar x<=50
 by_:ar y<=50
¤Cn.mono{H H':Hp}{p:Addr}{x y:Int}(c:Cn H p x y)(s:Same H H'):Cn H' p x y:=⟨s _ _ c.at_,c.bx,c.by_⟩
structure Sq(H:Hp)(p:Addr)(a b:Int):Prop where
 at_:H p=some (.tup [.int a,.int b])
 ba:ar a<=230
 bb:ar b<=130
¤Sq.mono{H H':Hp}{p:Addr}{x y:Int}(c:Sq H p x y)(s:Same H H'):Sq H' p x y:=⟨s _ _ c.at_,c.ba,c.bb⟩
¦lo(x y x' y' a b:Int):Int:=sg (a - ((x' - x)*(x' - x)+(y' - y)*(y' - y))*b)
inductive JP (vs:List V) (H:Hp) (Q:VK) (x_3:XK):Prop
 | mk:∀(p q r:Addr) (x y x' y' a b:Int),(vs = [.ref p,.ref q,.ref r])->(Cn H p x y)->(Cn H q x' y')->(Sq H r a b)->(Q (.int (lo x y x' y' a b)) H)->JP vs H Q x_3
¦du(bx by_ ex ey:Int):Int:=(ex - bx)*(ex - bx)+(ey - by_)*(ey - by_)
¦rAl(cx cy bx by_ ex ey:Int):Int:=(cx - bx)*(ex - bx)+(cy - by_)*(ey - by_)
¦rBe(cx cy bx by_ ex ey:Int):Int:=(cx - bx)*(ey - by_) - (cy - by_)*(ex - bx)
¦rUn(cx cy bx by_ ex ey a b:Int):Int:=b*(a*du bx by_ ex ey - b*rBe cx cy bx by_ ex ey*rBe cx cy bx by_ ex ey)
inductive G4 (vs:List V) (H:Hp) (Q:VK) (x_3:XK):Prop
 | mk:∀(pc pb pe ps:Addr) (cx cy bx by_ ex ey a b:Int),(vs = [.ref pc,.ref pb,.ref pe,.ref ps])->(Cn H pc cx cy)->(Cn H pb bx by_)->(Cn H pe ex ey)->(Sq H ps a b)->(∀r H',Same H H'->H' r=some (.tup [.int (rAl cx cy bx by_ ex ey*b),.int (rUn cx cy bx by_ ex ey a b),.int (du bx by_ ex ey*b)])->Q (.ref r) H')->G4 vs H Q x_3
¦pwN(cx cy bx by_ ex ey a b room:Int):Bool :=
 if [bx,by_] = [ex,ey] then !decide (lo cx cy bx by_ a b>=room)
 else decide (sg (rUn cx cy bx by_ ex ey a b)<room) || (decide (ro 1 0 0 1 (rAl cx cy bx by_ ex ey*b) (-1) (rUn cx cy bx by_ ex ey a b) (du bx by_ ex ey*b)<room) ||
  decide (ro (rAl cx cy bx by_ ex ey*b) 1 (rUn cx cy bx by_ ex ey a b) (du bx by_ ex ey*b) 0 0 0 1<room))
¦sqV(H:Hp):V->Bool
 | .ref p=>match H p with
  | some (.tup [.int a,.int b])=>lowB a b && !decide (a<0)
  | _=>false
 | _=>false
inductive G6 (C:Addr) (vs:List V) (H:Hp) (Q:VK) (E:XK):Prop
 | mk:∀x,(vs = [x])->(HR H x)->((sqV H x=false->E (.ref C) none H))->((sqV H x=true->Q .non H))->G6 C vs H Q E
¤xC{H:Hp}{x:V}(h:jP H x=false):sqV H x=false:=by
 unfold sqV
 split
 ·split
  ·rename_i p _ a b e
   rw[vV e]at h;rw[h,Bool.false_and]
  ·rfl
 ·rfl
¤xB{H:Hp}{p:Addr}{a b:Int}(e:H p=some (.tup [.int a,.int b])):sqV H (.ref p)=(lowB a b && !decide (a<0)):=by
 simp only[sqV,e]
end Sp24
namespace L2
open PySem PySem.Spec PyProof.Rows
¤A4:bootBuiltins "all" = some (.builtin "all"):=by decide +kernel
¤Cu{bs:List Bool}{us:List Value}{i:Nat}{v:Value}(r:aZ (bs.map V.bl) us)(h:us[i]? = some v):∃b,bs[i]? = some b/\v = .bool b:=by
 !hl:=r.length;rw[List.length_map]at hl;!hi:i<us.length:=(List.getElem?_eq_some_iff.mp h).1;!hj:i<bs.length:= ~
 @u,e,q:=r.get (i:=i) (x:=.bl bs[i]) (by rw[List.getElem?_map,List.getElem?_eq_getElem hj];rfl);rw[h]at e;cases e;§bs[i],List.getElem?_eq_getElem hj,q
¤uQ(bs:List Bool):((List.range bs.length).all λi=>(bs[i]?).getD true)=bs.all id:=by
 rw[Bool.eq_iff_iff];simp only[List.all_eq_true,List.mem_range,id];constructor
 ·intro h b hb
  @i,hi,rfl:=List.mem_iff_getElem.mp hb;!z:=h i hi;rw[List.getElem?_eq_getElem hi]at z;#z
 ·intro h i hi
  rw[List.getElem?_eq_getElem hi];#h _ (List.getElem_mem hi)
¤wW{X:Cx}(hc:X.calm=true):g8 X (.builtin "all") (λxs H Q=>∃(p:Addr) (bs:List Bool),xs = [.ref p]/\SqL X.K H p (bs.map V.bl)/\Q (.bl (bs.all id)) H):=by
 intro pins s σ H xs us Q I r h;@p,bs,rfl,hq,q:=h;@u,rfl,rx:=kG r;cases rx;@its,rv,pl,_:=I.list hq;!hl:=pl.isList;!lt:p<s.heap.objs.size:=by
  @_,e,_:=hl;#Heap.lt_size e
 refine call_all_walk (wpAny_pyIter_list hl ?_);?s.heap.objs.size,[s.heap.objs.size,p],[s.heap.objs.size],its.toArray.size,_,_,λi=>(bs[i]?).getD true,rfl,Walks.list (A:=X.A.in1) (I.ok.hd hc) _ p (Nat.ne_of_lt lt) its.toArray;¶⟨⟨_,Heap.get?_push_size _ rfl,rfl,rfl⟩,hl.push _⟩,λi v s' Q' E' hP hQ=>?_,λh' tk hk=>?_
 ·@b,e,rfl:=Cu rv (by simpa using hP)
  simp only[e,Option.getD_some]at hQ;#wpAny_truthy_bool hQ
 ·!el:its.toArray.size=bs.length:=by
   !:=rv.length;rw[List.length_map]at this;rw[List.size_toArray];~
  rw[el,uQ];¶.bl _,H,I.kept (t':=tk) λb o e=>?_,rfl,q;#hk b o (λhm=>by rw[List.mem_singleton.mp hm]at e;#Nat.lt_irrefl _ (Heap.lt_size e)) (Heap.get?_push_of_some _ e)
end L2
namespace Sp7
open PySem PySem.Spec L2 Mth Sp1 Sp2 Sp3
¦jq:Int:=999999999999
¦Sm(x:Int):Prop:=-jq<=x/\x<=jq
structure LineM(H:Hp)(l:Addr)(qs:Crn):Prop where
 lst:H l=some (.lst (qs.map λq=>V.ref q.1))
 crn:∀q∈qs,H q.1=some (.tup [.int q.2.1,.int q.2.2])/\Sm q.2.1/\Sm q.2.2
¤LineM.mono{H H':Hp}{l:Addr}{qs:Crn}(L:LineM H l qs)(s:Same H H'):LineM H' l qs:=⟨s _ _ L.lst,λq h=>⟨s _ _ (L.crn q h).1,(L.crn q h).2⟩⟩
¦retScope(s:Stmt):Scope:=match s with
 | .Return (some (.Call _ [.ListComp _ _ sc _] _ _)) _=>sc
 | .Return (some (.ListComp _ _ sc _)) _=>sc
 | _=>{ kind:=.function,names:=[],isGenerator:=false,isCoroutine:=false }
end Sp7
namespace L2
open PySem PySem.Spec PyProof.Rows
¤Same.at{H H':Hp}{b:Addr}{o:HO}(s:Same H H')(e:H b=some o):H' b=some o:=s b o e
¤Same.rfl'{H:Hp}:Same H H:=λ_ _ e=>e
¤alloc{H:Hp}{o:HO}{Q:Addr->Hp->Prop}(h:∀p H1,Same H H1->H1 p=some o->Q p H1):∀p,H p=none->Q p (upd H p o):=λp hp=>h p _ (Same.new hp) upd_same
¤bits_add2{i j:Int}{m n:Nat}(hi:ar i<=m)(hj:ar j<=n):ar (i+j)<=max m n+1:=bT (aq hi (Nat.le_max_left _ _)) (aq hj (Nat.le_max_right _ _))
¤bZ{p:Prop}[Decidable p](h:decide p=true):p:=of_decide_eq_true h
¤cJ{p:Prop}[Decidable p](h:decide p=false):¬p:=of_decide_eq_false h
¤CM.of{i j:Int}{m n:Nat}(hi:ar i<=m)(hj:ar j<=n)(h:m<=1000000/\n<=1000000):CM i j:=CM.b hi hj (by !:(2:Nat)^20=1048576:=&;~) (by !:(2:Nat)^20=1048576:=&;~)
¤bits_of_le{i:Int}{m n:Nat}(h:ar i<=m)(hm:m<=n):ar i<=n:=Nat.le_trans h hm
¦SameT(H H':Hp):Prop:=∀b xs,H b=some (.tup xs)->H' b=some (.tup xs)
¤Same.t{H H':Hp}(s:Same H H'):SameT H H':=λb xs e=>s b _ e
¤SameT.refl{H:Hp}:SameT H H:=λ_ _ e=>e
¤SameT.trans{H H1 H2:Hp}(a:SameT H H1)(b:SameT H1 H2):SameT H H2:=λc xs e=>b c xs (a c xs e)
¤SameT.upd{H:Hp}{l:Addr}{xs ys:List V}(hl:H l=some (.lst xs)):SameT H (upd H l (.lst ys)):=λb zs e=>by
 rw[aR (vO e hl (by intro z;cases z))];#e
¤Same.upd{H0 H:Hp}{l:Addr}{o:HO}(s:Same H0 H)(hl:H0 l=none):Same H0 (upd H l o):=λb u e=>by
 rw[aR (a6 e hl)];#s b u e
¦oN(J:It)(fv:List (Str×Nat))(te:TE)(σ:St)(H1:Hp)(Q:VK):Prop:=∀p,H1 p=none->∃W:Nat->Nat->List V->Hp->Prop,(∃m,W 0 m [] (upd H1 p (.lst [])))/\∀i m acc H2,W i m acc H2 ->
 H2 p=some (.lst acc)/\acc.length<sizeLine/\((J.stop i H2/\Q (.ref p) H2)\/(J.go i H2/\∀x H3,J.yld i H2 x H3->te (some x::fvs fv σ) H3 λy H4=>H4 p=some (.lst acc)/\∃m',m'<m/\W (i+1) m' (acc++[y]) (upd H4 p (.lst (acc++[y])))))
¦vc(wi:TI)(fv:List (Str×Nat))(te:TE):TE:=λσ H Q=>wi σ H λJ H1=>oN J fv te σ H1 Q
section
variable {X:Cx} {scope:Scope} {cl:List (Str×Addr)} {x:Str} {fv:List (Str×Nat)} {elt iter:Expr} {px pos:Pos} {te:TE}
¤iI{wi:TI}(hcalm:X.calm=true)(C:Ff X scope cl x fv)(hi:PI X (.Name x px) iter wi)(he:∀(fp:List Addr) (s₀:Shared) (H₀:Hp),PE (X.blk (x::fv.map (·.1)) scope cl fp s₀ H₀) elt te)
  (hs:∀v,foldedSetIterable iter X.env v=pure v:=by intro _;rfl):PE X (.ListComp elt [⟨.Name x px,iter,[],0⟩] scope pos) (vc wi fv te):=xT hcalm C hi he hs
¤o5{wi:TI}{y:Str}{j:Nat}{py spos:Pos}(hcalm:X.calm=true)(C:Ff X scope cl x fv)(hN:X.N.Nodup)(hj:X.N[j]? = some y)(hy:X.env.scope.names.lookup y=some .local)(hi:PI X (.Name x px) iter wi)(he:∀(fp:List Addr) (s₀:Shared) (H₀:Hp),PE (X.blk (x::fv.map (·.1)) scope cl fp s₀ H₀) elt te)
  (hsw:swapsWith (.ListComp elt [⟨.Name x px,iter,[],0⟩] scope pos) (some (.Name y py)) spos.line X.env=pure true:=by rfl)
  (hs:∀v,foldedSetIterable iter X.env v=pure v:=by intro _;rfl):PS X (.Assign [.Name y py] (.ListComp elt [⟨.Name x px,iter,[],0⟩] scope pos) spos) (ve (vc wi fv te) (lE j)):=qR hcalm C hN hj hy hi he hsw hs
end
¤rG{K:W.Frag}{a:Addr}{xs:List V}{fv:List (Str×Nat)}{te:TE}{σ:St}{H1:Hp}{Q:VK}(hL:SqL K H1 a xs)(hlen:xs.length<1000)(R:Nat->V->Hp->Prop)(hR:∀i v H H',SameT H H'->R i v H->R i v H')
  (hs:∀i x H2 (Kc:VK),xs[i]? = some x->Same H1 H2->(∀y H4,Same H2 H4->R i y H4->Kc y H4)->te (some x::fvs fv σ) H2 Kc)
  (hd:∀l ys H',H1 l=none->Same H1 H'->H' l=some (.lst ys)->ys.length=xs.length->(∀i y,ys[i]? = some y->R i y H')->Q (.ref l) H') :
  oN (Itl K a) fv te σ H1 Q:=by
 intro l hl;refine uM (K:=K) (a:=a) (xs:=xs) (l:=l) (fv:=fv) (Qp:=λH2=>Q (.ref l) H2) (λi acc H2=>acc.length=i/\Same H1 H2/\H2 l=some (.lst acc)/\∀j y,acc[j]? = some y->R j y H2)
  ⟨rfl,Same.new hl,upd_same,λj y h=>by simp at h⟩ ?_ ?_ ?_
 ·rintro i acc H2 hi ⟨e1,sm,e3,_⟩
  §sm.seq hL,e3,bJ ~
 ·rintro i x acc H2 Kc hx ⟨e1,sm,e3,hr⟩ kk
  refine hs i x H2 Kc hx sm λy H4 s4 ry=>kk y H4 (s4 _ _ e3) ⟨by simp[e1],(sm.trans s4).upd hl,upd_same,λj z hz=>?_⟩;!t4:=SameT.upd (ys:=acc++[y]) (s4 _ _ e3);rcases Nat.lt_trichotomy j acc.length with h|h|h
  ·rw[List.getElem?_append_left h]at hz
   #hR _ _ _ _ (s4.t.trans t4) (hr j z hz)
  ·subst h
   rw[List.getElem?_append_right (Nat.le_refl _),Nat.sub_self]at hz;cases hz;rw[e1];#hR _ _ _ _ t4 ry
  ·rw[List.getElem?_eq_none (by simp;~)]at hz
   cases hz
 ·rintro acc H2 ⟨e1,sm,e3,hr⟩
  #hd l acc H2 hl sm e3 e1 hr
¤yA{n:Nat}{lo:Int}{fv:List (Str×Nat)}{te:TE}{σ:St}{H1:Hp}{Q:VK}(hlen:n<1000)(R:Nat->V->Hp->Prop)(hR:∀i v H H',SameT H H'->R i v H->R i v H')
  (hs:∀i H2 (Kc:VK),i<n->Same H1 H2->(∀y H4,Same H2 H4->R i y H4->Kc y H4)->te (some (.int (lo+i))::fvs fv σ) H2 Kc)
  (hd:∀l ys H',H1 l=none->Same H1 H'->H' l=some (.lst ys)->ys.length=n->(∀i y,ys[i]? = some y->R i y H')->Q (.ref l) H') :
  oN (Itr lo n) fv te σ H1 Q:=by
 intro l hl;refine lU (n:=n) (lo:=lo) (l:=l) (fv:=fv) (Qp:=λH2=>Q (.ref l) H2) (λi acc H2=>acc.length=i/\Same H1 H2/\H2 l=some (.lst acc)/\∀j y,acc[j]? = some y->R j y H2)
  ⟨rfl,Same.new hl,upd_same,λj y h=>by simp at h⟩ ?_ ?_ ?_
 ·rintro i acc H2 hi ⟨e1,sm,e3,_⟩
  §e3,bJ ~
 ·rintro i acc H2 Kc hx ⟨e1,sm,e3,hr⟩ kk
  refine hs i H2 Kc hx sm λy H4 s4 ry=>kk y H4 (s4 _ _ e3) ⟨by simp[e1],(sm.trans s4).upd hl,upd_same,λj z hz=>?_⟩;!t4:=SameT.upd (ys:=acc++[y]) (s4 _ _ e3);rcases Nat.lt_trichotomy j acc.length with h|h|h
  ·rw[List.getElem?_append_left h]at hz
   #hR _ _ _ _ (s4.t.trans t4) (hr j z hz)
  ·subst h
   rw[List.getElem?_append_right (Nat.le_refl _),Nat.sub_self]at hz;cases hz;rw[e1];#hR _ _ _ _ t4 ry
  ·rw[List.getElem?_eq_none (by simp;~)]at hz
   cases hz
 ·rintro acc H2 ⟨e1,sm,e3,hr⟩
  #hd l acc H2 hl sm e3 e1 hr
¤nice_int:uS "int":=.inl rfl
¤nice_bool:uS "bool":=.inr (.inl rfl)
¤nice_tuple:uS "tuple":=.inr (.inr (.inl rfl))
¤nice_list:uS "list":=.inr (.inr (.inr (.inl rfl)))
section
variable {X:Cx} {pos:Pos} {es:List Expr} {ta:TA}
inductive Kw (f:List V->HO) (xs:List V) (H1:Hp) (Q:VK):Prop
 | mk (z:xs.length<=sizeLine) (q:∀p H2,Same H1 H2->H2 p=some (f xs)->H1 p=none->Q (.ref p) H2):Kw f xs H1 Q
¦Bp(t:TA):TE:=λσ H Q=>t σ H λxs H1=>Kw .tup xs H1 Q
¦By(t:TA):TE:=λσ H Q=>t σ H λxs H1=>Kw .lst xs H1 Q
¤aJ{x1}(h:PA X es ta):PE X (.Tuple es x1 pos) (Bp ta):=by
 intro pins s σ H Q I hq;refine wpAny_Tuple_spliced (thn (h pos pins s σ H _ I hq) λus s1 ⟨xs,H1,I1,r,z,q⟩=>⟨by rw[<- r.length];#z,?_⟩);!hf:H1 s1.heap.objs.size=none:=I1.hok.fresh (Nat.le_refl _);¶.ref s1.heap.objs.size,upd H1 s1.heap.objs.size (.tup xs),I1.laid (t':=s1.toks) (λb u e=>Heap.get?_push_of_some _ e) (Nat.le_refl _) ?_,rfl,q _ _ (Same.new hf) upd_same hf;§z,us,r,⟨_,Heap.get?_push_size _ rfl,rfl,_,rfl⟩
¤bU(h:PA X es ta):PE X (.List es pos) (By ta):=by
 intro pins s σ H Q I hq;refine wpAny_List_spliced (thn (h pos pins s σ H _ I hq) λus s1 ⟨xs,H1,I1,r,z,q⟩=>⟨by rw[<- r.length];#z,?_⟩);!hf:H1 s1.heap.objs.size=none:=I1.hok.fresh (Nat.le_refl _);¶.ref s1.heap.objs.size,upd H1 s1.heap.objs.size (.lst xs),I1.laid (t':=s1.toks) (λb u e=>Heap.get?_push_of_some _ e) (Nat.le_refl _) ?_,rfl,q _ _ (Same.new hf) upd_same hf;§z,us,0,r,Heap.get?_push_size _ rfl
inductive JY (K:W.Frag) (x:V) (lo:Option Int) (hi:Option Int) (H:Hp) (Q:VK):Prop
 | mk:∀a xs,(x = .ref a)->(SqL K H a xs)->(∀p H2,Same H H2->H2 p=some (.lst (j5 xs lo hi))->H p=none->Q (.ref p) H2)->JY K x lo hi H Q
¤kO:SlR X (JY X.K):=λpins s σ H x v vl vu lo hi sl Q I rx hs pl pu ⟨a,xs,e,hx,q⟩ =>
 xD pins s σ H x v vl vu lo hi sl Q I rx hs pl pu ⟨a,xs,e,hx,λp hp=>q p _ (Same.new hp) upd_same hp⟩
inductive J0 (x:V) (y:V) (H:Hp) (Q:VK):Prop
 | mk:∀l b xs zs,(x = .ref l)->(y = .ref b)->(H l=some (.lst xs))->(H b=some (.lst zs))->(xs.length+zs.length<=sizeLine)->(∀p H2,Same H H2->H2 p=some (.lst (xs++zs))->H p=none->Q (.ref p) H2)->J0 x y H Q
¤iK:OpR X (binaryOp .Add) J0:=λpins s σ H x y v u Q I rx ry ⟨l,b,xs,zs,e1,e2,h1,h2,hz,q⟩ =>
 Ak pins s σ H x y v u Q I rx ry ⟨l,b,xs,zs,e1,e2,h1,h2,hz,λp hp=>q p _ (Same.new hp) upd_same hp⟩
¤fI:g8 X (.type "list") (λxs H Q=>∃p ys,xs = [.ref p]/\(SqL X.K H p ys\/SqT X.K H p ys)/\∀l H2,Same H H2->H2 l=some (.lst ys)->H l=none->Q (.ref l) H2):=λpins s σ H xs us Q I r ⟨p,ys,e,hq,q⟩ =>
 oG pins s σ H xs us Q I r ⟨p,ys,e,hq,λl hl=>q l _ (Same.new hl) upd_same hl⟩
structure Ie(H H':Hp)(l:Addr)(xs ys:List V):Prop where
 was:H l=some (.lst xs)
 now:H' l=some (.lst ys)
 oth:∀b,b≠l->H' b=H b
¤Ie.mk'{H:Hp}{l:Addr}{xs ys:List V}(h:H l=some (.lst xs)):Ie H (L2.upd H l (.lst ys)) l xs ys:=⟨h,upd_same,λ_ n=>aR n⟩
¤Ie.t{H H':Hp}{l:Addr}{xs ys:List V}(u:Ie H H' l xs ys):SameT H H':=λb zs e=>by
 rw[u.oth b (vO e u.was (by intro z;cases z))];#e
¤Ie.same{H0 H H':Hp}{l:Addr}{xs ys:List V}(u:Ie H H' l xs ys)(s:Same H0 H)(h:H0 l=none):Same H0 H':=λb o e=>by
 rw[u.oth b (a6 e h)];#s b o e
¤Ie.at{H H':Hp}{l b:Addr}{xs ys:List V}{o:HO}(u:Ie H H' l xs ys)(n:b≠l)(e:H b=some o):H' b=some o:=by
 rw[u.oth b n];#e
inductive HQ (x:V) (vs:List V) (H:Hp) (Q:VK):Prop
 | mk:∀l xs y,(x = .ref l)->(vs = [y])->(H l=some (.lst xs))->(xs.length<sizeLine)->(∀H',Ie H H' l xs (xs++[y])->Q .non H')->HQ x vs H Q
¤ca:MtM X "list.append" HQ:=λpins s σ H x xs v us Q I rx rs ⟨l,ys,y,e1,e2,h,hz,q⟩ =>
 jo pins s σ H x xs v us Q I rx rs ⟨l,ys,y,e1,e2,h,hz,q _ (.mk' h)⟩
inductive JI (o:V) (i:V) (v:V) (H:Hp) (Q:(Hp->Prop)):Prop
 | mk:∀p xs k j,(o = .ref p)->(i = .int k)->(H p=some (.lst xs))->(ixN xs.length k=some j)->(∀H',Ie H H' p xs (xs.set j v)->Q H')->JI o i v H Q
¤t6:Bg X JI:=λpins s σ H o i v uo ui uv Q I ro ri rv ⟨p,xs,k,j,e1,e2,h,hj,q⟩ =>
 vj pins s σ H o i v uo ui uv Q I ro ri rv ⟨p,xs,k,j,e1,e2,h,hj,q _ (.mk' h)⟩
inductive GV (x:V) (vs:List V) (H:Hp) (Q:VK):Prop
 | mk:∀l xs,(x = .ref l)->(vs = [])->(H l=some (.lst xs))->(∀H',Ie H H' l xs xs.reverse->Q .non H')->GV x vs H Q
¤jI:MtM X "list.reverse" GV:=λpins s σ H x xs v us Q I rx rs ⟨l,ys,e1,e2,h,q⟩ =>
 qW pins s σ H x xs v us Q I rx rs ⟨l,ys,e1,e2,h,q _ (.mk' h)⟩
end
¤C5{K:W.Frag}{H:Hp}{l:Addr}{xs:List V}{i:Int}{Q:VK}(e:H l=some (.lst xs))(h0:0<=i)(h1:i<(xs.length:Int))(h:∀v∈xs,Q v H):JQ K (.ref l) (.int i) H Q:=by
 @v,hv,mv:=Sp1.atI_mem h0 h1;§l,xs,i,v,rfl,rfl,SqL.of e,hv,h v mv
¤g7{α:Type}{xs:List α}(h:xs.length=3):∃a b c,xs = [a,b,c]:=match xs,h with | [a,b,c],_=>⟨a,b,c,rfl⟩
¤dJ{α:Type}{xs:List α}(h:xs.length=2):∃a b,xs = [a,b]:=match xs,h with | [a,b],_=>⟨a,b,rfl⟩
¤rf{α:Type}{xs:List α}(h:xs.length=4):∃a b c d,xs = [a,b,c,d]:=match xs,h with | [a,b,c,d],_=>⟨a,b,c,d,rfl⟩
¤v7{α:Type}{xs:List α}(h:xs.length=5):∃a b c d e,xs = [a,b,c,d,e]:=match xs,h with | [a,b,c,d,e],_=>⟨a,b,c,d,e,rfl⟩
¤len6{α:Type}{xs:List α}(h:xs.length=6):∃a b c d e f,xs = [a,b,c,d,e,f]:=match xs,h with | [a,b,c,d,e,f],_=>⟨a,b,c,d,e,f,rfl⟩
section
variable {X:Cx} {pins:List (Addr×Obj)} {σ:St} {H:Hp} {s:Shared}
¤Dn.turnedL{h':Heap}{t':Nat}{ch:List Addr}(I:Dn X pins σ H s)(k:∀b o,b∉ch->s.heap.get? b=some o->h'.get? b=some o)(hf:∀b∈ch,gi X pins H b):Dn X pins σ H { s with heap:=h',toks:=t' }:=by
 !nit:∀b u,H b=some u->b∉ch:=λb u e z=>by
  !n:=(hf b z).1;rw[n]at e;cases e
 refine I.step (g':=s.gens) (d':=s.drawn) (ch:=ch) (λb hb=>?_) (λb o _ _ hc e _=>k b o hc e) (λb o _ _ hc e _=>⟨o.slots,k b o hc e⟩) (λ_ _ _ _ n=>n)
  (λb o hc e=>⟨o,k b o hc e⟩) (λ_ _ e=>e) (λ_ _ _ e=>e) (λb ps e=>⟨#[],by rw[e];simp⟩) (λm hm=>?_) (λb u e=>?_) I.bare
 ·@f0,f1,f2,f3,f4,f5:=hf b hb
  §f3,f1,f4,f5
 ·@o,es,ep,ho,r:=hm
  §o,es,ep,k _ o (λz=>(hf _ z).2.1 rfl) ho,r
 ·refine(I.hok b u e).stay (λc v hc q=>k c v ?_ q) (λ_ q=>q) λ_ _ q=>q
  rcases hc with z|z
  ·rw[z];#nit b u e
  ·#nit c _ z
¤tW{E:Value->Shared->Prop}{elts:List Expr}{kt:Nat}{pos:Pos}{i n:Nat}{z:Addr}{fpw wr:List Addr}{Pt:Nat->Array Value->Prop}{Stt:Nat->Heap->Prop}{Mid:Nat->Addr->Heap->Prop}{R:Value->Shared->Prop}
  (W:WalksT X.prog X.w X.A z fpw wr n Pt Stt Mid) (I:Dn X pins σ H s) (hwr:∀b∈wr,gi X pins H b) (hi:i<n) (st:Stt i s.heap)
  (k:∀T vals s2,Pt i vals->s.heap.objs.size<=T->s2.heap.IsTuple T vals->Stt (i+1) s2.heap->Dn X pins σ H s2->(∀b o,b∉wr->s.heap.get? b=some o->s2.heap.get? b=some o)->R (.ref T) s2) :
  wpAny (model X.prog X.w) X.A (pyNext (.ref z)) (λr s1=>∃u,r=some u/\wpAny (model X.prog X.w) X.A (letOwnedTupleGo (.Tuple elts kt pos) (.ref z) u) (λ_ s2=>R u s2) E s1) E s:=by
 refine W.item i s _ E hi st λT vals h' tk hp hT tup mid kk=>⟨.ref T,rfl,?_⟩;refine W.go elts kt pos i T _ _ E mid λh2 st2 k2=>?_;!kall:∀b o,b∉wr->s.heap.get? b=some o->h2.get? b=some o:=λb o hb e=>k2 b o hb (kk b o hb e);@o,eo,ro:=tup;#k T vals _ hp hT ⟨o,k2 T o (W.apart i T _ mid) eo,ro⟩ st2 (I.turnedL (t':=tk) kall hwr) kall
¤tZ{T:Addr}{s2:Shared}{xs:List V}{us:List Value}(I:Dn X pins σ H s)(J:Dn X pins σ H s2)(hT:s.heap.objs.size<=T)(ht:s2.heap.IsTuple T us.toArray)(r:aZ xs us)(hz:xs.length<=sizeLine):Dn X pins σ (upd H T (.tup xs)) s2/\H T=none:=by
 !hn:H T=none:=I.hok.fresh hT;@f0,f1,f2,f3,f4,f5:=I.fpOk hT hn;¶J.track hn ?_ f1 f4 f5 ⟨hz,us,r,ht⟩,hn;cases e:X.s₀.heap.get? T with
 | none=>rfl
 | some o =>
  !h1:=Heap.lt_size e;!h2:=I.sz;#absurd (Nat.lt_of_lt_of_le h1 (Nat.le_trans h2 hT)) (Nat.lt_irrefl _)
end
¦Ite(K:W.Frag)(l:Addr):It :=
  ⟨λi H=>∃xs x,SqL K H l xs/\xs[i]? = some x,
   λi H v H'=>∃p x,v = .ref p/\H p=none/\H'=upd H p (.tup [.int (i:Int),x])/\∀xs,SqL K H l xs->xs[i]? = some x,
   λi H=>∃xs,SqL K H l xs/\i=xs.length⟩
¤tX{P:Program}{w:World}{K:W.Frag}{elts:List Expr}{kt:Nat}{pos:Pos}(e it l:Addr)(hei:e≠it)(hle:l≠e)(hli:l≠it) :
  GM P w K (.Tuple elts kt pos) (Ite K l) [e,it] e (λi h=>(∃old,IsEnum h e it i old)/\h.IsListIter it l i) where
 mem:=by simp
 obj:=λi h st b hb=>by
  @⟨old,he⟩,⟨o1,e1,c1,d1⟩:=st;simp only[List.mem_cons,List.not_mem_nil,or_false]at hb;rcases hb with rfl|rfl
  ·§_,he,(λv y=>by cases y)
  ·§o1,e1,(λv y=>by rw[d1]at y;cases y)
 keep:=λi h h' st k=>by
  @⟨old,he⟩,h1:=st;§⟨old,k e (by simp) _ he⟩,h1.at λo x=>k it (by simp) o x
 item:=by
  intro X hP hw hK hc i pins s σ H E I hf st hg;subst hP hw hK;@xs,x,q1,hx:=hg;@its,r1,p1,_:=I.list q1;@u1,hu1,ru1:=r1.get hx;!W:=WalksT.enumerate (prog:=X.prog) (w:=X.w) (I.ok.hd hc) e it l hei hle hli its.toArray;!hn:i<its.toArray.size:=by
   !g1:=(List.getElem?_eq_some_iff.mp hu1).1;simp only[List.size_toArray];~
  @he,h1:=st;refine tW W I (λb hb=>hf b (by simpa using hb)) hn ⟨he,h1,p1.isList⟩ λT vals s2 hp hT tup st2 J2 kall=>?_;@tk,v1,e1,rfl:=hp;!e1':its[i]? = some v1:=by simpa using e1
  rw[hu1]at e1';cases e1';@J3,nT:=tZ (xs:=[.int (i:Int),x]) (us:=[.int i tk,u1]) I J2 hT tup (.cons ⟨_,rfl⟩ (.cons ru1 .nil)) (Sp1.sz (by simp));@he2,h12,_:=st2;¶.ref T,upd H T (.tup [.int (i:Int),x]),J3,rfl,⟨T,x,rfl,nT,rfl,λas qa=>?_⟩,⟨he2,h12⟩,λb hb=>?_
  ·rw[I.list_inj qa q1]
   #hx
  ·!hb':∃o,s.heap.get? b=some o:=by
    @old,he:=he;@o1,e1,_:=h1;simp only[List.mem_cons,List.not_mem_nil,or_false]at hb;rcases hb with rfl|rfl
    ·§_,he
    ·§_,e1
   @o,eo:=hb';rw[aR (Nat.ne_of_lt (Nat.lt_of_lt_of_le (Heap.lt_size eo) hT))];#(hf b hb).1
 done:=by
  intro X hP hw hK hc i pins s σ H E I hf st hg;subst hP hw hK;@xs,q1,rfl:=hg;@its,r1,p1,_:=I.list q1;!W:=WalksT.enumerate (prog:=X.prog) (w:=X.w) (I.ok.hd hc) e it l hei hle hli its.toArray;@he,h1:=st;refine W.done s _ E ?_ λh' tk kk=>⟨rfl,I.turnedL (t':=tk) kk λb hb=>hf b (by simpa using hb)⟩;rw[List.size_toArray,<- r1.length];§he,h1,p1.isList
 self:=λ_ _ _ _ _ st h=>by
  @⟨old,he⟩,_:=st;#wpAny_pyIter_enum he h
section
variable {X:Cx} {elts:List Expr} {kt:Nat} {tpos:Pos}
¦Ca(K:W.Frag)(ta:TA):TI:=λσ H R=>ta σ H λvs H1=>∃a,vs = [.ref a]/\(∃xs,SqL K H1 a xs)/\R (Ite K a) H1
¤oH:bootBuiltins "enumerate" = some (.type "enumerate"):=by decide +kernel
¤kg{a:Expr}{ta:TA}{p pos:Pos}(hg:Gl X "enumerate")(hm:X.mg "enumerate" = none)(ha:PA X [a] ta)(hs:starEach [a] X.env = [(false,eval a X.env)]:=by rfl) :
  PI X (.Tuple elts kt tpos) (.Call (.Name "enumerate" p) [a] [] pos) (Ca X.K ta):=by
 intro pins s σ H R I h;refine Call_ (gI I hg hm oH (PyProof.Rows.callWith_type1 (thn (ha pos pins s σ H _ I h) λus s1 ⟨vs,H1,I1,r1,q1⟩=>?_) hs rfl));@l,e,⟨xs,hx⟩,q:=q1;subst e;cases r1 with
 | cons r rr =>
  cases rr;cases r;@its,_,p1,_:=I1.list hx;refine call_enumerate_list p1.isList λh' he hi hsz hk=>?_;refine wpAny_pyIter_enum he ?_;!a1:l<s1.heap.objs.size:=by @_,e,_:=p1.isList;#Heap.lt_size e
  ¶s1.heap.objs.size+1,[s1.heap.objs.size+1,s1.heap.objs.size],_,_,H1,rfl,I1.kept (t':=s1.toks) hk,tX _ _ l (Nat.succ_ne_self _) (Nat.ne_of_lt (Nat.lt_succ_of_lt a1)) (Nat.ne_of_lt a1),⟨⟨_,he⟩,hi⟩,λb hb=>?_,q;!hb':s1.heap.objs.size<=b:=by
   simp only[List.mem_cons,List.not_mem_nil,or_false]at hb;rcases hb with rfl|rfl <;> ~
  #I1.fpOk hb' (I1.hok.fresh hb')
end
¤iR{K:W.Frag}{a:Addr}{xs:List V}{g:TG}{tb:TS}{D:FS}{σ:St}{H:Hp}(Pv:Nat->St->Hp->Prop)(h0:Pv 0 σ H)(hl:∀i σ H,i<=xs.length->Pv i σ H->SqL K H a xs)
  (hs:∀i x p σ H H1,xs[i]? = some x->Pv i σ H->Same H H1->H1 p=some (.tup [.int (i:Int),x])->g (.ref p) σ H1 λσ2 H2=>tb { D with nx:=Pv (i+1),ct:=Pv (i+1),bk:=D.nx } σ2 H2) (hd:∀σ H,Pv xs.length σ H->D.nx σ H) :
  ∃W:Nat->Nat->St->Hp->Prop,(∃m,W 0 m σ H)/\∀i m σ H,W i m σ H ->
   ((Ite K a).stop i H/\D.nx σ H)\/((Ite K a).go i H/\∃N:St->Hp->Prop,(∀σ' H',N σ' H'->∃m',m'<m/\W (i+1) m' σ' H')/\∀x H',(Ite K a).yld i H x H'->g x σ H' λσ2 H2=>tb { D with nx:=N,ct:=N,bk:=D.nx } σ2 H2):=by
 ?λi m σ H=>m=xs.length - i/\i<=xs.length/\Pv i σ H,⟨_,rfl,Nat.zero_le _,h0⟩;rintro i m σ H ⟨rfl,hi,p⟩;!q1:=hl i σ H hi p
 by_cases hlt:i<xs.length
 ·refine .inr ⟨⟨xs,xs[i],q1,by simp[hlt]⟩,Pv (i+1),λσ' H' p'=>⟨_,~,rfl,hlt,p'⟩,λv H' y=>?_⟩
  @t,x,rfl,nt,rfl,e:=y;#hs i x t σ H _ (e xs q1) p (Same.new nt) upd_same
 ·!e:i=xs.length:= ~
  subst e;#.inl ⟨⟨xs,q1,rfl⟩,hd σ H p⟩
inductive D where
 | non|bl (b:Bool)|int (i:Int)|str (x:Str)|tup (ds:List D)|lst (ds:List D)
inductive Rp (H:Hp):Nat->V->D->Prop where
 | non {n:Nat}:Rp H n .non .non
 | bl {n:Nat} {b:Bool}:Rp H n (.bl b) (.bl b)
 | int {n:Nat} {i:Int}:Rp H n (.int i) (.int i)
 | str {n:Nat} {x:Str}:Rp H n (.str x) (.str x)
 | tup {n:Nat} {p:Addr} {xs:List V} {ds:List D} (e:H p=some (.tup xs)) (hl:xs.length=ds.length) (h:∀(j:Nat) x d,xs[j]? = some x->ds[j]? = some d->Rp H n x d):Rp H (n+1) (.ref p) (.tup ds)
 | lst {n:Nat} {p:Addr} {xs:List V} {ds:List D} (e:H p=some (.lst xs)) (hl:xs.length=ds.length) (h:∀(j:Nat) x d,xs[j]? = some x->ds[j]? = some d->Rp H n x d):Rp H (n+1) (.ref p) (.lst ds)
mutual
¦deq:D->D->Bool
 | .non,.non=>true
 | .bl a,.bl b=>a == b
 | .bl a,.int b=>(if a then 1 else 0) == b
 | .int a,.bl b=>a == (if b then 1 else 0)
 | .int a,.int b=>a == b
 | .str a,.str b=>a == b
 | .tup xs,.tup ys=>ip xs ys
 | .lst xs,.lst ys=>ip xs ys
 | _,_=>false
¦ip:List D->List D->Bool
 | [],[]=>true
 | x::xs,y::ys=>deq x y && ip xs ys
 | _,_=>false
end
¤fR:∀(ds es:List D),((List.range (min ds.length es.length)).all (λj=>deq (ds.getD j .non) (es.getD j .non)) && ds.length == es.length)=ip ds es
 | [],[]=>by simp[ip]
 | [],e::es=>by simp[ip]
 | d::ds,[]=>by simp[ip]
 | d::ds,e::es=>by
  !ih:=fR ds es;!hm:min (d::ds).length (e::es).length=min ds.length es.length+1:=by simp only[List.length_cons];~
  rw[hm,List.range_succ_eq_map,List.all_cons,List.all_map];simp only[ip,List.getD_cons_zero,List.length_cons];rw[<- ih,Bool.and_assoc]
  congr 1
  simp[Function.comp_def]
¤lQ{ds es:List D}(h:ds.length≠es.length):ip ds es=false:=by
 rw[<- fR];simp[h]
¤gT{ds es:List D}(h:ds.length=es.length):(List.range ds.length).all (λj=>deq (ds.getD j .non) (es.getD j .non))=ip ds es:=by
 rw[<- fR,h];simp
¤tD{ds es:List D}(hl:ds.length=es.length)(h:∀(j:Nat) d e,ds[j]? = some d->es[j]? = some e->deq d e=true):ip ds es=true:=by
 rw[<- gT hl,List.all_eq_true];intro j hj;!hj':j<ds.length:=List.mem_range.mp hj;!hj2:j<es.length:= ~
 !e1:ds[j]? = some ds[j]:=List.getElem?_eq_getElem hj';!e2:es[j]? = some es[j]:=List.getElem?_eq_getElem hj2;rw[List.getD_eq_getElem?_getD,List.getD_eq_getElem?_getD,e1,e2];#h j _ _ e1 e2
¤lD{α β:Type}{xs:List α}{ds:List β}{j:Nat}{d:β}(hl:xs.length=ds.length)(h:ds[j]? = some d):∃x,xs[j]? = some x:=by
 !:=(List.getElem?_eq_some_iff.mp h).1;§xs[j],List.getElem?_eq_getElem ~
¤Rp.self{H:Hp}{n m:Nat}{v:V}{d e:D}(r:Rp H n v d)(q:Rp H m v e):deq d e=true:=by
 induction r generalizing m e with
 | non=>cases q;rfl
 | bl=>cases q;simp[deq]
 | int=>cases q;simp[deq]
 | str=>cases q;simp[deq]
 | tup e1 hl h ih =>
  cases q with
  | tup e2 hl2 h2 =>
   rw[e1]at e2;cases e2;refine tD ~ λj a b ea eb=>?_;@x,hx:=lD hl ea;#ih j x a hx ea (h2 j x b hx eb)
  | lst e2 hl2 h2=>rw[e1]at e2;cases e2
 | lst e1 hl h ih =>
  cases q with
  | tup e2 hl2 h2=>rw[e1]at e2;cases e2
  | lst e2 hl2 h2 =>
   rw[e1]at e2;cases e2;refine tD ~ λj a b ea eb=>?_;@x,hx:=lD hl ea;#ih j x a hx ea (h2 j x b hx eb)
section
variable {X:Cx} {pins:List (Addr×Obj)} {σ:St} {H:Hp} {s:Shared}
¤gS{A:Around}{xs ys:List V}{us ws:List Value}{ds es:List D}(r:aZ xs us)(r':aZ ys ws)(hl:xs.length=ds.length)(hl':ys.length=es.length)
  (h:∀(j:Nat) x y d e u w,xs[j]? = some x->ys[j]? = some y->ds[j]? = some d->es[j]? = some e->bz x u->bz y w->SeqAt.EqAt A s u w (deq d e))
  (j:Nat) (h1:j<us.toArray.size) (h2:j<ws.toArray.size):SeqAt.EqAt A s us.toArray[j] ws.toArray[j] (deq (ds.getD j .non) (es.getD j .non)):=by
 rw[List.size_toArray]at h1 h2;@a,ea,ra:=rP r h1;@c,ec,rc:=rP r' h2;!g1:=(List.getElem?_eq_some_iff.mp ea).1;!g2:=(List.getElem?_eq_some_iff.mp ec).1;!e1:ds[j]? = some ds[j]:=List.getElem?_eq_getElem ~;!e2:es[j]? = some es[j]:=List.getElem?_eq_getElem ~;rw[List.getD_eq_getElem?_getD,List.getD_eq_getElem?_getD,e1,e2];#h j a c _ _ _ _ ea ec e1 e2 ra rc
¤Rp.eqAt{n:Nat}{x:V}{d:D}(r:Rp H n x d):∀{m:Nat} {y:V} {e:D} {A:Around} {u v:Value},Rp H m y e->Dn X pins σ H s->bz x u->bz y v->A.units+n<cLine->SeqAt.EqAt A s u v (deq d e):=by
 induction r with
 | non =>
  intro m y e A u v q I ru rv hu;cases ru;cases q with
  | non=>cases rv;#SeqAt.EqAt.same _
  | bl=>cases rv;#SeqAt.EqAt.none_bool _
  | int=>@_,rfl:=rv;#SeqAt.EqAt.none_int _ _
  | str=>@_,rfl:=rv;#SeqAt.EqAt.none_str _ _
  | tup e1 hl h=>cases rv;@its,_,pl,_:=I.tuple (SqT.of e1);#SeqAt.EqAt.none_tuple pl ~
  | lst e1 hl h=>cases rv;@its,_,pl,_:=I.list (SqL.of e1);#SeqAt.EqAt.none_list pl.isList ~
 | bl =>
  intro m y e A u v q I ru rv hu;cases ru;cases q with
  | non=>cases rv;#SeqAt.EqAt.bool_none _
  | bl=>cases rv;#SeqAt.EqAt.bool_bool _ _
  | int=>@_,rfl:=rv;#SeqAt.EqAt.bool_int _ _ _
  | str=>@_,rfl:=rv;#SeqAt.EqAt.bool_str _ _ _
  | tup e1 hl h=>cases rv;@its,_,pl,_:=I.tuple (SqT.of e1);#SeqAt.EqAt.bool_tuple _ pl ~
  | lst e1 hl h=>cases rv;@its,_,pl,_:=I.list (SqL.of e1);#SeqAt.EqAt.bool_list _ pl.isList ~
 | int =>
  intro m y e A u v q I ru rv hu;@_,rfl:=ru;cases q with
  | non=>cases rv;#SeqAt.EqAt.int_none _ _
  | bl=>cases rv;#SeqAt.EqAt.int_bool _ _ _
  | int=>@_,rfl:=rv;#SeqAt.EqAt.int_int _ _ _ _
  | str=>@_,rfl:=rv;#SeqAt.EqAt.int_str _ _ _ _
  | tup e1 hl h=>cases rv;@its,_,pl,_:=I.tuple (SqT.of e1);#SeqAt.EqAt.int_tuple _ _ pl ~
  | lst e1 hl h=>cases rv;@its,_,pl,_:=I.list (SqL.of e1);#SeqAt.EqAt.int_list _ _ pl.isList ~
 | str =>
  intro m y e A u v q I ru rv hu;@_,rfl:=ru;cases q with
  | non=>cases rv;#SeqAt.EqAt.str_none _ _
  | bl=>cases rv;#SeqAt.EqAt.str_bool _ _ _
  | int=>@_,rfl:=rv;#SeqAt.EqAt.str_int _ _ _ _
  | str=>@_,rfl:=rv;#SeqAt.EqAt.str_str _ _ _ _
  | tup e1 hl h=>cases rv;@its,_,pl,_:=I.tuple (SqT.of e1);#SeqAt.EqAt.str_tuple _ _ pl ~
  | lst e1 hl h=>cases rv;@its,_,pl,_:=I.list (SqL.of e1);#SeqAt.EqAt.str_list _ _ pl.isList ~
 | @tup n p xs ds e0 hl h ih =>
  intro m y e A u v q I ru rv hu;cases ru;@its,r1,pl,_:=I.tuple (SqT.of e0);cases q with
  | non=>cases rv;#SeqAt.EqAt.tuple_none pl ~
  | bl=>cases rv;#SeqAt.EqAt.tuple_bool _ pl ~
  | int=>@_,rfl:=rv;#SeqAt.EqAt.tuple_int _ _ pl ~
  | str=>@_,rfl:=rv;#SeqAt.EqAt.tuple_str _ _ pl ~
  | lst e1 hl1 h1=>cases rv;@jts,_,pl',_:=I.list (SqL.of e1);#SeqAt.EqAt.tuple_list pl pl'.isList ~
  | @tup m p' ys es e1 hl1 h1 =>
   cases rv
   by_cases hne:p=p'
   ·subst hne
    !z:deq (.tup ds) (.tup es)=true:=Rp.self (Rp.tup e0 hl h) (Rp.tup e1 hl1 h1);rw[z];#SeqAt.EqAt.same _
   ·@jts,r2,pl',_:=I.tuple (SqT.of e1)
    !y:=SeqAt.RcAt.tuples (A:=A) (e:=λj=>deq (ds.getD j .non) (es.getD j .non)) pl pl' ~ (gS r1 r2 hl hl1 λj x y d e u w a b c k ra rb=>ih j x d a c (h1 j y e b k) I ra rb (by show A.units+1+n<cLine;~));rw[List.size_toArray,List.size_toArray,<- r1.length,<- r2.length,hl,hl1,fR]at y;#SeqAt.EqAt.of_refs hne y
 | @lst n p xs ds e0 hl h ih =>
  intro m y e A u v q I ru rv hu;cases ru;@its,r1,pl,_:=I.list (SqL.of e0);cases q with
  | non=>cases rv;#SeqAt.EqAt.list_none pl.isList ~
  | bl=>cases rv;#SeqAt.EqAt.list_bool _ pl.isList ~
  | int=>@_,rfl:=rv;#SeqAt.EqAt.list_int _ _ pl.isList ~
  | str=>@_,rfl:=rv;#SeqAt.EqAt.list_str _ _ pl.isList ~
  | tup e1 hl1 h1=>cases rv;@jts,_,pl',_:=I.tuple (SqT.of e1);#SeqAt.EqAt.list_tuple pl.isList pl' ~
  | @lst m p' ys es e1 hl1 h1 =>
   cases rv
   by_cases hne:p=p'
   ·subst hne
    !z:deq (.lst ds) (.lst es)=true:=Rp.self (Rp.lst e0 hl h) (Rp.lst e1 hl1 h1);rw[z];#SeqAt.EqAt.same _
   ·@jts,r2,pl',_:=I.list (SqL.of e1)
    !g1:=r1.length;!g2:=r2.length
    by_cases hz:ds.length=es.length
    ·!y:=SeqAt.RcAt.lists (A:=A) (e:=λj=>deq (ds.getD j .non) (es.getD j .non)) pl.isList pl'.isList (by rw[List.size_toArray,List.size_toArray];~) ~ (gS r1 r2 hl hl1 λj x y d e u w a b c k ra rb=>ih j x d a c (h1 j y e b k) I ra rb (by show A.units+1+n<cLine;~))
     rw[List.size_toArray,<- r1.length,hl,gT hz]at y;#SeqAt.EqAt.of_refs hne y
    ·rw[show deq (.lst ds) (.lst es)=false from lQ hz]
     #SeqAt.EqAt.of_refs hne (SeqAt.RcAt.lists_lengths pl.isList pl'.isList (by rw[List.size_toArray,List.size_toArray];simp;~) ~)
end
section
variable {X:Cx} {pins:List (Addr×Obj)} {σ:St} {H:Hp} {s:Shared}
¤Rp.rcAt{A:Around}{n m:Nat}{x y:V}{d e:D}{u v:Value}(r:Rp H n x d)(q:Rp H m y e)(I:Dn X pins σ H s)(ru:bz x u)(rv:bz y v)(hu:A.units+n+1<cLine):SeqAt.RcAt A s u v (deq d e):=by
 cases r with
 | non =>
  cases q with
  | non =>
   cases ru;cases rv;#SeqAt.RcAt.none_none
  | bl =>
   cases ru;cases rv;#SeqAt.RcAt.none_bool _
  | int =>
   cases ru;@_,rfl:=rv;#SeqAt.RcAt.none_int _ _
  | str =>
   cases ru;@_,rfl:=rv;#SeqAt.RcAt.none_str _ _
  | @tup m p' ys es e1 hl1 h1 =>
   cases ru;cases rv;@jts,r2,pl',_:=I.tuple (SqT.of e1);#SeqAt.RcAt.none_tuple pl' ~
  | @lst m p' ys es e1 hl1 h1 =>
   cases ru;cases rv;@jts,r2,pl',_:=I.list (SqL.of e1);#SeqAt.RcAt.none_list pl'.isList ~
 | bl =>
  cases q with
  | non =>
   cases ru;cases rv;#SeqAt.RcAt.bool_none _
  | bl =>
   cases ru;cases rv;#SeqAt.RcAt.bool_bool _ _
  | int =>
   cases ru;@_,rfl:=rv;#SeqAt.RcAt.bool_int _ _ _
  | str =>
   cases ru;@_,rfl:=rv;#SeqAt.RcAt.bool_str _ _ _
  | @tup m p' ys es e1 hl1 h1 =>
   cases ru;cases rv;@jts,r2,pl',_:=I.tuple (SqT.of e1);#SeqAt.RcAt.bool_tuple _ pl' ~
  | @lst m p' ys es e1 hl1 h1 =>
   cases ru;cases rv;@jts,r2,pl',_:=I.list (SqL.of e1);#SeqAt.RcAt.bool_list _ pl'.isList ~
 | int =>
  cases q with
  | non =>
   @_,rfl:=ru;cases rv;#SeqAt.RcAt.int_none _ _
  | bl =>
   @_,rfl:=ru;cases rv;#SeqAt.RcAt.int_bool _ _ _
  | int =>
   @_,rfl:=ru;@_,rfl:=rv;#SeqAt.RcAt.int_int _ _ _ _
  | str =>
   @_,rfl:=ru;@_,rfl:=rv;#SeqAt.RcAt.int_str _ _ _ _
  | @tup m p' ys es e1 hl1 h1 =>
   @_,rfl:=ru;cases rv;@jts,r2,pl',_:=I.tuple (SqT.of e1);#SeqAt.RcAt.int_tuple _ _ pl' ~
  | @lst m p' ys es e1 hl1 h1 =>
   @_,rfl:=ru;cases rv;@jts,r2,pl',_:=I.list (SqL.of e1);#SeqAt.RcAt.int_list _ _ pl'.isList ~
 | str =>
  cases q with
  | non =>
   @_,rfl:=ru;cases rv;#SeqAt.RcAt.str_none _ _
  | bl =>
   @_,rfl:=ru;cases rv;#SeqAt.RcAt.str_bool _ _ _
  | int =>
   @_,rfl:=ru;@_,rfl:=rv;#SeqAt.RcAt.str_int _ _ _ _
  | str =>
   @_,rfl:=ru;@_,rfl:=rv;#SeqAt.RcAt.str_str _ _ _ _
  | @tup m p' ys es e1 hl1 h1 =>
   @_,rfl:=ru;cases rv;@jts,r2,pl',_:=I.tuple (SqT.of e1);#SeqAt.RcAt.str_tuple _ _ pl' ~
  | @lst m p' ys es e1 hl1 h1 =>
   @_,rfl:=ru;cases rv;@jts,r2,pl',_:=I.list (SqL.of e1);#SeqAt.RcAt.str_list _ _ pl'.isList ~
 | @tup n p xs ds e0 hl h =>
  cases q with
  | non =>
   cases ru;cases rv;@its,r1,pl,_:=I.tuple (SqT.of e0);#SeqAt.RcAt.tuple_none pl ~
  | bl =>
   cases ru;cases rv;@its,r1,pl,_:=I.tuple (SqT.of e0);#SeqAt.RcAt.tuple_bool _ pl ~
  | int =>
   cases ru;@_,rfl:=rv;@its,r1,pl,_:=I.tuple (SqT.of e0);#SeqAt.RcAt.tuple_int _ _ pl ~
  | str =>
   cases ru;@_,rfl:=rv;@its,r1,pl,_:=I.tuple (SqT.of e0);#SeqAt.RcAt.tuple_str _ _ pl ~
  | @tup m p' ys es e1 hl1 h1 =>
   cases ru;cases rv;@its,r1,pl,_:=I.tuple (SqT.of e0);@jts,r2,pl',_:=I.tuple (SqT.of e1);!y:=SeqAt.RcAt.tuples (A:=A) (e:=λj=>deq (ds.getD j .non) (es.getD j .non)) pl pl' ~ (gS r1 r2 hl hl1 λj x y d e u w a b c k ra rb=>(h j x d a c).eqAt (h1 j y e b k) I ra rb (by show A.units+1+_<cLine;~));rw[List.size_toArray,List.size_toArray,<- r1.length,<- r2.length,hl,hl1,fR]at y;#y
  | @lst m p' ys es e1 hl1 h1 =>
   cases ru;cases rv;@its,r1,pl,_:=I.tuple (SqT.of e0);@jts,r2,pl',_:=I.list (SqL.of e1);#SeqAt.RcAt.tuple_list pl pl'.isList ~
 | @lst n p xs ds e0 hl h =>
  cases q with
  | non =>
   cases ru;cases rv;@its,r1,pl,_:=I.list (SqL.of e0);#SeqAt.RcAt.list_none pl.isList ~
  | bl =>
   cases ru;cases rv;@its,r1,pl,_:=I.list (SqL.of e0);#SeqAt.RcAt.list_bool _ pl.isList ~
  | int =>
   cases ru;@_,rfl:=rv;@its,r1,pl,_:=I.list (SqL.of e0);#SeqAt.RcAt.list_int _ _ pl.isList ~
  | str =>
   cases ru;@_,rfl:=rv;@its,r1,pl,_:=I.list (SqL.of e0);#SeqAt.RcAt.list_str _ _ pl.isList ~
  | @tup m p' ys es e1 hl1 h1 =>
   cases ru;cases rv;@its,r1,pl,_:=I.list (SqL.of e0);@jts,r2,pl',_:=I.tuple (SqT.of e1);#SeqAt.RcAt.list_tuple pl.isList pl' ~
  | @lst m p' ys es e1 hl1 h1 =>
   cases ru;cases rv;@its,r1,pl,_:=I.list (SqL.of e0);@jts,r2,pl',_:=I.list (SqL.of e1);!g1:=r1.length;!g2:=r2.length
   by_cases hz:ds.length=es.length
   ·!y:=SeqAt.RcAt.lists (A:=A) (e:=λj=>deq (ds.getD j .non) (es.getD j .non)) pl.isList pl'.isList (by rw[List.size_toArray,List.size_toArray];~) ~ (gS r1 r2 hl hl1 λj x y d e u w a b c k ra rb=>(h j x d a c).eqAt (h1 j y e b k) I ra rb (by show A.units+1+_<cLine;~))
    rw[List.size_toArray,<- r1.length,hl,gT hz]at y;#y
   ·rw[show deq (.lst ds) (.lst es)=false from lQ hz]
    #SeqAt.RcAt.lists_lengths pl.isList pl'.isList (by rw[List.size_toArray,List.size_toArray];simp;~) ~
¤Rp.rcNeAt{A:Around}{n m:Nat}{x y:V}{d e:D}{u v:Value}(r:Rp H n x d)(q:Rp H m y e)(I:Dn X pins σ H s)(ru:bz x u)(rv:bz y v)(hu:A.units+n+1<cLine):SeqAt.RcNeAt A s u v (!(deq d e)):=by
 cases r with
 | non =>
  cases q with
  | non =>
   cases ru;cases rv;#SeqAt.RcNeAt.none_none
  | bl =>
   cases ru;cases rv;#SeqAt.RcNeAt.none_bool _
  | int =>
   cases ru;@_,rfl:=rv;#SeqAt.RcNeAt.none_int _ _
  | str =>
   cases ru;@_,rfl:=rv;#SeqAt.RcNeAt.none_str _ _
  | @tup m p' ys es e1 hl1 h1 =>
   cases ru;cases rv;@jts,r2,pl',_:=I.tuple (SqT.of e1);#SeqAt.RcNeAt.none_tuple pl' ~
  | @lst m p' ys es e1 hl1 h1 =>
   cases ru;cases rv;@jts,r2,pl',_:=I.list (SqL.of e1);#SeqAt.RcNeAt.none_list pl'.isList ~
 | bl =>
  cases q with
  | non =>
   cases ru;cases rv;#SeqAt.RcNeAt.bool_none _
  | bl =>
   cases ru;cases rv;#SeqAt.RcNeAt.bool_bool _ _
  | int =>
   cases ru;@_,rfl:=rv;#SeqAt.RcNeAt.bool_int _ _ _
  | str =>
   cases ru;@_,rfl:=rv;#SeqAt.RcNeAt.bool_str _ _ _
  | @tup m p' ys es e1 hl1 h1 =>
   cases ru;cases rv;@jts,r2,pl',_:=I.tuple (SqT.of e1);#SeqAt.RcNeAt.bool_tuple _ pl' ~
  | @lst m p' ys es e1 hl1 h1 =>
   cases ru;cases rv;@jts,r2,pl',_:=I.list (SqL.of e1);#SeqAt.RcNeAt.bool_list _ pl'.isList ~
 | int =>
  cases q with
  | non =>
   @_,rfl:=ru;cases rv;#SeqAt.RcNeAt.int_none _ _
  | bl =>
   @_,rfl:=ru;cases rv;#SeqAt.RcNeAt.int_bool _ _ _
  | int =>
   @_,rfl:=ru;@_,rfl:=rv;#SeqAt.RcNeAt.int_int _ _ _ _
  | str =>
   @_,rfl:=ru;@_,rfl:=rv;#SeqAt.RcNeAt.int_str _ _ _ _
  | @tup m p' ys es e1 hl1 h1 =>
   @_,rfl:=ru;cases rv;@jts,r2,pl',_:=I.tuple (SqT.of e1);#SeqAt.RcNeAt.int_tuple _ _ pl' ~
  | @lst m p' ys es e1 hl1 h1 =>
   @_,rfl:=ru;cases rv;@jts,r2,pl',_:=I.list (SqL.of e1);#SeqAt.RcNeAt.int_list _ _ pl'.isList ~
 | str =>
  cases q with
  | non =>
   @_,rfl:=ru;cases rv;#SeqAt.RcNeAt.str_none _ _
  | bl =>
   @_,rfl:=ru;cases rv;#SeqAt.RcNeAt.str_bool _ _ _
  | int =>
   @_,rfl:=ru;@_,rfl:=rv;#SeqAt.RcNeAt.str_int _ _ _ _
  | str =>
   @_,rfl:=ru;@_,rfl:=rv;#SeqAt.RcNeAt.str_str _ _ _ _
  | @tup m p' ys es e1 hl1 h1 =>
   @_,rfl:=ru;cases rv;@jts,r2,pl',_:=I.tuple (SqT.of e1);#SeqAt.RcNeAt.str_tuple _ _ pl' ~
  | @lst m p' ys es e1 hl1 h1 =>
   @_,rfl:=ru;cases rv;@jts,r2,pl',_:=I.list (SqL.of e1);#SeqAt.RcNeAt.str_list _ _ pl'.isList ~
 | @tup n p xs ds e0 hl h =>
  cases q with
  | non =>
   cases ru;cases rv;@its,r1,pl,_:=I.tuple (SqT.of e0);#SeqAt.RcNeAt.tuple_none pl ~
  | bl =>
   cases ru;cases rv;@its,r1,pl,_:=I.tuple (SqT.of e0);#SeqAt.RcNeAt.tuple_bool _ pl ~
  | int =>
   cases ru;@_,rfl:=rv;@its,r1,pl,_:=I.tuple (SqT.of e0);#SeqAt.RcNeAt.tuple_int _ _ pl ~
  | str =>
   cases ru;@_,rfl:=rv;@its,r1,pl,_:=I.tuple (SqT.of e0);#SeqAt.RcNeAt.tuple_str _ _ pl ~
  | @tup m p' ys es e1 hl1 h1 =>
   cases ru;cases rv;@its,r1,pl,_:=I.tuple (SqT.of e0);@jts,r2,pl',_:=I.tuple (SqT.of e1);!y:=SeqAt.RcNeAt.tuples (A:=A) (e:=λj=>deq (ds.getD j .non) (es.getD j .non)) pl pl' ~ (gS r1 r2 hl hl1 λj x y d e u w a b c k ra rb=>(h j x d a c).eqAt (h1 j y e b k) I ra rb (by show A.units+1+_<cLine;~));rw[List.size_toArray,List.size_toArray,<- r1.length,<- r2.length,hl,hl1,fR]at y;#y
  | @lst m p' ys es e1 hl1 h1 =>
   cases ru;cases rv;@its,r1,pl,_:=I.tuple (SqT.of e0);@jts,r2,pl',_:=I.list (SqL.of e1);#SeqAt.RcNeAt.tuple_list pl pl'.isList ~
 | @lst n p xs ds e0 hl h =>
  cases q with
  | non =>
   cases ru;cases rv;@its,r1,pl,_:=I.list (SqL.of e0);#SeqAt.RcNeAt.list_none pl.isList ~
  | bl =>
   cases ru;cases rv;@its,r1,pl,_:=I.list (SqL.of e0);#SeqAt.RcNeAt.list_bool _ pl.isList ~
  | int =>
   cases ru;@_,rfl:=rv;@its,r1,pl,_:=I.list (SqL.of e0);#SeqAt.RcNeAt.list_int _ _ pl.isList ~
  | str =>
   cases ru;@_,rfl:=rv;@its,r1,pl,_:=I.list (SqL.of e0);#SeqAt.RcNeAt.list_str _ _ pl.isList ~
  | @tup m p' ys es e1 hl1 h1 =>
   cases ru;cases rv;@its,r1,pl,_:=I.list (SqL.of e0);@jts,r2,pl',_:=I.tuple (SqT.of e1);#SeqAt.RcNeAt.list_tuple pl.isList pl' ~
  | @lst m p' ys es e1 hl1 h1 =>
   cases ru;cases rv;@its,r1,pl,_:=I.list (SqL.of e0);@jts,r2,pl',_:=I.list (SqL.of e1);!g1:=r1.length;!g2:=r2.length
   by_cases hz:ds.length=es.length
   ·!y:=SeqAt.RcNeAt.lists (A:=A) (e:=λj=>deq (ds.getD j .non) (es.getD j .non)) pl.isList pl'.isList (by rw[List.size_toArray,List.size_toArray];~) ~ (gS r1 r2 hl hl1 λj x y d e u w a b c k ra rb=>(h j x d a c).eqAt (h1 j y e b k) I ra rb (by show A.units+1+_<cLine;~))
    rw[List.size_toArray,<- r1.length,hl,gT hz]at y;#y
   ·rw[show deq (.lst ds) (.lst es)=false from lQ hz]
    #SeqAt.RcNeAt.lists_lengths pl.isList pl'.isList (by rw[List.size_toArray,List.size_toArray];simp;~) ~
end
section
variable {X:Cx}
inductive Kv (neg:Bool) (x:V) (y:V) (H:Hp) (Q:VK):Prop
 | mk:∀d e,(Rp H 9 x d)->(Rp H 9 y e)->(Q (.bl (if neg then !(deq d e) else deq d e)) H)->Kv neg x y H Q
¤vJ(hu:X.A.units+10<cLine):OpR X (compareOp .Eq) (Kv false):=by
 intro pins s σ H x y v u Q I rx ry h;@d,e,rd,re,k:=h;#rd.rcAt re I rx ry ~ _ _ _ _ ⟨.bl _,H,I,rfl,k⟩
¤gE(hu:X.A.units+10<cLine):OpR X (compareOp .NotEq) (Kv true):=by
 intro pins s σ H x y v u Q I rx ry h;@d,e,rd,re,k:=h;#rd.rcNeAt re I rx ry ~ _ _ _ _ ⟨.bl _,H,I,rfl,k⟩
end
section
variable {H:Hp} {n:Nat} {p:Addr} {x y z w:V} {a b c d:D}
¤Rp.t2(e:H p=some (.tup [x,y]))(ha:Rp H n x a)(hb:Rp H n y b):Rp H (n+1) (.ref p) (.tup [a,b]):=.tup e rfl λj x d h k=>by
 match j with
 | 0=>cases h;cases k;#ha
 | 1=>cases h;cases k;#hb
 | j+2=>simp at h
mutual
¤dZ:∀d:D,deq d d=true
 | .non=>rfl
 | .bl b=>by simp[deq]
 | .int i=>by simp[deq]
 | .str x=>by simp[deq]
 | .tup ds=>by simp only[deq];#jB ds
 | .lst ds=>by simp only[deq];#jB ds
¤jB:∀ds:List D,ip ds ds=true
 | []=>by simp[ip]
 | d::ds=>by simp only[ip,Bool.and_eq_true];§dZ d,jB ds
end
end
structure Ge(X:Cx)(scope:Scope)(cl:List (Str×Addr))(xs:List Str)(fv:List (Str×Nat)):Prop where
 clos:closureFor scope X.env=pure cl
 kind:scope.kind = .function
 cell:∀y∈scope.names,y.2≠.cell
 names:∀y∈scope.names,y.2 = .local->scope.names.lookup y.1=some .local
 own:∀x∈xs,scope.names.lookup x=some .local
 cells:∀p∈cl,X.env.cells.lookup p.1=some p.2
 has:((relabel scope X.env).names.all λq=>!(q.2 == .cell || q.2 == .free) || (cl.lookup q.1).isSome)=true
 nd:(xs++fv.map (·.1)).Nodup
 slot:∀p∈fv,X.N[p.2]? = some p.1/\X.env.kindOf p.1=some .cell/\Vis X.env.scope p.1/\(cl.lookup p.1).isSome=true/\((relabel scope X.env).names.lookup p.1=some .cell)
 stk:X.stack=X.env::X.outer/\X.env.frame=some X.env.locals
 noex:X.ex = []
¦PTs(X:Cx)(ifs:List Expr)(tc:TT):Prop :=
 ∀(pins:List (Addr×Obj)) (s:Shared) (σ:St) (H:Hp) (Q:Bool->Hp->Prop),Dn X pins σ H s->tc σ H Q ->
  wpAny (model X.prog X.w) X.A (forIn ifs true λc r=>if r=true then do let ok <- isTrue c X.env (eval c X.env);pure (ForInStep.yield ok) else pure (ForInStep.yield r)) (λb s'=>∃H',Dn X pins σ H' s'/\Q b H') X.xe s
¤nQ{X:Cx}{c:Expr}{tc:TT}(h:PT X c tc):PTs X [c] tc:=λpins s σ H Q I q=>wpAny_tests_one (h pins s σ H Q I q)
¤qy{prog:Program}{w:World}{A:Around}{R:Result->Shared->Prop}{s:Shared}{elt target iter:Expr}{ifs:List Expr}{scope:Scope}{pos:Pos}{it acc:Value}{env:Env}(I:Nat->Shared->Prop)
  (turn:∀n s,I n s->wpAny (model prog w) A (pyNext it) (λr s1=>match r with
   | none=>R (.ok .next) s1
   | some v=>wpAny (model prog w) A (letOwnedTupleGo target it v) (λ_ s₀=>wpAny (model prog w) A (assign target env v) (λ_ s2 =>
     wpAny (model prog w) A (forIn ifs true λc r=>if r=true then do let ok <- isTrue c env (eval c env);pure (ForInStep.yield ok) else pure (ForInStep.yield r)) (λok s3 =>
      if ok=true then wpAny (model prog w) A (eval elt env) (λx s4 =>
       wpAny (model prog w) A (call (.builtin "list.append") [acc,x]) (λ_ s5=>∃m,m<n/\I m s5) (notedBy (model prog w) A env λe s'=>R (.error e) s') s4) (notedBy (model prog w) A env λe s'=>R (.error e) s') s3
      else ∃m,m<n/\I m s3) (notedBy (model prog w) A env λe s'=>R (.error e) s') s2) (notedBy (model prog w) A env λe s'=>R (.error e) s') s₀) (notedBy (model prog w) A env λe s'=>R (.error e) s') s1) (notedBy (model prog w) A env λe s'=>R (.error e) s') s)
  (n:Nat) (h:I n s):codeAny (model prog w) A (.compLoop (.ListComp elt [⟨target,iter,ifs,0⟩] scope pos) 0 it acc env) R s:=by
 refine codeAny_loop rfl I (λn s hI=>?_) n h;show wpAny _ A ((compTurn (.ListComp elt [⟨target,iter,ifs,0⟩] scope pos) 0 it acc env).onRaise (λx=>do noteFrame x env;theTreesLotGoes x)) _ _ s
 refine wpAny_noted ?_;rw[compTurn_list];refine wpAny_bind (wpAny_standAt (wpAny_bind (wpAny_mono (turn n s hI) (λr s1 h1=>?_) λ_ _ h'=>h')));cases r with
 | none=>#wpAny_pure h1
 | some v =>
  refine wpAny_bind (wpAny_mono h1 (λ_ s₀ h₀=>?_) λ_ _ h'=>h');refine wpAny_bind (wpAny_mono h₀ (λ_ s2 h2=>wpAny_bind (wpAny_mono h2 (λok s3 h3=>?_) λ_ _ h'=>h')) λ_ _ h'=>h');cases ok with
  | false=>#wpAny_pure ⟨rfl,h3⟩
  | true=>#wpAny_bind (wpAny_bind (wpAny_mono h3 (λx s4 h4=>wpAny_bind (wpAny_mono h4 (λ_ s5 h5=>wpAny_pure (wpAny_pure ⟨rfl,h5⟩)) λ_ _ h'=>h')) λ_ _ h'=>h'))
¦kF(J:It)(n:Nat)(fv:List (Str×Nat))(g:TG)(tc:TT)(te:TE)(σ:St)(H1:Hp)(Q:VK):Prop:=∀p,H1 p=none->∃W:Nat->Nat->List V->Hp->Prop,(∃m,W 0 m [] (upd H1 p (.lst [])))/\∀i m acc H2,W i m acc H2 ->
 H2 p=some (.lst acc)/\acc.length<sizeLine/\((J.stop i H2/\Q (.ref p) H2)\/(J.go i H2/\∀x H3,J.yld i H2 x H3->∀τ:St,τ.length=n->g x (τ++fvs fv σ) H3 λσ2 H4=>(∃τ':St,τ'.length=n/\σ2=τ'++fvs fv σ) /\
  tc σ2 H4 λb H5=>if b=true then te σ2 H5 (λy H6=>H6 p=some (.lst acc)/\∃m',m'<m/\W (i+1) m' (acc++[y]) (upd H6 p (.lst (acc++[y])))) else ∃m',m'<m/\W (i+1) m' acc H5))
¦u8(wi:TI)(n:Nat)(fv:List (Str×Nat))(g:TG)(tc:TT)(te:TE):TE:=λσ H Q=>wi σ H λJ H1=>kF J n fv g tc te σ H1 Q
section
variable {X:Cx} {scope:Scope} {cl:List (Str×Addr)} {xs:List Str} {fv:List (Str×Nat)} {elt iter tg:Expr} {ifs:List Expr} {pos:Pos} {te:TE} {tc:TT} {g:TG}
¤yD{pins:List (Addr×Obj)}{σ:St}{H:Hp}{s:Shared}{fp:List Addr}(C:Ge X scope cl xs fv)(I:Dn X pins σ H s)(hf:∀b∈fp,gi X pins H b)(ho:∀b∈fp,b<s.heap.objs.size):(X.blk (xs++fv.map (·.1)) scope cl fp s H).Ok:=by
 !hcl:∀y c,cl.lookup y=some c->X.env.cells.lookup y=some c:=λy c h=>C.cells _ (db h);!old:∀b∈fp,X.s₀.heap.objs.size<=b:=λb hb=>by
  rcases(hf b hb).2.2.2.1 with z|z
  ·rw[C.noex]at z
   cases z
  ·#z
 ¶I.ok.mod,by show(relabel scope X.env).kind=_;#C.kind,I.ok.glob,I.ok.blt,Nat.le_refl _,λy z c h1 h2=>I.ok.inj y z c (hcl y c h1) (hcl z c h2),λy hy=>?_,(λy c h=>by cases h),I.ok.hd,I.ok.frames,.inl rfl,λb hb=>?_,λb o e=>I.bs b o e,Nat.le_trans I.ok.bsz I.sz,λb o e hb=>?_,λb hb hm=>?_,I.stack,I.stkFree
 ·!q:=C.has
  rw[List.all_eq_true]at q;!hm:∃k,(y,k)∈(relabel scope X.env).names/\(k = .cell\/k = .free):=by
   rcases hy with hy|hy
   ·§_,db hy,.inl rfl
   ·§_,db hy,.inr rfl
  @k,hk,hk2:=hm;!q2:=q _ hk;!q3:(cl.lookup y).isSome=true:=by
   rcases hk2 with rfl|rfl
   ·simpa using q2
   ·simpa using q2
  #Option.isSome_iff_exists.mp q3
 ·@f0,f1,f2,f3,f4,f5:=hf b hb
  ¶?_,λy c h=>f4 y c (hcl y c h);#Nat.ne_of_lt (ho b hb)
 ·!z:=Heap.lt_size e
  !z2:=old b hb;#absurd (Nat.lt_of_lt_of_le z (Nat.le_trans I.ok.bsz z2)) (Nat.lt_irrefl _)
 ·@f0,f1,f2,f3,f4,f5:=hf b hb
  rcases List.mem_cons.mp (I.stkSub b hm) with z|z
  ·#f1 z
  ·#f2 z
¤wY{pins:List (Addr×Obj)}{σ:St}{H:Hp}{s s4:Shared}{fp:List Addr}(C:Ge X scope cl xs fv)(I:Dn X pins σ H s)(hf:∀b∈fp,gi X pins H b)(ho:∀b∈fp,b<s.heap.objs.size)
  (hs:s4.os=s.os/\s4.gens=s.gens) (ns:s4.heap.Ns s.heap.objs.size λ_=>none) (kp:∀b o,s.heap.get? b=some o->s4.heap.get? b=some o) :
  Dn (X.blk (xs++fv.map (·.1)) scope cl fp s H) [] (List.replicate xs.length none++fvs fv σ) H s4:=by
 !hcl:∀y c,cl.lookup y=some c->X.env.cells.lookup y=some c:=λy c h=>C.cells _ (db h);¶yD C I hf ho,hs.1,by rw[hs.2];#I.bare,Un.kept kp,⟨_,ns,λi y v e1 e2 e3=>?_⟩,λy c h=>?_,I.hok.fresh (Nat.le_refl _),λy c h=>I.freeC y c (hcl y c h),λp hp=>by simp at hp,I.hok.kept kp,(by simp[fvs])
 ·by_cases hi:i<xs.length
  ·rw[List.getElem?_append_left (by rw[List.length_replicate];#hi),List.getElem?_replicate]at e2
   simp[hi]at e2
  ·obtain⟨j,rfl⟩:∃j,i=xs.length+j:=⟨i - xs.length,~⟩
   !e1':(fv.map (·.1))[j]? = some y:=by
    !z:(xs++fv.map (·.1))[xs.length+j]? = some y:=e1;rw[List.getElem?_append_right ~]at z;simpa using z
   !e2':(fvs fv σ)[j]? = some (some v):=by
    rw[List.getElem?_append_right (by rw[List.length_replicate];~),List.length_replicate]at e2;simpa using e2
   rw[List.getElem?_map]at e1';unfold fvs at e2';rw[List.getElem?_map]at e2';cases hq:fv[j]? with
   | none =>
    rw[hq]at e1';cases e1'
   | some q =>
    rw[hq]at e1' e2';!ey:q.1=y:=Option.some.inj e1';!ev:(σ[q.2]?).join=some v:=Option.some.inj e2';!hm:q∈fv:=List.mem_of_getElem? hq;@s1,s2,s3,s4',s5:=C.slot q hm;!ev2:σ[q.2]? = some (some v):=by
     cases hz:σ[q.2]? with
     | none =>
      rw[hz]at ev;cases ev
     | some z =>
      rw[hz]at ev;!ev':z=some v:=ev;rw[ev']
    @m,hn,hl:=I.loc;@u,r,lk:=hl q.2 q.1 v s1 ev2 s3;@c,hc:=Option.isSome_iff_exists.mp s4';¶u,r,.inr ⟨.inl (by rw[<- ey];#s5),c,by rw[<- ey];#hc,?_⟩;rcases lk with⟨k,_⟩|⟨_,c',hc',z⟩
    ·rw[s2]at k
     cases k
    ·rw[hcl _ _ hc]at hc'
     cases hc';@o,ho',hd:=z;§o,kp _ _ ho',hd
 ·@v,o,ho',hd:=I.cell y c (hcl y c h)
  §v,o,kp _ _ ho',hd
¤qD{pins:List (Addr×Obj)}{σ:St}{H2:Hp}{s2:Shared}{it:Addr}{fp:List Addr}{tn:Nat->Heap->Prop}{J:It}{RR:Value->Addr->Result->Shared->Prop}{E:Value->Shared->Prop}{Qf:V->Hp->Prop}
  (hcalm:X.calm=true) (C:Ge X scope cl xs fv) (I2:Dn X pins σ H2 s2) (T:GM X.prog X.w X.K tg J fp it tn) (st:tn 0 s2.heap) (f2:∀b∈fp,gi X pins H2 b)
  (rd:kF J xs.length fv g tc te σ H2 Qf)
  (hg:∀(s₀:Shared) (H₀:Hp),PG (X.blk (xs++fv.map (·.1)) scope cl fp s₀ H₀) tg g) (ht:∀(s₀:Shared) (H₀:Hp),PTs (X.blk (xs++fv.map (·.1)) scope cl fp s₀ H₀) ifs tc)
  (he:∀(s₀:Shared) (H₀:Hp),PE (X.blk (xs++fv.map (·.1)) scope cl fp s₀ H₀) elt te)
  (hRR:∀(p C:Addr) (H':Hp) (s':Shared),(∃m,s'.heap.Ns C m)->C≠X.env.locals->H' C=none->X.s₀.heap.objs.size<=C->(∀y c,X.env.cells.lookup y=some c->c≠C)->(∀q∈X.pn++pins,q.1≠C)->Dn X pins σ H' s'->Qf (.ref p) H'->RR (.ref p) C (.ok .next) s') :
  wpAny (model X.prog X.w) X.A (newList []) (λacc s₃=>wpAny (model X.prog X.w) X.A (newFunctionEnv scope X.env.globals cl [] X.env.qual none .none (some X.env)) (λcenv s₄ =>
   codeAny (model X.prog X.w) X.A (.compStart (.ListComp elt [⟨tg,iter,ifs,0⟩] scope pos) 0 (.ref it) acc { cenv with scope:=relabel scope X.env }) (RR acc cenv.locals) s₄) E s₃) E s2:=by
 refine wpAny_newObj_type ?_;!hfresh:=I2.fresh;!I3:Dn X pins σ (upd H2 s2.heap.objs.size (.lst [])) { s2 with heap:=s2.heap.push { cls:=.type "list",data:=.seq ([]:List Value).toArray } } :=
  I2.laid (t':=s2.toks) (λb u q=>Heap.get?_push_of_some _ q) (Nat.le_refl _) ⟨Nat.zero_le _,[],0,.nil,Heap.get?_push_size _ rfl⟩
 generalize hs3:({ s2 with heap:=s2.heap.push { cls:=.type "list",data:=.seq ([]:List Value).toArray } }:Shared)=s3 at I3 ⊢;!hp3:s2.heap.objs.size<s3.heap.objs.size:=by rw[<- hs3];#Nat.lt_of_lt_of_le (Nat.lt_succ_self _) (Nat.le_of_eq (Heap.size_push _ _).symm)
 !k23:∀b o,s2.heap.get? b=some o->s3.heap.get? b=some o:=λb o e=>by rw[<- hs3];#Heap.get?_push_of_some _ e
 !fpo:∀b∈fp,b<s2.heap.objs.size:=λb hb=>by
  @o,e,_:=T.obj 0 _ st b hb;#Heap.lt_size e
 !f3:∀b∈fp,gi X pins (upd H2 s2.heap.objs.size (.lst [])) b:=λb hb=>⟨by rw[aR (Nat.ne_of_lt (fpo b hb))];#(f2 b hb).1,(f2 b hb).2⟩;refine wpAny_newFunctionEnv C.cell (by intro y hy;simp at hy) (λh1 hns1 hsb1=>?_) C.kind;!kp:∀b o,s3.heap.get? b=some o->h1.get? b=some o:=λb o e=>(hsb1.2 b (Nat.ne_of_lt (Heap.lt_size e))).trans (Heap.get?_push_of_some _ e);!I4:=wY (s4:={ s3 with heap:=h1,toks:=s3.toks+([]:List (Str×Value)).length }) C I3 f3 (λb hb=>Nat.lt_trans (fpo b hb) hp3) ⟨rfl,rfl⟩ hns1 kp;!st4:tn 0 h1:=T.keep 0 _ _ st λb _ o e=>kp b o (k23 b o e);@W,⟨m0,w0⟩,step:=rd _ hfresh;!loop:codeAny (model X.prog X.w) X.A (.compLoop (.ListComp elt [⟨tg,iter,ifs,0⟩] scope pos) 0 (.ref it) (.ref s2.heap.objs.size) (compEnvC scope cl s3.heap.objs.size X.env)) (RR (.ref s2.heap.objs.size) s3.heap.objs.size)
   { s3 with heap:=h1,toks:=s3.toks+([]:List (Str×Value)).length }:=by
  refine qy (λn s=>∃i acc τ H',τ.length=xs.length/\Dn (X.blk (xs++fv.map (·.1)) scope cl fp s3 (upd H2 s2.heap.objs.size (.lst []))) [] (τ++fvs fv σ) H' s/\tn i s.heap/\(∀b∈fp,H' b=none)/\W i n acc H') ?_ m0 ⟨0,[],List.replicate xs.length none,_,List.length_replicate,I4,st4,λb hb=>(f3 b hb).1,w0⟩;rintro n s ⟨i,acc,τ,H',hτ,I',st',fr',w'⟩;@hp,hlen,alt:=step i n acc H' w';!fpk:∀{H5:Hp},(∀b∈fp,H5 b=none)->∀b∈fp,gi (X.blk (xs++fv.map (·.1)) scope cl fp s3 (upd H2 s2.heap.objs.size (.lst []))) [] H5 b:=λh5 b hb =>
   ⟨h5 b hb,(I'.ok.exf b hb).1,I'.ok.exfs b hb,.inl hb,λy c e=>(I'.ok.exf b hb).2 y c e,λq hq=>by simp at hq⟩
  rcases alt with⟨stop,qf⟩|⟨go,turn⟩
  ·refine wpAny_mono (T.done (X.blk (xs++fv.map (·.1)) scope cl fp s3 (upd H2 s2.heap.objs.size (.lst []))) rfl rfl rfl hcalm i [] s _ H' (λ_ _=>False) I' (fpk fr') st' stop) (λr s5 ⟨hr,I5⟩=>?_) λ_ _ z=>False.elim z
   subst hr;refine hRR _ _ H' s5 (let ⟨m,hn,_⟩:=I5.loc;⟨m,hn⟩) (Nat.ne_of_gt I3.lt) I5.free I3.sz (λy c e=>?_) (λq hq=>?_) ?_ qf
   ·@v,z:=I3.cell y c e
    #Nat.ne_of_lt z.lt
   ·#Nat.ne_of_lt (Heap.lt_size (I3.pin q hq).1)
   ·#I3.call' (s':=s5) (ch:=fp) I5.os I5.base I5.hok I5.bare λb hb=>⟨(f2 b hb).2.2.2.1,(f2 b hb).2.1,(f2 b hb).2.2.2.2.1,(f2 b hb).2.2.2.2.2⟩
  ·refine wpAny_mono (T.item (X.blk (xs++fv.map (·.1)) scope cl fp s3 (upd H2 s2.heap.objs.size (.lst []))) rfl rfl rfl hcalm i [] s _ H' (λ_ _=>False) I' (fpk fr') st' go) (λr s5 ⟨u,hr,h5⟩=>?_) λ_ _ z=>False.elim z
   subst hr;refine wpAny_mono h5 (λ_ s6 ⟨y,H6,I6,r6,y6,st6,fr6⟩=>?_) λ_ _ z=>False.elim z;!I6':=I6.pinned (fpk fr6) (T.obj _ _ st6);!rt:=turn y _ y6 τ hτ;refine wpAny_mono (hg s3 _ _ s6 _ H6 y u _ I6' r6 rt) (λ_ s7 ⟨σ7,H7,I7,⟨τ',hτ',e7⟩,q7⟩=>?_) λ_ _ z=>False.elim z;subst e7;refine wpAny_mono (ht s3 _ _ s7 _ _ _ I7 q7) (λb s7b ⟨H7b,I7b,q7b⟩=>?_) λ_ _ z=>False.elim z;!kp6:∀{σ9:St} {H9:Hp} {s9:Shared},Dn (X.blk (xs++fv.map (·.1)) scope cl fp s3 (upd H2 s2.heap.objs.size (.lst []))) ([]++kT fp s6.heap) σ9 H9 s9->tn (i+1) s9.heap/\∀b∈fp,H9 b=none:=λ{σ9 H9 s9} I9=>by
    ¶T.keep _ _ _ st6 λb hb o e=>(I9.pin (b,o) (List.mem_append_right _ (List.mem_append_right _ (d9 hb e)))).1,λb hb=>?_;@o,e,d:=T.obj _ _ st6 b hb;#(I9.pin (b,o) (List.mem_append_right _ (List.mem_append_right _ (d9 hb e)))).2.1
   cases b with
   | false =>
    @m',hm',w8:=q7b;§m',hm',i+1,acc,τ',_,hτ',I7b.unpinned,(kp6 I7b).1,(kp6 I7b).2,w8
   | true =>
    refine wpAny_mono (he s3 _ _ s7b _ _ _ I7b q7b) (λv8 s8 ⟨y8,H8,I8,r8,q8,m',hm',w8⟩=>?_) λ_ _ z=>False.elim z;refine wpAny_mono (jo (X:=X.blk (xs++fv.map (·.1)) scope cl fp s3 (upd H2 s2.heap.objs.size (.lst []))) _ s8 _ H8 (.ref s2.heap.objs.size) [y8] (.ref s2.heap.objs.size) [v8] (λ_ H9=>H9=upd H8 s2.heap.objs.size (.lst (acc++[y8]))) I8 rfl (.cons r8 .nil) ⟨_,acc,y8,rfl,rfl,q8,hlen,rfl⟩) (λ_ s9 ⟨_,H9,I9,_,e9⟩=>?_) λ_ _ z=>False.elim z;subst e9;§m',hm',i+1,acc++[y8],τ',_,hτ',I9.unpinned,(kp6 I9).1,(kp6 I9).2,w8
 #codeAny_compStart_list loop (T.self _ 0 _ _ _ st4 loop)
¤vF{wi:TI}(hcalm:X.calm=true)(C:Ge X scope cl xs fv)(hi:PI X tg iter wi)(hg:∀(fp:List Addr) (s₀:Shared) (H₀:Hp),PG (X.blk (xs++fv.map (·.1)) scope cl fp s₀ H₀) tg g)(ht:∀(fp:List Addr) (s₀:Shared) (H₀:Hp),PTs (X.blk (xs++fv.map (·.1)) scope cl fp s₀ H₀) ifs tc)(he:∀(fp:List Addr) (s₀:Shared) (H₀:Hp),PE (X.blk (xs++fv.map (·.1)) scope cl fp s₀ H₀) elt te)
  (hs:∀v,foldedSetIterable iter X.env v=pure v:=by intro _;rfl):PE X (.ListComp elt [⟨tg,iter,ifs,0⟩] scope pos) (u8 wi xs.length fv g tc te):=by
 intro pins s σ H Q I h;rw[eval_ListComp];refine wpAny_comprehension_free (use:=none) rfl hs C.clos C.kind C.names (wpAny_mono (hi pins s σ H _ I h) (λv s1 h1=>wpAny_mono h1 (λitv s2 h2=>?_) λ_ _ z=>z) λ_ _ z=>z);@it,fp,tn,J,H2,rfl,I2,T,st2,f2,rd:=h2;refine qD (Qf:=Q) hcalm C I2 T st2 f2 rd (hg fp) (ht fp) (he fp) λp D H' s' ns nL nH n0 nC nP I8 q=>?_;@m,hn:=ns;§m,hn,λh'' sb=>⟨.ref p,H',I8.turned (t':=s'.toks) (λb o hb e=>(sb.2 b hb).trans e) nH nL (.inr n0) nC nP,rfl,q⟩
¤jH{wi:TI}{y:Str}{j:Nat}{py spos:Pos}(hcalm:X.calm=true)(C:Ge X scope cl xs fv)(hN:X.N.Nodup)(hj:X.N[j]? = some y)(hy:X.env.scope.names.lookup y=some .local)(hi:PI X tg iter wi)(hg:∀(fp:List Addr) (s₀:Shared) (H₀:Hp),PG (X.blk (xs++fv.map (·.1)) scope cl fp s₀ H₀) tg g)(ht:∀(fp:List Addr) (s₀:Shared) (H₀:Hp),PTs (X.blk (xs++fv.map (·.1)) scope cl fp s₀ H₀) ifs tc)(he:∀(fp:List Addr) (s₀:Shared) (H₀:Hp),PE (X.blk (xs++fv.map (·.1)) scope cl fp s₀ H₀) elt te)
  (hsw:swapsWith (.ListComp elt [⟨tg,iter,ifs,0⟩] scope pos) (some (.Name y py)) spos.line X.env=pure true:=by rfl)
  (hs:∀v,foldedSetIterable iter X.env v=pure v:=by intro _;rfl):PS X (.Assign [.Name y py] (.ListComp elt [⟨tg,iter,ifs,0⟩] scope pos) spos) (ve (u8 wi xs.length fv g tc te) (lE j)):=by
 intro pins s σ H D I h;rw[exec_Assign_Name_used _ _ _ _ hsw];refine wpAny_bind (wpAny_standAt (wpAny_bind ?_));show wpAny _ _ (do let _ <- comprehension (.ListComp elt [⟨tg,iter,ifs,0⟩] scope pos) scope X.env _ (newList []) false (eval iter X.env) (some (assign (.Name y py) X.env))) _ _ s
 refine wpAny_bind (wpAny_mono (wpAny_comprehension_free (use:=some (assign (.Name y py) X.env)) (Q:=λ_ s'=>SP X pins D .next s') rfl hs C.clos C.kind C.names
  (wpAny_mono (hi pins s σ H _ I h) (λv s1 h1=>wpAny_mono h1 (λitv s2 h2=>?_) λ_ _ z=>z) λ_ _ z=>z)) (λ_ s' hq=>wpAny_pure (wpAny_pure hq)) λ_ _ z=>z)
 @it,fp,tn,J,H2,rfl,I2,T,st2,f2,rd:=h2;refine qD (Qf:=λv H'=>lE j v σ H' D.nx) hcalm C I2 T st2 f2 rd (hg fp) (ht fp) (he fp) λp D' H' s' ns nL nH n0 nC nP I8 q=>?_;@m,hn:=ns;show wpAny _ _ (assign (.Name y py) X.env (.ref p)) _ _ _;refine wpAny_assign_Name (jd I8 hN hj (.inl hy) (v:=.ref p) rfl (λs9 I9 ⟨a,sb,ha⟩=>?_) (.inr hy));!aD:D'≠a:=by
  rintro rfl;rcases ha with z|z
  ·#nL z
  ·#nC y _ z rfl
 §m,hn.sameBut sb aD,λh'' sb2=>⟨_,H',I9.turned (t':=s9.toks) (λb o hb e=>(sb2.2 b hb).trans e) nH nL (.inr n0) nC nP,q⟩
end
section
variable {κ:Type} [DecidableEq κ]
¦dR(kvs:List (κ×V))(k:κ):Option V:=(kvs.find? λkv=>decide (kv.1=k)).map (·.2)
¦gh(kvs:List (κ×V))(k:κ)(v:V):List (κ×V) :=
 if (kvs.any λkv=>decide (kv.1=k))=true then kvs.map (λkv=>if kv.1=k then (kv.1,v) else kv) else kvs++[(k,v)]
¤cQ{p:κ×V}{r:List (κ×V)}{k:κ}(e:p.1=k):dR (p::r) k=some p.2:=by simp[dR,List.find?_cons,e]
¤cL{p:κ×V}{r:List (κ×V)}{k:κ}(e:¬p.1=k):dR (p::r) k=dR r k:=by simp[dR,List.find?_cons,e]
¤gj(k:κ):∀kvs:List (κ×V),(kvs.any λkv=>decide (kv.1=k))=(dR kvs k).isSome
 | []=>rfl
 | p::r=>by
  rw[List.any_cons]
  by_cases e:p.1=k
  ·simp only[cQ e,decide_eq_true e,Bool.true_or,Option.isSome_some]
  ·rw[cL e,decide_eq_false e,Bool.false_or];#gj k r
¤oO(k j:κ)(y:V):∀kvs:List (κ×V),dR (kvs.map λkv=>if kv.1=k then (kv.1,y) else kv) j=(dR kvs j).map λx=>if j=k then y else x
 | []=>rfl
 | p::r=>by
  !ih:=oO k j y r;rw[List.map_cons]
  by_cases h:p.1=k
  ·rw[if_pos h]
   by_cases e:p.1=j
   ·rw[cQ (p:=(p.1,y)) e,cQ e,Option.map_some,if_pos (e.symm.trans h)]
   ·rw[cL (p:=(p.1,y)) e,cL e,ih]
  ·rw[if_neg h]
   by_cases e:p.1=j
   ·rw[cQ (p:=p) e,cQ e,Option.map_some,if_neg (λz=>h (e.trans z))]
   ·rw[cL (p:=p) e,cL e,ih]
¤mK(k j:κ)(y:V):∀kvs:List (κ×V),dR kvs k=none->dR (kvs++[(k,y)]) j=if j=k then some y else dR kvs j
 | [],_=>by
  by_cases e:k=j
  ·rw[if_pos e.symm];#cQ (p:=(k,y)) e
  ·rw[if_neg (λz=>e z.symm)];#cL (p:=(k,y)) e
 | p::r,hn=>by
  rw[List.cons_append];!hk:¬p.1=k:=λz=>by rw[cQ z]at hn;cases hn
  rw[cL hk]at hn;!ih:=mK k j y r hn
  by_cases e:p.1=j
  ·rw[cQ e,cQ e,if_neg (λz=>hk (e.trans z))]
  ·rw[cL e,cL e,ih]
¤ix(kvs:List (κ×V))(k j:κ)(y:V):dR (gh kvs k y) j=if j=k then some y else dR kvs j:=by
 unfold gh
 by_cases a:(kvs.any λkv=>decide (kv.1=k))=true
 ·rw[if_pos a,oO]
  rw[gj]at a
  by_cases e:j=k
  ·@x,hx:=Option.isSome_iff_exists.mp a
   rw[if_pos e,e,hx,Option.map_some,if_pos rfl]
  ·rw[if_neg e]
   cases dR kvs j with
   | none=>rfl
   | some x=>rw[Option.map_some,if_neg e]
 ·rw[if_neg a]
  refine mK k j y kvs ?_;rw[gj]at a;cases q:dR kvs k with
  | none=>rfl
  | some x=>rw[q]at a;#(a rfl).elim
¤jK(kvs:List (κ×V))(k:κ)(v:V):(gh kvs k v).length<=kvs.length+1:=by
 unfold gh
 split
 ·rw[List.length_map];~
 ·rw[List.length_append,List.length_cons,List.length_nil];~
¤iE{kvs:List (κ×V)}{k:κ}(v:V)(h:dR kvs k=none):gh kvs k v=kvs++[(k,v)]:=by
 unfold gh;rw[gj,h];#if_neg &
¤jE.isSome_eq{o:Option V}{u:Option Value}(r:jE o u):o.isSome=u.isSome:=by
 cases o with
 | none=>cases u with
  | none=>rfl
  | some _=>#(show False from r).elim
 | some _=>cases u with
  | none=>#(show False from r).elim
  | some _=>rfl
¤KV.val{kvs:List (κ×V)}{vs:List (κ×Value)}(r:KV kvs vs)(k:κ):jE (dR kvs k) (valueAt vs k):=by
 unfold KV at r
 induction r with
 | nil=>#True.intro
 | @cons p q ps qs h t ih =>
  @h1,h2:=h
  by_cases e:p.1=k
  ·!e':q.1=k:=h1.symm.trans e
   !b:valueAt (q::qs) k=some q.2:=by simp[valueAt,List.find?_cons,e']
   rw[cQ e,b];#h2
  ·!e':¬q.1=k:=λz=>e (h1.trans z)
   !b:valueAt (q::qs) k=valueAt qs k:=by simp[valueAt,List.find?_cons,e']
   rw[cL e,b];#ih
¤KV.any{kvs:List (κ×V)}{vs:List (κ×Value)}(r:KV kvs vs)(k:κ):(kvs.any λkv=>decide (kv.1=k))=vs.any λkv=>decide (kv.1=k):=by
 unfold KV at r
 induction r with
 | nil=>rfl
 | cons h t ih=>rw[List.any_cons,List.any_cons,ih,h.1]
¤KV.repl{kvs:List (κ×V)}{vs:List (κ×Value)}(r:KV kvs vs)(k:κ){y:V}{u:Value}(ry:bz y u) :
  KV (kvs.map λkv=>if kv.1=k then (kv.1,y) else kv) (vs.map λkv=>if kv.1=k then (kv.1,u) else kv):=by
 unfold KV at r ⊢
 induction r with
 | nil=>#.nil
 | @cons p q ps qs h t ih =>
  rw[List.map_cons,List.map_cons];refine .cons ?_ ih;@h1,h2:=h
  by_cases e:p.1=k
  ·rw[if_pos e,if_pos (h1.symm.trans e)];§h1,ry
  ·rw[if_neg e,if_neg (λz=>e (h1.trans z))];§h1,h2
¤KV.put{kvs:List (κ×V)}{vs:List (κ×Value)}(r:KV kvs vs)(k:κ){y:V}{u:Value}(ry:bz y u):KV (gh kvs k y) (stored vs k u):=by
 unfold gh stored;rw[r.any k]
 by_cases e:(vs.any λkv=>decide (kv.1=k))=true
 ·rw[if_pos e,if_pos e];#r.repl k ry
 ·rw[if_neg e,if_neg e];#Paired.snoc r ⟨rfl,ry⟩
¤KV.length{kvs:List (κ×V)}{vs:List (κ×Value)}(r:KV kvs vs):kvs.length=vs.length:=Paired.length r
end
¤pQ{P:Program}{w:World}{k:Key}{u:Value}(r:bz (kV k) u):(da P w).is k u=true:=by
 cases k with
 | inl i=>@t,e:=(show ∃t,u=Value.int i t from r);subst e;#pL P w i t
 | inr x=>@t,e:=(show ∃t,u=Value.str x t from r);subst e;#pJ P w x t
¤m6{P:Program}{w:World}:∀{ks:List Key} {us:List Value},aZ (ks.map kV) us->ItemsAre (da P w) ks us
 | [],_,r=>by rw[List.map_nil]at r;cases r;#.nil
 | k::ks,_,r=>by
  rw[List.map_cons]at r;cases r with
  | cons h t=>#.cons (pQ h) (m6 t)
noncomputable abbrev KT(H:Hp):List (List Key×V)->List (List Key×Addr×Value)->Prop:=Paired λp q=>p.1=q.1/\H q.2.1=some (.tup (p.1.map kV))/\bz p.2 q.2.2
¤KT.val{H:Hp}{kvs:List (List Key×V)}{xs:List (List Key×Addr×Value)}(r:KT H kvs xs)(k:List Key):jE (dR kvs k) ((atKey xs k).map (·.2)):=by
 induction r with
 | nil=>#True.intro
 | @cons p q ps qs h t ih =>
  @h1,_,h2:=h
  by_cases e:p.1=k
  ·!e':q.1=k:=h1.symm.trans e
   !b:atKey (q::qs) k=some q.2:=by simp[atKey,List.find?_cons,e']
   rw[cQ e,b];#h2
  ·!e':¬q.1=k:=λz=>e (h1.trans z)
   !b:atKey (q::qs) k=atKey qs k:=by simp[atKey,List.find?_cons,e']
   rw[cL e,b];#ih
¤KT.repl{H:Hp}{kvs:List (List Key×V)}{xs:List (List Key×Addr×Value)}(r:KT H kvs xs)(k:List Key){y:V}{u:Value}(ry:bz y u) :
  KT H (kvs.map λkv=>if kv.1=k then (kv.1,y) else kv) (xs.map (putAt k u)):=by
 induction r with
 | nil=>#.nil
 | @cons p q ps qs h t ih =>
  rw[List.map_cons,List.map_cons];refine .cons ?_ ih;@h1,h2,h3:=h;unfold putAt
  by_cases e:p.1=k
  ·rw[if_pos e,if_pos (h1.symm.trans e)];§h1,h2,ry
  ·rw[if_neg e,if_neg (λz=>e (h1.trans z))];§h1,h2,h3
¤KT.put{H:Hp}{kvs:List (List Key×V)}{xs:List (List Key×Addr×Value)}(r:KT H kvs xs)(k:List Key){b:Addr}{y:V}{u:Value}(hb:H b=some (.tup (k.map kV)))(ry:bz y u) :
  KT H (gh kvs k y) (storedH xs k b u):=by
 !e:(kvs.any λkv=>decide (kv.1=k))=(atKey xs k).isSome:=by
  rw[gj,(r.val k).isSome_eq,Option.isSome_map]
 unfold gh storedH;rw[e]
 by_cases q:(atKey xs k).isSome=true
 ·rw[if_pos q,if_pos q];#r.repl k ry
 ·rw[if_neg q,if_neg q];#Paired.snoc r ⟨rfl,hb,ry⟩
¤KT.keeps{H H':Hp}{kvs:List (List Key×V)}{xs:List (List Key×Addr×Value)}(r:KT H kvs xs)(ht:∀b ys,H b=some (.tup ys)->H' b=some (.tup ys)):KT H' kvs xs :=
 Paired.mapP r λ_ _ z=>⟨z.1,ht _ _ z.2.1,z.2.2⟩
section
variable {P:Program} {w:World} {H:Hp} {h:Heap} {a:Addr}
¤y9{u:HO}(ok:HOk P w H h)(e:Rd H a u):cf P w H h a u:=e.ok ok
¤qq{kvs:List (Key×V)}(ok:HOk P w H h)(e:Rd H a (.dK kvs)):kvs.length<=sizeLine/\(a == sysModules)=false/\∃vs,KV kvs vs/\h.DictOf (da P w) a vs :=
 show cf P w H h a (.dK kvs) from y9 ok e
¤Cq{kvs:List (Key×V)}(ok:HOk P w H h)(e:H a=some (.dK kvs)):kvs.length<=sizeLine/\(a == sysModules)=false/\∃vs,KV kvs vs/\h.DictOf (da P w) a vs:=qq ok (.inl e)
¤lA{ks:List Key}(ok:HOk P w H h)(e:H a=some (.tup (ks.map kV))):(tupleKind (da P w)).is h ks a:=by
 @_,its,r,o,h1,h2,n,h3:=(show cf P w H h a (.tup (ks.map kV)) from ok a _ e);§o,its.toArray,n,h1,h2,h3,(by simpa using m6 r)
¤qp{kvs:List (List Key×V)}(ok:HOk P w H h)(e:Rd H a (.dT kvs)):kvs.length<=sizeLine/\(a == sysModules)=false /\
  ∃xs,KT H kvs xs/\h.DictOfH (tupleKind (da P w)) a xs:=by
 @z,y,xs,r,o,es,ep,h1,h2,h3,h4,h5:=(show cf P w H h a (.dT kvs) from y9 ok e);¶z,y,xs,r,o,es,ep,h1,h2,h3,h4,λx hx=>?_,h5;!all:∀{l:List (List Key×V)} {m:List (List Key×Addr×Value)},KT H l m->∀x∈m,(tupleKind (da P w)).is h x.1 x.2.1:=by
  intro l m q
  induction q with
  | nil=>intro x hx;#nomatch hx
  | @cons p q ps qs hq t ih =>
   intro x hx;rcases List.mem_cons.mp hx with e|hx
   ·subst e
    #lA ok (by rw[<- hq.1];#hq.2.1)
   ·#ih x hx
 #all r x hx
¤Co{kvs:List (List Key×V)}(ok:HOk P w H h)(e:H a=some (.dT kvs)):kvs.length<=sizeLine/\(a == sysModules)=false /\
  ∃xs,KT H kvs xs/\h.DictOfH (tupleKind (da P w)) a xs:=qp ok (.inl e)
end
¦gN(H:Hp)(a:Addr)(y:V)(r:Option V):Prop :=
 (∃kvs k,Rd H a (.dK kvs)/\y=kV k/\r=dR kvs k)\/∃kvs k b,Rd H a (.dT kvs)/\y = .ref b/\H b=some (.tup (k.map kV))/\r=dR kvs k
¦lY(H:Hp)(a:Addr)(y v:V)(H':Hp):Prop :=
 (∃kvs k,H a=some (.dK kvs)/\y=kV k/\kvs.length<sizeLine/\H'=upd H a (.dK (gh kvs k v))) \/
 ∃kvs k b,H a=some (.dT kvs)/\y = .ref b/\H b=some (.tup (k.map kV))/\kvs.length<sizeLine/\H'=upd H a (.dT (gh kvs k v))
¤gN.t{H:Hp}{a b:Addr}{kvs:List (List Key×V)}{k:List Key}(e:H a=some (.dT kvs))(eb:H b=some (.tup (k.map kV))):gN H a (.ref b) (dR kvs k):=.inr ⟨kvs,k,b,.inl e,rfl,eb,rfl⟩
¤lY.t{H:Hp}{a b:Addr}{kvs:List (List Key×V)}{k:List Key}{v:V}(e:H a=some (.dT kvs))(eb:H b=some (.tup (k.map kV)))(hl:kvs.length<sizeLine) :
  lY H a (.ref b) v (upd H a (.dT (gh kvs k v))):=.inr ⟨kvs,k,b,e,rfl,eb,hl,rfl⟩
section
variable {X:Cx} {pins:List (Addr×Obj)} {σ:St} {H:Hp} {s:Shared} {a:Addr} {y v:V} {u r:Value} {o:Option V} {A:Around} {E:Value->Shared->Prop}
¤Dn.big(I:Dn X pins σ H s):sysModules<s.heap.objs.size:=by
 !h:mainGlobals<s.heap.objs.size:=(I.mod.glob.keeps I.bk).lt;#Nat.lt_trans & h
¤uK{Q:Value->Shared->Prop}(hu:A.units+1<cLine)(I:Dn X pins σ H s)(g:gN H a y (some v))(ry:bz y u)(h:∀w' s',Dn X pins σ H s'->bz v w'->Q w' s') :
  wpAny (model X.prog X.w) A (getItem (.ref a) u) Q E s:=by
 rcases g with⟨kvs,k,e,ey,l⟩|⟨kvs,k,b,e,ey,eb,l⟩
 ·subst ey
  @z,hd,vs,rel,dd:=qq I.hok e;@w',hw,rw':=jE.some_of (v:=v) (o:=valueAt vs k) (by rw[l];#rel.val k);#wpAny_getItem_of (pQ ry) dd.mapOf hw (h w' _ (I.tok _) rw')
 ·subst ey
  cases (show u=Value.ref b from ry);@z,hd,xs,rel,dd:=qp I.hok e;@w',hw,rw':=jE.some_of (v:=v) (o:=(atKey xs k).map (·.2)) (by rw[l];#rel.val k);@p,hp,hp2:=Option.map_eq_some_iff.mp hw;refine wpAny_getItem_heap (tupleKind_room_in1 hu) (lA I.hok eb) dd hp ?_;rw[hp2];#h w' _ (I.tok _) rw'
¤Dc{Q:Value->Shared->Prop}(hu:A.units+1<cLine)(I:Dn X pins σ H s)(g:gN H a y o)(ry:bz y u)(h:∀s',Dn X pins σ H s'->Q (.bool o.isSome) s') :
  wpAny (model X.prog X.w) A (compareOp .In u (.ref a)) Q E s:=by
 rcases g with⟨kvs,k,e,ey,l⟩|⟨kvs,k,b,e,ey,eb,l⟩
 ·subst ey
  @z,hd,vs,rel,dd:=qq I.hok e;refine wpAny_in_of (pQ ry) hd dd.mapOf ?_;rw[<- (rel.val k).isSome_eq,<- l];#h _ (I.tok _)
 ·subst ey
  cases (show u=Value.ref b from ry);@z,hd,xs,rel,dd:=qp I.hok e;refine wpAny_in_heap (tupleKind_room_in1 hu) (lA I.hok eb) hd dd ?_;!q:=(rel.val k).isSome_eq;rw[Option.isSome_map]at q;rw[<- q,<- l];#h _ (I.tok _)
¤yz{Q:Value->Shared->Prop}(hu:A.units+1<cLine)(I:Dn X pins σ H s)(g:gN H a y o)(ry:bz y u)(h:∀s',Dn X pins σ H s'->Q (.bool (!o.isSome)) s') :
  wpAny (model X.prog X.w) A (compareOp .NotIn u (.ref a)) Q E s:=by
 rcases g with⟨kvs,k,e,ey,l⟩|⟨kvs,k,b,e,ey,eb,l⟩
 ·subst ey
  @z,hd,vs,rel,dd:=qq I.hok e;refine wpAny_notIn_of (pQ ry) hd dd.mapOf ?_;rw[<- (rel.val k).isSome_eq,<- l];#h _ (I.tok _)
 ·subst ey
  cases (show u=Value.ref b from ry);@z,hd,xs,rel,dd:=qp I.hok e;refine wpAny_notIn_heap (tupleKind_room_in1 hu) (lA I.hok eb) hd dd ?_;!q:=(rel.val k).isSome_eq;rw[Option.isSome_map]at q;rw[<- q,<- l];#h _ (I.tok _)
¤tJ{h':Heap}{t':Nat}{ob:HO}(I:Dn X pins σ H s)(mu:Mut (H a))(hs:Heap.SameBut a s.heap h')(he:∃q,h'.get? a=some q)(new:cf X.prog X.w (upd H a ob) h' a ob) :
  Dn X pins σ (upd H a ob) { s with heap:=h',toks:=t' } :=
 I.write (x:=a) (e:=a) mu (.inl rfl) (λb q hb z=>(hs.2 b hb).trans z) he new
¤AT{P:Program}{w:World}{H':Hp}{h':Heap}{kvs:List (Key×V)}{vs:List (Key×Value)}(z:kvs.length<=sizeLine)(hd:(a == sysModules)=false)(rel:KV kvs vs)(dd:h'.DictOf (da P w) a vs) :
  cf P w H' h' a (.dK kvs):=⟨z,hd,vs,rel,dd⟩
¤uJ{H':Hp}{Q:Unit->Shared->Prop}(hu:A.units+1<cLine)(I:Dn X pins σ H s)(g:lY H a y v H')(ry:bz y u)(rv:bz v r)(h:∀s',Dn X pins σ H' s'->Q () s') :
  wpAny (model X.prog X.w) A (setItem (.ref a) u r) Q E s:=by
 rcases g with⟨kvs,k,e,ey,l,eH⟩|⟨kvs,k,b,e,ey,eb,l,eH⟩
 ·subst ey eH
  @z,hd,vs,rel,dd:=Cq I.hok e;!hz:vs.length<=sizeLine:=by rw[<- rel.length];#z
  !hl:(gh kvs k v).length<=sizeLine:=by !:=jK kvs k v;~
  refine wpAny_setItem_pairs (hsz:=hz) (pQ ry) dd λh' dd' hs=>h _ ?_;!he:∃q,h'.get? a=some q:=let ⟨q,_,_,hq,_⟩:=dd';⟨q,hq⟩;#tJ I (by rw[e];#True.intro) hs he (AT hl hd (rel.put k rv) dd')
 ·subst ey eH
  cases (show u=Value.ref b from ry);@z,hd,xs,rel,dd:=Co I.hok e;!hz:xs.length<=sizeLine:=by rw[<- Paired.length rel];#z
  !hl:(gh kvs k v).length<=sizeLine:=by !:=jK kvs k v;~
  refine wpAny_setItem_heap (hsz:=hz) (tupleKind_room_in1 hu) (lA I.hok eb) dd λh' dd' hs=>h _ ?_;@q,es,ep,hq,h2,h3,h4,_,h5:=dd';refine tJ I (by rw[e];#True.intro) hs ⟨q,hq⟩ ⟨hl,hd,_,(rel.put k eb rv).keeps λc ys ec=>?_,q,es,ep,hq,h2,h3,h4,h5⟩;rw[aR (vO ec e (λz=>nomatch z))]
  #ec
end
¦Cz(i:Expr):Prop:=∀ov iv,subscripted i false ov iv=operate [ov,iv] (getItem ov iv)
¤xv{prog:Program}{w:World}{A:Around}{E:Value->Shared->Prop}{s:Shared}{env:Env}{value slice:Expr}{pos:Pos}{T id:String}{Q:Value->Shared->Prop}
  (hl:typeLookup (.type T) "__getitem__" = pure (some (.builtin id))) (hs:Cz slice)
  (h:wpAny (model prog w) A (eval value env) (λo s1=>wpAny (model prog w) A (eval slice env) (λi s2=>s2.TypeIs o T/\wpAny (model prog w) A (getItem o i) Q E s2) E s1) E s) :
  wpAny (model prog w) A (eval (.Subscript value slice pos) env) Q E s:=by
 refine Subscript_ (wpAny_mono h (λo s1 h1=>wpAny_mono h1 (λi s2 h2=>?_) λ_ _ x=>x) λ_ _ x=>x);@hT,h2:=h2;unfold subscriptTail;refine wpAny_bind ?_;rw[getitemInPython_of_ne hT.not_modules];refine wpAny_bind (wpAny_specialOf hT hl ?_);!fin:wpAny (model prog w) A (subscripted slice false o i) (λr s3=>wpAny (model prog w) A (letTemporaryGo value o r >>= λ_=>pure r) Q E s3) E s2:=by
  rw[hs o i];#wpAny_operating (wpAny_mono h2 (λr s3 h3=>wpAny_bind (wpAny_letTemporaryGo (wpAny_pure h3))) λ_ _ x=>x)
 first
  | #wpAny_pure (wpAny_bind fin)
  | #wpAny_bind (wpAny_pure (wpAny_bind fin))
  | #wpAny_bind fin
¤qr{X:Cx}{pins:List (Addr×Obj)}{σ:St}{H:Hp}{s:Shared}{a:Addr}{y:V}{o:Option V}(I:Dn X pins σ H s)(g:gN H a y o):s.TypeIs (.ref a) "dict":=by
 rcases g with⟨kvs,k,e,_,_⟩|⟨kvs,k,b,e,_,_,_⟩
 ·@_,_,vs,_,dd:=qq I.hok e
  #dd.typeIs
 ·@_,_,xs,_,dd:=qp I.hok e
  #dd.typeIs
¦BD(td ty:TE):TE:=λσ H Q=>td σ H λx H1=>ty σ H1 λy H2=>∃a v,x = .ref a/\gN H2 a y (some v)/\Q v H2
¦CV(ty td:TE):TE:=λσ H Q=>ty σ H λy H1=>td σ H1 λx H2=>∃a o,x = .ref a/\gN H2 a y o/\Q (.bl o.isSome) H2
¦xr(ty td:TE):TE:=λσ H Q=>ty σ H λy H1=>td σ H1 λx H2=>∃a o,x = .ref a/\gN H2 a y o/\Q (.bl (!o.isSome)) H2
¦BL(td ty tv:TE):TS:=λD σ H=>tv σ H λv H1=>td σ H1 λx H2=>ty σ H2 λy H3=>∃a H4,x = .ref a/\lY H3 a y v H4/\D.nx σ H4
section
variable {X:Cx} {o i e value:Expr} {pos pos' tpos:Pos} {td ty tv:TE}
¤dL(hu:X.A.units+1<cLine)(ho:PE X o td)(hi:PE X i ty)(hs:Cz i):PE X (.Subscript o i pos) (BD td ty):=by
 intro pins s σ H Q I h;refine xv PySem.F.slot_dict_getitem.lookup hs (thn (ho pins s σ H _ I h) λu s1 ⟨x,H1,I1,rx,q1⟩=>thn (hi pins s1 σ H1 _ I1 q1) λiv s2 ⟨y,H2,I2,ry,a,v,ex,g,q2⟩=>?_);subst ex;obtain rfl:u=Value.ref a:=rx;§qr I2 g,uK hu I2 g ry λw' s3 I3 rw'=>⟨v,H2,I3,rw',q2⟩
¤nX(hu:X.A.units+1<cLine)(hi:PE X i ty)(ho:PE X o td):PC X .In i o (CV ty td):=by
 intro pins s σ H Q I h;refine thn (hi pins s σ H _ I h) λiv s1 ⟨y,H1,I1,ry,q1⟩=>thn (ho pins s1 σ H1 _ I1 q1) λu s2 ⟨x,H2,I2,rx,a,ov,ex,g,q2⟩=>?_;subst ex;obtain rfl:u=Value.ref a:=rx;#Dc hu I2 g ry λs3 I3=>⟨.bl ov.isSome,H2,I3,rfl,q2⟩
¤mT(hu:X.A.units+1<cLine)(hi:PE X i ty)(ho:PE X o td):PC X .NotIn i o (xr ty td):=by
 intro pins s σ H Q I h;refine thn (hi pins s σ H _ I h) λiv s1 ⟨y,H1,I1,ry,q1⟩=>thn (ho pins s1 σ H1 _ I1 q1) λu s2 ⟨x,H2,I2,rx,a,ov,ex,g,q2⟩=>?_;subst ex;obtain rfl:u=Value.ref a:=rx;#yz hu I2 g ry λs3 I3=>⟨.bl (!ov.isSome),H2,I3,rfl,q2⟩
¤eV(hu:X.A.units+1<cLine)(ho:PE X o td)(hi:PE X i ty)(hv:PE X value tv)(hs:swapsWith value (some (.Subscript o i pos')) pos.line X.env=pure false) :
  PS X (.Assign [.Subscript o i pos'] value pos) (BL td ty tv):=by
 intro pins s σ H D I h;refine wpAny_Assign_Subscript (thn (hv pins s σ H _ I h) λr s1 ⟨v,H1,I1,rv,q1⟩=>thn (ho pins s1 σ H1 _ I1 q1) λu s2 ⟨x,H2,I2,rx,q2⟩=>thn (hi pins s2 σ H2 _ I2 q2) λiv s3 ⟨y,H3,I3,ry,a,H4,ex,g,q3⟩=>?_) hs;subst ex;obtain rfl:u=Value.ref a:=rx;#uJ hu I3 g ry rv λs4 I4=>⟨σ,H4,I4,q3⟩
end
¤wN{P:Program}{w:World}{H:Hp}(h:Heap)(hb:sysModules<h.objs.size):cf P w H (h.push { cls:=.type "dict",data:=.dict #[] }) h.objs.size (.dT []) :=
 ⟨Nat.zero_le _,beq_eq_false_iff_ne.mpr (Ne.symm (Nat.ne_of_lt hb)),[],.nil,_,#[],0,Heap.get?_push_size _ rfl,⟨rfl,rfl,rfl⟩,rfl,rfl,List.nodup_nil⟩
¦zM:TE:=λ_ H Q=>∀p,H p=none->Q (.ref p) (upd H p (.dT []))
section
variable {X:Cx} {pos:Pos}
¤iH:PE X (.Dict [] [] pos) zM:=λpins s σ H Q I h =>
 wpAny_Dict_empty ⟨.ref s.heap.objs.size,_,I.laid (a:=s.heap.objs.size) (o:=.dT []) (t':=s.toks) (λ_ _ q=>Heap.get?_push_of_some _ q) (Nat.le_refl _) (wN s.heap I.big),rfl,h _ (I.hok.fresh (Nat.le_refl _))⟩
end
section
variable {prog:Program} {w:World} {A:Around} {E:Value->Shared->Prop} {s:Shared} {it d:Addr} {i ep:Nat} {es:Array DictEntry} {od:Obj}
¤vw{Q:Value->Shared->Prop}(hd:(d == sysModules)=false)(ho:s.heap.get? d=some od)(hc:od.cls = .type "dict")(hdat:od.data = .dict es ep)
  (hQ:Q (.ref s.heap.objs.size) { s with heap:=s.heap.push { cls:=.type "dict_keyiterator",data:=.fields #[.ref d,.int 0 0,.int es.size 0,.int ep 0] } }):wpAny (model prog w) A (pyIter (.ref d)) Q E s:=by
 !hT:s.TypeIs (.ref d) "dict":=⟨od,ho,hc⟩;refine wpAny_pyIter_slot hT F.slot_dict_iter (wpAny_call_entry F.slot_dict_iter hT F.entry_dict_iter ?_ (F.args_dict_iter_1 _));unfold Builtin.«dict.__iter__»;refine wpAny_bind ?_;unfold Builtin.Dict.dictSlotNone;refine wpAny_bind (wpAny_notOrdered_dict hT ?_);show wpAny _ _ (pure (Value.ref d)) _ _ s;refine wpAny_pure ?_;show wpAny _ _ (Builtin.Dict.showsAll d >>= _) _ _ s;unfold Builtin.Dict.showsAll;rw[if_neg (by rw[hd];#Bool.false_ne_true)];refine wpAny_bind (wpAny_pure (wpAny_bind (wpAny_dictEntries ho hdat (wpAny_bind (wpAny_dictEpoch ho hdat ?_)))));#wpAny_bind (wpAny_newObj_type (wpAny_pure ⟨_,rfl,"dict_keyiterator",_,⟨_,Heap.get?_push_size _ rfl,rfl⟩,F.slot_dict_keyiterator_next.lookup,hQ⟩))
¤vx{Q:Option Value->Shared->Prop}(hit:s.heap.IsKeyIter it d i es.size ep)(hod:s.heap.get? d=some od)(hdd:od.data = .dict es ep)(hi:i<es.size)
  (hQ:∀h',h'.IsKeyIter it d (i+1) es.size ep->Heap.SameBut it s.heap h'->Q (some es[i].key) { s with heap:=h' }):wpAny (model prog w) A (pyNext (.ref it)) Q E s:=by
 @o,ho,hc,hd:=id hit;unfold pyNext;refine wpAny_bind (wpAny_attempt (wpAny_callSpecial?_slot (name:=Str.ofString "__next__") hit.typeIs F.slot_dict_keyiterator_next (wpAny_call_entry F.slot_dict_keyiterator_next hit.typeIs F.entry_dict_keyiterator_next ?_ (F.args_dict_keyiterator_next_1 _))));refine wpAny_bind (wpAny_pure (wpAny_bind (wpAny_bind ?_)))
 first|refine wpAny_bind (wpAny_typeNameOfWhole_keyiter hit.typeIs (wpAny_pure (wpAny_bind (wpAny_fieldsOf ho hd ?_))))|refine wpAny_bind (wpAny_typeNameOf_keyiter hit.typeIs (wpAny_pure (wpAny_bind (wpAny_fieldsOf ho hd ?_))))
 simp only[show Builtin.Dict_items.ownsTuple "dict_keyiterator" = false by decide,Bool.false_eq_true,if_false];show wpAny _ _ (if (Value.ref d == Value.none)=true then _ else _) _ _ s
 rw[if_neg (show ¬((Value.ref d == Value.none)=true) from Bool.false_ne_true)];refine wpAny_bind (wpAny_pure (wpAny_bind (wpAny_dictEntries hod hdd ?_)));rw[if_neg (by simp)];refine wpAny_bind (wpAny_pure (wpAny_bind (wpAny_dictEpoch hod hdd ?_)));rw[if_neg (by simp)];refine wpAny_pure ?_;simp only[show ¬((i:Int)<0) from ~,if_false,Int.toNat_natCast,Array.getElem?_eq_getElem hi];refine wpAny_bind ?_
 first|refine wpAny_bind (wpAny_typeNameOfWhole_keyiter hit.typeIs (wpAny_pure (wpAny_bind (wpAny_isOneOf_keyiter hit.typeIs ?_))))|refine wpAny_bind (wpAny_typeNameOf_keyiter hit.typeIs (wpAny_pure (wpAny_bind (wpAny_isOneOf_keyiter hit.typeIs ?_))))
 show wpAny _ _ (setField (.ref it) 1 (rawInt ((i:Int)+1)) >>= _) _ _ s;refine wpAny_bind (wpAny_setField ho hd (by simp) ?_);!hit':(s.heap.update it (Obj.mapFields (·.setIfInBounds 1 (rawInt ((i:Int)+1))))).IsKeyIter it d (i+1) es.size ep:=⟨_,Heap.get?_update_self _ ho (Obj.isFreed_of_fields (Obj.data_mapFields hd _)),(Obj.cls_mapFields ..).trans hc,by rw[Obj.data_mapFields hd];simp[rawInt]⟩;refine wpAny_bind (wpAny_holding (wpAny_bind (wpAny_isOneOf_keyiter (s:={ s with heap:=s.heap.update it (Obj.mapFields (·.setIfInBounds 1 (rawInt ((i:Int)+1)))) }) hit'.typeIs ?_)));show wpAny _ _ (pure es[i].key) _ _ _;#wpAny_pure (wpAny_pure ⟨_,rfl,wpAny_pure (hQ _ hit' (Heap.SameBut.update ..))⟩)
¤xP{Q:Option Value->Shared->Prop}(hh:A.handled=none)(hit:s.heap.IsKeyIter it d i es.size ep)(hod:s.heap.get? d=some od)(hdd:od.data = .dict es ep)(hge:es.size<=i)
  (hQ:∀h',Heap.ExtBut it s.heap h'->Q none { s with heap:=h' }):wpAny (model prog w) A (pyNext (.ref it)) Q E s:=by
 @o,ho,hc,hd:=id hit;unfold pyNext;refine wpAny_bind (wpAny_attempt (wpAny_callSpecial?_slot (name:=Str.ofString "__next__") hit.typeIs F.slot_dict_keyiterator_next (wpAny_call_entry F.slot_dict_keyiterator_next hit.typeIs F.entry_dict_keyiterator_next ?_ (F.args_dict_keyiterator_next_1 _))));refine wpAny_bind (wpAny_pure (wpAny_bind (wpAny_bind ?_)))
 first|refine wpAny_bind (wpAny_typeNameOfWhole_keyiter hit.typeIs (wpAny_pure (wpAny_bind (wpAny_fieldsOf ho hd ?_))))|refine wpAny_bind (wpAny_typeNameOf_keyiter hit.typeIs (wpAny_pure (wpAny_bind (wpAny_fieldsOf ho hd ?_))))
 simp only[show Builtin.Dict_items.ownsTuple "dict_keyiterator" = false by decide,Bool.false_eq_true,if_false];show wpAny _ _ (if (Value.ref d == Value.none)=true then _ else _) _ _ s
 rw[if_neg (show ¬((Value.ref d == Value.none)=true) from Bool.false_ne_true)];refine wpAny_bind (wpAny_pure (wpAny_bind (wpAny_dictEntries hod hdd ?_)));rw[if_neg (by simp)];refine wpAny_bind (wpAny_pure (wpAny_bind (wpAny_dictEpoch hod hdd ?_)));rw[if_neg (by simp)];refine wpAny_pure ?_;simp only[show ¬((i:Int)<0) from ~,if_false,Int.toNat_natCast,Array.getElem?_eq_none hge];refine wpAny_bind ?_
 first|refine wpAny_bind (wpAny_typeNameOfWhole_keyiter hit.typeIs (wpAny_pure ?_));show wpAny _ _ (setField (.ref it) 0 .none >>= _) _ _ s|refine wpAny_bind (wpAny_typeNameOf_keyiter hit.typeIs (wpAny_pure ?_));show wpAny _ _ (setField (.ref it) 0 .none >>= _) _ _ s
 refine wpAny_bind (wpAny_setField ho hd (by simp) ?_);show wpAny _ _ (newExc (.type "StopIteration") [] >>= _) _ _ _;refine wpAny_bind ?_;simp only[newExc,newTuple];refine wpAny_bind (wpAny_newObj_type ?_ (by size_fits));refine wpAny_bind (m:=firstArgMember _ _) (wpAny_of_eq (a:=Value.none) (by first|rfl|(simp only[firstArgMember];rfl)) ?_)
 refine wpAny_newObj_type ?_ (by size_fits);simp only[raiseNew];refine wpAny_bind (wpAny_handled ?_);rw[show A.in1.handled=none from hh];refine wpAny_bind (wpAny_pure (wpAny_throw ?_));#wpAny_bind (wpAny_isInstance (T:="StopIteration") (b:=true) ⟨_,Heap.get?_push_size _ rfl,rfl⟩ isSubtype_stop (wpAny_pure (hQ _ (((Heap.SameBut.update ..).extBut.push _).push _))))
end
¦Itd(a:Addr)(o:Obj)(kvs:List (List Key×V)):It :=
 ⟨λi H=>H a=some (.frz o (.dT kvs))/\i<kvs.length,λi H x H'=>H'=H/\∃k v b,kvs[i]? = some (k,v)/\x = .ref b/\H b=some (.tup (k.map kV)),λi H=>H a=some (.frz o (.dT kvs))/\kvs.length<=i⟩
¤lG{P:Program}{w:World}{H:Hp}{h:Heap}{a:Addr}{o:Obj}{kvs:List (List Key×V)}{es:Array DictEntry}{ep:Nat}(k:HOk P w H h)(e:H a=some (.frz o (.dT kvs)))(d:o.data = .dict es ep) :
  h.get? a=some o/\o.cls = .type "dict"/\(a == sysModules)=false/\es.size=kvs.length/\∀(i:Nat) (hi:i<es.size),∃q v b,kvs[i]? = some (q,v)/\es[i].key = .ref b/\H b=some (.tup (q.map kV)):=by
 @g,_,sm,xs,pr,o',es',ep',g',ex,d',el,_:=(show h.get? a=some o/\cf P w H h a (.dT kvs) from k a _ e);rw[g]at g';cases g';rw[d]at d';cases d';!len:es.size=kvs.length:=by
  !:=congrArg List.length el;rw[List.length_map]at this;rw[<- Array.length_toList,this];#(Paired.length pr).symm
 ¶g,ex.1,sm,len,λi hi=>?_;!hx:i<xs.length:=by rw[<- Paired.length pr,<- len];#hi
 !get:∀{kvs:List (List Key×V)} {xs:List (List Key×Addr×Value)},Paired (λ(p:List Key×V) (q:List Key×Addr×Value)=>p.1=q.1/\H q.2.1=some (.tup (p.1.map kV))/\bz p.2 q.2.2) kvs xs->∀(i:Nat) (q:List Key×Addr×Value),xs[i]? = some q->∃v,kvs[i]? = some (q.1,v)/\H q.2.1=some (.tup (q.1.map kV)):=by
  intro kvs xs pr
  induction pr with
  | nil=>intro i q e;simp at e
  | cons a r ih =>
   intro i q e;cases i with
   | zero =>
    simp at e;subst e;§_,by rw[<- a.1];rfl,(by rw[<- a.1];#a.2.1)
   | succ j=>#ih j q (by simpa using e)
 obtain⟨q,hq⟩:∃q,xs[i]? = some q:=⟨xs[i],by simp[hx]⟩;@v,e1,e2:=get pr i q hq;!e3:es.toList[i]? = some (entryOfKey (tupleKind (da P w)) q):=by rw[el,List.getElem?_map,hq];rfl
 !e4:es[i]=entryOfKey (tupleKind (da P w)) q:=by
  !:es.toList[i]? = some es[i]:=by simp[hi]
  rw[this]at e3;#Option.some.inj e3
 §q.1,v,q.2.1,e1,by rw[e4];rfl,e2
¤tY{P:Program}{w:World}{K:W.Frag}{tg:Expr}{kvs:List (List Key×V)}{es:Array DictEntry}{ep:Nat}{o:Obj}(a it:Addr)(hd:o.data = .dict es ep):GM P w K tg (Itd a o kvs) [it] it (λi h=>h.IsKeyIter it a i es.size ep) where
 mem:=by simp
 obj:=λi h st b hb=>by
  !e:b=it:=by simpa using hb
  subst e;@o,e,c,d:=st;§o,e,(λv z=>by rw[d]at z;cases z)
 keep:=λi h h' st k=>st.at λo e=>k it (by simp) o e
 item:=by
  intro X hP hw hK hc i pins s σ H E I hf st hg;subst hP hw hK;@e,hi:=hg;@g,gc,_,len,at':=lG I.hok e hd;@q,v,b,e1,e2,e3:=at' i ~;@f0,f1,f2,f3,f4,f5:=hf it (by simp);refine vx st g hd ~ λh' st' sb=>?_;!I1:Dn X pins σ H { s with heap:=h' }:=I.turned (t':=s.toks) (λb o hb e=>(sb.2 b hb).trans e) f0 f1 f3 f4 f5;@oi,ei,ci,di:=id st';§^,m7 (s:={ s with heap:=h' }) ei ci di & ⟨.ref b,H,I1,e2,⟨rfl,q,v,b,e1,rfl,e3⟩,st',λb hb=>(hf b hb).1⟩
 done:=by
  intro X hP hw hK hc i pins s σ H E I hf st hg;subst hP hw hK;@e,hi:=hg;@g,gc,_,len,_:=lG I.hok e hd;@f0,f1,f2,f3,f4,f5:=hf it (by simp);#xP (I.ok.hd hc) st g hd ~ λh' eb=>⟨rfl,I.turned (t':=s.toks) (λb o hb e=>eb b o hb e) f0 f1 f3 f4 f5⟩
 self:=λ_ _ _ _ _ st h=>wpAny_pyIter_keyiter st h
section
variable {X:Cx} {tg:Expr}
¦Cc(tl:TE):TI:=λσ H R=>tl σ H λx H1=>∃a o kvs,x = .ref a/\H1 a=some (.frz o (.dT kvs))/\R (Itd a o kvs) H1
¤sj{l:Expr}{tl:TE}(hl:PE X l tl):PI X tg l (Cc tl):=by
 intro pins s σ H R I h;refine thn (hl pins s σ H _ I h) λv s1 ⟨x,H1,I1,r1,q1⟩=>?_;@a,o,kvs,rfl,e,q:=q1;obtain rfl:v=Value.ref a:=r1;obtain⟨es,ep,d⟩:∃es ep,o.data = .dict es ep:=by
  @g,_,_,xs,pr,o',es',ep',g',ex,d',_:=(show s1.heap.get? a=some o/\cf X.prog X.w H1 s1.heap a (.dT kvs) from I1.hok a _ e);rw[g]at g';cases g';§_,_,d'
 @g,gc,sm,len,_:=lG I1.hok e d;refine vw sm g gc d ?_;¶s1.heap.objs.size,[s1.heap.objs.size],_,_,H1,rfl,I1.kept (t':=s1.toks) λb o e=>Heap.get?_push_of_some _ e,tY a _ d,⟨_,Heap.get?_push_size _ rfl,rfl,rfl⟩,λb hb=>?_,q;!e:b=s1.heap.objs.size:=by simpa using hb
 subst e;#I1.fpOk (Nat.le_refl _) (I1.hok.fresh (Nat.le_refl _))
¦CT(te:TE):TE:=λσ H Q=>te σ H λx H1=>∃a kvs,x = .ref a/\H1 a=some (.dT kvs)/\∀o,Q (.ref a) (upd H1 a (.frz o (.dT kvs)))
¤Ah{e:Expr}{te:TE}(h:PE X e te):PE X e (CT te):=by
 intro pins s σ H Q I hq;refine thn (h pins s σ H _ I hq) λv s1 ⟨x,H1,I1,r1,a,kvs,ex,ea,k⟩=>?_;subst ex;!ok:=I1.hok a _ ea;@_,_,_,_,o,_,_,g,_:=(show cf X.prog X.w H1 s1.heap a (.dT kvs) from ok);!tup:∀b xs,H1 b=some (.tup xs)->upd H1 a (.frz o (.dT kvs)) b=some (.tup xs):=λb xs q=>by
  rw[aR (λz=>by rw[z,ea]at q;cases q)];#q
 !J:Dn X pins σ (upd H1 a (.frz o (.dT kvs))) { s1 with heap:=s1.heap,toks:=s1.toks }:=I1.write (x:=a) (e:=a) (by rw[ea];trivial) (.inl rfl) (λ_ _ _ q=>q) ⟨o,g⟩
  ⟨g,ok.stay (λ_ _ _ q=>q) (λb q=>by rw[aR (λz=>by rw[z,ea]at q;cases q)];#q) tup⟩
 §.ref a,_,J,r1,k o
end
end L2
namespace L2
open PySem PySem.Spec PyProof.Rows PySem.W
noncomputable abbrev KnO(o:Obj):HO:=.frz o (.ext λ_=>True)
¤pP{P:Program}{w:World}{H:Hp}{h:Heap}{a:Addr}{o:Obj}(e:h.get? a=some o):cf P w H h a (KnO o):=⟨e,trivial,⟨o,e⟩,λ_ _ _ _=>trivial⟩
¤ig{P:Program}{w:World}{H:Hp}{h:Heap}{a:Addr}{o:Obj}(k:HOk P w H h)(e:H a=some (KnO o)):h.get? a=some o:=(show h.get? a=some o/\_ from k a _ e).1
¦d5(H:Hp)(c:Addr)(v:V):Prop:=∃o u,H c=some (KnO o)/\o.data = .cell (some u)/\bz v u
¦jO(H:Hp)(c:Addr)(q:Str):Prop:=∃o vs t,H c=some (KnO o)/\o.data = .fields vs/\vs[1]? = some (.str q t)
¤jO.rec_{P:Program}{w:World}{H:Hp}{h:Heap}{c:Addr}{q:Str}(x:jO H c q)(k:HOk P w H h):h.CodeRec (.ref c) q:=by
 @o,vs,t,e,d,g:=x;§c,o,vs,t,rfl,ig k e,d,g
¦fm(p:Addr)(H H':Hp):Prop:=∀b o,b≠p->H b=some o->H' b=some o
¦lZ(K:Frag)(c p:Addr):Prop :=
 ∃o vs file tf flags tg inF text tt,K.lookup c=some o/\o.cls = .type "code"/\o.data = .fields vs/\vs[11]? = some (.ref p)/\vs.getD 11 .none = .ref p/\vs.getD 18 .none = .str file tf /\
  vs.getD 7 .none = .int flags tg/\vs.getD 9 .none = .bool inF/\vs.getD 10 .none = .int text tt/\c≠p
¤lZ.hd{K:Frag}{c p:Addr}{h:Heap}(x:lZ K c p)(X:K.In h):CodeHd h c p:=by
 @o,vs,file,tf,flags,tg,inF,text,tt,e,r:=x;§o,vs,file,tf,flags,tg,inF,text,tt,X _ _ e,r
¦yS(K:Frag)(mg:Str->Option Value):Prop :=
 ∃bm o,mg "__builtins__" = some (.ref bm)/\bm≠builtinsNs/\bm≠mainGlobals/\K.lookup bm=some o/\o.cls = .type "module"/\o.dict=some builtinsNs/\o.data = .plain
¦Tab(H:Hp)(p:Addr)(ls:List (Pos×Str)):Prop :=
 ∃ps,H p=some (.tbl ps)/\TriplesOk ps.toList/\∀l∈ls,codeAmong l.1 ps.toList=none\/∃c,codeAmong l.1 ps.toList=some (.ref c)/\jO H c l.2
¤Tab.same{H H':Hp}{p:Addr}{ls:List (Pos×Str)}(t:Tab H p ls)(s:Same H H'):Tab H' p ls:=by
 @ps,e,k,a:=t;¶ps,s _ _ e,k,λl hl=>(a l hl).imp_right ?_;rintro⟨c,e2,o,vs,t,e3,r⟩;§c,e2,o,vs,t,s _ _ e3,r
¦nJ(H:Hp)(f:Addr)(q:Str)(params:Arguments)(body:Expr)(scope:Scope)(clos:List (Str×Addr)):Prop :=
 ∃pm c ctv,H f=some (KnO (kla_obj "<lambda>" q params body scope clos pm c ctv))/\jO H c q
¤nJ.same{H H':Hp}{f:Addr}{q:Str}{params:Arguments}{body:Expr}{scope:Scope}{clos:List (Str×Addr)}(t:nJ H f q params body scope clos)(s:∀b o,H b=some (KnO o)->H' b=some (KnO o)):nJ H' f q params body scope clos:=by
 @pm,c,ctv,e,o,vs,t,e3,r:=t;§pm,c,ctv,s _ _ e,o,vs,t,s _ _ e3,r
¤mH{pos pos':Pos}{c:Value}(l:List Value)(h:TriplesOk l)(ne:¬(pos'.line=pos.line/\pos'.col=pos.col)):codeAmong pos' (l++[rawInt pos.line,rawInt pos.col,c])=codeAmong pos' l:=by
 fun_induction TriplesOk l with
 | case1 =>
  show codeAmong pos' [rawInt pos.line,rawInt pos.col,c]=codeAmong pos' [];simp only[rawInt,codeAmong];rw[if_neg];intro z;rw[Bool.and_eq_true]at z;!z1:=eq_of_beq z.1;!z2:=eq_of_beq z.2;#ne ⟨~,~⟩
 | case2 a ta b tb c' rest ih =>
  show codeAmong pos' (.int a ta::.int b tb::c'::(rest++[rawInt pos.line,rawInt pos.col,c]))=codeAmong pos' (.int a ta::.int b tb::c'::rest);unfold codeAmong;rw[ih h]
 | case3 l h1 h2=>#h.elim
¦CO(p:Addr)(ls:List (Pos×Str))(q:Str)(params:Arguments)(body:Expr)(scope:Scope)(clos:List (Str×Addr)):TE:=λ_ H Q =>
 Tab H p ls/\∀f H',fm p H H'->Tab H' p ls->nJ H' f q params body scope clos->H f=none->Q (.ref f) H'
section
variable {X:Cx} {params:Arguments} {body:Expr} {scope:Scope} {pos:Pos} {clos:List (Str×Addr)} {c p:Addr} {ls:List (Pos×Str)} {q:Str}
¤vE(hcl:closureFor scope X.env=pure clos)(hcode:X.env.code = .ref c)(C:lZ X.K c p)(B:yS X.K X.mg)(hdef:defaultsOf params X.env=([],[]))(hq:q=X.env.qual++"<lambda>")(hm:(pos,q)∈ls)
  (hd:∀l∈ls,l≠(pos,q)->¬(l.1.line=pos.line/\l.1.col=pos.col)):PE X (.Lambda params body scope pos) (CO p ls q params body scope clos):=by
 intro pins s σ H Q I h;@⟨ps,hp,tk,ok⟩,k:=h;subst hq;!hP:s.heap.get? p=some (tabObj ps):=I.hok p _ hp;!hg:s.heap.Ns mainGlobals X.mg:=I.mod.glob.keeps I.bk;!hgP:mainGlobals≠p:=λz=>by
  @o,es,ep,e,d,_:=hg;rw[z,hP]at e;cases e;cases d
 @bm,ob,b1,b2,b3,b4,b5,b6,b7:=B;!hbm:=I.kIn _ _ b4;!hbP:bm≠p:=λz=>by
  rw[z,hP]at hbm;cases hbm;cases b7
 !BA:s.heap.BuiltinsAt X.mg p:=⟨bm,ob,b1,b2,b3,hbP,hbm,b5,b6,b7⟩;!CH:=C.hd I.kIn;refine kla_eval hdef ?_;rcases ok _ hm with hn|⟨c',hc',ck⟩
 ·refine kla_makeFunction (mg:=X.mg) hcl I.ok.glob hg hcode CH hP tk hn hgP BA λc' ctv h' t' hx hge hlt hrec htb=>?_
  @c2,oc,vs,t,e2,hoc,hd2,hv:=hrec;cases e2;!hfo:h'.objs.size≠c':=Nat.ne_of_gt hlt;!hpo:p<s.heap.objs.size:=Heap.lt_size hP;!pc:p≠c':=Nat.ne_of_lt (Nat.lt_of_lt_of_le hpo hge);!pf:p≠h'.objs.size:=Nat.ne_of_lt (Nat.lt_trans (Nat.lt_of_lt_of_le hpo hge) hlt);!nc:H c'=none:=I.hok.fresh hge;!nf:H h'.objs.size=none:=I.hok.fresh (Nat.le_of_lt (Nat.lt_of_le_of_lt hge hlt));generalize hps:ps++#[rawInt pos.line,rawInt pos.col,.ref c']=ps' at htb;generalize hfob:kla_obj "<lambda>" (X.env.qual++"<lambda>") params body scope clos ((X.mg "__name__").getD .none) c' ctv=fo at *;!nfr:fo.isFreed=false:=by rw[<- hfob];rfl
  !ext:∀b o,b≠p->s.heap.get? b=some o->(h'.push fo).get? b=some o:=λb o ne e=>Heap.get?_push_of_some _ (hx b o ne e)
  let H':Hp:=upd (upd (upd H p (.tbl ps')) c' (KnO oc)) h'.objs.size (KnO fo)
  !Hf:H' h'.objs.size=some (KnO fo):=upd_same;!Hc:H' c'=some (KnO oc):=(aR hfo.symm).trans upd_same;!Hp':H' p=some (.tbl ps'):=(aR pf).trans ((aR pc).trans upd_same);!Hb:∀b,b≠p->b≠c'->b≠h'.objs.size->H' b=H b:=λb z1 z2 z3=>(aR z3).trans ((aR z2).trans (aR z1));!Hs:fm p H H':=λb o ne e=>by
   rw[Hb b ne (λz=>by rw[z,nc]at e;cases e) (λz=>by rw[z,nf]at e;cases e)];#e
  !old:∀b o,s.heap.get? b=some o->b≠c'/\b≠h'.objs.size:=λb o e=>⟨Nat.ne_of_lt (Nat.lt_of_lt_of_le (Heap.lt_size e) hge),Nat.ne_of_lt (Nat.lt_trans (Nat.lt_of_lt_of_le (Heap.lt_size e) hge) hlt)⟩;!npn:∀b,H b=none->b≠p:=λb n z=>by rw[z,hp]at n;cases n
  !un:Un X.fs [] H H' s.heap (h'.push fo):=by
   ¶λb o e n _ _=>ext b o (npn b n) e,λb o e n _ _=>⟨o.slots,ext b o (npn b n) e⟩,λb o e n _=>?_,λb o e _=>?_,λb xs e=>Hs b _ (λz=>by rw[z,hp]at e;cases e) e,λb o u e=>Hs b _ (λz=>by rw[z,hp]at e;cases e) e,λb ps2 e=>?_
   ·rw[Hb b (npn b n) (old b o e).1 (old b o e).2];#n
   ·by_cases z:b=p
    ·subst z;§_,Heap.get?_push_of_some _ htb
    ·§o,ext b o z e
   ·by_cases z:b=p
    ·subst z
     rw[hp]at e;cases e;§_,(by rw[Hp',<- hps])
    ·§#[],(by rw[Hs b _ z e];simp)
  !hok:HOk X.prog X.w H' (h'.push fo):=λb u e=>by
   by_cases z3:b=h'.objs.size
   ·subst z3
    rw[Hf]at e;cases e;#pP (Heap.get?_push_size _ nfr)
   ·by_cases z2:b=c'
    ·subst z2
     rw[Hc]at e;cases e;#pP (Heap.get?_push_of_some _ hoc)
    ·by_cases z1:b=p
     ·subst z1
      rw[Hp']at e;cases e;#Heap.get?_push_of_some _ htb
     ·rw[Hb b z1 z2 z3]at e
      refine(I.hok b u e).stay (λd v hd' q=>ext d v ?_ q) (λd q=>Hs d _ (λz=>by rw[z,hp]at q;cases q) q) λd xs q=>Hs d _ (λz=>by rw[z,hp]at q;cases q) q;rcases hd' with rfl|hd'
      ·#z1
      ·intro z
       rw[z,hp]at hd';cases hd'
  !CK:jO H' c' (X.env.qual++"<lambda>"):=⟨oc,vs,t,Hc,hd2,hv⟩;!e0:ps'.toList=ps.toList++[rawInt pos.line,rawInt pos.col,.ref c']:=by rw[<- hps];simp
  ¶.ref h'.objs.size,H',I.un (t':=t') un hok,rfl,k _ H' Hs ⟨ps',Hp',?_,λl hl=>?_⟩ ⟨_,c',ctv,by rw[Hf,<- hfob],CK⟩ nf
  ·rw[e0]
   #TriplesOk_snoc _ _ _ _ tk
  ·by_cases z:l=(pos,X.env.qual++"<lambda>")
   ·subst z
    refine .inr ⟨c',?_,CK⟩;rw[e0];#codeAmong_snoc _ tk hn
   ·rw[e0,mH _ tk (hd l hl z)]
    refine(ok l hl).imp_right ?_;rintro⟨c3,e3,o3,vs3,t3,e4,r4⟩;§c3,e3,o3,vs3,t3,Hs _ _ (λz=>by rw[z,hp]at e4;cases e4) e4,r4
 ·refine kla_makeFunctionHit (mg:=X.mg) hcl I.ok.glob hg hcode CH hP tk hc' BA λctv h' t' hx hsz=>?_
  !nf:H h'.objs.size=none:=I.hok.fresh hsz;!J:=I.laid (a:=h'.objs.size) (o:=KnO (kla_obj "<lambda>" (X.env.qual++"<lambda>") params body scope clos ((X.mg "__name__").getD .none) c' ctv)) (t':=t') (h':=h'.push (kla_obj "<lambda>" (X.env.qual++"<lambda>") params body scope clos ((X.mg "__name__").getD .none) c' ctv))
   (λb o e=>Heap.get?_push_of_some _ (hx b o e)) hsz (pP (Heap.get?_push_size _ rfl))
  !S:Same H (upd H h'.objs.size (KnO (kla_obj "<lambda>" (X.env.qual++"<lambda>") params body scope clos ((X.mg "__name__").getD .none) c' ctv))):=λb o e=>by
   rw[aR (λz=>by rw[z,nf]at e;cases e)];#e
  @o,vs,t,e3,r:=ck;§.ref h'.objs.size,_,J,rfl,k _ _ (λb o _ e=>S b o e) (Tab.same ⟨ps,hp,tk,ok⟩ S) ⟨_,c',ctv,upd_same,o,vs,t,S _ _ e3,r⟩ nf
end
noncomputable abbrev cut(C:List Addr)(H:Hp):Hp:=λb=>if b∈C then none else H b
noncomputable abbrev o0(C:List Addr)(H H1:Hp):Hp:=λb=>if b∈C then H b else H1 b
¤lS{C:List Addr}{H:Hp}{b:Addr}(h:b∈C):cut C H b=none:=if_pos h
¤dC{C:List Addr}{H:Hp}{b:Addr}(h:b∉C):cut C H b=H b:=if_neg h
¤nO{C:List Addr}{H H1:Hp}{b:Addr}(h:b∈C):o0 C H H1 b=H b:=if_pos h
¤dS{C:List Addr}{H H1:Hp}{b:Addr}(h:b∉C):o0 C H H1 b=H1 b:=if_neg h
¤mR{C:List Addr}{H H1:Hp}(s:Same (cut C H) H1):Same H (o0 C H H1):=λb o e=>by
 by_cases h:b∈C
 ·rw[nO h];#e
 ·rw[dS h];#s b o ((dC h).trans e)
¤AY{P:Program}{w:World}{H:Hp}{h:Heap}{C:List Addr}(hok:HOk P w H h)(hC:∀c∈C,∃o,H c=some (KnO o)):HOk P w (cut C H) h:=λb u e=>by
 !hb:b∉C:=λz=>by rw[lS z]at e;cases e
 rw[dC hb]at e;!ne:∀d o,H d=some o->(∀z,o≠KnO z)->d∉C:=λd o e n z=>by
  @o',e':=hC d z;rw[e]at e';#n o' (Option.some.inj e')
 refine(hok b u e).stay (λ_ _ _ q=>q) (λd q=>?_) λd xs q=>?_
 ·rw[dC (ne d _ q λz q=>by cases q)];#q
 ·rw[dC (ne d _ q λz q=>by cases q)];#q
¦wR(P:Program)(w:World)(K:W.Frag)(mg:Str->Option Value)(base:Heap)(N:List Str)(qual:Str)(scope:Scope)(f:Addr)(cd:Value)(cl:List (Str×Addr))(A:Around)(outer:List Env)(s:Shared)(H:Hp):Cx where
 prog:=P
 w:=w
 K:=K
 mg:=mg
 base:=base
 A:=A.deeper (envX qual scope s.heap.objs.size f cd cl)
 N:=N
 s₀:=s
 H₀:=H
 env:=envX qual scope s.heap.objs.size f cd cl
 outer:=outer
 stack:=envX qual scope s.heap.objs.size f cd cl::outer
 ex:=[]
 calm:=true
 fn:=λ_=>false
 pn:=[]
 xe:=λ_ _=>False
structure JV(x:Str)(scope:Scope)(cl:List (Str×Addr)):Prop where
 kind:scope.kind = .function
 co:scope.isCoroutine=false
 gen:scope.isGenerator=false
 cell:∀y∈scope.names,y.2≠.cell
 own:scope.names.lookup x=some .local
 has:(scope.names.all λq=>!(q.2 == .free) || (cl.lookup q.1).isSome)=true
 nd:(x::cl.map (·.1)).Nodup
 fr:∀p∈cl,scope.names.lookup p.1=some .free
 inj:∀p∈cl,∀q∈cl,p.2=q.2->p.1=q.1
¤uN{cl:List (Str×Addr)}:∀(_:(cl.map (·.1)).Nodup) {j:Nat} {y:Str} {c:Addr},cl[j]? = some (y,c)->cl.lookup y=some c:=by
 induction cl with
 | nil=>intro _ j y c e;simp at e
 | cons a r ih =>
  intro nd j y c e;rw[List.map_cons,List.nodup_cons]at nd;rw[List.lookup_cons];cases j with
  | zero =>
   simp at e;subst e;simp
  | succ j =>
   !e':r[j]? = some (y,c):=by simpa using e
   !:y≠a.1:=λz=>nd.1 (List.mem_map.mpr ⟨(y,c),List.mem_of_getElem? e',z⟩);rw[beq_eq_false_iff_ne.mpr this];#ih nd.2 e'
section
variable {P:Program} {w:World} {K:W.Frag} {mg:Str->Option Value} {base:Heap}
¤yc{x q:Str}{scope:Scope}{cl:List (Str×Addr)}{f c:Addr}{A:Around}{outer:List Env}{s:Shared}{h₁:Heap}{tk:Nat}{H:Hp}{v:V}{u:Value}{ws:List V}(L:JV x scope cl)(hd:A.handled=none)(e0:Hu P w K mg base A outer s H)
  (cs:Paired (λ(p:Str×Addr) z=>d5 H p.2 z) cl ws) (rv:bz v u) (hns:h₁.Ns s.heap.objs.size (λy=>[(x,u)].reverse.lookup y)) (hk:∀b o,s.heap.get? b=some o->h₁.get? b=some o) :
  Dn (wR P w K mg base (x::cl.map (·.1)) q scope f (.ref c) cl A outer s (cut (cl.map (·.2)) H)) [] (some v::ws.map some) (cut (cl.map (·.2)) H) { s with heap:=h₁,toks:=tk }:=by
 !get:∀{j:Nat} {p:Str×Addr},cl[j]? = some p->∃z,ws[j]? = some z/\d5 H p.2 z:=by
  clear L hns
  induction cs with
  | nil=>intro j p e;simp at e
  | cons a r ih =>
   intro j p e;cases j with
   | zero=>simp at e;subst e;§^,a
   | succ j=>#ih (by simpa using e)
 !len:cl.length=ws.length:=Paired.length cs;!hC:∀d∈cl.map (·.2),∃o,H d=some (KnO o):=λd hd'=>by
  @p,hp,rfl:=List.mem_map.mp hd';@j,hj:=List.getElem?_of_mem hp;@z,_,o,_,e,_:=get hj;§o,e
 !isC:∀y d,cl.lookup y=some d->d∈cl.map (·.2)/\∃z,s.heap.IsCell d z:=λy d e=>by
  !hm:=PySem.mem_of_lookup e;@j,hj:=List.getElem?_of_mem hm;@z,_,o,u',e',d',_:=get hj;§List.mem_map.mpr ⟨_,hm,rfl⟩,some u',o,ig e0.hok e',d'
 !noA:∀b:Addr,b∉(wR P w K mg base (x::cl.map (·.1)) q scope f (.ref c) cl A outer s (cut (cl.map (·.2)) H)).ex:=λb z=>absurd (show b∈([]:List Addr) from z) (by simp);!hcut:=AY (C:=cl.map (·.2)) e0.hok hC;!cn:∀b,H b=none->cut (cl.map (·.2)) H b=none:=λb n=>by
  by_cases z:b∈cl.map (·.2)
  ·#lS z
  ·rw[dC z];#n
 !inv:∀h':Heap,(∀b o,s.heap.get? b=some o->h'.get? b=some o)->Un (frs outer) [] (cut (cl.map (·.2)) H) (cut (cl.map (·.2)) H) s.heap h':=λh' k=>Un.kept k;refine⟨⟨e0.mod,L.kind,rfl,rfl,Nat.le_refl _,λy z d h1 h2=>?_,λy hy=>?_,λy d z=>(by cases z),λ_=>hd,Around.frames_deeper e0.frames,.inr ⟨rfl,rfl⟩,λb z=>absurd z (noA b),λb o e=>⟨(e0.bs b o e).1,cn b (e0.bs b o e).2⟩,e0.bsz,λb _ _=>noA b,λb z=>absurd z (noA b),e0.funs,λb hb=>cn b (e0.frf b hb)⟩,
  rfl,e0.bare,inv h₁ hk,⟨_,hns,λi y v' h1 h2 h3=>?_⟩,λy d h=>?_,?_,λy d h=>?_,λp hp=>absurd (show p∈([]:List (Addr×Obj)) from hp) (by simp),hcut.kept hk,?_⟩
 ·#L.inj _ (PySem.mem_of_lookup h1) _ (PySem.mem_of_lookup h2) rfl
 ·!hy:scope.names.lookup y=some .cell\/scope.names.lookup y=some .free:=hy
  rcases hy with hy|hy
  ·#absurd rfl (L.cell _ (PySem.mem_of_lookup hy))
  ·!q:=List.all_eq_true.mp L.has _ (PySem.mem_of_lookup hy)
   !q:(cl.lookup y).isSome=true:=by simpa only[beq_self_eq_true,Bool.not_true,Bool.false_or]using q
   #Option.isSome_iff_exists.mp q
 ·!h1:(x::cl.map (·.1))[i]? = some y:=h1
  cases i with
  | zero =>
   !e1:x=y:=by simpa using h1
   !e2:v=v':=by simpa using h2
   subst e1 e2;§u,rv,.inl ⟨L.own,by simp⟩
  | succ j =>
   !e1:(cl.map (·.1))[j]? = some y:=by simpa using h1
   rw[List.getElem?_map]at e1;cases hj:cl[j]? with
   | none=>rw[hj]at e1;cases e1
   | some p =>
    rw[hj]at e1;!e1:p.1=y:=by simpa using e1
    @z,hz,o,u',e',d',r':=get hj;!e2:z=v':=by
     !:(ws.map some)[j]? = some (some v'):=by simpa using h2
     rw[List.getElem?_map,hz]at this;simpa using this
    subst e1 e2;¶u',r',.inr ⟨.inr (L.fr p (List.mem_of_getElem? hj)),p.2,uN (List.nodup_cons.mp L.nd).2 (c:=p.2) (y:=p.1) hj,o,hk _ _ (ig e0.hok e'),d'⟩
 ·@z,o,e,d':=(isC y d h).2
  §z,o,hk _ _ e,d'
 ·#cn _ (e0.hok.fresh (Nat.le_refl _))
 ·#lS (isC y d h).1
 ·show(some v::ws.map some).length=(x::cl.map (·.1)).length
  simp[len]
¦BH(f:Addr)(q:Str)(params:Arguments)(body:Expr)(scope:Scope)(cl:List (Str×Addr))(pm:Value)(c:Addr)(ctv:Value)(te:TE):Sp:=λvs H Q _ =>
 ∃v ws,vs = [v]/\H f=some (KnO (kla_obj "<lambda>" q params body scope cl pm c ctv))/\jO H c q/\Paired (λ(p:Str×Addr) z=>d5 H p.2 z) cl ws /\
  te (some v::ws.map some) (cut (cl.map (·.2)) H) λr H1=>(∀c∈cl.map (·.2),H1 c=none)->Q r (o0 (cl.map (·.2)) H H1)
¤wd{x q:Str}{params:Arguments}{body:Expr}{scope:Scope}{cl:List (Str×Addr)}{pm ctv:Value}{f c:Addr}{te:TE}{k:Nat}(L:JV x scope cl)
  (hbody:∀(A:Around) (outer:List Env) (s:Shared) (H:Hp),DO k (A.deeper (envX q scope s.heap.objs.size f (.ref c) cl))->PE (wR P w K mg base (x::cl.map (·.1)) q scope f (.ref c) cl A outer s H) body te) :
  Fg P w K mg base CX0 (k+1) f (kla_fn "<lambda>" q params body scope cl pm (.ref c) ctv) [x] (BH f q params body scope cl pm c ctv te):=by
 ¶λvs H Q E h=>?_,λA outer s H args us vs Q E hr e0 hb r hsp=>?_
 ·@v,ws,rfl,_:=h
  rfl
 ·@v,ws,rfl,ef,ck,cs,h:=hsp
  cases r with
  | cons rv r =>
   cases r;rename_i u;!lim:s.heap.NoLimit:=e0.mod.nolimit.keeps λb o e=>(e0.bs b o e).1;refine kla_callFunE hr.depth (ig e0.hok ef) rfl L.co L.gen rfl (ck.rec_ e0.hok) (hb _ _ _ _ ?_);refine wpAny_newFunctionEnv L.cell (λy hy=>?_) (λh1 hns hsb=>⟨lim.fresh _ hsb,?_⟩) L.kind
   ·obtain rfl:y=(x,u):=by simpa using hy
    #L.own
   ·show codeAny _ _ (.expr body (envX q scope s.heap.objs.size f (.ref c) cl)) _ _
    !hk1:∀b o,s.heap.get? b=some o->h1.get? b=some o:=λb o e=>hsb.extBut b o (Nat.ne_of_lt (Heap.lt_size e)) (Heap.get?_push_of_some _ e);!I:=yc (q:=q) (f:=f) (c:=c) (tk:=s.toks+([x].zip [u]).length) L hr.hd e0 cs rv hns hk1;refine kla_codeExpr (wpAny_mono (hbody A outer s _ (hr.deeper _) _ _ _ _ _ I h) (λu' s' hq=>?_) λ_ _ z=>False.elim z);@v',H1,J,r',q':=hq;!hC:∀d∈cl.map (·.2),∃o,H d=some (KnO o)/\s.heap.get? d=some o:=λd hd'=>by
     @p,hp,rfl:=List.mem_map.mp hd';!:∀{l:List (Str×Addr)} {ws:List V},Paired (λ(p:Str×Addr) z=>d5 H p.2 z) l ws->p∈l->∃z,d5 H p.2 z:=by
      intro l ws cs
      induction cs with
      | nil=>intro z;cases z
      | cons a r ih =>
       intro z;rcases List.mem_cons.mp z with rfl|z
       ·§_,a
       ·#ih z
     @z,o,_,e,_:=this cs hp;§o,e,ig e0.hok e
    !B:Un (frs outer) [] (cut (cl.map (·.2)) H) H1 s.heap s'.heap:=J.base;!nin:∀b,(∀o,H b≠some (KnO o))->b∉cl.map (·.2):=λb n z=>by
     @o,e,_:=hC b z;#n o e
    !out:∀b,H b=none->b∉cl.map (·.2):=λb n=>nin b λo e=>by rw[n]at e;cases e
    !h1n:∀d∈cl.map (·.2),H1 d=none:=λd hd'=>by
     @o,_,e:=hC d hd';#B.free d o e (lS hd') (by simp)
    !sC:∀d∈cl.map (·.2),∀o,s.heap.get? d=some o->s'.heap.get? d=some o:=λd hd' o e=>by
     refine B.keep d o e (lS hd') (λz=>?_) (by simp);@o',e',_:=hC d hd';rw[e0.frf d z]at e';cases e'
    ¶v',o0 (cl.map (·.2)) H H1,J.os,J.bare,⟨λb o e n hb hx=>?_,λb o e n hb hx=>?_,λb o e n hx=>?_,λb o e hx=>B.there b o e hx,λb xs e=>?_,λb o u e=>?_,λb ps e=>?_⟩,λb u e=>?_,r',q' h1n
    ·#B.keep b o e ((dC (out b n)).trans n) hb hx
    ·#B.slot b o e ((dC (out b n)).trans n) hb hx
    ·rw[dS (out b n)]
     #B.free b o e ((dC (out b n)).trans n) hx
    ·!z:b∉cl.map (·.2):=nin b λo' e'=>by rw[e]at e';cases e'
     rw[dS z];#B.tups b xs ((dC z).trans e)
    ·by_cases z:b∈cl.map (·.2)
     ·rw[nO z];#e
     ·rw[dS z]
      #B.frzs b o u ((dC z).trans e)
    ·!z:b∉cl.map (·.2):=nin b λo' e'=>by rw[e]at e';cases e'
     @more,q:=B.tbls b ps ((dC z).trans e);§more,(by rw[dS z];#q)
    ·by_cases z:b∈cl.map (·.2)
     ·rw[nO z]at e
      @o,e',g:=hC b z;rw[e]at e';cases e';#pP (sC b z o g)
     ·rw[dS z]at e
      refine(J.hok b u e).stay (λ_ _ _ q=>q) (λd q=>?_) λd xs q=>?_
      ·rw[dS λz=>by rw[h1n d z]at q;cases q];#q
      ·rw[dS λz=>by rw[h1n d z]at q;cases q];#q
end
¦zP(cs:List (Addr×Nat))(sp:Sp)(t:TA):TE:=λσ H Q=>t σ H λvs H1=>∀H2,Same H1 H2->(∀p∈cs,∀v,σ[p.2]? = some (some v)->d5 H2 p.1 v) ->
 sp vs H2 (λr H3=>∀H4,(∀b o,H3 b=some o->(∀z,o=KnO z->∀u,z.data≠.cell u)->H4 b=some o)->(∀b o,H1 b=some o->H3 b=some o->H4 b=some o)->Q r H4) E0
section
variable {X:Cx} {x:Str} {ps:List Str} {k:Nat} {sp:Sp} {p pos:Pos} {e:Expr} {es:List Expr} {t:TA} {cs:List (Addr×Nat)}
open Classical in
¤xG{pins:List (Addr×Obj)}{σ:St}{H:Hp}{s:Shared}{Q:VK}{us:List Value}{vs:List V}{f:Addr}{fd:FuncData}(F:Fg X.prog X.w X.K X.mg X.base CX0 k f fd ps sp)(hr:DO k X.A)(hb:gb X.K fd ps [])(hfn:∀x,X.fn x=true)
  (hcs:∀p∈cs,∃y,X.env.cells.lookup y=some p.1/\X.N[p.2]? = some y/\X.env.kindOf y=some .cell/\Vis X.env.scope y) (I:Dn X pins σ H s) (r:aZ vs us)
  (h:∀H2,Same H H2->(∀p∈cs,∀v,σ[p.2]? = some (some v)->d5 H2 p.1 v) ->
   sp vs H2 (λr H3=>∀H4,(∀b o,H3 b=some o->(∀z,o=KnO z->∀u,z.data≠.cell u)->H4 b=some o)->(∀b o,H b=some o->H3 b=some o->H4 b=some o)->Q r H4) E0) :
  wpAny (model X.prog X.w) X.A (call (.ref f) us) (EP X pins σ Q) X.xe s:=by
 let isC:Addr->Prop:=λb=>∃y,X.env.cells.lookup y=some b
 let H2:Hp:=λb=>if isC b then (s.heap.get? b).map KnO else H b
 !in2:∀b,isC b->H2 b=(s.heap.get? b).map KnO:=λb z=>if_pos z;!out2:∀b,¬isC b->H2 b=H b:=λb z=>if_neg z;!cN:∀b,isC b->H b=none:=λb ⟨y,e⟩=>I.freeC y b e;!cG:∀b,isC b->∃o z,s.heap.get? b=some o/\o.data = .cell z:=λb ⟨y,e⟩=>by
  @z,o,e1,e2:=I.cell y b e;§o,z,e1,e2
 !cK:∀b o,isC b->s.heap.get? b=some o->H2 b=some (KnO o):=λb o z e=>by rw[in2 b z,e];rfl
 !cA:∀b,isC b->X.s₀.heap.objs.size<=b:=λb ⟨y,e⟩=>I.ok.cab y b (hfn y) e;!same:Same H H2:=λb o e=>by
  rw[out2 b λz=>by rw[cN b z]at e;cases e];#e
 !frn:∀b∈frs X.stack,¬isC b:=λb hb ⟨y,e⟩=>by
  rcases List.mem_cons.mp (I.stkSub b hb) with z|z
  ·#I.cne y b e z
  ·@_,o,ho,_:=I.ok.funs.mem z
   #absurd (Nat.lt_of_lt_of_le (Heap.lt_size ho) (cA b ⟨y,e⟩)) (Nat.lt_irrefl _)
 !hok2:HOk X.prog X.w H2 s.heap:=λb u e=>by
  by_cases z:isC b
  ·@o,z',e1,_:=cG b z
   rw[cK b o z e1]at e;cases e;#pP e1
  ·rw[out2 b z]at e
   #(I.hok b u e).stay (λ_ _ _ q=>q) (λd q=>same d _ q) λd xs q=>same d _ q
 !e0:=I.env0;!e2:Hu X.prog X.w X.K X.mg X.base X.A X.stack s H2:=by
  ¶e0.frames,e0.mod,λb o e=>⟨(e0.bs b o e).1,?_⟩,e0.bsz,e0.funs,λb hb=>?_,hok2,e0.bare
  ·rw[out2 b λz=>absurd (Nat.lt_of_lt_of_le (Heap.lt_size e) (Nat.le_trans I.ok.bsz (cA b z))) (Nat.lt_irrefl _)]
   #(e0.bs b o e).2
  ·rw[out2 b (frn b hb)]
   #e0.frf b hb
 !cells:∀p∈cs,∀v,σ[p.2]? = some (some v)->d5 H2 p.1 v:=λp hp v hv=>by
  @y,h1,h2,h3,h4:=hcs p hp;@m,hn,hl:=I.loc;@u,ru,l:=hl p.2 y v h2 hv h4;rcases l with⟨kk,_⟩|⟨_,c,hc,o,ho,hd⟩
  ·rw[h3]at kk;cases kk
  ·rw[h1]at hc
   cases hc;§o,u,cK _ o ⟨y,h1⟩ ho,hd,ru
 !hq:=h H2 same cells;!hl:(us++[]).length=ps.length:=by rw[List.append_nil,<- r.length];#F.len _ _ _ _ hq
 !hbb:=hb s us I.kIn hl;rw[List.append_nil]at hbb;refine wpAny_call (codeAny_mono (F.run X.A X.stack s H2 ⟨us,[]⟩ us vs _ E0 hr e2 hbb r hq) λr s' hq=>?_);cases r with
 | error e=>#False.elim hq
 | ok fl =>
  cases fl with
  | next=>#False.elim hq
  | brk=>#False.elim hq
  | cont=>#False.elim hq
  | ret u =>
   @v,H3,os,bare,un,hok,rv,q:=hq
   let H4:Hp:=λb=>if isC b then none else H3 b
   !in4:∀b,isC b->H4 b=none:=λb z=>if_pos z;!out4:∀b,¬isC b->H4 b=H3 b:=λb z=>if_neg z;!c3:∀b,isC b->∃o,H3 b=some (KnO o)/\s.heap.get? b=some o/\s'.heap.get? b=some o:=λb z=>by
    @o,z',e1,_:=cG b z;!e3:=un.frzs b o _ (cK b o z e1);§o,e3,e1,ig hok e3
   refine I.after ⟨v,H4,os,bare,⟨λb o e n hb hx=>?_,λb o e n hb hx=>?_,λb o e n hx=>?_,λb o e hx=>un.there b o e hx,λb xs e=>?_,λb o u e=>?_,λb ps e=>?_⟩,λb u e=>?_,rv,q H4 (λb o e n=>?_) λb o e e3=>?_⟩
   ·by_cases z:isC b
    ·@o',_,e1,e2:=c3 b z
     rw[e]at e1;cases e1;#e2
    ·#un.keep b o e ((out2 b z).trans n) hb hx
   ·#un.slot b o e ((out2 b (frn b hb)).trans n) hb hx
   ·by_cases z:isC b
    ·# in4 b z
    ·rw[out4 b z]
     #un.free b o e ((out2 b z).trans n) hx
   ·!z:¬isC b:=λz=>by rw[cN b z]at e;cases e
    rw[out4 b z];#un.tups b xs ((out2 b z).trans e)
   ·!z:¬isC b:=λz=>by rw[cN b z]at e;cases e
    rw[out4 b z];#un.frzs b o u ((out2 b z).trans e)
   ·!z:¬isC b:=λz=>by rw[cN b z]at e;cases e
    rw[out4 b z];#un.tbls b ps ((out2 b z).trans e)
   ·!z:¬isC b:=λz=>by rw[in4 b z]at e;cases e
    rw[out4 b z]at e;refine(hok b u e).stay (λ_ _ _ q=>q) (λd q=>?_) λd xs q=>?_
    ·rw[out4 d λz=>by @o,e3,_:=c3 d z;rw[e3]at q;cases q];#q
    ·rw[out4 d λz=>by @o,e3,_:=c3 d z;rw[e3]at q;cases q];#q
   ·rw[out4 b λz=>by
     @o',e3,e1,_:=c3 b z;@o2,z',e4,d:=cG b z;rw[e1]at e4;cases e4;rw[e3]at e;#n o' (Option.some.inj e).symm _ d]
    #e
   ·rw[out4 b λz=>by rw[cN b z]at e;cases e]
    #e3
¤yf{H H1:Hp}(h:∀b o,H b=some o->(∀z,o=KnO z->∀u,z.data≠.cell u)->H1 b=some o):∀b o,H b=some o->(∀z,o≠KnO z)->H1 b=some o:=λb o e n=>h b o e λz q=>absurd q (n z)
¤Ai(F:Fn X.prog X.w X.K X.mg X.base x ps k sp)(hr:DO k X.A)(hg:Gl X x)(hfn:∀x,X.fn x=true)(hcs:∀p∈cs,∃y,X.env.cells.lookup y=some p.1/\X.N[p.2]? = some y/\X.env.kindOf y=some .cell/\Vis X.env.scope y)(ha:PA X (e::es) t)
  (hdb:(x == ("__debug__" : Str))=false:=by decide) (he:starEach (e::es) X.env=(false,eval e X.env)::starEach es X.env:=by rfl) (hpl:(backTo pos (starEach es X.env)).any (·.1)=false:=by rfl) :
  PE X (.Call (.Name x p) (e::es) [] pos) (zP cs sp t):=by
 @f,fd,o,hm,hk,hb,_,G:=F.ex;intro pins s σ H Q I h;refine wpAny_Call_Name_kw (iO I hg hm ?_ hdb);refine W.callWith_K (h₀:=X.base) I.ok.mod.kin hk (thn (ha pos pins s σ H _ I h) λus s1 ⟨vs,H1,I1,r,q⟩=>⟨I1.kIn,?_⟩) he hpl;#xG G hr (.all hb) hfn hcs I1 r q
¦Bh(P:Program)(w:World)(K:W.Frag)(mg:Str->Option Value)(base:Heap)(k:Nat)(f:Addr)(sp:Sp):Prop:=∃(fd:FuncData) (ps:List Str),Fg P w K mg base CX0 k f fd ps sp/\gb K fd ps []
¦rM(H:Hp)(f:Addr):Prop:=∃o fd,H f=some (KnO o)/\o.data = .func fd
¦zO(P:Program)(w:World)(K:W.Frag)(mg:Str->Option Value)(base:Heap)(k i:Nat)(t:TA):TE:=λσ H Q =>
 ∃f sp,σ[i]? = some (some (.ref f))/\Bh P w K mg base k f sp/\rM H f/\t σ H λvs H1=>rM H1 f/\sp vs H1 Q E0
¤o6{i:Nat}(hr:DO k X.A)(hN:X.N[i]? = some x)(hv:Vis X.env.scope x)(ha:PA X (e::es) t)
  (hdb:(x == ("__debug__" : Str))=false:=by decide) (hcd:(x == ("__classdict__" : Str))=false:=by decide) (he:starEach (e::es) X.env=(false,eval e X.env)::starEach es X.env:=by rfl) (hpl:(backTo pos (starEach es X.env)).any (·.1)=false:=by rfl) :
  PE X (.Call (.Name x p) (e::es) [] pos) (zO X.prog X.w X.K X.mg X.base k i t):=by
 intro pins s σ H Q I h;@f,sp,hs,⟨fd',ps',G',hb⟩,⟨o,fd,eo,ed⟩,h:=h;refine wpAny_Call_Name_kw (thn (vC (i:=i) hN hv hdb hcd pins s σ H (λv H'=>v = .ref f/\H'=H) I ⟨_,hs,rfl,rfl⟩) λu s1 ⟨v,H1,I1,rv,ev,eH⟩=>?_);subst ev eH;obtain rfl:u=Value.ref f:=rv;!at':∀{s:Shared} {H:Hp} {o:Obj} {fd:FuncData},HOk X.prog X.w H s.heap->H f=some (KnO o)->o.data = .func fd->FnAt f s.heap:=λ{s H o fd} k e d=>by
  !g:=ig k e;@oc,od,dt,sl:=o;cases d;§oc,od,fd,sl,g
 refine callWith_F (at' I1.hok eo ed) (thn (ha pos pins s1 σ H1 _ I1 h) λus s2 ⟨vs,H2,I2,r,⟨o2,fd2,eo2,ed2⟩,q⟩=>⟨at' I2.hok eo2 ed2,?_⟩) he hpl;#vo (ds:=[]) (dvs:=[]) G' hr hb .nil zb I2 r (by rw[List.append_nil];#q)
¤nJ.obj{H:Hp}{f:Addr}{q:Str}{params:Arguments}{body:Expr}{scope:Scope}{clos:List (Str×Addr)}(t:nJ H f q params body scope clos):rM H f:=by
 @pm,c,ctv,e,_:=t;§_,_,e,rfl
end
structure KO(K:W.Frag)(mg:Str->Option Value)(x:Str)(st:Stmt)(p:Addr):Prop where
 ex:∃(f:Addr) (oc:Value) (od:Option Addr) (kV doc pm:Value) (an:Option Addr) (c:Addr) (ct:Value) (osl:Array (Option Value)),
  mg x=some (.ref f)/\K.lookup f=some ⟨oc,od,.func (W.fnOf x x (bQ st) (aT st) (ao st) .none kV doc pm an (.ref c) ct),osl⟩/\W.codeIn K (.ref c) x=true/\W.keepIn K (.ref f)=true/\lZ K c p
¤KO.fn{P:Program}{w:World}{K:W.Frag}{mg:Str->Option Value}{base:Heap}{x:Str}{st:Stmt}{p:Addr}{N ps:List Str}{k:Nat}{sp:Sp}(D:KO K mg x st p)(S:Dj N ps (ao st))
  (hbind:∀(kV doc pm:Value) (an:Option Addr) (cdv ct:Value) (us:List Value),us.length=ps.length->bindArgs (W.fnOf x x (bQ st) (aT st) (ao st) .none kV doc pm an cdv ct) ⟨us,[]⟩=pure (ps.zip us))
  (len:∀vs H Q E,sp vs H Q E->vs.length=ps.length)
  (hbody:∀(f:Addr) (cdv:Value) (A:Around) (outer:List Env) (s:Shared) (H:Hp) (vs:List V) (Q:VK) (E:XK),(∃c,cdv = .ref c/\lZ K c p)->DO k (A.deeper (envOfC x (ao st) s.heap.objs.size f cdv))->sp vs H Q E ->
   ∃t,PSs (bV CX0 P w K mg base N x (ao st) f cdv A outer s H E).nox (aT st) t/\t { nx:=λ_ H'=>Q .non H',rt:=Q } (fY N vs) H):Fn P w K mg base x ps (k+1) sp:=by
 @f,oc,od,kV,doc,pm,an,c,ct,osl,hm,lk,hcd,hk,hc:=D.ex;¶⟨f,_,_,hm,hk,hbind kV doc pm an (.ref c) ct,⟨lk,rfl⟩,pY lk hcd S len λA outer s H vs Q E hr hsp=>?_⟩;@t,h,q:=hbody f (.ref c) A outer s H vs Q E ⟨c,rfl,hc⟩ hr hsp;§t,h.nox,q
¦tK(s:Stmt)(i:Nat):Expr:=match s with
 | .Assign _ (.Call _ as _ _) _=>as.getD i (.Name "" ⟨0,0,0,0⟩)
 | _=>.Name "" ⟨0,0,0,0⟩
¦fO(e:Expr):Scope:=match e with
 | .Lambda _ _ sc _=>sc
 | _=>{ kind:=.function,names:=[],isGenerator:=false,isCoroutine:=false }
¦sR(e:Expr):Arguments:=match e with
 | .Lambda a _ _ _=>a
 | _=>{ posonlyargs:=[],args:=[],vararg:=none,kwonlyargs:=[],kw_defaults:=[],kwarg:=none,defaults:=[] }
¦sQ(e:Expr):Expr:=match e with
 | .Lambda _ b _ _=>b
 | _=>.Name "" ⟨0,0,0,0⟩
¦fH(e:Expr):Pos:=match e with
 | .Lambda _ _ _ p=>p
 | _=>⟨0,0,0,0⟩
¤gM{C:List Addr}{H:Hp}{b:Addr}{o:HO}(hC:∀c∈C,∃o,H c=some (KnO o))(e:H b=some o)(n:∀z,o≠KnO z):cut C H b=some o:=by
 rw[dC λz=>?_]
 ·#e
 ·@o',e':=hC b z
  rw[e]at e';#n o' (Option.some.inj e')
¤iD{C:List Addr}{H H1:Hp}{b:Addr}{o:HO}(hC:∀c∈C,H1 c=none)(e:H1 b=some o):o0 C H H1 b=some o:=by
 rw[dS λz=>by rw[hC b z]at e;cases e];#e
¤fm.keep{p:Addr}{H H':Hp}{b:Addr}{o:HO}{ls:List (Pos×Str)}(s:fm p H H')(t:Tab H p ls)(e:H b=some o)(n:∀ps,o≠.tbl ps):H' b=some o:=by
 @ps,e1,_:=t;refine s b o (λz=>?_) e;rw[z,e1]at e;#n ps (Option.some.inj e).symm
¤fm.trans{p:Addr}{H H1 H2:Hp}(a:fm p H H1)(b:fm p H1 H2):fm p H H2:=λc o n e=>b c o n (a c o n e)
¤Same.p{p:Addr}{H H':Hp}(s:Same H H'):fm p H H':=λb o _ e=>s b o e
¤qA{H:Hp}{cl:List (Str×Addr)}{ws:List V}(cs:Paired (λ(p:Str×Addr) z=>d5 H p.2 z) cl ws):∀c∈cl.map (·.2),∃o,H c=some (KnO o):=by
 induction cs with
 | nil=>intro c h;cases h
 | cons a r ih =>
  intro c h;rcases List.mem_cons.mp h with rfl|h
  ·@o,u,e,_:=a
   §o,e
  ·#ih c h
¤d5.mono{H H':Hp}{c:Addr}{v:V}(x:d5 H c v)(s:Same H H'):d5 H' c v:=let ⟨o,u,e,r⟩:=x;⟨o,u,s _ _ e,r⟩
end L2
namespace L2
open PySem PySem.Spec PyProof.Rows
¤lV{a:Addr}{o:Obj}{kvs:List (List Key×V)}{fv:List (Str×Nat)}{g:TG}{tc:TT}{te:TE}{σ:St}{H1:Hp}{Q:VK}{k:Nat}(hD:H1 a=some (.frz o (.dT kvs)))(hlen:kvs.length<1000)(sel:List Key×V->Bool)(R:List Key×V->V->Hp->Prop)(hR:∀e v H H',SameT H H'->R e v H->R e v H')
  (hs:∀(i:Nat) e b H2 (τ:St) (Kc:VK) (Kn:Hp->Prop),kvs[i]? = some e->H2 b=some (.tup (e.1.map kV))->Same H1 H2->τ.length=k->(sel e=true->∀y H4,Same H2 H4->R e y H4->Kc y H4)->(sel e=false->∀H4,Same H2 H4->Kn H4) ->
   g (.ref b) (τ++fvs fv σ) H2 λσ2 H4=>(∃τ':St,τ'.length=k/\σ2=τ'++fvs fv σ)/\tc σ2 H4 λb H5=>if b=true then te σ2 H5 Kc else Kn H5)
  (hd:∀l ys H',H1 l=none->Same H1 H'->H' l=some (.lst ys)->Paired (λe y=>R e y H') (kvs.filter sel) ys->Q (.ref l) H'):kF (Itd a o kvs) k fv g tc te σ H1 Q:=by
 intro l hl;?λi m acc H2=>m=kvs.length - i/\i<=kvs.length/\acc.length<=i/\Same H1 H2/\H2 l=some (.lst acc)/\Paired (λe y=>R e y H2) ((kvs.take i).filter sel) acc,⟨_,rfl,Nat.zero_le _,Nat.le_refl _,Same.new hl,upd_same,.nil⟩;rintro i m acc H2 ⟨rfl,hi,e1,sm,e3,hr⟩;?e3,bJ ~
 by_cases hlt:i<kvs.length
 ·refine .inr ⟨⟨sm _ _ hD,hlt⟩,λx H3 y τ hτ=>?_⟩
  @rfl,q,v,b,hq,rfl,hb:=y;!tk:kvs.take (i+1)=kvs.take i++[(q,v)]:=by rw[List.take_add_one,hq];rfl
  refine hs i (q,v) b H3 τ _ _ hq hb sm hτ (λhsel y H4 s4 ry=>⟨s4 _ _ e3,kvs.length - (i+1),~,rfl,hlt,by simp;#e1,(sm.trans s4).upd hl,upd_same,?_⟩) λhsel H4 s4=>⟨kvs.length - (i+1),~,rfl,hlt,~,sm.trans s4,s4 _ _ e3,?_⟩
  ·!t4:=SameT.upd (ys:=acc++[y]) (s4 _ _ e3)
   rw[tk,List.filter_append];!:[(q,v)].filter sel = [(q,v)]:=by simp[hsel]
   rw[this];#Paired.snoc (Paired.mapP hr λe z r=>hR _ _ _ _ (s4.t.trans t4) r) (hR _ _ _ _ t4 ry)
  ·rw[tk,List.filter_append]
   !:[(q,v)].filter sel = []:=by simp[hsel]
   rw[this,List.append_nil];#Paired.mapP hr λe z r=>hR _ _ _ _ s4.t r
 ·!e:i=kvs.length:= ~
  subst e;rw[List.take_length]at hr;#.inl ⟨⟨sm _ _ hD,Nat.le_refl _⟩,hd l acc H2 hl sm e3 hr⟩
end L2
namespace Sk
open PySem PySem.Spec L2
noncomputable abbrev aL:=List Key
¦cp(H:Hp)(v:V)(k:aL):Prop:=∃p,v = .ref p/\H p=some (.tup (k.map kV))
¤cp.mono{H H':Hp}{v:V}{k:aL}(x:cp H v k)(s:SameT H H'):cp H' v k:=let ⟨p,e,h⟩:=x;⟨p,e,s _ _ h⟩
inductive Lb
 | no
 | key (d:aL)
 | bend (d e:aL) (l m:Int×Int×Int×Int)
¦n4(l:Int×Int×Int×Int):List V:=[.int l.1,.int l.2.1,.int l.2.2.1,.int l.2.2.2]
¦TpK(K:W.Frag)(H:Hp)(a:Addr)(xs:List V):Prop:=H a=some (.tup xs)\/∃(o:Obj) (its:Array Value) (n:Nat),K.lookup a=some o/\o.cls = .type "tuple"/\o.data = .seq its n/\its.size<=sizeLine/\aZ xs its.toList
¤TpK.mono{K:W.Frag}{H H':Hp}{a:Addr}{xs:List V}(x:TpK K H a xs)(s:SameT H H'):TpK K H' a xs:=x.imp (λe=>s _ _ e) id
¤TpK.sq{K:W.Frag}{H:Hp}{a:Addr}{xs:List V}(x:TpK K H a xs):SqT K H a xs:=x.elim (λe=>SqT.of e) .inr
¦j6(K:W.Frag)(H:Hp)(v:V):Lb->Prop
 | .no=>v = .non
 | .key d=>cp H v d
 | .bend d e l m=>∃t p q g a b,v = .ref t/\H t=some (.tup [.ref p,.ref q,.ref g])/\H p=some (.tup (d.map kV))/\H q=some (.tup (e.map kV))/\H g=some (.tup [.ref a,.ref b])/\TpK K H a (n4 l)/\TpK K H b (n4 m)
¤j6.mono{K:W.Frag}{H H':Hp}{v:V}{x:Lb}(h:j6 K H v x)(s:SameT H H'):j6 K H' v x:=by
 cases x with
 | no=>#h
 | key d=>#cp.mono h s
 | bend d e l m =>
  @t,p,q,g,a,b,h1,h2,h3,h4,h5,h6,h7:=h;§t,p,q,g,a,b,h1,s _ _ h2,s _ _ h3,s _ _ h4,s _ _ h5,h6.mono s,h7.mono s
section
variable {K:W.Frag}
noncomputable abbrev En:=aL×Option Nat×Lb
¦Ent(K:W.Frag)(H:Hp)(es:List En)(e:En)(kv:aL×V):Prop:=kv.1=e.1/\∃t pv hv,kv.2 = .ref t/\H t=some (.tup [pv,hv])/\j6 K H hv e.2.2/\(e.2.1=none->pv = .non)/\∀j,e.2.1=some j->∃e',es[j]? = some e'/\cp H pv e'.1
structure KI(es:List En):Prop where
 nd:(es.map (·.1)).Nodup
 up:∀(i:Nat) (e:En) (j:Nat),es[i]? = some e->e.2.1=some j->j<i
¦jG(K:W.Frag)(H:Hp)(d:Addr)(es:List En):Prop:=∃kvs,H d=some (.dT kvs)/\Paired (Ent K H es) es kvs
¤Ent.mono{H H':Hp}{es es':List En}{e:En}{kv:aL×V}(x:Ent K H es e kv)(s:SameT H H')(h:∀(j:Nat) e,es[j]? = some e->es'[j]? = some e):Ent K H' es' e kv:=by
 @a,t,pv,hv,b,c,lb,d,f:=x;¶a,t,pv,hv,b,s _ _ c,lb.mono s,d,λj hj=>?_;@e',h1,h2:=f j hj;§e',h j e' h1,h2.mono s
¤fh{α β:Type}{F:α->β->Prop}:∀{l:List α} {m:List β},Paired F l m->∀(i:Nat) (a:α),l[i]? = some a->∃b,m[i]? = some b/\F a b:=by
 intro l m p
 induction p with
 | nil=>intro i a e;simp at e
 | cons h r ih =>
  intro i a e;cases i with
  | zero=>simp at e;subst e;§^,h
  | succ j=>#ih j a (by simpa using e)
¤bo{α β:Type}{F:α->β->Prop}:∀{l:List α} {m:List β},Paired F l m->∀(i:Nat) (b:β),m[i]? = some b->∃a,l[i]? = some a/\F a b:=by
 intro l m p
 induction p with
 | nil=>intro i a e;simp at e
 | cons h r ih =>
  intro i a e;cases i with
  | zero=>simp at e;subst e;§^,h
  | succ j=>#ih j a (by simpa using e)
¤uh{α:Type}{l:List α}(nd:l.Nodup){i j:Nat}{a:α}(hi:l[i]? = some a)(hj:l[j]? = some a):i=j:=by
 @h1,e1:=List.getElem?_eq_some_iff.mp hi;@h2,e2:=List.getElem?_eq_some_iff.mp hj;!pw:=List.pairwise_iff_getElem.mp nd;rcases Nat.lt_trichotomy i j with z|z|z
 ·#absurd (e1.trans e2.symm) (pw i j h1 h2 z)
 ·#z
 ·#absurd (e2.trans e1.symm) (pw j i h2 h1 z)
¤kY{α β:Type}{F:α->β->Prop}:∀{l:List α} {m:List β},Paired F l m->Paired F l.reverse m.reverse:=by
 intro l m p
 induction p with
 | nil=>#.nil
 | cons h r ih =>
  rw[List.reverse_cons,List.reverse_cons];#Paired.snoc ih h
¤oj{H:Hp}{es':List En}:∀{es:List En} {kvs:List (aL×V)},Paired (Ent K H es') es kvs->kvs.map (·.1)=es.map (·.1):=by
 intro es kvs p
 induction p with
 | nil=>rfl
 | cons h r ih=>rw[List.map_cons,List.map_cons,ih,h.1]
¤xm:∀{kvs:List (aL×V)} {i:Nat} {kv:aL×V},(kvs.map (·.1)).Nodup->kvs[i]? = some kv->dR kvs kv.1=some kv.2:=by
 intro kvs
 induction kvs with
 | nil=>intro i kv _ e;simp at e
 | cons a r ih =>
  intro i kv nd e;rw[List.map_cons,List.nodup_cons]at nd;cases i with
  | zero=>simp at e;subst e;#cQ rfl
  | succ j =>
   !e:r[j]? = some kv:=by simpa using e
   rw[cL (λz=>nd.1 (by rw[z];#List.mem_map.mpr ⟨kv,List.mem_of_getElem? e,rfl⟩))];#ih nd.2 e
¤iy:∀{kvs:List (aL×V)} {k:aL},k∉kvs.map (·.1)->dR kvs k=none:=by
 intro kvs
 induction kvs with
 | nil=>intro k _;rfl
 | cons a r ih =>
  intro k h;rw[List.map_cons,List.mem_cons,not_or]at h;rw[cL (λz=>h.1 z.symm)];#ih h.2
¤rQ{kvs:List (aL×V)}{k:aL}(h:k∈kvs.map (·.1)):(dR kvs k).isSome=true:=by
 induction kvs with
 | nil=>simp at h
 | cons a r ih =>
  by_cases z:a.1=k
  ·rw[cQ z];rfl
  ·rw[cL z]
   rw[List.map_cons,List.mem_cons]at h;#ih (h.resolve_left λq=>z q.symm)
¤jG.mono{H H':Hp}{d:Addr}{es:List En}(c:jG K H d es)(s:Same H H'):jG K H' d es:=by
 @kvs,e1,e2:=c;§kvs,s _ _ e1,Paired.mapP e2 λa b x=>x.mono s.t λ_ _ h=>h
¤jG.look{H:Hp}{d:Addr}{es:List En}(c:jG K H d es){s:aL}{b:Addr}(hb:H b=some (.tup (s.map kV))):∃o,gN H d (.ref b) o/\(o.isSome=true↔s∈es.map (·.1)):=by
 @kvs,e1,e2:=c;?_,gN.t e1 hb;rw[<- oj e2];constructor
 ·intro h
  by_cases z:s∈kvs.map (·.1)
  ·#z
  ·rw[iy z]at h;cases h
 ·#rQ
¤jG.add{H:Hp}{d:Addr}{es:List En}(c:jG K H d es){s:aL}{b t:Addr}{pv hv:V}{h:Lb}{pj:Option Nat}(hb:H b=some (.tup (s.map kV)))(ht:H t=some (.tup [pv,hv]))(lb:j6 K H hv h)(hs:s∉es.map (·.1))(h0:pj=none->pv = .non)(h1:∀j,pj=some j->∃e',es[j]? = some e'/\cp H pv e'.1)(hl:es.length<1000) :
  ∃H',lY H d (.ref b) (.ref t) H'/\jG K H' d (es++[(s,pj,h)])/\SameT H H'/\∀x,x≠d->H' x=H x:=by
 @kvs,e1,e2:=c;!len:=Paired.length e2;!new:gh kvs s (.ref t)=kvs++[(s,.ref t)]:=iE _ (iy (by rw[oj e2];#hs));!st:SameT H (upd H d (.dT (gh kvs s (.ref t)))):=λx xs e=>by
  rw[aR (λz=>by rw[z,e1]at e;cases e)];#e
 ¶_,lY.t (k:=s) (v:=.ref t) e1 hb (by !:=bJ (n:=kvs.length) ~;#this),⟨_,upd_same,?_⟩,st,λx hx=>aR hx;!keep:∀(j:Nat) (e:En),es[j]? = some e->(es++[(s,pj,h)])[j]? = some e:=λj e he=>by
  rw[List.getElem?_append_left (List.getElem?_eq_some_iff.mp he).1];#he
 !last:Ent K (upd H d (.dT (gh kvs s (.ref t)))) (es++[(s,pj,h)]) (s,pj,h) (s,.ref t):=⟨rfl,t,pv,hv,rfl,st _ _ ht,lb.mono st,h0,λj hj=>by
  @e',g1,g2:=h1 j hj;#⟨e',keep _ _ g1,g2.mono st⟩⟩
 !all:=Paired.snoc (Paired.mapP e2 λa b x=>x.mono st keep) last;rw[<- new]at all;#all
inductive Ho (es:List En):Nat->List (aL×Lb)->Prop
 | root {i:Nat} {s:aL} {h:Lb}:es[i]? = some (s,none,h)->Ho es i [(s,h)]
 | step {i j:Nat} {s:aL} {h:Lb} {l:List (aL×Lb)}:es[i]? = some (s,some j,h)->Ho es j l->Ho es i (l++[(s,h)])
¦ir(K:W.Frag)(H:Hp)(r:Addr)(l:List (aL×Lb)):Prop:=∃vs,H r=some (.lst vs)/\Paired (λ(e:aL×Lb) v=>∃t sv hv,v = .ref t/\H t=some (.tup [sv,hv])/\cp H sv e.1/\j6 K H hv e.2) l vs
¦tT(K:W.Frag)(H:Hp)(r:Addr)(l:List (aL×Lb)):Prop:=ir K H r l
¦rL(es:List En)(cur:Option Nat)(i:Nat)(done:List (aL×Lb)):Prop:=∀l,(match cur with|some j=>Ho es j l|none=>l = [])->Ho es i (l++done.reverse)
¤rL.begin{es:List En}{i:Nat}:rL es (some i) i []:=λl h=>by simpa using h
¤rL.up{es:List En}{i j:Nat}{done:List (aL×Lb)}{s:aL}{pj:Option Nat}{h:Lb}(x:rL es (some j) i done)(e:es[j]? = some (s,pj,h)):rL es pj i (done++[(s,h)]):=by
 intro l hl;rw[List.reverse_append];show Ho es i (l++([(s,h)]++done.reverse));rw[<- List.append_assoc];refine x _ ?_;cases pj with
 | none =>
  !:l = []:=hl;subst this;#.root e
 | some j'=>#.step e hl
inductive G2 (K:W.Frag) (vs:List V) (H:Hp) (Q:VK) (x_3:XK):Prop
 | mk:∀(d:Addr) (sv:V) (es:List En) (i:Nat) (e:En),(vs = [.ref d,sv])->(jG K H d es)->(KI es)->(es[i]? = some e)->(cp H sv e.1)->(es.length<1000)->(∀r H' l,Same H H'->Ho es i l->l.length<=es.length->ir K H' r l->Q (.ref r) H')->G2 K vs H Q x_3
¦yK(bs:List aL)(stp:aL->List (aL×Lb))(fin:aL->Bool)(l:List (aL×Lb)):Prop :=
 (∃s r,l=(s,.no)::r/\s∈bs)/\(∀(n:Nat) a b,l[n]? = some a->l[n+1]? = some b->b∈stp a.1)/\∃a,l.getLast? = some a/\fin a.1=true
¦yJ(bs:List aL)(stp:aL->List (aL×Lb))(fin:aL->Bool):Prop:=∃R:List aL,(∀s∈bs,s∈R)/\(∀s∈R,∀e∈stp s,e.1∈R)/\∀s∈R,fin s=false
structure J9(bs:List aL)(stp:aL->List (aL×Lb))(es:List En):Prop where
 root:∀(i:Nat) e,es[i]? = some e->e.2.1=none->e.1∈bs/\e.2.2 = .no
 step:∀(i j:Nat) e,es[i]? = some e->e.2.1=some j->∃e',es[j]? = some e'/\(e.1,e.2.2)∈stp e'.1
¤xL{bs:List aL}{stp:aL->List (aL×Lb)}{fin:aL->Bool}{es:List En}(g:J9 bs stp es){i:Nat}{l:List (aL×Lb)}(p:Ho es i l) :
  (∃s r,l=(s,.no)::r/\s∈bs)/\(∀(n:Nat) a b,l[n]? = some a->l[n+1]? = some b->b∈stp a.1)/\∃e,es[i]? = some e/\l.getLast? = some (e.1,e.2.2):=by
 induction p with
 | root e =>
  @h1,h2:=g.root _ _ e rfl;dsimp only at h1 h2;subst h2;§⟨_,[],rfl,h1⟩,λn a b _ h=>by simp at h,_,e,rfl
 | step e p ih =>
  @⟨s,r,rfl,hs⟩,st,e',h1,h2:=ih;¶⟨s,r++_,rfl,hs⟩,λn a b ha hb=>?_,_,e,List.getLast?_concat;rcases Nat.lt_trichotomy (n+1) ((s,Lb.no)::r).length with z|z|z
  ·rw[List.getElem?_append_left ~]at ha
   rw[List.getElem?_append_left z]at hb;#st n a b ha hb
  ·rw[List.getElem?_append_left ~]at ha
   rw[List.getElem?_append_right ~,z,Nat.sub_self]at hb;simp only[List.getElem?_cons_zero,Option.some.injEq]at hb;rw[List.getLast?_eq_getElem?]at h2;!ea:((s,Lb.no)::r).length - 1=n:= ~
   rw[ea,ha]at h2;cases h2;@e2,g1,g2:=g.step _ _ _ e rfl;rw[h1]at g1;cases g1;rw[<- hb];#g2
  ·rw[List.getElem?_eq_none (by simp at z ⊢;~)]at hb
   cases hb
structure K5(P:Program)(w:World)(K:W.Frag)(mg:Str->Option Value)(base:Heap)(k:Nat)(H:Hp)(f1 f2:Addr)(U:List aL)(stp:aL->List (aL×Lb))(fin:aL->Bool):Prop where
 o1:rM H f1
 o2:rM H f2
 c1:∃sp,Bh P w K mg base k f1 sp/\∀H' v s (Q:VK),Same H H'->cp H' v s->s∈U->(∀r H'',Same H' H''->H' r=none->tT K H'' r (stp s)->Q (.ref r) H'')->sp [v] H' Q E0
 c2:∃sp,Bh P w K mg base k f2 sp/\∀H' v s (Q:VK),Same H H'->cp H' v s->s∈U->(∀H'',Same H' H''->Q (.bl (fin s)) H'')->sp [v] H' Q E0
 shut:∀s∈U,∀e∈stp s,e.1∈U
 few:∀s∈U,(stp s).length<1000
¦AQ(n:Nat)(es:List En)(x:aL×Lb):List En:=@ite _ (x.1∈es.map (·.1)) (Classical.propDecidable _) es (es++[(x.1,some n,x.2)])
¦eA(bs:List aL)(stp:aL->List (aL×Lb)):Nat->List En
 | 0=>bs.map λs=>(s,none,.no)
 | n+1=>match (eA bs stp n)[n]? with
  | some e=>(stp e.1).foldl (AQ n) (eA bs stp n)
  | none=>eA bs stp n
¦zJ(bs:List aL)(stp:aL->List (aL×Lb))(fin:aL->Bool)(l:List (aL×Lb)):Prop :=
 ∃n e,(eA bs stp n)[n]? = some e/\fin e.1=true/\(∀i,i<n->∃e',(eA bs stp n)[i]? = some e'/\fin e'.1=false)/\Ho (eA bs stp n) n l
¦vi(P:Program)(w:World)(K:W.Frag)(mg:Str->Option Value)(base:Heap)(k:Nat):Sp:=λvs H Q _ =>
 ∃(b f1 f2:Addr) (bvs:List V) (bs U:List aL) (stp:aL->List (aL×Lb)) (fin:aL->Bool),vs = [.ref b,.ref f1,.ref f2]/\H b=some (.lst bvs)/\Paired (λs v=>cp H v s) bs bvs/\bs.Nodup/\(∀s∈bs,s∈U)/\U.length<900 /\
  K5 P w K mg base k H f1 f2 U stp fin/\(∀H',Same H H'->yJ bs stp fin->Q .non H')/\∀r H' l,Same H H'->yK bs stp fin l->zJ bs stp fin l->l.length<=U.length->ir K H' r l->Q (.ref r) H'
¤qV{α:Type}[DecidableEq α]{l U:List α}(nd:l.Nodup)(h:∀s∈l,s∈U):l.length<=U.length:=by
 induction l generalizing U with
 | nil=>#Nat.zero_le _
 | cons a r ih =>
  rw[List.nodup_cons]at nd;!ha:=h a List.mem_cons_self;!:=ih (U:=U.erase a) nd.2 λs hs=>by
   refine(List.mem_erase_of_ne ?_).mpr (h s (List.mem_cons_of_mem _ hs));rintro rfl;#nd.1 hs
  rw[List.length_erase_of_mem ha]at this;!hp:0<U.length:=List.length_pos_of_mem ha;rw[List.length_cons];~
¤mX{l U:List aL}(nd:l.Nodup)(h:∀s∈l,s∈U):l.length<=U.length:=by
 classical #qV nd h
structure EH(bs U:List aL)(stp:aL->List (aL×Lb))(fin:aL->Bool)(es:List En)(n:Nat):Prop where
 tree:KI es
 grown:J9 bs stp es
 inU:∀e∈es,e.1∈U
 base:∀s∈bs,s∈es.map (·.1)
 le:n<=es.length
 seen:∀(i:Nat) e,i<n->es[i]? = some e->fin e.1=false/\∀x∈stp e.1,x.1∈es.map (·.1)
¤EH.len{bs U:List aL}{stp:aL->List (aL×Lb)}{fin:aL->Bool}{es:List En}{n:Nat}(g:EH bs U stp fin es n):es.length<=U.length:=by
 !:=mX g.tree.nd (U:=U) λs hs=>by
  @e,he,rfl:=List.mem_map.mp hs;#g.inU e he
 rw[List.length_map]at this;#this
¤EH.shut{bs U:List aL}{stp:aL->List (aL×Lb)}{fin:aL->Bool}{es:List En}{n:Nat}(g:EH bs U stp fin es n)(h:es.length<=n):yJ bs stp fin:=by
 ¶es.map (·.1),g.base,λs hs x hx=>?_,λs hs=>?_
 ·@e,he,rfl:=List.mem_map.mp hs
  @i,hi:=List.getElem?_of_mem he;#(g.seen i e (Nat.lt_of_lt_of_le (List.getElem?_eq_some_iff.mp hi).1 h) hi).2 x hx
 ·@e,he,rfl:=List.mem_map.mp hs
  @i,hi:=List.getElem?_of_mem he;#(g.seen i e (Nat.lt_of_lt_of_le (List.getElem?_eq_some_iff.mp hi).1 h) hi).1
¤EH.add{bs U:List aL}{stp:aL->List (aL×Lb)}{fin:aL->Bool}{es:List En}{n j:Nat}(g:EH bs U stp fin es n){e0:En}{s:aL}{h:Lb}(hj:es[j]? = some e0)(hs:(s,h)∈stp e0.1)(hU:s∈U)(hn:s∉es.map (·.1)) :
  EH bs U stp fin (es++[(s,some j,h)]) n:=by
 !old:∀(i:Nat) e,(es++[(s,some j,h)])[i]? = some e->es[i]? = some e\/(i=es.length/\e=(s,some j,h)):=λi e he=>by
  rcases Nat.lt_trichotomy i es.length with z|z|z
  ·rw[List.getElem?_append_left z]at he;#.inl he
  ·rw[List.getElem?_append_right ~,z,Nat.sub_self]at he
   simp only[List.getElem?_cons_zero,Option.some.injEq]at he;#.inr ⟨z,he.symm⟩
  ·rw[List.getElem?_eq_none (by simp;~)]at he;cases he
 !keep:∀(i:Nat) e,es[i]? = some e->(es++[(s,some j,h)])[i]? = some e:=λi e he=>by
  rw[List.getElem?_append_left (List.getElem?_eq_some_iff.mp he).1];#he
 !jl:=(List.getElem?_eq_some_iff.mp hj).1;¶⟨?_,λi e k he hk=>?_⟩,⟨λi e he hk=>?_,λi k e he hk=>?_⟩,λe he=>?_,λt ht=>?_,?_,λi e hi he=>?_
 ·rw[List.map_append,List.nodup_append]
  ¶g.tree.nd,by simp,λa ha b hb=>?_;!hb:b=s:=by simpa using hb
  rw[hb];rintro rfl;#hn ha
 ·rcases old i e he with z|⟨z1,z2⟩
  ·#g.tree.up i e k z hk
  ·subst z2
   cases hk;~
 ·rcases old i e he with z|⟨z1,z2⟩
  ·#g.grown.root i e z hk
  ·subst z2
   cases hk
 ·rcases old i e he with z|⟨z1,z2⟩
  ·@e',h1,h2:=g.grown.step i k e z hk
   §e',keep _ _ h1,h2
  ·subst z2
   cases hk;§e0,keep _ _ hj,hs
 ·rcases List.mem_append.mp he with z|z
  ·#g.inU e z
  ·rw[List.mem_singleton.mp z];#hU
 ·rw[List.map_append]
  #List.mem_append_left _ (g.base t ht)
 ·rw[List.length_append]
  #Nat.le_trans g.le (Nat.le_add_right _ _)
 ·rcases old i e he with z|⟨z1,z2⟩
  ·@h1,h2:=g.seen i e hi z
   ¶h1,λx hx=>?_;rw[List.map_append];#List.mem_append_left _ (h2 x hx)
  ·!:=g.le
   ~
¤EH.first{bs U:List aL}{stp:aL->List (aL×Lb)}{fin:aL->Bool}(nd:bs.Nodup)(hU:∀s∈bs,s∈U):EH bs U stp fin (bs.map λs=>(s,none,.no)) 0:=by
 !at':∀(i:Nat) e,(bs.map λs=>((s,none,.no):En))[i]? = some e->∃s,bs[i]? = some s/\e=(s,none,.no):=λi e he=>by
  rw[List.getElem?_map]at he;cases h:bs[i]? with
  | none=>rw[h]at he;cases he
  | some s=>rw[h]at he;cases he;§s,rfl,rfl
 !mp:(bs.map λs=>((s,none,.no):En)).map (·.1)=bs:=by rw[List.map_map];#List.map_id bs
 ¶⟨by rw[mp];#nd,λi e j he hj=>?_⟩,⟨λi e he _=>?_,λi j e he hj=>?_⟩,λe he=>?_,λs hs=>by rw[mp];#hs,Nat.zero_le _,λi e hi=>absurd hi (Nat.not_lt_zero _)
 ·@s,_,rfl:=at' i e he
  cases hj
 ·@s,hs,rfl:=at' i e he
  §List.mem_of_getElem? hs,rfl
 ·@s,_,rfl:=at' i e he
  cases hj
 ·@s,hs,rfl:=List.mem_map.mp he
  #hU s hs
¤EH.next{bs U:List aL}{stp:aL->List (aL×Lb)}{fin:aL->Bool}{es:List En}{n:Nat}(g:EH bs U stp fin es n){e:En}(he:es[n]? = some e)(hf:fin e.1=false)(hs:∀x∈stp e.1,x.1∈es.map (·.1)):EH bs U stp fin es (n+1):=by
 ¶g.tree,g.grown,g.inU,g.base,(List.getElem?_eq_some_iff.mp he).1,λi e' hi he'=>?_
 by_cases z:i=n
 ·subst z
  rw[he]at he';cases he';§hf,hs
 ·#g.seen i e' ~ he'
end
end Sk
namespace Dr
open PySem PySem.Spec L2 Mth Sp1 Sp2 Sp3 Sp7
¦But(p:Addr)(H H':Hp):Prop:=∀b o,b≠p->H b=some o->H' b=some o
¤But.trans{p:Addr}{H H1 H2:Hp}(a:But p H H1)(b:But p H1 H2):But p H H2:=λc o n e=>b c o n (a c o n e)
¤But.of{p:Addr}{H H':Hp}(s:Same H H'):But p H H':=λc o _ e=>s c o e
¤But.same{p:Addr}{H0 H H':Hp}(b:But p H H')(s:Same H0 H)(h:H0 p=none):Same H0 H':=λc o e=>b c o (a6 e h) (s c o e)
¤But.none{p l:Addr}{H H':Hp}(b:But p H H')(n:l≠p)(h:H' l=none):H l=none:=by
 cases e:H l with
 | none=>rfl
 | some o =>
  rw[b l o n e]at h;cases h
¤zk{K:W.Frag}{H:Hp}{l:Addr}{xs:List V}{i:Int}{Q:VK}(C:Int->Prop)(e:H l=some (.lst xs))(h0:0<=i)(h1:i<(xs.length:Int))(hC:∀v∈xs,∃m,v = .int m/\C m)(h:∀m,C m->Q (.int m) H):JQ K (.ref l) (.int i) H Q :=
 C5 e h0 h1 λv hv=>by
  @m,rfl,hc:=hC v hv;#h m hc
¤oJ{qs:Crn}{k:Int}(h0:0<=k)(h1:k<(qs.length:Int)):∃q,qs[k.toNat]? = some q/\atI (qs.map λ(q:Addr×Int×Int)=>V.ref q.1) k=some (.ref q.1):=by
 !hk:k.toNat<qs.length:= ~
 ?qs[k.toNat],List.getElem?_eq_getElem hk;!:=dD (xs:=qs.map λ(q:Addr×Int×Int)=>V.ref q.1) (j:=k.toNat) (v:=.ref qs[k.toNat].1) (by rw[List.getElem?_map,List.getElem?_eq_getElem hk];rfl);rw[show((k.toNat:Nat):Int)=k by omega]at this;#this
end Dr
namespace L2
open PySem PySem.Spec PyProof.Rows
section
variable {X:Cx} {e:Expr} {te:TE} {p1 p2 q1 q2:Pos}
¤qC:bootBuiltins "reversed" = some (.type "reversed"):=by decide +kernel
end
end L2
namespace Wk
open PySem PySem.Spec L2 Mth Sp1 Sp2 Sp3 Sp7 Dr
structure Pr where
 p:Addr
 x:Addr
 y:Addr
 a:Int
 b:Int
 c:Int
 d:Int
structure PrAt(H:Hp)(q:Pr):Prop where
 p_:H q.p=some (.tup [.ref q.x,.ref q.y])
 x_:H q.x=some (.tup [.int q.a,.int q.b])
 y_:H q.y=some (.tup [.int q.c,.int q.d])
 lx:EG q.a q.b
 ly:EG q.c q.d
 nx:0<=q.a
 ny:0<=q.c
 ba:ar q.a<=200
 bb:ar q.b<=60
 bc:ar q.c<=200
 bd:ar q.d<=60
¦prs(ps:List Pr):List V:=ps.map λq=>V.ref q.p
¤dW(ps:List Pr):(prs ps).length=ps.length:=List.length_map _
¤ka{ps:List Pr}{i:Nat}{v:V}(h:(prs ps)[i]? = some v):∃q,ps[i]? = some q/\v = .ref q.p:=by
 unfold prs at h;rw[List.getElem?_map]at h;@q,hq,rfl:=Option.map_eq_some_iff.mp h;§q,hq,rfl
end Wk
namespace Fnc
open PySem PySem.Spec L2 Mth Sp1 Sp2 Sp3 Sp7 Dr Wk
¤di(i j:Int):decide (V.int i=V.int j)=decide (i=j):=by
 rw[Bool.eq_iff_iff];simp
end Fnc
namespace Sk
open PySem PySem.Spec L2 Sp24 Wk
¦ck(i j:Int):aL:=[.inl i,.inl j]
¤wV{i j x y:Int}(h:ck i j=ck x y):i=x/\j=y:=by
 unfold ck at h;simp only[List.cons.injEq,Sum.inl.injEq,and_true]at h;#h
¦gZ(F:Int->Int->Bool)(i k:Nat):List (Int×Int):=((List.range k).filter λ(j:Nat)=>F (i:Int) (j:Int)).map λ(j:Nat)=>((i:Int),(j:Int))
¦io(F:Int->Int->Bool)(n i:Nat):List (Int×Int):=(List.range i).flatMap λi'=>gZ F i' n
¦mF(m n:Nat)(F:Int->Int->Bool):List (Int×Int):=io F (n+1) (m+1)
¤iL{F:Int->Int->Bool}{i k:Nat}{p:Int×Int}:p∈gZ F i k↔p.1=i/\0<=p.2/\p.2<k/\F p.1 p.2=true:=by
 unfold gZ;simp only[List.mem_map,List.mem_filter,List.mem_range];constructor
 ·rintro⟨j,⟨h1,h2⟩,rfl⟩
  §rfl,by simp,by simpa using h1,h2
 ·rintro⟨h1,h2,h3,h4⟩
  @x,y:=p;dsimp only at h1 h2 h3 h4;subst h1;?y.toNat,⟨~,?_⟩
  ·rw[show((y.toNat:Nat):Int)=y by omega];#h4
  ·rw[show((y.toNat:Nat):Int)=y by omega]
¤k9{F:Int->Int->Bool}{n i:Nat}{p:Int×Int}:p∈io F n i↔0<=p.1/\p.1<i/\0<=p.2/\p.2<n/\F p.1 p.2=true:=by
 unfold io;simp only[List.mem_flatMap,List.mem_range,iL];constructor
 ·rintro⟨i',h1,h2,h3,h4,h5⟩
  §~,~,h3,h4,h5
 ·rintro⟨h1,h2,h3,h4,h5⟩
  §p.1.toNat,~,~,h3,h4,h5
¤dI{m n:Nat}{F:Int->Int->Bool}{x y:Int}:(x,y)∈mF m n F↔0<=x/\x<=m/\0<=y/\y<=n/\F x y=true:=by
 unfold mF;rw[k9];constructor
 ·rintro⟨h1,h2,h3,h4,h5⟩
  §h1,by simp at h2;~,h3,by simp at h4;~,h5
 ·rintro⟨h1,h2,h3,h4,h5⟩
  §h1,by simp;~,h3,by simp;~,h5
¤je{F:Int->Int->Bool}{i k:Nat}:gZ F i (k+1)=gZ F i k++(if F i k=true then [((i:Int),(k:Int))] else []):=by
 unfold gZ;rw[List.range_succ,List.filter_append,List.map_append]
 congr 1
 by_cases h:F i k=true
 ·simp[h]
 ·simp[h]
¤jz{F:Int->Int->Bool}{n i:Nat}:io F n (i+1)=io F n i++gZ F i n:=by
 unfold io;rw[List.range_succ,List.flatMap_append];simp
¤oY{F:Int->Int->Bool}{i k:Nat}:(gZ F i k).length<=k:=by
 unfold gZ;rw[List.length_map];#Nat.le_trans (List.length_filter_le _ _) (by simp)
¤lO{F:Int->Int->Bool}{n:Nat}:∀{i:Nat},(io F n i).length<=i*n
 | 0=>by simp[io]
 | i+1=>by
  rw[jz,List.length_append];!:=lO (F:=F) (n:=n) (i:=i);!:=oY (F:=F) (i:=i) (k:=n);rw[Nat.succ_mul];~
¤qN{F:Int->Int->Bool}{i k:Nat}:(gZ F i k).Nodup:=by
 induction k with
 | zero=>simp[gZ]
 | succ k ih =>
  rw[je,List.nodup_append];¶ih,by split <;> simp,λa ha b hb=>?_
  split at hb
  ·!hb:b=((i:Int),(k:Int)):=by simpa using hb
   rintro rfl;rw[hb]at ha;!:=(iL.mp ha).2.2.1;simp at this
  ·simp at hb
¤rE{F:Int->Int->Bool}{n i:Nat}:(io F n i).Nodup:=by
 induction i with
 | zero=>simp[io]
 | succ i ih =>
  rw[jz,List.nodup_append];¶ih,qN,λa ha b hb=>?_;rintro rfl;!h1:=(k9.mp ha).2.1;!h2:=(iL.mp hb).1;~
¦kvF(l:List (Int×Int)):List (aL×V):=l.map λp=>(ck p.1 p.2,.bl true)
¤pO{l:List (Int×Int)}{x y:Int}:ck x y∈(kvF l).map (·.1)↔(x,y)∈l:=by
 unfold kvF;rw[List.map_map];constructor
 ·intro h
  @p,hp,e:=List.mem_map.mp h;@h1,h2:=wV e;rw[<- h1,<- h2];#hp
 ·intro h
  #List.mem_map.mpr ⟨(x,y),h,rfl⟩
¤ye{l:List (Int×Int)}{x y:Int}:(dR (kvF l) (ck x y)).isSome=true↔(x,y)∈l:=by
 rw[<- pO];constructor
 ·intro h
  by_cases z:ck x y∈(kvF l).map (·.1)
  ·#z
  ·rw[iy z]at h;cases h
 ·#rQ
¦oM(H:Hp)(d:Addr)(m n:Nat)(F:Int->Int->Bool):Prop:=∃o,H d=some (.frz o (.dT (kvF (mF m n F))))
¤oM.mono{H H':Hp}{d:Addr}{m n:Nat}{F:Int->Int->Bool}(h:oM H d m n F)(s:Same H H'):oM H' d m n F:=let ⟨o,e⟩:=h;⟨o,s _ _ e⟩
¤oM.get{H:Hp}{d b:Addr}{m n:Nat}{F:Int->Int->Bool}(h:oM H d m n F){x y:Int}(hb:H b=some (.tup [.int x,.int y])):∃o,gN H d (.ref b) o/\o.isSome=decide ((x,y)∈mF m n F):=by
 @o,e:=h;?_,.inr ⟨_,ck x y,b,.inr ⟨o,e⟩,rfl,hb,rfl⟩;rw[Bool.eq_iff_iff,ye,decide_eq_true_iff]
¦U(m n:Nat):List aL:=(List.range (m+1)).flatMap λi=>(List.range (n+1)).map λj=>ck (i:Nat) (j:Nat)
¤gH{m n:Nat}{s:aL}:s∈U m n↔∃x y:Int,s=ck x y/\0<=x/\x<=m/\0<=y/\y<=n:=by
 unfold U;simp only[List.mem_flatMap,List.mem_range,List.mem_map];constructor
 ·rintro⟨i,hi,j,hj,rfl⟩
  §_,^,~,~,~,(~)
 ·rintro⟨x,y,rfl,h1,h2,h3,h4⟩
  ?x.toNat,~,y.toNat,(~);rw[show((x.toNat:Nat):Int)=x by omega,show((y.toNat:Nat):Int)=y by omega]
¤zI{m n:Nat}:(U m n).length=(m+1)*(n+1):=by
 unfold U
 induction (m+1) with
 | zero=>simp
 | succ k ih =>
  rw[List.range_succ (n:=k),List.flatMap_append,List.length_append,ih,Nat.succ_mul];simp
¤yI{m n:Nat}(hm:m<=20)(hn:n<=20):(U m n).length<900:=by
 rw[zI];!:=Nat.mul_le_mul (show m+1<=21 by omega) (show n+1<=21 by omega);~
¦prC(q:Pr)(c:Int×Int):Prop:=q.a=c.1/\q.b=1/\q.c=c.2/\q.d=1
¦dec:aL->Int×Int
 | [.inl i,.inl j]=>(i,j)
 | _=>(0,0)
¤xN{bs U:List aL}{stp:aL->List (aL×Lb)}{fin:aL->Bool}{l:List (aL×Lb)}(r:yK bs stp fin l)(hb:∀s∈bs,s∈U)(hs:∀s∈U,∀e∈stp s,e.1∈U):∀(n:Nat) e,l[n]? = some e->e.1∈U:=by
 @⟨s,r',rfl,h1⟩,h2,_:=r;intro n
 induction n with
 | zero=>intro e he;simp at he;subst he;#hb s h1
 | succ k ih =>
  intro e he;!lt:=(List.getElem?_eq_some_iff.mp he).1;obtain⟨a,ha⟩:∃a,((s,Lb.no)::r')[k]? = some a:=⟨((s,Lb.no)::r')[k]'~,by rw[List.getElem?_eq_getElem ~]⟩;#hs _ (ih a ha) e (h2 k a e ha he)
¤j6.put{K:W.Frag}{C:List Addr}{H H1:Hp}{v:V}{x:Lb}(hC:∀c∈C,H1 c=none)(h:j6 K H1 v x):j6 K (o0 C H H1) v x:=h.mono λb xs e=>iD hC e
¤ua{K:W.Frag}{C:List Addr}{H H1:Hp}{r:Addr}{l:List (aL×Lb)}(hC:∀c∈C,H1 c=none)(x:ir K H1 r l):ir K (o0 C H H1) r l:=by
 @vs,e,p:=x;¶vs,iD hC e,Paired.mapP p λa b ⟨t,sv,hv,x1,x2,⟨q,x3,x4⟩,x5⟩=>⟨t,sv,hv,x1,iD hC x2,⟨q,x3,iD hC x4⟩,x5.put hC⟩
¤xM{K:W.Frag}{H H1:Hp}{r:Addr}{l:List (aL×Lb)}(h:∀b o,H b=some o->(∀z,o≠KnO z)->H1 b=some o)(x:ir K H r l):ir K H1 r l:=by
 @vs,e,p:=x;!st:SameT H H1:=λb xs e=>h _ _ e (λz q=>by cases q);§vs,h _ _ e (λz q=>by cases q),Paired.mapP p λa b ⟨t,sv,hv,x1,x2,x3,x5⟩=>⟨t,sv,hv,x1,st _ _ x2,x3.mono st,x5.mono st⟩
¤lP{m n:Nat}{F:Int->Int->Bool}(hm:m<=20)(hn:n<=20):(mF m n F).length<900:=by
 !h1:=lO (F:=F) (n:=n+1) (i:=m+1);!:=Nat.mul_le_mul (show m+1<=21 by omega) (show n+1<=21 by omega);unfold mF;~
end Sk
namespace Fz
end Fz
namespace L2
open PySem PySem.Spec PyProof.Rows
¦ItR(K:W.Frag)(a:Addr)(n:Nat):It:=⟨λi H=>∃xs x,SqL K H a xs/\xs.length=n/\i<n/\xs[n - 1 - i]? = some x,λi H x H'=>H'=H/\∀xs,SqL K H a xs->xs[n - 1 - i]? = some x,λi _=>i=n⟩
¤uZ{P:Program}{w:World}{K:W.Frag}{tg:Expr}(a it:Addr)(n:Nat):GM P w K tg (ItR K a n) [it] it (λi h=>h.IsRevIter it a ((n:Int) - 1 - (i:Int))) where
 mem:=by simp
 obj:=λi h st b hb=>by
  !e:b=it:=by simpa using hb
  subst e;@o,e,c,d:=st;§o,e,(λv z=>by rw[d]at z;cases z)
 keep:=λi h h' st k=>st.at λo e=>k it (by simp) o e
 item:=by
  intro X hP hw hK hc i pins s σ H E I hf st hg;subst hP hw hK;@xs,x,hq,hn,hi,hx:=hg;@its,rv,p,hz:=I.list hq;@u,hu,ru:=rv.get hx;@f0,f1,f2,f3,f4,f5:=hf it (by simp);!e0:(n:Int) - 1 - (i:Int)=((n - 1 - i:Nat):Int):= ~
  !st0:s.heap.IsRevIter it a ((n:Int) - 1 - (i:Int)):=st;rw[e0]at st0;refine wpAny_pyNext_rev_item st0 p.isList (x:=u) (by simpa using hu) λh' st' sb=>?_;!I1:Dn X pins σ H { s with heap:=h' }:=I.turned (t':=s.toks) (λb o hb e=>(sb.2 b hb).trans e) f0 f1 f3 f4 f5;!e1:((n - 1 - i:Nat):Int) - 1=(n:Int) - 1 - ((i+1:Nat):Int):= ~
  rw[e1]at st';@o,e,c,d:=id st';§u,rfl,m7 (s:={ s with heap:=h' }) e c d & ⟨x,H,I1,ru,⟨rfl,λys hy=>by rw[I.list_inj hy hq];#hx⟩,st',λb hb=>(hf b hb).1⟩
 done:=by
  intro X hP hw hK hc i pins s σ H E I hf st hg;subst hP hw hK;!hg:i=n:=hg;subst hg;@f0,f1,f2,f3,f4,f5:=hf it (by simp);!st0:s.heap.IsRevIter it a ((i:Int) - 1 - (i:Int)):=st;rw[show(i:Int) - 1 - (i:Int) = -1 by omega]at st0;#wpAny_pyNext_rev_end (I.ok.hd hc) st0 λh' eb=>⟨rfl,I.turned (t':=s.toks) (λb o hb e=>eb b o hb e) f0 f1 f3 f4 f5⟩
 self:=λ_ _ _ _ _ st h=>wpAny_pyIter_revIter st h
¦C8(K:W.Frag)(te:TE):TI:=λσ H R=>te σ H λx H1=>∃a xs,[x] = [.ref a]/\SqL K H1 a xs/\R (ItR K a xs.length) H1
¤Ae{X:Cx}{tg e:Expr}{te:TE}{p1 q1:Pos}(gr:Gl X "reversed")(mr:X.mg "reversed" = none)(he:PE X e te)(h2:starEach [e] X.env = [(false,eval e X.env)]:=by rfl):PI X tg (.Call (.Name "reversed" p1) [e] [] q1) (C8 X.K te):=by
 intro pins s σ H R I h;!h':(rT te zL) σ H (λvs H1=>∃a xs,vs = [.ref a]/\SqL X.K H1 a xs/\R (ItR X.K a xs.length) H1):=h;refine wpAny_Call_Name_kw (gI I gr mr qC (PyProof.Rows.callWith_type1 (thn ((ad he ak h2) q1 pins s σ H (λvs H1=>∃a xs,vs = [.ref a]/\SqL X.K H1 a xs/\R (ItR X.K a xs.length) H1) I h') λus s1 ⟨vs,H1,I1,r1,q⟩=>?_) h2 rfl));@a,xs,rfl,hx,k:=q;@u,rfl,ru:=kG r1;cases ru;@its,rv,pl,hz:=I1.list hx;!hl:=rv.length;refine call_reversed_list pl.isList ?_;!al:a<s1.heap.objs.size:=by @_,e,_:=pl.isList;#Heap.lt_size e
 !kp:∀b o,s1.heap.get? b=some o->(s1.heap.push (revObj a ((its.toArray.size:Int) - 1))).get? b=some o:=λb o e=>Heap.get?_push_of_some _ e;!it0:(s1.heap.push (revObj a ((its.toArray.size:Int) - 1))).IsRevIter s1.heap.objs.size a ((its.toArray.size:Int) - 1):=⟨_,Heap.get?_push_size _ rfl,rfl,rfl⟩;refine wpAny_pyIter_revIter (i:=(its.toArray.size:Int) - 1) it0 ?_;¶_,[s1.heap.objs.size],_,_,H1,rfl,I1.kept (t':=s1.toks) kp,uZ a s1.heap.objs.size xs.length,?_,λb hb=>?_,k
 ·show Heap.IsRevIter _ _ _ ((xs.length:Int) - 1 - ((0:Nat):Int))
  rw[show(xs.length:Int) - 1 - ((0:Nat):Int)=(its.toArray.size:Int) - 1 by rw[List.size_toArray];~];#it0
 ·!e:b=s1.heap.objs.size:=by simpa using hb
  subst e;#I1.fpOk (Nat.le_refl _) (I1.hok.fresh (Nat.le_refl _))
¤yo{K:W.Frag}{a:Addr}{xs:List V}{g:TG}{tb:TS}{D:FS}{σ:St}{H:Hp}(Pv:Nat->St->Hp->Prop)(h0:Pv 0 σ H)(hl:∀i σ H,i<=xs.length->Pv i σ H->SqL K H a xs)
  (hs:∀i x σ H,i<xs.length->xs[xs.length - 1 - i]? = some x->Pv i σ H->g x σ H λσ2 H2=>tb { D with nx:=Pv (i+1),ct:=Pv (i+1),bk:=D.nx } σ2 H2) (hd:∀σ H,Pv xs.length σ H->D.nx σ H) :
  ∃W:Nat->Nat->St->Hp->Prop,(∃m,W 0 m σ H)/\∀i m σ H,W i m σ H ->
   ((ItR K a xs.length).stop i H/\D.nx σ H)\/((ItR K a xs.length).go i H/\∃N:St->Hp->Prop,(∀σ' H',N σ' H'->∃m',m'<m/\W (i+1) m' σ' H')/\∀x H',(ItR K a xs.length).yld i H x H'->g x σ H' λσ2 H2=>tb { D with nx:=N,ct:=N,bk:=D.nx } σ2 H2):=by
 ?λi m σ H=>m=xs.length - i/\i<=xs.length/\Pv i σ H,⟨_,rfl,Nat.zero_le _,h0⟩;rintro i m σ H ⟨rfl,hi,p⟩;!q:=hl i σ H hi p
 by_cases hlt:i<xs.length
 ·refine .inr ⟨⟨xs,xs[xs.length - 1 - i],q,rfl,hlt,List.getElem?_eq_getElem ~⟩,Pv (i+1),λσ' H' p'=>⟨xs.length - (i+1),~,rfl,hlt,p'⟩,λx H' ⟨e,y⟩=>?_⟩
  subst e;#hs i x σ _ hlt (y xs q) p
 ·!e:i=xs.length:= ~
  subst e;#.inl ⟨rfl,hd σ H p⟩
¤uL{α:Type}{K:W.Frag}{a:Addr}{xs:List V}{es:List α}{fv:List (Str×Nat)}{g:TG}{tc:TT}{te:TE}{σ:St}{H1:Hp}{Q:VK}{k:Nat}(hD:H1 a=some (.lst xs))(hlen:xs.length<1000)(R:α->V->Prop)(pr:Paired R es xs)(P:α->Bool)
  (hs:∀e x H2 (τ:St) (Kc:VK) (Kn:Hp->Prop),e∈es->R e x->Same H1 H2->τ.length=k->(P e=true->∀H4,Same H2 H4->Kc x H4)->(P e=false->∀H4,Same H2 H4->Kn H4) ->
   g x (τ++fvs fv σ) H2 λσ2 H4=>(∃τ':St,τ'.length=k/\σ2=τ'++fvs fv σ)/\tc σ2 H4 λb H5=>if b=true then te σ2 H5 Kc else Kn H5)
  (hd:∀l ys H',H1 l=none->Same H1 H'->H' l=some (.lst ys)->Paired R (es.filter P) ys->Q (.ref l) H'):kF (Itl K a) k fv g tc te σ H1 Q:=by
 intro l hl;!ll:=Paired.length pr;!la:l≠a:=λz=>by rw[z,hD]at hl;cases hl
 !gp:∀{l:List α} {m:List V},Paired R l m->∀(i:Nat) (b:V),m[i]? = some b->∃a,l[i]? = some a/\R a b:=by
  intro l m p
  induction p with
  | nil=>intro i a e;simp at e
  | cons h r ih =>
   intro i a e;cases i with
   | zero=>simp at e;subst e;§^,h
   | succ j=>#ih j a (by simpa using e)
 ?λi m acc H2=>m=xs.length - i/\i<=xs.length/\acc.length<=i/\Same H1 H2/\H2 l=some (.lst acc)/\Paired R ((es.take i).filter P) acc,⟨_,rfl,Nat.zero_le _,Nat.le_refl _,Same.new hl,upd_same,.nil⟩;rintro i m acc H2 ⟨rfl,hi,e1,sm,e3,hr⟩;?e3,bJ ~
 by_cases hlt:i<xs.length
 ·refine .inr ⟨⟨xs,xs[i],SqL.of (sm _ _ hD),List.getElem?_eq_getElem hlt⟩,λx H3 y τ hτ=>?_⟩
  @rfl,e:=y;!hx:=e xs (SqL.of (sm _ _ hD));@ee,he,hre:=gp pr i x hx;!tk:es.take (i+1)=es.take i++[ee]:=by rw[List.take_add_one,he];rfl
  refine hs ee x H3 τ _ _ (List.mem_of_getElem? he) hre sm hτ (λhsel H4 s4=>⟨s4 _ _ e3,xs.length - (i+1),~,rfl,hlt,by simp;#e1,(sm.trans s4).upd hl,upd_same,?_⟩) λhsel H4 s4=>⟨xs.length - (i+1),~,rfl,hlt,~,sm.trans s4,s4 _ _ e3,?_⟩
  ·rw[tk,List.filter_append,List.filter_cons,hsel]
   #Paired.snoc hr hre
  ·rw[tk,List.filter_append,List.filter_cons,hsel]
   simp only[Bool.false_eq_true,if_false,List.filter_nil,List.append_nil];#hr
 ·!e:i=xs.length:= ~
  subst e;rw[List.take_of_length_le ~]at hr;#.inl ⟨⟨xs,SqL.of (sm _ _ hD),Nat.le_refl _⟩,hd l acc H2 hl sm e3 hr⟩
¤kN(n:Nat):sliceRange ((n:Int) - 1) (-1) (-1)=(List.range n).map λk=>n - 1 - k:=by
 unfold sliceRange;!e:(if ((-1:Int)>0) then (if (n:Int) - 1 < -1 then (-1 - ((n:Int) - 1) + -1 - 1) / -1 else 0) else (if (n:Int) - 1 > -1 then ((n:Int) - 1 - -1 - -1 - 1) / - -1 else 0)).toNat=n:=by
  rw[if_neg &]
  split
  ·rw[show - (-1:Int)=1 from rfl,Int.ediv_one]
   ~
  ·~
 show List.map (λk:Nat=>((n:Int) - 1 + -1*(k:Int)).toNat) (List.range (if ((-1:Int)>0) then (if (n:Int) - 1 < -1 then (-1 - ((n:Int) - 1) + -1 - 1) / -1 else 0) else (if (n:Int) - 1 > -1 then ((n:Int) - 1 - -1 - -1 - 1) / - -1 else 0)).toNat)=_
 rw[e];refine List.map_congr_left λk _=>?_;~
¤l5(its:List Value):slicePick its.toArray none none (some (-1))=its.reverse.toArray:=by
 unfold slicePick;!b:sliceBounds none none (some (-1)) its.toArray.size=((its.length:Int) - 1,-1,-1):=by
  unfold sliceBounds;simp
 rw[b];show(List.filterMap (λx=>its.toArray[x]?) (sliceRange ((its.length:Int) - 1) (-1) (-1))).toArray=_;rw[kN]
 congr 1
 !key:∀(l:List Value),List.filterMap (λx=>l[x]?) ((List.range l.length).map λk=>l.length - 1 - k)=l.reverse:=by
  intro l;!e2:(List.range l.length).map (λk=>l.length - 1 - k)=(List.range l.length).reverse:=by
   refine List.ext_getElem? λi=>?_
   by_cases hi:i<l.length
   ·rw[List.getElem?_map,List.getElem?_range hi,List.getElem?_reverse (by simpa using hi),List.length_range,List.getElem?_range ~]
    rfl
   ·rw[List.getElem?_eq_none (by simp;~),List.getElem?_eq_none (by simp;~)]
  rw[e2,List.filterMap_reverse]
  congr 1
  !this:∀(l:List Value),List.filterMap (λx=>l[x]?) (List.range l.length)=l:=by
   intro l;!h:∀n,n<=l.length->List.filterMap (λx=>l[x]?) (List.range n)=l.take n:=by
    intro n
    induction n with
    | zero=>intro _;rfl
    | succ n ih =>
     intro hn;rw[List.range_succ,List.filterMap_append,ih ~,List.take_succ]
     congr 1
   rw[h _ (Nat.le_refl _),List.take_length]
  #this l
 !k2:=key its;simpa using k2
section
variable {X:Cx} {e:Expr} {te:TE} {st:Expr} {ts:TO} {pos p2:Pos}
¦Bs(K:W.Frag)(te:TE)(ts:TO):TE:=λσ H Q=>te σ H λx H1=>ts σ H1 λo H2=>o=some (-1)/\∃a xs,x = .ref a/\SqL K H2 a xs/\∀p H3,Same H2 H3->H3 p=some (.lst xs.reverse)->H2 p=none->Q (.ref p) H3
¤ue(he:PE X e te)(hs:PO X (some st) ts):PE X (.Subscript e (.Slice none none (some st) p2) pos) (Bs X.K te ts):=by
 intro pins s σ H Q I h;refine Subscript_ (thn (he pins s σ H _ I h) λv s1 ⟨x,H1,I1,r1,q1⟩=>?_);refine wpAny_Slice ?_;rw[evalPart_none];refine wpAny_pure ?_;refine wpAny_pure ?_;refine thn (hs pins s1 σ H1 _ I1 q1) λvs s3 ⟨o,H3,I3,ps,q3⟩=>?_;@rfl,a,xs,rfl,hx,q:=q3;!I4:Dn X pins σ H3 { s3 with heap:=s3.heap.push { cls:=.type "slice",data:=.fields #[.none,.none,vs] } }:=I3.kept (t':=s3.toks) λb ob q=>Heap.get?_push_of_some _ q;cases r1;@its,r,ht,hz:=I4.list hx;show wpAny (model X.prog X.w) X.A (subscriptTail e (.Slice none none (some st) p2) (.ref a) (.ref s3.heap.objs.size)) (EP X pins σ Q) X.xe { s3 with heap:=s3.heap.push { cls:=.type "slice",data:=.fields #[.none,.none,vs] } }
 refine tail_any (ops:=[.ref a,.ref s3.heap.objs.size]) ht.isList.typeIs slot_list_getitem.lookup ?_ (by with_unfolding_all rfl);!hlen:=r.length;refine wpAny_getItem_list_slice ht.isList (Heap.IsSliceOf.new ..) .none .none ps & ?_ (by rw[List.size_toArray] <;> ~);rw[l5];!hf:=I4.hok.fresh (Nat.le_refl _);¶.ref _,upd H3 _ (.lst xs.reverse),I4.laid (λb ob q=>Heap.get?_push_of_some _ q) (Nat.le_refl _) ?_,rfl,q _ _ (Same.new hf) upd_same hf;§by rw[List.length_reverse];#hz,_,0,r.reverse,Heap.get?_push_size _ rfl
end
end L2
namespace Sp5
open PySem PySem.Spec L2 Mth Sp1 Sp2 Sp3 Sp24
structure Er(T a A:Int):Prop where
 nn:0<=A
 lo:A*A<=T*a
 hi:T*a<(A+1)*(A+1)
¤oU{x y:Int}(hx:0<=x)(h:x<y):x*x<y*y:=by
 !h1:x*x<=y*x:=Int.mul_le_mul_of_nonneg_right ~ hx;!h2:y*x<y*y:=Int.mul_lt_mul_of_pos_left h ~;~
¤mM{x y:Int}(hy:0<=y)(h:x*x<=y*y):x<=y:=by
 by_cases hx:x<=y
 ·#hx
 ·!:=oU hy (show y<x by omega)
  ~
¤bY{x y:Int}(hx:0<=x)(h:x<=y):x*x<=y*y:=Int.mul_le_mul h h hx ~
¤Er.uniq{T a A B:Int}(h:Er T a A)(k:Er T a B):A=B:=by
 !h1:A<=B:=by
  by_cases z:A<=B
  ·#z
  ·!:=bY (x:=B+1) (y:=A) (by !:=k.nn;~) ~
   !:=k.hi;!:=h.lo;~
 !h2:B<=A:=by
  by_cases z:B<=A
  ·#z
  ·!:=bY (x:=A+1) (y:=B) (by !:=h.nn;~) ~
   !:=h.hi;!:=k.lo;~
 ~
¤Er.mono{T a c A C:Int}(hT:0<=T)(h:Er T a A)(k:Er T c C)(hac:a<=c):A<=C:=by
 by_cases z:A<=C
 ·#z
 ·!:=bY (x:=C+1) (y:=A) (by !:=k.nn;~) ~
  !:=k.hi;!:=h.lo;!:T*a<=T*c:=Int.mul_le_mul_of_nonneg_left hac hT;~
structure Gb(S M:Int):Prop where
 m1:1<=M
 s:216*(M*(M*M))<=S
¤Gb.mm{S M:Int}(h:Gb S M):M<=M*M/\M*M<=M*(M*M):=by
 !h1:=h.m1;!a:1*M<=M*M:=Int.mul_le_mul_of_nonneg_right h1 ~;!b:1*(M*M)<=M*(M*M):=Int.mul_le_mul_of_nonneg_right h1 ~;~
¤Gb.pos{S M:Int}(h:Gb S M):216*M<=S:=by
 !:=h.mm;!:=h.s;~
¤Gb.big{S M K:Int}(h:Gb S M)(hK:K<=24*(S*M)):K<S*S:=by
 !p:=h.pos;!m1:=h.m1;!:S*(216*M)<=S*S:=Int.mul_le_mul_of_nonneg_left p ~;!e:S*(216*M)=216*(S*M):=by grind
 !q:0<S*M:=Int.mul_pos ~ ~;~
¤Gb.fin{S M K f:Int}(h:Gb S M)(f0:0<=f)(hf:f<=2*(M*M))(k0:0<=K)(hK:K<=24*(S*M)):2*((S*S)*(f*K))+K*K<(S*S)*(S*S):=by
 !m1:=h.m1;!p:=h.pos;!s0:0<S:= ~
 !mm:=h.mm;!q:0<S*M:=Int.mul_pos s0 ~;!a1:f*K<=2*(M*M)*(24*(S*M)):=Int.mul_le_mul hf hK k0 ~;!a2:2*(M*M)*(24*(S*M))=48*(S*(M*(M*M))):=by grind
 !a3:S*(216*(M*(M*M)))<=S*S:=Int.mul_le_mul_of_nonneg_left h.s ~;!a4:S*(216*(M*(M*M)))=216*(S*(M*(M*M))):=by grind
 !a5:9*(f*K)<=2*(S*S):= ~
 !b1:K*K<=(24*(S*M))*(24*(S*M)):=Int.mul_le_mul hK hK k0 ~;!b2:(24*(S*M))*(24*(S*M))=(S*S)*(576*(M*M)):=by grind
 !b3:216*(M*M)<=S:=by !:=h.s;~
 !b4:1*S<=S*S:=Int.mul_le_mul_of_nonneg_right ~ ~;!t0:0<S*S:=Int.mul_pos s0 s0;!b5:3*(576*(M*M))<=S*S:=by
  !:216*S<=S*S:=by
   !:216*S<=S*S:=Int.mul_le_mul_of_nonneg_right ~ ~;#this
  ~
 !c1:(S*S)*(9*(f*K))<=(S*S)*(2*(S*S)):=Int.mul_le_mul_of_nonneg_left a5 ~;!c2:(S*S)*(3*(576*(M*M)))<=(S*S)*(S*S):=Int.mul_le_mul_of_nonneg_left b5 ~;!d1:(S*S)*(9*(f*K))=9*((S*S)*(f*K)):=by grind
 !d2:(S*S)*(2*(S*S))=2*((S*S)*(S*S)):=by grind
 !d3:(S*S)*(3*(576*(M*M)))=3*((S*S)*(576*(M*M))):=by grind
 !t1:0<(S*S)*(S*S):=Int.mul_pos t0 t0;~
¤Er.le{S M a A:Int}(h:Gb S M)(r:Er (S*S) a A)(ha:a<=M*M):A<=S*M:=by
 !m1:=h.m1;!p:=h.pos;refine mM (Int.mul_nonneg ~ ~) ?_;!:(S*S)*a<=(S*S)*(M*M):=Int.mul_le_mul_of_nonneg_left ha (Int.mul_nonneg ~ ~);!e:(S*M)*(S*M)=(S*S)*(M*M):=by grind
 !:=r.lo;~
¤Er.ge{S M a A:Int}(h:Gb S M)(r:Er (S*S) a A)(ha:1<=a):S<=A:=by
 !m1:=h.m1;!p:=h.pos
 by_cases z:S<=A
 ·#z
 ·!:=bY (x:=A+1) (y:=S) (by !:=r.nn;~) ~
  !:(S*S)*1<=(S*S)*a:=Int.mul_le_mul_of_nonneg_left ha (Int.mul_nonneg ~ ~);!:=r.hi;~
¤D1{S M a c A C:Int}(h:Gb S M)(ra:Er (S*S) a A)(rc:Er (S*S) c C)(hc:c<=M*M)(hac:c+1<=a):C+2<A:=by
 !m1:=h.m1;!p:=h.pos
 by_cases z:C+2<A
 ·#z
 ·!c0:=rc.nn
  !h1:=bY (x:=A+1) (y:=C+3) (by !:=ra.nn;~) ~;!e1:(C+3)*(C+3)=C*C+6*C+9:=by grind
  !h2:(S*S)*(c+1)<=(S*S)*a:=Int.mul_le_mul_of_nonneg_left hac (Int.mul_nonneg ~ ~);!e2:(S*S)*(c+1)=(S*S)*c+S*S:=by grind
  !:=ra.hi;!:=rc.lo;!hC:=rc.le h hc;!q:S*1<=S*M:=Int.mul_le_mul_of_nonneg_left m1 ~;!:=h.big (K:=6*C+9) ~;~
¤Er.prod{T a c A C:Int}(hT:0<=T)(ha:0<=a)(hc:0<=c)(ra:Er T a A)(rc:Er T c C):(2*(A*C))*(2*(A*C))<=T*T*(4*(a*c))/\T*T*(4*(a*c))<=(2*((A+1)*(C+1)))*(2*((A+1)*(C+1))):=by
 !a0:=ra.nn;!c0:=rc.nn;!ta:0<=T*a:=Int.mul_nonneg hT ha;!tc:0<=T*c:=Int.mul_nonneg hT hc;!h1:(A*A)*(C*C)<=(T*a)*(T*c):=Int.mul_le_mul ra.lo rc.lo (Int.mul_nonneg c0 c0) ta;!h2:(T*a)*(T*c)<=((A+1)*(A+1))*((C+1)*(C+1)):=Int.mul_le_mul (Int.le_of_lt ra.hi) (Int.le_of_lt rc.hi) tc (Int.mul_nonneg ~ ~);!e1:(2*(A*C))*(2*(A*C))=4*((A*A)*(C*C)):=by grind
 !e2:(2*((A+1)*(C+1)))*(2*((A+1)*(C+1)))=4*(((A+1)*(A+1))*((C+1)*(C+1))):=by grind
 !e3:T*T*(4*(a*c))=4*((T*a)*(T*c)):=by grind
 rw[e1,e2,e3];~
¤vU{S M a c A C f K:Int}(h:Gb S M)(ha:0<=a)(hc:0<=c)(ra:Er (S*S) a A)(rc:Er (S*S) c C)(f1:1<=f)(hf:f<=2*(M*M))(k0:0<=K)(hK:K<=24*(S*M))(hfc:4*(a*c)+1<=f*f)(hle:(S*S)*f<=2*(A*C)+K):False:=by
 !m1:=h.m1;!p:=h.pos;!t0:0<S*S:=Int.mul_pos ~ ~;!big:=h.big hK;!g1:(S*S)*1<=(S*S)*f:=Int.mul_le_mul_of_nonneg_left f1 ~;!y0:0<=(S*S)*f - K:= ~
 !y1:=bY (x:=(S*S)*f - K) (y:=2*(A*C)) y0 ~;!y2:=(Er.prod ~ ha hc ra rc).1;!y3:(S*S)*(S*S)*(4*(a*c)+1)<=(S*S)*(S*S)*(f*f):=Int.mul_le_mul_of_nonneg_left hfc (Int.mul_nonneg ~ ~);!y4:=h.fin ~ hf k0 hK;!e1:((S*S)*f - K)*((S*S)*f - K)=(S*S)*(S*S)*(f*f) - 2*((S*S)*(f*K))+K*K:=by grind
 !e2:(S*S)*(S*S)*(4*(a*c)+1)=(S*S)*(S*S)*(4*(a*c))+(S*S)*(S*S):=by grind
 !kk:0<=K*K:=Int.mul_nonneg k0 k0;~
¤zt{S M a c A C f K:Int}(h:Gb S M)(ha:0<=a)(hc:0<=c)(ra:Er (S*S) a A)(rc:Er (S*S) c C)(f0:0<=f)(hf:f<=2*(M*M))(k0:0<=K)(hK:K<=24*(S*M))(hfc:f*f+1<=4*(a*c))(hle:2*((A+1)*(C+1))<=(S*S)*f+K):False:=by
 !m1:=h.m1;!p:=h.pos;!t0:0<S*S:=Int.mul_pos ~ ~;!a0:=ra.nn;!c0:=rc.nn;!z0:0<=2*((A+1)*(C+1)):=by
  !:0<=(A+1)*(C+1):=Int.mul_nonneg ~ ~;~
 !y1:=bY z0 hle;!y2:=(Er.prod ~ ha hc ra rc).2;!y3:(S*S)*(S*S)*(f*f+1)<=(S*S)*(S*S)*(4*(a*c)):=Int.mul_le_mul_of_nonneg_left hfc (Int.mul_nonneg ~ ~);!y4:=h.fin f0 hf k0 hK;!e1:((S*S)*f+K)*((S*S)*f+K)=(S*S)*(S*S)*(f*f)+2*((S*S)*(f*K))+K*K:=by grind
 !e2:(S*S)*(S*S)*(f*f+1)=(S*S)*(S*S)*(f*f)+(S*S)*(S*S):=by grind
 ~
section
variable {S M a c A C v:Int}
¤L1(h:Gb S M)(ha:0<=a)(hc:0<=c)(haM:a<=M*M)(hcM:c<=M*M)(ra:Er (S*S) a A)(rc:Er (S*S) c C)(v0:0<=v)(hv:v<=M)(he:0<v*v - a - c)(hd:4*(a*c)+1<=(v*v - a - c)*(v*v - a - c)):2<v*S - A - C:=by
 by_cases z:2<v*S - A - C
 ·#z
 exfalso;!m1:=h.m1;!p:=h.pos;!a0:=ra.nn;!c0:=rc.nn;!hA:=ra.le h haM;!hC:=rc.le h hcM;!q:S*1<=S*M:=Int.mul_le_mul_of_nonneg_left m1 ~;!vv:v*v<=M*M:=bY v0 hv;!s1:=bY (x:=v*S) (y:=A+C+2) (Int.mul_nonneg v0 ~) ~;!e1:(v*S)*(v*S)=(S*S)*(v*v):=by grind
 !e2:(A+C+2)*(A+C+2)=A*A+C*C+2*(A*C)+4*A+4*C+4:=by grind
 !e3:(S*S)*(v*v - a - c)=(S*S)*(v*v) - (S*S)*a - (S*S)*c:=by grind
 !:=ra.lo;!:=rc.lo;#vU h ha hc ra rc (f:=v*v - a - c) (K:=4*A+4*C+4) ~ ~ ~ ~ hd ~
¤L2(h:Gb S M)(ha:0<=a)(hc:0<=c)(ra:Er (S*S) a A)(rc:Er (S*S) c C)(v0:0<=v)(hv:v<=M)(hd:v*v - a - c<0\/(0<=v*v - a - c/\(v*v - a - c)*(v*v - a - c)+1<=4*(a*c))):v*S - A - C < -2:=by
 by_cases z:v*S - A - C < -2
 ·#z
 exfalso;!m1:=h.m1;!p:=h.pos;!a0:=ra.nn;!c0:=rc.nn;!q:S*1<=S*M:=Int.mul_le_mul_of_nonneg_left m1 ~;!vs:v*S<=M*S:=Int.mul_le_mul_of_nonneg_right hv ~;!ms:M*S=S*M:=Int.mul_comm _ _;!vv:v*v<=M*M:=bY v0 hv;!s1:=bY (x:=A+1+(C+1)) (y:=v*S+4) ~ ~;!e1:(v*S+4)*(v*S+4)=(S*S)*(v*v)+8*(v*S)+16:=by grind
 !e2:(A+1+(C+1))*(A+1+(C+1))=(A+1)*(A+1)+(C+1)*(C+1)+2*((A+1)*(C+1)):=by grind
 !e3:(S*S)*(v*v - a - c)=(S*S)*(v*v) - (S*S)*a - (S*S)*c:=by grind
 !:=ra.hi;!:=rc.hi;!vs0:0<=v*S:=Int.mul_nonneg v0 ~;!z0:0<=(A+1)*(C+1):=Int.mul_nonneg ~ ~;rcases hd with hd|⟨hd0,hd⟩
 ·!g:(S*S)*(v*v - a - c)<=(S*S)*(-1):=Int.mul_le_mul_of_nonneg_left ~ (Int.mul_nonneg ~ ~)
  !:=h.big (K:=8*(v*S)+16) ~;~
 ·#zt h ha hc ra rc (f:=v*v - a - c) (K:=8*(v*S)+16) hd0 ~ ~ ~ hd ~
¤L3(h:Gb S M)(ha:0<=a)(hc:0<=c)(ra:Er (S*S) a A)(rc:Er (S*S) c C)(v0:0<=v)(he:0<=v*v - a - c)(hd:(v*v - a - c)*(v*v - a - c)=4*(a*c)):-2<=v*S - A - C/\v*S - A - C<=2:=by
 !m1:=h.m1;!p:=h.pos;!a0:=ra.nn;!c0:=rc.nn;!t0:0<=S*S:=Int.mul_nonneg ~ ~;!vs0:0<=v*S:=Int.mul_nonneg v0 ~;!pr:=Er.prod t0 ha hc ra rc;!e0:(S*S*(v*v - a - c))*(S*S*(v*v - a - c))=S*S*(S*S)*(4*(a*c)):=by rw[<- hd];grind
 !te:0<=S*S*(v*v - a - c):=Int.mul_nonneg t0 he;!k1:2*(A*C)<=S*S*(v*v - a - c):=mM te ~;!z0:0<=(A+1)*(C+1):=Int.mul_nonneg ~ ~;!k2:S*S*(v*v - a - c)<=2*((A+1)*(C+1)):=mM ~ ~;!e3:(S*S)*(v*v - a - c)=(S*S)*(v*v) - (S*S)*a - (S*S)*c:=by grind
 !e4:(v*S)*(v*S)=(S*S)*(v*v):=by grind
 !e5:(A+C)*(A+C)=A*A+C*C+2*(A*C):=by grind
 !e6:(A+1+(C+1))*(A+1+(C+1))=(A+1)*(A+1)+(C+1)*(C+1)+2*((A+1)*(C+1)):=by grind
 !:=ra.lo;!:=rc.lo;!:=ra.hi;!:=rc.hi;!h1:A+C<=v*S:=mM vs0 ~;!h2:v*S<=A+1+(C+1):=mM ~ ~;~
¤L4(h:Gb S M)(ha:0<=a)(hc:0<=c)(haM:a<=M*M)(hcM:c<=M*M)(ra:Er (S*S) a A)(rc:Er (S*S) c C)(v0:0<v)(hd:0<v*v - a - c\/(v*v - a - c<=0/\(v*v - a - c)*(v*v - a - c)+1<=4*(a*c))):2<v*S+A - C:=by
 by_cases z:2<v*S+A - C
 ·#z
 exfalso;!m1:=h.m1;!p:=h.pos;!a0:=ra.nn;!c0:=rc.nn;!hA:=ra.le h haM;!hC:=rc.le h hcM;!q:S*1<=S*M:=Int.mul_le_mul_of_nonneg_left m1 ~;!s1:=bY (x:=v*S) (y:=C - A+2) (Int.mul_nonneg ~ ~) ~;!e1:(v*S)*(v*S)=(S*S)*(v*v):=by grind
 !e2:(C - A+2)*(C - A+2)=A*A+C*C - 2*(A*C)+4*C - 4*A+4:=by grind
 !e3:(S*S)*(v*v - a - c)=(S*S)*(v*v) - (S*S)*a - (S*S)*c:=by grind
 !e4:(A+1)*(C+1)=A*C+A+C+1:=by grind
 !:=ra.lo;!:=rc.lo;!ac0:0<=A*C:=Int.mul_nonneg a0 c0;rcases hd with hd|⟨hd0,hd⟩
 ·!g:(S*S)*1<=(S*S)*(v*v - a - c):=Int.mul_le_mul_of_nonneg_left ~ (Int.mul_nonneg ~ ~)
  !:=h.big (K:=4*C+4) ~;~
 ·!e5:(S*S)*(-(v*v - a - c)) = -((S*S)*(v*v - a - c)):=by grind
  !vv:0<=v*v:=Int.mul_nonneg ~ ~;!e6:-(v*v - a - c) * -(v*v - a - c)=(v*v - a - c)*(v*v - a - c):=by grind
  #zt h ha hc ra rc (f:=-(v*v - a - c)) (K:=6*C+2*A+6) ~ ~ ~ ~ (by rw[e6];#hd) ~
¤L5(h:Gb S M)(ha:0<=a)(hc:0<=c)(haM:a<=M*M)(hcM:c<=M*M)(hac:a<=c)(ra:Er (S*S) a A)(rc:Er (S*S) c C)(v0:0<v)(hv:v<=M)(he:v*v - a - c<0)(hd:4*(a*c)+1<=(v*v - a - c)*(v*v - a - c)):v*S+A - C < -2:=by
 by_cases z:v*S+A - C < -2
 ·#z
 exfalso;!m1:=h.m1;!p:=h.pos;!a0:=ra.nn;!c0:=rc.nn;!hA:=ra.le h haM;!hC:=rc.le h hcM;!q:S*1<=S*M:=Int.mul_le_mul_of_nonneg_left m1 ~;!vs:v*S<=M*S:=Int.mul_le_mul_of_nonneg_right hv ~;!ms:M*S=S*M:=Int.mul_comm _ _;!t0:0<=S*S:=Int.mul_nonneg ~ ~;!hAC:=Er.mono t0 ra rc hac;!vs0:0<=v*S:=Int.mul_nonneg ~ ~;!s1:=bY (x:=C - A) (y:=v*S+2) ~ ~;!e1:(v*S+2)*(v*S+2)=(S*S)*(v*v)+4*(v*S)+4:=by grind
 !e2:(C - A)*(C - A)=A*A+C*C - 2*(A*C):=by grind
 !e3:(S*S)*(v*v - a - c)=(S*S)*(v*v) - (S*S)*a - (S*S)*c:=by grind
 !e5:(S*S)*(-(v*v - a - c)) = -((S*S)*(v*v - a - c)):=by grind
 !e6:-(v*v - a - c) * -(v*v - a - c)=(v*v - a - c)*(v*v - a - c):=by grind
 !e7:(A+1)*(A+1)=A*A+2*A+1:=by grind
 !e8:(C+1)*(C+1)=C*C+2*C+1:=by grind
 !vv:0<=v*v:=Int.mul_nonneg ~ ~;!:=ra.hi;!:=rc.hi;#vU h ha hc ra rc (f:=-(v*v - a - c)) (K:=4*(v*S)+4+2*A+2*C) ~ ~ ~ ~ (by rw[e6];#hd) ~
¤L6(h:Gb S M)(ha:0<=a)(hc:0<=c)(hac:a<=c)(ra:Er (S*S) a A)(rc:Er (S*S) c C)(v0:0<v)(he:v*v - a - c<=0)(hd:(v*v - a - c)*(v*v - a - c)=4*(a*c)):-2<=v*S+A - C/\v*S+A - C<=2:=by
 !m1:=h.m1;!p:=h.pos;!a0:=ra.nn;!c0:=rc.nn;!t0:0<S*S:=Int.mul_pos ~ ~;!vs0:0<v*S:=Int.mul_pos ~ ~;!aa:a*a<=a*c:=Int.mul_le_mul_of_nonneg_left hac ha;!f2:2*a<=-(v*v - a - c):=mM ~ (by
  !e1:(2*a)*(2*a)=4*(a*a):=by grind
  !e2:-(v*v - a - c) * -(v*v - a - c)=(v*v - a - c)*(v*v - a - c):=by grind
  rw[e1,e2,hd];~)
 !g0:0<=c - a - v*v:= ~
 !gg:(c - a - v*v)*(c - a - v*v)=4*(v*v*a):=by
  !:(c - a - v*v)*(c - a - v*v) - 4*(v*v*a)=(v*v - a - c)*(v*v - a - c) - 4*(a*c):=by grind
  ~
 !:=ra.lo;!:=rc.lo;!:=ra.hi;!:=rc.hi;!e3:(S*S)*(c - a - v*v)=(S*S)*c - (S*S)*a - (S*S)*(v*v):=by grind
 !sg0:0<=S*(c - a - v*v):=Int.mul_nonneg ~ g0;!k1:C<=v*S+A:=by
  by_cases z:C<=v*S+A
  ·#z
  exfalso;!s1:=bY (x:=v*S+(A+1)) (y:=C) ~ ~;!e1:(v*S+(A+1))*(v*S+(A+1))=(S*S)*(v*v)+S*(2*(v*(A+1)))+(A+1)*(A+1):=by grind
  !e2:(S*S)*(c - a - v*v)=S*(S*(c - a - v*v)):=by grind
  !l1:S*(2*(v*(A+1)))<S*(S*(c - a - v*v)):= ~
  !l2:2*(v*(A+1))<S*(c - a - v*v):=Int.lt_of_mul_lt_mul_left l1 ~;!va:0<=v*(A+1):=Int.mul_nonneg ~ ~;!l3:=bY (x:=2*(v*(A+1))) (y:=S*(c - a - v*v)) ~ ~;!e4:(S*(c - a - v*v))*(S*(c - a - v*v))=4*(v*v*(S*S*a)):=by
   !:(S*(c - a - v*v))*(S*(c - a - v*v))=(S*S)*((c - a - v*v)*(c - a - v*v)):=by grind
   rw[this,gg];grind
  !e5:(2*(v*(A+1)))*(2*(v*(A+1)))=4*(v*v*((A+1)*(A+1))):=by grind
  !l4:v*v*(S*S*a)<v*v*((A+1)*(A+1)):=Int.mul_lt_mul_of_pos_left ra.hi (Int.mul_pos v0 v0);~
 !k2:v*S+A<=C+1:=by
  by_cases z:v*S+A<=C+1
  ·#z
  exfalso;!s1:=bY (x:=C+1) (y:=v*S+A) ~ ~;!e1:(v*S+A)*(v*S+A)=(S*S)*(v*v)+S*(2*(v*A))+A*A:=by grind
  !e2:(S*S)*(c - a - v*v)=S*(S*(c - a - v*v)):=by grind
  !l1:S*(S*(c - a - v*v))<S*(2*(v*A)):= ~
  !l2:S*(c - a - v*v)<2*(v*A):=Int.lt_of_mul_lt_mul_left l1 ~;!l3:(S*(c - a - v*v))*(S*(c - a - v*v))<(2*(v*A))*(2*(v*A)):=oU sg0 l2;!e4:(S*(c - a - v*v))*(S*(c - a - v*v))=4*(v*v*(S*S*a)):=by
   !:(S*(c - a - v*v))*(S*(c - a - v*v))=(S*S)*((c - a - v*v)*(c - a - v*v)):=by grind
   rw[this,gg];grind
  !e5:(2*(v*A))*(2*(v*A))=4*(v*v*(A*A)):=by grind
  !l4:v*v*(A*A)<=v*v*(S*S*a):=Int.mul_le_mul_of_nonneg_left ra.lo (Int.mul_nonneg ~ ~);~
 ~
end
¤cP{x:Int}(h:0<x):sg x=1:=by unfold sg;rw[if_pos h]
¤d6{x:Int}(h:x<0):sg x = -1:=by unfold sg;rw[if_neg ~,if_pos h]
¤hO{x:Int}(h:x=0):sg x=0:=by subst h;rfl
¤dG(x:Int):sg (-x) = -sg x:=by
 rcases Int.lt_trichotomy x 0 with h|h|h
 ·rw[d6 h,cP ~];rfl
 ·subst h;rfl
 ·rw[cP h,d6 ~]
¦iz(x:Int):Int:=(if decide (x>2)=true then 1 else 0) - (if decide (x < -2)=true then 1 else 0)
¤fG{x:Int}(h:2<x):iz x=1:=by
 unfold iz;rw[decide_eq_true (show x>2 from h),decide_eq_false (show ¬x < -2 by omega)];rfl
¤kJ{x:Int}(h:x < -2):iz x = -1:=by
 unfold iz;rw[decide_eq_false (show ¬x>2 by omega),decide_eq_true h];rfl
¤jb{x:Int}(h:-2<=x/\x<=2):iz x=0:=by
 unfold iz;rw[decide_eq_false (show ¬x>2 by omega),decide_eq_false (show ¬x < -2 by omega)];rfl
¤kI(x:Int):iz (-x) = -iz x:=by
 by_cases h:2<x
 ·rw[fG h,kJ ~]
 by_cases h2:x < -2
 ·rw[kJ h2,fG ~];rfl
 ·rw[jb (x:=x) ~,jb ~];rfl
¤dE{x:Int}(h:0<=x):ssq x=x*x:=by unfold ssq;rw[if_neg ~]
¤dN{x:Int}(h:x<0):ssq x = -(x*x):=by unfold ssq;rw[if_pos h,Int.mul_neg]
section
variable {S M a c A C w:Int}
¦Gp(w a c:Int):Int:=if sg w*sg (a+c)>=0 then sg (sg w+sg (a+c)) else sg w*sg (ssq (w*w - a - c) - 4*(a*c))
¦Gm(w a c:Int):Int:=if sg w*sg (a - c)>=0 then sg (sg w+sg (a - c)) else sg w*sg (ssq (w*w - a - c)+4*(a*c))
¤rt0(h:Gb S M)(r:Er (S*S) 0 A):A=0:=by
 !h0:Er (S*S) 0 0:=⟨Int.le_refl _,by simp,by simp⟩;#r.uniq h0
¤pp(h:Gb S M)(ha:0<=a)(hc:0<=c)(haM:a<=M*M)(hcM:c<=M*M)(ra:Er (S*S) a A)(rc:Er (S*S) c C)(hw0:-M<=w)(hw1:w<=M):iz (w*S+A+C)=Gp w a c:=by
 !m1:=h.m1;!p:=h.pos;!a0:=ra.nn;!c0:=rc.nn;unfold Gp
 by_cases w0:0<w
 ·!:1*S<=w*S:=Int.mul_le_mul_of_nonneg_right ~ ~
  rw[fG ~,cP w0];rcases Int.lt_or_eq_of_le (show 0<=a+c by omega) with g|g
  ·rw[cP g];rfl
  ·rw[hO g.symm];rfl
 by_cases wz:w=0
 ·subst wz
  by_cases a1:1<=a
  ·!:=ra.ge h a1
   rw[fG ~,cP (show 0<a+c by omega)];rfl
  by_cases c1:1<=c
  ·!:=rc.ge h c1
   rw[fG ~,cP (show 0<a+c by omega)];rfl
  !ea:a=0:= ~
  !ec:c=0:= ~
  subst ea ec;rw[rt0 h ra,rt0 h rc,Int.zero_mul];rfl
 !wn:w<0:= ~
 !ws:w*S<=-1*S:=Int.mul_le_mul_of_nonneg_right ~ ~;rw[d6 wn]
 by_cases ac:a+c=0
 ·!ea:a=0:= ~
  !ec:c=0:= ~
  subst ea ec;rw[rt0 h ra,rt0 h rc,kJ ~];rfl
 rw[cP (show 0<a+c by omega),if_neg &];!e1:w*S+A+C = -(-w*S - A - C):=by grind
 !e2:w*w - a - c = -w * -w - a - c:=by grind
 rw[e1,kI,e2];!hac:0<=a*c:=Int.mul_nonneg ha hc;generalize ee:-w * -w - a - c=e at *;rcases Int.lt_trichotomy (ssq e - 4*(a*c)) 0 with g|g|g
 ·!k:e<0\/(0<=e/\e*e+1<=4*(a*c)):=by
   by_cases e0:e<0
   ·#.inl e0
   ·rw[dE ~]at g
    #.inr ⟨~,~⟩
  rw[d6 g,kJ (L2 h ha hc ra rc ~ ~ (by rw[ee];#k))];rfl
 ·!e0:0<=e:=by
   by_cases e0:e<0
   ·rw[dN e0]at g
    !:0<e*e:=Int.mul_pos_of_neg_of_neg e0 e0;~
   ·~
  rw[dE e0]at g;rw[hO (show ssq e - 4*(a*c)=0 by rw[dE e0];#g),jb (L3 h ha hc ra rc ~ (by rw[ee];#e0) (by rw[ee];~))];rfl
 ·!e0:0<e:=by
   by_cases e0:e<0
   ·rw[dN e0]at g
    !:0<e*e:=Int.mul_pos_of_neg_of_neg e0 e0;~
   ·by_cases e1:e=0
    ·subst e1
     rw[show ssq 0=0 from rfl]at g;~
    ·~
  rw[cP g];rw[dE ~]at g;rw[fG (L1 h ha hc haM hcM ra rc ~ ~ (by rw[ee];#e0) (by rw[ee];~))];rfl
¤Bi(w a c:Int):Gm (-w) c a = -Gm w a c:=by
 unfold Gm;rw[dG,show c - a = -(a - c) by omega,dG,Int.neg_mul_neg,show -w * -w - c - a=w*w - a - c by grind,Int.mul_comm c a]
 by_cases g:sg w*sg (a - c)>=0
 ·rw[if_pos g,if_pos g,show -sg w + -sg (a - c) = -(sg w+sg (a - c)) by omega,dG]
 ·rw[if_neg g,if_neg g,Int.neg_mul]
¤pm1(h:Gb S M)(ha:0<=a)(hc:0<=c)(haM:a<=M*M)(hcM:c<=M*M)(ra:Er (S*S) a A)(rc:Er (S*S) c C)(w0:0<w)(hw1:w<=M)(hac:a<c):iz (w*S+A - C)=sg (ssq (w*w - a - c)+4*(a*c)):=by
 !hp:0<=a*c:=Int.mul_nonneg ha hc;generalize ee:w*w - a - c=e at *;rcases Int.lt_trichotomy (ssq e+4*(a*c)) 0 with g|g|g
 ·!e0:e<0:=by
   by_cases e0:e<0
   ·#e0
   ·rw[dE ~]at g
    !:0<=e*e:=Int.mul_nonneg ~ ~;~
  rw[d6 g];rw[dN e0]at g;#kJ (L5 h ha hc haM hcM ~ ra rc w0 hw1 (by rw[ee];#e0) (by rw[ee];~))
 ·!e0:e<=0:=by
   by_cases e0:e<=0
   ·#e0
   ·rw[dE ~]at g
    !:0<e*e:=Int.mul_pos ~ ~;~
  rw[hO g];!g2:e*e=4*(a*c):=by
   by_cases e1:e<0
   ·rw[dN e1]at g;~
   ·!:e=0:= ~
    subst this;rw[show ssq 0=0 from rfl]at g;~
  #jb (L6 h ha hc ~ ra rc w0 (by rw[ee];#e0) (by rw[ee];#g2))
 ·rw[cP g]
  refine fG (L4 h ha hc haM hcM ra rc w0 ?_);rw[ee]
  by_cases e0:0<e
  ·#.inl e0
  ·refine .inr ⟨~,?_⟩
   by_cases e1:e<0
   ·rw[dN e1]at g;~
   ·!:e=0:= ~
    subst this;rw[show ssq 0=0 from rfl]at g;~
¤pm2(h:Gb S M)(ha:0<=a)(hc:0<=c)(haM:a<=M*M)(hcM:c<=M*M)(ra:Er (S*S) a A)(rc:Er (S*S) c C)(w0:0<=w)(hw1:w<=M)(hz:0<w\/c<=a):iz (w*S+A - C)=Gm w a c:=by
 !m1:=h.m1;!p:=h.pos;!t0:0<=S*S:=Int.mul_nonneg ~ ~
 by_cases hac:a<c
 ·!w1:0<w:= ~
  rw[pm1 h ha hc haM hcM ra rc w1 hw1 hac];unfold Gm;rw[cP w1,d6 (show a - c<0 by omega),if_neg &,Int.one_mul]
 !hle:=Er.mono t0 rc ra (show c<=a by omega);unfold Gm
 by_cases w1:0<w
 ·!:1*S<=w*S:=Int.mul_le_mul_of_nonneg_right ~ ~
  rw[fG ~,cP w1];rcases Int.lt_or_eq_of_le (show 0<=a - c by omega) with g|g
  ·rw[cP g];rfl
  ·rw[hO g.symm];rfl
 !wz:w=0:= ~
 subst wz
 by_cases hlt:c+1<=a
 ·!:=D1 h ra rc hcM hlt
  rw[fG ~,cP (show 0<a - c by omega)];rfl
 ·!e:a=c:= ~
  subst e;!e2:=ra.uniq rc;subst e2;rw[jb ~,hO (show a - a=0 by omega)];rfl
¤pm(h:Gb S M)(ha:0<=a)(hc:0<=c)(haM:a<=M*M)(hcM:c<=M*M)(ra:Er (S*S) a A)(rc:Er (S*S) c C)(hw0:-M<=w)(hw1:w<=M):iz (w*S+A - C)=Gm w a c:=by
 by_cases g:0<w\/(w=0/\c<=a)
 ·#pm2 h ha hc haM hcM ra rc ~ hw1 ~
 ·!k:=pm2 h hc ha hcM haM rc ra (w:=-w) ~ ~ ~
  rw[Bi,show -w*S+C - A = -(w*S+A - C) by grind,kI]at k;~
end
¤xo{S M w m u n l A C:Int}(h:Gb S M)(hu:0<=u)(hl:0<=l)(haM:m*m*u<=M*M)(hcM:n*n*l<=M*M)(ra:Er (S*S) (m*m*u) A)(rc:Er (S*S) (n*n*l) C)(hw0:-M<=w)(hw1:w<=M) :
  iz (w*S+A*sg m - C*sg n)=cR w m u (-n) l:=by
 !mm:0<=m*m:=by
  rcases Int.lt_or_le m 0 with g|g
  ·#Int.le_of_lt (Int.mul_pos_of_neg_of_neg g g)
  ·#Int.mul_nonneg g g
 !nn:0<=n*n:=by
  rcases Int.lt_or_le n 0 with g|g
  ·#Int.le_of_lt (Int.mul_pos_of_neg_of_neg g g)
  ·#Int.mul_nonneg g g
 !ha:0<=m*m*u:=Int.mul_nonneg mm hu;!hc:0<=n*n*l:=Int.mul_nonneg nn hl;!key:∀(x y z:Int),ssq m*u+ssq (-n)*l=x->ssq (-2*m * -n)*(u*l)=y->cR w m u (-n) l=if sg w*sg x>=0 then sg (sg w+sg x) else sg w*sg (ssq (w*w - m*m*u - n*n*l)+y):=by
  intro x y z hx hy;unfold cR swr;rw[hx,hy,show -n * -n*l=n*n*l by grind]
 !s1:∀{x:Int},0<=x->ssq x=x*x:=λh=>dE h;!s2:∀{x:Int},x<=0->ssq x = -(x*x):=λ{x} h=>by
  by_cases g:x<0
  ·#dN g
  ·!:x=0:= ~
   subst this;rfl
 !sA:m=0->A=0:=λe=>by subst e;#rt0 h (by simpa using ra)
 !sC:n=0->C=0:=λe=>by subst e;#rt0 h (by simpa using rc)
 !A1:0<=m->A*sg m=A:=λg=>by
  by_cases e:m=0
  ·rw[sA e];simp
  ·rw[cP ~,Int.mul_one]
 !A2:m<=0->A*sg m = -A:=λg=>by
  by_cases e:m=0
  ·rw[sA e];simp
  ·rw[d6 ~,Int.mul_neg,Int.mul_one]
 !C1:0<=n->C*sg n=C:=λg=>by
  by_cases e:n=0
  ·rw[sC e];simp
  ·rw[cP ~,Int.mul_one]
 !C2:n<=0->C*sg n = -C:=λg=>by
  by_cases e:n=0
  ·rw[sC e];simp
  ·rw[d6 ~,Int.mul_neg,Int.mul_one]
 rcases Int.le_total 0 m with gm|gm
 ·rcases Int.le_total 0 n with gn|gn
  ·-- + -
   !hp:0<=m*n:=Int.mul_nonneg gm gn;rw[A1 gm,C1 gn,key (m*m*u - n*n*l) (4*(m*m*u*(n*n*l))) 0 (by rw[s1 gm,s2 ~];grind) (by rw[show -2*m * -n=2*(m*n) by grind,s1 ~];grind)];#pm h ha hc haM hcM ra rc hw0 hw1
  ·-- + +
   !hp:m*n<=0:=Int.mul_nonpos_of_nonneg_of_nonpos gm gn;rw[A1 gm,C2 gn,key (m*m*u+n*n*l) (-(4*(m*m*u*(n*n*l)))) 0 (by rw[s1 gm,s1 ~];grind) (by rw[show -2*m * -n=2*(m*n) by grind,s2 ~];grind),show w*S+A - -C=w*S+A+C by omega];!k:=pp h ha hc haM hcM ra rc hw0 hw1;rw[k];rfl
 ·rcases Int.le_total 0 n with gn|gn
  ·-- - -
   !hp:m*n<=0:=Int.mul_nonpos_of_nonpos_of_nonneg gm gn;rw[A2 gm,C1 gn,key (-(m*m*u+n*n*l)) (-(4*(m*m*u*(n*n*l)))) 0 (by rw[s2 gm,s2 ~];grind) (by rw[show -2*m * -n=2*(m*n) by grind,s2 ~];grind),show w*S + -A - C = -(-w*S+A+C) by grind,kI];!k:=pp h ha hc haM hcM ra rc (w:=-w) ~ ~;rw[k];unfold Gp;rw[show -w * -w=w*w by grind,dG w,dG (m*m*u+n*n*l),Int.neg_mul,Int.mul_neg]
   by_cases g:-(sg w*sg (m*m*u+n*n*l))>=0
   ·rw[if_pos g,if_pos g,show sg w + -sg (m*m*u+n*n*l) = -(-sg w+sg (m*m*u+n*n*l)) by omega,dG]
   ·rw[if_neg g,if_neg g,Int.neg_mul,Int.neg_neg]
    rfl
  ·-- - +
   !hp:0<=m*n:=Int.mul_nonneg_of_nonpos_of_nonpos gm gn;rw[A2 gm,C2 gn,key (n*n*l - m*m*u) (4*(m*m*u*(n*n*l))) 0 (by rw[s2 gm,s1 ~];grind) (by rw[show -2*m * -n=2*(m*n) by grind,s1 ~];grind),show w*S + -A - -C=w*S+C - A by omega];!k:=pm h hc ha hcM haM rc ra hw0 hw1;rw[k];unfold Gm;rw[show w*w - n*n*l - m*m*u=w*w - m*m*u - n*n*l by omega,Int.mul_comm (n*n*l)]
end Sp5
namespace Sp6
open PySem PySem.Spec L2 Mth Sp1 Sp2 Sp3 Sp24 Sp5
¦sh:Nat->Int->Int->Int->Int->Option (List Int)
 | 0,_,_,_,_=>none
 | n+1,lo,hi,b,l=>if lo / b*b=lo then some [lo / b] else if (lo / b+1)*l<=hi then some [lo / b+1] else (sh n l b (hi - lo / b*l) (lo - lo / b*b)).map (lo / b::·)
¦fr:List Int->Int×Int
 | []=>(0,1)
 | [c]=>(c,1)
 | c::d::r=>(c*(fr (d::r)).1+(fr (d::r)).2,(fr (d::r)).1)
¤sY{c:Int}{r:List Int}(h:r≠[]):fr (c::r)=(c*(fr r).1+(fr r).2,(fr r).1):=by
 cases r with
 | nil=>#absurd rfl h
 | cons d r=>rfl
¤rY:∀{n:Nat} {lo hi b l:Int} {ts:List Int},0<b->0<l->lo*l<hi*b->sh n lo hi b l=some ts->ts≠[]/\0<(fr ts).2/\lo*(fr ts).2<=(fr ts).1*b/\(fr ts).1*l<=hi*(fr ts).2/\(fr ts).2<=b/\(fr ts).2<=l/\(0<lo->0<(fr ts).1/\(fr ts).1<=lo/\(fr ts).1<=hi)
 | 0,_,_,_,_,_,_,_,_,h=>by cases h
 | n+1,lo,hi,b,l,ts,hb,hl,hd,h=>by
  unfold sh at h;generalize hq:lo / b=q at h;!m0:=Int.emod_nonneg lo (show b≠0 by omega);!m1:=Int.emod_lt_of_pos lo hb;!m2:q*b+lo % b=lo:=by rw[<- hq];!:=Int.ediv_mul_add_emod lo b;~
  by_cases h1:q*b=lo
  ·rw[if_pos h1]at h
   cases h;!e1:q*l<hi:=by
    !:q*l*b<hi*b:=by rw[show q*l*b=q*b*l by grind,h1];#hd
    #Int.lt_of_mul_lt_mul_right this ~
   ¶by simp,by show(0:Int)<1;decide,?_,?_,by show(1:Int)<=b;~,by show(1:Int)<=l;~,λh0=>?_
   ·show lo*1<=q*b
    ~
   ·show q*l<=hi*1
    ~
   ·!q0:0<q:=by
     rcases Int.lt_or_le 0 q with g|g
     ·#g
     ·!:=Int.mul_nonpos_of_nonpos_of_nonneg g (show 0<=b by omega)
      ~
    !q1:q*1<=q*b:=Int.mul_le_mul_of_nonneg_left ~ ~;!q2:q*1<=q*l:=Int.mul_le_mul_of_nonneg_left ~ ~;§q0,by show q<=lo;~,(by show q<=hi;~)
  ·rw[if_neg h1]at h
   by_cases h2:(q+1)*l<=hi
   ·rw[if_pos h2]at h
    cases h;!e2:(q+1)*b=q*b+b:=by grind
    ¶by simp,by show(0:Int)<1;decide,?_,?_,by show(1:Int)<=b;~,by show(1:Int)<=l;~,λh0=>?_
    ·show lo*1<=(q+1)*b
     ~
    ·show(q+1)*l<=hi*1
     ~
    ·!q0:0<=q:=by rw[<- hq];#Int.ediv_nonneg ~ ~
     !q1:q*1<=q*b:=Int.mul_le_mul_of_nonneg_left ~ q0;!q2:(q+1)*1<=(q+1)*l:=Int.mul_le_mul_of_nonneg_left ~ ~;§by show 0<q+1;~,by show q+1<=lo;~,(by show q+1<=hi;~)
   ·rw[if_neg h2]at h
    @us,hu,rfl:=Option.map_eq_some_iff.mp h;!e2:(q+1)*l=q*l+l:=by grind
    !hh:0<hi - q*l:=by
     !a1:q*b*l<lo*l:=Int.mul_lt_mul_of_pos_right ~ hl;!a2:q*l*b<hi*b:=by rw[show q*l*b=q*b*l by grind];~
     !:=Int.lt_of_mul_lt_mul_right a2 ~;~
    !hlr:0<lo - q*b:= ~
    !hdet:l*(lo - q*b)<b*(hi - q*l):=by
     !e3:l*(lo - q*b)=lo*l - q*b*l:=by grind
     !e4:b*(hi - q*l)=hi*b - q*b*l:=by grind
     ~
    @i1,i2,i3,i4,i5,i6,i7:=rY hh hlr hdet hu;@j1,j2,j3:=i7 hl;rw[sY i1];generalize (fr us).1=t at *;generalize (fr us).2=u at *;¶by simp,j1,?_,?_,j3,j2,λh0=>?_
    ·show lo*t<=(q*t+u)*b
     !e5:(q*t+u)*b=q*b*t+b*u:=by grind
     !e6:t*(lo - q*b)=lo*t - q*b*t:=by grind
     ~
    ·show(q*t+u)*l<=hi*t
     !e5:(q*t+u)*l=q*l*t+l*u:=by grind
     !e6:t*(hi - q*l)=hi*t - q*l*t:=by grind
     ~
    ·!q0:0<=q:=by rw[<- hq];#Int.ediv_nonneg ~ ~
     !p0:0<=q*t:=Int.mul_nonneg q0 ~;!p1:q*t<=q*b:=Int.mul_le_mul_of_nonneg_left j3 q0;!p2:q*t<=q*l:=Int.mul_le_mul_of_nonneg_left j2 q0;§by show 0<q*t+u;~,by show q*t+u<=lo;~,(by show q*t+u<=hi;~)
¤st{lo hi b l:Int}(hb:0<b)(hl:0<l)(hd:lo*l<hi*b)(h1:¬lo / b*b=lo)(h2:¬(lo / b+1)*l<=hi) :
  (0<hi - lo / b*l/\hi - lo / b*l<l)/\(0<lo - lo / b*b/\lo - lo / b*b<b)/\l*(lo - lo / b*b)<b*(hi - lo / b*l):=by
 !m0:=Int.emod_nonneg lo (show b≠0 by omega);!m1:=Int.emod_lt_of_pos lo hb;!m2:lo / b*b+lo % b=lo:=by !:=Int.ediv_mul_add_emod lo b;~
 generalize lo / b=q at *;!e2:(q+1)*l=q*l+l:=by grind
 !hh:0<hi - q*l:=by
  !a1:q*b*l<lo*l:=Int.mul_lt_mul_of_pos_right ~ hl;!a2:q*l*b<hi*b:=by rw[show q*l*b=q*b*l by grind];~
  !:=Int.lt_of_mul_lt_mul_right a2 ~;~
 ?⟨hh,~⟩,⟨~,~⟩;!e3:l*(lo - q*b)=lo*l - q*b*l:=by grind
 !e4:b*(hi - q*l)=hi*b - q*b*l:=by grind
 ~
structure Bd(N:Int)(ts:List Int):Prop where
 f:∀j,j<ts.length->(-N<=(fr (ts.drop j)).1/\(fr (ts.drop j)).1<=N)/\0<(fr (ts.drop j)).2/\(fr (ts.drop j)).2<=N
 c:∀x∈ts,-N<=x/\x<=N
¤Ap{N lo hi b l t u:Int}(hb:0<b)(hl:0<l)(hu:0<u)(ub:u<=b)(ul:u<=l)(h1:lo*u<=t*b)(h2:t*l<=hi*u)(lN:-N<=lo)(hN:hi<=N)(N0:0<=N):-N<=t/\t<=N:=by
 constructor
 ·refine Int.le_of_mul_le_mul_right (a:=b) ?_ hb
  !a1:-N*u<=lo*u:=Int.mul_le_mul_of_nonneg_right lN ~;!a2:N*u<=N*b:=Int.mul_le_mul_of_nonneg_left ub N0;!e1:-N*u = -(N*u):=by grind
  !e2:-N*b = -(N*b):=by grind
  ~
 ·refine Int.le_of_mul_le_mul_right (a:=l) ?_ hl
  !a1:hi*u<=N*u:=Int.mul_le_mul_of_nonneg_right hN ~;!a2:N*u<=N*l:=Int.mul_le_mul_of_nonneg_left ul N0;~
¤AV{N lo b:Int}(hb:0<b)(h1:-N<=lo)(h2:lo<=N)(N0:0<=N):-N<=lo / b/\lo / b<=N:=by
 constructor
 ·refine Int.le_ediv_of_mul_le hb ?_
  !:N*1<=N*b:=Int.mul_le_mul_of_nonneg_left ~ N0;!e2:-N*b = -(N*b):=by grind
  ~
 ·!:=Int.ediv_le_ediv hb h2
  !a:N / b<=N:=Int.ediv_le_self b N0;~
¤yW:∀{n:Nat} {N lo hi b l:Int} {ts:List Int},0<b->0<l->lo*l<hi*b->(-N<=lo/\lo<=N)->(-N<=hi/\hi<=N)->b<=N->l<=N->sh n lo hi b l=some ts->Bd (N+1) ts
 | 0,_,_,_,_,_,_,_,_,_,_,_,_,_,h=>by cases h
 | n+1,N,lo,hi,b,l,ts,hb,hl,hd,hlo,hhi,bN,lN,h=>by
  @i1,i2,i3,i4,i5,i6,_:=rY hb hl hd h;!top:(-(N+1)<=(fr ts).1/\(fr ts).1<=N+1)/\0<(fr ts).2/\(fr ts).2<=N+1:=by
   !:=Ap (N:=N) hb hl i2 i5 i6 i3 i4 hlo.1 hhi.2 ~;§⟨~,~⟩,i2,(~)
  !hq:=AV hb hlo.1 hlo.2 (show 0<=N by omega);unfold sh at h
  by_cases h1:lo / b*b=lo
  ·rw[if_pos h1]at h
   cases h;¶λj hj=>?_,λx hx=>?_
   ·!:j=0:=by simpa using hj
    subst this;#top
   ·rw[List.mem_singleton.mp hx]
    ~
  ·rw[if_neg h1]at h
   by_cases h2:(lo / b+1)*l<=hi
   ·rw[if_pos h2]at h
    cases h;¶λj hj=>?_,λx hx=>?_
    ·!:j=0:=by simpa using hj
     subst this;#top
    ·rw[List.mem_singleton.mp hx]
     ~
   ·rw[if_neg h2]at h
    @us,hu,rfl:=Option.map_eq_some_iff.mp h;@⟨s1,s2⟩,⟨s3,s4⟩,s5:=st hb hl hd h1 h2;!ih:=yW (N:=N) s1 s3 s5 ⟨~,~⟩ ⟨~,~⟩ ~ ~ hu;¶λj hj=>?_,λx hx=>?_
    ·cases j with
     | zero=>#top
     | succ j=>#ih.f j (by simpa using hj)
    ·rcases List.mem_cons.mp hx with rfl|hx
     ·~
     ·#ih.c x hx
¦flr(m u R:Int):Int:=if m<0 then (if R*R=u then -R else -R - 1) else R
¦SF(a0 a1 a2 a3 sc F:Int):Prop:=∃R,Er 1 (sc*sc*a1*a1*a2) R/\F=(sc*a0+flr a1 (sc*sc*a1*a1*a2) R) / a3
¤SF.uniq{a0 a1 a2 a3 sc F G:Int}(h:SF a0 a1 a2 a3 sc F)(k:SF a0 a1 a2 a3 sc G):F=G:=by
 @R,h1,rfl:=h;@S,k1,rfl:=k;rw[h1.uniq k1]
¤iB{x y:Int}(h:x<=y):ssq x<=ssq y:=by
 rcases Int.lt_or_le x 0 with hx|hx
 ·rcases Int.lt_or_le y 0 with hy|hy
  ·rw[dN hx,dN hy]
   !:=bY (x:=-y) (y:=-x) ~ ~;!e1:-y * -y=y*y:=by grind
   !e2:-x * -x=x*x:=by grind
   ~
  ·rw[dN hx,dE hy]
   !a:=Int.mul_nonneg hy hy;!b:0<=x*x:=by rw[show x*x = -x * -x by grind];#Int.mul_nonneg ~ ~
   ~
 ·rw[dE hx,dE ~]
  #bY hx h
¤j7{k x:Int}(hk:0<=k):ssq (k*x)=k*k*ssq x:=by
 rcases Int.lt_or_le x 0 with hx|hx
 ·rcases Int.lt_or_eq_of_le hk with h|h
  ·rw[dN (Int.mul_neg_of_pos_of_neg h hx),dN hx];grind
  ·subst h;simp[ssq]
 ·rw[dE (Int.mul_nonneg hk hx),dE hx];grind
¤zG{W m u R:Int}(hu:0<=u)(r:Er 1 (m*m*u) R)(h:W+flr m (m*m*u) R+1<=0):ssq W+ssq m*u<0:=by
 !lo:=r.lo;!hi:=r.hi;!nn:=r.nn;rw[Int.one_mul]at lo hi;unfold flr at h
 by_cases hm:m<0
 ·rw[if_pos hm]at h
  !em:ssq m*u = -(m*m*u):=by rw[dN hm];grind
  rw[em]
  by_cases hx:R*R=m*m*u
  ·rw[if_pos hx]at h
   !a:ssq W<=ssq (R - 1):=iB ~;rcases Int.lt_or_le (R - 1) 0 with g|g
   ·rw[dN g]at a
    !:R=0:= ~
    subst this;simp at a hx;~
   ·rw[dE g]at a
    !:=oU (x:=R - 1) (y:=R) g ~;~
  ·rw[if_neg hx]at h
   !a:ssq W<=ssq R:=iB ~;rw[dE nn]at a;~
 ·rw[if_neg hm]at h
  !em:ssq m*u=m*m*u:=by rw[dE ~]
  rw[em];!a:ssq W<=ssq (-(R+1)):=iB ~;rw[dN (by ~:-(R+1)<0)]at a;!e1:-(R+1) * -(R+1)=(R+1)*(R+1):=by grind
  ~
¤SF.lt{a0 a1 a2 a3 sc F:Int}(h:SF a0 a1 a2 a3 sc F)(h2:0<=a2)(h3:0<a3)(hs:0<sc):ssq (a0*sc - (F+1)*a3)+ssq (a1*sc)*a2<0:=by
 @R,r,rfl:=h;!e:sc*sc*a1*a1*a2=a1*sc*(a1*sc)*a2:=by grind
 rw[e]at r ⊢;!hf:flr a1 (a1*sc*(a1*sc)*a2) R=flr (a1*sc) (a1*sc*(a1*sc)*a2) R:=by
  unfold flr
  by_cases g:a1<0
  ·rw[if_pos g,if_pos (Int.mul_neg_of_neg_of_pos g hs)]
  ·rw[if_neg g,if_neg (by !:=Int.mul_nonneg (show 0<=a1 by omega) (show 0<=sc by omega);~)]
 rw[hf];refine zG h2 r ?_;generalize flr (a1*sc) (a1*sc*(a1*sc)*a2) R=f;!q:=Int.lt_ediv_add_one_mul_self (sc*a0+f) h3;!e2:sc*a0=a0*sc:=Int.mul_comm _ _;~
¤sH{a0 a1 a2 a3 sc L t u:Int}(hs:0<sc)(hu:0<u)(h3:0<a3)(h:ssq (a0*sc - L*a3)+ssq (a1*sc)*a2<0)(hL:L*u<=t*sc):ssq (a0*u - t*a3)+ssq (a1*u)*a2<0:=by
 !e1:ssq (a1*u*sc)=u*u*ssq (a1*sc):=by rw[show a1*u*sc=u*(a1*sc) by grind,j7 ~]
 !e2:ssq (a1*u*sc)=sc*sc*ssq (a1*u):=by rw[show a1*u*sc=sc*(a1*u) by grind,j7 ~]
 !e3:ssq ((a0*u - t*a3)*sc)=sc*sc*ssq (a0*u - t*a3):=by rw[Int.mul_comm,j7 ~]
 !m:(a0*u - t*a3)*sc<=u*(a0*sc - L*a3):=by
  !:=Int.mul_le_mul_of_nonneg_right hL (show 0<=a3 by omega);!f1:(a0*u - t*a3)*sc=a0*u*sc - t*sc*a3:=by grind
  !f2:u*(a0*sc - L*a3)=a0*u*sc - L*u*a3:=by grind
  ~
 !m2:=iB m;rw[e3,j7 (k:=u) ~]at m2;!pos:0<sc*sc:=Int.mul_pos hs hs;!pu:0<u*u:=Int.mul_pos hu hu;!key:sc*sc*(ssq (a0*u - t*a3)+ssq (a1*u)*a2)<0:=by
  !g1:sc*sc*(ssq (a0*u - t*a3)+ssq (a1*u)*a2)=sc*sc*ssq (a0*u - t*a3)+sc*sc*ssq (a1*u)*a2:=by grind
  rw[g1,<- e2,e1];!g2:u*u*(ssq (a0*sc - L*a3)+ssq (a1*sc)*a2)<0:=Int.mul_neg_of_pos_of_neg pu h;!g3:u*u*(ssq (a0*sc - L*a3)+ssq (a1*sc)*a2)=u*u*ssq (a0*sc - L*a3)+u*u*ssq (a1*sc)*a2:=by grind
  ~
 rcases Int.lt_or_le (ssq (a0*u - t*a3)+ssq (a1*u)*a2) 0 with g|g
 ·#g
 ·!:=Int.mul_nonneg (show 0<=sc*sc by omega) g
  ~
¦scl(j:Nat):Int:=2^(2^j)
¤eT(j:Nat):0<scl j:=Int.pow_pos &
¦Rm(a0 a1 a2 a3 b0 b1 b2 b3:Int)(j:Nat)(F G:Int):Prop:=SF a0 a1 a2 a3 (scl j) F/\SF (-b0) (-b1) b2 b3 (scl j) G
¦Wi(a0 a1 a2 a3 b0 b1 b2 b3 t u:Int):Prop:=∃(j:Nat) (F G:Int) (ts:List Int) (m:Nat),Rm a0 a1 a2 a3 b0 b1 b2 b3 j F G/\F+1+2<=-G - 1/\(∀i,i<j->∀F' G',Rm a0 a1 a2 a3 b0 b1 b2 b3 i F' G'->¬F'+1+2<=-G' - 1)/\sh m (F+1) (-G - 1) (scl j) (scl j)=some ts/\E2 (fr ts).1 (fr ts).2 t u
¤Wi.mid{a0 a1 a2 a3 b0 b1 b2 b3 t u:Int}(h:Wi a0 a1 a2 a3 b0 b1 b2 b3 t u)(a2n:0<=a2)(a3p:0<a3)(b2n:0<=b2)(b3p:0<b3):ssq (a0*u - t*a3)+ssq (a1*u)*a2<0/\ssq (t*b3 - b0*u)+ssq (-b1*u)*b2<0:=by
 @j,F,G,ts,m,h1,h2,h3,h4,h5:=h;!sp:=eT j;@_,pos,i3,i4,_:=rY sp sp (Int.mul_lt_mul_of_pos_right (show F+1 < -G - 1 by omega) sp) h4;!up:=h5.low.pos;!e:=h5.eq;generalize (fr ts).1=x at *;generalize (fr ts).2=y at *;constructor
 ·refine sH (sc:=scl j) (L:=F+1) sp up a3p (h1.1.lt a2n a3p sp) ?_
  refine Int.le_of_mul_le_mul_right (a:=y) ?_ pos;!q:=Int.mul_le_mul_of_nonneg_right i3 (show 0<=u by omega);!f1:(F+1)*u*y=(F+1)*y*u:=by grind
  !f2:t*scl j*y=x*scl j*u:=by
   rw[show t*scl j*y=t*y*scl j by grind,<- e]
   grind
  ~
 ·!q:=sH (a0:=-b0) (a1:=-b1) (a2:=b2) (a3:=b3) (sc:=scl j) (L:=G+1) (t:=-t) sp up b3p (h1.2.lt b2n b3p sp) (by
   refine Int.le_of_mul_le_mul_right (a:=y) ?_ pos;!q:=Int.mul_le_mul_of_nonneg_right i4 (show 0<=u by omega);!f1:(G+1)*u*y = -((-G - 1)*y*u):=by grind
   !f2:-t*scl j*y = -(x*scl j*u):=by
    rw[show -t*scl j*y = -(t*y*scl j) by grind,<- e]
    grind
   ~)
  !f:-b0*u - -t*b3=t*b3 - b0*u:=by grind
  rw[f]at q;#q
¤xJ(n:Nat):∃r:Nat,r*r<=n/\n<(r+1)*(r+1):=by
 induction n with
 | zero=>§0,&,(&)
 | succ n ih =>
  @r,h1,h2:=ih
  by_cases h:(r+1)*(r+1)<=n+1
  ·?r+1,h
   !e:(r+1+1)*(r+1+1)=(r+1)*(r+1)+(r+1)+(r+1)+1:=by grind
   ~
  ·§r,~,(~)
¤vp{T a:Int}(h:0<=T*a):∃A,Er T a A:=by
 @r,h1,h2:=xJ (T*a).toNat;!e:(((T*a).toNat:Nat):Int)=T*a:= ~
 !h1':((r*r:Nat):Int)<=T*a:= ~
 !h2':T*a<(((r+1)*(r+1):Nat):Int):= ~
 !e2:(((r+1)*(r+1):Nat):Int)=((r:Int)+1)*((r:Int)+1):=by rw[Int.natCast_mul];norm_cast
 rw[e2]at h2';rw[Int.natCast_mul]at h1';§(r:Int),~,h1',h2'
¤v9{x y:Int}(hy:0<=y)(h:x*x<y*y):x<y:=by
 rcases Int.lt_or_le x y with g|g
 ·#g
 ·!:=bY hy g
  ~
¤mQ{K S sc a1 a2 b3 R A:Int}(hK:0<K)(e:sc=K*S)(h3:0<b3)(r:Er 1 (sc*sc*a1*a1*a2) R)(ra:Er (S*S) (a1*b3*(a1*b3)*a2) A):b3*flr a1 (sc*sc*a1*a1*a2) R<=K*(A*sg (a1*b3)+1):=by
 !lo:=r.lo;!hi:=r.hi;!nn:=r.nn;rw[Int.one_mul]at lo hi;!la:=ra.lo;!ha:=ra.hi;!na:=ra.nn;!key:b3*b3*(sc*sc*a1*a1*a2)=K*K*(S*S*(a1*b3*(a1*b3)*a2)):=by rw[e];grind
 !pK:0<K*K:=Int.mul_pos hK hK;!p3:0<b3*b3:=Int.mul_pos h3 h3;unfold flr;rcases Int.lt_trichotomy a1 0 with g|g|g
 ·rw[if_pos g,d6 (Int.mul_neg_of_neg_of_pos g h3)]
  !main:∀x:Int,0<=x->sc*sc*a1*a1*a2<=x*x->b3 * -x<=K*(A * -1+1):=λx hx hx2=>by
   !q1:K*A<=b3*x:=by
    refine Int.not_lt.mp λh=>?_;!h4:=oU (Int.mul_nonneg (show 0<=b3 by omega) hx) h;!f1:b3*x*(b3*x)=b3*b3*(x*x):=by grind
    !f2:K*A*(K*A)=K*K*(A*A):=by grind
    !f3:=Int.mul_le_mul_of_nonneg_left hx2 (show 0<=b3*b3 by omega);!f4:=Int.mul_le_mul_of_nonneg_left la (show 0<=K*K by omega);~
   !f5:b3 * -x = -(b3*x):=by grind
   !f6:K*(A * -1+1)=K - K*A:=by grind
   ~
  by_cases hx:R*R=sc*sc*a1*a1*a2
  ·rw[if_pos hx]
   #main R nn ~
  ·rw[if_neg hx,show -R - 1 = -(R+1) by omega]
   #main (R+1) ~ ~
 ·subst g
  rw[if_neg ~];!:R=0:=by
   !:R*R<=0:=by simpa using lo
   rcases Int.lt_or_eq_of_le nn with h|h
   ·!:=Int.mul_pos h h
    ~
   ·#h.symm
  subst this;rw[Int.zero_mul,hO rfl];~
 ·rw[if_neg ~,cP (Int.mul_pos g h3)]
  !q1:b3*R<K*(A+1):=by
   refine v9 (Int.mul_nonneg ~ ~) ?_;!f1:b3*R*(b3*R)=b3*b3*(R*R):=by grind
   !f2:K*(A+1)*(K*(A+1))=K*K*((A+1)*(A+1)):=by grind
   !f3:=Int.mul_le_mul_of_nonneg_left lo (show 0<=b3*b3 by omega);!f4:=Int.mul_lt_mul_of_pos_left ha pK;~
  !f6:K*(A*1+1)=K*(A+1):=by grind
  ~
¤u6{x:Int}(h:iz x = -1):x < -2:=by
 rcases Int.lt_or_le x (-2) with g|g
 ·#g
 ·rcases Int.lt_or_le 2 x with g2|g2
  ·rw[fG g2]at h;cases h
  ·rw[jb ⟨g,g2⟩]at h;cases h
¤room{a0 a1 a2 a3 b0 b1 b2 b3 K S M:Int}{j:Nat}(a2n:0<=a2)(a3p:0<a3)(b2n:0<=b2)(b3p:0<b3)(ho:ro a0 a1 a2 a3 b0 b1 b2 b3 = -1)(hK:0<K)(e:scl j=K*S)(hS:Gb S M)(hW:-M<=a0*b3 - b0*a3/\a0*b3 - b0*a3<=M)
  (hm:a1*b3*(a1*b3)*a2<=M*M) (hn:b1*a3*(b1*a3)*b2<=M*M) (h4:4*(a3*b3)<=K):∀F G,Rm a0 a1 a2 a3 b0 b1 b2 b3 j F G->F+1+2<=-G - 1:=by
 rintro F G ⟨⟨R1,r1,rfl⟩,⟨R2,r2,rfl⟩⟩;!sqn:∀x:Int,0<=x*x:=λx=>by
  rcases Int.lt_or_le x 0 with g|g
  ·#Int.le_of_lt (Int.mul_pos_of_neg_of_neg g g)
  ·#Int.mul_nonneg g g
 @A,ra:=vp (T:=S*S) (a:=a1*b3*(a1*b3)*a2) (Int.mul_nonneg (sqn S) (Int.mul_nonneg (sqn _) a2n));@C,rc:=vp (T:=S*S) (a:=b1*a3*(b1*a3)*b2) (Int.mul_nonneg (sqn S) (Int.mul_nonneg (sqn _) b2n));!t:=xo hS a2n b2n hm hn ra rc hW.1 hW.2;unfold ro at ho;rw[show -(b1*a3) = -b1*a3 by grind,ho]at t;!lowt:=u6 t;!rc':Er (S*S) (-b1*a3*(-b1*a3)*b2) C:=by rw[show -b1*a3*(-b1*a3)*b2=b1*a3*(b1*a3)*b2 by grind];#rc
 !x1:=mQ hK e b3p r1 ra;!x2:=mQ hK e a3p r2 rc';!sn:sg (-b1*a3) = -sg (b1*a3):=by rw[show -b1*a3 = -(b1*a3) by grind,dG]
 rw[sn]at x2;generalize flr a1 (scl j*scl j*a1*a1*a2) R1=f1 at *;generalize flr (-b1) (scl j*scl j * -b1 * -b1*b2) R2=g1 at *;!y1:=Int.ediv_mul_le (scl j*a0+f1) (show a3≠0 by omega);!y2:=Int.ediv_mul_le (scl j * -b0+g1) (show b3≠0 by omega);generalize (scl j*a0+f1) / a3=F at *;generalize (scl j * -b0+g1) / b3=G at *;!z1:=Int.mul_le_mul_of_nonneg_right y1 (show 0<=b3 by omega);!z2:=Int.mul_le_mul_of_nonneg_right y2 (show 0<=a3 by omega);!pos:0<a3*b3:=Int.mul_pos a3p b3p;!tot:(F+G)*(a3*b3)<=K * -1:=by
  !e1:(F+G)*(a3*b3)=F*a3*b3+G*b3*a3:=by grind
  !e2:(scl j*a0+f1)*b3+(scl j * -b0+g1)*a3=K*(S*(a0*b3 - b0*a3))+b3*f1+a3*g1:=by rw[e];grind
  !e3:K*(A*sg (a1*b3)+1)+K*(C * -sg (b1*a3)+1)+K*(S*(a0*b3 - b0*a3))=K*((a0*b3 - b0*a3)*S+A*sg (a1*b3) - C*sg (b1*a3)+2):=by grind
  !e4:K*((a0*b3 - b0*a3)*S+A*sg (a1*b3) - C*sg (b1*a3)+2)<=K * -1:=Int.mul_le_mul_of_nonneg_left ~ ~;~
 !fin:(F+G)*(a3*b3)<=-4*(a3*b3):= ~
 !:=Int.le_of_mul_le_mul_right fin pos;~
end Sp6
namespace Sp5
open PySem PySem.Spec L2 Mth Sp1 Sp2 Sp3 Sp24
¤iA(x:Int):ssq (-x) = -ssq x:=by
 rcases Int.lt_trichotomy x 0 with h|h|h
 ·rw[dN h,dE (x:=-x) ~];grind
 ·subst h;rfl
 ·rw[dE (x:=x) ~,dN (x:=-x) ~];grind
¤jc(w m u n l:Int):cR (-w) n l (-m) u = -cR w m u (-n) l:=by
 unfold cR swr;rw[iA m,iA n,dG w,show ssq n*l + -ssq m*u = -(ssq m*u + -ssq n*l) by grind,dG (ssq m*u + -ssq n*l),Int.neg_mul_neg,show -w * -w - n*n*l - -m * -m*u=w*w - m*m*u - -n * -n*l by grind,show -2*n * -m = -2*m * -n by grind,Int.mul_comm l u]
 by_cases g:sg w*sg (ssq m*u + -ssq n*l)>=0
 ·rw[if_pos g,if_pos g,show -sg w + -sg (ssq m*u + -ssq n*l) = -(sg w+sg (ssq m*u + -ssq n*l)) by omega,dG]
 ·rw[if_neg g,if_neg g,Int.neg_mul]
¤eB(a0 a1 a2 a3 b0 b1 b2 b3:Int):ro b0 b1 b2 b3 a0 a1 a2 a3=0 - ro a0 a1 a2 a3 b0 b1 b2 b3:=by
 unfold ro;!h:=jc (a0*b3 - b0*a3) (a1*b3) a2 (b1*a3) b2;rw[Int.neg_mul a1 b3,Int.neg_mul b1 a3,show b0*a3 - a0*b3 = -(a0*b3 - b0*a3) by omega,h];~
¤rW(W m u:Int):cR W m u 0 0=if sg W*sg (ssq m*u)>=0 then sg (sg W+sg (ssq m*u)) else sg W*sg (W*W - m*m*u):=by
 unfold cR swr;!e0:ssq (0:Int)=0:=rfl;!sq:∀e:Int,sg (ssq e)=sg e:=λe=>by
  rcases Int.lt_trichotomy e 0 with h|h|h
  ·rw[dN h,d6 h,d6 (by !:=Int.mul_pos_of_neg_of_neg h h;~)]
  ·subst h;rfl
  ·rw[dE ~,cP h,cP (Int.mul_pos h h)]
 !e1:-2*m*0=0:= ~
 !e2:ssq m*u+0*0=ssq m*u:= ~
 !e3:W*W - m*m*u - 0*0*0=W*W - m*m*u:= ~
 rw[e1,e0,e2,e3,show ssq (W*W - m*m*u)+0*(u*0)=ssq (W*W - m*m*u) by omega,sq]
¤sy{W w U:Int}(hw:0<w)(hU:0<=U):(cR W w U 0 0<0↔W<0/\w*w*U<W*W)/\(cR W w U 0 0=0↔W<=0/\W*W=w*w*U)/\(0<cR W w U 0 0↔0<W\/W*W<w*w*U):=by
 rw[rW,dE (show 0<=w by omega)];!ww:0<w*w:=Int.mul_pos hw hw;!wu:0<=w*w*U:=Int.mul_nonneg ~ hU;generalize w*w*U=V at *;!WW:0<W->0<W*W:=λh=>Int.mul_pos h h;!WN:W<0->0<W*W:=λh=>Int.mul_pos_of_neg_of_neg h h;rcases Int.lt_trichotomy W 0 with h|h|h
 ·!k:=WN h
  rw[d6 h];rcases Int.lt_or_eq_of_le wu with g|g
  ·rw[cP g,if_neg &]
   rcases Int.lt_trichotomy (W*W - V) 0 with d|d|d
   ·rw[d6 d];~
   ·rw[hO d];~
   ·rw[cP d];~
  ·rw[<- g]
   show(sg (-1+sg 0)<0↔_)/\(sg (-1+sg 0)=0↔_)/\(0<sg (-1+sg 0)↔_);rw[show sg (-1+sg 0) = -1 from rfl];~
 ·subst h
  rw[show sg 0=0 from rfl,Int.zero_mul,if_pos &,Int.zero_add,Int.zero_mul];rcases Int.lt_or_eq_of_le wu with g|g
  ·rw[cP g,show sg 1=1 from rfl];~
  ·rw[<- g,show sg (sg 0)=0 from rfl];~
 ·!k:=WW h
  rw[cP h];rcases Int.lt_or_eq_of_le wu with g|g
  ·rw[cP g,if_pos &,show sg (1+1)=1 from rfl];~
  ·rw[<- g,show sg 0=0 from rfl,if_pos &,show sg (1+0)=1 from rfl];~
¤vK{W w U:Int}(hw:0<w)(hU:0<=U):(0<cR W (-w) U 0 0↔0<W/\w*w*U<W*W)/\(cR W (-w) U 0 0=0↔0<=W/\W*W=w*w*U)/\(cR W (-w) U 0 0<0↔W<0\/W*W<w*w*U):=by
 !k:=sy (W:=-W) hw hU;!e:cR W (-w) U 0 0 = -cR (-W) w U 0 0:=by
  rw[rW,rW,dG W,dN (show -w<0 by omega),show -w * -w=w*w by grind,show -W * -W=W*W by grind,dE (show 0<=w by omega),Int.neg_mul,dG (w*w*U),Int.neg_mul,Int.mul_neg]
  by_cases g:-(sg W*sg (w*w*U))>=0
  ·rw[if_pos g,if_pos g,show sg W + -sg (w*w*U) = -(-sg W+sg (w*w*U)) by omega,dG]
  ·rw[if_neg g,if_neg g,Int.neg_mul,Int.neg_neg]
 rw[show -W * -W=W*W by grind]at k;rw[e];~
structure Gv(A B C be x y P L U:Int):Prop where
 pa:0<A
 py:0<y
 pb:be*be=A*C - B*B
 eP:P=B*y
 eL:L=A*y
 eU:U=y*(x*A - y*be*be)
section
variable {A B C be x y P L U:Int}
¤Gv.kU(g:Gv A B C be x y P L U):U=y*(x*A - (A*C - B*B)*y):=by
 rw[g.eU,show y*(x*A - y*be*be)=y*(x*A - y*(be*be)) by grind,g.pb];grind
¤nS{k z:Int}(hk:0<k):(0<k*z↔0<z)/\(k*z=0↔z=0)/\(k*z<0↔z<0):=by
 rcases Int.lt_trichotomy z 0 with h|h|h
 ·!:=Int.mul_neg_of_pos_of_neg hk h
  ~
 ·subst h;simp
 ·!:=Int.mul_pos hk h
  ~
¤Gv.ya(g:Gv A B C be x y P L U):0<y*A:=Int.mul_pos g.py g.pa
¤cg(p q r s t w:Int):ro p q r s t 0 0 w=cR (p*w - t*s) (q*w) r 0 0:=by
 unfold ro;rw[show -0*s=0 by omega]
¤Gv.lowE(g:Gv A B C be x y P L U):ro P (-1) U L 1 0 0 1=cR (P - L) (-1) U 0 0:=by rw[cg];congr 1 <;> ~
¤Gv.lowB(g:Gv A B C be x y P L U):ro P (-1) U L 0 0 0 1=cR P (-1) U 0 0:=by rw[cg];congr 1 <;> ~
¤Gv.highE(g:Gv A B C be x y P L U):ro P 1 U L 1 0 0 1=cR (P - L) 1 U 0 0:=by rw[cg];congr 1 <;> ~
¤Gv.highB(g:Gv A B C be x y P L U):ro P 1 U L 0 0 0 1=cR P 1 U 0 0:=by rw[cg];congr 1 <;> ~
¤nZ{W U:Int}(hU:0<=U):(cR W 1 U 0 0<0↔W<0/\U<W*W)/\(cR W 1 U 0 0=0↔W<=0/\W*W=U)/\(0<cR W 1 U 0 0↔0<W\/W*W<U):=by
 !h:=sy (W:=W) (w:=1) & hU;rw[Int.one_mul,Int.one_mul]at h;#h
¤l8{W U:Int}(hU:0<=U):(0<cR W (-1) U 0 0↔0<W/\U<W*W)/\(cR W (-1) U 0 0=0↔0<=W/\W*W=U)/\(cR W (-1) U 0 0<0↔W<0\/W*W<U):=by
 !h:=vK (W:=W) (w:=1) & hU;rw[Int.one_mul,Int.one_mul]at h;#h
structure Opn(A B C P L U:Int):Prop where
 u:0<=U
 e:¬(0<P - L/\U<(P - L)*(P - L))
 b:¬(P<0/\U<P*P)
¤Gv.shut(g:Gv A B C be x y P L U)(n:¬(sg U<0\/ro 1 0 0 1 P (-1) U L<0\/ro P 1 U L 0 0 0 1<0)):Opn A B C P L U:=by
 !u:0<=U:=by
  by_cases h:U<0
  ·#absurd (.inl (by rw[d6 h];decide)) n
  ·~
 ¶u,λh=>n (.inr (.inl ?_)),λh=>n (.inr (.inr ?_))
 ·rw[eB P (-1) U L 1 0 0 1,g.lowE]
  !:=(l8 u).1.mpr h;~
 ·rw[g.highB]
  #(nZ u).1.mpr h
¤Gv.shut'(g:Gv A B C be x y P L U)(n:sg U<0\/ro 1 0 0 1 P (-1) U L<0\/ro P 1 U L 0 0 0 1<0):U<0\/(0<P - L/\U<(P - L)*(P - L))\/(P<0/\U<P*P):=by
 by_cases u:U<0
 ·#.inl u
 !u:0<=U:= ~
 rcases n with n|n|n
 ·rcases Int.lt_or_eq_of_le u with h|h
  ·rw[cP h]at n;~
  ·rw[<- h]at n;#absurd n &
 ·rw[eB P (-1) U L 1 0 0 1,g.lowE]at n
  #.inr (.inl ((l8 u).1.mp ~))
 ·rw[g.highB]at n
  #.inr (.inr ((nZ u).1.mp n))
¦fK(P U L:Int):Int×Int×Int×Int:=if ro P (-1) U L 0 0 0 1<0 then (0,0,0,1) else (P,-1,U,L)
¦dP(P U L:Int):Int×Int×Int×Int:=if ro P 1 U L 1 0 0 1>0 then (1,0,0,1) else (P,1,U,L)
end
noncomputable abbrev N4:=Int×Int×Int×Int
¦ltB(l:N4)(a b:Int):Int:=ro l.1 l.2.1 l.2.2.1 l.2.2.2 a 0 0 b
¦gtB(m:N4)(a b:Int):Int:=ro a 0 0 b m.1 m.2.1 m.2.2.1 m.2.2.2
¦eS(o:Option (N4×N4))(a b:Int):Bool:=match o with
 | none=>false
 | some (l,m)=>decide (ltB l a b<1) && decide (gtB m a b<1)
¦zH(o:Option (N4×N4))(a b:Int):Bool:=match o with
 | none=>false
 | some (l,m)=>decide (ltB l a b = -1) && decide (gtB m a b = -1)
¤fZ(m:N4)(a b:Int):gtB m a b=0 - ltB m a b:=eB _ _ _ _ _ _ _ _
¤fi{a b:Int}:ltB (0,0,0,1) a b=sg (-a)/\ltB (1,0,0,1) a b=sg (b - a):=by
 !h:∀W:Int,cR W 0 0 0 0=sg W:=λW=>by
  rw[rW,show ssq 0*0=0 by omega,show sg 0=0 from rfl,Int.mul_zero,if_pos &,Int.add_zero];rcases Int.lt_trichotomy W 0 with h|h|h
  ·rw[d6 h];rfl
  ·rw[hO h];rfl
  ·rw[cP h];rfl
 unfold ltB;dsimp only;rw[cg,cg,Int.zero_mul,Int.mul_one,Int.one_mul,h,h];constructor
 ·congr 1;~
 ·rfl
¤rZ{x:Int}:sg x<1↔x<=0:=by
 rcases Int.lt_trichotomy x 0 with h|h|h
 ·rw[d6 h];~
 ·rw[hO h];~
 ·rw[cP h];~
section
variable {A B C be x y P L U a b:Int}
¤Gv.kt(g:Gv A B C be x y P L U)(a b:Int):(P*b - a*L)*(P*b - a*L) - b*b*U=y*A*((A*a*a - 2*B*a*b+C*b*b)*y - x*(b*b)):=by
 rw[g.kU,g.eP,g.eL];grind
¤Gv.ct(g:Gv A B C be x y P L U)(a b:Int):((P*b - a*L)*(P*b - a*L)<=b*b*U↔(A*a*a - 2*B*a*b+C*b*b)*y<=x*(b*b))/\((P*b - a*L)*(P*b - a*L)<b*b*U↔(A*a*a - 2*B*a*b+C*b*b)*y<x*(b*b)):=by
 !h:=nS (z:=(A*a*a - 2*B*a*b+C*b*b)*y - x*(b*b)) g.ya;rw[<- g.kt a b]at h;~
¤mL{u v:Int}(h0:0<=u)(h:u<=v):u*u<=v*v:=Int.mul_le_mul h h h0 ~
¤Gv.lpos(g:Gv A B C be x y P L U):0<L:=by rw[g.eL];#Int.mul_pos g.pa g.py
¤mY(b p:Int):b*p*(b*p)=b*b*(p*p):=by grind
¤Gv.wle(g:Gv A B C be x y P L U)(ha:0<=a):P*b - a*L<=b*P:=by
 !:=Int.mul_nonneg ha (Int.le_of_lt g.lpos);rw[Int.mul_comm P b];~
¤Gv.wge(g:Gv A B C be x y P L U)(hab:a<=b):b*(P - L)<=P*b - a*L:=by
 !h:=Int.mul_le_mul_of_nonneg_right hab (Int.le_of_lt g.lpos);rw[Int.mul_sub,Int.mul_comm b P];~
¤Gv.low_le(g:Gv A B C be x y P L U)(u0:0<=U)(ha:0<=a)(hb:0<b):(ltB (fK P U L) a b<1↔¬(0<P*b - a*L/\b*b*U<(P*b - a*L)*(P*b - a*L)))/\(ltB (fK P U L) a b = -1->P*b - a*L<0\/(P*b - a*L)*(P*b - a*L)<b*b*U):=by
 !bb:0<b*b:=Int.mul_pos hb hb;unfold fK
 by_cases h:ro P (-1) U L 0 0 0 1<0
 ·rw[if_pos h,fi.1]
  rw[g.lowB]at h;!k:=(l8 (W:=P) u0).2.2.mp h;!wle:=g.wle (b:=b) ha;generalize P*b - a*L=W at *;!key:W<0\/W*W<b*b*U:=by
   by_cases hw:W<0
   ·#.inl hw
   ·!hP:¬P<0:=λz=>by
     !:=Int.mul_neg_of_pos_of_neg hb z;~
    !k2:P*P<U:= ~
    !s1:=mL (show 0<=W by omega) wle;rw[mY]at s1;!s2:=Int.mul_lt_mul_of_pos_left k2 bb;#.inr ~
  ¶⟨λ_ ⟨h1,h2⟩=>~,λ_=>?_⟩,λ_=>key;#rZ.mpr ~
 ·rw[if_neg h]
  show(ro P (-1) U L a 0 0 b<1↔_)/\(ro P (-1) U L a 0 0 b = -1->_);rw[cg,show -1*b = -b by omega];!k:=vK (W:=P*b - a*L) hb u0;~
¤Gv.high_ge(g:Gv A B C be x y P L U)(u0:0<=U)(hab:a<=b)(hb:0<b):(gtB (dP P U L) a b<1↔¬(P*b - a*L<0/\b*b*U<(P*b - a*L)*(P*b - a*L)))/\(gtB (dP P U L) a b = -1->0<P*b - a*L\/(P*b - a*L)*(P*b - a*L)<b*b*U):=by
 !bb:0<b*b:=Int.mul_pos hb hb;rw[fZ];unfold dP
 by_cases h:ro P 1 U L 1 0 0 1>0
 ·rw[if_pos h,fi.2]
  rw[g.highE]at h;!k:=(nZ (W:=P - L) u0).2.2.mp h;!wge:=g.wge (a:=a) hab;generalize P*b - a*L=W at *;!key:0<W\/W*W<b*b*U:=by
   by_cases hw:0<W
   ·#.inl hw
   ·!hP:¬0<P - L:=λz=>by
     !:=Int.mul_pos hb z;~
    !k2:(P - L)*(P - L)<U:= ~
    !s1:=mL (u:=-W) (v:=b * -(P - L)) ~ (by rw[Int.mul_neg];~);rw[mY,show -W * -W=W*W by grind,show -(P - L) * -(P - L)=(P - L)*(P - L) by grind]at s1;!s2:=Int.mul_lt_mul_of_pos_left k2 bb;#.inr ~
  ¶⟨λ_ ⟨h1,h2⟩=>~,λ_=>?_⟩,λ_=>key;!:0<=sg (b - a):=by
   rcases Int.lt_or_eq_of_le (show 0<=b - a by omega) with z|z
   ·rw[cP z];decide
   ·rw[<- z];decide
  ~
 ·rw[if_neg h]
  show(0 - ro P 1 U L a 0 0 b<1↔_)/\(0 - ro P 1 U L a 0 0 b = -1->_);rw[cg,Int.one_mul];!k:=sy (W:=P*b - a*L) hb u0;~
¤sqx(x:Int):0<=x*x:=by
 rcases Int.le_total 0 x with h|h
 ·#Int.mul_nonneg h h
 ·#Int.mul_nonneg_of_nonpos_of_nonpos h h
¤Gv.far(g:Gv A B C be x y P L U)(n:U<0\/(0<P - L/\U<(P - L)*(P - L))\/(P<0/\U<P*P))(ha:0<=a)(hab:a<=b)(hb:0<b):b*b*U<(P*b - a*L)*(P*b - a*L):=by
 !bb:0<b*b:=Int.mul_pos hb hb;rcases n with n|⟨n1,n2⟩|⟨n1,n2⟩
 ·!h1:=Int.mul_neg_of_pos_of_neg bb n
  !h2:=sqx (P*b - a*L);~
 ·!wge:=g.wge (a:=a) hab
  !s1:=mL (u:=b*(P - L)) (Int.mul_nonneg ~ ~) wge;rw[mY]at s1;!s2:=Int.mul_lt_mul_of_pos_left n2 bb;~
 ·!wle:=g.wle (b:=b) ha
  !s1:=mL (u:=b * -P) (v:=-(P*b - a*L)) (Int.mul_nonneg ~ ~) (by rw[Int.mul_neg];~);rw[mY,show -P * -P=P*P by grind,show -(P*b - a*L) * -(P*b - a*L)=(P*b - a*L)*(P*b - a*L) by grind]at s1;!s2:=Int.mul_lt_mul_of_pos_left n2 bb;~
end
end Sp5
namespace Pas
open PySem PySem.Spec L2 Sp24 Sp5
¦ro4(a b:N4):Int:=ro a.1 a.2.1 a.2.2.1 a.2.2.2 b.1 b.2.1 b.2.2.1 b.2.2.2
¤fc(a b:N4):ro4 b a=0 - ro4 a b:=eB _ _ _ _ _ _ _ _
structure Rv where
 lo:N4
 hi:N4
 ah:Option (Int×Int×Int)
¦mxN(lo r:N4):N4:=if ro4 lo r<0 then r else lo
¦pas(g:Option (N4×N4))(st tu:Option Rv)(sd td:Int×Int×Int):Option Rv :=
 match g with
 | none=>none
 | some p=>if tu.isSome=true then some ⟨p.1,p.2,some td⟩ else
  match st with
  | none=>none
  | some r=>if ro4 (mxN p.1 r.lo) p.2<=0 then some ⟨mxN p.1 r.lo,p.2,some sd⟩ else none
noncomputable abbrev GF:=Int->Int->Int->Option (N4×N4)
¦Lc(G:GF)(U:Nat->Option Rv)(i:Nat):Nat->Option Rv
 | 0=>none
 | j+1=>pas (G 1 i ((j+1:Nat):Int)) (Lc G U i j) (U j) (1,(i:Int),(j:Int)) (0,(i:Int),(j:Int))
¦Uc(G:GF)(bg:Nat->Option Rv):Nat->Nat->Option Rv
 | 0=>bg
 | i+1=>λj=>pas (G 0 ((i+1:Nat):Int) j) (Uc G bg i j) (Lc G (Uc G bg i) i j) (0,(i:Int),(j:Int)) (1,(i:Int),(j:Int))
structure Fp(n m:Nat)(G:GF)(F:Nat->Nat->Bool)(S T:Nat->Nat->Prop):Prop where
 t1:∀a b q,a<=b->T b q->T a q
 t2:∀p q q',q<=q'->T p q->T p q'
 t3:∀p q,p<=n->q<=m->T p q->F p q=true->S p q
 t4:∀p q,S p q->T p q
 top:∀p,p<=n->F p m=true->S p m
 dn0:∀i j,i<=n->j<m->S i (j+1)->G 0 i j=none->S i j
 dn1:∀i j k p p',i<=n->j<m->S i (j+1)->k<i->G 0 i j=some p->G 0 k j=some p'->ro4 p.2 p'.1<0->S k j
 ov0:∀i j,i<n->j<=m->S i j->G 1 i j=none->S (i+1) j
 ov1:∀i j k p p',i<n->j<k->k<=m->S i j->G 1 i j=some p->G 1 i k=some p'->ro4 p'.2 p.1<0->S (i+1) k
 own:∀k i j p,G k i j=some p->ro4 p.1 p.2<=0
 gt:∀i j,i<=n->j<m->F i (j+1)=false->∃p,G 0 i j=some p/\∀(k:Nat) p',G 0 k j=some p'->ro4 p'.1 p.2<=0
 gl:∀i j,i<n->j<=m->F i j=false->∃p,G 1 i j=some p/\∀(k:Nat) p',G 1 i k=some p'->ro4 p.1 p'.2<=0
section
variable {n m:Nat} {G:GF} {F:Nat->Nat->Bool} {S T:Nat->Nat->Prop}
¦At(m:Nat)(T:Nat->Nat->Prop)(i j:Nat):Prop:=j<m/\¬T i j/\(T i (j+1)\/j+1=m)
¦OKU(n m:Nat)(G:GF)(T:Nat->Nat->Prop)(i j:Nat)(r:N4):Prop:=∀(b:Nat),i<=b->b<=n->At m T b j->∀p,G 0 b j=some p->ro4 r p.2<=0
¦OKL(m:Nat)(G:GF)(T:Nat->Nat->Prop)(i j:Nat)(r:N4):Prop:=∀(q:Nat),j<=q->q<=m->¬T (i+1) q->∀p,G 1 i q=some p->ro4 r p.2<=0
¤Fp.far(D:Fp n m G F S T){i j:Nat}(hi:i<=n)(a:At m T i j)(f:F i (j+1)=true):S i (j+1):=by
 @hj,_,h|h:=a
 ·#D.t3 i (j+1) hi hj h f
 ·rw[h]at f ⊢
  #D.top i hi f
¤Fp.openU(D:Fp n m G F S T){i j:Nat}(hi:i<=n)(a:At m T i j):∃p,G 0 i j=some p/\OKU n m G T i j p.1:=by
 !op:∃p,G 0 i j=some p:=by
  cases f:F i (j+1) with
  | false =>
   @p,h,_:=D.gt i j hi a.1 f;§p,h
  | true =>
   cases g:G 0 i j with
   | some p=>§p,rfl
   | none=>#absurd (D.t4 _ _ (D.dn0 i j hi a.1 (D.far hi a f) g)) a.2.1
 @p,hp:=op;¶p,hp,λb hb hn ab p' hp'=>?_;rcases Nat.lt_or_eq_of_le hb with lt|rfl
 ·cases f:F b (j+1) with
  | false =>
   @p2,h2,h3:=D.gt b j hn ab.1 f;rw[hp']at h2;cases h2;#h3 i p hp
  | true =>
   !sb:=D.far hn ab f;rcases Int.lt_or_le (ro4 p'.2 p.1) 0 with z|z
   ·#absurd (D.t4 _ _ (D.dn1 b j i p' p hn ab.1 sb lt hp' hp z)) a.2.1
   ·rw[fc p'.2 p.1]
    ~
 ·rw[hp]at hp'
  cases hp';#D.own _ _ _ p hp
¤Fp.openL(D:Fp n m G F S T){i q:Nat}(hi:i<n)(hq:q<=m)(t:T i q)(nt:¬T (i+1) q):∃p,G 1 i q=some p/\OKL m G T i q p.1:=by
 !op:∃p,G 1 i q=some p:=by
  cases f:F i q with
  | false =>
   @p,h,_:=D.gl i q hi hq f;§p,h
  | true =>
   cases g:G 1 i q with
   | some p=>§p,rfl
   | none=>#absurd (D.t4 _ _ (D.ov0 i q hi hq (D.t3 i q ~ hq t f) g)) nt
 @p,hp:=op;¶p,hp,λq' hq' hm nt' p' hp'=>?_;rcases Nat.lt_or_eq_of_le hq' with lt|rfl
 ·cases f:F i q with
  | false =>
   @p2,h2,h3:=D.gl i q hi hq f;rw[hp]at h2;cases h2;#h3 q' p' hp'
  | true =>
   rcases Int.lt_or_le (ro4 p'.2 p.1) 0 with z|z
   ·#absurd (D.t4 _ _ (D.ov1 i q q' p p' hi lt hm (D.t3 i q ~ hq t f) hp hp' z)) nt'
   ·rw[fc p'.2 p.1]
    ~
 ·rw[hp]at hp'
  cases hp';#D.own _ _ _ p hp
¤vQ(a b:N4):mxN a b=a\/mxN a b=b:=by
 unfold mxN
 split
 ·#.inr rfl
 ·#.inl rfl
¤o7{p:N4×N4}{g:Option (N4×N4)}{st tu:Option Rv}{sd td:Int×Int×Int}(hg:g=some p)(h:tu.isSome=true):pas g st tu sd td=some ⟨p.1,p.2,some td⟩:=by
 rw[hg];show(if tu.isSome=true then _ else _)=_
 rw[if_pos h]
¤vG{p:N4×N4}{g:Option (N4×N4)}{st tu:Option Rv}{sd td:Int×Int×Int}{r:Rv}(hg:g=some p)(hs:st=some r)(o1:ro4 p.1 p.2<=0)(o2:ro4 r.lo p.2<=0):∃r',pas g st tu sd td=some r'/\(r'.lo=p.1\/r'.lo=r.lo):=by
 rw[hg,hs];show ∃r',(if tu.isSome=true then _ else if ro4 (mxN p.1 r.lo) p.2<=0 then _ else _)=some r'/\_
 split
 ·§^,.inl rfl
 ·!:ro4 (mxN p.1 r.lo) p.2<=0:=by
   rcases vQ p.1 r.lo with e|e
   ·rw[e];#o1
   ·rw[e];#o2
  rw[if_pos this];§^,vQ _ _
¤pI(D:Fp n m G F S T){i j:Nat}(hj:j<m)(nt:¬T i j):∃j',j<=j'/\At m T i j':=by
 obtain⟨d,hd⟩:∃d,m - j=d:=⟨_,rfl⟩
 induction d generalizing j with
 | zero=>omega
 | succ d ih =>
  by_cases h:T i (j+1)\/j+1=m
  ·§j,Nat.le_refl _,hj,nt,h
  ·@j',h1,h2:=ih (j:=j+1) ~ (λz=>h (.inl z)) ~
   §j',~,h2
¤Fp.up(D:Fp n m G F S T){U:Nat->Option Rv}{i j:Nat}(hi:i<n)(a:At m T i j)(hu:(U j).isSome=true):∀q,j<q->q<m->¬T (i+1) q->∃r,Lc G U i q=some r/\OKL m G T i q r.lo:=by
 intro q
 induction q with
 | zero=>intro h;~
 | succ q ih =>
  intro h1 h2 h3;!tq:T i (q+1):=by
   rcases a.2.2 with t|t
   ·#D.t2 i (j+1) (q+1) ~ t
   ·~
  @p,hp,ok:=D.openL hi ~ tq h3;rcases Nat.lt_or_eq_of_le (show j<=q by omega) with lt|rfl
  ·@r,hr,okr:=ih lt ~ λz=>h3 (D.t2 _ _ _ ~ z)
   !okr':OKL m G T i (q+1) r.lo:=λq' hq'=>okr q' ~;@r',e,l:=vG (tu:=U q) (sd:=(1,(i:Int),(q:Int))) (td:=(0,(i:Int),(q:Int))) hp hr (D.own _ _ _ p hp) (okr' (q+1) (Nat.le_refl _) ~ h3 p hp);?r',e;rcases l with l|l
   ·rw[l];#ok
   ·rw[l];#okr'
  ·§_,o7 hp hu,ok
¤Fp.on(D:Fp n m G F S T){bg:Nat->Option Rv}{i j:Nat}{r:Rv}(hi:i<n)(a:At m T i j)(hu:Uc G bg i j=some r)(ok:OKU n m G T i j r.lo):∃j' r',At m T (i+1) j'/\Uc G bg (i+1) j'=some r'/\OKU n m G T (i+1) j' r'.lo:=by
 @j',h1,a':=pI D (i:=i+1) a.1 λz=>a.2.1 (D.t1 i (i+1) j ~ z);@p,hp,okp:=D.openU (i:=i+1) ~ a';rcases Nat.lt_or_eq_of_le h1 with lt|rfl
 ·@rl,hl,_:=D.up (U:=Uc G bg i) hi a (by rw[hu];rfl) j' lt a'.1 a'.2.1
  §j',_,a',o7 hp (by rw[hl];rfl),okp
 ·!okr:OKU n m G T (i+1) j r.lo:=λb hb=>ok b ~
  @r',e,l:=vG (tu:=Lc G (Uc G bg i) i j) (sd:=(0,(i:Int),(j:Int))) (td:=(1,(i:Int),(j:Int))) hp hu (D.own _ _ _ p hp) (okr (i+1) (Nat.le_refl _) ~ a' p hp);?j,r',a',e;rcases l with l|l
  ·rw[l];#okp
  ·rw[l];#okr
¤Fp.all(D:Fp n m G F S T){bg:Nat->Option Rv}{j0:Nat}{r0:Rv}(a0:At m T 0 j0)(h0:bg j0=some r0)(ok0:OKU n m G T 0 j0 r0.lo):∀i,i<=n->∃j r,At m T i j/\Uc G bg i j=some r/\OKU n m G T i j r.lo:=by
 intro i
 induction i with
 | zero=>#λ_=>⟨j0,r0,a0,h0,ok0⟩
 | succ i ih =>
  intro hi;@j,r,a,hu,ok:=ih ~;#D.on ~ a hu ok
¤Fp.last(D:Fp n m G F S T){bg:Nat->Option Rv}{j0:Nat}{r0:Rv}(a0:At m T 0 j0)(h0:bg j0=some r0)(ok0:OKU n m G T 0 j0 r0.lo)(hn:1<=n)(no:∀q,¬T n q):(Uc G bg (n - 1) (m - 1)).isSome=true\/(Lc G (Uc G bg (n - 1)) (n - 1) (m - 1)).isSome=true:=by
 @j,r,a,hu,ok:=D.all a0 h0 ok0 (n - 1) ~;rcases Nat.lt_or_ge j (m - 1) with z|z
 ·@rl,hl,_:=D.up (U:=Uc G bg (n - 1)) ~ a (by rw[hu];rfl) (m - 1) z ~ (by rw[Nat.sub_add_cancel hn];#no _)
  #.inr (by rw[hl];rfl)
 ·!:j=m - 1:=by !:=a.1;~
  subst this;#.inl (by rw[hu];rfl)
end
end Pas
namespace L2
open PySem PySem.Spec PyProof.Rows
¤vg{K:W.Frag}{H H':Hp}{a:Addr}{xs:List V}(h:SqT K H a xs)(s:Same H H'):SqT K H' a xs:=by
 rcases h with(h|⟨o,h⟩)|h
 ·#.inl (.inl (s _ _ h))
 ·#.inl (.inr ⟨o,s _ _ h⟩)
 ·#.inr h
end L2
namespace Sp11
open PySem PySem.Spec L2 Mth Sp1 Sp2
inductive Fh (C:Addr) (vs:List V) (H:Hp) (Q:VK) (E:XK):Prop
 | mk:∀(a b:Int) (n:Nat),(vs = [.int a,.int b])->((ar a<=n/\ar b<=n/\n<=7900))->((b=0->E (.ref C) none H))->((b≠0->∀(p:Addr) (t u:Int),E2 a b t u->ar t<=n->ar u<=n->H p=none->Q (.ref p) (upd H p (.tup [.int t,.int u]))))->Fh C vs H Q E
structure Jh(H:Hp)(p:Addr)(a b:Int)(n:Nat):Prop where
 at_:H p=some (.tup [.int a,.int b])
 low:EG a b
 ba:ar a<=n
 bb:ar b<=n
¤Jh.mono{H H':Hp}{p:Addr}{a b:Int}{n:Nat}(f:Jh H p a b n)(s:Same H H'):Jh H' p a b n:=⟨s _ _ f.at_,f.low,f.ba,f.bb⟩
inductive JF (num den:Int->Int->Int->Int->Int) (vs:List V) (H:Hp) (Q:VK) (x_3:XK):Prop
 | mk:∀(p q:Addr) (a b c d:Int) (n:Nat),(vs = [.ref p,.ref q])->(Jh H p a b n)->(Jh H q c d n)->(n<=3900)->(den a b c d≠0)->(∀(r:Addr) (t u:Int) (H':Hp),E2 (num a b c d) (den a b c d) t u->Jh H' r t u (2*n+1)->Same H H'->Q (.ref r) H')->JF num den vs H Q x_3
¦numAt(x y t b:Int):Int:=x*b+(y - x)*(t % b)
¦side0(qs:List (Addr×Int×Int))(t b:Int):Int×Int:=(qs.getD (t / b).toNat (0,0,0)).2
¦mO(qs:List (Addr×Int×Int))(t b:Int):Int×Int:=(qs.getD (min ((t / b).toNat+1) (qs.length - 1)) (0,0,0)).2
¦ptX(qs:List (Addr×Int×Int))(t b:Int):Int:=numAt (side0 qs t b).1 (mO qs t b).1 t b
¦ptY(qs:List (Addr×Int×Int))(t b:Int):Int:=numAt (side0 qs t b).2 (mO qs t b).2 t b
noncomputable abbrev Crn:=List (Addr×Int×Int)
¤iY{H:Hp}{l:Addr}{qs:Crn}(L:LineAt H l qs)(j:Nat):ar (qs.getD j (0,0,0)).2.1<=50/\ar (qs.getD j (0,0,0)).2.2<=50:=by
 rw[List.getD_eq_getElem?_getD]
 by_cases h:j<qs.length
 ·rw[List.getElem?_eq_getElem h]
  #(L.crn _ (List.getElem_mem h)).2
 ·rw[List.getElem?_eq_none ~]
  §&,(&)
¦cr(c:Int×Int->Int)(qs:Crn)(j:Nat):Int:=c (qs.getD j (0,0,0)).2
¦ptC(c:Int×Int->Int)(qs:Crn)(t b:Int):Int:=numAt (c (side0 qs t b)) (c (mO qs t b)) t b
¤mS{c:Int×Int->Int}{qs:Crn}{t b:Int}{k:Nat}(hb:0<b)(hk:k+1<qs.length)(h1:(k:Int)*b<=t)(h2:t<=((k:Int)+1)*b) :
  ptC c qs t b=cr c qs k*b+(cr c qs (k+1) - cr c qs k)*(t - (k:Int)*b):=by
 !e0:=Int.emod_add_mul_ediv t b;rw[Int.mul_comm]at e0;!r0:=Int.emod_nonneg t (show b≠0 by omega);!r1:=Int.emod_lt_of_pos t hb;unfold ptC Sp11.numAt side0 mO
 by_cases hlt:t<((k:Int)+1)*b
 ·!ek:t / b=(k:Int):=by
   refine Int.le_antisymm ?_ (Cm hb h1);!h3:t / b<(k:Int)+1:=Int.ediv_lt_of_lt_mul hb hlt;~
  !er:t % b=t - (k:Int)*b:=by rw[ek]at e0;~
  rw[ek,er,Int.toNat_natCast,Nat.min_eq_left ~];rfl
 ·!et:t=((k:Int)+1)*b:= ~
  !ek:t / b=(k:Int)+1:=by rw[et];#Int.mul_ediv_cancel _ ~
  !er:t % b=0:=by rw[et];#Int.mul_emod_left _ _
  rw[ek,er,show((k:Int)+1).toNat=k+1 by omega,Int.mul_zero,Int.add_zero];!e2:t - (k:Int)*b=b:=by rw[et,Int.add_mul,Int.one_mul];~
  rw[e2];show cr c qs (k+1)*b=_;generalize cr c qs (k+1)=x;generalize cr c qs k=y;rw[Int.sub_mul];~
¦cX(qs:Crn)(k:Nat):Int:=(qs.getD k (0,0,0)).2.1
¦cY(qs:Crn)(k:Nat):Int:=(qs.getD k (0,0,0)).2.2
¤vB{qs:Crn}{t b:Int}{k:Nat}(hb:0<b)(hk:k+1<qs.length)(h1:(k:Int)*b<=t)(h2:t<=((k:Int)+1)*b):ptX qs t b=cX qs k*b+(cX qs (k+1) - cX qs k)*(t - (k:Int)*b):=mS (c:=λz=>z.1) hb hk h1 h2
¤vA{qs:Crn}{t b:Int}{k:Nat}(hb:0<b)(hk:k+1<qs.length)(h1:(k:Int)*b<=t)(h2:t<=((k:Int)+1)*b):ptY qs t b=cY qs k*b+(cY qs (k+1) - cY qs k)*(t - (k:Int)*b):=mS (c:=λz=>z.2) hb hk h1 h2
¤kj{D E:Int}(h:(0<=D/\0<=E)\/(D<=0/\E<=0)):0<=D*E:=by
 rcases h with⟨h1,h2⟩|⟨h1,h2⟩
 ·#Int.mul_nonneg h1 h2
 ·!:=Int.mul_nonneg (show 0<=-D by omega) (show 0<=-E by omega)
  rwa [Int.neg_mul_neg]at this
end Sp11
namespace Hd
open PySem PySem.W PySem.Spec L2
¦x9(o:Obj):Bool:=match o.data with
 | .freed=>false
 | _=>true
¦ug:Nat->List Obj->Frag
 | _,[]=>[]
 | n,a::r=>bif x9 a then (n,a)::ug (n+1) r else ug (n+1) r
¦frag(h:Heap):Frag:=ug 0 h.objs.toList
¦fnFact(K:Frag)(x:Str):Option (Arguments×List Stmt×Scope×Value):=match nsIn K mainGlobals x with
 | some (some (.ref f))=>(match K.lookup f with
  | some ⟨_,_,.func fd,_⟩=>(match fd.body,fd.closure with
   | .stmts b,[]=>bif (fd.name == x && (fd.qualname == x && (Nat.beq fd.globals mainGlobals && (Nat.beq fd.builtins builtinsNs && codeIn K fd.code x)))) then some (fd.params,b,fd.scope,fd.defaults) else none
   | _,_=>none)
  | _=>none)
 | _=>none
¤gK{K:Frag}{x:Str}{a:Arguments}{b:List Stmt}{sc:Scope}{dv:Value}(e:fnFact K x=some (a,b,sc,dv)) :
  ∃(f:Addr) (oc:Value) (od:Option Addr) (kV doc pm:Value) (an:Option Addr) (cdv ct:Value) (osl:Array (Option Value)),
   nsIn K mainGlobals x=some (some (.ref f))/\K.lookup f=some ⟨oc,od,.func (fnOf x x a b sc dv kV doc pm an cdv ct),osl⟩/\codeIn K cdv x=true/\keepIn K (.ref f)=true:=by
 unfold fnFact at e
 split at e
 ·rename_i f hf
  split at e
  ·rename_i oc od fd osl hl
   split at e
   ·rename_i b' hb hc
    cases hq:(fd.name == x && (fd.qualname == x && (Nat.beq fd.globals mainGlobals && (Nat.beq fd.builtins builtinsNs && codeIn K fd.code x)))) with
    | false=>rw[hq]at e;cases e
    | true =>
     rw[hq]at e;simp only[Bool.and_eq_true]at hq;@h1,h2,h3,h4,h5:=hq
     replace h1:=eq_of_beq h1
     replace h2:=eq_of_beq h2
     replace h3:=Nat.eq_of_beq_eq_true h3
     replace h4:=Nat.eq_of_beq_eq_true h4
     simp only[cond_true,Option.some.injEq,Prod.mk.injEq]at e;@e1,e2,e3,e4:=e;@n,qn,ps,bd,s,gl,cl,df,kw,dc,pm,an,cd,ct,bl:=fd;simp only at h1 h2 h3 h4 h5 e1 e2 e3 e4 hb hc;subst h1 h2 h3 h4 e1 e2 e3 e4 hb hc;?f,oc,od,kw,dc,pm,an,cd,ct,osl,hf,hl,h5;unfold keepIn;dsimp only;rw[hl]
   ·cases e
  ·cases e
 ·cases e
¤df_of{K:Frag}{mg:Str->Option Value}{h:Heap}{x:Str}{st:Stmt}(X:K.In h)(G:h.Ns mainGlobals mg)(e:fnFact K x=some (bQ st,aT st,ao st,.none)):Df K mg x st:=by
 @f,oc,od,kV,doc,pm,an,cdv,ct,osl,h1,h2,h3,h4:=gK e;#Cr X G h1 h2 h3 h4
¦bareV:Value->V
 | .none=>.non
 | .bool b=>.bl b
 | .int i _=>.int i
 | .str x _=>.str x
 | .bytes b _=>.byt b
 | .float b _=>.flt b
 | .ref a=>.ref a
 | .type n=>.ty n
 | _=>.ty "no plain value"
¦jh:Value->Bool
 | .ellipsis | .notImplemented | .builtin _=>false
 | _=>true
¤uP:∀{v:Value},jh v=true->bz (bareV v) v
 | .none,_=>rfl
 | .bool _,_=>rfl
 | .int _ t,_=>⟨t,rfl⟩
 | .str _ t,_=>⟨t,rfl⟩
 | .bytes _ t,_=>⟨t,rfl⟩
 | .float _ t,_=>⟨t,rfl⟩
 | .ref _,_=>rfl
 | .type _,_=>rfl
 | .ellipsis,h=>by cases h
 | .notImplemented,h=>by cases h
 | .builtin _,h=>by cases h
¤ja:∀{l:List Value},l.all jh=true->aZ (l.map bareV) l
 | [],_=>.nil
 | _::_,h=>by
  rw[List.all_cons,Bool.and_eq_true]at h;#.cons (uP h.1) (ja h.2)
¦vm(K:Frag)(v:Value):Option (List V):=match v with
 | .ref a=>(match K.lookup a with
  | some ⟨_,_,.seq its _,_⟩=>bif its.toList.all jh then some (its.toList.map bareV) else none
  | _=>none)
 | _=>none
¤qM{K:Frag}{v:Value}{ds:List V}(e:vm K v=some ds):∃(a:Addr) (o:Obj) (its:List Value) (n:Nat),v = .ref a/\K.lookup a=some o/\o.data = .seq its.toArray n/\aZ ds its:=by
 unfold vm at e
 split at e
 ·rename_i a
  split at e
  ·rename_i oc od its n osl hl
   cases hq:its.toList.all jh with
   | false=>rw[hq]at e;cases e
   | true =>
    rw[hq]at e;cases e;§a,_,its.toList,n,rfl,hl,rfl,ja hq
  ·cases e
 ·cases e
¦fnFactD(K:Frag)(x:Str):Option (Arguments×List Stmt×Scope×List V):=match fnFact K x with
 | some (a,b,s,dv)=>(match vm K dv with
  | some ds=>some (a,b,s,ds)
  | none=>none)
 | none=>none
¤dfd_of{K:Frag}{mg:Str->Option Value}{h:Heap}{x:Str}{st:Stmt}{ds:List V}(X:K.In h)(G:h.Ns mainGlobals mg)(e:fnFactD K x=some (bQ st,aT st,ao st,ds)):KB K mg x st ds:=by
 unfold fnFactD at e
 split at e
 ·rename_i a b s dv hf
  split at e
  ·rename_i ds' hs
   simp only[Option.some.injEq,Prod.mk.injEq]at e;@e1,e2,e3,e4:=e;subst e1 e2 e3 e4;@f,oc,od,kV,doc,pm,an,cdv,ct,osl,h1,h2,h3,h4:=gK hf;@T,oT,its,n,rfl,hl,hd,hv:=qM hs;#AW X G h1 h2 h3 h4 hl hd hv
  ·cases e
 ·cases e
¦cls(K:Frag)(x:Str):Addr:=match nsIn K mainGlobals x with
 | some (some (.ref C))=>C
 | _=>0
¦excFact(K:Frag)(x:Str):Bool:=match nsIn K mainGlobals x with
 | some (some (.ref C))=>excIn K C [.type "ValueError",.type "Exception",.type "BaseException",.type "object"] "ValueError.__new__"
 | _=>false
¤exc_of{K:Frag}{mg:Str->Option Value}{h:Heap}{x:Str}(X:K.In h)(G:h.Ns mainGlobals mg)(e:excFact K x=true):HV K mg x (cls K x):=by
 unfold excFact at e
 split at e
 ·rename_i C hC
  !:cls K x=C:=by unfold cls;rw[hC]
  rw[this];#AR X G hC e
 ·cases e
¦tupFact(K:Frag)(x:Str):Option (List V):=match nsIn K mainGlobals x with
 | some (some (.ref a))=>(match K.lookup a with
  | some ⟨.type "tuple",_,.seq its _,_⟩=>bif its.toList.all jh then some (its.toList.map bareV) else none
  | _=>none)
 | _=>none
¤tup_of{K:Frag}{x:Str}{ds:List V}(e:tupFact K x=some ds):∃(a:Addr) (od:Option Addr) (its:List Value) (n:Nat) (osl:Array (Option Value)),nsIn K mainGlobals x=some (some (.ref a))/\K.lookup a=some ⟨.type "tuple",od,.seq its.toArray n,osl⟩/\aZ ds its:=by
 unfold tupFact at e
 split at e
 ·rename_i a ha
  split at e
  ·rename_i od its n osl hl
   cases hq:its.toList.all jh with
   | false=>rw[hq]at e;cases e
   | true =>
    rw[hq]at e;cases e;§a,od,its.toList,n,osl,ha,hl,ja hq
  ·cases e
 ·cases e
¦noFact(K:Frag)(x:Str):Bool:=match nsIn K mainGlobals x with
 | some none=>true
 | _=>false
¤no_of{K:Frag}{x:Str}(e:noFact K x=true):nsIn K mainGlobals x=some none:=by
 unfold noFact at e
 split at e
 ·rename_i h
  #h
 ·cases e
¤at_map{α β:Type}{f g:α->β}{l:List α}(e:l.map f=l.map g)(i:Nat){a:α}(h:l[i]? = some a):f a=g a:=by
 !q:=congrArg (λl:List β=>l[i]?) e;simp only[List.getElem?_map,h,Option.map_some,Option.some.injEq]at q;#q
¤at_all{α:Type}{f:α->Bool}{l:List α}(e:l.all f=true)(i:Nat){a:α}(h:l[i]? = some a):f a=true :=
 List.all_eq_true.mp e a (List.mem_of_getElem? h)
¤at_two{α:Type}{l m:List α}(e:l=m)(i:Nat){a b:α}(h:l[i]? = some a)(h':m[i]? = some b):a=b:=by
 subst e;rw[h]at h';#Option.some.inj h'
¤vals_sz{ds:List V}{its:List Value}(u:aZ ds its)(h:ds.length<=100):its.toArray.size<=100:=by
 rw[List.size_toArray,<- u.length];#h
¤pair2{α β:Type _}{a a':α}{b b':β}(h:a=a')(g:b=b'):(a,b)=(a',b'):=by rw[h,g]
end Hd
namespace PySem
namespace F
end F
end PySem
namespace L2
open PySem PySem.Spec PyProof.Rows
inductive HP (x:V) (vs:List V) (H:Hp) (Q:VK):Prop
 | mk:∀l b xs zs,(x = .ref l)->(vs = [.ref b])->(H l=some (.lst xs))->(H b=some (.lst zs))->(xs.length+zs.length<=sizeLine)->(∀H',Ie H H' l xs (xs++zs)->Q .non H')->HP x vs H Q
¤k8{X:Cx}:MtM X "list.extend" HP:=λpins s σ H x xs v us Q I rx rs ⟨l,b,ys,zs,e1,e2,h,h2,hz,q⟩ =>
 uj pins s σ H x xs v us Q I rx rs ⟨l,b,ys,zs,e1,e2,h,h2,hz,q _ (.mk' h)⟩
¤oP{P:Program}{w:World}{K:W.Frag}{tg:Expr}(it:Addr)(lo c:Int)(n:Nat):GM P w K tg ⟨λi _=>i<n,λi H x H'=>H'=H/\x = .int (lo+i*c),λi _=>n<=i⟩ [it] it (λi h=>IsRangeIter h it (lo+(i:Nat)*c) ((n:Int) - (i:Nat)) c) where
 mem:=by simp
 obj:=λi h st b hb=>by
  !e:b=it:=by simpa using hb
  subst e;§_,st,(λv z=>by !z':Data.fields _=Data.cell v:=z;cases z')
 keep:=λi h h' st k=>k it (by simp) _ st
 item:=by
  intro X hP hw hK hc i pins s σ H E I hf st hg;subst hP hw hK;@f0,f1,f2,f3,f4,f5:=hf it (by simp);!W:=Walks.range (prog:=X.prog) (w:=X.w) (I.ok.hd hc) it lo c n;refine W.item i s _ _ hg st λv h' tk hv st' kk=>?_;@t,rfl:=hv;!I1:Dn X pins σ H { s with heap:=h',toks:=tk }:=I.turned (λb o hb e=>kk b o (by simpa using hb) e) f0 f1 f3 f4 f5;§^,m7 (s:={ s with heap:=h',toks:=tk }) (n:="range_iterator") st' rfl rfl & ⟨.int (lo+i*c),H,I1,⟨t,rfl⟩,⟨rfl,rfl⟩,st',λb hb=>(hf b hb).1⟩
 done:=by
  intro X hP hw hK hc i pins s σ H E I hf st hg;subst hP hw hK;@f0,f1,f2,f3,f4,f5:=hf it (by simp);#wpAny_pyNext_range_end (I.ok.hd hc) st (by !:n<=i:=hg;~) λh' eb=>⟨rfl,I.turned (t':=s.toks) (λb o hb e=>eb b o hb e) f0 f1 f3 f4 f5⟩
 self:=λ_ _ _ _ _ st h=>wpAny_pyIter_rangeiter st h
structure FQ(K:W.Frag)(mg:Str->Option Value)(x:Str)(C:Addr):Prop where
 bound:mg x=some (.ref C)
 cls:Kb K C
 makes:W.makesIn K C=true
 kp:W.keepIn K (.ref C)=true
structure KP(K:W.Frag)(C:Addr)(m q:Str)(st:Stmt):Prop where
 ex:∃(f:Addr) (oc:Value) (od:Option Addr) (kV doc pm:Value) (an:Option Addr) (cdv ct:Value) (osl:Array (Option Value)),
  KL K C m f/\K.lookup f=some ⟨oc,od,.func (W.fnOf m q (bQ st) (aT st) (ao st) .none kV doc pm an cdv ct),osl⟩/\W.codeIn K cdv q=true
structure Mt(P:Program)(w:World)(K:W.Frag)(mg:Str->Option Value)(base:Heap)(C:Addr)(m:Str)(ps:List Str)(k:Nat)(sp:Sp):Prop where
 ex:∃(f:Addr) (fd:FuncData),KL K C m f/\gb K fd ps []/\Fg P w K mg base (CXE P w) k f fd ps sp
¤KP.mt{P:Program}{w:World}{K:W.Frag}{mg:Str->Option Value}{base:Heap}{C:Addr}{m q:Str}{st:Stmt}{N ps:List Str}{k:Nat}{sp:Sp}(D:KP K C m q st)(S:Dj N ps (ao st))
  (hbind:∀(kV doc pm:Value) (an:Option Addr) (cdv ct:Value) (us:List Value),us.length=ps.length->bindArgs (W.fnOf m q (bQ st) (aT st) (ao st) .none kV doc pm an cdv ct) ⟨us,[]⟩=pure (ps.zip us))
  (len:∀vs H Q E,sp vs H Q E->vs.length=ps.length)
  (hbody:∀(f:Addr) (cdv:Value) (A:Around) (outer:List Env) (s:Shared) (H:Hp) (vs:List V) (Q:VK) (E:XK),DO k (A.deeper (envOfC q (ao st) s.heap.objs.size f cdv))->sp vs H Q E ->
   ∃t,PSs (bV (CXE P w) P w K mg base N q (ao st) f cdv A outer s H E) (aT st) t/\t { nx:=λ_ H'=>Q .non H',rt:=Q } (fY N vs) H):Mt P w K mg base C m ps (k+1) sp:=by
 @f,oc,od,kV,doc,pm,an,cdv,ct,osl,hm,lk,hcd:=D.ex;§⟨f,_,hm,.all (hbind kV doc pm an cdv ct),pY lk hcd S len λA outer s H vs Q E hr hsp=>hbody f cdv A outer s H vs Q E hr hsp⟩
section
variable {X:Cx} {C:Addr} {m:Str} {ps:List Str} {k:Nat} {sp:Sp} {o e:Expr} {es:List Expr} {ta:TE} {t:TA} {apos pos:Pos}
¤zZ{st:Stmt}{t:TS}(h:PS X.nox st t):PS X st t:=λpins s σ H D I hw =>
 wpAny_mono (h pins s σ H D (I.wish _) hw) (λ_ _ q=>q.unwish) λ_ _ z=>False.elim z
end
end L2
namespace Hd
open PySem PySem.W PySem.Spec L2
¦ownFact(K:Frag)(x:Str):Bool:=match nsIn K mainGlobals x with
 | some (some (.ref C))=>plainGet K C Str.empty && (hasDictIn K C && (plainOver K C && (makesIn K C && keepIn K (.ref C))))
 | _=>false
¤own_of{K:Frag}{mg:Str->Option Value}{h:Heap}{x:Str}(X:K.In h)(G:h.Ns mainGlobals mg)(e:ownFact K x=true)(sa:findIn K (.ref (cls K x)) "__setattr__" = some (some (.builtin "object.__setattr__"))):FQ K mg x (cls K x):=by
 unfold ownFact at e
 split at e
 ·rename_i C hC
  !hc:cls K x=C:=by unfold cls;rw[hC]
  rw[hc]at sa ⊢;simp only[Bool.and_eq_true]at e;@e1,e2,e3,e4,e5:=e;§mg_of X G hC,⟨e1,e2,e3,sa⟩,e4,e5
 ·cases e
¦mtFact(K:Frag)(x m q:Str):Option (Arguments×List Stmt×Scope×Value):=match findIn K (.ref (cls K x)) m with
 | some (some (.ref f))=>(match K.lookup f with
  | some ⟨.type n,_,.func fd,_⟩=>(match fd.body,fd.closure with
   | .stmts b,[]=>bif (n == "function" && (fd.name == m && (fd.qualname == q && (Nat.beq fd.globals mainGlobals && (Nat.beq fd.builtins builtinsNs && codeIn K fd.code q))))) then some (fd.params,b,fd.scope,fd.defaults) else none
   | _,_=>none)
  | _=>none)
 | _=>none
¤dfm_of{K:Frag}{x m q:Str}{st:Stmt}(e:mtFact K x m q=some (bQ st,aT st,ao st,.none)):KP K (cls K x) m q st:=by
 unfold mtFact at e
 split at e
 ·rename_i f hf
  split at e
  ·rename_i n od fd osl hl
   split at e
   ·rename_i b' hb hc
    cases hq:(n == "function" && (fd.name == m && (fd.qualname == q && (Nat.beq fd.globals mainGlobals && (Nat.beq fd.builtins builtinsNs && codeIn K fd.code q))))) with
    | false=>rw[hq]at e;cases e
    | true =>
     rw[hq]at e;simp only[Bool.and_eq_true]at hq;@h0,h1,h2,h3,h4,h5:=hq
     replace h0:=eq_of_beq h0
     replace h1:=eq_of_beq h1
     replace h2:=eq_of_beq h2
     replace h3:=Nat.eq_of_beq_eq_true h3
     replace h4:=Nat.eq_of_beq_eq_true h4
     simp only[cond_true,Option.some.injEq,Prod.mk.injEq]at e;@e1,e2,e3,e4:=e;@n',qn,ps,bd,s,gl,cl,df,kw,dc,pm,an,cd,ct,bl:=fd;simp only at h1 h2 h3 h4 h5 e1 e2 e3 e4 hb hc;subst h0 h1 h2 h3 h4 e2 hb hc e4;¶⟨f,.type "function",od,kw,dc,pm,an,cd,ct,osl,⟨hf,?_,?_⟩,?_,h5⟩
     ·unfold isFn typeIn
      dsimp only;rw[hl];#beq_self_eq_true _
     ·unfold keepIn
      dsimp only;rw[hl]
     ·rw[hl,<- e1,<- e3]
   ·cases e
  ·cases e
 ·cases e
end Hd
namespace L2
open PySem PySem.Spec PyProof.Rows
section
variable {X:Cx}
¤sx{K:W.Frag}{e:Expr}{f:Str}{ta:TE}{pos:Pos}(h:X.K=K)(he:PE X e ta)(hb:attributeBase e f X.env (eval e X.env)=eval e X.env):PE X (.Attribute e f pos) (Bz K ta f):=h▸cS he hb
variable {C:Addr} {ps:List Str} {k:Nat} {sp:Sp} {pos:Pos} {e:Expr} {es:List Expr} {t:TA}
¤BR{x:Str}{p:Pos}(O:FQ X.K X.mg x C)(F:Mt X.prog X.w X.K X.mg X.base C "__init__" ps k sp)(hr:DO (k+1) X.A)(hg:Gl X x)(ha:PA X (e::es) t)(hdb:(x == ("__debug__" : Str))=false:=by decide)(he:starEach (e::es) X.env=(false,eval e X.env)::starEach es X.env:=by rfl)(hpl:(backTo pos (starEach es X.env)).any (·.1)=false:=by rfl) :
  PE X (.Call (.Name x p) (e::es) [] pos) (yU C sp [] E0 t):=by
 @f,fd,hm,hb,G:=F.ex;#xS ⟨O.makes,hm.at_,hm.fn,O.kp⟩ G hr hg O.bound hb .nil mU ha hdb he hpl
end
section
variable {X:Cx}
¤AX(a b c d:Int):deq (.tup [.int a,.int b]) (.tup [.int c,.int d])=(decide (a=c) && decide (b=d)):=by
 simp[deq,ip];rfl
end
¦yQ(n:Nat):It:=⟨λi _=>i<n,λi H x H'=>H'=H/\x = .int (0+i*4),λi _=>n<=i⟩
¦AE(ta:TA):TI:=λσ H R=>ta σ H λvs H1=>∃j:Int,vs = [.int 0,.int j,.int 4]/\0<=j/\j<=1000/\R (yQ ((j+3) / 4).toNat) H1
¤qT{X:Cx}{tg:Expr}{a b c:Expr}{ta:TA}{p pos:Pos}(hg:Gl X "range")(hm:X.mg "range" = none)(ha:PA X [a,b,c] ta)(hs:starEach [a,b,c] X.env = [(false,eval a X.env),(false,eval b X.env),(false,eval c X.env)]:=by rfl)(hs2:starEach [b,c] X.env = [(false,eval b X.env),(false,eval c X.env)]:=by rfl) :
  PI X tg (.Call (.Name "range" p) [a,b,c] [] pos) (AE ta):=by
 intro pins s σ H R I h;refine Call_ (gI I hg hm boot_range (PyProof.Rows.callWith_type1 (thn (ha pos pins s σ H _ I h) λus s1 ⟨vs,H1,I1,r1,q1⟩=>?_) (by rw[hs,hs2]) (by rw[hs2];rfl)));@j,e,q1,q2,q:=q1;subst e;obtain⟨u1,us,rfl,⟨t1,rfl⟩,r2⟩:∃u1 us',us=u1::us'/\bz (.int 0) u1/\aZ [.int j,.int 4] us':=by
  cases r1 with
  | cons a b=>§_,^,a,b
 @u2,u3,rfl,⟨t2,rfl⟩,⟨t3,rfl⟩:=rO r2;!hsz:Builtin.Range.rangeSize 0 j 4=(((j+3) / 4).toNat:Int):=by
  unfold Builtin.Range.rangeSize;simp only[show(4:Int)>0 by decide,if_true]
  split <;> ~
 !hsm:Builtin.Range.small 0 j 4=true:=by
  unfold Builtin.Range.small;rw[hsz];simp only[Builtin.Range.rangeFitsLong,Bool.and_eq_true,Bool.or_eq_true,decide_eq_true_eq,beq_iff_eq,show(4:Int)>0 by decide,if_true];~
 refine callType_new F.called_range & (F.typeCall_range_3 _ _ _) (F.newCall_range_3 _ _ _) (λobj=>F.initArgs_range_3 obj _ _ _) F.entry_range_new (AutoRange.range___new___type_int_int_int_1 0 j 4 t1 t2 t3 F.called_range.sub &) ⟨by unfold Builtin.divisionGoesByPylong;rfl,⟨_,Heap.get?_push_size _ rfl,rfl⟩,?_⟩;refine wpAny_pyIter_range (IsRange.new ..) hsm ?_;rw[hsz];!I2:Dn X pins σ H1 { s1 with heap:=s1.heap.push { cls:=.type "range",data:=.fields #[.int 0 t1,.int j t2,.int 4 t3] } }:=I1.kept (t':=s1.toks) λb o e=>Heap.get?_push_of_some _ e;¶_,[(s1.heap.push { cls:=.type "range",data:=.fields #[.int 0 t1,.int j t2,.int 4 t3] }).objs.size],_,_,H1,rfl,I2.kept (t':=s1.toks) λb o e=>Heap.get?_push_of_some _ e,oP _ 0 4 ((j+3) / 4).toNat,?_,λb hb=>?_,q
 ·show IsRangeIter _ _ (0+((0:Nat):Int)*4) ((((j+3) / 4).toNat:Int) - ((0:Nat):Int)) 4
  rw[show(0:Int)+((0:Nat):Int)*4=0 from rfl,show((((j+3) / 4).toNat:Int) - ((0:Nat):Int))=(((j+3) / 4).toNat:Int) by omega];#Heap.get?_push_size _ rfl
 ·!e:b=(s1.heap.push { cls:=.type "range",data:=.fields #[.int 0 t1,.int j t2,.int 4 t3] }).objs.size:=by simpa using hb
  subst e;#I2.fpOk (Nat.le_refl _) (I2.hok.fresh (Nat.le_refl _))
¤rm{n:Nat}{g:TG}{tb:TS}{D:FS}{σ:St}{H:Hp}(Pv:Nat->St->Hp->Prop)(h0:Pv 0 σ H)
  (hs:∀i σ H,i<n->Pv i σ H->g (.int (0+i*4)) σ H λσ2 H2=>tb { D with nx:=Pv (i+1),ct:=Pv (i+1),bk:=D.nx } σ2 H2) (hd:∀σ H,Pv n σ H->D.nx σ H) :
  ∃W:Nat->Nat->St->Hp->Prop,(∃m,W 0 m σ H)/\∀i m σ H,W i m σ H ->
   ((yQ n).stop i H/\D.nx σ H)\/((yQ n).go i H/\∃N:St->Hp->Prop,(∀σ' H',N σ' H'->∃m',m'<m/\W (i+1) m' σ' H')/\∀x H',(yQ n).yld i H x H'->g x σ H' λσ2 H2=>tb { D with nx:=N,ct:=N,bk:=D.nx } σ2 H2):=by
 ?λi m σ H=>m=n - i/\i<=n/\Pv i σ H,⟨n,by simp,Nat.zero_le _,h0⟩;rintro i m σ H ⟨rfl,hi,p⟩
 by_cases hlt:i<n
 ·refine .inr ⟨hlt,Pv (i+1),λσ' H' p'=>⟨n - (i+1),~,rfl,hlt,p'⟩,λx H' ⟨e,y⟩=>?_⟩
  subst e y;#hs i σ _ hlt p
 ·!e:i=n:= ~
  subst e;#.inl ⟨Nat.le_refl _,hd σ H p⟩
section
variable {X:Cx}
inductive JJ (x:V) (y:V) (H:Hp) (Q:VK):Prop
 | mk:∀l b xs zs,(x = .ref l)->(y = .ref b)->(H l=some (.tup xs))->(H b=some (.tup zs))->((xs≠[]/\zs≠[]))->(xs.length+zs.length<=sizeLine)->(∀p H2,Same H H2->H2 p=some (.tup (xs++zs))->H p=none->Q (.ref p) H2)->JJ x y H Q
¤pF:OpR X (binaryOp .Add) JJ:=by
 intro pins s σ H x y v u Q I rx ry h;@l,b,xs,zs,rfl,rfl,hH,hB,⟨h1,h2⟩,hz,q:=h;cases rx;cases ry;@z,its,r,⟨⟨cls,dd,data,sl⟩,ho,hc,n,hd⟩:=I.hok _ _ hH;@z2,its2,r2,⟨⟨cls2,dd2,data2,sl2⟩,ho2,hc2,n2,hd2⟩:=I.hok _ _ hB;simp only at hc hd hc2 hd2;subst hc hd hc2 hd2;!l1:=r.length;!l2:=r2.length;!n1:its≠[]:=λe=>h1 (List.eq_nil_of_length_eq_zero (by rw[l1,e];rfl));!n2':its2≠[]:=λe=>h2 (List.eq_nil_of_length_eq_zero (by rw[l2,e];rfl));!e:its.toArray++its2.toArray=(its++its2).toArray:=by simp
 refine concat_meets ⟨_,ho,rfl⟩ ⟨_,ho2,rfl⟩ noFill_tuple_add seq_tuple_add PySem.F.slot_tuple_add PySem.F.entry_tuple_add (PySem.F.args_tuple_add_2 _ _)
  (tuple_addW2 l b its.toArray its2.toArray n n2 dd dd2 sl sl2 (by simpa using n1) (by simpa using n2') (by rw[List.size_toArray,List.size_toArray];~)) ⟨ho,ho2,?_⟩
 rw[e];!hf:H s.heap.objs.size=none:=I.fresh;¶.ref s.heap.objs.size,upd H s.heap.objs.size (.tup (xs++zs)),I.laid (t':=s.toks) (λb u e=>Heap.get?_push_of_some _ e) (Nat.le_refl _) ?_,rfl,q _ _ (Same.new hf) upd_same hf;§by rw[List.length_append];#hz,its++its2,r.append r2,IsTup.new _ _
end
end L2
namespace L2
open PySem PySem.Spec PyProof.Rows PySem.W
¤ur{P:Program}{w:World}{K:W.Frag}{mg mb:Str->Option Value}{k:Nat}{fa a:Addr}{fd:FuncData}{x:Str}{sp:Sp}{s1:Shared}{vs:List Value}{ns:List Int}{tabs:List Addr}
  (KX:K.In s1.heap) (hKt:∀p∈tabs,K.lookup p=none) (hT:∀p∈tabs,s1.heap.get? p=some (tabObj #[])) (hTc:∀p∈tabs,isCodeTable s1.heap p)
  (hns:s1.heap.Ns mainGlobals mg) (hb:s1.heap.Ns builtinsNs mb) (hbb:∀x:Str,x≠"__name__"->mb x=bootBuiltins x) (hlim:s1.heap.NoLimit) (hg:s1.gens = #[])
  (ha:s1.heap.get? a=some { cls:=.type "list",data:=.seq vs.toArray }) (hi:IntsAre vs ns) (hl:ns.length<=sizeLine) (hr:DO k callerA)
  (F:∀base:Heap,K.In base->base.Ns mainGlobals mg->Fg P w K mg base CX0 k fa fd [x] sp) (hbind:∀(s:Shared) (u:Value),BindsTo s fd ⟨[u],[]⟩ [(x,u)])
  (hsp:∀H:Hp,SqL K H a (ns.map V.int)->(∀p∈tabs,H p=some (.tbl #[]))->sp [.ref a] H (λv _=>v = .bl true) λ_ _ _=>False) :
  codeAny (model P w) callerA (.call (.ref fa) ⟨[.ref a],[]⟩) (λr s'=>r = .ok (.ret (.bool true))/\OldK s1.heap s'.heap/\s'.os=s1.os/\AllBare s'.gens) s1:=by
 !rv:=mJ hi;!lenV:=hi.length;!atab:a∉tabs:=λz=>by rw[hT a z]at ha;cases ha
 !core:∀H:Hp,SqL K H a (ns.map V.int)->(∀p∈tabs,H p=some (.tbl #[]))->HOk P w H s1.heap->(∀b,H b≠none->b∈tabs\/(b=a/\K.lookup a=none/\∃o xs,H b=some (.frz o (.lst xs)))) ->
   codeAny (model P w) callerA (.call (.ref fa) ⟨[.ref a],[]⟩) (λr s'=>r = .ok (.ret (.bool true))/\OldK s1.heap s'.heap/\s'.os=s1.os/\AllBare s'.gens) s1:=by
  intro H hS hTb hok hA;!base_of:∀{b:Addr} {o:Obj},s1.heap.get? b=some o->H b=none->(oo s1.heap H).get? b=some o:=λe n=>wg e n;!noA:∀{b:Addr} {o:Obj} {es:Array DictEntry} {ep:Nat},s1.heap.get? b=some o->o.data = .dict es ep->H b=none:=λ{b o es ep} e d=>by
   cases q:H b with
   | none=>rfl
   | some u =>
    rcases hA b (by rw[q];simp) with z|⟨e',_⟩
    ·rw[hT b z]at e;cases e
     !d':Data.fields _=Data.dict es ep:=d;cases d'
    ·subst e'
     rw[ha]at e;cases e;!d':Data.seq vs.toArray _=Data.dict es ep:=d;cases d'
  !nsK:∀{b:Addr} {m:Str->Option Value},s1.heap.Ns b m->(oo s1.heap H).Ns b m:=λ{b m} ⟨o,es,ep,e,d,r⟩=>⟨o,es,ep,base_of e (noA e d),d,r⟩;!hKb:K.In (oo s1.heap H):=λb o e=>base_of (KX b o e) (by
   cases q:H b with
   | none=>rfl
   | some u =>
    rcases hA b (by rw[q];simp) with z|⟨e',hk,_⟩
    ·rw[hKt b z]at e;cases e
    ·subst e'
     rw[hk]at e;cases e)
  !hM:Mod K mg (oo s1.heap H):=⟨hKb,nsK hns,⟨mb,nsK hb,hbb⟩,let ⟨mc,h1,h2⟩:=hlim;⟨mc,nsK h1,h2⟩⟩;!e0:Hu P w K mg (oo s1.heap H) callerA [] s1 H:=⟨rfl,hM,λb o e=>xX e,Nat.le_of_eq (uA _ _),trivial,λb hb=>absurd (show b∈([]:List Addr) from hb) (by simp),hok,.of_eq hg⟩;refine codeAny_mono ((F _ hKb (nsK hns)).run callerA [] s1 H ⟨[.ref a],[]⟩ [.ref a] [.ref a] _ _ hr e0 (hbind s1 (.ref a)) (.cons rfl .nil) (hsp H hS hTb)) λr s' h=>?_;cases r with
  | error e=>#False.elim h
  | ok fl =>
   cases fl with
   | next=>#False.elim h
   | brk=>#False.elim h
   | cont=>#False.elim h
   | ret u =>
    @v,H',os,bare,un,hok',r',q:=h;!q':v = .bl true:=q;subst q';obtain rfl:u=Value.bool true:=r';¶rfl,⟨λb o e=>?_,λb o e=>un.there b o e (by simp)⟩,os,bare;cases q:H b with
    | none=>#.inl (un.keep b o e q (by intro z;#absurd (show b∈([]:List Addr) from z) (by simp)) (by simp))
    | some u =>
     rcases hA b (by rw[q];simp) with z|⟨_,_,ob,xs,z⟩
     ·@more,q2:=un.tbls b #[] (hTb b z)
      !e2:s'.heap.get? b=some { cls:=.none,data:=.fields (#[]++more) }:=hok' b _ q2;rw[hT b z]at e;cases e;#.inr (.inl ⟨hTc b z,rfl,#[],more,rfl,e2⟩)
     ·!z2:=un.frzs b ob _ z
      @e1,_:=hok b _ z;@e2,_:=hok' b _ z2;rw[e]at e1;cases e1;#.inl e2
 let Ht:Hp:=λb=>if b∈tabs then some (.tbl #[]) else none
 !tb:∀p∈tabs,Ht p=some (.tbl #[]):=λp hp=>if_pos hp;!tn:∀b,b∉tabs->Ht b=none:=λb hb=>if_neg hb;!tok:HOk P w Ht s1.heap:=λb u e=>by
  by_cases z:b∈tabs
  ·rw[tb b z]at e;cases e
   #hT b z
  ·rw[tn b z]at e;cases e
 cases hk:K.lookup a with
 | some o =>
  !e:=KX a o hk;rw[ha]at e;cases e;refine core Ht (.inr ⟨_,vs.toArray,_,hk,rfl,rfl,rfl,by rw[List.size_toArray,lenV];#hl,by simpa using rv⟩) tb tok λb z=>?_
  by_cases hb:b∈tabs
  ·#.inl hb
  ·#absurd (tn b hb) z
 | none =>
  !nb:Ht a=none:=tn a atab;!sm:∀b o,Ht b=some o->upd Ht a (.frz { cls:=.type "list",data:=.seq vs.toArray } (.lst (ns.map V.int))) b=some o:=λb o e=>by
   rw[aR (λz=>by rw[z,nb]at e;cases e)];#e
  refine core (upd Ht a (.frz { cls:=.type "list",data:=.seq vs.toArray } (.lst (ns.map V.int)))) (.inl (.inr ⟨{ cls:=.type "list",data:=.seq vs.toArray },upd_same⟩)) (λp hp=>sm p _ (tb p hp)) (λb u z=>?_) λb z=>?_
  ·by_cases hb:b=a
   ·subst hb
    rw[upd_same]at z;cases z;§ha,by rw[List.length_map];#hl,vs,_,rv,ha
   ·rw[aR hb]at z
    #(tok b u z).stay (λ_ _ _ q=>q) (λd q=>sm d _ q) λd xs q=>sm d _ q
  ·by_cases hb:b=a
   ·#.inr ⟨hb,hk,_,_,by rw[hb];#upd_same⟩
   ·rw[aR hb]at z
    by_cases ht:b∈tabs
    ·#.inl ht
    ·#absurd (tn b ht) z
¦qJ(K:W.Frag)(tabs:List Addr):Sp:=λvs H Q _=>∃(a:Addr) (ns:List Int),vs = [.ref a]/\SqL K H a (ns.map V.int)/\ns.length<=63/\(∀p∈tabs,H p=some (.tbl #[]))/\∀H',Q (.bl true) H'
end L2
namespace Hd
open PySem PySem.W PySem.Spec L2
¦zq(o:Obj):Bool:=match o with
 | ⟨.none,_,.fields _,_⟩=>true
 | _=>false
¦strip(K:Frag):Frag:=K.filter λp=>!zq p.2
¤pG:∀(l:List Obj) (n:Nat) (p:Nat×Obj),p∈ug n l->n<=p.1/\l[p.1 - n]? = some p.2/\x9 p.2=true
 | [],_,_,e=>by cases e
 | x::r,n,p,e=>by
  !up:p∈ug (n+1) r->n<=p.1/\(x::r)[p.1 - n]? = some p.2/\x9 p.2=true:=λe=>by
   @h1,h2,h3:=pG r (n+1) p e;¶~,?_,h3;!:p.1 - n=(p.1 - (n+1))+1:= ~
   rw[this];#h2
  unfold ug at e;cases hl:x9 x with
  | false =>
   rw[hl]at e;#up e
  | true =>
   rw[hl,cond_true]at e;rcases List.mem_cons.mp e with rfl|e
   ·§Nat.le_refl _,by simp,hl
   ·#up e
¤wG(h:Heap):∀p∈frag h,h.get? p.1=some p.2:=λp hp=>by
 @_,q,hl:=pG _ _ _ hp;!q:h.objs[p.1]? = some p.2:=by simpa using q
 unfold Heap.get?;rw[q];@a,o:=p;@c,d,dt,sl:=o;cases dt <;> first|rfl|cases hl
¤fL{K:Frag}{b:Addr}{o:Obj}(e:K.lookup b=some o):(b,o)∈K:=by
 induction K with
 | nil=>cases e
 | cons x r ih =>
  rw[List.lookup_cons]at e;cases hb:b == x.1 with
  | true =>
   rw[hb]at e;cases e;rw[beq_iff_eq.mp hb];#List.mem_cons_self
  | false =>
   rw[hb]at e;#List.mem_cons_of_mem _ (ih e)
¤vf{K:Frag}{h:Heap}(k:∀p∈K,h.get? p.1=some p.2):(strip K).In h:=λb o e=>k (b,o) (List.mem_filter.mp (fL e)).1
¤t5{K:Frag}{b:Addr}{o:Obj}(e:(strip K).lookup b=some o):zq o=false:=by
 !:=(List.mem_filter.mp (fL e)).2;simpa using this
¦hookT{α:Type}(facts:Frag->α)(val:α):Hook :=
 ⟨α,λs=>facts (frag s.heap),λ_=>val,λ_ h=>∃K:Frag,(∀p∈K,h.get? p.1=some p.2)/\facts K=val,λ_ s e=>⟨_,wG s.heap,e⟩,λ_ _ _ ⟨K,hi,e⟩ k=>⟨K,λp hp=>k _ _ (hi p hp),e⟩⟩
¦oS(K:Frag)(x:Str):Option (Addr×Addr):=match nsIn (strip K) mainGlobals x with
 | some (some (.ref f))=>(match (strip K).lookup f with
  | some ⟨_,_,.func fd,_⟩=>(match fd.code with
   | .ref c=>(match (strip K).lookup c with
    | some ⟨.type "code",_,.fields vs,_⟩=>(match (vs[11]? : Option Value),vs.getD 18 .none,vs.getD 7 .none,vs.getD 9 .none,vs.getD 10 .none with
     | some (.ref p),.str _ _,.int _ _,.bool _,.int _ _=>(match K.lookup p with
      | some ⟨.none,none,.fields ps,sl⟩=>bif (ps.toList.isEmpty && (sl.toList.isEmpty && !(Nat.beq c p))) then some (c,p) else none
      | _=>none)
     | _,_,_,_,_=>none)
    | _=>none)
   | _=>none)
  | _=>none)
 | _=>none
¦tabFact(K:Frag)(x:Str):Bool:=(oS K x).isSome
¦tabP(K:Frag)(x:Str):Addr:=match oS K x with
 | some q=>q.2
 | none=>0
¤kK{K:Frag}{x:Str}{c p:Addr}(e:oS K x=some (c,p)):∃f oc od fd sl,nsIn (strip K) mainGlobals x=some (some (.ref f))/\(strip K).lookup f=some ⟨oc,od,.func fd,sl⟩/\fd.code = .ref c/\lZ (strip K) c p/\K.lookup p=some (tabObj #[]):=by
 unfold oS at e
 split at e
 ·rename_i f hf
  split at e
  ·rename_i oc od fd sl hl
   split at e
   ·rename_i c' hc
    split at e
    ·rename_i od2 vs sl2 hl2
     split at e
     ·rename_i p' st tt i1 t1 b1 i2 t2 h11 h18 h7 h9 h10
      split at e
      ·rename_i ps sl3 hl3
       cases hq:(ps.toList.isEmpty && (sl3.toList.isEmpty && !(Nat.beq c' p'))) with
       | false=>rw[hq]at e;cases e
       | true =>
        rw[hq]at e;simp only[cond_true,Option.some.injEq,Prod.mk.injEq]at e;@rfl,rfl:=e;simp only[Bool.and_eq_true,List.isEmpty_iff,Bool.not_eq_true']at hq;@q1,q2,q3:=hq;!q1:ps = #[]:=by simpa using q1
        !q2:sl3 = #[]:=by simpa using q2
        subst q1 q2;¶f,oc,od,fd,sl,hf,hl,hc,⟨_,vs,st,tt,i1,t1,b1,i2,t2,hl2,rfl,rfl,h11,?_,h18,h7,h9,h10,?_⟩,hl3
        ·rw[Array.getD_eq_getD_getElem?,h11];rfl
        ·intro z
         rw[z,Nat.beq_refl]at q3;cases q3
      ·cases e
     ·cases e
    ·cases e
   ·cases e
  ·cases e
 ·cases e
¤oR{K:Frag}{x:Str}(t:tabFact K x=true):∃c,oS K x=some (c,tabP K x):=by
 unfold tabFact at t;@⟨c,p⟩,e:=Option.isSome_iff_exists.mp t;?c;unfold tabP;rw[e]
¤dft_of{K:Frag}{mg:Str->Option Value}{h:Heap}{x:Str}{st:Stmt}(X:(strip K).In h)(G:h.Ns mainGlobals mg)(e:fnFact (strip K) x=some (bQ st,aT st,ao st,.none))(t:tabFact K x=true):KO (strip K) mg x st (tabP K x):=by
 @f,oc,od,kV,doc,pm,an,cdv,ct,osl,h1,h2,h3,h4:=gK e;@c,ht:=oR t;@f',oc',od',fd',sl',g1,g2,g3,g4,_:=kK ht;rw[h1]at g1;cases g1;rw[h2]at g2;cases g2;!g3:cdv = .ref c:=g3;subst g3;§⟨f,oc,od,kV,doc,pm,an,c,ct,osl,W.mg_of X G h1,h2,h3,h4,g4⟩
¦apart:List Addr->Bool
 | []=>true
 | a::r=>(r.all λb=>!(Nat.beq a b)) && apart r
¦bltFact(K:Frag):Bool:=match nsIn K mainGlobals "__builtins__" with
 | some (some (.ref bm))=>(match K.lookup bm with
  | some ⟨.type "module",some d,.plain,_⟩=>!(Nat.beq bm builtinsNs) && (!(Nat.beq bm mainGlobals) && Nat.beq d builtinsNs)
  | _=>false)
 | _=>false
¤blt_of{K:Frag}{mg:Str->Option Value}{h:Heap}(X:K.In h)(G:h.Ns mainGlobals mg)(t:bltFact K=true):yS K mg:=by
 unfold bltFact at t
 split at t
 ·rename_i bm hb
  split at t
  ·rename_i d sl hl
   simp only[Bool.and_eq_true,Bool.not_eq_true']at t;@t1,t2,t3:=t;!t3:=Nat.eq_of_beq_eq_true t3;subst t3;¶bm,_,W.mg_of X G hb,λz=>?_,λz=>?_,hl,rfl,rfl,rfl
   ·rw[z,Nat.beq_refl]at t1;cases t1
   ·rw[z,Nat.beq_refl]at t2;cases t2
  ·cases t
 ·cases t
¤law_walkT{l:OpenLaw}{k:Nat}{q:Program}{loose:List Str}{XP:(Str->Option Value)->Heap->Prop}{d:DefRec}{α:Type}{facts:Frag->α}{val:α}{names:List Str}(hk:DO k callerA)(hn:l.most=some 63)(hdf:d.params.defaults = [])
  (hnm:∀K,facts K=val->names.all (tabFact K)=true)
  (F:∀(K:Frag),facts K=val->∀(w:World) (mg:Str->Option Value) (fa:Addr) (h:Heap),(strip K).In h->h.Ns mainGlobals mg->mg d.name=some (.ref fa) ->
   ∃fd:FuncData,(∀(s:Shared) (u:Value),BindsTo s fd ⟨[u],[]⟩ [("script",u)])/\∀base:Heap,(strip K).In base->base.Ns mainGlobals mg->Fg l.prog w (strip K) mg base CX0 k fa fd ["script"] (qJ (strip K) (names.map (tabP K)))) :
  WalkO q loose XP (Hook.says (hookT facts val)) l.row.toRowW d [] (λf vs=>PySem.call f vs):=by
 refine Att.attach_call hn hdf λw s₀ s1 mg mb fa o pm cd doc a vs ns G Y ho hd hcd hmg hobj hints hlen hg=>?_;@K,hin,hf:=Y;!KX:=vf hin;@fd,hb,hF:=F K hf w mg fa _ KX G.T.g hmg;!ht:∀p∈names.map (tabP K),∃c,lZ (strip K) c p/\K.lookup p=some (tabObj #[]):=λp hp=>by
  @x,hx,rfl:=List.mem_map.mp hp;@c,e:=oR (List.all_eq_true.mp (hnm K hf) x hx);@_,_,_,_,_,_,_,_,g4,g5:=kK e;§c,g4,g5
 refine ur (tabs:=names.map (tabP K)) KX (λp hp=>?_) (λp hp=>?_) (λp hp=>?_) G.T.g G.T.b G.T.builtins G.T.nolimit hg hobj hints (Nat.le_trans hlen &) hk hF hb (λH hS hT=>⟨a,ns,rfl,hS,hlen,hT,λ_=>rfl⟩)
 ·cases e:(strip K).lookup p with
  | none=>rfl
  | some o =>
   !e1:=hin _ (List.mem_filter.mp (fL e)).1;@c,_,e2:=ht p hp;!e2:=hin _ (fL e2);!e1:s1.heap.get? p=some o:=e1;!e2:s1.heap.get? p=some (tabObj #[]):=e2;rw[e1]at e2;cases e2;cases t5 e
 ·@c,_,e2:=ht p hp
  #hin _ (fL e2)
 ·@c,C,e2:=ht p hp
  #((C.hd KX).tab (ps:=#[]) (hin _ (fL e2))).isCodeTable
¤wU{K:Frag}{mg:Str->Option Value}{h:Heap}{x:Str}{v:V}(X:K.In h)(G:h.Ns mainGlobals mg)(e:(nsIn K mainGlobals x).map (λo=>o.map bareV)=some (some v)):∃u,mg x=some u/\bareV u=v:=by
 cases hn:nsIn K mainGlobals x with
 | none =>
  rw[hn]at e;cases e
 | some o =>
  cases o with
  | none =>
   rw[hn]at e;cases e
  | some u =>
   rw[hn]at e;§u,mg_of X G hn,Option.some.inj (Option.some.inj e)
¤int_of{K:Frag}{mg:Str->Option Value}{h:Heap}{x:Str}{i:Int}(X:K.In h)(G:h.Ns mainGlobals mg)(e:(nsIn K mainGlobals x).map (λo=>o.map bareV)=some (some (.int i))):∃tk,mg x=some (.int i tk):=by
 @u,h1,h2:=wU X G e;cases u <;> first|(cases h2;§_,h1)|cases h2
end Hd
local macro_rules | `(tactic| ~)=>`(tactic| lia)
local macro_rules | `(tactic| walk_at "bt")=>`(tactic| first
 | assumption
 | (apply L2.bits_mul <;> walk_at "bt")
 | (apply L2.bits_add2 <;> walk_at "bt")
 | (apply L2.bits_sub2 <;> walk_at "bt")
 | (apply L2.bits_neg;walk_at "bt")
 | (apply L2.bits_abs;walk_at "bt")
 | #L2.bits_lit)
local macro_rules | `(tactic| walk_at "bl")=>`(tactic| (apply L2.bits_of_le;(walk_at "bt");decide))
local macro_rules | `(tactic| walk_at "cm")=>`(tactic| first
 | #L2.CM.l ⟨&,&⟩
 | #L2.CM.r ⟨&,&⟩
 | (apply L2.CM.of;(walk_at "bt");(walk_at "bt");decide))
local macro_rules | `(tactic| walk_at "at")=>`(tactic| first
 | assumption
 | #L2.upd_same
 | (refine L2.Same.at (by assumption) ?_;walk_at "at")
 | (refine L2.SameT.at (by assumption) ?_;walk_at "at"))
local macro_rules | `(tactic| walk_at "sm")=>`(tactic| first
 | assumption
 | #L2.Same.rfl'
 | (refine L2.Same.trans ?_ (by assumption);walk_at "sm"))
local macro_rules | `(tactic| walk_at "kn")=>`(tactic| first
 | assumption
 | §_,.int _|§_,.bl _|§_,.str _|§_,.non
 | §_,.tup (by walk_at "at")|§_,.lst (by walk_at "at")|§_,.dict (by walk_at "at"))
local macro_rules | `(tactic| walk_at "nice")=>`(tactic| first
 | #L2.nice_int|#L2.nice_bool|#L2.nice_tuple|#L2.nice_list|#L2.nice_str)
local macro_rules | `(tactic| walk_at "th")=>`(tactic| first
 | assumption
 | #Sp1.th_flat .non (fun p e=>nomatch e)|#Sp1.th_flat (.int _) (fun p e=>nomatch e)|#Sp1.th_flat (.bl _) (fun p e=>nomatch e)|#Sp1.th_flat (.str _) (fun p e=>nomatch e)
 | #Sp1.th_lst (by walk_at "at")
 | (refine' Sp1.th_tup ?hat ?hkn;(case hat=>walk_at "at");(case hkn=>(simp only[List.mem_cons,List.not_mem_nil,or_false,forall_eq_or_imp,forall_eq,false_imp_iff,implies_true];(try (first|(walk_at "kn")|(repeat' apply And.intro) <;> walk_at "kn")))))
 )
local macro_rules | `(tactic| walk_at "r1")=>`(tactic| first
 | (?^)
 | (?%)
 | (?%,(by walk_at "cm"))
 | (?%,(by show(0:Int)<_;decide))
 | (?%,⟨&,&⟩)
 | (?%,⟨&,&,&⟩)
 | (refine' ⟨_,_,_,_,rfl,rfl,L2.SqT.of ?hat,?hix,?nxt⟩;(case hat=>walk_at "at");(case hix=>#rfl))
 | (refine' ⟨_,_,_,_,rfl,rfl,L2.SqL.of ?hat,?hix,?nxt⟩;(case hat=>walk_at "at");(case hix=>#rfl))
 | (?(by walk_at "cm"))
 | (?(by show(0:Int)<_;decide))
 | (?⟨&,&⟩)
 | (?⟨&,&,&⟩)
 | (¶Sp1.sz (by simp),fun _ _ _ _ _=>?_)
 | (¶Sp1.sz (by simp),L2.alloc fun _ _ _ _=>?_)
 | (refine' ⟨_,_,_,_,rfl,rfl,?hat,?hbt,Sp1.sz ?hsz,fun _ _ _ _ _=>?nxt⟩;(case hat=>walk_at "at");(case hbt=>walk_at "at");(case hsz=>simp))
 | (refine' ⟨_,_,_,_,rfl,rfl,?hat,?hbt,Sp1.sz ?hsz,L2.alloc fun _ _ _ _=>?nxt⟩;(case hat=>walk_at "at");(case hbt=>walk_at "at");(case hsz=>simp))
 | (refine' ⟨_,_,rfl,.inl (L2.SqL.of ?hat),?nxt⟩;(case hat=>walk_at "at"))
 | (refine' ⟨_,_,rfl,.inr (L2.SqT.of ?hat),?nxt⟩;(case hat=>walk_at "at"))
 | (refine' L2.alloc fun _ _ _ _=>?nxt))
local macro_rules | `(tactic| walk_at "rd")=>`(tactic| repeat (walk_at "r1"))
namespace K26
open PySem PySem.Spec L2 Mth Sp1 Sp2 Sp11 Sp7 Sp24 Sp5 Sp6 Dr Wk Sk Fz Pas
¦top(i:Nat):Stmt:=Challenge.pw_oneleash_k26_part_gone_or_fenced.main.body.getD i (.Pass ⟨0,0,0,0⟩)
¦x6(i j:Nat):Stmt:=match top i with
 | .ClassDef _ _ _ b _ _ _ _ _ _ _=>b.getD j (.Pass ⟨0,0,0,0⟩)
 | x=>x
¦iP:List (Str×Nat):=[(Str.ofString "is_whole",5),(Str.ofString "common_divisor",6),(Str.ofString "plus",8),(Str.ofString "is_ratio",9),(Str.ofString "sign_of",11),(Str.ofString "signed_square",12),(Str.ofString "sign_with_root",13),(Str.ofString "sign_with_roots",14),(Str.ofString "root_order",15),(Str.ofString "floor_root",16),(Str.ofString "own_fraction",17),(Str.ofString "scaled_floor",18),(Str.ofString "below_all",19),(Str.ofString "shared_terms",20),(Str.ofString "fraction_of_terms",21),(Str.ofString "fraction_within",22),(Str.ofString "root_between",23),(Str.ofString "look_at_square",27),(Str.ofString "leash_order",28),(Str.ofString "reach_of",29),(Str.ofString "part_within",30),(Str.ofString "last_of",32),(Str.ofString "with_a_stretch",36),(Str.ofString "doors_of",37),(Str.ofString "far_corners",38),(Str.ofString "begins_fence",40),(Str.ofString "ends_fence",41),(Str.ofString "pair_at_corner",42),(Str.ofString "part_from",43),(Str.ofString "pair_in_door",44),(Str.ofString "place_on",45),(Str.ofString "pairs_on",46),(Str.ofString "row_to",48),(Str.ofString "seek",49),(Str.ofString "gap_between",51),(Str.ofString "steps_down",52),(Str.ofString "steps_over",53),(Str.ofString "steps_back",54),(Str.ofString "steps_from",55),(Str.ofString "pairs_of_bend",56),(Str.ofString "fence_past",57),(Str.ofString "doors_at_begin",59),(Str.ofString "door_out",60),(Str.ofString "pass_through",61),(Str.ofString "doors_reached",62),(Str.ofString "doors_at_end",63),(Str.ofString "may_keep",64),(Str.ofString "pairs_to",65),(Str.ofString "walk_through",66),(Str.ofString "go_by",68),(Str.ofString "go_part",69),(Str.ofString "_law_pool",71),(Str.ofString "_law_take",72),(Str.ofString "_law_corner",73),(Str.ofString "_law_line",74),(Str.ofString "_law_second",75),(Str.ofString "_law_whole",76),(Str.ofString "_law_shared",77),(Str.ofString "_law_is_fraction",78),(Str.ofString "_law_is_pair",79),(Str.ofString "_law_are_pairs",80),(Str.ofString "_law_less",81),(Str.ofString "_law_near",82),(Str.ofString "_law_point",83),(Str.ofString "_law_apart",84),(Str.ofString "_law_square",85),(Str.ofString "_law_least",86),(Str.ofString "_law_walk",87),(Str.ofString "_law_between",88),(Str.ofString "_law_fence",89),(Str.ofString "_law_lowest",90),(Str.ofString "_law_leash",91),(Str.ofString "_law_told",92),(Str.ofString "law",93)]
¦km:List (Str×Nat×List V):=[(Str.ofString "ratio",7,[.int 1])]
¦AI:List Str:=[Str.ofString "NoRatio",Str.ofString "NoSquare"]
¦hNo:List Str:=[Str.ofString "abs",Str.ofString "all",Str.ofString "bool",Str.ofString "enumerate",Str.ofString "int",Str.ofString "isinstance",Str.ofString "len",Str.ofString "list",Str.ofString "max",Str.ofString "min",Str.ofString "range",Str.ofString "reversed",Str.ofString "tuple"]
¦yg:List (Str×List V):=[(Str.ofString "BEGIN",[.int 0,.int 0,.int 0,.int 1]),(Str.ofString "END",[.int 1,.int 0,.int 0,.int 1])]
¦Cj(K:W.Frag):List (Option (Option V)):=[(W.nsIn K mainGlobals "UPRIGHT").map (λo=>o.map Hd.bareV),(W.nsIn K mainGlobals "LEVEL").map (λo=>o.map Hd.bareV)]
¦zx:List (Option (Option V)):=[some (some (.int 0)),some (some (.int 1))]
¦Ci(K:W.Frag):List (Option (Option Value)):=[W.findIn K (.ref (Hd.cls K "Field")) "__setattr__",W.findIn K (.ref (Hd.cls K "Field")) "room",W.findIn K (.ref (Hd.cls K "Field")) "last",W.findIn K (.ref (Hd.cls K "Field")) "doors",W.findIn K (.ref (Hd.cls K "Field")) "far"]
¦zw:List (Option (Option Value)):=[some (some (.builtin "object.__setattr__")),some none,some none,some none,some none]
¦Cf:List Str:=[Str.ofString "Field"]
¦hMt:List (Str×Str×Str×Stmt):=[(Str.ofString "Field",Str.ofString "__init__",Str.ofString "Field.__init__",x6 39 0)]
¦hTabs:List Str:=[Str.ofString "fence_past"]
¦hF0(K:W.Frag):List (Option (Arguments×List Stmt×Scope×Value)):=iP.map (λp=>Hd.fnFact K p.1)
¦hG0:List (Option (Arguments×List Stmt×Scope×Value)):=iP.map (λp=>some (bQ (top p.2),aT (top p.2),ao (top p.2),.none))
¦hF1(K:W.Frag):List (Option (Arguments×List Stmt×Scope×List V))×Bool×Bool×List (Option (List V))×Bool×List (Option (Arguments×List Stmt×Scope×Value))×List (Option (Option V))×List (Option (Option Value)):=(km.map (λp=>Hd.fnFactD K p.1),AI.all (Hd.excFact K),hNo.all (Hd.noFact K),yg.map (λp=>Hd.tupFact K p.1),Cf.all (Hd.ownFact K),hMt.map (λp=>Hd.mtFact K p.1 p.2.1 p.2.2.1),Cj K,Ci K)
¦hG1:List (Option (Arguments×List Stmt×Scope×List V))×Bool×Bool×List (Option (List V))×Bool×List (Option (Arguments×List Stmt×Scope×Value))×List (Option (Option V))×List (Option (Option Value)):=(km.map (λp=>some (bQ (top p.2.1),aT (top p.2.1),ao (top p.2.1),p.2.2)),true,true,yg.map (λp=>some p.2),true,hMt.map (λp=>some (bQ p.2.2.2,aT p.2.2.2,ao p.2.2.2,.none)),zx,zw)
¦hF2(K0:W.Frag):Bool×Bool×Bool:=(hTabs.all (Hd.tabFact K0),Hd.bltFact (Hd.strip K0),Hd.apart (hTabs.map (Hd.tabP K0)))
¦hG2:Bool×Bool×Bool:=(true,true,true)
¦hFacts(K:W.Frag):(List (Option (Arguments×List Stmt×Scope×Value)))×(List (Option (Arguments×List Stmt×Scope×List V))×Bool×Bool×List (Option (List V))×Bool×List (Option (Arguments×List Stmt×Scope×Value))×List (Option (Option V))×List (Option (Option Value)))×(Bool×Bool×Bool):=(hF0 (Hd.strip (K)),hF1 (Hd.strip (K)),hF2 (K))
¦hGood:(List (Option (Arguments×List Stmt×Scope×Value)))×(List (Option (Arguments×List Stmt×Scope×List V))×Bool×Bool×List (Option (List V))×Bool×List (Option (Arguments×List Stmt×Scope×Value))×List (Option (Option V))×List (Option (Option Value)))×(Bool×Bool×Bool):=(hG0,hG1,hG2)
¦hView:Program:=W.view Challenge.pw_oneleash_k26_part_gone_or_fenced [93]
¦hLoose:List Str:=[Str.ofString "LeashError",Str.ofString "NoRatio",Str.ofString "NoSquare",Str.ofString "is_whole",Str.ofString "common_divisor",Str.ofString "ratio",Str.ofString "plus",Str.ofString "is_ratio",Str.ofString "sign_of",Str.ofString "signed_square",Str.ofString "sign_with_root",Str.ofString "sign_with_roots",Str.ofString "root_order",Str.ofString "floor_root",Str.ofString "own_fraction",Str.ofString "scaled_floor",Str.ofString "below_all",Str.ofString "shared_terms",Str.ofString "fraction_of_terms",Str.ofString "fraction_within",Str.ofString "root_between",Str.ofString "BEGIN",Str.ofString "END",Str.ofString "look_at_square",Str.ofString "leash_order",Str.ofString "reach_of",Str.ofString "part_within",Str.ofString "last_of",Str.ofString "UPRIGHT",Str.ofString "LEVEL",Str.ofString "with_a_stretch",Str.ofString "doors_of",Str.ofString "far_corners",Str.ofString "Field",Str.ofString "begins_fence",Str.ofString "ends_fence",Str.ofString "pair_at_corner",Str.ofString "part_from",Str.ofString "pair_in_door",Str.ofString "place_on",Str.ofString "pairs_on",Str.ofString "row_to",Str.ofString "seek",Str.ofString "gap_between",Str.ofString "steps_down",Str.ofString "steps_over",Str.ofString "steps_back",Str.ofString "steps_from",Str.ofString "pairs_of_bend",Str.ofString "fence_past",Str.ofString "doors_at_begin",Str.ofString "door_out",Str.ofString "pass_through",Str.ofString "doors_reached",Str.ofString "doors_at_end",Str.ofString "may_keep",Str.ofString "pairs_to",Str.ofString "walk_through",Str.ofString "go_by",Str.ofString "go_part",Str.ofString "_law_pool",Str.ofString "_law_take",Str.ofString "_law_corner",Str.ofString "_law_line",Str.ofString "_law_second",Str.ofString "_law_whole",Str.ofString "_law_shared",Str.ofString "_law_is_fraction",Str.ofString "_law_is_pair",Str.ofString "_law_are_pairs",Str.ofString "_law_less",Str.ofString "_law_near",Str.ofString "_law_point",Str.ofString "_law_apart",Str.ofString "_law_square",Str.ofString "_law_least",Str.ofString "_law_walk",Str.ofString "_law_between",Str.ofString "_law_fence",Str.ofString "_law_lowest",Str.ofString "_law_leash",Str.ofString "_law_told"]
¦hRunS(w:World):=(W.openEnds treeTable Challenge.pw_oneleash_k26_part_gone_or_fenced w 100000).map (λs=>(W.openSeen hView hLoose (importedModules Challenge.pw_oneleash_k26_part_gone_or_fenced.main.body) (λ_=>true) true s,hF1 (Hd.strip (Hd.frag s.heap)),hF2 (Hd.frag s.heap)))
¦hEndS:=some ((W.openGood hView hLoose,hG1,hG2))
¤hRunS_self:@hRunS = @hRunS:=rfl
¤hEndS_self:@hEndS = @hEndS:=rfl
¦hRun0(w:World):=(W.openEnds treeTable Challenge.pw_oneleash_k26_part_gone_or_fenced w 100000).map (λs=>hF0 (Hd.strip (Hd.frag s.heap)))
¦hEnd0:=some (hG0)
set_option maxHeartbeats 0 in
open Lean Meta in
run_meta do
  PySem.W.Fast.laying.set true
  let mut st := [(`K26.hRunS, false), (`K26.hEndS, false), (`K26.hRun0, false), (`K26.hEnd0, false)]
  let mut seen : NameSet := {}
  while !st.isEmpty do
    let (c, ready) := st.head!
    st := st.tail!
    let (n, e) := PySem.W.Fast.stemOf c
    if PySem.W.Fast.base.any (·.1 == c) || (← PySem.W.Fast.primed.get).contains c || (← getEnv).contains e then continue
    let some (.defnInfo d) := (← getEnv).find? c | continue
    unless ready do
      unless seen.contains c do
        seen := seen.insert c
        st := ((PySem.W.Fast.constsOf d.value).filter (·.isConst)).map (·.constName!, false) ++ (c, true) :: st
      continue
    let ds ← PySem.W.Fast.twinsIn d.value
    if ds.isEmpty || d.safety != .safe then continue
    let back ← getEnv
    try
      let (v, pf) ← PySem.W.Fast.turned d.value ds
      let mut p := pf
      let mut hs := []
      while p.isAppOf ``congr do
        hs := (p.getArg! 5, p.getArg! 7) :: hs
        p := p.getArg! 6
      hs := (p.getArg! 3, p.getArg! 5) :: hs
      let us := d.levelParams.map mkLevelParam
      let df (n : Name) (t v : Lean.Expr) (h : ReducibilityHints) : MetaM Unit := addDecl (.defnDecl { name := n, levelParams := d.levelParams, type := t, value := v, hints := h, safety := .safe })
      let g := n.appendAfter "g"
      df g (← inferType (p.getArg! 4)) (p.getArg! 4) .abbrev
      let f := mkConst g us
      df n d.type (if d.type.isForall then v else mkAppN f (hs.map (·.1)).toArray) d.hints
      let q ← hs.foldlM (fun q h => mkCongr q h.2) (← mkEqRefl f)
      addDecl (.thmDecl { name := e, levelParams := d.levelParams, type := ← mkEq (mkConst c us) (mkConst n us), value := q })
      PySem.W.Fast.primed.modify (·.insert c (some (n, e)))
    catch _ => setEnv back
  PySem.W.Fast.laying.set false
set_option maxHeartbeats 0 in
lay_quick K26.hRunS K26.hEndS
name_quick hRunSQ for K26.hRunS by K26.hRunS_self
name_quick hEndSQ for K26.hEndS by K26.hEndS_self
set_option maxHeartbeats 0 in
¤yh(w:World):W.Fast.hRunSQ w=W.Fast.hEndSQ:=by kernel_rfl
¤Cg(w:World):hRunS w=hEndS:=(congrFun W.Fast.hRunSQ_eq w).trans ((yh w).trans W.Fast.hEndSQ_eq.symm)
¤hRun0_self:@hRun0 = @hRun0:=rfl
¤hEnd0_self:@hEnd0 = @hEnd0:=rfl
set_option maxHeartbeats 0 in
lay_quick K26.hRun0 K26.hEnd0
name_quick hRun0Q for K26.hRun0 by K26.hRun0_self
name_quick hEnd0Q for K26.hEnd0 by K26.hEnd0_self
set_option maxHeartbeats 0 in
¤yi(w:World):W.Fast.hRun0Q w=W.Fast.hEnd0Q:=by kernel_rfl
¤Ch(w:World):hRun0 w=hEnd0:=(congrFun W.Fast.hRun0Q_eq w).trans ((yi w).trans W.Fast.hEnd0Q_eq.symm)
¤C9(w:World):(W.openEnds treeTable Challenge.pw_oneleash_k26_part_gone_or_fenced w 100000).map (λs=>(W.openSeen hView hLoose (importedModules Challenge.pw_oneleash_k26_part_gone_or_fenced.main.body) (λ_=>true) true s,hFacts (Hd.frag s.heap)))=some (W.openGood hView hLoose,hGood):=by
 !rS:(W.openEnds treeTable Challenge.pw_oneleash_k26_part_gone_or_fenced w 100000).map (λs=>(W.openSeen hView hLoose (importedModules Challenge.pw_oneleash_k26_part_gone_or_fenced.main.body) (λ_=>true) true s,hF1 (Hd.strip (Hd.frag s.heap)),hF2 (Hd.frag s.heap)))=some ((W.openGood hView hLoose,hG1,hG2)):=Cg w;!r0:(W.openEnds treeTable Challenge.pw_oneleash_k26_part_gone_or_fenced w 100000).map (λs=>hF0 (Hd.strip (Hd.frag s.heap)))=some (hG0):=Ch w
 skip
 generalize (W.openEnds treeTable Challenge.pw_oneleash_k26_part_gone_or_fenced w 100000)=x at *;cases x with
 | none=>cases rS
 | some s =>
  !zS:=Option.some.inj rS;!z0:=Option.some.inj r0;show some (W.openSeen hView hLoose (importedModules Challenge.pw_oneleash_k26_part_gone_or_fenced.main.body) (λ_=>true) true s,hFacts (Hd.frag s.heap))=_;unfold hFacts hGood;!z:=(congrArg Prod.fst zS);!q1:=(congrArg Prod.fst (congrArg Prod.snd zS));!q2:=(congrArg Prod.snd (congrArg Prod.snd zS));!q0:=z0;#congrArg some (Hd.pair2 z (Hd.pair2 q0 (Hd.pair2 q1 q2)))
structure Txt(mg:Str->Option Value):Prop where
 z_abs:mg "abs" = none
 z_all:mg "all" = none
 z_bool:mg "bool" = none
 z_enumerate:mg "enumerate" = none
 z_int:mg "int" = none
 z_isinstance:mg "isinstance" = none
 z_len:mg "len" = none
 z_list:mg "list" = none
 z_max:mg "max" = none
 z_min:mg "min" = none
 z_range:mg "range" = none
 z_reversed:mg "reversed" = none
 z_tuple:mg "tuple" = none
section
variable {P:Program} {w:World} {K:W.Frag} {mg:Str->Option Value} {base:Heap} {C_Field:Addr}
¤eX{α:Type}{xs:List α}(h:xs.length=1):∃a,xs = [a]:=match xs,h with | [a],_=>⟨a,rfl⟩
¤di(i j:Int):decide (V.int i=V.int j)=decide (i=j):=Fnc.di i j
¤fw{x:Int}(h:Sm x):ar x<=50:=by
 !h':-999999999999<=x/\x<=999999999999:=h;#dM (n:=50) (by show _<1125899906842624;~)
¤smk{N M:List Str}{c:Scope}(a:c.kind=.function:=by rfl)(b:c.isCoroutine=false:=by rfl)(d:c.isGenerator=false:=by rfl)(e:N.Nodup:=by decide +kernel)(f:N.take M.length=M:=by rfl)(g:∀x∈M,c.names.lookup x=some .local\/c.names.lookup x=some .cell:=by decide +kernel)(h:∀y∈c.names,y.2≠.free:=by decide +kernel):Dj N M c:=⟨a,b,d,e,f,g,h⟩
¤Iq:Dj ["thing"] ["thing"] (ao (top 5)):=smk
¤qk(IK:Df K mg "is_whole" (top 5))(T:Txt mg):Fn P w K mg base "is_whole" ["thing"] 1 Gn:=by
 refine IK.fn Iq (λ_ _ _ _ _ _ us hl=>by @_,rfl:=eX hl;rfl) (λvs H Q E h=>?_) (λf cdv A outer s H vs Q E hr h=>?_)
 ·@x,t,rfl,_:=h
  rfl
 ·@x,t,rfl,k,q:=h
  ?_,(am (aB (jn (aN cO (by rfl) T.z_isinstance bW (ad ©0 (ad (iG T.z_int wX) ak))) (gC (vD (aN cO (by rfl) T.z_isinstance bW (ad ©0 (ad (iG T.z_bool tN) ak))))))));?^,x,t,"int",rfl,k,.inl rfl,^;refine aY (λhc=>?_) (λhc=>?_)
  ·?^,x,t,"bool",rfl,k,.inr (.inl rfl),^
   rw[(mI k).1 hc];#q
  ·rw[(mI k).2 hc]at q
   #q
¤Dy:Dj ["one","other","rest"] ["one","other"] (ao (top 6)):=smk
¤iX(Ga:Df K mg "common_divisor" (top 6))(T:Txt mg):Fn P w K mg base "common_divisor" ["one","other"] 1 IZ:=by
 refine Ga.fn Dy (λ_ _ _ _ _ _ us hl=>by @_,_,rfl:=dJ hl;rfl) (λvs H Q E h=>?_) (λf cdv A outer s H vs Q E hr h=>?_)
 ·@a,b,rfl,_:=h
  rfl
 ·@a,b,rfl,q:=h
  ?_,(ag (£0 Dy (aN fS (by rfl) T.z_abs jD (ad ©0 ak))) (ag (£1 Dy (aN fS (by rfl) T.z_abs jD (ad ©1 ak))) (ag (eJ PassesOwn.never (aE gF ©1 af (aG _)) (ag (£2 Dy (ay gG ©0 ©1)) (ag (£0 Dy ©1) (am (£1 Dy ©2))))) (am (aB ©0)))));?^,a,rfl,^,b,rfl;refine eI (λσ H'=>∃x y r,σ = [some (.int x),some (.int y),r]/\H'=H/\0<=x/\0<=y/\Int.gcd x y=Int.gcd a b)
   (λσ _=>match σ with | [_,some (.int y),_]=>y.toNat|_=>0) ⟨_,_,_,rfl,rfl,lW a,lW b,by rw[sT,wq]⟩ ?_ ?_
  ·rintro σ H' ⟨x,y,r,rfl,rfl,hx,hy,hg⟩
   ?^,rfl,^;refine aY (λhc=>?_) (λhc=>?_)
   ·!hy0:¬y=0:=by simpa using hc
    !hy1:0<y:= ~
    ?^,^,x,y,rfl,rfl,hy1,^,^,⟨y,x % y,_,rfl,rfl,hy,Int.emod_nonneg _ hy0,?_⟩
    ·rw[pS hx hy1]
     #hg
    ·!h1:=Int.emod_lt_of_pos x hy1
     !h2:=Int.emod_nonneg x hy0;show(x % y).toNat<y.toNat;~
   ·!hy0:y=0:=by simpa using hc
    subst hy0;?^;!e:(Int.gcd a b:Int)=x:=by rw[<- hg];#gcd_zero hx
    rw[e]at q;#q
  ·rintro σ H' Q1 Q2 hq ⟨v,e,hs,k,ek,r⟩
   §v,e,hs,k,ek,hq _ _ r
¤Hi:Dj ["top","bottom","divisor"] ["top","bottom"] (ao (top 7)):=smk
¤wH{C:Addr}(HF:KB K mg "ratio" (top 7) [.int 1])(D3:HV K mg "NoRatio" C)(DZ:Fn P w K mg base "is_whole" ["thing"] 1 Gn)(DA:Fn P w K mg base "common_divisor" ["one","other"] 1 IZ):Fx P w K mg base "ratio" ["top","bottom"] 2 [.int 1] (Fh C):=by
 refine HF.fx Hi (λT kV doc pm an cdv ct us its oT n s hv hl ho hs=>?_) (λT kV doc pm an cdv ct us its oT n s hv hl ho hs=>?_) (λvs H Q E h=>?_) (λf cdv A outer s H vs Q E hr h=>?_)
 ·@u,rfl,_:=kG hv
  match us,hl with
  | [_,_],_=>#BindsTo.of_defaults rfl ho hs rfl rfl
 ·@u,rfl,_:=kG hv
  !hl1:us.length=1:=by simpa using hl
  match us,hl1 with
  | [_],_=>#BindsTo.of_defaults rfl ho hs rfl rfl
 ·@a,b,nb,rfl,_:=h
  rfl
 ·@a,b,nb,rfl,⟨ba,bb,hnb⟩,k0,k1:=h
  ?_,(ag (aM (dw (cE (bH (¢DZ (ad ©0 ak)))) (dw (cE (bH (¢DZ (ad ©1 ak)))) (cZ (aE bP ©1 af (aG _))))).pt (am (iF D3 (by rfl))) aI) (ag (£2 Hi (¢DA (ad ©0 (ad ©1 ak)))) (ag (aM (aE dH ©1 af (aG _)) (am (£2 Hi (eM dn ©2))) aI) (am (aB (jj (ad (ay pd ©0 ©2) (ad (ay pd ©1 ©2) ak))))))));¶^,_,^,.int a,^,lB ?_;¶^,_,^,.int b,^,lB ?_;?^,rfl,^;refine aY (λhc=>?_) (λhc=>?_)
  ·#k0 (by simpa using hc)
  ·!hb:b≠0:=by simpa using hc
   !hg:=kr (a:=a) (b:=b) hb;!bg:ar (Int.gcd a b:Int)<=8000:=aq (m8 hb bb) ~;?^,^,a,b,rfl;?^,%,^;refine aY (λhd=>?_) (λhd=>?_)
   ·!hlt:b<0:=by simpa using hd
    ?^,^;¶^,^,%,⟨~,bits_neg bg⟩,^,^,%,⟨~,bits_neg bg⟩,sz (by simp),λp hp=>?_;#k1 hb p _ _ (ng hb _ (by rw[if_pos hlt])) (gW ba) (gW bb) hp
   ·!hlt:¬b<0:=by simpa using hd
    ¶^,^,%,⟨~,bg⟩,^,^,%,⟨~,bg⟩,sz (by simp),λp hp=>?_;#k1 hb p _ _ (ng hb _ (by rw[if_neg hlt])) (gW ba) (gW bb) hp
¤Jd:Dj ["number"] ["number"] (ao (top 11)):=smk
¤rn(Ji:Df K mg "sign_of" (top 11)):Fn P w K mg base "sign_of" ["number"] 1 Fs:=by
 refine Ji.fn Jd (λ_ _ _ _ _ _ us hl=>by @_,rfl:=eX hl;rfl) (λvs H Q E h=>?_) (λf cdv A outer s H vs Q E hr h=>?_)
 ·@n,rfl,_:=h
  rfl
 ·@n,rfl,q:=h
  ?_,(ag (aM (aE mW ©0 af (aG _)) (am (aB af)) aI) (ag (aM (aE dH ©0 af (aG _)) (am (aB (eM dn af))) aI) (am (aB af))));unfold sg at q;¶^,%,^,aY (λh1=>?_) (λh1=>?_)
  ·rw[if_pos (by simpa using h1)]at q
   #q
  ·rw[if_neg (by simpa using h1)]at q
   ¶^,%,^,aY (λh2=>?_) (λh2=>?_)
   ·rw[if_pos (by simpa using h2)]at q
    §^,q
   ·rw[if_neg (by simpa using h2)]at q
    #q
inductive GZ (vs:List V) (H:Hp) (Q:VK) (x_3:XK):Prop
 | mk:∀n:Int,(vs = [.int n])->(ar n<=160000)->(Q (.int (ssq n)) H)->GZ vs H Q x_3
inductive Ig (vs:List V) (H:Hp) (Q:VK) (x_3:XK):Prop
 | mk:∀w p u:Int,(vs = [.int w,.int p,.int u])->((ar w<=64000/\ar p<=64000/\ar u<=64000))->(Q (.int (swr w p u)) H)->Ig vs H Q x_3
inductive GY (vs:List V) (H:Hp) (Q:VK) (x_3:XK):Prop
 | mk:∀w p u s b:Int,(vs = [.int w,.int p,.int u,.int s,.int b])->((ar w<=8000/\ar p<=8000/\ar u<=8000/\ar s<=8000/\ar b<=8000))->(Q (.int (cR w p u s b)) H)->GY vs H Q x_3
structure KW(K:W.Frag)(H:Hp)(p:Addr)(a0 a1 a2 a3:Int):Prop where
 at_:SqT K H p [.int a0,.int a1,.int a2,.int a3]
 b0:ar a0<=3600
 b1:ar a1<=3600
 b2:ar a2<=8000
 b3:ar a3<=3600
inductive IT (K:W.Frag) (vs:List V) (H:Hp) (Q:VK) (x_3:XK):Prop
 | mk:∀(p q:Addr) (a0 a1 a2 a3 b0 b1 b2 b3:Int),(vs = [.ref p,.ref q])->(KW K H p a0 a1 a2 a3)->(KW K H q b0 b1 b2 b3)->(Q (.int (ro a0 a1 a2 a3 b0 b1 b2 b3)) H)->IT K vs H Q x_3
¤Gf:Dj ["number"] ["number"] (ao (top 12)):=smk
¤ju(Gg:Df K mg "signed_square" (top 12))(T:Txt mg):Fn P w K mg base "signed_square" ["number"] 1 GZ:=by
 refine Gg.fn Gf (λ_ _ _ _ _ _ us hl=>by @_,rfl:=eX hl;rfl) (λvs H Q E h=>?_) (λf cdv A outer s H vs Q E hr h=>?_)
 ·@n,rfl,_:=h
  rfl
 ·@n,rfl,bn,q:=h
  ?_,(am (aB (ay aF ©0 (aN fS (by rfl) T.z_abs jD (ad ©0 ak)))));§^,^,^,%,CM.b bn (bits_abs bn) & &,q
¤FY:Dj ["whole","part","under"] ["whole","part","under"] (ao (top 13)):=smk
¤iT(F6:Df K mg "sign_with_root" (top 13))(Ds:Fn P w K mg base "sign_of" ["number"] 1 Fs)(Du:Fn P w K mg base "signed_square" ["number"] 1 GZ):Fn P w K mg base "sign_with_root" ["whole","part","under"] 2 Ig:=by
 refine F6.fn FY (λ_ _ _ _ _ _ us hl=>by @_,_,_,rfl:=g7 hl;rfl) (λvs H Q E h=>?_) (λf cdv A outer s H vs Q E hr h=>?_)
 ·@a,p,u,rfl,_:=h
  rfl
 ·@a,p,u,rfl,⟨ba,bp,bu⟩,q:=h
  ?_,(am (aB (¢Ds (ad (ay aS (¢Du (ad ©0 ak)) (ay aF (¢Du (ad ©1 ak)) ©2)) ak))));§^,a,rfl,aq ba &,^,p,rfl,aq bp &,^,%,CM.b (kM bp) bu & &,%,^,q
¤Ek:Dj ["whole","part","under","share","below","roots","even"] ["whole","part","under","share","below"] (ao (top 14)):=smk
¤ii(FT:Df K mg "sign_with_roots" (top 14))(Ds:Fn P w K mg base "sign_of" ["number"] 1 Fs)(Du:Fn P w K mg base "signed_square" ["number"] 1 GZ)(Es:Fn P w K mg base "sign_with_root" ["whole","part","under"] 2 Ig):Fn P w K mg base "sign_with_roots" ["whole","part","under","share","below"] 3 GY:=by
 refine FT.fn Ek (λ_ _ _ _ _ _ us hl=>by @_,_,_,_,_,rfl:=v7 hl;rfl) (λvs H Q E h=>?_) (λf cdv A outer s H vs Q E hr h=>?_)
 ·@a,p,u,c,b,rfl,_:=h
  rfl
 ·@a,p,u,c,b,rfl,⟨ba,bp,bu,bc,bb⟩,q:=h
  ?_,(ag (£5 Ek (¢Ds (ad (ay aS (ay aF (¢Du (ad ©1 ak)) ©2) (ay aF (¢Du (ad ©3 ak)) ©4)) ak))) (ag (aM (aE k7 (ay aF (¢Ds (ad ©0 ak)) ©5) af (aG _)) (am (aB (¢Ds (ad (ay aS (¢Ds (ad ©0 ak)) ©5) ak)))) aI) (ag (£6 Ek (ay aP (ay aP (ay aF ©0 ©0) (ay aF (ay aF ©1 ©1) ©2)) (ay aF (ay aF ©3 ©3) ©4))) (am (aB (ay aF (¢Ds (ad ©0 ak)) (¢Es (ad ©6 (ad (ay aF (ay aF (eM dn af) ©1) ©3) (ad (ay aF ©2 ©4) ak))))))))));?^,p,rfl,aq bp &,^,%,CM.b (kM bp) bu & &,^,c,rfl,aq bc &,^,%,CM.b (kM bc) bb & &,%,^;unfold cR at q;¶^,a,rfl,^,%,CM.b (j8 _) (j8 _) & &,%,^,aY (λh1=>?_) (λh1=>?_)
  ·rw[if_pos (by simpa using h1)]at q
   §^,a,rfl,^,%,^,q
  ·rw[if_neg (by simpa using h1)]at q
   !m2:∀{i j:Int},ar i<=8000->ar j<=8000->ar (i*j)<=16000:=λhi hj=>bits_mul hi hj;!m3:∀{i j:Int},ar i<=16000->ar j<=8000->ar (i*j)<=24000:=λhi hj=>bits_mul hi hj;!cm:∀{i j:Int},ar i<=40000->ar j<=40000->CM i j:=λhi hj=>CM.b hi hj & &;!w:∀{i:Int} {m:Nat},ar i<=m->m<=40000->ar i<=40000:=λh hm=>aq h hm;!ba':=w ba &;!bp':=w bp &;!bc':=w bc &;!bu':=w bu &;!bb':=w bb &;?^,^,%,cm ba' ba',^,^,%,cm bp' bp',^,%,cm (w (m2 bp bp) &) bu',%,^,^,%,cm bc' bc',^,%,cm (w (m2 bc bc) &) bb',%;!b2:ar (-2:Int)<=8000:=aq (cF & &) &;!be:ar (a*a - p*p*u - c*c*b)<=64000:=aq (a9 (n:=24001) (a9 (n:=24000) (aq (m2 ba ba) &) (m3 (m2 bp bp) bu)) (aq (m3 (m2 bc bc) bb) &)) &;¶^,a,rfl,^,^,^,%,cm (w b2 &) bp',^,%,cm (w (m2 b2 bp) &) bc',^,^,%,cm bu' bb',_,_,^,⟨be,aq (m3 (m2 b2 bp) bc) &,aq (m2 bu bb) &⟩,%,?_,q;#CM.l (by !:=kP a;#zm ~ ~)
¤FI:Dj ["one","other","whole"] ["one","other"] (ao (top 15)):=smk
¤AK(Hz:Df K mg "root_order" (top 15))(Eo:Fn P w K mg base "sign_with_roots" ["whole","part","under","share","below"] 3 GY):Fn P w K mg base "root_order" ["one","other"] 4 (IT K):=by
 refine Hz.fn FI (λ_ _ _ _ _ _ us hl=>by @_,_,rfl:=dJ hl;rfl) (λvs H Q E h=>?_) (λf cdv A outer s H vs Q E hr h=>?_)
 ·@p,q,a0,a1,a2,a3,b0,b1,b2,b3,rfl,_:=h
  rfl
 ·@p,q,a0,a1,a2,a3,b0,b1,b2,b3,rfl,ra,rb,k:=h
  !cm:∀{i j:Int},ar i<=3600->ar j<=3600->CM i j:=λhi hj=>CM.b hi hj & &;!m2:∀{i j:Int},ar i<=3600->ar j<=3600->ar (i*j)<=7200:=λhi hj=>bits_mul hi hj;?_,(ag (£2 FI (ay aP (ay aF ®0 ®1) (ay aF ®1 ®0))) (am (aB (¢Eo (ad ©2 (ad (ay aF ®0 ®1) (ad ®0 (ad (ay aF (eM dn ®1) ®0) (ad ®1 ak)))))))));?^,p,_,%,ra.at_,rfl,^,q,_,%,rb.at_,rfl,%,cm ra.b0 rb.b3,^,q,_,%,rb.at_,rfl,^,p,_,%,ra.at_,rfl,%,cm rb.b0 ra.b3,%;?^,^,p,_,%,ra.at_,rfl,^,q,_,%,rb.at_,rfl,%,cm ra.b1 rb.b3,^,p,_,%,ra.at_,rfl,^,q,_,%,rb.at_,rfl,^,^,p,_,%,ra.at_,rfl,%,cm (bits_neg rb.b1) ra.b3,^,q,_,%,rb.at_,rfl;§_,_,_,_,^,⟨aq (a9 (m2 ra.b0 rb.b3) (m2 rb.b0 ra.b3)) &,aq (m2 ra.b1 rb.b3) &,aq ra.b2 &,aq (m2 (bits_neg rb.b1) ra.b3) &,aq rb.b2 &⟩,k
¤mj(F:Fn P w K mg base "root_order" ["one","other"] 4 (IT K)):Fn P w K mg base "root_order" ["one","other"] 4 (Ih K):=by
 @f,fd,o,h1,h2,h3,h4,h5:=F.ex;¶f,fd,o,h1,h2,h3,h4,h5.imp λvs H Q E h=>?_;@p,q,a0,a1,a2,a3,b0,b1,b2,b3,e,ra,rb,k:=h;§p,q,a0,a1,a2,a3,b0,b1,b2,b3,e,⟨ra.at_,aq ra.b0 &,aq ra.b1 &,aq ra.b2 &,aq ra.b3 &⟩,⟨rb.at_,aq rb.b0 &,aq rb.b1 &,aq rb.b2 &,aq rb.b3 &⟩,k
¤Ao{n f:Int}(hn:0<=n)(hf:0<f):n<((f+n / f) / 2+1)*((f+n / f) / 2+1)/\(n<f*f->(f+n / f) / 2<f)/\0<=(f+n / f) / 2:=by
 !q0:0<=n / f:=Int.ediv_nonneg hn ~;!q1:n<(n / f+1)*f:=Int.lt_ediv_add_one_mul_self n hf;¶?_,λh=>?_,(~)
 ·generalize eg:(f+n / f) / 2=g
  !h2:f+(n / f+1)<=2*(g+1):= ~
  !s1:=bY (x:=f+(n / f+1)) (y:=2*(g+1)) ~ h2;!e1:2*(g+1)*(2*(g+1))=4*((g+1)*(g+1)):=by grind
  !e2:(f+(n / f+1))*(f+(n / f+1))=4*((n / f+1)*f)+(f - (n / f+1))*(f - (n / f+1)):=by grind
  !e3:0<=(f - (n / f+1))*(f - (n / f+1)):=by
   rcases Int.le_total 0 (f - (n / f+1)) with g0|g0
   ·#Int.mul_nonneg g0 g0
   ·#Int.mul_nonneg_of_nonpos_of_nonpos g0 g0
  ~
 ·!:n / f<f:=Int.ediv_lt_of_lt_mul hf h
  ~
¤qI{n:Int}(hn:0<=n):n<((1:Int)*2^((((ar n:Nat):Int)+1) / 2).toNat+1)*((1:Int)*2^((((ar n:Nat):Int)+1) / 2).toNat+1)/\0<(1:Int)*2^((((ar n:Nat):Int)+1) / 2).toNat:=by
 generalize ek:((((ar n:Nat):Int)+1) / 2).toNat=k;!hk:ar n<=k+k:= ~
 !h1:=dm hk;!hp:(0:Int)<2^k:=Int.pow_pos &;!e1:((2:Int)^k)*2^k=((2^(k+k):Nat):Int):=by rw[<- Int.pow_add];norm_cast
 rw[Int.one_mul];¶?_,hp;!e2:((2:Int)^k+1)*(2^k+1)=2^k*2^k+2*2^k+1:=by grind
 !h2:n<((2^(k+k):Nat):Int):= ~
 ~
inductive G3 (vs:List V) (H:Hp) (Q:VK) (x_3:XK):Prop
 | mk:∀n:Int,(vs = [.int n])->(0<=n)->(ar n<=15000)->(∀r:Int,Er 1 n r->Q (.int r) H)->G3 vs H Q x_3
¤iA(x:Int):ssq (-x) = -ssq x:=by
 rcases Int.lt_trichotomy x 0 with h|h|h
 ·rw[dN h,dE (x:=-x) ~];grind
 ·subst h;rfl
 ·rw[dE (x:=x) ~,dN (x:=-x) ~];grind
¤jc(w m u n l:Int):cR (-w) n l (-m) u = -cR w m u (-n) l:=by
 unfold cR swr;rw[iA m,iA n,dG w,show ssq n*l + -ssq m*u = -(ssq m*u + -ssq n*l) by grind,dG (ssq m*u + -ssq n*l),Int.neg_mul_neg,show -w * -w - n*n*l - -m * -m*u=w*w - m*m*u - -n * -n*l by grind,show -2*n * -m = -2*m * -n by grind,Int.mul_comm l u]
 by_cases g:sg w*sg (ssq m*u + -ssq n*l)>=0
 ·rw[if_pos g,if_pos g,show -sg w + -sg (ssq m*u + -ssq n*l) = -(sg w+sg (ssq m*u + -ssq n*l)) by omega,dG]
 ·rw[if_neg g,if_neg g,Int.neg_mul]
¤eB(a0 a1 a2 a3 b0 b1 b2 b3:Int):ro b0 b1 b2 b3 a0 a1 a2 a3=0 - ro a0 a1 a2 a3 b0 b1 b2 b3:=by
 unfold ro;!h:=jc (a0*b3 - b0*a3) (a1*b3) a2 (b1*a3) b2;rw[Int.neg_mul a1 b3,Int.neg_mul b1 a3,show b0*a3 - a0*b3 = -(a0*b3 - b0*a3) by omega,h];~
¤qO{n:Int}(hn:0<=n)(h:ar n<=15000):ar ((1:Int)*2^((((ar n:Nat):Int)+1) / 2).toNat)<=7502:=by
 refine dM ?_;generalize ek:((((ar n:Nat):Int)+1) / 2).toNat=k;!hk:k<=7501:= ~
 rw[Int.one_mul,Int.natAbs_pow];show 2^k<2^7502;#Nat.pow_lt_pow_right & ~
¤EZ:Dj ["number","guess"] ["number"] (ao (top 16)):=smk
¤mC(HL:Df K mg "floor_root" (top 16)):Fn P w K mg base "floor_root" ["number"] 1 G3:=by
 refine HL.fn EZ (λ_ _ _ _ _ _ us hl=>by @_,rfl:=eX hl;rfl) (λvs H Q E h=>?_) (λf cdv A outer s H vs Q E hr h=>?_)
 ·@n,rfl,_:=h
  rfl
 ·@n,rfl,hn,bn,q:=h
  ?_,(ag (£1 EZ (ay vI af (ay dA (ay aS (qU PySem.F.plainAttrs_int PySem.F.slot_int_bit_length PySem.F.type_int_bit_length uk ©0) af) af))) (ag (eJ PassesOwn.never (aE mW (ay aF ©1 ©1) ©0 (aG _)) (am (£1 EZ (ay dA (ay aS ©1 (ay dA ©0 ©1)) af)))) (am (aB ©1))));!st:=qI hn;!sb:=qO hn bn;?^,rfl,n,rfl,rfl,%,%,⟨&,&⟩,%,⟨Int.ediv_nonneg ~ &,?_,&⟩
  ·show(((ar n:Nat):Int)+1) / 2<=1000000
   ~
  refine eI (λσ H'=>∃f:Int,σ = [some (.int n),some (.int f)]/\H'=H/\0<=f/\n<(f+1)*(f+1)/\ar f<=7502)
   (λσ _=>match σ with | [_,some (.int f)]=>f.toNat|_=>0) ⟨_,rfl,rfl,~,st.1,sb⟩ ?_ ?_
  ·rintro σ H' ⟨f,rfl,rfl,hf,hlt,bf⟩
   ¶^,^,%,CM.b bf bf & &,^,%,^,aY (λhc=>?_) (λhc=>?_)
   ·!hc:n<f*f:=bZ hc
    !hf0:0<f:=by
     rcases Int.lt_or_eq_of_le hf with h|h
     ·#h
     ·rw[<- h]at hc;simp at hc;~
    @k1,k2,k3:=Ao hn hf0;?^,^,^,%,⟨hf0,aq bf &⟩,%,%,⟨&,&⟩,⟨(f+n / f) / 2,rfl,rfl,k3,k1,de k3 (Int.le_of_lt (k2 hc)) bf⟩;!:=k2 hc;show((f+n / f) / 2).toNat<f.toNat;~
   ·!hc:¬n<f*f:=cJ hc
    ¶^,q f ⟨hf,~,~⟩
  ·rintro σ H' Q1 Q2 hq ⟨v,e,v2,e2,i,j,e3,e4,cm,v3,e5,i2,j2,e6,e7,k,ek,r⟩
   §v,e,v2,e2,i,j,e3,e4,cm,v3,e5,i2,j2,e6,e7,k,ek,hq _ _ r
inductive IS (K:W.Frag) (vs:List V) (H:Hp) (Q:VK) (x_3:XK):Prop
 | mk:∀(p:Addr) (a0 a1 a2 a3 sc:Int) (n kk k2:Nat),(vs = [.ref p,.int sc])->(Rt K H p a0 a1 a2 a3)->((0<=a2/\0<a3))->((0<sc/\ar sc<=n))->((n<=4100/\ar a0<=kk/\ar a1<=kk/\ar a2<=2*k2/\kk<=450/\k2<=500))->(∀F,SF a0 a1 a2 a3 sc F->ar F<=n+kk+k2+5->Q (.int F) H)->IS K vs H Q x_3
inductive JH (K:W.Frag) (vs:List V) (H:Hp) (Q:VK) (x_3:XK):Prop
 | mk:∀(p:Addr) (a0 a1 a2 a3 sc:Int) (n kk k2:Nat),(vs = [.ref p,.int sc])->(Rt K H p a0 a1 a2 a3)->((0<=a2/\0<a3))->((0<sc/\ar sc<=n))->((n<=4100/\ar a0<=kk/\ar a1<=kk/\ar a2<=2*k2/\kk<=450/\k2<=500))->(∀F H',SF (-a0) (-a1) a2 a3 sc F->ar F<=n+kk+k2+5->Same H H'->Q (.int (-F - 1)) H')->JH K vs H Q x_3
¤oW{n R:Int}{m:Nat}(r:Er 1 n R)(h:ar n<=2*m):ar R<=m+1:=by
 !h1:=dm h;!lo:=r.lo;!nn:=r.nn;rw[Int.one_mul]at lo;refine dM ?_;refine Classical.byContradiction λg=>?_;!g1:2^(m+1)<=R.natAbs:= ~
 !g2:2^(m+1)*2^(m+1)<=R.natAbs*R.natAbs:=Nat.mul_le_mul g1 g1;!e1:R.natAbs*R.natAbs=(R*R).natAbs:=(Int.natAbs_mul R R).symm;!e2:(R*R).natAbs<=n.natAbs:=by !:=Int.mul_nonneg nn nn;~
 !e3:2^(2*m)<=2^(m+1)*2^(m+1):=by rw[<- Nat.pow_add];#Nat.pow_le_pow_right & ~
 ~
¤ni{x s:Int}{m:Nat}(hs:0<s)(h:ar x<=m):ar (x / s)<=m+1:=by
 !h1:=dm h;refine dM ?_;!e:(x / s).natAbs<=x.natAbs+1:=by
  !q1:=Int.ediv_mul_le x (show s≠0 by omega);!q2:=Int.lt_ediv_add_one_mul_self x hs;generalize x / s=q at *;rcases Int.lt_or_le q 0 with g|g
  ·!a1:q*s<=q*1:=by
    !:=Int.mul_le_mul_of_nonneg_left (show(1:Int)<=s by omega) (show 0<=-q by omega);!e1:-q*s = -(q*s):=by grind
    ~
   !e2:(q+1)*s=q*s+s:=by grind
   rcases Int.lt_or_le (q+1) 0 with g2|g2
   ·!a2:(q+1)*s<=(q+1)*1:=by
     !:=Int.mul_le_mul_of_nonneg_left (show(1:Int)<=s by omega) (show 0<=-(q+1) by omega);!e1:-(q+1)*s = -((q+1)*s):=by grind
     ~
    ~
   ·~
  ·!a1:q*1<=q*s:=Int.mul_le_mul_of_nonneg_left ~ g
   ~
 !:2^(m+1)=2*2^m:=by rw[Nat.pow_succ];~
 !p:0<2^m:=Nat.pow_pos &;~
¤El:Dj ["number","scale","under","root"] ["number","scale"] (ao (top 18)):=smk
¤jT(GC:Df K mg "scaled_floor" (top 18))(Eb:Fn P w K mg base "floor_root" ["number"] 1 G3):Fn P w K mg base "scaled_floor" ["number","scale"] 2 (IS K):=by
 refine GC.fn El (λ_ _ _ _ _ _ us hl=>by @_,_,rfl:=dJ hl;rfl) (λvs H Q E h=>?_) (λf cdv A outer s H vs Q E hr h=>?_)
 ·@p,a0,a1,a2,a3,sc,n,kk,k2,rfl,_:=h
  rfl
 ·@p,a0,a1,a2,a3,sc,n,kk,k2,rfl,r,⟨h2,h3⟩,⟨s0,sb⟩,⟨n1,c0,c1,c2,d1,d2⟩,q:=h
  ?_,(ag (£2 El (ay aF (ay aF (ay aF (ay aF ©1 ©1) ®0) ®0) ®0)) (ag (£3 El (¢Eb (ad ©2 ak))) (ag (aM (aE dH ®0 af (aG _)) (am (£3 El (gD (aE bP (ay aF ©3 ©3) ©2 (aG _)) (eM dn ©3) (ay aP (eM dn ©3) af)))) aI) (am (aB (ay dA (ay aS (ay aF ©1 ®0) ©3) ®0))))));!m1:ar (sc*sc)<=n+n:=bits_mul sb sb;!m2:ar (sc*sc*a1)<=n+n+kk:=bits_mul m1 c1;!m3:ar (sc*sc*a1*a1)<=n+n+kk+kk:=bits_mul m2 c1;!m4:ar (sc*sc*a1*a1*a2)<=2*(n+kk+k2):=aq (bits_mul m3 c2) ~;!n4:0<=sc*sc*a1*a1*a2:=by
   !e:sc*sc*a1*a1=sc*a1*(sc*a1):=by grind
   rw[e];!:0<=sc*a1*(sc*a1):=by
    rcases Int.lt_or_le (sc*a1) 0 with g|g
    ·#Int.mul_nonneg_of_nonpos_of_nonpos ~ ~
    ·#Int.mul_nonneg g g
   #Int.mul_nonneg this h2
  ?^,^,%,CM.of sb sb ⟨~,~⟩,^,p,_,%,r.at_,rfl,%,CM.of m1 r.b1 ⟨~,&⟩,^,p,_,%,r.at_,rfl,%,CM.of m2 r.b1 ⟨~,&⟩,^,p,_,%,r.at_,rfl,%,CM.of m3 r.b2 ⟨~,&⟩;¶^,^,n4,aq m4 ~,λR hR=>?_;!rb:ar R<=n+kk+k2+1:=oW hR m4;!m5:ar (sc*a0)<=n+kk:=bits_mul sb c0;!fin:∀f:Int,f=flr a1 (sc*sc*a1*a1*a2) R->ar f<=n+kk+k2+2->ar ((sc*a0+f) / a3)<=n+kk+k2+5:=λf _ hf=>aq (ni h3 (bT (n:=n+kk+k2+2) (aq m5 ~) hf)) ~;!end_:∀f:Int,f=flr a1 (sc*sc*a1*a1*a2) R->ar f<=n+kk+k2+2->Q (.int ((sc*a0+f) / a3)) H:=λf e hf=>q _ ⟨R,hR,by rw[<- e]⟩ (fin f e hf);¶^,p,_,%,r.at_,rfl,%,^,aY (λe1=>?_) (λe1=>?_)
  ·!e1:a1<0:=bZ e1
   ¶^,^,%,CM.of rb rb ⟨~,~⟩,^,rfl,^,aY (λe2=>?_) (λe2=>?_)
   ·!e2:R*R=sc*sc*a1*a1*a2:=by simpa using e2
    ¶^,^,^,^,p,_,%,r.at_,rfl,%,CM.of sb r.b0 ⟨~,&⟩,^,%,^,p,_,%,r.at_,rfl,%,⟨h3,aq r.b3 &⟩,end_ (-R) ?_ (aq (bits_neg rb) ~);unfold flr;rw[if_pos e1,if_pos e2]
   ·!e2:¬R*R=sc*sc*a1*a1*a2:=by simpa using e2
    ¶^,^,%,^,^,p,_,%,r.at_,rfl,%,CM.of sb r.b0 ⟨~,&⟩,^,%,^,p,_,%,r.at_,rfl,%,⟨h3,aq r.b3 &⟩,end_ (-R - 1) ?_ (a9 (n:=n+kk+k2+1) (bits_neg rb) (aq (show ar 1<=1 by decide) ~));unfold flr;rw[if_pos e1,if_neg e2]
  ·!e1:¬a1<0:=cJ e1
   ¶^,^,p,_,%,r.at_,rfl,%,CM.of sb r.b0 ⟨~,&⟩,^,%,^,p,_,%,r.at_,rfl,%,⟨h3,aq r.b3 &⟩,end_ R ?_ (aq rb ~);unfold flr;rw[if_neg e1]
¤Gd:Dj ["number","scale","turned"] ["number","scale"] (ao (top 19)):=smk
¤oC(Id:Df K mg "below_all" (top 19))(DG:Fn P w K mg base "scaled_floor" ["number","scale"] 2 (IS K)):Fn P w K mg base "below_all" ["number","scale"] 3 (JH K):=by
 refine Id.fn Gd (λ_ _ _ _ _ _ us hl=>by @_,_,rfl:=dJ hl;rfl) (λvs H Q E h=>?_) (λf cdv A outer s H vs Q E hr h=>?_)
 ·@p,a0,a1,a2,a3,sc,n,kk,k2,rfl,_:=h
  rfl
 ·@p,a0,a1,a2,a3,sc,n,kk,k2,rfl,r,⟨h2,h3⟩,⟨s0,sb⟩,⟨n1,c0,c1,c2,d1,d2⟩,q:=h
  ?_,(ag (£2 Gd (aJ (ad (eM dn ®0) (ad (eM dn ®0) (ad ®0 (ad ®0 ak)))))) (am (aB (ay aP (eM dn (¢DG (ad ©2 (ad ©1 ak)))) af))));¶^,p,_,%,r.at_,rfl,^,^,p,_,%,r.at_,rfl,^,^,p,_,%,r.at_,rfl,^,p,_,%,r.at_,rfl,sz (by simp),λt H1 s1 f1 nn1=>?_;§^,^,t,-a0,-a1,a2,a3,sc,n,kk,k2,rfl,⟨SqT.of f1,bits_neg r.b0,bits_neg r.b1,r.b2,r.b3⟩,⟨h2,h3⟩,⟨s0,sb⟩,⟨n1,bits_neg c0,bits_neg c1,c2,d1,d2⟩,λF hF hb=>⟨_,rfl,_,_,rfl,rfl,q F H1 hF hb s1⟩
inductive GX (vs:List V) (H:Hp) (Q:VK) (x_3:XK):Prop
 | mk:∀lo hi sc:Int,(vs = [.int lo,.int hi,.int sc])->((lo<hi/\ar lo<=6020/\ar hi<=6020))->((0<sc/\ar sc<=4100))->(∀(l:Addr) (ts:List Int) (n:Nat) (H':Hp),Same H H'->H' l=some (.lst (ts.map V.int))->sh n lo hi sc sc=some ts->ts.length<=8210->Q (.ref l) H')->GX vs H Q x_3
¤jp{x:Int}{n:Nat}(h:ar x<=n):x<2^n:=by
 !:=dm h;!e:((2^n:Nat):Int)=2^n:=by norm_cast
 ~
¤pR{x y:Int}{n:Nat}(h:2*x<y)(hy:y<2^n)(h0:0<x):∃m,n=m+1/\x<2^m:=by
 cases n with
 | zero=>simp at hy;~
 | succ m =>
  ¶m,rfl,?_;!:(2:Int)^(m+1)=2*2^m:=by rw[Int.pow_succ];~
  ~
¦Far(lo hi b l sc:Int)(k:Nat):Prop:=(k=0/\b=sc/\l=sc)\/∃x y:Nat,hi<2^x/\lo<2^x/\b<2^y/\l<2^y/\b<lo/\l<hi/\k+x+y<=8205
¤Far.len{lo hi b l sc:Int}{k:Nat}(h:Far lo hi b l sc k):k<=8205:=by
 rcases h with h|⟨x,y,h⟩ <;> ~
¤Far.step{lo hi b l sc:Int}{k:Nat}(h:Far lo hi b l sc k)(sb:ar sc<=4100)(hb:0<b)(hl:0<l)(s:(0<hi - lo / b*l/\hi - lo / b*l<l)/\(0<lo - lo / b*b/\lo - lo / b*b<b)):Far l b (hi - lo / b*l) (lo - lo / b*b) sc (k+1):=by
 @⟨s1,s2⟩,s3,s4:=s;rcases h with⟨rfl,rfl,rfl⟩|⟨x,y,h1,h2,h3,h4,h5,h6,h7⟩
 ·!:=jp sb
  #.inr ⟨4100,4100,this,this,~,~,s2,s4,~⟩
 ·!q1:1<=lo / b:=by
   !:=Int.ediv_le_ediv hb (show b<=lo by omega);rw[Int.ediv_self ~]at this;#this
  !e1:l*1<=lo / b*l:=by rw[Int.mul_comm (lo / b)];#Int.mul_le_mul_of_nonneg_left q1 ~
  !e2:b*1<=lo / b*b:=by rw[Int.mul_comm (lo / b)];#Int.mul_le_mul_of_nonneg_left q1 ~
  @m,rfl,hm:=pR (x:=hi - lo / b*l) ~ h1 s1;@m',e,hm':=pR (x:=lo - lo / b*b) ~ h2 s3;!:m=m':= ~
  subst this;#.inr ⟨y,m,h3,h4,hm,hm',s2,s4,~⟩
¤Dp:Dj ["low","high","scale","terms","bottom","last","term","low_rest","high_rest"] ["low","high","scale"] (ao (top 20)):=smk
¤jS(GB:Df K mg "shared_terms" (top 20))(T:Txt mg):Fn P w K mg base "shared_terms" ["low","high","scale"] 1 GX:=by
 refine GB.fn Dp (λ_ _ _ _ _ _ us hl=>by @_,_,_,rfl:=g7 hl;rfl) (λvs H Q E h=>?_) (λf cdv A outer s H vs Q E hr h=>?_)
 ·@lo,hi,sc,rfl,_:=h
  rfl
 ·@lo,hi,sc,rfl,⟨lh,bl,bh⟩,⟨s0,sb⟩,q:=h
  ?_,(ag (£3 Dp (bU ak)) (ag (£4 Dp ©2) (ag (£5 Dp ©2) (am (eJ PassesOwn.never (bH cW) (ag (£6 Dp (ay dA ©0 ©4)) (ag (aM (aE bP (ay aF ©6 ©4) ©0 (aG _)) (ag (cH (fF PySem.F.plainAttrs_list PySem.F.slot_list_append PySem.F.type_list_append ca ©3 (ad ©6 ak))) (am (aB ©3))) aI) (ag (aM (aE k6 (ay aF (ay aS ©6 af) ©5) ©1 (aG _)) (ag (cH (fF PySem.F.plainAttrs_list PySem.F.slot_list_append PySem.F.type_list_append ca ©3 (ad (ay aS ©6 af) ak))) (am (aB ©3))) aI) (ag (cH (fF PySem.F.plainAttrs_list PySem.F.slot_list_append PySem.F.type_list_append ca ©3 (ad ©6 ak))) (ag (£7 Dp (ay aP ©0 (ay aF ©6 ©4))) (ag (£8 Dp (ay aP ©1 (ay aF ©6 ©5))) (ag (£0 Dp ©5) (ag (£1 Dp ©4) (ag (£4 Dp ©8) (am (£5 Dp ©7))))))))))))))));¶sz (by simp),λp H1 s1 f1 n1=>⟨_,rfl,_,rfl,?_⟩;refine eI (λσ H'=>∃(x y b l:Int) (ts:List Int) (z6 z7 z8:Option V),σ = [some (.int x),some (.int y),some (.int sc),some (.ref p),some (.int b),some (.int l),z6,z7,z8]/\Same H H'/\H' p=some (.lst (ts.map V.int))/\(0<b/\b<=sc)/\(0<l/\l<=sc)/\x*l<y*b/\(ar x<=6020/\ar y<=6020)/\Far x y b l sc ts.length/\∀us n,sh n x y b l=some us->∃m,sh m lo hi sc sc=some (ts++us))
   (λσ _=>match σ with | [_,_,_,_,some (.int b),some (.int l),_,_,_]=>(b+l).toNat|_=>0) ⟨lo,hi,sc,sc,[],_,_,_,rfl,s1,f1,⟨s0,Int.le_refl _⟩,⟨s0,Int.le_refl _⟩,Int.mul_lt_mul_of_pos_right lh s0,⟨bl,bh⟩,.inl ⟨rfl,rfl,rfl⟩,λus n h=>⟨n,h⟩⟩ ?_ ?_
  ·rintro σ H' ⟨x,y,b,l,ts,z6,z7,z8,rfl,sm,ft,⟨b0,b1⟩,⟨l0,l1⟩,hd,⟨bx,by'⟩,far,tl⟩
   !bb:ar b<=4100:=de ~ b1 sb;!bl':ar l<=4100:=de ~ l1 sb;!bq:ar (x / b)<=6021:=ni b0 bx;!fl:=far.len;!sz3:∀c:Int,(ts.map V.int).length<sizeLine:=λ_=>by rw[sizeLine_eq,List.length_map];~
   ¶^,bM rfl ?_;?^,^,%,⟨b0,aq bb &⟩;¶^,^,%,CM.of bq bb ⟨&,&⟩,^,rfl,^,aY (λc1=>?_) (λc1=>?_)
   ·!c1:x / b*b=x:=by simpa using c1
    ¶^,.inl ⟨rfl,_,SqL.of ft⟩,^,p,%,ft,sz3 0,λH2 u2=>⟨_,rfl,?_⟩;@m,hm:=tl [x / b] 1 (by unfold sh;rw[if_pos c1]);#q p (ts++[x / b]) m H2 (u2.same sm n1) (by rw[u2.now,List.map_append];rfl) hm (by simp;~)
   ·!c1:¬x / b*b=x:=by simpa using c1
    ¶^,%,^,%,CM.of (bT (n:=6021) bq (aq (show ar 1<=1 by decide) &)) bl' ⟨&,&⟩,^,%,^,aY (λc2=>?_) (λc2=>?_)
    ·!c2:(x / b+1)*l<=y:=bZ c2
     ¶^,.inl ⟨rfl,_,SqL.of ft⟩,^,%,p,%,ft,sz3 0,λH2 u2=>⟨_,rfl,?_⟩;@m,hm:=tl [x / b+1] 1 (by unfold sh;rw[if_neg c1,if_pos c2]);#q p (ts++[x / b+1]) m H2 (u2.same sm n1) (by rw[u2.now,List.map_append];rfl) hm (by simp;~)
    ·!c2:¬(x / b+1)*l<=y:=cJ c2
     @st1,st2,st3:=st b0 l0 hd c1 c2;¶^,.inl ⟨rfl,_,SqL.of ft⟩,^,p,%,ft,sz3 0,λH2 u2=>?_;?^,^,^,%,CM.of bq bb ⟨&,&⟩,%;?^,^,^,%,CM.of bq bl' ⟨&,&⟩,%;?^,^,^,^,⟨l,b,y - x / b*l,x - x / b*b,ts++[x / b],_,_,_,rfl,u2.same sm n1,by rw[u2.now,List.map_append];rfl,⟨st1.1,~⟩,⟨st2.1,~⟩,st3,⟨aq bl' &,aq bb &⟩,by rw[List.length_append];#far.step sb b0 l0 ⟨st1,st2⟩,λus n h=>?_⟩
     ·@m,hm:=tl (x / b::us) (n+1) (by unfold sh;rw[if_neg c1,if_neg c2,h];rfl)
      §m,(by rw[List.append_assoc];#hm)
     ·show(y - x / b*l+(x - x / b*b)).toNat<(b+l).toNat
      ~
  ·rintro σ H' Q1 Q2 hq ⟨k,e,r⟩
   §k,e,hq _ _ r
inductive Km (vs:List V) (H:Hp) (Q:VK) (x_3:XK):Prop
 | mk:∀(l:Addr) (ts:List Int) (N:Int) (n:Nat),(vs = [.ref l])->(H l=some (.lst (ts.map V.int)))->((0<ts.length/\ts.length<=8210))->(Bd N ts)->((ar N<=n/\n<=4490/\0<=N))->(∀(r:Addr) (t u:Int) (H':Hp),Same H H'->H' r=some (.tup [.int t,.int u])->E2 (fr ts).1 (fr ts).2 t u->ar t<=n->ar u<=n->Q (.ref r) H')->Km vs H Q x_3
¤wS{xs:List V}(h:0<xs.length):j5 xs none (some (-1))=xs.dropLast:=by
 unfold j5;rw[HT.sIx_none];!e:HT.sIx xs.length xs.length (some (-1))=xs.length - 1:=by
  unfold HT.sIx;simp;~
 rw[e,List.dropLast_eq_take];simp
¤kE{N x:Int}{n:Nat}(h:-N<=x/\x<=N)(hN:ar N<=n)(N0:0<=N):ar x<=n:=dM (Nat.lt_of_le_of_lt (by ~:x.natAbs<=N.natAbs) (dm hN))
¤Dt:Dj ["terms","top","bottom","term","rest"] ["terms"] (ao (top 21)):=smk
¤gJ{C:Addr}(Fq:Df K mg "fraction_of_terms" (top 21))(EC:Fx P w K mg base "ratio" ["top","bottom"] 2 [.int 1] (Fh C))(T:Txt mg):Fn P w K mg base "fraction_of_terms" ["terms"] 3 Km:=by
 refine Fq.fn Dt (λ_ _ _ _ _ _ us hl=>by @_,rfl:=eX hl;rfl) (λvs H Q E h=>?_) (λf cdv A outer s H vs Q E hr h=>?_)
 ·@l,ts,N,n,rfl,_:=h
  rfl
 ·@l,ts,N,n,rfl,hl,⟨t0,t1⟩,bd,⟨bN,n1,N0⟩,q:=h
  ?_,(ag (£1 Dt (ax aW ©0 (eM dn af) (λ_ _=>rfl))) (ag (£2 Dt af) (ag (cj PassesOwn.never rfl (Ae rfl T.z_reversed (kW kO ©0 nU (kf (eM dn af)))) (aQ (i:=3) Dt.nd rfl (Or.inl rfl)) (ag (£4 Dt ©2) (ag (£2 Dt ©1) (am (£1 Dt (ay aS (ay aF ©3 ©1) ©4)))))) (am (aB (kX EC (hr.mono &) (by rfl) (ad ©1 (ad ©2 ak))))))));obtain⟨ti,tl,rfl⟩:∃ti tl,ts=ti++[tl]:=by
   rcases List.eq_nil_or_concat ts with h|⟨a,b,h⟩
   ·rw[h]at t0
    simp at t0
   ·§a,b,(by rw[h];simp)
  !len:(ti++[tl]).length=ti.length+1:=by simp
  !hlast:atI ((ti++[tl]).map V.int) (-1)=some (.int tl):=by
   rw[List.map_append];#xc _ _
  !hcut:j5 ((ti++[tl]).map V.int) none (some (-1))=ti.map V.int:=by
   rw[wS (by rw[List.length_map,len];~),List.map_append];simp
  ?^,^,l,_,%,SqL.of hl,hlast;¶^,^,^,l,^,SqL.of hl,λp H1 s1 f1 m1=>?_;rw[hcut]at f1;!fl:(fr ((ti++[tl]).drop ti.length))=(tl,1):=by rw[List.drop_left];rfl
  ¶p,^,SqL.of f1,yo (K:=K) (a:=p) (xs:=ti.map V.int) (λi σ H'=>∃(x y:Int) (z3 z4:Option V),σ = [some (.ref l),some (.int x),some (.int y),z3,z4]/\H'=H1/\i<=ti.length/\fr ((ti++[tl]).drop (ti.length - i))=(x,y)) ⟨tl,1,_,_,rfl,rfl,Nat.zero_le _,by rw[Nat.sub_zero];#fl⟩ ?_ ?_ ?_
  ·rintro i σ H' hi ⟨x,y,z3,z4,rfl,rfl,h1,h2⟩
   #SqL.of f1
  ·rintro i v σ H' hi hv ⟨x,y,z3,z4,rfl,rfl,h1,h2⟩
   rw[List.length_map]at hi hv;rw[List.getElem?_map]at hv;@c,hc,rfl:=Option.map_eq_some_iff.mp hv;!hj:ti.length - (i+1)<(ti++[tl]).length:=by rw[len];~
   !hc':(ti++[tl])[ti.length - (i+1)]? = some c:=by
    rw[List.getElem?_append_left ~,<- hc]
    congr 1
    ~
   !e1:(ti++[tl]).drop (ti.length - (i+1))=c::(ti++[tl]).drop (ti.length - i):=by
    @a1,a2:=List.getElem?_eq_some_iff.mp hc';rw[List.drop_eq_getElem_cons a1,a2]
    congr 1
    congr 1
    ~
   !ne:(ti++[tl]).drop (ti.length - i)≠[]:=λz=>by
    !:=congrArg List.length z;rw[List.length_drop,len]at this;simp at this;~
   !bt:=(bd.f (ti.length - i) (by rw[len];~)).1;rw[h2]at bt;!bx:ar x<=n:=kE bt bN N0;!bc:ar c<=n:=kE (bd.c c (List.mem_of_getElem? hc')) bN N0;?^,^,^,^,%,CM.of bc bx ⟨~,~⟩,^,%,c*x+y,x,%,(~);rw[e1,sY ne,h2]
  ·rintro σ H' ⟨x,y,z3,z4,rfl,rfl,h1,h2⟩
   rw[List.length_map,Nat.sub_self,List.drop_zero]at h2;!b0:=bd.f 0 ~;rw[List.drop_zero,h2]at b0;!bx:ar x<=n:=kE b0.1 bN N0;!by':ar y<=n:=kE ⟨by !:=b0.2.1;~,b0.2.2⟩ bN N0;¶^,^,x,y,n,rfl,⟨bx,by',~⟩,λz=>?_,λ_ r t u fr' c1 c2 nr=>?_
   ·!:=b0.2.1
    !z:y=0:=z;~
   ·rw[h2]at q
    #q r t u _ (s1.trans (Same.new nr)) upd_same fr' c1 c2
¤se{K:W.Frag}{H H':Hp}{p:Addr}{a0 a1 a2 a3:Int}(r:Rt K H p a0 a1 a2 a3)(s:Same H H'):Rt K H' p a0 a1 a2 a3:=⟨vg r.at_ s,r.b0,r.b1,r.b2,r.b3⟩
structure K3(a0 a1 a2 a3 b0 b1 b2 b3:Int)(kk k2:Nat):Prop where
 a2n:0<=a2
 a3p:0<a3
 b2n:0<=b2
 b3p:0<b3
 x0:ar a0<=kk
 x1:ar a1<=kk
 x2:ar a2<=2*k2
 y0:ar b0<=kk
 y1:ar b1<=kk
 y2:ar b2<=2*k2
 hk:kk<=450
 h2:k2<=500
inductive Kl (K:W.Frag) (vs:List V) (H:Hp) (Q:VK) (x_3:XK):Prop
 | mk:∀(p q:Addr) (a0 a1 a2 a3 b0 b1 b2 b3:Int) (kk k2 J n:Nat),(vs = [.ref p,.ref q])->(Rt K H p a0 a1 a2 a3)->(Rt K H q b0 b1 b2 b3)->(K3 a0 a1 a2 a3 b0 b1 b2 b3 kk k2)->((2^J+1+kk+k2+8<=n/\n<=4490/\2^J<=4099))->((∀F G,Rm a0 a1 a2 a3 b0 b1 b2 b3 J F G->F+1+2<=-G - 1))->(∀(r:Addr) (t u:Int) (H':Hp),Same H H'->H' r=some (.tup [.int t,.int u])->Wi a0 a1 a2 a3 b0 b1 b2 b3 t u->ar t<=n->ar u<=n->Q (.ref r) H')->Kl K vs H Q x_3
¤zW(i:Nat):(1:Int)*2^((2:Int)^i).toNat=scl i:=by
 !:((2:Int)^i).toNat=2^i:=by
  !e:((2^i:Nat):Int)=(2:Int)^i:=by norm_cast
  rw[<- e];#Int.toNat_natCast _
 rw[this,Int.one_mul];rfl
¤iC(i:Nat):ar (scl i)<=2^i+1:=by
 refine dM ?_;unfold scl;rw[Int.natAbs_pow];#Nat.pow_lt_pow_right & ~
¤kS(i:Nat):((2^i:Nat):Int)=(2:Int)^i:=by norm_cast
¤Dw:Dj ["one","other","bits","scale","low","high"] ["one","other"] (ao (top 22)):=smk
¤im(FV:Df K mg "fraction_within" (top 22))(DG:Fn P w K mg base "scaled_floor" ["number","scale"] 2 (IS K))(Fo:Fn P w K mg base "below_all" ["number","scale"] 3 (JH K))(Ec:Fn P w K mg base "fraction_of_terms" ["terms"] 3 Km)(EJ:Fn P w K mg base "shared_terms" ["low","high","scale"] 1 GX):Fn P w K mg base "fraction_within" ["one","other"] 4 (Kl K):=by
 refine FV.fn Dw (λ_ _ _ _ _ _ us hl=>by @_,_,rfl:=dJ hl;rfl) (λvs H Q E h=>?_) (λf cdv A outer s H vs Q E hr h=>?_)
 ·@p,q,a0,a1,a2,a3,b0,b1,b2,b3,kk,k2,J,n,rfl,_:=h
  rfl
 ·@p,q,a0,a1,a2,a3,b0,b1,b2,b3,kk,k2,J,n,rfl,rp,rq,tw,⟨j1,j2,j3⟩,top,k:=h
  ?_,(ag (£2 Dw af) (am (eJ PassesOwn.never (bH cW) (ag (£3 Dw (ay vI af ©2)) (ag (£4 Dw (ay aS (¢DG (ad ©0 (ad ©3 ak))) af)) (ag (£5 Dw (¢Fo (ad ©1 (ad ©3 ak)))) (ag (aM (aE k6 (ay aS ©4 af) ©5 (aG _)) (am (aB (¢Ec (ad (¢EJ (ad ©4 (ad ©5 (ad ©3 ak)))) ak)))) aI) (am (£2 Dw (ay aF ©2 af))))))))));refine eI (λσ H'=>∃(i:Nat) (z3 z4 z5:Option V),σ = [some (.ref p),some (.ref q),some (.int (2^i)),z3,z4,z5]/\i<=J/\Same H H'/\∀i',i'<i->∀F' G',Rm a0 a1 a2 a3 b0 b1 b2 b3 i' F' G'->¬F'+1+2<=-G' - 1)
   (λσ _=>match σ with | [_,_,some (.int B),_,_,_]=>((2:Int)^J+1 - B).toNat|_=>0) ⟨0,_,_,_,rfl,Nat.zero_le _,Same.refl _,λi' h=>absurd h ~⟩ ?_ ?_
  ·rintro σ H' ⟨i,z3,z4,z5,rfl,hi,sm,no⟩
   !pw:2^i<=2^J:=Nat.pow_le_pow_right & hi;!pi:0<2^i:=Nat.pow_pos &;!pc:=kS i;!rp':=se rp sm;!rq':=se rq sm;¶^,bM rfl ?_;?^,%,⟨~,by show(2:Int)^i<=1000000;~,&⟩;rw[zW];¶^,^,p,a0,a1,a2,a3,scl i,2^i+1,kk,k2,rfl,rp',⟨tw.a2n,tw.a3p⟩,⟨eT i,iC i⟩,⟨~,tw.x0,tw.x1,tw.x2,tw.hk,tw.h2⟩,λF hF bF=>⟨_,_,rfl,rfl,?_⟩;¶^,^,q,b0,b1,b2,b3,scl i,2^i+1,kk,k2,rfl,rq',⟨tw.b2n,tw.b3p⟩,⟨eT i,iC i⟩,⟨~,tw.y0,tw.y1,tw.y2,tw.hk,tw.h2⟩,λG H1 hG bG s1=>?_;¶^,%,^,%,^,aY (λc1=>?_) (λc1=>?_)
   ·!c1:F+1+2<=-G - 1:=bZ c1
    !hk:=tw.hk;!h2:=tw.h2;!bl:ar (F+1)<=2^i+1+kk+k2+6:=bT bF (aq (show ar 1<=1 by decide) ~);!bh:ar (-G - 1)<=2^i+1+kk+k2+6:=a9 (bits_neg bG) (aq (show ar 1<=1 by decide) ~);¶^,^,^,F+1,-G - 1,scl i,rfl,⟨~,aq bl ~,aq bh ~⟩,⟨eT i,aq (iC i) ~⟩,λl ts m H2 s2 f2 hs ln=>?_;!hd:(F+1)*scl i<(-G - 1)*scl i:=Int.mul_lt_mul_of_pos_right ~ (eT i);!e1:=jp bl;!e2:=jp bh;!e3:=jp (bits_neg bl);!e4:=jp (bits_neg bh);!e5:=jp (aq (n:=2^i+1+kk+k2+6) (iC i) ~);!bd:=yW (N:=2^(2^i+1+kk+k2+6)) (eT i) (eT i) hd ⟨~,~⟩ ⟨~,~⟩ ~ ~ hs;!ne:=(rY (eT i) (eT i) hd hs).1;!N0:(0:Int)<2^(2^i+1+kk+k2+6):=Int.pow_pos &;!bN:ar ((2:Int)^(2^i+1+kk+k2+6)+1)<=n:=by
     refine aq (bT (n:=2^i+1+kk+k2+7) (dM ?_) (aq (show ar 1<=1 by decide) ~)) ~;rw[Int.natAbs_pow];#Nat.pow_lt_pow_right & ~
    §l,ts,_,n,rfl,f2,⟨List.length_pos_iff.mpr ne,ln⟩,bd,⟨bN,j2,~⟩,λr t u H3 s3 f3 hf c2 c3=>k r t u H3 (sm.trans (s1.trans (s2.trans s3))) f3 ⟨i,F,G,ts,m,⟨hF,hG⟩,c1,no,hs,hf⟩ c2 c3
   ·!c1:¬F+1+2<=-G - 1:=cJ c1
    !ij:i≠J:=λz=>by
     subst z;#c1 (top F G ⟨hF,hG⟩)
    !pw2:2^(i+1)<=2^J:=Nat.pow_le_pow_right & ~;!pc2:=kS (i+1);!pcJ:=kS J;!e:(2:Int)^i*2=2^(i+1):=by rw[Int.pow_succ]
    ?^,%,CM.r ⟨&,&⟩;rw[e];?⟨i+1,_,_,_,rfl,~,sm.trans s1,λi' h F' G' hR=>?_⟩
    ·rcases Nat.lt_or_eq_of_le (Nat.le_of_lt_succ h) with g|g
     ·#no i' g F' G' hR
     ·subst g
      rw[hR.1.uniq hF,hR.2.uniq hG];#c1
    ·show((2:Int)^J+1 - 2^(i+1)).toNat<((2:Int)^J+1 - 2^i).toNat
     ~
  ·rintro σ H' Q1 Q2 hq ⟨k,e,r⟩
   §k,e,hq _ _ r
inductive Js (K:W.Frag) (C:Addr) (vs:List V) (H:Hp) (Q:VK) (E:XK):Prop
 | mk:∀(p:Addr) (a0 a1 a2 a3:Int),(vs = [.ref p])->(Rt K H p a0 a1 a2 a3)->((0<=a2/\0<a3))->(∀R,Er 1 (a1*a1*a2) R->(R*R≠a1*a1*a2->E (.ref C) none H) /\
 (R*R=a1*a1*a2->∀(r:Addr) (t u:Int) (H':Hp),Same H H'->H' r=some (.tup [.int t,.int u])->E2 (a0+sg a1*R) a3 t u->ar t<=1500->ar u<=1500->Q (.ref r) H'))->Js K C vs H Q E
inductive JO (K:W.Frag) (C:Addr) (vs:List V) (H:Hp) (Q:VK) (E:XK):Prop
 | mk:∀(p q:Addr) (a0 a1 a2 a3 b0 b1 b2 b3:Int) (kk k2 J n:Nat),(vs = [.ref p,.ref q])->(Rt K H p a0 a1 a2 a3)->(Rt K H q b0 b1 b2 b3)->(K3 a0 a1 a2 a3 b0 b1 b2 b3 kk k2)->((2^J+1+kk+k2+8<=n/\n<=4490/\2^J<=4099))->((0<ro a0 a1 a2 a3 b0 b1 b2 b3->E (.ref C) none H))->((ro a0 a1 a2 a3 b0 b1 b2 b3=0->∀R,Er 1 (a1*a1*a2) R->(R*R≠a1*a1*a2->E (.ref C) none H)/\(R*R=a1*a1*a2->∀(r:Addr) (t u:Int) (H':Hp),Same H H'->H' r=some (.tup [.int t,.int u])->E2 (a0+sg a1*R) a3 t u->ar t<=1500->ar u<=1500->Q (.ref r) H')))->((ro a0 a1 a2 a3 b0 b1 b2 b3<0->(∀F G,Rm a0 a1 a2 a3 b0 b1 b2 b3 J F G->F+1+2<=-G - 1)/\∀(r:Addr) (t u:Int) (H':Hp),Same H H'->H' r=some (.tup [.int t,.int u])->Wi a0 a1 a2 a3 b0 b1 b2 b3 t u->ar t<=n->ar u<=n->Q (.ref r) H'))->JO K C vs H Q E
¤zR(x:Int):0<=x*x:=by
 rcases Int.lt_or_le x 0 with g|g
 ·#Int.le_of_lt (Int.mul_pos_of_neg_of_neg g g)
 ·#Int.mul_nonneg g g
¤ED:Dj ["number","under","root"] ["number"] (ao (top 17)):=smk
¤jX{C:Addr}(GH:Df K mg "own_fraction" (top 17))(D3:HV K mg "NoRatio" C)(Eb:Fn P w K mg base "floor_root" ["number"] 1 G3)(Ds:Fn P w K mg base "sign_of" ["number"] 1 Fs)(EC:Fx P w K mg base "ratio" ["top","bottom"] 2 [.int 1] (Fh C)):Fx P w K mg base "own_fraction" ["number"] 3 [] (Js K C):=by
 refine GH.fx ED (λ_ _ _ _ _ _ us hl=>by @_,rfl:=eX hl;rfl) (λvs H Q E h=>?_) (λf cdv A outer s H vs Q E hr h=>?_)
 ·@p,a0,a1,a2,a3,rfl,_:=h
  rfl
 ·@p,a0,a1,a2,a3,rfl,r,⟨h2,h3⟩,k:=h
  ?_,(ag (£1 ED (ay aF (ay aF ®0 ®0) ®0)) (ag (£2 ED (¢Eb (ad ©1 ak))) (ag (aM (aE gF (ay aF ©2 ©2) ©1 (aG _)) (am (iF D3 (by rfl))) aI) (am (aB (sr EC (hr.mono &) (by rfl) (ad (ay aS ®0 (ay aF (¢Ds (ad ®0 ak)) ©2)) (ad ®0 ak))))))));!m1:ar (a1*a1)<=900:=bits_mul r.b1 r.b1;!m2:ar (a1*a1*a2)<=1900:=bits_mul m1 r.b2;!n2:0<=a1*a1*a2:=Int.mul_nonneg (zR a1) h2;?^,p,_,%,r.at_,rfl,^,p,_,%,r.at_,rfl,%,CM.of r.b1 r.b1 ⟨&,&⟩,^,p,_,%,r.at_,rfl,%,CM.of m1 r.b2 ⟨&,&⟩;¶^,^,n2,aq m2 &,λR hR=>?_;@k1,k2:=k R hR;!rb:ar R<=951:=oW hR m2;¶^,^,%,CM.of rb rb ⟨&,&⟩,^,rfl,^,aY (λc=>?_) (λc=>?_)
  ·#k1 (by simpa using c)
  ·!c:R*R=a1*a1*a2:=by simpa using c
   ¶^,p,_,%,r.at_,rfl,^,p,_,%,r.at_,rfl,a1,rfl,^,%,CM.of (j8 a1) rb ⟨&,&⟩,%,^,p,_,%,r.at_,rfl,_,_,1500,rfl,⟨aq (bT (n:=961) (aq r.b0 &) (bits_mul (j8 a1) rb)) &,aq r.b3 &,&⟩,λz=>absurd z ~,λ_ p2 t u fr c1 c2 np=>k2 c p2 t u _ (Same.new np) upd_same fr c1 c2
¤Fj:Dj ["one","other","order"] ["one","other"] (ao (top 23)):=smk
¤jU{C:Addr}(GD:Df K mg "root_between" (top 23))(D3:HV K mg "NoRatio" C)(Dm:Fn P w K mg base "root_order" ["one","other"] 4 (Ih K))(EL:Fx P w K mg base "own_fraction" ["number"] 3 [] (Js K C))(Ep:Fn P w K mg base "fraction_within" ["one","other"] 4 (Kl K)):Fx P w K mg base "root_between" ["one","other"] 5 [] (JO K C):=by
 refine GD.fx Fj (λ_ _ _ _ _ _ us hl=>by @_,_,rfl:=dJ hl;rfl) (λvs H Q E h=>?_) (λf cdv A outer s H vs Q E hr h=>?_)
 ·@p,q,a0,a1,a2,a3,b0,b1,b2,b3,kk,kq,J,n,rfl,_:=h
  rfl
 ·@p,q,a0,a1,a2,a3,b0,b1,b2,b3,kk,kq,J,n,rfl,rp,rq,tw,j,k1,k2,k3:=h
  ?_,(ag (£2 Fj (¢Dm (ad ©0 (ad ©1 ak)))) (ag (aM (aE mW ©2 af (aG _)) (am (iF D3 (by rfl))) aI) (ag (aM (aE bP ©2 af (aG _)) (am (aB (sr EL (hr.mono &) (by rfl) (ad ©0 ak)))) aI) (am (aB (¢Ep (ad ©0 (ad ©1 ak))))))));?^,^,p,q,a0,a1,a2,a3,b0,b1,b2,b3,rfl,rp,rq;¶^,%,^,aY (λc=>?_) (λc=>?_)
  ·#k1 (bZ c)
  ·!c:¬0<ro a0 a1 a2 a3 b0 b1 b2 b3:=cJ c
   ¶^,rfl,^,aY (λd=>?_) (λd=>?_)
   ·§^,p,a0,a1,a2,a3,rfl,rp,⟨tw.a2n,tw.a3p⟩,k2 (by simpa using d)
   ·!d:¬ro a0 a1 a2 a3 b0 b1 b2 b3=0:=by simpa using d
    @k4,k5:=k3 ~;§^,^,p,q,a0,a1,a2,a3,b0,b1,b2,b3,kk,kq,J,n,rfl,rp,rq,tw,j,k4,k5
¤Kx:Dj ["a","b"] ["a","b"] (ao (top 8)):=smk
¤yr{C:Addr}(Kz:Df K mg "plus" (top 8))(EC:Fx P w K mg base "ratio" ["top","bottom"] 2 [.int 1] (Fh C)):Fn P w K mg base "plus" ["a","b"] 3 (JF (λa b c d=>a*d+c*b) (λa b c d=>b*d)):=by
 refine Kz.fn Kx (λ_ _ _ _ _ _ us hl=>by @_,_,rfl:=dJ hl;rfl) (λvs H Q E h=>?_) (λf cdv A outer s H vs Q E hr h=>?_)
 ·@p,q,a,b,c,d,n,rfl,_:=h
  rfl
 ·@p,q,a,b,c,d,n,rfl,fp,fq,hn,hden,k:=h
  !ep:=fp.at_;!eq:=fq.at_;!cm:∀{i j:Int},ar i<=n->ar j<=n->CM i j:=λhi hj=>CM.b hi hj (Nat.le_trans hn &) (Nat.le_trans hn &);!fin:∀(r:Addr) (t u:Int),E2 (a*d+c*b) (b*d) t u->ar t<=2*n+1->ar u<=2*n+1->H r=none->Q (.ref r) (upd H r (.tup [.int t,.int u])):=λr t u fr bt bu hr'=>by
   @H1,e1,s1,f1:=Da (o:=.tup [.int t,.int u]) hr';rw[e1];#k r t u H1 fr ⟨f1,fr.low,bt,bu⟩ s1
  ?_,(am (aB (kX EC (hr.mono &) (by rfl) (ad (ay aS (ay aF ®0 ®1) (ay aF ®1 ®0)) (ad (ay aF ®0 ®1) ak)))));?^,p,_,%,SqT.of ep,rfl,^,q,_,%,SqT.of eq,rfl,%,cm fp.ba fq.bb,^,q,_,%,SqT.of eq,rfl,^,p,_,%,SqT.of ep,rfl,%,cm fq.ba fp.bb,%;¶^,p,_,%,SqT.of ep,rfl,^,q,_,%,SqT.of eq,rfl,%,cm fp.bb fq.bb,_,_,2*n+1,rfl,⟨aq (bT (n:=2*n) (aq (bits_mul fp.ba fq.bb) ~) (aq (bits_mul fq.ba fp.bb) ~)) ~,aq (bits_mul fp.bb fq.bb) ~,~⟩,λz=>absurd z hden,λ_ r t u fr bt bu hr'=>fin r t u fr bt bu hr'
¤Ir:Dj ["thing"] ["thing"] (ao (top 9)):=smk
¤ql(IL:Df K mg "is_ratio" (top 9))(DZ:Fn P w K mg base "is_whole" ["thing"] 1 Gn)(DA:Fn P w K mg base "common_divisor" ["one","other"] 1 IZ)(T:Txt mg):Fn P w K mg base "is_ratio" ["thing"] 2 Jw:=by
 refine IL.fn Ir (λ_ _ _ _ _ _ us hl=>by @_,rfl:=eX hl;rfl) (λvs H Q E h=>?_) (λf cdv A outer s H vs Q E hr h=>?_)
 ·@x,rfl,_:=h
  rfl
 ·@x,rfl,th,q:=h
  @t,k:=th.kn;?_,(ag (aM (dw (cE (bH (aN cO (by rfl) T.z_isinstance bW (ad ©0 (ad (iG T.z_tuple iZ) ak))))) (cZ (aE gF (aN aO (by rfl) T.z_len bX (ad ©0 ak)) af (aG _)))).pt (am (aB cW)) aI) (ag (aM (dw (cE (bH (¢DZ (ad ®0 ak)))) (cZ (cE (bH (¢DZ (ad ®0 ak)))))).pt (am (aB cW)) aI) (am (aB (jn (dj k7 ®0 af (aG _)) (gC (dj bP (¢DA (ad ®0 (ad ®0 ak))) af (aG _))))))));?^,x,t,"tuple",rfl,k,.inr (.inr (.inl rfl)),^;rcases Kn.cases_tup k with⟨p,xs,rfl,e,rfl⟩|⟨hl,hs⟩
  ·-- a tuple
   rw[vW e]at q;refine lB ?_;?^,p,xs,rfl,.inr (SqT.of e),rfl,^;refine aY (λhc=>?_) (λhc=>?_)
   ·!hn:xs.length≠2:=by
     intro z;rw[z]at hc;#absurd hc &
    rw[vZ hn]at q;#q
   ·!hn:xs.length=2:=by
     !z:(xs.length:Int)=2:=by simpa using hc
     ~
    match xs,hn,e,q with
    | [y,z],_,e,q =>
     @ty,ky:=th.parts p _ rfl e y (by simp);@tz,kz:=th.parts p _ rfl e z (by simp);?^,p,_,%,SqT.of e,rfl,y,ty,rfl,ky,^;rcases Kn.cases_int ky with⟨a,rfl,rfl⟩|⟨ny,ey⟩
     ·refine lB ?_
      ?^,p,_,%,SqT.of e,rfl,z,tz,rfl,kz,^;rcases Kn.cases_int kz with⟨b,rfl,rfl⟩|⟨nz,ez⟩
      ·refine lB ?_
       ?^,p,_,%,SqT.of e,rfl,b,1,rfl,rfl,^;!q':Q (.bl (lowB a b)) H:=q;unfold lowB at q';refine aY (λhc=>?_) (λhc=>?_)
       ·?^,p,_,%,SqT.of e,rfl,^,p,_,%,SqT.of e,rfl,a,b,rfl,rfl
        rw[hc,Bool.true_and]at q';!e1:decide (V.int (Int.gcd a b:Int)=V.int 1)=decide (Int.gcd a b=1):=by
         rw[Bool.eq_iff_iff];simp;~
        rw[<- e1]at q';#q'
       ·rw[hc,Bool.false_and]at q'
        #q'
      ·rw[ez,vY nz]at *
       #q
     ·rw[ey,v5 ny]at *
      #q
  ·rw[hs]
   rw[hl]at q;#q
¤Je:Dj ["line"] ["line"] (ao (top 32)):=smk
¤rA(Jj:Df K mg "last_of" (top 32))(T:Txt mg):Fn P w K mg base "last_of" ["line"] 1 G7:=by
 refine Jj.fn Je (λ_ _ _ _ _ _ us hl=>by @_,rfl:=eX hl;rfl) (λvs H Q E h=>?_) (λf cdv A outer s H vs Q E hr h=>?_)
 ·@p,xs,rfl,_:=h
  rfl
 ·@p,xs,rfl,e,q:=h
  §_,(am (aB (ay aP (aN aO (by rfl) T.z_len bX (ad ©0 ak)) af))),^,p,xs,rfl,.inl (SqL.of e),%,q
¤ET:Dj ["one","other","square","across","up"] ["one","other","square"] (ao (top 28)):=smk
¤lI(GP:Df K mg "leash_order" (top 28))(Ds:Fn P w K mg base "sign_of" ["number"] 1 Fs):Fn P w K mg base "leash_order" ["one","other","square"] 2 JP:=by
 refine GP.fn ET (λ_ _ _ _ _ _ us hl=>by @_,_,_,rfl:=g7 hl;rfl) (λvs H Q E h=>?_) (λf cdv A outer s H vs Q E hr h=>?_)
 ·@p,q,r,x,y,x',y',a,b,rfl,_:=h
  rfl
 ·@p,q,r,x,y,x',y',a,b,rfl,⟨e1,b1,b2⟩,⟨e2,b3,b4⟩,⟨e3,b5,b6⟩,k:=h
  ?_,(ag (£3 ET (ay aP ®1 ®0)) (ag (£4 ET (ay aP ®1 ®0)) (am (aB (¢Ds (ad (ay aP ®2 (ay aF (ay aS (ay aF ©3 ©3) (ay aF ©4 ©4)) ®2)) ak))))))
  walk_at "rd"
  #k
¤DK:Dj ["corner","begin","end","square","across","up","away_across","away_up","length","along","beside","under"] ["corner","begin","end","square"] (ao (top 29)):=smk
¤pU(Iy:Df K mg "reach_of" (top 29)):Fn P w K mg base "reach_of" ["corner","begin","end","square"] 1 G4:=by
 refine Iy.fn DK (λ_ _ _ _ _ _ us hl=>by @_,_,_,_,rfl:=rf hl;rfl) (λvs H Q E h=>?_) (λf cdv A outer s H vs Q E hr h=>?_)
 ·@pc,pb,pe,ps,cx,cy,bx,by_,ex,ey,a,b,rfl,_:=h
  rfl
 ·@pc,pb,pe,ps,cx,cy,bx,by_,ex,ey,a,b,rfl,⟨e1,b1,b2⟩,⟨e2,b3,b4⟩,⟨e3,b5,b6⟩,⟨e4,b7,b8⟩,k:=h
  ?_,(ag (£4 DK (ay aP ®2 ®1)) (ag (£5 DK (ay aP ®2 ®1)) (ag (£6 DK (ay aP ®0 ®1)) (ag (£7 DK (ay aP ®0 ®1)) (ag (£8 DK (ay aS (ay aF ©4 ©4) (ay aF ©5 ©5))) (ag (£9 DK (ay aS (ay aF ©6 ©4) (ay aF ©7 ©5))) (ag (£10 DK (ay aP (ay aF ©6 ©5) (ay aF ©7 ©4))) (ag (£11 DK (ay aF ®3 (ay aP (ay aF ®3 ©8) (ay aF (ay aF ®3 ©10) ©10)))) (am (aB (jj (ad (ay aF ©9 ®3) (ad ©11 (ad (ay aF ©8 ®3) ak))))))))))))))
  walk_at "rd"
  #k _ _ (by assumption) (by assumption)
¤F3:Dj ["square"] ["square"] (ao (top 27)):=smk
¤iV{C:Addr}(F8:Df K mg "look_at_square" (top 27))(Fw:HV K mg "NoSquare" C)(FE:Fn P w K mg base "is_ratio" ["thing"] 2 Jw):Fx P w K mg base "look_at_square" ["square"] 3 [] (G6 C):=by
 refine F8.fx F3 (λ_ _ _ _ _ _ us hl=>by @_,rfl:=eX hl;rfl) (λvs H Q E h=>?_) (λf cdv A outer s H vs Q E hr h=>?_)
 ·@x,rfl,_:=h
  rfl
 ·@x,rfl,th,k0,k1:=h
  ?_,(am (aM (dw (cE (bH (¢FE (ad ©0 ak)))) (cZ (aE dH ®0 af (aG _)))).pt (am (iF Fw (by rfl))) aI));?^,x,rfl,th,^;cases hl:jP H x with
  | false=>#ux (k0 (xC hl))
  | true =>
   @p,a,b,rfl,e,lw:=vX hl;rw[xB e,zn lw,Bool.true_and]at k0 k1;refine lB ?_;¶^,p,_,%,SqT.of e,rfl,%,^,aY (λh1=>?_) (λh1=>?_)
   ·#k0 (by rw[show decide (a<0)=true from h1];rfl)
   ·#k1 (by rw[show decide (a<0)=false from h1];rfl)
¦Pw(K:W.Frag)(H':Hp)(v:V)(N e:Bool)(P U L:Int):Prop:=(v = .non/\N=true)\/(N=false/\∃(t l h:Addr) (ln hn:Int×Int×Int×Int),v = .ref t/\H' t=some (.tup [.ref l,.ref h])/\TpK K H' l [.int ln.1,.int ln.2.1,.int ln.2.2.1,.int ln.2.2.2]/\TpK K H' h [.int hn.1,.int hn.2.1,.int hn.2.2.1,.int hn.2.2.2]/\ln=(if e=true then (0,0,0,1) else fK P U L)/\hn=(if e=true then (1,0,0,1) else dP P U L))
inductive Jq (K:W.Frag) (vs:List V) (H:Hp) (Q:VK) (x_3:XK):Prop
 | mk:∀(pc pb pe ps:Addr) (cx cy bx by_ ex ey a b room:Int),(vs = [.ref pc,.ref pb,.ref pe,.ref ps,.int room])->(Cn H pc cx cy)->(Cn H pb bx by_)->(Cn H pe ex ey)->(Sq H ps a b)->(∀(v:V) (H':Hp),Same H H'->Pw K H' v (pwN cx cy bx by_ ex ey a b room) (decide ([bx,by_] = [ex,ey])) (rAl cx cy bx by_ ex ey*b) (rUn cx cy bx by_ ex ey a b) (du bx by_ ex ey*b)->Q v H')->Jq K vs H Q x_3
¤DQ:Dj ["corner","begin","end","square","room","reach","low","high"] ["corner","begin","end","square","room"] (ao (top 30)):=smk
¤lH{pB pE:Addr}(GO:Df K mg "part_within" (top 30))(EB:mg "BEGIN" = some (.ref pB))(GW:mg "END" = some (.ref pE))(hB:∀H,SqT K H pB [.int 0,.int 0,.int 0,.int 1])(hE:∀H,SqT K H pE [.int 1,.int 0,.int 0,.int 1])(tB:∀H,TpK K H pB [.int 0,.int 0,.int 0,.int 1])(tE:∀H,TpK K H pE [.int 1,.int 0,.int 0,.int 1])
  (DS:Fn P w K mg base "leash_order" ["one","other","square"] 2 JP) (Fy:Fn P w K mg base "reach_of" ["corner","begin","end","square"] 1 G4) (Ds:Fn P w K mg base "sign_of" ["number"] 1 Fs) (Dm:Fn P w K mg base "root_order" ["one","other"] 4 (Ih K)):Fn P w K mg base "part_within" ["corner","begin","end","square","room"] 5 (Jq K):=by
 refine GO.fn DQ (λ_ _ _ _ _ _ us hl=>by @_,_,_,_,_,rfl:=v7 hl;rfl) (λvs H Q E h=>?_) (λf cdv A outer s H vs Q E hr h=>?_)
 ·@pc,pb,pe,ps,cx,cy,bx,by_,ex,ey,a,b,room,rfl,_:=h
  rfl
 ·@pc,pb,pe,ps,cx,cy,bx,by_,ex,ey,a,b,room,rfl,c1,c2,c3,c4,k:=h
  ?_,(ag (aM (aE (Aj hr.units0) ©1 ©2 (aG _)) (am (aB (gD (aE k7 (¢DS (ad ©0 (ad ©1 (ad ©3 ak)))) ©4 (aG _)) (jj (ad (bC (v:=.ref _) (by rfl) EB rfl) (ad (bC (v:=.ref _) (by rfl) GW rfl) ak))) bI))) aI) (ag (£5 DQ (¢Fy (ad ©0 (ad ©1 (ad ©2 (ad ©3 ak)))))) (ag (aM (aE dH (¢Ds (ad ®5 ak)) ©4 (aG _)) (am (aB bI)) aI) (ag (£6 DQ (jj (ad ®5 (ad (eM dn af) (ad ®5 (ad ®5 ak)))))) (ag (£7 DQ (jj (ad ®5 (ad af (ad ®5 (ad ®5 ak)))))) (ag (aM (dw (aE dH (¢Dm (ad (bC (v:=.ref _) (by rfl) GW rfl) (ad ©6 ak))) ©4 (aG _)) (cZ (aE dH (¢Dm (ad ©7 (ad (bC (v:=.ref _) (by rfl) EB rfl) ak))) ©4 (aG _)))).pt (am (aB bI)) aI) (ag (aM (aE dH (¢Dm (ad ©6 (ad (bC (v:=.ref _) (by rfl) EB rfl) ak))) af (aG _)) (am (£6 DQ (bC (v:=.ref _) (by rfl) EB rfl))) aI) (ag (aM (aE mW (¢Dm (ad ©7 (ad (bC (v:=.ref _) (by rfl) GW rfl) ak))) af (aG _)) (am (£7 DQ (bC (v:=.ref _) (by rfl) GW rfl))) aI) (am (aB (jj (ad ©6 (ad ©7 ak)))))))))))));¶^,^,pb,pe,[bx,by_],[ex,ey],rfl,rfl,SqT.of c2.at_,SqT.of c3.at_,^,aY (λh1=>?_) (λh1=>?_)
  ·!hs:[bx,by_] = [ex,ey]:=bZ h1
   ¶^,^,^,_,_,_,_,_,_,_,_,^,c1,c2,c4,^,%,^,aY (λh2=>?_) (λh2=>?_)
   ·¶Sp1.sz (by simp),alloc λp H1 s1 e1=>k _ _ s1 (.inr ⟨?_,p,pB,pE,(0,0,0,1),(1,0,0,1),rfl,e1,tB _,tE _,?_,?_⟩)
    ·unfold pwN
     rw[if_pos hs];simp only[ge_iff_le]at h2 ⊢;rw[show decide (room<=lo cx cy bx by_ a b)=true from h2];rfl
    ·rw[decide_eq_true hs];rfl
    ·rw[decide_eq_true hs];rfl
   ·refine k _ _ Same.rfl' (.inl ⟨rfl,?_⟩)
    unfold pwN;rw[if_pos hs];rw[show decide (lo cx cy bx by_ a b>=room)=false from h2];rfl
  ·!hs:¬[bx,by_] = [ex,ey]:=cJ h1
   unfold pwN at k;rw[if_neg hs,decide_eq_false hs]at k;¶^,^,^,^,_,_,_,_,_,_,_,_,_,_,_,^,c1,c2,c3,c4,λr H1 s1 e1=>?_;@_,b1,b2:=c1;@_,b3,b4:=c2;@_,b5,b6:=c3;@_,b7,b8:=c4;!z1:ar (rAl cx cy bx by_ ex ey*b)<=450:=by unfold rAl;walk_at "bl"
   !z2:ar (rUn cx cy bx by_ ex ey a b)<=1000:=by unfold rUn du rBe;walk_at "bl"
   !z3:ar (du bx by_ ex ey*b)<=450:=by unfold du;walk_at "bl"
   generalize rAl cx cy bx by_ ex ey*b=A0 at *;generalize rUn cx cy bx by_ ex ey a b=A1 at *;generalize du bx by_ ex ey*b=A2 at *
   walk_at "rd"
   refine aY (λh2=>?_) (λh2=>?_)
   ·#k _ _ s1 (.inl ⟨rfl,by rw[show decide (sg A1<room)=true from h2];rfl⟩)
   rw[show decide (sg A1<room)=false from h2,Bool.false_or]at k
   walk_at "rd"
   rename_i pl Hl sl el ph Hh sh eh;!r0:ar (0:Int)<=450:= &
   !r1:ar (1:Int)<=450:= &
   !r2:ar (-1:Int)<=450:= &
   !r0':ar (0:Int)<=1000:= &
   !RB:∀H,Rt K H pB 0 0 0 1:=λH=>⟨hB H,r0,r0,r0',r1⟩;!RE:∀H,Rt K H pE 1 0 0 1:=λH=>⟨hE H,r1,r0,r0',r1⟩;!RL:Rt K Hh pl A0 (-1) A1 A2:=⟨SqT.of (sh _ _ el),z1,r2,z2,z3⟩;!RH:Rt K Hh ph A0 1 A1 A2:=⟨SqT.of eh,z1,r1,z2,z3⟩;!sm:Same H Hh:=s1.trans (sl.trans sh);¶_,_,_,_,_,_,_,_,_,^,RE _,RL,^,%,^,aY (λh3=>?_) (λh3=>?_)
   ·refine k _ _ sm (.inl ⟨rfl,?_⟩)
    rw[show decide (ro 1 0 0 1 A0 (-1) A1 A2<room)=true from h3];rfl
   rw[show decide (ro 1 0 0 1 A0 (-1) A1 A2<room)=false from h3,Bool.false_or]at k;¶^,_,_,_,_,_,_,_,_,_,^,RH,RB _,^,%,^,aY (λh4=>?_) (λh4=>?_)
   ·#k _ _ sm (.inl ⟨rfl,h4⟩)
   rw[show decide (ro A0 1 A1 A2 0 0 0 1<room)=false from h4]at k;!fin:∀(l h:Addr) (ln hn:Int×Int×Int×Int),(∀H1,Same Hh H1->TpK K H1 l [.int ln.1,.int ln.2.1,.int ln.2.2.1,.int ln.2.2.2])->(∀H1,Same Hh H1->TpK K H1 h [.int hn.1,.int hn.2.1,.int hn.2.2.1,.int hn.2.2.2])->ln=fK A0 A1 A2->hn=dP A0 A1 A2->(Bu (Bq (rT (Jl 6) (rT (Jl 7) zL)))) { nx:=λ_ H'=>Q .non H',rt:=Q } [some (.ref pc),some (.ref pb),some (.ref pe),some (.ref ps),some (.int room),some (.ref r),some (.ref l),some (.ref h)] Hh:=λl h ln hn hl hh e1 e2 =>
    ⟨_,rfl,_,rfl,Sp1.sz (by simp),alloc λp H1 s1 ep=>k _ _ (sm.trans s1) (.inr ⟨rfl,p,l,h,ln,hn,rfl,ep,hl _ s1,hh _ s1,e1,e2⟩)⟩
   !lT:ro A0 (-1) A1 A2 0 0 0 1<0->fK A0 A1 A2=(0,0,0,1):=λz=>by unfold fK;rw[if_pos z]
   !lF:¬ro A0 (-1) A1 A2 0 0 0 1<0->fK A0 A1 A2=(A0,-1,A1,A2):=λz=>by unfold fK;rw[if_neg z]
   !hT:ro A0 1 A1 A2 1 0 0 1>0->dP A0 A1 A2=(1,0,0,1):=λz=>by unfold dP;rw[if_pos z]
   !hF:¬ro A0 1 A1 A2 1 0 0 1>0->dP A0 A1 A2=(A0,1,A1,A2):=λz=>by unfold dP;rw[if_neg z]
   !tl:∀H1,Same Hh H1->TpK K H1 pl [.int A0,.int (-1),.int A1,.int A2]:=λH1 s=>.inl (s _ _ (sh _ _ el));!th:∀H1,Same Hh H1->TpK K H1 ph [.int A0,.int 1,.int A1,.int A2]:=λH1 s=>.inl (s _ _ eh);¶^,_,_,_,_,_,_,_,_,_,^,RL,RB _,%,^,aY (λh5=>?_) (λh5=>?_)
   ·¶^,_,_,_,_,_,_,_,_,_,^,RH,RE _,%,^,aY (λh6=>?_) (λh6=>?_)
    ·#fin pB pE (0,0,0,1) (1,0,0,1) (λH1 _=>tB H1) (λH1 _=>tE H1) (lT (bZ h5)).symm (hT (bZ h6)).symm
    ·#fin pB ph (0,0,0,1) (A0,1,A1,A2) (λH1 _=>tB H1) th (lT (bZ h5)).symm (hF (cJ h6)).symm
   ·¶^,_,_,_,_,_,_,_,_,_,^,RH,RE _,%,^,aY (λh6=>?_) (λh6=>?_)
    ·#fin pl pE (A0,-1,A1,A2) (1,0,0,1) tl (λH1 _=>tE H1) (lF (cJ h5)).symm (hT (bZ h6)).symm
    ·#fin pl ph (A0,-1,A1,A2) (A0,1,A1,A2) tl th (lF (cJ h5)).symm (hF (cJ h6)).symm
¤FH:Dj ["came","spot","row","ahead"] ["came","spot"] (ao (top 48)):=smk
¤uH(JK:Df K mg "row_to" (top 48))(T:Txt mg):Fn P w K mg base "row_to" ["came","spot"] 1 (G2 K):=by
 refine JK.fn FH (λ_ _ _ _ _ _ us hl=>by @_,_,rfl:=dJ hl;rfl) (λvs H Q E h=>?_) (λf cdv A outer s H vs Q E hr h=>?_)
 ·@d,sv,es,i,e,rfl,_:=h
  rfl
 ·@d,sv,es,i,e,rfl,cm,tr,he,hsv,hl,q:=h
  ?_,(ag (£2 FH (bU ak)) (ag (eJ PassesOwn.never (aE gQ ©1 bI (aG _)) (ag (£3 FH (dL (cT hr) ©0 ©1 (λ_ _=>rfl))) (ag (cH (fF PySem.F.plainAttrs_list PySem.F.slot_list_append PySem.F.type_list_append ca ©2 (ad (aJ (ad ©1 (ad ®3 ak))) ak))) (am (£1 FH ®3))))) (ag (cH (qU PySem.F.plainAttrs_list PySem.F.slot_list_reverse PySem.F.type_list_reverse jI ©2)) (am (aB ©2)))));¶sz (by simp),λr H1 s1 f1 n1=>?_;!CM':∀{H':Hp},Same H H'->∃kvs,H' d=some (.dT kvs)/\Paired (Ent K H' es) es kvs:=λ{H'} s'=>by
   @kvs,e1,e2:=cm;§kvs,s' _ _ e1,Paired.mapP e2 λa b x=>x.mono s'.t λ_ _ h=>h
  refine eI (λσ H'=>∃(cur:Option Nat) (cv:V) (done:List (aL×Lb)) (vs:List V) (av:Option V),σ = [some (.ref d),some cv,some (.ref r),av]/\Same H H'/\H' r=some (.lst vs)/\Paired (λ(e:aL×Lb) v=>∃t sv hv,v = .ref t/\H' t=some (.tup [sv,hv])/\cp H' sv e.1/\j6 K H' hv e.2) done vs/\rL es cur i done /\
    (cur=none->cv = .non)/\(∀j,cur=some j->∃e,es[j]? = some e/\cp H' cv e.1/\done.length+j+1<=es.length)/\done.length<=es.length)
   (λ_ H'=>match H' r with|some (.lst vs)=>es.length - vs.length|_=>0) ⟨some i,sv,[],[],_,rfl,s1,f1,.nil,rL.begin,(λz=>nomatch z),(λj z=>by cases z;§e,he,hsv.mono s1.t,(by !:=(List.getElem?_eq_some_iff.mp he).1;simp;~)),Nat.zero_le _⟩ ?_ ?_
  ·rintro σ H2 ⟨cur,cv,done,vs,av,rfl,s2,f2,pr,lf,c0,c1,dl⟩
   ?^,rfl,^;cases cur with
   | none =>
    rw[c0 rfl];refine lB ?_;¶^,.inl ⟨rfl,_,SqL.of f2⟩,r,^,rfl,f2,λH3 u=>?_;?^;!s3:Same H H3:=λb o eb=>u.at (λz=>by rw[z,n1]at eb;cases eb) (s2 b o eb);refine q r H3 done.reverse s3 (by simpa using lf [] rfl) (by simpa using dl) ⟨_,u.now,?_⟩;#kY (Paired.mapP pr λa b ⟨t,sv,hv,x1,x2,x3,x4⟩=>⟨t,sv,hv,x1,u.t _ _ x2,x3.mono u.t,x4.mono u.t⟩)
   | some j =>
    @e,he,hs,hj:=c1 j rfl;@p,rfl,hp:=hs;refine ux ?_;@kvs,kd,kp:=CM' s2;@kv,hkv,ke,t,pv,hvv,kt,ht,lbv,h0,h1:=fh kp j e he;!nd:(kvs.map (·.1)).Nodup:=by rw[oj kp];#tr.nd
    !vv:=xm nd hkv;rw[ke,kt]at vv;!dg:=gN.t kd hp;rw[vv]at dg;?^,^,d,^,dg;¶^,.inl ⟨rfl,_,SqL.of f2⟩,^,^,t,_,%,SqT.of ht,rfl,sz (by simp),λx H3 s3 f3 n3=>?_;!lv:=Paired.length pr;¶r,%,s3 _ _ f2,bJ ~,λH4 u=>?_;!s4:Same H H4:=λb o eb=>u.at (λz=>by rw[z,n1]at eb;cases eb) (s3 _ _ (s2 b o eb));!t4:=s3.t.trans u.t;?^,t,_,%,SqT.of (t4 _ _ ht),rfl;?⟨e.2.1,pv,done++[(e.1,e.2.2)],_,_,rfl,s4,u.now,Paired.snoc (Paired.mapP pr λa b ⟨t,sv,hv,x1,x2,x3,x4⟩=>⟨t,sv,hv,x1,t4 _ _ x2,x3.mono t4,x4.mono t4⟩) ⟨x,.ref p,hvv,rfl,u.t _ _ f3,⟨p,rfl,t4 _ _ hp⟩,lbv.mono t4⟩,lf.up he,h0,λj' hj'=>?_,?_⟩
    ·@e',g1,g2:=h1 j' hj'
     !:=tr.up j e j' he hj';?e',g1,g2.mono t4;rw[List.length_append,List.length_singleton];~
    ·rw[List.length_append,List.length_singleton]
     ~
    ·show(match H4 r with|some (.lst vs)=>es.length - vs.length|_=>0)<(match H2 r with|some (.lst vs)=>es.length - vs.length|_=>0)
     rw[u.now,f2];show es.length - (vs++[V.ref x]).length<es.length - vs.length;rw[List.length_append,List.length_singleton];~
  ·rintro σ H' Q1 Q2 hq ⟨v,e,hs,k,ek,r⟩
   §v,e,hs,k,ek,hq _ _ r
inductive K4 (K:W.Frag) (b f1 f2 d r:Addr) (bs U:List aL) (stp:aL->List (aL×Lb)) (fin:aL->Bool) (H:Hp) (σ:St) (H':Hp):Prop
 | mk (es:List En) (n:Nat) (spv stv:Option V) (rvs:List V) (e:σ = [some (.ref b),some (.ref f1),some (.ref f2),some (.ref d),spv,some (.ref r),some (.int (n:Int)),stv]) (s:Same H H') (c:jG K H' d es) (f:H' r=some (.lst rvs)) (p:Paired (λ(e:En) v=>cp H' v e.1) es rvs) (g:EH bs U stp fin es n) (q:es=eA bs stp n):K4 K b f1 f2 d r bs U stp fin H σ H'
¤Fi:Dj ["begins","steps_from","is_end","came","spot","row","number","step"] ["begins","steps_from","is_end"] (ao (top 49)):=smk
¤yq(Ky:Df K mg "seek" (top 49))(Gz:Fn P w K mg base "row_to" ["came","spot"] 1 (G2 K))(T:Txt mg):Fn P w K mg base "seek" ["begins","steps_from","is_end"] 10 (vi P w K mg base 8):=by
 refine Ky.fn Fi (λ_ _ _ _ _ _ us hl=>by @_,_,_,rfl:=g7 hl;rfl) (λvs H Q E h=>?_) (λf cdv A outer s H vs Q E hr h=>?_)
 ·@b,f1,f2,bvs,bs,U,stp,fin,rfl,_:=h
  rfl
 ·@b,f1,f2,bvs,bs,U,stp,fin,rfl,hb,pb,nd,hU,hul,F,q0,q1:=h
  ?_,(ag (£3 Fi iH) (ag (cj PassesOwn.never rfl (eG ©0) (aQ (i:=4) Fi.nd rfl (Or.inl rfl)) (am (eV (cT hr) ©3 ©4 (aJ (ad bI (ad bI ak))) rfl))) (ag (£5 Fi (jm fI (by rfl) T.z_list kC (ad ©0 ak))) (ag (£6 Fi af) (ag (eJ PassesOwn.never (aE dH ©6 (aN aO (by rfl) T.z_len bX (ad ©5 ak)) (aG _)) (ag (£4 Fi (ax aW ©5 ©6 (λ_ _=>rfl))) (ag (aM (bH (o6 (k:=8) (i:=2) (hr.mono &) rfl (Or.inl rfl) (ad ©4 ak))) (am (aB (¢Gz (ad ©3 (ad ©4 ak))))) aI) (ag (cj PassesOwn.never rfl (eG (o6 (k:=8) (i:=1) (hr.mono &) rfl (Or.inl rfl) (ad ©4 ak))) (aQ (i:=7) Fi.nd rfl (Or.inl rfl)) (am (aM (jf (mT (cT hr) ®7 ©3) (by rfl)) (ag (eV (cT hr) ©3 ®7 (aJ (ad ©4 (ad ®7 ak))) rfl) (am (cH (fF PySem.F.plainAttrs_list PySem.F.slot_list_append PySem.F.type_list_append ca ©5 (ad ®7 ak))))) aI))) (am (z9 (i:=6) Fi.nd rfl (Or.inl rfl) af AD)))))) (am (aB bI)))))));@sp1,i1,c1:=F.c1;@sp2,i2,c2:=F.c2;!FO:∀{f:Addr} {H':Hp},rM H f->Same H H'->rM H' f:=λ{f H'} ⟨o,fd,e,d⟩ s=>⟨o,fd,s _ _ e,d⟩;!bl:=Paired.length pb;refine λd hd=>?_;!s1:Same H (upd H d (.dT [])):=Same.new hd;¶^,b,rfl,⟨_,SqL.of (s1 _ _ hb)⟩,fQ (K:=K) (xs:=bvs) (λi σ H'=>∃spv,σ = [some (.ref b),some (.ref f1),some (.ref f2),some (.ref d),spv,none,none,none]/\Same H H'/\jG K H' d ((bs.take i).map λs=>(s,none,.no))) ⟨_,rfl,s1,[],upd_same,.nil⟩ ?_ ?_ ?_
  ·rintro i σ H' hi ⟨spv,rfl,s',_⟩
   #SqL.of (s' _ _ hb)
  ·rintro i x σ H' hx ⟨spv,rfl,s',cm⟩
   @s,hs,p,rfl,hp:=bo pb i x hx;¶sz (by simp),λt H2 s2 f2 n2=>⟨_,rfl,_,rfl,?_⟩;!hns:s∉(((bs.take i).map λs=>((s,none,.no):En)).map (·.1)):=by
    rw[List.map_map];show s∉(bs.take i).map id;rw[List.map_id];intro z;@j,hj:=List.getElem?_of_mem z;!⟨j1,j2⟩:=List.getElem?_eq_some_iff.mp hj;rw[List.length_take]at j1;rw[List.getElem?_take_of_lt ~]at hj;!:=uh nd hs hj;~
   !hlb:=mX nd hU;@H3,dp,cm3,t3,o3:=(cm.mono s2).add (s:=s) (pj:=none) (s2 _ _ (s' _ _ hp)) f2 (h:=.no) rfl hns (λ_=>rfl) (λj z=>nomatch z) (by simp;~)
   !s3:Same H H3:=λx o e=>by
    rw[o3 x (λz=>by rw[z,hd]at e;cases e)];#s2 _ _ (s' _ _ e)
   ?d,H3,rfl,dp,^,s3;rw[List.take_add_one,hs,List.map_append];#cm3
  ·rintro σ H2 ⟨spv,rfl,s2,cm⟩
   rw[List.take_of_length_le ~]at cm;¶^,b,^,.inl (SqL.of (s2 _ _ hb)),λr H3 s3 f3 n3=>?_;!nr:H r=none:=s2.free n3;!rd:r≠d:=λz=>by
    @kvs,e1,_:=cm;rw[z,e1]at n3;cases n3
   refine eI (K4 K b f1 f2 d r bs U stp fin H)
    (λσ _=>match σ with | [_,_,_,_,_,_,some (.int n),_]=>U.length - n.toNat|_=>0) ⟨_,0,_,_,_,rfl,s2.trans s3,cm.mono s3,f3,?_,EH.first nd hU,rfl⟩ ?_ ?_
   ·!:∀{bs:List aL} {bvs:List V},Paired (λs v=>cp H v s) bs bvs->Paired (λ(e:En) v=>cp H3 v e.1) (bs.map λs=>(s,none,.no)) bvs:=by
     intro bs bvs pb
     induction pb with
     | nil=>#.nil
     | cons a r ih=>#.cons (cp.mono a (s2.trans s3).t) ih
    #this pb
   ·rintro σ H4 ⟨es,n,spv,stv,rvs,rfl,s4,cm4,f4,pr,go,esn⟩
    !el:=Paired.length pr;!gl:=go.len;¶^,^,r,^,.inl (SqL.of f4),%,^,aY (λg1=>?_) (λg1=>?_)
    ·!g1:(n:Int)<(rvs.length:Int):=bZ g1
     obtain⟨v,hv⟩:∃v,rvs[n]? = some v:=⟨rvs[n]'~,by simp[show n<rvs.length by omega]⟩;@e,he,hsp:=bo pr n v hv;!eU:=go.inU e (List.mem_of_getElem? he);?^,^,r,_,%,SqL.of f4,dD hv;¶f2,sp2,rfl,i2,FO F.o2 s4,^,FO F.o2 s4,c2 H4 v e.1 _ s4 hsp eU λH5 s5=>⟨_,rfl,aY (λg2=>?_) (λg2=>?_)⟩
     ·¶^,^,d,v,es,n,e,rfl,cm4.mono s5,go.tree,he,hsp.mono s5.t,~,λr' H' l s' p hl ra=>?_
      @w1,w2,e',w3,w4:=xL (fin:=fin) go.grown p;rw[he]at w3;cases w3;#q1 r' H' l ((s4.trans s5).trans s') ⟨w1,w2,_,w4,g2⟩ ⟨n,e,by rw[<- esn];#he,g2,(λi hi=>by
       !hl:=go.le;!hx:es[i]? = some (es[i]'~):=List.getElem?_eq_getElem ~;§_,by rw[<- esn];#hx,(go.seen i _ hi hx).1),by rw[<- esn];#p⟩ ~ ra
     ·¶f1,sp1,rfl,i1,FO F.o1 (s4.trans s5),^,FO F.o1 (s4.trans s5),c1 H5 v e.1 _ (s4.trans s5) (hsp.mono s5.t) eU λrl H6 s6 n6 st=>?_
      @svs,hr6,ps:=st;!sl:=Paired.length ps;!few:=F.few _ eU;!cm6:=(cm4.mono s5).mono s6;!rld:rl≠d:=λz=>by
       @kvs,e1,_:=cm4.mono s5;rw[z,e1]at n6;cases n6
      !rlr:rl≠r:=λz=>by
       rw[z,s5 _ _ f4]at n6;cases n6
      !pr6:Paired (λ(e:En) v=>cp H6 v e.1) es rvs:=Paired.mapP pr λa b x=>x.mono (s5.t.trans s6.t);refine⟨rl,rfl,⟨_,SqL.of hr6⟩,fQ (K:=K) (xs:=svs) (λi σ H'=>∃(es':List En) (stv:Option V) (rvs:List V),σ = [some (.ref b),some (.ref f1),some (.ref f2),some (.ref d),some v,some (.ref r),some (.int (n:Int)),stv]/\Same H H'/\SameT H6 H'/\H' rl=some (.lst svs)/\jG K H' d es'/\H' r=some (.lst rvs)/\Paired (λ(e:En) v=>cp H' v e.1) es' rvs/\EH bs U stp fin es' n/\es'[n]? = some e/\es'=((stp e.1).take i).foldl (AQ n) es/\∀(k:Nat) x,k<i->(stp e.1)[k]? = some x->x.1∈es'.map (·.1))
       ⟨es,_,rvs,rfl,(s4.trans s5).trans s6,SameT.refl,hr6,cm6,s6 _ _ (s5 _ _ f4),pr6,go,he,rfl,λk x z=>absurd z (Nat.not_lt_zero _)⟩ ?_ ?_ ?_⟩
      ·rintro i σ H7 hi ⟨es',stv,rvs,rfl,s7,t7,h7,_⟩
       #SqL.of h7
      ·rintro i x σ H7 hx ⟨es',stv,rvs,rfl,s7,t7,h7,cm7,f7,pr7,go7,he7,fo7,sn7⟩
       !el7:=Paired.length pr7;!gl7:=go7.len;@y,hy,t,sv,hvv,rfl,ht,⟨p,rfl,hp⟩,lbv:=bo ps i x hx;!ht7:=t7 _ _ ht;!hp7:=t7 _ _ hp;@o,dg,iff:=cm7.look hp7;?^,t,_,%,SqT.of ht7,rfl,^,d,o,rfl,dg,^;cases ho:o.isSome with
       | true =>
        refine lB ?_;¶es',_,rvs,rfl,s7,t7,h7,cm7,f7,pr7,go7,he7,by rw[List.take_add_one,hy,Option.toList_some,List.foldl_append,<- fo7];#(if_pos (iff.mp ho)).symm,λk x hk hz=>?_
        by_cases z:k=i
        ·subst z
         rw[hy]at hz;cases hz;#iff.mp ho
        ·#sn7 k x ~ hz
       | false =>
        !hnew:y.1∉es'.map (·.1):=λz=>by rw[iff.mpr z]at ho;cases ho
        !hyU:=F.shut _ eU y (List.mem_of_getElem? hy);refine ux ?_;¶^,^,t,_,%,SqT.of ht7,rfl,sz (by simp),λx8 H8 s8 f8 n8=>⟨_,rfl,_,rfl,t,_,_,_,rfl,rfl,SqT.of (s8 _ _ ht7),rfl,?_⟩;@H9,dp,cm9,t9,o9:=(cm7.mono s8).add (s:=y.1) (pj:=some n) (h:=y.2) (s8 _ _ hp7) f8 (lbv.mono (t7.trans s8.t)) hnew (λz=>nomatch z) (λj z=>by cases z;§e,he7,hsp.mono (((s5.t.trans s6.t).trans t7).trans s8.t)) ~
        ?d,H9,rfl,dp;!f9:H9 r=some (.lst rvs):=(o9 r rd).trans (s8 _ _ f7);!T9:=s8.t.trans t9;¶^,.inl ⟨rfl,_,SqL.of f9⟩,^,t,_,%,SqT.of (T9 _ _ ht7),rfl,r,%,f9,bJ ~,λH10 u=>?_;!T10:=T9.trans u.t;!s10:Same H H10:=λx o eo=>by
         refine u.at (λz=>by rw[z,nr]at eo;cases eo) ?_;rw[o9 x (λz=>by rw[z,hd]at eo;cases eo)];#s8 _ _ (s7 _ _ eo)
        !cm10:jG K H10 d (es'++[(y.1,some n,y.2)]):=by
         @kvs,k1,k2:=cm9;§kvs,u.at (λz=>rd z.symm) k1,Paired.mapP k2 λa b x=>x.mono u.t λ_ _ h=>h
        ¶es'++[(y.1,some n,y.2)],_,^,s10,t7.trans T10,u.at rlr ((o9 rl rld).trans (s8 _ _ h7)),cm10,u.now,Paired.snoc (Paired.mapP pr7 λa b x=>x.mono T10) ⟨p,rfl,T10 _ _ hp7⟩,go7.add he7 (List.mem_of_getElem? hy) hyU hnew,?_,by rw[List.take_add_one,hy,Option.toList_some,List.foldl_append,<- fo7];#(if_neg hnew).symm,λk x hk hz=>?_
        ·rw[List.getElem?_append_left (List.getElem?_eq_some_iff.mp he7).1]
         #he7
        ·rw[List.map_append]
         by_cases z:k=i
         ·subst z
          rw[hy]at hz;cases hz;#List.mem_append_right _ (by simp)
         ·#List.mem_append_left _ (sn7 k x ~ hz)
      ·rintro σ H7 ⟨es',stv,rvs,rfl,s7,t7,h7,cm7,f7,pr7,go7,he7,fo7,sn7⟩
       ?^,%;?⟨es',n+1,_,_,rvs,rfl,s7,cm7,f7,pr7,go7.next he7 g2 λx hx=>?_,?_⟩
       ·@k,hk:=List.getElem?_of_mem hx
        #sn7 k x (by !:=(List.getElem?_eq_some_iff.mp hk).1;~) hk
       ·rw[fo7,List.take_of_length_le ~]
        show _=match (eA bs stp n)[n]? with
         | some e=>(stp e.1).foldl (AQ n) (eA bs stp n)
         | none=>eA bs stp n
        rw[<- esn,he]
       ·!gl7:=go7.len
        !ln:=(List.getElem?_eq_some_iff.mp he7).1;show U.length - ((n:Int)+1).toNat<U.length - (n:Int).toNat;~
    ·!g1:¬((n:Int)<(rvs.length:Int)):=λz=>by rw[show decide ((n:Int)<(rvs.length:Int))=true from decide_eq_true z]at g1;cases g1
     #q0 H4 s4 (go.shut ~)
   ·rintro σ H' Q1 Q2 hq ⟨v,e,w,e2,r,xs,h1,h2,i,j,h3,h4,k,ek,rr⟩
    §v,e,w,e2,r,xs,h1,h2,i,j,h3,h4,k,ek,hq _ _ rr
¦fk(qs1 qs2:Crn)(a b room:Int)(i j:Int):Bool:=match qs1[i.toNat]?,qs2[j.toNat]? with
 | some c,some d=>decide (lo c.2.1 c.2.2 d.2.1 d.2.2 a b<room)
 | _,_=>false
¤sZ{qs1 qs2:Crn}{a b room:Int}{i j:Nat}{c d:Addr×Int×Int}(hc:qs1[i]? = some c)(hd:qs2[j]? = some d):fk qs1 qs2 a b room i j=decide (lo c.2.1 c.2.2 d.2.1 d.2.2 a b<room):=by
 unfold fk;rw[Int.toNat_natCast,Int.toNat_natCast,hc,hd]
inductive JC (vs:List V) (H:Hp) (Q:VK) (x_3:XK):Prop
 | mk:∀(l1 l2 sp:Addr) (qs1 qs2:Crn) (a b room:Int),(vs = [.ref l1,.ref l2,.ref sp,.int room])->(LineM H l1 qs1)->(LineM H l2 qs2)->((1<=qs1.length/\qs1.length<=20))->((1<=qs2.length/\qs2.length<=20))->(Sq H sp a b)->(∀d H',Same H H'->oM H' d (qs1.length - 1) (qs2.length - 1) (fk qs1 qs2 a b room)->Q (.ref d) H')->JC vs H Q x_3
inductive Go (vs:List V) (H:Hp) (Q:VK) (x_3:XK):Prop
 | mk:∀(c:Addr) (i j:Int),(vs = [.ref c])->(H c=some (.tup [.int i,.int j]))->((0<=i/\i<=1000))->((0<=j/\j<=1000))->(∀(q:Pr) H',Same H H'->PrAt H' q->prC q (i,j)->Q (.ref q.p) H')->Go vs H Q x_3
¤BQ{H:Hp}{p x y:Addr}{i j:Int}(hp:H p=some (.tup [.ref x,.ref y]))(hx:H x=some (.tup [.int i,.int 1]))(hy:H y=some (.tup [.int j,.int 1]))(bi:0<=i/\i<=1000)(bj:0<=j/\j<=1000):PrAt H ⟨p,x,y,i,1,j,1⟩:=by
 !b1:∀{k:Int},0<=k/\k<=1000->ar k<=10:=λ{k} h=>cF ~ h.2;!one:ar (1:Int)<=60:=aq (b1 (k:=1) ⟨&,&⟩) &;!lw:∀k:Int,EG k 1:=λk=>⟨Int.le_refl 1,by simp⟩;§hp,hx,hy,lw i,lw j,bi.1,bj.1,aq (b1 bi) &,one,aq (b1 bj) &,one
¦zV(P:Int×Int->Bool):aL×V->Bool
 | ([.inl x,.inl y],_)=>P (x,y)
 | _=>false
¤ie{P:Int×Int->Bool}:∀{l:List (Int×Int)},(kvF l).filter (zV P)=kvF (l.filter P)
 | []=>rfl
 | p::r=>by
  !ih:=ie (P:=P) (l:=r);unfold kvF at ih ⊢;rw[List.map_cons,List.filter_cons,List.filter_cons,ih];show(if P p=true then _ else _)=_
  split <;> rfl
¤hV{α β γ:Type}{G:β->γ->Prop}{f:α->β}:∀{l:List α} {ys:List γ},Paired G (l.map f) ys->Paired (λa y=>G (f a) y) l ys
 | [],_,h=>by cases h;#.nil
 | a::r,_,h=>by
  cases h with
  | cons h1 h2=>#.cons h1 (hV h2)
¤iJ{α β γ:Type}{G:β->γ->Prop}{f:α->β}:∀{l:List α} {ys:List γ},Paired (λa y=>G (f a) y) l ys->Paired G (l.map f) ys
 | [],_,h=>by cases h;#.nil
 | a::r,_,h=>by
  cases h with
  | cons h1 h2=>#.cons h1 (iJ h2)
¤FZ:Dj ["corner"] ["corner"] (ao (top 42)):=smk
¤iU(F7:Df K mg "pair_at_corner" (top 42)):Fn P w K mg base "pair_at_corner" ["corner"] 1 Go:=by
 refine F7.fn FZ (λ_ _ _ _ _ _ us hl=>by @_,rfl:=eX hl;rfl) (λvs H Q E h=>?_) (λf cdv A outer s H vs Q E hr h=>?_)
 ·@c,i,j,rfl,_:=h
  rfl
 ·@c,i,j,rfl,hc,bi,bj,q:=h
  ?_,(am (aB (@aJ _ _ _ _ _ (@ad _ _ _ _ _ (@aJ _ _ _ _ _ (@ad _ _ _ _ _ ®0 (@ad _ _ _ _ _ af ak (by rfl)) (by rfl))) (@ad _ _ _ _ _ (@aJ _ _ _ _ _ (@ad _ _ _ _ _ ®0 (@ad _ _ _ _ _ af ak (by rfl)) (by rfl))) ak (by rfl)) (by rfl)))));¶^,c,_,%,SqT.of hc,rfl,sz (by simp),λx H1 s1 f1 n1=>?_;¶^,c,_,%,SqT.of (s1 _ _ hc),rfl,sz (by simp),λy H2 s2 f2 n2=>⟨sz (by simp),λp H3 s3 f3 n3=>?_⟩;#q ⟨p,x,y,i,1,j,1⟩ H3 ((s1.trans s2).trans s3) (BQ f3 ((s2.trans s3) _ _ f1) (s3 _ _ f2) bi bj) ⟨rfl,rfl,rfl,rfl⟩
¤DR:Dj ["one","other","square","room","far","i","corner","j","beside"] ["one","other","square","room"] (ao (top 38)):=smk
¤lM(GU:Df K mg "far_corners" (top 38))(DS:Fn P w K mg base "leash_order" ["one","other","square"] 2 JP)(T:Txt mg):Fn P w K mg base "far_corners" ["one","other","square","room"] 3 JC:=by
 refine GU.fn DR (λ_ _ _ _ _ _ us hl=>by @_,_,_,_,rfl:=rf hl;rfl) (λvs H Q E h=>?_) (λf cdv A outer s H vs Q E hr h=>?_)
 ·@l1,l2,sp,qs1,qs2,a,b,room,rfl,_:=h
  rfl
 ·@l1,l2,sp,qs1,qs2,a,b,room,rfl,L1,L2',b1,b2,sq,q:=h
  ?_,(ag (£4 DR iH) (ag (cj PassesOwn.never rfl (kg rfl T.z_enumerate (ad ©0 ak)) (fe rfl (bK (aQ (i:=5) DR.nd rfl (Or.inl rfl)) (bK (aQ (i:=6) DR.nd rfl (Or.inl rfl)) dX))) (am (cj PassesOwn.never rfl (kg rfl T.z_enumerate (ad ©1 ak)) (fe rfl (bK (aQ (i:=7) DR.nd rfl (Or.inl rfl)) (bK (aQ (i:=8) DR.nd rfl (Or.inl rfl)) dX))) (am (aM (aE dH (¢DS (ad ©6 (ad ©8 (ad ©2 ak)))) ©3 (aG _)) (am (eV (cT hr) ©4 (aJ (ad ©5 (ad ©7 ak))) cW rfl)) aI))))) (am (aB (Ah ©4)))));!hl1:(qs1.map λ(q:Addr×Int×Int)=>V.ref q.1).length=qs1.length:=List.length_map _;!hl2:(qs2.map λ(q:Addr×Int×Int)=>V.ref q.1).length=qs2.length:=List.length_map _;generalize hF:fk qs1 qs2 a b room=F at q;refine λd hd=>?_;!s0:Same H (upd H d (.dT [])):=Same.new hd;refine⟨_,rfl,l1,rfl,⟨_,SqL.of (s0 _ _ L1.lst)⟩,iR (K:=K) (a:=l1) (xs:=qs1.map λ(q:Addr×Int×Int)=>V.ref q.1) (λi σ H'=>∃(z5 z6 z7 z8:Option V),σ = [some (.ref l1),some (.ref l2),some (.ref sp),some (.int room),some (.ref d),z5,z6,z7,z8]/\Same H H'/\H' d=some (.dT (kvF (io F qs2.length i))))
   ⟨_,_,_,_,rfl,s0,upd_same⟩ (λi σ H' _ ⟨_,_,_,_,_,s',_⟩=>SqL.of (s' _ _ L1.lst)) ?_ ?_⟩
  ·rintro i x pp σ H1 H2 hx ⟨z5,z6,z7,z8,rfl,s1,e1⟩ s2 f2
   rw[List.getElem?_map]at hx;@u,hu,rfl:=Option.map_eq_some_iff.mp hx;!iu:=(List.getElem?_eq_some_iff.mp hu).1;!S2:=s1.trans s2;?pp,^,SqT.of f2,rfl,_,^,%;refine⟨_,rfl,l2,rfl,⟨_,SqL.of (S2 _ _ L2'.lst)⟩,iR (K:=K) (a:=l2) (xs:=qs2.map λ(q:Addr×Int×Int)=>V.ref q.1) (λj σ H'=>∃(z7 z8:Option V),σ = [some (.ref l1),some (.ref l2),some (.ref sp),some (.int room),some (.ref d),some (.int (i:Int)),some (.ref u.1),z7,z8]/\Same H H'/\H' d=some (.dT (kvF (io F qs2.length i++gZ F i j))))
    ⟨_,_,rfl,S2,by rw[show gZ F i 0 = [] from rfl,List.append_nil];#s2 _ _ e1⟩ (λi σ H' _ ⟨_,_,_,s',_⟩=>SqL.of (s' _ _ L2'.lst)) ?_ ?_⟩
   ·rintro j x pp σ H3 H4 hx ⟨z7,z8,rfl,s3,e3⟩ s4 f4
    rw[List.getElem?_map]at hx;@v,hv,rfl:=Option.map_eq_some_iff.mp hx;!jv:=(List.getElem?_eq_some_iff.mp hv).1;!S4:=s3.trans s4;!cu:=(L1.mono S4).crn u (List.mem_of_getElem? hu);!cv:=(L2'.mono S4).crn v (List.mem_of_getElem? hv);!e4:=s4 _ _ e3;!fa:F i j=decide (lo u.2.1 u.2.2 v.2.1 v.2.2 a b<room):=by rw[<- hF];#sZ hu hv
    ?pp,^,SqT.of f4,rfl,_,^,%;¶^,^,^,u.1,v.1,sp,_,_,_,_,_,^,⟨cu.1,fw cu.2.1,fw cu.2.2⟩,⟨cv.1,fw cv.2.1,fw cv.2.2⟩,sq.mono S4,^,%,^,aY (λg=>?_) (λg=>?_)
    ·rw[<- fa]at g
     ¶^,^,^,sz (by simp),λc H5 s5 f5 n5=>?_;!e5:=s5 _ _ e4;!nk:((i:Int),(j:Int))∉io F qs2.length i++gZ F i j:=λz=>by
      rcases List.mem_append.mp z with z|z
      ·!:=(k9.mp z).2.1
       dsimp only at this;~
      ·!:=(iL.mp z).2.2.1
       dsimp only at this;~
     !nv:dR (kvF (io F qs2.length i++gZ F i j)) (ck i j)=none:=iy λz=>nk (pO.mp z);!len:(kvF (io F qs2.length i++gZ F i j)).length<sizeLine:=by
      unfold kvF;rw[List.length_map,List.length_append];!h1:=lO (F:=F) (n:=qs2.length) (i:=i);!h2:=oY (F:=F) (i:=i) (k:=j);!h3:=Nat.mul_le_mul (show i<=20 by omega) b2.2;#bJ ~
     ?d,^,lY.t (k:=ck i j) e5 f5 len,_,^,?_
     ·#λx o e=>by
       rw[aR (λz=>by rw[z,hd]at e;cases e)];#s5 _ _ (S4 _ _ e)
     ·rw[upd_same,iE _ nv,je,if_pos g]
      unfold kvF;rw[<- List.append_assoc,List.map_append (l₂:=[_])];rfl
    ·rw[<- fa]at g
     ?_,^,S4;rw[je,if_neg (by rw[g];#Bool.false_ne_true),List.append_nil];#e4
   ·rintro σ H3 ⟨z7,z8,rfl,s3,e3⟩
    rw[hl2,<- jz]at e3;§_,_,_,^,s3,e3
  ·rintro σ H1 ⟨z5,z6,z7,z8,rfl,s1,e1⟩
   rw[hl1]at e1;¶^,d,^,e1,λo=>q d _ ?_ ⟨o,?_⟩
   ·#λx o e=>by
     rw[aR (λz=>by rw[z,hd]at e;cases e)];#s1 _ _ e
   ·rw[upd_same]
    unfold mF;rw[show qs1.length - 1+1=qs1.length by omega,show qs2.length - 1+1=qs2.length by omega]
¤sq0(x:Int):0<=x*x:=sqx x
structure Nm(K:W.Frag)(H:Hp)(p:Addr)(l:Int×Int×Int×Int):Prop where
 at_:TpK K H p [.int l.1,.int l.2.1,.int l.2.2.1,.int l.2.2.2]
 b0:ar l.1<=240
 b1:ar l.2.1<=2
 b2:ar l.2.2.1<=470
 b3:ar l.2.2.2<=240
 p2:0<=l.2.2.1
 p3:1<=l.2.2.2
¤Nm.mono{K:W.Frag}{H H':Hp}{p:Addr}{l:Int×Int×Int×Int}(h:Nm K H p l)(s:Same H H'):Nm K H' p l:=⟨h.at_.mono s.t,h.b0,h.b1,h.b2,h.b3,h.p2,h.p3⟩
¤wj{cx cy bx by_ ex ey x y:Int}(hne:¬[bx,by_] = [ex,ey])(hy:0<y):Gv (du bx by_ ex ey) (rAl cx cy bx by_ ex ey) ((cx - bx)*(cx - bx)+(cy - by_)*(cy - by_)) (rBe cx cy bx by_ ex ey) x y (rAl cx cy bx by_ ex ey*y) (du bx by_ ex ey*y) (rUn cx cy bx by_ ex ey x y):=by
 ¶?_,hy,?_,rfl,rfl,rfl
 ·unfold du
  !h1:=sq0 (ex - bx);!h2:=sq0 (ey - by_);!key:∀z:Int,z≠0->0<z*z:=λz hz=>by
   rcases Int.lt_trichotomy z 0 with h|h|h
   ·#Int.mul_pos_of_neg_of_neg h h
   ·#absurd h hz
   ·#Int.mul_pos h h
  by_cases h:ex - bx=0
  ·!h3:ey - by_≠0:=λz=>hne (by rw[show bx=ex by omega,show by_=ey by omega])
   !:=key _ h3;~
  ·!:=key _ h
   ~
 ·unfold rBe du rAl
  grind
¤BW{cx cy bx by_ x y:Int}:lo cx cy bx by_ x y=sg (x - ((cx - bx)*(cx - bx)+(cy - by_)*(cy - by_))*y):=by
 unfold lo;rw[show(bx - cx)*(bx - cx)=(cx - bx)*(cx - bx) by grind,show(by_ - cy)*(by_ - cy)=(cy - by_)*(cy - by_) by grind]
¤flat{cx cy bx by_ ex ey:Int}(h:[bx,by_] = [ex,ey]):du bx by_ ex ey=0/\rAl cx cy bx by_ ex ey=0:=by
 simp only[List.cons.injEq,and_true]at h;@rfl,rfl:=h;unfold du rAl;rw[show bx - bx=0 by omega,show by_ - by_=0 by omega];simp
¤mP{x:Int}:(sg x<0↔x<0)/\(sg x<1↔x<=0):=by
 rcases Int.lt_trichotomy x 0 with h|h|h
 ·rw[d6 h];~
 ·rw[hO h];~
 ·rw[cP h];~
¤fb(x:Int):-1<=sg x/\sg x<=1:=by
 rcases Int.lt_trichotomy x 0 with h|h|h
 ·rw[d6 h];~
 ·rw[hO h];~
 ·rw[cP h];~
¤xu(w m u n l:Int):-1<=cR w m u n l/\cR w m u n l<=1:=by
  unfold cR
  split
  · #fb _
  · !pr:∀a b:Int,-1<=a->a<=1->-1<=b->b<=1->-1<=a*b/\a*b<=1:=λa b h1 h2 h3 h4=>by
      !:a = -1\/a=0\/a=1:= ~
      rcases this with rfl|rfl|rfl <;> ~
    unfold swr;!s1:=fb w
    first
      | (split
         · !s2:=fb (sg (w*w - m*m*u - n*n*l)+sg (-2*m*n))
           #pr _ _ s1.1 s1.2 (fb _).1 (fb _).2
         · #pr _ _ s1.1 s1.2 (pr _ _ (fb _).1 (fb _).2 (fb _).1 (fb _).2).1 (pr _ _ (fb _).1 (fb _).2 (fb _).1 (fb _).2).2)
      | #pr _ _ s1.1 s1.2 (fb _).1 (fb _).2
¤BO(a0 a1 a2 a3 b0 b1 b2 b3:Int):-1<=ro a0 a1 a2 a3 b0 b1 b2 b3/\ro a0 a1 a2 a3 b0 b1 b2 b3<=1:=xu _ _ _ _ _
structure KK(P L U:Int):Prop where
 u:0<U
 e:P - L<0\/(P - L)*(P - L)<U
 b:0<P\/P*P<U
section
variable {A B C be x y P L U:Int}
¤_root_.Sp5.Gv.open1(g:Gv A B C be x y P L U):¬(sg U<1\/ro 1 0 0 1 P (-1) U L<1\/ro P 1 U L 0 0 0 1<1)↔KK P L U:=by
 constructor
 ·intro n
  !u:0<U:=by
   by_cases h:U<=0
   ·#absurd (.inl (mP.2.mpr h)) n
   ·~
  ?u,?_
  ·by_cases z:ro 1 0 0 1 P (-1) U L<1
   ·#absurd (.inr (.inl z)) n
   ·rw[eB P (-1) U L 1 0 0 1,g.lowE]at z
    #(l8 ~).2.2.mp ~
  ·by_cases z:ro P 1 U L 0 0 0 1<1
   ·#absurd (.inr (.inr z)) n
   ·rw[g.highB]at z
    #(nZ ~).2.2.mp ~
 ·rintro⟨u,e,b⟩ n
  rcases n with n|n|n
  ·!:=mP.2.mp n
   ~
  ·rw[eB P (-1) U L 1 0 0 1,g.lowE]at n
   !:=(l8 (W:=P - L) (U:=U) ~).2.2.mpr e;~
  ·rw[g.highB]at n
   !:=(nZ (W:=P) (U:=U) ~).2.2.mpr b;~
end
¤wM{A B y U:Int}(ba:ar A<=103)(bb:ar B<=103)(by_:ar y<=130)(bu:ar U<=470)(u0:0<=U)(l0:1<=A*y) :
  (ar (fK (B*y) U (A*y)).1<=240/\ar (fK (B*y) U (A*y)).2.1<=2/\ar (fK (B*y) U (A*y)).2.2.1<=470/\ar (fK (B*y) U (A*y)).2.2.2<=240/\0<=(fK (B*y) U (A*y)).2.2.1/\1<=(fK (B*y) U (A*y)).2.2.2) /\
  (ar (dP (B*y) U (A*y)).1<=240/\ar (dP (B*y) U (A*y)).2.1<=2/\ar (dP (B*y) U (A*y)).2.2.1<=470/\ar (dP (B*y) U (A*y)).2.2.2<=240/\0<=(dP (B*y) U (A*y)).2.2.1/\1<=(dP (B*y) U (A*y)).2.2.2):=by
 !b1:ar (B*y)<=240:=aq (bits_mul bb by_) &;!b2:ar (A*y)<=240:=aq (bits_mul ba by_) &;constructor
 ·unfold fK
  split
  ·decide
  ·§b1,(by show ar (-1)<=2;decide),bu,b2,u0,l0
 ·unfold dP
  split
  ·decide
  ·§b1,(by show ar 1<=2;decide),bu,b2,u0,l0
¤xn{cx cy bx by_ ex ey x y:Int}(w1:ar (ex - bx)<=51)(w2:ar (ey - by_)<=51)(w3:ar (cx - bx)<=51)(w4:ar (cy - by_)<=51)(hx:ar x<=230)(hy:ar y<=130):ar (rUn cx cy bx by_ ex ey x y)<=470:=by
 unfold rUn;!bl:ar (du bx by_ ex ey)<=103:=bT (bits_mul w1 w1) (bits_mul w2 w2);!bb:ar (rBe cx cy bx by_ ex ey)<=103:=a9 (bits_mul w3 w2) (bits_mul w4 w1);#aq (bits_mul hy (a9 (n:=336) (aq (bits_mul hx bl) &) (bits_mul (bits_mul hy bb) bb))) &
¦dQ(cx cy bx by_ ex ey x y room:Int):Option (N4×N4):=if pwN cx cy bx by_ ex ey x y room=true then none else
 some (if decide ([bx,by_] = [ex,ey])=true then (0,0,0,1) else fK (rAl cx cy bx by_ ex ey*y) (rUn cx cy bx by_ ex ey x y) (du bx by_ ex ey*y),if decide ([bx,by_] = [ex,ey])=true then (1,0,0,1) else dP (rAl cx cy bx by_ ex ey*y) (rUn cx cy bx by_ ex ey x y) (du bx by_ ex ey*y))
¦wth(cx cy bx by_ ex ey a b:Int):Int:=du bx by_ ex ey*a*a - 2*rAl cx cy bx by_ ex ey*a*b+((cx - bx)*(cx - bx)+(cy - by_)*(cy - by_))*b*b
¤AO{a b:Int}(ha:0<=a)(hab:a<=b):eS (some ((0,0,0,1),(1,0,0,1))) a b=true:=by
 unfold eS;dsimp only;rw[fZ,fi.1,fi.2,Bool.and_eq_true,decide_eq_true_eq,decide_eq_true_eq];?rZ.mpr ~;!:0<=sg (b - a):=by
  rcases Int.lt_or_eq_of_le (show 0<=b - a by omega) with z|z
  ·rw[cP z];decide
  ·rw[<- z];decide
 ~
¤nN{x:Int}:(0<=sg x↔0<=x)/\(1<=sg x↔0<x):=by
 !:=mP (x:=x);~
¤fP{cx cy bx by_ ex ey x y a b:Int}(hy:0<y)(ha:0<=a)(hab:a<=b)(hb:0<b) :
  eS (dQ cx cy bx by_ ex ey x y 0) a b=decide (wth cx cy bx by_ ex ey a b*y<=x*(b*b))/\(wth cx cy bx by_ ex ey a b*y<x*(b*b)->eS (dQ cx cy bx by_ ex ey x y 1) a b=true)/\(zH (dQ cx cy bx by_ ex ey x y 1) a b=true->wth cx cy bx by_ ex ey a b*y<x*(b*b)):=by
 !bb:0<b*b:=Int.mul_pos hb hb;unfold dQ wth
 by_cases hs:[bx,by_] = [ex,ey]
 ·@e1,e2:=flat (cx:=cx) (cy:=cy) hs
  rw[e1,e2,decide_eq_true hs,if_pos rfl,if_pos rfl];unfold pwN;rw[if_pos hs,if_pos hs,BW];generalize (cx - bx)*(cx - bx)+(cy - by_)*(cy - by_)=C;!k:=nN (x:=x - C*y);!p:=nS (k:=b*b) (z:=x - C*y) bb;!e:b*b*(x - C*y)=x*(b*b) - (0*a*a - 2*0*a*b+C*b*b)*y:=by grind
  rw[e]at p;!f:=AO ha hab;¶?_,λh=>?_,λh=>?_
  ·by_cases z:sg (x - C*y)>=0
   ·rw[decide_eq_true z,if_neg &,f,eq_comm,decide_eq_true_eq]
    ~
   ·rw[decide_eq_false z,if_pos &,eq_comm]
    #decide_eq_false ~
  ·rw[decide_eq_true (show sg (x - C*y)>=1 by omega),if_neg &]
   #f
  ·by_cases z:sg (x - C*y)>=1
   ·~
   ·rw[decide_eq_false z,if_pos &]at h
    cases h
 ·!gv:=wj (cx:=cx) (cy:=cy) (x:=x) hs hy
  rw[decide_eq_false hs,if_neg (show ¬(false=true) by decide),if_neg (show ¬(false=true) by decide)];!ct:=gv.ct a b;!w0:=sqx (rAl cx cy bx by_ ex ey*y*b - a*(du bx by_ ex ey*y));unfold pwN;rw[if_neg hs,if_neg hs];¶?_,λh=>?_,λh=>?_
  ·by_cases z:sg (rUn cx cy bx by_ ex ey x y)<0\/ro 1 0 0 1 (rAl cx cy bx by_ ex ey*y) (-1) (rUn cx cy bx by_ ex ey x y) (du bx by_ ex ey*y)<0\/ro (rAl cx cy bx by_ ex ey*y) 1 (rUn cx cy bx by_ ex ey x y) (du bx by_ ex ey*y) 0 0 0 1<0
   ·rw[if_pos (by simp only[Bool.or_eq_true,decide_eq_true_eq];#z),eq_comm]
    !fr:=gv.far (gv.shut' z) ha hab hb;#decide_eq_false ~
   ·rw[if_neg (by simp only[Bool.or_eq_true,decide_eq_true_eq];#z)]
    !o:=gv.shut z;!bu:0<=b*b*rUn cx cy bx by_ ex ey x y:=Int.mul_nonneg ~ o.u;!l1:=(gv.low_le o.u ha hb).1;!h1:=(gv.high_ge o.u hab hb).1;unfold eS;dsimp only;rw[Bool.eq_iff_iff,Bool.and_eq_true,decide_eq_true_eq,decide_eq_true_eq,decide_eq_true_eq,l1,h1,<- ct.1];generalize rAl cx cy bx by_ ex ey*y*b - a*(du bx by_ ex ey*y)=W at *;generalize b*b*rUn cx cy bx by_ ex ey x y=V at *;constructor
    ·rintro⟨q1,q2⟩
     rcases Int.lt_trichotomy W 0 with w|w|w
     ·~
     ·rw[w];~
     ·~
    ·intro q
     §λ⟨_,q2⟩=>~,(λ⟨_,q2⟩=>~)
  ·!hw:=ct.2.mpr h
   !u0:0<rUn cx cy bx by_ ex ey x y:=by
    !:=nS (k:=b*b) (z:=rUn cx cy bx by_ ex ey x y) bb;~
   !wge:=gv.wge (a:=a) hab;!wle:=gv.wle (b:=b) ha;!o:KK (rAl cx cy bx by_ ex ey*y) (du bx by_ ex ey*y) (rUn cx cy bx by_ ex ey x y):=by
    ?u0,?_
    ·by_cases z:rAl cx cy bx by_ ex ey*y - du bx by_ ex ey*y<0
     ·#.inl z
     ·!s1:=mL (u:=b*(rAl cx cy bx by_ ex ey*y - du bx by_ ex ey*y)) (Int.mul_nonneg ~ ~) wge
      rw[mY]at s1;#.inr (Int.lt_of_mul_lt_mul_left (a:=b*b) ~ ~)
    ·by_cases z:0<rAl cx cy bx by_ ex ey*y
     ·#.inl z
     ·!s1:=mL (u:=b * -(rAl cx cy bx by_ ex ey*y)) (v:=-(rAl cx cy bx by_ ex ey*y*b - a*(du bx by_ ex ey*y))) (Int.mul_nonneg ~ ~) (by rw[Int.mul_neg];~)
      rw[mY,Int.neg_mul_neg,Int.neg_mul_neg]at s1;#.inr (Int.lt_of_mul_lt_mul_left (a:=b*b) ~ ~)
   !n:=gv.open1.mpr o;rw[if_neg (by simp only[Bool.or_eq_true,decide_eq_true_eq];#n)];unfold eS;dsimp only;rw[Bool.and_eq_true,decide_eq_true_eq,decide_eq_true_eq,(gv.low_le (Int.le_of_lt u0) ha hb).1,(gv.high_ge (Int.le_of_lt u0) hab hb).1];§λ⟨_,q2⟩=>~,(λ⟨_,q2⟩=>~)
  ·by_cases z:sg (rUn cx cy bx by_ ex ey x y)<1\/ro 1 0 0 1 (rAl cx cy bx by_ ex ey*y) (-1) (rUn cx cy bx by_ ex ey x y) (du bx by_ ex ey*y)<1\/ro (rAl cx cy bx by_ ex ey*y) 1 (rUn cx cy bx by_ ex ey x y) (du bx by_ ex ey*y) 0 0 0 1<1
   ·rw[if_pos (by simp only[Bool.or_eq_true,decide_eq_true_eq];#z)]at h
    cases h
   ·rw[if_neg (by simp only[Bool.or_eq_true,decide_eq_true_eq];#z)]at h
    !o:=gv.open1.mp z;!ou:=o.u;unfold zH at h;dsimp only at h;rw[Bool.and_eq_true,decide_eq_true_eq,decide_eq_true_eq]at h;!l2:=(gv.low_le (Int.le_of_lt ou) ha hb).2 h.1;!h2:=(gv.high_ge (Int.le_of_lt ou) hab hb).2 h.2;#ct.2.mp ~
¦fU(K:W.Frag)(H:Hp)(v:V)(o:Option (N4×N4)):Prop:=match o with
 | none=>v = .non
 | some (l,m)=>∃t p q:Addr,v = .ref t/\H t=some (.tup [.ref p,.ref q])/\Nm K H p l/\Nm K H q m
¤fU.mono{K:W.Frag}{H H':Hp}{v:V}{o:Option (N4×N4)}(h:fU K H v o)(s:Same H H'):fU K H' v o:=by
 cases o with
 | none=>#h
 | some lm =>
  @t,p,q,e,f,n1,n2:=h;§t,p,q,e,s _ _ f,n1.mono s,n2.mono s
¤wB{K:W.Frag}{H:Hp}{v:V}{cx cy bx by_ ex ey x y room:Int}(hr:room=0\/room=1)(hy:0<y)(bx':ar x<=230)(byy:ar y<=130)(w1:ar (ex - bx)<=51)(w2:ar (ey - by_)<=51)(w3:ar (cx - bx)<=51)(w4:ar (cy - by_)<=51)
  (h:Pw K H v (pwN cx cy bx by_ ex ey x y room) (decide ([bx,by_] = [ex,ey])) (rAl cx cy bx by_ ex ey*y) (rUn cx cy bx by_ ex ey x y) (du bx by_ ex ey*y)):fU K H v (dQ cx cy bx by_ ex ey x y room):=by
 unfold dQ;rcases h with⟨rfl,hN⟩|⟨hN,t,p,q,ln,hn,rfl,et,al,ah,e1,e2⟩
 ·rw[if_pos hN]
  rfl
 ·rw[if_neg (by rw[hN];decide)]
  !key:(ar ln.1<=240/\ar ln.2.1<=2/\ar ln.2.2.1<=470/\ar ln.2.2.2<=240/\0<=ln.2.2.1/\1<=ln.2.2.2)/\(ar hn.1<=240/\ar hn.2.1<=2/\ar hn.2.2.1<=470/\ar hn.2.2.2<=240/\0<=hn.2.2.1/\1<=hn.2.2.2):=by
   by_cases hs:[bx,by_] = [ex,ey]
   ·rw[decide_eq_true hs,if_pos rfl]at e1 e2
    subst e1 e2;decide
   ·rw[decide_eq_false hs,if_neg &]at e1 e2
    subst e1 e2;!gv:=wj (cx:=cx) (cy:=cy) (x:=x) hs hy;!u0:0<=rUn cx cy bx by_ ex ey x y:=by
     unfold pwN at hN;rw[if_neg hs,Bool.or_eq_false_iff,decide_eq_false_iff_not]at hN;!:=mP (x:=rUn cx cy bx by_ ex ey x y);rcases hr with rfl|rfl <;> ~
    #wM (bT (bits_mul w1 w1) (bits_mul w2 w2)) (bT (bits_mul w3 w1) (bits_mul w4 w2)) byy (xn w1 w2 w3 w4 bx' byy) u0 (Int.mul_pos gv.pa hy)
  rw[<- e1,<- e2];§t,p,q,rfl,et,⟨al,key.1.1,key.1.2.1,key.1.2.2.1,key.1.2.2.2.1,key.1.2.2.2.2.1,key.1.2.2.2.2.2⟩,⟨ah,key.2.1,key.2.2.1,key.2.2.2.1,key.2.2.2.2.1,key.2.2.2.2.2.1,key.2.2.2.2.2.2⟩
¦dk(k i j:Int):aL:=[.inl k,.inl i,.inl j]
¤rF{k i j k' i' j':Int}(h:dk k i j=dk k' i' j'):k=k'/\i=i'/\j=j':=by
 unfold dk at h;simp only[List.cons.injEq,Sum.inl.injEq,and_true]at h;#h
¦cB(d:Addr)(H H':Hp):Prop:=∀b o,b≠d->H b=some o->H' b=some o
¤cB.of{d:Addr}{H H':Hp}(s:Same H H'):cB d H H':=λb o _ e=>s b o e
¤cB.trans{d:Addr}{H H1 H2:Hp}(a:cB d H H1)(b:cB d H1 H2):cB d H H2:=λc o n e=>b c o n (a c o n e)
¤cB.upd{d:Addr}{H:Hp}{o:HO}:cB d H (upd H d o):=λb o' n e=>by rw[aR n];#e
¤cB.t{d:Addr}{H H':Hp}(b:cB d H H')(hd:∀xs,H d≠some (.tup xs)):SameT H H':=λx xs e=>b x _ (λz=>hd xs (by rw[<- z];#e)) e
¤cB.same{d:Addr}{H0 H H':Hp}(b:cB d H H')(s:Same H0 H)(h:H0 d=none):Same H0 H':=λc o e=>b c o (λz=>by rw[z,h]at e;cases e) (s c o e)
¦NoT(o:HO):Prop:=(∀xs,o≠.tup xs)/\∀ob xs,o≠.frz ob (.tup xs)
¤nK{K:W.Frag}{H H':Hp}{a d:Addr}{xs:List V}{od:HO}(h:TpK K H a xs)(b:cB d H H')(hd:H d=some od)(n:NoT od):TpK K H' a xs:=h.imp_left λh=>b _ _ (λz=>n.1 xs (by rw[z,hd]at h;cases h;rfl)) h
¤fU.but{K:W.Frag}{H H':Hp}{v:V}{o:Option (N4×N4)}{d:Addr}{od:HO}(h:fU K H v o)(b:cB d H H')(hd:H d=some od)(n:NoT od):fU K H' v o:=by
 cases o with
 | none=>#h
 | some lm =>
  @t,p,q,e,f,n1,n2:=h;§t,p,q,e,b _ _ (λz=>n.1 _ (by rw[z,hd]at f;cases f;rfl)) f,⟨nK n1.at_ b hd n,n1.b0,n1.b1,n1.b2,n1.b3,n1.p2,n1.p3⟩,⟨nK n2.at_ b hd n,n2.b0,n2.b1,n2.b2,n2.b3,n2.p2,n2.p3⟩
¤oe{kvs:List (List Key×V)}:NoT (.dT kvs):=⟨(λ_ z=>by cases z),(λ_ _ z=>by cases z)⟩
structure Ed(K:W.Frag)(H:Hp)(d:Addr)(G:Int->Int->Int->Option (N4×N4))(D:Int->Int->Int->Prop)(n:Nat):Prop where
 ex:∃kvs:List (List Key×V),H d=some (.dT kvs)/\kvs.length=n/\(∀k i j,D k i j->∃v,dR kvs (dk k i j)=some v/\fU K H v (G k i j))/\∀k i j,¬D k i j->dR kvs (dk k i j)=none
¤Ed.mono{K:W.Frag}{H H':Hp}{d:Addr}{G:Int->Int->Int->Option (N4×N4)}{D:Int->Int->Int->Prop}{n:Nat}(h:Ed K H d G D n)(s:Same H H'):Ed K H' d G D n:=by
 @kvs,e,l,a,b:=h.ex;§kvs,s _ _ e,l,λk i j x=>let ⟨v,e,g⟩:=a k i j x;⟨v,e,g.mono s⟩,b
¤Ed.congr{K:W.Frag}{H:Hp}{d:Addr}{G:Int->Int->Int->Option (N4×N4)}{D D':Int->Int->Int->Prop}{n n':Nat}(h:Ed K H d G D n)(e:∀k i j,D k i j↔D' k i j)(en:n=n'):Ed K H d G D' n':=by
 subst en;@kvs,e',l,a,b:=h.ex;§kvs,e',l,λk i j x=>a k i j ((e k i j).mpr x),λk i j x=>b k i j λy=>x ((e k i j).mp y)
¤rs0{A p q:Prop}{z:Int}{j:Nat}:((A\/(p/\q/\0<=z/\z<(j:Int)))\/(p/\q/\z=(j:Int)))↔A\/(p/\q/\0<=z/\z<((j+1:Nat):Int)):=by
 constructor
 ·rintro((h|⟨a,b,c,d⟩)|⟨a,b,c⟩)
  ·#.inl h
  ·#.inr ⟨a,b,c,by clear a b c;~⟩
  ·#.inr ⟨a,b,by clear a b;~,by clear a b;~⟩
 ·rintro(h|⟨a,b,c,d⟩)
  ·#.inl (.inl h)
  ·rcases Int.lt_or_eq_of_le (show z<=(j:Int) by clear a b c;~) with e|e
   ·#.inl (.inr ⟨a,b,c,e⟩)
   ·#.inr ⟨a,b,e⟩
¤rs1{A p q:Prop}{z:Int}{j:Nat}:((A\/(p/\q/\0<=z/\z<(j:Int)))\/(p/\z=(j:Int)/\q))↔A\/(p/\q/\0<=z/\z<((j+1:Nat):Int)):=by
 rw[and_comm (a:=z=(j:Int)) (b:=q)];#rs0
¤re0{p:Prop}{x y M:Int}{i c:Nat}(e:(c:Int)=M):((p/\(0<=x/\x<(i:Int))/\0<=y/\y<M)\/(p/\x=(i:Int)/\0<=y/\y<(c:Int)))↔p/\(0<=x/\x<((i+1:Nat):Int))/\0<=y/\y<M:=by
 subst e;constructor
 ·rintro(⟨a,b,c⟩|⟨a,b,c⟩)
  ·§a,⟨b.1,by clear a c;~⟩,c
  ·§a,⟨by clear a c;~,by clear a c;~⟩,c
 ·rintro⟨a,b,c⟩
  rcases Int.lt_or_eq_of_le (show x<=(i:Int) by clear a c;~) with e|e
  ·#.inl ⟨a,⟨b.1,e⟩,c⟩
  ·#.inr ⟨a,e,c⟩
¤re1{A p:Prop}{x y M:Int}{j c:Nat}(e:(c:Int)=M):((A\/(p/\(0<=x/\x<M)/\0<=y/\y<(j:Int)))\/(p/\y=(j:Int)/\0<=x/\x<(c:Int)))↔A\/(p/\(0<=x/\x<M)/\0<=y/\y<((j+1:Nat):Int)):=by
 subst e;constructor
 ·rintro((h|⟨a,b,c⟩)|⟨a,b,c⟩)
  ·#.inl h
  ·#.inr ⟨a,b,c.1,by clear a b;~⟩
  ·#.inr ⟨a,c,by clear a c;~,by clear a c;~⟩
 ·rintro(h|⟨a,b,c⟩)
  ·#.inl (.inl h)
  ·rcases Int.lt_or_eq_of_le (show y<=(j:Int) by clear a b;~) with e|e
   ·#.inl (.inr ⟨a,b,c.1,e⟩)
   ·#.inr ⟨a,e,b⟩
¤sK{x n:Int}:x<n↔x<=n - 1:= ~
¤Ed.put{K:W.Frag}{H:Hp}{d t:Addr}{G:Int->Int->Int->Option (N4×N4)}{D:Int->Int->Int->Prop}{n:Nat}{k i j:Int}{v:V}(h:Ed K H d G D n)(ht:H t=some (.tup ((dk k i j).map kV)))(g:fU K H v (G k i j))(new:¬D k i j)(hn:n<1000) :
  ∃H',lY H d (.ref t) v H'/\Ed K H' d G (λk' i' j'=>D k' i' j'\/(k'=k/\i'=i/\j'=j)) (n+1)/\cB d H H':=by
 @kvs,e,l,a,b:=h.ex;¶_,lY.t (k:=dk k i j) (v:=v) e ht (by !:=bJ (n:=kvs.length) ~;#this),⟨_,upd_same,?_,λk' i' j' x=>?_,λk' i' j' x=>?_⟩,cB.upd
 ·rw[iE _ (b k i j new),List.length_append,l];rfl
 ·rw[ix]
  by_cases z:dk k' i' j'=dk k i j
  ·rw[if_pos z]
   @rfl,rfl,rfl:=rF z;§v,rfl,g.but cB.upd e oe
  ·rw[if_neg z]
   rcases x with x|⟨rfl,rfl,rfl⟩
   ·@v',e',g':=a k' i' j' x
    §v',e',g'.but cB.upd e oe
   ·#absurd rfl z
 ·rw[ix,if_neg (λz=>x (.inr (rF z)))]
  #b k' i' j' λy=>x (.inl y)
¤Ed.get{K:W.Frag}{H:Hp}{d t:Addr}{G:Int->Int->Int->Option (N4×N4)}{D:Int->Int->Int->Prop}{n:Nat}{k i j:Int}(h:Ed K H d G D n)(ht:H t=some (.tup ((dk k i j).map kV))):∃o,gN H d (.ref t) o/\(D k i j->∃v,o=some v/\fU K H v (G k i j))/\(¬D k i j->o=none):=by
 @kvs,e,l,a,b:=h.ex;§_,gN.t e ht,a k i j,b k i j
¦DIn(n m:Int)(k i j:Int):Prop:=(k=0/\(0<=i/\i<=n)/\0<=j/\j<m)\/(k=1/\(0<=i/\i<n)/\0<=j/\j<=m)
¦cnX(qs:Crn)(i:Int):Int:=(qs.getD i.toNat (0,0,0)).2.1
¦cnY(qs:Crn)(i:Int):Int:=(qs.getD i.toNat (0,0,0)).2.2
¦bS(qs rs:Crn)(a b room:Int)(k i j:Int):Option (N4×N4) :=
 if k=0 then dQ (cnX qs i) (cnY qs i) (cnX rs j) (cnY rs j) (cnX rs (j+1)) (cnY rs (j+1)) a b room
 else dQ (cnX rs j) (cnY rs j) (cnX qs i) (cnY qs i) (cnX qs (i+1)) (cnY qs (i+1)) a b room
¦lX(K:W.Frag)(H:Hp)(d:Addr)(n m:Int)(G:Int->Int->Int->Option (N4×N4)):Prop:=∃c,Ed K H d G (DIn n m) c
¤lX.mono{K:W.Frag}{H H':Hp}{d:Addr}{n m:Int}{G:Int->Int->Int->Option (N4×N4)}(h:lX K H d n m G)(s:Same H H'):lX K H' d n m G:=let ⟨c,x⟩:=h;⟨c,x.mono s⟩
¦dbl(qs:Crn):Crn:=if qs.length=1 then qs++qs else qs
¤oE{qs:Crn}(h:1<=qs.length/\qs.length<=10):2<=(dbl qs).length/\(dbl qs).length<=10:=by
 unfold dbl
 split
 ·rw[List.length_append];~
 ·~
¤_root_.Sp7.LineM.cn{H:Hp}{l:Addr}{qs:Crn}(L:LineM H l qs){i:Int}(h0:0<=i)(h1:i<(qs.length:Int)):∃p,atI (qs.map λ(q:Addr×Int×Int)=>V.ref q.1) i=some (.ref p)/\Cn H p (cnX qs i) (cnY qs i):=by
 !hi:i.toNat<qs.length:= ~
 !e:qs.getD i.toNat (0,0,0)=qs[i.toNat]:=by rw[List.getD_eq_getElem?_getD,List.getElem?_eq_getElem hi];rfl
 !c:=L.crn _ (List.getElem_mem hi);?qs[i.toNat].1,?_
 ·!:atI (qs.map λ(q:Addr×Int×Int)=>V.ref q.1) ((i.toNat:Nat):Int)=some (.ref qs[i.toNat].1):=dD (by rw[List.getElem?_map,List.getElem?_eq_getElem hi];rfl)
  rw[show((i.toNat:Nat):Int)=i by omega]at this;#this
 ·unfold cnX cnY
  rw[e];§c.1,fw c.2.1,fw c.2.2
¤sW{K:W.Frag}{H:Hp}{v:V}{p q r s:Addr}{cx cy bx by_ ex ey a b room:Int}(hr:room=0\/room=1)(hb:0<b)(c1:Cn H p cx cy)(c2:Cn H q bx by_)(c3:Cn H r ex ey)(sq:Sq H s a b)
  (h:Pw K H v (pwN cx cy bx by_ ex ey a b room) (decide ([bx,by_] = [ex,ey])) (rAl cx cy bx by_ ex ey*b) (rUn cx cy bx by_ ex ey a b) (du bx by_ ex ey*b)):fU K H v (dQ cx cy bx by_ ex ey a b room) :=
 wB hr hb sq.ba sq.bb (a9 c3.bx c2.bx) (a9 c3.by_ c2.by_) (a9 c1.bx c2.bx) (a9 c1.by_ c2.by_) h
inductive Jo (vs:List V) (H:Hp) (Q:VK) (x_3:XK):Prop
 | mk:∀(l:Addr) (qs:Crn),(vs = [.ref l])->(LineM H l qs)->((1<=qs.length/\qs.length<=10))->(∀r H',Same H H'->LineM H' r (dbl qs)->Q (.ref r) H')->Jo vs H Q x_3
inductive G8 (K:W.Frag) (vs:List V) (H:Hp) (Q:VK) (x_3:XK):Prop
 | mk:∀(l1 l2 sp:Addr) (qs rs:Crn) (a b room:Int),(vs = [.ref l1,.ref l2,.ref sp,.int room])->(LineM H l1 qs)->(LineM H l2 rs)->((2<=qs.length/\qs.length<=10))->((2<=rs.length/\rs.length<=10))->((Sq H sp a b/\0<b))->((room=0\/room=1))->(∀d H',Same H H'->H d=none->lX K H' d ((qs.length:Int) - 1) ((rs.length:Int) - 1) (bS qs rs a b room)->Q (.ref d) H')->G8 K vs H Q x_3
structure Dx(K:W.Frag)(C:Addr)(H:Hp)(f:Addr)(n m:Nat)(room:Int)(G:Int->Int->Int->Option (N4×N4))(F:Int->Int->Bool):Prop where
 ex:∃dx lt d fr,H f=some (.ins C dx [("room",.int room),("last",.ref lt),("doors",.ref d),("far",.ref fr)])/\H lt=some (.tup [.int (n:Int),.int (m:Int)])/\lX K H d n m G/\oM H fr n m F
¤Dx.mono{K:W.Frag}{C:Addr}{H H':Hp}{f:Addr}{n m:Nat}{room:Int}{G:Int->Int->Int->Option (N4×N4)}{F:Int->Int->Bool}(h:Dx K C H f n m room G F)(s:Same H H'):Dx K C H' f n m room G F:=by
 @dx,lt,d,fr,h1,h2,h3,h4:=h.ex;§dx,lt,d,fr,s _ _ h1,s _ _ h2,h3.mono s,h4.mono s
¦cI(qs:Crn):Nat:=(dbl qs).length - 1
inductive Gr (K:W.Frag) (C:Addr) (vs:List V) (H:Hp) (Q:VK) (x_3:XK):Prop
 | mk:∀(f dx l1 l2 sp:Addr) (qs rs:Crn) (a b room:Int),(vs = [.ref f,.ref l1,.ref l2,.ref sp,.int room])->(H f=some (.ins C dx []))->(LineM H l1 qs)->(LineM H l2 rs)->((1<=qs.length/\qs.length<=10))->((1<=rs.length/\rs.length<=10))->((Sq H sp a b/\0<b))->((room=0\/room=1))->(∀H',cB f H H'->Dx K C H' f (cI qs) (cI rs) room (bS (dbl qs) (dbl rs) a b room) (fk (dbl qs) (dbl rs) a b room)->Q .non H')->Gr K C vs H Q x_3
¤FX:Dj ["line"] ["line"] (ao (top 36)):=smk
¤iS(F5:Df K mg "with_a_stretch" (top 36))(T:Txt mg):Fn P w K mg base "with_a_stretch" ["line"] 1 Jo:=by
 refine F5.fn FX (λ_ _ _ _ _ _ us hl=>by @_,rfl:=eX hl;rfl) (λvs H Q E h=>?_) (λf cdv A outer s H vs Q E hr h=>?_)
 ·@l,qs,rfl,_:=h
  rfl
 ·@l,qs,rfl,L,hl,k:=h
  ?_,(am (aB (gD (aE bP (aN aO (by rfl) T.z_len bX (ad ©0 ak)) af (aG _)) (ay iK ©0 ©0) ©0)));!hll:(qs.map λ(q:Addr×Int×Int)=>V.ref q.1).length=qs.length:=List.length_map _;unfold dbl at k;?^,l,^,.inl (SqL.of L.lst),rfl,^;rw[hll,di];refine aY (λc=>?_) (λc=>?_)
  ·!c:qs.length=1:=by !:((qs.length:Nat):Int)=1:=bZ c;~
   rw[if_pos c]at k;¶^,^,l,l,%,L.lst,L.lst,sz (by simp;~),λr H1 s1 f1 _=>k r H1 s1 ⟨by rw[f1,List.map_append],λq hq=>?_⟩;rcases List.mem_append.mp hq with h|h
   ·#(L.mono s1).crn q h
   ·#(L.mono s1).crn q h
  ·!c:¬qs.length=1:=λz=>cJ c (by rw[z];rfl)
   rw[if_neg c]at k;§^,k l H (Same.refl _) L
¤DV:Dj ["one","other","square","room","doors","i","corner","j"] ["one","other","square","room"] (ao (top 37)):=smk
¤qm(IM:Df K mg "doors_of" (top 37))(V_UPRIGHT:∃tk,mg "UPRIGHT" = some (.int 0 tk))(V_LEVEL:∃tk,mg "LEVEL" = some (.int 1 tk))(Ew:Fn P w K mg base "part_within" ["corner","begin","end","square","room"] 5 (Jq K))(Ei:Fn P w K mg base "last_of" ["line"] 1 G7)(T:Txt mg):Fn P w K mg base "doors_of" ["one","other","square","room"] 6 (G8 K):=by
 refine IM.fn DV (λ_ _ _ _ _ _ us hl=>by @_,_,_,_,rfl:=rf hl;rfl) (λvs H Q E h=>?_) (λf cdv A outer s H vs Q E hr h=>?_)
 ·@l1,l2,sp,qs,rs,a,b,room,rfl,_:=h
  rfl
 ·@l1,l2,sp,qs,rs,a,b,room,rfl,L1,L2,hq,hr',⟨sq,hb⟩,hroom,k:=h
  @tU,Dq:=V_UPRIGHT;@tL,Ef:=V_LEVEL;?_,(ag (£4 DV iH) (ag (cj PassesOwn.never rfl (kg rfl T.z_enumerate (ad ©0 ak)) (fe rfl (bK (aQ (i:=5) DV.nd rfl (Or.inl rfl)) (bK (aQ (i:=6) DV.nd rfl (Or.inl rfl)) dX))) (am (cj PassesOwn.never rfl (dh rfl T.z_range (ad (¢Ei (ad ©1 ak)) ak)) (aQ (i:=7) DV.nd rfl (Or.inl rfl)) (am (eV (cT hr) ©4 (aJ (ad (bC (v:=.int 0) (by rfl) Dq ⟨_,rfl⟩) (ad ©5 (ad ©7 ak)))) (¢Ew (ad ©6 (ad (ax aW ©1 ©7 (λ_ _=>rfl)) (ad (ax aW ©1 (ay aS ©7 af) (λ_ _=>rfl)) (ad ©2 (ad ©3 ak)))))) rfl))))) (ag (cj PassesOwn.never rfl (kg rfl T.z_enumerate (ad ©1 ak)) (fe rfl (bK (aQ (i:=7) DV.nd rfl (Or.inl rfl)) (bK (aQ (i:=6) DV.nd rfl (Or.inl rfl)) dX))) (am (cj PassesOwn.never rfl (dh rfl T.z_range (ad (¢Ei (ad ©0 ak)) ak)) (aQ (i:=5) DV.nd rfl (Or.inl rfl)) (am (eV (cT hr) ©4 (aJ (ad (bC (v:=.int 1) (by rfl) Ef ⟨_,rfl⟩) (ad ©5 (ad ©7 ak)))) (¢Ew (ad ©6 (ad (ax aW ©0 ©5 (λ_ _=>rfl)) (ad (ax aW ©0 (ay aS ©5 af) (λ_ _=>rfl)) (ad ©2 (ad ©3 ak)))))) rfl))))) (am (aB ©4)))));!hl1:(qs.map λ(q:Addr×Int×Int)=>V.ref q.1).length=qs.length:=List.length_map _;!hl2:(rs.map λ(q:Addr×Int×Int)=>V.ref q.1).length=rs.length:=List.length_map _;generalize hG:bS qs rs a b room=G at k;!G0:∀i j:Int,G 0 i j=dQ (cnX qs i) (cnY qs i) (cnX rs j) (cnY rs j) (cnX rs (j+1)) (cnY rs (j+1)) a b room:=λi j=>by rw[<- hG];rfl
  !G1:∀i j:Int,G 1 i j=dQ (cnX rs j) (cnY rs j) (cnX qs i) (cnY qs i) (cnX qs (i+1)) (cnY qs (i+1)) a b room:=λi j=>by rw[<- hG];rfl
  refine λd hd=>?_;!s0:Same H (upd H d (.dT [])):=Same.new hd;refine⟨_,rfl,l1,rfl,⟨_,SqL.of (s0 _ _ L1.lst)⟩,iR (K:=K) (a:=l1) (xs:=qs.map λ(q:Addr×Int×Int)=>V.ref q.1) (λi σ H'=>∃(z5 z6 z7:Option V),σ = [some (.ref l1),some (.ref l2),some (.ref sp),some (.int room),some (.ref d),z5,z6,z7]/\Same H H'/\Ed K H' d G (λk' i' j'=>k'=0/\(0<=i'/\i'<(i:Int))/\0<=j'/\j'<(rs.length:Int) - 1) (i*(rs.length - 1)))
   ⟨_,_,_,rfl,s0,[],upd_same,(by simp),λk' i' j' h=>~,λ_ _ _ _=>rfl⟩ (λi σ H' _ ⟨_,_,_,_,s',_⟩=>SqL.of (s' _ _ L1.lst)) ?_ ?_⟩
  ·rintro i x pp σ H1 H2 hx ⟨z5,z6,z7,rfl,s1,e1⟩ s2 f2
   !hi:=(List.getElem?_eq_some_iff.mp hx).1;rw[hl1]at hi;@pc,ac,c1:=L1.cn (i:=(i:Int)) ~ ~;obtain rfl:x = .ref pc:=by
    !:=dD hx;rw[ac]at this;cases this;rfl
   !S2:=s1.trans s2;?pp,^,SqT.of f2,rfl,_,^,%;?^,l2,^,S2 _ _ L2.lst,^,~,(~);!en:(((rs.map λ(q:Addr×Int×Int)=>V.ref q.1).length:Nat):Int) - 1=((rs.length - 1:Nat):Int):= ~
   rw[en,Int.toNat_natCast];refine cU (n:=rs.length - 1) (lo:=0) (λj σ H'=>∃(z7:Option V),σ = [some (.ref l1),some (.ref l2),some (.ref sp),some (.int room),some (.ref d),some (.int (i:Int)),some (.ref pc),z7]/\Same H H'/\Ed K H' d G (λk' i' j'=>(k'=0/\(0<=i'/\i'<(i:Int))/\0<=j'/\j'<(rs.length:Int) - 1)\/(k'=0/\i'=(i:Int)/\0<=j'/\j'<(j:Int))) (i*(rs.length - 1)+j))
    ⟨_,rfl,S2,(e1.mono s2).congr (λk' i' j'=>⟨.inl,λh=>h.elim id λz=>absurd z.2.2 ~⟩) rfl⟩ ?_ ?_
   ·rintro j σ H3 hj ⟨z7,rfl,s3,e3⟩
    rw[Int.zero_add];@pb,ab,c2:=L2.cn (i:=(j:Int)) ~ ~;@pe,ae,c3:=L2.cn (i:=(j:Int)+1) ~ ~;!S3:=SqL.of (K:=K) (s3 _ _ L2.lst);¶^,^,^,l2,_,%,S3,ab,^,^,%,l2,_,%,S3,ae,^,^,pc,pb,pe,sp,_,_,_,_,_,_,a,b,room,rfl,c1.mono s3,c2.mono s3,c3.mono s3,sq.mono s3,λv H4 s4 pw=>?_;!S4:=s3.trans s4;¶^,^,^,sz (by simp),λt H5 s5 f5 _=>?_;!S5:=S4.trans s5;!gv:fU K H5 v (G 0 i j):=by
     rw[G0];#(sW hroom hb (c1.mono S4) (c2.mono S4) (c3.mono S4) (sq.mono S4) pw).mono s5
    @H6,dp,e6,b6:=((e3.mono s4).mono s5).put (k:=0) (i:=(i:Int)) (j:=(j:Int)) f5 gv ~ (by
     !:=Nat.mul_le_mul (show i<=10 by omega) (show rs.length - 1<=9 by omega);~)
    §d,H6,rfl,dp,^,b6.same S5 hd,e6.congr (λ_ _ _=>rs0) ~
   ·rintro σ H3 ⟨z7,rfl,s3,e3⟩
    §_,_,^,s3,e3.congr (λ_ _ _=>re0 ~) (by rw[Nat.add_mul,Nat.one_mul])
  ·rintro σ H1 ⟨z5,z6,z7,rfl,s1,e1⟩
   rw[hl1]at e1;refine⟨_,rfl,l2,rfl,⟨_,SqL.of (s1 _ _ L2.lst)⟩,iR (K:=K) (a:=l2) (xs:=rs.map λ(q:Addr×Int×Int)=>V.ref q.1) (λj σ H'=>∃(z5 z6 z7:Option V),σ = [some (.ref l1),some (.ref l2),some (.ref sp),some (.int room),some (.ref d),z5,z6,z7]/\Same H H'/\Ed K H' d G (λk' i' j'=>(k'=0/\(0<=i'/\i'<(qs.length:Int))/\0<=j'/\j'<(rs.length:Int) - 1)\/(k'=1/\(0<=i'/\i'<(qs.length:Int) - 1)/\0<=j'/\j'<(j:Int))) (qs.length*(rs.length - 1)+j*(qs.length - 1)))
    ⟨_,_,_,rfl,s1,e1.congr (λk' i' j'=>⟨.inl,λh=>h.elim id λz=>absurd z.2.2 ~⟩) (by simp)⟩ (λi σ H' _ ⟨_,_,_,_,s',_⟩=>SqL.of (s' _ _ L2.lst)) ?_ ?_⟩
   ·rintro j x pp σ H1 H2 hx ⟨z5,z6,z7,rfl,s1,e1⟩ s2 f2
    !hj:=(List.getElem?_eq_some_iff.mp hx).1;rw[hl2]at hj;@pc,ac,c1:=L2.cn (i:=(j:Int)) ~ ~;obtain rfl:x = .ref pc:=by
     !:=dD hx;rw[ac]at this;cases this;rfl
    !S2:=s1.trans s2;?pp,^,SqT.of f2,rfl,_,^,%;?^,l1,^,S2 _ _ L1.lst,^,~,(~);!en:(((qs.map λ(q:Addr×Int×Int)=>V.ref q.1).length:Nat):Int) - 1=((qs.length - 1:Nat):Int):= ~
    rw[en,Int.toNat_natCast];refine cU (n:=qs.length - 1) (lo:=0) (λi σ H'=>∃(z5:Option V),σ = [some (.ref l1),some (.ref l2),some (.ref sp),some (.int room),some (.ref d),z5,some (.ref pc),some (.int (j:Int))]/\Same H H'/\Ed K H' d G (λk' i' j'=>((k'=0/\(0<=i'/\i'<(qs.length:Int))/\0<=j'/\j'<(rs.length:Int) - 1)\/(k'=1/\(0<=i'/\i'<(qs.length:Int) - 1)/\0<=j'/\j'<(j:Int)))\/(k'=1/\j'=(j:Int)/\0<=i'/\i'<(i:Int))) (qs.length*(rs.length - 1)+j*(qs.length - 1)+i))
     ⟨_,rfl,S2,(e1.mono s2).congr (λk' i' j'=>⟨.inl,λh=>h.elim id λz=>absurd z.2.2 ~⟩) rfl⟩ ?_ ?_
    ·rintro i σ H3 hi ⟨z7,rfl,s3,e3⟩
     rw[Int.zero_add];@pb,ab,c2:=L1.cn (i:=(i:Int)) ~ ~;@pe,ae,c3:=L1.cn (i:=(i:Int)+1) ~ ~;!S3:=SqL.of (K:=K) (s3 _ _ L1.lst);¶^,^,^,l1,_,%,S3,ab,^,^,%,l1,_,%,S3,ae,^,^,pc,pb,pe,sp,_,_,_,_,_,_,a,b,room,rfl,c1.mono s3,c2.mono s3,c3.mono s3,sq.mono s3,λv H4 s4 pw=>?_;!S4:=s3.trans s4;¶^,^,^,sz (by simp),λt H5 s5 f5 _=>?_;!S5:=S4.trans s5;!gv:fU K H5 v (G 1 i j):=by
      rw[G1];#(sW hroom hb (c1.mono S4) (c2.mono S4) (c3.mono S4) (sq.mono S4) pw).mono s5
     @H6,dp,e6,b6:=((e3.mono s4).mono s5).put (k:=1) (i:=(i:Int)) (j:=(j:Int)) f5 gv ~ (by
      !:=Nat.mul_le_mul (show qs.length<=10 by omega) (show rs.length - 1<=9 by omega);!:=Nat.mul_le_mul (show j<=10 by omega) (show qs.length - 1<=9 by omega);~)
     §d,H6,rfl,dp,^,b6.same S5 hd,e6.congr (λ_ _ _=>rs1) ~
    ·rintro σ H3 ⟨z7,rfl,s3,e3⟩
     §_,_,^,s3,e3.congr (λ_ _ _=>re1 ~) (by rw[Nat.add_mul,Nat.one_mul];~)
   ·rintro σ H2 ⟨z5,z6,z7,rfl,s2,e2⟩
    rw[hl2]at e2;§^,k d H2 s2 hd ⟨_,e2.congr (λk' i' j'=>by unfold DIn;rw[<- sK,<- sK]) rfl⟩
¤xZ{C dx:Addr}{fs:List (Str×V)}:NoT (.ins C dx fs):=⟨(λ_ z=>by cases z),(λ_ _ z=>by cases z)⟩
¤fM{H H':Hp}{l f C dx:Addr}{qs:Crn}{fs:List (Str×V)}(L:LineM H l qs)(b:cB f H H')(hf:H f=some (.ins C dx fs)):LineM H' l qs :=
 ⟨b _ _ (λz=>by !:=L.lst;rw[z,hf]at this;cases this) L.lst,λq hq=>⟨b _ _ (λz=>by !:=(L.crn q hq).1;rw[z,hf]at this;cases this) (L.crn q hq).1,(L.crn q hq).2⟩⟩
¤gO{H H':Hp}{p f C dx:Addr}{xs:List V}{fs:List (Str×V)}(h:H p=some (.tup xs))(b:cB f H H')(hf:H f=some (.ins C dx fs)):H' p=some (.tup xs):=b _ _ (λz=>by rw[z,hf]at h;cases h) h
¤nj{K:W.Frag}{H H':Hp}{d f C dx:Addr}{n m:Int}{G:Int->Int->Int->Option (N4×N4)}{fs:List (Str×V)}(h:lX K H d n m G)(b:cB f H H')(hf:H f=some (.ins C dx fs)):lX K H' d n m G:=by
 @c,⟨kvs,e,l,a,z⟩:=h;§c,⟨kvs,b _ _ (λy=>by rw[y,hf]at e;cases e) e,l,λk i j x=>let ⟨v,e,g⟩:=a k i j x;⟨v,e,g.but b hf xZ⟩,z⟩
¤yt{H H':Hp}{d f C dx:Addr}{m n:Nat}{F:Int->Int->Bool}{fs:List (Str×V)}(h:oM H d m n F)(b:cB f H H')(hf:H f=some (.ins C dx fs)):oM H' d m n F:=by
 @o,e:=h;§o,b _ _ (λy=>by rw[y,hf]at e;cases e) e
¤EF:Dj ["self","one","other","square","room","first","second"] ["self","one","other","square","room"] (ao (x6 39 0)):=smk
¤j4(EQ:KP K C_Field "__init__" "Field.__init__" (x6 39 0))(Dl:FQ K mg "Field" C_Field)(n_room:aX K C_Field "room")(n_last:aX K C_Field "last")(n_doors:aX K C_Field "doors")(n_far:aX K C_Field "far")(D4:Fn P w K mg base "with_a_stretch" ["line"] 1 Jo)(Ei:Fn P w K mg base "last_of" ["line"] 1 G7)(FF:Fn P w K mg base "doors_of" ["one","other","square","room"] 6 (G8 K))(EX:Fn P w K mg base "far_corners" ["one","other","square","room"] 3 JC)(T:Txt mg):Mt P w K mg base C_Field "__init__" ["self","one","other","square","room"] 7 (Gr K C_Field):=by
 refine EQ.mt EF (λ_ _ _ _ _ _ us hl=>by @_,_,_,_,_,rfl:=v7 hl;rfl) (λvs H Q E h=>?_) (λf cdv A outer s H vs Q E hr h=>?_)
 ·@f,dx,l1,l2,sp,qs,rs,a,b,room,rfl,_:=h
  rfl
 ·@f,dx,l1,l2,sp,qs,rs,a,b,room,rfl,hf,L1,L2,hq,hr',⟨sq,hb⟩,hroom,k:=h
  ?_,(ag (£5 EF (¢D4 (ad ©1 ak))) (ag (£6 EF (¢D4 (ad ©2 ak))) (ag (nR ©0 ©4 rfl) (ag (nR ©0 (aJ (ad (¢Ei (ad ©5 ak)) (ad (¢Ei (ad ©6 ak)) ak))) rfl) (ag (nR ©0 (¢FF (ad ©5 (ad ©6 (ad ©3 (ad ©4 ak))))) rfl) (am (nR ©0 (¢EX (ad ©5 (ad ©6 (ad ©3 (ad ©4 ak))))) rfl)))))));!dq:=oE hq;!dr:=oE hr';!h1:((dbl qs).map λ(q:Addr×Int×Int)=>V.ref q.1).length=(dbl qs).length:=List.length_map _;!h2:((dbl rs).map λ(q:Addr×Int×Int)=>V.ref q.1).length=(dbl rs).length:=List.length_map _;¶^,l1,qs,rfl,L1,hq,λr1 H1 s1 F1=>?_;¶^,l2,rs,rfl,L2.mono s1,hr',λr2 H2 s2 F2=>?_;!S2:=s1.trans s2;!f2:=S2 _ _ hf;?^,^,f,C_Field,dx,[],rfl,f2,Dl.cls,n_room,(by simp);!b3:cB f H2 (upd H2 f (.ins C_Field dx (dU "room" (.int room) []))):=cB.upd;!f3:(upd H2 f (.ins C_Field dx (dU "room" (.int room) []))) f=some (.ins C_Field dx [("room",.int room)]):=upd_same;!A3:=fM (F1.mono s2) b3 f2;!B3:=fM F2 b3 f2;!Q3:Sq (upd H2 f (.ins C_Field dx (dU "room" (.int room) []))) sp a b:=⟨gO (S2 _ _ sq.at_) b3 f2,sq.ba,sq.bb⟩;generalize upd H2 f (.ins C_Field dx (dU "room" (.int room) []))=H3 at b3 f3 A3 B3 Q3;¶^,r1,^,A3.lst,^,r2,^,B3.lst,sz (by simp),λlt H4 s4 f4 n4=>?_;!f4':=s4 _ _ f3;?^,f,C_Field,dx,^,f4',Dl.cls,n_last,(by simp);!b5:cB f H4 (upd H4 f (.ins C_Field dx (dU "last" (.ref lt) [("room",.int room)]))):=cB.upd;!f5:(upd H4 f (.ins C_Field dx (dU "last" (.ref lt) [("room",.int room)]))) f=some (.ins C_Field dx [("room",.int room),("last",.ref lt)]):=upd_same;!A5:=fM (A3.mono s4) b5 f4';!B5:=fM (B3.mono s4) b5 f4';!Q5:Sq (upd H4 f (.ins C_Field dx (dU "last" (.ref lt) [("room",.int room)]))) sp a b:=⟨gO (s4 _ _ Q3.at_) b5 f4',sq.ba,sq.bb⟩;!T5:=gO f4 b5 f4';generalize upd H4 f (.ins C_Field dx (dU "last" (.ref lt) [("room",.int room)]))=H5 at b5 f5 A5 B5 Q5 T5;¶^,^,^,^,r1,r2,sp,dbl qs,dbl rs,a,b,room,rfl,A5,B5,dq,dr,⟨Q5,hb⟩,hroom,λd H6 s6 nd D6=>?_;!f6:=s6 _ _ f5;?^,f,C_Field,dx,^,f6,Dl.cls,n_doors,(by simp);!b7:cB f H6 (upd H6 f (.ins C_Field dx (dU "doors" (.ref d) [("room",.int room),("last",.ref lt)]))):=cB.upd;!f7:(upd H6 f (.ins C_Field dx (dU "doors" (.ref d) [("room",.int room),("last",.ref lt)]))) f=some (.ins C_Field dx [("room",.int room),("last",.ref lt),("doors",.ref d)]):=upd_same;!A7:=fM (A5.mono s6) b7 f6;!B7:=fM (B5.mono s6) b7 f6;!Q7:Sq (upd H6 f (.ins C_Field dx (dU "doors" (.ref d) [("room",.int room),("last",.ref lt)]))) sp a b:=⟨gO (s6 _ _ Q5.at_) b7 f6,sq.ba,sq.bb⟩;!T7:=gO (s6 _ _ T5) b7 f6;!D7:=nj D6 b7 f6;generalize upd H6 f (.ins C_Field dx (dU "doors" (.ref d) [("room",.int room),("last",.ref lt)]))=H7 at b7 f7 A7 B7 Q7 T7 D7;¶^,^,^,^,r1,r2,sp,dbl qs,dbl rs,a,b,room,rfl,A7,B7,⟨~,~⟩,⟨~,~⟩,Q7,λfr H8 s8 D8=>?_;!f8:=s8 _ _ f7;?^,f,C_Field,dx,^,f8,Dl.cls,n_far,(by simp);!b9:cB f H8 (upd H8 f (.ins C_Field dx (dU "far" (.ref fr) [("room",.int room),("last",.ref lt),("doors",.ref d)]))):=cB.upd;!e1:(((dbl qs).length:Nat):Int) - 1=((cI qs:Nat):Int):=by unfold cI;~
  !e2:(((dbl rs).length:Nat):Int) - 1=((cI rs:Nat):Int):=by unfold cI;~
  refine k _ ((cB.of S2).trans (b3.trans ((cB.of s4).trans (b5.trans ((cB.of s6).trans (b7.trans ((cB.of s8).trans b9))))))) ⟨dx,lt,d,fr,upd_same,?_,?_,yt D8 b9 f8⟩
  ·!:=gO (s8 _ _ T7) b9 f8
   rw[h1,h2,e1,e2]at this;#this
  ·!:=nj (D7.mono s8) b9 f8
   rw[e1,e2]at this;#this
¤Nm.rt{K:W.Frag}{H:Hp}{p:Addr}{l:N4}(h:Nm K H p l):Rt K H p l.1 l.2.1 l.2.2.1 l.2.2.2:=⟨h.at_.sq,aq h.b0 &,aq h.b1 &,aq h.b2 &,aq h.b3 &⟩
inductive KA:N4->N4->Prop
 | flat:KA (0,0,0,1) (1,0,0,1)
 | gate {P U L:Int} (hL:0<L) (hU:0<=U) (h1:0<=ro 1 0 0 1 P (-1) U L) (h2:0<=ro P 1 U L 0 0 0 1):KA (fK P U L) (dP P U L)
¤wo{cx cy bx by_ ex ey x y room:Int}{l m:N4}(hr:room=0\/room=1)(hy:0<y)(h:dQ cx cy bx by_ ex ey x y room=some (l,m)):KA l m:=by
 unfold dQ at h
 by_cases hN:pwN cx cy bx by_ ex ey x y room=true
 ·rw[if_pos hN]at h
  cases h
 ·rw[if_neg hN]at h
  !hN:pwN cx cy bx by_ ex ey x y room=false:=by simpa using hN
  injection h with h;injection h with e1 e2
  by_cases hs:[bx,by_] = [ex,ey]
  ·rw[decide_eq_true hs,if_pos rfl]at e1 e2
   rw[<- e1,<- e2];#.flat
  ·rw[decide_eq_false hs,if_neg &]at e1 e2
   !gv:=wj (cx:=cx) (cy:=cy) (x:=x) hs hy;rw[<- e1,<- e2];unfold pwN at hN;rw[if_neg hs,Bool.or_eq_false_iff,decide_eq_false_iff_not,Bool.or_eq_false_iff,decide_eq_false_iff_not,decide_eq_false_iff_not]at hN;!:=mP (x:=rUn cx cy bx by_ ex ey x y);#.gate gv.lpos (by rcases hr with rfl|rfl <;> ~) (by rcases hr with rfl|rfl <;> ~) (by rcases hr with rfl|rfl <;> ~)
structure Iv(H:Hp)(q:Pr):Prop where
 p_:H q.p=some (.tup [.ref q.x,.ref q.y])
 x_:H q.x=some (.tup [.int q.a,.int q.b])
 y_:H q.y=some (.tup [.int q.c,.int q.d])
 lx:EG q.a q.b
 ly:EG q.c q.d
 nx:0<=q.a
 ny:0<=q.c
 ba:ar q.a<=5300
 bb:ar q.b<=5300
 bc:ar q.c<=5300
 bd:ar q.d<=5300
¤Iv.t{H H':Hp}{q:Pr}(h:Iv H q)(s:SameT H H'):Iv H' q:=⟨s _ _ h.p_,s _ _ h.x_,s _ _ h.y_,h.lx,h.ly,h.nx,h.ny,h.ba,h.bb,h.bc,h.bd⟩
¤_root_.Wk.PrAt.two{H:Hp}{q:Pr}(h:PrAt H q):Iv H q:=⟨h.p_,h.x_,h.y_,h.lx,h.ly,h.nx,h.ny,aq h.ba &,aq h.bb &,aq h.bc &,aq h.bd &⟩
structure Iw(H:Hp)(l:Addr)(ps:List Pr):Prop where
 lst:H l=some (.lst (prs ps))
 pr:∀q∈ps,Iv H q
¤Iw.mono{H H':Hp}{l:Addr}{ps:List Pr}(h:Iw H l ps)(s:Same H H'):Iw H' l ps:=⟨s _ _ h.lst,λq hq=>(h.pr q hq).t s.t⟩
¦wO(k i j t u:Int)(q:Pr):Prop:=(k=0/\q.a=i/\q.b=1/\q.c=j*u+t/\q.d=u)\/(k=1/\q.a=i*u+t/\q.b=u/\q.c=j/\q.d=1)
inductive IV (vs:List V) (H:Hp) (Q:VK) (x_3:XK):Prop
 | mk:∀(t p:Addr) (k i j a b:Int),(vs = [.ref t,.ref p])->(H t=some (.tup ((dk k i j).map kV)))->((k=0\/k=1))->((0<=i/\i<=1000))->((0<=j/\j<=1000))->((Jh H p a b 2600/\0<=a/\a<=b))->(∀(q:Pr) H',Same H H'->Iv H' q->wO k i j a b q->Q (.ref q.p) H')->IV vs H Q x_3
¤lj{a b n:Int}(h:EG a b):EG (n*b+a) b:=by
 ?h.pos;!:=h.one;rw[Int.add_comm,Int.mul_comm];rw[Int.gcd_add_mul_left_left];#this
¤Gs:Dj ["door","part"] ["door","part"] (ao (top 44)):=smk
¤jW(GG:Df K mg "pair_in_door" (top 44))(V_UPRIGHT:∃tk,mg "UPRIGHT" = some (.int 0 tk))(Hq:Fn P w K mg base "plus" ["a","b"] 3 (JF (λa b c d=>a*d+c*b) (λa b c d=>b*d))):Fn P w K mg base "pair_in_door" ["door","part"] 4 IV:=by
 refine GG.fn Gs (λ_ _ _ _ _ _ us hl=>by @_,_,rfl:=dJ hl;rfl) (λvs H Q E h=>?_) (λf cdv A outer s H vs Q E hr h=>?_)
 ·@t,p,k,i,j,a,b,rfl,_:=h
  rfl
 ·@t,p,k,i,j,a,b,rfl,ht,hk,bi,bj,⟨fr,a0,ab⟩,kq:=h
  @tU,Dq:=V_UPRIGHT;?_,(ag (aM (aE bP ®0 (bC (v:=.int 0) (by rfl) Dq ⟨_,rfl⟩) (aG _)) (am (aB (@aJ _ _ _ _ _ (@ad _ _ _ _ _ (@aJ _ _ _ _ _ (@ad _ _ _ _ _ ®0 (@ad _ _ _ _ _ af ak (by rfl)) (by rfl))) (@ad _ _ _ _ _ (¢Hq (ad (aJ (ad ®0 (ad af ak))) (ad ©1 ak))) ak (by rfl)) (by rfl))))) aI) (am (aB (@aJ _ _ _ _ _ (@ad _ _ _ _ _ (¢Hq (ad (aJ (ad ®0 (ad af ak))) (ad ©1 ak))) (@ad _ _ _ _ _ (@aJ _ _ _ _ _ (@ad _ _ _ _ _ ®0 (@ad _ _ _ _ _ af ak (by rfl)) (by rfl))) ak (by rfl)) (by rfl))))));!ht:H t=some (.tup [.int k,.int i,.int j]):=ht;!hb:=fr.low.pos;!T:=λ{H':Hp} (s:Same H H')=>SqT.of (K:=K) (s _ _ ht);!one:ar (1:Int)<=2600:= &
  !sm:∀{x:Int},0<=x/\x<=1000->ar x<=2600:=λh=>aq (cF ~ h.2) &;!lw:∀x:Int,EG x 1:=λx=>⟨Int.le_refl 1,by simp⟩;!sum:∀{x y z:Int},E2 (x*b+a*1) (1*b) y z->y=x*b+a/\z=b:=λ{x y z} f=>by
   !e:=f.eq;rw[Int.mul_one,Int.one_mul]at e;#lg f.low (lj fr.low) (by rw[<- e])
  ?^,t,_,%,T (Same.refl _),rfl,rfl,^;rw[di];refine aY (λc=>?_) (λc=>?_)
  ·!c:k=0:=bZ c
   subst c;¶^,t,_,%,T (Same.refl _),rfl,sz (by simp),λx H1 s1 f1 _=>?_;¶^,t,_,%,T s1,rfl,sz (by simp),λy H2 s2 f2 _=>?_;!S2:=s1.trans s2;¶^,y,p,j,1,a,b,2600,rfl,⟨f2,lw j,sm bj,one⟩,fr.mono S2,&,~,λr s' w' H3 ff f3 s3=>?_;@rfl,rfl:=sum ff;¶sz (by simp),λo H4 s4 f4 _=>kq ⟨o,x,r,i,1,j*w'+a,w'⟩ H4 ((S2.trans s3).trans s4) ⟨f4,s4 _ _ (s3 _ _ (s2 _ _ f1)),s4 _ _ f3.at_,lw i,lj fr.low,bi.1,Int.add_nonneg (Int.mul_nonneg bj.1 ~) a0,aq (sm bi) &,(show ar (1:Int)<=5300 by decide),aq f3.ba &,aq f3.bb &⟩ (.inl ⟨rfl,rfl,rfl,rfl,rfl⟩)
  ·!c:¬k=0:=cJ c
   !c:k=1:= ~
   subst c;¶^,t,_,%,T (Same.refl _),rfl,sz (by simp),λx H1 s1 f1 _=>?_;¶^,x,p,i,1,a,b,2600,rfl,⟨f1,lw i,sm bi,one⟩,fr.mono s1,&,~,λr s' w' H2 ff f2 s2=>?_;@rfl,rfl:=sum ff;!S2:=s1.trans s2;¶^,t,_,%,T S2,rfl,sz (by simp),λy H3 s3 f3 _=>?_;¶sz (by simp),λo H4 s4 f4 _=>kq ⟨o,r,y,i*w'+a,w',j,1⟩ H4 ((S2.trans s3).trans s4) ⟨f4,s4 _ _ (s3 _ _ f2.at_),s4 _ _ f3,lj fr.low,lw j,Int.add_nonneg (Int.mul_nonneg bi.1 ~) a0,bj.1,aq f2.ba &,aq f2.bb &,aq (sm bj) &,(show ar (1:Int)<=5300 by decide)⟩ (.inr ⟨rfl,rfl,rfl,rfl,rfl⟩)
¦wOn:Str:="on"
¦ce:Str:="part"
noncomputable abbrev Dor:=Int×Int×Int
¦dkD(x:Dor):aL:=dk x.1 x.2.1 x.2.2
¤kA{x y:Dor}(h:dkD x=dkD y):x=y:=by
 @e1,e2,e3:=rF h;#Prod.ext e1 (Prod.ext e2 e3)
¦AhV(H:Hp)(v:V):Option Dor->Prop
 | none=>v = .non
 | some x=>∃t,v = .ref t/\H t=some (.tup ((dkD x).map kV))
¤AhV.t{H H':Hp}{v:V}{o:Option Dor}(h:AhV H v o)(s:SameT H H'):AhV H' v o:=by
 cases o with
 | none=>#h
 | some x =>
  @t,e,f:=h;§t,e,s _ _ f
¦RvV(K:W.Frag)(H:Hp)(v:V)(r:Rv):Prop:=∃(t p q:Addr) (w:V),v = .ref t/\H t=some (.tup [.ref p,.ref q,w])/\Nm K H p r.lo/\Nm K H q r.hi/\AhV H w r.ah
¤RvV.mono{K:W.Frag}{H H':Hp}{v:V}{r:Rv}(h:RvV K H v r)(s:Same H H'):RvV K H' v r:=by
 @t,p,q,w,e,f,n1,n2,a:=h;§t,p,q,w,e,s _ _ f,n1.mono s,n2.mono s,a.t s.t
¤Nm.but{K:W.Frag}{H H':Hp}{p d:Addr}{l:N4}{od:HO}(h:Nm K H p l)(b:cB d H H')(hd:H d=some od)(n:NoT od):Nm K H' p l:=⟨nK h.at_ b hd n,h.b0,h.b1,h.b2,h.b3,h.p2,h.p3⟩
¤RvV.but{K:W.Frag}{H H':Hp}{v:V}{r:Rv}{d:Addr}{kvs:List (List Key×V)}(h:RvV K H v r)(b:cB d H H')(hd:H d=some (.dT kvs)):RvV K H' v r:=by
 @t,p,q,w,e,f,n1,n2,a:=h;!T:SameT H H':=b.t λxs z=>by rw[hd]at z;cases z
 §t,p,q,w,e,T _ _ f,n1.but b hd oe,n2.but b hd oe,a.t T
noncomputable abbrev RF:=Dor->Option Rv
structure Ey(K:W.Frag)(H:Hp)(d:Addr)(R:RF)(c:Nat):Prop where
 ex:∃kvs:List (List Key×V),H d=some (.dT kvs)/\kvs.length<=c/\(∀x r,R x=some r->∃v,dR kvs (dkD x)=some v/\RvV K H v r)/\∀x,R x=none->dR kvs (dkD x)=none
¤Ey.mono{K:W.Frag}{H H':Hp}{d:Addr}{R:RF}{c:Nat}(h:Ey K H d R c)(s:Same H H'):Ey K H' d R c:=by
 @kvs,e,l,a,b:=h.ex;§kvs,s _ _ e,l,λx r h=>let ⟨v,e,g⟩:=a x r h;⟨v,e,g.mono s⟩,b
¤Ey.congr{K:W.Frag}{H:Hp}{d:Addr}{R R':RF}{c c':Nat}(h:Ey K H d R c)(e:∀x,R x=R' x)(hc:c<=c'):Ey K H d R' c':=by
 @kvs,e',l,a,b:=h.ex;§kvs,e',~,λx r h=>a x r ((e x).trans h),λx h=>b x ((e x).trans h)
¦gY(R:RF)(x:Dor)(o:Option Rv):RF:=λy=>@ite _ (y=x) (Classical.propDecidable _) o (R y)
¤eY{R:RF}{x:Dor}{o:Option Rv}(h:R x=o):∀y,R y=gY R x o y:=λy=>by
 unfold gY
 split
 ·rename_i e;rw[e];#h
 ·rfl
¤Ey.put{K:W.Frag}{H:Hp}{d t:Addr}{R:RF}{c:Nat}{x:Dor}{v:V}{r:Rv}(h:Ey K H d R c)(ht:H t=some (.tup ((dkD x).map kV)))(g:RvV K H v r)(new:R x=none)(hc:c<1000) :
  ∃H',lY H d (.ref t) v H'/\Ey K H' d (gY R x (some r)) (c+1)/\cB d H H':=by
 @kvs,e,l,a,b:=h.ex;!hn:=b x new;¶_,lY.t (k:=dkD x) (v:=v) e ht (by !:=bJ (n:=kvs.length) ~;#this),⟨_,upd_same,?_,λy r' hy=>?_,λy hy=>?_⟩,cB.upd
 ·rw[iE _ hn,List.length_append]
  #Nat.add_le_add_right l 1
 ·rw[ix]
  unfold gY at hy
  by_cases z:y=x
  ·rw[if_pos z]at hy
   cases hy;rw[if_pos (by rw[z])];§v,rfl,g.but cB.upd e
  ·rw[if_neg z]at hy
   rw[if_neg (λw=>z (kA w))];@v',e',g':=a y r' hy;§v',e',g'.but cB.upd e
 ·unfold gY at hy
  by_cases z:y=x
  ·rw[if_pos z]at hy
   cases hy
  ·rw[if_neg z]at hy
   rw[ix,if_neg (λw=>z (kA w))];#b y hy
¤Ey.get{K:W.Frag}{H:Hp}{d t:Addr}{R:RF}{c:Nat}{x:Dor}(h:Ey K H d R c)(ht:H t=some (.tup ((dkD x).map kV))):∃o,gN H d (.ref t) o/\((∃r v,R x=some r/\o=some v/\RvV K H v r)\/(R x=none/\o=none)):=by
 @kvs,e,l,a,b:=h.ex;?_,gN.t e ht;cases hr:R x with
 | none=>#.inr ⟨rfl,b x hr⟩
 | some r =>
  @v,e',g:=a x r hr;#.inl ⟨r,v,rfl,e',g⟩
¦bgR(wy:Str)(G:GF)(F:Int->Int->Bool)(m:Nat)(j:Nat):Option Rv :=
 if wy=wOn then (if j=0/\F 0 0=false then some ⟨(0,0,0,1),(0,0,0,1),none⟩ else none)
 else if j<m then (G 0 0 (j:Int)).map λp=>⟨p.1,p.2,none⟩ else none
¦bgD(wy:Str)(G:GF)(F:Int->Int->Bool)(m:Nat)(x:Dor):Option Rv:=if x.1=0/\x.2.1=0/\0<=x.2.2 then bgR wy G F m x.2.2.toNat else none
inductive Ks (K:W.Frag) (C:Addr) (vs:List V) (H:Hp) (Q:VK) (x_3:XK):Prop
 | mk:∀(fo:Addr) (n m:Nat) (room:Int) (G:GF) (F:Int->Int->Bool) (wy:Str),(vs = [.ref fo,.str wy])->(Dx K C H fo n m room G F)->((1<=n/\n<=20))->((1<=m/\m<=20))->((wy=wOn\/wy=ce))->(∀d H',Same H H'->H d=none->Ey K H' d (bgD wy G F m) 30->Q (.ref d) H')->Ks K C vs H Q x_3
inductive Kq (vs:List V) (H:Hp) (Q:VK) (x_3:XK):Prop
 | mk:∀(sd i j:Int),(vs = [.int sd,.int i,.int j])->((sd=0\/sd=1))->(∀t H',Same H H'->H' t=some (.tup ((dkD (if sd=0 then (0,i+1,j) else (1,i,j+1))).map kV))->Q (.ref t) H')->Kq vs H Q x_3
inductive Kf (K:W.Frag) (C:Addr) (vs:List V) (H:Hp) (Q:VK) (x_3:XK):Prop
 | mk:∀(fo d t ts tt:Addr) (n m:Nat) (room:Int) (G:GF) (F:Int->Int->Bool) (R:RF) (c:Nat) (x xs xt:Dor),(vs = [.ref fo,.ref d,.ref t,.ref ts,.ref tt])->(Dx K C H fo n m room G F)->(Ey K H d R c)->((H t=some (.tup ((dkD x).map kV))/\H ts=some (.tup ((dkD xs).map kV))/\H tt=some (.tup ((dkD xt).map kV))))->(DIn n m x.1 x.2.1 x.2.2)->(R x=none)->(c<900)->(∀H',cB d H H'->Ey K H' d (gY R x (pas (G x.1 x.2.1 x.2.2) (R xs) (R xt) xs xt)) (c+1)->Q .non H')->Kf K C vs H Q x_3
¤Nm.rt'{K:W.Frag}{H:Hp}{p:Addr}{l:N4}(h:Nm K H p l):Rt K H p l.1 l.2.1 l.2.2.1 l.2.2.2:=⟨h.at_.sq,aq h.b0 &,aq h.b1 &,aq h.b2 &,aq h.b3 &⟩
¤Iu:Dj ["side","i","j"] ["side","i","j"] (ao (top 60)):=smk
¤qo(IN:Df K mg "door_out" (top 60))(V_UPRIGHT:∃tk,mg "UPRIGHT" = some (.int 0 tk))(V_LEVEL:∃tk,mg "LEVEL" = some (.int 1 tk)):Fn P w K mg base "door_out" ["side","i","j"] 1 Kq:=by
 refine IN.fn Iu (λ_ _ _ _ _ _ us hl=>by @_,_,_,rfl:=g7 hl;rfl) (λvs H Q E h=>?_) (λf cdv A outer s H vs Q E hr h=>?_)
 ·@sd,i,j,rfl,_:=h
  rfl
 ·@sd,i,j,rfl,hs,k:=h
  @tU,Dq:=V_UPRIGHT;@tL,Ef:=V_LEVEL;?_,(am (aB (gD (aE bP ©0 (bC (v:=.int 0) (by rfl) Dq ⟨_,rfl⟩) (aG _)) (aJ (ad (bC (v:=.int 0) (by rfl) Dq ⟨_,rfl⟩) (ad (ay aS ©1 af) (ad ©2 ak)))) (aJ (ad (bC (v:=.int 1) (by rfl) Ef ⟨_,rfl⟩) (ad ©1 (ad (ay aS ©2 af) ak)))))));?^,rfl,^;rw[di];refine aY (λc=>?_) (λc=>?_)
  ·!c:=bZ c
   rw[if_pos c]at k;§^,%,^,sz (by simp),λt H1 s1 f1 _=>k t H1 s1 f1
  ·!c:=cJ c
   rw[if_neg c]at k;§^,^,%,sz (by simp),λt H1 s1 f1 _=>k t H1 s1 f1
¤Em:Dj ["field","reached","door","straight","turned","part","low"] ["field","reached","door","straight","turned"] (ao (top 61)):=smk
¤jV(GE:Df K mg "pass_through" (top 61))(Dl:FQ K mg "Field" C_Field)(n_room:aX K C_Field "room")(n_last:aX K C_Field "last")(n_doors:aX K C_Field "doors")(n_far:aX K C_Field "far")(Dm:Fn P w K mg base "root_order" ["one","other"] 4 (Ih K))(T:Txt mg):Fn P w K mg base "pass_through" ["field","reached","door","straight","turned"] 5 (Kf K C_Field):=by
 refine GE.fn Em (λ_ _ _ _ _ _ us hl=>by @_,_,_,_,_,rfl:=v7 hl;rfl) (λvs H Q E h=>?_) (λf cdv A outer s H vs Q E hr h=>?_)
 ·@fo,d,t,ts,tt,n,m,room,G,F,R,c,x,xs,xt,rfl,_:=h
  rfl
 ·@fo,d,t,ts,tt,n,m,room,G,F,R,c,x,xs,xt,rfl,fa,rp,⟨ht,hts,htt⟩,hd,new,hc,k:=h
  ?_,(ag (£5 Em (dL (cT hr) (cS ©0 rfl) ©2 (λ_ _=>rfl))) (ag (aM (aE fW ©5 bI (aG _)) (am si) aI) (ag (aM (jf (nX (cT hr) ©4 ©1) (by rfl)) (ag (eV (cT hr) ©1 ©2 (aJ (ad ®5 (ad ®5 (ad ©4 ak)))) rfl) (am si)) aI) (am (aM (jf (nX (cT hr) ©3 ©1) (by rfl)) (ag (£6 Em ®5) (ag (aM (aE dH (¢Dm (ad ©6 (ad (ax ap (dL (cT hr) ©1 ©3 (λ_ _=>rfl)) af (λ_ _=>rfl)) ak))) af (aG _)) (am (£6 Em (ax ap (dL (cT hr) ©1 ©3 (λ_ _=>rfl)) af (λ_ _=>rfl)))) aI) (am (aM (aE k6 (¢Dm (ad ©6 (ad ®5 ak))) af (aG _)) (am (eV (cT hr) ©1 ©2 (aJ (ad ©6 (ad ®5 (ad ©3 ak)))) rfl)) aI)))) aI)))));@dx,lt,d0,fr,hf,hl,⟨cc,dd⟩,_:=fa.ex;@o,dg,hv,_:=dd.get (k:=x.1) (i:=x.2.1) (j:=x.2.2) ht;@v,rfl,gv:=hv hd;?^,fo,C_Field,dx,_,^,hf,Dl.cls,n_doors,rfl,^,d0,^,dg;cases hg:G x.1 x.2.1 x.2.2 with
  | none =>
   rw[hg]at gv k;!gv:v = .non:=gv;rw[gv];¶^,rfl,^,bM rfl ?_;#k H (λ_ _ _ e=>e) (rp.congr (eY new) ~)
  | some p =>
   rw[hg]at gv k;@tg,p1,p2,rfl,eg,g1,g2:=gv;!pk:pas (some p) (R xs) (R xt) xs xt=if (R xt).isSome=true then some ⟨p.1,p.2,some xt⟩ else match R xs with
    | none=>none
    | some r=>if ro4 (mxN p.1 r.lo) p.2<=0 then some ⟨mxN p.1 r.lo,p.2,some xs⟩ else none:=rfl
   rw[pk]at k;¶^,rfl,^,aK (by simp) ?_;@ot,dgt,hot:=rp.get htt;?^,^,d,ot,rfl,dgt,^;rcases hot with⟨rt,vt,hrt,rfl,_⟩|⟨hrt,rfl⟩
   ·refine bM rfl ?_
    rw[hrt,if_pos (show(some rt).isSome=true from rfl)]at k;¶^,tg,_,%,SqT.of eg,rfl,^,tg,_,%,SqT.of eg,rfl,^,sz (by simp),λtv H1 s1 f1 n1=>?_;@H2,dp,rp2,b2:=(rp.mono s1).put (r:=⟨p.1,p.2,some xt⟩) (s1 _ _ ht) ⟨tv,p1,p2,.ref tt,rfl,f1,g1.mono s1,g2.mono s1,tt,rfl,s1 _ _ htt⟩ new ~;?^,^,d,H2,rfl,dp;#k H2 ((cB.of s1).trans b2) rp2
   ·refine aK rfl ?_
    rw[hrt,if_neg &]at k;@os,dgs,hos:=rp.get hts;?^,^,d,os,rfl,dgs,^;rcases hos with⟨rs,vs,hrs,rfl,tvs,q1,q2,qw,rfl,evs,m1,m2,_⟩|⟨hrs,rfl⟩
    ·refine bM rfl ?_
     rw[hrs]at k;!k:∀(H':Hp),cB d H H'->Ey K H' d (gY R x (if ro4 (mxN p.1 rs.lo) p.2<=0 then some ⟨mxN p.1 rs.lo,p.2,some xs⟩ else none)) (c+1)->Q .non H':=k
     ?^,tg,_,%,SqT.of eg,rfl;¶^,^,^,d,^,dgs,tvs,_,%,SqT.of evs,rfl,_,_,_,_,_,_,_,_,_,^,g1.rt',m1.rt',%,^,aY (λc1=>?_) (λc1=>?_)
     ·!em:mxN p.1 rs.lo=rs.lo:=if_pos (bZ c1)
      ?^,^,d,^,dgs,tvs,_,%,SqT.of evs,rfl;¶^,^,tg,_,%,SqT.of eg,rfl,_,_,_,_,_,_,_,_,_,^,m1.rt',g2.rt',%,^,aY (λc2=>?_) (λc2=>?_)
      ·!c2:ro4 (mxN p.1 rs.lo) p.2<=0:=by rw[em];#bZ c2
       rw[if_pos c2]at k;¶^,^,tg,_,%,SqT.of eg,rfl,^,sz (by simp),λtv H1 s1 f1 n1=>?_;@H2,dp,rp2,b2:=(rp.mono s1).put (r:=⟨mxN p.1 rs.lo,p.2,some xs⟩) (s1 _ _ ht) ⟨tv,q1,p2,.ref ts,rfl,f1,by show Nm K H1 _ (mxN p.1 rs.lo);rw[em];#m1.mono s1,g2.mono s1,ts,rfl,s1 _ _ hts⟩ new ~;?^,^,d,H2,rfl,dp;#k H2 ((cB.of s1).trans b2) rp2
      ·!c2:¬ro4 (mxN p.1 rs.lo) p.2<=0:=by rw[em];#cJ c2
       rw[if_neg c2]at k;#k H (λ_ _ _ e=>e) (rp.congr (eY new) ~)
     ·!em:mxN p.1 rs.lo=p.1:=if_neg (cJ c1)
      ¶^,^,tg,_,%,SqT.of eg,rfl,_,_,_,_,_,_,_,_,_,^,g1.rt',g2.rt',%,^,aY (λc2=>?_) (λc2=>?_)
      ·!c2:ro4 (mxN p.1 rs.lo) p.2<=0:=by rw[em];#bZ c2
       rw[if_pos c2]at k;¶^,^,tg,_,%,SqT.of eg,rfl,^,sz (by simp),λtv H1 s1 f1 n1=>?_;@H2,dp,rp2,b2:=(rp.mono s1).put (r:=⟨mxN p.1 rs.lo,p.2,some xs⟩) (s1 _ _ ht) ⟨tv,p1,p2,.ref ts,rfl,f1,by show Nm K H1 _ (mxN p.1 rs.lo);rw[em];#g1.mono s1,g2.mono s1,ts,rfl,s1 _ _ hts⟩ new ~;?^,^,d,H2,rfl,dp;#k H2 ((cB.of s1).trans b2) rp2
      ·!c2:¬ro4 (mxN p.1 rs.lo) p.2<=0:=by rw[em];#cJ c2
       rw[if_neg c2]at k;#k H (λ_ _ _ e=>e) (rp.congr (eY new) ~)
    ·refine aK rfl ?_
     rw[hrs]at k;#k H (λ_ _ _ e=>e) (rp.congr (eY new) ~)
¤ds{a b:Str}{c:Bool}(h:decide (V.str a=V.str b)=c):decide (a=b)=c:=by
 rw[<- h]
 by_cases z:a=b
 ·rw[decide_eq_true z,decide_eq_true (by rw[z])]
 ·rw[decide_eq_false z,decide_eq_false (λw=>z (V.str.inj w))]
¤zE{G:GF}{F:Int->Int->Bool}{m:Nat}:∀x:Dor,gY (λ_=>none) (0,0,0) (if F 0 0=false then some ⟨(0,0,0,1),(0,0,0,1),none⟩ else none) x=bgD wOn G F m x:=λx=>by
 !e2:∀j,bgR wOn G F m j=if j=0/\F 0 0=false then some ⟨(0,0,0,1),(0,0,0,1),none⟩ else none:=λj=>if_pos rfl
 by_cases h:x=(0,0,0)
 ·subst h
  !e:bgD wOn G F m (0,0,0)=bgR wOn G F m 0:=if_pos ⟨rfl,rfl,Int.le_refl 0⟩;rw[e,e2];unfold gY;rw[if_pos rfl]
  by_cases f:F 0 0=false
  ·rw[if_pos f,if_pos ⟨rfl,f⟩]
  ·rw[if_neg f,if_neg (λz=>f z.2)]
 ·unfold gY
  rw[if_neg h];unfold bgD
  by_cases z:x.1=0/\x.2.1=0/\0<=x.2.2
  ·rw[if_pos z,e2,if_neg (λy=>h (Prod.ext z.1 (Prod.ext z.2.1 (by !:=y.1;!:=z.2.2;show x.2.2=0;~))))]
  ·rw[if_neg z]
¦bgP(G:GF)(j0:Nat)(x:Dor):Option Rv:=if (x.1=0/\x.2.1=0)/\0<=x.2.2/\x.2.2<(j0:Int) then (G 0 0 x.2.2).map λp=>⟨p.1,p.2,none⟩ else none
¤qE{G:GF}{j:Nat}:∀x:Dor,gY (bgP G j) (0,0,(j:Int)) ((G 0 0 (j:Int)).map λp=>⟨p.1,p.2,none⟩) x=bgP G (j+1) x:=λx=>by
 unfold gY
 by_cases h:x=(0,0,(j:Int))
 ·rw[if_pos h,h]
  unfold bgP;rw[if_pos ⟨⟨rfl,rfl⟩,by show(0:Int)<=j;~,by show(j:Int)<((j+1:Nat):Int);~⟩]
 ·rw[if_neg h]
  unfold bgP
  by_cases z:(x.1=0/\x.2.1=0)/\0<=x.2.2/\x.2.2<(j:Int)
  ·rw[if_pos z,if_pos ⟨z.1,z.2.1,~⟩]
  ·rw[if_neg z,if_neg (λy=>z ⟨y.1,y.2.1,?_⟩)]
   !:x.2.2≠(j:Int):=λw=>h (Prod.ext y.1.1 (Prod.ext y.1.2 w));~
¤yF{G:GF}{F:Int->Int->Bool}{m:Nat}:∀x:Dor,bgP G m x=bgD ce G F m x:=λx=>by
 unfold bgP bgD bgR;rw[if_neg (show ¬ce=wOn by decide +kernel)]
 by_cases z:x.1=0/\x.2.1=0/\0<=x.2.2
 ·rw[if_pos z,show((x.2.2.toNat:Nat):Int)=x.2.2 by omega]
  by_cases y:x.2.2<(m:Int)
  ·rw[if_pos ⟨⟨z.1,z.2.1⟩,z.2.2,y⟩,if_pos ~]
  ·rw[if_neg (λw=>y w.2.2),if_neg ~]
 ·rw[if_neg z,if_neg (λw=>z ⟨w.1.1,w.1.2,w.2.1⟩)]
¤vN{K:W.Frag}{p:Addr}(h:∀H,TpK K H p [.int 0,.int 0,.int 0,.int 1])(H:Hp):Nm K H p (0,0,0,1):=⟨h H,&,&,&,&,&,&⟩
¤xO{K:W.Frag}{H:Hp}{d:Addr}:Ey K (upd H d (.dT [])) d (λ_=>none) 0:=⟨[],upd_same,Nat.le_refl _,(λ_ _ z=>by cases z),λ_ _=>rfl⟩
¤D2:Dj ["field","way","reached","j","part"] ["field","way"] (ao (top 59)):=smk
¤iW{pB:Addr}(F9:Df K mg "doors_at_begin" (top 59))(Dl:FQ K mg "Field" C_Field)(n_room:aX K C_Field "room")(n_last:aX K C_Field "last")(n_doors:aX K C_Field "doors")(n_far:aX K C_Field "far")(V_UPRIGHT:∃tk,mg "UPRIGHT" = some (.int 0 tk))(V_LEVEL:∃tk,mg "LEVEL" = some (.int 1 tk))(EB:mg "BEGIN" = some (.ref pB))(hB:∀H,TpK K H pB [.int 0,.int 0,.int 0,.int 1])(T:Txt mg):Fn P w K mg base "doors_at_begin" ["field","way"] 2 (Ks K C_Field):=by
 refine F9.fn D2 (λ_ _ _ _ _ _ us hl=>by @_,_,rfl:=dJ hl;rfl) (λvs H Q E h=>?_) (λf cdv A outer s H vs Q E hr h=>?_)
 ·@fo,n,m,room,G,F,wy,rfl,_:=h
  rfl
 ·@fo,n,m,room,G,F,wy,rfl,fa,⟨hn,hn20⟩,⟨hm,hm20⟩,hw,k:=h
  @tU,Dq:=V_UPRIGHT;@tL,Ef:=V_LEVEL;?_,(ag (£2 D2 iH) (ag (aM (aE bP ©1 fg (aG _)) (ag (aM (jf (mT (cT hr) (aJ (ad af (ad af ak))) (cS ©0 rfl)) (by rfl)) (am (eV (cT hr) ©2 (aJ (ad (bC (v:=.int 0) (by rfl) Dq ⟨_,rfl⟩) (ad af (ad af ak)))) (aJ (ad (bC (v:=.ref _) (by rfl) EB rfl) (ad (bC (v:=.ref _) (by rfl) EB rfl) (ad bI ak)))) rfl)) aI) (am (aB ©2))) aI) (ag (cj PassesOwn.never rfl (dh rfl T.z_range (ad (ax ap (cS ©0 rfl) af (λ_ _=>rfl)) ak)) (aQ (i:=3) D2.nd rfl (Or.inl rfl)) (ag (£4 D2 (dL (cT hr) (cS ©0 rfl) (aJ (ad (bC (v:=.int 0) (by rfl) Dq ⟨_,rfl⟩) (ad af (ad ©3 ak)))) (λ_ _=>rfl))) (am (aM (aE gQ ©4 bI (aG _)) (am (eV (cT hr) ©2 (aJ (ad (bC (v:=.int 0) (by rfl) Dq ⟨_,rfl⟩) (ad af (ad ©3 ak)))) (aJ (ad ®4 (ad ®4 (ad bI ak)))) rfl)) aI)))) (am (aB ©2)))));refine λd hd=>?_;!s0:Same H (upd H d (.dT [])):=Same.new hd;!r0:Ey K (upd H d (.dT [])) d (λ_=>none) 0:=xO;generalize upd H d (.dT [])=H0 at s0 r0;!fa0:=fa.mono s0;@dx,lt,d0,fr,hf,hl,⟨cc,dd⟩,fd:=fa0.ex;¶^,rfl,^,aY (λc=>?_) (λc=>?_)
  ·!c:wy=wOn:=bZ (ds c)
   subst c;¶sz (by simp),λp0 H2 s2 f2 n2=>⟨_,rfl,fo,C_Field,dx,_,_,rfl,s2 _ _ hf,Dl.cls,n_far,rfl,?_⟩;@o,dg,ho:=(fd.mono s2).get (x:=0) (y:=0) f2;?fr,o,rfl,dg,^;!S2:=s0.trans s2;!r2:=r0.mono s2;!nB:=vN (K:=K) hB;cases f0:F 0 0 with
   | true =>
    !e:o.isSome=true:=by rw[ho];#decide_eq_true (dI.mpr ⟨&,~,&,~,f0⟩)
    rw[e];refine aK rfl ?_;§^,k d H2 S2 hd (r2.congr (λx=>(eY (R:=λ_=>none) (x:=(0,0,0)) (o:=none) rfl x).trans (by rw[<- zE,if_neg (by rw[f0];decide)])) ~)
   | false =>
    !e:o.isSome=false:=by rw[ho];#decide_eq_false λz=>by !:=(dI.mp z).2.2.2.2;rw[f0]at this;cases this
    rw[e];refine bM rfl ?_;¶sz (by simp),λtv H3 s3 f3 n3=>⟨_,rfl,sz (by simp),λtk H4 s4 f4 n4=>?_⟩;@H5,dp,rp5,b5:=((r2.mono s3).mono s4).put (x:=(0,0,0)) (r:=⟨(0,0,0,1),(0,0,0,1),none⟩) f4 ⟨tv,pB,pB,.non,rfl,s4 _ _ f3,nB _,nB _,rfl⟩ rfl &;?d,H5,rfl,dp;§^,k d H5 (b5.same (S2.trans (s3.trans s4)) hd) hd (rp5.congr (λx=>by rw[<- zE,if_pos f0]) ~)
  ·!c:¬wy=wOn:=cJ (ds c)
   !c:wy=ce:=hw.resolve_left c;subst c;!L:=SqT.of (K:=K) hl;!e62:(2:Int)^62=4611686018427387904:= &
   ?^,fo,C_Field,dx,_,^,hf,Dl.cls,n_last,rfl,lt,_,%,L,rfl,^,~,(~);rw[Int.toNat_natCast];refine cU (n:=m) (lo:=0) (λj σ H'=>∃(z3 z4:Option V),σ = [some (.ref fo),some (.str ce),some (.ref d),z3,z4]/\Same H H'/\Ey K H' d (bgP G j) j)
    ⟨_,_,rfl,s0,r0.congr (λx=>by unfold bgP;rw[if_neg ~]) (Nat.le_refl _)⟩ ?_ ?_
   ·rintro j σ H1 hj ⟨z3,z4,rfl,s1,r1⟩
    rw[Int.zero_add];@dx,lt,d0,fr,hf,hl,⟨cc,dd⟩,fd:=(fa.mono s1).ex;¶^,fo,C_Field,dx,_,^,hf,Dl.cls,n_doors,rfl,^,sz (by simp),λtk H2 s2 f2 n2=>?_;!S2:=s1.trans s2;@o,dg,hv,_:=(dd.mono s2).get (k:=0) (i:=0) (j:=(j:Int)) f2;@v,rfl,gv:=hv (.inl ⟨rfl,⟨&,~⟩,~,~⟩);!new:bgP G j (0,0,(j:Int))=none:=if_neg λz=>by !:=z.2.2;~
    ?d0,^,dg;cases hg:G 0 0 (j:Int) with
    | none =>
     rw[hg]at gv;!gv:v = .non:=gv;rw[gv];¶^,rfl,^,aK (by simp) ⟨_,_,rfl,S2,(r1.mono s2).congr (λx=>?_) ~⟩;rw[<- qE,hg];#eY new x
    | some p =>
     rw[hg]at gv;@tg,p1,p2,rfl,eg,g1,g2:=gv;¶^,rfl,^,bM (by simp) ?_;¶^,tg,_,%,SqT.of eg,rfl,^,tg,_,%,SqT.of eg,rfl,sz (by simp),λtv H3 s3 f3 n3=>⟨_,rfl,_,rfl,sz (by simp),λtk' H4 s4 f4 n4=>?_⟩;@H5,dp,rp5,b5:=(((r1.mono s2).mono s3).mono s4).put (x:=(0,0,(j:Int))) (r:=⟨p.1,p.2,none⟩) f4 ⟨tv,p1,p2,.non,rfl,s4 _ _ f3,(g1.mono s3).mono s4,(g2.mono s3).mono s4,rfl⟩ new ~;¶d,H5,rfl,dp,_,^,b5.same (S2.trans (s3.trans s4)) hd,rp5.congr (λx=>?_) ~;rw[<- qE,hg];rfl
   ·rintro σ H1 ⟨z3,z4,rfl,s1,r1⟩
    §^,k d H1 s1 hd (r1.congr yF ~)
¦RR(wy:Str)(G:GF)(F:Int->Int->Bool)(n m:Nat)(x:Dor):Option Rv :=
 if x.1=0/\(0<=x.2.1/\x.2.1<=(n:Int))/\0<=x.2.2/\x.2.2<(m:Int) then Uc G (bgR wy G F m) x.2.1.toNat x.2.2.toNat
 else if x.1=1/\(0<=x.2.1/\x.2.1<(n:Int))/\0<=x.2.2/\x.2.2<=(m:Int) then Lc G (Uc G (bgR wy G F m) x.2.1.toNat) x.2.1.toNat x.2.2.toNat else none
¦dnP(i su sl:Int)(x:Dor):Prop:=(x.1=0/\(x.2.1<=i\/(x.2.1=i+1/\x.2.2<su)))\/(x.1=1/\(x.2.1<i\/(x.2.1=i/\x.2.2<=sl)))
¦RS(wy:Str)(G:GF)(F:Int->Int->Bool)(n m:Nat)(i su sl:Int)(x:Dor):Option Rv:=@ite _ (dnP i su sl x) (Classical.propDecidable _) (RR wy G F n m x) none
section
variable {wy:Str} {G:GF} {F:Int->Int->Bool} {n m:Nat}
¤oK{i j:Nat}(hi:i<=n)(hj:j<m):RR wy G F n m (0,(i:Int),(j:Int))=Uc G (bgR wy G F m) i j:=by
 unfold RR;rw[if_pos ⟨rfl,⟨by show(0:Int)<=i;~,by show(i:Int)<=n;~⟩,by show(0:Int)<=j;~,by show(j:Int)<m;~⟩];rfl
¤qF{i j:Nat}(hi:i<n)(hj:j<=m):RR wy G F n m (1,(i:Int),(j:Int))=Lc G (Uc G (bgR wy G F m) i) i j:=by
 unfold RR;rw[if_neg (λz=>absurd z.1 (show ¬(1:Int)=0 by decide)),if_pos ⟨rfl,⟨by show(0:Int)<=i;~,by show(i:Int)<n;~⟩,by show(0:Int)<=j;~,by show(j:Int)<=m;~⟩];rfl
¤ga{i su sl:Int}{x:Dor}(h:dnP i su sl x):RS wy G F n m i su sl x=RR wy G F n m x:=by unfold RS;rw[if_pos h]
¤jF{i su sl:Int}{x:Dor}(h:¬dnP i su sl x):RS wy G F n m i su sl x=none:=by unfold RS;rw[if_neg h]
¤rK{i su sl i' su' sl':Int}{x:Dor}(h:dnP i su sl x↔dnP i' su' sl' x):RS wy G F n m i su sl x=RS wy G F n m i' su' sl' x:=by
 by_cases z:dnP i su sl x
 ·rw[ga z,ga (h.mp z)]
 ·rw[jF z,jF (λw=>z (h.mpr w))]
¤gX{x:Dor}(h:¬DIn n m x.1 x.2.1 x.2.2):RR wy G F n m x=none:=by
 unfold RR;rw[if_neg (λz=>h (.inl ⟨z.1,z.2⟩)),if_neg (λz=>h (.inr ⟨z.1,z.2⟩))]
¤i9{i su sl:Int}{x:Dor}(h:RR wy G F n m x=none):RS wy G F n m i su sl x=none:=by
 by_cases z:dnP i su sl x
 ·rw[ga z,h]
 ·#jF z
¤xk{x:Dor}(h1:x.1=1)(h2:x.2.2=0):RR wy G F n m x=none:=by
 unfold RR;rw[if_neg (λz=>by !:=z.1;~)]
 split
 ·rw[h2];rfl
 ·rfl
¤xj(h1:1<=m):∀x:Dor,bgD wy G F m x=RS wy G F n m 0 0 0 x:=λx=>by
 !hm:∀j,¬j<m->bgR wy G F m j=none:=λj hj=>by
  unfold bgR
  by_cases c:wy=wOn
  ·rw[if_pos c,if_neg ~]
  ·rw[if_neg c,if_neg hj]
 unfold bgD
 by_cases A:x.1=0/\x.2.1=0/\0<=x.2.2
 ·rw[if_pos A]
  by_cases B:x.2.2<(m:Int)
  ·rw[ga (.inl ⟨A.1,.inl ~⟩)]
   unfold RR;rw[if_pos ⟨A.1,⟨~,~⟩,A.2.2,B⟩,A.2.1];rfl
  ·rw[hm _ ~,i9 (gX ?_)]
   rintro(⟨_,_,_,h⟩|⟨h,_⟩) <;> ~
 ·rw[if_neg A]
  by_cases z:dnP 0 0 0 x
  ·rw[ga z]
   by_cases D:DIn n m x.1 x.2.1 x.2.2
   ·rcases D with⟨d1,d2,d3,d4⟩|⟨d1,d2,d3,d4⟩
    ·refine absurd ⟨d1,?_,d3⟩ A
     rcases z with⟨_,z|z⟩|⟨z,_⟩ <;> ~
    ·rw[xk d1]
     rcases z with⟨z,_⟩|⟨_,z|z⟩ <;> ~
   ·rw[gX D]
  ·rw[jF z]
¤Cy{i j:Nat}(hi:i<n)(hj:j<m):∀x:Dor,gY (RS wy G F n m i j j) (0,(i:Int)+1,(j:Int)) (pas (G 0 ((i:Int)+1) (j:Int)) (RS wy G F n m i j j (0,(i:Int),(j:Int))) (RS wy G F n m i j j (1,(i:Int),(j:Int))) (0,(i:Int),(j:Int)) (1,(i:Int),(j:Int))) x=RS wy G F n m i ((j:Int)+1) j x:=λx=>by
 !e1:RS wy G F n m i j j (0,(i:Int),(j:Int))=Uc G (bgR wy G F m) i j:=(ga (.inl ⟨rfl,.inl (Int.le_refl _)⟩)).trans (oK ~ hj);!e2:RS wy G F n m i j j (1,(i:Int),(j:Int))=Lc G (Uc G (bgR wy G F m) i) i j:=(ga (.inr ⟨rfl,.inr ⟨rfl,Int.le_refl _⟩⟩)).trans (qF hi ~);rw[e1,e2];unfold gY
 by_cases h:x=(0,(i:Int)+1,(j:Int))
 ·rw[if_pos h,h,ga (.inl ⟨rfl,.inr ⟨rfl,by show(j:Int)<(j:Int)+1;~⟩⟩)]
  !:=oK (wy:=wy) (G:=G) (F:=F) (n:=n) (m:=m) (i:=i+1) (j:=j) ~ hj;rw[show((i:Int)+1)=((i+1:Nat):Int) by omega,this];rfl
 ·rw[if_neg h]
  refine rK ?_;unfold dnP;constructor
  ·rintro(⟨a,b⟩|b)
   ·#.inl ⟨a,b.imp_right λc=>⟨c.1,~⟩⟩
   ·#.inr b
  ·rintro(⟨a,b|⟨b,c⟩⟩|b)
   ·#.inl ⟨a,.inl b⟩
   ·refine .inl ⟨a,.inr ⟨b,?_⟩⟩
    !:x.2.2≠(j:Int):=λw=>h (Prod.ext a (Prod.ext b w));~
   ·#.inr b
¤yL{i j:Nat}(hi:i<n)(hj:j<m):∀x:Dor,gY (RS wy G F n m i ((j:Int)+1) j) (1,(i:Int),(j:Int)+1) (pas (G 1 (i:Int) ((j:Int)+1)) (RS wy G F n m i ((j:Int)+1) j (1,(i:Int),(j:Int))) (RS wy G F n m i ((j:Int)+1) j (0,(i:Int),(j:Int))) (1,(i:Int),(j:Int)) (0,(i:Int),(j:Int))) x=RS wy G F n m i ((j:Int)+1) ((j:Int)+1) x:=λx=>by
 !e1:RS wy G F n m i ((j:Int)+1) j (0,(i:Int),(j:Int))=Uc G (bgR wy G F m) i j:=(ga (.inl ⟨rfl,.inl (Int.le_refl _)⟩)).trans (oK ~ hj);!e2:RS wy G F n m i ((j:Int)+1) j (1,(i:Int),(j:Int))=Lc G (Uc G (bgR wy G F m) i) i j:=(ga (.inr ⟨rfl,.inr ⟨rfl,Int.le_refl _⟩⟩)).trans (qF hi ~);rw[e1,e2];unfold gY
 by_cases h:x=(1,(i:Int),(j:Int)+1)
 ·!e3:RS wy G F n m i ((j:Int)+1) ((j:Int)+1) (1,(i:Int),(j:Int)+1)=RR wy G F n m (1,(i:Int),(j:Int)+1):=ga (.inr ⟨rfl,.inr ⟨rfl,Int.le_refl _⟩⟩)
  rw[if_pos h,h,e3];!:=qF (wy:=wy) (G:=G) (F:=F) (n:=n) (m:=m) (i:=i) (j:=j+1) hi ~;rw[show((j:Int)+1)=((j+1:Nat):Int) by omega,this];rfl
 ·rw[if_neg h]
  refine rK ?_;unfold dnP;constructor
  ·rintro(b|⟨a,b⟩)
   ·#.inl b
   ·#.inr ⟨a,b.imp_right λc=>⟨c.1,~⟩⟩
  ·rintro(b|⟨a,b|⟨b,c⟩⟩)
   ·#.inl b
   ·#.inr ⟨a,.inl b⟩
   ·refine .inr ⟨a,.inr ⟨b,?_⟩⟩
    !:x.2.2≠(j:Int)+1:=λw=>h (Prod.ext a (Prod.ext b w));~
¤yM{i:Nat}:∀x:Dor,RS wy G F n m i m m x=RS wy G F n m ((i+1:Nat):Int) 0 0 x:=λx=>by
 by_cases D:DIn n m x.1 x.2.1 x.2.2
 ·by_cases z:x.1=1/\x.2.2=0
  ·rw[i9 (xk z.1 z.2),i9 (xk z.1 z.2)]
  ·refine rK ?_
   unfold dnP;rcases D with⟨d1,d2,d3,d4⟩|⟨d1,d2,d3,d4⟩
   ·constructor
    ·rintro(⟨_,h|h⟩|⟨h,_⟩)
     ·#.inl ⟨d1,.inl ~⟩
     ·#.inl ⟨d1,.inl ~⟩
     ·~
    ·rintro(⟨_,h|h⟩|⟨h,_⟩)
     ·rcases Int.lt_or_le x.2.1 ((i+1:Nat):Int) with w|w
      ·#.inl ⟨d1,.inl ~⟩
      ·#.inl ⟨d1,.inr ⟨~,d4⟩⟩
     ·~
     ·~
   ·constructor
    ·rintro(⟨h,_⟩|⟨_,h|h⟩)
     ·~
     ·#.inr ⟨d1,.inl ~⟩
     ·#.inr ⟨d1,.inl ~⟩
    ·rintro(⟨h,_⟩|⟨_,h|h⟩)
     ·~
     ·rcases Int.lt_or_le x.2.1 (i:Int) with w|w
      ·#.inr ⟨d1,.inl w⟩
      ·#.inr ⟨d1,.inr ⟨~,d4⟩⟩
     ·#absurd ⟨d1,~⟩ z
 ·rw[i9 (gX D),i9 (gX D)]
¤Bf:∀x:Dor,RS wy G F n m n 0 0 x=RR wy G F n m x:=λx=>by
 by_cases z:DIn n m x.1 x.2.1 x.2.2
 ·refine ga ?_
  rcases z with⟨a,b⟩|⟨a,b⟩
  ·#.inl ⟨a,.inl b.1.2⟩
  ·#.inr ⟨a,.inl b.1.2⟩
 ·rw[gX z]
  unfold RS
  split
  ·#gX z
  ·rfl
end
inductive Kp (K:W.Frag) (C:Addr) (vs:List V) (H:Hp) (Q:VK) (x_3:XK):Prop
 | mk:∀(fo:Addr) (n m:Nat) (room:Int) (G:GF) (F:Int->Int->Bool) (wy:Str),(vs = [.ref fo,.str wy])->(Dx K C H fo n m room G F)->((1<=n/\n<=20))->((1<=m/\m<=20))->((wy=wOn\/wy=ce))->(∀d H',Same H H'->H d=none->Ey K H' d (RR wy G F n m) 900->Q (.ref d) H')->Kp K C vs H Q x_3
¤DP:Dj ["field","way","reached","i","j","side"] ["field","way"] (ao (top 62)):=smk
¤jy(Gj:Df K mg "doors_reached" (top 62))(Dl:FQ K mg "Field" C_Field)(n_room:aX K C_Field "room")(n_last:aX K C_Field "last")(n_doors:aX K C_Field "doors")(n_far:aX K C_Field "far")(V_UPRIGHT:∃tk,mg "UPRIGHT" = some (.int 0 tk))(V_LEVEL:∃tk,mg "LEVEL" = some (.int 1 tk))(Ev:Fn P w K mg base "doors_at_begin" ["field","way"] 2 (Ks K C_Field))(FG:Fn P w K mg base "door_out" ["side","i","j"] 1 Kq)(EK:Fn P w K mg base "pass_through" ["field","reached","door","straight","turned"] 5 (Kf K C_Field))(T:Txt mg):Fn P w K mg base "doors_reached" ["field","way"] 6 (Kp K C_Field):=by
 refine Gj.fn DP (λ_ _ _ _ _ _ us hl=>by @_,_,rfl:=dJ hl;rfl) (λvs H Q E h=>?_) (λf cdv A outer s H vs Q E hr h=>?_)
 ·@fo,n,m,room,G,F,wy,rfl,_:=h
  rfl
 ·@fo,n,m,room,G,F,wy,rfl,fa,⟨hn,hn20⟩,⟨hm,hm20⟩,hw,k:=h
  @tU,Dq:=V_UPRIGHT;@tL,Ef:=V_LEVEL;?_,(ag (£2 DP (¢Ev (ad ©0 (ad ©1 ak)))) (ag (cj PassesOwn.never rfl (dh rfl T.z_range (ad (ax ap (cS ©0 rfl) af (λ_ _=>rfl)) ak)) (aQ (i:=3) DP.nd rfl (Or.inl rfl)) (am (cj PassesOwn.never rfl (dh rfl T.z_range (ad (ax ap (cS ©0 rfl) af (λ_ _=>rfl)) ak)) (aQ (i:=4) DP.nd rfl (Or.inl rfl)) (am (cj PassesOwn.never rfl (Ad (aJ (ad (bC (v:=.int 0) (by rfl) Dq ⟨_,rfl⟩) (ad (bC (v:=.int 1) (by rfl) Ef ⟨_,rfl⟩) ak)))) (aQ (i:=5) DP.nd rfl (Or.inl rfl)) (am (cH (¢EK (ad ©0 (ad ©2 (ad (¢FG (ad ©5 (ad ©3 (ad ©4 ak)))) (ad (aJ (ad ©5 (ad ©3 (ad ©4 ak)))) (ad (aJ (ad (ay aP af ©5) (ad ©3 (ad ©4 ak)))) ak))))))))))))) (am (aB ©2))));¶^,^,fo,n,m,room,G,F,wy,rfl,fa,⟨hn,hn20⟩,⟨hm,hm20⟩,hw,λd H1 s1 nd rp1=>?_;@dx,lt,d0,fr,hf,hl,_,_:=fa.ex;!FL:∀{H':Hp},Same H H'->SqT K H' lt [.int (n:Int),.int (m:Int)]:=λs=>SqT.of (s _ _ hl);!cb:∀{i j:Nat},i<n->j<m->i*(2*m)+2*j+2<=800:=λ{i j} hi hj=>by
   !h1:i*(2*m)<=19*(2*m):=Nat.mul_le_mul_right _ ~;~
  ?^,fo,C_Field,dx,_,^,s1 _ _ hf,Dl.cls,n_last,rfl,lt,_,%,FL s1,rfl,^,~,(~);rw[Int.toNat_natCast];refine cU (n:=n) (lo:=0) (λi σ H'=>∃(z3 z4 z5:Option V),σ = [some (.ref fo),some (.str wy),some (.ref d),z3,z4,z5]/\Same H H'/\Ey K H' d (RS wy G F n m i 0 0) (30+i*(2*m)))
   ⟨_,_,_,rfl,s1,rp1.congr (xj hm) ~⟩ ?_ ?_
  ·rintro i σ H2 hi ⟨z3,z4,z5,rfl,s2,rp2⟩
   rw[Int.zero_add];?^,fo,C_Field,dx,_,^,s2 _ _ hf,Dl.cls,n_last,rfl,lt,_,%,FL s2,rfl,^,~,(~);rw[Int.toNat_natCast];refine cU (n:=m) (lo:=0) (λj σ H'=>∃(z4 z5:Option V),σ = [some (.ref fo),some (.str wy),some (.ref d),some (.int (i:Int)),z4,z5]/\Same H H'/\Ey K H' d (RS wy G F n m i j j) (30+i*(2*m)+2*j))
    ⟨_,_,rfl,s2,rp2⟩ ?_ ?_
   ·rintro j σ H3 hj ⟨z4,z5,rfl,s3,rp3⟩
    rw[Int.zero_add];!hc:=cb hi hj;¶sz (by simp),λtp H4 s4 f4 n4=>?_;!ndp:d≠tp:=λz=>by
     @kvs,e,_:=rp3.ex;rw[z,n4]at e;cases e
    refine⟨tp,rfl,⟨_,SqT.of f4⟩,ym (K:=K) (a:=tp) (xs:=[.int 0,.int 1]) (λs σ H'=>∃(z5:Option V),σ = [some (.ref fo),some (.str wy),some (.ref d),some (.int (i:Int)),some (.int (j:Int)),z5]/\Same H H'/\H' tp=some (.tup [.int 0,.int 1])/\Ey K H' d (RS wy G F n m i ((j:Int)+(if 1<=s then 1 else 0)) ((j:Int)+(if 2<=s then 1 else 0))) (30+i*(2*m)+2*j+s))
     ⟨_,rfl,s3.trans s4,f4,(rp3.mono s4).congr (λx=>by rw[if_neg &,if_neg &,Int.add_zero]) ~⟩ (λi σ H' _ ⟨_,_,_,e,_⟩=>SqT.of e) ?_ ?_⟩
    ·rintro s x σ H5 hx ⟨z5,rfl,s5,f5,rp5⟩
     obtain⟨sd,rfl,hsd⟩:∃sd:Int,x = .int sd/\((s=0/\sd=0)\/(s=1/\sd=1)):=by
      match s,hx with
      | 0,h=>cases h;§0,rfl,.inl ⟨rfl,rfl⟩
      | 1,h=>cases h;§1,rfl,.inr ⟨rfl,rfl⟩
      | s+2,h=>simp at h
     ¶^,^,^,^,^,sd,(i:Int),(j:Int),rfl,~,λt H6 s6 f6=>?_;¶^,^,^,sz (by simp),λts H7 s7 f7 n7=>?_;¶^,%,^,^,sz (by simp),λtt H8 s8 f8 n8=>?_;!S8:=s6.trans (s7.trans s8);!fin:∀{su sl:Int} {H':Hp},cB d H8 H'->Ey K H' d (RS wy G F n m i su sl) (30+i*(2*m)+2*j+(s+1))->su=(j:Int)+(if 1<=s+1 then 1 else 0)->sl=(j:Int)+(if 2<=s+1 then 1 else 0)->∃(z5:Option V),[some (V.ref fo),some (V.str wy),some (V.ref d),some (V.int (i:Int)),some (V.int (j:Int)),some (V.int sd)] = [some (.ref fo),some (.str wy),some (.ref d),some (.int (i:Int)),some (.int (j:Int)),z5]/\Same H H'/\H' tp=some (.tup [.int 0,.int 1])/\Ey K H' d (RS wy G F n m i ((j:Int)+(if 1<=s+1 then 1 else 0)) ((j:Int)+(if 2<=s+1 then 1 else 0))) (30+i*(2*m)+2*j+(s+1)):=λ{su sl H'} b r e1 e2=>by
      subst e1;subst e2;§^,b.same (s5.trans S8) nd,b _ _ ndp.symm (S8 _ _ f5),r
     rcases hsd with⟨rfl,rfl⟩|⟨rfl,rfl⟩
     ·¶fo,d,t,ts,tt,n,m,room,G,F,_,_,(0,(i:Int)+1,(j:Int)),(0,(i:Int),(j:Int)),(1,(i:Int),(j:Int)),rfl,fa.mono (s5.trans S8),(rp5.mono S8).congr (R':=RS wy G F n m i j j) (λx=>by rw[if_neg &,if_neg &,Int.add_zero]) (Nat.le_refl _),⟨(s7.trans s8) _ _ f6,s8 _ _ f7,f8⟩,.inl ⟨rfl,⟨by show(0:Int)<=(i:Int)+1;~,by show(i:Int)+1<=n;~⟩,by show(0:Int)<=j;~,by show(j:Int)<m;~⟩,jF ?_,~,λH9 b9 r9=>?_
      ·rintro(⟨_,h|⟨_,h⟩⟩|⟨h,_⟩)
       ·!h:(i:Int)+1<=i:=h
        ~
       ·!h:(j:Int)<j:=h
        ~
       ·cases h
      ·#fin b9 (r9.congr (Cy hi hj) ~) (by rw[if_pos &]) (by rw[if_neg &,Int.add_zero])
     ·¶fo,d,t,ts,tt,n,m,room,G,F,_,_,(1,(i:Int),(j:Int)+1),(1,(i:Int),(j:Int)),(0,(i:Int),(j:Int)),rfl,fa.mono (s5.trans S8),(rp5.mono S8).congr (R':=RS wy G F n m i ((j:Int)+1) j) (λx=>by rw[if_pos &,if_neg &,Int.add_zero]) (Nat.le_refl _),⟨(s7.trans s8) _ _ f6,s8 _ _ f7,f8⟩,.inr ⟨rfl,⟨by show(0:Int)<=(i:Int);~,by show(i:Int)<n;~⟩,by show(0:Int)<=(j:Int)+1;~,by show(j:Int)+1<=m;~⟩,jF ?_,~,λH9 b9 r9=>?_
      ·rintro(⟨h,_⟩|⟨_,h|⟨_,h⟩⟩)
       ·cases h
       ·!h:(i:Int)<i:=h
        ~
       ·!h:(j:Int)+1<=j:=h
        ~
      ·#fin b9 (r9.congr (yL hi hj) ~) (by rw[if_pos &]) (by rw[if_pos &])
    ·rintro σ H5 ⟨z5,rfl,s5,f5,rp5⟩
     §_,^,s5,rp5.congr (λx=>by rw[if_pos (by simp),if_pos (by simp)];rfl) (by simp only[List.length_cons,List.length_nil];~)
   ·rintro σ H3 ⟨z4,z5,rfl,s3,rp3⟩
    §_,_,^,s3,rp3.congr yM (by rw[Nat.add_mul];~)
  ·rintro σ H2 ⟨z3,z4,z5,rfl,s2,rp2⟩
   ¶^,k d H2 s2 nd (rp2.congr Bf ?_);!h1:n*(2*m)<=20*(2*m):=Nat.mul_le_mul_right _ ~;~
¦eQ(K:W.Frag)(H:Hp)(e:aL×Lb)(v:V):Prop:=∃t sv hv,v = .ref t/\H t=some (.tup [sv,hv])/\cp H sv e.1/\j6 K H hv e.2
¤eQ.mono{K:W.Frag}{H H':Hp}{e:aL×Lb}{v:V}(h:eQ K H e v)(s:SameT H H'):eQ K H' e v:=by
 @t,sv,hv,h1,h2,h3,h4:=h;§t,sv,hv,h1,s _ _ h2,h3.mono s,h4.mono s
¦uF(room:Int)(gx gy:Option (N4×N4)):Option (N4×N4):=match gx,gy with
 | some p,some q=>if ro4 p.2 q.1>=room then none else some (p.2,q.1)
 | _,_=>none
inductive I0 (K:W.Frag) (C:Addr) (vs:List V) (H:Hp) (Q:VK) (x_3:XK):Prop
 | mk:∀(fo t1 t2:Addr) (n m:Nat) (room:Int) (G:GF) (F:Int->Int->Bool) (x y:Dor),(vs = [.ref fo,.ref t1,.ref t2])->(Dx K C H fo n m room G F)->((H t1=some (.tup ((dkD x).map kV))/\H t2=some (.tup ((dkD y).map kV))))->(DIn n m x.1 x.2.1 x.2.2)->(DIn n m y.1 y.2.1 y.2.2)->((uF room (G x.1 x.2.1 x.2.2) (G y.1 y.2.1 y.2.2)=none->Q .non H))->(∀l,uF room (G x.1 x.2.1 x.2.2) (G y.1 y.2.1 y.2.2)=some l->∀(t p q:Addr) (H':Hp),Same H H'->H' t=some (.tup [.ref p,.ref q])->Nm K H' p l.1->Nm K H' q l.2->Q (.ref t) H')->I0 K C vs H Q x_3
¤EU:Dj ["field","low_door","high_door","low","high"] ["field","low_door","high_door"] (ao (top 51)):=smk
¤lL(GS:Df K mg "gap_between" (top 51))(Dl:FQ K mg "Field" C_Field)(n_room:aX K C_Field "room")(n_last:aX K C_Field "last")(n_doors:aX K C_Field "doors")(n_far:aX K C_Field "far")(Dm:Fn P w K mg base "root_order" ["one","other"] 4 (Ih K))(T:Txt mg):Fn P w K mg base "gap_between" ["field","low_door","high_door"] 5 (I0 K C_Field):=by
 refine GS.fn EU (λ_ _ _ _ _ _ us hl=>by @_,_,_,rfl:=g7 hl;rfl) (λvs H Q E h=>?_) (λf cdv A outer s H vs Q E hr h=>?_)
 ·@fo,t1,t2,n,m,room,G,F,x,y,rfl,_:=h
  rfl
 ·@fo,t1,t2,n,m,room,G,F,x,y,rfl,fa,⟨h1,h2⟩,d1,d2,k0,k1:=h
  ?_,(ag (£3 EU (dL (cT hr) (cS ©0 rfl) ©1 (λ_ _=>rfl))) (ag (£4 EU (dL (cT hr) (cS ©0 rfl) ©2 (λ_ _=>rfl))) (ag (aM (dw (aE fW ©3 bI (aG _)) (dw (aE fW ©4 bI (aG _)) (cZ (aE k7 (¢Dm (ad ®3 (ad ®4 ak))) (cS ©0 rfl) (aG _))))).pt (am (aB bI)) aI) (am (aB (aJ (ad ®3 (ad ®4 ak))))))));@dx,lt,d0,fr,hf,hl,⟨cc,dd⟩,_:=fa.ex;@o1,dg,hv1,_:=dd.get (k:=x.1) (i:=x.2.1) (j:=x.2.2) h1;@v1,rfl,gv1:=hv1 d1;@o2,dg2,hv2,_:=dd.get (k:=y.1) (i:=y.2.1) (j:=y.2.2) h2;@v2,rfl,gv2:=hv2 d2;?^,fo,C_Field,dx,_,^,hf,Dl.cls,n_doors,rfl,^,d0,^,dg;?^,fo,C_Field,dx,_,^,hf,Dl.cls,n_doors,rfl,^,d0,^,dg2;cases e1:G x.1 x.2.1 x.2.2 with
  | none =>
   rw[e1]at gv1 k0;!gv1:v1 = .non:=gv1;rw[gv1];§^,rfl,^,bM rfl (k0 rfl)
  | some p =>
   rw[e1]at gv1 k0 k1;@tg,p1,p2,rfl,eg,g1,g2:=gv1;¶^,rfl,^,aK (by simp) ?_;cases e2:G y.1 y.2.1 y.2.2 with
   | none =>
    rw[e2]at gv2 k0;!gv2:v2 = .non:=gv2;rw[gv2];§^,rfl,^,bM rfl (k0 rfl)
   | some q =>
    rw[e2]at gv2 k0 k1;@tg2,q1,q2,rfl,eg2,f1,f2:=gv2;¶^,rfl,^,aK (by simp) ?_;¶^,tg,_,%,SqT.of eg,rfl,^,tg2,_,%,SqT.of eg2,rfl,_,_,_,_,_,_,_,_,_,^,g2.rt',f1.rt',^,fo,C_Field,dx,_,^,hf,Dl.cls,n_room,rfl,%,^,aY (λc=>?_) (λc=>?_)
    ·#k0 (if_pos (bZ c))
    ·¶^,tg,_,%,SqT.of eg,rfl,^,tg2,_,%,SqT.of eg2,rfl,sz (by simp),λt H1 s1 f3 n1=>?_
     #k1 _ (if_neg (cJ c)) t p2 q1 H1 s1 f3 (g2.mono s1) (f1.mono s1)
¦dnE(room:Int)(G:GF)(i j:Int)(k:Nat):Option (aL×Lb):=(uF room (G 0 i j) (G 0 (k:Int) j)).map λl=>(ck (k:Int) j,.bend (dk 0 i j) (dk 0 (k:Int) j) l.1 l.2)
¦dnS(room:Int)(G:GF)(i j:Int):List (aL×Lb):=if j - 1<0 then [] else match G 0 i (j - 1) with
 | none=>[(ck i (j - 1),.no)]
 | some _=>(List.range i.toNat).filterMap (dnE room G i (j - 1))
¦ovE(room:Int)(G:GF)(i j:Int)(k:Nat):Option (aL×Lb):=(uF room (G 1 i (j+1+(k:Int))) (G 1 i j)).map λl=>(ck (i+1) (j+1+(k:Int)),.bend (dk 1 i j) (dk 1 i (j+1+(k:Int))) l.1 l.2)
¦ovS(room:Int)(G:GF)(n m:Nat)(i j:Int):List (aL×Lb):=if i=(n:Int) then [] else match G 1 i j with
 | none=>[(ck (i+1) j,.no)]
 | some _=>(List.range ((m:Int) - j).toNat).filterMap (ovE room G i j)
¦bkS(F:Int->Int->Bool)(n m:Nat)(i j:Int):List (aL×Lb):=((mF n m F).filter λp=>decide (p.1<=i) && decide (p.2>=j)).map λp=>(ck p.1 p.2,.no)
structure J7(K:W.Frag)(H H':Hp)(sl:Addr)(l:List (aL×Lb))(c:Nat):Prop where
 sm:Same H H'
 nr:H sl=none
 ex:∃vs,H' sl=some (.lst vs)/\Paired (eQ K H') l vs/\vs.length<=c
¤J7.mono{K:W.Frag}{H H1 H2:Hp}{sl:Addr}{l:List (aL×Lb)}{c c':Nat}(J:J7 K H H1 sl l c)(s:Same H1 H2)(hc:c<=c'):J7 K H H2 sl l c':=by
 @vs,e,p,n:=J.ex;§J.sm.trans s,J.nr,vs,s _ _ e,Paired.mapP p λa b x=>x.mono s.t,(~)
¤J7.add{K:W.Frag}{H H1 H2:Hp}{sl t:Addr}{l:List (aL×Lb)}{c:Nat}{e:aL×Lb}{vs:List V}(J:J7 K H H1 sl l c)(hv:H1 sl=some (.lst vs))(st:eQ K H1 e (.ref t))(u:Ie H1 H2 sl vs (vs++[.ref t])):J7 K H H2 sl (l++[e]) (c+1):=by
 @vs',e',p,n:=J.ex;rw[hv]at e';cases e';¶λb o h=>u.at (λz=>by rw[z,J.nr]at h;cases h) (J.sm b o h),J.nr,_,u.now,?_,(by rw[List.length_append,List.length_singleton];~);#Paired.snoc (Paired.mapP p λa b x=>x.mono u.t) (st.mono u.t)
inductive Ko (K:W.Frag) (C:Addr) (vs:List V) (H:Hp) (Q:VK) (x_3:XK):Prop
 | mk:∀(fo c:Addr) (n m:Nat) (room:Int) (G:GF) (F:Int->Int->Bool) (i j:Int),(vs = [.ref fo,.ref c])->(Dx K C H fo n m room G F)->(H c=some (.tup [.int i,.int j]))->(((0<=i/\i<=(n:Int))/\n<=20))->(((0<=j/\j<=(m:Int))/\m<=20))->(∀r H',Same H H'->H r=none->(∃vs,H' r=some (.lst vs)/\Paired (eQ K H') (dnS room G i j) vs/\vs.length<=30)->Q (.ref r) H')->Ko K C vs H Q x_3
inductive Ki (K:W.Frag) (C:Addr) (vs:List V) (H:Hp) (Q:VK) (x_3:XK):Prop
 | mk:∀(fo c:Addr) (n m:Nat) (room:Int) (G:GF) (F:Int->Int->Bool) (i j:Int),(vs = [.ref fo,.ref c])->(Dx K C H fo n m room G F)->(H c=some (.tup [.int i,.int j]))->(((0<=i/\i<=(n:Int))/\n<=20))->(((0<=j/\j<=(m:Int))/\m<=20))->(∀r H',Same H H'->H r=none->(∃vs,H' r=some (.lst vs)/\Paired (eQ K H') (ovS room G n m i j) vs/\vs.length<=30)->Q (.ref r) H')->Ki K C vs H Q x_3
¤ku{α:Type}{f:Nat->Option α}{k:Nat}:(List.range (k+1)).filterMap f=(List.range k).filterMap f++(f k).toList:=by
 rw[List.range_succ,List.filterMap_append];cases h:f k <;> simp[h]
¤DE:Dj ["field","corner","i","j","door","steps","k","beside","gap"] ["field","corner"] (ao (top 52)):=smk
¤mh(Hx:Df K mg "steps_down" (top 52))(Dl:FQ K mg "Field" C_Field)(n_room:aX K C_Field "room")(n_last:aX K C_Field "last")(n_doors:aX K C_Field "doors")(n_far:aX K C_Field "far")(V_UPRIGHT:∃tk,mg "UPRIGHT" = some (.int 0 tk))(V_LEVEL:∃tk,mg "LEVEL" = some (.int 1 tk))(DT:Fn P w K mg base "gap_between" ["field","low_door","high_door"] 5 (I0 K C_Field))(T:Txt mg):Fn P w K mg base "steps_down" ["field","corner"] 6 (Ko K C_Field):=by
 refine Hx.fn DE (λ_ _ _ _ _ _ us hl=>by @_,_,rfl:=dJ hl;rfl) (λvs H Q E h=>?_) (λf cdv A outer s H vs Q E hr h=>?_)
 ·@fo,c,n,m,room,G,F,i,j,rfl,_:=h
  rfl
 ·@fo,c,n,m,room,G,F,i,j,rfl,fa,hc,⟨⟨i0,i1⟩,hn⟩,⟨⟨j0,j1⟩,hm⟩,k:=h
  @tU,Dq:=V_UPRIGHT;@tL,Ef:=V_LEVEL;?_,(ag (£2 DE ®1) (ag (£3 DE (ay aP ®1 af)) (ag (aM (aE dH ©3 af (aG _)) (am (aB (bU ak))) aI) (ag (£4 DE (aJ (ad (bC (v:=.int 0) (by rfl) Dq ⟨_,rfl⟩) (ad ©2 (ad ©3 ak))))) (ag (aM (aE fW (dL (cT hr) (cS ©0 rfl) ©4 (λ_ _=>rfl)) bI (aG _)) (am (aB (@bU _ _ _ _ (@ad _ _ _ _ _ (@aJ _ _ _ _ _ (@ad _ _ _ _ _ (@aJ _ _ _ _ _ (@ad _ _ _ _ _ ©2 (@ad _ _ _ _ _ ©3 ak (by rfl)) (by rfl))) (@ad _ _ _ _ _ bI ak (by rfl)) (by rfl))) ak (by rfl))))) aI) (ag (£5 DE (bU ak)) (ag (cj PassesOwn.never rfl (dh rfl T.z_range (ad ©2 ak)) (aQ (i:=6) DE.nd rfl (Or.inl rfl)) (ag (£7 DE (aJ (ad (bC (v:=.int 0) (by rfl) Dq ⟨_,rfl⟩) (ad ©6 (ad ©3 ak))))) (ag (£8 DE (¢DT (ad ©0 (ad ©4 (ad ©7 ak))))) (am (aM (aE gQ ©8 bI (aG _)) (am (cH (fF PySem.F.plainAttrs_list PySem.F.slot_list_append PySem.F.type_list_append ca ©5 (ad (@aJ _ _ _ _ _ (@ad _ _ _ _ _ (@aJ _ _ _ _ _ (@ad _ _ _ _ _ ©6 (@ad _ _ _ _ _ ©3 ak (by rfl)) (by rfl))) (@ad _ _ _ _ _ (@aJ _ _ _ _ _ (@ad _ _ _ _ _ ©4 (@ad _ _ _ _ _ ©7 (@ad _ _ _ _ _ ©8 ak (by rfl)) (by rfl)) (by rfl))) ak (by rfl)) (by rfl))) ak)))) aI))))) (am (aB ©5)))))))));@dx,lt,d0,fr,hf,hl,⟨cc,dd⟩,_:=fa.ex;!e62:(2:Int)^62=4611686018427387904:= &
  ?^,c,_,%,SqT.of hc,rfl;?^,c,_,%,SqT.of hc,rfl,%;unfold dnS at k;¶^,%,^,aY (λh=>?_) (λh=>?_)
  ·rw[if_pos (bZ h)]at k
   §sz (by simp),λr H1 s1 f1 n1=>k r H1 s1 n1 ⟨[],f1,.nil,by simp⟩
  !h:=cJ h;rw[if_neg h]at k;!din:DIn n m 0 i (j - 1):=.inl ⟨rfl,⟨i0,i1⟩,~,~⟩;¶^,^,sz (by simp),λtd H1 s1 f1 n1=>?_;@o,dg,hv,_:=(dd.mono s1).get (k:=0) (i:=i) (j:=(j - 1)) f1;@v,rfl,gv:=hv din;?^,fo,C_Field,dx,_,^,s1 _ _ hf,Dl.cls,n_doors,rfl,^,d0,^,dg,rfl,^;cases hg:G 0 i (j - 1) with
  | none =>
   rw[hg]at gv k;!gv:v = .non:=gv;rw[gv];refine bM rfl ?_;¶^,^,sz (by simp),λa H2 s2 f2 n2=>⟨sz (by simp),λt H3 s3 f3 n3=>⟨sz (by simp),λr H4 s4 f4 n4=>?_⟩⟩;#k r H4 (s1.trans (s2.trans (s3.trans s4))) ((s1.trans (s2.trans s3)).free n4) ⟨_,f4,.cons ⟨t,.ref a,.non,rfl,s4 _ _ f3,⟨a,rfl,(s3.trans s4) _ _ f2⟩,rfl⟩ .nil,by simp⟩
  | some pg =>
   rw[hg]at gv k;@tg,p1,p2,rfl,eg,g1,g2:=gv;refine aK (by simp) ?_;¶sz (by simp),λsl H2 s2 f2 n2=>?_;!S2:=s1.trans s2;!nsl:H sl=none:=s1.free n2;?^,^,~,(~);refine cU (n:=i.toNat) (lo:=0) (λk σ H'=>∃(z6 z7 z8:Option V),σ = [some (.ref fo),some (.ref c),some (.int i),some (.int (j - 1)),some (.ref td),some (.ref sl),z6,z7,z8]/\J7 K H H' sl ((List.range k).filterMap (dnE room G i (j - 1))) k/\H' td=some (.tup ((dkD (0,i,(j - 1))).map kV)))
    ⟨_,_,_,rfl,⟨S2,nsl,[],f2,.nil,by simp⟩,s2 _ _ f1⟩ ?_ ?_
   ·rintro k' σ H3 hk ⟨z6,z7,z8,rfl,J,ft⟩
    rw[Int.zero_add];!S3:=J.sm;¶^,^,sz (by simp),λtb H4 s4 f4 n4=>?_;!J4:=J.mono s4 (Nat.le_refl _);¶^,^,^,fo,td,tb,n,m,room,G,F,(0,i,(j - 1)),(0,(k':Int),j - 1),rfl,fa.mono J4.sm,⟨s4 _ _ ft,f4⟩,din,(.inl ⟨rfl,⟨by show(0:Int)<=k';~,by show(k':Int)<=n;~⟩,by show 0<=j - 1;~,by show j - 1<(m:Int);~⟩),λhn=>?_,λl hs t p q H5 s5 f5 m1 m2=>?_
    ·¶^,rfl,^,aK (by simp) ⟨_,_,_,rfl,?_,s4 _ _ ft⟩
     rw[ku,show dnE room G i (j - 1) k'=none by unfold dnE;rw[hn];rfl,Option.toList_none,List.append_nil];#J4.mono (Same.refl _) ~
    ·!J5:=J4.mono s5 (Nat.le_refl _)
     ¶^,rfl,^,bM (by simp) ?_;@vs,ev,_,lv:=J5.ex;¶^,.inl ⟨rfl,_,SqL.of ev⟩,^,^,sz (by simp),λa H6 s6 f6 n6=>⟨_,rfl,_,rfl,_,rfl,sz (by simp),λb H7 s7 f7 n7=>⟨sz (by simp),λe H8 s8 f8 n8=>?_⟩⟩;!S8:=s6.trans (s7.trans s8);!J8:=J5.mono S8 (Nat.le_refl _);!ev8:=S8 _ _ ev;¶sl,%,ev8,bJ ~,λH9 u=>⟨_,_,_,rfl,?_,u.t _ _ (S8 _ _ (s5 _ _ (s4 _ _ ft)))⟩;!T5:∀{z:Addr} {xs:List V},H5 z=some (.tup xs)->H8 z=some (.tup xs):=λe=>S8 _ _ e;!st:eQ K H8 (ck (k':Int) (j - 1),.bend (dkD (0,i,(j - 1))) (dkD (0,(k':Int),j - 1)) l.1 l.2) (.ref e):=⟨e,.ref a,.ref b,rfl,f8,⟨a,rfl,(s7.trans s8) _ _ f6⟩,⟨b,td,tb,t,p,q,rfl,s8 _ _ f7,T5 (s5 _ _ (s4 _ _ ft)),T5 (s5 _ _ f4),T5 f5,m1.at_.mono S8.t,m2.at_.mono S8.t⟩⟩;!:=J8.add ev8 st u;rw[ku,show dnE room G i (j - 1) k'=some (ck (k':Int) (j - 1),.bend (dkD (0,i,(j - 1))) (dkD (0,(k':Int),j - 1)) l.1 l.2) by unfold dnE;rw[hs];rfl,Option.toList_some];#this
   ·rintro σ H3 ⟨z6,z7,z8,rfl,J,_⟩
    §^,k sl H3 J.sm nsl (let ⟨vs,e,p,n⟩:=J.ex;⟨vs,e,p,~⟩)
¤DD:Dj ["field","corner","i","j","door","steps","k","above","gap"] ["field","corner"] (ao (top 53)):=smk
¤md(Hv:Df K mg "steps_over" (top 53))(Dl:FQ K mg "Field" C_Field)(n_room:aX K C_Field "room")(n_last:aX K C_Field "last")(n_doors:aX K C_Field "doors")(n_far:aX K C_Field "far")(V_UPRIGHT:∃tk,mg "UPRIGHT" = some (.int 0 tk))(V_LEVEL:∃tk,mg "LEVEL" = some (.int 1 tk))(DT:Fn P w K mg base "gap_between" ["field","low_door","high_door"] 5 (I0 K C_Field))(T:Txt mg):Fn P w K mg base "steps_over" ["field","corner"] 6 (Ki K C_Field):=by
 refine Hv.fn DD (λ_ _ _ _ _ _ us hl=>by @_,_,rfl:=dJ hl;rfl) (λvs H Q E h=>?_) (λf cdv A outer s H vs Q E hr h=>?_)
 ·@fo,c,n,m,room,G,F,i,j,rfl,_:=h
  rfl
 ·@fo,c,n,m,room,G,F,i,j,rfl,fa,hc,⟨⟨i0,i1⟩,hn⟩,⟨⟨j0,j1⟩,hm⟩,k:=h
  @tU,Dq:=V_UPRIGHT;@tL,Ef:=V_LEVEL;?_,(ag (£2 DD ®1) (ag (£3 DD ®1) (ag (aM (aE bP ©2 (ax ap (cS ©0 rfl) af (λ_ _=>rfl)) (aG _)) (am (aB (bU ak))) aI) (ag (£4 DD (aJ (ad (bC (v:=.int 1) (by rfl) Ef ⟨_,rfl⟩) (ad ©2 (ad ©3 ak))))) (ag (aM (aE fW (dL (cT hr) (cS ©0 rfl) ©4 (λ_ _=>rfl)) bI (aG _)) (am (aB (@bU _ _ _ _ (@ad _ _ _ _ _ (@aJ _ _ _ _ _ (@ad _ _ _ _ _ (@aJ _ _ _ _ _ (@ad _ _ _ _ _ (ay aS ©2 af) (@ad _ _ _ _ _ ©3 ak (by rfl)) (by rfl))) (@ad _ _ _ _ _ bI ak (by rfl)) (by rfl))) ak (by rfl))))) aI) (ag (£5 DD (bU ak)) (ag (cj PassesOwn.never rfl (ji rfl T.z_range (ad (ay aS ©3 af) (ad (ay aS (ax ap (cS ©0 rfl) af (λ_ _=>rfl)) af) ak))) (aQ (i:=6) DD.nd rfl (Or.inl rfl)) (ag (£7 DD (aJ (ad (bC (v:=.int 1) (by rfl) Ef ⟨_,rfl⟩) (ad ©2 (ad ©6 ak))))) (ag (£8 DD (¢DT (ad ©0 (ad ©7 (ad ©4 ak))))) (am (aM (aE gQ ©8 bI (aG _)) (am (cH (fF PySem.F.plainAttrs_list PySem.F.slot_list_append PySem.F.type_list_append ca ©5 (ad (@aJ _ _ _ _ _ (@ad _ _ _ _ _ (@aJ _ _ _ _ _ (@ad _ _ _ _ _ (ay aS ©2 af) (@ad _ _ _ _ _ ©6 ak (by rfl)) (by rfl))) (@ad _ _ _ _ _ (@aJ _ _ _ _ _ (@ad _ _ _ _ _ ©4 (@ad _ _ _ _ _ ©7 (@ad _ _ _ _ _ ©8 ak (by rfl)) (by rfl)) (by rfl))) ak (by rfl)) (by rfl))) ak)))) aI))))) (am (aB ©5)))))))));@dx,lt,d0,fr,hf,hl,⟨cc,dd⟩,_:=fa.ex;!e62:(2:Int)^62=4611686018427387904:= &
  ?^,c,_,%,SqT.of hc,rfl;?^,c,_,%,SqT.of hc,rfl;unfold ovS at k;?^,^,fo,C_Field,dx,_,^,hf,Dl.cls,n_last,rfl,lt,_,%,SqT.of hl,rfl,rfl,^;rw[di];refine aY (λh=>?_) (λh=>?_)
  ·rw[if_pos (bZ h)]at k
   §sz (by simp),λr H1 s1 f1 n1=>k r H1 s1 n1 ⟨[],f1,.nil,by simp⟩
  !h:=cJ h;rw[if_neg h]at k;!din:DIn n m 1 i j:=.inr ⟨rfl,⟨i0,~⟩,j0,j1⟩;¶^,^,sz (by simp),λtd H1 s1 f1 n1=>?_;@o,dg,hv,_:=(dd.mono s1).get (k:=1) (i:=i) (j:=j) f1;@v,rfl,gv:=hv din;?^,fo,C_Field,dx,_,^,s1 _ _ hf,Dl.cls,n_doors,rfl,^,d0,^,dg,rfl,^;cases hg:G 1 i j with
  | none =>
   rw[hg]at gv k;!gv:v = .non:=gv;rw[gv];refine bM rfl ?_;¶^,%,^,sz (by simp),λa H2 s2 f2 n2=>⟨sz (by simp),λt H3 s3 f3 n3=>⟨sz (by simp),λr H4 s4 f4 n4=>?_⟩⟩;#k r H4 (s1.trans (s2.trans (s3.trans s4))) ((s1.trans (s2.trans s3)).free n4) ⟨_,f4,.cons ⟨t,.ref a,.non,rfl,s4 _ _ f3,⟨a,rfl,(s3.trans s4) _ _ f2⟩,rfl⟩ .nil,by simp⟩
  | some pg =>
   rw[hg]at gv k;@tg,p1,p2,rfl,eg,g1,g2:=gv;refine aK (by simp) ?_;¶sz (by simp),λsl H2 s2 f2 n2=>?_;!S2:=s1.trans s2;!nsl:H sl=none:=s1.free n2;?^,%,^,fo,C_Field,dx,_,^,S2 _ _ hf,Dl.cls,n_last,rfl,lt,_,%,SqT.of (S2 _ _ hl),rfl,%,_,^;!en:((m:Int)+1 - (j+1)).toNat=((m:Int) - j).toNat:=by congr 1;~
   refine⟨by rw[e62];~,cU (n:=((m:Int)+1 - (j+1)).toNat) (lo:=j+1) (λk σ H'=>∃(z6 z7 z8:Option V),σ = [some (.ref fo),some (.ref c),some (.int i),some (.int j),some (.ref td),some (.ref sl),z6,z7,z8]/\J7 K H H' sl ((List.range k).filterMap (ovE room G i j)) k/\H' td=some (.tup ((dkD (1,i,j)).map kV)))
    ⟨_,_,_,rfl,⟨S2,nsl,[],f2,.nil,by simp⟩,s2 _ _ f1⟩ ?_ ?_⟩
   ·rintro k' σ H3 hk ⟨z6,z7,z8,rfl,J,ft⟩
    !hk:k'<((m:Int) - j).toNat:= ~
    !S3:=J.sm;¶^,^,sz (by simp),λtb H4 s4 f4 n4=>?_;!J4:=J.mono s4 (Nat.le_refl _);¶^,^,^,fo,tb,td,n,m,room,G,F,(1,i,j+1+(k':Int)),(1,i,j),rfl,fa.mono J4.sm,⟨f4,s4 _ _ ft⟩,.inr ⟨rfl,⟨i0,~⟩,by show 0<=j+1+(k':Int);~,by show j+1+(k':Int)<=m;~⟩,din,λhn=>?_,λl hs t p q H5 s5 f5 m1 m2=>?_
    ·¶^,rfl,^,aK (by simp) ⟨_,_,_,rfl,?_,s4 _ _ ft⟩
     rw[ku,show ovE room G i j k'=none by unfold ovE;rw[hn];rfl,Option.toList_none,List.append_nil];#J4.mono (Same.refl _) ~
    ·!J5:=J4.mono s5 (Nat.le_refl _)
     ¶^,rfl,^,bM (by simp) ?_;@vs,ev,_,lv:=J5.ex;¶^,.inl ⟨rfl,_,SqL.of ev⟩,^,%,^,sz (by simp),λa H6 s6 f6 n6=>⟨_,rfl,_,rfl,_,rfl,sz (by simp),λb H7 s7 f7 n7=>⟨sz (by simp),λe H8 s8 f8 n8=>?_⟩⟩;!S8:=s6.trans (s7.trans s8);!J8:=J5.mono S8 (Nat.le_refl _);!ev8:=S8 _ _ ev;¶sl,%,ev8,bJ ~,λH9 u=>⟨_,_,_,rfl,?_,u.t _ _ (S8 _ _ (s5 _ _ (s4 _ _ ft)))⟩;!T5:∀{z:Addr} {xs:List V},H5 z=some (.tup xs)->H8 z=some (.tup xs):=λe=>S8 _ _ e;!st:eQ K H8 (ck (i+1) (j+1+(k':Int)),.bend (dkD (1,i,j)) (dkD (1,i,j+1+(k':Int))) l.1 l.2) (.ref e):=⟨e,.ref a,.ref b,rfl,f8,⟨a,rfl,(s7.trans s8) _ _ f6⟩,⟨b,td,tb,t,p,q,rfl,s8 _ _ f7,T5 (s5 _ _ (s4 _ _ ft)),T5 (s5 _ _ f4),T5 f5,m1.at_.mono S8.t,m2.at_.mono S8.t⟩⟩;!:=J8.add ev8 st u;rw[ku,show ovE room G i j k'=some (ck (i+1) (j+1+(k':Int)),.bend (dkD (1,i,j)) (dkD (1,i,j+1+(k':Int))) l.1 l.2) by unfold ovE;rw[hs];rfl,Option.toList_some];#this
   ·rintro σ H3 ⟨z6,z7,z8,rfl,J,_⟩
    rw[en]at J;§^,k sl H3 J.sm nsl (let ⟨vs,e,p,n⟩:=J.ex;⟨vs,e,p,~⟩)
inductive Kt (K:W.Frag) (C:Addr) (vs:List V) (H:Hp) (Q:VK) (x_3:XK):Prop
 | mk:∀(fo c:Addr) (n m:Nat) (room:Int) (G:GF) (F:Int->Int->Bool) (i j:Int),(vs = [.ref fo,.ref c])->(Dx K C H fo n m room G F)->(H c=some (.tup [.int i,.int j]))->((n<=20/\m<=20))->(∀r H',Same H H'->H r=none->(∃vs,H' r=some (.lst vs)/\Paired (eQ K H') (bkS F n m i j) vs/\vs.length<900)->Q (.ref r) H')->Kt K C vs H Q x_3
¦kL(room:Int)(G:GF)(F:Int->Int->Bool)(n m:Nat):aL->List (aL×Lb)
 | [.inl i,.inl j]=>(dnS room G i j++ovS room G n m i j)++bkS F n m i j
 | _=>[]
inductive Ke (K:W.Frag) (C:Addr) (vs:List V) (H:Hp) (Q:VK) (x_3:XK):Prop
 | mk:∀(fo c:Addr) (n m:Nat) (room:Int) (G:GF) (F:Int->Int->Bool) (i j:Int),(vs = [.ref fo,.ref c])->(Dx K C H fo n m room G F)->(H c=some (.tup [.int i,.int j]))->(((0<=i/\i<=(n:Int))/\n<=20))->(((0<=j/\j<=(m:Int))/\m<=20))->(∀r H',Same H H'->H r=none->tT K H' r (kL room G F n m (ck i j))->Q (.ref r) H')->Ke K C vs H Q x_3
¤kZ{α β:Type}{R:α->β->Prop}:∀{a a':List α} {b b':List β},Paired R a b->Paired R a' b'->Paired R (a++a') (b++b'):=by
 intro a a' b b' h k
 induction h with
 | nil=>#k
 | cons x _ ih=>#.cons x ih
¤o8{α γ β:Type}{R:γ->β->Prop}{f:α->γ}:∀{l:List α} {m:List β},Paired (λa b=>R (f a) b) l m->Paired R (l.map f) m:=by
 intro l m h
 induction h with
 | nil=>#.nil
 | cons a _ ih=>#.cons a ih
¦lcE:Nat->Expr->List Scope
 | 0,_=>[]
 | n+1,e=>match e with
  | .ListComp _ _ sc _=>[sc]
  | .Call f as _ _=>lcE n f++as.flatMap (lcE n)
  | .BoolOp _ vs _=>vs.flatMap (lcE n)
  | .UnaryOp _ a _=>lcE n a
  | .Compare a _ bs _=>lcE n a++bs.flatMap (lcE n)
  | _=>[]
¦lcS:Nat->Stmt->List Scope
 | 0,_=>[]
 | n+1,s=>match s with
  | .Return (some e) _=>lcE 6 e
  | .Assign _ e _=>lcE 6 e
  | .Expr e _=>lcE 6 e
  | .If c b e _=>lcE 6 c++(b.flatMap (lcS n)++e.flatMap (lcS n))
  | .For _ _ b _ _=>b.flatMap (lcS n)
  | _=>[]
¦lcA(s:Stmt)(i:Nat):Scope:=((aT s).flatMap (lcS 4)).getD i { kind:=.function,names:=[],isGenerator:=false,isCoroutine:=false }
¤Hg:Dj ["field","corner"] ["field","corner"] (ao (top 54)):=smk
¤mi(Hy:Df K mg "steps_back" (top 54))(Dl:FQ K mg "Field" C_Field)(n_room:aX K C_Field "room")(n_last:aX K C_Field "last")(n_doors:aX K C_Field "doors")(n_far:aX K C_Field "far"):Fn P w K mg base "steps_back" ["field","corner"] 1 (Kt K C_Field):=by
 refine Hy.fn Hg (λ_ _ _ _ _ _ us hl=>by @_,_,rfl:=dJ hl;rfl) (λvs H Q E h=>?_) (λf cdv A outer s H vs Q E hr h=>?_)
 ·@fo,c,n,m,room,G,F,i,j,rfl,_:=h
  rfl
 ·@fo,c,n,m,room,G,F,i,j,rfl,fa,hc,⟨hn20,hm20⟩,kq:=h
  !CN:Ge (bV CX0 P w K mg base ["field","corner"] "steps_back" (ao (top 54)) f cdv A outer s H E).nox (lcA (top 54) 0) [("corner",s.heap.objs.size+1)] ["found"] [("corner",1)] :=
   ⟨by rfl,rfl,by decide +kernel,by decide +kernel,(λx hx=>by simp only[List.mem_cons,List.not_mem_nil,or_false]at hx;subst hx;rfl),(λp hp=>by simp only[List.mem_cons,List.not_mem_nil,or_false]at hp;subst hp;rfl),by rfl,by decide +kernel,(λp hp=>by simp only[List.mem_cons,List.not_mem_nil,or_false]at hp;subst hp;§rfl,rfl,.inr (.inl rfl),rfl,rfl),⟨rfl,rfl⟩,rfl⟩
  ?_,(am (aB (vF rfl CN (sj (cS ©0 rfl)) (λfp s₀ H₀=>(aQ (i:=0) CN.nd rfl (Or.inl rfl) (Or.inr rfl))) (λfp s₀ H₀=>(nQ (PW.pt (d8 (aE k6 (ax (fX (K:=K) rfl) ©0 af (λ_ _=>rfl)) (ax (fX (K:=K) rfl) ©1 af (λ_ _=>rfl)) (aG _)) (eC (aE k7 (ax (fX (K:=K) rfl) ©0 af (λ_ _=>rfl)) (ax (fX (K:=K) rfl) ©1 af (λ_ _=>rfl)) (aG _))))))) (λfp s₀ H₀=>(aJ (ad ©0 (ad bI ak)))))));@dx,lt,d,fr,hf,hl,_,fd:=fa.ex;@o,ed:=id fd;!fl:=lP (F:=F) hn20 hm20;¶^,fo,C_Field,dx,_,^,hf,Dl.cls,n_far,rfl,fr,o,^,ed,lV (k:=1) ed (by unfold kvF;rw[List.length_map];~) (zV λp=>decide (p.1<=i) && decide (p.2>=j)) (λe y H'=>eQ K H' (e.1,.no) y) (λe v H H' st h=>h.mono st) ?_ ?_
  ·intro k e b H2 τ Kc Kn he hb s2 hτ kc kn
   obtain⟨τ0,rfl⟩:∃τ0,τ = [τ0]:=eX hτ;!he':=List.mem_of_getElem? he;unfold kvF at he';@p,hp,rfl:=List.mem_map.mp he';@x,y:=p;!kc':(decide (x<=i) && decide (y>=j))=true->∀(y':V) H4,Same H2 H4->eQ K H4 (ck x y,.no) y'->Kc y' H4:=kc;!kn':(decide (x<=i) && decide (y>=j))=false->∀H4,Same H2 H4->Kn H4:=kn;!hb:H2 b=some (.tup [.int x,.int y]):=hb;!hc2:=s2 _ _ hc;?⟨[some (.ref b)],rfl,rfl⟩;¶^,b,_,%,SqT.of hb,rfl,^,c,_,%,SqT.of hc2,rfl,%,^,aY (λc1=>?_) (λc1=>?_)
   ·¶^,b,_,%,SqT.of hb,rfl,^,c,_,%,SqT.of hc2,rfl,%,^,aY (λc2=>?_) (λc2=>?_)
    ·¶^,sz (by simp),λt H3 s3 f3 n3=>?_
     #kc' (by rw[c1,c2];rfl) _ H3 s3 ⟨t,.ref b,.non,rfl,f3,⟨b,rfl,s3 _ _ hb⟩,rfl⟩
    ·#kn' (by rw[c1,c2];rfl) H2 (Same.refl _)
   ·#kn' (by rw[c1];rfl) H2 (Same.refl _)
  ·intro r ys H3 nr s3 f3 pr
   rw[ie]at pr;!pr':Paired (eQ K H3) (bkS F n m i j) ys:=by
    unfold bkS;#o8 (f:=λ(p:Int×Int)=>((ck p.1 p.2,Lb.no):aL×Lb)) (hV (f:=λ(p:Int×Int)=>(ck p.1 p.2,V.bl true)) pr)
   refine kq r H3 s3 nr ⟨ys,f3,pr',?_⟩;rw[<- Paired.length pr'];unfold bkS;rw[List.length_map];#Nat.lt_of_le_of_lt (List.length_filter_le _ _) fl
¤He:Dj ["field","corner"] ["field","corner"] (ao (top 55)):=smk
¤mf(Hw:Df K mg "steps_from" (top 55))(E5:Fn P w K mg base "steps_down" ["field","corner"] 6 (Ko K C_Field))(E3:Fn P w K mg base "steps_over" ["field","corner"] 6 (Ki K C_Field))(E6:Fn P w K mg base "steps_back" ["field","corner"] 1 (Kt K C_Field)):Fn P w K mg base "steps_from" ["field","corner"] 7 (Ke K C_Field):=by
 refine Hw.fn He (λ_ _ _ _ _ _ us hl=>by @_,_,rfl:=dJ hl;rfl) (λvs H Q E h=>?_) (λf cdv A outer s H vs Q E hr h=>?_)
 ·@fo,c,n,m,room,G,F,i,j,rfl,_:=h
  rfl
 ·@fo,c,n,m,room,G,F,i,j,rfl,fa,hc,hi,hj,kq:=h
  ?_,(am (aB (ay iK (ay iK (¢E5 (ad ©0 (ad ©1 ak))) (¢E3 (ad ©0 (ad ©1 ak)))) (¢E6 (ad ©0 (ad ©1 ak))))));¶^,^,fo,c,n,m,room,G,F,i,j,rfl,fa,hc,hi,hj,λr1 H1 s1 n1 ⟨v1,e1,p1,l1⟩=>?_;¶^,^,fo,c,n,m,room,G,F,i,j,rfl,fa.mono s1,s1 _ _ hc,hi,hj,λr2 H2 s2 n2 ⟨v2,e2,p2,l2⟩=>?_;¶r1,r2,v1,v2,rfl,rfl,s2 _ _ e1,e2,sz ~,λr3 H3 s3 e3 n3=>?_;!S3:=s1.trans (s2.trans s3);¶^,^,fo,c,n,m,room,G,F,i,j,rfl,fa.mono S3,S3 _ _ hc,⟨hi.2,hj.2⟩,λr4 H4 s4 n4 ⟨v4,e4,p4,l4⟩=>?_;¶r3,r4,v1++v2,v4,rfl,rfl,s4 _ _ e3,e4,sz (by rw[List.length_append];~),λr5 H5 s5 e5 n5=>?_;!S5:=s3.trans (s4.trans s5);!S:Same H H5:=s1.trans (s2.trans S5);refine kq r5 H5 S ((S3.trans s4).free n5) ⟨_,e5,?_⟩;#kZ (kZ (Paired.mapP p1 λa b x=>eQ.mono x (s2.trans S5).t) (Paired.mapP p2 λa b x=>eQ.mono x S5.t)) (Paired.mapP p4 λa b x=>eQ.mono x s5.t)
¤g9{z:Int}:sg z<=0↔z<=0:=by
 unfold sg
 (repeat' split) <;> ~
¤aV{z:Int}(h:z<=0):ssq z = -(z*z):=by
 unfold ssq;rcases Int.lt_or_eq_of_le h with z'|z'
 ·rw[if_pos z',Int.mul_neg]
 ·rw[z'];rfl
¤aU{z:Int}(h:0<=z):ssq z=z*z:=by
 unfold ssq;rw[if_neg ~]
¤cD{a b:Int}(h0:0<=a)(h:a<=b):a*a<=b*b:=Int.mul_le_mul h h h0 ~
¤qQ{a0 a2 a3 b0 b2 b3 x y:Int}(ha:0<a3)(hb:0<b3)(a2n:0<=a2)(b2n:0<=b2)(hw:a0*b3 - b0*a3=x*b3 - y*a3)(hx:x<=0\/x*x<=a2)(hy:0<=y\/y*y<=b2):ro a0 (-1) a2 a3 b0 1 b2 b3<=0:=by
 unfold ro;rw[hw];!e1:(-1:Int)*b3 = -b3:= ~
 !e2:-(1:Int)*a3 = -a3:= ~
 rw[e1,e2];obtain⟨α,α0,αx,αs⟩:∃α:Int,0<=α/\x*b3<=α/\α*α<=b3*b3*a2:=by
  rcases Int.lt_or_le 0 x with z|z
  ·!hx:x*x<=a2:=hx.resolve_left ~
   ?x*b3,Int.mul_nonneg ~ ~,Int.le_refl _;!:=Int.mul_le_mul_of_nonneg_left hx (show 0<=b3*b3 from Int.mul_nonneg ~ ~);!e:x*b3*(x*b3)=b3*b3*(x*x):=by grind
   ~
  ·§0,Int.le_refl _,Int.mul_nonpos_of_nonpos_of_nonneg z ~,(by rw[Int.mul_zero];#Int.mul_nonneg (Int.mul_nonneg ~ ~) a2n)
 obtain⟨β,β0,βy,βs⟩:∃β:Int,0<=β/\-(y*a3)<=β/\β*β<=a3*a3*b2:=by
  rcases Int.lt_or_le y 0 with z|z
  ·!hy:y*y<=b2:=hy.resolve_left ~
   !yn:y*a3<=0:=Int.mul_nonpos_of_nonpos_of_nonneg ~ ~;?-(y*a3),~,Int.le_refl _;!:=Int.mul_le_mul_of_nonneg_left hy (show 0<=a3*a3 from Int.mul_nonneg ~ ~);!e:-(y*a3) * -(y*a3)=a3*a3*(y*y):=by grind
   ~
  ·!:0<=y*a3:=Int.mul_nonneg z ~
   §0,Int.le_refl _,~,(by rw[Int.mul_zero];#Int.mul_nonneg (Int.mul_nonneg ~ ~) b2n)
 !wl:x*b3 - y*a3<=α+β:= ~
 generalize x*b3 - y*a3=w at *;unfold cR;!n1:ssq (-b3)*a2+ssq (-a3)*b2 = -(b3*b3*a2+a3*a3*b2):=by
  rw[aV (show -b3<=0 by omega),aV (show -a3<=0 by omega)]
  grind
 rw[n1];!X0:0<=b3*b3*a2:=Int.mul_nonneg (Int.mul_nonneg ~ ~) a2n;!Y0:0<=a3*a3*b2:=Int.mul_nonneg (Int.mul_nonneg ~ ~) b2n;!sN:sg (-(b3*b3*a2+a3*a3*b2))<=0:=g9.mpr ~
 split
 ·rename_i c
  rcases Int.lt_or_le 0 w with z|z
  ·!sw:sg w=1:=cP z
   rw[sw,Int.one_mul]at c;!s0:¬-(b3*b3*a2+a3*a3*b2)<0:=λh=>by rw[d6 h]at c;~
   !hX:b3*b3*a2=0:= ~
   !hY:a3*a3*b2=0:= ~
   !hα:α=0:=by
    rcases Int.lt_or_eq_of_le α0 with h|h
    ·!:=Int.mul_pos h h;~
    ·#h.symm
   !hβ:β=0:=by
    rcases Int.lt_or_eq_of_le β0 with h|h
    ·!:=Int.mul_pos h h;~
    ·#h.symm
   ~
  ·#g9.mpr (by !:=g9.mpr z;~)
 ·rename_i c
  !z:0<w:=by
   rcases Int.lt_or_le 0 w with z|z
   ·#z
   ·#absurd (Int.mul_nonneg_of_nonpos_of_nonpos (g9.mpr z) sN) ~
  rw[cP z,Int.one_mul];unfold swr;refine g9.mpr ?_;!e3:w*w - -b3 * -b3*a2 - -a3 * -a3*b2=w*w - b3*b3*a2 - a3*a3*b2:=by grind
  !e4:-2 * -b3 * -a3 = -(2*b3*a3):=by grind
  !e5:ssq (-(2*b3*a3))*(a2*b2) = -(4*(b3*b3*a2)*(a3*a3*b2)):=by
   rw[aV (by !:=Int.mul_nonneg (show 0<=2*b3 by omega) (show 0<=a3 by omega);~)]
   grind
  rw[e3,e4,e5];!w2:=cD (show 0<=w by omega) wl;!ex:(α+β)*(α+β)=α*α+β*β+2*(α*β):=by grind
  !ab0:=Int.mul_nonneg α0 β0;generalize b3*b3*a2=X at *;generalize a3*a3*b2=Y at *;!zl:w*w - X - Y<=2*(α*β):= ~
  !XY:α*β*(α*β)<=X*Y:=by
   !:=Int.mul_le_mul αs βs (Int.mul_nonneg β0 β0) X0;!e:α*β*(α*β)=α*α*(β*β):=by grind
   ~
  rcases Int.lt_or_le 0 (w*w - X - Y) with z2|z2
  ·rw[aU ~]
   !:=cD (show 0<=w*w - X - Y by omega) zl;!e:2*(α*β)*(2*(α*β))=4*(α*β*(α*β)):=by grind
   !e':4*X*Y=4*(X*Y):=by grind
   ~
  ·rw[aV z2]
   !h1:0<=(w*w - X - Y)*(w*w - X - Y):=Int.mul_nonneg_of_nonpos_of_nonpos z2 z2;!h2:=Int.mul_nonneg X0 Y0;!e':4*X*Y=4*(X*Y):=by grind
   ~
inductive GK:N4->Prop
 | b:GK (0,0,0,1)
 | n {P U L:Int} (hL:0<L) (hU:0<=U) (h:P - L<=0\/(P - L)*(P - L)<=U) (z:0<=P/\U<=P*P):GK (P,-1,U,L)
inductive HN:N4->Prop
 | e:HN (1,0,0,1)
 | n {P U L:Int} (hL:0<L) (hU:0<=U) (h:0<=P\/P*P<=U) (z:P - L<=0/\U<=(P - L)*(P - L)):HN (P,1,U,L)
¤y7{P U L:Int}(hU:0<=U)(h:0<=ro 1 0 0 1 P (-1) U L):P - L<=0\/(P - L)*(P - L)<=U:=by
 rw[eB P (-1) U L 1 0 0 1,cg,Int.mul_one,Int.one_mul,show -1*(1:Int) = -1 from rfl]at h;!:=mt (l8 (W:=P - L) hU).1.mpr ~;~
¤yZ{P U L:Int}(hU:0<=U)(h:0<=ro P 1 U L 0 0 0 1):0<=P\/P*P<=U:=by
 rw[cg,Int.mul_one,Int.zero_mul,Int.sub_zero,show(1:Int)*1=1 from rfl]at h;!:=mt (nZ (W:=P) hU).1.mpr ~;~
¤Aq{P U L:Int}(hU:0<=U)(h:¬ro P (-1) U L 0 0 0 1<0):0<=P/\U<=P*P:=by
 rw[cg,Int.mul_one,Int.zero_mul,Int.sub_zero,show -1*(1:Int) = -1 from rfl]at h;!:=mt (l8 (W:=P) hU).2.2.mpr h;~
¤AG{P U L:Int}(hU:0<=U)(h:¬ro P 1 U L 1 0 0 1>0):P - L<=0/\U<=(P - L)*(P - L):=by
 rw[cg,Int.mul_one,Int.one_mul,show(1:Int)*1=1 from rfl]at h;!:=mt (nZ (W:=P - L) hU).2.2.mpr h;~
¤bR{l m:N4}(g:KA l m):GK l/\HN m:=by
 cases g with
 | flat=>§.b,.e
 | gate hL hU h1 h2 =>
  ¶?_,?_
  ·unfold fK
   split
   ·#.b
   ·rename_i c
    #.n hL hU (y7 hU h1) (Aq hU c)
  ·unfold dP
   split
   ·#.e
   ·rename_i c
    #.n hL hU (yZ hU h2) (AG hU c)
¦GGk(G:GF):Prop:=∀k i j l h,G k i j=some (l,h)->KA l h
¤fj{qs rs:Crn}{a b room:Int}(hr:room=0\/room=1)(hb:0<b):GGk (bS qs rs a b room):=by
 intro k i j l h e;unfold bS at e
 split at e
 ·#wo hr hb e
 ·#wo hr hb e
¤As{x y x' y' a b:Int}:lo x y x' y' a b<0↔a<((x' - x)*(x' - x)+(y' - y)*(y' - y))*b:=by
 unfold lo;!:=(mP (x:=a - ((x' - x)*(x' - x)+(y' - y)*(y' - y))*b)).1;~
¤wK{qs rs:Crn}{a b:Int}{i j:Int}(hi:0<=i/\i<(qs.length:Int))(hj:0<=j/\j<(rs.length:Int)):fk qs rs a b 0 i j=decide (a<((cnX rs j - cnX qs i)*(cnX rs j - cnX qs i)+(cnY rs j - cnY qs i)*(cnY rs j - cnY qs i))*b):=by
 !hi':i.toNat<qs.length:= ~
 !hj':j.toNat<rs.length:= ~
 !e1:qs[i.toNat]? = some (qs.getD i.toNat (0,0,0)):=by rw[List.getD_eq_getElem?_getD,List.getElem?_eq_getElem hi'];rfl
 !e2:rs[j.toNat]? = some (rs.getD j.toNat (0,0,0)):=by rw[List.getD_eq_getElem?_getD,List.getElem?_eq_getElem hj'];rfl
 unfold fk;rw[e1,e2];dsimp only;!:=As (x:=cnX qs i) (y:=cnY qs i) (x':=cnX rs j) (y':=cnY rs j) (a:=a) (b:=b)
 by_cases h:a<((cnX rs j - cnX qs i)*(cnX rs j - cnX qs i)+(cnY rs j - cnY qs i)*(cnY rs j - cnY qs i))*b
 ·rw[decide_eq_true h]
  #decide_eq_true (this.mpr h)
 ·rw[decide_eq_false h]
  #decide_eq_false (λz=>h (this.mp z))
¤pN{P U L:Int}(hU:0<=U)(h:P - L<=0\/(P - L)*(P - L)<=U):ro P (-1) U L 1 0 0 1<=0:=by
 rw[cg,Int.mul_one,Int.one_mul,show -1*(1:Int) = -1 from rfl];!:=mt (l8 (W:=P - L) hU).1.mp ~;~
¤js{P U L:Int}(hU:0<=U)(h:0<=P\/P*P<=U):ro 0 0 0 1 P 1 U L<=0:=by
 rw[eB P 1 U L 0 0 0 1,cg,Int.mul_one,Int.zero_mul,Int.sub_zero,show(1:Int)*1=1 from rfl];!:=mt (nZ (W:=P) hU).1.mp ~;~
¤ko{l m:N4}(g:KA l m):ro4 l m<=0:=by
 cases g with
 | flat=>decide
 | @gate P U L hL hU h1 h2 =>
  unfold fK dP
  split
  ·split
   ·decide
   ·#js hU (yZ hU h2)
  ·split
   ·#pN hU (y7 hU h1)
   ·#qQ (x:=0) (y:=0) hL hL hU hU ~ (.inl (Int.le_refl _)) (.inl (Int.le_refl _))
¤zK{l m:N4}(hl:GK l)(hm:HN m)(w:gtB m 1 1<1):ro4 l m<=0:=by
 cases hm with
 | e=>cases hl with
  | b=>decide
  | n _ hU h _=>#pN hU h
 | @n P U L hL hU h _ =>
  !w:ro 1 0 0 1 P 1 U L<1:=w;cases hl with
  | b=>#js hU h
  | @n P' U' L' hL' hU' h' _ =>
   refine qQ (x:=P' - L') (y:=P - L) hL' hL hU' hU (by grind) h' ?_;rw[eB P 1 U L 1 0 0 1,cg,Int.mul_one,Int.one_mul,show(1:Int)*1=1 from rfl]at w;!:=mt (nZ (W:=P - L) hU).1.mpr ~;~
¤A6{l m:N4}(hl:GK l)(hm:HN m)(w:ltB l 0 1<1):ro4 l m<=0:=by
 cases hl with
 | b=>cases hm with
  | e=>decide
  | n _ hU h _=>#js hU h
 | @n P U L hL hU h _ =>
  !w:ro P (-1) U L 0 0 0 1<1:=w;cases hm with
  | e=>#pN hU h
  | @n P' U' L' hL' hU' h' _ =>
   refine qQ (x:=P) (y:=P') hL hL' hU hU' rfl ?_ h';rw[cg,Int.mul_one,Int.zero_mul,Int.sub_zero,show -1*(1:Int) = -1 from rfl]at w;!:=mt (l8 (W:=P) hU).1.mpr ~;~
¤rN{o:Option (N4×N4)}{t u:Int}(h:eS o t u=true):∃p,o=some p/\ltB p.1 t u<1/\gtB p.2 t u<1:=by
 cases o with
 | none=>cases h
 | some p =>
  !h:(decide (ltB p.1 t u<1) && decide (gtB p.2 t u<1))=true:=h;rw[Bool.and_eq_true,decide_eq_true_eq,decide_eq_true_eq]at h;§p,rfl,h.1,h.2
section
variable {qs rs:Crn} {a b:Int} {n m:Nat}
¤wx(hb:0<b)(en:qs.length=n+1)(em:rs.length=m+1)(i j:Nat)(hi:i<=n)(hj:j<m)(f:fk qs rs a b 0 (i:Int) ((j+1:Nat):Int)=false):∃p,bS qs rs a b 0 0 (i:Int) (j:Int)=some p/\∀(k:Nat) p',bS qs rs a b 0 0 (k:Int) (j:Int)=some p'->ro4 p'.1 p.2<=0:=by
 !gg:GGk (bS qs rs a b 0):=fj (.inl rfl) hb;!w:=(fP (cx:=cnX qs i) (cy:=cnY qs i) (bx:=cnX rs j) (by_:=cnY rs j) (ex:=cnX rs ((j:Int)+1)) (ey:=cnY rs ((j:Int)+1)) (x:=a) (y:=b) (a:=1) (b:=1) hb & & &).1;rw[wK ~ ~]at f;!f:=of_decide_eq_false f;!ej:((j+1:Nat):Int)=(j:Int)+1:= ~
 rw[ej]at f;!e1:wth (cnX qs i) (cnY qs i) (cnX rs j) (cnY rs j) (cnX rs ((j:Int)+1)) (cnY rs ((j:Int)+1)) 1 1=(cnX rs ((j:Int)+1) - cnX qs i)*(cnX rs ((j:Int)+1) - cnX qs i)+(cnY rs ((j:Int)+1) - cnY qs i)*(cnY rs ((j:Int)+1) - cnY qs i):=by unfold wth du rAl;grind
 rw[e1,decide_eq_true ~]at w;@p,hp,_,h2:=rN w;¶p,hp,λk p' hp'=>?_;#zK (bR (gg _ _ _ _ _ hp')).1 (bR (gg 0 i j _ _ hp)).2 h2
¤wA(hb:0<b)(en:qs.length=n+1)(em:rs.length=m+1)(i j:Nat)(hi:i<n)(hj:j<=m)(f:fk qs rs a b 0 (i:Int) (j:Int)=false):∃p,bS qs rs a b 0 1 (i:Int) (j:Int)=some p/\∀(k:Nat) p',bS qs rs a b 0 1 (i:Int) (k:Int)=some p'->ro4 p.1 p'.2<=0:=by
 !gg:GGk (bS qs rs a b 0):=fj (.inl rfl) hb;!w:=(fP (cx:=cnX rs j) (cy:=cnY rs j) (bx:=cnX qs i) (by_:=cnY qs i) (ex:=cnX qs ((i:Int)+1)) (ey:=cnY qs ((i:Int)+1)) (x:=a) (y:=b) (a:=0) (b:=1) hb & & &).1;rw[wK ~ ~]at f;!f:=of_decide_eq_false f;!e1:wth (cnX rs j) (cnY rs j) (cnX qs i) (cnY qs i) (cnX qs ((i:Int)+1)) (cnY qs ((i:Int)+1)) 0 1=(cnX rs j - cnX qs i)*(cnX rs j - cnX qs i)+(cnY rs j - cnY qs i)*(cnY rs j - cnY qs i):=by unfold wth;grind
 rw[e1,decide_eq_true ~]at w;@p,hp,h1,_:=rN w;!hp:bS qs rs a b 0 1 (i:Int) (j:Int)=some p:=hp;¶p,hp,λk p' hp'=>?_;#A6 (bR (gg _ _ _ _ _ hp)).1 (bR (gg _ _ _ _ _ hp')).2 h1
end
¦mG(wy:Str)(n m:Nat)(F:Int->Int->Bool):List (Int×Int):=(mF n m F).filter λp=>decide (p.2=(m:Int)) || (decide (wy≠ce) && decide (p.1=0))
¦uI(wy:Str)(n:Nat):aL->Bool
 | [.inl i,.inl j]=>decide (j=0) || (decide (wy≠ce) && decide (i=(n:Int)))
 | _=>false
¦NoW(wy:Str)(n m:Nat)(G:GF)(F:Int->Int->Bool):Prop:=(wy=wOn->F n m=true\/(RR wy G F n m (0,((n - 1:Nat):Int),((m - 1:Nat):Int))=none/\RR wy G F n m (1,((n - 1:Nat):Int),((m - 1:Nat):Int))=none))/\(wy=ce->∀j:Nat,j<m->RR wy G F n m (0,(n:Int),(j:Int))=none)
¤dY:¬wOn=ce:=by decide +kernel
¤xY{qs rs:Crn}{a b:Int}{n m:Nat}{wy:Str}(hb:0<b)(en:qs.length=n+1)(em:rs.length=m+1)(hn:1<=n)(hm:1<=m)(hw:wy=wOn\/wy=ce)(W:NoW wy n m (bS qs rs a b 0) (fk qs rs a b 0)):¬yJ ((mG wy n m (fk qs rs a b 0)).map λp=>ck p.1 p.2) (kL 0 (bS qs rs a b 0) (fk qs rs a b 0) n m) (uI wy n):=by
 rintro⟨R,r0,r1,r2⟩;!gg:GGk (bS qs rs a b 0):=fj (.inl rfl) hb;!GT:=wx (a:=a) hb en em;!GL:=wA (a:=a) hb en em;generalize bS qs rs a b 0=G at *;generalize fk qs rs a b 0=F at *
 let S:Nat->Nat->Prop:=λp q=>(p<=n/\q<=m)/\ck (p:Int) (q:Int)∈R
 !beg:∀p q:Nat,p<=n->q<=m->F p q=true->(q=m\/(wy≠ce/\p=0))->S p q:=λp q hp hq f h=>by
  ¶⟨hp,hq⟩,r0 _ (List.mem_map.mpr ⟨((p:Int),(q:Int)),List.mem_filter.mpr ⟨dI.mpr ⟨~,~,~,~,f⟩,?_⟩,rfl⟩);rcases h with h|⟨h1,h2⟩
  ·rw[decide_eq_true (show((p:Int),(q:Int)).2=(m:Int) by rw[h]),Bool.true_or]
  ·rw[decide_eq_true h1,decide_eq_true (show((p:Int),(q:Int)).1=0 by rw[h2];rfl),Bool.true_and,Bool.or_true]
 !stp:∀{i j:Nat} {e:aL×Lb},S i j->e∈(dnS 0 G i j++ovS 0 G n m i j)++bkS F n m i j->e.1∈R:=λs h=>r1 _ s.2 _ h;!bk:∀i j p q:Nat,S i j->p<=i->j<=q->q<=m->F p q=true->S p q:=λi j p q s h1 h2 h3 f=>by
  !hi:=s.1.1;¶⟨~,h3⟩,stp (e:=(ck (p:Int) (q:Int),.no)) s (List.mem_append_right _ (List.mem_map.mpr ⟨((p:Int),(q:Int)),List.mem_filter.mpr ⟨dI.mpr ⟨~,~,~,~,f⟩,?_⟩,rfl⟩));rw[decide_eq_true (show((p:Int),(q:Int)).1<=(i:Int) from Int.ofNat_le.mpr h1),decide_eq_true (show((p:Int),(q:Int)).2>=(j:Int) from Int.ofNat_le.mpr h2)];rfl
 !e0:∀i j:Nat,S i j->j≠0/\(wy≠ce->i≠n):=λi j s=>by
  !h:(decide ((j:Int)=0) || (decide (wy≠ce) && decide ((i:Int)=(n:Int))))=false:=r2 _ s.2;rw[Bool.or_eq_false_iff,decide_eq_false_iff_not]at h;¶λz=>h.1 (by rw[z];rfl),λhp z=>?_;rw[decide_eq_true hp,Bool.true_and,decide_eq_false_iff_not]at h;#h.2 (by rw[z])
 !D:Fp n m G (λi j=>F i j) S (λp q=>(∃p' q',p<=p'/\q'<=q/\S p' q')\/(wy≠ce/\p=0/\1<=q)):=by
  ¶λx y q h t=>?_,λp q q' h t=>?_,λp q hp hq t f=>?_,λp q s=>.inl ⟨p,q,Nat.le_refl _,Nat.le_refl _,s⟩,λp hp f=>beg p m hp (Nat.le_refl _) f (.inl rfl),?_,?_,?_,?_,λk i j p h=>ko (gg k i j _ _ h),GT,GL
  ·rcases t with⟨p',q',h1,h2,s⟩|⟨h1,h2,h3⟩
   ·#.inl ⟨p',q',~,h2,s⟩
   ·#.inr ⟨h1,~,h3⟩
  ·rcases t with⟨p',q'',h1,h2,s⟩|⟨h1,h2,h3⟩
   ·#.inl ⟨p',q'',h1,~,s⟩
   ·#.inr ⟨h1,h2,~⟩
  ·rcases t with⟨p',q',h1,h2,s⟩|⟨h1,h2,h3⟩
   ·#bk p' q' p q s h1 h2 hq f
   ·#beg p q hp hq f (.inr ⟨h1,h2⟩)
  ·intro i j hi hj s g
   ¶⟨hi,~⟩,stp (e:=(ck (i:Int) (j:Int),.no)) s (List.mem_append_left _ (List.mem_append_left _ ?_));unfold dnS;rw[if_neg ~,show((j+1:Nat):Int) - 1=(j:Int) by omega,g];#List.mem_singleton.mpr rfl
  ·intro i j k p p' hi hj s hk g g' lt
   ¶⟨~,~⟩,stp (e:=(ck (k:Int) (j:Int),.bend (dk 0 i j) (dk 0 (k:Int) j) p.2 p'.1)) s (List.mem_append_left _ (List.mem_append_left _ ?_));unfold dnS;rw[if_neg ~,show((j+1:Nat):Int) - 1=(j:Int) by omega,g];refine List.mem_filterMap.mpr ⟨k,List.mem_range.mpr ~,?_⟩;unfold dnE;rw[g,g'];show(if ro4 p.2 p'.1>=0 then none else some (p.2,p'.1)).map _=_
   rw[if_neg ~];rfl
  ·intro i j hi hj s g
   ?⟨~,hj⟩;!:=stp (e:=(ck ((i:Int)+1) (j:Int),.no)) s (List.mem_append_left _ (List.mem_append_right _ (by
    unfold ovS;rw[if_neg ~,g];#List.mem_singleton.mpr rfl)))
   rw[show((i+1:Nat):Int)=(i:Int)+1 by omega];#this
  ·intro i j k p p' hi hk hkm s g g' lt
   ?⟨~,hkm⟩;!ek:(j:Int)+1+((k - j - 1:Nat):Int)=(k:Int):= ~
   !:=stp (e:=(ck ((i:Int)+1) (k:Int),.bend (dk 1 i j) (dk 1 i (k:Int)) p'.2 p.1)) s (List.mem_append_left _ (List.mem_append_right _ (by
    unfold ovS;rw[if_neg ~,g];refine List.mem_filterMap.mpr ⟨k - j - 1,List.mem_range.mpr ~,?_⟩;unfold ovE;rw[ek,g,g'];show(if ro4 p'.2 p.1>=0 then none else some (p'.2,p.1)).map _=_
    rw[if_neg ~];rfl)))
   rw[show((i+1:Nat):Int)=(i:Int)+1 by omega];#this
 !n00:¬((∃p' q',0<=p'/\q'<=0/\S p' q')\/(wy≠ce/\0=0/\1<=0)):=by
  rintro(⟨p',q',_,h,s⟩|⟨_,_,h⟩)
  ·#(e0 p' q' s).1 ~
  ·~
 rcases hw with rfl|rfl
 ·!F0:F 0 0=false:=by
   cases f:F 0 0 with
   | false=>rfl
   | true=>#absurd rfl (e0 0 0 (beg 0 0 ~ ~ f (.inr ⟨dY,rfl⟩))).1
  !h0:bgR wOn G F m 0=some ⟨(0,0,0,1),(0,0,0,1),none⟩:=by
   unfold bgR;rw[if_pos rfl,if_pos ⟨rfl,F0⟩]
  !L:=D.last (bg:=bgR wOn G F m) (j0:=0) ⟨~,n00,.inl (.inr ⟨dY,rfl,Nat.le_refl _⟩)⟩ h0 (λb _ _ _ p hp=>by
   show ro4 (0,0,0,1) p.2<=0;!:=(bR (gg _ _ _ _ _ hp)).2;generalize p.2=z at this;cases this with
   | e=>decide
   | n _ hU h _=>#js hU h) hn (λq=>by
   rintro(⟨p',q',h1,_,s⟩|⟨_,h,_⟩)
   ·#(e0 p' q' s).2 dY (by !:=s.1.1;~)
   ·~)
  rcases W.1 rfl with f|⟨w1,w2⟩
  ·#(e0 n m (beg n m (Nat.le_refl _) (Nat.le_refl _) f (.inl rfl))).2 dY rfl
  ·rw[oK ~ ~]at w1
   rw[qF ~ ~]at w2;rcases L with L|L
   ·rw[w1]at L;cases L
   ·rw[w2]at L;cases L
 ·@j0,_,a0:=pI D (i:=0) (j:=0) ~ n00
  @p,hp,ok:=D.openU (Nat.zero_le _) a0;!h0:bgR ce G F m j0=some ⟨p.1,p.2,none⟩:=by
   unfold bgR;rw[if_neg (λz=>dY z.symm),if_pos a0.1];!hp:G 0 0 (j0:Int)=some p:=hp;rw[hp];rfl
  @j,r,aj,hu,_:=D.all a0 h0 ok n (Nat.le_refl _);!:=W.2 rfl j aj.1;rw[oK (Nat.le_refl _) aj.1,hu]at this;cases this
¤kD{x M:Int}{n:Nat}(h:ar x<=n)(e:((2^n:Nat):Int)<=M):-M<=x/\x<=M:=by
 !:=dm h;~
¤sJ{K:W.Frag}{H H':Hp}{p q:Addr}{l m:N4}(n1:Nm K H p l)(n2:Nm K H' q m)(h:ro4 l m<0):∀F G,Rm l.1 l.2.1 l.2.2.1 l.2.2.2 m.1 m.2.1 m.2.2.1 m.2.2.2 11 F G->F+1+2<=-G - 1:=by
 !ho:ro l.1 l.2.1 l.2.2.1 l.2.2.2 m.1 m.2.1 m.2.2.1 m.2.2.2 = -1:=by
  !h:ro l.1 l.2.1 l.2.2.1 l.2.2.2 m.1 m.2.1 m.2.2.1 m.2.2.2<0:=h;!:=(BO l.1 l.2.1 l.2.2.1 l.2.2.2 m.1 m.2.1 m.2.2.1 m.2.2.2).1;~
 !w:ar (l.1*m.2.2.2 - m.1*l.2.2.2)<=484:=aq (a9 (bits_mul n1.b0 n2.b3) (bits_mul n2.b0 n1.b3)) &;!k1:ar (l.2.1*m.2.2.2*(l.2.1*m.2.2.2)*l.2.2.1)<=960:=aq (bits_mul (bits_mul (bits_mul n1.b1 n2.b3) (bits_mul n1.b1 n2.b3)) n1.b2) &;!k2:ar (m.2.1*l.2.2.2*(m.2.1*l.2.2.2)*m.2.2.1)<=960:=aq (bits_mul (bits_mul (bits_mul n2.b1 n1.b3) (bits_mul n2.b1 n1.b3)) n2.b2) &;!k4:ar (4*(l.2.2.2*m.2.2.2))<=500:=aq (bits_mul (m:=10) & (bits_mul n1.b3 n2.b3)) &;!p3:0<l.2.2.2:=n1.p3;!q3:0<m.2.2.2:=n2.p3;#Sp6.room (K:=2^584) (S:=2^1464) (M:=2^485) n1.p2 p3 n2.p2 q3 ho (by decide +kernel) (by show(2:Int)^2048=_;decide +kernel) ⟨by decide +kernel,by decide +kernel⟩ (kD w (by decide +kernel)) (kD k1 (by decide +kernel)).2 (kD k2 (by decide +kernel)).2 (kD k4 (by decide +kernel)).2
¤zT{a k z:Int}(ha:a≠0)(h:a*a*k=z*z):∃r,0<=r/\r*r=k:=by
 !d:a.natAbs^2∣z.natAbs^2:=by
  ?k.natAbs;!:=congrArg Int.natAbs h;rw[Int.natAbs_mul,Int.natAbs_mul,Int.natAbs_mul]at this;rw[Nat.pow_two,Nat.pow_two];#this.symm
 @c,hc:=(Nat.pow_dvd_pow_iff &).mp d;?(c:Int),(~);!e1:z*z=a*a*((c:Int)*c):=by
  !e2:z*z=((z.natAbs*z.natAbs:Nat):Int):=(Int.natAbs_mul_self).symm;!e3:a*a=((a.natAbs*a.natAbs:Nat):Int):=(Int.natAbs_mul_self).symm;rw[e2,e3,hc]
  push_cast
  grind
 !e4:a*a*k=a*a*((c:Int)*c):=by rw[h,e1]
 !hn:a*a≠0:=λz=>by rcases Int.mul_eq_zero.mp z with z|z <;> #ha z
 #(Int.eq_of_mul_eq_mul_left hn e4).symm
¤xF{P U L P' U' L':Int}(hL:0<L)(hL':0<L')(hU:0<=U)(hU':0<=U')(h:ro P (-1) U L P' 1 U' L'=0):∃R,0<=R/\R*R=U:=by
 unfold ro at h;!e1:(-1:Int)*L' = -L':= ~
 !e2:-(1:Int)*L = -L:= ~
 rw[e1,e2]at h;generalize P*L' - P'*L=D at h;unfold cR at h;!n1:ssq (-L')*U+ssq (-L)*U' = -(L'*L'*U+L*L*U'):=by
  rw[aV (show -L'<=0 by omega),aV (show -L<=0 by omega)]
  grind
 rw[n1]at h;!X0:0<=L'*L'*U:=Int.mul_nonneg (Int.mul_nonneg ~ ~) hU;!Y0:0<=L*L*U':=Int.mul_nonneg (Int.mul_nonneg ~ ~) hU';!z0:L'*L'*U=0->∃R,0<=R/\R*R=U:=λz=>by
  !hn:L'*L'≠0:=λy=>by rcases Int.mul_eq_zero.mp y with y|y <;> ~
  rcases Int.mul_eq_zero.mp z with y|y
  ·#absurd y hn
  ·§0,&,(by rw[y];rfl)
 !sg0:∀{x:Int},sg x=0->x=0:=λ{x} h=>by
  unfold sg at h
  split at h
  ·cases h
  ·split at h
   ·cases h
   ·~
 split at h
 ·rename_i c
  !h':=sg0 h
  by_cases hN:L'*L'*U+L*L*U'=0
  ·#z0 ~
  ·!sN:sg (-(L'*L'*U+L*L*U')) = -1:=d6 ~
   rw[sN]at h' c;~
 ·rename_i c
  !hD:0<D:=by
   rcases Int.lt_or_le 0 D with z|z
   ·#z
   ·#absurd (Int.mul_nonneg_of_nonpos_of_nonpos (g9.mpr z) (g9.mpr (show -(L'*L'*U+L*L*U')<=0 by omega))) ~
  rw[cP hD,Int.one_mul]at h;unfold swr at h;!h:=sg0 h;!e3:D*D - -L' * -L'*U - -L * -L*U'=D*D - L'*L'*U - L*L*U':=by grind
  !e5:ssq (-2 * -L' * -L)*(U*U') = -(4*(L'*L'*U)*(L*L*U')):=by
   rw[show -2 * -L' * -L = -(2*L'*L) by grind,aV (by !:=Int.mul_nonneg (show 0<=2*L' by omega) (show 0<=L by omega);~)]
   grind
  rw[e3,e5]at h;!key:(2*D*L')*(2*D*L')*U=(D*D+L'*L'*U - L*L*U')*(D*D+L'*L'*U - L*L*U'):=by
   !e6:(2*D*L')*(2*D*L')*U=4*(D*D)*(L'*L'*U):=by grind
   rw[e6];generalize L'*L'*U=X at *;generalize L*L*U'=Y at *;!zz:(D*D - X - Y)*(D*D - X - Y)=4*X*Y:=by
    rcases Int.lt_or_le (D*D - X - Y) 0 with z|z
    ·rw[aV ~]at h
     !h1:0<(D*D - X - Y)*(D*D - X - Y):=Int.mul_pos_of_neg_of_neg z z;!h2:=Int.mul_nonneg X0 Y0;!e':4*X*Y=4*(X*Y):=by grind
     ~
    ·rw[aU z]at h
     ~
   generalize D*D=E at *
   grind
  !nz:2*D*L'≠0:=by
   !:=Int.mul_pos (show 0<2*D by omega) hL';~
  #zT nz key
¦PG(l m:N4)(t u:Int):Prop :=
 if ro4 l (0,0,0,1)=0 then t=0/\u=1 else if ro4 m (1,0,0,1)=0 then t=1/\u=1
 else if ro4 l m=0 then ∃R,(0<=R/\R*R=l.2.1*l.2.1*l.2.2.1)/\E2 (l.1+sg l.2.1*R) l.2.2.2 t u
 else Wi l.1 l.2.1 l.2.2.1 l.2.2.2 m.1 m.2.1 m.2.2.1 m.2.2.2 t u
inductive Kg (K:W.Frag) (vs:List V) (H:Hp) (Q:VK) (x_3:XK):Prop
 | mk:∀(p q:Addr) (l m:N4),(vs = [.ref p,.ref q])->(Nm K H p l)->(Nm K H q m)->(ro4 l m<=0)->((l=(0,0,0,1)\/(GK l/\HN m)))->(∀(r:Addr) (t u:Int) (H':Hp),Same H H'->Jh H' r t u 2600->PG l m t u->0<=t->t<=u->Q (.ref r) H')->Kg K vs H Q x_3
¤uU{P U L b0 b1 b2 b3 t u:Int}(hL:0<L)(hU:0<=U)(hu:0<u)(b2n:0<=b2)(b3p:0<b3)(z:0<=P/\U<=P*P)(w:Wi P (-1) U L b0 b1 b2 b3 t u):0<=t:=by
 @m1,_:=w.mid hU hL b2n b3p;rcases Int.lt_or_le t 0 with y|y
 ·exfalso
  !a1:=Int.mul_nonneg z.1 (show 0<=u by omega);!a2:0 < -(t*L):=by !:=Int.mul_neg_of_neg_of_pos y hL;~
  rw[aU (show 0<=P*u - t*L by omega),aV (show -1*u<=0 by omega)]at m1;!b1:=cD a1 (show P*u<=P*u - t*L by omega);!b2:=Int.mul_le_mul_of_nonneg_left z.2 (show 0<=u*u from Int.mul_nonneg ~ ~);!e1:-(-1*u*(-1*u))*U = -(u*u*U):=by grind
  !e2:u*u*(P*P)=P*u*(P*u):=by grind
  ~
 ·#y
¤yT{a0 a1 a2 a3 P U L t u:Int}(hL:0<L)(hU:0<=U)(hu:0<u)(a2n:0<=a2)(a3p:0<a3)(z:P - L<=0/\U<=(P - L)*(P - L))(w:Wi a0 a1 a2 a3 P 1 U L t u):t<=u:=by
 @_,m2:=w.mid a2n a3p hU hL;rcases Int.lt_or_le u t with y|y
 ·exfalso
  !a1:0<=u*(L - P):=Int.mul_nonneg ~ ~;!a2:u*(L - P)<=t*L - P*u:=by
   !:=Int.mul_le_mul_of_nonneg_right (show u<=t by omega) (show 0<=L by omega);!e:u*(L - P)=u*L - P*u:=by grind
   ~
  rw[aU (show 0<=t*L - P*u by omega),aV (show -1*u<=0 by omega)]at m2;!b1:=cD a1 a2;!b2:=Int.mul_le_mul_of_nonneg_left z.2 (show 0<=u*u from Int.mul_nonneg ~ ~);!e1:-(-1*u*(-1*u))*U = -(u*u*U):=by grind
  !e2:u*u*((P - L)*(P - L))=u*(L - P)*(u*(L - P)):=by grind
  ~
 ·#y
¤HS:Dj ["low","high"] ["low","high"] (ao (top 43)):=smk
¤oq{C pB pE:Addr}(HW:Df K mg "part_from" (top 43))(EB:mg "BEGIN" = some (.ref pB))(GW:mg "END" = some (.ref pE))(hB:∀H,SqT K H pB [.int 0,.int 0,.int 0,.int 1])(hE:∀H,SqT K H pE [.int 1,.int 0,.int 0,.int 1])(Dm:Fn P w K mg base "root_order" ["one","other"] 4 (Ih K))(DH:Fx P w K mg base "root_between" ["one","other"] 5 [] (JO K C)):Fn P w K mg base "part_from" ["low","high"] 6 (Kg K):=by
 refine HW.fn HS (λ_ _ _ _ _ _ us hl=>by @_,_,rfl:=dJ hl;rfl) (λvs H Q E h=>?_) (λf cdv A outer s H vs Q E hr h=>?_)
 ·@p,q,l,m,rfl,_:=h
  rfl
 ·@p,q,l,m,rfl,n1,n2,le,cs,k:=h
  ?_,(ag (aM (aE bP (¢Dm (ad ©0 (ad (bC (v:=.ref _) (by rfl) EB rfl) ak))) af (aG _)) (am (aB (aJ (ad af (ad af ak))))) aI) (ag (aM (aE bP (¢Dm (ad ©1 (ad (bC (v:=.ref _) (by rfl) GW rfl) ak))) af (aG _)) (am (aB (aJ (ad af (ad af ak))))) aI) (am (aB (kX DH (hr.mono &) (by rfl) (ad ©0 (ad ©1 ak)))))));!RB:∀H,Rt K H pB 0 0 0 1:=λH=>⟨hB H,&,&,&,&⟩;!RE:∀H,Rt K H pE 1 0 0 1:=λH=>⟨hE H,&,&,&,&⟩;?^,_,_,_,_,_,_,_,_,_,^,n1.rt,RB _,rfl,^;rw[di];refine aY (λc1=>?_) (λc1=>?_)
  ·!c1:ro4 l (0,0,0,1)=0:=bZ c1
   §sz (by simp),λr H1 s1 f1 _=>k r 0 1 H1 s1 ⟨f1,⟨&,&⟩,&,&⟩ (by unfold PG;rw[if_pos c1];§rfl,rfl) & &
  !c1:¬ro4 l (0,0,0,1)=0:=cJ c1;?^,_,_,_,_,_,_,_,_,_,^,n2.rt,RE _,rfl,^;rw[di];refine aY (λc2=>?_) (λc2=>?_)
  ·!c2:ro4 m (1,0,0,1)=0:=bZ c2
   §sz (by simp),λr H1 s1 f1 _=>k r 1 1 H1 s1 ⟨f1,⟨&,&⟩,&,&⟩ (by unfold PG;rw[if_neg c1,if_pos c2];§rfl,rfl) & &
  !c2:¬ro4 m (1,0,0,1)=0:=cJ c2;!pg:∀{t u:Int},PG l m t u↔if ro4 l m=0 then ∃R,(0<=R/\R*R=l.2.1*l.2.1*l.2.2.1)/\E2 (l.1+sg l.2.1*R) l.2.2.2 t u else Wi l.1 l.2.1 l.2.2.1 l.2.2.2 m.1 m.2.1 m.2.2.1 m.2.2.2 t u:=λ{t u}=>by unfold PG;rw[if_neg c1,if_neg c2]
  rcases cs with rfl|⟨hl,hm⟩
  ·#absurd & c1
  cases hl with
  | b=>#absurd & c1
  | @n P U L hL hU h z=>cases hm with
   | e=>#absurd & c2
   | @n P' U' L' hL' hU' h' z' =>
    ¶^,^,p,q,P,-1,U,L,P',1,U',L',240,235,11,2600,rfl,n1.rt,n2.rt,⟨hU,hL,hU',hL',n1.b0,aq n1.b1 &,n1.b2,n2.b0,&,n2.b2,&,&⟩,⟨&,&,&⟩,λy=>absurd le (by show ¬ro P (-1) U L P' 1 U' L'<=0;~),λy R r=>?_,λy=>⟨sJ n1 n2 y,λr t u H1 s1 f1 wi bt bu=>?_⟩
    ·@R0,r0,r1:=xF hL hL' hU hU' y
     !eR:R=R0:=by
      !h1:=r.lo;!h2:=r.hi;!h3:=r.nn;!e:1*(-1 * -1*U)=R0*R0:=by rw[r1];grind
      rw[e]at h1 h2;rcases Int.lt_trichotomy R R0 with w|w|w
      ·!:=cD (show 0<=R+1 by omega) (show R+1<=R0 by omega)
       ~
      ·#w
      ·!:=Int.mul_lt_mul' (Int.le_of_lt w) w r0 ~
       ~
     subst eR;¶λw=>absurd (by rw[r1];grind) w,λw r' t u H1 s1 f1 fr bt bu=>?_;!hu:=fr.low.pos;!e:=fr.eq;!e:(P+sg (-1)*R)*u=t*L:=e;!sgm:P+sg (-1)*R=P - R:=by show P + -1*R=P - R;~
     rw[sgm]at e;!rp:R<=P:=by
      rcases Int.lt_or_le P R with y|y
      ·!:=Int.mul_lt_mul' (Int.le_of_lt y) y z.1 ~
       ~
      ·#y
     !rl:P - R<=L:=by
      rcases h with h|h
      ·~
      ·rcases Int.lt_or_le L (P - R) with y|y
       ·!:=cD (show 0<=R+1 by omega) (show R+1<=P - L by omega)
        !e':(R+1)*(R+1)=R*R+2*R+1:=by grind
        ~
       ·#y
     refine k r' t u H1 s1 ⟨f1,fr.low,aq bt &,aq bu &⟩ (pg.mpr (by rw[if_pos (show ro4 (P,-1,U,L) (P',1,U',L')=0 from y)];§R,⟨r0,by rw[r1];show U = -1 * -1*U;grind⟩,fr)) ?_ ?_
     ·rcases Int.lt_or_le t 0 with y|y
      ·!h1:=Int.mul_nonneg (show 0<=P - R by omega) (show 0<=u by omega)
       !h2:=Int.mul_neg_of_neg_of_pos y hL;~
      ·#y
     ·rcases Int.lt_or_le u t with y|y
      ·!h1:=Int.mul_le_mul_of_nonneg_right rl (show 0<=u by omega)
       !h2:=Int.mul_lt_mul_of_pos_right y hL;!e':L*u=u*L:=Int.mul_comm _ _;~
      ·#y
    ·!hu:0<u:=by
      @_,_,_,_,_,_,_,_,_,h5:=id wi;#h5.low.pos
     !hlw:EG t u:=by
      @_,_,_,_,_,_,_,_,_,h5:=id wi;#h5.low
     #k r t u H1 s1 ⟨f1,hlw,bt,bu⟩ (pg.mpr (by rw[if_neg (show ¬ro4 (P,-1,U,L) (P',1,U',L')=0 by !y:ro4 (P,-1,U,L) (P',1,U',L')<0:=y;~)];#wi)) (uU hL hU hu hU' hL' z wi) (yT hL' hU' hu hU hL z' wi)
¤Nm.rt8{K:W.Frag}{H:Hp}{p:Addr}{l:N4}(h:Nm K H p l):KW K H p l.1 l.2.1 l.2.2.1 l.2.2.2:=⟨h.at_.sq,aq h.b0 &,aq h.b1 &,aq h.b2 &,aq h.b3 &⟩
inductive Kj (K:W.Frag) (vs:List V) (H:Hp) (Q:VK) (x_3:XK):Prop
 | mk:∀(p q:Addr) (a b:Int) (m:N4),(vs = [.ref p,.ref q])->(H p=some (.tup [.int a,.int b]))->((ar a<=2600/\ar b<=2600))->(Nm K H q m)->(∀H',Same H H'->Q (.bl (decide (ro4 (a,0,0,b) m<=0))) H')->Kj K vs H Q x_3
¤Io:Dj ["part","high"] ["part","high"] (ao (top 64)):=smk
¤pZ(IC:Df K mg "may_keep" (top 64))(Jb:Fn P w K mg base "root_order" ["one","other"] 4 (IT K)):Fn P w K mg base "may_keep" ["part","high"] 5 (Kj K):=by
 refine IC.fn Io (λ_ _ _ _ _ _ us hl=>by @_,_,rfl:=dJ hl;rfl) (λvs H Q E h=>?_) (λf cdv A outer s H vs Q E hr h=>?_)
 ·@p,q,a,b,m,rfl,_:=h
  rfl
 ·@p,q,a,b,m,rfl,hp,⟨ba,bb⟩,nq,k:=h
  !Dm:=Jb;?_,(am (aB (dj k6 (¢Dm (ad (aJ (ad ®0 (ad af (ad af (ad ®0 ak))))) (ad ©1 ak))) af (aG _))));¶^,p,_,%,SqT.of hp,rfl,^,p,_,%,SqT.of hp,rfl,sz (by simp),λt H1 s1 f1 n1=>?_;§^,_,_,_,_,_,_,_,_,_,^,⟨SqT.of f1,aq ba &,&,&,aq bb &⟩,(nq.mono s1).rt8,%,k H1 s1
¦DrV(H:Hp)(x:Dor)(v:V):Prop:=∃t,v = .ref t/\H t=some (.tup ((dkD x).map kV))
¤DrV.t{H H':Hp}{x:Dor}{v:V}(h:DrV H x v)(s:SameT H H'):DrV H' x v:=let ⟨t,e,f⟩:=h;⟨t,e,s _ _ f⟩
¦jA(wy:Str)(n m:Nat):List Dor:=if wy=wOn then [(0,(n:Int) - 1,(m:Int) - 1),(1,(n:Int) - 1,(m:Int) - 1)] else (List.range m).map λ(j:Nat)=>(0,(n:Int),(j:Int))
inductive Kr (vs:List V) (H:Hp) (Q:VK) (x_3:XK):Prop
 | mk:∀(lt:Addr) (n m:Nat) (wy:Str),(vs = [.ref lt,.str wy])->(H lt=some (.tup [.int (n:Int),.int (m:Int)]))->(m<=20)->((wy=wOn\/wy=ce))->(∀r H',Same H H'->H r=none->(∃vs,H' r=some (.lst vs)/\Paired (DrV H') (jA wy n m) vs)->Q (.ref r) H')->Kr vs H Q x_3
¤mV{α β:Type}{R:α->β->Prop}:∀{l:List α} {ys:List β},ys.length=l.length->(∀(i:Nat) y,ys[i]? = some y->∃x,l[i]? = some x/\R x y)->Paired R l ys
 | [],[],_,_=>.nil
 | a::l,y::ys,h,k=>by
  @x,e,r:=k 0 y rfl;cases e;#.cons r (mV (by simpa using h) λi z hz=>by
   @x,e,r:=k (i+1) z (by rw[List.getElem?_cons_succ];#hz);rw[List.getElem?_cons_succ]at e;§x,e,r)
¤Gx:Dj ["last","way"] ["last","way"] (ao (top 63)):=smk
¤jY(GI:Df K mg "doors_at_end" (top 63))(V_UPRIGHT:∃tk,mg "UPRIGHT" = some (.int 0 tk))(V_LEVEL:∃tk,mg "LEVEL" = some (.int 1 tk))(T:Txt mg):Fn P w K mg base "doors_at_end" ["last","way"] 1 Kr:=by
 refine GI.fn Gx (λ_ _ _ _ _ _ us hl=>by @_,_,rfl:=dJ hl;rfl) (λvs H Q E h=>?_) (λf cdv A outer s H vs Q E hr h=>?_)
 ·@lt,n,m,wy,rfl,_:=h
  rfl
 ·@lt,n,m,wy,rfl,hl,hm20,hw,k:=h
  !CN:Ff (bV CX0 P w K mg base ["last","way"] "doors_at_end" (ao (top 63)) f cdv A outer s H E).nox (lcA (top 63) 0) [("last",s.heap.objs.size+1)] "j" [("last",0)] :=
   ⟨by rfl,rfl,by decide +kernel,by decide +kernel,rfl,(λp hp=>by simp only[List.mem_cons,List.not_mem_nil,or_false]at hp;rcases hp with rfl;rfl),by rfl,by decide +kernel,(λp hp=>by simp only[List.mem_cons,List.not_mem_nil,or_false]at hp;rcases hp with rfl;§rfl,rfl,.inr (.inl rfl),rfl,rfl),⟨rfl,rfl⟩,rfl⟩
  @tU,Dq:=V_UPRIGHT;@tL,Ef:=V_LEVEL;?_,(ag (aM (aE bP ©1 fg (aG _)) (am (aB (@bU _ _ _ _ (@ad _ _ _ _ _ (@aJ _ _ _ _ _ (@ad _ _ _ _ _ (bC (v:=.int 0) (by rfl) Dq ⟨_,rfl⟩) (@ad _ _ _ _ _ (ay aP ®0 af) (@ad _ _ _ _ _ (ay aP ®0 af) ak (by rfl)) (by rfl)) (by rfl))) (@ad _ _ _ _ _ (@aJ _ _ _ _ _ (@ad _ _ _ _ _ (bC (v:=.int 1) (by rfl) Ef ⟨_,rfl⟩) (@ad _ _ _ _ _ (ay aP ®0 af) (@ad _ _ _ _ _ (ay aP ®0 af) ak (by rfl)) (by rfl)) (by rfl))) ak (by rfl)) (by rfl))))) aI) (am (aB (iI rfl CN (dh rfl T.z_range (ad ®0 ak)) (λfp s₀ H₀=>(aJ (ad (bC (v:=.int 0) (by rfl) Dq ⟨_,rfl⟩) (ad (ax (fX (K:=K) rfl) ©1 af (λ_ _=>rfl)) (ad ©0 ak)))))))));!L:∀{H':Hp},Same H H'->SqT K H' lt [.int (n:Int),.int (m:Int)]:=λs=>SqT.of (s _ _ hl);¶^,rfl,^,aY (λc=>?_) (λc=>?_)
  ·!c:wy=wOn:=bZ (ds c)
   unfold jA at k;rw[if_pos c]at k;¶^,lt,_,%,L (Same.refl _),rfl,%,^,lt,_,%,L (Same.refl _),rfl,%,sz (by simp),λt1 H1 s1 f1 n1=>?_;¶^,lt,_,%,L s1,rfl,%,^,lt,_,%,L s1,rfl,%,sz (by simp),λt2 H2 s2 f2 n2=>⟨sz (by simp),λr H3 s3 f3 n3=>?_⟩;#k r H3 (s1.trans (s2.trans s3)) ((s1.trans s2).free n3) ⟨_,f3,.cons ⟨t1,rfl,(s2.trans s3) _ _ f1⟩ (.cons ⟨t2,rfl,s3 _ _ f2⟩ .nil)⟩
  ·!c:¬wy=wOn:=cJ (ds c)
   unfold jA at k;rw[if_neg c]at k;?^,lt,_,%,L (Same.refl _),rfl,^,~,(~);rw[Int.toNat_natCast];refine yA (n:=m) (lo:=0) ~ (λj v H'=>DrV H' (0,(n:Int),(j:Int)) v) (λi v H H' st h=>h.t st) ?_ ?_
   ·intro j H2 Kc hj s2 kk
    ¶^,lt,_,%,L s2,rfl,^,sz (by simp),λt H3 s3 f3 n3=>kk _ H3 s3 ⟨t,rfl,?_⟩;rw[Int.zero_add]at f3;#f3
   ·intro r ys H2 nr s2 f2 hl2 hv
    refine k r H2 s2 nr ⟨ys,f2,mV (by rw[List.length_map,List.length_range];#hl2) λi y hy=>⟨_,?_,hv i y hy⟩⟩;!hi:=(List.getElem?_eq_some_iff.mp hy).1;rw[List.getElem?_map,List.getElem?_range ~];rfl
¦nV(bh:Option (Dor×Int×Int))(x:Dor)(r:Rv)(a b:Int):Prop:=match bh with
 | none=>PG r.lo r.hi a b
 | some z=>if z.1.1=x.1/\ro4 (z.2.1,0,0,z.2.2) r.hi<=0 then a=z.2.1/\b=z.2.2 else PG r.lo r.hi a b
inductive Bk (R:RF):Option (Dor×Int×Int)->Dor->List (Dor×Int×Int)->Prop
 | last {bh:Option (Dor×Int×Int)} {x:Dor} {r:Rv} {a b:Int} (h:R x=some r) (e:r.ah=none) (p:nV bh x r a b):Bk R bh x [(x,a,b)]
 | more {bh:Option (Dor×Int×Int)} {x y:Dor} {r:Rv} {a b:Int} {l:List (Dor×Int×Int)} (h:R x=some r) (e:r.ah=some y) (p:nV bh x r a b) (t:Bk R (some (x,a,b)) y l):Bk R bh x ((x,a,b)::l)
¦g6(x:Dor):Nat:=(x.2.1+x.2.2).toNat
structure KU(K:W.Frag)(R:RF):Prop where
 key:∀x r,R x=some r->(x.1=0\/x.1=1)/\(0<=x.2.1/\x.2.1<=1000)/\0<=x.2.2/\x.2.2<=1000
 le:∀x r,R x=some r->ro4 r.lo r.hi<=0
 ends:∀x r,R x=some r->r.lo=(0,0,0,1)\/(GK r.lo/\HN r.hi)
 ah:∀x r y,R x=some r->r.ah=some y->(R y).isSome=true/\g6 y<g6 x
¦eN(e:Dor×Int×Int)(q:Pr):Prop:=wO e.1.1 e.1.2.1 e.1.2.2 e.2.1 e.2.2 q
inductive Jr (K:W.Frag) (vs:List V) (H:Hp) (Q:VK) (x_3:XK):Prop
 | mk:∀(d t:Addr) (R:RF) (c:Nat) (x:Dor),(vs = [.ref d,.ref t])->(Ey K H d R c)->(KU K R)->(H t=some (.tup ((dkD x).map kV)))->(((R x).isSome=true/\g6 x<900))->(∀(r:Addr) (H':Hp) (l:List (Dor×Int×Int)) (ps:List Pr),Same H H'->H r=none->Bk R none x l->l.length<=g6 x+1->Iw H' r ps->Paired eN l.reverse ps->Q (.ref r) H')->Jr K vs H Q x_3
¦BeP(H':Hp)(bv pv:V):Option (Dor×Int×Int)->Prop
 | none=>bv = .non
 | some z=>DrV H' z.1 bv/\∃tp,pv = .ref tp/\Jh H' tp z.2.1 z.2.2 2600/\0<=z.2.1/\z.2.1<=z.2.2
¦LeP(R:RF)(x:Dor)(don:List (Dor×Int×Int))(bh:Option (Dor×Int×Int)):Option Dor->Prop
 | none=>Bk R none x don
 | some y=>((R y).isSome=true/\don.length+g6 y<=g6 x)/\∀l,Bk R bh y l->Bk R none x (don++l)
structure K7(K:W.Frag)(R:RF)(x:Dor)(H H':Hp)(pl:Addr)(cv bv pv:V)(cur:Option Dor)(bh:Option (Dor×Int×Int))(don:List (Dor×Int×Int))(ps:List Pr):Prop where
 sm:Same H H'
 nr:H pl=none
 pp:Iw H' pl ps
 pr:Paired eN don ps
 cu:AhV H' cv cur
 be:BeP H' bv pv bh
 left:LeP R x don bh cur
¤kR(ps:List Pr)(q:Pr):prs (ps++[q])=prs ps++[.ref q.p]:=by unfold prs;rw[List.map_append];rfl
¤Ba{K:W.Frag}{R:RF}(w:KU K R){bh:Option (Dor×Int×Int)}{x:Dor}{l:List (Dor×Int×Int)}(h:Bk R bh x l):l.length<=g6 x+1:=by
 induction h with
 | last _ _ _=>simp
 | more h e _ _ ih =>
  !:=(w.ah _ _ _ h e).2;rw[List.length_cons];~
¦muB(σ:St)(H:Hp):Nat:=match σ with
 | [_,some (.ref t),_,_,_,_,_]=>(match H t with
  | some (.tup [.int _,.int i,.int j])=>(i+j).toNat+1
  | _=>0)
 | _=>0
¤vR{z0 z2 z3 z4 z5 z6:Option V}{H:Hp}{t:Addr}{y:Dor}(h:H t=some (.tup ((dkD y).map kV))):muB [z0,some (.ref t),z2,z3,z4,z5,z6] H=g6 y+1:=by
 show(match H t with
  | some (.tup [.int _,.int i,.int j])=>(i+j).toNat+1
  | _=>0)=_
 rw[h];rfl
¦xl(s:Stmt):List Stmt:=match s with
 | .While _ b _ _=>b
 | _=>[]
inductive KY (K:W.Frag) (R:RF) (x:Dor) (d pl:Addr) (H:Hp) (σ:St) (H':Hp):Prop
 | mk (cv bv pv:V) (z5 z6:Option V) (cur:Option Dor) (bh:Option (Dor×Int×Int)) (don:List (Dor×Int×Int)) (ps:List Pr) (e:σ = [some (.ref d),some cv,some (.ref pl),some bv,some pv,z5,z6]) (j:K7 K R x H H' pl cv bv pv cur bh don ps):KY K R x d pl H σ H'
¤DL:Dj ["reached","door","pairs","behind","part","low","high"] ["reached","door"] (ao (top 65)):=smk
¤pW(IA:Df K mg "pairs_to" (top 65))(FB:Fn P w K mg base "may_keep" ["part","high"] 5 (Kj K))(Fk:Fn P w K mg base "part_from" ["low","high"] 6 (Kg K))(DB:Fn P w K mg base "pair_in_door" ["door","part"] 4 IV):Fn P w K mg base "pairs_to" ["reached","door"] 7 (Jr K):=by
 refine IA.fn DL (λ_ _ _ _ _ _ us hl=>by @_,_,rfl:=dJ hl;rfl) (λvs H Q E h=>?_) (λf cdv A outer s H vs Q E hr h=>?_)
 ·@d,t0,R,c,x,rfl,_:=h
  rfl
 ·@d,t0,R,c,x,rfl,rp,wf,ht0,⟨hsx,hrk⟩,k:=h
  !RS:∃uu:TS,PSs (bV CX0 P w K mg base ["reached","door","pairs","behind","part","low","high"] "pairs_to" (ao (top 65)) f cdv A outer s H E).nox ((xl ((aT (top 65)).getD 3 (.Pass ⟨0,0,0,0⟩))).drop 3) uu/\∀(Dd:FS) (H1 H2:Hp) (pl t tp p q':Addr) (bv pv:V) (y:Dor) (r:Rv) (a b:Int) (bh:Option (Dor×Int×Int)) (don:List (Dor×Int×Int)) (ps:List Pr),K7 K R x H H1 pl (.ref t) bv pv (some y) bh don ps->Same H1 H2->H1 t=some (.tup ((dkD y).map kV))->R y=some r->Jh H2 tp a b 2600->0<=a->a<=b->nV bh y r a b ->
    (∀σ H',(KY K R x d pl H σ H')->muB σ H'<g6 y+1->Dd.nx σ H')->uu Dd [some (.ref d),some (.ref t),some (.ref pl),some bv,some (.ref tp),some (.ref p),some (.ref q')] H2:=by
   ?_,(ag (cH (fF PySem.F.plainAttrs_list PySem.F.slot_list_append PySem.F.type_list_append ca ©2 (ad (¢DB (ad ©1 (ad ©4 ak))) ak))) (ag (£3 DL ©1) (am (£1 DL (ax ap (dL (cT hr) ©0 ©1 (λ_ _=>rfl)) af (λ_ _=>rfl))))));intro Dd H1 H2 pl t tp p q' bv pv y r a b bh don ps J SS ht hr FR A0 AB PK fin;!wk:=wf.key y r hr;!ly:=J.left.1;!S2':Same H H2:=J.sm.trans SS;!pp2:=J.pp.mono SS;¶^,.inl ⟨rfl,_,SqL.of pp2.lst⟩,^,^,t,tp,y.1,y.2.1,y.2.2,a,b,rfl,SS _ _ ht,wk.1,wk.2.1,wk.2.2,⟨FR,A0,AB⟩,λq H3 s3 pq dp=>?_;!pp3:=pp2.mono s3;¶pl,%,pp3.lst,bJ (by rw[dW];!:=Paired.length J.pr;~),λH4 u=>?_;!S3:Same H H3:=S2'.trans s3;!S4:Same H H4:=λb o e=>u.at (λz=>by rw[z,J.nr]at e;cases e) (S3 b o e);!ht4:=u.t _ _ (s3 _ _ (SS _ _ ht));@o4,dg4,ho4:=(rp.mono S4).get ht4;rcases ho4 with⟨r4,v4,hr4,rfl,tv4,q1,q2,w4,rfl,ev4,_,_,aw4⟩|⟨hn4,_⟩
   ·rw[hr]at hr4
    cases hr4;¶^,^,^,d,^,dg4,tv4,_,%,SqT.of ev4,rfl,fin _ H4 ⟨_,_,_,_,_,r.ah,some (y,a,b),don++[(y,a,b)],ps++[q],rfl,⟨S4,J.nr,⟨by rw[u.now,kR],λq' hq=>?_⟩,Paired.snoc J.pr dp,aw4,⟨⟨t,rfl,ht4⟩,tp,rfl,⟨u.t _ _ (s3 _ _ FR.at_),FR.low,FR.ba,FR.bb⟩,A0,AB⟩,?_⟩⟩ ?_
    ·rcases List.mem_append.mp hq with hq|hq
     ·#(pp3.pr q' hq).t u.t
     ·rw[List.mem_singleton.mp hq]
      #pq.t u.t
    ·cases ha:r.ah with
     | none=>#J.left.2 _ (.last hr ha PK)
     | some y' =>
      !wa:=wf.ah y r y' hr ha;¶⟨wa.1,by rw[List.length_append,List.length_singleton];!:=J.left.1.2;!:=wa.2;~⟩,λl hl=>?_;rw[List.append_assoc];#J.left.2 _ (.more hr ha PK hl)
    ·cases ha:r.ah with
     | none =>
      rw[ha]at aw4;!aw4:w4 = .non:=aw4;subst aw4;show 0<_;~
     | some y' =>
      rw[ha]at aw4;@t',rfl,ht':=aw4;!wa:=wf.ah y r y' hr ha;#Nat.lt_of_le_of_lt (Nat.le_of_eq (vR ht')) ~
   ·rw[hr]at hn4
    cases hn4
  @uu,hu1,hRS:=RS;?_,ag (£2 DL (bU ak)) (ag (£3 DL bI) (ag (£4 DL bI) (ag (eJ PassesOwn.never (aE gQ ©1 bI (aG _)) (ag (£5 DL (ax ap (dL (cT hr) ©0 ©1 (λ_ _=>rfl)) af (λ_ _=>rfl))) (ag (£6 DL (ax ap (dL (cT hr) ©0 ©1 (λ_ _=>rfl)) af (λ_ _=>rfl))) (ag (aM (dw (aE fW ©3 bI (aG _)) (dw (aE gF ®3 ®1 (aG _)) (cZ (cE (bH (¢FB (ad ©4 (ad ©6 ak)))))))).pt (am (£4 DL (¢Fk (ad ©5 (ad ©6 ak))))) aI) hu1)))) (ag (cH (qU PySem.F.plainAttrs_list PySem.F.slot_list_reverse PySem.F.type_list_reverse jI ©2)) (am (aB ©2))))));¶sz (by simp),λpl H0 s0 f0 n0=>?_;refine eI (λσ H'=>KY K R x d pl H σ H') muB
   ⟨_,_,_,_,_,some x,none,[],[],rfl,s0,n0,⟨f0,λq hq=>nomatch hq⟩,.nil,⟨t0,rfl,s0 _ _ ht0⟩,rfl,⟨⟨hsx,by simp⟩,λl hl=>hl⟩⟩ ?_ ?_
  ·rintro σ H1 ⟨cv,bv,pv,z5,z6,cur,bh,don,ps,rfl,J⟩
   cases cur with
   | none =>
    !cu:cv = .non:=J.cu;subst cu;¶^,rfl,^,aK (by simp) ?_;¶^,.inl ⟨rfl,_,SqL.of J.pp.lst⟩,pl,^,rfl,J.pp.lst,λH2 u=>⟨_,rfl,?_⟩;!hb:Bk R none x don:=J.left;refine k pl H2 don ps.reverse (λb o e=>u.at (λz=>by rw[z,J.nr]at e;cases e) (J.sm b o e)) J.nr hb ?_ ⟨by rw[u.now];unfold prs;rw[List.map_reverse],λq hq=>(J.pp.pr q (List.mem_reverse.mp hq)).t u.t⟩ (kY J.pr);#Ba wf hb
   | some y =>
    @t,rfl,ht:=J.cu;¶^,rfl,^,bM (by simp) ?_;!hmu:=vR (z0:=some (.ref d)) (z2:=some (.ref pl)) (z3:=some bv) (z4:=some pv) (z5:=z5) (z6:=z6) ht;rw[hmu];@o,dg,ho:=(rp.mono J.sm).get ht;!ly:=J.left.1;rcases ho with⟨r,v,hr,rfl,tv,p,q',w0,rfl,ev,n1,n2,_⟩|⟨hn,_⟩
    ·?^,^,d,^,dg,tv,_,%,SqT.of ev,rfl
     ?^,^,d,^,dg,tv,_,%,SqT.of ev,rfl;cases bh with
     | none =>
      !be:bv = .non:=J.be;subst be;¶^,rfl,^,bM rfl ?_;¶^,^,p,q',r.lo,r.hi,rfl,n1,n2,wf.le y r hr,wf.ends y r hr,λtp a b H2 s2 fr pg a0 ab=>?_;#hRS _ H1 H2 pl t tp p q' _ pv y r a b none don ps J s2 ht hr fr a0 ab pg λσ H' h1 h2=>⟨h1,h2⟩
     | some z =>
      @⟨tz,rfl,hz⟩,tq,rfl,fz,z0,z1:=J.be;¶^,rfl,^,aK (by simp) ?_;?^,tz,_,%,SqT.of hz,rfl,^,t,_,%,SqT.of ht,rfl,rfl,^;!pk0:∀{a b:Int},¬(z.1.1=y.1/\ro4 (z.2.1,0,0,z.2.2) r.hi<=0)->PG r.lo r.hi a b->nV (some z) y r a b:=λ{a b} hn h=>by
       unfold nV;dsimp only;rw[if_neg hn];#h
      refine aY (λc1=>?_) (λc1=>?_)
      ·!c1:¬z.1.1=y.1:=by
        !c1:(!decide (V.int z.1.1=V.int y.1))=true:=c1;rw[Bool.not_eq_true',di,decide_eq_false_iff_not]at c1;#c1
       ¶^,^,p,q',r.lo,r.hi,rfl,n1,n2,wf.le y r hr,wf.ends y r hr,λtp a b H2 s2 fr pg a0 ab=>?_;#hRS _ H1 H2 pl t tp p q' _ _ y r a b _ don ps J s2 ht hr fr a0 ab (pk0 (λw=>c1 w.1) pg) λσ H' h1 h2=>⟨h1,h2⟩
      ·!c1:z.1.1=y.1:=by
        !c1:(!decide (V.int z.1.1=V.int y.1))=false:=c1;rw[Bool.not_eq_false',di,decide_eq_true_eq]at c1;#c1
       ¶^,^,tq,q',z.2.1,z.2.2,r.hi,rfl,fz.at_,⟨fz.ba,fz.bb⟩,n2,λHk sk=>⟨_,rfl,?_⟩;refine aY (λc2=>?_) (λc2=>?_)
       ·!c2:¬ro4 (z.2.1,0,0,z.2.2) r.hi<=0:=by
         rw[Bool.not_eq_true',decide_eq_false_iff_not]at c2;#c2
        ¶^,^,p,q',r.lo,r.hi,rfl,n1.mono sk,n2.mono sk,wf.le y r hr,wf.ends y r hr,λtp a b H2 s2 fr pg a0 ab=>?_;#hRS _ H1 H2 pl t tp p q' _ _ y r a b _ don ps J (sk.trans s2) ht hr fr a0 ab (pk0 (λw=>c2 w.2) pg) λσ H' h1 h2=>⟨h1,h2⟩
       ·!c2:ro4 (z.2.1,0,0,z.2.2) r.hi<=0:=by
         rw[Bool.not_eq_false',decide_eq_true_eq]at c2;#c2
        !pk:nV (some z) y r z.2.1 z.2.2:=by
         unfold nV;dsimp only;rw[if_pos ⟨c1,c2⟩];§rfl,rfl
        #hRS _ H1 Hk pl t tq p q' _ _ y r _ _ _ don ps J sk ht hr (fz.mono sk) z0 z1 pk λσ H' h1 h2=>⟨h1,h2⟩
    ·rw[hn]at ly
     cases ly.1
  ·rintro σ H' Q1 Q2 hq ⟨v,e,hs,k,ek,r⟩
   §v,e,hs,k,ek,hq _ _ r
¦OkR(r:Rv):Prop:=ro4 r.lo r.hi<=0/\(r.lo=(0,0,0,1)\/(GK r.lo/\HN r.hi))
¤nY{gt:Option (N4×N4)}{st tu:Option Rv}{sd td:Dor}{r:Rv}(h:pas gt st tu sd td=some r):∃p,gt=some p/\r.hi=p.2/\((r.lo=p.1/\tu.isSome=true/\r.ah=some td)\/∃r',st=some r'/\(r.lo=p.1\/r.lo=r'.lo)/\ro4 r.lo r.hi<=0/\r.ah=some sd):=by
 cases gt with
 | none=>cases h
 | some p =>
  ¶p,rfl,?_;unfold pas at h;dsimp only at h
  split at h
  ·rename_i c
   cases h;§rfl,.inl ⟨rfl,c,rfl⟩
  ·cases st with
   | none=>cases h
   | some r' =>
    dsimp only at h
    split at h
    ·rename_i c
     cases h;§rfl,.inr ⟨r',rfl,vQ _ _,c,rfl⟩
    ·cases h
¤vH{gt:Option (N4×N4)}{st tu:Option Rv}{sd td:Dor}{r:Rv}(gk:∀p,gt=some p->(GK p.1/\HN p.2)/\ro4 p.1 p.2<=0)(hs:∀r',st=some r'->OkR r')(h:pas gt st tu sd td=some r):OkR r:=by
 @p,hp,eh,⟨el,_,_⟩|⟨r',hr',el,c,_⟩:=nY h
 ·!k:=gk p hp
  ¶by rw[el,eh];#k.2,.inr ?_;rw[el,eh];#k.1
 ·!k:=gk p hp
  ?c;rcases el with el|el
  ·rw[el,eh]
   #.inr k.1
  ·rw[el,eh]
   #(hs r' hr').2.imp_right λz=>⟨z.1,k.1.2⟩
section
variable {wy:Str} {G:GF} {F:Int->Int->Bool} {n m:Nat}
¤sP(gg:GGk G){U:Nat->Option Rv}(hu:∀j r,U j=some r->OkR r){i:Nat}:∀j r,Lc G U i j=some r->OkR r
 | 0,_,h=>by cases h
 | j+1,r,h=>vH (λp hp=>⟨bR (gg _ _ _ _ _ hp),ko (gg _ _ _ _ _ hp)⟩) (λr' h'=>sP gg hu j r' h') h
¤Cw(gg:GGk G){j:Nat}{r:Rv}(h:bgR wy G F m j=some r):OkR r:=by
 unfold bgR at h
 split at h
 ·split at h
  ·cases h
   §&,.inl rfl
  ·cases h
 ·split at h
  ·@p,hp,rfl:=Option.map_eq_some_iff.mp h
   §ko (gg _ _ _ _ _ hp),.inr (bR (gg _ _ _ _ _ hp))
  ·cases h
¤kH(gg:GGk G):∀i j r,Uc G (bgR wy G F m) i j=some r->OkR r
 | 0,j,r,h=>Cw gg h
 | i+1,j,r,h=>vH (λp hp=>⟨bR (gg _ _ _ _ _ hp),ko (gg _ _ _ _ _ hp)⟩) (λr' h'=>kH gg i j r' h') h
¤zF{j:Nat}{r:Rv}(h:bgR wy G F m j=some r):r.ah=none:=by
 unfold bgR at h
 split at h
 ·split at h
  ·cases h;rfl
  ·cases h
 ·split at h
  ·@p,hp,rfl:=Option.map_eq_some_iff.mp h
   rfl
  ·cases h
¤fu{x:Dor}{r:Rv}(h:RR wy G F n m x=some r):(∃i j:Nat,x=(0,(i:Int),(j:Int))/\i<=n/\j<m/\Uc G (bgR wy G F m) i j=some r)\/∃i j:Nat,x=(1,(i:Int),(j:Int))/\i<n/\j<=m/\Lc G (Uc G (bgR wy G F m) i) i j=some r:=by
 unfold RR at h
 split at h
 ·rename_i c
  #.inl ⟨x.2.1.toNat,x.2.2.toNat,Prod.ext c.1 (Prod.ext (by show x.2.1=((x.2.1.toNat:Nat):Int);~) (by show x.2.2=((x.2.2.toNat:Nat):Int);~)),~,~,h⟩
 ·split at h
  ·rename_i c
   #.inr ⟨x.2.1.toNat,x.2.2.toNat,Prod.ext c.1 (Prod.ext (by show x.2.1=((x.2.1.toNat:Nat):Int);~) (by show x.2.2=((x.2.2.toNat:Nat):Int);~)),~,~,h⟩
  ·cases h
¤Bn{K:W.Frag}(gg:GGk G)(hn:n<=20)(hm:m<=20):KU K (RR wy G F n m):=by
 !ok:∀x r,RR wy G F n m x=some r->OkR r:=λx r h=>by
  rcases fu h with⟨i,j,_,_,_,h⟩|⟨i,j,_,_,_,h⟩
  ·#kH gg i j r h
  ·#sP gg (λj r h=>kH gg i j r h) j r h
 ¶λx r h=>?_,λx r h=>(ok x r h).1,λx r h=>(ok x r h).2,λx r y h ha=>?_
 ·rcases fu h with⟨i,j,rfl,_,_,_⟩|⟨i,j,rfl,_,_,_⟩
  ·§.inl rfl,⟨by show(0:Int)<=i;~,by show(i:Int)<=1000;~⟩,by show(0:Int)<=j;~,(by show(j:Int)<=1000;~)
  ·§.inr rfl,⟨by show(0:Int)<=i;~,by show(i:Int)<=1000;~⟩,by show(0:Int)<=j;~,(by show(j:Int)<=1000;~)
 ·rcases fu h with⟨i,j,rfl,hi,hj,h⟩|⟨i,j,rfl,hi,hj,h⟩
  ·cases i with
   | zero=>rw[zF h]at ha;cases ha
   | succ i =>
    @p,_,_,⟨_,ht,ea⟩|⟨r',hr',_,_,ea⟩:=nY h
    ·rw[ea]at ha
     cases ha;§by rw[qF ~ ~];#ht,(by unfold g6;show((i:Int)+j).toNat<(((i+1:Nat):Int)+j).toNat;~)
    ·rw[ea]at ha
     cases ha;§by rw[oK ~ ~,hr'];rfl,(by unfold g6;show((i:Int)+j).toNat<(((i+1:Nat):Int)+j).toNat;~)
  ·cases j with
   | zero=>cases h
   | succ j =>
    @p,_,_,⟨_,ht,ea⟩|⟨r',hr',_,_,ea⟩:=nY h
    ·rw[ea]at ha
     cases ha;§by rw[oK ~ ~];#ht,(by unfold g6;show((i:Int)+j).toNat<((i:Int)+((j+1:Nat):Int)).toNat;~)
    ·rw[ea]at ha
     cases ha;§by rw[qF ~ ~,hr'];rfl,(by unfold g6;show((i:Int)+j).toNat<((i:Int)+((j+1:Nat):Int)).toNat;~)
end
¦yH(wy:Str)(n m:Nat)(G:GF)(F:Int->Int->Bool)(ps:List Pr):Prop:=∃(x:Dor) (l:List (Dor×Int×Int)) (ps0:List Pr),((jA wy n m).filter λx=>(RR wy G F n m x).isSome)[0]? = some x/\Bk (RR wy G F n m) none x l/\l.length<=60/\Paired eN l.reverse ps0/\((wy=wOn/\F n m=false/\∃q,ps=ps0++[q]/\prC q ((n:Int),(m:Int)))\/(wy=ce/\ps=ps0))
inductive Kd (K:W.Frag) (C:Addr) (vs:List V) (H:Hp) (Q:VK) (x_3:XK):Prop
 | mk:∀(fo:Addr) (n m:Nat) (room:Int) (G:GF) (F:Int->Int->Bool) (wy:Str),(vs = [.ref fo,.str wy])->(Dx K C H fo n m room G F)->((1<=n/\n<=20))->((1<=m/\m<=20))->((wy=wOn\/wy=ce))->(GGk G)->((∀H',Same H H'->NoW wy n m G F->Q .non H'))->(∀r H' ps,Same H H'->H r=none->yH wy n m G F ps->Iw H' r ps->Q (.ref r) H')->Kd K C vs H Q x_3
¤Ej:Dj ["field","way","reached","ends","walk"] ["field","way"] (ao (top 66)):=smk
¤jR(GA:Df K mg "walk_through" (top 66))(Dl:FQ K mg "Field" C_Field)(n_room:aX K C_Field "room")(n_last:aX K C_Field "last")(n_doors:aX K C_Field "doors")(n_far:aX K C_Field "far")(EA:Fn P w K mg base "doors_reached" ["field","way"] 6 (Kp K C_Field))(EM:Fn P w K mg base "doors_at_end" ["last","way"] 1 Kr)(FA:Fn P w K mg base "pairs_to" ["reached","door"] 7 (Jr K))(Dz:Fn P w K mg base "pair_at_corner" ["corner"] 1 Go)(T:Txt mg):Fn P w K mg base "walk_through" ["field","way"] 8 (Kd K C_Field):=by
 refine GA.fn Ej (λ_ _ _ _ _ _ us hl=>by @_,_,rfl:=dJ hl;rfl) (λvs H Q E h=>?_) (λf cdv A outer s H vs Q E hr h=>?_)
 ·@fo,n,m,room,G,F,wy,rfl,_:=h
  rfl
 ·@fo,n,m,room,G,F,wy,rfl,fa,⟨hn,hn20⟩,⟨hm,hm20⟩,hw,gg,q0,q1:=h
  !CN:Ge (bV CX0 P w K mg base ["field","way","reached","ends","walk"] "walk_through" (ao (top 66)) f cdv A outer s H E).nox (lcA (top 66) 0) [("reached",s.heap.objs.size+1)] ["door"] [("reached",2)] :=
   ⟨by rfl,rfl,by decide +kernel,by decide +kernel,(λx hx=>by simp only[List.mem_cons,List.not_mem_nil,or_false]at hx;subst hx;rfl),(λp hp=>by simp only[List.mem_cons,List.not_mem_nil,or_false]at hp;subst hp;rfl),by rfl,by decide +kernel,(λp hp=>by simp only[List.mem_cons,List.not_mem_nil,or_false]at hp;subst hp;§rfl,rfl,.inr (.inl rfl),rfl,rfl),⟨rfl,rfl⟩,rfl⟩
  @dx,lt,d0,fr,hf,hl,_,fd:=fa.ex;!wf:KU K (RR wy G F n m):=Bn gg hn20 hm20;!R1:∃u:TS,PSs (bV CX0 P w K mg base ["field","way","reached","ends","walk"] "walk_through" (ao (top 66)) f cdv A outer s H E).nox ((aT (top 66)).drop 1) u/\∀(H1:Hp),Same H H1->(wy=wOn->F n m=false)->u { nx:=λ_ H'=>Q .non H',rt:=Q } [some (.ref fo),some (.str wy),none,none,none] H1:=by
   ¶_,(ag (aA (i:=2) Ej.nd rfl (Or.inr rfl) (¢EA (ad ©0 (ad ©1 ak)))) (ag (jH (j:=3) rfl CN Ej.nd rfl rfl (eG (¢EM (ad (cS ©0 rfl) (ad ©1 ak)))) (λfp s₀ H₀=>(aQ (i:=0) CN.nd rfl (Or.inl rfl) (Or.inr rfl))) (λfp s₀ H₀=>(nQ (jf (nX (cT hr) ©0 ©1) (by rfl)))) (λfp s₀ H₀=>©0)) (ag (aM (aE bP (aN aO (by rfl) T.z_len bX (ad ©3 ak)) af (aG _)) (am (aB bI)) aI) (ag (£4 Ej (¢FA (ad ©2 (ad (ax aW ©3 af (λ_ _=>rfl)) ak)))) (ag (aM (aE bP ©1 fg (aG _)) (am (cH (fF PySem.F.plainAttrs_list PySem.F.slot_list_append PySem.F.type_list_append ca ©4 (ad (¢Dz (ad (cS ©0 rfl) ak)) ak)))) aI) (am (aB ©4))))))),λH1 S1 hF=>?_;¶^,^,fo,n,m,room,G,F,wy,rfl,fa.mono S1,⟨hn,hn20⟩,⟨hm,hm20⟩,hw,λd H2 s2 nd rp2=>?_;!S2:=S1.trans s2;¶^,fo,C_Field,dx,_,^,S2 _ _ hf,Dl.cls,n_last,rfl,^,lt,n,m,wy,rfl,S2 _ _ hl,hm20,hw,λr3 H3 s3 n3 ⟨v3,e3,p3⟩=>?_;!S3:=S2.trans s3;!rp3:=rp2.mono s3;!l3:=Paired.length p3;!le:(jA wy n m).length<=30:=by
    unfold jA
    split
    ·simp
    ·rw[List.length_map,List.length_range];~
   ¶r3,rfl,⟨_,SqL.of e3⟩,uL (K:=K) (k:=1) e3 ~ (DrV H3) p3 (λx=>(RR wy G F n m x).isSome) ?_ ?_
   ·intro e x H4 τ Kc Kn he hre s4 hτ kc kn
    obtain⟨τ0,rfl⟩:∃τ0,τ = [τ0]:=eX hτ;@t,rfl,ht:=hre;?⟨[some (.ref t)],rfl,rfl⟩;@o,dg,ho:=(rp3.mono s4).get (s4 _ _ ht);?^,^,d,o,rfl,dg;rcases ho with⟨r,v,hr,rfl,_⟩|⟨hr,rfl⟩
    ·§^,bM rfl ⟨_,rfl,kc (by rw[hr];rfl) H4 (Same.refl _)⟩
    ·§^,aK rfl (kn (by rw[hr];rfl) H4 (Same.refl _))
   ·intro r4 ys H4 nr4 s4 f4 pr4
    !S4:=S3.trans s4;!yl:=Paired.length pr4;?^,r4,^,.inl (SqL.of f4),rfl,^;rw[di];refine aY (λc=>?_) (λc=>?_)
    ·!c:ys.length=0:=by !:=bZ c;~
     !nil:∀x∈jA wy n m,RR wy G F n m x=none:=λx hx=>by
      cases h:RR wy G F n m x with
      | none=>rfl
      | some r =>
       !:x∈(jA wy n m).filter λx=>(RR wy G F n m x).isSome:=List.mem_filter.mpr ⟨hx,by rw[h];rfl⟩;!z:((jA wy n m).filter λx=>(RR wy G F n m x).isSome) = []:=List.length_eq_zero_iff.mp ~;rw[z]at this;cases this
     refine q0 H4 S4 ⟨λhw'=>.inr ?_,λhw' j hj=>nil _ ?_⟩
     ·!e1:(n:Int) - 1=((n - 1:Nat):Int):= ~
      !e2:(m:Int) - 1=((m - 1:Nat):Int):= ~
      rw[<- e1,<- e2];unfold jA at nil;rw[if_pos hw']at nil;§nil _ List.mem_cons_self,nil _ (List.mem_cons_of_mem _ List.mem_cons_self)
     ·unfold jA
      rw[if_neg (λz=>dY (z.symm.trans hw'))];#List.mem_map.mpr ⟨j,List.mem_range.mpr hj,rfl⟩
    ·!c:ys.length≠0:=λz=>cJ c (by rw[z];rfl)
     obtain⟨v0,hv0⟩:∃v0,ys[0]? = some v0:=⟨ys[0]'~,List.getElem?_eq_getElem _⟩;@x0,hx0,t0,rfl,ht0:=bo pr4 0 v0 hv0;!mx:=List.mem_filter.mp (List.mem_of_getElem? hx0);!hsx:(RR wy G F n m x0).isSome=true:=mx.2;!rk:g6 x0<=50:=by
      @r,hr:=Option.isSome_iff_exists.mp hsx;rcases fu hr with⟨i,j,rfl,_,_,_⟩|⟨i,j,rfl,_,_,_⟩
      ·unfold g6;show((i:Int)+j).toNat<=50;~
      ·unfold g6;show((i:Int)+j).toNat<=50;~
     ¶^,^,r4,_,%,SqL.of f4,dD (j:=0) hv0,d,t0,RR wy G F n m,900,x0,rfl,rp3.mono s4,wf,s4 _ _ ht0,⟨hsx,~⟩,λr5 H5 l ps0 s5 n5 bk ln pp pr=>?_;!S5:=S4.trans s5;!pl:=Paired.length pr;rw[List.length_reverse]at pl;¶^,rfl,^,aY (λc2=>?_) (λc2=>?_)
     ·!c2:wy=wOn:=bZ (ds c2)
      ¶^,.inl ⟨rfl,_,SqL.of pp.lst⟩,^,fo,C_Field,dx,_,^,S5 _ _ hf,Dl.cls,n_last,rfl,lt,(n:Int),(m:Int),rfl,S5 _ _ hl,⟨~,~⟩,⟨~,~⟩,λq' H6 s6 pq cq=>?_;!pp6:=pp.mono s6;¶r5,%,pp6.lst,bJ (by rw[dW];~),λH7 u=>⟨_,rfl,?_⟩;!S6:=S5.trans s6;!nr5:H r5=none:=S4.free n5;refine q1 r5 H7 (ps0++[q']) (λb o e=>u.at (λz=>by rw[z,nr5]at e;cases e) (S6 b o e)) nr5 ⟨x0,l,ps0,hx0,bk,~,pr,.inl ⟨c2,hF c2,q',rfl,cq⟩⟩ ⟨by rw[u.now,kR],λz hz=>?_⟩;rcases List.mem_append.mp hz with hz|hz
      ·#(pp6.pr z hz).t u.t
      ·rw[List.mem_singleton.mp hz]
       #pq.two.t u.t
     ·!c2:¬wy=wOn:=cJ (ds c2)
      §^,q1 r5 H5 ps0 S5 (S4.free n5) ⟨x0,l,ps0,hx0,bk,~,pr,.inr ⟨hw.resolve_left c2,rfl⟩⟩ pp
  @u1,hu1,h1:=R1;?_,(ag (aM (d8 (aE bP ©1 fg (aG _)) (eC (jf (nX (cT hr) (cS ©0 rfl) (cS ©0 rfl)) (by rfl)))).pt (am (aB bI)) aI) hu1);¶^,rfl,^,aY (λc=>?_) (λc=>?_)
  ·!c:wy=wOn:=bZ (ds c)
   @o',dg',ho':=fd.get (x:=(n:Int)) (y:=(m:Int)) hl;¶^,fo,C_Field,dx,_,^,hf,Dl.cls,n_last,rfl,^,fo,C_Field,dx,_,^,hf,Dl.cls,n_far,rfl,fr,o',rfl,dg',^,aY (λh=>?_) (λh=>?_)
   ·rw[ho',decide_eq_true_eq]at h
    #q0 H (Same.refl _) ⟨λ_=>.inl (dI.mp h).2.2.2.2,λz=>absurd (c.symm.trans z) dY⟩
   ·rw[ho',decide_eq_false_iff_not]at h
    refine h1 H (Same.refl _) λ_=>?_;cases e:F n m with
    | false=>rfl
    | true=>#absurd (dI.mpr ⟨~,~,~,~,e⟩) h
  ·!c:¬wy=wOn:=cJ (ds c)
   #h1 H (Same.refl _) λz=>absurd z c
inductive JG (vs:List V) (H:Hp) (Q:VK) (x_3:XK):Prop
 | mk:∀(c lt:Addr) (x y n m:Int) (wy:Str),(vs = [.ref c,.ref lt,.str wy])->(H c=some (.tup [.int x,.int y]))->(H lt=some (.tup [.int n,.int m]))->(Q (.bl (decide (y=m) || (decide (wy≠ce) && decide (x=0)))) H)->JG vs H Q x_3
inductive JD (vs:List V) (H:Hp) (Q:VK) (x_3:XK):Prop
 | mk:∀(c lt:Addr) (x y n m:Int) (wy:Str),(vs = [.ref c,.ref lt,.str wy])->(H c=some (.tup [.int x,.int y]))->(H lt=some (.tup [.int n,.int m]))->(Q (.bl (decide (y=0) || (decide (wy≠ce) && decide (x=n)))) H)->JD vs H Q x_3
¤ds'{u v:Str}:decide (V.str u=V.str v)=decide (u=v):=(ds rfl).symm
¤Gy:Dj ["corner","last","way"] ["corner","last","way"] (ao (top 40)):=smk
¤jZ(GJ:Df K mg "begins_fence" (top 40)):Fn P w K mg base "begins_fence" ["corner","last","way"] 1 JG:=by
 refine GJ.fn Gy (λ_ _ _ _ _ _ us hl=>by @_,_,_,rfl:=g7 hl;rfl) (λvs H Q E h=>?_) (λf cdv A outer s H vs Q E hr h=>?_)
 ·@c,lt,x,y,n,m,wy,rfl,_:=h
  rfl
 ·@c,lt,x,y,n,m,wy,rfl,hc,hl,q:=h
  ?_,(am (aB (za (dj bP ®0 ®1 (aG _)) (gC (jn (dj gF ©2 fg (aG _)) (gC (dj bP ®0 af (aG _))))))));?^,c,_,%,SqT.of hc,rfl,^,lt,_,%,SqT.of hl,rfl,rfl,^;rw[di];refine aY (λh1=>?_) (λh1=>?_)
  ·rw[h1,Bool.true_or]at q
   #q
  rw[h1,Bool.false_or]at q;?^,rfl,^;rw[show(!decide (V.str wy=V.str "part"))=decide (wy≠ce) by rw[ds',decide_not];rfl];refine aY (λh2=>?_) (λh2=>?_)
  ·rw[h2,Bool.true_and]at q
   ?^,c,_,%,SqT.of hc,rfl,rfl;rw[di];#q
  ·rw[h2,Bool.false_and]at q
   #q
¤Hn:Dj ["corner","last","way"] ["corner","last","way"] (ao (top 41)):=smk
¤mE(HM:Df K mg "ends_fence" (top 41)):Fn P w K mg base "ends_fence" ["corner","last","way"] 1 JD:=by
 refine HM.fn Hn (λ_ _ _ _ _ _ us hl=>by @_,_,_,rfl:=g7 hl;rfl) (λvs H Q E h=>?_) (λf cdv A outer s H vs Q E hr h=>?_)
 ·@c,lt,x,y,n,m,wy,rfl,_:=h
  rfl
 ·@c,lt,x,y,n,m,wy,rfl,hc,hl,q:=h
  ?_,(am (aB (za (dj bP ®0 af (aG _)) (gC (jn (dj gF ©2 fg (aG _)) (gC (dj bP ®0 ®1 (aG _))))))));?^,c,_,%,SqT.of hc,rfl,rfl,^;rw[di];refine aY (λh1=>?_) (λh1=>?_)
  ·rw[h1,Bool.true_or]at q
   #q
  rw[h1,Bool.false_or]at q;?^,rfl,^;rw[show(!decide (V.str wy=V.str "part"))=decide (wy≠ce) by rw[ds',decide_not];rfl];refine aY (λh2=>?_) (λh2=>?_)
  ·rw[h2,Bool.true_and]at q
   ?^,c,_,%,SqT.of hc,rfl,^,lt,_,%,SqT.of hl,rfl,rfl;rw[di];#q
  ·rw[h2,Bool.false_and]at q
   #q
structure JU(l:N4):Prop where
 b0:ar l.1<=240
 b1:ar l.2.1<=2
 b2:ar l.2.2.1<=470
 b3:ar l.2.2.2<=240
 p2:0<=l.2.2.1
 p3:1<=l.2.2.2
¤Nm.nb{K:W.Frag}{H:Hp}{p:Addr}{l:N4}(h:Nm K H p l):JU l:=⟨h.b0,h.b1,h.b2,h.b3,h.p2,h.p3⟩
¤JU.nm{K:W.Frag}{H:Hp}{p:Addr}{l:N4}(h:JU l)(t:TpK K H p (n4 l)):Nm K H p l:=⟨t,h.b0,h.b1,h.b2,h.b3,h.p2,h.p3⟩
¦AC(x:Dor):Prop:=(x.1=0\/x.1=1)/\(0<=x.2.1/\x.2.1<=1000)/\0<=x.2.2/\x.2.2<=1000
¦yP:Lb->Prop
 | .no=>True
 | .key _=>False
 | .bend d e l m=>∃x y:Dor,d=dkD x/\e=dkD y/\AC x/\AC y/\(HN l/\GK m)/\ro4 l m<0/\JU l/\JU m
¦i8:Lb->List Pr->Prop
 | .bend d e l m,ps=>∃(x y:Dor) (t u:Int) (q1 q2:Pr),d=dkD x/\e=dkD y/\Wi l.1 l.2.1 l.2.2.1 l.2.2.2 m.1 m.2.1 m.2.2.1 m.2.2.2 t u/\eN (x,t,u) q1/\eN (y,t,u) q2/\ps = [q1,q2]
 | _,ps=>ps = []
inductive Kh (K:W.Frag) (vs:List V) (H:Hp) (Q:VK) (x_3:XK):Prop
 | mk:∀(v:V) (lb:Lb),(vs = [v])->(j6 K H v lb)->(yP lb)->(∀(r:Addr) (H':Hp) (ps:List Pr),Same H H'->H r=none->i8 lb ps->Iw H' r ps->Q (.ref r) H')->Kh K vs H Q x_3
¤wD{P U L a0 a1 a2 a3 t u:Int}(hL:0<L)(hU:0<=U)(hu:0<u)(a2n:0<=a2)(a3p:0<a3)(h:0<=P\/P*P<=U)(w:Wi P 1 U L a0 a1 a2 a3 t u):0<=t:=by
 @m1,_:=w.mid hU hL a2n a3p;rcases Int.lt_or_le t 0 with y|y
 ·exfalso
  rw[aU (show 0<=1*u by omega)]at m1;!tl:t*L<0:=Int.mul_neg_of_neg_of_pos y hL;!e1:1*u*(1*u)*U=u*u*U:=by grind
  !u2:=Int.mul_nonneg (Int.mul_nonneg (show 0<=u by omega) (show 0<=u by omega)) hU;rcases h with h|h
  ·!:=Int.mul_nonneg h (show 0<=u by omega)
   rw[aU (show 0<=P*u - t*L by omega)]at m1;!:=sqx (P*u - t*L);~
  ·rcases Int.lt_or_le (P*u - t*L) 0 with z|z
   ·rw[aV ~]at m1
    !b1:=cD (show 0<=-(P*u - t*L) by omega) (show -(P*u - t*L)<=-(P*u) by omega);!b2:=Int.mul_le_mul_of_nonneg_left h (show 0<=u*u from Int.mul_nonneg ~ ~);!e2:-(P*u) * -(P*u)=u*u*(P*P):=by grind
    !e3:-(P*u - t*L) * -(P*u - t*L)=(P*u - t*L)*(P*u - t*L):=by grind
    ~
   ·rw[aU z]at m1
    !:=sqx (P*u - t*L);~
 ·#y
¤wE{a0 a1 a2 a3 P U L t u:Int}(hL:0<L)(hU:0<=U)(hu:0<u)(a2n:0<=a2)(a3p:0<a3)(h:P - L<=0\/(P - L)*(P - L)<=U)(w:Wi a0 a1 a2 a3 P (-1) U L t u):t<=u:=by
 @_,m2:=w.mid a2n a3p hU hL;rcases Int.lt_or_le u t with y|y
 ·exfalso
  rw[show - -1*u=u by omega,aU (show 0<=u by omega)]at m2;!tl:u*L<t*L:=Int.mul_lt_mul_of_pos_right y hL;!u2:=Int.mul_nonneg (Int.mul_nonneg (show 0<=u by omega) (show 0<=u by omega)) hU;!e0:(P - L)*u=P*u - u*L:=by grind
  rcases h with h|h
  ·!:=Int.mul_nonpos_of_nonpos_of_nonneg h (show 0<=u by omega)
   rw[aU (show 0<=t*L - P*u by omega)]at m2;!:=sqx (t*L - P*u);~
  ·rcases Int.lt_or_le (t*L - P*u) 0 with z|z
   ·rw[aV ~]at m2
    !b1:=cD (show 0<=-(t*L - P*u) by omega) (show -(t*L - P*u)<=(P - L)*u by omega);!b2:=Int.mul_le_mul_of_nonneg_left h (show 0<=u*u from Int.mul_nonneg ~ ~);!e2:(P - L)*u*((P - L)*u)=u*u*((P - L)*(P - L)):=by grind
    !e3:-(t*L - P*u) * -(t*L - P*u)=(t*L - P*u)*(t*L - P*u):=by grind
    ~
   ·rw[aU z]at m2
    !:=sqx (t*L - P*u);~
 ·#y
¤Ex:Dj ["bend","gap","part"] ["bend"] (ao (top 56)):=smk
¤jw{C:Addr}(Gh:Df K mg "pairs_of_bend" (top 56))(DH:Fx P w K mg base "root_between" ["one","other"] 5 [] (JO K C))(DB:Fn P w K mg base "pair_in_door" ["door","part"] 4 IV):Fn P w K mg base "pairs_of_bend" ["bend"] 7 (Kh K):=by
 refine Gh.fn Ex (λ_ _ _ _ _ _ us hl=>by @_,rfl:=eX hl;rfl) (λvs H Q E h=>?_) (λf cdv A outer s H vs Q E hr h=>?_)
 ·@v,lb,rfl,_:=h
  rfl
 ·@v,lb,rfl,hv,ok,k:=h
  ?_,(ag (aM (aE fW ©0 bI (aG _)) (am (aB (bU ak))) aI) (ag (£1 Ex ®0) (ag (£2 Ex (kX DH (hr.mono &) (by rfl) (ad ®1 (ad ®1 ak)))) (am (aB (bU (ad (¢DB (ad ®0 (ad ©2 ak))) (ad (¢DB (ad ®0 (ad ©2 ak))) ak))))))));cases lb with
  | key d=>#ok.elim
  | no =>
   !hv:v = .non:=hv;subst hv;§^,rfl,^,bM rfl ⟨sz (by simp),λr H1 s1 f1 n1=>k r H1 [] s1 n1 rfl ⟨f1,λq hq=>nomatch hq⟩⟩
  | bend d e l m =>
   @t,p,q,gp,a,b,rfl,ht,hp,hq,hg,ta,tb:=hv;@x,y,rfl,rfl,kx,ky,⟨hl,hm⟩,lt,b1,b2:=ok;!nm1:Nm K H a l:=b1.nm ta;!nm2:Nm K H b m:=b2.nm tb;¶^,rfl,^,aK (by simp) ?_;?^,t,_,%,SqT.of ht,rfl;!rg:∀{t u:Int},Wi l.1 l.2.1 l.2.2.1 l.2.2.2 m.1 m.2.1 m.2.2.1 m.2.2.2 t u->0<u->0<=t/\t<=u:=λ{t u} w hu=>by
    cases hl with
    | e =>
     exfalso;cases hm with
     | b=>#absurd lt &
     | n hL hU h _ =>
      !h1:=pN (L:=_) hU h;rw[fc]at lt;!h1:ro4 (_,-1,_,_) (1,0,0,1)<=0:=h1;~
    | @n P U L hL hU h z=>cases hm with
     | b =>
      exfalso;!h1:ro4 (0,0,0,1) (P,1,U,L)<=0:=js hU h;rw[fc]at lt;~
     | @n P' U' L' hL' hU' h' z'=>§wD hL hU hu hU' hL' h w,wE hL' hU' hu hU hL h' w
   ¶^,gp,_,%,SqT.of hg,rfl,^,gp,_,%,SqT.of hg,rfl,a,b,l.1,l.2.1,l.2.2.1,l.2.2.2,m.1,m.2.1,m.2.2.1,m.2.2.2,240,235,11,2600,rfl,nm1.rt,nm2.rt,⟨b1.p2,b1.p3,b2.p2,b2.p3,b1.b0,aq b1.b1 &,b1.b2,b2.b0,aq b2.b1 &,b2.b2,&,&⟩,⟨&,&,&⟩,(λz=>by !lt:ro l.1 l.2.1 l.2.2.1 l.2.2.2 m.1 m.2.1 m.2.2.1 m.2.2.2<0:=lt;~),(λz=>by !lt:ro l.1 l.2.1 l.2.2.1 l.2.2.2 m.1 m.2.1 m.2.2.1 m.2.2.2<0:=lt;~),λ_=>⟨sJ nm1 nm2 lt,λtp t' u' H1 s1 f1 wi bt bu=>?_⟩;!hlw:EG t' u':=by
    @_,_,_,_,_,_,_,_,_,h5:=id wi;#h5.low
   !r2:=rg wi hlw.pos;!fr:Jh H1 tp t' u' 2600:=⟨f1,hlw,bt,bu⟩;¶^,t,_,%,SqT.of (s1 _ _ ht),rfl,^,p,tp,x.1,x.2.1,x.2.2,t',u',rfl,s1 _ _ hp,kx.1,kx.2.1,kx.2.2,⟨fr,r2.1,r2.2⟩,λq1 H2 s2 pq1 dp1=>?_;!S2:=s1.trans s2;¶^,t,_,%,SqT.of (S2 _ _ ht),rfl,^,q,tp,y.1,y.2.1,y.2.2,t',u',rfl,S2 _ _ hq,ky.1,ky.2.1,ky.2.2,⟨fr.mono s2,r2.1,r2.2⟩,λq2 H3 s3 pq2 dp2=>⟨sz (by simp),λr H4 s4 f4 n4=>?_⟩;refine k r H4 [q1,q2] (S2.trans (s3.trans s4)) ((S2.trans s3).free n4) ⟨x,y,t',u',q1,q2,rfl,rfl,wi,dp1,dp2,rfl⟩ ⟨f4,λz hz=>?_⟩;rcases List.mem_cons.mp hz with h|h
   ·rw[h]
    #pq1.t (s3.trans s4).t
   ·rw[List.mem_singleton.mp h]
    #pq2.t s4.t
¤jt{room:Int}{gx gy:Option (N4×N4)}{l:N4×N4}(h:uF room gx gy=some l):∃p q,gx=some p/\gy=some q/\ro4 p.2 q.1<room/\l=(p.2,q.1):=by
 cases gx with
 | none=>cases h
 | some p=>cases gy with
  | none=>cases h
  | some q =>
   !h:(if ro4 p.2 q.1>=room then none else some (p.2,q.1))=some l:=h
   split at h
   ·cases h
   ·cases h
    §p,q,rfl,rfl,~,rfl
¦NbG(n m:Nat)(G:GF):Prop:=∀k i j l h,DIn n m k i j->G k i j=some (l,h)->JU l/\JU h
¤Dx.nbg{K:W.Frag}{C:Addr}{H:Hp}{f:Addr}{n m:Nat}{room:Int}{G:GF}{F:Int->Int->Bool}(h:Dx K C H f n m room G F):NbG n m G:=by
 @_,_,_,_,_,_,⟨_,d⟩,_:=h.ex;@_,_,_,a,_:=d.ex;intro k i j l h di e;@v,_,gv:=a k i j di;rw[e]at gv;@_,_,_,_,_,n1,n2:=gv;§n1.nb,n2.nb
¤wC{n m:Nat}{G:GF}{k i j k' i' j':Int}{l:N4×N4}(gg:GGk G)(nb:NbG n m G)(dx:DIn n m k i j)(dy:DIn n m k' i' j')(h:uF 0 (G k i j) (G k' i' j')=some l):(HN l.1/\GK l.2)/\ro4 l.1 l.2<0/\JU l.1/\JU l.2:=by
 @p,q,e1,e2,lt,rfl:=jt h;§⟨(bR (gg _ _ _ _ _ e1)).2,(bR (gg _ _ _ _ _ e2)).1⟩,lt,(nb _ _ _ _ _ dx e1).2,(nb _ _ _ _ _ dy e2).1
¤kB{n m:Nat}{k i j:Int}(hn:n<=20)(hm:m<=20)(d:DIn n m k i j):AC (k,i,j):=by
 rcases d with⟨rfl,⟨h1,h2⟩,h3,h4⟩|⟨rfl,⟨h1,h2⟩,h3,h4⟩
 ·§.inl rfl,⟨h1,by show i<=1000;~⟩,h3,(by show j<=1000;~)
 ·§.inr rfl,⟨h1,by show i<=1000;~⟩,h3,(by show j<=1000;~)
¤xz{n m:Nat}{G:GF}{F:Int->Int->Bool}(hn:n<=20)(hm:m<=20)(gg:GGk G)(nb:NbG n m G):∀s∈U n m,∀e∈kL 0 G F n m s,e.1∈U n m/\yP e.2:=by
 intro s hs e he;@i,j,rfl,g1,g2,g3,g4:=gH.mp hs;!he:e∈(dnS 0 G i j++ovS 0 G n m i j)++bkS F n m i j:=he;rcases List.mem_append.mp he with he|he
 ·rcases List.mem_append.mp he with he|he
  ·unfold dnS at he
   split at he
   ·cases he
   ·rename_i c
    split at he
    ·rw[List.mem_singleton.mp he]
     §gH.mpr ⟨_,_,rfl,g1,g2,~,~⟩,trivial
    ·@k,hk,he:=List.mem_filterMap.mp he
     !hk:=List.mem_range.mp hk;unfold dnE at he;@l,hl,rfl:=Option.map_eq_some_iff.mp he;!dx:DIn n m 0 i (j - 1):=.inl ⟨rfl,⟨g1,g2⟩,~,~⟩;!dy:DIn n m 0 (k:Int) (j - 1):=.inl ⟨rfl,⟨~,~⟩,~,~⟩;§gH.mpr ⟨_,_,rfl,~,~,~,~⟩,(0,i,j - 1),(0,(k:Int),j - 1),rfl,rfl,kB hn hm dx,kB hn hm dy,wC gg nb dx dy hl
  ·unfold ovS at he
   split at he
   ·cases he
   ·rename_i c
    split at he
    ·rw[List.mem_singleton.mp he]
     §gH.mpr ⟨_,_,rfl,~,~,g3,g4⟩,trivial
    ·@k,hk,he:=List.mem_filterMap.mp he
     !hk:=List.mem_range.mp hk;unfold ovE at he;@l,hl,rfl:=Option.map_eq_some_iff.mp he;!dx:DIn n m 1 i j:=.inr ⟨rfl,⟨g1,~⟩,g3,g4⟩;!dy:DIn n m 1 i (j+1+(k:Int)):=.inr ⟨rfl,⟨g1,~⟩,~,~⟩;§gH.mpr ⟨_,_,rfl,~,~,~,~⟩,(1,i,j),(1,i,j+1+(k:Int)),rfl,rfl,kB hn hm dx,kB hn hm dy,wC gg nb dy dx hl
 ·@p,hp,rfl:=List.mem_map.mp he
  @h1,h2,h3,h4,_:=dI.mp (List.mem_filter.mp hp).1;§gH.mpr ⟨_,_,rfl,h1,h2,h3,h4⟩,trivial
¤xw{n m:Nat}{room:Int}{G:GF}{F:Int->Int->Bool}(hn:n<=20)(hm:m<=20):∀s∈U n m,(kL room G F n m s).length<1000:=by
 intro s hs;@i,j,rfl,g1,g2,g3,g4:=gH.mp hs;show((dnS room G i j++ovS room G n m i j)++bkS F n m i j).length<1000;!a:(dnS room G i j).length<=21:=by
  unfold dnS
  split
  ·#Nat.zero_le _
  ·split
   ·show 1<=21;~
   ·refine Nat.le_trans (List.length_filterMap_le _ _) ?_
    rw[List.length_range];~
 !b:(ovS room G n m i j).length<=21:=by
  unfold ovS
  split
  ·#Nat.zero_le _
  ·split
   ·show 1<=21;~
   ·refine Nat.le_trans (List.length_filterMap_le _ _) ?_
    rw[List.length_range];~
 !c:(bkS F n m i j).length<900:=by
  unfold bkS;rw[List.length_map];#Nat.lt_of_le_of_lt (List.length_filter_le _ _) (lP hn hm)
 rw[List.length_append,List.length_append];~
¤rJ{wy:Str}{n m:Nat}{F:Int->Int->Bool}:((mG wy n m F).map λp=>ck p.1 p.2).Nodup:=by
 !nd:(mG wy n m F).Nodup:=by
  unfold mG mF;#List.Pairwise.filter _ rE
 refine List.pairwise_map.mpr (List.Pairwise.imp (λ{a b} h z=>h ?_) nd);@z1,z2:=wV z;#Prod.ext z1 z2
¤w6{wy:Str}{n m:Nat}{F:Int->Int->Bool}:∀s∈(mG wy n m F).map λp=>ck p.1 p.2,s∈U n m:=λs hs=>by
 @p,hp,rfl:=List.mem_map.mp hs;@g1,g2,g3,g4,_:=dI.mp (List.mem_filter.mp hp).1;#gH.mpr ⟨_,_,rfl,g1,g2,g3,g4⟩
¤xK{bs U:List aL}{stp:aL->List (aL×Lb)}{fin:aL->Bool}{l:List (aL×Lb)}(r:yK bs stp fin l)(hb:∀s∈bs,s∈U)(hs:∀s∈U,∀e∈stp s,e.1∈U/\yP e.2):∀(n:Nat) e,l[n]? = some e->e.1∈U/\yP e.2:=by
 !inU:=xN r hb (λs h e he=>(hs s h e he).1);@⟨s,r',rfl,h1⟩,h2,_:=r;intro n;cases n with
 | zero=>intro e he;simp at he;subst he;§hb s h1,trivial
 | succ k =>
  intro e he;!lt:=(List.getElem?_eq_some_iff.mp he).1;obtain⟨a,ha⟩:∃a,((s,Lb.no)::r')[k]? = some a:=⟨((s,Lb.no)::r')[k]'~,by rw[List.getElem?_eq_getElem ~]⟩;#hs _ (inU k a ha) e (h2 k a e ha he)
¤kQ{p:Addr}{H H':Hp}{b:Addr}{ls:List (Pos×Str)}(s:fm p H H')(t:Tab H' p ls)(n:H' b=none):H b=none:=by
 cases e:H b with
 | none=>rfl
 | some o =>
  by_cases z:b=p
  ·@ps,e1,_:=t
   rw[z,e1]at n;cases n
  ·rw[s b o z e]at n
   cases n
¦cV(H H':Hp):Prop:=∀b o,H b=some o->(∀ps,o≠.tbl ps)->H' b=some o
¤cV.of{H H':Hp}(s:Same H H'):cV H H':=λb o e _=>s b o e
¤cV.trans{H H1 H2:Hp}(a:cV H H1)(b:cV H1 H2):cV H H2:=λc o e n=>b c o (a c o e n) n
¤cV.t{H H':Hp}(s:cV H H'){b:Addr}{xs:List V}(e:H b=some (.tup xs)):H' b=some (.tup xs):=s b _ e λps q=>by cases q
¤cV.l{H H':Hp}(s:cV H H'){b:Addr}{xs:List V}(e:H b=some (.lst xs)):H' b=some (.lst xs):=s b _ e λps q=>by cases q
¤cV.line{H H':Hp}(s:cV H H'){l:Addr}{qs:Crn}(L:LineM H l qs):LineM H' l qs:=⟨s.l L.lst,λq hq=>⟨s.t (L.crn q hq).1,(L.crn q hq).2⟩⟩
¤cV.seq{H H':Hp}(s:cV H H'){l:Addr}{xs:List V}(L:SqL K H l xs):SqL K H' l xs:=by
 rcases L with(h|⟨o,h⟩)|h
 ·#.inl (.inl (s.l h))
 ·#.inl (.inr ⟨o,s _ _ h λps q=>by cases q⟩)
 ·#.inr h
¤fm.n{p:Addr}{H H':Hp}{ls:List (Pos×Str)}(s:fm p H H')(t:Tab H p ls):cV H H':=λb o e n=>s.keep t e n
¤oQ{K:W.Frag}{H H':Hp}{a:Addr}{xs:List V}(h:TpK K H a xs)(k:∀b o,H b=some o->(∀z,o≠KnO z)->(∀ps,o≠.tbl ps)->H' b=some o):TpK K H' a xs:=h.imp_left λh=>k _ _ h (λz q=>by cases q) (λz q=>by cases q)
¤Dx.keep{K:W.Frag}{C:Addr}{H H':Hp}{f:Addr}{n m:Nat}{room:Int}{G:GF}{F:Int->Int->Bool}(h:Dx K C H f n m room G F)(k:∀b o,H b=some o->(∀z,o≠KnO z)->(∀ps,o≠.tbl ps)->H' b=some o):Dx K C H' f n m room G F:=by
 @dx,lt,d,fr,h1,h2,⟨c,⟨kvs,e,l,a,z⟩⟩,⟨o,h4⟩:=h.ex;¶dx,lt,d,fr,k _ _ h1 (λz q=>by cases q) (λz q=>by cases q),k _ _ h2 (λz q=>by cases q) (λz q=>by cases q),⟨c,⟨kvs,k _ _ e (λz q=>by cases q) (λz q=>by cases q),l,λkk i j x=>?_,z⟩⟩,⟨o,k _ _ h4 (λz q=>by cases q) (λz q=>by cases q)⟩;@v,ev,g:=a kk i j x;?v,ev;cases hg:G kk i j with
 | none=>rw[hg]at g;#g
 | some lm =>
  rw[hg]at g;@t,p,q,e,f,n1,n2:=g;§t,p,q,e,k _ _ f (λz q=>by cases q) (λz q=>by cases q),⟨oQ n1.at_ k,n1.b0,n1.b1,n1.b2,n1.b3,n1.p2,n1.p3⟩,⟨oQ n2.at_ k,n2.b0,n2.b1,n2.b2,n2.b3,n2.p2,n2.p3⟩
¦qP:Str:="fence_past"++".<locals>."++"<lambda>"
¦laP:Expr:=tK ((aT (top 57)).getD 1 (.Pass ⟨0,0,0,0⟩)) 1
¦lbP:Expr:=tK ((aT (top 57)).getD 1 (.Pass ⟨0,0,0,0⟩)) 2
¦lsP:List (Pos×Str):=[(fH laP,qP),(fH lbP,qP)]
inductive JM:List (aL×Lb)->List Pr->Prop
 | nil:JM [] []
 | cons {e:aL×Lb} {l:List (aL×Lb)} {bs ps:List Pr} {q:Pr} (hb:i8 e.2 bs) (hq:prC q (dec e.1)) (r:JM l ps):JM (e::l) (bs++q::ps)
¤JM.snoc{e:aL×Lb}{l:List (aL×Lb)}{bs ps:List Pr}{q:Pr}(h:JM l ps)(hb:i8 e.2 bs)(hq:prC q (dec e.1)):JM (l++[e]) ((ps++bs)++[q]):=by
 induction h with
 | nil=>#.cons hb hq .nil
 | cons hb' hq' _ ih =>
  !:=JM.cons hb' hq' ih;simpa only[List.cons_append,List.append_assoc]using this
¤wZ{lb:Lb}{ps:List Pr}(h:i8 lb ps):ps.length<=2:=by
 cases lb with
 | bend d e l m =>
  @_,_,_,_,_,_,_,_,_,_,_,rfl:=h;#Nat.le_refl _
 | no=>rw[show ps = [] from h];#Nat.zero_le _
 | key d=>rw[show ps = [] from h];#Nat.zero_le _
¦CA(wy:Str)(n m:Nat)(G:GF)(F:Int->Int->Bool)(ps:List Pr):Prop:=∃lst,yK ((mG wy n m F).map λp=>ck p.1 p.2) (kL 0 G F n m) (uI wy n) lst/\zJ ((mG wy n m F).map λp=>ck p.1 p.2) (kL 0 G F n m) (uI wy n) lst/\lst.length<=100/\JM lst ps/\ps.length<=300
inductive Kk (K:W.Frag) (C t:Addr) (vs:List V) (H:Hp) (Q:VK) (x_3:XK):Prop
 | mk:∀(fo:Addr) (n m:Nat) (G:GF) (F:Int->Int->Bool) (wy:Str),(vs = [.ref fo,.str wy])->(Tab H t lsP)->(Dx K C H fo n m 0 G F)->(((1<=n/\n<=9)/\1<=m/\m<=9))->(GGk G)->(¬yJ ((mG wy n m F).map λp=>ck p.1 p.2) (kL 0 G F n m) (uI wy n))->(∀r H' ps,H r=none->fm t H H'->Tab H' t lsP->CA wy n m G F ps->Iw H' r ps->Q (.ref r) H')->Kk K C t vs H Q x_3
¤D0:Dj ["field","way","begins","row","pairs","corner","bend"] ["field","way"] (ao (top 57)):=smk
¤mD{t_fence_past:Addr}(Fd:KO K mg "fence_past" (top 57) t_fence_past)(Dl:FQ K mg "Field" C_Field)(n_room:aX K C_Field "room")(n_last:aX K C_Field "last")(n_doors:aX K C_Field "doors")(n_far:aX K C_Field "far")(BF:yS K mg)(Ix:Fn P w K mg base "seek" ["begins","steps_from","is_end"] 10 (vi P w K mg base 8))(E4:Fn P w K mg base "steps_from" ["field","corner"] 7 (Ke K C_Field))(EN:Fn P w K mg base "begins_fence" ["corner","last","way"] 1 JG)(Fc:Fn P w K mg base "ends_fence" ["corner","last","way"] 1 JD)(Dz:Fn P w K mg base "pair_at_corner" ["corner"] 1 Go)(Ez:Fn P w K mg base "pairs_of_bend" ["bend"] 7 (Kh K))(T:Txt mg):Fn P w K mg base "fence_past" ["field","way"] 11 (Kk K C_Field t_fence_past):=by
 refine Fd.fn D0 (λ_ _ _ _ _ _ us hl=>by @_,_,rfl:=dJ hl;rfl) (λvs H Q E h=>?_) (λf cdv A outer s H vs Q E CF hr h=>?_)
 ·@fo,n,m,G,F,wy,rfl,_:=h
  rfl
 ·@fo,n,m,G,F,wy,rfl,tb,fa,⟨⟨hn,hn20⟩,hm,hm20⟩,gg,nsh,q1:=h
  @c,ec,CF:=CF;!CL_a:closureFor (fO laP) (bV CX0 P w K mg base ["field","way","begins","row","pairs","corner","bend"] "fence_past" (ao (top 57)) f cdv A outer s H E).nox.env=pure ([("field",s.heap.objs.size+1)]:List (Str×Addr)):=by rfl
  !CL_b:closureFor (fO lbP) (bV CX0 P w K mg base ["field","way","begins","row","pairs","corner","bend"] "fence_past" (ao (top 57)) f cdv A outer s H E).nox.env=pure ([("way",s.heap.objs.size+2),("field",s.heap.objs.size+1)]:List (Str×Addr)):=by rfl
  !CM_a:(fH laP,qP)∈lsP:=List.mem_cons_self;!CM_b:(fH lbP,qP)∈lsP:=List.mem_cons_of_mem _ List.mem_cons_self;!CD_a:∀l∈lsP,l≠(fH laP,qP)->¬(l.1.line=(fH laP).line/\l.1.col=(fH laP).col):=by
   intro l hl ne;rcases List.mem_cons.mp hl with rfl|hl
   ·#absurd rfl ne
   ·rw[List.mem_singleton.mp hl]
    decide +kernel
  !CD_b:∀l∈lsP,l≠(fH lbP,qP)->¬(l.1.line=(fH lbP).line/\l.1.col=(fH lbP).col):=by
   intro l hl ne;rcases List.mem_cons.mp hl with rfl|hl
   ·decide +kernel
   ·rw[List.mem_singleton.mp hl]at ne
    #absurd rfl ne
  !CS:∀p∈[((s.heap.objs.size+1:Addr),0),(s.heap.objs.size+2,1)],∃y,(bV CX0 P w K mg base ["field","way","begins","row","pairs","corner","bend"] "fence_past" (ao (top 57)) f cdv A outer s H E).nox.env.cells.lookup y=some p.1/\(bV CX0 P w K mg base ["field","way","begins","row","pairs","corner","bend"] "fence_past" (ao (top 57)) f cdv A outer s H E).nox.N[p.2]? = some y/\(bV CX0 P w K mg base ["field","way","begins","row","pairs","corner","bend"] "fence_past" (ao (top 57)) f cdv A outer s H E).nox.env.kindOf y=some .cell/\Vis (bV CX0 P w K mg base ["field","way","begins","row","pairs","corner","bend"] "fence_past" (ao (top 57)) f cdv A outer s H E).nox.env.scope y:=by
   intro p hp;simp only[List.mem_cons,List.not_mem_nil,or_false]at hp;rcases hp with rfl|rfl
   ·§"field",rfl,rfl,rfl,.inr (.inl rfl)
   ·§"way",rfl,rfl,rfl,.inr (.inl rfl)
  !CB:Ge (bV CX0 P w K mg base ["field","way","begins","row","pairs","corner","bend"] "fence_past" (ao (top 57)) f cdv A outer s H E).nox (vk ((aT (top 57)).getD 0 (.Pass ⟨0,0,0,0⟩))) [("way",s.heap.objs.size+2),("field",s.heap.objs.size+1)] ["corner"] [("field",0),("way",1)] :=
   ⟨by rfl,rfl,by decide +kernel,by decide +kernel,(λx hx=>by simp only[List.mem_cons,List.not_mem_nil,or_false]at hx;subst hx;rfl),(λp hp=>by simp only[List.mem_cons,List.not_mem_nil,or_false]at hp;rcases hp with rfl|rfl <;> rfl),by rfl,by decide +kernel,(λp hp=>by simp only[List.mem_cons,List.not_mem_nil,or_false]at hp;rcases hp with rfl|rfl <;> §rfl,rfl,.inr (.inl rfl),rfl,rfl),⟨rfl,rfl⟩,rfl⟩
  ?_,(ag (jH (j:=2) rfl CB D0.nd rfl rfl (sj (cS ©0 rfl)) (λfp s₀ H₀=>(aQ (i:=0) CB.nd rfl (Or.inl rfl) (Or.inr rfl))) (λfp s₀ H₀=>(nQ (bH (¢EN (ad ©0 (ad (sx (K:=K) rfl ©1 rfl) (ad ©2 ak))))))) (λfp s₀ H₀=>©0)) (ag (£3 D0 (Ai Ix (hr.mono &) (by rfl) (λ_=>rfl) CS (ad ©2 (ad (vE CL_a ec CF BF rfl rfl CM_a CD_a) (ad (vE CL_b ec CF BF rfl rfl CM_b CD_b) ak))))) (ag (£4 D0 (bU ak)) (ag (cj PassesOwn.never rfl (eG ©3) (fe rfl (bK (aQ (i:=5) D0.nd rfl (Or.inl rfl)) (bK (aQ (i:=6) D0.nd rfl (Or.inl rfl)) dX))) (ag (cH (fF PySem.F.plainAttrs_list PySem.F.slot_list_extend PySem.F.type_list_extend k8 ©4 (ad (¢Ez (ad ©6 ak)) ak))) (am (cH (fF PySem.F.plainAttrs_list PySem.F.slot_list_append PySem.F.type_list_append ca ©4 (ad (¢Dz (ad ©5 ak)) ak)))))) (am (aB ©4))))));@dx,lt,d,fr,hf,hl,_,fd:=fa.ex;@o,ed:=id fd;!nb:=fa.nbg;¶^,fo,C_Field,dx,_,^,hf,Dl.cls,n_far,rfl,fr,o,^,ed,lV (k:=1) ed (by unfold kvF;rw[List.length_map];!:=lP (F:=F) (show n<=20 by omega) (show m<=20 by omega);~) (zV λp=>decide (p.2=(m:Int)) || (decide (wy≠ce) && decide (p.1=0))) (λe y H'=>cp H' y e.1) (λe v H H' st h=>h.mono st) ?_ ?_
  ·intro k e b H2 τ Kc Kn he hb s2 hτ kc kn
   obtain⟨τ0,rfl⟩:∃τ0,τ = [τ0]:=eX hτ;!he':=List.mem_of_getElem? he;unfold kvF at he';@p,hp,rfl:=List.mem_map.mp he';@x,y:=p;?⟨[some (.ref b)],rfl,rfl⟩;¶^,^,fo,C_Field,dx,_,^,s2 _ _ hf,Dl.cls,n_last,rfl,^,b,lt,x,y,n,m,wy,rfl,hb,s2 _ _ hl,^,aY (λh=>?_) (λh=>kn h H2 (Same.refl _));§^,kc h _ H2 (Same.refl _) ⟨b,rfl,hb⟩
  intro bl bvs H3 nb3 S3 f3 prb;rw[ie]at prb;!pb3:Paired (λs v=>cp H3 v s) ((mG wy n m F).map λp=>ck p.1 p.2) bvs:=iJ (hV (f:=λ(p:Int×Int)=>(ck p.1 p.2,V.bl true)) prb);!tb3:=tb.same S3;¶^,tb3,λla_ H4 P4 tb4 la4 nfa=>⟨tb4,λlb_ H5 P5 tb5 lb5 nfb=>λH6 s6 cells=>?_⟩;!kp:∀{x:Addr} {ob:HO},H3 x=some ob->(∀ps,ob≠.tbl ps)->H6 x=some ob:=λe n=>s6 _ _ (P5.keep tb4 (P4.keep tb3 e n) n);!c1:=cells (s.heap.objs.size+1,0) List.mem_cons_self (.ref fo) rfl;!c2:=cells (s.heap.objs.size+2,1) (List.mem_cons_of_mem _ List.mem_cons_self) (.str wy) rfl;!la6:=(la4.same λx ob e=>P5.keep tb4 e (λps q=>by cases q)).same λx ob e=>s6 _ _ e;!lb6:=lb5.same λx ob e=>s6 _ _ e;!fa6:Dx K C_Field H6 fo n m 0 G F:=(fa.mono S3).keep λb o e _ h2=>kp e h2;!AL:=xz (F:=F) (show n<=20 by omega) (show m<=20 by omega) gg nb;!FN:K5 P w K mg base 8 H6 la_ lb_ (U n m) (kL 0 G F n m) (uI wy n):=by
   ¶la6.obj,lb6.obj,?_,?_,λs hs e he=>(AL s hs e he).1,xw ~ ~
   ·@pm,cc,ct,ea,ck6:=la6
    !LN:JV "corner" (fO laP) [("field",s.heap.objs.size+1)]:=by
     ¶rfl,rfl,rfl,by decide +kernel,rfl,by rfl,?_,λp hp=>?_,λp hp q hq e=>?_
     ·show(["corner","field"]:List Str).Nodup
      decide +kernel
     ·rw[List.mem_singleton.mp hp]
      rfl
     ·rw[List.mem_singleton.mp hp,List.mem_singleton.mp hq]
    ?_,⟨_,["corner"],wd (P:=P) (w:=w) (K:=K) (mg:=mg) (base:=base) (x:="corner") (q:=qP) (params:=sR laP) (body:=sQ laP) (scope:=fO laP) (pm:=pm) (ctv:=ct) (f:=la_) (c:=cc) (k:=7) LN (λA2 o2 s2 H2 hr2=>aH E4 (hr2.mono &) (by rfl) (ad ©1 (ad ©0 ak))),.all λus hl=>by @_,rfl:=eX hl;rfl⟩;intro H' v sp Q' s' hv hU k;@x,y,rfl,b1,b2,b3,b4:=gH.mp hU;@p,rfl,hp:=hv;!cs:Paired (λ(p:Str×Addr) z=>d5 H' p.2 z) [("field",s.heap.objs.size+1)] [.ref fo]:=.cons (c1.mono s') .nil;!hC:=qA cs;!CK:jO H' cc qP:=by
     @o,vs,t,e,r:=ck6;§o,vs,t,s' _ _ e,r
    ?.ref p,[.ref fo],rfl,s' _ _ ea,CK,cs;¶^,^,fo,p,n,m,0,G,F,x,y,rfl,(fa6.mono s').keep λb o e h1 _=>gM hC e h1,gM hC hp (λz q=>by cases q),⟨⟨b1,b2⟩,~⟩,⟨⟨b3,b4⟩,~⟩,λr H1 s1 nr st hC1=>?_;refine k r _ (mR s1) ?_ (ua hC1 st);@vs,er,_:=st;rw[dC λz=>by rw[hC1 r z]at er;cases er]at nr;#nr
   ·@pm,cc,ct,ea,ck6:=lb6
    !LN:JV "spot" (fO lbP) [("way",s.heap.objs.size+2),("field",s.heap.objs.size+1)]:=by
     ¶rfl,rfl,rfl,by decide +kernel,rfl,by rfl,?_,λp hp=>?_,λp hp q hq e=>?_
     ·show(["spot","way","field"]:List Str).Nodup
      decide +kernel
     ·simp only[List.mem_cons,List.not_mem_nil,or_false]at hp
      rcases hp with rfl|rfl <;> rfl
     ·simp only[List.mem_cons,List.not_mem_nil,or_false]at hp hq
      rcases hp with rfl|rfl <;> rcases hq with rfl|rfl
      ·rfl
      ·#absurd (show s.heap.objs.size+2=s.heap.objs.size+1 from e) ~
      ·#absurd (show s.heap.objs.size+1=s.heap.objs.size+2 from e) ~
      ·rfl
    ?_,⟨_,["spot"],wd (P:=P) (w:=w) (K:=K) (mg:=mg) (base:=base) (x:="spot") (q:=qP) (params:=sR lbP) (body:=sQ lbP) (scope:=fO lbP) (pm:=pm) (ctv:=ct) (f:=lb_) (c:=cc) (k:=7) LN (λA2 o2 s2 H2 hr2=>aH Fc (hr2.mono &) (by rfl) (ad ©0 (ad (sx (K:=K) rfl ©2 rfl) (ad ©1 ak)))),.all λus hl=>by @_,rfl:=eX hl;rfl⟩;intro H' v sp Q' s' hv hU k;@x,y,rfl,_:=gH.mp hU;@p,rfl,hp:=hv;!cs:Paired (λ(p:Str×Addr) z=>d5 H' p.2 z) [("way",s.heap.objs.size+2),("field",s.heap.objs.size+1)] [.str wy,.ref fo]:=.cons (c2.mono s') (.cons (c1.mono s') .nil);!hC:=qA cs;!CK:jO H' cc qP:=by
     @o,vs,t,e,r:=ck6;§o,vs,t,s' _ _ e,r
    @dx',lt',d',fr',hf',hl',_,_:=(fa6.mono s').ex;?.ref p,[.str wy,.ref fo],rfl,s' _ _ ea,CK,cs;§^,^,fo,C_Field,dx',_,^,gM hC hf' (λz q=>by cases q),Dl.cls,n_last,rfl,^,p,lt',x,y,n,m,wy,rfl,gM hC hp (λz q=>by cases q),gM hC hl' (λz q=>by cases q),λhC1=>k _ (mR (Same.refl _))
  !SP5:fm t_fence_past H H5:=(S3.p.trans P4).trans P5;!pb6:Paired (λs v=>cp H6 v s) ((mG wy n m F).map λp=>ck p.1 p.2) bvs:=Paired.mapP pb3 λa b ⟨p,e1,e2⟩=>⟨p,e1,kp e2 (λps q=>by cases q)⟩;!us:=yI (show n<=20 by omega) (show m<=20 by omega);?bl,la_,lb_,bvs,_,U n m,kL 0 G F n m,uI wy n,rfl,kp f3 (λps q=>by cases q),pb6,rJ,w6,us,FN,?_
  ·intro H7 s7 sh
   #(nsh sh).elim
  ·intro r H7 lst s7 road fnd hlen ra H8 k1 k2
   !S8:Same H5 H8:=λx ob e=>k2 x ob e (s7 _ _ (s6 _ _ e));@vs,hr8,pr8:=xM (yf k1) ra;!vl:=Paired.length pr8;!ok:=xK road w6 AL;!ul:(U n m).length<=100:=by
    rw[zI];!:=Nat.mul_le_mul (show n+1<=10 by omega) (show m+1<=10 by omega);~
   ¶sz (by simp),λpl H9 s9 f9 n9=>?_;!nr:r≠pl:=λz=>by rw[<- z,hr8]at n9;cases n9
   !w9:H9 pl=some (.lst (prs [])):=f9;refine⟨_,rfl,r,rfl,⟨_,SqL.of (s9 _ _ hr8)⟩,fQ (K:=K) (a:=r) (xs:=vs) (λi σ H'=>∃(ps':List Pr) (z5 z6:Option V),σ = [some (.ref fo),some (.str wy),some (.ref bl),some (.ref r),some (.ref pl),z5,z6]/\cB pl H9 H'/\H' pl=some (.lst (prs ps'))/\JM (lst.take i) ps'/\(∀q∈ps',Iv H' q)/\ps'.length<=3*i)
    ⟨[],_,_,rfl,λb o _ e=>e,w9,.nil,(λq hq=>nomatch hq),Nat.le_refl _⟩ (λi σ H' _ ⟨_,_,_,_,b',_⟩=>SqL.of (b' _ _ nr (s9 _ _ hr8))) ?_ ?_⟩
   ·rintro i x σ H10 hx ⟨ps',z5,z6,rfl,b10,w10,fl,pts,len⟩
    !il:=(List.getElem?_eq_some_iff.mp hx).1;@e,he,t,sv,hv,rfl,ht,⟨c,rfl,hc⟩,hlb:=bo pr8 i x hx;!noT:∀xs,H9 pl≠some (.tup xs):=λxs z=>by rw[w9]at z;cases z
    !t10:SameT H8 H10:=s9.t.trans (b10.t noT);@eu,el:=ok i e he;@x,y,ex,g1,g2,g3,g4:=gH.mp eu;rw[ex]at hc;!lb10:=hlb.mono t10;!hvl:vs.length<=100:= ~
    ?t,^,SqT.of (t10 _ _ ht),rfl,_,^,%;¶^,.inl ⟨rfl,_,SqL.of w10⟩,^,_,^,lb10,el,λr2 H11 bs s11 n2 bp pb=>?_;!bl2:=wZ bp;¶pl,r2,%,s11 _ _ w10,pb.lst,Nat.le_trans (show(prs ps').length+(prs bs).length<=1000 by rw[dW,dW];~) &,λH12 u12=>?_;!w12:H12 pl=some (.lst (prs (ps'++bs))):=by
     rw[u12.now];unfold prs;rw[List.map_append]
    !t12:=t10.trans (s11.t.trans u12.t);¶^,.inl ⟨rfl,_,SqL.of w12⟩,^,c,x,y,rfl,t12 _ _ hc,⟨g1,~⟩,⟨g3,~⟩,λq H13 s13 pq cq=>?_;¶pl,%,s13 _ _ w12,bJ (by rw[dW,List.length_append];~),λH14 u14=>?_;?(ps'++bs)++[q],_,^,λb' o' nb' e'=>u14.at nb' (s13 _ _ (u12.at nb' (s11 _ _ (b10 _ _ nb' e')))),?_,?_,λq' hq'=>?_
    ·rw[u14.now,kR]
    ·rw[List.take_add_one,he]
     refine fl.snoc bp ?_;rw[ex];#cq
    ·rcases List.mem_append.mp hq' with hq'|hq'
     ·!t14:SameT H12 H14:=s13.t.trans u14.t
      rcases List.mem_append.mp hq' with hq'|hq'
      ·#(pts q' hq').t ((s11.t.trans u12.t).trans t14)
      ·#(pb.pr q' hq').t (u12.t.trans t14)
     ·rw[List.mem_singleton.mp hq']
      #pq.two.t u14.t
    ·rw[List.length_append,List.length_append,List.length_singleton]
     ~
   ·rintro σ H10 ⟨ps',z5,z6,rfl,b10,w10,fl,pts,len⟩
    rw[List.take_of_length_le ~]at fl;!S10:Same H8 H10:=b10.same s9 n9;§^,q1 pl H10 ps' (kQ (SP5.trans S8.p) (tb5.same S8) n9) ((SP5.trans S8.p).trans S10.p) (tb5.same (S8.trans S10)) ⟨lst,road,fnd,~,fl,~⟩ ⟨w10,pts⟩
¤sf{α:Type}{R:α->Pr->Prop}:∀{l:List α} {ys:List V},ys.length=l.length->(∀(i:Nat) y,ys[i]? = some y->∃q e,l[i]? = some e/\y=V.ref q.p/\R e q)->∃ps,ys=prs ps/\Paired R l ps
 | [],[],_,_=>⟨[],rfl,.nil⟩
 | e::l,y::ys,hl,h=>by
  @q,e',h1,h2,h3:=h 0 y rfl;cases h1;@ps,h4,h5:=sf (R:=R) (l:=l) (ys:=ys) (by simpa using hl) (λi y hy=>h (i+1) y (by simpa using hy));§q::ps,by rw[h2,h4];rfl,.cons h3 h5
 | [],_::_,hl,_=>by simp at hl
 | _::_,[],hl,_=>by simp at hl
¦onB(n1:Bool)(a b a' b':Int):Prop:=if n1=true then a'=0/\b'=1 else a'=a/\b'=b
inductive Jt (vs:List V) (H:Hp) (Q:VK) (x_3:XK):Prop
 | mk:∀(l p:Addr) (qs:Crn) (a b:Int),(vs = [.ref l,.ref p])->(LineM H l qs)->((Jh H p a b 5300/\0<=a))->(∀(r:Addr) (a' b':Int) (H':Hp),Same H H'->Jh H' r a' b' 5300->0<=a'->onB (decide (qs.length=1)) a b a' b'->Q (.ref r) H')->Jt vs H Q x_3
¦l9(o1 o2:Bool)(q q':Pr):Prop:=onB o1 q.a q.b q'.a q'.b/\onB o2 q.c q.d q'.c q'.d
inductive G5 (vs:List V) (H:Hp) (Q:VK) (x_3:XK):Prop
 | mk:∀(l1 l2 l:Addr) (qs rs:Crn) (ps:List Pr),(vs = [.ref l1,.ref l2,.ref l])->(LineM H l1 qs)->(LineM H l2 rs)->(Iw H l ps)->(ps.length<990)->(∀(r:Addr) (ps':List Pr) (H':Hp),H r=none->Same H H'->Iw H' r ps'->Paired (l9 (decide (qs.length=1)) (decide (rs.length=1))) ps ps'->Q (.ref r) H')->G5 vs H Q x_3
¤Il:Dj ["line","place"] ["line","place"] (ao (top 45)):=smk
¤pV(Iz:Df K mg "place_on" (top 45))(T:Txt mg):Fn P w K mg base "place_on" ["line","place"] 1 Jt:=by
 refine Iz.fn Il (λ_ _ _ _ _ _ us hl=>by @_,_,rfl:=dJ hl;rfl) (λvs H Q E h=>?_) (λf cdv A outer s H vs Q E hr h=>?_)
 ·@l,p,qs,a,b,rfl,_:=h
  rfl
 ·@l,p,qs,a,b,rfl,L,⟨fr,a0⟩,k:=h
  ?_,(am (aB (gD (aE bP (aN aO (by rfl) T.z_len bX (ad ©0 ak)) af (aG _)) (aJ (ad af (ad af ak))) ©1)));!hll:(qs.map λ(q:Addr×Int×Int)=>V.ref q.1).length=qs.length:=List.length_map _;unfold onB at k;?^,l,^,.inl (SqL.of L.lst),rfl,^;rw[hll,di];refine aY (λc=>?_) (λc=>?_)
  ·!c:qs.length=1:=by !:((qs.length:Nat):Int)=1:=bZ c;~
   rw[decide_eq_true c]at k;§sz (by simp),λr H1 s1 f1 _=>k r 0 1 H1 s1 ⟨f1,⟨&,&⟩,&,&⟩ & ⟨rfl,rfl⟩
  ·!c:¬qs.length=1:=λz=>cJ c (by rw[z];rfl)
   rw[decide_eq_false c]at k;§^,k p a b H (Same.refl _) fr a0 ⟨rfl,rfl⟩
¤Im:Dj ["one","other","pairs"] ["one","other","pairs"] (ao (top 46)):=smk
¤pX(IB:Df K mg "pairs_on" (top 46))(E7:Fn P w K mg base "place_on" ["line","place"] 1 Jt)(T:Txt mg):Fn P w K mg base "pairs_on" ["one","other","pairs"] 2 G5:=by
 refine IB.fn Im (λ_ _ _ _ _ _ us hl=>by @_,_,_,rfl:=g7 hl;rfl) (λvs H Q E h=>?_) (λf cdv A outer s H vs Q E hr h=>?_)
 ·@l1,l2,l,qs,rs,ps,rfl,_:=h
  rfl
 ·@l1,l2,l,qs,rs,ps,rfl,L1,L2,PP,hlen,k:=h
  !CN:Ff (bV CX0 P w K mg base ["one","other","pairs"] "pairs_on" (ao (top 46)) f cdv A outer s H E).nox (Sp7.retScope ((aT (top 46)).getD 0 (.Pass ⟨0,0,0,0⟩))) [("other",s.heap.objs.size+2),("one",s.heap.objs.size+1)] "pair" [("one",0),("other",1)] :=
   ⟨by rfl,rfl,by decide +kernel,by decide +kernel,rfl,(λp hp=>by simp only[List.mem_cons,List.not_mem_nil,or_false]at hp;rcases hp with rfl|rfl <;> rfl),by rfl,by decide +kernel,(λp hp=>by simp only[List.mem_cons,List.not_mem_nil,or_false]at hp;rcases hp with rfl|rfl <;> §rfl,rfl,.inr (.inl rfl),rfl,rfl),⟨rfl,rfl⟩,rfl⟩
  ?_,(am (aB (iI rfl CN (eG ©2) (λfp s₀ H₀=>(aJ (ad (¢E7 (ad ©1 (ad (ax (fX (K:=K) rfl) ©0 af (λ_ _=>rfl)) ak))) (ad (¢E7 (ad ©2 (ad (ax (fX (K:=K) rfl) ©0 af (λ_ _=>rfl)) ak))) ak)))))));¶^,l,rfl,⟨_,SqL.of PP.lst⟩,rG (SqL.of PP.lst) (by rw[dW];~) (λi v H'=>∃(q':Pr) (q:Pr),ps[i]? = some q/\v = .ref q'.p/\(Iv H' q'/\l9 (decide (qs.length=1)) (decide (rs.length=1)) q q')) (λi v H H' st ⟨q',q,x1,x2,x3,x4⟩=>⟨q',q,x1,x2,x3.t st,x4⟩) ?_ ?_
  ·intro i x H2 Kc hx s2 kk
   @q,hq,rfl:=ka hx;!mq:=List.mem_of_getElem? hq;!pq:=(PP.pr q mq).t s2.t;!T:=λ{H':Hp} (s:Same H2 H')=>SqT.of (K:=K) (s _ _ pq.p_);¶^,^,q.p,_,%,T (Same.refl _),rfl,l1,q.x,qs,q.a,q.b,rfl,L1.mono s2,⟨⟨pq.x_,pq.lx,pq.ba,pq.bb⟩,pq.nx⟩,λr1 a' b' H3 s3 f3 a0 o1=>?_;¶^,^,q.p,_,%,T s3,rfl,l2,q.y,rs,q.c,q.d,rfl,L2.mono (s2.trans s3),⟨⟨s3 _ _ pq.y_,pq.ly,pq.bc,pq.bd⟩,pq.ny⟩,λr2 c' d' H4 s4 f4 c0 o2=>⟨sz (by simp),λo H5 s5 f5 n5=>?_⟩;!g3:=(f3.mono s4).mono s5;!g4:=f4.mono s5;#kk _ H5 ((s3.trans s4).trans s5) ⟨⟨o,r1,r2,a',b',c',d'⟩,q,hq,rfl,⟨f5,g3.at_,g4.at_,g3.low,g4.low,a0,c0,g3.ba,g3.bb,g4.ba,g4.bb⟩,o1,o2⟩
  ·intro lr ys H9 nl s9 f9 hly hr
   rw[dW]at hly;@ps',rfl,hp:=sf (R:=λq q'=>Iv H9 q'/\l9 (decide (qs.length=1)) (decide (rs.length=1)) q q') (l:=ps) (ys:=ys) hly (λi y hy=>let ⟨q',q,h1,h2,h3⟩:=hr i y hy;⟨q',q,h1,h2,h3⟩);#k lr ps' H9 nl s9 ⟨f9,λq hq=>by
    @i,hi:=List.mem_iff_getElem?.mp hq;@e,_,h2:=bo hp i q hi;#h2.1⟩ (Paired.mapP hp λa b x=>x.2)
¦GoP(wy:Str)(qs rs:Crn)(a b:Int)(wk:Bool)(ps':List Pr):Prop:=∃ps,Paired (l9 (decide (qs.length=1)) (decide (rs.length=1))) ps ps'/\(if wk=true then yH wy (cI qs) (cI rs) (bS (dbl qs) (dbl rs) a b 0) (fk (dbl qs) (dbl rs) a b 0) ps else (NoW wy (cI qs) (cI rs) (bS (dbl qs) (dbl rs) a b 0) (fk (dbl qs) (dbl rs) a b 0)/\CA wy (cI qs) (cI rs) (bS (dbl qs) (dbl rs) a b 0) (fk (dbl qs) (dbl rs) a b 0) ps))
¦GoQ(C t:Addr)(wy:Str)(l1 l2:Addr)(x:V)(H:Hp)(Q:VK)(E:XK):Prop:=∃(qs rs:Crn),LineM H l1 qs/\LineM H l2 rs/\(1<=qs.length/\qs.length<=10)/\(1<=rs.length/\rs.length<=10)/\HR H x /\
 ((sqV H x=false/\E (.ref C) none H)\/(sqV H x=true/\∃(p:Addr) (a b:Int),x = .ref p/\(Sq H p a b/\0<b/\0<=a)/\Tab H t lsP/\∀(u r:Addr) (H':Hp) (ps:List Pr) (wk:Bool),H r=none->H u=none->u≠r->cV H H'->Tab H' t lsP->Iw H' r ps->H' u=some (.tup [.str (if wk=true then "walk" else "fence"),.ref r])->GoP wy qs rs a b wk ps->Q (.ref u) H'))
inductive Jz (C t:Addr) (vs:List V) (H:Hp) (Q:VK) (E:XK):Prop
 | mk:∀(l1 l2:Addr) (x:V) (wy:Str),(vs = [.ref l1,.ref l2,x,.str wy])->((wy=wOn\/wy=ce))->(GoQ C t wy l1 l2 x H Q E)->Jz C t vs H Q E
inductive Jy (C t:Addr) (wy:Str) (vs:List V) (H:Hp) (Q:VK) (E:XK):Prop
 | mk:∀(l1 l2:Addr) (x:V),(vs = [.ref l1,.ref l2,x])->(GoQ C t wy l1 l2 x H Q E)->Jy C t wy vs H Q E
¤uT{wy:Str}{n m:Nat}{G:GF}{F:Int->Int->Bool}{ps:List Pr}(h:yH wy n m G F ps):ps.length<990:=by
 @_,l,ps0,_,_,hl,pp,h:=h;!:=Paired.length pp;rw[List.length_reverse]at this;rcases h with⟨_,_,q,rfl,_⟩|⟨_,rfl⟩
 ·rw[List.length_append,List.length_singleton];~
 ·~
¤eZ{qs:Crn}(h:1<=qs.length/\qs.length<=10):(dbl qs).length=cI qs+1/\1<=cI qs/\cI qs<=9:=by
 !:=oE h;unfold cI;~
¤Hm:Dj ["one","other","square","way","field","walk"] ["one","other","square","way"] (ao (top 68)):=smk
¤wI{C_NoSquare t_fence_past:Addr}(JW:Df K mg "go_by" (top 68))(Dl:FQ K mg "Field" C_Field)(Et:Fx P w K mg base "look_at_square" ["square"] 3 [] (G6 C_NoSquare))(EO:Mt P w K mg base C_Field "__init__" ["self","one","other","square","room"] 7 (Gr K C_Field))(EI:Fn P w K mg base "walk_through" ["field","way"] 8 (Kd K C_Field))(Fb:Fn P w K mg base "fence_past" ["field","way"] 11 (Kk K C_Field t_fence_past))(E8:Fn P w K mg base "pairs_on" ["one","other","pairs"] 2 G5):Fx P w K mg base "go_by" ["one","other","square","way"] 12 [] (Jz C_NoSquare t_fence_past):=by
 refine JW.fx Hm (λ_ _ _ _ _ _ us hl=>by @_,_,_,_,rfl:=rf hl;rfl) (λvs H Q E h=>?_) (λf cdv A outer s H vs Q E hr h=>?_)
 ·@l1,l2,x,wy,rfl,_:=h
  rfl
 ·@l1,l2,x,wy,rfl,hw,⟨qs,rs,L1,L2',b1,b2,th,q⟩:=h
  ?_,(ag (cH (sr Et (hr.mono &) (by rfl) (ad ©2 ak))) (ag (zZ (£4 Hm (BR Dl EO (hr.mono &) (by rfl) (ad ©0 (ad ©1 (ad ©2 (ad af ak))))))) (ag (£5 Hm (¢EI (ad ©4 (ad ©3 ak)))) (ag (aM (aE gQ ©5 bI (aG _)) (am (aB (aJ (ad fg (ad (¢E8 (ad ©0 (ad ©1 (ad ©5 ak)))) ak))))) aI) (am (aB (aJ (ad fg (ad (¢E8 (ad ©0 (ad ©1 (ad (¢Fb (ad ©4 (ad ©3 ak))) ak)))) ak)))))))));rcases q with⟨sv,qe⟩|⟨sv,p,a,b,rfl,⟨sq,hb,ha⟩,tb,q⟩
  ·§^,x,rfl,th,λ_=>qe,(λz=>by rw[sv]at z;cases z)
  ¶^,.ref p,rfl,th,(λz=>by rw[sv]at z;cases z),λ_=>?_;@d1,n1,n2:=eZ b1;@d2,m1,m2:=eZ b2;¶^,^,^,λfo dx nf nd ne=>?_;!sX:Same H (upd (upd H dx (.own fo)) fo (.ins C_Field dx [])):=(Same.new nd).trans (Same.new (by rw[aR (λz=>ne z.symm)];#nf));¶fo,dx,l1,l2,p,qs,rs,a,b,0,rfl,upd_same,L1.mono sX,L2'.mono sX,b1,b2,⟨sq.mono sX,hb⟩,.inl rfl,λH2 bt fa=>⟨rfl,?_⟩;!S2:Same H H2:=λc o e=>bt c o (λz=>by rw[z,nf]at e;cases e) (sX c o e);!tb2:=tb.same S2;!gg:GGk (bS (dbl qs) (dbl rs) a b 0):=fj (.inl rfl) hb;¶^,^,fo,cI qs,cI rs,0,_,_,wy,rfl,fa,⟨n1,~⟩,⟨m1,~⟩,hw,gg,λH3 s3 nh=>?_,λr H3 ps s3 nr hwk pp=>?_
  ·¶^,rfl,^,lB ?_
   !tb3:=tb2.same s3;¶^,^,^,^,fo,cI qs,cI rs,_,_,wy,rfl,tb3,fa.mono s3,⟨⟨n1,n2⟩,m1,m2⟩,gg,xY hb d1 d2 n1 m1 hw nh,λr H4 ps nr P4 tb4 hf pp=>?_;!N4:=(cV.of (S2.trans s3)).trans (fm.n P4 tb3);¶l1,l2,r,qs,rs,ps,rfl,N4.line L1,N4.line L2',pp,(by @_,_,_,_,_,h:=hf;~),λr' ps' H5 nr' s5 pp' on=>⟨sz (by simp),λt H6 s6 f6 n6=>?_⟩;!fr:∀{x:Addr},H4 x=none->H x=none:=λh=>(S2.trans s3).free (kQ P4 tb4 h);!S6:=s5.trans s6;#q t r' H6 ps' false (fr nr') (fr (s5.free n6)) (λz=>by rw[z,pp'.lst]at n6;cases n6) (N4.trans (cV.of S6)) (tb4.same S6) (pp'.mono s6) f6 ⟨ps,on,nh,hf⟩
  ·¶^,rfl,^,ux ?_
   !S3:=S2.trans s3;¶^,^,^,l1,l2,r,qs,rs,ps,rfl,L1.mono S3,L2'.mono S3,pp,uT hwk,λr' ps' H4 nr' s4 pp' on=>⟨sz (by simp),λt H5 s5 f5 n5=>?_⟩;!S5:=s4.trans s5;#q t r' H5 ps' true (S3.free nr') (S3.free (s4.free n5)) (λz=>by rw[z,pp'.lst]at n5;cases n5) (cV.of (S3.trans S5)) (tb2.same (s3.trans S5)) (pp'.mono s5) f5 ⟨ps,on,hwk⟩
¤Jf:Dj ["one","other","square"] ["one","other","square"] (ao (top 69)):=smk
¤rB{C_NoSquare t_fence_past:Addr}(Jk:Df K mg "go_part" (top 69))(Hr:Fx P w K mg base "go_by" ["one","other","square","way"] 12 [] (Jz C_NoSquare t_fence_past)):Fx P w K mg base "go_part" ["one","other","square"] 13 [] (Jy C_NoSquare t_fence_past ce):=by
 refine Jk.fx Jf (λ_ _ _ _ _ _ us hl=>by @_,_,_,rfl:=g7 hl;rfl) (λvs H Q E h=>?_) (λf cdv A outer s H vs Q E hr h=>?_)
 ·@l1,l2,x,rfl,_:=h
  rfl
 ·@l1,l2,x,rfl,gq:=h
  ?_,(am (aB (sr Hr (hr.mono &) (by rfl) (ad ©0 (ad ©1 (ad ©2 (ad fg ak)))))));§^,^,^,l1,l2,x,ce,rfl,.inr rfl,gq
¦Pol(H:Hp)(p:Addr):Prop:=∃n:Int,H p=some (.lst [.int n])
¤Pol.same{H H':Hp}{p:Addr}(h:Pol H p)(s:Same H H'):Pol H' p:=by
 @n,e:=h;§n,s _ _ e
¤Pol.ne{H:Hp}{p q:Addr}(h:Pol H p)(n:H q=none):q≠p:=by
 @m,e:=h;#(a6 e n).symm
¤Pol.t{H H':Hp}{p:Addr}(h:Pol H p)(b:But p H H'):SameT H H':=λc xs e=>b c _ (λz=>by
 @m,e':=h;rw[z,e']at e;cases e) e
inductive Ii (K:W.Frag) (vs:List V) (H:Hp) (Q:VK) (x_3:XK):Prop
 | mk:∀(sa:Addr) (ss:List Int) (k:Int),(vs = [.ref sa,.int k])->(SqL K H sa (ss.map V.int))->((0<=k/\k<=1000))->(∀(p:Addr) H',Same H H'->H p=none->Pol H' p->Q (.ref p) H')->Ii K vs H Q x_3
inductive Fr (vs:List V) (H:Hp) (Q:VK) (x_3:XK):Prop
 | mk:∀(p:Addr) (m:Int),(vs = [.ref p,.int m])->(Pol H p)->((0<m/\ar m<=8000))->(∀(r:Int) H',0<=r->r<m->But p H H'->Pol H' p->Q (.int r) H')->Fr vs H Q x_3
inductive Ik (vs:List V) (H:Hp) (Q:VK) (x_3:XK):Prop
 | mk:∀(p:Addr) (k:Int),(vs = [.ref p,.int k])->(Pol H p)->(∀(q:Addr×Int×Int) H',But p H H'->Pol H' p->H q.1=none->H' q.1=some (.tup [.int q.2.1,.int q.2.2])->Sm q.2.1->Sm q.2.2->Q (.ref q.1) H')->Ik vs H Q x_3
inductive IX (vs:List V) (H:Hp) (Q:VK) (x_3:XK):Prop
 | mk:∀(p:Addr) (m:Int),(vs = [.ref p,.int m])->(Pol H p)->((1<=m/\m<=10))->(∀(l:Addr) (qs:Crn) H',But p H H'->Pol H' p->H l=none->LineM H' l qs->1<=qs.length->(qs.length:Int)<=m->Q (.ref l) H')->IX vs H Q x_3
inductive Jp (vs:List V) (H:Hp) (Q:VK) (x_3:XK):Prop
 | mk:∀(p l0:Addr) (qs0:Crn) (m:Int),(vs = [.ref p,.ref l0,.int m])->(Pol H p)->(LineM H l0 qs0)->(l0≠p)->((1<=qs0.length/\(qs0.length:Int)<=m))->((1<=m/\m<=10))->(∀(l:Addr) (qs:Crn) H',But p H H'->Pol H' p->H l=none->LineM H' l qs->1<=qs.length->(qs.length:Int)<=m->Q (.ref l) H')->Jp vs H Q x_3
¤yB{n:Nat}{lo:Int}{fv:List (Str×Nat)}{te:TE}{σ:St}{H1:Hp}{Q:VK}{p:Addr}(hlen:n<1000)(hp:Pol H1 p)(R:Nat->V->Hp->Prop)(hR:∀i v H H',SameT H H'->R i v H->R i v H')
  (hs:∀i H2 (Kc:VK),i<n->But p H1 H2->Pol H2 p->(∀y H4,But p H2 H4->Pol H4 p->R i y H4->Kc y H4)->te (some (.int (lo+i))::fvs fv σ) H2 Kc)
  (hd:∀l ys H',H1 l=none->But p H1 H'->Pol H' p->H' l=some (.lst ys)->ys.length=n->(∀i y,ys[i]? = some y->R i y H')->Q (.ref l) H') :
  oN (Itr lo n) fv te σ H1 Q:=by
 intro l hl;!ne:=hp.ne hl;!pu:∀{H:Hp} {ys:List V},Pol H p->Pol (upd H l (.lst ys)) p:=λ⟨m,e⟩=>⟨m,by rw[aR ne.symm];#e⟩;refine lU (n:=n) (lo:=lo) (l:=l) (fv:=fv) (Qp:=λH2=>Q (.ref l) H2) (λi acc H2=>acc.length=i/\But p H1 H2/\Pol H2 p/\H2 l=some (.lst acc)/\∀j y,acc[j]? = some y->R j y H2)
  ⟨rfl,But.of (Same.new hl),pu hp,upd_same,λj y h=>by simp at h⟩ ?_ ?_ ?_
 ·rintro i acc H2 hi ⟨e1,bt,po,e3,_⟩
  §e3,bJ ~
 ·rintro i acc H2 Kc hx ⟨e1,bt,po,e3,hr⟩ kk
  refine hs i H2 Kc hx bt po λy H4 b4 p4 ry=>kk y H4 (b4 _ _ ne e3) ⟨by simp[e1],λc o n e=>?_,pu p4,upd_same,λj z hz=>?_⟩
  ·rw[aR (a6 e hl)]
   #b4 c o n (bt c o n e)
  !t4:=SameT.upd (ys:=acc++[y]) (b4 _ _ ne e3);rcases Nat.lt_trichotomy j acc.length with h|h|h
  ·rw[List.getElem?_append_left h]at hz
   #hR _ _ _ _ ((po.t b4).trans t4) (hr j z hz)
  ·subst h
   rw[List.getElem?_append_right (Nat.le_refl _),Nat.sub_self]at hz;cases hz;rw[e1];#hR _ _ _ _ t4 ry
  ·rw[List.getElem?_eq_none (by simp;~)]at hz
   cases hz
 ·rintro acc H2 ⟨e1,bt,po,e3,hr⟩
  #hd l acc H2 hl bt po e3 e1 hr
¤DN:Dj ["script","k","cell","number","found","turn"] ["script","k"] (ao (top 71)):=smk
¤qg(IG:Df K mg "_law_pool" (top 71))(T:Txt mg):Fn P w K mg base "_law_pool" ["script","k"] 1 (Ii K):=by
 refine IG.fn DN (λ_ _ _ _ _ _ us hl=>by @_,_,rfl:=dJ hl;rfl) (λvs H Q E h=>?_) (λf cdv A outer s H vs Q E hr h=>?_)
 ·@sa,ss,k,rfl,_:=h
  rfl
 ·@sa,ss,k,rfl,hS,⟨h0,h1⟩,q:=h
  !R:∃u,PSs (bV CX0 P w K mg base ["script","k","cell","number","found","turn"] "_law_pool" (ao (top 71)) f cdv A outer s H E).nox ((aT (top 71)).drop 2) u/\∀(c:Int) (z3 z4 z5:Option V),u { nx:=λ_ H'=>Q .non H',rt:=Q } [some (.ref sa),some (.int k),some (.int c),z3,z4,z5] H:=by
   ¶_,(ag (aM (aE k7 ©2 (ay hZ af af) (aG _)) (am (aB (bU (ad (ay gG ©2 (ay aF (ay aF (ay hZ af af) (ay hZ af af)) (ay hZ af af))) ak)))) aI) (ag (£3 DN (ay gG (ay aS (ay aS (ay aS ©2 (ay aF (ay aF af ©1) ©1)) (ay aF af ©1)) af) af)) (ag (£4 DN af) (ag (cj PassesOwn.never rfl (dh rfl T.z_range (ad af ak)) (aQ (i:=5) DN.nd rfl (Or.inl rfl)) (ag (£3 DN (ay gG (ay aS (ay aS (ay aF ©3 af) (ay aF af ©5)) af) af)) (ag (£3 DN (ay gG (ay aF ©3 ©3) af)) (am (£4 DN (ay aS (ay aF ©4 af) (ay gG (ay aS (ay aF ©3 af) ©1) af))))))) (am (aB (bU (ad ©4 ak)))))))),λc z3 z4 z5=>?_;¶^,%,⟨&,&,&⟩,%,^,aY (λc1=>?_) (λc1=>?_)
   ·¶^,%,⟨&,&⟩,%,⟨&,&⟩,%,CM.b (m:=400) (n:=400) & & & &,%,⟨&,&⟩,%,CM.b (m:=800) (n:=400) & & & &,%,(by show(0:Int)<10^60*10^60*10^60;decide +kernel),sz (by simp),λp H2 s2 f2 n2=>q p H2 s2 n2 ⟨_,f2⟩
   ?^,^,%,CM.l ⟨&,&⟩,^,%,CM.r (zm ~ ~),%,^,%,CM.l ⟨&,&⟩,%,%,%,(by show(0:Int)<2147483647;decide);!r0:=Int.emod_nonneg (c+104729*k*k+7*k+11) (show(2147483647:Int)≠0 by decide);!r1:=Int.emod_lt_of_pos (c+104729*k*k+7*k+11) (show(0:Int)<2147483647 by decide);¶12,rfl,&,&,cU (n:=12) (lo:=0) (λi σ H2=>∃(n f:Int) (z:Option V),σ = [some (.ref sa),some (.int k),some (.int c),some (.int n),some (.int f),z]/\(0<=n/\n<2147483647)/\H2=H) ⟨_,_,_,rfl,⟨r0,r1⟩,rfl⟩ ?_ ?_
   ·rintro i σ H2 hi ⟨n,f,z,rfl,⟨n0,n1⟩,rfl⟩
    ?^,%,CM.r ⟨&,&⟩,^,%,CM.l ⟨&,&⟩,%,%,%,(by show(0:Int)<2147483629;decide);!m0:=Int.emod_nonneg (n*48271+7919*(0+(i:Int))+3) (show(2147483629:Int)≠0 by decide);!m1:=Int.emod_lt_of_pos (n*48271+7919*(0+(i:Int))+3) (show(0:Int)<2147483629 by decide);?^,^,%,CM.l (by rw[show(2:Int)^64=18446744073709551616 by decide];~),%,(by show(0:Int)<2147483587;decide);dsimp only;generalize hn:(n*48271+7919*(0+(i:Int))+3) % 2147483629=a;!k0:=Int.emod_nonneg (a*a) (show(2147483587:Int)≠0 by decide);!k1:=Int.emod_lt_of_pos (a*a) (show(0:Int)<2147483587 by decide);¶^,%,CM.r ⟨&,&⟩,^,%,CM.r ⟨&,&⟩,^,%,%,(by show(0:Int)<2147483587;decide),%,_,_,^,⟨k0,~⟩,rfl
   ·rintro σ H2 ⟨n,f,z,rfl,_,rfl⟩
    §^,sz (by simp),λp H3 s3 f3 n3=>q p H3 s3 n3 ⟨_,f3⟩
  @u,hu,ru:=R;?_,(ag (£2 DN af) (ag (aM (aE dH ©1 (aN aO (by rfl) T.z_len bX (ad ©0 ak)) (aG _)) (am (£2 DN (ax aW ©0 ©1 (λ_ _=>rfl)))) aI) hu));¶^,^,sa,^,.inl hS,%,^,aY (λh1=>?_) (λh1=>?_)
  ·!h1:k<(((ss.map V.int).length:Nat):Int):=bZ h1
   rw[List.length_map]at h1;§^,^,sa,_,%,hS,Bc k.toNat ~ ~,ru _ _ _ _
  ·#ru _ _ _ _
¤Gu:Dj ["pool","many","digit"] ["pool","many"] (ao (top 72)):=smk
¤qc(IF:Df K mg "_law_take" (top 72)):Fn P w K mg base "_law_take" ["pool","many"] 1 Fr:=by
 refine IF.fn Gu (λ_ _ _ _ _ _ us hl=>by @_,_,rfl:=dJ hl;rfl) (λvs H Q E h=>?_) (λf cdv A outer s H vs Q E hr h=>?_)
 ·@p,m,rfl,_:=h
  rfl
 ·@p,m,rfl,⟨n,e⟩,⟨hm,bm⟩,q:=h
  ?_,(ag (£2 Gu (ay gG (ax aW ©0 af (λ_ _=>rfl)) ©1)) (ag (jg (ay dA (ax aW ©0 af (λ_ _=>rfl)) ©1) (Af ©0 af t6)) (am (aB ©2))));?^,p,_,%,SqL.of e,rfl,^,%,hm;¶^,p,_,%,SqL.of e,rfl,^,%,⟨hm,bm⟩,^,p,_,_,0,rfl,rfl,e,rfl,λH2 u=>?_;§^,q _ _ (Int.emod_nonneg _ ~) (Int.emod_lt_of_pos _ hm) (λb o nb e=>u.at nb e) ⟨_,u.now⟩
¤FP:Dj ["pool","kind","most"] ["pool","kind"] (ao (top 73)):=smk
¤mB(HK:Df K mg "_law_corner" (top 73))(Dk:Fn P w K mg base "_law_take" ["pool","many"] 1 Fr):Fn P w K mg base "_law_corner" ["pool","kind"] 2 Ik:=by
 refine HK.fn FP (λ_ _ _ _ _ _ us hl=>by @_,_,rfl:=dJ hl;rfl) (λvs H Q E h=>?_) (λf cdv A outer s H vs Q E hr h=>?_)
 ·@p,kd,rfl,_:=h
  rfl
 ·@p,kd,rfl,po,k:=h
  ?_,(ag (aM (aE bP ©1 af (aG _)) (am (aB (aJ (ad (ay aP (¢Dk (ad ©0 (ad af ak))) af) (ad (ay aP (¢Dk (ad ©0 (ad af ak))) af) ak))))) aI) (ag (aM (aE bP ©1 af (aG _)) (am (aB (aJ (ad (¢Dk (ad ©0 (ad af ak))) (ad af ak))))) aI) (ag (aM (aE bP ©1 af (aG _)) (am (aB (aJ (ad (ay aP (¢Dk (ad ©0 (ad af ak))) af) (ad (ay aP (¢Dk (ad ©0 (ad af ak))) af) ak))))) aI) (ag (£2 FP (ay aP (ay hZ af af) af)) (am (aB (aJ (ad (ay aP (¢Dk (ad ©0 (ad (ay aS (ay aF af ©2) af) ak))) ©2) (ad (ay aP (¢Dk (ad ©0 (ad (ay aS (ay aF af ©2) af) ak))) ©2) ak)))))))));!e12:((10:Int)^(12:Int).toNat)=1000000000000:=by decide +kernel
  !fin:∀{H2:Hp} (x y:Int),But p H H2->Pol H2 p->Sm x->Sm y->∀(r:Addr) H3,Same H2 H3->H3 r=some (.tup [.int x,.int y])->H2 r=none->Q (.ref r) H3:=λ{H2} x y b2 p2 hx hy r H3 s3 f3 n3=>k (r,x,y) H3 (b2.trans (.of s3)) (p2.same s3) (b2.none (p2.ne n3) n3) f3 hx hy;¶^,rfl,^,aY (λc=>?_) (λc=>?_)
  ·¶^,p,5,rfl,po,⟨&,&⟩,λr1 H1 a1 b1 t1 p1=>⟨_,_,rfl,rfl,?_⟩
   §^,p,5,rfl,p1,⟨&,&⟩,λr2 H2 a2 b2 t2 p2=>⟨_,_,rfl,rfl,sz (by simp),λr H3 s3 f3 n3=>fin (r1 - 2) (r2 - 2) (t1.trans t2) p2 (by unfold Sm jq;~) (by unfold Sm jq;~) r H3 s3 f3 n3⟩
  ¶^,rfl,^,aY (λc=>?_) (λc=>?_)
  ·§^,p,7,rfl,po,⟨&,&⟩,λr1 H1 a1 b1 t1 p1=>⟨sz (by simp),λr H3 s3 f3 n3=>fin r1 0 t1 p1 (by unfold Sm jq;~) (by unfold Sm jq;~) r H3 s3 f3 n3⟩
  ¶^,rfl,^,aY (λc=>?_) (λc=>?_)
  ·¶^,p,41,rfl,po,⟨&,&⟩,λr1 H1 a1 b1 t1 p1=>⟨_,_,rfl,rfl,?_⟩
   §^,p,41,rfl,p1,⟨&,&⟩,λr2 H2 a2 b2 t2 p2=>⟨_,_,rfl,rfl,sz (by simp),λr H3 s3 f3 n3=>fin (r1 - 20) (r2 - 20) (t1.trans t2) p2 (by unfold Sm jq;~) (by unfold Sm jq;~) r H3 s3 f3 n3⟩
  ?%,⟨&,&,&⟩,%;dsimp only;rw[e12];¶^,^,%,CM.l ⟨&,&⟩,%,p,^,po,⟨&,&⟩,λr1 H1 a1 b1 t1 p1=>⟨_,rfl,_,_,rfl,rfl,?_⟩;§^,^,%,CM.l ⟨&,&⟩,%,p,^,p1,⟨&,&⟩,λr2 H2 a2 b2 t2 p2=>⟨_,rfl,_,_,rfl,rfl,sz (by simp),λr H3 s3 f3 n3=>fin (r1 - (1000000000000 - 1)) (r2 - (1000000000000 - 1)) (t1.trans t2) p2 (by unfold Sm jq;~) (by unfold Sm jq;~) r H3 s3 f3 n3⟩
¤qx{H:Hp}:∀(ys:List V),(∀(i:Nat) y,ys[i]? = some y->∃q:Addr×Int×Int,y = .ref q.1/\H q.1=some (.tup [.int q.2.1,.int q.2.2])/\Sm q.2.1/\Sm q.2.2)->∃fs:Crn,ys=fs.map (λ(q:Addr×Int×Int)=>V.ref q.1)/\∀q∈fs,H q.1=some (.tup [.int q.2.1,.int q.2.2])/\Sm q.2.1/\Sm q.2.2
 | [],_=>⟨[],rfl,λq h=>nomatch h⟩
 | y::ys,h=>by
  @fs,e1,e2:=qx ys λi z hz=>h (i+1) z (by simpa using hz);@q,rfl,q3:=h 0 y rfl;¶q::fs,by rw[e1];rfl,λz hz=>?_;rcases List.mem_cons.mp hz with rfl|hz
  ·#q3
  ·#e2 z hz
¤Fv:Dj ["pool","most","kind","many"] ["pool","most"] (ao (top 74)):=smk
¤qi(II:Df K mg "_law_line" (top 74))(Dk:Fn P w K mg base "_law_take" ["pool","many"] 1 Fr)(Fa:Fn P w K mg base "_law_corner" ["pool","kind"] 2 Ik)(T:Txt mg):Fn P w K mg base "_law_line" ["pool","most"] 3 IX:=by
 refine II.fn Fv (λ_ _ _ _ _ _ us hl=>by @_,_,rfl:=dJ hl;rfl) (λvs H Q E h=>?_) (λf cdv A outer s H vs Q E hr h=>?_)
 ·@p,m,rfl,_:=h
  rfl
 ·@p,m,rfl,po,⟨m1,m10⟩,k:=h
  !CN:Ff (bV CX0 P w K mg base ["pool","most","kind","many"] "_law_line" (ao (top 74)) f cdv A outer s H E).nox (Sp7.retScope ((aT (top 74)).getD 2 (.Pass ⟨0,0,0,0⟩))) [("pool",s.heap.objs.size+1),("kind",s.heap.objs.size+2)] "k" [("pool",0),("kind",2)] :=
   ⟨by rfl,rfl,by decide +kernel,by decide +kernel,rfl,(λp hp=>by simp only[List.mem_cons,List.not_mem_nil,or_false]at hp;rcases hp with rfl|rfl <;> rfl),by rfl,by decide +kernel,(λp hp=>by simp only[List.mem_cons,List.not_mem_nil,or_false]at hp;rcases hp with rfl|rfl <;> §rfl,rfl,.inr (.inl rfl),rfl,rfl),⟨rfl,rfl⟩,rfl⟩
  ?_,(@ag _ _ _ _ _ (@aA _ _ 2 _ _ _ _ Fv.nd rfl (Or.inr rfl) (@ax _ _ _ _ _ _ _ aW (@bU _ _ _ _ (@ad _ _ _ _ _ af (@ad _ _ _ _ _ af (@ad _ _ _ _ _ af (@ad _ _ _ _ _ af (@ad _ _ _ _ _ af (@ad _ _ _ _ _ af (@ad _ _ _ _ _ af (@ad _ _ _ _ _ af ak (by rfl)) (by rfl)) (by rfl)) (by rfl)) (by rfl)) (by rfl)) (by rfl)) (by rfl))) (¢Dk (ad ©0 (ad af ak))) (λ_ _=>rfl)) (by rfl) (by first|#.inl rfl|#.inr rfl|assumption)) (ag (£3 Fv (aN (jC rfl) (by rfl) T.z_min rH (ad ©1 (ad (ax aW (@bU _ _ _ _ (@ad _ _ _ _ _ af (@ad _ _ _ _ _ af (@ad _ _ _ _ _ af (@ad _ _ _ _ _ af (@ad _ _ _ _ _ af (@ad _ _ _ _ _ af (@ad _ _ _ _ _ af (@ad _ _ _ _ _ af ak (by rfl)) (by rfl)) (by rfl)) (by rfl)) (by rfl)) (by rfl)) (by rfl)) (by rfl))) (¢Dk (ad ©0 (ad af ak))) (λ_ _=>rfl)) ak)))) (am (aB (iI rfl CN (dh rfl T.z_range (ad ©3 ak)) (λfp s₀ H₀=>(¢Fa (ad ©1 (ad ©2 ak)))))))))
  ¶sz (by simp),λpl H1 s1 f1 n1=>?_;¶^,p,8,rfl,po.same s1,⟨&,&⟩,λr2 H2 a2 b2' b2 p2=>?_;refine zk (λ_=>True) (b2 _ _ (po.ne n1) f1) a2 (by simpa using b2') (λv hv=>?_) λkd _=>?_
  ·simp only[List.mem_cons,List.not_mem_nil,or_false]at hv
   rcases hv with rfl|rfl|rfl|rfl|rfl|rfl|rfl|rfl <;> §^,trivial
  ¶^,sz (by simp),λpl2 H3 s3 f3 n3=>?_;¶^,p,8,rfl,p2.same s3,⟨&,&⟩,λr4 H4 a4 b4' b4 p4=>?_;refine zk (λm=>1<=m/\m<=10) (b4 _ _ (p2.ne n3) f3) a4 (by simpa using b4') (λv hv=>?_) λmm hm=>?_
  ·simp only[List.mem_cons,List.not_mem_nil,or_false]at hv
   rcases hv with rfl|rfl|rfl|rfl|rfl|rfl|rfl|rfl <;> §^,&,(&)
  ?_,^;!hn:1<=(if mm<m then mm else m)/\(if mm<m then mm else m)<=m/\(if mm<m then mm else m)<=10:=by split <;> ~
  dsimp only;generalize (if mm<m then mm else m)=n at hn ⊢
  !B4:But p H H4:=(But.of s1).trans (b2.trans ((But.of s3).trans b4));¶^,^,~,~,yB (n:=n.toNat) (lo:=0) (p:=p) ~ p4 (λ_ v H'=>∃q:Addr×Int×Int,v = .ref q.1/\H' q.1=some (.tup [.int q.2.1,.int q.2.2])/\Sm q.2.1/\Sm q.2.2) (λi v H H' st ⟨q,e1,e2,e3⟩=>⟨q,e1,st _ _ e2,e3⟩) ?_ ?_
  ·intro i H5 Kc hi b5 p5 kk
   §^,^,p,kd,rfl,p5,λq H6 b6 p6 n6 f6 h1 h2=>kk _ H6 b6 p6 ⟨q,rfl,f6,h1,h2⟩
  ·intro l ys H5 nl b5 p5 f5 hl hr
   @fs,rfl,h2:=qx ys hr;rw[List.length_map]at hl;#k l fs H5 (B4.trans b5) p5 (B4.none (p4.ne nl) nl) ⟨f5,h2⟩ ~ ~
¤fN{H H':Hp}{l q:Addr}{qs:Crn}{x y:Int}(L:LineM H l qs)(f:H q=some (.tup [.int x,.int y]))(hx:Sm x)(hy:Sm y)(u:Ie H H' l (qs.map λ(q:Addr×Int×Int)=>V.ref q.1) ((qs.map λ(q:Addr×Int×Int)=>V.ref q.1)++[.ref q])):LineM H' l (qs++[(q,x,y)]):=by
 ¶by rw[u.now,List.map_append];rfl,λz hz=>?_;rcases List.mem_append.mp hz with h|h
 ·§u.t _ _ (L.crn z h).1,(L.crn z h).2
 ·rw[List.mem_singleton.mp h]
  §u.t _ _ f,hx,hy
¤fT{p r:Addr}{H H1 H2:Hp}{xs ys:List V}(b:But p H H1)(n:H r=none)(u:Ie H1 H2 r xs ys):But p H H2:=λc o nc e=>u.at (a6 e n) (b c o nc e)
¤gP{p r:Addr}{H1 H2:Hp}{xs ys:List V}(h:Pol H1 p)(n:r≠p)(u:Ie H1 H2 r xs ys):Pol H2 p:=by
 @m,e:=h;§m,u.at n.symm e
¤bE{p l:Addr}{H H':Hp}{qs:Crn}(L:LineM H l qs)(b:But p H H')(h:Pol H p)(n:p≠l):LineM H' l qs:=⟨b _ _ n.symm L.lst,λq hq=>⟨h.t b _ _ (L.crn q hq).1,(L.crn q hq).2⟩⟩
¤DM:Dj ["pool","line","most","way","found","x","y"] ["pool","line","most"] (ao (top 75)):=smk
¤mw(HI:Df K mg "_law_second" (top 75))(Dk:Fn P w K mg base "_law_take" ["pool","many"] 1 Fr)(DW:Fn P w K mg base "_law_line" ["pool","most"] 3 IX)(T:Txt mg):Fn P w K mg base "_law_second" ["pool","line","most"] 4 Jp:=by
 refine HI.fn DM (λ_ _ _ _ _ _ us hl=>by @_,_,_,rfl:=g7 hl;rfl) (λvs H Q E h=>?_) (λf cdv A outer s H vs Q E hr h=>?_)
 ·@p,l0,qs0,m,rfl,_:=h
  rfl
 ·@p,l0,qs0,m,rfl,po,L0,n0,⟨l1,lm⟩,⟨m1,m10⟩,k:=h
  ?_,(ag (£3 DM (¢Dk (ad ©0 (ad af ak)))) (ag (aM (aE dH ©3 af (aG _)) (am (aB (¢DW (ad ©0 (ad ©2 ak))))) aI) (ag (aM (aE bP ©3 af (aG _)) (am (aB (ue ©1 (kf (eM dn af))))) aI) (ag (£4 DM (bU ak)) (ag (cj PassesOwn.never rfl (eG ©1) (fe rfl (bK (aQ (i:=5) DM.nd rfl (Or.inl rfl)) (bK (aQ (i:=6) DM.nd rfl (Or.inl rfl)) dX))) (ag (aM (d8 (aE dH (aN fS (by rfl) T.z_abs jD (ad ©5 ak)) (ay aP (ay hZ af af) af) (aG _)) (eC (aE dH (aN fS (by rfl) T.z_abs jD (ad ©6 ak)) (ay aP (ay hZ af af) af) (aG _)))).pt (ag (£5 DM (ay aP (ay aS ©5 (¢Dk (ad ©0 (ad af ak)))) af)) (am (£6 DM (ay aP (ay aS ©6 (¢Dk (ad ©0 (ad af ak)))) af)))) aI) (ag (cH (fF PySem.F.plainAttrs_list PySem.F.slot_list_append PySem.F.type_list_append ca ©4 (ad (aJ (ad ©5 (ad ©6 ak))) ak))) (am (aM (d8 (aE bP ©3 af (aG _)) (d8 (aE dH (aN aO (by rfl) T.z_len bX (ad ©4 ak)) ©2 (aG _)) (eC (aE bP (¢Dk (ad ©0 (ad af ak))) af (aG _))))).pt (am (cH (fF PySem.F.plainAttrs_list PySem.F.slot_list_append PySem.F.type_list_append ca ©4 (ad (aJ (ad ©5 (ad ©6 ak))) ak)))) aI))))) (am (aB (kW kO ©4 nU (kf ©2)))))))));!e12:((10:Int)^(12:Int).toNat - 2)=999999999998:=by decide +kernel
  !hl0:(qs0.map λ(q:Addr×Int×Int)=>V.ref q.1).length=qs0.length:=List.length_map _;¶^,p,8,rfl,po,⟨&,&⟩,λwy H1 a1 a2 b1 p1=>?_;¶^,%,^,aY (λc1=>?_) (λc1=>?_)
  ·§^,^,p,m,rfl,p1,⟨m1,m10⟩,λl qs H2 b2 p2 nl L h1 h2=>k l qs H2 (b1.trans b2) p2 (b1.none (p1.ne nl) nl) L h1 h2
  !L1:=bE L0 b1 po n0.symm;¶^,rfl,^,aY (λc2=>?_) (λc2=>?_)
  ·¶^,^,^,rfl,l0,^,SqL.of L1.lst,λl H2 s2 f2 nl=>?_
   refine k l qs0.reverse H2 (b1.trans (.of s2)) (p1.same s2) (b1.none (p1.ne nl) nl) ⟨by rw[f2,List.map_reverse],λq hq=>((L1.mono s2).crn q (List.mem_reverse.mp hq))⟩ (by rw[List.length_reverse];#l1) (by rw[List.length_reverse];#lm)
  ¶sz (by simp),λr H2 s2 f2 nr=>?_;!n1:H r=none:=b1.none (p1.ne nr) nr;!npr:r≠p:=p1.ne nr;refine⟨_,rfl,l0,rfl,⟨_,SqL.of (s2 _ _ L1.lst)⟩,fQ (K:=K) (a:=l0) (xs:=qs0.map λ(q:Addr×Int×Int)=>V.ref q.1) (λi σ H'=>∃(z5 z6:Option V) (qs:Crn),σ = [some (.ref p),some (.ref l0),some (.int m),some (.int wy),some (.ref r),z5,z6]/\But p H H'/\Pol H' p/\LineM H' r qs/\i<=qs.length/\qs.length<=2*i)
   ⟨_,_,[],rfl,b1.trans (.of s2),p1.same s2,⟨f2,λq h=>nomatch h⟩,Nat.le_refl _,Nat.le_refl _⟩ (λi σ H' _ ⟨_,_,_,_,b,_⟩=>SqL.of (b _ _ n0 L0.lst)) ?_ ?_⟩
  ·rintro i v σ H3 hv ⟨z5,z6,qs,rfl,b3,p3,L3,g1,g2⟩
   rw[List.getElem?_map]at hv;@u,hu,rfl:=Option.map_eq_some_iff.mp hv;!iu:=(List.getElem?_eq_some_iff.mp hu).1;!cu:=(bE L0 b3 po n0.symm).crn u (List.mem_of_getElem? hu);@x1,x2:=cu.2.1;@y1,y2:=cu.2.2;unfold jq at x1 x2 y1 y2;?u.1,^,SqT.of cu.1,rfl,_,^,%;¶^,^,%,⟨&,&,&⟩,%,%,^,aY (λc3=>?_) (λc3=>?_)
   ·try dsimp only at c3
    rw[e12]at c3;!c3:(if u.2.1<0 then -u.2.1 else u.2.1)<999999999998:=bZ c3
    ¶^,^,%,⟨&,&,&⟩,%,%,^,aY (λc4=>?_) (λc4=>?_)
    ·try dsimp only at c4
     rw[e12]at c4;!c4:(if u.2.2<0 then -u.2.2 else u.2.2)<999999999998:=bZ c4
     ¶^,^,p,3,rfl,p3,⟨&,&⟩,λr4 H4 a4 a4' b4 p4=>⟨_,_,rfl,rfl,_,_,rfl,rfl,?_⟩;¶^,^,p,3,rfl,p4,⟨&,&⟩,λr5 H5 a5 a5' b5 p5=>⟨_,_,rfl,rfl,_,_,rfl,rfl,?_⟩
     try dsimp only
     !LL:=bE (bE L3 b4 p3 npr.symm) b5 p4 npr.symm;!BB:=(b3.trans b4).trans b5;!PP:=p5;!hX:Sm (u.2.1+r4 - 1):=by unfold Sm jq;split at c3 <;> ~
     !hY:Sm (u.2.2+r5 - 1):=by unfold Sm jq;split at c4 <;> ~
     ¶^,.inl ⟨rfl,_,SqL.of LL.lst⟩,^,^,sz (by simp),λq HA sA fA nA=>?_;!LA:=LL.mono sA;!bA:=BB.trans (But.of sA);¶r,%,LA.lst,Nat.lt_of_lt_of_le (by rw[List.length_map];~) (sz (n:=900) ~),λHB uB=>?_;!LB:=fN LA fA hX hY uB;!bB:But p H HB:=fT bA n1 uB;!pB:Pol HB p:=gP (PP.same sA) npr uB;¶^,rfl,^,aY (λd1=>?_) (λd1=>?_)
     ·¶^,r,^,.inl (SqL.of LB.lst),^,%,^,aY (λd2=>?_) (λd2=>?_)
      ·¶^,p,3,rfl,pB,⟨&,&⟩,λrC HC aC cC tC pC=>⟨rfl,_,rfl,aY (λd3=>?_) (λd3=>?_)⟩
       ·!LC:=bE LB tC pB npr.symm
        ¶^,.inl ⟨rfl,_,SqL.of LC.lst⟩,^,^,sz (by simp),λq2 HD sD fD nD=>?_;!LD:=LC.mono sD;¶r,%,LD.lst,Nat.lt_of_lt_of_le (by rw[List.length_map,List.length_append,List.length_singleton];~) (sz (n:=900) ~),λHE uE=>?_;§_,_,^,fT ((bB.trans tC).trans (But.of sD)) n1 uE,gP (pC.same sD) npr uE,fN LD fD hX hY uE,by simp only[List.length_append,List.length_singleton];~,(by simp only[List.length_append,List.length_singleton];~)
       ·§_,_,^,bB.trans tC,pC,bE LB tC pB npr.symm,by simp only[List.length_append,List.length_singleton];~,(by simp only[List.length_append,List.length_singleton];~)
      ·§_,_,^,bB,pB,LB,by simp only[List.length_append,List.length_singleton];~,(by simp only[List.length_append,List.length_singleton];~)
     ·§_,_,^,bB,pB,LB,by simp only[List.length_append,List.length_singleton];~,(by simp only[List.length_append,List.length_singleton];~)
    ·try dsimp only
     !LL:=L3;!BB:=b3;!PP:=p3;!hX:Sm u.2.1:=by #cu.2.1
     !hY:Sm u.2.2:=by #cu.2.2
     ¶^,.inl ⟨rfl,_,SqL.of LL.lst⟩,^,^,sz (by simp),λq HA sA fA nA=>?_;!LA:=LL.mono sA;!bA:=BB.trans (But.of sA);¶r,%,LA.lst,Nat.lt_of_lt_of_le (by rw[List.length_map];~) (sz (n:=900) ~),λHB uB=>?_;!LB:=fN LA fA hX hY uB;!bB:But p H HB:=fT bA n1 uB;!pB:Pol HB p:=gP (PP.same sA) npr uB;¶^,rfl,^,aY (λd1=>?_) (λd1=>?_)
     ·¶^,r,^,.inl (SqL.of LB.lst),^,%,^,aY (λd2=>?_) (λd2=>?_)
      ·¶^,p,3,rfl,pB,⟨&,&⟩,λrC HC aC cC tC pC=>⟨rfl,_,rfl,aY (λd3=>?_) (λd3=>?_)⟩
       ·!LC:=bE LB tC pB npr.symm
        ¶^,.inl ⟨rfl,_,SqL.of LC.lst⟩,^,^,sz (by simp),λq2 HD sD fD nD=>?_;!LD:=LC.mono sD;¶r,%,LD.lst,Nat.lt_of_lt_of_le (by rw[List.length_map,List.length_append,List.length_singleton];~) (sz (n:=900) ~),λHE uE=>?_;§_,_,^,fT ((bB.trans tC).trans (But.of sD)) n1 uE,gP (pC.same sD) npr uE,fN LD fD hX hY uE,by simp only[List.length_append,List.length_singleton];~,(by simp only[List.length_append,List.length_singleton];~)
       ·§_,_,^,bB.trans tC,pC,bE LB tC pB npr.symm,by simp only[List.length_append,List.length_singleton];~,(by simp only[List.length_append,List.length_singleton];~)
      ·§_,_,^,bB,pB,LB,by simp only[List.length_append,List.length_singleton];~,(by simp only[List.length_append,List.length_singleton];~)
     ·§_,_,^,bB,pB,LB,by simp only[List.length_append,List.length_singleton];~,(by simp only[List.length_append,List.length_singleton];~)
   ·try dsimp only
    !LL:=L3;!BB:=b3;!PP:=p3;!hX:Sm u.2.1:=by #cu.2.1
    !hY:Sm u.2.2:=by #cu.2.2
    ¶^,.inl ⟨rfl,_,SqL.of LL.lst⟩,^,^,sz (by simp),λq HA sA fA nA=>?_;!LA:=LL.mono sA;!bA:=BB.trans (But.of sA);¶r,%,LA.lst,Nat.lt_of_lt_of_le (by rw[List.length_map];~) (sz (n:=900) ~),λHB uB=>?_;!LB:=fN LA fA hX hY uB;!bB:But p H HB:=fT bA n1 uB;!pB:Pol HB p:=gP (PP.same sA) npr uB;¶^,rfl,^,aY (λd1=>?_) (λd1=>?_)
    ·¶^,r,^,.inl (SqL.of LB.lst),^,%,^,aY (λd2=>?_) (λd2=>?_)
     ·¶^,p,3,rfl,pB,⟨&,&⟩,λrC HC aC cC tC pC=>⟨rfl,_,rfl,aY (λd3=>?_) (λd3=>?_)⟩
      ·!LC:=bE LB tC pB npr.symm
       ¶^,.inl ⟨rfl,_,SqL.of LC.lst⟩,^,^,sz (by simp),λq2 HD sD fD nD=>?_;!LD:=LC.mono sD;¶r,%,LD.lst,Nat.lt_of_lt_of_le (by rw[List.length_map,List.length_append,List.length_singleton];~) (sz (n:=900) ~),λHE uE=>?_;§_,_,^,fT ((bB.trans tC).trans (But.of sD)) n1 uE,gP (pC.same sD) npr uE,fN LD fD hX hY uE,by simp only[List.length_append,List.length_singleton];~,(by simp only[List.length_append,List.length_singleton];~)
      ·§_,_,^,bB.trans tC,pC,bE LB tC pB npr.symm,by simp only[List.length_append,List.length_singleton];~,(by simp only[List.length_append,List.length_singleton];~)
     ·§_,_,^,bB,pB,LB,by simp only[List.length_append,List.length_singleton];~,(by simp only[List.length_append,List.length_singleton];~)
    ·§_,_,^,bB,pB,LB,by simp only[List.length_append,List.length_singleton];~,(by simp only[List.length_append,List.length_singleton];~)
  ·rintro σ H3 ⟨z5,z6,qs,rfl,b3,p3,L3,g1,g2⟩
   rw[hl0]at g1 g2;¶^,^,^,r,^,SqL.of L3.lst,λl H4 s4 f4 nl=>?_;obtain⟨j,hj⟩:∃j:Nat,m=(j:Int):=⟨m.toNat,~⟩;!e:j5 (qs.map λ(q:Addr×Int×Int)=>V.ref q.1) none (some m)=(qs.take j).map λ(q:Addr×Int×Int)=>V.ref q.1:=by
    unfold j5;rw[hj,HT.sIx_nat,HT.sIx_none,List.length_map,List.drop_zero,Nat.sub_zero,<- List.map_take]
    congr 1
    rw[List.take_eq_take_iff];~
   rw[e]at f4;refine k l (qs.take j) H4 (b3.trans (.of s4)) (p3.same s4) (b3.none (p3.ne nl) nl) ⟨f4,λq hq=>((L3.mono s4).crn q (List.mem_of_mem_take hq))⟩ ?_ ?_
   ·rw[List.length_take]
    ~
   ·rw[List.length_take]
    ~
¦sqI(c d:Int×Int):Int:=(c.1 - d.1)*(c.1 - d.1)+(c.2 - d.2)*(c.2 - d.2)
¤oV(c d:Int×Int):sqI c d=sqI d c:=by unfold sqI;grind
¤vh(c d:Int×Int):0<=sqI c d:=by
 unfold sqI;!h1:0<=(c.1 - d.1)*(c.1 - d.1):=kj ~;!h2:0<=(c.2 - d.2)*(c.2 - d.2):=kj ~;~
¤uG{A M N D s w:Int}(hM:0<M)(f:E2 A M s w)(e:A*D=N*M):E2 N D s w:=by
 ?f.low;!h:=f.eq;refine Int.eq_of_mul_eq_mul_right (show M≠0 by omega) ?_;!e1:N*w*M=N*M*w:=Int.mul_right_comm _ _ _;rw[e1,<- e,Int.mul_right_comm A D w,h,Int.mul_right_comm]
¦leA(c x y:Int×Int):Int:=(c.1 - x.1)*(y.1 - x.1)+(c.2 - x.2)*(y.2 - x.2)
¦leL(x y:Int×Int):Int:=(y.1 - x.1)*(y.1 - x.1)+(y.2 - x.2)*(y.2 - x.2)
¤wc(x y:Int×Int):0<=leL x y:=vh y x
¦leF(c x y:Int×Int):Int×Int:=if leL x y=0\/leA c x y<0 then (sqI c x,1) else if leL x y<leA c x y then (sqI c y,1) else (sqI c x*leL x y - leA c x y*leA c x y,leL x y)
¤oh(c x y:Int×Int):0<(leF c x y).2:=by
 !:=wc x y;unfold leF
 split
 ·#(by decide:(0:Int)<1)
 ·split
  ·#(by decide:(0:Int)<1)
  ·rename_i h _
   show 0<leL x y;~
¦Cb(c:Int×Int):Prop:=ar c.1<=50/\ar c.2<=50
¤gz{c d:Int×Int}(h:Cb c)(h':Cb d):ar (sqI c d)<=103:=by
 !a:=a9 h.1 h'.1;!b:=a9 h.2 h'.2;#aq (bT (bits_mul a a) (bits_mul b b)) &
¤lu{c x y:Int×Int}(h:Cb c)(h1:Cb x)(h2:Cb y):ar (leA c x y)<=103 :=
 aq (bT (bits_mul (a9 h.1 h1.1) (a9 h2.1 h1.1)) (bits_mul (a9 h.2 h1.2) (a9 h2.2 h1.2))) &
¤iN{x y:Int×Int}(h1:Cb x)(h2:Cb y):ar (leL x y)<=103:=gz h2 h1
¦CnA(H:Hp)(p:Addr)(c:Int×Int):Prop:=H p=some (.tup [.int c.1,.int c.2])/\Cb c
¤_root_.Sp2.LineAt.cnA{H:Hp}{l:Addr}{qs:Crn}(L:LineAt H l qs){u:Addr×Int×Int}{i:Nat}(h:qs[i]? = some u):CnA H u.1 u.2:=⟨(L.crn u (List.mem_of_getElem? h)).1,(L.crn u (List.mem_of_getElem? h)).2⟩
¤dB{H:Hp}{l:Addr}{qs:Crn}(L:LineM H l qs):LineAt H l qs:=⟨L.lst,λq h=>⟨(L.crn q h).1,fw (L.crn q h).2.1,fw (L.crn q h).2.2⟩⟩
inductive Gq (vs:List V) (H:Hp) (Q:VK) (x_3:XK):Prop
 | mk:∀(p q:Addr) (a b c d:Int),(vs = [.ref p,.ref q])->(H p=some (.tup [.int a,.int b]))->(H q=some (.tup [.int c,.int d]))->((ar a<=50000/\ar b<=50000/\ar c<=50000/\ar d<=50000))->(Q (.bl (decide (a*d<c*b))) H)->Gq vs H Q x_3
inductive Ij (vs:List V) (H:Hp) (Q:VK) (x_3:XK):Prop
 | mk:∀a:Int,(vs = [.int a])->(Q (.bl true) H)->Ij vs H Q x_3
inductive IR (vs:List V) (H:Hp) (Q:VK) (x_3:XK):Prop
 | mk:∀a b:Int,(vs = [.int a,.int b])->(0<=b)->(Q (.int (Int.gcd a b:Int)) H)->IR vs H Q x_3
inductive JA (vs:List V) (H:Hp) (Q:VK) (x_3:XK):Prop
 | mk:∀(p:Addr) (a b:Int),(vs = [.ref p])->(H p=some (.tup [.int a,.int b]))->(EG a b)->(Q (.bl true) H)->JA vs H Q x_3
inductive IU (vs:List V) (H:Hp) (Q:VK) (x_3:XK):Prop
 | mk:∀(l p:Addr) (qs:Crn) (t b:Int),(vs = [.ref l,.ref p])->(LineAt H l qs)->((1<=qs.length/\qs.length<=20))->(H p=some (.tup [.int t,.int b]))->((0<b/\ar b<=5400))->((0<=t/\t<=((qs.length:Int) - 1)*b))->(ar t<=5400)->(∀(r:Addr) H',Same H H'->H' r=some (.tup [.int (ptX qs t b),.int (ptY qs t b),.int b])->Q (.ref r) H')->IU vs H Q x_3
¦d7(X Y b X' Y' b':Int):Int:=(X*b' - X'*b)*(X*b' - X'*b)+(Y*b' - Y'*b)*(Y*b' - Y'*b)
inductive Ha (vs:List V) (H:Hp) (Q:VK) (x_3:XK):Prop
 | mk:∀(p q:Addr) (X Y b X' Y' b':Int),(vs = [.ref p,.ref q])->(H p=some (.tup [.int X,.int Y,.int b]))->(H q=some (.tup [.int X',.int Y',.int b']))->((ar X<=5500/\ar Y<=5500/\ar b<=5500/\ar X'<=5500/\ar Y'<=5500/\ar b'<=5500))->(∀(r:Addr) H',Same H H'->H' r=some (.tup [.int (d7 X Y b X' Y' b'),.int (b*b'*(b*b'))])->Q (.ref r) H')->Ha vs H Q x_3
¤gB{H:Hp}{l:Addr}{qs:Crn}{t b:Int}(L:LineAt H l qs)(hb:0<b)(bb:ar b<=5400):ar (ptX qs t b)<=5500/\ar (ptY qs t b)<=5500:=by
 !br:ar (t % b)<=5400:=de (Int.emod_nonneg _ ~) (Int.le_of_lt (Int.emod_lt_of_pos _ hb)) bb;!nb:∀{x y:Int},ar x<=50->ar y<=50->ar (x*b+(y - x)*(t % b))<=5500:=λhx hy=>aq (bT (n:=5451) (aq (bits_mul hx bb) &) (bits_mul (a9 hy hx) br)) &;§nb (iY L _).1 (iY L _).1,nb (iY L _).2 (iY L _).2
¤vz{qs:Crn}{t b:Int}{u:Addr×Int×Int}(h:qs[(t / b).toNat]? = some u):side0 qs t b=u.2:=by
 unfold side0;rw[List.getD_eq_getElem?_getD,h];rfl
¤zY{qs:Crn}{t b:Int}{v:Addr×Int×Int}(h:qs[(t / b).toNat+1]? = some v):mO qs t b=v.2:=by
 !:=(List.getElem?_eq_some_iff.mp h).1;unfold mO;rw[Nat.min_eq_left ~,List.getD_eq_getElem?_getD,h];rfl
¤tM{qs:Crn}{k:Nat}{u:Addr×Int×Int}(h:qs[k]? = some u):cX qs k=u.2.1/\cY qs k=u.2.2:=by
 unfold cX cY;rw[List.getD_eq_getElem?_getD,h];§rfl,rfl
¤HU:Dj ["thing"] ["thing"] (ao (top 76)):=smk
¤ow(HX:Df K mg "_law_whole" (top 76))(T:Txt mg):Fn P w K mg base "_law_whole" ["thing"] 1 Ij:=by
 refine HX.fn HU (λ_ _ _ _ _ _ us hl=>by @_,rfl:=eX hl;rfl) (λvs H Q E h=>?_) (λf cdv A outer s H vs Q E hr h=>?_)
 ·@a,rfl,_:=h
  rfl
 ·@a,rfl,k:=h
  ?_,(am (aB (jn (aN cO (by rfl) T.z_isinstance bW (ad ©0 (ad (iG T.z_int wX) ak))) (gC (vD (aN cO (by rfl) T.z_isinstance bW (ad ©0 (ad (iG T.z_bool tN) ak))))))));?^,_,_,"int",rfl,Kn.int a,nice_int;?true,rfl;?^,_,_,"bool",rfl,Kn.int a,nice_bool;§^,k
¤EY:Dj ["a","b"] ["a","b"] (ao (top 77)):=smk
¤mn(HH:Df K mg "_law_shared" (top 77))(T:Txt mg):Fn P w K mg base "_law_shared" ["a","b"] 1 IR:=by
 refine HH.fn EY (λ_ _ _ _ _ _ us hl=>by @_,_,rfl:=dJ hl;rfl) (λvs H Q E h=>?_) (λf cdv A outer s H vs Q E hr h=>?_)
 ·@a,b,rfl,_:=h
  rfl
 ·@a,b,rfl,hb,q:=h
  ?_,(ag (£0 EY (aN fS (by rfl) T.z_abs jD (ad ©0 ak))) (ag (eJ PassesOwn.never (aE gF ©1 af (aG _)) (am (qS (i:=0) (j:=1) rfl EY.nd rfl rfl & rfl rfl (ad ©1 (ad (ay gG ©0 ©1) ak)) (by rfl)))) (am (aB ©0))));?^,a,rfl;!ha:0<=(if a<0 then -a else a):=by split <;> ~
  !hgg:Int.gcd (if a<0 then -a else a) b=Int.gcd a b:=by
   split
   ·rw[Int.neg_gcd]
   ·rfl
  dsimp only;generalize (if a<0 then -a else a)=a' at ha hgg ⊢
  refine eI (λσ H'=>∃x y:Int,σ = [some (.int x),some (.int y)]/\H'=H/\0<=x/\0<=y/\Int.gcd x y=Int.gcd a b)
   (λσ _=>match σ with | [_,some (.int y)]=>y.toNat|_=>0) ⟨_,_,rfl,rfl,ha,hb,hgg⟩ ?_ ?_
  ·rintro σ H' ⟨x,y,rfl,rfl,hx,hy,hg⟩
   ¶^,rfl,^,aY (λhc=>?_) (λhc=>?_)
   ·!hy0:¬y=0:=by simpa using hc
    !hy1:0<y:= ~
    ?^,^,^,x,y,rfl,rfl,hy1,_,^,⟨y,x % y,rfl,rfl,hy,Int.emod_nonneg _ hy0,?_⟩
    ·rw[pS hx hy1]
     #hg
    ·!h1:=Int.emod_lt_of_pos x hy1
     !h2:=Int.emod_nonneg x hy0;show(x % y).toNat<y.toNat;~
   ·!hy0:y=0:=by simpa using hc
    subst hy0;?^;!e:(Int.gcd a b:Int)=x:=by rw[<- hg,Int.gcd_zero];~
    rw[e]at q;#q
  ·rintro σ H' Q1 Q2 hq ⟨v,e,hs,k,ek,r⟩
   §v,e,hs,k,ek,hq _ _ r
¤FM:Dj ["thing"] ["thing"] (ao (top 78)):=smk
¤ik(FU:Df K mg "_law_is_fraction" (top 78))(ES:Fn P w K mg base "_law_whole" ["thing"] 1 Ij)(D9:Fn P w K mg base "_law_shared" ["a","b"] 1 IR)(T:Txt mg):Fn P w K mg base "_law_is_fraction" ["thing"] 2 JA:=by
 refine FU.fn FM (λ_ _ _ _ _ _ us hl=>by @_,rfl:=eX hl;rfl) (λvs H Q E h=>?_) (λf cdv A outer s H vs Q E hr h=>?_)
 ·@p,a,b,rfl,_:=h
  rfl
 ·@p,a,b,rfl,hp,lw,k:=h
  ?_,(ag (aM (dw (cE (bH (aN cO (by rfl) T.z_isinstance bW (ad ©0 (ad (iG T.z_tuple iZ) ak))))) (cZ (aE gF (aN aO (by rfl) T.z_len bX (ad ©0 ak)) af (aG _)))).pt (am (aB cW)) aI) (ag (aM (dw (cE (bH (¢ES (ad ®0 ak)))) (dw (cE (bH (¢ES (ad ®0 ak)))) (cZ (aE dH ®0 af (aG _))))).pt (am (aB cW)) aI) (am (aB (dj bP (¢D9 (ad ®0 (ad ®0 ak))) af (aG _))))));!hb:=lw.pos;?^,_,_,"tuple",rfl,Kn.tup hp,nice_tuple;¶^,aK rfl ?_;¶^,p,^,.inr (SqT.of hp),rfl,^,aK rfl ?_;¶^,p,_,%,SqT.of hp,rfl,a,rfl,^,aK rfl ?_;¶^,p,_,%,SqT.of hp,rfl,b,rfl,^,aK rfl ?_;¶^,p,_,%,SqT.of hp,rfl,%,^,aK (by simp;~) ?_;?^,p,_,%,SqT.of hp,rfl,^,p,_,%,SqT.of hp,rfl,a,b,rfl,(~);rw[lw.one];§rfl,k
¤Ip:Dj ["a","b"] ["a","b"] (ao (top 81)):=smk
¤qj(IJ:Df K mg "_law_less" (top 81)):Fn P w K mg base "_law_less" ["a","b"] 1 Gq:=by
 refine IJ.fn Ip (λ_ _ _ _ _ _ us hl=>by @_,_,rfl:=dJ hl;rfl) (λvs H Q E h=>?_) (λf cdv A outer s H vs Q E hr h=>?_)
 ·@p,q,a,b,c,d,rfl,_:=h
  rfl
 ·@p,q,a,b,c,d,rfl,hp,hq,⟨ba,bb,bc,bd⟩,k:=h
  ?_,(am (aB (dj dH (ay aF ®0 ®1) (ay aF ®1 ®0) (aG _))));§^,p,_,%,SqT.of hp,rfl,^,q,_,%,SqT.of hq,rfl,%,CM.b ba bd & &,^,q,_,%,SqT.of hq,rfl,^,p,_,%,SqT.of hp,rfl,%,CM.b bc bb & &,%,k
¤ER:Dj ["here","there","left","down","bottom"] ["here","there"] (ao (top 84)):=smk
¤oB(Ic:Df K mg "_law_apart" (top 84)):Fn P w K mg base "_law_apart" ["here","there"] 1 Ha:=by
 refine Ic.fn ER (λ_ _ _ _ _ _ us hl=>by @_,_,rfl:=dJ hl;rfl) (λvs H Q E h=>?_) (λf cdv A outer s H vs Q E hr h=>?_)
 ·@p,q,X,Y,b,X',Y',b',rfl,_:=h
  rfl
 ·@p,q,X,Y,b,X',Y',b',rfl,hp,hq,⟨h1,h2,h3,h4,h5,h6⟩,k:=h
  ?_,(ag (£2 ER (ay aP (ay aF ®0 ®1) (ay aF ®1 ®0))) (ag (£3 ER (ay aP (ay aF ®0 ®1) (ay aF ®1 ®0))) (ag (£4 ER (ay aF ®0 ®1)) (am (aB (aJ (ad (ay aS (ay aF ©2 ©2) (ay aF ©3 ©3)) (ad (ay aF ©4 ©4) ak))))))));!P:∀{α:Nat->Prop},α 0->α 0:=λh=>h;!cm:∀{x y:Int} {m n:Nat},ar x<=m->ar y<=n->m<=100000->n<=100000->CM x y:=λhx hy hm hn=>CM.b hx hy (Nat.le_trans hm &) (Nat.le_trans hn &);!d1:ar (X*b' - X'*b)<=11001:=a9 (bits_mul h1 h6) (bits_mul h4 h3);!d2:ar (Y*b' - Y'*b)<=11001:=a9 (bits_mul h2 h6) (bits_mul h5 h3);!d3:ar (b*b')<=11000:=bits_mul h3 h6;?^,p,_,%,SqT.of hp,rfl,^,q,_,%,SqT.of hq,rfl,%,cm h1 h6 & &,^,q,_,%,SqT.of hq,rfl,^,p,_,%,SqT.of hp,rfl,%,cm h4 h3 & &,%;?^,p,_,%,SqT.of hp,rfl,^,q,_,%,SqT.of hq,rfl,%,cm h2 h6 & &,^,q,_,%,SqT.of hq,rfl,^,p,_,%,SqT.of hp,rfl,%,cm h5 h3 & &,%;?^,p,_,%,SqT.of hp,rfl,^,q,_,%,SqT.of hq,rfl,%,cm h3 h6 & &;¶^,^,%,cm d1 d1 & &,^,^,%,cm d2 d2 & &,%,^,^,%,cm d3 d3 & &,sz (by simp),λr H1 s1 f1 n1=>?_;#k r H1 s1 f1
¤DI:Dj ["line","place","top","bottom","k","part","x","y","wide"] ["line","place"] (ao (top 83)):=smk
¤ox(HY:Df K mg "_law_point" (top 83))(T:Txt mg):Fn P w K mg base "_law_point" ["line","place"] 1 IU:=by
 refine HY.fn DI (λ_ _ _ _ _ _ us hl=>by @_,_,rfl:=dJ hl;rfl) (λvs H Q E h=>?_) (λf cdv A outer s H vs Q E hr h=>?_)
 ·@l,p,qs,t,b,rfl,_:=h
  rfl
 ·@l,p,qs,t,b,rfl,L,⟨h1,h20⟩,hp,⟨hb,bb⟩,⟨t0,t1⟩,bt,k:=h
  ?_,(ag (jg ©1 (fe rfl (bK (aQ (i:=2) DI.nd rfl (Or.inl rfl)) (bK (aQ (i:=3) DI.nd rfl (Or.inl rfl)) dX)))) (ag (£4 DI (ay dA ©2 ©3)) (ag (aM (aE bP ©4 (ay aP (aN aO (by rfl) T.z_len bX (ad ©0 ak)) af) (aG _)) (am (aB (aJ (ad (ay aF (ax ap (ax aW ©0 ©4 (λ_ _=>rfl)) af (λ_ _=>rfl)) ©3) (ad (ay aF (ax ap (ax aW ©0 ©4 (λ_ _=>rfl)) af (λ_ _=>rfl)) ©3) (ad ©3 ak)))))) aI) (ag (£5 DI (ay aP ©2 (ay aF ©4 ©3))) (ag (jg (ax aW ©0 ©4 (λ_ _=>rfl)) (fe rfl (bK (aQ (i:=6) DI.nd rfl (Or.inl rfl)) (bK (aQ (i:=7) DI.nd rfl (Or.inl rfl)) dX)))) (ag (£8 DI (ay aP (ax ap (ax aW ©0 (ay aS ©4 af) (λ_ _=>rfl)) af (λ_ _=>rfl)) ©6)) (am (aB (aJ (ad (ay aS (ay aF ©6 ©3) (ay aF ©5 ©8)) (ad (ay aS (ay aF ©7 ©3) (ay aF ©5 (ay aP (ax ap (ax aW ©0 (ay aS ©4 af) (λ_ _=>rfl)) af (λ_ _=>rfl)) ©7))) (ad ©3 ak))))))))))));!hll:(qs.map λ(q:Addr×Int×Int)=>V.ref q.1).length=qs.length:=List.length_map _;!q0:0<=t / b:=Int.ediv_nonneg t0 ~;!q1:t / b<=(qs.length:Int) - 1:=Int.ediv_le_of_le_mul hb t1;!em:=Int.emod_add_mul_ediv t b;!em':t - t / b*b=t % b:=by rw[Int.mul_comm];~
  !r0:=Int.emod_nonneg t (show b≠0 by omega);!r1:=Int.emod_lt_of_pos t hb;!br:ar (t % b)<=5400:=de r0 (Int.le_of_lt r1) bb;@u,hu,au:=oJ (qs:=qs) (k:=t / b) q0 ~;!cu:=L.cnA hu;!cm:∀{x y:Int},ar x<=5400->ar y<=5400->CM x y:=λhx hy=>CM.b hx hy & &;!b50:∀{x:Int},ar x<=50->ar x<=5400:=λh=>aq h &;?^,p,^,SqT.of hp,rfl,_,^,%;?^,^,%,⟨hb,aq bb &⟩;¶^,^,l,^,.inl (SqL.of L.lst),%,rfl,^,aY (λc1=>?_) (λc1=>?_)
  ·!c1:t / b=(((qs.map λ(q:Addr×Int×Int)=>V.ref q.1).length:Nat):Int) - 1:=by simpa using c1
   rw[hll]at c1;?^,^,l,_,%,SqL.of L.lst,au,u.1,_,%,SqT.of cu.1,rfl,^,%,cm (b50 cu.2.1) bb;¶^,^,l,_,%,SqL.of L.lst,au,u.1,_,%,SqT.of cu.1,rfl,^,%,cm (b50 cu.2.2) bb,^,sz (by simp),λr H1 s1 f1 n1=>?_;!z:t % b=0:=by
    rw[c1]at em';!:=t1;~
   refine k r H1 s1 ?_;rw[f1];unfold ptX ptY Sp11.numAt;rw[vz hu,z,Int.mul_zero,Int.mul_zero,Int.add_zero,Int.add_zero]
  !c1:¬t / b=(((qs.map λ(q:Addr×Int×Int)=>V.ref q.1).length:Nat):Int) - 1:=by simpa using c1
  rw[hll]at c1;@v,hv,av:=oJ (qs:=qs) (k:=t / b+1) ~ ~;!cv:=L.cnA hv;!hv':qs[(t / b).toNat+1]? = some v:=by
   rw[show(t / b).toNat+1=(t / b+1).toNat by omega];#hv
  !bw:∀{x y:Int},ar x<=50->ar y<=50->ar (x - y)<=5400:=λhx hy=>aq (a9 hx hy) &;?^,^,^,%,CM.l ?_,%
  ·rw[show(2:Int)^64=18446744073709551616 by decide]
   ~
  dsimp only;rw[em'];?^,^,l,_,%,SqL.of L.lst,au,u.1,^,SqT.of cu.1,rfl,_,^,%;?^,^,%,l,_,%,SqL.of L.lst,av,v.1,_,%,SqT.of cv.1,rfl,^,%;?^,^,%,cm (b50 cu.2.1) bb,^,^,%,cm br (bw cv.2.1 cu.2.1),%;¶^,^,%,cm (b50 cu.2.2) bb,^,^,^,%,l,_,%,SqL.of L.lst,av,v.1,_,%,SqT.of cv.1,rfl,^,%,%,cm br (bw cv.2.2 cu.2.2),%,^,sz (by simp),λr H1 s1 f1 n1=>?_;refine k r H1 s1 ?_;rw[f1];unfold ptX ptY Sp11.numAt;rw[vz hu,zY hv',Int.mul_comm (v.2.1 - u.2.1),Int.mul_comm (v.2.2 - u.2.2)]
¦cr(qs:Crn)(i:Nat):Int×Int:=(qs.getD i (0,0,0)).2
¤rD{qs rs:Crn}{a b:Int}{i j:Nat}(hi:i<qs.length)(hj:j<rs.length):(fk qs rs a b 0 i j=true↔a<sqI (cr qs i) (cr rs j)*b):=by
 !h1:qs[i]? = some qs[i]:=List.getElem?_eq_getElem hi;!h2:rs[j]? = some rs[j]:=List.getElem?_eq_getElem hj;!e1:cr qs i=qs[i].2:=by unfold cr;rw[List.getD_eq_getElem?_getD,h1];rfl
 !e2:cr rs j=rs[j].2:=by unfold cr;rw[List.getD_eq_getElem?_getD,h2];rfl
 rw[sZ h1 h2,decide_eq_true_eq,e1,e2];generalize qs[i].2=c;generalize rs[j].2=d;unfold lo;rw[show(d.1 - c.1)*(d.1 - c.1)+(d.2 - c.2)*(d.2 - c.2)=sqI c d by unfold sqI;grind];unfold sg
 split
 ·~
 ·split <;> ~
¤sV{qs rs:Crn}{a b:Int}{i j:Nat}:bS qs rs a b 0 0 i j=dQ (cr qs i).1 (cr qs i).2 (cr rs j).1 (cr rs j).2 (cr rs (j+1)).1 (cr rs (j+1)).2 a b 0:=by
 unfold bS;rw[if_pos rfl];unfold cnX cnY cr;rw[show((j:Int)+1).toNat=j+1 by omega,Int.toNat_natCast,Int.toNat_natCast]
¤sU{qs rs:Crn}{a b:Int}{i j:Nat}:bS qs rs a b 0 1 i j=dQ (cr rs j).1 (cr rs j).2 (cr qs i).1 (cr qs i).2 (cr qs (i+1)).1 (cr qs (i+1)).2 a b 0:=by
 unfold bS;rw[if_neg &];unfold cnX cnY cr;rw[show((i:Int)+1).toNat=i+1 by omega,Int.toNat_natCast,Int.toNat_natCast]
¤Cs(c:Addr×Int×Int):dbl [c] = [c,c]:=rfl
¤lR{qs:Crn}(h:2<=qs.length):dbl qs=qs/\cI qs=qs.length - 1:=by
 !e:dbl qs=qs:=by
  unfold dbl;rw[if_neg ~]
 §e,(by unfold cI;rw[e])
¤dO{p q:Int}(h0:0<=p)(h:p<q):p*p<q*q:=oU h0 h
¤sq4{A B D:Int}:(D*D - A - B)*(D*D - A - B) - 4*(A*B)=(A - B - D*D)*(A - B - D*D) - 4*(B*(D*D)):=by grind
¤vq{X Y A B D:Int}(hA:0<=A)(hB:0<=B)(hX:0<X)(hx:A<X*X)(hy:Y<=0\/Y*Y<=B)(hD:D=X - Y):¬(D<=0/\B<=A)/\(0<D->B<A->0<ssq (D*D - A - B)+4*(A*B))/\(D<0->A<B->ssq (D*D - A - B)+4*(A*B)<0):=by
 !nn:∀z:Int,0<=z*z:=λz=>(Int.le_total 0 z).elim (λh=>Int.mul_nonneg h h) λh=>Int.mul_nonneg_of_nonpos_of_nonpos h h;¶λ⟨h1,h2⟩=>?_,λh1 h2=>?_,λh1 h2=>?_
 ·!hY:X<=Y:= ~
  !hy:=hy.resolve_left ~;!:=cD (show 0<=X by omega) hY;~
 ·!AB:0<=A*B:=Int.mul_nonneg hA hB
  rcases Int.lt_or_le (D*D - A - B) 0 with e|e
  ·rw[aV ~]
   !s:=sq4 (A:=A) (B:=B) (D:=D);!dd:=nn D;!bd:0<=B*(D*D):=Int.mul_nonneg hB dd
   suffices h:(A - B - D*D)*(A - B - D*D)<4*(B*(D*D)) by omega
   rcases Int.lt_or_le (A - B - D*D) 0 with f|f
   ·!g1:D*D - (A - B)<=D*D:= ~
    !g2:D*D - (A - B)<=2*B:= ~
    !g0:0<=D*D - (A - B):= ~
    !:=Int.mul_le_mul g2 g1 g0 ~;!bp:0<B:= ~
    !dp:0<D*D:=Int.mul_pos h1 h1;!bdp:=Int.mul_pos bp dp;!e2:(A - B - D*D)*(A - B - D*D)=(D*D - (A - B))*(D*D - (A - B)):=by grind
    !e3:2*B*(D*D)=2*(B*(D*D)):=Int.mul_assoc _ _ _;~
   ·rcases hy with hy|hy
    ·exfalso
     !:=cD (show 0<=X by omega) (show X<=D by omega);~
    ·!e1:X*X=Y*Y+2*(Y*D)+D*D:=by rw[show X=Y+D by omega];grind
     !yd:0<Y*D:= ~
     !g1:A - B - D*D<2*(Y*D):= ~
     !:=dO f g1;!e2:2*(Y*D)*(2*(Y*D))=4*(Y*Y*(D*D)):=by grind
     !:=Int.mul_le_mul_of_nonneg_right hy dd;~
  ·rw[aU e]
   rcases Int.lt_or_eq_of_le e with e|e
   ·!:=Int.mul_pos e e
    ~
   ·rw[<- e]
    rcases Int.lt_or_eq_of_le hB with b|b
    ·!:=Int.mul_pos (show 0<A by omega) b
     ~
    ·exfalso
     rcases hy with hy|hy
     ·!:=cD (show 0<=X by omega) (show X<=D by omega)
      ~
     ·!y0:Y=0:=by
       rcases Int.lt_trichotomy Y 0 with z|z|z
       ·!:=Int.mul_pos_of_neg_of_neg z z;~
       ·#z
       ·!:=Int.mul_pos z z;~
      !:=cD (show 0<=X by omega) (show X<=D by omega);~
 ·!hy:=hy.resolve_left ~
  !e1:Y*Y=X*X+2*(X*(-D))+D*D:=by rw[show Y=X + -D by omega];grind
  !xd:0<X*(-D):=Int.mul_pos hX ~;!g1:2*(X*(-D))<B - A - D*D:= ~
  rw[aV ~];!s:(D*D - A - B)*(D*D - A - B) - 4*(A*B)=(B - A - D*D)*(B - A - D*D) - 4*(A*(D*D)):=by grind
  !:=dO (show 0<=2*(X*(-D)) by omega) g1;!e2:2*(X*(-D))*(2*(X*(-D)))=4*(X*X*(D*D)):=by grind
  !:=Int.mul_le_mul_of_nonneg_right (show A<=X*X by omega) (nn D);~
¤um{P U L t u:Int}(hU:0<=U)(hu:0<u):(0<ltB (P,-1,U,L) t u↔0<P*u - t*L/\u*u*U<(P*u - t*L)*(P*u - t*L)):=by
 unfold ltB;dsimp only;rw[cg,show(-1:Int)*u = -u by omega];#(vK hu hU).1
¤qK{z:Int}:0<sg z↔0<z:=by
 rcases Int.lt_trichotomy z 0 with h|h|h
 ·rw[d6 h];~
 ·rw[hO h];~
 ·rw[cP h];~
¤v6{p q:N4}(hp:GK p)(hq:GK q){t u:Int}(ht:0<=t)(hu:0<u)(h1:0<ltB p t u)(h2:ltB q t u<1):0<ro4 p q:=by
 !nn:∀z:Int,0<=z*z:=λz=>(Int.le_total 0 z).elim (λh=>Int.mul_nonneg h h) λh=>Int.mul_nonneg_of_nonpos_of_nonpos h h;cases hp with
 | b =>
  rw[fi.1]at h1;!:=qK.mp h1;~
 | @n P U L hL hU _ _ =>
  @x0,xx:=(um hU hu).mp h1;cases hq with
  | b =>
   show 0<ro P (-1) U L 0 0 0 1;rw[cg,show P*1 - 0*L=P by omega,show(-1:Int)*1 = -1 from rfl];refine(l8 hU).1.mpr ?_;!tl:=Int.mul_nonneg ht (Int.le_of_lt hL);!pu:0<P*u:= ~
   !hP:0<P:=by
    rcases Int.lt_or_le 0 P with z|z
    ·#z
    ·!:=Int.mul_nonpos_of_nonpos_of_nonneg z (Int.le_of_lt hu)
     ~
   ?hP;!:=cD (show 0<=P*u - t*L by omega) (show P*u - t*L<=P*u by omega);!e:P*u*(P*u)=u*u*(P*P):=by grind
   rw[e]at this;#Int.lt_of_mul_lt_mul_left (Int.lt_of_lt_of_le xx this) (nn u)
  | @n P' U' L' hL' hU' _ _ =>
   !hy:P'*u - t*L'<=0\/(P'*u - t*L')*(P'*u - t*L')<=u*u*U':=by
    !:=mt (um (P:=P') (L:=L') (t:=t) hU' hu).mpr ~;~
   !uu:0<u*u:=Int.mul_pos hu hu;!g:=vq (X:=L'*(P*u - t*L)) (Y:=L*(P'*u - t*L')) (A:=u*u*(L'*L'*U)) (B:=u*u*(L*L*U')) (D:=(P*L' - P'*L)*u)
    (Int.mul_nonneg (nn _) (Int.mul_nonneg (nn _) hU)) (Int.mul_nonneg (nn _) (Int.mul_nonneg (nn _) hU')) (Int.mul_pos hL' x0) (by
     !:=Int.mul_lt_mul_of_pos_left xx (Int.mul_pos hL' hL');!e1:L'*L'*(u*u*U)=u*u*(L'*L'*U):=by grind
     !e2:L'*L'*((P*u - t*L)*(P*u - t*L))=L'*(P*u - t*L)*(L'*(P*u - t*L)):=by grind
     ~) (by
     rcases hy with hy|hy
     ·#.inl (Int.mul_nonpos_of_nonneg_of_nonpos (Int.le_of_lt hL) hy)
     ·right
      !:=Int.mul_le_mul_of_nonneg_left hy (nn L);!e1:L*L*(u*u*U')=u*u*(L*L*U'):=by grind
      !e2:L*L*((P'*u - t*L')*(P'*u - t*L'))=L*(P'*u - t*L')*(L*(P'*u - t*L')):=by grind
      ~) (by grind)
   show 0<ro P (-1) U L P' (-1) U' L';unfold ro;generalize hW:P*L' - P'*L=W at g ⊢;!sA:ssq (-1*L')*U = -(L'*L'*U):=by
    rw[aV ~];grind
   !sB:ssq (- -1*L)*U'=L*L*U':=by
    rw[aU ~];grind
   !A0:0<=L'*L'*U:=Int.mul_nonneg (nn _) hU;!B0:0<=L*L*U':=Int.mul_nonneg (nn _) hU';!e4:ssq (-2*(-1*L')*(- -1*L))*(U*U')=4*(L'*L'*U*(L*L*U')):=by
    rw[show -2*(-1*L')*(- -1*L)=2*(L'*L) by grind,aU (Int.mul_nonneg & (Int.mul_nonneg ~ ~))]
    grind
   !e5:W*W - -1*L'*(-1*L')*U - - -1*L*(- -1*L)*U'=W*W - L'*L'*U - L*L*U':=by grind
   unfold cR swr;rw[sA,sB,e4,e5];generalize L'*L'*U=A at *;generalize L*L*U'=B at *;!eD:W*u*(W*u) - u*u*A - u*u*B=u*u*(W*W - A - B):=by grind
   !eq4:4*(u*u*A*(u*u*B))=u*u*(u*u)*(4*(A*B)):=by grind
   !es:ssq (u*u*(W*W - A - B))=u*u*(u*u)*ssq (W*W - A - B):=by
    rcases Int.le_total (W*W - A - B) 0 with z|z
    ·rw[aV z,aV (Int.mul_nonpos_of_nonneg_of_nonpos ~ z)];grind
    ·rw[aU z,aU (Int.mul_nonneg ~ z)];grind
   rw[eD,eq4,es,<- Int.mul_add]at g;!u4:0<u*u*(u*u):=Int.mul_pos uu uu;!ab:∀{x y:Int},u*u*x<u*u*y↔x<y:=⟨λh=>Int.lt_of_mul_lt_mul_left h ~,λh=>Int.mul_lt_mul_of_pos_left h uu⟩;@g1,g2,g3:=g;rcases Int.lt_trichotomy W 0 with w|w|w
   ·!ba:A<B:=Classical.byContradiction λz=>g1 ⟨Int.le_of_lt (Int.mul_neg_of_neg_of_pos w hu),Int.mul_le_mul_of_nonneg_left ~ ~⟩
    !g3:=g3 (Int.mul_neg_of_neg_of_pos w hu) (ab.mpr ba);!g3:ssq (W*W - A - B)+4*(A*B)<0:=by
     rcases Int.lt_or_le (ssq (W*W - A - B)+4*(A*B)) 0 with z|z
     ·#z
     ·!:=Int.mul_nonneg (Int.le_of_lt u4) z;~
    rw[d6 w,cP (show 0 < -A+B by omega),if_neg &,d6 g3];decide
   ·!ba:A<B:=Classical.byContradiction λz=>g1 ⟨by rw[w,Int.zero_mul];#Int.le_refl _,Int.mul_le_mul_of_nonneg_left ~ ~⟩
    rw[hO w,cP (show 0 < -A+B by omega),if_pos &];decide
   ·rcases Int.lt_or_le B A with ba|ba
    ·!g2:=g2 (Int.mul_pos w hu) (ab.mpr ba)
     !g2:0<ssq (W*W - A - B)+4*(A*B):=by
      rcases Int.lt_or_le 0 (ssq (W*W - A - B)+4*(A*B)) with z|z
      ·#z
      ·!:=Int.mul_nonpos_of_nonneg_of_nonpos (Int.le_of_lt u4) z;~
     rw[cP w,d6 (show -A+B<0 by omega),if_neg &,cP g2];decide
    ·rw[cP w]
     rcases Int.lt_or_eq_of_le ba with ba|ba
     ·rw[cP (show 0 < -A+B by omega),if_pos &];decide
     ·rw[hO (show -A+B=0 by omega),if_pos &];decide
¤rh{P U L t u:Int}(hU:0<=U)(hu:0<u):(gtB (P,1,U,L) t u<1↔¬(P*u - t*L<0/\u*u*U<(P*u - t*L)*(P*u - t*L))):=by
 rw[fZ];unfold ltB;dsimp only;rw[cg,Int.one_mul,<- (sy hu hU).1];~
¤vT{P U L t u:Int}(hU:0<=U)(hu:0<u):(ltB (P,-1,U,L) t u<1↔¬(0<P*u - t*L/\u*u*U<(P*u - t*L)*(P*u - t*L))):=by
 rw[<- um hU hu];~
¤AF{P U L P' U' L' t u:Int}(hL:0<L)(hU:0<=U)(hL':0<L')(hU':0<=U')(hu:0<u)(x0:0<=P*u - t*L)(xx:u*u*U<=(P*u - t*L)*(P*u - t*L))(y0:P'*u - t*L'<0)(yy:u*u*U'<(P'*u - t*L')*(P'*u - t*L')):0<ro P (-1) U L P' 1 U' L':=by
 !nn:∀z:Int,0<=z*z:=λz=>(Int.le_total 0 z).elim (λh=>Int.mul_nonneg h h) λh=>Int.mul_nonneg_of_nonpos_of_nonpos h h;!uu:0<u*u:=Int.mul_pos hu hu;!eW:(P*L' - P'*L)*u=L'*(P*u - t*L)+L*(t*L' - P'*u):=by grind
 !yy:u*u*U'<(t*L' - P'*u)*(t*L' - P'*u):=by
  rw[show(t*L' - P'*u)*(t*L' - P'*u)=(P'*u - t*L')*(P'*u - t*L') by grind];#yy
 !y0:0<t*L' - P'*u:= ~
 unfold ro;generalize P*L' - P'*L=W at eW ⊢;generalize P*u - t*L=x at *;generalize t*L' - P'*u=y at *;!X0:=Int.mul_nonneg (Int.le_of_lt hL') x0;!Y0:=Int.mul_pos hL y0;!XX:u*u*(L'*L'*U)<=L'*x*(L'*x):=by
  !:=Int.mul_le_mul_of_nonneg_left xx (nn L');!e1:L'*L'*(u*u*U)=u*u*(L'*L'*U):=by grind
  !e2:L'*L'*(x*x)=L'*x*(L'*x):=by grind
  ~
 !YY:u*u*(L*L*U')<L*y*(L*y):=by
  !:=Int.mul_lt_mul_of_pos_left yy (Int.mul_pos hL hL);!e1:L*L*(u*u*U')=u*u*(L*L*U'):=by grind
  !e2:L*L*(y*y)=L*y*(L*y):=by grind
  ~
 !w:0<W:=by
  rcases Int.lt_or_le 0 W with z|z
  ·#z
  ·!:=Int.mul_nonpos_of_nonpos_of_nonneg z (Int.le_of_lt hu)
   ~
 !sA:ssq (-1*L')*U = -(L'*L'*U):=by
  rw[aV ~];grind
 !sB:ssq (-1*L)*U' = -(L*L*U'):=by
  rw[aV ~];grind
 !A0:0<=L'*L'*U:=Int.mul_nonneg (nn _) hU;!B0:0<=L*L*U':=Int.mul_nonneg (nn _) hU';!e4:ssq (-2*(-1*L')*(-1*L))*(U*U') = -(4*(L'*L'*U*(L*L*U'))):=by
  rw[show -2*(-1*L')*(-1*L) = -(2*(L'*L)) by grind,aV (by !:=Int.mul_pos hL' hL;~)]
  grind
 !e5:W*W - -1*L'*(-1*L')*U - -1*L*(-1*L)*U'=W*W - L'*L'*U - L*L*U':=by grind
 unfold cR swr;rw[sA,sB,e4,e5];generalize L'*L'*U=A at *;generalize L*L*U'=B at *;generalize L'*x=X at *;generalize L*y=Y at *;rw[cP w];rcases Int.lt_or_eq_of_le (show 0<=A+B by omega) with z|z
 ·rw[d6 (show -A + -B<0 by omega),if_neg &,Int.one_mul,qK]
  !eE:u*u*(W*W - A - B)=X*X - u*u*A+(Y*Y - u*u*B)+2*(X*Y):=by
   !:u*u*(W*W)=(W*u)*(W*u):=by grind
   rw[Int.mul_sub,Int.mul_sub,this,eW]
   grind
  !xy:0<=X*Y:=Int.mul_nonneg X0 (Int.le_of_lt Y0);!g:2*(X*Y)<u*u*(W*W - A - B):= ~
  !E0:0<W*W - A - B:=by
   rcases Int.lt_or_le 0 (W*W - A - B) with z|z
   ·#z
   ·!:=Int.mul_nonpos_of_nonneg_of_nonpos (Int.le_of_lt uu) z
    ~
  rw[aU (Int.le_of_lt E0)];generalize W*W - A - B=E at *;!h:=dO (show 0<=2*(X*Y) by omega) g;!h2:=Int.mul_le_mul XX (Int.le_of_lt YY) (Int.mul_nonneg (Int.le_of_lt uu) B0) (nn X);!e6:2*(X*Y)*(2*(X*Y))=4*(X*X*(Y*Y)):=by grind
  !e7:u*u*A*(u*u*B)=u*u*(u*u)*(A*B):=by grind
  !e8:u*u*E*(u*u*E)=u*u*(u*u)*(E*E):=by grind
  rw[e7]at h2;rw[e8,e6]at h;!u4:0<u*u*(u*u):=Int.mul_pos uu uu;!:u*u*(u*u)*(4*(A*B))<u*u*(u*u)*(E*E):=by
   !e9:u*u*(u*u)*(4*(A*B))=4*(u*u*(u*u)*(A*B)):=by grind
   ~
  !:=Int.lt_of_mul_lt_mul_left this (Int.le_of_lt u4);~
 ·rw[hO (show -A + -B=0 by omega),if_pos &]
  decide
¤Ce{m:N4}(h:HN m):gtB m 0 1<1:=by
 cases h with
 | e=>rw[fZ,fi.2];decide
 | @n P U L hL hU h z=>#Int.lt_of_le_of_lt (js (L:=L) hU h) &
¤BX{l:N4}(h:GK l):ltB l 1 1<1:=by
 cases h with
 | b=>rw[fi.1];decide
 | @n P U L hL hU h z=>#Int.lt_of_le_of_lt (pN (L:=L) hU h) &
¤Ag{l m:N4}{t u:Int}(hl:GK l)(hm:HN m)(le:ro4 l m<=0)(h:PG l m t u):(ltB l t u<1/\gtB m t u<1)/\(0<=t/\t<=u)/\EG t u:=by
 !nn:∀z:Int,0<=z*z:=λz=>(Int.le_total 0 z).elim (λh=>Int.mul_nonneg h h) λh=>Int.mul_nonneg_of_nonpos_of_nonpos h h;unfold PG at h
 by_cases c1:ro4 l (0,0,0,1)=0
 ·rw[if_pos c1]at h
  @rfl,rfl:=h;!:ltB l 0 1=0:=c1;§⟨~,Ce hm⟩,&,&,(&)
 rw[if_neg c1]at h
 by_cases c2:ro4 m (1,0,0,1)=0
 ·rw[if_pos c2]at h
  @rfl,rfl:=h;!:ltB m 1 1=0:=c2;§⟨BX hl,by rw[fZ];~⟩,&,&,(&)
 rw[if_neg c2]at h;cases hl with
 | b=>#absurd & c1
 | @n P U L hL hU hP hz =>
  by_cases c3:ro4 (P,-1,U,L) m=0
  ·rw[if_pos c3]at h
   @R,⟨R0,RR⟩,fr:=h;!RR:R*R=U:=by rw[RR];show -1 * -1*U=U;~
   !hu:=fr.low.pos;!e:(P - R)*u=t*L:=by
    !:=fr.eq;rw[show sg (-1) = -1 from rfl]at this;rw[show P - R=P + -1*R by omega];#this
   !ex:P*u - t*L=R*u:=by rw[<- e];grind
   !exx:R*u*(R*u)=u*u*U:=by rw[<- RR];grind
   !RP:R<=P:=by
    rcases Int.lt_or_le P R with z|z
    ·!:=dO hz.1 z
     ~
    ·#z
   !t0:0<=t:=by
    rcases Int.lt_or_le t 0 with z|z
    ·!:=Int.mul_neg_of_neg_of_pos z hL
     !:=Int.mul_nonneg (show 0<=P - R by omega) (show 0<=u by omega);~
    ·#z
   !PRL:P - R<=L:=by
    rcases hP with z|z
    ·~
    ·rcases Int.lt_or_le R (P - L) with y|y
     ·!:=dO R0 y
      ~
     ·~
   !tu:t<=u:=by
    !:=Int.mul_le_mul_of_nonneg_right PRL (show 0<=u by omega);rw[e,Int.mul_comm L u]at this;#Int.le_of_mul_le_mul_right this hL
   ¶⟨(vT hU hu).mpr (by rw[ex,exx];~),?_⟩,⟨t0,tu⟩,fr.low;cases hm with
   | e=>rw[fZ,fi.2];!:=(nN (x:=u - t)).1.mpr ~;~
   | @n P' U' L' hL' hU' _ _ =>
    refine(rh hU' hu).mpr λ⟨y0,yy⟩=>?_;!:=AF hL hU hL' hU' hu (by rw[ex];#Int.mul_nonneg R0 ~) (by rw[ex,exx];#Int.le_refl _) y0 yy;!c3:ro P (-1) U L P' 1 U' L'=0:=c3;~
  ·rw[if_neg c3]at h
   @_,_,_,_,_,_,_,_,_,fr:=id h;!hu:=fr.low.pos;cases hm with
   | e =>
    @m1,m2:=h.mid hU hL & &;dsimp only at m1 m2;!tu:t<u:=by
     rcases Int.lt_or_le t u with z|z
     ·#z
     ·rw[aU (show 0<=t*1 - 1*u by omega)]at m2
      !:=nn (t*1 - 1*u);~
    !t0:=uU hL hU hu & & hz h;¶⟨(vT hU hu).mpr λ⟨x0,xx⟩=>?_,?_⟩,⟨t0,~⟩,fr.low
    ·rw[aU (Int.le_of_lt x0),aV (show -1*u<=0 by omega)]at m1
     !:-(-1*u*(-1*u))*U = -(u*u*U):=by grind
     ~
    ·rw[fZ,fi.2,cP ~];decide
   | @n P' U' L' hL' hU' hP' hz' =>
    @m1,m2:=h.mid hU hL hU' hL';dsimp only at m1 m2;!t0:=uU hL hU hu hU' hL' hz h;!tu:=yT hL' hU' hu hU hL hz' h;¶⟨(vT hU hu).mpr λ⟨x0,xx⟩=>?_,(rh hU' hu).mpr λ⟨y0,yy⟩=>?_⟩,⟨t0,tu⟩,fr.low
    ·rw[aU (Int.le_of_lt x0),aV (show -1*u<=0 by omega)]at m1
     !:-(-1*u*(-1*u))*U = -(u*u*U):=by grind
     ~
    ·rw[aU (show 0<=t*L' - P'*u by omega),aV (show -1*u<=0 by omega)]at m2
     !:-(-1*u*(-1*u))*U' = -(u*u*U'):=by grind
     !:(t*L' - P'*u)*(t*L' - P'*u)=(P'*u - t*L')*(P'*u - t*L'):=by grind
     ~
¦Ft(r:Rv)(t u:Int):Prop:=(ltB r.lo t u<1/\gtB r.hi t u<1)/\(0<=t/\t<=u)/\EG t u
¤zy{r:Rv}{t u:Int}(ok:OkR r)(h:PG r.lo r.hi t u):Ft r t u:=by
 rcases ok.2 with z|⟨h1,h2⟩
 ·rw[z]at h
  unfold PG at h;rw[if_pos &]at h;@rfl,rfl:=h;!le:=ok.1;rw[z]at le;§⟨by rw[z];decide,Int.lt_of_le_of_lt (show gtB r.hi 0 1<=0 from le) &⟩,⟨&,&⟩,&,(&)
 ·#Ag h1 h2 ok.1 h
¤zj{p q:N4}(hp:GK p)(hq:GK q){t u:Int}(t0:0<=t)(hu:0<u)(h:ltB (mxN p q) t u<1):ltB p t u<1/\ltB q t u<1:=by
 unfold mxN at h
 split at h
 ·rename_i c
  ¶Classical.byContradiction λz=>?_,h;!:=v6 hp hq t0 hu ~ h;~
 ·rename_i c
  ¶h,Classical.byContradiction λz=>?_;!:=v6 hq hp t0 hu ~ h;!:=fc p q;~
inductive KJ (G:GF) (n m:Nat):Dor->Rv->Dor->Rv->Prop
 | s0 {i j:Nat} {p:N4×N4} {rx rz:Rv} (hi:i<n) (hj:j<m) (g:G 0 ((i+1:Nat):Int) j=some p) (el:rz.lo=mxN p.1 rx.lo):KJ G n m (0,(i:Int),(j:Int)) rx (0,((i+1:Nat):Int),(j:Int)) rz
 | t0 {i j:Nat} {rx rz:Rv} (hi:i<n) (hj:j<m):KJ G n m (1,(i:Int),(j:Int)) rx (0,((i+1:Nat):Int),(j:Int)) rz
 | s1 {i j:Nat} {p:N4×N4} {rx rz:Rv} (hi:i<n) (hj:j<m) (g:G 1 (i:Int) ((j+1:Nat):Int)=some p) (el:rz.lo=mxN p.1 rx.lo):KJ G n m (1,(i:Int),(j:Int)) rx (1,(i:Int),((j+1:Nat):Int)) rz
 | t1 {i j:Nat} {rx rz:Rv} (hi:i<n) (hj:j<m):KJ G n m (0,(i:Int),(j:Int)) rx (1,(i:Int),((j+1:Nat):Int)) rz
¤fJ{gt:Option (N4×N4)}{st tu:Option Rv}{sd td:Dor}{r:Rv}(h:pas gt st tu sd td=some r):∃p,gt=some p/\r.hi=p.2/\((r.lo=p.1/\tu.isSome=true/\r.ah=some td)\/∃r',st=some r'/\r.lo=mxN p.1 r'.lo/\r.ah=some sd):=by
 cases gt with
 | none=>cases h
 | some p =>
  ¶p,rfl,?_;unfold pas at h;dsimp only at h
  split at h
  ·rename_i c
   cases h;§rfl,.inl ⟨rfl,c,rfl⟩
  ·cases st with
   | none=>cases h
   | some r' =>
    dsimp only at h
    split at h
    ·cases h
     §rfl,.inr ⟨r',rfl,rfl,rfl⟩
    ·cases h
section
variable {wy:Str} {G:GF} {F:Int->Int->Bool} {n m:Nat}
¤xH{x z:Dor}{rz:Rv}(h:RR wy G F n m z=some rz)(ha:rz.ah=some x):∃rx,RR wy G F n m x=some rx/\KJ G n m x rx z rz:=by
 rcases fu h with⟨i,j,rfl,hi,hj,h⟩|⟨i,j,rfl,hi,hj,h⟩
 ·cases i with
  | zero=>rw[zF h]at ha;cases ha
  | succ i =>
   @p,hp,_,⟨_,ht,ea⟩|⟨r',hr',el,ea⟩:=fJ h
   ·rw[ea]at ha
    cases ha;@rx,e:=Option.isSome_iff_exists.mp ht;§rx,by rw[qF ~ ~];#e,.t0 ~ hj
   ·rw[ea]at ha
    cases ha;§r',by rw[oK ~ ~];#hr',.s0 ~ hj hp el
 ·cases j with
  | zero=>cases h
  | succ j =>
   @p,hp,_,⟨_,ht,ea⟩|⟨r',hr',el,ea⟩:=fJ h
   ·rw[ea]at ha
    cases ha;@rx,e:=Option.isSome_iff_exists.mp ht;§rx,by rw[oK ~ ~];#e,.t1 hi ~
   ·rw[ea]at ha
    cases ha;§r',by rw[qF ~ ~];#hr',.s1 hi ~ hp el
¤yY(gg:GGk G){x:Dor}{r:Rv}(h:RR wy G F n m x=some r):OkR r:=by
 rcases fu h with⟨i,j,_,_,_,h⟩|⟨i,j,_,_,_,h⟩
 ·#kH gg i j r h
 ·#sP gg (λj r h=>kH gg i j r h) j r h
end
¦HiK(r:Rv):Prop:=r.hi=(0,0,0,1)\/HN r.hi
¤BN{wy:Str}{G:GF}{F:Int->Int->Bool}{n m:Nat}(gg:GGk G){x:Dor}{r:Rv}(h:RR wy G F n m x=some r):HiK r:=by
 !bg:∀{j:Nat} {r:Rv},bgR wy G F m j=some r->HiK r:=λ{j r} h=>by
  unfold bgR at h
  split at h
  ·split at h
   ·cases h
    #.inl rfl
   ·cases h
  ·split at h
   ·@p,hp,rfl:=Option.map_eq_some_iff.mp h
    #.inr (bR (gg _ _ _ _ _ hp)).2
   ·cases h
 !ps:∀{k i j:Int} {st tu:Option Rv} {sd td:Dor} {r:Rv},pas (G k i j) st tu sd td=some r->HiK r:=λh=>by
  @p,hp,e,_:=fJ h;#.inr (by rw[e];#(bR (gg _ _ _ _ _ hp)).2)
 rcases fu h with⟨i,j,_,_,_,h⟩|⟨i,j,_,_,_,h⟩
 ·cases i with
  | zero=>#bg h
  | succ i=>#ps h
 ·cases j with
  | zero=>cases h
  | succ j=>#ps h
¤Cd{r:Rv}{t u t' u':Int}(hk:HiK r)(f:Ft r t u)(h':(0<=t'/\t'<=u')/\0<u')(g:¬ro4 (t',0,0,u') r.hi<=0):t*u'<=t'*u:=by
 !nn:∀z:Int,0<=z*z:=λz=>(Int.le_total 0 z).elim (λh=>Int.mul_nonneg h h) λh=>Int.mul_nonneg_of_nonpos_of_nonpos h h;@⟨_,f2⟩,⟨t0,tu⟩,lw:=f;!hu:=lw.pos;!g:¬gtB r.hi t' u'<=0:=g;rcases hk with e|e
 ·rw[e,fZ,fi.1]at f2
  !:t<=0:=by
   rcases Int.lt_or_le 0 t with z|z
   ·rw[d6 (show -t<0 by omega)]at f2;~
   ·#z
  obtain rfl:t=0:= ~
  rw[Int.zero_mul];#Int.mul_nonneg h'.1.1 ~
 ·generalize r.hi=mm at *
  cases e with
  | e =>
   rw[fZ,fi.2]at g;!:=(nN (x:=u' - t')).1.mpr ~;~
  | @n P U L hL hU _ _ =>
   !f2:=(rh hU hu).mp f2;!g2:=mt (rh (P:=P) (L:=L) (t:=t') hU h'.2).mpr ~;rw[Classical.not_not]at g2;@y0,yy:=g2;refine Classical.byContradiction λz=>f2 ?_;!z:t'*u<t*u':= ~
   !e1:(P*u - t*L)*u'=(P*u' - t'*L)*u - L*(t*u' - t'*u):=by grind
   !lz:=Int.mul_pos hL (show 0<t*u' - t'*u by omega);!yu:=Int.mul_neg_of_neg_of_pos y0 hu;!hy:P*u - t*L<0:=by
    rcases Int.lt_or_le (P*u - t*L) 0 with w|w
    ·#w
    ·!:=Int.mul_nonneg w (Int.le_of_lt h'.2)
     ~
   ?hy;!s1:=dO (show 0<=-((P*u' - t'*L)*u) by omega) (show -((P*u' - t'*L)*u) < -((P*u - t*L)*u') by omega);!s2:=Int.mul_lt_mul_of_pos_left yy (Int.mul_pos hu hu);!e2:-((P*u' - t'*L)*u) * -((P*u' - t'*L)*u)=u*u*((P*u' - t'*L)*(P*u' - t'*L)):=by grind
   !e3:-((P*u - t*L)*u') * -((P*u - t*L)*u')=u'*u'*((P*u - t*L)*(P*u - t*L)):=by grind
   !e4:u*u*(u'*u'*U)=u'*u'*(u*u*U):=by grind
   rw[e2,e3]at s1;rw[e4]at s2;#Int.lt_of_mul_lt_mul_left (Int.lt_trans s2 s1) (nn u')
¦Nxt(n m:Nat)(e e':Dor×Int×Int):Prop:=∃i j:Nat,i<n/\j<m/\((e'.1=(0,((i+1:Nat):Int),(j:Int))/\((e.1=(0,(i:Int),(j:Int))/\e.2.1*e'.2.2<=e'.2.1*e.2.2)\/e.1=(1,(i:Int),(j:Int))))\/(e'.1=(1,(i:Int),((j+1:Nat):Int))/\((e.1=(1,(i:Int),(j:Int))/\e.2.1*e'.2.2<=e'.2.1*e.2.2)\/e.1=(0,(i:Int),(j:Int)))))
structure BkW(R:RF)(n m:Nat)(x:Dor)(l:List (Dor×Int×Int)):Prop where
 hd:∃a b,l[0]? = some (x,a,b)
 fit:∀e∈l,∃r,R e.1=some r/\Ft r e.2.1 e.2.2
 nxt:∀(k:Nat) e e',l[k]? = some e'->l[k+1]? = some e->Nxt n m e e'
 last:∃e r,l[l.length - 1]? = some e/\R e.1=some r/\r.ah=none
¤Dg{wy:Str}{G:GF}{F:Int->Int->Bool}{n m:Nat}(gg:GGk G){bh:Option (Dor×Int×Int)}{x:Dor}{l:List (Dor×Int×Int)}(h:Bk (RR wy G F n m) bh x l)(hb:∀z,bh=some z->∃rz,RR wy G F n m z.1=some rz/\rz.ah=some x/\Ft rz z.2.1 z.2.2):BkW (RR wy G F n m) n m x l/\∀z,bh=some z->∀e,l[0]? = some e->Nxt n m e z:=by
 !key:∀{bh:Option (Dor×Int×Int)} {x:Dor} {r:Rv} {a b:Int},RR wy G F n m x=some r->nV bh x r a b->(∀z,bh=some z->∃rz,RR wy G F n m z.1=some rz/\rz.ah=some x/\Ft rz z.2.1 z.2.2)->Ft r a b/\∀z,bh=some z->Nxt n m (x,a,b) z:=by
  intro bh x r a b hr pk hz;!ok:=yY gg hr;cases bh with
  | none=>§zy ok pk,λz e=>(nomatch e)
  | some z =>
   @rz,e1,e2,fz:=hz z rfl;@rx,e3,rc:=xH e1 e2;rw[hr]at e3;cases e3;!zu:=fz.2.2.pos;!okz:=yY gg e1;!lo_of:∀{p:N4×N4} {k i j:Int},G k i j=some p->rz.lo=mxN p.1 r.lo->ltB r.lo z.2.1 z.2.2<1:=λ{p k i j} g el=>by
    !lp:=(bR (gg _ _ _ _ _ g)).1;!lr:GK r.lo:=ok.2.elim (λe=>by rw[e];#.b) λe=>e.1;!:=fz.1.1;rw[el]at this;#(zj lp lr fz.2.1.1 zu this).2
   !fit:Ft r a b/\(z.1.1=x.1->a*z.2.2<=z.2.1*b):=by
    unfold nV at pk;dsimp only at pk
    split at pk
    ·rename_i c
     @rfl,rfl:=pk;¶⟨⟨?_,Int.lt_of_le_of_lt (show gtB r.hi z.2.1 z.2.2<=0 from c.2) &⟩,fz.2⟩,λ_=>Int.le_refl _;generalize hzz:z.1=zd at *;cases rc with
     | s0 _ _ g el=>#lo_of g el
     | t0 _ _=>#absurd c.1 (show ¬(0:Int)=1 by decide)
     | s1 _ _ g el=>#lo_of g el
     | t1 _ _=>#absurd c.1 (show ¬(1:Int)=0 by decide)
    ·rename_i c
     !f:=zy ok pk;¶f,λe=>Cd (BN gg hr) f ⟨fz.2.1,zu⟩ λw=>c ⟨e,w⟩
   ¶fit.1,λz' ez=>?_;cases ez;!f2:=fit.2;unfold Nxt;generalize z.1=zd at *;cases rc with
   | @s0 i j _ _ _ hi hj _ _=>§i,j,hi,hj,.inl ⟨rfl,.inl ⟨rfl,f2 rfl⟩⟩
   | @t0 i j _ _ hi hj=>§i,j,hi,hj,.inl ⟨rfl,.inr rfl⟩
   | @s1 i j _ _ _ hi hj _ _=>§i,j,hi,hj,.inr ⟨rfl,.inl ⟨rfl,f2 rfl⟩⟩
   | @t1 i j _ _ hi hj=>§i,j,hi,hj,.inr ⟨rfl,.inr rfl⟩
 induction h with
 | @last bh x r a b h e p =>
  @f,nx:=key h p hb;¶⟨⟨a,b,rfl⟩,λe he=>?_,λk e e' h1 h2=>?_,⟨_,r,rfl,h,e⟩⟩,λz hz e he=>?_
  ·rw[List.mem_singleton.mp he]
   §r,h,f
  ·simp at h2
  ·cases he
   #nx z hz
 | @more bh x y r a b l h e p t ih =>
  @f,nx:=key h p hb;@w,nz:=ih λz hz=>by
   cases hz;§r,h,e,f
  @a',b',h0:=w.hd;!l0:=(List.getElem?_eq_some_iff.mp h0).1;¶⟨⟨a,b,rfl⟩,λe he=>?_,λk e e' h1 h2=>?_,?_⟩,λz hz e he=>?_
  ·rcases List.mem_cons.mp he with rfl|he
   ·§r,h,f
   ·#w.fit e he
  ·cases k with
   | zero =>
    cases h1;#nz _ rfl e h2
   | succ k=>#w.nxt k e e' h1 h2
  ·@e,r',h1,h2:=w.last
   ¶e,r',?_,h2;rw[List.length_cons,show l.length+1 - 1=(l.length - 1)+1 by omega,List.getElem?_cons_succ];#h1
  ·cases he
   #nx z hz
structure JL(q:Pr)(x y:Int):Prop where
 hb:0<q.b
 hd:0<q.d
 x1:x*q.b<=q.a
 x2:q.a<=(x+1)*q.b
 y1:y*q.d<=q.c
 y2:q.c<=(y+1)*q.d
¦apP(qs rs:Crn)(q:Pr):Int:=d7 (ptX qs q.a q.b) (ptY qs q.a q.b) q.b (ptX rs q.c q.d) (ptY rs q.c q.d) q.d
¦okP(qs rs:Crn)(a b:Int)(q:Pr):Prop:=apP qs rs q*b<=a*(q.b*q.d*(q.b*q.d))
¦noP(qs rs:Crn)(a b:Int)(q:Pr):Prop:=a*(q.b*q.d*(q.b*q.d))<apP qs rs q*b
¤gA(qs:Crn)(i:Nat):ptX qs (i:Int) 1=(cr qs i).1/\ptY qs (i:Int) 1=(cr qs i).2:=by
 unfold ptX ptY Sp11.numAt;!e:Sp11.side0 qs (i:Int) 1=cr qs i:=by
  unfold Sp11.side0 cr;rw[Int.ediv_one,Int.toNat_natCast]
 rw[e,Int.emod_one];~
¤mS{qs:Crn}{i:Nat}{a b:Int}(h:i+1<qs.length)(hb:0<b)(l1:(i:Int)*b<=a)(l2:a<=((i:Int)+1)*b):ptX qs a b=(cr qs i).1*b+((cr qs (i+1)).1 - (cr qs i).1)*(a - (i:Int)*b)/\ptY qs a b=(cr qs i).2*b+((cr qs (i+1)).2 - (cr qs i).2)*(a - (i:Int)*b):=⟨vB hb h l1 l2,vA hb h l1 l2⟩
¤tR{qs rs:Crn}{i j:Nat}{t u:Int}(hj:j+1<rs.length)(t0:0<=t)(tu:t<=u)(hu:0<u):d7 (ptX qs (i:Int) 1) (ptY qs (i:Int) 1) 1 (ptX rs ((j:Int)*u+t) u) (ptY rs ((j:Int)*u+t) u) u=wth (cr qs i).1 (cr qs i).2 (cr rs j).1 (cr rs j).2 (cr rs (j+1)).1 (cr rs (j+1)).2 t u:=by
 !p:=mS (qs:=rs) (i:=j) (a:=(j:Int)*u+t) hj hu ~ (by rw[Int.add_mul];~);rw[(gA qs i).1,(gA qs i).2,p.1,p.2,show(j:Int)*u+t - (j:Int)*u=t by omega];unfold d7 wth du rAl
 grind
¤nI(X Y b X' Y' b':Int):d7 X Y b X' Y' b'=d7 X' Y' b' X Y b:=by unfold d7;grind
¤tj{qs rs:Crn}{a b:Int}{x:Dor}{i j:Nat}{t u:Int}{p:N4×N4}{q:Pr}(hb:0<b)(ex:x=(0,(i:Int),(j:Int))/\j+1<rs.length\/x=(1,(i:Int),(j:Int))/\i+1<qs.length)(hG:bS qs rs a b 0 x.1 x.2.1 x.2.2=some p)(w:ltB p.1 t u<1/\gtB p.2 t u<1)(t0:0<=t)(tu:t<=u)(hu:0<u)(hd:eN (x,t,u) q):okP qs rs a b q:=by
 !wb:eS (some p) t u=true:=by
  show(decide (ltB p.1 t u<1) && decide (gtB p.2 t u<1))=true;rw[Bool.and_eq_true,decide_eq_true_eq,decide_eq_true_eq];#w
 unfold okP apP;rcases ex with⟨rfl,hj⟩|⟨rfl,hi⟩
 ·rcases hd with⟨_,e1,e2,e3,e4⟩|⟨z,_⟩
  ·dsimp only at e1 e2 e3 e4 hG
   rw[sV]at hG;!gw:=(fP (cx:=(cr qs i).1) (cy:=(cr qs i).2) (bx:=(cr rs j).1) (by_:=(cr rs j).2) (ex:=(cr rs (j+1)).1) (ey:=(cr rs (j+1)).2) (x:=a) hb t0 tu hu).1;rw[hG,wb]at gw;rw[e1,e2,e3,e4,tR hj t0 tu hu,Int.one_mul];#of_decide_eq_true gw.symm
  ·cases z
 ·rcases hd with⟨z,_⟩|⟨_,e1,e2,e3,e4⟩
  ·cases z
  ·dsimp only at e1 e2 e3 e4 hG
   rw[sU]at hG;!gw:=(fP (cx:=(cr rs j).1) (cy:=(cr rs j).2) (bx:=(cr qs i).1) (by_:=(cr qs i).2) (ex:=(cr qs (i+1)).1) (ey:=(cr qs (i+1)).2) (x:=a) hb t0 tu hu).1;rw[hG,wb]at gw;rw[e1,e2,e3,e4,nI,tR hi t0 tu hu,Int.mul_one];#of_decide_eq_true gw.symm
¤xI{wy:Str}{G:GF}{F:Int->Int->Bool}{n m:Nat}(gg:GGk G){x:Dor}{r:Rv}(h:RR wy G F n m x=some r):(wy=wOn/\x=(0,0,0)/\F 0 0=false/\r.hi=(0,0,0,1))\/∃p,G x.1 x.2.1 x.2.2=some p/\∀t u,Ft r t u->ltB p.1 t u<1/\gtB p.2 t u<1:=by
 !ps:∀{k i j:Int} {st tu:Option Rv} {sd td:Dor} {r:Rv},(∀r',st=some r'->OkR r')->pas (G k i j) st tu sd td=some r->∃p,G k i j=some p/\∀t u,Ft r t u->ltB p.1 t u<1/\gtB p.2 t u<1:=λ{k i j st tu sd td r} ok h=>by
  @p,hp,e,d:=fJ h;¶p,hp,λt u f=>⟨?_,by rw[<- e];#f.1.2⟩;rcases d with⟨el,_⟩|⟨r',hr',el,_⟩
  ·rw[<- el];#f.1.1
  ·!f1:=f.1.1
   rw[el]at f1;!lr:GK r'.lo:=(ok r' hr').2.elim (λe=>by rw[e];#.b) λe=>e.1;#(zj (bR (gg _ _ _ _ _ hp)).1 lr f.2.1.1 f.2.2.pos f1).1
 rcases fu h with⟨i,j,rfl,_,hj,h⟩|⟨i,j,rfl,_,_,h⟩
 ·cases i with
  | zero =>
   !h:bgR wy G F m j=some r:=h;unfold bgR at h
   split at h
   ·rename_i c
    split at h
    ·rename_i c2
     cases h;#.inl ⟨c,by rw[c2.1];rfl,c2.2,rfl⟩
    ·cases h
   ·@p,hp,rfl:=Option.map_eq_some_iff.mp h
    #.inr ⟨p,hp,λt u f=>f.1⟩
  | succ i=>#.inr (ps (λr' h'=>kH gg i j r' h') h)
 ·cases j with
  | zero=>cases h
  | succ j=>#.inr (ps (λr' h'=>sP gg (λj r h=>kH gg i j r h) j r' h') h)
¦Mo(q q':Pr):Prop:=q.a*q'.b<=q'.a*q.b/\q.c*q'.d<=q'.c*q.d
¦Bl(n m:Nat)(u v:Pr):Prop:=∃x y:Nat,x<n/\y<m/\JL u x y/\JL v x y/\Mo u v
¤jN{i j x y:Nat}{t u:Int}{q:Pr}(h:eN ((0,(i:Int),(j:Int)),t,u) q)(t0:0<=t)(tu:t<=u)(hu:0<u)(hx:x=i\/x+1=i)(hy:y=j):JL q x y:=by
 rcases h with⟨_,e1,e2,e3,e4⟩|⟨z,_⟩
 ·dsimp only at e1 e2 e3 e4
  subst hy;?~,~,?_,?_,?_
  ·rw[e1,e2];~
  ·rw[e1,e2];~
  ·rw[e3,e4];~
  ·rw[e3,e4,Int.add_mul];~
 ·cases z
¤lC{i j x y:Nat}{t u:Int}{q:Pr}(h:eN ((1,(i:Int),(j:Int)),t,u) q)(t0:0<=t)(tu:t<=u)(hu:0<u)(hx:x=i)(hy:y=j\/y+1=j):JL q x y:=by
 rcases h with⟨z,_⟩|⟨_,e1,e2,e3,e4⟩
 ·cases z
 ·dsimp only at e1 e2 e3 e4
  subst hx;?~,~,?_,?_,?_
  ·rw[e1,e2];~
  ·rw[e1,e2,Int.add_mul];~
  ·rw[e3,e4];~
  ·rw[e3,e4];~
¤vL{n m:Nat}{e e':Dor×Int×Int}{q q':Pr}(h:Nxt n m e e')(f:(0<=e.2.1/\e.2.1<=e.2.2)/\0<e.2.2)(f':(0<=e'.2.1/\e'.2.1<=e'.2.2)/\0<e'.2.2)(d:eN e q)(d':eN e' q'):Bl n m q q':=by
 @x,t,u:=e;@x',t',u':=e';@i,j,hi,hj,h:=h;dsimp only at h f f';rcases h with⟨rfl,⟨rfl,le⟩|rfl⟩|⟨rfl,⟨rfl,le⟩|rfl⟩
 ·?i,j,hi,hj,jN d f.1.1 f.1.2 f.2 (.inl rfl) rfl,jN d' f'.1.1 f'.1.2 f'.2 (.inr rfl) rfl
  rcases d with⟨_,e1,e2,e3,e4⟩|⟨z,_⟩
  ·rcases d' with⟨_,a1,a2,a3,a4⟩|⟨z,_⟩
   ·dsimp only at e1 e2 e3 e4 a1 a2 a3 a4
    unfold Mo;rw[e1,e2,e3,e4,a1,a2,a3,a4];?(~);!:((j:Int)*u+t)*u'=(j:Int)*u*u'+t*u':=Int.add_mul _ _ _;!:((j:Int)*u'+t')*u=(j:Int)*u*u'+t'*u:=by grind
    ~
   ·cases z
  ·cases z
 ·?i,j,hi,hj,lC d f.1.1 f.1.2 f.2 rfl (.inl rfl),jN d' f'.1.1 f'.1.2 f'.2 (.inr rfl) rfl
  rcases d with⟨z,_⟩|⟨_,e1,e2,e3,e4⟩
  ·cases z
  ·rcases d' with⟨_,a1,a2,a3,a4⟩|⟨z,_⟩
   ·dsimp only at e1 e2 e3 e4 a1 a2 a3 a4
    unfold Mo;rw[e1,e2,e3,e4,a1,a2,a3,a4];¶?_,(~);!:((i+1:Nat):Int)*u=(i:Int)*u+u:=by rw[show((i+1:Nat):Int)=(i:Int)+1 by omega,Int.add_mul,Int.one_mul]
    ~
   ·cases z
 ·?i,j,hi,hj,lC d f.1.1 f.1.2 f.2 rfl (.inl rfl),lC d' f'.1.1 f'.1.2 f'.2 rfl (.inr rfl)
  rcases d with⟨z,_⟩|⟨_,e1,e2,e3,e4⟩
  ·cases z
  ·rcases d' with⟨z,_⟩|⟨_,a1,a2,a3,a4⟩
   ·cases z
   ·dsimp only at e1 e2 e3 e4 a1 a2 a3 a4
    unfold Mo;rw[e1,e2,e3,e4,a1,a2,a3,a4];¶?_,(~);!:((i:Int)*u+t)*u'=(i:Int)*u*u'+t*u':=Int.add_mul _ _ _;!:((i:Int)*u'+t')*u=(i:Int)*u*u'+t'*u:=by grind
    ~
 ·?i,j,hi,hj,jN d f.1.1 f.1.2 f.2 (.inl rfl) rfl,lC d' f'.1.1 f'.1.2 f'.2 rfl (.inr rfl)
  rcases d with⟨_,e1,e2,e3,e4⟩|⟨z,_⟩
  ·rcases d' with⟨z,_⟩|⟨_,a1,a2,a3,a4⟩
   ·cases z
   ·dsimp only at e1 e2 e3 e4 a1 a2 a3 a4
    unfold Mo;rw[e1,e2,e3,e4,a1,a2,a3,a4];?(~);!:((j+1:Nat):Int)*u=(j:Int)*u+u:=by rw[show((j+1:Nat):Int)=(j:Int)+1 by omega,Int.add_mul,Int.one_mul]
    ~
  ·cases z
structure WkF(n m:Nat)(on:Prop)(ok:Pr->Prop)(ps:List Pr):Prop where
 len:2<=ps.length/\ps.length<=100
 cell:∀(k:Nat) u v,ps[k]? = some u->ps[k+1]? = some v->Bl n m u v
 ok:∀q∈ps,ok q/\EG q.a q.b/\EG q.c q.d
 hd:∃q,ps[0]? = some q/\(q.a=0/\q.b=1)/\(on->q.c=0/\q.d=1)
 lst:∃q,ps[ps.length - 1]? = some q/\(q.a=(n:Int)/\q.b=1)/\(on->q.c=(m:Int)/\q.d=1)
¤oX{wy:Str}{G:GF}{F:Int->Int->Bool}{n m:Nat}{x:Dor}{r:Rv}(h:RR wy G F n m x=some r)(ha:r.ah=none):∃j:Nat,x=(0,((0:Nat):Int),(j:Int)):=by
 rcases fu h with⟨i,j,rfl,_,_,h⟩|⟨i,j,rfl,_,_,h⟩
 ·cases i with
  | zero=>§j,rfl
  | succ i =>
   @p,_,_,⟨_,_,e⟩|⟨_,_,_,e⟩:=fJ h
   ·rw[e]at ha;cases ha
   ·rw[e]at ha;cases ha
 ·cases j with
  | zero=>cases h
  | succ j =>
   @p,_,_,⟨_,_,e⟩|⟨_,_,_,e⟩:=fJ h
   ·rw[e]at ha;cases ha
   ·rw[e]at ha;cases ha
¤BM{G:GF}{F:Int->Int->Bool}{n m j:Nat}{r:Rv}(h:RR wOn G F n m (0,((0:Nat):Int),(j:Int))=some r):j=0/\F 0 0=false/\r.hi=(0,0,0,1):=by
 rcases fu h with⟨i',j',ex,_,_,h⟩|⟨i',j',ex,_⟩
 ·!e1:((0:Nat):Int)=(i':Int):=congrArg (λ(d:Dor)=>d.2.1) ex
  !e2:(j:Int)=(j':Int):=congrArg (λ(d:Dor)=>d.2.2) ex;obtain rfl:i'=0:= ~
  obtain rfl:j=j':= ~
  !h:bgR wOn G F m j=some r:=h;unfold bgR at h;rw[if_pos rfl]at h
  split at h
  ·rename_i c
   cases h;§c.1,c.2,rfl
  ·cases h
 ·#absurd (congrArg (λ(d:Dor)=>d.1) ex) (show ¬(0:Int)=1 by decide)
¤h8(i:Int):EG i 1:=⟨&,Int.gcd_one_right _⟩
¤sM{j t u:Int}(h:EG t u):EG (j*u+t) u:=⟨h.pos,by
 rw[Int.add_comm,Int.gcd_add_mul_right_left];#h.one⟩
¤gL{x:Dor}{t u:Int}{q:Pr}(h:EG t u)(d:eN (x,t,u) q):EG q.a q.b/\EG q.c q.d:=by
 rcases d with⟨_,e1,e2,e3,e4⟩|⟨_,e1,e2,e3,e4⟩
 ·rw[e1,e2,e3,e4];§h8 _,sM h
 ·rw[e1,e2,e3,e4];§sM h,h8 _
¤ze{qs rs:Crn}{a b:Int}{i j:Nat}{q:Pr}(hi:i<qs.length)(hj:j<rs.length)(f:fk qs rs a b 0 i j=false)(e:q.a=(i:Int)/\q.b=1/\q.c=(j:Int)/\q.d=1):okP qs rs a b q:=by
 !h:¬a<sqI (cr qs i) (cr rs j)*b:=λz=>by
  rw[(rD hi hj).mpr z]at f;cases f
 unfold okP apP;rw[e.1,e.2.1,e.2.2.1,e.2.2.2,(gA qs i).1,(gA qs i).2,(gA rs j).1,(gA rs j).2];!:d7 (cr qs i).1 (cr qs i).2 1 (cr rs j).1 (cr rs j).2 1=sqI (cr qs i) (cr rs j):=by
  unfold d7 sqI;rw[Int.mul_one,Int.mul_one,Int.mul_one,Int.mul_one]
 rw[this];~
¤Bm{qs rs:Crn}{a b:Int}{wy:Str}{n m:Nat}{ps:List Pr}(hb:0<b)(hn:1<=n)(hm:1<=m)(en:qs.length=n+1)(em:rs.length=m+1)(h:yH wy n m (bS qs rs a b 0) (fk qs rs a b 0) ps):WkF n m (wy=wOn) (okP qs rs a b) ps:=by
 !gg:GGk (bS qs rs a b 0):=fj (.inl rfl) hb;@x,l,ps0,hx,bk,hl,pr,h:=h;@w,_:=Dg gg bk λz e=>(nomatch e)
 @xa,xb,h0:=w.hd;!l0:=(List.getElem?_eq_some_iff.mp h0).1;!pl:=Paired.length pr;rw[List.length_reverse]at pl;@hx1,_:=List.mem_filter.mp (List.mem_of_getElem? hx);!at_:∀(k:Nat) q,ps0[k]? = some q->∃e,k<l.length/\l[l.length - 1 - k]? = some e/\eN e q:=λk q hq=>by
  @e,he,d:=bo pr k q hq;!lk:=(List.getElem?_eq_some_iff.mp he).1;rw[List.length_reverse]at lk;rw[List.getElem?_reverse lk]at he;§e,lk,he,d
 !fx:∀e∈l,((0<=e.2.1/\e.2.1<=e.2.2)/\0<e.2.2)/\EG e.2.1 e.2.2:=λe he=>by
  @r,_,f:=w.fit e he;§⟨f.2.1,f.2.2.pos⟩,f.2.2
 !cl:∀(k:Nat) u v,ps0[k]? = some u->ps0[k+1]? = some v->Bl n m u v:=λk u v hu hv=>by
  @e,lk,he,d:=at_ k u hu;@e',lk',he',d':=at_ (k+1) v hv;!nx:=w.nxt (l.length - 1 - (k+1)) e e' he' (by rw[show l.length - 1 - (k+1)+1=l.length - 1 - k by omega];#he);#vL nx (fx e (List.mem_of_getElem? he)).1 (fx e' (List.mem_of_getElem? he')).1 d d'
 !hd:∃q,ps0[0]? = some q/\(q.a=0/\q.b=1)/\(wy=wOn->q.c=0/\q.d=1):=by
  @e,r,he,hr,ha:=w.last;obtain⟨q,hq⟩:∃q,ps0[0]? = some q:=⟨ps0[0]'~,List.getElem?_eq_getElem _⟩;@e',_,he',d:=at_ 0 q hq;rw[Nat.sub_zero,he]at he';cases he';@j,ej:=oX hr ha;@y,t,u:=e;dsimp only at hr ej;subst ej;@r',hr',f:=w.fit _ (List.mem_of_getElem? he);dsimp only at hr' f;rw[hr]at hr';cases hr';rcases d with⟨_,e1,e2,e3,e4⟩|⟨z,_⟩
  ·¶q,hq,⟨e1,e2⟩,λon=>?_
   subst on;@rfl,_,eh:=BM hr;!f2:=f.1.2;rw[eh,fZ,fi.1]at f2;!t0:t=0:=by
    rcases Int.lt_or_le 0 t with z|z
    ·rw[d6 (show -t<0 by omega)]at f2;~
    ·!:=f.2.1.1;~
   !u1:u=1:=by
    !o:=f.2.2.one;!:=f.2.2.pos;rw[t0,Int.gcd_zero_left]at o;~
   dsimp only at e3 e4;rw[e3,e4,t0,u1];§rfl,rfl
  ·cases z
 !okd:∀q∈ps0,okP qs rs a b q/\EG q.a q.b/\EG q.c q.d:=λq hq=>by
  @k,hk:=List.mem_iff_getElem?.mp hq;@⟨y,t,u⟩,_,he,d:=at_ k q hk;!me:=List.mem_of_getElem? he;@r,hr,f:=w.fit _ me;dsimp only at hr f;¶?_,gL f.2.2 d;rcases xI gg hr with⟨_,rfl,ff,eh⟩|⟨p,hp,fp⟩
  ·!f2:=f.1.2
   rw[eh,fZ,fi.1]at f2;!t0:t=0:=by
    rcases Int.lt_or_le 0 t with z|z
    ·rw[d6 (show -t<0 by omega)]at f2;~
    ·!:=f.2.1.1;~
   !u1:u=1:=by
    !o:=f.2.2.one;!:=f.2.2.pos;rw[t0,Int.gcd_zero_left]at o;~
   subst t0;subst u1;rcases d with⟨_,e1,e2,e3,e4⟩|⟨z,_⟩
   ·#ze (i:=0) (j:=0) ~ ~ ff ⟨e1,e2,e3,e4⟩
   ·cases z
  ·rcases fu hr with⟨i,j,rfl,hi,hj,_⟩|⟨i,j,rfl,hi,hj,_⟩
   ·#tj hb (.inl ⟨rfl,~⟩) hp (fp t u f) f.2.1.1 f.2.1.2 f.2.2.pos d
   ·#tj hb (.inr ⟨rfl,~⟩) hp (fp t u f) f.2.1.1 f.2.1.2 f.2.2.pos d
 !lq:∃q,ps0[ps0.length - 1]? = some q/\eN (x,xa,xb) q:=by
  obtain⟨q,hq⟩:∃q,ps0[ps0.length - 1]? = some q:=⟨ps0[ps0.length - 1]'~,List.getElem?_eq_getElem _⟩;@e,_,he,d:=at_ _ q hq;rw[show l.length - 1 - (ps0.length - 1)=0 by omega,h0]at he;cases he;§q,hq,d
 @lq,hlq,dl:=lq;!xf:=(fx _ (List.mem_of_getElem? h0)).1;dsimp only at xf;rcases h with⟨on,ff,q,rfl,e1,e2,e3,e4⟩|⟨pt,rfl⟩
 ·!e1:q.a=(n:Int):=e1
  !e3:q.c=(m:Int):=e3;!iq:JL q ((n - 1:Nat):Int) ((m - 1:Nat):Int):=⟨~,~,by rw[e1,e2];~,by rw[e1,e2];~,by rw[e3,e4];~,by rw[e3,e4];~⟩;!il:JL lq ((n - 1:Nat):Int) ((m - 1:Nat):Int):=by
   unfold jA at hx1;rw[if_pos on]at hx1;!c1:(n:Int) - 1=((n - 1:Nat):Int):= ~
   !c2:(m:Int) - 1=((m - 1:Nat):Int):= ~
   rw[c1,c2]at hx1;simp only[List.mem_cons,List.not_mem_nil,or_false]at hx1;rcases hx1 with rfl|rfl
   ·#jN dl xf.1.1 xf.1.2 xf.2 (.inl rfl) rfl
   ·#lC dl xf.1.1 xf.1.2 xf.2 rfl (.inl rfl)
  !ln:(ps0++[q]).length=ps0.length+1:=List.length_append;¶⟨~,~⟩,λk u v hu hv=>?_,λq' hq'=>?_,?_,⟨q,?_,⟨e1,e2⟩,λ_=>⟨e3,e4⟩⟩
  ·!lk:=(List.getElem?_eq_some_iff.mp hv).1
   rcases Nat.lt_or_ge (k+1) ps0.length with z|z
   ·rw[List.getElem?_append_left ~]at hu hv
    #cl k u v hu hv
   ·rw[List.getElem?_append_left ~,show k=ps0.length - 1 by omega,hlq]at hu
    cases hu;rw[List.getElem?_append_right ~,show k+1 - ps0.length=0 by omega]at hv;cases hv;?n - 1,m - 1,~,~,il,iq;!x2:=il.x2;!y2:=il.y2;unfold Mo;rw[e1,e2,e3,e4];rw[show((n - 1:Nat):Int)+1=n by omega]at x2;rw[show((m - 1:Nat):Int)+1=m by omega]at y2;~
  ·rcases List.mem_append.mp hq' with hq'|hq'
   ·#okd q' hq'
   ·rw[List.mem_singleton.mp hq']
    ?ze (i:=n) (j:=m) ~ ~ ff ⟨e1,e2,e3,e4⟩;rw[e2,e4];§h8 _,h8 _
  ·@q0,hq0,r:=hd
   §q0,by rw[List.getElem?_append_left ~];#hq0,r
  ·rw[ln,Nat.add_sub_cancel,List.getElem?_append_right (Nat.le_refl _),Nat.sub_self]
   rfl
 ·unfold jA at hx1
  rw[if_neg (λz=>dY (z.symm.trans pt))]at hx1;@j,hj,rfl:=List.mem_map.mp hx1;!l2:2<=l.length:=by
   rcases Nat.lt_or_ge 1 l.length with z|z
   ·~
   ·exfalso
    @e,r,he,hr,ha:=w.last;rw[show l.length - 1=0 by omega,h0]at he;cases he;@j',ej:=oX hr ha;!:(n:Int)=((0:Nat):Int):=congrArg (λ(d:Dor)=>d.2.1) ej;~
  ¶⟨~,~⟩,cl,okd,hd,⟨lq,hlq,?_,λz=>absurd (z.symm.trans pt) dY⟩;rcases dl with⟨_,e1,e2,_⟩|⟨z,_⟩
  ·§e1,e2
  ·cases z
¤yX{X Y b Z W d X' Y' b' Z' W' d':Int}(hx:X*b'=X'*b)(hy:Y*b'=Y'*b)(hz:Z*d'=Z'*d)(hw:W*d'=W'*d):d7 X Y b Z W d*(b'*d'*(b'*d'))=d7 X' Y' b' Z' W' d'*(b*d*(b*d)):=by
 !e1:(X*d - Z*b)*(b'*d')=(X'*d' - Z'*b')*(b*d):=by grind
 !e2:(Y*d - W*b)*(b'*d')=(Y'*d' - W'*b')*(b*d):=by grind
 unfold d7;generalize X*d - Z*b=u at *;generalize Y*d - W*b=v at *;generalize X'*d' - Z'*b'=u' at *;generalize Y'*d' - W'*b'=v' at *;!f1:(u*u+v*v)*(b'*d'*(b'*d'))=(u*(b'*d'))*(u*(b'*d'))+(v*(b'*d'))*(v*(b'*d')):=by grind
 !f2:(u'*u'+v'*v')*(b*d*(b*d))=(u'*(b*d))*(u'*(b*d))+(v'*(b*d))*(v'*(b*d)):=by grind
 rw[f1,f2,e1,e2]
¤BK{S T p q A B:Int}(hp:0<p)(e:S*q=T*p)(hq:0<q)(h:S*B<=A*p):T*B<=A*q:=by
 !h1:=Int.mul_le_mul_of_nonneg_right h (show 0<=q by omega);!h2:S*B*q=T*B*p:=by rw[Int.mul_assoc,Int.mul_comm B q,<- Int.mul_assoc,e,Int.mul_assoc,Int.mul_comm p B,<- Int.mul_assoc]
 !h3:A*p*q=A*q*p:=by rw[Int.mul_assoc,Int.mul_comm p q,<- Int.mul_assoc]
 rw[h2,h3]at h1;#Int.le_of_mul_le_mul_right h1 hp
¤BJ{S T p q A B:Int}(hp:0<p)(e:S*q=T*p)(hq:0<q)(h:A*p<S*B):A*q<T*B:=by
 !h1:=Int.mul_lt_mul_of_pos_right h hq;!h2:S*B*q=T*B*p:=by rw[Int.mul_assoc,Int.mul_comm B q,<- Int.mul_assoc,e,Int.mul_assoc,Int.mul_comm p B,<- Int.mul_assoc]
 !h3:A*p*q=A*q*p:=by rw[Int.mul_assoc,Int.mul_comm p q,<- Int.mul_assoc]
 rw[h2,h3]at h1;#Int.lt_of_mul_lt_mul_right h1 ~
¤oI{b d:Int}(hb:0<b)(hd:0<d):0<b*d*(b*d):=Int.mul_pos (Int.mul_pos hb hd) (Int.mul_pos hb hd)
¤sF{qs:Crn}{x:Nat}{a b a' b':Int}(h1:1<=qs.length)(hx:x<cI qs)(hb:0<b)(l1:(x:Int)*b<=a)(l2:a<=((x:Int)+1)*b)(o:onB (decide (qs.length=1)) a b a' b'):0<b'/\ptX (dbl qs) a b*b'=ptX qs a' b'*b/\ptY (dbl qs) a b*b'=ptY qs a' b'*b:=by
 by_cases h:qs.length=1
 ·rw[decide_eq_true h]at o
  obtain⟨rfl,rfl⟩:a'=0/\b'=1:=o;@c,rfl:=eX h;!x0:x=0:=by !:x<1:=hx;~
  subst x0;!p:=mS (qs:=[c,c]) (i:=0) (by show 0+1<2;~) hb l1 l2;!z:=gA [c] 0;rw[Cs,p.1,p.2];!z1:ptX [c] 0 1=c.2.1:=z.1;!z2:ptY [c] 0 1=c.2.2:=z.2;rw[z1,z2,show cr [c,c] 0=c.2 from rfl,show cr [c,c] (0+1)=c.2 from rfl,Int.sub_self,Int.sub_self,Int.zero_mul,Int.add_zero,Int.add_zero,Int.mul_one,Int.mul_one];§&,rfl,rfl
 ·rw[decide_eq_false h]at o
  obtain⟨rfl,rfl⟩:a'=a/\b'=b:=o;rw[(lR ~).1];§hb,rfl,rfl
¤sG{qs:Crn}{x:Nat}{a b a' b':Int}(h1:1<=qs.length)(hx:x<cI qs)(hb:0<b)(l1:(x:Int)*b<=a)(l2:a<=((x:Int)+1)*b)(o:onB (decide (qs.length=1)) a b a' b'):0<=a'/\a'<=((qs.length:Int) - 1)*b':=by
 by_cases h:qs.length=1
 ·rw[decide_eq_true h]at o
  obtain⟨rfl,rfl⟩:a'=0/\b'=1:=o;~
 ·rw[decide_eq_false h]at o
  obtain⟨rfl,rfl⟩:a'=a/\b'=b:=o;!el:=(lR (qs:=qs) ~).2;!:=Int.mul_le_mul_of_nonneg_right (show(x:Int)+1<=(qs.length:Int) - 1 by omega) (show 0<=b' by omega);!:=Int.mul_nonneg (show 0<=(x:Int) by omega) (show 0<=b' by omega);~
¤oa{o:Bool}{a b a' b':Int}(h:EG a b)(k:onB o a b a' b'):EG a' b':=by
 cases o with
 | true =>
  obtain⟨rfl,rfl⟩:a'=0/\b'=1:=k;#h8 _
 | false =>
  obtain⟨rfl,rfl⟩:a'=a/\b'=b:=k;#h
¦StC(a b c d:Int):Prop:=a*d<=c*b/\∃x:Int,x*b<=a/\c<=(x+1)*d
¤zc{o:Bool}{x a b c d a' b' c' d':Int}(m:a*d<=c*b)(l1:x*b<=a)(l2:c<=(x+1)*d)(o1:onB o a b a' b')(o2:onB o c d c' d'):StC a' b' c' d':=by
 cases o with
 | true =>
  obtain⟨rfl,rfl⟩:a'=0/\b'=1:=o1;obtain⟨rfl,rfl⟩:c'=0/\d'=1:=o2;§&,0,&,(&)
 | false =>
  obtain⟨rfl,rfl⟩:a'=a/\b'=b:=o1;obtain⟨rfl,rfl⟩:c'=c/\d'=d:=o2;§m,x,l1,l2
¤ki{qs:Crn}{a b a' b':Int}(h1:1<=qs.length)(ea:a=((cI qs:Nat):Int))(eb:b=1)(o:onB (decide (qs.length=1)) a b a' b'):a'=(qs.length:Int) - 1/\b'=1:=by
 by_cases h:qs.length=1
 ·rw[decide_eq_true h]at o
  obtain⟨rfl,rfl⟩:a'=0/\b'=1:=o;§~,rfl
 ·rw[decide_eq_false h]at o
  obtain⟨rfl,rfl⟩:a'=a/\b'=b:=o;!:=(lR (qs:=qs) ~).2;§~,eb
¤kh{o1:Bool}{a b a' b':Int}(ea:a=0)(eb:b=1)(o:onB o1 a b a' b'):a'=0/\b'=1:=by
 cases o1 with
 | true=>#o
 | false =>
  obtain⟨rfl,rfl⟩:a'=a/\b'=b:=o;§ea,eb
structure KM(qs rs:Crn)(a b:Int)(on:Prop)(ps:List Pr):Prop where
 len:2<=ps.length/\ps.length<=100
 rg:∀q∈ps,(0<=q.a/\q.a<=((qs.length:Int) - 1)*q.b)/\0<=q.c/\q.c<=((rs.length:Int) - 1)*q.d
 low:∀q∈ps,EG q.a q.b/\EG q.c q.d
 hd:∃q,ps[0]? = some q/\(q.a=0/\q.b=1)/\(on->q.c=0/\q.d=1)
 lst:∃q,ps[ps.length - 1]? = some q/\(q.a=(qs.length:Int) - 1/\q.b=1)/\(on->q.c=(rs.length:Int) - 1/\q.d=1)
 st:∀(k:Nat) u v,ps[k]? = some u->ps[k+1]? = some v->StC u.a u.b v.a v.b/\StC u.c u.d v.c v.d
 sq:∀q∈ps,okP qs rs a b q
¤wm{wy:Str}{qs rs:Crn}{a b:Int}{ps':List Pr}(hb:0<b)(hq:1<=qs.length/\qs.length<=10)(hr:1<=rs.length/\rs.length<=10)(h:GoP wy qs rs a b true ps'):KM qs rs a b (wy=wOn) ps':=by
 @ps,pr,h:=h;@d1,n1,n9:=eZ hq;@d2,m1,m9:=eZ hr;!W:=Bm hb n1 m1 d1 d2 h;!pl:=Paired.length pr;!wl:=W.len;!inc:∀(i:Nat) q,ps[i]? = some q->∃x y:Nat,x<cI qs/\y<cI rs/\JL q x y:=λi q hi=>by
  !li:=(List.getElem?_eq_some_iff.mp hi).1;rcases Nat.lt_or_ge (i+1) ps.length with z|z
  ·@x,y,hx,hy,i1,_:=W.cell i q _ hi (List.getElem?_eq_getElem z)
   §x,y,hx,hy,i1
  ·@x,y,hx,hy,_,i2,_:=W.cell (i - 1) _ q (List.getElem?_eq_getElem ~) (by rw[show i - 1+1=i by omega];#hi)
   §x,y,hx,hy,i2
 ¶~,λq hq'=>?_,λq hq'=>?_,?_,?_,λi u v hu hv=>?_,λq hq'=>?_
 ·@i,hi:=List.mem_iff_getElem?.mp hq'
  @q0,h0,o1,o2:=bo pr i q hi;@x,y,hx,hy,ic:=inc i q0 h0;§sG hq.1 hx ic.hb ic.x1 ic.x2 o1,sG hr.1 hy ic.hd ic.y1 ic.y2 o2
 ·@i,hi:=List.mem_iff_getElem?.mp hq'
  @q0,h0,o1,o2:=bo pr i q hi;!k:=(W.ok q0 (List.mem_of_getElem? h0)).2;§oa k.1 o1,oa k.2 o2
 ·@q0,h0,c,c':=W.hd
  @q,hq',o1,o2:=fh pr 0 q0 h0;§q,hq',kh c.1 c.2 o1,λz=>kh (c' z).1 (c' z).2 o2
 ·@q0,h0,c,c':=W.lst
  @q,hq',o1,o2:=fh pr _ q0 h0;§q,by rw[<- pl];#hq',ki hq.1 c.1 c.2 o1,λz=>ki hr.1 (c' z).1 (c' z).2 o2
 ·@u0,hu0,o1,o2:=bo pr i u hu
  @v0,hv0,p1,p2:=bo pr (i+1) v hv;@x,y,_,_,i1,i2,m1,m2:=W.cell i u0 v0 hu0 hv0;§zc m1 i1.x1 i2.x2 o1 p1,zc m2 i1.y1 i2.y2 o2 p2
 ·@i,hi:=List.mem_iff_getElem?.mp hq'
  @q0,h0,o1,o2:=bo pr i q hi;@x,y,hx,hy,ic:=inc i q0 h0;@b1,x1,y1:=sF hq.1 hx ic.hb ic.x1 ic.x2 o1;@b2,x2,y2:=sF hr.1 hy ic.hd ic.y1 ic.y2 o2;#BK (oI ic.hb ic.hd) (yX x1 y1 x2 y2) (oI b1 b2) (W.ok q0 (List.mem_of_getElem? h0)).1
¤zr{h:N4}(hh:HN h){t u s w:Int}(hu:0<u)(hw:0<w)(sw:s<=w)(k:0<gtB h t u)(le:t*w<=s*u):0<gtB h s w:=by
 !nn:∀z:Int,0<=z*z:=λz=>(Int.le_total 0 z).elim (λh=>Int.mul_nonneg h h) λh=>Int.mul_nonneg_of_nonpos_of_nonpos h h;cases hh with
 | e =>
  rw[fZ,fi.2]at k ⊢;!:u - t<0:=by
   rcases Int.lt_or_le (u - t) 0 with z|z
   ·#z
   ·!:=(nN (x:=u - t)).1.mpr z;~
  !:=Int.mul_lt_mul_of_pos_right (show u<t by omega) hw;!:=Int.mul_le_mul_of_nonneg_right sw (show 0<=u by omega);!:u*w=w*u:=Int.mul_comm _ _;~
 | @n P U L hL hU _ _ =>
  !k:=mt (rh (P:=P) (L:=L) (t:=t) hU hu).mpr ~;rw[Classical.not_not]at k;@y0,yy:=k;refine Classical.byContradiction λz=>(rh (P:=P) (L:=L) (t:=s) hU hw).mp ~ ?_;!e1:(P*w - s*L)*u=(P*u - t*L)*w - L*(s*u - t*w):=by grind
  !lz:=Int.mul_nonneg (Int.le_of_lt hL) (show 0<=s*u - t*w by omega);!yu:=Int.mul_neg_of_neg_of_pos y0 hw;!hy:P*w - s*L<0:=by
   rcases Int.lt_or_le (P*w - s*L) 0 with x|x
   ·#x
   ·!:=Int.mul_nonneg x (Int.le_of_lt hu)
    ~
  ?hy;!s1:=cD (show 0<=-((P*u - t*L)*w) by omega) (show -((P*u - t*L)*w)<=-((P*w - s*L)*u) by omega);!s2:=Int.mul_lt_mul_of_pos_left yy (Int.mul_pos hw hw);!e2:-((P*u - t*L)*w) * -((P*u - t*L)*w)=w*w*((P*u - t*L)*(P*u - t*L)):=by grind
  !e3:-((P*w - s*L)*u) * -((P*w - s*L)*u)=u*u*((P*w - s*L)*(P*w - s*L)):=by grind
  !e4:w*w*(u*u*U)=u*u*(w*w*U):=by grind
  rw[e2,e3]at s1;rw[e4]at s2;#Int.lt_of_mul_lt_mul_left (Int.lt_of_lt_of_le s2 s1) (nn u)
¤zo{l:N4}(hl:GK l){t u s w:Int}(hu:0<u)(hw:0<w)(s0:0<=s)(k:0<ltB l t u)(le:s*u<=t*w):0<ltB l s w:=by
 !nn:∀z:Int,0<=z*z:=λz=>(Int.le_total 0 z).elim (λh=>Int.mul_nonneg h h) λh=>Int.mul_nonneg_of_nonpos_of_nonpos h h;cases hl with
 | b =>
  rw[fi.1]at k ⊢;!:=qK.mp k;!:=Int.mul_neg_of_neg_of_pos (show t<0 by omega) hw;!:=Int.mul_nonneg s0 (Int.le_of_lt hu);~
 | @n P U L hL hU _ _ =>
  @x0,xx:=(um hU hu).mp k;refine(um hU hw).mpr ?_;!e1:(P*w - s*L)*u=(P*u - t*L)*w+L*(t*w - s*u):=by grind
  !lz:=Int.mul_nonneg (Int.le_of_lt hL) (show 0<=t*w - s*u by omega);!yu:=Int.mul_pos x0 hw;!hy:0<P*w - s*L:=by
   rcases Int.lt_or_le 0 (P*w - s*L) with x|x
   ·#x
   ·!:=Int.mul_nonpos_of_nonpos_of_nonneg x (Int.le_of_lt hu)
    ~
  ?hy;!s1:=cD (Int.le_of_lt yu) (show(P*u - t*L)*w<=(P*w - s*L)*u by omega);!s2:=Int.mul_lt_mul_of_pos_left xx (Int.mul_pos hw hw);!e2:(P*u - t*L)*w*((P*u - t*L)*w)=w*w*((P*u - t*L)*(P*u - t*L)):=by grind
  !e3:(P*w - s*L)*u*((P*w - s*L)*u)=u*u*((P*w - s*L)*(P*w - s*L)):=by grind
  !e4:w*w*(u*u*U)=u*u*(w*w*U):=by grind
  rw[e2,e3]at s1;rw[e4]at s2;#Int.lt_of_mul_lt_mul_left (Int.lt_of_lt_of_le s2 s1) (nn u)
¤Ar{l:N4}(h:GK l):ro4 l (1,0,0,1)<=0:=by
 !:ltB l 1 1<1:=BX h;!e:ltB l 1 1=ro4 l (1,0,0,1):=rfl;~
¤AH{h:N4}(k:HN h):ro4 (0,0,0,1) h<=0:=by
 !:gtB h 0 1<1:=Ce k;!e:gtB h 0 1=ro4 (0,0,0,1) h:=rfl;~
¤uV{h l:N4}(hh:HN h)(hl:GK l)(lt:ro4 h l<0){t u:Int}(w:Wi h.1 h.2.1 h.2.2.1 h.2.2.2 l.1 l.2.1 l.2.2.1 l.2.2.2 t u):(0<gtB h t u/\0<ltB l t u)/\(0<=t/\t<=u)/\EG t u:=by
 @_,_,_,_,_,_,_,_,_,fr:=id w;!hu:=fr.low.pos;cases hh with
 | e =>
  !:=Ar hl;!:=fc l (1,0,0,1);~
 | @n P U L hL hU hP hz=>cases hl with
  | b =>
   !:=AH (HN.n hL hU hP hz);!:=fc (0,0,0,1) (P,1,U,L);~
  | @n P' U' L' hL' hU' hP' hz' =>
   dsimp only at w;@m1,m2:=w.mid hU hL hU' hL';¶⟨?_,?_⟩,⟨wD hL hU hu hU' hL' hP w,wE hL' hU' hu hU hL hP' w⟩,fr.low
   ·refine Classical.byContradiction λz=>(rh (P:=P) (L:=L) (t:=t) hU hu).mp ~ ?_
    !:P*u - t*L<0:=by
     rcases Int.lt_or_le (P*u - t*L) 0 with x|x
     ·#x
     ·rw[aU x,aU (show 0<=1*u by omega)]at m1
      !:=Int.mul_nonneg x x;!:=Int.mul_nonneg (Int.mul_nonneg (show 0<=1*u by omega) (show 0<=1*u by omega)) hU;~
    ?this;rw[aV (Int.le_of_lt this),aU (show 0<=1*u by omega)]at m1;!:1*u*(1*u)*U=u*u*U:=by grind
    ~
   ·refine(um hU' hu).mpr ?_
    !:0<P'*u - t*L':=by
     rcases Int.lt_or_le 0 (P'*u - t*L') with x|x
     ·#x
     ·rw[aU (show 0<=t*L' - P'*u by omega),aU (show 0<=- -1*u by omega)]at m2
      !:=Int.mul_nonneg (show 0<=t*L' - P'*u by omega) (show 0<=t*L' - P'*u by omega);!:=Int.mul_nonneg (Int.mul_nonneg (show 0<=- -1*u by omega) (show 0<=- -1*u by omega)) hU';~
    ?this;rw[aV (show t*L' - P'*u<=0 by omega),aU (show 0<=- -1*u by omega)]at m2;!:- -1*u*(- -1*u)*U'=u*u*U':=by grind
    !:(t*L' - P'*u)*(t*L' - P'*u)=(P'*u - t*L')*(P'*u - t*L'):=by grind
    ~
¦FrU(c x y:Int×Int)(a b s w:Int):Prop:=a*(w*w)<wth c.1 c.2 x.1 x.2 y.1 y.2 s w*b
¤gR{c x y:Int×Int}{a b s w:Int}(hb:0<b)(s0:0<=s)(sw:s<=w)(hw:0<w)(h:∀p,dQ c.1 c.2 x.1 x.2 y.1 y.2 a b 0=some p->0<gtB p.2 s w\/0<ltB p.1 s w):FrU c x y a b s w:=by
 !g:=(fP (cx:=c.1) (cy:=c.2) (bx:=x.1) (by_:=x.2) (ex:=y.1) (ey:=y.2) (x:=a) hb s0 sw hw).1;!:eS (dQ c.1 c.2 x.1 x.2 y.1 y.2 a b 0) s w=false:=by
  cases e:dQ c.1 c.2 x.1 x.2 y.1 y.2 a b 0 with
  | none=>rfl
  | some p =>
   show(decide (ltB p.1 s w<1) && decide (gtB p.2 s w<1))=false;rw[Bool.and_eq_false_iff,decide_eq_false_iff_not,decide_eq_false_iff_not];!:=h p e;~
 rw[this]at g;!:=of_decide_eq_false g.symm;unfold FrU;~
section
variable {qs rs:Crn} {a b:Int}
¦Bak(u v:Pr):Prop:=v.a*u.b<=u.a*v.b/\u.c*v.d<=v.c*u.d
¦Up(qs rs:Crn)(a b:Int)(u v:Pr):Prop:=∃i j:Nat,i<qs.length/\j+1<rs.length/\(u.a=(i:Int)/\u.b=1/\v.a=(i:Int)/\v.b=1)/\(0<u.d/\0<v.d)/\((j:Int)*v.d<=v.c/\u.c<=((j:Int)+1)*u.d/\v.c*u.d<=u.c*v.d) /\
 ∀s w:Int,0<w->0<=s->s<=w->v.c*w<=((j:Int)*w+s)*v.d->((j:Int)*w+s)*u.d<=u.c*w->FrU (cr qs i) (cr rs j) (cr rs (j+1)) a b s w
¦Lev(qs rs:Crn)(a b:Int)(u v:Pr):Prop:=∃i j:Nat,i+1<qs.length/\j<rs.length/\(u.c=(j:Int)/\u.d=1/\v.c=(j:Int)/\v.d=1)/\(0<u.b/\0<v.b)/\((i:Int)*u.b<=u.a/\v.a<=((i:Int)+1)*v.b/\u.a*v.b<=v.a*u.b) /\
 ∀s w:Int,0<w->0<=s->s<=w->u.a*w<=((i:Int)*w+s)*u.b->((i:Int)*w+s)*v.b<=v.a*w->FrU (cr rs j) (cr qs i) (cr qs (i+1)) a b s w
¦StF(qs rs:Crn)(a b:Int)(u v:Pr):Prop:=Bak u v\/Up qs rs a b u v\/Lev qs rs a b u v
¤Cl{c x y:Int×Int}(h:FrU c x y a b 0 1):a<sqI c x*b:=by
 unfold FrU at h;!:wth c.1 c.2 x.1 x.2 y.1 y.2 0 1=sqI c x:=by unfold wth sqI;grind
 rw[this]at h;~
¤Ck{c x y:Int×Int}(h:FrU c x y a b 1 1):a<sqI c y*b:=by
 unfold FrU at h;!:wth c.1 c.2 x.1 x.2 y.1 y.2 1 1=sqI c y:=by unfold wth sqI du rAl;grind
 rw[this]at h;~
¤zi{i j:Nat}{q:Pr}(h:a<sqI (cr qs i) (cr rs j)*b)(e:prC q ((i:Int),(j:Int))):noP qs rs a b q:=by
 obtain⟨e1,e2,e3,e4⟩:q.a=(i:Int)/\q.b=1/\q.c=(j:Int)/\q.d=1:=e;unfold noP apP;rw[e1,e2,e3,e4,(gA qs i).1,(gA qs i).2,(gA rs j).1,(gA rs j).2];!:d7 (cr qs i).1 (cr qs i).2 1 (cr rs j).1 (cr rs j).2 1=sqI (cr qs i) (cr rs j):=by
  unfold d7 sqI;rw[Int.mul_one,Int.mul_one,Int.mul_one,Int.mul_one]
 rw[this];~
¤zh{i j:Nat}{t u:Int}{q:Pr}(hj:j+1<rs.length)(t0:0<=t)(tu:t<=u)(hu:0<u)(h:FrU (cr qs i) (cr rs j) (cr rs (j+1)) a b t u)(d:eN ((0,(i:Int),(j:Int)),t,u) q):noP qs rs a b q:=by
 rcases d with⟨_,e1,e2,e3,e4⟩|⟨z,_⟩
 ·dsimp only at e1 e2 e3 e4
  unfold noP apP;rw[e1,e2,e3,e4,tR hj t0 tu hu,Int.one_mul];#h
 ·cases z
¤zg{i j:Nat}{t u:Int}{q:Pr}(hi:i+1<qs.length)(t0:0<=t)(tu:t<=u)(hu:0<u)(h:FrU (cr rs j) (cr qs i) (cr qs (i+1)) a b t u)(d:eN ((1,(i:Int),(j:Int)),t,u) q):noP qs rs a b q:=by
 rcases d with⟨z,_⟩|⟨_,e1,e2,e3,e4⟩
 ·cases z
 ·dsimp only at e1 e2 e3 e4
  unfold noP apP;rw[e1,e2,e3,e4,nI,tR hi t0 tu hu,Int.mul_one];#h
¦PrF(n m:Nat)(qs rs:Crn)(a b:Int)(q:Pr):Prop:=noP qs rs a b q/\(EG q.a q.b/\EG q.c q.d)/\∃x y:Nat,x<n/\y<m/\JL q x y
structure JT(n m:Nat)(qs rs:Crn)(a b:Int)(q0:Pr)(bs:List Pr)(q:Pr):Prop where
 st:(bs = []/\StF qs rs a b q0 q)\/∃q1 q2,bs = [q1,q2]/\StF qs rs a b q0 q1/\StF qs rs a b q1 q2/\StF qs rs a b q2 q
 ok:∀p∈bs,PrF n m qs rs a b p
¤zD{n m i j:Nat}{q:Pr}(hn:1<=n)(hm:1<=m)(hi:i<=n)(hj:j<=m)(e:prC q ((i:Int),(j:Int))):(EG q.a q.b/\EG q.c q.d)/\∃x y:Nat,x<n/\y<m/\JL q x y:=by
 obtain⟨e1,e2,e3,e4⟩:q.a=(i:Int)/\q.b=1/\q.c=(j:Int)/\q.d=1:=e;?by rw[e2,e4];#⟨h8 _,h8 _⟩,min i (n - 1),min j (m - 1),~,~,~,~,?_,?_,?_ <;> (first|rw[e1,e2] | rw[e3,e4]) <;> ~
end
section
variable {qs rs:Crn} {a b:Int} {n m:Nat}
¤tP{x0 y0:Dor}{l r:N4}{bs:List Pr}(h:i8 (.bend (dkD x0) (dkD y0) l r) bs):∃(t u:Int) (q1 q2:Pr),Wi l.1 l.2.1 l.2.2.1 l.2.2.2 r.1 r.2.1 r.2.2.1 r.2.2.2 t u/\eN (x0,t,u) q1/\eN (y0,t,u) q2/\bs = [q1,q2]:=by
 @x,y,t,u,q1,q2,e1,e2,w,d1,d2,e:=h;obtain rfl:=kA e1;obtain rfl:=kA e2;§t,u,q1,q2,w,d1,d2,e
¤Cp(hb:0<b)(en:qs.length=n+1)(em:rs.length=m+1){i j:Nat}(hi:i<=n)(hj:j<=m){e:aL×Lb}(he:e∈dnS 0 (bS qs rs a b 0) i j){q0 q:Pr}{bs:List Pr}(c0:prC q0 ((i:Int),(j:Int)))(hbs:i8 e.2 bs)(hq:prC q (dec e.1)):∃i' j':Nat,i'<=n/\j'<=m/\e.1=ck i' j'/\a<sqI (cr qs i') (cr rs j')*b/\JT n m qs rs a b q0 bs q:=by
 !gg:GGk (bS qs rs a b 0):=fj (.inl rfl) hb;unfold dnS at he
 split at he
 ·cases he
 rename_i c;!hjj:(j:Int) - 1=((j - 1:Nat):Int):= ~
 rw[hjj]at he;obtain⟨a1,a2,a3,a4⟩:q0.a=(i:Int)/\q0.b=1/\q0.c=(j:Int)/\q0.d=1:=c0;!gat:∀k:Nat,bS qs rs a b 0 0 (k:Int) ((j - 1:Nat):Int)=dQ (cr qs k).1 (cr qs k).2 (cr rs (j - 1)).1 (cr rs (j - 1)).2 (cr rs (j - 1+1)).1 (cr rs (j - 1+1)).2 a b 0:=λk=>sV
 split at he
 ·rename_i g
  rw[List.mem_singleton.mp he]at hbs hq ⊢;!hbs:bs = []:=hbs;obtain⟨b1,b2,b3,b4⟩:q.a=(i:Int)/\q.b=1/\q.c=((j - 1:Nat):Int)/\q.d=1:=hq;!fr:∀s w:Int,0<w->0<=s->s<=w->FrU (cr qs i) (cr rs (j - 1)) (cr rs (j - 1+1)) a b s w:=λs w hw s0 sw=>gR hb s0 sw hw λp hp=>by
   rw[gat i,hp]at g;cases g
  ¶i,j - 1,hi,~,rfl,Cl (fr 0 1 & & &),⟨.inl ⟨hbs,.inr (.inl ⟨i,j - 1,~,~,⟨a1,a2,b1,b2⟩,⟨~,~⟩,⟨by rw[b3,b4];~,by rw[a3,a4];~,by rw[a3,a4,b3,b4];~⟩,λs w hw s0 sw _ _=>fr s w hw s0 sw⟩)⟩,λp hp=>by rw[hbs]at hp;cases hp⟩
 ·@k,hk,he:=List.mem_filterMap.mp he
  !hk:=List.mem_range.mp hk;unfold dnE at he;@l,hl,rfl:=Option.map_eq_some_iff.mp he;@p,r,gp,gr,lt,rfl:=jt hl;@t,u,q1,q2,w,d1,d2,rfl:=tP (x0:=(0,(i:Int),((j - 1:Nat):Int))) (y0:=(0,(k:Int),((j - 1:Nat):Int))) hbs;!hp:=(bR (gg _ _ _ _ _ gp)).2;!hr:=(bR (gg _ _ _ _ _ gr)).1;@⟨w1,w2⟩,⟨t0,tu⟩,lw:=uV hp hr lt w;!hu:=lw.pos;obtain⟨b1,b2,b3,b4⟩:q.a=(k:Int)/\q.b=1/\q.c=((j - 1:Nat):Int)/\q.d=1:=hq;rw[gat]at gp gr;!f1:∀s w:Int,0<w->0<=s->s<=w->t*w<=s*u->FrU (cr qs i) (cr rs (j - 1)) (cr rs (j - 1+1)) a b s w:=λs w hw s0 sw le=>gR hb s0 sw hw λp' hp'=>by
   rw[gp]at hp';cases hp';#.inl (zr hp hu hw sw w1 le)
  !f2:∀s w:Int,0<w->0<=s->s<=w->s*u<=t*w->FrU (cr qs k) (cr rs (j - 1)) (cr rs (j - 1+1)) a b s w:=λs w hw s0 sw le=>gR hb s0 sw hw λp' hp'=>by
   rw[gr]at hp';cases hp';#.inr (zo hr hu hw s0 w2 le)
  !o1:PrF n m qs rs a b q1:=⟨zh ~ t0 tu hu (f1 t u hu t0 tu (Int.le_refl _)) d1,gL lw d1,by
   by_cases z:i=n
   ·§n - 1,j - 1,~,~,jN d1 t0 tu hu (.inr ~) rfl
   ·#⟨i,j - 1,~,~,jN d1 t0 tu hu (.inl rfl) rfl⟩⟩
  !o2:PrF n m qs rs a b q2:=⟨zh ~ t0 tu hu (f2 t u hu t0 tu (Int.le_refl _)) d2,gL lw d2,k,j - 1,~,~,jN d2 t0 tu hu (.inl rfl) rfl⟩;obtain⟨x1,x2,x3,x4⟩:q1.a=(i:Int)/\q1.b=1/\q1.c=((j - 1:Nat):Int)*u+t/\q1.d=u:=by
   rcases d1 with⟨_,r⟩|⟨z,_⟩
   ·#r
   ·cases z
  obtain⟨y1,y2,y3,y4⟩:q2.a=(k:Int)/\q2.b=1/\q2.c=((j - 1:Nat):Int)*u+t/\q2.d=u:=by
   rcases d2 with⟨_,r⟩|⟨z,_⟩
   ·#r
   ·cases z
  ¶k,j - 1,~,~,rfl,Cl (f2 0 1 & & & (by rw[Int.zero_mul,Int.mul_one];#t0)),⟨.inr ⟨q1,q2,rfl,.inr (.inl ?_),.inl ?_,.inr (.inl ?_)⟩,λp' hp'=>?_⟩
  ·¶i,j - 1,~,~,⟨a1,a2,x1,x2⟩,⟨~,~⟩,⟨by rw[x3,x4];~,by rw[a3,a4];~,?_⟩,λs w hw s0 sw le _=>f1 s w hw s0 sw ?_
   ·rw[a3,a4,x3,x4]
    !:(j:Int)*u=((j - 1:Nat):Int)*u+u:=by rw[show(j:Int)=((j - 1:Nat):Int)+1 by omega,Int.add_mul,Int.one_mul]
    ~
   ·rw[x3,x4]at le
    !:(((j - 1:Nat):Int)*u+t)*w=((j - 1:Nat):Int)*u*w+t*w:=Int.add_mul _ _ _;!:(((j - 1:Nat):Int)*w+s)*u=((j - 1:Nat):Int)*u*w+s*u:=by grind
    ~
  ·unfold Bak
   rw[x1,x2,x3,x4,y1,y2,y3,y4];§~,Int.le_refl _
  ·¶k,j - 1,~,~,⟨y1,y2,b1,b2⟩,⟨~,~⟩,⟨by rw[b3,b4];~,by rw[y3,y4,Int.add_mul];~,by rw[y3,y4,b3,b4];~⟩,λs w hw s0 sw _ le=>f2 s w hw s0 sw ?_
   rw[y3,y4]at le;!:(((j - 1:Nat):Int)*u+t)*w=((j - 1:Nat):Int)*u*w+t*w:=Int.add_mul _ _ _;!:(((j - 1:Nat):Int)*w+s)*u=((j - 1:Nat):Int)*u*w+s*u:=by grind
   ~
  ·simp only[List.mem_cons,List.not_mem_nil,or_false]at hp'
   rcases hp' with rfl|rfl
   ·#o1
   ·#o2
end
section
variable {qs rs:Crn} {a b:Int} {n m:Nat}
¤BS(hb:0<b)(en:qs.length=n+1)(em:rs.length=m+1){i j:Nat}(hi:i<=n)(hj:j<=m){e:aL×Lb}(he:e∈ovS 0 (bS qs rs a b 0) n m i j){q0 q:Pr}{bs:List Pr}(c0:prC q0 ((i:Int),(j:Int)))(hbs:i8 e.2 bs)(hq:prC q (dec e.1)):∃i' j':Nat,i'<=n/\j'<=m/\e.1=ck i' j'/\a<sqI (cr qs i') (cr rs j')*b/\JT n m qs rs a b q0 bs q:=by
 !gg:GGk (bS qs rs a b 0):=fj (.inl rfl) hb;unfold ovS at he
 split at he
 ·cases he
 rename_i c;!hin:i<n:= ~
 obtain⟨a1,a2,a3,a4⟩:q0.a=(i:Int)/\q0.b=1/\q0.c=(j:Int)/\q0.d=1:=c0;!gat:∀k:Nat,bS qs rs a b 0 1 (i:Int) (k:Int)=dQ (cr rs k).1 (cr rs k).2 (cr qs i).1 (cr qs i).2 (cr qs (i+1)).1 (cr qs (i+1)).2 a b 0:=λk=>sU;!i1:(i:Int)+1=((i+1:Nat):Int):= ~
 split at he
 ·rename_i g
  rw[i1]at he;rw[List.mem_singleton.mp he]at hbs hq ⊢;!hbs:bs = []:=hbs;obtain⟨b1,b2,b3,b4⟩:q.a=((i+1:Nat):Int)/\q.b=1/\q.c=(j:Int)/\q.d=1:=hq;!fr:∀s w:Int,0<w->0<=s->s<=w->FrU (cr rs j) (cr qs i) (cr qs (i+1)) a b s w:=λs w hw s0 sw=>gR hb s0 sw hw λp hp=>by
   rw[gat j,hp]at g;cases g
  !f1:=Ck (fr 1 1 & & &);rw[oV]at f1;¶i+1,j,~,hj,rfl,f1,⟨.inl ⟨hbs,.inr (.inr ⟨i,j,~,~,⟨a3,a4,b3,b4⟩,⟨~,~⟩,⟨by rw[a1,a2];~,by rw[b1,b2];~,by rw[a1,a2,b1,b2];~⟩,λs w hw s0 sw _ _=>fr s w hw s0 sw⟩)⟩,λp hp=>by rw[hbs]at hp;cases hp⟩
 ·@k0,hk,he:=List.mem_filterMap.mp he
  !hk:=List.mem_range.mp hk;unfold ovE at he;obtain⟨k,hkk⟩:∃k:Nat,(j:Int)+1+(k0:Int)=(k:Int):=⟨j+1+k0,~⟩;rw[hkk,i1]at he;!jk:j<k/\k<=m:= ~
  @l,hl,rfl:=Option.map_eq_some_iff.mp he;@p,r,gp,gr,lt,rfl:=jt hl;@t,u,q1,q2,w,d1,d2,rfl:=tP (x0:=(1,(i:Int),(j:Int))) (y0:=(1,(i:Int),(k:Int))) hbs;!hp:=(bR (gg _ _ _ _ _ gp)).2;!hr:=(bR (gg _ _ _ _ _ gr)).1;@⟨w1,w2⟩,⟨t0,tu⟩,lw:=uV hp hr lt w;!hu:=lw.pos;obtain⟨b1,b2,b3,b4⟩:q.a=((i+1:Nat):Int)/\q.b=1/\q.c=(k:Int)/\q.d=1:=hq;rw[gat]at gp gr;!f1:∀s w:Int,0<w->0<=s->s<=w->s*u<=t*w->FrU (cr rs j) (cr qs i) (cr qs (i+1)) a b s w:=λs w hw s0 sw le=>gR hb s0 sw hw λp' hp'=>by
   rw[gr]at hp';cases hp';#.inr (zo hr hu hw s0 w2 le)
  !f2:∀s w:Int,0<w->0<=s->s<=w->t*w<=s*u->FrU (cr rs k) (cr qs i) (cr qs (i+1)) a b s w:=λs w hw s0 sw le=>gR hb s0 sw hw λp' hp'=>by
   rw[gp]at hp';cases hp';#.inl (zr hp hu hw sw w1 le)
  !o1:PrF n m qs rs a b q1:=⟨zg ~ t0 tu hu (f1 t u hu t0 tu (Int.le_refl _)) d1,gL lw d1,i,j,~,~,lC d1 t0 tu hu rfl (.inl rfl)⟩;!o2:PrF n m qs rs a b q2:=⟨zg ~ t0 tu hu (f2 t u hu t0 tu (Int.le_refl _)) d2,gL lw d2,i,k - 1,~,~,lC d2 t0 tu hu rfl (.inr ~)⟩;obtain⟨x1,x2,x3,x4⟩:q1.a=(i:Int)*u+t/\q1.b=u/\q1.c=(j:Int)/\q1.d=1:=by
   rcases d1 with⟨z,_⟩|⟨_,r⟩
   ·cases z
   ·#r
  obtain⟨y1,y2,y3,y4⟩:q2.a=(i:Int)*u+t/\q2.b=u/\q2.c=(k:Int)/\q2.d=1:=by
   rcases d2 with⟨z,_⟩|⟨_,r⟩
   ·cases z
   ·#r
  !f3:=Ck (f2 1 1 & & & ~);rw[oV]at f3;¶i+1,k,~,~,rfl,f3,⟨.inr ⟨q1,q2,rfl,.inr (.inr ?_),.inl ?_,.inr (.inr ?_)⟩,λp' hp'=>?_⟩
  ·¶i,j,~,~,⟨a3,a4,x3,x4⟩,⟨~,~⟩,⟨by rw[a1,a2];~,by rw[x1,x2,Int.add_mul];~,by rw[a1,a2,x1,x2];~⟩,λs w hw s0 sw _ le=>f1 s w hw s0 sw ?_
   rw[x1,x2]at le;!:((i:Int)*u+t)*w=(i:Int)*u*w+t*w:=Int.add_mul _ _ _;!:((i:Int)*w+s)*u=(i:Int)*u*w+s*u:=by grind
   ~
  ·unfold Bak
   rw[x1,x2,x3,x4,y1,y2,y3,y4];§Int.le_refl _,(~)
  ·¶i,k,~,~,⟨y3,y4,b3,b4⟩,⟨~,~⟩,⟨by rw[y1,y2];~,by rw[b1,b2];~,?_⟩,λs w hw s0 sw le _=>f2 s w hw s0 sw ?_
   ·rw[y1,y2,b1,b2]
    !:((i+1:Nat):Int)*u=(i:Int)*u+u:=by rw[<- i1,Int.add_mul,Int.one_mul]
    ~
   ·rw[y1,y2]at le
    !:((i:Int)*u+t)*w=(i:Int)*u*w+t*w:=Int.add_mul _ _ _;!:((i:Int)*w+s)*u=(i:Int)*u*w+s*u:=by grind
    ~
  ·simp only[List.mem_cons,List.not_mem_nil,or_false]at hp'
   rcases hp' with rfl|rfl
   ·#o1
   ·#o2
¤Cv(en:qs.length=n+1)(em:rs.length=m+1){i j:Nat}{e:aL×Lb}(he:e∈bkS (fk qs rs a b 0) n m i j){q0 q:Pr}{bs:List Pr}(c0:prC q0 ((i:Int),(j:Int)))(hbs:i8 e.2 bs)(hq:prC q (dec e.1)):∃i' j':Nat,i'<=n/\j'<=m/\e.1=ck i' j'/\a<sqI (cr qs i') (cr rs j')*b/\JT n m qs rs a b q0 bs q:=by
 unfold bkS at he;@p,hp,rfl:=List.mem_map.mp he;@hp,hc:=List.mem_filter.mp hp;@g1,g2,g3,g4,gf:=dI.mp hp;rw[Bool.and_eq_true,decide_eq_true_eq,decide_eq_true_eq]at hc;obtain⟨x,hx⟩:∃x:Nat,p.1=(x:Int):=⟨p.1.toNat,~⟩;obtain⟨y,hy⟩:∃y:Nat,p.2=(y:Int):=⟨p.2.toNat,~⟩;rw[hx,hy]at hq gf;obtain⟨b1,b2,b3,b4⟩:q.a=(x:Int)/\q.b=1/\q.c=(y:Int)/\q.d=1:=hq;obtain⟨a1,a2,a3,a4⟩:q0.a=(i:Int)/\q0.b=1/\q0.c=(j:Int)/\q0.d=1:=c0;!hbs:bs = []:=hbs;¶x,y,~,~,by rw[hx,hy],(rD ~ ~).mp gf,⟨.inl ⟨hbs,.inl ?_⟩,λp hp=>by rw[hbs]at hp;cases hp⟩;unfold Bak;rw[a1,a2,a3,a4,b1,b2,b3,b4];~
end
section
variable {qs rs:Crn} {a b:Int} {n m:Nat}
¤zQ(hb:0<b)(en:qs.length=n+1)(em:rs.length=m+1){i j:Nat}(hi:i<=n)(hj:j<=m){e:aL×Lb}(he:e∈kL 0 (bS qs rs a b 0) (fk qs rs a b 0) n m (ck i j)){q0 q:Pr}{bs:List Pr}(c0:prC q0 ((i:Int),(j:Int)))(hbs:i8 e.2 bs)(hq:prC q (dec e.1)):∃i' j':Nat,i'<=n/\j'<=m/\e.1=ck i' j'/\a<sqI (cr qs i') (cr rs j')*b/\JT n m qs rs a b q0 bs q:=by
 !he:e∈(dnS 0 (bS qs rs a b 0) i j++ovS 0 (bS qs rs a b 0) n m i j)++bkS (fk qs rs a b 0) n m i j:=he;rcases List.mem_append.mp he with he|he
 ·rcases List.mem_append.mp he with he|he
  ·#Cp hb en em hi hj he c0 hbs hq
  ·#BS hb en em hi hj he c0 hbs hq
 ·#Cv en em he c0 hbs hq
inductive KR (stp:aL->List (aL×Lb)):aL->List (aL×Lb)->Prop
 | nil {s:aL}:KR stp s []
 | cons {s:aL} {e:aL×Lb} {l:List (aL×Lb)} (h:e∈stp s) (t:KR stp e.1 l):KR stp s (e::l)
¤Ct{stp:aL->List (aL×Lb)}:∀{l:List (aL×Lb)} {x:aL×Lb},(∀(k:Nat) u v,(x::l)[k]? = some u->(x::l)[k+1]? = some v->v∈stp u.1)->KR stp x.1 l:=by
 intro l
 induction l with
 | nil=>#λ_=>.nil
 | cons e l ih =>
  intro x h;#.cons (h 0 x e rfl rfl) (ih λk u v hu hv=>h (k+1) u v hu hv)
structure Ka(n m:Nat)(qs rs:Crn)(a b:Int)(ps:List Pr):Prop where
 st:∀(k:Nat) u v,ps[k]? = some u->ps[k+1]? = some v->StF qs rs a b u v
 ok:∀q∈ps,PrF n m qs rs a b q
¤Ka.cons{q q':Pr}{ps:List Pr}(h:StF qs rs a b q q')(o:PrF n m qs rs a b q)(w:Ka n m qs rs a b (q'::ps)):Ka n m qs rs a b (q::q'::ps):=by
 ¶λk u v hu hv=>?_,λp hp=>?_
 ·cases k with
  | zero=>cases hu;cases hv;#h
  | succ k=>#w.st k u v hu hv
 ·rcases List.mem_cons.mp hp with rfl|hp
  ·#o
  ·#w.ok p hp
¤AN(hb:0<b)(hn:1<=n)(hm:1<=m)(en:qs.length=n+1)(em:rs.length=m+1):∀{l:List (aL×Lb)} {ps:List Pr} {i j:Nat} {q:Pr},i<=n->j<=m->prC q ((i:Int),(j:Int))->a<sqI (cr qs i) (cr rs j)*b->KR (kL 0 (bS qs rs a b 0) (fk qs rs a b 0) n m) (ck i j) l->JM l ps->Ka n m qs rs a b (q::ps)/\∃(i' j':Nat) (q':Pr),(q::ps)[ps.length]? = some q'/\prC q' ((i':Int),(j':Int))/\(((ck i j,Lb.no)::l).getLast?.map (·.1))=some (ck i' j'):=by
 intro l
 induction l with
 | nil =>
  intro ps i j q hi hj c f ch fl;cases fl;!o:PrF n m qs rs a b q:=⟨zi f c,zD hn hm hi hj c⟩;¶⟨λk u v hu hv=>?_,λp hp=>?_⟩,i,j,q,rfl,c,rfl
  ·simp at hv
  ·rw[List.mem_singleton.mp hp];#o
 | cons e l ih =>
  intro ps i j q hi hj c f ch fl;!o:PrF n m qs rs a b q:=⟨zi f c,zD hn hm hi hj c⟩;cases ch with
  | cons he t=>cases fl with
   | @cons _ _ bs ps' q' hbs hq fl' =>
    @i',j',hi',hj',ee,f',S:=zQ hb en em hi hj he c hbs hq;rw[ee]at hq t;@w,i2,j2,q2,g1,g2,g3:=ih hi' hj' hq f' t fl';!last:(((ck i j,Lb.no)::e::l).getLast?.map (·.1))=some (ck i2 j2):=by
     rw[<- g3,List.getLast?_cons_cons];cases l with
     | nil=>rw[List.getLast?_singleton,List.getLast?_singleton];#congrArg some ee
     | cons e' l'=>rw[List.getLast?_cons_cons,List.getLast?_cons_cons]
    rcases S.st with⟨rfl,st⟩|⟨q1,q3,rfl,s1,s2,s3⟩
    ·§Ka.cons st o w,i2,j2,q2,g1,g2,last
    ·§Ka.cons s1 o (Ka.cons s2 (S.ok q1 (by simp)) (Ka.cons s3 (S.ok q3 (by simp)) w)),i2,j2,q2,g1,g2,last
end
section
variable {qs rs:Crn} {a b:Int}
¦Bj(c:Int×Int)(rs:Crn)(a b l1 l2 h1 h2:Int):Prop:=∀s w:Int,0<w->l1*w<=s*l2->s*h2<=h1*w->a*(w*w)<d7 c.1 c.2 1 (ptX rs s w) (ptY rs s w) w*b
¦FSt(qs rs:Crn)(a b:Int)(u v:Pr):Prop:=Bak u v\/(∃i:Nat,i<qs.length/\(u.a=(i:Int)/\u.b=1/\v.a=(i:Int)/\v.b=1)/\(∃j:Int,j*v.d<=v.c/\u.c<=(j+1)*u.d)/\v.c*u.d<=u.c*v.d/\Bj (cr qs i) rs a b v.c v.d u.c u.d)\/(∃j:Nat,j<rs.length/\(u.c=(j:Int)/\u.d=1/\v.c=(j:Int)/\v.d=1)/\(∃i:Int,i*u.b<=u.a/\v.a<=(i+1)*v.b)/\u.a*v.b<=v.a*u.b/\Bj (cr rs j) qs a b u.a u.b v.a v.b)
¤zA{c:Int×Int}{rs:Crn}{j:Nat}{s w:Int}(hj:j+1<rs.length)(hw:0<w)(l1:(j:Int)*w<=s)(l2:s<=((j:Int)+1)*w)(h:FrU c (cr rs j) (cr rs (j+1)) a b (s - (j:Int)*w) w):a*(w*w)<d7 c.1 c.2 1 (ptX rs s w) (ptY rs s w) w*b:=by
 !p:=mS hj hw l1 l2;!e:d7 c.1 c.2 1 (ptX rs s w) (ptY rs s w) w=wth c.1 c.2 (cr rs j).1 (cr rs j).2 (cr rs (j+1)).1 (cr rs (j+1)).2 (s - (j:Int)*w) w:=by
  rw[p.1,p.2];generalize s - (j:Int)*w=t;unfold d7 wth du rAl
  grind
 rw[e];#h
¤wT{qs:Crn}(h:qs.length=1){i:Nat}(hi:i<2):cr (dbl qs) i=cr qs 0:=by
 @c,rfl:=eX h;!:i=0\/i=1:= ~
 rcases this with rfl|rfl <;> rfl
¤BU{u v u' v':Pr}(hq:1<=qs.length)(hr:1<=rs.length)(h:Up (dbl qs) (dbl rs) a b u v)(ou:l9 (decide (qs.length=1)) (decide (rs.length=1)) u u')(ov:l9 (decide (qs.length=1)) (decide (rs.length=1)) v v'):FSt qs rs a b u' v':=by
 @i,j,hi,hj,⟨e1,e2,e3,e4⟩,⟨d1,d2⟩,⟨y1,y2,y3⟩,al:=h;@o1,o2:=ou;@p1,p2:=ov;!x:∃i':Nat,i'<qs.length/\(u'.a=(i':Int)/\u'.b=1/\v'.a=(i':Int)/\v'.b=1)/\cr qs i'=cr (dbl qs) i:=by
  by_cases c:qs.length=1
  ·rw[decide_eq_true c]at o1 p1
   obtain⟨f1,f2⟩:u'.a=0/\u'.b=1:=o1;obtain⟨f3,f4⟩:v'.a=0/\v'.b=1:=p1;¶0,~,⟨f1,f2,f3,f4⟩,(wT c ?_).symm;@z,rfl:=eX c;#hi
  ·rw[decide_eq_false c]at o1 p1
   obtain⟨f1,f2⟩:u'.a=u.a/\u'.b=u.b:=o1;obtain⟨f3,f4⟩:v'.a=v.a/\v'.b=v.b:=p1;!d:=(lR (qs:=qs) ~).1;rw[d]at hi;§i,hi,⟨f1.trans e1,f2.trans e2,f3.trans e3,f4.trans e4⟩,(by rw[d])
 @i',hi',ex,ec:=x
 by_cases c:rs.length=1
 ·rw[decide_eq_true c]at o2 p2
  obtain⟨f1,f2⟩:u'.c=0/\u'.d=1:=o2;obtain⟨f3,f4⟩:v'.c=0/\v'.d=1:=p2;left;unfold Bak;rw[ex.1,ex.2.1,ex.2.2.1,ex.2.2.2,f1,f2,f3,f4];§Int.le_refl _,Int.le_refl _
 ·rw[decide_eq_false c]at o2 p2
  obtain⟨f1,f2⟩:u'.c=u.c/\u'.d=u.d:=o2;obtain⟨f3,f4⟩:v'.c=v.c/\v'.d=v.d:=p2;!d:=(lR (qs:=rs) ~).1;rw[d]at hj al;refine .inr (.inl ⟨i',hi',ex,⟨j,by rw[f3,f4];#y1,by rw[f1,f2];#y2⟩,by rw[f1,f2,f3,f4];#y3,λs w hw l1 l2=>?_⟩);rw[f3,f4]at l1;rw[f1,f2]at l2;!s1:(j:Int)*w<=s:=by
   !:=Int.mul_le_mul_of_nonneg_right y1 (show 0<=w by omega);!e:(j:Int)*v.d*w=(j:Int)*w*v.d:=by grind
   rw[e]at this;#Int.le_of_mul_le_mul_right (Int.le_trans this l1) d2
  !s2:s<=((j:Int)+1)*w:=by
   !:=Int.mul_le_mul_of_nonneg_right y2 (show 0<=w by omega);!e:((j:Int)+1)*u.d*w=((j:Int)+1)*w*u.d:=by grind
   rw[e]at this;#Int.le_of_mul_le_mul_right (Int.le_trans l2 this) d1
  rw[ec];!e0:(j:Int)*w+(s - (j:Int)*w)=s:= ~
  refine zA hj hw s1 s2 (al (s - (j:Int)*w) w hw ~ (by rw[Int.add_mul]at s2;~) (by rw[e0];#l1) (by rw[e0];#l2))
end
section
variable {qs rs:Crn} {a b:Int}
¤Al{u v u' v':Pr}(hq:1<=qs.length)(hr:1<=rs.length)(h:Lev (dbl qs) (dbl rs) a b u v)(ou:l9 (decide (qs.length=1)) (decide (rs.length=1)) u u')(ov:l9 (decide (qs.length=1)) (decide (rs.length=1)) v v'):FSt qs rs a b u' v':=by
 @i,j,hi,hj,⟨e1,e2,e3,e4⟩,⟨d1,d2⟩,⟨y1,y2,y3⟩,al:=h;@o1,o2:=ou;@p1,p2:=ov;!x:∃j':Nat,j'<rs.length/\(u'.c=(j':Int)/\u'.d=1/\v'.c=(j':Int)/\v'.d=1)/\cr rs j'=cr (dbl rs) j:=by
  by_cases c:rs.length=1
  ·rw[decide_eq_true c]at o2 p2
   obtain⟨f1,f2⟩:u'.c=0/\u'.d=1:=o2;obtain⟨f3,f4⟩:v'.c=0/\v'.d=1:=p2;¶0,~,⟨f1,f2,f3,f4⟩,(wT c ?_).symm;@z,rfl:=eX c;#hj
  ·rw[decide_eq_false c]at o2 p2
   obtain⟨f1,f2⟩:u'.c=u.c/\u'.d=u.d:=o2;obtain⟨f3,f4⟩:v'.c=v.c/\v'.d=v.d:=p2;!d:=(lR (qs:=rs) ~).1;rw[d]at hj;§j,hj,⟨f1.trans e1,f2.trans e2,f3.trans e3,f4.trans e4⟩,(by rw[d])
 @j',hj',ex,ec:=x
 by_cases c:qs.length=1
 ·rw[decide_eq_true c]at o1 p1
  obtain⟨f1,f2⟩:u'.a=0/\u'.b=1:=o1;obtain⟨f3,f4⟩:v'.a=0/\v'.b=1:=p1;left;unfold Bak;rw[ex.1,ex.2.1,ex.2.2.1,ex.2.2.2,f1,f2,f3,f4];§Int.le_refl _,Int.le_refl _
 ·rw[decide_eq_false c]at o1 p1
  obtain⟨f1,f2⟩:u'.a=u.a/\u'.b=u.b:=o1;obtain⟨f3,f4⟩:v'.a=v.a/\v'.b=v.b:=p1;!d:=(lR (qs:=qs) ~).1;rw[d]at hi al;refine .inr (.inr ⟨j',hj',ex,⟨i,by rw[f1,f2];#y1,by rw[f3,f4];#y2⟩,by rw[f1,f2,f3,f4];#y3,λs w hw l1 l2=>?_⟩);rw[f1,f2]at l1;rw[f3,f4]at l2;!s1:(i:Int)*w<=s:=by
   !:=Int.mul_le_mul_of_nonneg_right y1 (show 0<=w by omega);!e:(i:Int)*u.b*w=(i:Int)*w*u.b:=by grind
   rw[e]at this;#Int.le_of_mul_le_mul_right (Int.le_trans this l1) d1
  !s2:s<=((i:Int)+1)*w:=by
   !:=Int.mul_le_mul_of_nonneg_right y2 (show 0<=w by omega);!e:((i:Int)+1)*v.b*w=((i:Int)+1)*w*v.b:=by grind
   rw[e]at this;#Int.le_of_mul_le_mul_right (Int.le_trans l2 this) d2
  rw[ec];!e0:(i:Int)*w+(s - (i:Int)*w)=s:= ~
  refine zA hi hw s1 s2 (al (s - (i:Int)*w) w hw ~ (by rw[Int.add_mul]at s2;~) (by rw[e0];#l1) (by rw[e0];#l2))
¤Am{o1 o2:Bool}{u v u' v':Pr}(h:Bak u v)(ou:l9 o1 o2 u u')(ov:l9 o1 o2 v v'):Bak u' v':=by
 @a1,a2:=ou;@b1,b2:=ov;¶?_,?_
 ·cases o1 with
  | true =>
   obtain⟨f1,f2⟩:u'.a=0/\u'.b=1:=a1;obtain⟨f3,f4⟩:v'.a=0/\v'.b=1:=b1;rw[f1,f2,f3,f4];decide
  | false =>
   obtain⟨f1,f2⟩:u'.a=u.a/\u'.b=u.b:=a1;obtain⟨f3,f4⟩:v'.a=v.a/\v'.b=v.b:=b1;rw[f1,f2,f3,f4];#h.1
 ·cases o2 with
  | true =>
   obtain⟨f1,f2⟩:u'.c=0/\u'.d=1:=a2;obtain⟨f3,f4⟩:v'.c=0/\v'.d=1:=b2;rw[f1,f2,f3,f4];decide
  | false =>
   obtain⟨f1,f2⟩:u'.c=u.c/\u'.d=u.d:=a2;obtain⟨f3,f4⟩:v'.c=v.c/\v'.d=v.d:=b2;rw[f1,f2,f3,f4];#h.2
structure KN(qs rs:Crn)(a b:Int)(on:Prop)(ps:List Pr):Prop where
 len:1<=ps.length/\ps.length<=300
 rg:∀q∈ps,(0<=q.a/\q.a<=((qs.length:Int) - 1)*q.b)/\0<=q.c/\q.c<=((rs.length:Int) - 1)*q.d
 low:∀q∈ps,EG q.a q.b/\EG q.c q.d
 hd:∃q,ps[0]? = some q/\((q.c=(rs.length:Int) - 1/\q.d=1)\/(on/\q.a=0/\q.b=1))
 lst:∃q,ps[ps.length - 1]? = some q/\((q.c=0/\q.d=1)\/(on/\q.a=(qs.length:Int) - 1/\q.b=1))
 st:∀(k:Nat) u v,ps[k]? = some u->ps[k+1]? = some v->FSt qs rs a b u v
 sq:∀q∈ps,noP qs rs a b q
¤uD{wy:Str}{ps':List Pr}(hw:wy=wOn\/wy=ce)(hb:0<b)(hq:1<=qs.length/\qs.length<=10)(hr:1<=rs.length/\rs.length<=10)(h:GoP wy qs rs a b false ps'):KN qs rs a b (wy=wOn) ps':=by
 @ps,pr,_,lst,rd,_,_,fl,l300:=h;@d1,n1,n9:=eZ hq;@d2,m1,m9:=eZ hr;!pl:=Paired.length pr;@⟨s,r,rfl,hs⟩,st,⟨el,hlast,hfin⟩:=rd;@p,hp,rfl:=List.mem_map.mp hs;@hp,hbg:=List.mem_filter.mp hp;@g1,g2,g3,g4,gf:=dI.mp hp;@x0,y0:=p;dsimp only at hbg g1 g2 g3 g4 gf hlast st fl;obtain⟨i,rfl⟩:∃i:Nat,x0=(i:Int):=⟨x0.toNat,~⟩;obtain⟨j,rfl⟩:∃j:Nat,y0=(j:Int):=⟨y0.toNat,~⟩;!ch:=Ct (x:=(ck (i:Int) (j:Int),Lb.no)) st;cases fl with
 | @cons _ _ bs ps0 q0 hbs hq0 fl' =>
  !hbs:bs = []:=hbs;subst hbs;@W,i2,j2,q2,f1,f2,f3:=AN hb n1 m1 d1 d2 ~ ~ hq0 ((rD ~ ~).mp gf) ch fl';!on:wy≠ce↔wy=wOn:=⟨λz=>hw.resolve_right z,λz y=>dY (z.symm.trans y)⟩;!inc:∀q∈q0::ps0,∃x y:Nat,x<cI qs/\y<cI rs/\JL q x y:=λq hq=>(W.ok q hq).2.2;!pl':ps'.length=(q0::ps0).length:=pl.symm;¶⟨by rw[pl',List.length_cons];~,by rw[<- pl];#l300⟩,λq hq'=>?_,λq hq'=>?_,?_,?_,λk u v hu hv=>?_,λq hq'=>?_
  ·@k,hk:=List.mem_iff_getElem?.mp hq'
   @q1,h1,o1,o2:=bo pr k q hk;@x,y,hx,hy,ic:=inc q1 (List.mem_of_getElem? h1);§sG hq.1 hx ic.hb ic.x1 ic.x2 o1,sG hr.1 hy ic.hd ic.y1 ic.y2 o2
  ·@k,hk:=List.mem_iff_getElem?.mp hq'
   @q1,h1,o1,o2:=bo pr k q hk;!w:=(W.ok q1 (List.mem_of_getElem? h1)).2.1;§oa w.1 o1,oa w.2 o2
  ·@q,hq',o1,o2:=fh pr 0 q0 rfl
   obtain⟨e1,e2,e3,e4⟩:q0.a=(i:Int)/\q0.b=1/\q0.c=(j:Int)/\q0.d=1:=hq0;?q,hq';rw[Bool.or_eq_true,Bool.and_eq_true,decide_eq_true_eq,decide_eq_true_eq,decide_eq_true_eq]at hbg;rcases hbg with z|⟨z1,z2⟩
   ·#.inl (ki hr.1 (e3.trans z) e4 o2)
   ·#.inr ⟨on.mp z1,kh (e1.trans z2) e2 o1⟩
  ·@q,hq',o1,o2:=fh pr ps0.length q2 f1
   obtain⟨e1,e2,e3,e4⟩:q2.a=(i2:Int)/\q2.b=1/\q2.c=(j2:Int)/\q2.d=1:=f2;?q,(by rw[pl',List.length_cons,Nat.add_sub_cancel];#hq');rw[hlast]at f3;!f3:el.1=ck i2 j2:=Option.some.inj f3;rw[f3]at hfin;!hfin:(decide ((j2:Int)=0) || (decide (wy≠ce) && decide ((i2:Int)=(cI qs:Int))))=true:=hfin;rw[Bool.or_eq_true,Bool.and_eq_true,decide_eq_true_eq,decide_eq_true_eq,decide_eq_true_eq]at hfin;rcases hfin with z|⟨z1,z2⟩
   ·#.inl (kh (e3.trans z) e4 o2)
   ·#.inr ⟨on.mp z1,ki hq.1 (e1.trans z2) e2 o1⟩
  ·@u0,hu0,ou:=bo pr k u hu
   @v0,hv0,ov:=bo pr (k+1) v hv;rcases W.st k u0 v0 hu0 hv0 with z|z|z
   ·#.inl (Am z ou ov)
   ·#BU hq.1 hr.1 z ou ov
   ·#Al hq.1 hr.1 z ou ov
  ·@k,hk:=List.mem_iff_getElem?.mp hq'
   @q1,h1,o1,o2:=bo pr k q hk;@x,y,hx,hy,ic:=inc q1 (List.mem_of_getElem? h1);@b1,x1,y1:=sF hq.1 hx ic.hb ic.x1 ic.x2 o1;@b2,x2,y2:=sF hr.1 hy ic.hd ic.y1 ic.y2 o2;#BJ (oI ic.hb ic.hd) (yX x1 y1 x2 y2) (oI b1 b2) (W.ok q1 (List.mem_of_getElem? h1)).1
end
¦InL(m n:Nat)(q:Pr):Prop:=(0<=q.a/\q.a<=((m:Int) - 1)*q.b)/\0<=q.c/\q.c<=((n:Int) - 1)*q.d
inductive Jx (vs:List V) (H:Hp) (Q:VK) (x_3:XK):Prop
 | mk:∀(l1 l2:Addr) (q:Pr) (xs ys:List V),(vs = [.ref q.p,.ref l1,.ref l2])->(Iv H q)->((H l1=some (.lst xs)/\H l2=some (.lst ys)))->((xs.length<=100/\ys.length<=100))->(InL xs.length ys.length q)->(Q (.bl true) H)->Jx vs H Q x_3
inductive G9 (vs:List V) (H:Hp) (Q:VK) (x_3:XK):Prop
 | mk:∀(l1 l2 l:Addr) (ps:List Pr) (xs ys:List V),(vs = [.ref l,.ref l1,.ref l2])->(Iw H l ps)->((1<=ps.length/\ps.length<900))->((H l1=some (.lst xs)/\H l2=some (.lst ys)))->((xs.length<=100/\ys.length<=100))->((∀q∈ps,InL xs.length ys.length q))->(Q (.bl true) H)->G9 vs H Q x_3
inductive IQ (vs:List V) (H:Hp) (Q:VK) (x_3:XK):Prop
 | mk:∀(l1 l2:Addr) (q:Pr) (qs rs:Crn),(vs = [.ref l1,.ref l2,.ref q.p])->(Iv H q)->((LineAt H l1 qs/\1<=qs.length/\qs.length<=20))->((LineAt H l2 rs/\1<=rs.length/\rs.length<=20))->(InL qs.length rs.length q)->(∀(r:Addr) H',Same H H'->H' r=some (.tup [.int (apP qs rs q),.int (q.b*q.d*(q.b*q.d))])->(ar (apP qs rs q)<=50000/\ar (q.b*q.d*(q.b*q.d))<=50000)->Q (.ref r) H')->IQ vs H Q x_3
inductive IW (vs:List V) (H:Hp) (Q:VK) (x_3:XK):Prop
 | mk:∀(p q:Addr) (a b c d:Int),(vs = [.ref p,.ref q])->(H p=some (.tup [.int a,.int b]))->(H q=some (.tup [.int c,.int d]))->((0<b/\0<d/\0<=a))->((ar a<=5400/\ar b<=5400/\ar c<=5400/\ar d<=5400))->(StC a b c d)->(Q (.bl true) H)->IW vs H Q x_3
¤tS{X Y b X' Y' b':Int}(h1:ar X<=5500)(h2:ar Y<=5500)(h3:ar b<=5500)(h4:ar X'<=5500)(h5:ar Y'<=5500)(h6:ar b'<=5500):ar (d7 X Y b X' Y' b')<=50000:=by
 !d1:ar (X*b' - X'*b)<=11001:=a9 (bits_mul h1 h6) (bits_mul h4 h3);!d2:ar (Y*b' - Y'*b)<=11001:=a9 (bits_mul h2 h6) (bits_mul h5 h3);#aq (bT (bits_mul d1 d1) (bits_mul d2 d2)) &
¤xA{a b c d:Int}(hb:0<b)(hd:0<d)(h:StC a b c d):c<=(a / b+1)*d:=by
 @_,x,h1,h2:=h;!h3:x<=a / b:=(Int.le_ediv_iff_mul_le hb).mpr h1;!:=Int.mul_le_mul_of_nonneg_right (show x+1<=a / b+1 by omega) (show 0<=d by omega);~
¤GN:Dj ["thing","one","other"] ["thing","one","other"] (ao (top 79)):=smk
¤lJ(GQ:Df K mg "_law_is_pair" (top 79))(DU:Fn P w K mg base "_law_is_fraction" ["thing"] 2 JA)(T:Txt mg):Fn P w K mg base "_law_is_pair" ["thing","one","other"] 3 Jx:=by
 refine GQ.fn GN (λ_ _ _ _ _ _ us hl=>by @_,_,_,rfl:=g7 hl;rfl) (λvs H Q E h=>?_) (λf cdv A outer s H vs Q E hr h=>?_)
 ·@l1,l2,q,xs,ys,rfl,_:=h
  rfl
 ·@l1,l2,q,xs,ys,rfl,h,⟨e1,e2⟩,⟨n1,n2⟩,⟨⟨a0,a1⟩,c0,c1⟩,k:=h
  ?_,(ag (aM (dw (cE (bH (aN cO (by rfl) T.z_isinstance bW (ad ©0 (ad (iG T.z_tuple iZ) ak))))) (cZ (aE gF (aN aO (by rfl) T.z_len bX (ad ©0 ak)) af (aG _)))).pt (am (aB cW)) aI) (ag (aM (dw (cE (bH (¢DU (ad ®0 ak)))) (cZ (cE (bH (¢DU (ad ®0 ak)))))).pt (am (aB cW)) aI) (ag (aM (dw (aE dH (ax ap ®0 af (λ_ _=>rfl)) af (aG _)) (cZ (aE mW (ax ap ®0 af (λ_ _=>rfl)) (ay aF (ay aP (aN aO (by rfl) T.z_len bX (ad ©1 ak)) af) (ax ap ®0 af (λ_ _=>rfl))) (aG _)))).pt (am (aB cW)) aI) (am (aB (jn (dj k7 (ax ap ®0 af (λ_ _=>rfl)) af (aG _)) (gC (dj k6 (ax ap ®0 af (λ_ _=>rfl)) (ay aF (ay aP (aN aO (by rfl) T.z_len bX (ad ©2 ak)) af) (ax ap ®0 af (λ_ _=>rfl))) (aG _)))))))));!c64:∀{n:Nat} {y:Int},n<=100->CM ((n:Int) - 1) y:=λ{n y} h=>CM.l (by rw[show(2:Int)^64=18446744073709551616 by decide];~);?^,_,_,"tuple",rfl,Kn.tup h.p_,nice_tuple;¶^,aK rfl ?_;¶^,q.p,^,.inr (SqT.of h.p_),rfl,^,aK rfl ?_;¶^,q.p,_,%,SqT.of h.p_,rfl,q.x,q.a,q.b,rfl,h.x_,h.lx,^,aK rfl ?_;¶^,q.p,_,%,SqT.of h.p_,rfl,q.y,q.c,q.d,rfl,h.y_,h.ly,^,aK rfl ?_;¶^,q.p,_,%,SqT.of h.p_,rfl,q.x,_,%,SqT.of h.x_,rfl,%,^,aK (by simp;~) ?_;¶^,q.p,_,%,SqT.of h.p_,rfl,q.x,_,%,SqT.of h.x_,rfl,^,l1,^,.inl (SqL.of e1),%,^,q.p,_,%,SqT.of h.p_,rfl,q.x,_,%,SqT.of h.x_,rfl,%,c64 n1,%,^,aK (by simp;~) ?_;?^,q.p,_,%,SqT.of h.p_,rfl,q.y,_,%,SqT.of h.y_,rfl,%,true,(by simp[c0]);?^,q.p,_,%,SqT.of h.p_,rfl,q.y,_,%,SqT.of h.y_,rfl,^,l2,^,.inl (SqL.of e2),%,^,q.p,_,%,SqT.of h.p_,rfl,q.y,_,%,SqT.of h.y_,rfl,%,c64 n2,%;!e:decide (q.c<=((ys.length:Int) - 1)*q.d)=true:=decide_eq_true c1;rw[e];#k
¤Fe:Dj ["thing","one","other","pair"] ["thing","one","other"] (ao (top 80)):=smk
¤jx(Gi:Df K mg "_law_are_pairs" (top 80))(EV:Fn P w K mg base "_law_is_pair" ["thing","one","other"] 3 Jx)(T:Txt mg):Fn P w K mg base "_law_are_pairs" ["thing","one","other"] 4 G9:=by
 refine Gi.fn Fe (λ_ _ _ _ _ _ us hl=>by @_,_,_,rfl:=g7 hl;rfl) (λvs H Q E h=>?_) (λf cdv A outer s H vs Q E hr h=>?_)
 ·@l1,l2,l,ps,xs,ys,rfl,_:=h
  rfl
 ·@l1,l2,l,ps,xs,ys,rfl,P,⟨p1,p9⟩,ee,nn,pc,k:=h
  ?_,(ag (aM (dw (cE (bH (aN cO (by rfl) T.z_isinstance bW (ad ©0 (ad (iG T.z_list kC) ak))))) (cZ (aE bP (aN aO (by rfl) T.z_len bX (ad ©0 ak)) af (aG _)))).pt (am (aB cW)) aI) (ag (cj PassesOwn.never rfl (eG ©0) (aQ (i:=3) Fe.nd rfl (Or.inl rfl)) (am (aM (cE (bH (¢EV (ad ©3 (ad ©1 (ad ©2 ak)))))) (am (aB cW)) aI))) (am (aB cW))));?^,_,_,"list",rfl,Kn.lst P.lst,nice_list;¶^,aK rfl ?_;¶^,l,^,.inl (SqL.of P.lst),rfl,^,aK (by rw[dW];#decide_eq_false λz=>by injection z with z;~) ?_;¶^,l,rfl,⟨_,SqL.of P.lst⟩,fQ (K:=K) (a:=l) (xs:=prs ps) (λi σ H'=>∃(z:Option V),σ = [some (.ref l),some (.ref l1),some (.ref l2),z]/\H'=H) ⟨_,rfl,rfl⟩ (λi σ H' _ ⟨_,_,e⟩=>by rw[e];#SqL.of P.lst) ?_ ?_
  ·rintro i v σ H' hv ⟨z,rfl,rfl⟩
   @q,hq,rfl:=ka hv;!mq:=List.mem_of_getElem? hq;§^,^,^,l1,l2,q,xs,ys,rfl,P.pr q mq,ee,nn,pc q mq,^,aK rfl ⟨_,rfl,rfl⟩
  ·rintro σ H' ⟨z,rfl,rfl⟩
   #k
¤Hj:Dj ["one","other","pair"] ["one","other","pair"] (ao (top 85)):=smk
¤ml(HG:Df K mg "_law_square" (top 85))(DY:Fn P w K mg base "_law_apart" ["here","there"] 1 Ha)(DJ:Fn P w K mg base "_law_point" ["line","place"] 1 IU)(T:Txt mg):Fn P w K mg base "_law_square" ["one","other","pair"] 2 IQ:=by
 refine HG.fn Hj (λ_ _ _ _ _ _ us hl=>by @_,_,_,rfl:=g7 hl;rfl) (λvs H Q E h=>?_) (λf cdv A outer s H vs Q E hr h=>?_)
 ·@l1,l2,q,qs,rs,rfl,_:=h
  rfl
 ·@l1,l2,q,qs,rs,rfl,h,⟨L1,a1,a20⟩,⟨L2,b1,b20⟩,⟨ia,ic⟩,k:=h
  ?_,(am (aB (¢DY (ad (¢DJ (ad ©0 (ad ®2 ak))) (ad (¢DJ (ad ©1 (ad ®2 ak))) ak)))));!w:∀{x:Int},ar x<=5300->ar x<=5400:=λh=>aq h &;!w2:∀{x:Int},ar x<=5300->ar x<=5500:=λh=>aq h &;!xb:=h.lx.pos;!yb:=h.ly.pos;¶^,^,q.p,_,%,SqT.of h.p_,rfl,l1,q.x,qs,q.a,q.b,rfl,L1,⟨a1,a20⟩,h.x_,⟨~,w h.bb⟩,ia,w h.ba,λr1 H1 s1 f1=>?_;¶^,^,q.p,_,%,SqT.of (s1 _ _ h.p_),rfl,l2,q.y,rs,q.c,q.d,rfl,L2.mono s1,⟨b1,b20⟩,s1 _ _ h.y_,⟨~,w h.bd⟩,ic,w h.bc,λr2 H2 s2 f2=>?_;!pb1:=gB L1 (t:=q.a) (b:=q.b) ~ (w h.bb);!pb2:=gB L2 (t:=q.c) (b:=q.d) ~ (w h.bd);¶r1,r2,_,_,q.b,_,_,q.d,rfl,s2 _ _ f1,f2,⟨pb1.1,pb1.2,w2 h.bb,pb2.1,pb2.2,w2 h.bd⟩,λr H3 s3 f3=>k r H3 (s1.trans (s2.trans s3)) f3 ⟨tS pb1.1 pb1.2 (w2 h.bb) pb2.1 pb2.2 (w2 h.bd),aq (bits_mul (bits_mul h.bb h.bd) (bits_mul h.bb h.bd)) &⟩
¤Gw:Dj ["a","b"] ["a","b"] (ao (top 82)):=smk
¤qh(IH:Df K mg "_law_near" (top 82))(Do:Fn P w K mg base "_law_less" ["a","b"] 1 Gq)(T:Txt mg):Fn P w K mg base "_law_near" ["a","b"] 2 IW:=by
 refine IH.fn Gw (λ_ _ _ _ _ _ us hl=>by @_,_,rfl:=dJ hl;rfl) (λvs H Q E h=>?_) (λf cdv A outer s H vs Q E hr h=>?_)
 ·@p,q,a,b,c,d,rfl,_:=h
  rfl
 ·@p,q,a,b,c,d,rfl,hp,hq,⟨hb,hd,a0⟩,⟨ba,bb,bc,bd⟩,st,k:=h
  ?_,(ag (aM (bH (¢Do (ad ©1 (ad ©0 ak)))) (am (qS (i:=0) (j:=1) rfl Gw.nd rfl rfl & rfl rfl (ad ©1 (ad ©0 ak)) (by rfl))) aI) (am (aB (dj k6 ®1 (ay aF (ay aS (ay dA ®0 ®0) af) ®1) (aG _)))));!w:∀{x:Int},ar x<=5400->ar x<=50000:=λh=>aq h &;¶^,^,q,p,c,d,a,b,rfl,hq,hp,⟨w bc,w bd,w ba,w bb⟩,^,aK (decide_eq_false (by !:=st.1;~)) ?_;!bq:ar (a / b+1)<=5402:=aq (bT (n:=5400) (de (Int.ediv_nonneg a0 ~) (Int.ediv_le_self _ a0) ba) &) &;?^,q,_,%,SqT.of hq,rfl,^,p,_,%,SqT.of hp,rfl,^,p,_,%,SqT.of hp,rfl,%,⟨hb,aq bb &⟩,%,^,q,_,%,SqT.of hq,rfl,%,CM.b bq bd & &,%;rw[decide_eq_true (xA hb hd st)];#k
¤fV{ps:List Pr}{i:Nat}{q:Pr}(h:ps[i]? = some q):atI (prs ps) (i:Int)=some (.ref q.p):=dD (by unfold prs;rw[List.getElem?_map,h];rfl)
¤j9{ps:List Pr}{q:Pr}(h:ps[ps.length - 1]? = some q):atI (prs ps) (-1)=some (.ref q.p):=by
 !hl:=(List.getElem?_eq_some_iff.mp h).1;rw[<- fV h];unfold atI;rw[dW]
 congr 1
 unfold ixN
 (repeat' split) <;> first|rfl|~|(congr 1;~)
inductive Jm (vs:List V) (H:Hp) (Q:VK) (x_3:XK):Prop
 | mk:∀(l1 l2 l z:Addr) (qs rs:Crn) (ps:List Pr) (a b:Int) (pt:Bool),(vs = [.ref l1,.ref l2,.ref l,.ref z,.bl pt])->((LineM H l1 qs/\LineM H l2 rs))->(((1<=qs.length/\qs.length<=20)/\1<=rs.length/\rs.length<=20))->(Iw H l ps)->(Sq H z a b)->(KM qs rs a b (pt=false) ps)->(∀H',Same H H'->Q (.bl true) H')->Jm vs H Q x_3
¤dF{H:Hp}{p:Addr}{a b:Int}(h:H p=some (.tup [.int a,.int b])):Rp H 9 (.ref p) (.tup [.int a,.int b]):=Rp.t2 h .int .int
¤EE:Dj ["one","other","walk","square","part","k","side","ahead","pair"] ["one","other","walk","square","part"] (ao (top 87)):=smk
¤p7(ID:Df K mg "_law_walk" (top 87))(DC:Fn P w K mg base "_law_are_pairs" ["thing","one","other"] 4 G9)(Do:Fn P w K mg base "_law_less" ["a","b"] 1 Gq)(Eg:Fn P w K mg base "_law_near" ["a","b"] 2 IW)(D5:Fn P w K mg base "_law_square" ["one","other","pair"] 2 IQ)(T:Txt mg):Fn P w K mg base "_law_walk" ["one","other","walk","square","part"] 5 Jm:=by
 refine ID.fn EE (λ_ _ _ _ _ _ us hl=>by @_,_,_,_,_,rfl:=v7 hl;rfl) (λvs H Q E h=>?_) (λf cdv A outer s H vs Q E hr h=>?_)
 ·@l1,l2,l,z,qs,rs,ps,a,b,pt,rfl,_:=h
  rfl
 ·@l1,l2,l,z,qs,rs,ps,a,b,pt,rfl,⟨La,Lb⟩,⟨⟨h1,h20⟩,g1,g20⟩,PP,sq,W,q:=h
  !hpl:(prs ps).length=ps.length:=dW ps;!hlq:(qs.map λ(q:Addr×Int×Int)=>V.ref q.1).length=qs.length:=List.length_map _;!hlr:(rs.map λ(q:Addr×Int×Int)=>V.ref q.1).length=rs.length:=List.length_map _;!hl:=W.len;@q0,e0,⟨c1,c2⟩,c3:=W.hd;@qz,ez,⟨d1,d2⟩,d3:=W.lst;!p0:=PP.pr q0 (List.mem_of_getElem? e0);!pz:=PP.pr qz (List.mem_of_getElem? ez);!R:∃u:TS,PSs (bV CX0 P w K mg base ["one","other","walk","square","part","k","side","ahead","pair"] "_law_walk" (ao (top 87)) f cdv A outer s H E).nox ((aT (top 87)).drop 3) u/\∀H1:Hp,Same H H1->u { nx:=λ_ H'=>Q .non H',rt:=Q } [some (.ref l1),some (.ref l2),some (.ref l),some (.ref z),some (.bl pt),none,none,none,none] H1:=by
   ¶_,(ag (cj PassesOwn.never rfl (ji rfl T.z_range (ad af (ad (aN aO (by rfl) T.z_len bX (ad ©2 ak)) ak))) (aQ (i:=5) EE.nd rfl (Or.inl rfl)) (am (cj PassesOwn.never rfl (dh rfl T.z_range (ad af ak)) (aQ (i:=6) EE.nd rfl (Or.inl rfl)) (ag (£7 EE (ax ap (ax aW ©2 (ay aP ©5 af) (λ_ _=>rfl)) ©6 (λ_ _=>rfl))) (am (aM (dw (bH (¢Do (ad (ax ap (ax aW ©2 ©5 (λ_ _=>rfl)) ©6 (λ_ _=>rfl)) (ad ©7 ak)))) (cZ (cE (bH (¢Eg (ad ©7 (ad (ax ap (ax aW ©2 ©5 (λ_ _=>rfl)) ©6 (λ_ _=>rfl)) ak))))))).pt (am (aB cW)) aI)))))) (ag (cj PassesOwn.never rfl (eG ©2) (aQ (i:=8) EE.nd rfl (Or.inl rfl)) (am (aM (bH (¢Do (ad ©3 (ad (¢D5 (ad ©0 (ad ©1 (ad ©8 ak)))) ak)))) (am (aB cW)) aI))) (am (aB cW)))),λH1 S1=>?_;!P1:=PP.mono S1;!e62:(2:Int)^62=4611686018427387904:= &
   ?^,l,^,.inl (SqL.of P1.lst),_,^;rw[hpl];¶by rw[e62];~,cU (n:=((ps.length:Int) - 1).toNat) (lo:=1) (λ_ σ H'=>∃z5 z6 z7,σ = [some (.ref l1),some (.ref l2),some (.ref l),some (.ref z),some (.bl pt),z5,z6,z7,none]/\H1=H') ⟨_,_,_,rfl,rfl⟩ ?_ ?_
   ·rintro i σ H' hi ⟨z5,z6,z7,rfl,rfl⟩
    !eu:=List.getElem?_eq_getElem (l:=ps) (i:=i) ~;!ev:=List.getElem?_eq_getElem (l:=ps) (i:=i+1) ~;generalize ps[i]=u at eu;generalize ps[i+1]=v at ev;!pu:=P1.pr u (List.mem_of_getElem? eu);!pv:=P1.pr v (List.mem_of_getElem? ev);!st:=W.st i u v eu ev;!au:atI (prs ps) (1+(i:Int) - 1)=some (.ref u.p):=by rw[show 1+(i:Int) - 1=(i:Int) by omega];#fV eu
    !av:atI (prs ps) (1+(i:Int))=some (.ref v.p):=by rw[show 1+(i:Int)=((i+1:Nat):Int) by omega];#fV ev
    !w:∀{x:Int},ar x<=5300->ar x<=50000:=λh=>aq h &;!w2:∀{x:Int},ar x<=5300->ar x<=5400:=λh=>aq h &;¶2,rfl,&,&,cU (n:=2) (lo:=0) (λ_ σ H'=>∃z6 z7,σ = [some (.ref l1),some (.ref l2),some (.ref l),some (.ref z),some (.bl pt),some (.int (1+(i:Int))),z6,z7,none]/\H1=H') ⟨_,_,rfl,rfl⟩ ?_ (λσ H' ⟨_,_,e,e'⟩=>⟨_,_,_,e,e'⟩);rintro s σ H' hs ⟨z6,z7,rfl,rfl⟩;obtain⟨x,y,a1,b1,a2,b2,ex,ey,hx,hy,f1,f2,f3,f4,n0,sc,ha,hb⟩:∃(x y:Addr) (a1 b1 a2 b2:Int),atI [V.ref u.x,.ref u.y] (0+(s:Int))=some (.ref x)/\atI [V.ref v.x,.ref v.y] (0+(s:Int))=some (.ref y)/\H1 x=some (.tup [.int a1,.int b1])/\H1 y=some (.tup [.int a2,.int b2])/\ar a1<=5300/\ar b1<=5300/\ar a2<=5300/\ar b2<=5300/\0<=a1/\StC a1 b1 a2 b2/\0<b1/\0<b2:=by
     !:s=0\/s=1:= ~
     rcases this with rfl|rfl
     ·§u.x,v.x,u.a,u.b,v.a,v.b,rfl,rfl,pu.x_,pv.x_,pu.ba,pu.bb,pv.ba,pv.bb,pu.nx,st.1,pu.lx.pos,pv.lx.pos
     ·§u.y,v.y,u.c,u.d,v.c,v.d,rfl,rfl,pu.y_,pv.y_,pu.bc,pu.bd,pv.bc,pv.bd,pu.ny,st.2,pu.ly.pos,pv.ly.pos
    ?^,^,%,l,_,%,SqL.of P1.lst,au,^,u.p,_,%,SqT.of pu.p_,ex;¶^,^,l,_,%,SqL.of P1.lst,av,^,v.p,_,%,SqT.of pv.p_,ey,^,y,x,a2,b2,a1,b1,rfl,hy,hx,⟨w f3,w f4,w f1,w f2⟩,^,aK (decide_eq_false (by !:=sc.1;~)) ?_;¶^,^,^,l,_,%,SqL.of P1.lst,av,^,v.p,_,%,SqT.of pv.p_,ey,x,y,a1,b1,a2,b2,rfl,hx,hy,⟨ha,hb,n0⟩,⟨w2 f1,w2 f2,w2 f3,w2 f4⟩,sc,^,aK rfl ⟨_,_,rfl,rfl⟩
   ·rintro σ H' ⟨z5,z6,z7,rfl,rfl⟩
    ¶^,l,rfl,⟨_,SqL.of P1.lst⟩,fQ (K:=K) (a:=l) (xs:=prs ps) (λi σ H'=>∃z8,σ = [some (.ref l1),some (.ref l2),some (.ref l),some (.ref z),some (.bl pt),z5,z6,z7,z8]/\Same H1 H') ⟨_,rfl,Same.refl _⟩ (λi σ H' _ ⟨_,_,s⟩=>SqL.of (s _ _ P1.lst)) ?_ ?_
    ·rintro i v σ H2 hv ⟨z8,rfl,s2⟩
     @q',hq,rfl:=ka hv;!mq:=List.mem_of_getElem? hq;!S2:=S1.trans s2;¶^,^,^,^,l1,l2,q',qs,rs,rfl,(PP.mono S2).pr q' mq,⟨(dB La).mono S2,h1,h20⟩,⟨(dB Lb).mono S2,g1,g20⟩,W.rg q' mq,λr H3 s3 f3 ⟨bp,bd⟩=>?_;!w:∀{x:Int} {n:Nat},ar x<=n->n<=300->ar x<=50000:=λh hn=>aq h ~;¶z,r,a,b,_,^,s3 _ _ (S2 _ _ sq.at_),f3,⟨w sq.ba &,w sq.bb &,bp,bd⟩,^,aK (decide_eq_false (by !:=W.sq q' mq;unfold okP at this;~)) ⟨_,rfl,s2.trans s3⟩
    ·rintro σ H2 ⟨z8,rfl,s2⟩
     #q H2 (S1.trans s2)
  @u,hu,hR:=R;?_,(ag (aM (cE (bH (¢DC (ad ©2 (ad ©0 (ad ©1 ak)))))) (am (aB cW)) aI) (ag (aM (dw (aE (gE hr.units10) (ax ap (ax aW ©2 af (λ_ _=>rfl)) af (λ_ _=>rfl)) (aJ (ad af (ad af ak))) (aG _)) (cZ (aE (gE hr.units10) (ax ap (ax aW ©2 (eM dn af) (λ_ _=>rfl)) af (λ_ _=>rfl)) (aJ (ad (ay aP (aN aO (by rfl) T.z_len bX (ad ©0 ak)) af) (ad af ak))) (aG _)))).pt (am (aB cW)) aI) (ag (aM (d8 (cE (bH ©4)) (eC (dw (aE (gE hr.units10) (ax ap (ax aW ©2 af (λ_ _=>rfl)) af (λ_ _=>rfl)) (aJ (ad af (ad af ak))) (aG _)) (cZ (aE (gE hr.units10) (ax ap (ax aW ©2 (eM dn af) (λ_ _=>rfl)) af (λ_ _=>rfl)) (aJ (ad (ay aP (aN aO (by rfl) T.z_len bX (ad ©1 ak)) af) (ad af ak))) (aG _)))).pt)).pt (am (aB cW)) aI) hu)));¶^,^,^,l1,l2,l,ps,_,^,PP,⟨~,~⟩,⟨La.lst,Lb.lst⟩,⟨by rw[hlq];~,by rw[hlr];~⟩,λq hq=>by rw[hlq,hlr];#W.rg q hq,^,aK rfl ?_;¶^,l,_,%,SqL.of PP.lst,fV (i:=0) e0,q0.p,_,%,SqT.of p0.p_,rfl,sz (by simp),λt1 H1 s1 f1 n1=>?_;¶_,_,dF (s1 _ _ p0.x_),dF f1,^,aK (by rw[c1,c2,dZ];rfl) ?_;!P1:=PP.mono s1;¶^,^,l,_,%,SqL.of P1.lst,j9 ez,qz.p,_,%,SqT.of (s1 _ _ pz.p_),rfl,^,l1,^,.inl (SqL.of (La.mono s1).lst),%,sz (by simp),λt2 H2 s2 f2 n2=>?_;rw[hlq]at f2;!S2:=s1.trans s2;¶_,_,dF (S2 _ _ pz.x_),dF f2,^,aK (by rw[d1,d2,dZ];rfl) ?_;cases pt with
  | true=>§^,^,aK rfl (hR H2 S2)
  | false =>
   @c3,c4:=c3 rfl;@d3,d4:=d3 rfl;!P2:=PP.mono S2;¶^,^,bM rfl ?_;¶^,l,_,%,SqL.of P2.lst,fV (i:=0) e0,q0.p,_,%,SqT.of (S2 _ _ p0.p_),rfl,sz (by simp),λt3 H3 s3 f3 n3=>?_;!S3:=S2.trans s3;¶_,_,dF (S3 _ _ p0.y_),dF f3,^,aK (by rw[c3,c4,dZ];rfl) ?_;!P3:=PP.mono S3;¶^,^,l,_,%,SqL.of P3.lst,j9 ez,qz.p,_,%,SqT.of (S3 _ _ pz.p_),rfl,^,l2,^,.inl (SqL.of (Lb.mono S3).lst),%,sz (by simp),λt4 H4 s4 f4 n4=>?_;rw[hlr]at f4;!S4:=S3.trans s4;¶_,_,dF (S4 _ _ pz.y_),dF f4,^,aK (by rw[d3,d4,dZ];rfl) ?_;#hR H4 S4
¦uR(qs:Crn)(c:Int×Int)(k:Nat)(tl bl th bh s w:Int):Prop:=(s=tl/\w=bl/\(k+1=qs.length\/∃u v,qs[k]? = some u/\qs[k+1]? = some v/\(leL u.2 v.2=0\/((k:Int)*leL u.2 v.2+leA c u.2 v.2)*bl<tl*leL u.2 v.2)))\/∃u v,qs[k]? = some u/\qs[k+1]? = some v/\0<leL u.2 v.2/\((s=th/\w=bh/\th*leL u.2 v.2<((k:Int)*leL u.2 v.2+leA c u.2 v.2)*bh)\/(s=(k:Int)*leL u.2 v.2+leA c u.2 v.2/\w=leL u.2 v.2/\¬s*bl<tl*w/\¬th*w<s*bh))
inductive IY (vs:List V) (H:Hp) (Q:VK) (x_3:XK):Prop
 | mk:∀(p l lo hi:Addr) (qs:Crn) (c:Int×Int) (k:Nat) (tl bl th bh:Int),(vs = [.ref p,.ref l,.ref lo,.ref hi])->(CnA H p c)->((LineAt H l qs/\qs.length<=20))->((H lo=some (.tup [.int tl,.int bl])/\H hi=some (.tup [.int th,.int bh])))->((0<bl/\0<bh/\0<=tl))->((ar tl<=5400/\ar bl<=5400/\ar th<=5400/\ar bh<=5400))->((tl / bl=(k:Int)/\k<qs.length))->((tl*bh<=th*bl/\th<=((qs.length:Int) - 1)*bh/\tl<=((qs.length:Int) - 1)*bl))->(∀(r:Addr) (s w:Int) H',Same H H'->H' r=some (.tup [.int (d7 c.1 c.2 1 (ptX qs s w) (ptY qs s w) w),.int (1*w*(1*w))])->(0<w/\ar w<=5400)->uR qs c k tl bl th bh s w->Q (.ref r) H')->IY vs H Q x_3
¤Dv:Dj ["corner","line","low","high","k","x","y","wide","tall","long","place"] ["corner","line","low","high"] (ao (top 86)):=smk
¤oy(HZ:Df K mg "_law_least" (top 86))(Do:Fn P w K mg base "_law_less" ["a","b"] 1 Gq)(DY:Fn P w K mg base "_law_apart" ["here","there"] 1 Ha)(DJ:Fn P w K mg base "_law_point" ["line","place"] 1 IU)(T:Txt mg):Fn P w K mg base "_law_least" ["corner","line","low","high"] 2 IY:=by
 refine HZ.fn Dv (λ_ _ _ _ _ _ us hl=>by @_,_,_,_,rfl:=rf hl;rfl) (λvs H Q E h=>?_) (λf cdv A outer s H vs Q E hr h=>?_)
 ·@p,l,lo,hi,qs,c,k,tl,bl,th,bh,rfl,_:=h
  rfl
 ·@p,l,lo,hi,qs,c,k,tl,bl,th,bh,rfl,hc,⟨L,h20⟩,⟨hlo,hhi⟩,⟨bl0,bh0,tl0⟩,⟨b1,b2,b3,b4⟩,⟨hk,kl⟩,⟨le,thm,tlm⟩,q:=h
  !hll:(qs.map λ(q:Addr×Int×Int)=>V.ref q.1).length=qs.length:=List.length_map _;!R:∃ww,PSs (bV CX0 P w K mg base ["corner","line","low","high","k","x","y","wide","tall","long","place"] "_law_least" (ao (top 86)) f cdv A outer s H E).nox ((aT (top 86)).drop 10) ww/\∀(pl:Addr) (t b:Int) (kv X Y W TT LL:Int) (H1:Hp),Same H H1->H1 pl=some (.tup [.int t,.int b])->(0<b/\ar b<=5400)->ar t<=5400->(0<=t/\t<=((qs.length:Int) - 1)*b)->uR qs c k tl bl th bh t b ->
    ww { nx:=λ_ H'=>Q .non H',rt:=Q } [some (.ref p),some (.ref l),some (.ref lo),some (.ref hi),some (.int kv),some (.int X),some (.int Y),some (.int W),some (.int TT),some (.int LL),some (.ref pl)] H1:=by
   ¶_,(am (aB (¢DY (ad (ay pF ©0 (aJ (ad af ak))) (ad (¢DJ (ad ©1 (ad ©10 ak))) ak))))),λpl t b kv X Y W TT LL H1 s1 e1 ⟨hb,bb⟩ bt tr pc=>?_;¶^,sz (by simp),λz H2 s2 f2 _=>?_;¶p,z,%,s2 _ _ (s1 _ _ hc.1),f2,⟨by simp,by simp⟩,sz (by simp),λz2 H3 s3 f3 _=>?_;!S3:=s1.trans (s2.trans s3);¶^,^,l,pl,qs,t,b,rfl,L.mono S3,⟨~,h20⟩,s3 _ _ (s2 _ _ e1),⟨hb,bb⟩,tr,bt,λz3 H4 s4 f4=>?_;!b50:∀{x:Int},ar x<=50->ar x<=5500:=λh=>aq h &;!pb:=gB L hb bb (t:=t);§z2,z3,c.1,c.2,1,ptX qs t b,ptY qs t b,b,rfl,s4 _ _ f3,f4,⟨b50 hc.2.1,b50 hc.2.2,&,pb.1,pb.2,aq bb &⟩,λr H5 s5 f5=>q r t b H5 (S3.trans (s4.trans s5)) f5 ⟨hb,bb⟩ pc
  @ww,hw,rw':=R;?_,(ag (£4 Dv (ay dA ®2 ®2)) (ag (aM (aE bP ©4 (ay aP (aN aO (by rfl) T.z_len bX (ad ©1 ak)) af) (aG _)) (am (aB (¢DY (ad (ay pF ©0 (aJ (ad af ak))) (ad (¢DJ (ad ©1 (ad ©2 ak))) ak))))) aI) (ag (jg (ax aW ©1 ©4 (λ_ _=>rfl)) (fe rfl (bK (aQ (i:=5) Dv.nd rfl (Or.inl rfl)) (bK (aQ (i:=6) Dv.nd rfl (Or.inl rfl)) dX)))) (ag (£7 Dv (ay aP (ax ap (ax aW ©1 (ay aS ©4 af) (λ_ _=>rfl)) af (λ_ _=>rfl)) ©5)) (ag (£8 Dv (ay aP (ax ap (ax aW ©1 (ay aS ©4 af) (λ_ _=>rfl)) af (λ_ _=>rfl)) ©6)) (ag (£9 Dv (ay aS (ay aF ©7 ©7) (ay aF ©8 ©8))) (ag (£10 Dv ©2) (ag (aM (aE mW ©9 af (aG _)) (am (£10 Dv (aJ (ad (ay aS (ay aS (ay aF ©4 ©9) (ay aF (ay aP ®0 ©5) ©7)) (ay aF (ay aP ®0 ©6) ©8)) (ad ©9 ak))))) aI) (ag (aM (bH (¢Do (ad ©10 (ad ©2 ak)))) (am (£10 Dv ©2)) aI) (ag (aM (bH (¢Do (ad ©3 (ad ©10 ak)))) (am (£10 Dv ©3)) aI) hw))))))))));?^,lo,_,%,SqT.of hlo,rfl,^,lo,_,%,SqT.of hlo,rfl,%,⟨bl0,aq b2 &⟩;dsimp only;rw[hk]
  by_cases hlast:k+1=qs.length
  ·¶^,^,l,^,.inl (SqL.of L.lst),%,rfl,^,bM (by rw[hll];simp;~) ?_
   ¶^,sz (by simp),λz H2 s2 f2 _=>?_;¶p,z,%,s2 _ _ hc.1,f2,⟨by simp,by simp⟩,sz (by simp),λz2 H3 s3 f3 _=>?_;!S3:=s2.trans s3;¶^,^,l,lo,qs,tl,bl,rfl,L.mono S3,⟨~,h20⟩,S3 _ _ hlo,⟨bl0,b2⟩,⟨tl0,tlm⟩,b1,λz3 H4 s4 f4=>?_;!b50:∀{x:Int},ar x<=50->ar x<=5500:=λh=>aq h &;!pb:=gB L bl0 b2 (t:=tl);§z2,z3,c.1,c.2,1,ptX qs tl bl,ptY qs tl bl,bl,rfl,s4 _ _ f3,f4,⟨b50 hc.2.1,b50 hc.2.2,&,pb.1,pb.2,aq b2 &⟩,λr H5 s5 f5=>q r tl bl H5 (S3.trans (s4.trans s5)) f5 ⟨bl0,b2⟩ (.inl ⟨rfl,rfl,.inl hlast⟩)
  obtain⟨u,hu⟩:∃u,qs[k]? = some u:=⟨qs[k]'~,List.getElem?_eq_getElem _⟩;obtain⟨v,hv⟩:∃v,qs[k+1]? = some v:=⟨qs[k+1]'~,List.getElem?_eq_getElem _⟩;!cu:=L.cnA hu;!cv:=L.cnA hv;!bL:=iN cu.2 cv.2;!bA:=lu hc.2 cu.2 cv.2;!nL:=wc u.2 v.2;¶^,^,l,^,.inl (SqL.of L.lst),%,rfl,^,aK (by rw[hll];simp;~) ?_;!au:atI (qs.map λ(q:Addr×Int×Int)=>V.ref q.1) (k:Int)=some (.ref u.1):=dD (by rw[List.getElem?_map,hu];rfl);!av:atI (qs.map λ(q:Addr×Int×Int)=>V.ref q.1) ((k:Int)+1)=some (.ref v.1):=dD (j:=k+1) (by rw[List.getElem?_map,hv];rfl);!bs:∀{x y:Int},ar x<=50->ar y<=50->ar (x - y)<=51:=λhx hy=>a9 hx hy;!cm:∀{a b c d:Int},ar a<=50->ar b<=50->ar c<=50->ar d<=50->CM (a - b) (c - d):=λh1 h2 h3 h4=>CM.b (bs h1 h2) (bs h3 h4) & &;?^,^,l,_,%,SqL.of L.lst,au,u.1,^,SqT.of cu.1,rfl,_,^,%;?^,^,%,l,_,%,SqL.of L.lst,av,v.1,_,%,SqT.of cv.1,rfl,^,%;?^,^,%,l,_,%,SqL.of L.lst,av,v.1,_,%,SqT.of cv.1,rfl,^,%;?^,^,%,cm cv.2.1 cu.2.1 cv.2.1 cu.2.1,^,^,%,cm cv.2.2 cu.2.2 cv.2.2 cu.2.2,%;dsimp only;rw[show(v.2.1 - u.2.1)*(v.2.1 - u.2.1)+(v.2.2 - u.2.2)*(v.2.2 - u.2.2)=leL u.2 v.2 from rfl];!kb:ar (k:Int)<=10:=cF ~ ~;!w5:∀{x:Int},ar x<=5400->ar x<=50000:=λh=>aq h &;!lowEnd:(leL u.2 v.2=0\/((k:Int)*leL u.2 v.2+leA c u.2 v.2)*bl<tl*leL u.2 v.2)->∀(kv X Y W TT LL:Int) (H':Hp),Same H H'->ww { nx:=λ_ H'=>Q .non H',rt:=Q } [some (.ref p),some (.ref l),some (.ref lo),some (.ref hi),some (.int kv),some (.int X),some (.int Y),some (.int W),some (.int TT),some (.int LL),some (.ref lo)] H':=λh kv X Y W TT LL H' s'=>rw' lo tl bl kv X Y W TT LL H' s' (s' _ _ hlo) ⟨bl0,b2⟩ b1 ⟨tl0,tlm⟩ (.inl ⟨rfl,rfl,.inr ⟨u,v,hu,hv,h⟩⟩);?^;¶^,%,^,aY (λc1=>?_) (λc1=>?_)
  ·!c1:leL u.2 v.2>0:=bZ c1
   ?^,^,%,CM.b kb bL & &,^,p,_,%,SqT.of hc.1,rfl,^,%,^,%,cm hc.2.1 cu.2.1 cv.2.1 cu.2.1,%,^,p,_,%,SqT.of hc.1,rfl,^,%,^,%,cm hc.2.2 cu.2.2 cv.2.2 cu.2.2,%,^;dsimp only;rw[show(k:Int)*leL u.2 v.2+(c.1 - u.2.1)*(v.2.1 - u.2.1)+(c.2 - u.2.2)*(v.2.2 - u.2.2)=(k:Int)*leL u.2 v.2+leA c u.2 v.2 by unfold leA;~];¶sz (by simp),λpl H1 s1 f1 _=>?_;!bt:ar ((k:Int)*leL u.2 v.2+leA c u.2 v.2)<=200:=aq (bT (n:=113) (bits_mul kb bL) (aq bA &)) &;!wt:ar ((k:Int)*leL u.2 v.2+leA c u.2 v.2)<=50000:=aq bt &;!wL:ar (leL u.2 v.2)<=50000:=aq bL &;¶^,^,pl,lo,_,_,_,^,f1,s1 _ _ hlo,⟨wt,wL,w5 b1,w5 b2⟩,^,aY (λc2=>?_) (λc2=>?_)
   ·!c2:=bZ c2
    ¶^,^,^,hi,lo,_,_,_,^,s1 _ _ hhi,s1 _ _ hlo,⟨w5 b3,w5 b4,w5 b1,w5 b2⟩,^,aK (decide_eq_false ~) ?_;#lowEnd (.inr c2) _ _ _ _ _ _ H1 s1
   ·!c2:=cJ c2
    ¶^,^,hi,pl,_,_,_,^,s1 _ _ hhi,f1,⟨w5 b3,w5 b4,wt,wL⟩,^,aY (λc3=>?_) (λc3=>?_)
    ·!c3:=bZ c3
     !th0:0<=th:=by
      rcases Int.lt_or_le th 0 with y|y
      ·!:=Int.mul_neg_of_neg_of_pos y bl0
       !:=Int.mul_nonneg tl0 (Int.le_of_lt bh0);~
      ·#y
     §^,rw' hi th bh _ _ _ _ _ _ H1 s1 (s1 _ _ hhi) ⟨bh0,b4⟩ b3 ⟨th0,thm⟩ (.inr ⟨u,v,hu,hv,c1,.inl ⟨rfl,rfl,c3⟩⟩)
    ·!c3:=cJ c3
     refine rw' pl _ (leL u.2 v.2) _ _ _ _ _ _ H1 s1 f1 ⟨~,aq bL &⟩ (aq bt &) ⟨?_,?_⟩ (.inr ⟨u,v,hu,hv,c1,.inr ⟨rfl,rfl,c2,c3⟩⟩)
     ·rcases Int.lt_or_le ((k:Int)*leL u.2 v.2+leA c u.2 v.2) 0 with y|y
      ·!:=Int.mul_neg_of_neg_of_pos y bl0
       !:=Int.mul_nonneg tl0 nL;~
      ·#y
     ·!h1:=Int.mul_le_mul_of_nonneg_right thm nL
      !e:((qs.length:Int) - 1)*bh*leL u.2 v.2=((qs.length:Int) - 1)*leL u.2 v.2*bh:=by grind
      rw[e]at h1;#Int.le_of_mul_le_mul_right (Int.le_trans (show((k:Int)*leL u.2 v.2+leA c u.2 v.2)*bh<=th*leL u.2 v.2 by omega) h1) bh0
  ·!c1:¬leL u.2 v.2>0:=cJ c1
   ¶^,^,lo,lo,_,_,_,^,hlo,hlo,⟨w5 b1,w5 b2,w5 b1,w5 b2⟩,^,aK (decide_eq_false ~) ?_;¶^,^,hi,lo,_,_,_,^,hhi,hlo,⟨w5 b3,w5 b4,w5 b1,w5 b2⟩,^,aK (decide_eq_false ~) ?_;#lowEnd (.inl ~) _ _ _ _ _ _ H (Same.refl _)
¤zC{qs:Crn}{k:Nat}{u:Addr×Int×Int}(h:qs[k]? = some u):cr qs k=u.2:=by
 unfold cr;rw[List.getD_eq_getElem?_getD,h];rfl
¦SqA(H:Hp)(a b:Int)(y:V):Prop:=∃(p:Addr) (t u:Int),y = .ref p/\H p=some (.tup [.int t,.int u])/\(ar t<=50000/\ar u<=50000)/\a*u<t*b
¤SqA.t{H H':Hp}{a b:Int}{y:V}(h:SqA H a b y)(s:SameT H H'):SqA H' a b y:=let ⟨p,t,u,e,f,k⟩:=h;⟨p,t,u,e,s _ _ f,k⟩
inductive JE (vs:List V) (H:Hp) (Q:VK) (x_3:XK):Prop
 | mk:∀(l1 l2:Addr) (u v:Pr) (qs rs:Crn) (a b:Int),(vs = [.ref l1,.ref l2,.ref u.p,.ref v.p])->((Iv H u/\Iv H v))->((LineAt H l1 qs/\qs.length<=20))->((LineAt H l2 rs/\rs.length<=20))->((InL qs.length rs.length u/\InL qs.length rs.length v))->(FSt qs rs a b u v)->(∀(r:Addr) (ys:List V) H',Same H H'->H' r=some (.lst ys)->ys.length<=1->(∀y∈ys,SqA H' a b y)->Q (.ref r) H')->JE vs H Q x_3
¤Ab{qs:Crn}{c:Int×Int}{k:Nat}{tl bl th bh s w:Int}(h:uR qs c k tl bl th bh s w)(le:tl*bh<=th*bl):tl*w<=s*bl/\s*bh<=th*w:=by
 rcases h with⟨rfl,rfl,_⟩|⟨_,_,_,_,_,⟨rfl,rfl,_⟩|⟨_,_,h1,h2⟩⟩
 ·§Int.le_refl _,le
 ·§le,Int.le_refl _
 ·§~,(~)
¤yx{a b c d:Int}(h:¬(a=c/\b=d)):deq (.tup [.int a,.int b]) (.tup [.int c,.int d])=false:=by
 rw[AX,Bool.and_eq_false_iff,decide_eq_false_iff_not,decide_eq_false_iff_not];~
¤wJ{H H':Hp}{l r:Addr}{rs:Crn}{c:Int×Int}{a b tl bl th bh s w:Int}{k:Nat}(L:LineAt H l rs)(cb:Cb c)(F:Bj c rs a b tl bl th bh)(le:tl*bh<=th*bl)(e:H' r=some (.tup [.int (d7 c.1 c.2 1 (ptX rs s w) (ptY rs s w) w),.int (1*w*(1*w))]))(hw:0<w/\ar w<=5400)(p:uR rs c k tl bl th bh s w):SqA H' a b (.ref r):=by
 !b50:∀{x:Int},ar x<=50->ar x<=5500:=λh=>aq h &;!pb:=gB L hw.1 hw.2 (t:=s);!w5:=aq hw.2 (show 5400<=5500 by decide);@h1,h2:=Ab p le;?r,_,^,e,⟨tS (b50 cb.1) (b50 cb.2) & pb.1 pb.2 w5,?_⟩
 ·rw[Int.one_mul]
  #aq (bits_mul hw.2 hw.2) &
 ·rw[Int.one_mul]
  #F s w hw.1 h1 h2
¤wP{t b:Int}{m:Nat}(hb:0<b)(h0:0<=t)(h:t<=((m:Int) - 1)*b)(hm:1<=m):t / b=((t / b).toNat:Int)/\(t / b).toNat<m:=by
 !h1:=Int.ediv_nonneg h0 (Int.le_of_lt hb);!h2:t / b<=(m:Int) - 1:=Int.ediv_le_of_le_mul hb h;~
¤sO{t b:Int}{m:Nat}(h0:0<=t)(hb:0<b)(h:t<=((m:Int) - 1)*b):1<=m:=by
 rcases Nat.eq_zero_or_pos m with z|z
 ·subst z
  ~
 ·#z
¤BV{X:Prop}[Decidable X](h:(!decide X)=true):¬X:=by rw[Bool.not_eq_true',decide_eq_false_iff_not]at h;#h
¤zf{X:Prop}[Decidable X](h:(!decide X)=false):X:=by rw[Bool.not_eq_false',decide_eq_true_eq]at h;#h
¤Ee:Dj ["one","other","ahead","here","x","y","a","b"] ["one","other","ahead","here"] (ao (top 88)):=smk
¤lK(GR:Df K mg "_law_between" (top 88))(Do:Fn P w K mg base "_law_less" ["a","b"] 1 Gq)(Eg:Fn P w K mg base "_law_near" ["a","b"] 2 IW)(DX:Fn P w K mg base "_law_least" ["corner","line","low","high"] 2 IY)(T:Txt mg):Fn P w K mg base "_law_between" ["one","other","ahead","here"] 4 JE:=by
 refine GR.fn Ee (λ_ _ _ _ _ _ us hl=>by @_,_,_,_,rfl:=rf hl;rfl) (λvs H Q E h=>?_) (λf cdv A outer s H vs Q E hr h=>?_)
 ·@l1,l2,u,v,qs,rs,a,b,rfl,_:=h
  rfl
 ·@l1,l2,u,v,qs,rs,a,b,rfl,⟨gu,gv⟩,⟨L1,q20⟩,⟨L2',r20⟩,⟨⟨⟨ua0,ua1⟩,uc0,uc1⟩,⟨va0,va1⟩,vc0,vc1⟩,F,k:=h
  !wi:∀{x:Int},ar x<=5300->ar x<=50000:=λh=>aq h &;!w2:∀{x:Int},ar x<=5300->ar x<=5400:=λh=>aq h &;!ub:=gu.lx.pos;!ud:=gu.ly.pos;!vb:=gv.lx.pos;!vd:=gv.ly.pos;!R:∃ww:TS,PSs (bV CX0 P w K mg base ["one","other","ahead","here","x","y","a","b"] "_law_between" (ao (top 88)) f cdv A outer s H E).nox ((aT (top 88)).drop 3) ww/\∀H1:Hp,Same H H1->¬Bak u v->ww { nx:=λ_ H'=>Q .non H',rt:=Q } [some (.ref l1),some (.ref l2),some (.ref u.p),some (.ref v.p),some (.ref u.x),some (.ref u.y),some (.ref v.x),some (.ref v.y)] H1:=by
   ¶_,(ag (aM (d8 (aE (vJ hr.units10) ©6 ©4 (aG _)) (d8 (aE bP ®4 af (aG _)) (eC (bH (¢Eg (ad ©7 (ad ©5 ak))))))).pt (am (aB (bU (ad (¢DX (ad (ax aW ©0 ®4 (λ_ _=>rfl)) (ad ©1 (ad ©7 (ad ©5 ak))))) ak)))) aI) (ag (aM (d8 (aE (vJ hr.units10) ©7 ©5 (aG _)) (d8 (aE bP ®5 af (aG _)) (eC (bH (¢Eg (ad ©4 (ad ©6 ak))))))).pt (am (aB (bU (ad (¢DX (ad (ax aW ©1 ®5 (λ_ _=>rfl)) (ad ©0 (ad ©4 (ad ©6 ak))))) ak)))) aI) (am (aB bI)))),λH1 S1 nb=>?_;!M1:=L1.mono S1;!M2:=L2'.mono S1;!qu:Iv H1 u:=gu.t S1.t;!qv:Iv H1 v:=gv.t S1.t;rcases F with h|⟨i,hi,⟨e1,e2,e3,e4⟩,⟨j,j1,j2⟩,le,far⟩|⟨j,hj,⟨e1,e2,e3,e4⟩,⟨i,i1,i2⟩,le,far⟩
   ·#(nb h).elim
   ·!hx:H1 u.x=some (.tup [.int ((i:Nat):Int),.int 1]):=by rw[<- e1,<- e2];#qu.x_
    obtain⟨z,hz⟩:∃z,qs[i]? = some z:=⟨qs[i],List.getElem?_eq_getElem hi⟩;!cz:=M1.cnA hz;!ez:=zC hz;rw[ez]at far;!az:atI (qs.map λ(q:Addr×Int×Int)=>V.ref q.1) ((i:Nat):Int)=some (.ref z.1):=dD (by rw[List.getElem?_map,hz];rfl);¶^,^,_,_,dF qv.x_,dF qu.x_,^,bM (by rw[e1,e2,e3,e4,dZ];rfl) ?_;¶^,u.x,_,%,SqT.of hx,rfl,rfl,^,bM rfl ?_;¶^,^,v.y,u.y,v.c,v.d,u.c,u.d,rfl,qv.y_,qu.y_,⟨vd,ud,vc0⟩,⟨w2 qv.bc,w2 qv.bd,w2 qu.bc,w2 qu.bd⟩,⟨le,j,j1,j2⟩,^,bM rfl ?_;!kd:=wP (m:=rs.length) vd vc0 vc1 (sO vc0 vd vc1);¶^,^,u.x,_,%,SqT.of hx,rfl,l1,_,%,SqL.of M1.lst,az,^,^,^,z.1,l2,v.y,u.y,rs,z.2,(v.c / v.d).toNat,v.c,v.d,u.c,u.d,rfl,cz,⟨M2,r20⟩,⟨qv.y_,qu.y_⟩,⟨vd,ud,vc0⟩,⟨w2 qv.bc,w2 qv.bd,w2 qu.bc,w2 qu.bd⟩,kd,⟨le,uc1,vc1⟩,λr s y H2 s2 f2 hy pc=>?_;!sq:=wJ M2 cz.2 far le f2 hy pc;¶sz (by simp),λp H3 s3 f3 n3=>k p _ H3 (S1.trans (s2.trans s3)) f3 (by simp) λy hy=>?_;rw[List.mem_singleton.mp hy];#sq.t s3.t
   ·!hx:H1 u.y=some (.tup [.int ((j:Nat):Int),.int 1]):=by rw[<- e1,<- e2];#qu.y_
    obtain⟨z,hz⟩:∃z,rs[j]? = some z:=⟨rs[j],List.getElem?_eq_getElem hj⟩;!cz:=M2.cnA hz;!ez:=zC hz;rw[ez]at far;!az:atI (rs.map λ(q:Addr×Int×Int)=>V.ref q.1) ((j:Nat):Int)=some (.ref z.1):=dD (by rw[List.getElem?_map,hz];rfl);!nd:¬(v.a=u.a/\v.b=u.b):=λz=>nb ⟨by rw[z.1,z.2];#Int.le_refl _,by rw[e1,e2,e3,e4];#Int.le_refl _⟩;¶^,^,_,_,dF qv.x_,dF qu.x_,^,aK (by rw[yx nd];rfl) ?_;¶^,^,_,_,dF qv.y_,dF qu.y_,^,bM (by rw[e1,e2,e3,e4,dZ];rfl) ?_;¶^,u.y,_,%,SqT.of hx,rfl,rfl,^,bM rfl ?_;¶^,^,u.x,v.x,u.a,u.b,v.a,v.b,rfl,qu.x_,qv.x_,⟨ub,vb,ua0⟩,⟨w2 qu.ba,w2 qu.bb,w2 qv.ba,w2 qv.bb⟩,⟨le,i,i1,i2⟩,^,bM rfl ?_;!kd:=wP (m:=qs.length) ub ua0 ua1 (sO ua0 ub ua1);¶^,^,u.y,_,%,SqT.of hx,rfl,l2,_,%,SqL.of M2.lst,az,^,^,^,z.1,l1,u.x,v.x,qs,z.2,(u.a / u.b).toNat,u.a,u.b,v.a,v.b,rfl,cz,⟨M1,q20⟩,⟨qu.x_,qv.x_⟩,⟨ub,vb,ua0⟩,⟨w2 qu.ba,w2 qu.bb,w2 qv.ba,w2 qv.bb⟩,kd,⟨le,va1,ua1⟩,λr s y H2 s2 f2 hy pc=>?_;!sq:=wJ M1 cz.2 far le f2 hy pc;¶sz (by simp),λp H3 s3 f3 n3=>k p _ H3 (S1.trans (s2.trans s3)) f3 (by simp) λy hy=>?_;rw[List.mem_singleton.mp hy];#sq.t s3.t
  @ww,hw,hR:=R;?_,(ag (jg ©2 (fe rfl (bK (aQ (i:=4) Ee.nd rfl (Or.inl rfl)) (bK (aQ (i:=5) Ee.nd rfl (Or.inl rfl)) dX)))) (ag (jg ©3 (fe rfl (bK (aQ (i:=6) Ee.nd rfl (Or.inl rfl)) (bK (aQ (i:=7) Ee.nd rfl (Or.inl rfl)) dX)))) (ag (aM (d8 (cE (bH (¢Do (ad ©4 (ad ©6 ak))))) (eC (cE (bH (¢Do (ad ©7 (ad ©5 ak))))))).pt (am (aB (bU ak))) aI) hw)));?^,u.p,^,SqT.of gu.p_,rfl,_,^,%;?^,v.p,^,SqT.of gv.p_,rfl,_,^,%;¶^,^,u.x,v.x,_,_,_,^,gu.x_,gv.x_,⟨wi gu.ba,wi gu.bb,wi gv.ba,wi gv.bb⟩,^,aY (λc1=>?_) (λc1=>?_)
  ·!c1:=BV c1
   ¶^,^,v.y,u.y,_,_,_,^,gv.y_,gu.y_,⟨wi gv.bc,wi gv.bd,wi gu.bc,wi gu.bd⟩,^,aY (λc2=>?_) (λc2=>?_)
   ·§sz (by simp),λp H1 s1 f1 n1=>k p [] H1 s1 f1 (by simp) λy hy=>nomatch hy
   ·#hR H (Same.refl _) λz=>by !:=zf c2;!:=z.2;~
  ·#hR H (Same.refl _) λz=>by !:=zf c1;!:=z.1;~
inductive JB (vs:List V) (H:Hp) (Q:VK) (x_3:XK):Prop
 | mk:∀(l1 l2 l:Addr) (qs rs:Crn) (ps:List Pr) (a b:Int) (pt:Bool),(vs = [.ref l1,.ref l2,.ref l,.bl pt])->((LineM H l1 qs/\LineM H l2 rs))->(((1<=qs.length/\qs.length<=20)/\1<=rs.length/\rs.length<=20))->(Iw H l ps)->(KN qs rs a b (pt=false) ps)->(∀(r:Addr) (ys:List V) H',Same H H'->H' r=some (.lst ys)->ys.length<=700->(∀y∈ys,SqA H' a b y)->Q (.ref r) H')->JB vs H Q x_3
inductive K6 (l1 l2 l pn pm r:Addr) (pt:Bool) (a b:Int) (H:Hp) (n:Nat) (σ:St) (H':Hp):Prop
 | mk (ys:List V) (z7 z8:Option V) (e:σ = [some (.ref l1),some (.ref l2),some (.ref l),some (.bl pt),some (.ref pn),some (.ref pm),some (.ref r),z7,z8]) (s:Same H H') (f:H' r=some (.lst ys)) (len:ys.length<=n) (sq:∀y∈ys,SqA H' a b y):K6 l1 l2 l pn pm r pt a b H n σ H'
¤tF{a b c d:Int}(h:(!deq (.tup [.int a,.int b]) (.tup [.int c,.int d]))=true):¬(a=c/\b=d):=λz=>by
 rw[z.1,z.2,dZ]at h;cases h
¤vP{a b c d:Int}(h1:a=c)(h2:b=d):(!deq (.tup [.int a,.int b]) (.tup [.int c,.int d]))=false:=by
 rw[h1,h2,dZ];rfl
¤Eh:Dj ["one","other","fence","part","n","m","found","k","between"] ["one","other","fence","part"] (ao (top 89)):=smk
¤oA(Ib:Df K mg "_law_fence" (top 89))(DC:Fn P w K mg base "_law_are_pairs" ["thing","one","other"] 4 G9)(D5:Fn P w K mg base "_law_square" ["one","other","pair"] 2 IQ)(EW:Fn P w K mg base "_law_between" ["one","other","ahead","here"] 4 JE)(T:Txt mg):Fn P w K mg base "_law_fence" ["one","other","fence","part"] 5 JB:=by
 refine Ib.fn Eh (λ_ _ _ _ _ _ us hl=>by @_,_,_,_,rfl:=rf hl;rfl) (λvs H Q E h=>?_) (λf cdv A outer s H vs Q E hr h=>?_)
 ·@l1,l2,l,qs,rs,ps,a,b,pt,rfl,_:=h
  rfl
 ·@l1,l2,l,qs,rs,ps,a,b,pt,rfl,⟨La,Lb⟩,⟨⟨h1,h20⟩,g1,g20⟩,PP,W,q:=h
  !CN:Ff (bV CX0 P w K mg base ["one","other","fence","part","n","m","found","k","between"] "_law_fence" (ao (top 89)) f cdv A outer s H E).nox (lcA (top 89) 0) [("other",s.heap.objs.size+2),("one",s.heap.objs.size+1)] "pair" [("one",0),("other",1)] :=
   ⟨by rfl,rfl,by decide +kernel,by decide +kernel,rfl,(λp hp=>by simp only[List.mem_cons,List.not_mem_nil,or_false]at hp;rcases hp with rfl|rfl <;> #rfl),by rfl,by decide +kernel,(λp hp=>by simp only[List.mem_cons,List.not_mem_nil,or_false]at hp;rcases hp with rfl|rfl <;> §rfl,rfl,.inr (.inl rfl),rfl,rfl),⟨rfl,rfl⟩,rfl⟩
  !hpl:(prs ps).length=ps.length:=dW ps;!hlq:(qs.map λ(q:Addr×Int×Int)=>V.ref q.1).length=qs.length:=List.length_map _;!hlr:(rs.map λ(q:Addr×Int×Int)=>V.ref q.1).length=rs.length:=List.length_map _;!hl:=W.len;!R5:∃uu:TS,PSs (bV CX0 P w K mg base ["one","other","fence","part","n","m","found","k","between"] "_law_fence" (ao (top 89)) f cdv A outer s H E).nox ((aT (top 89)).drop 5) uu/\∀(pn pm:Addr) (H1:Hp),Same H H1->uu { nx:=λ_ H'=>Q .non H',rt:=Q } [some (.ref l1),some (.ref l2),some (.ref l),some (.bl pt),some (.ref pn),some (.ref pm),none,none,none] H1:=by
   ¶_,(ag (o5 (j:=6) rfl CN Eh.nd rfl rfl (eG ©2) (λfp s₀ H₀=>(¢D5 (ad ©1 (ad ©2 (ad ©0 ak)))))) (ag (cj PassesOwn.never rfl (ji rfl T.z_range (ad af (ad (aN aO (by rfl) T.z_len bX (ad ©2 ak)) ak))) (aQ (i:=7) Eh.nd rfl (Or.inl rfl)) (ag (£8 Eh (¢EW (ad ©0 (ad ©1 (ad (ax aW ©2 (ay aP ©7 af) (λ_ _=>rfl)) (ad (ax aW ©2 ©7 (λ_ _=>rfl)) ak)))))) (ag (aM (aE fW ©8 bI (aG _)) (am (aB bI)) aI) (am (cH (fF PySem.F.plainAttrs_list PySem.F.slot_list_extend PySem.F.type_list_extend k8 ©6 (ad ©8 ak))))))) (am (aB ©6)))),λpn pm H1 S1=>?_;!P1:=PP.mono S1;¶^,l,rfl,⟨_,SqL.of P1.lst⟩,rG (SqL.of P1.lst) (by rw[hpl];~) (λi v H'=>SqA H' a b v) (λi v H H' st e=>e.t st) ?_ ?_
   ·intro i x H2 Kc hx s2 kk
    @q',hq,rfl:=ka hx;!mq:=List.mem_of_getElem? hq;!S2:=S1.trans s2;¶^,^,^,l1,l2,q',qs,rs,rfl,(PP.mono S2).pr q' mq,⟨(dB La).mono S2,h1,h20⟩,⟨(dB Lb).mono S2,g1,g20⟩,W.rg q' mq,λr H3 s3 f3 bb=>?_;#kk _ H3 s3 ⟨r,_,_,rfl,f3,bb,W.sq q' mq⟩
   ·intro r zs H2 nr s2 f2 hlz hz
    rw[hpl]at hlz;!S2:=S1.trans s2;!P2:=PP.mono S2;!hr:H r=none:=S1.free nr;!e62:(2:Int)^62=4611686018427387904:= &
    ?^,l,^,.inl (SqL.of P2.lst),_,^;rw[hpl];¶by rw[e62];~,cU (n:=((ps.length:Int) - 1).toNat) (lo:=1) (λi=>K6 l1 l2 l pn pm r pt a b H (ps.length+i)) ⟨zs,_,_,rfl,S2,f2,~,λy hy=>?_⟩ ?_ ?_
    ·@i,hi:=List.mem_iff_getElem?.mp hy
     #hz i y hi
    ·rintro i σ H7 hi ⟨ys,z7,z8,rfl,S7,f7,l7,sq7⟩
     !P7:=PP.mono S7;!eu:=List.getElem?_eq_getElem (l:=ps) (i:=i) ~;!ev:=List.getElem?_eq_getElem (l:=ps) (i:=i+1) ~;generalize ps[i]=u at eu;generalize ps[i+1]=v at ev;!mu:=List.mem_of_getElem? eu;!mv:=List.mem_of_getElem? ev;!au:atI (prs ps) (1+(i:Int) - 1)=some (.ref u.p):=by rw[show 1+(i:Int) - 1=(i:Int) by omega];#fV eu
     !av:atI (prs ps) (1+(i:Int))=some (.ref v.p):=by rw[show 1+(i:Int)=((i+1:Nat):Int) by omega];#fV ev
     ¶^,^,^,^,%,l,_,%,SqL.of P7.lst,au,^,^,l,_,%,SqL.of P7.lst,av,l1,l2,u,v,qs,rs,a,b,rfl,⟨P7.pr u mu,P7.pr v mv⟩,⟨(dB La).mono S7,h20⟩,⟨(dB Lb).mono S7,g20⟩,⟨W.rg u mu,W.rg v mv⟩,W.st i u v eu ev,λrb zs H8 s8 f8 lz sz8=>?_;¶^,rfl,^,aK rfl ?_;!f78:=s8 _ _ f7;¶^,.inl ⟨rfl,_,SqL.of f78⟩,^,r,rb,%,f78,f8,Nat.le_of_lt (bJ ~),λH9 u9=>⟨ys++zs,_,_,rfl,u9.same (S7.trans s8) hr,u9.now,by rw[List.length_append];~,λy hy=>?_⟩;rcases List.mem_append.mp hy with hy|hy
     ·#(sq7 y hy).t (s8.t.trans u9.t)
     ·#(sz8 y hy).t u9.t
    ·rintro σ H7 ⟨ys,z7,z8,rfl,S7,f7,l7,sq7⟩
     §^,q r ys H7 S7 f7 ~ sq7
  @u5,hu5,h5:=R5;!R4:∃uu:TS,PSs (bV CX0 P w K mg base ["one","other","fence","part","n","m","found","k","between"] "_law_fence" (ao (top 89)) f cdv A outer s H E).nox ((aT (top 89)).drop 4) uu/\∀(pn pm:Addr) (H1:Hp),Same H H1->H1 pn=some (.tup [.int ((qs.length:Int) - 1),.int 1])->uu { nx:=λ_ H'=>Q .non H',rt:=Q } [some (.ref l1),some (.ref l2),some (.ref l),some (.bl pt),some (.ref pn),some (.ref pm),none,none,none] H1:=by
   ¶_,ag (aM (d8 (aE (gE hr.units10) (ax ap (ax aW ©2 (eM dn af) (λ_ _=>rfl)) af (λ_ _=>rfl)) (aJ (ad af (ad af ak))) (aG _)) (eC (dw (bH ©3) (cZ (aE (gE hr.units10) (ax ap (ax aW ©2 (eM dn af) (λ_ _=>rfl)) af (λ_ _=>rfl)) ©4 (aG _)))).pt)).pt (am (aB bI)) aI) hu5,λpn pm H1 S1 en=>?_;@qz,ez,dz:=W.lst;!mz:=List.mem_of_getElem? ez;!P1:=PP.mono S1;!pz:=P1.pr qz mz;¶^,^,l,_,%,SqL.of P1.lst,j9 ez,qz.p,_,%,SqT.of pz.p_,rfl,sz (by simp),λt2 H2 s2 f2 n2=>?_;!P2:=P1.mono s2;!pz2:=P2.pr qz mz;!S2:=S1.trans s2;¶_,_,dF pz2.y_,dF f2,^,aY (λc=>?_) (λc=>h5 pn pm H2 S2);@z1,z2,z3:=dz.resolve_left (tF c);¶^,^,aK z1 ?_;¶^,^,l,_,%,SqL.of P2.lst,j9 ez,qz.p,_,%,SqT.of pz2.p_,rfl,^,_,_,dF pz2.x_,dF (s2 _ _ en),^,aK (vP z2 z3) (h5 pn pm H2 S2)
  @u4,hu4,h4:=R4;?_,(ag (aM (cE (bH (¢DC (ad ©2 (ad ©0 (ad ©1 ak)))))) (am (aB bI)) aI) (ag (£4 Eh (aJ (ad (ay aP (aN aO (by rfl) T.z_len bX (ad ©0 ak)) af) (ad af ak)))) (ag (£5 Eh (aJ (ad (ay aP (aN aO (by rfl) T.z_len bX (ad ©1 ak)) af) (ad af ak)))) (ag (aM (d8 (aE (gE hr.units10) (ax ap (ax aW ©2 af (λ_ _=>rfl)) af (λ_ _=>rfl)) ©5 (aG _)) (eC (dw (bH ©3) (cZ (aE (gE hr.units10) (ax ap (ax aW ©2 af (λ_ _=>rfl)) af (λ_ _=>rfl)) (aJ (ad af (ad af ak))) (aG _)))).pt)).pt (am (aB bI)) aI) hu4))));¶^,^,^,l1,l2,l,ps,_,^,PP,⟨~,~⟩,⟨La.lst,Lb.lst⟩,⟨by rw[hlq];~,by rw[hlr];~⟩,λq hq=>by rw[hlq,hlr];#W.rg q hq,^,aK rfl ?_;¶^,l1,^,.inl (SqL.of La.lst),%,sz (by simp),λpn H1 s1 f1 n1=>?_;rw[hlq]at f1;¶^,l2,^,.inl (SqL.of (Lb.mono s1).lst),%,sz (by simp),λpm H2 s2 f2 n2=>?_;rw[hlr]at f2;!S2:=s1.trans s2;!P2:=PP.mono S2;@q0,e0,d0:=W.hd;!p0:=P2.pr q0 (List.mem_of_getElem? e0);!en:=s2 _ _ f1;¶^,l,_,%,SqL.of P2.lst,fV (i:=0) e0,q0.p,_,%,SqT.of p0.p_,rfl,^,_,_,dF p0.y_,dF f2,^,aY (λc=>?_) (λc=>h4 pn pm H2 S2 en);@z1,z2,z3:=d0.resolve_left (tF c);¶^,^,aK z1 ?_;¶^,l,_,%,SqL.of P2.lst,fV (i:=0) e0,q0.p,_,%,SqT.of p0.p_,rfl,sz (by simp),λt3 H3 s3 f3 n3=>?_;§_,_,dF (s3 _ _ p0.x_),dF f3,^,aK (vP z2 z3) (h4 pn pm H3 (S2.trans s3) (s3 _ _ en))
¤xg{qs:Crn}{c:Int×Int}{t b:Int}{k:Nat}{u v:Addr×Int×Int}(hb:0<b)(hu:qs[k]? = some u)(hv:qs[k+1]? = some v)(h1:(k:Int)*b<=t)(h2:t<=((k:Int)+1)*b) :
  d7 c.1 c.2 1 (ptX qs t b) (ptY qs t b) b=b*b*sqI c u.2 - 2*b*(t - (k:Int)*b)*leA c u.2 v.2+(t - (k:Int)*b)*(t - (k:Int)*b)*leL u.2 v.2:=by
 !hk:=(List.getElem?_eq_some_iff.mp hv).1;rw[vB hb hk h1 h2,vA hb hk h1 h2,(tM hu).1,(tM hu).2,(tM hv).1,(tM hv).2];unfold d7 sqI leA leL;generalize t - (k:Int)*b=w
 grind
¤zp{c x y:Int×Int}(h:Cb c)(h1:Cb x)(h2:Cb y):ar (leF c x y).1<=208/\ar (leF c x y).2<=103:=by
 unfold leF
 split
 ·§aq (gz h h1) &,(by decide:ar 1<=103)
 ·split
  ·§aq (gz h h2) &,(by decide:ar 1<=103)
  ·§aq (a9 (bits_mul (gz h h1) (iN h1 h2)) (bits_mul (lu h h1 h2) (lu h h1 h2))) &,iN h1 h2
¤xh(X Y b X' Y' b':Int):0<=d7 X Y b X' Y' b':=by
 unfold d7;!h1:0<=(X*b' - X'*b)*(X*b' - X'*b):=kj ~;!h2:0<=(Y*b' - Y'*b)*(Y*b' - Y'*b):=kj ~;~
¤yO{N D A B:Int}(hN:0<=N)(hB:0<B)(e:N*B=A*D)(bA:ar A<=208)(bD:ar D<=300):ar N<=900:=by
 !h:=Int.mul_le_mul_of_nonneg_left (show 1<=B by omega) hN;rw[Int.mul_one,e]at h;#aq (de hN h (bits_mul bA bD)) &
¤Ac{rs:Crn}{c:Int×Int}{k k':Nat}{u v:Addr×Int×Int}{s w:Int}(cu:Cb u.2)(cv:Cb v.2)(hu:rs[k]? = some u)(hv:rs[k']? = some v)(hkk:(k'=k/\k+1=rs.length)\/k'=k+1)(pc:uR rs c k (k:Int) 1 (k':Int) 1 s w):d7 c.1 c.2 1 (ptX rs s w) (ptY rs s w) w*(leF c u.2 v.2).2=(leF c u.2 v.2).1*(1*w*(1*w))/\ar w<=103:=by
 !iv:=(List.getElem?_eq_some_iff.mp hv).1;rcases pc with⟨rfl,rfl,h⟩|⟨u',v',hu',hv',h0,h⟩
 ·¶?_,(&)
  rcases hkk with⟨rfl,hl⟩|rfl
  ·obtain rfl:u=v:=Option.some.inj (hu.symm.trans hv)
   !ex:ptX rs (k':Int) 1=u.2.1/\ptY rs (k':Int) 1=u.2.2:=by
    unfold ptX ptY Sp11.numAt;rw[vz (t:=(k':Int)) (b:=1) (u:=u) (by rw[Int.ediv_one,Int.toNat_natCast];#hu),Int.emod_one];~
   !eF:leF c u.2 u.2=(sqI c u.2,1):=by
    unfold leF;rw[if_pos (.inl (by unfold leL;rw[Int.sub_self,Int.sub_self];rfl))]
   rw[ex.1,ex.2,eF];unfold d7 sqI;simp only[Int.mul_one]
  ·rcases h with h|⟨u',v',hu',hv',h⟩
   ·~
   obtain rfl:u=u':=Option.some.inj (hu.symm.trans hu');obtain rfl:v=v':=Option.some.inj (hv.symm.trans hv');rw[xg & hu hv ~ ~];unfold leF;rw[if_pos ~];simp
 ·obtain rfl:k'=k+1:=by
   !:=(List.getElem?_eq_some_iff.mp hv').1;~
  obtain rfl:u=u':=Option.some.inj (hu.symm.trans hu');obtain rfl:v=v':=Option.some.inj (hv.symm.trans hv');rw[show((k+1:Nat):Int)=(k:Int)+1 by omega]at h;rcases h with⟨rfl,rfl,h⟩|⟨rfl,rfl,h1,h2⟩
  ·¶?_,(&)
   rw[Int.add_mul,Int.one_mul]at h;rw[xg & hu hv ~ ~];unfold leF;rw[if_neg ~,if_pos ~];!e4:sqI c v.2=sqI c u.2 - 2*leA c u.2 v.2+leL u.2 v.2:=by
    unfold sqI leA leL
    grind
   simp only[e4];rw[show(k:Int)+1 - (k:Int)*1=1 by omega];~
  ·¶?_,iN cu cv
   rw[Int.add_mul,Int.one_mul]at h2;rw[xg h0 hu hv ~ (by rw[Int.add_mul,Int.one_mul];~)];unfold leF;rw[if_neg ~,if_neg ~];simp only;rw[show(k:Int)*leL u.2 v.2+leA c u.2 v.2 - (k:Int)*leL u.2 v.2=leA c u.2 v.2 by omega];generalize leA c u.2 v.2=al;generalize leL u.2 v.2=LV;generalize sqI c u.2=G
   grind
¤Aa{H:Hp}{ls:Addr}{rs:Crn}{c:Int×Int}{k k':Nat}{u v:Addr×Int×Int}{s w:Int}(cc:Cb c)(cu:Cb u.2)(cv:Cb v.2)(hu:rs[k]? = some u)(hv:rs[k']? = some v)(hkk:(k'=k/\k+1=rs.length)\/k'=k+1)(f:H ls=some (.tup [.int (d7 c.1 c.2 1 (ptX rs s w) (ptY rs s w) w),.int (1*w*(1*w))]))(hw:0<w)(pc:uR rs c k (k:Int) 1 (k':Int) 1 s w):∃N D:Int,H ls=some (.tup [.int N,.int D])/\(0<D/\ar D<=300)/\(0<=N/\ar N<=900)/\N*(leF c u.2 v.2).2=(leF c u.2 v.2).1*D:=by
 @e,bw:=Ac cu cv hu hv hkk pc;!bD:ar (1*w*(1*w))<=300:=by rw[Int.one_mul];#aq (bits_mul bw bw) &
 §_,_,f,⟨Int.mul_pos ~ ~,bD⟩,⟨xh _ _ _ _ _ _,yO (xh _ _ _ _ _ _) (oh _ _ _) e (zp cc cu cv).1 bD⟩,e
inductive Ju (vs:List V) (H:Hp) (Q:VK) (x_3:XK):Prop
 | mk:∀a b:Int,(vs = [.int a,.int b])->((0<=a/\0<b))->(ar b<=1000)->(∀(p:Addr) (t u:Int) (H':Hp),E2 a b t u->Same H H'->H' p=some (.tup [.int t,.int u])->Q (.ref p) H')->Ju vs H Q x_3
¤yk{A B t u:Int}(hA:0<=A)(hB:0<B)(f:E2 A B t u):0<=t/\t<=A/\u<=B:=by
 @e1,e2:=pT ~ f (iQ hB);rw[e1,e2];§Int.ediv_nonneg hA ~,Int.ediv_le_self _ hA,Int.ediv_le_self _ ~
¤rX{H:Hp}{p:Addr}{a b A B t u:Int}(h:H p=some (.tup [.int t,.int u]))(f:E2 a b t u)(hb:0<b)(e:a*B=A*b)(hA:0<=A)(hB:0<B)(bA:ar A<=230)(bB:ar B<=130):Sq H p t u/\EG t u/\0<=t:=by
 !f2:=uG hb f e;@h0,h1,h2:=yk hA hB f2;§⟨h,de h0 h1 bA,de (Int.le_of_lt f2.low.pos) h2 bB⟩,f.low,h0
inductive Jv (vs:List V) (H:Hp) (Q:VK) (x_3:XK):Prop
 | mk:∀(p l1 l2:Addr) (qs rs:Crn),(vs = [.ref p,.ref l1,.ref l2])->(Pol H p)->((LineM H l1 qs/\LineM H l2 rs))->((p≠l1/\p≠l2))->((1<=qs.length/\qs.length<=20))->((1<=rs.length/\rs.length<=20))->(∀(z:Addr) (a b:Int) (H':Hp),But p H H'->Pol H' p->Sq H' z a b->EG a b->0<=a->Q (.ref z) H')->Jv vs H Q x_3
¤Au{c x y:Int×Int}{N D:Int}(hN:0<=N)(hD:0<D)(e:N*(leF c x y).2=(leF c x y).1*D):0<=(leF c x y).1:=by
 rcases Int.lt_or_le (leF c x y).1 0 with h|h
 ·!h1:=Int.mul_neg_of_neg_of_pos h hD
  !h2:=Int.mul_nonneg hN (Int.le_of_lt (oh c x y));~
 ·#h
¤FJ:Dj ["top","bottom","by"] ["top","bottom"] (ao (top 90)):=smk
¤my(HJ:Df K mg "_law_lowest" (top 90))(D9:Fn P w K mg base "_law_shared" ["a","b"] 1 IR):Fn P w K mg base "_law_lowest" ["top","bottom"] 2 Ju:=by
 refine HJ.fn FJ (λ_ _ _ _ _ _ us hl=>by @_,_,rfl:=dJ hl;rfl) (λvs H Q E h=>?_) (λf cdv A outer s H vs Q E hr h=>?_)
 ·@a,b,rfl,_:=h
  rfl
 ·@a,b,rfl,⟨ha,hb⟩,bb,q:=h
  ?_,(ag (£2 FJ (¢D9 (ad ©0 (ad ©1 ak)))) (am (aB (aJ (ad (ay dA ©0 ©2) (ad (ay dA ©1 ©2) ak))))));!hg:=kr (a:=a) (b:=b) ~;!bg:ar (Int.gcd a b:Int)<=8000:=aq (m8 ~ bb) &;?^,^,a,b,rfl,(~);¶^,^,%,⟨hg,bg⟩,^,^,%,⟨hg,bg⟩,sz (by simp),λp H1 s1 f1 n1=>?_;#q p _ _ H1 (iQ hb) s1 f1
¤DF:Dj ["pool","one","other","way","corner","k","high","least","left","down","more"] ["pool","one","other"] (ao (top 91)):=smk
¤oz(Ia:Df K mg "_law_leash" (top 91))(Dk:Fn P w K mg base "_law_take" ["pool","many"] 1 Fr)(DX:Fn P w K mg base "_law_least" ["corner","line","low","high"] 2 IY)(Ea:Fn P w K mg base "_law_lowest" ["top","bottom"] 2 Ju)(T:Txt mg):Fn P w K mg base "_law_leash" ["pool","one","other"] 3 Jv:=by
 refine Ia.fn DF (λ_ _ _ _ _ _ us hl=>by @_,_,_,rfl:=g7 hl;rfl) (λvs H Q E h=>?_) (λf cdv A outer s H vs Q E hr h=>?_)
 ·@p,l1,l2,qs,rs,rfl,_:=h
  rfl
 ·@p,l1,l2,qs,rs,rfl,po,⟨La,Lb⟩,⟨np1,np2⟩,⟨h1,h20⟩,⟨g1,g20⟩,q:=h
  ?_,(ag (£3 DF (¢Dk (ad ©0 (ad af ak)))) (ag (£4 DF (ax aW ©1 (¢Dk (ad ©0 (ad (aN aO (by rfl) T.z_len bX (ad ©1 ak)) ak))) (λ_ _=>rfl))) (ag (£5 DF (¢Dk (ad ©0 (ad (aN aO (by rfl) T.z_len bX (ad ©2 ak)) ak)))) (ag (£6 DF (aJ (ad (aN (jC rfl) (by rfl) T.z_min rH (ad (ay aS ©5 af) (ad (ay aP (aN aO (by rfl) T.z_len bX (ad ©2 ak)) af) ak))) (ad af ak)))) (ag (£7 DF (¢DX (ad ©4 (ad ©2 (ad (aJ (ad ©5 (ad af ak))) (ad ©6 ak)))))) (ag (aM (aE dH ©3 af (aG _)) (am (aB (¢Ea (ad ®7 (ad ®7 ak))))) aI) (ag (aM (aE bP ©3 af (aG _)) (ag (£8 DF (ay aP ®4 (ax ap (ax aW ©2 ©5 (λ_ _=>rfl)) af (λ_ _=>rfl)))) (ag (£9 DF (ay aP ®4 (ax ap (ax aW ©2 ©5 (λ_ _=>rfl)) af (λ_ _=>rfl)))) (am (aB (aJ (ad (ay aS (ay aF ©8 ©8) (ay aF ©9 ©9)) (ad af ak))))))) aI) (ag (£10 DF (ay aS af (¢Dk (ad ©0 (ad af ak))))) (ag (aM (aE bP ©3 af (aG _)) (am (aB (¢Ea (ad (ay aS (ay aF ®7 ©10) (ay aF (¢Dk (ad ©0 (ad af ak))) ®7)) (ad (ay aF ®7 ©10) ak))))) aI) (ag (aM (aE bP ©3 af (aG _)) (am (aB (¢Ea (ad (ay aF ®7 (ay aS af ©10)) (ad (ay aF ®7 af) ak))))) aI) (am (aB (¢Ea (ad (¢Dk (ad ©0 (ad af ak))) (ad ©10 ak)))))))))))))));!hlq:(qs.map λ(q:Addr×Int×Int)=>V.ref q.1).length=qs.length:=List.length_map _;!hlr:(rs.map λ(q:Addr×Int×Int)=>V.ref q.1).length=rs.length:=List.length_map _;¶^,p,^,po,⟨&,&⟩,λway H1 a1 b1 B1 P1=>?_;!L1:=bE La B1 po np1;¶^,^,^,l1,^,.inl (SqL.of L1.lst),p,^,P1,⟨by rw[hlq];~,by rw[hlq];#aq (cF ~ ~) &⟩,λi H2 a2 b2 B2 P2=>?_;rw[hlq]at b2;!L2':=bE L1 B2 P1 np1;@w,hw,aw:=oJ (qs:=qs) a2 b2;!cw:=(dB L2').cnA hw;?l1,_,%,SqL.of L2'.lst,aw;!R2:=bE (bE Lb B1 po np2) B2 P1 np2;¶^,^,l2,^,.inl (SqL.of R2.lst),p,^,P2,⟨by rw[hlr];~,by rw[hlr];#aq (cF ~ ~) &⟩,λk H3 a3 b3 B3 P3=>?_;rw[hlr]at b3;!R3:=bE R2 B3 P2 np2;!cw3:=(dB (bE L2' B3 P2 np1)).cnA hw;¶^,%,^,l2,^,.inl (SqL.of R3.lst),%,_,^,sz (by simp),λhp H4 s4 f4 n4=>?_;rw[hlr]at f4;@u,hu,au:=oJ (qs:=rs) a3 b3;obtain⟨k',v,hv,hkk,ek⟩:∃(k':Nat) (v:Addr×Int×Int),rs[k']? = some v/\((k'=k.toNat/\k.toNat+1=rs.length)\/k'=k.toNat+1)/\(if (rs.length:Int) - 1<k+1 then (rs.length:Int) - 1 else k+1)=(k':Int):=by
   by_cases c:(rs.length:Int) - 1<k+1
   ·§k.toNat,u,hu,.inl ⟨rfl,~⟩,(by rw[if_pos c];~)
   ·§k.toNat+1,rs[k.toNat+1]'~,List.getElem?_eq_getElem _,.inr rfl,(by rw[if_neg c];~)
  rw[ek]at f4;¶^,^,^,sz (by simp),λlp H5 s5 f5 n5=>?_;!S5:=s4.trans s5;!iu:=(List.getElem?_eq_some_iff.mp hu).1;!iv:=(List.getElem?_eq_some_iff.mp hv).1;!ib:∀{x:Int},0<=x->x<=20->ar x<=5400:=λh1 h2=>aq (show ar _<=10 from cF ~ ~) &;¶^,w.1,l2,lp,hp,rs,w.2,k.toNat,(k.toNat:Int),1,(k':Int),1,rfl,⟨S5 _ _ cw3.1,cw3.2⟩,⟨(dB R3).mono S5,g20⟩,⟨by rw[show((k.toNat:Nat):Int)=k by omega];#f5,s5 _ _ f4⟩,⟨&,&,~⟩,⟨ib ~ ~,&,ib ~ ~,&⟩,⟨Int.ediv_one _,iu⟩,⟨~,~,~⟩,λls s y H6 s6 f6 hy pc=>?_;@N,D,f6,⟨hD,bD⟩,⟨hN,bN⟩,eF:=Aa cw.2 ((dB R3).cnA hu).2 ((dB R3).cnA hv).2 hu hv hkk f6 hy.1 pc;!S6:=S5.trans s6;!B6:But p H H6:=(B1.trans B2).trans (B3.trans (But.of S6));!P6:=P3.same S6;!cu:=(dB R3).cnA hu;!cv:=(dB R3).cnA hv;!lb:=zp cw.2 cu.2 cv.2;!lp:=oh w.2 u.2 v.2;!ln:=Au hN hD eF;¶^,%,^,aY (λc1=>?_) (λc1=>?_)
  ·¶^,ls,_,%,SqT.of (f6),rfl,^,ls,_,%,SqT.of (f6),rfl,N,D,rfl,⟨hN,hD⟩,aq bD &,λz t y H7 fr s7 f7=>?_
   @x1,x2,x3:=rX f7 fr hD eF ln lp (aq lb.1 &) (aq lb.2 &);#q z t y H7 (B6.trans (But.of s7)) (P6.same s7) x1 x2 x3
  ¶^,rfl,^,aY (λc2=>?_) (λc2=>?_)
  ·!cw6:=S6 _ _ cw3.1
   !R6:=R3.mono S6;!cu6:=S6 _ _ cu.1;!bs:∀{x y:Int},ar x<=50->ar y<=50->ar (x - y)<=51:=λhx hy=>a9 hx hy;!d1:=bs cw.2.1 cu.2.1;!d2:=bs cw.2.2 cu.2.2;?^,w.1,_,%,SqT.of cw6,rfl,^,^,l2,_,%,SqL.of R6.lst,au,u.1,_,%,SqT.of cu6,rfl,%;?^,w.1,_,%,SqT.of cw6,rfl,^,^,l2,_,%,SqL.of R6.lst,au,u.1,_,%,SqT.of cu6,rfl,%;¶^,^,%,CM.b d1 d1 & &,^,^,%,CM.b d2 d2 & &,%,sz (by simp),λz H7 s7 f7 n7=>?_;!e:(w.2.1 - u.2.1)*(w.2.1 - u.2.1)+(w.2.2 - u.2.2)*(w.2.2 - u.2.2)=sqI w.2 u.2:=rfl;rw[e]at f7;#q z _ _ H7 (B6.trans (But.of s7)) (P6.same s7) ⟨f7,aq (gz cw.2 cu.2) &,&⟩ ⟨&,Int.gcd_one_right _⟩ (vh _ _)
  ¶^,p,^,P6,⟨&,&⟩,λmo H7 a7 b7 B7 P7=>⟨_,_,rfl,rfl,?_⟩;!f7:=P6.t B7 _ _ f6;!B67:=B6.trans B7;!bm:ar (1+mo)<=10:=cF ~ ~;!b1k:ar (1000:Int)<=10:= &
  !bm2:ar (1000+(1+mo))<=11:=bT b1k bm;¶^,rfl,^,aY (λc3=>?_) (λc3=>?_)
  ·¶^,ls,_,%,SqT.of (f7),rfl,^,%,CM.b bN bm & &,^,p,^,P7,⟨&,&⟩,λr8 H8 a8 b8 B8 P8=>?_
   !f8:=P7.t B8 _ _ f7;!br:ar r8<=10:=cF ~ ~;?^,ls,_,%,SqT.of (f8),rfl,%,CM.b br bD & &,%,^,ls,_,%,SqT.of (f8),rfl,^,%,CM.b bD bm & &;!hA:0<=N*(1+mo)+r8*D:=Int.add_nonneg (Int.mul_nonneg hN ~) (Int.mul_nonneg a8 ~);!hB:0<D*(1+mo):=Int.mul_pos hD ~;¶_,^,⟨hA,hB⟩,aq (bits_mul bD bm) &,λz t y H9 fr s9 f9=>?_;!e:(N*(1+mo)+r8*D)*((leF w.2 u.2 v.2).2*(1+mo))=((leF w.2 u.2 v.2).1*(1+mo)+r8*(leF w.2 u.2 v.2).2)*(D*(1+mo)):=by
    generalize 1+mo=M;generalize (leF w.2 u.2 v.2).1=F1 at eF;generalize (leF w.2 u.2 v.2).2=F2 at eF;!e1:N*M*(F2*M)=F1*M*(D*M):=by
     rw[show N*M*(F2*M)=N*F2*(M*M) by grind,eF]
     grind
    rw[Int.add_mul,Int.add_mul,e1]
    grind
   @x1,x2,x3:=rX f9 fr hB e (Int.add_nonneg (Int.mul_nonneg ln ~) (Int.mul_nonneg a8 ~)) (Int.mul_pos lp ~) (aq (bT (bits_mul lb.1 bm) (aq (bits_mul br lb.2) &)) &) (aq (bits_mul lb.2 bm) &);#q z t y H9 ((B67.trans B8).trans (But.of s9)) (P8.same s9) x1 x2 x3
  ¶^,rfl,^,aY (λc4=>?_) (λc4=>?_)
  ·?^,ls,_,%,SqT.of (f7),rfl,^,%,%,CM.b bN bm2 & &,^,ls,_,%,SqT.of (f7),rfl,%,CM.b bD b1k & &
   !hA:0<=N*(1000+(1+mo)):=Int.mul_nonneg hN ~;!hB:0<D*1000:= ~
   ¶_,^,⟨hA,hB⟩,aq (bits_mul bD b1k) &,λz t y H9 fr s9 f9=>?_;!e:N*(1000+(1+mo))*((leF w.2 u.2 v.2).2*1000)=(leF w.2 u.2 v.2).1*(1000+(1+mo))*(D*1000):=by
    generalize 1000+(1+mo)=M;generalize (leF w.2 u.2 v.2).1=F1 at eF;generalize (leF w.2 u.2 v.2).2=F2 at eF;rw[show N*M*(F2*1000)=N*F2*(M*1000) by grind,eF]
    grind
   @x1,x2,x3:=rX f9 fr hB e (Int.mul_nonneg ln ~) ~ (aq (bits_mul lb.1 bm2) &) (aq (bits_mul lb.2 b1k) &);#q z t y H9 (B67.trans (But.of s9)) (P7.same s9) x1 x2 x3
  ¶^,p,^,P7,⟨&,&⟩,λr8 H8 a8 b8 B8 P8=>⟨_,rfl,?_⟩;¶_,^,⟨a8,~⟩,aq bm &,λz t y H9 fr s9 f9=>?_;@x1,x2,x3:=rX f9 fr (show 0<1+mo by omega) rfl a8 ~ (aq (cF ~ ~) &) (aq bm &);#q z t y H9 ((B67.trans B8).trans (But.of s9)) (P8.same s9) x1 x2 x3
¤An{H:Hp}:∀y∈([]:List V),∃t,Kn H y t:=λy hy=>nomatch hy
¤sI{H:Hp}{v:V}{vs:List V}{t:String}(k:Kn H v t)(h:∀y∈vs,∃t,Kn H y t):∀y∈v::vs,∃t,Kn H y t:=λy hy=>by
 rcases List.mem_cons.mp hy with rfl|hy
 ·§t,k
 ·#h y hy
¤xp{H:Hp}{t:Addr}{ls:List (Pos×Str)}(e:H t=some (.tbl #[])):Tab H t ls:=⟨#[],e,trivial,λ_ _=>.inl rfl⟩
¤zU{H:Hp}{z:Addr}{a b:Int}(sq:Sq H z a b)(lw:lowB a b=true)(ha:0<=a):sqV H (.ref z)=true:=by
 simp only[sqV,sq.at_,lw,Bool.true_and,Bool.not_eq_true',decide_eq_false_iff_not];~
¤Bo{H:Hp}{z:Addr}{a b:Int}(sq:Sq H z a b):HR H (.ref z):=th_tup sq.at_ (sI (.int _) (sI (.int _) An))
¤rR{K:W.Frag}{H:Hp}{a:Addr}{oc:Value}{od:Option Addr}{its:Array Value}{n:Nat}{sl:Array (Option Value)}{xs:List V}(hk:K.lookup a=some ⟨oc,od,.seq its n,sl⟩)(hc:oc = .type "tuple")(hz:its.size<=100)(r:aZ xs its.toList):TpK K H a xs :=
 .inr ⟨_,its,n,hk,hc,rfl,Nat.le_of_lt (bJ ~),r⟩
¤A8{ys:List V}{c:Bool}(h:∀(i:Nat) y,ys[i]? = some y->y = .bl c):∃bs:List Bool,ys=bs.map V.bl/\∀x∈bs,x=c:=by
 ¶List.replicate ys.length c,?_,λx hx=>(List.mem_replicate.mp hx).2;rw[List.map_replicate];refine List.ext_getElem? λi=>?_;cases e:ys[i]? with
 | none=>rw[List.getElem?_eq_none (by simp;#List.getElem?_eq_none_iff.mp e)]
 | some y =>
  rw[h i y e,List.getElem?_replicate,if_pos (List.getElem?_eq_some_iff.mp e).1]
¦wdS(k:Bool):Str:=if k=true then "walk" else "fence"
inductive Jn (t:Addr) (vs:List V) (H:Hp) (Q:VK) (x_3:XK):Prop
 | mk:∀(l1 l2 z:Addr) (qs rs:Crn) (a b:Int),(vs = [.ref l1,.ref l2,.ref z])->((LineM H l1 qs/\LineM H l2 rs))->(((1<=qs.length/\qs.length<=10)/\1<=rs.length/\rs.length<=10))->((Sq H z a b/\EG a b/\0<=a))->(Tab H t lsP)->(∀H',cV H H'->Tab H' t lsP->Q (.bl true) H')->Jn t vs H Q x_3
¤AJ{C t:Addr}{wy:Str}{l1 l2 p:Addr}{qs rs:Crn}{a b:Int}{H:Hp}{Q:VK}{E:XK}(L1:LineM H l1 qs)(L2':LineM H l2 rs)(b1:1<=qs.length/\qs.length<=10)(b2:1<=rs.length/\rs.length<=10)(sq:Sq H p a b)(lw:EG a b)(a0:0<=a)(tb:Tab H t lsP)(k:∀(u r:Addr) (H':Hp) (ps:List Pr) (wk:Bool),cV H H'->Tab H' t lsP->Iw H' r ps->H' u=some (.tup [.str (wdS wk),.ref r])->GoP wy qs rs a b wk ps->Q (.ref u) H'):GoQ C t wy l1 l2 (.ref p) H Q E :=
 ⟨qs,rs,L1,L2',b1,b2,Bo sq,.inr ⟨zU sq (zn lw) a0,p,a,b,rfl,⟨sq,lw.pos,a0⟩,tb,λu r H' ps wk _ _ _ N T P e g=>k u r H' ps wk N T P e g⟩⟩
¤uW:(ce=wOn)=(true=false):=propext ⟨λh=>absurd h.symm dY,λh=>by cases h⟩
¦yC(n:Int):Int:=if (if (12:Int)<n then 12 else n)>1 then (if (12:Int)<n then 12 else n) else 1
¤oF(n:Int):0<=yC n/\yC n<=12:=by
 unfold yC
 split <;> split <;> ~
¤Fu:Dj ["one","other","square","found","measured"] ["one","other","square"] (ao (top 92)):=smk
¤qb{t_fence_past CQ:Addr}(IE:Df K mg "_law_told" (top 92))(F4:Fx P w K mg base "go_part" ["one","other","square"] 13 [] (Jy CQ t_fence_past ce))(FC:Fn P w K mg base "_law_walk" ["one","other","walk","square","part"] 5 Jm)(Fm:Fn P w K mg base "_law_fence" ["one","other","fence","part"] 5 JB)(Do:Fn P w K mg base "_law_less" ["a","b"] 1 Gq)(T:Txt mg):Fn P w K mg base "_law_told" ["one","other","square"] 14 (Jn t_fence_past):=by
 refine IE.fn Fu (λ_ _ _ _ _ _ us hl=>by @_,_,_,rfl:=g7 hl;rfl) (λvs H Q E h=>?_) (λf cdv A outer s H vs Q E hr h=>?_)
 ·@l1,l2,z,qs,rs,a,b,rfl,_:=h
  rfl
 ·@l1,l2,z,qs,rs,a,b,rfl,⟨La,Lb⟩,⟨b1,b2⟩,⟨sq,lw,a0⟩,tb,q:=h
  !CN:Ff (bV CX0 P w K mg base ["one","other","square","found","measured"] "_law_told" (ao (top 92)) f cdv A outer s H E).nox (lcA (top 92) 0) [("square",s.heap.objs.size+1)] "some" [("square",2)] :=
   ⟨by rfl,rfl,by decide +kernel,by decide +kernel,rfl,(λp hp=>by simp only[List.mem_cons,List.not_mem_nil,or_false]at hp;rcases hp with rfl <;> #rfl),by rfl,by decide +kernel,(λp hp=>by simp only[List.mem_cons,List.not_mem_nil,or_false]at hp;rcases hp with rfl <;> §rfl,rfl,.inr (.inl rfl),rfl,rfl),⟨rfl,rfl⟩,rfl⟩
  ?_,(ag (£3 Fu (kX F4 (hr.mono &) (by rfl) (ad (jm fI (by rfl) T.z_list kC (ad ©0 ak)) (ad (jm fI (by rfl) T.z_list kC (ad ©1 ak)) (ad ©2 ak))))) (ag (aM (dw (cE (bH (aN cO (by rfl) T.z_isinstance bW (ad ©3 (ad (iG T.z_tuple iZ) ak))))) (cZ (aE gF (aN aO (by rfl) T.z_len bX (ad ©3 ak)) af (aG _)))).pt (am (aB cW)) aI) (ag (aM (aE bP ®3 fg (aG _)) (am (aB (¢FC (ad ©0 (ad ©1 (ad ®3 (ad ©2 (ad cW ak)))))))) aI) (ag (aM (aE gF ®3 fg (aG _)) (am (aB cW)) aI) (ag (£4 Fu (¢Fm (ad ©0 (ad ©1 (ad ®3 (ad cW ak)))))) (ag (aM (aE fW ©4 bI (aG _)) (am (aB cW)) aI) (am (aB (aN (wW rfl) (by rfl) T.z_all A4 (ad (iI rfl CN (eG ©4) (λfp s₀ H₀=>(¢Do (ad ©1 (ad ©0 ak))))) ak))))))))));¶^,l1,^,.inl (SqL.of La.lst),λm1 H1 s1 f1 n1=>?_;¶^,l2,^,.inl (SqL.of (Lb.mono s1).lst),λm2 H2 s2 f2 n2=>?_;!S2:=s1.trans s2;¶^,m1,m2,.ref z,rfl,AJ ⟨s2 _ _ f1,(La.mono S2).crn⟩ ⟨f2,(Lb.mono S2).crn⟩ b1 b2 (sq.mono S2) lw a0 (tb.same S2) λt r H3 ps wk N3 T3 P3 e gp=>?_;!M3:=(cV.of S2).trans N3;!L3:=M3.line La;!R3:=M3.line Lb;!sq3:Sq H3 z a b:=⟨M3.t sq.at_,sq.ba,sq.bb⟩;!hb:=lw.pos;¶^,_,_,"tuple",rfl,.tup e,nice_tuple,^,aK & ?_;¶^,t,^,.inr (SqT.of e),rfl,^,aK rfl ?_;?^,t,_,%,SqT.of e,rfl,rfl,^;cases wk with
  | true =>
   refine bM rfl ?_;!W:=wm hb b1 b2 gp;rw[uW]at W;§^,^,^,t,_,%,SqT.of e,rfl,^,l1,l2,r,z,qs,rs,ps,a,b,true,rfl,⟨L3,R3⟩,⟨⟨b1.1,~⟩,b2.1,~⟩,P3,sq3,W,λH4 s4=>q H4 (M3.trans (.of s4)) (T3.same s4)
  | false =>
   refine aK (by decide +kernel) ?_;¶^,t,_,%,SqT.of e,rfl,rfl,^,aK (by decide +kernel) ?_;!W:=uD (.inr rfl) hb b1 b2 gp;rw[uW]at W;¶^,^,^,t,_,%,SqT.of e,rfl,l1,l2,r,qs,rs,ps,a,b,true,rfl,⟨L3,R3⟩,⟨⟨b1.1,~⟩,b2.1,~⟩,P3,W,λrr ys H4 s4 f4 hl sq4=>?_;¶^,rfl,^,aK rfl ?_;¶^,rr,rfl,⟨_,SqL.of f4⟩,rG (SqL.of f4) ~ (λi v H'=>v = .bl true) (λi v H H' st e=>e) ?_ ?_
   ·intro i x H5 Kc hx s5 kk
    @p,t',u',rfl,e',⟨bt,bu⟩,lt:=sq4 x (List.mem_of_getElem? hx);!sq5:=(sq3.mono s4).mono s5;¶^,^,z,p,a,b,t',u',rfl,sq5.at_,s5 _ _ e',⟨aq sq5.ba &,aq sq5.bb &,bt,bu⟩,kk _ H5 (Same.refl _) ?_;rw[decide_eq_true lt]
   ·intro lr bs' H5 nl s5 f5 _ hv
    @bs,rfl,hbs:=A8 hv;?lr,bs,rfl,SqL.of f5;rw[show bs.all id=true from List.all_eq_true.mpr λx hx=>by rw[hbs x hx];rfl];#q H5 (M3.trans (.of (s4.trans s5))) (T3.same (s4.trans s5))
¤De{qs:Crn}:j5 (qs.map λ(q:Addr×Int×Int)=>V.ref q.1) none (some 3)=(qs.take 3).map λ(q:Addr×Int×Int)=>V.ref q.1:=by
 unfold j5;rw[show(3:Int)=((3:Nat):Int) from rfl,HT.sIx_nat,HT.sIx_none,List.length_map,List.drop_zero,Nat.sub_zero,<- List.map_take]
 congr 1
 rw[List.take_eq_take_iff];~
¤Gc:Dj ["script","at","one","other","pool","way"] ["script"] (ao (top 93)):=smk
¤AM{t_fence_past:Addr}(KQ:Df K mg "law" (top 93))(Eu:Fn P w K mg base "_law_pool" ["script","k"] 1 (Ii K))(DW:Fn P w K mg base "_law_line" ["pool","most"] 3 IX)(Dk:Fn P w K mg base "_law_take" ["pool","many"] 1 Fr)(E9:Fn P w K mg base "_law_second" ["pool","line","most"] 4 Jp)(Fl:Fn P w K mg base "_law_leash" ["pool","one","other"] 3 Jv)(FD:Fn P w K mg base "_law_told" ["one","other","square"] 14 (Jn t_fence_past))(T:Txt mg):Fn P w K mg base "law" ["script"] 15 (qJ K [t_fence_past]):=by
 refine KQ.fn Gc (λ_ _ _ _ _ _ us hl=>by @_,rfl:=eX hl;rfl) (λvs H Q E h=>?_) (λf cdv A outer s H vs Q E hr h=>?_)
 ·@sa,ss,rfl,_:=h
  rfl
 ·@sa,ss,rfl,hS,hlen,htab,fin:=h
  !TB:Tab H t_fence_past lsP:=xp (htab _ List.mem_cons_self);!R:∃u:TS,PSs (bV CX0 P w K mg base ["script","at","one","other","pool","way"] "law" (ao (top 93)) f cdv A outer s H E).nox ((yp ((aT (top 93)).getD 0 (.Pass ⟨0,0,0,0⟩))).drop 6) u/\∀(D:FS) (ai wv:Int) (l1 l2 p:Addr) (qs rs:Crn) (H4:Hp),(∀H5,But p H4 H5->Tab H5 t_fence_past lsP)->(LineM H4 l1 qs/\LineM H4 l2 rs)->((1<=qs.length/\qs.length<=10)/\1<=rs.length/\rs.length<=10)->Pol H4 p->(p≠l1/\p≠l2) ->
    (∀H5 H':Hp,But p H4 H5->cV H5 H'->Tab H' t_fence_past lsP->D.nx [some (.ref sa),some (.int ai),some (.ref l1),some (.ref l2),some (.ref p),some (.int wv)] H') ->
    u D [some (.ref sa),some (.int ai),some (.ref l1),some (.ref l2),some (.ref p),some (.int wv)] H4:=by
   ¶_,(am (aM (cE (bH (¢FD (ad ©2 (ad ©3 (ad (¢Fl (ad ©4 (ad ©2 (ad ©3 ak)))) ak)))))) (am (aB cW)) aI)),λD ai wv l1 l2 p qs rs H4 T4 ⟨L1,L2'⟩ ⟨b1,b2⟩ po ⟨n1,n2⟩ nx=>?_;¶^,^,^,^,^,p,l1,l2,qs,rs,rfl,po,⟨L1,L2'⟩,⟨n1,n2⟩,⟨b1.1,~⟩,⟨b2.1,~⟩,λz a b H5 B5 P5 sq lw a0=>?_;§l1,l2,z,qs,rs,a,b,rfl,⟨bE L1 B5 po n1,bE L2' B5 po n2⟩,⟨b1,b2⟩,⟨sq,lw,a0⟩,T4 H5 B5,λH6 N6 T6=>⟨_,rfl,aK rfl (nx H5 H6 B5 N6 T6)⟩
  @u1,hu1,rd1:=R;?_,ag (cj PassesOwn.never rfl (qT rfl T.z_range (ad af (ad (aN (uO rfl) (by rfl) T.z_max AZ (ad af (ad (aN (jC rfl) (by rfl) T.z_min rH (ad (aN aO (by rfl) T.z_len bX (ad ©0 ak)) (ad af ak))) ak))) (ad af ak)))) (aQ (i:=1) Gc.nd rfl (Or.inl rfl)) (ag (£2 Gc (¢DW (ad (¢Eu (ad ©0 (ad ©1 ak))) (ad af ak)))) (ag (£3 Gc (¢E9 (ad (¢Eu (ad ©0 (ad (ay aS ©1 af) ak))) (ad ©2 (ad af ak))))) (ag (£4 Gc (¢Eu (ad ©0 (ad (ay aS ©1 af) ak)))) (ag (£5 Gc (¢Dk (ad (¢Eu (ad ©0 (ad (ay aS ©1 af) ak))) (ad af ak)))) (ag (aM (aE bP ©5 af (aG _)) (am (qS (i:=2) (j:=3) rfl Gc.nd rfl rfl & rfl rfl (ad ©3 (ad ©2 ak)) (by rfl))) aI) (ag (aM (aE bP ©5 af (aG _)) (am (£3 Gc (ay iK (ay iK (¢DW (ad ©4 (ad af ak))) (kW kO ©3 nU (kf af))) (¢DW (ad ©4 (ad af ak)))))) aI) hu1))))))) (am (aB cW));¶^,sa,^,.inl hS,_,^,_,^,^,(oF _).1,Int.le_trans (oF (((ss.map V.int).length:Nat):Int)).2 &,rm (λi σ H'=>∃(z1 z2 z3 z4 z5:Option V),σ = [some (.ref sa),z1,z2,z3,z4,z5]/\cV H H'/\Tab H' t_fence_past lsP) ⟨_,_,_,_,_,rfl,(λ_ _ e _=>e),TB⟩ ?_ ?_
  ·rintro i σ H2 hi ⟨z1,z2,z3,z4,z5,rfl,S2,T2⟩
   !hi:i<((yC (((ss.map V.int).length:Nat):Int)+3) / 4).toNat:=hi;!hJ:=oF (((ss.map V.int).length:Nat):Int);!at0:0<=(0:Int)+(i:Int)*4/\(0:Int)+(i:Int)*4<=900:= ~
   generalize (0:Int)+(i:Int)*4=ai at at0 ⊢;¶^,^,sa,ss,ai,rfl,S2.seq hS,⟨at0.1,~⟩,λp3 H3 s3 n3 q3=>?_;¶p3,10,rfl,q3,⟨&,&⟩,λl qs H4 b4 q4 n4 L4 h1 h10=>?_;!S4:Same H2 H4:=b4.same s3 n3;¶^,^,%,sa,ss,ai+1,rfl,(S2.trans (.of S4)).seq hS,⟨~,~⟩,λp5 H5 s5 n5 q5=>?_;¶^,p5,l,qs,10,rfl,q5,L4.mono s5,a6 L4.lst n5,⟨h1,h10⟩,⟨&,&⟩,λr rs H6 b6 q6 n6 L6 g1 g10=>?_;!S6:Same H4 H6:=b6.same s5 n5;!M6:=S2.trans (.of (S4.trans S6));¶^,^,%,sa,ss,ai+2,rfl,M6.seq hS,⟨~,~⟩,λp H7 s7 n7 q7=>?_;!M7:=M6.trans (.of s7);¶^,^,%,sa,ss,ai+3,rfl,M7.seq hS,⟨~,~⟩,λp8 H8 s8 n8 q8=>?_;¶p8,3,rfl,q8,⟨&,&⟩,λdg H9 d0 d1 b9 q9=>?_;!S9:Same H7 H9:=b9.same s8 n8;!L9:=L4.mono (S6.trans (s7.trans S9));!R9:=L6.mono (s7.trans S9);!T9:∀H5,But p H9 H5->Tab H5 t_fence_past lsP:=λH5 B=>T2.same (S4.trans (S6.trans (B.same (s7.trans S9) n7)));!po9:=q7.same S9;!nl:p≠l:=(a6 (L4.mono S6).lst n7).symm;!nr:p≠r:=(a6 L6.lst n7).symm;!en:∀H5 H':Hp,But p H9 H5->cV H5 H'->cV H H':=λH5 H' B N=>M6.trans ((cV.of (B.same (s7.trans S9) n7)).trans N);¶^,rfl,^,aY (λc=>?_) (λc=>?_)
   ·!c:dg=1:=by simpa using c
    ¶^,^,_,^,^,rfl,^,aK (by rw[c];rfl) ?_;#rd1 _ ai dg r l p rs qs H9 T9 ⟨R9,L9⟩ ⟨⟨g1,~⟩,h1,~⟩ po9 ⟨nr,nl⟩ λH5 H' B N T=>⟨_,_,_,_,_,rfl,en H5 H' B N,T⟩
   ¶^,rfl,^,aY (λc=>?_) (λc=>?_)
   ·¶^,p,3,rfl,po9,⟨&,&⟩,λla qa HA bA pA nA LA a1 a3=>?_
    !RA:=bE R9 bA po9 nr;¶^,^,r,^,SqL.of RA.lst,λlb HB sB fB nB=>?_;rw[De]at fB;!LAB:=LA.mono sB;!RB:=RA.mono sB;¶la,lb,%,LAB.lst,fB,sz (by rw[List.length_map,List.length_map,List.length_take];~),λlc HC sC fC nC=>?_;rw[<- List.map_append]at fC;!SC:=sB.trans sC;!pC:=pA.same SC;!LC:LineM HC lc (qa++rs.take 3):=⟨fC,λq hq=>(List.mem_append.mp hq).elim (λh=>(LA.mono SC).crn q h) λh=>(RA.mono SC).crn q (List.mem_of_mem_take h)⟩;!npc:p≠lc:=((pA.same sB).ne nC).symm;¶^,p,2,rfl,pC,⟨&,&⟩,λld qd HD bD pD nD LD e1 e2=>?_;!LCD:=bE LC bD pC npc;¶lc,ld,%,LCD.lst,LD.lst,sz (by rw[List.length_map,List.length_map,List.length_append,List.length_take];~),λle HE sE fE nE=>?_;rw[<- List.map_append]at fE;!BE:But p H9 HE:=(bA.trans (.of SC)).trans (bD.trans (.of sE));!LE:LineM HE le (qa++rs.take 3++qd):=⟨fE,λq hq=>(List.mem_append.mp hq).elim (λh=>(LCD.mono sE).crn q h) λh=>(LD.mono sE).crn q h⟩;#rd1 _ ai dg l le p qs _ HE (λH5 B=>T9 H5 (BE.trans B)) ⟨bE L9 BE po9 nl,LE⟩ ⟨⟨h1,~⟩,by rw[List.length_append,List.length_append];~,by rw[List.length_append,List.length_append,List.length_take];~⟩ (pD.same sE) ⟨nl,(pD.ne nE).symm⟩ λH5 H' B N T=>⟨_,_,_,_,_,rfl,en H5 H' (BE.trans B) N,T⟩
   ·#rd1 _ ai dg l r p qs rs H9 T9 ⟨L9,R9⟩ ⟨⟨h1,~⟩,g1,~⟩ po9 ⟨nl,nr⟩ λH5 H' B N T=>⟨_,_,_,_,_,rfl,en H5 H' B N,T⟩
  ·rintro σ H2 ⟨z1,z2,z3,z4,z5,rfl,S2,T2⟩
   #fin _
end
¤hLeft:W.LeftO Challenge.rw_oneleash_k26_part_gone_or_fenced.prog hView hLoose (λ_=>true) (W.Hook.obs (Hd.hookT hFacts hGood)) (W.Hook.val (Hd.hookT hFacts hGood)) 100000:=C9
¤hTabOk{K:W.Frag}(FK:hFacts K=hGood):hTabs.all (Hd.tabFact K)=true:=(congrArg Prod.fst (congrArg Prod.snd (congrArg Prod.snd FK)))
¤all_of{P:Program}{w:World}{K0 K:W.Frag}(eK:K=Hd.strip K0)(FK0:hFacts K0=hGood){h:Heap}{mg:Str->Option Value}{fa:Addr}(X:K.In h)(G:h.Ns mainGlobals mg)(hfa:mg "law" = some (.ref fa)) :
  ∃fd:FuncData,(∀(s:Shared) (v:Value),BindsTo s fd ⟨[v],[]⟩ [("script",v)])/\∀base:Heap,K.In base->base.Ns mainGlobals mg->Fg P w K mg base CX0 15 fa fd ["script"] (qJ K (hTabs.map (Hd.tabP K0))):=by
 !FK:(hF0 K,hF1 K,hF2 K0)=hGood:=by
  rw[eK];#FK0
 !H0:(iP.map (λp=>Hd.fnFact K p.1):List (Option (Arguments×List Stmt×Scope×Value)))=iP.map (λp=>some (bQ (top p.2),aT (top p.2),ao (top p.2),.none)):=congrArg Prod.fst FK;!dH0:∀i {n:Str} {t:Nat},iP[i]? = some (n,t)->Df K mg n (top t):=λi _ _ e=>Hd.df_of X G (Hd.at_map H0 i e);!q_1:=congrArg Prod.snd FK;!q_2:=congrArg Prod.fst q_1;!H1:(km.map (λp=>Hd.fnFactD K p.1):List (Option (Arguments×List Stmt×Scope×List V)))=km.map (λp=>some (bQ (top p.2.1),aT (top p.2.1),ao (top p.2.1),p.2.2)):=congrArg Prod.fst q_2;!q_3:=congrArg Prod.snd q_2;!H2:(AI.all (Hd.excFact K):Bool)=true:=congrArg Prod.fst q_3;!eO:∀i {x:Str},AI[i]? = some x->HV K mg x (Hd.cls K x):=λi _ e=>Hd.exc_of X G (Hd.at_all H2 i e);!q_4:=congrArg Prod.snd q_3;!H3:(hNo.all (Hd.noFact K):Bool)=true:=congrArg Prod.fst q_4;!zN:∀i {x:Str},hNo[i]? = some x->mg x=none:=λi _ e=>W.mg_none_of X G (Hd.no_of (Hd.at_all H3 i e));!q_5:=congrArg Prod.snd q_4;!H4:(yg.map (λp=>Hd.tupFact K p.1):List (Option (List V)))=yg.map (λp=>some p.2):=congrArg Prod.fst q_5;!q_6:=congrArg Prod.snd q_5;!H5:(Cf.all (Hd.ownFact K):Bool)=true:=congrArg Prod.fst q_6;!q_7:=congrArg Prod.snd q_6;!H6:(hMt.map (λp=>Hd.mtFact K p.1 p.2.1 p.2.2.1):List (Option (Arguments×List Stmt×Scope×Value)))=hMt.map (λp=>some (bQ p.2.2.2,aT p.2.2.2,ao p.2.2.2,.none)):=congrArg Prod.fst q_7;!q_8:=congrArg Prod.snd q_7;!H7:(Cj K:List (Option (Option V)))=zx:=congrArg Prod.fst q_8;!H8:(Ci K:List (Option (Option Value)))=zw:=congrArg Prod.snd q_8;!q_9:=congrArg Prod.snd q_1;!H9:(hTabs.all (Hd.tabFact K0):Bool)=true:=congrArg Prod.fst q_9;!q_10:=congrArg Prod.snd q_9;!H10:(Hd.bltFact (Hd.strip K0):Bool)=true:=congrArg Prod.fst q_10;!H11:(Hd.apart (hTabs.map (Hd.tabP K0)):Bool)=true:=congrArg Prod.snd q_10;!Fd:KO K mg "fence_past" (top 57) (Hd.tabP K0 "fence_past"):=by
  subst eK;#Hd.dft_of X G (Hd.at_map H0 40 rfl) (Hd.at_all H9 0 rfl)
 !HF:KB K mg "ratio" (top 7) [.int 1]:=Hd.dfd_of X G (Hd.at_map H1 0 rfl);!D3:=eO 0 (x:="NoRatio") rfl;!Fw:=eO 1 (x:="NoSquare") rfl;!T:Txt mg:=⟨zN 0 rfl,zN 1 rfl,zN 2 rfl,zN 3 rfl,zN 4 rfl,zN 5 rfl,zN 6 rfl,zN 7 rfl,zN 8 rfl,zN 9 rfl,zN 10 rfl,zN 11 rfl,zN 12 rfl⟩;@Ja,od_BEGIN,its_BEGIN,n_BEGIN,sl_BEGIN,JN,IO,Gk:=Hd.tup_of (Hd.at_map H4 0 rfl);@J1,od_END,its_END,n_END,sl_END,KC,JX,IP:=Hd.tup_of (Hd.at_map H4 1 rfl);!BF:yS K mg:=by
  subst eK;#Hd.blt_of X G H10
 !Jc:(W.nsIn K mainGlobals "UPRIGHT").map (λo=>o.map Hd.bareV)=some (some (.int 0)):=Hd.at_two H7 0 rfl rfl;!JS:(W.nsIn K mainGlobals "LEVEL").map (λo=>o.map Hd.bareV)=some (some (.int 1)):=Hd.at_two H7 1 rfl rfl;!sa_Field:W.findIn K (.ref (Hd.cls K "Field")) "__setattr__" = some (some (.builtin "object.__setattr__")):=Hd.at_two H8 0 rfl rfl;!n_room:W.findIn K (.ref (Hd.cls K "Field")) "room" = some none:=Hd.at_two H8 1 rfl rfl;!n_last:W.findIn K (.ref (Hd.cls K "Field")) "last" = some none:=Hd.at_two H8 2 rfl rfl;!n_doors:W.findIn K (.ref (Hd.cls K "Field")) "doors" = some none:=Hd.at_two H8 3 rfl rfl;!n_far:W.findIn K (.ref (Hd.cls K "Field")) "far" = some none:=Hd.at_two H8 4 rfl rfl;!Dl:FQ K mg "Field" (Hd.cls K "Field"):=Hd.own_of X G (Hd.at_all H5 0 rfl) sa_Field;!EQ:KP K (Hd.cls K "Field") "__init__" "Field.__init__" (x6 39 0):=Hd.dfm_of (Hd.at_map H6 0 rfl);refine Av h hfa λbase=>?_;!hB:∀H,SqT K H Ja [.int 0,.int 0,.int 0,.int 1]:=λH=>SqT.mod IO rfl (Hd.vals_sz Gk &) Gk;!hE:∀H,SqT K H J1 [.int 1,.int 0,.int 0,.int 1]:=λH=>SqT.mod JX rfl (Hd.vals_sz IP &) IP;!tB:∀H,TpK K H Ja [.int 0,.int 0,.int 0,.int 1]:=λH=>rR IO rfl (Hd.vals_sz Gk &) Gk;!tE:∀H,TpK K H J1 [.int 1,.int 0,.int 0,.int 1]:=λH=>rR JX rfl (Hd.vals_sz IP &) IP;!iC_c_UPRIGHT:=Hd.int_of X G Jc;!iC_c_LEVEL:=Hd.int_of X G JS;!iV_v_BEGIN:=W.mg_of X G JN;!iV_v_END:=W.mg_of X G KC;!DZ:=qk (P:=P) (w:=w) (base:=base) (dH0 0 rfl) T;!DA:=iX (P:=P) (w:=w) (base:=base) (dH0 1 rfl) T;!EC:=wH HF D3 DZ DA;!Ds:=rn (P:=P) (w:=w) (base:=base) (dH0 4 rfl);!Du:=ju (P:=P) (w:=w) (base:=base) (dH0 5 rfl) T;!Es:=iT (dH0 6 rfl) Ds Du;!Eo:=ii (dH0 7 rfl) Ds Du Es;!Jb:=AK (dH0 8 rfl) Eo;!Dm:=mj Jb;!Eb:=mC (P:=P) (w:=w) (base:=base) (dH0 9 rfl);!DG:=jT (dH0 11 rfl) Eb;!Fo:=oC (dH0 12 rfl) DG;!EJ:=jS (P:=P) (w:=w) (base:=base) (dH0 13 rfl) T;!Ec:=gJ (dH0 14 rfl) EC T;!Ep:=im (dH0 15 rfl) DG Fo Ec EJ;!EL:=jX (dH0 10 rfl) D3 Eb Ds EC;!DH:=jU (dH0 16 rfl) D3 Dm EL Ep;!Hq:=yr (dH0 2 rfl) EC;!FE:=ql (dH0 3 rfl) DZ DA T;!Ei:=rA (P:=P) (w:=w) (base:=base) (dH0 21 rfl) T;!DS:=lI (dH0 18 rfl) Ds;!Fy:=pU (P:=P) (w:=w) (base:=base) (dH0 19 rfl);!Et:=iV (dH0 17 rfl) Fw FE;!Ew:=lH (dH0 20 rfl) iV_v_BEGIN iV_v_END hB hE tB tE DS Fy Ds Dm;!Gz:=uH (P:=P) (w:=w) (base:=base) (dH0 32 rfl) T;!Ix:=yq (dH0 33 rfl) Gz T;!Dz:=iU (P:=P) (w:=w) (base:=base) (dH0 27 rfl);!EX:=lM (dH0 24 rfl) DS T;!D4:=iS (P:=P) (w:=w) (base:=base) (dH0 22 rfl) T;!FF:=qm (dH0 23 rfl) iC_c_UPRIGHT iC_c_LEVEL Ew Ei T;!EO:=j4 EQ Dl n_room n_last n_doors n_far D4 Ei FF EX T;!DB:=jW (dH0 29 rfl) iC_c_UPRIGHT Hq;!FG:=qo (P:=P) (w:=w) (base:=base) (dH0 42 rfl) iC_c_UPRIGHT iC_c_LEVEL;!EK:=jV (dH0 43 rfl) Dl n_room n_last n_doors n_far Dm T;!Ev:=iW (P:=P) (w:=w) (base:=base) (dH0 41 rfl) Dl n_room n_last n_doors n_far iC_c_UPRIGHT iC_c_LEVEL iV_v_BEGIN tB T;!EA:=jy (dH0 44 rfl) Dl n_room n_last n_doors n_far iC_c_UPRIGHT iC_c_LEVEL Ev FG EK T;!DT:=lL (dH0 34 rfl) Dl n_room n_last n_doors n_far Dm T;!E5:=mh (dH0 35 rfl) Dl n_room n_last n_doors n_far iC_c_UPRIGHT iC_c_LEVEL DT T;!E3:=md (dH0 36 rfl) Dl n_room n_last n_doors n_far iC_c_UPRIGHT iC_c_LEVEL DT T;!E6:=mi (P:=P) (w:=w) (base:=base) (dH0 37 rfl) Dl n_room n_last n_doors n_far;!E4:=mf (dH0 38 rfl) E5 E3 E6;!Fk:=oq (dH0 28 rfl) iV_v_BEGIN iV_v_END hB hE Dm DH;!FB:=pZ (dH0 46 rfl) Jb;!EM:=jY (P:=P) (w:=w) (base:=base) (dH0 45 rfl) iC_c_UPRIGHT iC_c_LEVEL T;!FA:=pW (dH0 47 rfl) FB Fk DB;!EI:=jR (dH0 48 rfl) Dl n_room n_last n_doors n_far EA EM FA Dz T;!EN:=jZ (P:=P) (w:=w) (base:=base) (dH0 25 rfl);!Fc:=mE (P:=P) (w:=w) (base:=base) (dH0 26 rfl);!Ez:=jw (dH0 39 rfl) DH DB;!Fb:=mD Fd Dl n_room n_last n_doors n_far BF Ix E4 EN Fc Dz Ez T;!E7:=pV (P:=P) (w:=w) (base:=base) (dH0 30 rfl) T;!E8:=pX (dH0 31 rfl) E7 T;!Hr:=wI (dH0 49 rfl) Dl Et EO EI Fb E8;!F4:=rB (dH0 50 rfl) Hr;!Eu:=qg (P:=P) (w:=w) (base:=base) (dH0 51 rfl) T;!Dk:=qc (P:=P) (w:=w) (base:=base) (dH0 52 rfl);!Fa:=mB (dH0 53 rfl) Dk;!DW:=qi (dH0 54 rfl) Dk Fa T;!E9:=mw (dH0 55 rfl) Dk DW T;!ES:=ow (P:=P) (w:=w) (base:=base) (dH0 56 rfl) T;!D9:=mn (P:=P) (w:=w) (base:=base) (dH0 57 rfl) T;!DU:=ik (dH0 58 rfl) ES D9 T;!Do:=qj (P:=P) (w:=w) (base:=base) (dH0 61 rfl);!DY:=oB (P:=P) (w:=w) (base:=base) (dH0 64 rfl);!DJ:=ox (P:=P) (w:=w) (base:=base) (dH0 63 rfl) T;!EV:=lJ (dH0 59 rfl) DU T;!DC:=jx (dH0 60 rfl) EV T;!D5:=ml (dH0 65 rfl) DY DJ T;!Eg:=qh (dH0 62 rfl) Do T;!FC:=p7 (dH0 67 rfl) DC Do Eg D5 T;!DX:=oy (dH0 66 rfl) Do DY DJ T;!EW:=lK (dH0 68 rfl) Do Eg DX T;!Fm:=oA (dH0 69 rfl) DC D5 EW T;!Ea:=my (dH0 70 rfl) D9
 !Fl:=oz (dH0 71 rfl) Dk DX Ea T;!FD:=qb (dH0 72 rfl) F4 FC Fm Do T;#AM (dH0 73 rfl) Eu DW Dk E9 Fl FD T
end K26
end
open PySem PySem.W PyProof.Rows
lay_quick Challenge.pw_oneleash_k26_part_gone_or_fenced
set_option maxRecDepth 100000 in
set_option maxHeartbeats 0 in
theorem PySem.Challenge.cw_oneleash_k26_part_gone_or_fenced_holds : PySem.Challenge.rw_oneleash_k26_part_gone_or_fenced.Holds := by
 w_on;o_law
 refine holds_open (q:=K26.hView) (loose:=K26.hLoose) (Xt:=fun _=>true) (XP:=fun _ _=>True) (Yf:=Hook.obs (Hd.hookT K26.hFacts K26.hGood)) (Ya:=Hook.val (Hd.hookT K26.hFacts K26.hGood)) (YP:=Hook.says (Hd.hookT K26.hFacts K26.hGood)) (N:=100000) K26.hLeft (Hook.of _) (Hook.keeps _) (fun _ _=>trivial) (fun _ _ _ _ _=>trivial) (by rfl) (by rfl) (by rfl) (fun _ _=>recFacts_nil rfl) (by rfl) (by first|assumption|decide +kernel) (by decide +kernel) ⟨rfl,rfl,rfl,rfl,rfl,by decide +kernel⟩ ?hw ?hc
 case hw=>w_witness2
 exact Hd.law_walkT (names:=K26.hTabs) (l:=Challenge.rw_oneleash_k26_part_gone_or_fenced) (k:=15) ⟨rfl,by decide,by decide,rfl⟩ rfl rfl (fun K FK=>K26.hTabOk FK) fun K FK w mg fa h KX G hmg=>K26.all_of rfl FK KX G hmg
