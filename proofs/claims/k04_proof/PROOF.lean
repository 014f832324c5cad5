import PyProof.Rows.All
import Wide.All
import OpenK.AllK
import Wide.FinOn
import Lean
import PyProof.EqAt
import PyProof.EqKinds
import PyProof.TupleCall
import PyProof.Rows.TupAdd
import PyProof.NeKinds
import KE.LcSums
import PyProof.ListRange
import PyProof.ListMulRoad
import PyProof.Draws
import PyProof.EnumMake
import PyProof.MinMaxWalk
import PyProof.WalkInts
import PyProof.Rows.SortStr
import PyProof.Rows.SortKeyStr
import PyProof.WalksMore
import PySem.Challenge.RW_pageties_k04_whole_most_that_clash
set_option Elab.async false
set_option linter.all false
set_option maxRecDepth 100000
set_option maxHeartbeats 4000000
namespace L2
open PySem PySem.Spec PyProof.Rows
abbrev Key:=Sum Int Str
def y7D:Key->Value->Bool
 | .inl k,v=>Value.isInt k v
 | .inr x,v=>Value.isStrOf x v
def w4D(w:World):Key->Int
 | .inl k=>hashInt k
 | .inr x=>hashStr w x
theorem W1:∀{k:Key} {v:Value},y7D k v=true->(∃i t,k=Sum.inl i/\v=Value.int i t)∨(∃x t,k=Sum.inr x/\v=Value.str x t)
 | .inl i,v,h=>by
  obtain⟨t,e⟩:=Value.isInt_shape (k:=i) (v:=v) h;exact .inl ⟨i,t,rfl,e⟩
 | .inr x,v,h=>by
  obtain⟨t,e⟩:=Value.isStrOf_shape (x:=x) (v:=v) h;exact .inr ⟨x,t,rfl,e⟩
theorem x0F(i:Int)(t:Tok):y7D (.inl i) (.int i t)=true:=by simp[y7D,Value.isInt]
theorem x0E(x:Str)(t:Tok):y7D (.inr x) (.str x t)=true:=by simp[y7D,Value.isStrOf]
theorem w1J(a b:Int):decide ((Sum.inl a:Key)=Sum.inl b)=(a==b):=by
 by_cases e:a=b
 ·subst e;simp
 ·have h:¬(Sum.inl a:Key)=Sum.inl b:=fun q=>e (Sum.inl.inj q)
  rw[decide_eq_false h];exact (beq_eq_false_iff_ne.mpr e).symm
theorem w1G(a b:Str):decide ((Sum.inr a:Key)=Sum.inr b)=decide (a=b):=by
 by_cases e:a=b
 ·subst e;simp
 ·have h:¬(Sum.inr a:Key)=Sum.inr b:=fun q=>e (Sum.inr.inj q)
  rw[decide_eq_false h,decide_eq_false e]
theorem w1I(a:Int)(b:Str):decide ((Sum.inl a:Key)=Sum.inr b)=false:=decide_eq_false (fun q=>nomatch q)
theorem w1H(a:Str)(b:Int):decide ((Sum.inr a:Key)=Sum.inl b)=false:=decide_eq_false (fun q=>nomatch q)
def z0K(prog:Program)(w:World):PySem.KeyKind prog w Key where
 is:=y7D
 hash:=w4D w
 inj:=fun v a b ha hb=>by
  rcases W1 ha with⟨i,t,rfl,rfl⟩|⟨x,t,rfl,rfl⟩
  ·rcases W1 hb with⟨j,u,rfl,e⟩|⟨y,u,rfl,e⟩
   ·injection e with e1 _;rw[e1]
   ·exact nomatch e
  ·rcases W1 hb with⟨j,u,rfl,e⟩|⟨y,u,rfl,e⟩
   ·exact nomatch e
   ·injection e with e1 _;rw[e1]
 byValue:=fun k v h=>by
  rcases W1 h with⟨i,t,rfl,rfl⟩|⟨x,t,rfl,rfl⟩<;>rfl
 pyHash:=fun hv h=>by
  rcases W1 hv with⟨i,t,rfl,rfl⟩|⟨x,t,rfl,rfl⟩
  ·exact wpAny_pyHash_int h
  ·exact wpAny_pyHash_str h
 eqBool:=fun hu hv h=>by
  rcases W1 hu with⟨i,t,rfl,rfl⟩|⟨x,t,rfl,rfl⟩
  ·rcases W1 hv with⟨j,u,rfl,rfl⟩|⟨y,u,rfl,rfl⟩
   ·rw[w1J]at h;exact wpAny_eqBool_int h
   ·rw[w1I]at h;exact SeqAt.EqAt.int_str i t y u _ _ _ _ h
  ·rcases W1 hv with⟨j,u,rfl,rfl⟩|⟨y,u,rfl,rfl⟩
   ·rw[w1H]at h;exact SeqAt.EqAt.str_int x t j u _ _ _ _ h
   ·rw[w1G]at h;exact wpAny_eqBool_str h
 «strs»:=fun k x t v h=>by
  rcases W1 h with⟨i,u,rfl,e⟩|⟨y,u,rfl,e⟩
  ·exact nomatch e
  ·injection e with e1 _
   subst e1
   cases v<;>rfl
theorem y48(prog:Program)(w:World)(i:Int)(t:Tok):(z0K prog w).is (.inl i) (.int i t)=true:=x0F i t
theorem y47(prog:Program)(w:World)(x:Str)(t:Tok):(z0K prog w).is (.inr x) (.str x t)=true:=x0E x t
inductive V where
 | non|bl (b:Bool)|int (i:Int)|str (x:Str)|byt (b:Array UInt8)|flt (b:UInt64)|ref (a:Addr)|ty (n:String)
 deriving DecidableEq
def W3:V->Value->Prop
 | .non,u=>u=Value.none
 | .bl b,u=>u=Value.bool b
 | .int i,u=>∃t,u=Value.int i t
 | .str x,u=>∃t,u=Value.str x t
 | .byt b,u=>∃t,u=Value.bytes b t
 | .flt b,u=>∃t,u=Value.float b t
 | .ref a,u=>u=Value.ref a
 | .ty n,u=>u=Value.type n
abbrev Q4:List V->List Value->Prop:=Paired W3
theorem Q4.length{xs:List V}{us:List Value}(r:Q4 xs us):xs.length=us.length:=Paired.length r
theorem Q4.get:∀{xs:List V} {us:List Value} {i:Nat} {x:V},Q4 xs us->xs[i]?=some x->∃u,us[i]?=some u/\W3 x u
 | _,_,_,_,.nil,e=>by simp at e
 | _,_,0,_,.cons r _,e=>by simp at e;subst e;exact⟨_,rfl,r⟩
 | _,_,i+1,x,.cons _ t,e=>by
  obtain⟨u,h1,h2⟩:=Q4.get (i:=i) (x:=x) t (by simpa using e)
  exact⟨u,by simpa using h1,h2⟩
theorem Q4.append:∀{xs ys:List V} {us ws:List Value},Q4 xs us->Q4 ys ws->Q4 (xs++ys) (us++ws)
 | _,_,_,_,.nil,s=>s
 | _,_,_,_,.cons r t,s=>.cons r (Q4.append t s)
theorem Q4.take:∀{xs:List V} {us:List Value} (n:Nat),Q4 xs us->Q4 (xs.take n) (us.take n)
 | _,_,0,_=>.nil
 | _,_,_+1,.nil=>.nil
 | _,_,n+1,.cons r t=>.cons r (Q4.take n t)
theorem Q4.drop:∀{xs:List V} {us:List Value} (n:Nat),Q4 xs us->Q4 (xs.drop n) (us.drop n)
 | _,_,0,r=>r
 | _,_,_+1,.nil=>.nil
 | _,_,n+1,.cons _ t=>Q4.drop n t
def y87:Option V->Option Value->Prop
 | some v,some u=>W3 v u
 | none,none=>True
 | _,_=>False
def KV{κ:Type}:List (κ×V)->List (κ×Value)->Prop:=Paired fun (p:κ×V) (q:κ×Value)=>p.1=q.1/\W3 p.2 q.2
def kV:Key->V
 | .inl i=>.int i
 | .inr x=>.str x
inductive HO where
 /-- a list -/
 | lst (xs:List V)
 /-- a tuple (never changes) -/
 | tup (xs:List V)
 /-- a dict whose keys are ints and texts;one whose keys are tuples of ints and texts (the empty one is both) -/
 | dK (kvs:List (Key×V))|dT (kvs:List (List Key×V))
 /-- a set of ints: its members,its size -/
 | set (S:Int->Bool) (n:Nat)
 /-- an instance of the class at C,its dict at dx,its attributes -/
 | ins (C dx:Addr) (fs:List (Str×V))
 /-- the dict of the instance at x -/
 | own (x:Addr)
 /-- the dict of an exception -/
 | xd (fs:List (Str×V))
 /-- a bound method,f of x -/
 | met (f x:Addr)
 /-- a range object lo,lo+1,.. below hi -/
 | rng (lo hi:Int)
 /-- a thing that is known to the object (the script;a dict while a loop walks it): read,never written while it is so -/
 | frz (o:Obj) (u:HO)
 /-- a code object's table -/
 | tbl (ps:Array Value)
 /-- any other thing,by what is true of its one object (a def of one's own: SetO a S n:=HO.ext fun h=>..) -/
 | ext (φ:Heap->Prop)
abbrev Hp:=Addr->Option HO
def upd(H:Hp)(a:Addr)(o:HO):Hp:=fun b=>if b=a then some o else H b
theorem x5{H:Hp}{a:Addr}{o:HO}:upd H a o a=some o:=by unfold upd;rw[if_pos rfl]
theorem v9{H:Hp}{a b:Addr}{o:HO}(h:b≠a):upd H a o b=H b:=by unfold upd;rw[if_neg h]
theorem w33{H:Hp}{a b:Addr}{o u:HO}(h:H a=some o)(h':H b=some u)(d:o≠u):a≠b:=by
 intro e;subst e;rw[h]at h';exact d (Option.some.inj h')
theorem K7{H:Hp}{a b:Addr}{o:HO}(h:H a=some o)(h':H b=none):a≠b:=by
 intro e;subst e;rw[h]at h';cases h'
def y8S(ps:Array Value):Str:=match (ps[0]?:Option Value) with|some (Value.str q _)=>q++".<locals>."++"<lambda>" | _=>"<lambda>"
def x1U(h:Heap)(a:Addr)(items:Array Value):Prop:=∃o,h.get? a=some o/\o.cls = .type "tuple"/\(∃n,o.data = .seq items n)/\o.dict=none
theorem x1U.isTup{h:Heap}{a:Addr}{items:Array Value}(x:x1U h a items):IsTup h a items:=let ⟨o,e,c,d,_⟩:=x;⟨o,e,c,d⟩
theorem x1U.new(h:Heap)(items:Array Value):x1U (h.push { cls:=.type "tuple",data:=.seq items }) h.objs.size items:=⟨_,Heap.get?_push_size _ rfl,rfl,⟨_,rfl⟩,rfl⟩
section
variable(P:Program)(w:World)
def z0W(H:Hp)(h:Heap)(a:Addr):HO->Prop
 | .lst xs=>xs.length≤sizeLine/\∃(its:List Value) (n:Nat),Q4 xs its/\h.get? a=some { cls:=.type "list",data:=.seq its.toArray n }
 | .tup xs=>xs.length≤sizeLine/\∃its:List Value,Q4 xs its/\x1U h a its.toArray
 | .dK kvs=>kvs.length≤sizeLine/\(a==sysModules)=false/\∃vs,KV kvs vs/\h.DictOf (z0K P w) a vs
 | .dT kvs=>kvs.length≤sizeLine/\(a==sysModules)=false/\∃xs:List (List Key×Addr×Value),
   Paired (fun (p:List Key×V) (q:List Key×Addr×Value)=>p.1=q.1/\H q.2.1=some (.tup (p.1.map kV))/\W3 p.2 q.2.2) kvs xs /\
   ∃o es ep,h.get? a=some o/\o.ExactDict/\o.data = .dict es ep/\es.toList=xs.map (entryOfKey (tupleKind (z0K P w)))/\(xs.map (·.1)).Nodup
 | .set S n=>h.SetOf (intKind P w) a S n
 | .ins C dx fs=>H dx=some (.own a)/\fs.length≤1000/\dx≠a/\h.get? a=some (PySem.W.instObj C dx) /\
   ∃mA,h.Ns1 dx mA/\(∀f,y87 (fs.lookup f) (mA f))/\PySem.Within mA (fs.map (·.1))
 | .own _=>∃o,h.get? a=some o
 | .xd fs=>∃mA,h.Ns1 a mA/\∀f,y87 (fs.lookup f) (mA f)
 | .rng lo hi=>∃t u v,h.get? a=some { cls:=.type "range",data:=.fields #[.int lo t,.int hi u,.int 1 v] }
 | .frz o u=>h.get? a=some o/\z0W H h a u
 | .tbl ps=>∃qs:Array Value,h.get? a=some { cls:=.none,data:=.fields qs }/\TriplesOk qs.toList/\∀(p:Pos) (v:Value),codeAmong p qs.toList=some v->∃(c:Addr) (oc:Obj) (vs:Array Value) (t:Tok),v = .ref c/\H c=some (.frz oc (.own a))/\oc.data = .fields vs/\vs[1]?=some (.str (y8S ps) t)
 | .met f x=>h.get? a=some (PySem.W.methodObj (.ref f) (.ref x))
 | .ext φ=>φ h/\(∃o,h.get? a=some o)/\∀h1 h2:Heap,φ h1->(∀o,h1.get? a=some o->h2.get? a=some o)->φ h2
def HOk(H:Hp)(h:Heap):Prop:=∀a o,H a=some o->z0W P w H h a o
end
section
variable{P:Program}{w:World}{H H':Hp}{h h':Heap}{a:Addr}{o:HO}
theorem z0W.lt(x:z0W P w H h a o):a<h.objs.size:=by
 cases o with
 | lst xs=>obtain⟨_,_,_,_,e⟩:=x;exact Heap.lt_size e
 | tup xs=>obtain⟨_,_,_,p⟩:=x;exact p.isTup.lt
 | dK kvs=>obtain⟨_,_,_,_,o,_,_,e,_⟩:=x;exact Heap.lt_size e
 | dT kvs=>obtain⟨_,_,_,_,o,_,_,e,_⟩:=x;exact Heap.lt_size e
 | set S n=>obtain⟨o,_,_,_,e,_⟩:=x;exact Heap.lt_size e
 | ins C dx fs=>obtain⟨_,_,_,e,_⟩:=x;exact Heap.lt_size e
 | own y=>obtain⟨_,e⟩:=x;exact Heap.lt_size e
 | xd fs=>obtain⟨_,⟨_,_,_,e,_⟩,_⟩:=x;exact Heap.lt_size e
 | rng lo hi=>obtain⟨_,_,_,e⟩:=x;exact Heap.lt_size e
 | frz ob u=>obtain⟨e,_⟩:=x;exact Heap.lt_size e
 | tbl ps=>obtain⟨_,e,_⟩:=x;exact Heap.lt_size e
 | met f y=>exact Heap.lt_size (show h.get? a=some _ from x)
 | ext φ=>obtain⟨_,⟨_,e⟩,_⟩:=x;exact Heap.lt_size e
theorem Paired.mapP{α β:Type}{F G:α->β->Prop}:∀{l₁:List α} {l₂:List β},Paired F l₁ l₂->(∀a b,F a b->G a b)->Paired G l₁ l₂
 | _,_,.nil,_=>.nil
 | _,_,.cons r t,f=>.cons (f _ _ r) (Paired.mapP t f)
theorem z0W.stay(x:z0W P w H h a o)(k:∀b u,(b=a∨H b=some (.own a))->h.get? b=some u->h'.get? b=some u)(ho:∀b,H b=some (.own a)->H' b=some (.own a))(ht:∀b xs,H b=some (.tup xs)->H' b=some (.tup xs))(hz:∀b ob u,H b=some (.frz ob u)->H' b=some (.frz ob u)):z0W P w H' h' a o:=by
 induction o with
 | lst xs=>obtain⟨z,its,n,r,e⟩:=x;exact⟨z,its,n,r,k _ _ (.inl rfl) e⟩
 | tup xs=>obtain⟨z,its,r,ob,e,c⟩:=x;exact⟨z,its,r,ob,k _ _ (.inl rfl) e,c⟩
 | dK kvs=>obtain⟨z,y,vs,r,ob,es,ep,e,c⟩:=x;exact⟨z,y,vs,r,ob,es,ep,k _ _ (.inl rfl) e,c⟩
 | dT kvs =>
  obtain⟨z,y,xs,r,ob,es,ep,e,c⟩:=x
  exact⟨z,y,xs,Paired.mapP r fun p q z=>⟨z.1,ht _ _ z.2.1,z.2.2⟩,ob,es,ep,k _ _ (.inl rfl) e,c⟩
 | set S n=>obtain⟨ob,es,ep,t,e,c⟩:=x;exact⟨ob,es,ep,t,k _ _ (.inl rfl) e,c⟩
 | ins C dx fs =>
  obtain⟨d,z,ne,e,mA,⟨od,es,ep,e2,c⟩,r⟩:=x
  exact⟨ho _ d,z,ne,k _ _ (.inl rfl) e,mA,⟨od,es,ep,k _ _ (.inr d) e2,c⟩,r⟩
 | own y=>obtain⟨ob,e⟩:=x;exact⟨ob,k _ _ (.inl rfl) e⟩
 | xd fs=>obtain⟨mA,⟨od,es,ep,e,c⟩,r⟩:=x;exact⟨mA,⟨od,es,ep,k _ _ (.inl rfl) e,c⟩,r⟩
 | rng lo hi=>obtain⟨t,u,v,e⟩:=x;exact⟨t,u,v,k _ _ (.inl rfl) e⟩
 | frz ob u ih=>obtain⟨e,q⟩:=x;exact⟨k _ _ (.inl rfl) e,ih q⟩
 | tbl ps =>
  obtain⟨qs,e,t,c⟩:=x
  exact⟨qs,k a _ (.inl rfl) e,t,fun p v q=>let ⟨c',oc,vs,tk,z1,z2,z3⟩:=c p v q;⟨c',oc,vs,tk,z1,hz _ _ _ z2,z3⟩⟩
 | met f y =>
  have e:h.get? a=some (PySem.W.methodObj (.ref f) (.ref y)):=x
  show h'.get? a=some (PySem.W.methodObj (.ref f) (.ref y))
  exact k a _ (.inl rfl) e
 | ext φ=>obtain⟨p,⟨o,e⟩,st⟩:=x;exact⟨st _ _ p fun o q=>k _ _ (.inl rfl) q,⟨o,k _ _ (.inl rfl) e⟩,st⟩
theorem HOk.lt(x:HOk P w H h)(e:H a=some o):a<h.objs.size:=(x a o e).lt
theorem HOk.fresh(x:HOk P w H h)(e:h.objs.size≤a):H a=none:=by
 cases q:H a with
 | none=>rfl
 | some u=>exact absurd (Nat.lt_of_lt_of_le (x.lt q) e) (Nat.lt_irrefl _)
theorem HOk.kept(x:HOk P w H h)(k:∀b u,h.get? b=some u->h'.get? b=some u):HOk P w H h':=fun a o e =>
 (x a o e).stay (fun b u _ q=>k b u q) (fun _ q=>q) (fun _ _ q=>q) fun _ _ _ q=>q
theorem HOk.laid(x:HOk P w H h)(k:∀b u,h.get? b=some u->h'.get? b=some u)(hp:h.objs.size≤a)(new:z0W P w (upd H a o) h' a o):HOk P w (upd H a o) h':=fun b u e=>by
 have hn:=x.fresh hp;by_cases hb:b=a
 ·subst hb;rw[x5]at e;cases e;exact new
 ·rw[v9 hb]at e
  exact (x b u e).stay (fun c v _ q=>k c v q) (fun c q=>by rw[v9 (K7 q hn)];exact q) (fun c xs q=>by rw[v9 (K7 q hn)];exact q) fun c ob xs q=>by rw[v9 (K7 q hn)];exact q
end
def Rd(H:Hp)(a:Addr)(u:HO):Prop:=H a=some u∨∃o,H a=some (.frz o u)
theorem Rd.of{H:Hp}{a:Addr}{u:HO}(h:H a=some u):Rd H a u:=.inl h
theorem Rd.ok{P:Program}{w:World}{H:Hp}{h:Heap}{a:Addr}{u:HO}(r:Rd H a u)(x:HOk P w H h):z0W P w H h a u:=by
 rcases r with r|⟨o,r⟩
 ·exact x a u r
 ·obtain⟨_,q⟩:=x a _ r;exact q
def Mut:Option HO->Prop
 | some (.lst _)=>True
 | some (.dK _)=>True
 | some (.dT _)=>True
 | some (.set _ _)=>True
 | some (.ins _ _ _)=>True
 | some (.ext _)=>True
 | _=>False
section
variable{P:Program}{w:World}{H:Hp}{h h':Heap}{x e:Addr}{o':HO}
theorem HOk.write(ok:HOk P w H h)(mu:Mut (H x))(he:e=x∨H e=some (.own x))(k:∀b u,b≠e->h.get? b=some u->h'.get? b=some u)(heo:∃u,h'.get? e=some u)(new:z0W P w (upd H x o') h' x o'):HOk P w (upd H x o') h':=fun b u q=>by
 have nown:∀c y,H c=some (.own y)->c≠x:=fun c y r z=>by subst z;rw[r]at mu;exact mu
 have ntup:∀c xs,H c=some (.tup xs)->c≠x:=fun c xs r z=>by subst z;rw[r]at mu;exact mu
 have nfrz:∀c ob u,H c=some (.frz ob u)->c≠x:=fun c ob u r z=>by subst z;rw[r]at mu;exact mu
 by_cases hb:b=x
 ·subst hb;rw[x5]at q;cases q;exact new
 ·rw[v9 hb]at q;by_cases hbe:b=e
  ·have q':H b=some (.own x):=by
    rcases he with z|z
    ·exact absurd (hbe.trans z) hb
    ·rw[hbe];exact z
   rw[q]at q';cases q'
   obtain⟨v,hv⟩:=heo
   exact⟨v,by rw[hbe];exact hv⟩
  ·refine (ok b u q).stay (fun c v hc r=>k c v ?_ r) (fun c r=>by rw[v9 (nown c b r)];exact r) (fun c xs r=>by rw[v9 (ntup c xs r)];exact r) fun c ob xs r=>by rw[v9 (nfrz c ob xs r)];exact r
   rcases hc with rfl|hc
   ·exact hbe
   ·rintro rfl
    rcases he with z|z
    ·exact nown c b hc z
    ·rw[hc]at z;cases z;exact hb rfl
end
structure Un(fs ex:List Addr)(H H':Hp)(h h':Heap):Prop where
 keep:∀b o,h.get? b=some o->H b=none->b∉fs->b∉ex->h'.get? b=some o
 slot:∀b o,h.get? b=some o->H b=none->b∈fs->b∉ex->∃sl,h'.get? b=some { o with slots:=sl }
 free:∀b o,h.get? b=some o->H b=none->b∉ex->H' b=none
 there:∀b o,h.get? b=some o->b∉ex->∃o',h'.get? b=some o'
 tups:∀b xs,H b=some (.tup xs)->H' b=some (.tup xs)
 frzs:∀b o u,H b=some (.frz o u)->H' b=some (.frz o u)
 tbls:∀b ps,H b=some (.tbl ps)->∃more,H' b=some (.tbl (ps++more))
section
variable{fs fs' ex ex':List Addr}{H H1 H2:Hp}{h h1 h2 h':Heap}{a x e:Addr}{o:HO}
theorem Un.any(u:Un fs ex H H1 h h1){b:Addr}{ob:Obj}(q:h.get? b=some ob)(n:H b=none)(hx:b∉ex):∃sl,h1.get? b=some { ob with slots:=sl }:=by
 by_cases hb:b∈fs
 ·exact u.slot b ob q n hb hx
 ·exact⟨ob.slots,u.keep b ob q n hb hx⟩
theorem Un.kept(k:∀b u,h.get? b=some u->h'.get? b=some u):Un fs ex H H h h' :=
 ⟨fun b ob q _ _ _=>k b ob q,fun b ob q _ _ _=>⟨ob.slots,k b ob q⟩,fun _ _ _ n _=>n,fun b ob q _=>⟨ob,k b ob q⟩,fun _ _ q=>q,fun _ _ _ q=>q,fun _ ps q=>⟨#[],by rw[q];simp⟩⟩
theorem Un.refl:Un fs ex H H h h:=Un.kept fun _ _ q=>q
theorem Un.laid(k:∀b u,h.get? b=some u->h'.get? b=some u)(hp:h.objs.size≤a)(hn:H a=none):Un fs ex H (upd H a o) h h' where
 keep:=fun b u q _ _ _=>k b u q
 slot:=fun b u q _ _ _=>⟨u.slots,k b u q⟩
 free:=fun b u q n _=>by rw[v9 (Nat.ne_of_lt (Nat.lt_of_lt_of_le (Heap.lt_size q) hp))];exact n
 there:=fun b u q _=>⟨u,k b u q⟩
 tups:=fun b xs q=>by rw[v9 (K7 q hn)];exact q
 frzs:=fun b u xs q=>by rw[v9 (K7 q hn)];exact q
 tbls:=fun b ps q=>⟨#[],by rw[v9 (K7 q hn),q];simp⟩
theorem Un.write(mu:Mut (H x))(he:e=x∨H e=some (.own x))(k:∀b u,b≠e->h.get? b=some u->h'.get? b=some u)(heo:∃u,h'.get? e=some u):Un fs ex H (upd H x o) h h':=by
 have hx:∀b,H b=none->b≠x:=fun b n z=>by subst z;rw[n]at mu;exact mu
 have hb:∀b,H b=none->b≠e:=fun b n z=>by
  subst z
  rcases he with r|r
  ·exact hx b n r
  ·rw[n]at r;cases r
 have hm:∀b u,H b=some u->¬Mut (some u)->b≠x:=fun b u q nm z=>by subst z;rw[q]at mu;exact nm mu
 refine⟨fun b u q n _ _=>k b u (hb b n) q,fun b u q n _ _=>⟨u.slots,k b u (hb b n) q⟩,fun b u q n _=>by rw[v9 (hx b n)];exact n,fun b u q _=>?_,
  fun b xs q=>by rw[v9 (hm b _ q fun z=>z)];exact q,fun b u xs q=>by rw[v9 (hm b _ q fun z=>z)];exact q,fun b ps q=>⟨#[],by rw[v9 (hm b _ q fun z=>z),q];simp⟩⟩
 by_cases hbe:b=e
 ·subst hbe;exact heo
 ·exact⟨u,k b u hbe q⟩
theorem Un.mono(u:Un fs ex H H1 h h1)(hs:∀b∈fs,b∈fs')(hx:∀b∈ex,b∈ex'):Un fs' ex' H H1 h h1 :=
 ⟨fun b ob q n hb he=>u.keep b ob q n (fun z=>hb (hs b z)) fun z=>he (hx b z),fun _ _ q n _ he=>u.any q n fun z=>he (hx _ z),fun b ob q n he=>u.free b ob q n fun z=>he (hx b z),fun b ob q he=>u.there b ob q fun z=>he (hx b z),u.tups,u.frzs,u.tbls⟩
end
def trk(h:Heap)(H:Hp):List Addr:=(List.range h.objs.size).filter fun a=>(H a).isSome
def x3O(h:Heap)(H:Hp):Heap:=PySem.W.hideAll h (trk h H)
theorem x0O(h:Heap)(H:Hp):(x3O h H).objs.size=h.objs.size:=PySem.W.hideAll_size _ _
theorem x3N{h:Heap}{H:Hp}{b:Addr}{o:Obj}(e:h.get? b=some o)(n:H b=none):(x3O h H).get? b=some o :=
 PySem.W.hideAll_get _ e fun hm=>by
  have q:(H b).isSome=true:=(List.mem_filter.mp hm).2;rw[n]at q;simp at q
theorem x7A{h:Heap}{H:Hp}{b:Addr}{o:Obj}(e:(x3O h H).get? b=some o):h.get? b=some o/\H b=none:=by
 have e':h.get? b=some o:=PySem.W.of_hideAll (trk h H) e
 refine⟨e',?_⟩
 cases q:H b with
 | none=>rfl
 | some x =>
  have hm:b∈trk h H:=List.mem_filter.mpr ⟨List.mem_range.mpr (Heap.lt_size e'),by simp[q]⟩
  have z:(x3O h H).get? b=none:=PySem.W.hideAll_none (trk h H) hm;rw[z]at e;cases e
def x8F(g h:Heap)(L:Addr):List (Addr×Obj):=(List.range h.objs.size).filterMap fun a=>if a=L∨(g.get? a).isSome=true then none else (h.get? a).map fun o=>(a,o)
def rest(g h:Heap)(L d:Addr):List (Addr×Obj):=(x8F g h L).filter fun p=>decide (p.1≠d)
structure Mod(K:PySem.W.Frag)(mg:Str->Option Value)(base:Heap):Prop where
 kin:K.In base
 glob:base.Ns mainGlobals mg
 blt:∃mb,base.Ns builtinsNs mb/\∀x:Str,x≠"__name__"->mb x=bootBuiltins x
 nolimit:base.NoLimit
 bm:∃bm ob,mg "__builtins__" = some (.ref bm)/\bm≠builtinsNs/\base.get? bm=some ob/\ob.cls = .type "module"/\ob.dict=some builtinsNs/\ob.data = .plain
structure Cx where
 prog:Program
 w:World
 K:PySem.W.Frag
 mg:Str->Option Value
 base:Heap
 A:Around
 N:List Str
 s₀:Shared
 H₀:Hp
 env:Env
 outer:List Env
 stack:List Env
 ex:List Addr
 fn:Str->Bool
 calm:Bool
 pn:List (Addr×Obj)
 xe:Value->Shared->Prop
def frs(l:List Env):List Addr:=l.filterMap (·.frame)
abbrev Cx.fs(X:Cx):List Addr:=frs X.outer
def Vis(sc:Scope)(x:Str):Prop:=sc.names.lookup x=some .local∨sc.names.lookup x=some .cell∨sc.names.lookup x=some .free
def Loc(sc:Scope)(x:Str):Prop:=sc.names.lookup x=some .local∨sc.names.lookup x=some .cell
def w4N(env:Env)(h:Heap)(m:Str->Option Value)(x:Str)(u:Value):Prop :=
 (env.kindOf x=some .local/\m x=some u)∨((env.kindOf x=some .cell∨env.kindOf x=some .free)/\∃c,env.cells.lookup x=some c/\h.IsCell c (some u))
structure Cx.Ok(X:Cx):Prop where
 mod:Mod X.K X.mg X.base
 kind:X.env.scope.kind = .function
 glob:X.env.globals=mainGlobals
 blt:X.env.builtins=builtinsNs
 above:X.s₀.heap.objs.size≤X.env.locals
 inj:∀x y c,X.env.cells.lookup x=some c->X.env.cells.lookup y=some c->x=y
 has:∀x,(X.env.kindOf x=some .cell∨X.env.kindOf x=some .free)->∃c,X.env.cells.lookup x=some c
 cab:∀x c,X.fn x=true->X.env.cells.lookup x=some c->X.s₀.heap.objs.size≤c
 hd:X.calm=true->X.A.handled=none
 frames:X.A.frames=some X.stack
 stk:X.stack=X.outer∨(X.stack=X.env::X.outer/\X.env.frame=some X.env.locals)
 exf:∀b∈X.ex,b≠X.env.locals/\∀x c,X.env.cells.lookup x=some c->c≠b
 bs:∀b o,X.base.get? b=some o->X.s₀.heap.get? b=some o/\X.H₀ b=none
 bsz:X.base.objs.size≤X.s₀.heap.objs.size
 noex:∀b o,X.base.get? b=some o->b∉X.ex
 exfs:∀b∈X.ex,b∉X.fs
 funs:X.s₀.heap.FunFrames X.base X.outer
 frf:∀b∈X.fs,X.H₀ b=none
structure Inv(X:Cx)(pins:List (Addr×Obj))(σ:List (Option V))(H:Hp)(s:Shared):Prop where
 ok:X.Ok
 os:s.os=X.s₀.os
 bare:AllBare s.gens
 base:Un X.fs X.ex X.H₀ H X.s₀.heap s.heap
 loc:∃m,s.heap.Ns X.env.locals m/\∀(i:Nat) (x:Str) (v:V),X.N[i]?=some x->σ[i]?=some (some v)->Vis X.env.scope x->∃u,W3 v u/\w4N X.env s.heap m x u
 cell:∀x c,X.env.cells.lookup x=some c->∃v,s.heap.IsCell c v
 free:H X.env.locals=none
 freeC:∀x c,X.env.cells.lookup x=some c->H c=none
 pin:∀p∈X.pn++pins,s.heap.get? p.1=some p.2/\H p.1=none/\p.1≠X.env.locals/\p.1∉X.fs/\∀v,p.2.data≠.cell v
 hok:HOk X.prog X.w H s.heap
 len:σ.length=X.N.length
section
variable{X:Cx}{pins:List (Addr×Obj)}{σ:List (Option V)}{H H':Hp}{s:Shared}{h':Heap}
theorem Cx.Ok.nofr(ok:X.Ok){b:Addr}{o:Obj}(e:X.base.get? b=some o):b∉X.fs:=fun hb=>by
 have:=(ok.funs.mem hb).1
 rw[e]at this;cases this
theorem Inv.bs(I:Inv X pins σ H s):∀b o,X.base.get? b=some o->s.heap.get? b=some o/\H b=none:=fun b o e =>
 ⟨I.base.keep b o (I.ok.bs b o e).1 (I.ok.bs b o e).2 (I.ok.nofr e) (I.ok.noex b o e),I.base.free b o (I.ok.bs b o e).1 (I.ok.bs b o e).2 (I.ok.noex b o e)⟩
theorem Inv.bk(I:Inv X pins σ H s):∀b o,X.base.get? b=some o->s.heap.get? b=some o:=fun b o e=>(I.bs b o e).1
theorem Inv.mod(I:Inv X pins σ H s):Mod X.K X.mg X.base:=I.ok.mod
theorem Inv.kIn(I:Inv X pins σ H s):X.K.In s.heap:=I.ok.mod.kin.keeps I.bk
theorem Inv.nolimit(I:Inv X pins σ H s):s.heap.NoLimit:=I.ok.mod.nolimit.keeps I.bk
theorem Inv.lt(I:Inv X pins σ H s):X.env.locals<s.heap.objs.size:=let ⟨_,hn,_⟩:=I.loc;hn.lt
theorem Inv.sz(I:Inv X pins σ H s):X.s₀.heap.objs.size≤s.heap.objs.size:=Nat.le_trans I.ok.above (Nat.le_of_lt I.lt)
theorem Inv.nofs(I:Inv X pins σ H s){a:Addr}(h:s.heap.objs.size≤a):a∉X.fs:=fun hb=>by
 obtain⟨_,o,ho,_⟩:=I.ok.funs.mem hb;exact absurd (Nat.lt_of_lt_of_le (Heap.lt_size ho) (Nat.le_trans I.sz h)) (Nat.lt_irrefl _)
theorem Inv.cne(I:Inv X pins σ H s):∀x c,X.env.cells.lookup x=some c->c≠X.env.locals:=fun x c e z=>by
 obtain⟨v,o,ho,hd⟩:=I.cell x c e;obtain⟨m,⟨o',es,ep,ho',hd',_⟩,_⟩:=I.loc;rw[z,ho']at ho;cases ho;rw[hd']at hd;cases hd
theorem Inv.funs(I:Inv X pins σ H s):s.heap.FunFrames X.base X.outer:=by
 have all:∀(l:List Env),(∀b∈frs l,b∈X.fs)->X.s₀.heap.FunFrames X.base l->s.heap.FunFrames X.base l:=by
  intro l
  induction l with
  | nil=>intro _ _;trivial
  | cons env r ih =>
   intro hs hl;obtain⟨hk,⟨L,o,hf,hn,ho,hd⟩,hr⟩:=hl
   have hL:L∈X.fs:=hs L (by unfold frs;rw[List.filterMap_cons,hf];exact List.mem_cons_self)
   obtain⟨sl,e⟩:=I.base.slot L o ho (I.ok.frf L hL) hL fun z=>I.ok.exfs L z hL
   exact⟨hk,⟨L,_,hf,hn,e,hd⟩,ih (fun b hb=>hs b (by unfold frs;rw[List.filterMap_cons,hf];exact List.mem_cons_of_mem _ hb)) hr⟩
 exact all X.outer (fun _ hb=>hb) I.ok.funs
theorem Inv.stack(I:Inv X pins σ H s):s.heap.FunFrames X.base X.stack:=by
 rcases I.ok.stk with e|⟨e,hf⟩
 ·rw[e];exact I.funs
 ·rw[e];obtain⟨m,hn,_⟩:=I.loc
  refine .cons (by rw[I.ok.kind];decide) hf hn ?_ I.funs
  exact Heap.get?_none_of_le (Nat.le_trans I.ok.bsz I.ok.above)
theorem Inv.stkSub(I:Inv X pins σ H s):∀b∈frs X.stack,b∈X.env.locals::X.fs:=fun b hb=>by
 rcases I.ok.stk with e|⟨e,hf⟩
 ·rw[e]at hb;exact List.mem_cons_of_mem _ hb
 ·rw[e]at hb;unfold frs at hb;rw[List.filterMap_cons,hf]at hb;exact hb
theorem Inv.stkFree(I:Inv X pins σ H s):∀b∈frs X.stack,H b=none:=fun b hb=>by
 rcases List.mem_cons.mp (I.stkSub b hb) with e|hb
 ·rw[e];exact I.free
 ·obtain⟨_,o,ho,_⟩:=I.ok.funs.mem hb
  exact I.base.free b o ho (I.ok.frf b hb) fun z=>I.ok.exfs b z hb
theorem Inv.step{g':Array GenState}{t':Nat}{d':Drawn}{ch:List Addr}(I:Inv X pins σ H s)(hch:∀b∈ch,(b∈X.ex∨X.s₀.heap.objs.size≤b)/\b≠X.env.locals/\(∀x c,X.env.cells.lookup x=some c->c≠b)/\∀p∈X.pn++pins,p.1≠b)(keep:∀b o,b≠X.env.locals->b∉X.fs->b∉ch->s.heap.get? b=some o->H b=none->h'.get? b=some o)(slot:∀b o,b≠X.env.locals->b∈X.fs->b∉ch->s.heap.get? b=some o->H b=none->∃sl,h'.get? b=some { o with slots:=sl })(free:∀b o,b∉ch->s.heap.get? b=some o->H b=none->H' b=none)(there:∀b o,b∉ch->s.heap.get? b=some o->∃o',h'.get? b=some o')(tups:∀b xs,H b=some (.tup xs)->H' b=some (.tup xs))(frzs:∀b o u,H b=some (.frz o u)->H' b=some (.frz o u))(tbls:∀b ps,H b=some (.tbl ps)->∃more,H' b=some (.tbl (ps++more)))(ns:∀m,s.heap.Ns X.env.locals m->h'.Ns X.env.locals m)(hok:HOk X.prog X.w H' h')(hg:AllBare g') :
  Inv X pins σ H' { s with heap:=h',gens:=g',drawn:=d',toks:=t' }:=by
 have neL:∀b o,X.s₀.heap.get? b=some o->b≠X.env.locals:=fun b o e=>Nat.ne_of_lt (Nat.lt_of_lt_of_le (Heap.lt_size e) I.ok.above)
 have neC:∀b o,X.s₀.heap.get? b=some o->b∉X.ex->b∉ch:=fun b o e hx hb=>by
  rcases (hch b hb).1 with z|z
  ·exact hx z
  ·exact absurd (Nat.lt_of_lt_of_le (Heap.lt_size e) z) (Nat.lt_irrefl _)
 have cellK:∀x c,X.env.cells.lookup x=some c->∀v,s.heap.IsCell c v->h'.IsCell c v:=fun x c e v ⟨o,ho,hd⟩=>by
  have nch:c∉ch:=fun z=>(hch c z).2.2.1 x c e rfl
  by_cases hc:c∈X.fs
  ·obtain⟨sl,q⟩:=slot c o (I.cne x c e) hc nch ho (I.freeC x c e)
   exact⟨_,q,hd⟩
  ·exact⟨o,keep c o (I.cne x c e) hc nch ho (I.freeC x c e),hd⟩
 refine⟨I.ok,I.os,hg,⟨fun b o e n hb hx=>?_,fun b o e n hb hx=>?_,fun b o e n hx=>?_,fun b o e hx=>?_,fun b xs e=>tups b xs (I.base.tups b xs e),fun b o xs e=>frzs b o xs (I.base.frzs b o xs e),fun b ps e=>?_⟩,?_,fun x c e=>?_,?_,fun x c e=>?_,fun p hp=>?_,hok,I.len⟩
 ·exact keep b o (neL b o e) hb (neC b o e hx) (I.base.keep b o e n hb hx) (I.base.free b o e n hx)
 ·obtain⟨sl,e1⟩:=I.base.slot b o e n hb hx;obtain⟨sl',e2⟩:=slot b _ (neL b o e) hb (neC b o e hx) e1 (I.base.free b o e n hx)
  exact⟨sl',e2⟩
 ·obtain⟨o',e1⟩:=I.base.there b o e hx;exact free b o' (neC b o e hx) e1 (I.base.free b o e n hx)
 ·obtain⟨o',e1⟩:=I.base.there b o e hx;exact there b o' (neC b o e hx) e1
 ·obtain⟨m1,e1⟩:=I.base.tbls b ps e;obtain⟨m2,e2⟩:=tbls b _ e1
  exact⟨m1++m2,by rw[e2,Array.append_assoc]⟩
 ·obtain⟨m,hn,hl⟩:=I.loc
  refine⟨m,ns m hn,fun i x v e1 e2 e3=>?_⟩
  obtain⟨u,r,l⟩:=hl i x v e1 e2 e3
  refine⟨u,r,?_⟩
  rcases l with l|⟨k,c,e,z⟩
  ·exact .inl l
  ·exact .inr ⟨k,c,e,cellK x c e _ z⟩
 ·obtain⟨v,z⟩:=I.cell x c e
  exact⟨v,cellK x c e v z⟩
 ·obtain⟨m,⟨o,_,_,ho,_⟩,_⟩:=I.loc
  exact free _ o (fun z=>(hch _ z).2.1 rfl) ho I.free
 ·obtain⟨v,o,ho,hd⟩:=I.cell x c e
  exact free c o (fun z=>(hch c z).2.2.1 x c e rfl) ho (I.freeC x c e)
 ·obtain⟨e,n,ne,nf,d⟩:=I.pin p hp
  have nch:p.1∉ch:=fun z=>(hch p.1 z).2.2.2 p hp rfl
  exact⟨keep p.1 p.2 ne nf nch e n,free p.1 p.2 nch e n,ne,nf,d⟩
theorem Inv.un{t':Nat}(I:Inv X pins σ H s)(u:Un X.fs [] H H' s.heap h')(hok:HOk X.prog X.w H' h'):Inv X pins σ H' { s with heap:=h',toks:=t' }:=by
 obtain⟨m,⟨o,es,ep,ho,r⟩,_⟩:=id I.loc
 obtain⟨sl,hL⟩:=u.any ho I.free (by simp)
 exact I.step (g':=s.gens) (d':=s.drawn) (ch:=[]) (fun _ z=>nomatch z) (fun b o _ hb _ e n=>u.keep b o e n hb (by simp)) (fun b o _ hb _ e n=>u.slot b o e n hb (by simp)) (fun b o _ e n=>u.free b o e n (by simp)) (fun b o _ e=>u.there b o e (by simp)) u.tups u.frzs u.tbls (fun m' hm=>by
  obtain⟨o',es',ep',ho',r'⟩:=hm;rw[ho]at ho';cases ho'
  exact⟨_,es',ep',hL,r'⟩) hok I.bare
theorem Inv.call{g':Array GenState}{t':Nat}{d':Drawn}{ch:List Addr}(I:Inv X pins σ H s)(u:Un (frs X.stack) ch H H' s.heap h')(hok:HOk X.prog X.w H' h')(hg:AllBare g')(hch:∀b∈ch,(b∈X.ex∨X.s₀.heap.objs.size≤b)/\b≠X.env.locals/\(∀x c,X.env.cells.lookup x=some c->c≠b)/\∀p∈X.pn++pins,p.1≠b) :
  Inv X pins σ H' { s with heap:=h',gens:=g',drawn:=d',toks:=t' }:=by
 obtain⟨m,⟨o,es,ep,ho,r⟩,_⟩:=id I.loc
 obtain⟨sl,hL⟩:=u.any ho I.free fun z=>(hch _ z).2.1 rfl
 exact I.step (ch:=ch) hch (fun b o hL hb hc e n=>u.keep b o e n (fun z=>(List.mem_cons.mp (I.stkSub b z)).elim hL hb) hc) (fun b o _ _ hc e n=>u.any e n hc) (fun b o hc e n=>u.free b o e n hc) (fun b o hc e=>u.there b o e hc) u.tups u.frzs u.tbls (fun m' hm=>by
  obtain⟨o',es',ep',ho',r'⟩:=hm;rw[ho]at ho';cases ho'
  exact⟨_,es',ep',hL,r'⟩) hok hg
theorem Inv.turned{t':Nat}{it:Addr}(I:Inv X pins σ H s)(k:∀b o,b≠it->s.heap.get? b=some o->h'.get? b=some o)(hn:H it=none)(hL:it≠X.env.locals)(h1:it∈X.ex∨X.s₀.heap.objs.size≤it)(h2:∀x c,X.env.cells.lookup x=some c->c≠it)(h3:∀p∈X.pn++pins,p.1≠it):Inv X pins σ H { s with heap:=h',toks:=t' }:=by
 have nit:∀b u,H b=some u->b≠it:=fun b u e z=>by rw[z,hn]at e;cases e
 refine I.step (g':=s.gens) (d':=s.drawn) (ch:=[it]) (fun b hb=>?_) (fun b o _ _ hc e _=>k b o (fun z=>hc (by simp[z])) e) (fun b o _ _ hc e _=>⟨o.slots,k b o (fun z=>hc (by simp[z])) e⟩) (fun _ _ _ _ n=>n)
  (fun b o hc e=>⟨o,k b o (fun z=>hc (by simp[z])) e⟩) (fun _ _ e=>e) (fun _ _ _ e=>e) (fun b ps e=>⟨#[],by rw[e];simp⟩) (fun m hm=>?_) (fun b u e=>?_) I.bare
 ·have e:b=it:=by simpa using hb
  subst e
  exact⟨h1,hL,h2,h3⟩
 ·obtain⟨o,es,ep,ho,r⟩:=hm
  exact⟨o,es,ep,k _ o (Ne.symm hL) ho,r⟩
 ·refine (I.hok b u e).stay (fun c v hc q=>k c v ?_ q) (fun _ q=>q) (fun _ _ q=>q) fun _ _ _ q=>q
  rcases hc with z|z
  ·rw[z];exact nit b u e
  ·exact nit c _ z
theorem Inv.tok(I:Inv X pins σ H s)(t:Nat):Inv X pins σ H { s with toks:=t }:=I.un (h':=s.heap) (t':=t) Un.refl I.hok
theorem Inv.kept{t':Nat}(I:Inv X pins σ H s)(k:∀b u,s.heap.get? b=some u->h'.get? b=some u):Inv X pins σ H { s with heap:=h',toks:=t' }:=I.un (Un.kept k) (I.hok.kept k)
theorem Inv.laid{a:Addr}{o:HO}{t':Nat}(I:Inv X pins σ H s)(k:∀b u,s.heap.get? b=some u->h'.get? b=some u)(hp:s.heap.objs.size≤a)(new:z0W X.prog X.w (upd H a o) h' a o) :
  Inv X pins σ (upd H a o) { s with heap:=h',toks:=t' }:=I.un (Un.laid k hp (I.hok.fresh hp)) (I.hok.laid k hp new)
theorem Inv.write{x e:Addr}{o:HO}{t':Nat}(I:Inv X pins σ H s)(mu:Mut (H x))(he:e=x∨H e=some (.own x))(k:∀b u,b≠e->s.heap.get? b=some u->h'.get? b=some u)(heo:∃u,h'.get? e=some u)(new:z0W X.prog X.w (upd H x o) h' x o):Inv X pins σ (upd H x o) { s with heap:=h',toks:=t' }:=I.un (Un.write mu he k heo) (I.hok.write mu he k heo new)
theorem Inv.pins_of{pins':List (Addr×Obj)}(I:Inv X pins σ H s)(h:∀p∈pins',s.heap.get? p.1=some p.2/\H p.1=none/\p.1≠X.env.locals/\p.1∉X.fs/\∀v,p.2.data≠.cell v):Inv X pins' σ H s :=
 ⟨I.ok,I.os,I.bare,I.base,I.loc,I.cell,I.free,I.freeC,fun p hp=>(List.mem_append.mp hp).elim (fun z=>I.pin p (List.mem_append_left _ z)) (h p),I.hok,I.len⟩
theorem y5R{N:List Str}(hN:N.Nodup){i j:Nat}{x:Str}(a:N[i]?=some x)(b:N[j]?=some x):i=j:=by
 obtain⟨h1,e1⟩:=List.getElem?_eq_some_iff.mp a;obtain⟨h2,e2⟩:=List.getElem?_eq_some_iff.mp b;exact (List.getElem_inj hN).mp (e1.trans e2.symm)
theorem y1U{M:Model}{A:Around}{E:Value->Shared->Prop}{i:Nat}{x:Str}{v:V}{u:Value}{Q:Unit->Shared->Prop}(I:Inv X pins σ H s)(hN:X.N.Nodup)(hi:X.N[i]?=some x)(hx:Loc X.env.scope x)(r:W3 v u)(h:∀s',Inv X pins (σ.set i (some v)) H s'->(∃a,Heap.SameBut a s.heap s'.heap/\(a=X.env.locals∨X.env.cells.lookup x=some a))->Q () s')(hf:X.fn x=true∨X.env.scope.names.lookup x=some .local:=by first|exact .inl rfl|exact .inr rfl|assumption):wpAny M A (storeName X.env x u) Q E s:=by
 obtain⟨m,hn,hl⟩:=id I.loc
 have hcls:(X.env.scope.kind==.class||(X.env.scope.kind==.module&&X.env.locals != X.env.globals))=false:=by rw[I.ok.kind];rfl
 have hiσ:i<σ.length:=by rw[I.len];exact (List.getElem?_eq_some_iff.mp hi).1
 have cne:=I.cne
 have tracked:∀{a:Addr} {h':Heap},(∃o,s.heap.get? a=some o/\H a=none)->Heap.SameBut a s.heap h'->HOk X.prog X.w H h':=fun {a h'} ha hs b ob e=>by
  obtain⟨_,_,hfree⟩:=ha
  refine (I.hok b ob e).stay (fun c w' hc q=>(hs.2 c ?_).trans q) (fun _ q=>q) (fun _ _ q=>q) fun _ _ _ q=>q
  rintro rfl
  rcases hc with rfl|hc
  ·rw[hfree]at e;cases e
  ·rw[hfree]at hc;cases hc
 rcases hx with hk|hk
 ·refine wpAny_storeName_local hk hn (fun h' hn' hs=>?_) hcls
  obtain⟨oL,_,_,hoL,_⟩:=id hn
  refine h _ ⟨I.ok,I.os,I.bare,⟨fun b o e n hb hx=>?_,fun b o e n hb hx=>?_,I.base.free,fun b o e hx=>?_,I.base.tups,I.base.frzs,I.base.tbls⟩,⟨_,hn',fun j y v' e1 e2 e3=>?_⟩,fun y c e=>?_,I.free,I.freeC,fun p hp=>?_,tracked ⟨oL,hoL,I.free⟩ hs,by simpa using I.len⟩ ⟨_,hs,.inl rfl⟩
  ·exact (hs.2 b (Nat.ne_of_lt (Nat.lt_of_lt_of_le (Heap.lt_size e) I.ok.above))).trans (I.base.keep b o e n hb hx)
  ·obtain⟨sl,e1⟩:=I.base.slot b o e n hb hx
   exact⟨sl,(hs.2 b (Nat.ne_of_lt (Nat.lt_of_lt_of_le (Heap.lt_size e) I.ok.above))).trans e1⟩
  ·obtain⟨o',e1⟩:=I.base.there b o e hx
   exact⟨o',(hs.2 b (Nat.ne_of_lt (Nat.lt_of_lt_of_le (Heap.lt_size e) I.ok.above))).trans e1⟩
  ·by_cases hj:j=i
   ·subst hj;rw[hi]at e1;cases e1;rw[List.getElem?_set_self hiσ]at e2;cases e2
    exact⟨u,r,.inl ⟨hk,by simp⟩⟩
   ·rw[List.getElem?_set_ne (Ne.symm hj)]at e2;obtain⟨u',r',q⟩:=hl j y v' e1 e2 e3
    refine⟨u',r',?_⟩
    rcases q with⟨k,e⟩|⟨k,c,e,z⟩
    ·refine .inl ⟨k,?_⟩
     have:y≠x:=fun e=>hj (y5R hN e1 (e▸hi))
     simp[this,e]
    ·exact .inr ⟨k,c,e,z.sameBut hs (cne y c e)⟩
  ·obtain⟨w',z⟩:=I.cell y c e
   exact⟨w',z.sameBut hs (cne y c e)⟩
  ·obtain⟨e,n,ne,nf,d⟩:=I.pin p hp
   exact⟨(hs.2 p.1 ne).trans e,n,ne,nf,d⟩
 ·have hfn:X.fn x=true:=by
   rcases hf with z|z
   ·exact z
   ·rw[z]at hk;cases hk
  obtain⟨c,hc⟩:=I.ok.has x (.inl hk);obtain⟨w',z⟩:=I.cell x c hc
  refine wpAny_storeName_cell I.ok.kind hk hc z (fun h' hc' hs=>?_)
  obtain⟨oc,hoc,hocd⟩:=id z
  refine h { s with heap:=h' } ⟨I.ok,I.os,I.bare,⟨fun b o e n hb hx=>?_,fun b o e n hb hx=>?_,I.base.free,fun b o e hx=>?_,I.base.tups,I.base.frzs,I.base.tbls⟩,⟨m,hn.sameBut hs (Ne.symm (cne x c hc)),fun j y v' e1 e2 e3=>?_⟩,fun y c' e=>?_,I.free,I.freeC,fun p hp=>?_,tracked ⟨oc,hoc,I.freeC x c hc⟩ hs,by simpa using I.len⟩ ⟨c,hs,.inr hc⟩
  ·exact (hs.2 b (Nat.ne_of_lt (Nat.lt_of_lt_of_le (Heap.lt_size e) (I.ok.cab x c hfn hc)))).trans (I.base.keep b o e n hb hx)
  ·obtain⟨sl,e1⟩:=I.base.slot b o e n hb hx
   exact⟨sl,(hs.2 b (Nat.ne_of_lt (Nat.lt_of_lt_of_le (Heap.lt_size e) (I.ok.cab x c hfn hc)))).trans e1⟩
  ·obtain⟨o',e1⟩:=I.base.there b o e hx
   exact⟨o',(hs.2 b (Nat.ne_of_lt (Nat.lt_of_lt_of_le (Heap.lt_size e) (I.ok.cab x c hfn hc)))).trans e1⟩
  ·by_cases hj:j=i
   ·subst hj;rw[hi]at e1;cases e1;rw[List.getElem?_set_self hiσ]at e2;cases e2
    exact⟨u,r,.inr ⟨.inl hk,c,hc,hc'⟩⟩
   ·rw[List.getElem?_set_ne (Ne.symm hj)]at e2;obtain⟨u',r',q⟩:=hl j y v' e1 e2 e3
    refine⟨u',r',?_⟩
    rcases q with q|⟨k,c',e,z'⟩
    ·exact .inl q
    ·refine .inr ⟨k,c',e,z'.sameBut hs ?_⟩
     rintro rfl
     exact hj (y5R hN e1 (I.ok.inj _ _ _ e hc▸hi))
  ·by_cases hcc:c'=c
   ·subst hcc;exact⟨_,hc'⟩
   ·obtain⟨w2,z2⟩:=I.cell y c' e
    exact⟨w2,z2.sameBut hs hcc⟩
  ·obtain⟨e,n,ne,nf,d⟩:=I.pin p hp
   refine⟨(hs.2 p.1 ?_).trans e,n,ne,nf,d⟩
   intro q;rw[q,hoc]at e;have q':oc=p.2:=Option.some.inj e
   exact d w' (by rw[←q'];exact hocd)
theorem y55{M:Model}{A:Around}{E:Value->Shared->Prop}{i:Nat}{x:Str}{v:V}{u:Value}{Q:Unit->Shared->Prop}(I:Inv X pins σ H s)(hN:X.N.Nodup)(hi:X.N[i]?=some x)(hx:Loc X.env.scope x)(r:W3 v u)(h:∀s',Inv X pins (σ.set i (some v)) H s'->Q () s')(hf:X.fn x=true∨X.env.scope.names.lookup x=some .local:=by first|exact .inl rfl|exact .inr rfl|assumption):wpAny M A (storeName X.env x u) Q E s :=
 y1U I hN hi hx r (fun s' I' _=>h s' I') hf
theorem Inv.call'{s':Shared}{ch:List Addr}(I:Inv X pins σ H s)(ho:s'.os=s.os)(u:Un (frs X.stack) ch H H' s.heap s'.heap)(hok:HOk X.prog X.w H' s'.heap)(hg:AllBare s'.gens)(hch:∀b∈ch,(b∈X.ex∨X.s₀.heap.objs.size≤b)/\b≠X.env.locals/\(∀x c,X.env.cells.lookup x=some c->c≠b)/\∀p∈X.pn++pins,p.1≠b):Inv X pins σ H' s':=by
 obtain⟨h',g',d',t',o'⟩:=s';have e:o'=s.os:=ho;subst e;exact I.call (g':=g') (t':=t') (d':=d') u hok hg hch
end
abbrev XK:=Value->Option Addr->Hp->Prop
abbrev St:=List (Option V)
abbrev VK:=V->Hp->Prop
abbrev TE:=St->Hp->VK->Prop
abbrev TT:=St->Hp->(Bool->Hp->Prop)->Prop
abbrev TA:=St->Hp->(List V->Hp->Prop)->Prop
structure Ends where
 nx:St->Hp->Prop
 rt:VK
 bk:St->Hp->Prop:=fun _ _=>False
 ct:St->Hp->Prop:=fun _ _=>False
abbrev TS:=Ends->St->Hp->Prop
def EP(X:Cx)(pins:List (Addr×Obj))(σ:St)(Q:VK)(u:Value)(s':Shared):Prop:=∃v H',Inv X pins σ H' s'/\W3 v u/\Q v H'
def TP(X:Cx)(pins:List (Addr×Obj))(σ:St)(Q:Bool->Hp->Prop)(b:Bool)(s':Shared):Prop:=∃H',Inv X pins σ H' s'/\Q b H'
def AP(X:Cx)(pins:List (Addr×Obj))(σ:St)(Q:List V->Hp->Prop)(us:List Value)(s':Shared):Prop:=∃vs H',Inv X pins σ H' s'/\Q4 vs us/\Q vs H'
def SP(X:Cx)(pins:List (Addr×Obj))(D:Ends)(f:Flow)(s':Shared):Prop :=
 match f with
 | .next=>∃σ' H',Inv X pins σ' H' s'/\D.nx σ' H'
 | .brk=>∃σ' H',Inv X pins σ' H' s'/\D.bk σ' H'
 | .cont=>∃σ' H',Inv X pins σ' H' s'/\D.ct σ' H'
 | .ret u=>∃v σ' H',Inv X pins σ' H' s'/\W3 v u/\D.rt v H'
def PE(X:Cx)(e:Expr)(t:TE):Prop :=
 ∀(pins:List (Addr×Obj)) (s:Shared) (σ:St) (H:Hp) (Q:VK),Inv X pins σ H s->t σ H Q->wpAny (model X.prog X.w) X.A (eval e X.env) (EP X pins σ Q) X.xe s
def PT(X:Cx)(e:Expr)(t:TT):Prop :=
 ∀(pins:List (Addr×Obj)) (s:Shared) (σ:St) (H:Hp) (Q:Bool->Hp->Prop),Inv X pins σ H s->t σ H Q->wpAny (model X.prog X.w) X.A (isTrue e X.env (eval e X.env)) (TP X pins σ Q) X.xe s
def PW(X:Cx)(e:Expr)(t:TT):Prop :=
 ∀(whole:Sem Value) (pins:List (Addr×Obj)) (s:Shared) (σ:St) (H:Hp) (Q:Bool->Hp->Prop),Inv X pins σ H s->t σ H Q->wpAny (model X.prog X.w) X.A (isTrue e X.env whole) (TP X pins σ Q) X.xe s
theorem PW.pt{X:Cx}{e:Expr}{t:TT}(h:PW X e t):PT X e t:=h _
def PA(X:Cx)(es:List Expr)(t:TA):Prop :=
 ∀(pos:Pos) (pins:List (Addr×Obj)) (s:Shared) (σ:St) (H:Hp) (Q:List V->Hp->Prop),Inv X pins σ H s->t σ H Q->wpAny (model X.prog X.w) X.A (spliced (backTo pos (starEach es X.env))) (AP X pins σ Q) X.xe s
def PS(X:Cx)(st:Stmt)(t:TS):Prop :=
 ∀(pins:List (Addr×Obj)) (s:Shared) (σ:St) (H:Hp) (D:Ends),Inv X pins σ H s->t D σ H->wpAny (model X.prog X.w) X.A (exec st X.env) (SP X pins D) X.xe s
def PSs(X:Cx)(st:List Stmt)(t:TS):Prop :=
 ∀(pins:List (Addr×Obj)) (s:Shared) (σ:St) (H:Hp) (D:Ends),Inv X pins σ H s->t D σ H->wpAny (model X.prog X.w) X.A (execs st X.env) (SP X pins D) X.xe s
theorem thn{α:Type}{t:Sem α}{Q Q':α->Shared->Prop}{M:Model}{A:Around}{E:Value->Shared->Prop}{s:Shared}(h:wpAny M A t Q E s)(hQ:∀a s,Q a s->Q' a s):wpAny M A t Q' E s:=wpAny_mono h hQ fun _ _ x=>x
section
variable{X:Cx}
def w3K(i:Nat):TE:=fun σ H Q=>∃v,σ[i]?=some (some v)/\Q v H
def tC(v:V):TE:=fun _ H Q=>Q v H
theorem z82{i:Nat}{x:Str}{pos:Pos}(hN:X.N[i]?=some x)(hv:Vis X.env.scope x)(hd:(x==("__debug__":Str))=false:=by decide)(hcd:(x==("__classdict__":Str))=false:=by decide):PE X (.Name x pos) (w3K i):=by
 intro pins s σ H Q I h;obtain⟨v,e,h⟩:=h;obtain⟨m,hn,hl⟩:=I.loc;obtain⟨u,r,l⟩:=hl i x v hN e hv;have fin:EP X pins σ Q u s:=⟨v,H,I,r,h⟩
 rcases l with⟨hk,hm⟩|⟨hk,c,hc,hcell⟩
 ·exact wpAny_Name (wpAny_loadName_local I.ok.kind hk hn hm fin) hd
 ·rcases hk with hk|hk
  ·exact wpAny_Name (wpAny_loadName_cell I.ok.kind hk hc hcell fin) hd
  ·exact wpAny_Name (wpAny_loadName_free I.ok.kind hk hc hcell fin hcd) hd
theorem w11{i j pos}:PE X (.Constant (.int i) j pos) (tC (.int i)):=fun _ _ _ H _ I h=>wpAny_Constant_int ⟨.int i,H,I.tok _,⟨_,rfl⟩,h⟩
theorem w2Z{b j pos}:PE X (.Constant (.bool b) j pos) (tC (.bl b)):=fun _ _ _ H _ I h=>Constant_bool ⟨.bl b,H,I,rfl,h⟩
theorem w0Z{j pos}:PE X (.Constant .none j pos) (tC .non):=fun _ _ _ H _ I h=>Constant_none ⟨.non,H,I,rfl,h⟩
theorem w0V{x j pos}:PE X (.Constant (.str x) j pos) (tC (.str x)):=fun _ _ _ H _ I h=>Calls.Constant_str ⟨.str x,H,I.tok _,⟨_,rfl⟩,h⟩
def Gl(X:Cx)(x:Str):Prop:=X.env.kindOf x=some .globalImplicit
theorem x08{E:Value->Shared->Prop}{pins:List (Addr×Obj)}{s:Shared}{σ:St}{H:Hp}{x:Str}{u:Value}{pos:Pos}{Q:Value->Shared->Prop}(I:Inv X pins σ H s)(hg:Gl X x)(hm:X.mg x=some u)(h:Q u s)(hd:(x==("__debug__":Str))=false:=by decide):wpAny (model X.prog X.w) X.A (eval (.Name x pos) X.env) Q E s :=
 Calls.Name_function_global I.ok.kind hg (Calls.loadGlobal_global (by rw[I.ok.glob];exact I.mod.glob.keeps I.bk) hm h) hd
theorem z3N{E:Value->Shared->Prop}{pins:List (Addr×Obj)}{s:Shared}{σ:St}{H:Hp}{x:Str}{u:Value}{pos:Pos}{Q:Value->Shared->Prop}(I:Inv X pins σ H s)(hg:Gl X x)(hm:X.mg x=none)(hv:bootBuiltins x=some u)(h:Q u s)(hn:x≠"__name__":=by decide)(hd:(x==("__debug__":Str))=false:=by decide):wpAny (model X.prog X.w) X.A (eval (.Name x pos) X.env) Q E s:=by
 obtain⟨mb,h1,h2⟩:=I.mod.blt
 exact Calls.Name_function_global I.ok.kind hg (Calls.loadGlobal_builtin (by rw[I.ok.glob];exact I.mod.glob.keeps I.bk) hm (by rw[I.ok.blt];exact h1.keeps I.bk) ((h2 x hn).trans hv) h) hd
theorem x6Z{x:Str}{v:V}{u:Value}{pos:Pos}(hg:Gl X x)(hm:X.mg x=some u)(r:W3 v u)(hd:(x==("__debug__":Str))=false:=by decide):PE X (.Name x pos) (tC v) :=
 fun _ _ _ H _ I h=>x08 I hg hm ⟨v,H,I,r,h⟩ hd
theorem x73{x:Str}{v:V}{u:Value}{pos:Pos}(hg:Gl X x)(hm:X.mg x=none)(hv:bootBuiltins x=some u)(r:W3 v u)(hn:x≠"__name__":=by decide)(hd:(x==("__debug__":Str))=false:=by decide):PE X (.Name x pos) (tC v) :=
 fun _ _ _ H _ I h=>z3N I hg hm hv ⟨v,H,I,r,h⟩ hn hd
variable{a b:Expr}{ta tb:TE}{pos:Pos}
def tB(t:TE):TT:=fun σ H Q=>t σ H fun x H1=>∃c,x = .bl c/\Q c H1
theorem w0M{e:Expr}{t:TE}(h:PE X e t)(he:∀whole,isTrue e X.env whole=(do let v ←whole;standAt e.pos;holding [v] (truthy v)):=by intro _;rfl):PT X e (tB t):=by
 intro pins s σ H Q I hw
 refine isTrue_plain (thn (h pins s σ H _ I hw) fun v s1 ⟨x,H1,I1,r1,q1⟩=>?_) (he _)
 obtain⟨d,rfl,q⟩:=q1;cases r1;exact wpAny_truthy_bool ⟨H1,I1,q⟩
variable{tA tB':TT}{rest:List Expr}
def w44(t u:TT):TT:=fun σ H Q=>t σ H fun c H1=>if c=true then u σ H1 Q else Q false H1
def tOr(t u:TT):TT:=fun σ H Q=>t σ H fun c H1=>if c=true then Q true H1 else u σ H1 Q
def w40(t:TT):TT:=fun σ H Q=>t σ H fun c H1=>Q (!c) H1
theorem x6O(ha:PT X a tA):PW X (.BoolOp .And [a] pos) tA:=by
 intro wh pins s σ H Q I h
 refine isTrue_and (thn (ha pins s σ H Q I h) fun c s1 e=>?_)
 cases c with
 | true=>exact isTrue_and_nil e
 | false=>exact e
theorem w0J(ha:PT X a tA):PW X (.BoolOp .Or [a] pos) tA:=by
 intro wh pins s σ H Q I h
 refine isTrue_or (thn (ha pins s σ H Q I h) fun c s1 e=>?_)
 cases c with
 | false=>exact isTrue_or_nil e
 | true=>exact e
theorem w0L(ha:PT X a tA)(hb:PW X (.BoolOp .And (b::rest) pos) tB'):PW X (.BoolOp .And (a::b::rest) pos) (w44 tA tB'):=by
 intro wh pins s σ H Q I h
 refine isTrue_and (thn (ha pins s σ H _ I h) fun c s1 ⟨H1,I1,q1⟩=>?_)
 cases c with
 | true=>exact hb wh pins s1 σ H1 Q I1 q1
 | false=>exact⟨H1,I1,q1⟩
theorem w2T(ha:PT X a tA)(hb:PW X (.BoolOp .Or (b::rest) pos) tB'):PW X (.BoolOp .Or (a::b::rest) pos) (tOr tA tB'):=by
 intro wh pins s σ H Q I h
 refine isTrue_or (thn (ha pins s σ H _ I h) fun c s1 ⟨H1,I1,q1⟩=>?_)
 cases c with
 | true=>exact⟨H1,I1,q1⟩
 | false=>exact hb wh pins s1 σ H1 Q I1 q1
theorem w0N(ha:PT X a tA):PT X (.UnaryOp .Not a pos) (w40 tA):=by
 intro pins s σ H Q I h
 exact isTrue_not (ha pins s σ H (fun c H1=>Q (!c) H1) I h)
def w2A(ta tb:TE):TE:=fun σ H Q=>ta σ H fun x H1=>∃c,x = .bl c/\if c=true then tb σ H1 Q else Q (.bl false) H1
def w24(ta:TE):TE:=fun σ H Q=>ta σ H fun x H1=>∃c,x = .bl c/\Q (.bl (!c)) H1
theorem w0X{op}{t:TE}(h:PE X a t):PE X (.BoolOp op [a] pos) t:=fun pins s σ H Q I hw=>BoolOp_one (h pins s σ H Q I hw)
theorem w12(ha:PE X a ta)(hb:PE X (.BoolOp .And (b::rest) pos) tb):PE X (.BoolOp .And (a::b::rest) pos) (w2A ta tb):=by
 intro pins s σ H Q I h
 refine BoolOp_and (thn (ha pins s σ H _ I h) fun v s1 ⟨x,H1,I1,r1,q1⟩=>?_)
 obtain⟨c,rfl,q1⟩:=q1;cases r1;refine wpAny_truthy_bool ?_
 cases c with
 | true=>exact hb pins s1 σ H1 Q I1 q1
 | false=>exact⟨.bl false,H1,I1,rfl,q1⟩
theorem w0Y(ha:PE X a ta):PE X (.UnaryOp .Not a pos) (w24 ta):=by
 intro pins s σ H Q I h
 refine UnaryOp_ (thn (ha pins s σ H _ I h) fun v s1 ⟨x,H1,I1,r1,q1⟩=>?_)
 obtain⟨c,rfl,q1⟩:=q1;cases r1;exact not_of (wpAny_truthy_bool ⟨.bl (!c),H1,I1,rfl,q1⟩)
def tIf(t:TT)(ta tb:TE):TE:=fun σ H Q=>t σ H fun c H1=>if c=true then ta σ H1 Q else tb σ H1 Q
theorem x32{c:Expr}(hc:PT X c tA)(ha:PE X a ta)(hb:PE X b tb):PE X (.IfExp c a b pos) (tIf tA ta tb):=by
 intro pins s σ H Q I h
 refine wpAny_IfExp (thn (hc pins s σ H _ I h) fun d s1 ⟨H1,I1,q1⟩=>?_)
 cases d with
 | true=>exact ha pins s1 σ H1 Q I1 q1
 | false=>exact hb pins s1 σ H1 Q I1 q1
end
def SqL(K:PySem.W.Frag)(H:Hp)(a:Addr)(xs:List V):Prop :=
 Rd H a (.lst xs) ∨
  ∃(o:Obj) (its:Array Value) (n:Nat),K.lookup a=some o/\o.cls = .type "list"/\o.dict=none/\o.data = .seq its n/\its.size≤sizeLine/\Q4 xs its.toList
def SqT(K:PySem.W.Frag)(H:Hp)(a:Addr)(xs:List V):Prop :=
 Rd H a (.tup xs) ∨
  ∃(o:Obj) (its:Array Value) (n:Nat),K.lookup a=some o/\o.cls = .type "tuple"/\o.data = .seq its n/\its.size≤sizeLine/\Q4 xs its.toList/\o.dict=none
def w4L:Value->Option V
 | .none=>some .non
 | .bool b=>some (.bl b)
 | .int i _=>some (.int i)
 | .str x _=>some (.str x)
 | .bytes b _=>some (.byt b)
 | .float b _=>some (.flt b)
 | .ref a=>some (.ref a)
 | .type n=>some (.ty n)
 | _=>none
theorem W3.abs{x:V}{u:Value}(r:W3 x u):w4L u=some x:=by
 cases x with
 | non=>cases r;rfl
 | bl _=>cases r;rfl
 | int _=>obtain⟨t,rfl⟩:=r;rfl
 | str _=>obtain⟨t,rfl⟩:=r;rfl
 | byt _=>obtain⟨t,rfl⟩:=r;rfl
 | flt _=>obtain⟨t,rfl⟩:=r;rfl
 | ref _=>cases r;rfl
 | ty _=>cases r;rfl
theorem W3.inj{x y:V}{u:Value}(r:W3 x u)(q:W3 y u):x=y:=Option.some.inj (r.abs.symm.trans q.abs)
theorem Q4.inj:∀{xs ys:List V} {us:List Value},Q4 xs us->Q4 ys us->xs=ys
 | _,_,_,.nil,.nil=>rfl
 | _,_,_,.cons r t,.cons r' t'=>by rw[r.inj r',Q4.inj t t']
section
variable{X:Cx}{pins:List (Addr×Obj)}{σ:St}{H:Hp}{s:Shared}{a:Addr}{xs ys:List V}
theorem SqL.of{K:PySem.W.Frag}(h:H a=some (.lst xs)):SqL K H a xs:=.inl (.inl h)
theorem SqT.of{K:PySem.W.Frag}(h:H a=some (.tup xs)):SqT K H a xs:=.inl (.inl h)
theorem Inv.list(I:Inv X pins σ H s)(h:SqL X.K H a xs):∃its:List Value,Q4 xs its/\PlainL s.heap a its.toArray/\xs.length≤sizeLine:=by
 rcases h with h|⟨o,its,n,hk,hc,hd,hs,hz,r⟩
 ·obtain⟨z,its,n,r,e⟩:=h.ok I.hok
  exact⟨its,r,⟨_,n,e,rfl,rfl,rfl⟩,z⟩
 ·refine⟨its.toList,r,⟨o,n,I.kIn a o hk,hc,hd,by simpa using hs⟩,?_⟩
  have e:=r.length;simp only[Array.length_toList]at e;omega
theorem Inv.tuple(I:Inv X pins σ H s)(h:SqT X.K H a xs):∃its:List Value,Q4 xs its/\IsTup s.heap a its.toArray/\xs.length≤sizeLine:=by
 rcases h with h|⟨o,its,n,hk,hc,hs,hz,r,_⟩
 ·obtain⟨z,its,r,p⟩:=h.ok I.hok
  exact⟨its,r,p.isTup,z⟩
 ·refine⟨its.toList,r,⟨o,I.kIn a o hk,hc,n,by simpa using hs⟩,?_⟩
  have e:=r.length;simp only[Array.length_toList]at e;omega
theorem Inv.tupleP(I:Inv X pins σ H s)(h:SqT X.K H a xs):∃o,s.heap.get? a=some o/\o.cls = .type "tuple"/\o.dict=none:=by
 rcases h with h|⟨o,its,n,hk,hc,hs,hz,r,d⟩
 ·obtain⟨z,its,r,o,e,c,_,d⟩:=h.ok I.hok
  exact⟨o,e,c,d⟩
 ·exact⟨o,I.kIn a o hk,hc,d⟩
theorem Inv.list_inj(I:Inv X pins σ H s)(h:SqL X.K H a xs)(h':SqL X.K H a ys):xs=ys:=by
 obtain⟨its,r,⟨o,n,e,_,_,d⟩,_⟩:=I.list h;obtain⟨its',r',⟨o',n',e',_,_,d'⟩,_⟩:=I.list h';rw[e]at e';cases e'
 rw[d]at d'
 injection d' with d1 _
 have:its=its':=by simpa using congrArg Array.toList d1
 subst this;exact r.inj r'
theorem Inv.tuple_inj(I:Inv X pins σ H s)(h:SqT X.K H a xs)(h':SqT X.K H a ys):xs=ys:=by
 obtain⟨its,r,⟨o,e,_,n,d⟩,_⟩:=I.tuple h;obtain⟨its',r',⟨o',e',_,n',d'⟩,_⟩:=I.tuple h';rw[e]at e';cases e'
 rw[d]at d'
 injection d' with d1 _
 have:its=its':=by simpa using congrArg Array.toList d1
 subst this;exact r.inj r'
end
abbrev Cx.wish(X:Cx)(E:Value->Shared->Prop):Cx:={ X with xe:=E }
abbrev Cx.nox(X:Cx):Cx:=X.wish fun _ _=>False
theorem Cx.Ok.wish{X:Cx}(ok:X.Ok)(E:Value->Shared->Prop):(X.wish E).Ok :=
 ⟨ok.mod,ok.kind,ok.glob,ok.blt,ok.above,ok.inj,ok.has,ok.cab,ok.hd,ok.frames,ok.stk,ok.exf,ok.bs,ok.bsz,ok.noex,ok.exfs,ok.funs,ok.frf⟩
theorem Cx.Ok.unwish{X:Cx}{E:Value->Shared->Prop}(ok:(X.wish E).Ok):X.Ok :=
 ⟨ok.mod,ok.kind,ok.glob,ok.blt,ok.above,ok.inj,ok.has,ok.cab,ok.hd,ok.frames,ok.stk,ok.exf,ok.bs,ok.bsz,ok.noex,ok.exfs,ok.funs,ok.frf⟩
section
variable{X:Cx}{pins:List (Addr×Obj)}{σ:St}{H:Hp}{s:Shared}{E:Value->Shared->Prop}
theorem Inv.wish(I:Inv X pins σ H s)(E:Value->Shared->Prop):Inv (X.wish E) pins σ H s:=⟨I.ok.wish E,I.os,I.bare,I.base,I.loc,I.cell,I.free,I.freeC,I.pin,I.hok,I.len⟩
theorem Inv.unwish(I:Inv (X.wish E) pins σ H s):Inv X pins σ H s:=⟨I.ok.unwish,I.os,I.bare,I.base,I.loc,I.cell,I.free,I.freeC,I.pin,I.hok,I.len⟩
theorem SP.unwish{D:Ends}{f:Flow}{s':Shared}(h:SP (X.wish E) pins D f s'):SP X pins D f s':=by
 cases f with
 | next=>obtain⟨σ',H',I,q⟩:=h;exact⟨σ',H',I.unwish,q⟩
 | brk=>obtain⟨σ',H',I,q⟩:=h;exact⟨σ',H',I.unwish,q⟩
 | cont=>obtain⟨σ',H',I,q⟩:=h;exact⟨σ',H',I.unwish,q⟩
 | ret u=>obtain⟨v,σ',H',I,r,q⟩:=h;exact⟨v,σ',H',I.unwish,r,q⟩
theorem PSs.nox{st:List Stmt}{t:TS}(h:PSs X.nox st t):PSs X st t:=fun pins s σ H D I hw =>
 wpAny_mono (h pins s σ H D (I.wish _) hw) (fun _ _ q=>q.unwish) fun _ _ z=>False.elim z
end
section
variable{X:Cx}{st:Stmt}{rest:List Stmt}{t u:TS}{e:Expr}{te:TE}{pos:Pos}
def w26:TS:=fun D σ H=>D.nx σ H
def w3Y(t u:TS):TS:=fun D σ H=>t { D with nx:=u D } σ H
theorem x6Q:PSs X [] w26:=fun _ _ σ H _ I h=>wpAny_execs_nil ⟨σ,H,I,h⟩
theorem x2W(h1:PS X st t)(h2:PSs X rest u):PSs X (st::rest) (w3Y t u):=by
 intro pins s σ H D I h
 refine wpAny_execs_cons (thn (h1 pins s σ H { D with nx:=u D } I h) fun f s1 q=>?_)
 cases f with
 | next =>
  obtain⟨σ',H',I',q⟩:=q;exact h2 pins s1 σ' H' D I' q
 | ret v=>exact q
 | brk=>exact q
 | cont=>exact q
theorem x6P(h1:PS X st t):PSs X [st] t:=by
 intro pins s σ H D I h
 refine wpAny_execs_cons (thn (h1 pins s σ H D I h) fun f s1 q=>?_)
 cases f with
 | next=>exact wpAny_execs_nil q
 | ret v=>exact q
 | brk=>exact q
 | cont=>exact q
theorem Inv.quiet{pins:List (Addr×Obj)}{σ:St}{H:Hp}{s:Shared}(I:Inv X pins σ H s):interactive X.env=false:=by simp[interactive,I.ok.kind]
def w27(te:TE):TS:=fun D σ H=>te σ H fun _ H1=>D.nx σ H1
theorem y9E(he:PE X e te)(hs:swapsWith e none pos.line X.env=pure false:=by rfl):PS X (.Expr e pos) (w27 te):=by
 intro pins s σ H D I h
 exact wpAny_Expr_any (thn (he pins s σ H _ I h) fun v s1 ⟨x,H1,I1,r1,q1⟩=>⟨σ,H1,I1,q1⟩) I.quiet hs
def w3Z(te:TE):TS:=fun D σ H=>te σ H D.rt
theorem x4L(he:PE X e te):PS X (.Return (some e) pos) (w3Z te):=by
 intro pins s σ H D I h
 exact wpAny_Return_some (thn (he pins s σ H _ I h) fun v s1 ⟨x,H1,I1,r1,q1⟩=>⟨x,σ,H1,I1,r1,q1⟩)
def w42(c:TT)(t u:TS):TS:=fun D σ H=>c σ H fun b H1=>if b=true then t D σ H1 else u D σ H1
theorem w2U{c:Expr}{a b:List Stmt}{tc:TT}(hc:PT X c tc)(ha:PSs X a t)(hb:PSs X b u):PS X (.If c a b pos) (w42 tc t u):=by
 intro pins s σ H D I h
 refine wpAny_If (thn (hc pins s σ H _ I h) fun d s1 ⟨H1,I1,q1⟩=>?_)
 cases d with
 | true=>exact ha pins s1 σ H1 D I1 q1
 | false=>exact hb pins s1 σ H1 D I1 q1
end
abbrev TG:=V->St->Hp->(St->Hp->Prop)->Prop
abbrev TGs:=List V->St->Hp->(St->Hp->Prop)->Prop
def PG(X:Cx)(target:Expr)(t:TG):Prop :=
 ∀(pins:List (Addr×Obj)) (s:Shared) (σ:St) (H:Hp) (v:V) (u:Value) (Q:St->Hp->Prop),Inv X pins σ H s->W3 v u->t v σ H Q ->
  wpAny (model X.prog X.w) X.A (assign target X.env u) (fun _ s'=>∃σ' H',Inv X pins σ' H' s'/\Q σ' H') X.xe s
def PGs(X:Cx)(ts:List Expr)(t:TGs):Prop :=
 ∀(pins:List (Addr×Obj)) (s:Shared) (σ:St) (H:Hp) (vs:List V) (us:List Value) (Q:St->Hp->Prop),Inv X pins σ H s->Q4 vs us->t vs σ H Q ->
  wpAny (model X.prog X.w) X.A (assignInOrder ((assignEach ts X.env).map (·.2)) us) (fun _ s'=>∃σ' H',Inv X pins σ' H' s'/\Q σ' H') X.xe s
section
variable{X:Cx}{pos:Pos}
def x7V(i:Nat):TG:=fun v σ H Q=>Q (σ.set i (some v)) H
theorem x6Y{i:Nat}{x:Str}(hN:X.N.Nodup)(hi:X.N[i]?=some x)(hx:Loc X.env.scope x)(hf:X.fn x=true∨X.env.scope.names.lookup x=some .local:=by first|exact .inl rfl|exact .inr rfl|assumption):PG X (.Name x pos) (x7V i):=by
 intro pins s σ H v u Q I r h
 exact wpAny_assign_Name (y55 I hN hi hx r (fun s' I'=>⟨_,H,I',h⟩) hf)
def w4I:TGs:=fun vs σ H Q=>vs=[]/\Q σ H
def w37(t:TG)(u:TGs):TGs:=fun vs σ H Q=>∃v r,vs=v::r/\t v σ H fun σ' H'=>u r σ' H' Q
theorem x6X:PGs X [] w4I:=by
 intro pins s σ H vs us Q I r h;obtain⟨e,h⟩:=h;subst e;cases r;exact assignInOrder_nil ⟨σ,H,I,h⟩
theorem x30{e:Expr}{es:List Expr}{t:TG}{u:TGs}(h1:PG X e t)(h2:PGs X es u)(hs:(assignEach (e::es) X.env).map (·.2)=assign e X.env::(assignEach es X.env).map (·.2):=by rfl):PGs X (e::es) (w37 t u):=by
 intro pins s σ H vs us Q I r h;obtain⟨v,vr,e1,h⟩:=h;subst e1
 cases r with
 | cons r rr =>
  rw[hs]
  refine assignInOrder_cons (thn (h1 pins s σ H _ _ _ I r h) fun _ s1 ⟨σ1,H1,I1,q1⟩=>?_)
  exact h2 pins s1 σ1 H1 _ _ Q I1 rr q1
def w4H(K:PySem.W.Frag)(n:Nat)(t:TGs):TG:=fun v σ H Q=>∃a xs,v = .ref a/\SqT K H a xs/\xs.length=n/\t xs σ H Q
theorem w0T{es:List Expr}{k:Nat}{t:TGs}{n:Nat}(hc:X.calm=true)(h:PGs X es t)(hn:(assignEach es X.env).length=n:=by rfl)(hst:(assignEach es X.env).findIdx? (·.1)=none:=by rfl):PG X (.Tuple es k pos) (w4H X.K n t):=by
 intro pins s σ H v u Q I r hw;obtain⟨a,xs,e1,hq,hl,hw⟩:=hw;subst e1;cases r;obtain⟨its,rv,ht,hz⟩:=I.tuple hq
 refine assign_Tuple_tuple (I.ok.hd hc) ht (by simp[hn,←hl,rv.length]) hst fun h' hx=>?_
 have I1:Inv X pins σ H { s with heap:=h' }:=I.kept (t':=s.toks) fun b o e=>hx b o (Nat.ne_of_lt (Heap.lt_size e)) e
 exact h pins _ σ H xs _ Q I1 (by simpa using rv) hw
def w3L(te:TE)(g:TG):TS:=fun D σ H=>te σ H fun x H1=>g x σ H1 D.nx
theorem y9D{i:Nat}{x:Str}{e:Expr}{te:TE}{pos':Pos}(hN:X.N.Nodup)(hi:X.N[i]?=some x)(hx:Loc X.env.scope x)(he:PE X e te)(hs:swapsWith e (some (.Name x pos')) pos.line X.env=pure false:=by rfl)(hf:X.fn x=true∨X.env.scope.names.lookup x=some .local:=by first|exact .inl rfl|exact .inr rfl|assumption) :
  PS X (.Assign [.Name x pos'] e pos) (w3L te (x7V i)):=by
 intro pins s σ H D I h
 refine wpAny_Assign_Name (thn (he pins s σ H _ I h) fun v s1 ⟨y,H1,I1,r1,q1⟩=>?_) hs
 exact y55 I1 hN hi hx r1 (fun s2 I2=>⟨_,H1,I2,q1⟩) hf
end
structure It where
 go:Nat->Hp->Prop
 yld:Nat->Hp->V->Hp->Prop
 stop:Nat->Hp->Prop
def y88(X:Cx)(pins:List (Addr×Obj))(H:Hp)(b:Addr):Prop :=
 H b=none/\b≠X.env.locals/\b∉X.fs/\(b∈X.ex∨X.s₀.heap.objs.size≤b)/\(∀x c,X.env.cells.lookup x=some c->c≠b)/\∀p∈X.pn++pins,p.1≠b
theorem Inv.fpOk{X:Cx}{pins:List (Addr×Obj)}{σ:St}{H H':Hp}{s:Shared}{b:Addr}(I:Inv X pins σ H s)(hb:s.heap.objs.size≤b)(hn:H' b=none):y88 X pins H' b:=by
 refine⟨hn,Nat.ne_of_gt (Nat.lt_of_lt_of_le I.lt hb),I.nofs hb,.inr (Nat.le_trans I.sz hb),fun x c e z=>?_,fun p hp z=>?_⟩
 ·obtain⟨v,q⟩:=I.cell x c e
  exact absurd (Nat.lt_of_lt_of_le q.lt (by rw[z];exact hb)) (Nat.lt_irrefl _)
 ·exact absurd (Nat.lt_of_lt_of_le (Heap.lt_size (I.pin p hp).1) (by rw[z];exact hb)) (Nat.lt_irrefl _)
structure Turn(P:Program)(w:World)(K:PySem.W.Frag)(tg:Expr)(J:It)(fp:List Addr)(it:Addr)(tn:Nat->Heap->Prop):Prop where
 mem:it∈fp
 obj:∀i h,tn i h->∀b∈fp,∃o,h.get? b=some o/\∀v,o.data≠.cell v
 keep:∀i h h',tn i h->(∀b∈fp,∀o,h.get? b=some o->h'.get? b=some o)->tn i h'
 item:∀(X:Cx),X.prog=P->X.w=w->X.K=K->X.calm=true->∀(i:Nat) (pins:List (Addr×Obj)) (s:Shared) (σ:St) (H:Hp) (E:Value->Shared->Prop),Inv X pins σ H s->(∀b∈fp,y88 X pins H b)->tn i s.heap->J.go i H ->
  wpAny (model P w) X.A (pyNext (.ref it)) (fun r s1=>∃u,r=some u /\
   wpAny (model P w) X.A (letOwnedTupleGo tg (.ref it) u) (fun _ s2=>∃x H',Inv X pins σ H' s2/\W3 x u/\J.yld i H x H'/\tn (i+1) s2.heap/\∀b∈fp,H' b=none) E s1) E s
 done:∀(X:Cx),X.prog=P->X.w=w->X.K=K->X.calm=true->∀(i:Nat) (pins:List (Addr×Obj)) (s:Shared) (σ:St) (H:Hp) (E:Value->Shared->Prop),Inv X pins σ H s->(∀b∈fp,y88 X pins H b)->tn i s.heap->J.stop i H ->
  wpAny (model P w) X.A (pyNext (.ref it)) (fun r s1=>r=none/\Inv X pins σ H s1) E s
 self:∀(A:Around) (i:Nat) (s:Shared) (Q:Value->Shared->Prop) (E:Value->Shared->Prop),tn i s.heap->Q (.ref it) s->wpAny (model P w) A (pyIter (.ref it)) Q E s
abbrev TI:=St->Hp->(It->Hp->Prop)->Prop
def PIE(X:Cx)(pins:List (Addr×Obj))(σ:St)(tg:Expr)(R:It->Hp->Prop)(itv:Value)(s2:Shared):Prop :=
 ∃(it:Addr) (fp:List Addr) (tn:Nat->Heap->Prop) (J:It) (H':Hp),itv = .ref it/\Inv X pins σ H' s2/\Turn X.prog X.w X.K tg J fp it tn/\tn 0 s2.heap/\(∀b∈fp,y88 X pins H' b)/\R J H'
def PI(X:Cx)(tg iter:Expr)(wi:TI):Prop :=
 ∀(pins:List (Addr×Obj)) (s:Shared) (σ:St) (H:Hp) (R:It->Hp->Prop),Inv X pins σ H s->wi σ H R ->
  wpAny (model X.prog X.w) X.A (eval iter X.env) (fun v s1=>wpAny (model X.prog X.w) X.A (pyIter v) (PIE X pins σ tg R) X.xe s1) X.xe s
theorem x7U{M:Model}{A:Around}{E:Value->Shared->Prop}{s:Shared}{tg:Expr}{it:Addr}{u:Value}{o:Obj}{n:String}{vs:Array Value}{Q:Unit->Shared->Prop}(ho:s.heap.get? it=some o)(hc:o.cls = .type n)(hd:o.data = .fields vs)(hn:["enumerate","zip","dict_itemiterator","dict_reverseitemiterator","odict_iterator","itertools.zip_longest","itertools.pairwise"].contains n=false)(hQ:Q () s):wpAny M A (letOwnedTupleGo tg (.ref it) u) Q E s:=by
  unfold letOwnedTupleGo
  cases tg<;>first
    | exact wpAny_pure hQ
    | (cases u<;>first
        | exact wpAny_pure hQ
        | (refine wpAny_bind (wpAny_load ho ?_)
           rw[hc,hd]
           show wpAny M A (if (["enumerate","zip","dict_itemiterator","dict_reverseitemiterator","odict_iterator","itertools.zip_longest","itertools.pairwise"].contains n&&vs[0]?==some (rawInt _))=true then _ else _) Q E s
           rw[if_neg (by intro h;rw[hn,Bool.false_and]at h;cases h)]
           exact wpAny_pure hQ))
def Itl(K:PySem.W.Frag)(a:Addr):It :=
 ⟨fun i H=>∃xs x,SqL K H a xs/\xs[i]?=some x,fun i H x H'=>H'=H/\∀xs,SqL K H a xs->xs[i]?=some x,fun i H=>∃xs,SqL K H a xs/\xs.length≤i⟩
def Itt(K:PySem.W.Frag)(a:Addr):It :=
 ⟨fun i H=>∃xs x,SqT K H a xs/\xs[i]?=some x,fun i H x H'=>H'=H/\∀xs,SqT K H a xs->xs[i]?=some x,fun i H=>∃xs,SqT K H a xs/\xs.length≤i⟩
def Itr(lo:Int)(n:Nat):It:=⟨fun i _=>i<n,fun i H x H'=>H'=H/\x = .int (lo+i),fun i _=>n≤i⟩
theorem y8P{P:Program}{w:World}{K:PySem.W.Frag}{tg:Expr}(a it:Addr):Turn P w K tg (Itl K a) [it] it (fun i h=>h.IsListIter it a i) where
 mem:=by simp
 obj:=fun i h st b hb=>by
  have e:b=it:=by simpa using hb
  subst e;obtain⟨o,e,c,d⟩:=st
  exact⟨o,e,fun v z=>by rw[d]at z;cases z⟩
 keep:=fun i h h' st k=>st.at fun o e=>k it (by simp) o e
 item:=by
  intro X hP hw hK hc i pins s σ H E I hf st hg
  subst hP hw hK
  obtain⟨xs,x,hq,hx⟩:=hg;obtain⟨its,rv,p,hz⟩:=I.list hq;obtain⟨u,hu,ru⟩:=rv.get hx
  obtain⟨f0,f1,f2,f3,f4,f5⟩:=hf it (by simp)
  refine wpAny_pyNext_list_item st p.isList (x:=u) (by simpa using hu) fun h' st' sb=>?_
  have I1:Inv X pins σ H { s with heap:=h' }:=I.turned (t':=s.toks) (fun b o hb e=>(sb.2 b hb).trans e) f0 f1 f3 f4 f5
  obtain⟨o,e,c,d⟩:=id st'
  exact⟨u,rfl,x7U (s:={ s with heap:=h' }) e c d (by decide) ⟨x,H,I1,ru,⟨rfl,fun ys hy=>by rw[I.list_inj hy hq];exact hx⟩,st',fun b hb=>(hf b hb).1⟩⟩
 done:=by
  intro X hP hw hK hc i pins s σ H E I hf st hg
  subst hP hw hK
  obtain⟨xs,hq,hx⟩:=hg;obtain⟨its,rv,p,hz⟩:=I.list hq
  obtain⟨f0,f1,f2,f3,f4,f5⟩:=hf it (by simp)
  have hl:=rv.length
  exact wpAny_pyNext_list_end (I.ok.hd hc) st p.isList (by simp;omega) fun h' eb=>⟨rfl,I.turned (t':=s.toks) (fun b o hb e=>eb b o hb e) f0 f1 f3 f4 f5⟩
 self:=fun _ _ _ _ _ st h=>wpAny_pyIter_listiter st h
theorem y6Q{P:Program}{w:World}{K:PySem.W.Frag}{tg:Expr}(a it:Addr):Turn P w K tg (Itt K a) [it] it (fun i h=>h.IsTupleIter it a i) where
 mem:=by simp
 obj:=fun i h st b hb=>by
  have e:b=it:=by simpa using hb
  subst e;obtain⟨o,e,c,d⟩:=st
  exact⟨o,e,fun v z=>by rw[d]at z;cases z⟩
 keep:=fun i h h' st k=>st.at fun o e=>k it (by simp) o e
 item:=by
  intro X hP hw hK hc i pins s σ H E I hf st hg
  subst hP hw hK
  obtain⟨xs,x,hq,hx⟩:=hg;obtain⟨its,rv,p,hz⟩:=I.tuple hq;obtain⟨u,hu,ru⟩:=rv.get hx
  obtain⟨f0,f1,f2,f3,f4,f5⟩:=hf it (by simp)
  refine wpAny_pyNext_tuple_item st (show s.heap.IsTuple a its.toArray from p) (x:=u) (by simpa using hu) fun h' st' sb=>?_
  have I1:Inv X pins σ H { s with heap:=h' }:=I.turned (t':=s.toks) (fun b o hb e=>(sb.2 b hb).trans e) f0 f1 f3 f4 f5
  obtain⟨o,e,c,d⟩:=id st'
  exact⟨u,rfl,x7U (s:={ s with heap:=h' }) e c d (by decide) ⟨x,H,I1,ru,⟨rfl,fun ys hy=>by rw[I.tuple_inj hy hq];exact hx⟩,st',fun b hb=>(hf b hb).1⟩⟩
 done:=by
  intro X hP hw hK hc i pins s σ H E I hf st hg
  subst hP hw hK
  obtain⟨xs,hq,hx⟩:=hg;obtain⟨its,rv,p,hz⟩:=I.tuple hq
  obtain⟨f0,f1,f2,f3,f4,f5⟩:=hf it (by simp)
  have hl:=rv.length
  exact wpAny_pyNext_tuple_end (I.ok.hd hc) st (show s.heap.IsTuple a its.toArray from p) (by simp;omega) fun h' eb=>⟨rfl,I.turned (t':=s.toks) (fun b o hb e=>eb b o hb e) f0 f1 f3 f4 f5⟩
 self:=fun _ _ _ _ _ st h=>wpAny_pyIter_tupleiter st h
theorem y6R{P:Program}{w:World}{K:PySem.W.Frag}{tg:Expr}(it:Addr)(lo:Int)(n:Nat):Turn P w K tg (Itr lo n) [it] it (fun i h=>IsRangeIter h it (lo+(i:Nat)*1) ((n:Int)-(i:Nat)) 1) where
 mem:=by simp
 obj:=fun i h st b hb=>by
  have e:b=it:=by simpa using hb
  subst e
  exact⟨_,st,fun v z=>by
   have z':Data.fields _=Data.cell v:=z
   cases z'⟩
 keep:=fun i h h' st k=>k it (by simp) _ st
 item:=by
  intro X hP hw hK hc i pins s σ H E I hf st hg
  subst hP hw hK
  obtain⟨f0,f1,f2,f3,f4,f5⟩:=hf it (by simp)
  have W:=Walks.range (prog:=X.prog) (w:=X.w) (I.ok.hd hc) it lo 1 n
  refine W.item i s _ _ hg st fun v h' tk hv st' kk=>?_
  obtain⟨t,rfl⟩:=hv
  have I1:Inv X pins σ H { s with heap:=h',toks:=tk }:=I.turned (fun b o hb e=>kk b o (by simpa using hb) e) f0 f1 f3 f4 f5
  refine⟨_,rfl,x7U (s:={ s with heap:=h',toks:=tk }) (n:="range_iterator") st' rfl rfl (by decide) ⟨.int (lo+i),H,I1,⟨t,?_⟩,⟨rfl,rfl⟩,st',fun b hb=>(hf b hb).1⟩⟩
  rw[Int.mul_one]
 done:=by
  intro X hP hw hK hc i pins s σ H E I hf st hg
  subst hP hw hK
  obtain⟨f0,f1,f2,f3,f4,f5⟩:=hf it (by simp)
  exact wpAny_pyNext_range_end (I.ok.hd hc) st (by have:n≤i:=hg;omega) fun h' eb=>⟨rfl,I.turned (t':=s.toks) (fun b o hb e=>eb b o hb e) f0 f1 f3 f4 f5⟩
 self:=fun _ _ _ _ _ st h=>wpAny_pyIter_rangeiter st h
section
variable{X:Cx}{tg:Expr}
def w36(K:PySem.W.Frag)(tl:TE):TI:=fun σ H R=>tl σ H fun x H1=>∃a,x = .ref a/\(∃xs,SqL K H1 a xs)/\R (Itl K a) H1
def w4E(K:PySem.W.Frag)(tl:TE):TI:=fun σ H R=>tl σ H fun x H1=>∃a,x = .ref a/\(∃xs,SqT K H1 a xs)/\R (Itt K a) H1
theorem y9J{l:Expr}{tl:TE}(hl:PE X l tl):PI X tg l (w36 X.K tl):=by
 intro pins s σ H R I h
 refine thn (hl pins s σ H _ I h) fun v s1 ⟨x,H1,I1,r1,q1⟩=>?_
 obtain⟨a,e,⟨xs,hq⟩,q⟩:=q1;subst e;cases r1;obtain⟨its,rv,p,hz⟩:=I1.list hq;refine wpAny_pyIter_list p.isList ?_
 refine⟨s1.heap.objs.size,[s1.heap.objs.size],_,_,H1,rfl,I1.kept (t':=s1.toks) fun b o e=>Heap.get?_push_of_some _ e,y8P a _,⟨_,Heap.get?_push_size _ rfl,rfl,rfl⟩,fun b hb=>?_,q⟩
 have e:b=s1.heap.objs.size:=by simpa using hb
 subst e;exact I1.fpOk (Nat.le_refl _) (I1.hok.fresh (Nat.le_refl _))
theorem w0P{l:Expr}{tl:TE}(hl:PE X l tl):PI X tg l (w4E X.K tl):=by
 intro pins s σ H R I h
 refine thn (hl pins s σ H _ I h) fun v s1 ⟨x,H1,I1,r1,q1⟩=>?_
 obtain⟨a,e,⟨xs,hq⟩,q⟩:=q1;subst e;cases r1;obtain⟨its,rv,p,hz⟩:=I1.tuple hq
 refine wpAny_pyIter_tuple (show s1.heap.IsTuple a its.toArray from p) ?_
 refine⟨s1.heap.objs.size,[s1.heap.objs.size],_,_,H1,rfl,I1.kept (t':=s1.toks) fun b o e=>Heap.get?_push_of_some _ e,y6Q a _,⟨_,Heap.get?_push_size _ rfl,rfl,rfl⟩,fun b hb=>?_,q⟩
 have e:b=s1.heap.objs.size:=by simpa using hb
 subst e;exact I1.fpOk (Nat.le_refl _) (I1.hok.fresh (Nat.le_refl _))
theorem x2R{pins:List (Addr×Obj)}{σ:St}{H:Hp}{s:Shared}{R:It->Hp->Prop}{E:Value->Shared->Prop}{lo hi:Int}{t u v:Tok}{tk:Nat}(I:Inv X pins σ H s)(h1 : -(2 ^ 62)≤lo)(h2:lo<2 ^ 62)(h3 : -(2 ^ 62)≤hi)(h4:hi<2 ^ 62)(q:R (Itr lo (hi-lo).toNat) H):wpAny (model X.prog X.w) X.A (pyIter (.ref s.heap.objs.size)) (PIE X pins σ tg R) E { s with heap:=s.heap.push { cls:=.type "range",data:=.fields #[.int lo t,.int hi u,.int 1 v] },toks:=tk }:=by
 refine wpAny_pyIter_range (IsRange.new ..) (small_one h1 h2 h3 h4) ?_
 have I1:Inv X pins σ H { s with heap:=s.heap.push { cls:=.type "range",data:=.fields #[.int lo t,.int hi u,.int 1 v] },toks:=tk }:=I.kept fun b o e=>Heap.get?_push_of_some _ e
 refine⟨(s.heap.push { cls:=.type "range",data:=.fields #[.int lo t,.int hi u,.int 1 v] }).objs.size,[(s.heap.push { cls:=.type "range",data:=.fields #[.int lo t,.int hi u,.int 1 v] }).objs.size],_,_,H,rfl,
  I1.kept (t':=tk) fun b o e=>Heap.get?_push_of_some _ e,y6R _ lo (hi-lo).toNat,?_,fun b hb=>?_,q⟩
 ·have e1:lo+((0:Nat):Int)*1=lo:=by simp
  have e2:(((hi-lo).toNat:Nat):Int)-((0:Nat):Int)=Builtin.Range.rangeSize lo hi 1:=by rw[rangeSize_one];split<;>omega
  show IsRangeIter _ _ (lo+((0:Nat):Int)*1) ((((hi-lo).toNat:Nat):Int)-((0:Nat):Int)) 1
  rw[e1,e2];exact Heap.get?_push_size _ rfl
 ·have e:b=(s.heap.push { cls:=.type "range",data:=.fields #[.int lo t,.int hi u,.int 1 v] }).objs.size:=by simpa using hb
  subst e;exact I1.fpOk (Nat.le_refl _) (I1.hok.fresh (Nat.le_refl _))
def w35(ta:TA):TI:=fun σ H R=>ta σ H fun vs H1=>∃j:Int,vs=[.int j]/\-(2 ^ 62)≤j/\j<2 ^ 62/\R (Itr 0 j.toNat) H1
theorem y9I{a:Expr}{ta:TA}{p pos:Pos}(hg:Gl X "range")(hm:X.mg "range" = none)(ha:PA X [a] ta)(hs:starEach [a] X.env=[(false,eval a X.env)]:=by rfl):PI X tg (.Call (.Name "range" p) [a] [] pos) (w35 ta):=by
 intro pins s σ H R I h
 refine Call_ (z3N I hg hm boot_range (PyProof.Rows.callWith_type1 (thn (ha pos pins s σ H _ I h) fun us s1 ⟨vs,H1,I1,r1,q1⟩=>?_) hs rfl))
 obtain⟨j,e,q1,q2,q⟩:=q1;subst e
 cases r1 with
 | cons r rr =>
  cases rr;obtain⟨t,rfl⟩:=r
  exact call_range_1 (x2R I1 (by omega) (by omega) q1 q2 (by simpa using q))
def w43(wi:TI)(g:TG)(tb:TS):TS:=fun D σ H=>wi σ H fun J H1=>∃W:Nat->Nat->St->Hp->Prop,(∃m,W 0 m σ H1)/\∀i m σ H,W i m σ H ->
 (J.stop i H/\D.nx σ H)∨(J.go i H/\∃N:St->Hp->Prop,(∀σ' H',N σ' H'->∃m',m'<m/\W (i+1) m' σ' H')/\∀x H',J.yld i H x H'->g x σ H' fun σ2 H2=>tb { D with nx:=N,ct:=N,bk:=D.nx } σ2 H2)
def z9M(fp:List Addr)(h:Heap):List (Addr×Obj):=fp.filterMap fun b=>(h.get? b).map fun o=>(b,o)
theorem z1L{fp:List Addr}{h:Heap}{b:Addr}{o:Obj}(hb:b∈fp)(e:h.get? b=some o):(b,o)∈z9M fp h:=List.mem_filterMap.mpr ⟨b,hb,by rw[e];rfl⟩
theorem y9Q{fp:List Addr}{h:Heap}{p:Addr×Obj}(hp:p∈z9M fp h):p.1∈fp/\h.get? p.1=some p.2:=by
 obtain⟨b,hb,e⟩:=List.mem_filterMap.mp hp
 cases q:h.get? b with
 | none=>rw[q]at e;cases e
 | some o =>
  rw[q]at e;have e':(b,o)=p:=Option.some.inj e
  subst e'
  exact⟨hb,q⟩
theorem Inv.pinned{pins:List (Addr×Obj)}{σ:St}{H:Hp}{s:Shared}{fp:List Addr}(I:Inv X pins σ H s)(hf:∀b∈fp,y88 X pins H b)(ho:∀b∈fp,∃o,s.heap.get? b=some o/\∀v,o.data≠.cell v):Inv X (pins++z9M fp s.heap) σ H s :=
 I.pins_of fun p hp=>(List.mem_append.mp hp).elim (fun z=>I.pin p (List.mem_append_right _ z)) fun z=>by
  obtain⟨hb,e⟩:=y9Q z;obtain⟨f0,f1,f2,_⟩:=hf p.1 hb;obtain⟨o,e',d⟩:=ho p.1 hb;rw[e]at e';cases e'
  exact⟨e,f0,f1,f2,d⟩
theorem Inv.unpinned{pins pl:List (Addr×Obj)}{σ:St}{H:Hp}{s:Shared}(I:Inv X (pins++pl) σ H s):Inv X pins σ H s:=I.pins_of fun p hp=>I.pin p (List.mem_append_right _ (List.mem_append_left _ hp))
theorem w0O{iter:Expr}{body:List Stmt}{wi:TI}{g:TG}{tb:TS}{pos:Pos}(hp:PassesOwn (model X.prog X.w) X.A X.env X.xe)(hc:X.calm=true)(hi:PI X tg iter wi)(hg:PG X tg g)(hb:PSs X body tb)(hs:∀x,foldedSetIterable iter X.env x=pure x:=by intro _;rfl):PS X (.For tg iter body [] pos) (w43 wi g tb):=by
 intro pins s σ H D I h
 refine wpAny_For (thn (hi pins s σ H _ I h) fun v s1 h1=>thn h1 fun itv s2 h2=>?_) hs
 obtain⟨it,fp,tn,J,H2,e,I2,T,st2,f2,W,⟨m0,w0⟩,turn⟩:=h2;subst e
 have stat:∀{H':Hp},(∀b∈fp,H' b=none)->∀b∈fp,y88 X pins H' b:=fun hn b hb=>⟨hn b hb,(f2 b hb).2⟩
 refine codeAny_forLoop_any (fun n s'=>∃i σ' H',Inv X pins σ' H' s'/\tn i s'.heap/\(∀b∈fp,H' b=none)/\W i n σ' H') ?_ m0 ⟨0,σ,H2,I2,st2,fun b hb=>(f2 b hb).1,w0⟩
 rintro n s3 ⟨i,σ3,H3,I3,st3,fr3,w3⟩
 rcases turn i n σ3 H3 w3 with⟨stop,qn⟩|⟨go,N,hN,step⟩
 ·refine wpAny_passesOwn hp (thn (T.done X rfl rfl rfl hc i pins s3 σ3 H3 X.xe I3 (stat fr3) st3 stop) fun r s4 ⟨hr,I4⟩=>?_)
  subst hr;exact wpAny_execs_nil ⟨σ3,H3,I4,qn⟩
 ·refine wpAny_passesOwn hp (thn (T.item X rfl rfl rfl hc i pins s3 σ3 H3 X.xe I3 (stat fr3) st3 go) fun r s4 ⟨u,hr,h4⟩=>?_)
  subst hr
  refine wpAny_passesOwn hp (thn h4 fun _ s5 ⟨x,H5,I5,r5,y5,st5,fr5⟩=>?_)
  have I5':=I5.pinned (stat fr5) (T.obj _ _ st5)
  refine wpAny_passesOwn hp (thn (hg _ s5 σ3 H5 x u _ I5' r5 (step x H5 y5)) fun _ s6 ⟨σ6,H6,I6,q6⟩=>?_)
  refine wpAny_passesOwn hp (thn (hb _ s6 σ6 H6 _ I6 q6) fun f s7 q7=>?_)
  have again:∀{σ7:St} {H7:Hp},Inv X (pins++z9M fp s5.heap) σ7 H7 s7->N σ7 H7->∃m,m<n/\∃i σ' H',Inv X pins σ' H' s7/\tn i s7.heap/\(∀b∈fp,H' b=none)/\W i m σ' H':=fun {σ7 H7} I7 n7=>by
   obtain⟨m',hm,w7⟩:=hN σ7 H7 n7
   refine⟨m',hm,i+1,σ7,H7,I7.unpinned,T.keep _ _ _ st5 fun b hb o e=>(I7.pin (b,o) (List.mem_append_right _ (List.mem_append_right _ (z1L hb e)))).1,fun b hb=>?_,w7⟩
   obtain⟨o,e,d⟩:=T.obj _ _ st5 b hb;exact (I7.pin (b,o) (List.mem_append_right _ (List.mem_append_right _ (z1L hb e)))).2.1
  cases f with
  | next=>obtain⟨σ7,H7,I7,n7⟩:=q7;exact again I7 n7
  | cont=>obtain⟨σ7,H7,I7,n7⟩:=q7;exact again I7 n7
  | brk=>obtain⟨σ7,H7,I7,q7⟩:=q7;exact⟨σ7,H7,I7.unpinned,q7⟩
  | ret v=>obtain⟨x7,σ7,H7,I7,r7,q7⟩:=q7;exact⟨x7,σ7,H7,I7.unpinned,r7,q7⟩
end
abbrev R2:=V->V->Hp->VK->Prop
def OpR(X:Cx)(f:Value->Value->Sem Value)(r:R2):Prop :=
 ∀(pins:List (Addr×Obj)) (s:Shared) (σ:St) (H:Hp) (x y:V) (v u:Value) (Q:VK),Inv X pins σ H s->W3 x v->W3 y u->r x y H Q ->
  wpAny (model X.prog X.w) X.A (f v u) (EP X pins σ Q) X.xe s
def UnR(X:Cx)(f:Value->Sem Value)(r:V->Hp->VK->Prop):Prop :=
 ∀(pins:List (Addr×Obj)) (s:Shared) (σ:St) (H:Hp) (x:V) (v:Value) (Q:VK),Inv X pins σ H s->W3 x v->r x H Q ->
  wpAny (model X.prog X.w) X.A (f v) (EP X pins σ Q) X.xe s
def z0Y(X:Cx)(f:Value)(r:List V->Hp->VK->Prop):Prop :=
 ∀(pins:List (Addr×Obj)) (s:Shared) (σ:St) (H:Hp) (xs:List V) (us:List Value) (Q:VK),Inv X pins σ H s->Q4 xs us->r xs H Q ->
  wpAny (model X.prog X.w) X.A (call f us) (EP X pins σ Q) X.xe s
def w4M(X:Cx)(r:V->Hp->(Bool->Hp->Prop)->Prop):Prop :=
 ∀(pins:List (Addr×Obj)) (s:Shared) (σ:St) (H:Hp) (x:V) (v:Value) (Q:Bool->Hp->Prop),Inv X pins σ H s->W3 x v->r x H Q ->
  wpAny (model X.prog X.w) X.A (truthy v) (TP X pins σ Q) X.xe s
def tOp(r:R2)(ta tb:TE):TE:=fun σ H Q=>ta σ H fun x H1=>tb σ H1 fun y H2=>r x y H2 Q
def tUn(r:V->Hp->VK->Prop)(ta:TE):TE:=fun σ H Q=>ta σ H fun x H1=>r x H1 Q
def rI(C:Int->Int->Prop)(g:Int->Int->V):R2:=fun x y H Q=>∃i j,x = .int i/\y = .int j/\C i j/\Q (g i j) H
def rI0(g:Int->Int->V):R2:=fun x y H Q=>∃i j,x = .int i/\y = .int j/\Q (g i j) H
def rU(g:Int->V):V->Hp->VK->Prop:=fun x H Q=>∃i,x = .int i/\Q (g i) H
section
variable{X:Cx}{a b c:Expr}{ta tb tc:TE}{pos:Pos}
theorem w3G(ha:PE X a ta)(hb:PE X b tb){pins:List (Addr×Obj)}{s:Shared}{σ:St}{H:Hp}{R:V->V->Hp->Prop}(I:Inv X pins σ H s)(h:ta σ H fun x H1=>tb σ H1 fun y H2=>R x y H2){Q:Value->Shared->Prop}{f:Value->Value->Sem Value}(hf:∀v u s2 x y H2,Inv X pins σ H2 s2->W3 x v->W3 y u->R x y H2->wpAny (model X.prog X.w) X.A (f v u) Q X.xe s2) :
  wpAny (model X.prog X.w) X.A (eval a X.env) (fun v s₁=>wpAny (model X.prog X.w) X.A (eval b X.env) (fun u s₂=>wpAny (model X.prog X.w) X.A (f v u) Q X.xe s₂) X.xe s₁) X.xe s:=by
 refine thn (ha pins s σ H _ I h) fun v s1 ⟨x,H1,I1,r1,q1⟩=>?_
 refine thn (hb pins s1 σ H1 _ I1 q1) fun u s2 ⟨y,H2,I2,r2,q2⟩=>?_
 exact hf v u s2 x y H2 I2 r1 r2 q2
theorem w0W{op:Operator}{r:R2}(ho:OpR X (binaryOp op) r)(ha:PE X a ta)(hb:PE X b tb):PE X (.BinOp a op b pos) (tOp r ta tb):=by
 intro pins s σ H Q I h
 exact wpAny_BinOp (w3G ha hb I h fun v u s2 x y H2 I2 rx ry q=>ho pins s2 σ H2 x y v u Q I2 rx ry q)
theorem w2X{op:UnaryOp}{r:V->Hp->VK->Prop}(ho:UnR X (unaryOp op) r)(ha:PE X a ta):PE X (.UnaryOp op a pos) (tUn r ta):=by
 intro pins s σ H Q I h
 exact UnaryOp_ (thn (ha pins s σ H _ I h) fun v s1 ⟨x,H1,I1,r1,q1⟩=>ho pins s1 σ H1 x v Q I1 r1 q1)
theorem opI{f:Value->Value->Sem Value}{C:Int->Int->Prop}{g:Int->Int->Int}(rule:∀(i j:Int) (t u:Tok) (s:Shared) (Q:Value->Shared->Prop) (E:Value->Shared->Prop),C i j->Q (.int (g i j) s.toks) { s with toks:=s.toks+1 }->wpAny (model X.prog X.w) X.A (f (.int i t) (.int j u)) Q E s) :
  OpR X f (rI C fun i j=>.int (g i j)):=by
 intro pins s σ H x y v u Q I rx ry h;obtain⟨i,j,rfl,rfl,hc,q⟩:=h;obtain⟨t,rfl⟩:=rx;obtain⟨t',rfl⟩:=ry;exact rule i j t t' s _ _ hc ⟨.int (g i j),H,I.tok _,⟨_,rfl⟩,q⟩
theorem w3T{f:Value->Value->Sem Value}{g:Int->Int->Int}(rule:∀(i j:Int) (t u:Tok) (s:Shared) (Q:Value->Shared->Prop) (E:Value->Shared->Prop),Q (.int (g i j) s.toks) { s with toks:=s.toks+1 }->wpAny (model X.prog X.w) X.A (f (.int i t) (.int j u)) Q E s) :
  OpR X f (rI0 fun i j=>.int (g i j)):=by
 intro pins s σ H x y v u Q I rx ry h;obtain⟨i,j,rfl,rfl,q⟩:=h;obtain⟨t,rfl⟩:=rx;obtain⟨t',rfl⟩:=ry;exact rule i j t t' s _ _ ⟨.int (g i j),H,I.tok _,⟨_,rfl⟩,q⟩
theorem w32{f:Value->Value->Sem Value}{g:Int->Int->Bool}(rule:∀(i j:Int) (t u:Tok) (s:Shared) (Q:Value->Shared->Prop) (E:Value->Shared->Prop),Q (.bool (g i j)) s->wpAny (model X.prog X.w) X.A (f (.int i t) (.int j u)) Q E s) :
  OpR X f (rI0 fun i j=>.bl (g i j)):=by
 intro pins s σ H x y v u Q I rx ry h;obtain⟨i,j,rfl,rfl,q⟩:=h;obtain⟨t,rfl⟩:=rx;obtain⟨t',rfl⟩:=ry;exact rule i j t t' s _ _ ⟨.bl (g i j),H,I,rfl,q⟩
def w3W(i j:Int):Prop:=0<j/\j<1073741824
def w1X(i j:Int):Prop:=(-(2 ^ 64)<i/\i<2 ^ 64)∨(-(2 ^ 64)<j/\j<2 ^ 64)
theorem w1X.ok{i j:Int}(h:w1X i j):IntMulOk i j:=by
 rcases h with⟨h1,h2⟩|⟨h1,h2⟩
 ·exact .of_left (intBits_le_64 h1 h2)
 ·exact .of_right (intBits_le_64 h1 h2)
theorem w18:OpR X (binaryOp .Add) (rI0 fun i j=>.int (i+j)):=w3T fun _ _ _ _ _ _ _ q=>add_int q
theorem w13:OpR X (binaryOp .Sub) (rI0 fun i j=>.int (i-j)):=w3T fun _ _ _ _ _ _ _ q=>sub_int q
theorem w15:OpR X (binaryOp .Mult) (rI w1X fun i j=>.int (i*j)):=opI fun _ _ _ _ _ _ _ hc q=>mul_int q hc.ok
theorem x76:OpR X (binaryOp .FloorDiv) (rI w3W fun i j=>.int (i / j)):=opI fun i j _ _ _ _ _ hc q=>by
 have h1:(0:Int)<j:=hc.1;have h2:j<1073741824:=hc.2
 exact floordiv_int (by omega) (by rw[Int.fdiv_eq_ediv_of_nonneg i (by omega)];exact q) (.inl (PyProof.noPylong_small (by omega)))
theorem w16:OpR X (binaryOp .Mod) (rI (fun _ j=>0<j) fun i j=>.int (i % j)):=opI fun i j _ _ _ _ _ hc q=>by
 have h1:(0:Int)<j:=hc
 exact mod_int' (by omega) (by rw[Int.fmod_eq_emod_of_nonneg i (by omega)];exact q)
theorem unI{f:Value->Sem Value}{g:Int->Int}(rule:∀(i:Int) (t:Tok) (s:Shared) (Q:Value->Shared->Prop) (E:Value->Shared->Prop),Q (.int (g i) s.toks) { s with toks:=s.toks+1 }->wpAny (model X.prog X.w) X.A (f (.int i t)) Q E s) :
  UnR X f (rU fun i=>.int (g i)):=by
 intro pins s σ H x v Q I rx h;obtain⟨i,rfl,q⟩:=h;obtain⟨t,rfl⟩:=rx;exact rule i t s _ _ ⟨.int (g i),H,I.tok _,⟨_,rfl⟩,q⟩
theorem x8S:UnR X (unaryOp .USub) (rU fun i=>.int (-i)):=unI fun _ _ _ _ _ q=>neg_int q
theorem y0R:OpR X (compareOp .Lt) (rI0 fun i j=>.bl (decide (i<j))):=w32 fun _ _ _ _ _ _ _ q=>lt_int q
theorem x75:OpR X (compareOp .LtE) (rI0 fun i j=>.bl (decide (i≤j))):=w32 fun _ _ _ _ _ _ _ q=>le_int q
theorem w31:OpR X (compareOp .Gt) (rI0 fun i j=>.bl (decide (j<i))):=w32 fun _ _ _ _ _ _ _ q=>gt_int q
theorem OpR.or{f:Value->Value->Sem Value}{r r':R2}(h:OpR X f r)(h':OpR X f r'):OpR X f (fun x y H Q=>r x y H Q∨r' x y H Q):=by
 intro pins s σ H x y v u Q I rx ry q
 rcases q with q|q
 ·exact h pins s σ H x y v u Q I rx ry q
 ·exact h' pins s σ H x y v u Q I rx ry q
theorem z85(b:Expr){op:CmpOp}(h:op≠.In:=by decide)(h2:op≠.NotIn:=by decide):behindInMarks op b=false:=by
 have e1:(op==CmpOp.In)=false:=by cases op<;>first|rfl|exact absurd rfl h
 have e2:(op==CmpOp.NotIn)=false:=by cases op<;>first|rfl|exact absurd rfl h2
 cases b<;>simp[behindInMarks,e1,e2]
theorem x71{op:CmpOp}{r:R2}(ho:OpR X (compareOp op) r)(ha:PE X a ta)(hb:PE X b tb)(hm:behindInMarks op b=false):PE X (.Compare a [op] [b] pos) (tOp r ta tb):=by
 intro pins s σ H Q I h
 exact wpAny_Compare1 (w3G ha hb I h fun v u s2 x y H2 I2 rx ry q=>ho pins s2 σ H2 x y v u Q I2 rx ry q) hm
def x8W(t:TE):TT:=fun σ H Q=>t σ H fun x H'=>∃k,x = .bl k/\Q k H'
theorem y42{op:CmpOp}{r:R2}(ho:OpR X (compareOp op) r)(ha:PE X a ta)(hb:PE X b tb)(hm:behindInMarks op b=false):PT X (.Compare a [op] [b] pos) (x8W (tOp r ta tb)):=by
 intro pins s σ H Q I h
 refine wpAny_isTrue_Compare1 (thn (ha pins s σ H _ I h) fun v s1 ⟨x,H1,I1,r1,q1⟩=>thn (hb pins s1 σ H1 _ I1 q1) fun u s2 ⟨y,H2,I2,r2,q2⟩ =>
  thn (ho pins s2 σ H2 x y v u _ I2 r1 r2 q2) fun c s3 ⟨z,H3,I3,r3,k,e,q3⟩=>?_) hm
 subst e;cases r3;exact wpAny_truthy_bool ⟨H3,I3,q3⟩
def y8T(r r':R2)(ta tb tc:TE):TE:=fun σ H Q=>ta σ H fun x H1=>tb σ H1 fun y H2=>r x y H2 fun z H3=>∃k,z = .bl k /\
 (if k=true then tc σ H3 fun w' H4=>r' y w' H4 Q else Q (.bl false) H3)
theorem x34{op op':CmpOp}{r r':R2}(ho:OpR X (compareOp op) r)(ho':OpR X (compareOp op') r')(ha:PE X a ta)(hb:PE X b tb)(hc:PE X c tc)(hm:lastMarks [op,op'] [b,c]=false:=by with_unfolding_all rfl):PE X (.Compare a [op,op'] [b,c] pos) (y8T r r' ta tb tc):=by
 intro pins s σ H Q I h
 refine Compare_chain (thn (ha pins s σ H _ I h) fun v s1 ⟨x,H1,I1,r1,q1⟩=>chain_link (thn (hb pins s1 σ H1 _ I1 q1) fun u s2 ⟨y,H2,I2,r2,q2⟩ =>
  thn (ho pins s2 σ H2 x y v u _ I2 r1 r2 q2) fun d s3 ⟨z,H3,I3,r3,k,e,q3⟩=>?_)) hm
 subst e;cases r3;refine wpAny_truthy_bool ?_
 cases k with
 | false=>exact ite_ff ⟨.bl false,H3,I3,rfl,q3⟩
 | true=>exact ite_tt (chain_last (thn (hc pins s3 σ H3 _ I3 q3) fun w' s4 ⟨z',H4,I4,r4,q4⟩=>ho' pins s4 σ H4 y z' u w' Q I4 r2 r4 q4))
theorem x2V{op op':CmpOp}{r r':R2}(ho:OpR X (compareOp op) r)(ho':OpR X (compareOp op') r')(ha:PE X a ta)(hb:PE X b tb)(hc:PE X c tc)(hm:lastMarks [op,op'] [b,c]=false:=by with_unfolding_all rfl):PT X (.Compare a [op,op'] [b,c] pos) (x8W (y8T r r' ta tb tc)):=by
 intro pins s σ H Q I h
 refine isTrue_chain (thn (ha pins s σ H _ I h) fun v s1 ⟨x,H1,I1,r1,q1⟩=>test_link (thn (hb pins s1 σ H1 _ I1 q1) fun u s2 ⟨y,H2,I2,r2,q2⟩ =>
  thn (ho pins s2 σ H2 x y v u _ I2 r1 r2 q2) fun d s3 ⟨z,H3,I3,r3,k,e,q3⟩=>?_)) hm
 subst e;cases r3;refine wpAny_truthy_bool ?_
 cases k with
 | false =>
  obtain⟨k',e',q'⟩:=q3
  cases e'
  exact ite_ff ⟨H3,I3,q'⟩
 | true =>
  refine ite_tt (test_last (thn (hc pins s3 σ H3 _ I3 q3) fun w' s4 ⟨z',H4,I4,r4,q4⟩=>thn (ho' pins s4 σ H4 y z' u w' _ I4 r2 r4 q4) fun d' s5 ⟨z2,H5,I5,r5,k2,e2,q5⟩=>?_))
  subst e2;cases r5;exact wpAny_truthy_bool ⟨H5,I5,q5⟩
def w3V(K:PySem.W.Frag)(x:V)(H:Hp)(k:Bool):Prop :=
 match x with
 | .non=>k=false
 | .bl b=>k=b
 | .int i=>k=(i != 0)
 | .str y=>y.length≤sizeLine/\k=((y.length:Int) != 0)
 | .byt y=>y.size≤sizeLine/\k=((y.size:Int) != 0)
 | .ref p=>(∃xs,SqL K H p xs/\k = !xs.isEmpty)∨(∃xs,SqT K H p xs/\k = !xs.isEmpty)∨∃kvs,H p=some (.dK kvs)/\k = !kvs.isEmpty
 | _=>False
theorem y7F{κ:Type}{kvs:List (κ×V)}{vs:List (κ×Value)}(r:KV kvs vs):(!vs.isEmpty) = !kvs.isEmpty:=by
 cases r<;>rfl
theorem z9U{xs:List V}{its:List Value}(r:Q4 xs its):(!its.toArray.isEmpty) = !xs.isEmpty:=by
 cases r<;>simp
theorem z9R:(sizeLine:Nat)<2 ^ 63:=by rw[sizeLine_eq];decide
theorem x8U:w4M X (fun x H Q=>∃k,w3V X.K x H k/\Q k H):=by
 intro pins s σ H x v Q I rx h;obtain⟨k,e,q⟩:=h;have hl:=z9R;have hs:sizeLine=16777216:=sizeLine_eq
 cases x with
 | non =>
  cases rx;have e':k=false:=e
  subst e'
  exact truthy_none ⟨H,I,q⟩
 | bl b =>
  cases rx;have e':k=b:=e
  subst e'
  exact wpAny_truthy_bool ⟨H,I,q⟩
 | int i =>
  obtain⟨t,rfl⟩:=rx;have e':k=(i != 0):=e
  subst e'
  exact PySem.P.truthy_int ⟨H,I,q⟩
 | str y =>
  obtain⟨t,rfl⟩:=rx;obtain⟨hy,e'⟩:y.length≤sizeLine/\k=((y.length:Int) != 0):=e
  subst e'
  exact PySem.P.truthy_str (by omega) ⟨H,I.tok _,q⟩
 | byt y =>
  obtain⟨t,rfl⟩:=rx;obtain⟨hy,e'⟩:y.size≤sizeLine/\k=((y.size:Int) != 0):=e
  subst e'
  exact PySem.W.truthy_bytes (by omega) ⟨H,I.tok _,q⟩
 | ref p =>
  cases rx;have e':(∃xs,SqL X.K H p xs/\k = !xs.isEmpty)∨(∃xs,SqT X.K H p xs/\k = !xs.isEmpty)∨∃kvs,H p=some (.dK kvs)/\k = !kvs.isEmpty:=e
  rcases e' with⟨xs,hx,e'⟩|⟨xs,hx,e'⟩|⟨kvs,hx,e'⟩
  ·subst e'
   obtain⟨its,r,pl,hz⟩:=I.list hx;have hlen:=r.length
   exact wpAny_truthy_list pl.isList (by simp only[List.size_toArray];omega) ⟨H,I.tok _,by rw[z9U r];exact q⟩
  ·subst e'
   obtain⟨its,r,pl,hz⟩:=I.tuple hx;have hlen:=r.length
   exact truthy_tuple pl (by simp only[List.size_toArray];omega) ⟨H,I.tok _,by rw[z9U r];exact q⟩
  ·subst e'
   obtain⟨hz,hS,vs,r,m⟩:kvs.length≤sizeLine/\(p==sysModules)=false/\∃vs,KV kvs vs/\s.heap.DictOf (z0K X.prog X.w) p vs:=I.hok p _ hx;have hlen:kvs.length=vs.length:=Paired.length r
   exact wpAny_truthy_dict hS m (by omega) ⟨H,I.tok _,by rw[y7F r];exact q⟩
 | _=>exact (show False from e).elim
theorem x2U(ha:PE X a ta)(he:∀whole,isTrue a X.env whole=(do let v ←whole;standAt a.pos;holding [v] (truthy v))) :
  PT X a (fun σ H Q=>ta σ H fun x H'=>∃k,w3V X.K x H' k/\Q k H'):=by
 intro pins s σ H Q I h
 exact isTrue_plain (thn (ha pins s σ H _ I h) fun v s1 ⟨x,H1,I1,r1,q1⟩=>x8U pins s1 σ H1 x v Q I1 r1 q1) (he _)
theorem z3D{x:V}{us:List Value}(r:Q4 [x] us):∃u,us=[u]/\W3 x u:=by
 cases r with
 | cons r1 r2=>cases r2;exact⟨_,rfl,r1⟩
theorem y8N{x y:V}{us:List Value}(r:Q4 [x,y] us):∃u w',us=[u,w']/\W3 x u/\W3 y w':=by
 cases r with
 | cons r1 r2 =>
  cases r2 with
  | cons r3 r4=>cases r4;exact⟨_,_,rfl,r1,r3⟩
theorem y33(hc:X.calm=true):z0Y X (.builtin "max") (fun xs H Q=>∃i j,xs=[.int i,.int j]/\Q (.int (if j>i then j else i)) H):=by
 intro pins s σ H xs us Q I r h;obtain⟨i,j,rfl,q⟩:=h;obtain⟨u,w',rfl,⟨t,rfl⟩,⟨t',rfl⟩⟩:=y8N r
 refine max_two_ints (I.ok.hd hc) fun h' tk k=>⟨_,H,I.kept k,?_,q⟩
 by_cases hj:j>i
 ·rw[if_pos hj,if_pos hj];exact⟨_,rfl⟩
 ·rw[if_neg hj,if_neg hj];exact⟨_,rfl⟩
theorem y32(hc:X.calm=true):z0Y X (.builtin "min") (fun xs H Q=>∃i j,xs=[.int i,.int j]/\Q (.int (if j<i then j else i)) H):=by
 intro pins s σ H xs us Q I r h;obtain⟨i,j,rfl,q⟩:=h;obtain⟨u,w',rfl,⟨t,rfl⟩,⟨t',rfl⟩⟩:=y8N r
 refine min_two_ints (I.ok.hd hc) fun h' tk k=>⟨_,H,I.kept k,?_,q⟩
 by_cases hj:j<i
 ·rw[if_pos hj,if_pos hj];exact⟨_,rfl⟩
 ·rw[if_neg hj,if_neg hj];exact⟨_,rfl⟩
theorem x1E:z0Y X (.type "int") (fun xs H Q=>(∃i,xs=[.int i]/\Q (.int i) H)∨∃k,xs=[.bl k]/\Q (.int (if k then 1 else 0)) H):=by
 intro pins s σ H xs us Q I r h
 rcases h with⟨i,rfl,q⟩|⟨k,rfl,q⟩
 ·obtain⟨u,rfl,t,rfl⟩:=z3D r;exact call_int_int ⟨.int i,H,I,⟨_,rfl⟩,q⟩
 ·obtain⟨u,rfl,r1⟩:=z3D r;cases r1
  exact call_int_bool ⟨.int (if k then 1 else 0),H,I.tok _,⟨_,rfl⟩,q⟩
end
theorem y87.some_of{v:V}{o:Option Value}(r:y87 (some v) o):∃u,o=some u/\W3 v u:=by
 cases o with
 | none=>exact (show False from r).elim
 | some u=>exact⟨u,rfl,r⟩
structure Room(k:Nat)(A:Around):Prop where
 hd:A.handled=none
 dp:A.depth+3*k+5<recursionLimit
 un:A.units+16*k+200<cLine
theorem Room.mono{j k:Nat}{A:Around}(r:Room k A)(h:j≤k):Room j A:=⟨r.hd,by have:=r.dp;omega,by have:=r.un;omega⟩
theorem Room.deeper{k:Nat}{A:Around}(r:Room (k+1) A)(env:Env):Room k (A.deeper env) :=
 ⟨r.hd,by have:=r.dp;show A.depth+1+3*k+5<_;omega,by have:=r.un;show A.units+3+16*k+200<_;omega⟩
theorem Room.in1{k:Nat}{A:Around}(r:Room (k+1) A):Room k A.in1 :=
 ⟨r.hd,by have:=r.dp;show A.depth+3*k+5<_;omega,by have:=r.un;show A.units+1+16*k+200<_;omega⟩
theorem Room.depth{k:Nat}{A:Around}(r:Room k A):A.depth<recursionLimit:=by have:=r.dp;omega
theorem Room.units{k:Nat}{A:Around}(r:Room k A):A.units+64<cLine:=by have:=r.un;omega
theorem Room.units0{k:Nat}{A:Around}(r:Room k A):A.units<cLine:=by have:=r.un;omega
def w25:TA:=fun _ H Q=>Q [] H
def x5J(ta:TE)(tr:TA):TA:=fun σ H Q=>ta σ H fun x H1=>tr σ H1 fun xs H2=>Q (x::xs) H2
section
variable{X:Cx}{e:Expr}{es:List Expr}{te:TE}{t:TA}{pos:Pos}
theorem W4:PA X [] w25:=fun _ _ _ _ H Q I h=>Calls.spliced_nil ⟨[],H,I,.nil,h⟩
theorem J9(ha:PE X e te)(hr:PA X es t)(hs:starEach (e::es) X.env=(false,eval e X.env)::starEach es X.env:=by rfl):PA X (e::es) (x5J te t):=by
 intro pos pins s σ H Q I h;rw[hs]
 show wpAny _ _ (spliced ((false,eval e X.env)::backTo pos (starEach es X.env))) _ _ s
 refine Calls.spliced_cons (thn (ha pins s σ H _ I h) fun u s1 ⟨x,H1,I1,r1,q1⟩=>?_)
 exact thn (hr pos pins s1 σ H1 _ I1 q1) fun us s2 ⟨xs,H2,I2,r2,q2⟩=>⟨x::xs,H2,I2,.cons r1 r2,q2⟩
def w3X(t:TA):TE:=fun σ H Q=>t σ H fun xs H1=>xs.length≤sizeLine/\∀p,H1 p=none->Q (.ref p) (upd H1 p (.tup xs))
def w41(t:TA):TE:=fun σ H Q=>t σ H fun xs H1=>xs.length≤sizeLine/\∀p,H1 p=none->Q (.ref p) (upd H1 p (.lst xs))
theorem w0U{x1}(h:PA X es t):PE X (.Tuple es x1 pos) (w3X t):=by
 intro pins s σ H Q I hq
 refine wpAny_Tuple_spliced (thn (h pos pins s σ H _ I hq) fun us s1 ⟨xs,H1,I1,r,z,q⟩=>⟨by rw[←r.length];exact z,?_⟩)
 have hf:H1 s1.heap.objs.size=none:=I1.hok.fresh (Nat.le_refl _)
 refine⟨.ref s1.heap.objs.size,upd H1 s1.heap.objs.size (.tup xs),I1.laid (t':=s1.toks) (fun b u e=>Heap.get?_push_of_some _ e) (Nat.le_refl _) ?_,rfl,q _ hf⟩
 exact⟨z,us,r,⟨_,Heap.get?_push_size _ rfl,rfl,⟨_,rfl⟩,rfl⟩⟩
theorem w10(h:PA X es t):PE X (.List es pos) (w41 t):=by
 intro pins s σ H Q I hq
 refine wpAny_List_spliced (thn (h pos pins s σ H _ I hq) fun us s1 ⟨xs,H1,I1,r,z,q⟩=>⟨by rw[←r.length];exact z,?_⟩)
 have hf:H1 s1.heap.objs.size=none:=I1.hok.fresh (Nat.le_refl _)
 refine⟨.ref s1.heap.objs.size,upd H1 s1.heap.objs.size (.lst xs),I1.laid (t':=s1.toks) (fun b u e=>Heap.get?_push_of_some _ e) (Nat.le_refl _) ?_,rfl,q _ hf⟩
 exact⟨z,us,0,r,Heap.get?_push_size _ rfl⟩
end
abbrev Sp:=List V->Hp->VK->XK->Prop
abbrev CXT:=List Env->Hp->Shared->XK->Value->Shared->Prop
structure Env0(P:Program)(w:World)(K:PySem.W.Frag)(mg:Str->Option Value)(base:Heap)(A:Around)(outer:List Env)(s:Shared)(H:Hp):Prop where
 frames:A.frames=some outer
 mod:Mod K mg base
 bs:∀b o,base.get? b=some o->s.heap.get? b=some o/\H b=none
 bsz:base.objs.size≤s.heap.objs.size
 funs:s.heap.FunFrames base outer
 frf:∀b∈frs outer,H b=none
 hok:HOk P w H s.heap
 bare:AllBare s.gens
def CE(outer:List Env)(P:Program)(w:World)(H:Hp)(s:Shared)(Q:VK)(u:Value)(s':Shared):Prop :=
 ∃v H',s'.os=s.os/\AllBare s'.gens/\Un (frs outer) [] H H' s.heap s'.heap/\HOk P w H' s'.heap/\W3 v u/\Q v H'
def CR(CX:CXT)(outer:List Env)(P:Program)(w:World)(H:Hp)(s:Shared)(Q:VK)(E:XK)(r:Result)(s':Shared):Prop :=
 match r with
 | .ok (.ret u)=>CE outer P w H s Q u s'
 | .ok _=>False
 | .error e=>CX outer H s E e s'
structure FnOk(P:Program)(w:World)(K:PySem.W.Frag)(mg:Str->Option Value)(base:Heap)(CX:CXT)(k:Nat)(f:Addr)(fd:FuncData)(ps:List Str)(sp:Sp):Prop where
 len:∀vs H Q E,sp vs H Q E->vs.length=ps.length
 run:∀(A:Around) (outer:List Env) (s:Shared) (H:Hp) (args:Args) (us:List Value) (vs:List V) (Q:VK) (E:XK),Room k A->Env0 P w K mg base A outer s H->BindsTo s fd args (ps.zip us)->Q4 vs us->sp vs H Q E ->
  codeAny (model P w) A (.call (.ref f) args) (CR CX outer P w H s Q E) s
theorem FnOk.mono{P:Program}{w:World}{K:PySem.W.Frag}{mg:Str->Option Value}{base:Heap}{CX:CXT}{j k:Nat}{f:Addr}{fd:FuncData}{ps:List Str}{sp:Sp}(F:FnOk P w K mg base CX j f fd ps sp)(h:j≤k) :
  FnOk P w K mg base CX k f fd ps sp:=⟨F.len,fun A outer s H args us vs Q E hr=>F.run A outer s H args us vs Q E (hr.mono h)⟩
section
variable{X:Cx}{pins:List (Addr×Obj)}{σ:St}{H:Hp}{s s':Shared}
theorem Inv.env0(I:Inv X pins σ H s):Env0 X.prog X.w X.K X.mg X.base X.A X.stack s H :=
 ⟨I.ok.frames,I.ok.mod,I.bs,Nat.le_trans I.ok.bsz I.sz,I.stack,I.stkFree,I.hok,I.bare⟩
theorem Inv.after{Q:VK}{u:Value}(I:Inv X pins σ H s)(h:CE X.stack X.prog X.w H s Q u s'):EP X pins σ Q u s':=by
 obtain⟨v,H',os,bare,un,hok,r,q⟩:=h;obtain⟨hh,g,d,t,os'⟩:=s'
 obtain rfl:os'=s.os:=os
 exact⟨v,H',I.call (h':=hh) (g':=g) (d':=d) (t':=t) (ch:=[]) un hok bare (fun b z=>absurd z (by simp)),r,q⟩
end
def w29(sp:Sp)(dvs:List V)(E:XK)(t:TA):TE:=fun σ H Q=>t σ H fun vs H1=>sp (vs++dvs) H1 Q E
def y4W(K:PySem.W.Frag)(fd:FuncData)(ps:List Str)(ds:List Value):Prop :=
 ∀(s:Shared) (us:List Value),K.In s.heap->(us++ds).length=ps.length->BindsTo s fd ⟨us,[]⟩ (ps.zip (us++ds))
theorem y4W.all{K:PySem.W.Frag}{fd:FuncData}{ps:List Str}(h:∀us:List Value,us.length=ps.length->bindArgs fd ⟨us,[]⟩=pure (ps.zip us)):y4W K fd ps []:=fun s us _ hl=>by
 rw[List.append_nil]at hl ⊢;exact .of_eq (h us hl)
def x1O(CX:CXT)(X:Cx)(E:XK):Prop:=∀(pins:List (Addr×Obj)) (σ:St) (H:Hp) (s:Shared) (e:Value) (s':Shared),Inv X pins σ H s->CX X.stack H s E e s'->X.xe e s'
section
variable{X:Cx}{CX:CXT}{k:Nat}{f C:Addr}{fd:FuncData}{ps:List Str}{sp:Sp}{dvs:List V}{ds:List Value}{E:XK}{x m:Str}{p pos apos:Pos}{e o:Expr}{es:List Expr}{ta:TE}{t:TA}
theorem w05{pins:List (Addr×Obj)}{σ:St}{H:Hp}{s:Shared}{Q:VK}{us:List Value}{vs:List V}(F:FnOk X.prog X.w X.K X.mg X.base CX k f fd ps sp)(hr:Room k X.A)(hb:y4W X.K fd ps ds)(hd:Q4 dvs ds)(hx:x1O CX X E)(I:Inv X pins σ H s)(r:Q4 vs us)(h:sp (vs++dvs) H Q E):wpAny (model X.prog X.w) X.A (call (.ref f) us) (EP X pins σ Q) X.xe s:=by
 have r2:Q4 (vs++dvs) (us++ds):=r.append hd
 have hl:(us++ds).length=ps.length:=by rw[←r2.length];exact F.len _ _ _ _ h
 refine wpAny_call (codeAny_mono (F.run X.A X.stack s H ⟨us,[]⟩ (us++ds) (vs++dvs) Q E hr I.env0 (hb s us I.kIn hl) r2 h) fun r s' hq=>?_)
 cases r with
 | error e=>exact hx pins σ H s e s' I hq
 | ok fl =>
  cases fl with
  | ret u=>exact I.after hq
  | next=>exact False.elim hq
  | brk=>exact False.elim hq
  | cont=>exact False.elim hq
theorem x72(F:FnOk X.prog X.w X.K X.mg X.base CX k f fd ps sp)(hr:Room k X.A)(hg:Gl X x)(hm:X.mg x=some (.ref f))(hk:PySem.W.keepIn X.K (.ref f)=true)(hb:y4W X.K fd ps ds)(hd:Q4 dvs ds)(hx:x1O CX X E)(ha:PA X (e::es) t)(hdb:(x==("__debug__":Str))=false:=by decide)(he:starEach (e::es) X.env=(false,eval e X.env)::starEach es X.env:=by rfl)(hpl:(backTo pos (starEach es X.env)).any (·.1)=false:=by rfl) :
  PE X (.Call (.Name x p) (e::es) [] pos) (w29 sp dvs E t):=by
 intro pins s σ H Q I h;refine wpAny_Call_Name_kw (x08 I hg hm ?_ hdb)
 refine PySem.W.callWith_K (h₀:=X.base) I.ok.mod.kin hk (thn (ha pos pins s σ H _ I h) fun us s1 ⟨vs,H1,I1,r,q⟩=>⟨I1.kIn,?_⟩) he hpl
 exact w05 F hr hb hd hx I1 r q
end
structure FnScope(N P:List Str)(sc:Scope):Prop where
 kind:sc.kind = .function
 co:sc.isCoroutine=false
 gen:sc.isGenerator=false
 nd:N.Nodup
 pre:N.take P.length=P
 par:∀x∈P,sc.names.lookup x=some .local∨sc.names.lookup x=some .cell
 nofree:∀y∈sc.names,y.2≠.free
theorem y37{kindOf:Str->Option NameKind}{x:Str}:∀{binds:List (Str×Value)} {m:Str->Option Value},(∀v,(x,v)∉binds)->bindL kindOf binds m x=m x
 | [],_,_=>rfl
 | (n,v)::r,m,h=>by
  unfold bindL
  rw[y37 fun w hw=>h w (List.mem_cons_of_mem _ hw)]
  split
  ·have:x≠n:=by rintro rfl;exact h v List.mem_cons_self
   simp[this]
  ·rfl
theorem y39{kindOf:Str->Option NameKind}{x:Str}:∀{binds:List (Str×Value)} {m:Str->Option Value},(∀v,(x,v)∉binds)->bindC kindOf binds m x=m x
 | [],_,_=>rfl
 | (n,v)::r,m,h=>by
  unfold bindC
  rw[y39 fun w hw=>h w (List.mem_cons_of_mem _ hw)]
  split
  ·rfl
  ·have:x≠n:=by rintro rfl;exact h v List.mem_cons_self
   simp[this]
theorem y38{kindOf:Str->Option NameKind}{x:Str}{v:Value}:∀{P:List Str} {vs:List Value} {i:Nat} {m:Str->Option Value},P.Nodup->P[i]?=some x->vs[i]?=some v->kindOf x=some .local ->
  bindL kindOf (P.zip vs) m x=some v
 | [],_,_,_,_,h,_,_=>by simp at h
 | _::_,[],_,_,_,_,h,_=>by simp at h
 | p::P,w::vs,0,m,nd,h1,h2,hk=>by
  simp at h1 h2;subst h1;subst h2
  show bindL kindOf ((p,w)::P.zip vs) m p=_
  unfold bindL
  rw[y37 fun v hv=>(List.nodup_cons.mp nd).1 (List.of_mem_zip hv).1,if_pos hk]
  simp
 | p::P,w::vs,i+1,m,nd,h1,h2,hk=>by
  show bindL kindOf ((p,w)::P.zip vs) m x=_
  unfold bindL
  exact y38 (i:=i) (List.nodup_cons.mp nd).2 (by simpa using h1) (by simpa using h2) hk
theorem y3A{kindOf:Str->Option NameKind}{x:Str}{v:Value}:∀{P:List Str} {vs:List Value} {i:Nat} {m:Str->Option Value},P.Nodup->P[i]?=some x->vs[i]?=some v->kindOf x≠some .local ->
  bindC kindOf (P.zip vs) m x=some v
 | [],_,_,_,_,h,_,_=>by simp at h
 | _::_,[],_,_,_,_,h,_=>by simp at h
 | p::P,w::vs,0,m,nd,h1,h2,hk=>by
  simp at h1 h2;subst h1;subst h2
  show bindC kindOf ((p,w)::P.zip vs) m p=_
  unfold bindC
  rw[y39 fun v hv=>(List.nodup_cons.mp nd).1 (List.of_mem_zip hv).1,if_neg hk]
  simp
 | p::P,w::vs,i+1,m,nd,h1,h2,hk=>by
  show bindC kindOf ((p,w)::P.zip vs) m x=_
  unfold bindC
  exact y3A (i:=i) (List.nodup_cons.mp nd).2 (by simpa using h1) (by simpa using h2) hk
def start(N:List Str)(vs:List V):St:=vs.map some++List.replicate (N.length-vs.length) none
def z47(CX:CXT)(P:Program)(w:World)(K:PySem.W.Frag)(mg:Str->Option Value)(base:Heap)(N:List Str)(qual:Str)(scope:Scope)(f:Addr)(cd:Value)(A:Around)(outer:List Env)(s:Shared)(H:Hp)(E:XK):Cx where
 prog:=P
 w:=w
 K:=K
 mg:=mg
 base:=base
 A:=A.deeper (envOfC qual scope s.heap.objs.size f cd)
 N:=N
 s₀:=s
 H₀:=H
 env:=envOfC qual scope s.heap.objs.size f cd
 outer:=outer
 stack:=envOfC qual scope s.heap.objs.size f cd::outer
 ex:=[]
 calm:=true
 fn:=fun _=>true
 pn:=[]
 xe:=fun e s'=>wpAny (model P w) (A.deeper (envOfC qual scope s.heap.objs.size f cd)) (leaving (envOfC qual scope s.heap.objs.size f cd) e) (fun _ s''=>CX outer H s E e s'') (fun e' s''=>CX outer H s E e' s'') s'
theorem y6I{sc:Scope}{n:Nat}{x:Str}(h:sc.names.lookup x=some .cell):∃c,(cellsFrom n sc.names []).lookup x=some c:=by
 have q:=PySem.W.cellsFrom_some sc.names n [] (.inl h);exact Option.isSome_iff_exists.mp q
theorem x0J{CX:CXT}{P:Program}{w:World}{K:PySem.W.Frag}{mg:Str->Option Value}{base:Heap}{N ps:List Str}{qual:Str}{scope:Scope}{f:Addr}{cd:Value}{A:Around}{outer:List Env}{s s1:Shared}{H:Hp}{E:XK}{us:List Value}{vs:List V}(S:FnScope N ps scope)(hd:A.handled=none)(e0:Env0 P w K mg base A outer s H)(hl:vs.length=ps.length)(r:Q4 vs us)(x:InCallC s s.heap.objs.size (bindL (envOfC qual scope s.heap.objs.size f cd).kindOf (ps.zip us) fun _=>none) (cellsFrom (s.heap.objs.size+1) scope.names []) (bindC (envOfC qual scope s.heap.objs.size f cd).kindOf (ps.zip us) fun _=>none) s1) :
  Inv (z47 CX P w K mg base N qual scope f cd A outer s H E) [] (start N vs) H s1:=by
 have hpl:ps.length≤N.length:=by have:=congrArg List.length S.pre;rw[List.length_take]at this;omega
 obtain⟨h1,tk,rfl,hk⟩:=x.done
 have noA:∀b:Addr,b∉(z47 CX P w K mg base N qual scope f cd A outer s H E).ex:=fun b z=>absurd (show b∈([]:List Addr) from z) (by simp)
 refine⟨⟨e0.mod,S.kind,rfl,rfl,Nat.le_refl _,fun y z c h1 h2=>?_,fun y hy=>?_,fun y c _ h=>?_,fun _=>hd,Around.frames_deeper e0.frames,.inr ⟨rfl,rfl⟩,fun b z=>absurd z (noA b),e0.bs,e0.bsz,fun b _ _=>noA b,fun b z=>absurd z (noA b),e0.funs,e0.frf⟩,
  rfl,e0.bare,Un.kept hk,⟨_,x.toInCall.ns,fun i y v h1 h2 h3=>?_⟩,fun y c h=>⟨_,x.cell y c h⟩,e0.hok.fresh (Nat.le_refl _),fun y c h=>?_,fun p hp=>absurd (show p∈([]:List (Addr×Obj)) from hp) (by simp),e0.hok.kept hk,?_⟩
 ·exact name_of_addr x.apart (PySem.mem_of_lookup h1) (PySem.mem_of_lookup h2)
 ·have hy:scope.names.lookup y=some .cell∨scope.names.lookup y=some .free:=hy
  rcases hy with hy|hy
  ·exact y6I hy
  ·exact absurd rfl (S.nofree _ (PySem.mem_of_lookup hy))
 ·exact Nat.le_of_lt (x.above y c (PySem.mem_of_lookup h))
 ·have hi:i<vs.length:=by
   unfold start at h2;by_cases hi:i<vs.length
   ·exact hi
   ·rw[List.getElem?_append_right (by simpa using hi)]at h2
    rw[List.getElem?_replicate]at h2
    split at h2<;>cases h2
  have ha:vs[i]?=some v:=by
   unfold start at h2
   rw[List.getElem?_append_left (by simpa using hi),List.getElem?_map]at h2
   cases e:vs[i]? with
   | none=>rw[e]at h2;cases h2
   | some a=>rw[e]at h2;cases h2;rfl
  obtain⟨u,hu,rv⟩:=r.get ha
  have hp:ps[i]?=some y:=by
   rw[←S.pre,List.getElem?_take_of_lt (by omega)];exact h1
  have ndP:ps.Nodup:=by rw[←S.pre];exact S.nd.sublist (List.take_sublist _ _)
  refine⟨u,rv,?_⟩
  rcases S.par y (List.mem_of_getElem? hp) with k|k
  ·exact .inl ⟨k,y38 ndP hp hu k⟩
  ·obtain⟨c,e⟩:=y6I (n:=s.heap.objs.size+1) k;refine .inr ⟨.inl k,c,e,?_⟩;have q:=x.cell y c e
   rw[y3A ndP hp hu (by show scope.names.lookup y≠_;rw[k];decide)]at q
   exact q
 ·exact e0.hok.fresh (Nat.le_of_lt (x.above y c (PySem.mem_of_lookup h)))
 ·unfold start
  show _=N.length
  rw[List.length_append,List.length_map,List.length_replicate];omega
theorem w1Q{CX:CXT}{P:Program}{w:World}{K:PySem.W.Frag}{mg:Str->Option Value}{base:Heap}{k:Nat}{f:Addr}{name qual:Str}{params:Arguments}{body:List Stmt}{scope:Scope}{dV kV doc pm cdv ct oc:Value}{an od:Option Addr}{osl:Array (Option Value)}{N ps:List Str}{sp:Sp}(lk:K.lookup f=some ⟨oc,od,.func (PySem.W.fnOf name qual params body scope dV kV doc pm an cdv ct),osl⟩)(hcd:PySem.W.codeIn K cdv qual=true)(S:FnScope N ps scope)(len:∀vs H Q E,sp vs H Q E->vs.length=ps.length)
  (hbody:∀(A:Around) (outer:List Env) (s:Shared) (H:Hp) (vs:List V) (Q:VK) (E:XK),Room k (A.deeper (envOfC qual scope s.heap.objs.size f cdv))->sp vs H Q E ->
   ∃t,PSs (z47 CX P w K mg base N qual scope f cdv A outer s H E) body t/\t { nx:=fun _ H'=>Q .non H',rt:=Q } (start N vs) H) :
  FnOk P w K mg base CX (k+1) f (PySem.W.fnOf name qual params body scope dV kV doc pm an cdv ct) ps sp:=by
 refine⟨len,fun A outer s H args us vs Q E hr e0 hb r hsp=>?_⟩
 have hl:=len _ _ _ _ hsp
 have KX:K.In s.heap:=e0.mod.kin.keeps fun b o e=>(e0.bs b o e).1
 have lim:s.heap.NoLimit:=e0.mod.nolimit.keeps fun b o e=>(e0.bs b o e).1
 have hkind:∀y∈ps.zip us,scope.names.lookup y.1=some .local∨(scope.names.lookup y.1=some .cell/\((cellsFrom (s.heap.objs.size+1) scope.names []).lookup y.1).isSome=true):=fun ⟨n,v⟩ hy=>by
  rcases S.par n (List.of_mem_zip hy).1 with q|q
  ·exact .inl q
  ·exact .inr ⟨q,PySem.W.cellsFrom_some _ _ _ (.inl q)⟩
 refine codeAny_call_function hr.depth (KX _ _ lk) rfl S.co S.gen rfl (PySem.W.codeRec_of KX hcd) (hb _ _ _ _ ?_)
 refine wpAny_newFunctionEnv_cells S.kind hkind fun env he s1 x=>?_
 subst he
 refine⟨lim.keeps x.toInCall.keep,codeAny_func ?_⟩
 obtain⟨t,ht,hq⟩:=hbody A outer s H vs Q E (hr.deeper _) hsp;have I:Inv (z47 CX P w K mg base N qual scope f cdv A outer s H E) [] (start N vs) H s1:=x0J S hr.hd e0 hl r x
 refine wpAny_mono (ht [] s1 (start N vs) H _ I hq) (fun fl s' hs=>?_) fun e s' hs=>hs
 have fin:∀{σ':St} {H':Hp} {v:V} {u:Value},Inv (z47 CX P w K mg base N qual scope f cdv A outer s H E) [] σ' H' s'->W3 v u->Q v H'->CE outer P w H s Q u s' :=
  fun {σ' H' v u} J rv q=>⟨v,H',J.os,J.bare,J.base,J.hok,rv,q⟩
 cases fl with
 | ret u =>
  obtain⟨v,σ',H',J,rv,q⟩:=hs;exact fin J rv q
 | next =>
  obtain⟨σ',H',J,q⟩:=hs;exact fin (v:=V.non) (u:=Value.none) J rfl q
 | brk =>
  obtain⟨_,_,_,q⟩:=hs;exact False.elim q
 | cont =>
  obtain⟨_,_,_,q⟩:=hs;exact False.elim q
section
variable{X:Cx}{x:Str}{p pos:Pos}{e:Expr}{es:List Expr}{t:TA}{id T:String}{r:List V->Hp->VK->Prop}
def tCB(r:List V->Hp->VK->Prop)(t:TA):TE:=fun σ H Q=>t σ H fun vs H1=>r vs H1 Q
theorem z20(hc:z0Y X (.builtin id) r)(hg:Gl X x)(hm:X.mg x=none)(hv:bootBuiltins x=some (.builtin id))(ha:PA X (e::es) t)(hn:x≠"__name__":=by decide)(hdb:(x==("__debug__":Str))=false:=by decide)(he:starEach (e::es) X.env=(false,eval e X.env)::starEach es X.env:=by rfl)(hpl:(backTo pos (starEach es X.env)).any (·.1)=false:=by rfl):PE X (.Call (.Name x p) (e::es) [] pos) (tCB r t):=by
 intro pins s σ H Q I h;refine wpAny_Call_Name_kw (z3N I hg hm hv ?_ hn hdb)
 exact PyProof.Rows.callWith_builtin1 (thn (ha pos pins s σ H _ I h) fun us s1 ⟨vs,H1,I1,r1,q1⟩=>hc pins s1 σ H1 vs us Q I1 r1 q1) he hpl
theorem z1O(hc:z0Y X (.type T) r)(hg:Gl X x)(hm:X.mg x=none)(hv:bootBuiltins x=some (.type T))(ha:PA X (e::es) t)(hn:x≠"__name__":=by decide)(hdb:(x==("__debug__":Str))=false:=by decide)(he:starEach (e::es) X.env=(false,eval e X.env)::starEach es X.env:=by rfl)(hpl:(backTo pos (starEach es X.env)).any (·.1)=false:=by rfl):PE X (.Call (.Name x p) (e::es) [] pos) (tCB r t):=by
 intro pins s σ H Q I h;refine wpAny_Call_Name_kw (z3N I hg hm hv ?_ hn hdb)
 exact PyProof.Rows.callWith_type1 (thn (ha pos pins s σ H _ I h) fun us s1 ⟨vs,H1,I1,r1,q1⟩=>hc pins s1 σ H1 vs us Q I1 r1 q1) he hpl
end
end L2
namespace HT
open PySem PyProof.Rows
def lexLt:List Int->List Int->Bool
 | [],[]=>false
 | [],_::_=>true
 | _::_,[]=>false
 | x::xs,y::ys=>if x=y then lexLt xs ys else decide (x<y)
theorem lexLt_cons(x y:Int)(xs ys:List Int):lexLt (x::xs) (y::ys)=if x=y then lexLt xs ys else decide (x<y):=rfl
theorem lexLt_nil_nil:lexLt [] []=false:=rfl
theorem z4G(y:Int)(ys:List Int):lexLt [] (y::ys)=true:=rfl
theorem z4H(x:Int)(xs:List Int):lexLt (x::xs) []=false:=rfl
theorem y6F(A:Around)(s:Shared)(a:Int)(t:Tok)(c:Int)(u:Tok):∃e,SeqAt.EqAt A s (.int a t) (.int c u) e/\(e=true↔a=c) :=
 ⟨(a==c),SeqAt.EqAt.int_int a t c u,by simp⟩
theorem x2Q(A:Around)(s:Shared)(a:Int)(t:Tok)(c:Int)(u:Tok)(prog:Program)(w:World)(E:Value->Shared->Prop)(Q:Value->Shared->Prop)(h:Q (.bool (decide (a<c))) s) :
  wpAny (model prog w) A (richCompare .Lt (.int a t) (.int c u)) Q E s :=
 (PyProof.Rows.lt_int h:wpAny (model prog w) A (compareOp .Lt (.int a t) (.int c u)) Q E s)
section
open PySem.SeqAt
open PySem.AutoSeq1 (wpAny_loadPart')
open PySem.MeetsSeq PySem.MeetsSeq2 PySem.MeetsSeq3
theorem y0C(l b:Addr)(items items2:Array Value)(n n2:Nat)(dd dd2:Option Addr)(sl sl2:Array (Option Value))(ns ms:List Int)(hi:IntsAre items.toList ns)(hj:IntsAre items2.toList ms) :
  Meets (Builtin.«tuple.__lt__» ⟨[.ref l,.ref b],[]⟩)
   (fun _ R s=>s.heap.get? l=some { cls:=.type "tuple",dict:=dd,data:=.seq items n,slots:=sl }/\s.heap.get? b=some { cls:=.type "tuple",dict:=dd2,data:=.seq items2 n2,slots:=sl2 } /\
    R (.ok (.ret (.bool (lexLt ns ms)))) s) :=
 .of_wp fun prog w A R s h=>by
  obtain⟨hp,g,d,tk,os⟩:=s;obtain⟨hl,hb,h⟩:=h;have f2:=AutoSeq1.sub_tuple_tuple
  have z1:items.size=ns.length:=by rw[←hi.length];simp
  have z2:items2.size=ms.length:=by rw[←hj.length];simp
  wp_walk using wpAny_loadPart' hl,wpAny_loadPart' hb,wpAny_forIn_list _ (fun rest b s'=>b.1=none/\s'=⟨hp,g,d,tk,os⟩/\∃(vs ws:List Value) (ns' ms':List Int),rest=vs.zip ws /\
   IntsAre vs ns'/\IntsAre ws ms'/\ns'.length+items2.size=ms'.length+items.size/\R (.ok (.ret (.bool (lexLt ns' ms')))) ⟨hp,g,d,tk,os⟩) _
  case turn =>
   rintro ⟨y,x⟩ rest b s' ⟨hb',rfl,vs,ws,ns',ms',hz,hvi,hwi,hlen,hR⟩
   cases hvi with
   | nil=>rw[List.zip_nil_left]at hz;cases hz
   | cons a t hvi' =>
    cases hwi with
    | nil=>rw[List.zip_nil_right]at hz;cases hz
    | cons c u hwi' =>
     rw[List.zip_cons_cons]at hz
     injection hz with hyx hrest
     injection hyx with hy hx
     subst hy hx
     rw[lexLt_cons]at hR;simp only[List.length_cons]at hlen;obtain⟨e,he,hiff⟩:=y6F A.in1 ⟨hp,g,d,tk,os⟩ a t c u;refine wpAny_bind (he prog w _ _ ?_)
     cases e with
     | true =>
      rw[if_pos (hiff.mp rfl)]at hR
      wp_walk
      exact⟨rfl,rfl,_,_,_,_,hrest,hvi',hwi',by omega,hR⟩
     | false =>
      rw[if_neg (fun q=>absurd (hiff.mpr q) Bool.false_ne_true)]at hR
      have hri:=x2Q A.in1 ⟨hp,g,d,tk,os⟩ a t c u prog w
      wp_walk using hri
      exact⟨_,rfl,by simpa using hR⟩
  case fin =>
   rintro ⟨b1,b2⟩ s' ⟨hb',rfl,vs,ws,ns',ms',hz,hvi,hwi,hlen,hR⟩
   simp only at hb'
   subst hb'
   have hv:lexLt ns' ms'=decide (items.size<items2.size):=by
    cases hvi with
    | nil =>
     cases hwi with
     | nil =>
      simp only[List.length_nil]at hlen;rw[lexLt_nil_nil]
      exact (decide_eq_false (by omega)).symm
     | cons c u hw =>
      simp only[List.length_nil,List.length_cons]at hlen;rw[z4G]
      exact (decide_eq_true (by omega)).symm
    | cons a t hv =>
     cases hwi with
     | nil =>
      simp only[List.length_nil,List.length_cons]at hlen;rw[z4H]
      exact (decide_eq_false (by omega)).symm
     | cons c u hw =>
      rw[List.zip_cons_cons]at hz;cases hz
   rw[hv]at hR
   wp_walk
   exact⟨_,rfl,by simpa [Builtin.Tuple.tupleCompareSizes] using hR⟩
  case h =>
   exact⟨rfl,rfl,items.toList,items2.toList,ns,ms,rfl,hi,hj,by omega,h⟩
end
section
variable{prog:Program}{w:World}{A:Around}{E:Value->Shared->Prop}{s:Shared}
theorem lt_tupInts{l b:Addr}{items items2:Array Value}{ns ms:List Int}{Q:Value->Shared->Prop}(hl:IsTup s.heap l items)(hb:IsTup s.heap b items2)(hi:IntsAre items.toList ns)(hj:IntsAre items2.toList ms)(hu:A.units<cLine)(h:Q (.bool (lexLt ns ms)) s):wpAny (model prog w) A (compareOp .Lt (.ref l) (.ref b)) Q E s:=by
 obtain⟨⟨cls,dd,data,sl⟩,ho,hc,n,hd⟩:=id hl;obtain⟨⟨cls2,dd2,data2,sl2⟩,ho2,hc2,n2,hd2⟩:=id hb;simp only at hc hd hc2 hd2
 subst hc hd hc2 hd2
 exact richCompare_meets_room (op:=.Lt) ⟨_,ho,rfl⟩ ⟨_,ho2,rfl⟩ PySem.F.slot_tuple_lt PySem.F.entry_tuple_lt (PySem.F.args_tuple_lt_2 _ _) (y0C l b items items2 n n2 dd dd2 sl sl2 ns ms hi hj)
  ⟨ho,ho2,show Value.bool (lexLt ns ms)≠Value.notImplemented/\Q (.bool (lexLt ns ms)) s from ⟨(fun x=>nomatch x),h⟩⟩ hu
theorem cat_tup{t b:Addr}{vs ws:List Value}{Q:Value->Shared->Prop}(ht:IsTup s.heap t vs.toArray)(hb:IsTup s.heap b ws.toArray)(hv:vs≠[])(h1:ws=[]->Q (.ref t) s)(h2:ws≠[]->Q (.ref s.heap.objs.size) { s with heap:=s.heap.push { cls:=.type "tuple",data:=.seq (vs++ws).toArray } })(hsz:vs.length+ws.length≤sizeLine):wpAny (model prog w) A (binaryOp .Add (.ref t) (.ref b)) Q E s:=by
 obtain⟨⟨cls,dd,data,sl⟩,ho,hc,n,hd⟩:=id ht;obtain⟨⟨cls2,dd2,data2,sl2⟩,ho2,hc2,n2,hd2⟩:=id hb;simp only at hc hd hc2 hd2
 subst hc hd hc2 hd2
 have e:vs.toArray++ws.toArray=(vs++ws).toArray:=by simp
 by_cases hw:ws=[]
 ·exact concat_meets ⟨_,ho,rfl⟩ ⟨_,ho2,rfl⟩ noFill_tuple_add seq_tuple_add PySem.F.slot_tuple_add PySem.F.entry_tuple_add (PySem.F.args_tuple_add_2 _ _)
   (tuple_addW1 t b vs.toArray ws.toArray n n2 dd dd2 sl sl2 (by simpa using hv) (by simp[hw])) ⟨ho,ho2,h1 hw⟩
 ·refine concat_meets ⟨_,ho,rfl⟩ ⟨_,ho2,rfl⟩ noFill_tuple_add seq_tuple_add PySem.F.slot_tuple_add PySem.F.entry_tuple_add (PySem.F.args_tuple_add_2 _ _)
   (tuple_addW2 t b vs.toArray ws.toArray n n2 dd dd2 sl sl2 (by simpa using hv) (by simpa using hw) (by rw[List.size_toArray,List.size_toArray];exact hsz)) ⟨ho,ho2,?_⟩
  rw[e];exact h2 hw
def sIx(n d:Nat):Option Int->Nat
 | none=>d
 | some v=>if v<0 then (v+(n:Int)).toNat else min v.toNat n
theorem sIx_none(n d:Nat):sIx n d none=d:=rfl
theorem sIx_nat(n d k:Nat):sIx n d (some (k:Int))=min k n:=by
 show (if (k:Int)<0 then ((k:Int)+(n:Int)).toNat else min (k:Int).toNat n)=min k n
 rw[if_neg (by omega),Int.toNat_natCast]
theorem w04(n d:Nat)(hd:d≤n)(o:Option Int):sIx n d o≤n:=by
 cases o with
 | none=>exact hd
 | some v =>
  show (if v<0 then (v+(n:Int)).toNat else min v.toNat n)≤n
  by_cases hv:v<0
  ·rw[if_pos hv];omega
  ·rw[if_neg hv];exact Nat.min_le_right _ _
theorem x1A(v:Int)(n d:Nat):(if v<0 then max (v+(n:Int)) 0 else min v (n:Int))=((sIx n d (some v):Nat):Int):=by
 show (if v<0 then max (v+(n:Int)) 0 else min v (n:Int))=(((if v<0 then (v+(n:Int)).toNat else min v.toNat n):Nat):Int)
 by_cases hv:v<0
 ·simp only[if_pos hv];omega
 ·simp only[if_neg hv];omega
theorem y84(lo hi:Option Int)(n:Nat):Builtin.Slice.sliceAdjust lo hi 1 (n:Int)=(((sIx n 0 lo:Nat):Int),((sIx n n hi:Nat):Int)):=by
 have h1:¬((1:Int)<0):=by omega
 unfold Builtin.Slice.sliceAdjust;simp only[h1,if_false];refine Prod.ext ?_ ?_
 ·cases lo with
  | none=>rfl
  | some v=>exact x1A v n 0
 ·cases hi with
  | none=>rfl
  | some v=>exact x1A v n n
theorem y75(i j:Nat):Builtin.Slice.slicePlaces (i:Int) (j:Int) 1=j-i:=by
 unfold Builtin.Slice.slicePlaces
 have h1:(1:Int)>0:=by omega
 simp only[h1,if_true,Int.ediv_one]
 split<;>omega
theorem z9J{v:Value}{o:Option Int}{Q:Option Int->Shared->Prop}(p:IsPart v o)(h:Q o s):wpAny (model prog w) A (Builtin.Slice.slicePartIndex v) Q E s:=by
 cases p with
 | none=>exact slicePart_none h
 | int i t=>exact slicePart_int h
theorem z6Z{sl:Addr}{vl vu:Value}{lo hi:Option Int}{n:Nat}{Q:Int×Int×Nat->Shared->Prop}(hs:s.heap.IsSliceOf sl vl vu .none)(pl:IsPart vl lo)(pu:IsPart vu hi)(h:Q (((sIx n 0 lo:Nat):Int),1,sIx n n hi-sIx n 0 lo) s):wpAny (model prog w) A (Builtin.Slice.sliceApplied (.ref sl) (pure (n:Int))) Q E s:=by
 obtain⟨os,hos,hcs,hds⟩:=id hs;unfold Builtin.Slice.sliceApplied Builtin.Slice.sliceFields;refine wpAny_bind (wpAny_bind (wpAny_field hos hds (x:=vl) rfl (wpAny_bind (wpAny_field hos hds (x:=vu) rfl (wpAny_bind (wpAny_field hos hds (x:=.none) rfl (wpAny_pure ?_)))))));refine wpAny_bind (slicePart_none ?_)
 show wpAny _ _ (if ((1:Int)==0)=true then _ else _) _ _ s
 rw[if_neg (by decide)]
 refine wpAny_bind (z9J pl (wpAny_bind (z9J pu (wpAny_bind (wpAny_pure ?_)))))
 show wpAny _ _ (match Builtin.Slice.sliceAdjust lo hi 1 (n:Int) with|(lo,hi)=>pure (lo,(1:Int),Builtin.Slice.slicePlaces lo hi 1)) _ _ s
 rw[y84 lo hi n]
 show wpAny _ _ (pure (((sIx n 0 lo:Nat):Int),(1:Int),Builtin.Slice.slicePlaces ((sIx n 0 lo:Nat):Int) ((sIx n n hi:Nat):Int) 1)) _ _ s
 rw[y75];exact wpAny_pure h
theorem x2Y(xs:Array Value)(i k:Nat):((List.range k).filterMap fun (m:Nat)=>xs[((i:Int)+(m:Int)*1).toNat]?).toArray=((xs.toList.drop i).take k).toArray:=by
 have e:(fun (m:Nat)=>xs[((i:Int)+(m:Int)*1).toNat]?)=fun m=>xs[i+m]?:=by
  funext m
  have:((i:Int)+(m:Int)*1).toNat=i+m:=by omega
  rw[this]
 rw[e]
 have:=pick_run xs i k
 rw[List.filterMap_map]at this
 have e2:((fun x=>xs[x]?)∘fun x=>i+x)=fun m=>xs[i+m]?:=rfl
 rw[e2]at this;rw[this]
theorem getItem_tuple_cut{t sl:Addr}{items:Array Value}{vl vu:Value}{lo hi:Option Int}{Q:Value->Shared->Prop}(ht:IsTup s.heap t items)(hs:s.heap.IsSliceOf sl vl vu .none)(pl:IsPart vl lo)(pu:IsPart vu hi)(hw:¬(sIx items.size 0 lo=0/\sIx items.size items.size hi=items.size))(h:Q (.ref s.heap.objs.size) { s with heap:=s.heap.push { cls:=.type "tuple",data:=.seq ((items.toList.drop (sIx items.size 0 lo)).take (sIx items.size items.size hi-sIx items.size 0 lo)).toArray } })(hsz:items.size≤sizeLine):wpAny (model prog w) A (getItem (.ref t) (.ref sl)) Q E s:=by
 have htake:sizeOk (.seq ((items.toList.drop (sIx items.size 0 lo)).take (sIx items.size items.size hi-sIx items.size 0 lo)).toArray):=by
  show ((items.toList.drop (sIx items.size 0 lo)).take (sIx items.size items.size hi-sIx items.size 0 lo)).toArray.size≤sizeLine
  rw[List.size_toArray,List.length_take,List.length_drop,Array.length_toList];omega
 have hj:sIx items.size items.size hi≤items.size:=w04 _ _ (Nat.le_refl _) hi;obtain⟨os,hos,hcs,hds⟩:=id hs;have hTs:s.TypeIs (.ref sl) "slice":=⟨os,hos,hcs⟩;unfold getItem
 try with_reducible refine wpAny_holding ?_
 first|refine wpAny_bind (wpAny_pure ?_)|skip
 refine wpAny_bind (wpAny_sequenceKey ht.typeIs (by decide) ?_)
 refine wpAny_bind (wpAny_callSpecial?_slot (name:=Str.ofString "__getitem__") ht.typeIs PyProof.Rows.slot_tuple_getitem
  (wpAny_call_entry PyProof.Rows.slot_tuple_getitem ht.typeIs entry_tuple_getitem ?_ (args_tuple_getitem _ _)))
 show wpAny _ _ (Builtin.Tuple.tupleItemsOf (.ref t) >>= _) _ _ s
 refine wpAny_bind (tupleItemsOf_ ht ?_);refine wpAny_bind (wpAny_typeOf hTs ?_)
 rw[if_pos (by decide)]
 refine wpAny_bind (z6Z hs pl pu ?_)
 have hno:¬((((sIx items.size 0 lo:Nat):Int)==0&&(1:Int)==1&&(sIx items.size items.size hi-sIx items.size 0 lo)==items.size)=true):=by
  intro q;rw[Bool.and_eq_true,Bool.and_eq_true]at q;have q1:((sIx items.size 0 lo:Nat):Int)=0:=eq_of_beq q.1.1;have q2:sIx items.size items.size hi-sIx items.size 0 lo=items.size:=eq_of_beq q.2
  exact hw ⟨by omega,by omega⟩
 show wpAny _ _ (if (((sIx items.size 0 lo:Nat):Int)==0&&(1:Int)==1&&(sIx items.size items.size hi-sIx items.size 0 lo)==items.size)=true then _ else _) _ _ s
 rw[if_neg hno,x2Y]
 first
  | exact wpAny_bind (m:=Builtin.Tuple.tupleExact _) (wpAny_newObj_type (wpAny_pure ⟨_,rfl,wpAny_pure h⟩) htake)
  | exact wpAny_bind (m:=Builtin.Tuple.tupleExact _) (wpAny_newObj_type (wpAny_bind (wpAny_pure (wpAny_pure ⟨_,rfl,wpAny_pure h⟩))) htake)
  | exact wpAny_bind (wpAny_bind (m:=Builtin.Tuple.tupleExact _) (wpAny_newObj_type (wpAny_pure (wpAny_pure ⟨_,rfl,wpAny_pure h⟩)) htake))
  | exact wpAny_bind (wpAny_bind (m:=Builtin.Tuple.tupleExact _) (wpAny_newObj_type (wpAny_pure ⟨_,rfl,wpAny_pure h⟩) htake))
end
end HT
namespace L2
open PySem PySem.Spec PyProof.Rows
abbrev TO:=St->Hp->(Option Int->Hp->Prop)->Prop
def PO(X:Cx)(e:Option Expr)(t:TO):Prop :=
 ∀(pins:List (Addr×Obj)) (s:Shared) (σ:St) (H:Hp) (Q:Option Int->Hp->Prop),Inv X pins σ H s->t σ H Q ->
  wpAny (model X.prog X.w) X.A (evalPart e X.env) (fun u s'=>∃o H',Inv X pins σ H' s'/\IsPart u o/\Q o H') X.xe s
def x5I:TO:=fun _ H Q=>Q none H
def w23(t:TE):TO:=fun σ H Q=>t σ H fun x H1=>∃i,x = .int i/\Q (some i) H1
theorem K1{ns:List Int}:∀{us:List Value},Q4 (ns.map V.int) us->IntsAre us ns:=by
 induction ns with
 | nil=>intro us r;rw[List.map_nil]at r;cases r;exact .nil
 | cons n ns ih =>
  intro us r;rw[List.map_cons]at r
  cases r with
  | cons r1 r2 =>
   obtain⟨t,e⟩:=r1;subst e;exact .cons n t (ih r2)
section
variable{X:Cx}{e:Expr}{te:TE}{lo hi:Option Expr}{tl th:TO}{pos p2:Pos}
theorem x6U:PO X none x5I:=by
 intro pins s σ H Q I h;rw[evalPart_none];exact wpAny_pure ⟨none,H,I,.none,h⟩
theorem x6T(h:PE X e te):PO X (some e) (w23 te):=by
 intro pins s σ H Q I hw;rw[evalPart_some]
 refine thn (h pins s σ H _ I hw) fun u s1 ⟨x,H1,I1,r1,q1⟩=>?_
 obtain⟨i,rfl,q⟩:=q1;obtain⟨t,rfl⟩:=r1
 exact⟨some i,H1,I1,.int i t,q⟩
def SlR(X:Cx)(r:V->Option Int->Option Int->Hp->VK->Prop):Prop :=
 ∀(pins:List (Addr×Obj)) (s:Shared) (σ:St) (H:Hp) (x:V) (v vl vu:Value) (lo hi:Option Int) (sl:Addr) (Q:VK),Inv X pins σ H s->W3 x v->s.heap.IsSliceOf sl vl vu .none->IsPart vl lo->IsPart vu hi->r x lo hi H Q ->
  ∃T id,typeLookup (.type T) "__getitem__" = pure (some (.builtin id))/\s.TypeIs v T/\wpAny (model X.prog X.w) X.A (getItem v (.ref sl)) (EP X pins σ Q) X.xe s
theorem SlR.or{r r':V->Option Int->Option Int->Hp->VK->Prop}(h:SlR X r)(h':SlR X r'):SlR X (fun x lo hi H Q=>r x lo hi H Q∨r' x lo hi H Q):=by
 intro pins s σ H x v vl vu lo hi sl Q I rx hs pl pu q
 rcases q with q|q
 ·exact h pins s σ H x v vl vu lo hi sl Q I rx hs pl pu q
 ·exact h' pins s σ H x v vl vu lo hi sl Q I rx hs pl pu q
def tSl(r:V->Option Int->Option Int->Hp->VK->Prop)(te:TE)(tl th:TO):TE:=fun σ H Q=>te σ H fun x H1=>tl σ H1 fun l H2=>th σ H2 fun u H3=>r x l u H3 Q
theorem x31{r:V->Option Int->Option Int->Hp->VK->Prop}(hr:SlR X r)(he:PE X e te)(hl:PO X lo tl)(hu:PO X hi th):PE X (.Subscript e (.Slice lo hi none p2) pos) (tSl r te tl th):=by
 intro pins s σ H Q I h
 refine Subscript_ (thn (he pins s σ H _ I h) fun v s1 ⟨x,H1,I1,r1,q1⟩=>?_)
 refine wpAny_Slice (thn (hl pins s1 σ H1 _ I1 q1) fun vl s2 ⟨l,H2,I2,pl,q2⟩=>thn (hu pins s2 σ H2 _ I2 q2) fun vu s3 ⟨u,H3,I3,pu,q3⟩=>?_)
 rw[evalPart_none];refine wpAny_pure ?_
 have I4:Inv X pins σ H3 { s3 with heap:=s3.heap.push { cls:=.type "slice",data:=.fields #[vl,vu,.none] } }:=I3.kept (t':=s3.toks) fun b ob q=>Heap.get?_push_of_some _ q
 obtain⟨T,id,hT,ht,hg⟩:=hr pins { s3 with heap:=s3.heap.push { cls:=.type "slice",data:=.fields #[vl,vu,.none] } } σ H3 x v vl vu l u s3.heap.objs.size Q I4 r1 (Heap.IsSliceOf.new ..) pl pu q3
 show wpAny (model X.prog X.w) X.A (subscriptTail e (.Slice lo hi none p2) v (.ref s3.heap.objs.size)) (EP X pins σ Q) X.xe { s3 with heap:=s3.heap.push { cls:=.type "slice",data:=.fields #[vl,vu,.none] } }
 exact tail_any (ops:=[.ref s3.heap.objs.size,v]) ht hT hg (by with_unfolding_all rfl)
def x1T(xs:List V)(lo hi:Option Int):List V:=(xs.drop (HT.sIx xs.length 0 lo)).take (HT.sIx xs.length xs.length hi-HT.sIx xs.length 0 lo)
theorem z8J(xs:List V)(lo hi:Option Int):(x1T xs lo hi).length≤xs.length:=by
 unfold x1T;rw[List.length_take,List.length_drop];omega
def w46(K:PySem.W.Frag):V->Option Int->Option Int->Hp->VK->Prop:=fun x lo hi H Q=>∃a xs,x = .ref a/\SqT K H a xs /\
 ¬(HT.sIx xs.length 0 lo=0/\HT.sIx xs.length xs.length hi=xs.length)/\∀p,H p=none->Q (.ref p) (upd H p (.tup (x1T xs lo hi)))
theorem x9G:SlR X (w46 X.K):=by
 intro pins s σ H x v vl vu lo hi sl Q I rx hs pl pu h;obtain⟨a,xs,rfl,hx,hw,q⟩:=h;cases rx;obtain⟨its,r,ht,hz⟩:=I.tuple hx
 have hlen:its.toArray.size=xs.length:=by rw[List.size_toArray];exact r.length.symm
 refine⟨"tuple",_,PyProof.Rows.slot_tuple_getitem.lookup,ht.typeIs,?_⟩
 refine HT.getItem_tuple_cut ht hs pl pu (by rw[hlen];exact hw) ?_ (by rw[hlen];exact hz)
 rw[hlen]
 refine⟨.ref s.heap.objs.size,_,I.laid (t':=s.toks) (o:=.tup (x1T xs lo hi)) (fun b ob q=>Heap.get?_push_of_some _ q) (Nat.le_refl _) ?_,rfl,q _ (I.hok.fresh (Nat.le_refl _))⟩
 exact⟨Nat.le_trans (z8J xs lo hi) hz,_,(r.drop (HT.sIx xs.length 0 lo)).take (HT.sIx xs.length xs.length hi-HT.sIx xs.length 0 lo),x1U.new _ _⟩
def w3N(K:PySem.W.Frag):R2:=fun x y H Q=>∃a b ns ms,x = .ref a/\y = .ref b/\SqT K H a (ns.map V.int)/\SqT K H b (ms.map V.int)/\Q (.bl (HT.lexLt ns ms)) H
theorem x4N(hu:X.A.units<cLine):OpR X (compareOp .Lt) (w3N X.K):=by
 intro pins s σ H x y v u Q I rx ry h;obtain⟨a,b,ns,ms,rfl,rfl,ha,hb,q⟩:=h;cases rx;cases ry;obtain⟨its,r1,p1,_⟩:=I.tuple ha;obtain⟨its2,r2,p2,_⟩:=I.tuple hb;have i1:IntsAre its.toArray.toList ns:=K1 r1;have i2:IntsAre its2.toArray.toList ms:=K1 r2;exact HT.lt_tupInts p1 p2 i1 i2 hu ⟨.bl (HT.lexLt ns ms),H,I,rfl,q⟩
def w2R(K:PySem.W.Frag):R2:=fun x y H Q=>∃a b xs ys,x = .ref a/\y = .ref b/\SqT K H a xs/\SqT K H b ys/\xs≠[]/\xs.length+ys.length≤sizeLine /\
 (ys=[]->Q (.ref a) H)/\(ys≠[]->∀p,H p=none->Q (.ref p) (upd H p (.tup (xs++ys))))
theorem Q4.nil_iff{xs:List V}{us:List Value}(r:Q4 xs us):us=[]↔xs=[]:=by
 cases r with
 | nil=>simp
 | cons _ _=>simp
theorem x77:OpR X (binaryOp .Add) (w2R X.K):=by
 intro pins s σ H x y v u Q I rx ry h;obtain⟨a,b,xs,ys,rfl,rfl,ha,hb,hx,hz,q1,q2⟩:=h;cases rx;cases ry;obtain⟨its,r1,p1,_⟩:=I.tuple ha;obtain⟨its2,r2,p2,_⟩:=I.tuple hb
 refine HT.cat_tup p1 p2 (fun z=>hx (r1.nil_iff.mp z)) (fun z=>⟨.ref a,H,I,rfl,q1 (r2.nil_iff.mp z)⟩) (fun z=>?_) (by rw[←r1.length,←r2.length];exact hz)
 refine⟨.ref s.heap.objs.size,_,I.laid (t':=s.toks) (o:=.tup (xs++ys)) (fun b ob q=>Heap.get?_push_of_some _ q) (Nat.le_refl _) ?_,rfl,q2 (fun w=>z (r2.nil_iff.mpr w)) _ (I.hok.fresh (Nat.le_refl _))⟩
 exact⟨by rw[List.length_append];exact hz,_,r1.append r2,x1U.new _ _⟩
end
def ixN(n:Nat)(i:Int):Option Nat:=if 0≤i then (if i<n then some i.toNat else none) else if -(n:Int)≤i then some (i+n).toNat else none
def atI{α:Type}(xs:List α)(i:Int):Option α:=(ixN xs.length i).bind fun j=>xs[j]?
theorem x0I{n:Nat}{i:Int}{j:Nat}(h:ixN n i=some j):seqIndex? i n=some j/\j<n/\-(n:Int)≤i/\i<n:=by
 unfold ixN at h;by_cases h0:0≤i
 ·rw[if_pos h0]at h;by_cases h1:i<n
  ·rw[if_pos h1]at h;have e:i.toNat=j:=Option.some.inj h
   exact⟨by rw[seqIndex_of h0 h1,e],by omega,by omega,h1⟩
  ·rw[if_neg h1]at h;cases h
 ·rw[if_neg h0]at h;by_cases h1 : -(n:Int)≤i
  ·rw[if_pos h1]at h;have e:(i+n).toNat=j:=Option.some.inj h
   exact⟨by rw[seqIndex_neg (by omega) h1,e],by omega,h1,by omega⟩
  ·rw[if_neg h1]at h;cases h
theorem y4T{α:Type}{xs:List α}{i:Int}{v:α}(h:atI xs i=some v):∃j,seqIndex? i xs.length=some j/\xs[j]?=some v/\j<xs.length/\-(xs.length:Int)≤i/\i<xs.length:=by
 unfold atI at h
 cases e:ixN xs.length i with
 | none=>rw[e]at h;cases h
 | some j =>
  rw[e]at h;obtain⟨h1,h2,h3,h4⟩:=x0I e
  exact⟨j,h1,h,h2,h3,h4⟩
theorem x8E{α:Type}{xs:List α}{j:Nat}{v:α}(h:xs[j]?=some v):atI xs (j:Int)=some v:=by
 have hj:j<xs.length:=(List.getElem?_eq_some_iff.mp h).1
 have e:ixN xs.length (j:Int)=some j:=by
  unfold ixN
  rw[if_pos (by omega),if_pos (by omega)];simp
 unfold atI;rw[e];exact h
def y4U(b:Expr):Prop:=∀o i,subscripted b false o i=operate [o,i] (getItem o i)
def IxR(X:Cx)(r:R2):Prop :=
 ∀(value slice:Expr) (pins:List (Addr×Obj)) (s:Shared) (σ:St) (H:Hp) (x y:V) (v u:Value) (Q:VK),Inv X pins σ H s->W3 x v->W3 y u->r x y H Q ->
  subscripted slice false v u=operate [v,u] (getItem v u)->wpAny (model X.prog X.w) X.A (subscriptTail value slice v u) (EP X pins σ Q) X.xe s
def MtR(X:Cx)(id:String)(r:V->List V->Hp->VK->Prop):Prop :=
 ∀(pins:List (Addr×Obj)) (s:Shared) (σ:St) (H:Hp) (x:V) (xs:List V) (v:Value) (us:List Value) (Q:VK),Inv X pins σ H s->W3 x v->Q4 xs us->r x xs H Q ->
  wpAny (model X.prog X.w) X.A (call (.builtin id) (v::us)) (EP X pins σ Q) X.xe s
section
variable{X:Cx}{a b:Expr}{ta tb:TE}{pos:Pos}
theorem IxR.or{r r':R2}(h:IxR X r)(h':IxR X r'):IxR X (fun x y H Q=>r x y H Q∨r' x y H Q):=by
 intro value slice pins s σ H x y v u Q I rx ry q hs
 rcases q with q|q
 ·exact h value slice pins s σ H x y v u Q I rx ry q hs
 ·exact h' value slice pins s σ H x y v u Q I rx ry q hs
theorem w2Y{r:R2}(hr:IxR X r)(ha:PE X a ta)(hb:PE X b tb)(hs:y4U b):PE X (.Subscript a b pos) (tOp r ta tb):=by
 intro pins s σ H Q I h
 exact Subscript_ (w3G ha hb I h fun v u s2 x y H2 I2 rx ry q=>hr a b pins s2 σ H2 x y v u Q I2 rx ry q (hs _ _))
def w3Q(K:PySem.W.Frag):R2:=fun x y H Q=>∃p xs i v,x = .ref p/\y = .int i/\SqL K H p xs/\atI xs i=some v/\Q v H
def w3O(K:PySem.W.Frag):R2:=fun x y H Q=>∃p xs i v,x = .ref p/\y = .int i/\SqT K H p xs/\atI xs i=some v/\Q v H
def w3P:R2:=fun x y H Q=>∃z i c,x = .str z/\y = .int i/\z.length≤sizeLine/\atI z.cps.toList i=some c/\Q (.str ⟨#[c]⟩) H
theorem x7Q:IxR X (w3Q X.K):=by
 intro value slice pins s σ H x y v u Q I rx ry h hs;obtain⟨p,xs,i,z,rfl,rfl,hq,he,q⟩:=h;cases rx;obtain⟨t,rfl⟩:=ry;obtain⟨its,r,pl,hz⟩:=I.list hq;obtain⟨j,h1,h2,h3,h4,h5⟩:=y4T he;obtain⟨w,ew,rw'⟩:=r.get h2;have hl:=r.length;have hn:=z9R;have fin:EP X pins σ Q w s:=⟨z,H,I,rw',q⟩;by_cases h0:0≤i
 ·have hj:i.toNat=j:=by
   rw[seqIndex_of h0 h5]at h1;exact Option.some.inj h1
  exact item_listR pl.isList h0 (by omega) (by rw[hj];simpa using ew) fin hs
 ·have hj:(i+(its.toArray.size:Int)).toNat=j:=by
   rw[seqIndex_neg (by omega) h4]at h1
   rw[List.size_toArray,←hl];exact Option.some.inj h1
  exact subscriptTail_builtinR (x:=w) pl.isList.typeIs slot_list_getitem.lookup
   (wpAny_getItem_list_neg (Q:=fun r s'=>r=w/\EP X pins σ Q r s') pl.isList (by omega) (by rw[List.size_toArray]<;>omega) (by omega) (by rw[hj];simpa using ew) ⟨rfl,fin⟩) hs
theorem w1K:IxR X (w3O X.K):=by
 intro value slice pins s σ H x y v u Q I rx ry h hs;obtain⟨p,xs,i,z,rfl,rfl,hq,he,q⟩:=h;cases rx;obtain⟨t,rfl⟩:=ry;obtain⟨its,r,pl,hz⟩:=I.tuple hq;obtain⟨j,h1,h2,h3,h4,h5⟩:=y4T he;obtain⟨w,ew,rw'⟩:=r.get h2;have hl:=r.length;have hn:=z9R;have fin:EP X pins σ Q w s:=⟨z,H,I,rw',q⟩
 exact subscriptTail_builtinR (x:=w) pl.typeIs slot_tuple_getitem.lookup
  (getItem_tuple (j:=j) (Q:=fun r s'=>r=w/\EP X pins σ Q r s') pl (by omega) (by omega) (by rw[List.size_toArray,←hl];exact h1) (by simpa using ew) ⟨rfl,fin⟩) hs
theorem w1L:IxR X w3P:=by
 intro value slice pins s σ H x y v u Q I rx ry h hs;obtain⟨z,i,c,rfl,rfl,hz,he,q⟩:=h;obtain⟨t,rfl⟩:=rx;obtain⟨t',rfl⟩:=ry;obtain⟨j,h1,h2,h3,h4,h5⟩:=y4T he
 have hl:z.cps.toList.length=z.length:=by simp[Str.length]
 rw[hl]at h1 h4 h5;have hn:=z9R
 exact tail_any (typeIs_str s z t) slot_str_getitem.lookup (getItem_str (c:=c) (by
  have e1:decide (i < -(2 ^ 63:Int))=false:=decide_eq_false (by omega)
  have e2:decide (i≥2 ^ 63)=false:=decide_eq_false (by omega)
  rw[e1,e2,Bool.or_false]) (by rw[h1];simpa using h2) ⟨.str ⟨#[c]⟩,H,I.tok _,⟨_,rfl⟩,q⟩) hs
def rIx(K:PySem.W.Frag):R2:=fun x y H Q=>w3Q K x y H Q∨w3O K x y H Q∨w3P x y H Q
theorem w1M:IxR X (rIx X.K):=x7Q.or (w1K.or w1L)
theorem Inv.lst{pins:List (Addr×Obj)}{σ:St}{H:Hp}{s:Shared}{p:Addr}{xs:List V}(I:Inv X pins σ H s)(h:H p=some (.lst xs)) :
  ∃(its:List Value) (n:Nat),Q4 xs its/\s.heap.get? p=some { cls:=.type "list",data:=.seq its.toArray n }/\xs.length≤sizeLine:=by
 obtain⟨z,its,n,r,e⟩:=I.hok p _ h
 exact⟨its,n,r,e,z⟩
theorem y21(lo hi:Option Int)(n:Nat):(sliceBounds lo hi none n).1=((HT.sIx n 0 lo:Nat):Int)/\(sliceBounds lo hi none n).2.1=((HT.sIx n n hi:Nat):Int)/\(sliceBounds lo hi none n).2.2=1:=by
 refine⟨?_,?_,rfl⟩
 ·cases lo with
  | none=>simp[sliceBounds,HT.sIx]
  | some i =>
   simp only[sliceBounds,HT.sIx,Option.getD_none,show (1:Int)>0 by decide,if_true]
   by_cases h:i<0
   ·simp only[h,if_true]<;>omega
   ·simp only[h,if_false]<;>omega
 ·cases hi with
  | none=>simp[sliceBounds,HT.sIx]
  | some i =>
   simp only[sliceBounds,HT.sIx,Option.getD_none,show (1:Int)>0 by decide,if_true]
   by_cases h:i<0
   ·simp only[h,if_true]<;>omega
   ·simp only[h,if_false]<;>omega
theorem y0I(its:List Value)(lo hi:Option Int):slicePick its.toArray lo hi none=((its.drop (HT.sIx its.length 0 lo)).take (HT.sIx its.length its.length hi-HT.sIx its.length 0 lo)).toArray:=by
 obtain⟨h1,h2,h3⟩:=y21 lo hi its.toArray.size;unfold slicePick;rw[h1,h2,h3]
 simp only[sliceRange_one,pick_run,List.size_toArray]<;>rfl
def w47(K:PySem.W.Frag):V->Option Int->Option Int->Hp->VK->Prop:=fun x lo hi H Q=>∃a xs,x = .ref a/\SqL K H a xs/\∀p,H p=none->Q (.ref p) (upd H p (.lst (x1T xs lo hi)))
theorem x5U:SlR X (w47 X.K):=by
 intro pins s σ H x v vl vu lo hi sl Q I rx hs pl pu h;obtain⟨a,xs,rfl,hx,q⟩:=h;cases rx;obtain⟨its,r,ht,hz⟩:=I.list hx;have hlen:=r.length
 refine⟨"list",_,slot_list_getitem.lookup,ht.isList.typeIs,?_⟩
 refine wpAny_getItem_list_slice ht.isList hs pl pu .none (by simp) ?_ (by rw[List.size_toArray]<;>omega)
 rw[y0I,←hlen]
 refine⟨.ref s.heap.objs.size,_,I.laid (t':=s.toks) (o:=.lst (x1T xs lo hi)) (fun b ob q=>Heap.get?_push_of_some _ q) (Nat.le_refl _) ?_,rfl,q _ (I.hok.fresh (Nat.le_refl _))⟩
 exact⟨Nat.le_trans (z8J xs lo hi) hz,_,0,(r.drop (HT.sIx xs.length 0 lo)).take (HT.sIx xs.length xs.length hi-HT.sIx xs.length 0 lo),Heap.get?_push_size _ rfl⟩
theorem y35:z0Y X (.builtin "len") (fun xs H Q=>∃p ys,xs=[.ref p]/\(SqL X.K H p ys∨SqT X.K H p ys)/\Q (.int ys.length) H):=by
 intro pins s σ H xs us Q I r h;obtain⟨p,ys,rfl,hq,q⟩:=h;obtain⟨u,rfl,rx⟩:=z3D r;cases rx;have hn:=z9R
 rcases hq with hq|hq
 ·obtain⟨its,r',pl,hz⟩:=I.list hq;have hlen:=r'.length
  exact Calls.call_len_list pl.isList (by simp only[List.size_toArray]<;>omega) ⟨.int ys.length,H,I.tok _,⟨s.toks+1,by rw[List.size_toArray,hlen]⟩,q⟩
 ·obtain⟨its,r',pl,hz⟩:=I.tuple hq;have hlen:=r'.length
  exact len_tuple pl (by simp only[List.size_toArray]<;>omega) ⟨.int ys.length,H,I.tok _,⟨s.toks+1,by rw[List.size_toArray,hlen]⟩,q⟩
theorem z0Y.or{f:Value}{r r':List V->Hp->VK->Prop}(h:z0Y X f r)(h':z0Y X f r'):z0Y X f (fun xs H Q=>r xs H Q∨r' xs H Q):=by
 intro pins s σ H xs us Q I rs q
 rcases q with q|q
 ·exact h pins s σ H xs us Q I rs q
 ·exact h' pins s σ H xs us Q I rs q
theorem y34:z0Y X (.type "list") (fun xs H Q=>∃p ys,xs=[.ref p]/\(SqL X.K H p ys∨SqT X.K H p ys)/\∀l,H l=none->Q (.ref l) (upd H l (.lst ys))):=by
 intro pins s σ H xs us Q I r h;obtain⟨p,ys,rfl,hq,q⟩:=h;obtain⟨u,rfl,rx⟩:=z3D r;cases rx
 have fin:∀(its:List Value),Q4 ys its->ys.length≤sizeLine->∀(h':Heap) (c':Nat),(∀b o',s.heap.get? b=some o'->h'.get? b=some o') ->
   h'.get? s.heap.objs.size=some { cls:=.type "list",dict:=none,data:=.seq its.toArray c',slots:=#[] }->EP X pins σ Q (.ref s.heap.objs.size) { s with heap:=h' }:=fun its r' hz h' c' kp e =>
  ⟨.ref s.heap.objs.size,_,I.laid (t':=s.toks) kp (Nat.le_refl _) (show z0W X.prog X.w _ h' _ (.lst ys) from ⟨hz,its,c',r',e⟩),rfl,q _ (I.hok.fresh (Nat.le_refl _))⟩
 rcases hq with hq|hq
 ·obtain⟨its,r',pl,hz⟩:=I.list hq;have hlen:=r'.length;obtain⟨o,ho,hc,n,hd⟩:=pl.isList
  exact call_list_seq p (.inl rfl) ho hc hd (fun h' c' kp e=>fin its r' hz h' c' kp e) (by simp only[List.size_toArray]<;>omega)
 ·obtain⟨its,r',pl,hz⟩:=I.tuple hq;have hlen:=r'.length;obtain⟨o,ho,hc,n,hd⟩:=pl
  exact call_list_seq p (.inr rfl) ho hc hd (fun h' c' kp e=>fin its r' hz h' c' kp e) (by simp only[List.size_toArray]<;>omega)
theorem z5S:z0Y X (.type "tuple") (fun xs H Q=>∃p ys,xs=[.ref p]/\((SqL X.K H p ys/\∀l,H l=none->Q (.ref l) (upd H l (.tup ys)))∨(SqT X.K H p ys/\Q (.ref p) H))):=by
 intro pins s σ H xs us Q I r h;obtain⟨p,ys,rfl,h⟩:=h;obtain⟨u,rfl,rx⟩:=z3D r;cases rx
 rcases h with⟨hq,q⟩|⟨hq,q⟩
 ·obtain⟨its,r',pl,hz⟩:=I.list hq;have hlen:=r'.length
  refine call_tuple_list pl.isList (fun h' kp=>?_) (by simp only[List.size_toArray]<;>omega)
  have I1:Inv X pins σ H { s with heap:=h' }:=I.kept (t':=s.toks) kp
  have I2:Inv X pins σ (upd H h'.objs.size (.tup ys)) { s with heap:=h'.push { cls:=.type "tuple",data:=.seq its.toArray } } :=
   I1.laid (t':=s.toks) (fun b o e=>Heap.get?_push_of_some _ e) (Nat.le_refl _) (show z0W X.prog X.w _ _ _ (.tup ys) from ⟨hz,its,r',x1U.new _ _⟩)
  exact⟨.ref h'.objs.size,_,I2,rfl,q _ (I1.hok.fresh (Nat.le_refl _))⟩
 ·obtain⟨its,r',pl,hz⟩:=I.tuple hq;exact call_tuple_same pl ⟨.ref p,H,I,rfl,q⟩
def tyV(K:PySem.W.Frag)(T:String)(x:V)(H:Hp):Prop:=match x with
 | .str _=>T = "str"
 | .int _=>T = "int"
 | .ref p=>(T = "list"/\∃xs,SqL K H p xs)∨(T = "tuple"/\∃xs,SqT K H p xs) ∨
   (T = "dict"/\((∃kvs,H p=some (.dK kvs))∨∃kvs,H p=some (.dT kvs)))∨(T = "set"/\∃S n,H p=some (.set S n))
 | _=>False
theorem x8T{pins:List (Addr×Obj)}{σ:St}{H:Hp}{s:Shared}{T:String}{x:V}{v:Value}(I:Inv X pins σ H s)(r:W3 x v)(ty:tyV X.K T x H) :
  s.TypeIs v T/\∀a,v = .ref a->∃ob,s.heap.get? a=some ob/\ob.dict=none:=by
 cases x with
 | str z =>
  obtain⟨t,rfl⟩:=r
  cases (show T = "str" from ty)
  exact⟨typeIs_str s z t,fun _ e=>nomatch e⟩
 | int i =>
  obtain⟨t,rfl⟩:=r
  cases (show T = "int" from ty)
  exact⟨typeIs_int s i t,fun _ e=>nomatch e⟩
 | ref p =>
  cases r
  rcases ty with⟨rfl,xs,hq⟩|⟨rfl,xs,hq⟩|⟨rfl,hk⟩|⟨rfl,S,n,hk⟩
  ·obtain⟨its,_,pl,_⟩:=I.list hq
   refine⟨pl.isList.typeIs,fun a e=>?_⟩
   cases e;obtain⟨o,n,e,c,hd,_⟩:=pl
   exact⟨o,e,hd⟩
  ·obtain⟨o,e0,hc,hd⟩:=I.tupleP hq
   refine⟨⟨o,e0,hc⟩,fun a e=>?_⟩
   cases e
   exact⟨o,e0,hd⟩
  ·have z:∃o,s.heap.get? p=some o/\o.ExactDict:=by
    rcases hk with⟨kvs,hk⟩|⟨kvs,hk⟩
    ·obtain⟨_,_,_,_,o,_,_,e,ex,_⟩:=I.hok p _ hk
     exact⟨o,e,ex⟩
    ·obtain⟨_,_,_,_,o,_,_,e,ex,_⟩:=I.hok p _ hk
     exact⟨o,e,ex⟩
   obtain⟨o,e,ex⟩:=z
   refine⟨⟨o,e,ex.1⟩,fun a e2=>?_⟩
   cases e2
   exact⟨o,e,ex.2.1⟩
  ·obtain⟨o,_,_,_,e,ex,_⟩:=I.hok p _ hk
   refine⟨⟨o,e,ex.1⟩,fun a e2=>?_⟩
   cases e2
   exact⟨o,e,ex.2.1⟩
 | _=>exact False.elim ty
def tBM(K:PySem.W.Frag)(T:String)(r:V->List V->Hp->VK->Prop)(to:TE)(t:TA):TE:=fun σ H Q=>to σ H fun x H1=>tyV K T x H1/\t σ H1 fun xs H2=>r x xs H2 Q
variable{o e:Expr}{es:List Expr}{to:TE}{t:TA}{name:Str}{apos cpos:Pos}{T id:String}{r:V->List V->Hp->VK->Prop}
theorem x35(pa:PlainAttrs T)(slot:Slot T name id)(hty:typeOf (.builtin id)=pure (.type "method_descriptor"))(hm:MtR X id r)(ho:PE X o to)(ha:PA X (e::es) t)(hbase:attributeBase o name X.env (eval o X.env)=eval o X.env:=by rfl)
  (hfew:((backTo cpos (starEach (e::es) X.env)).all (fun x=>!x.1)&&(backToKw cpos (keywordEach [] X.env)).all (fun x=>x.1.isSome)
   && decide ((e::es).length+([]:List Keyword).length+(if ([]:List Keyword).isEmpty then 0 else 1)<30))=true:=by rfl)
  (hline:(apos.endLine==cpos.line)=true:=by rfl) (hs:starEach (e::es) X.env=(false,eval e X.env)::starEach es X.env:=by rfl) (hplain:(backTo cpos (starEach es X.env)).any (·.1)=false:=by rfl) :
  PE X (.Call (.Attribute o name apos) (e::es) [] cpos) (tBM X.K T r to t):=by
 intro pins s σ H Q I h
 refine wpAny_Call_method_late hbase hfew hline rfl (thn (ho pins s σ H _ I h) fun v s1 ⟨x,H1,I1,r1,ty,q1⟩=>?_)
 obtain⟨h1,h2⟩:=x8T I1 r1 ty
 refine⟨T,id,pa,slot,hty,h1,h2,?_⟩
 have hA:=ha cpos pins s1 σ H1 _ I1 q1;rw[hs]at hA ⊢
 refine Calls.callWith_builtin (by show (false||(backTo cpos (starEach es X.env)).any (·.1))=false;rw[hplain]<;>rfl) (Calls.evalArgs_plain ?_)
 exact thn hA fun us s2 ⟨vs,H2,I2,r2,q2⟩=>hm pins s2 σ H2 x vs v us Q I2 r1 r2 q2
end
def MtM(X:Cx)(id:String)(r:V->List V->Hp->VK->Prop):Prop :=
 ∀(pins:List (Addr×Obj)) (s:Shared) (σ:St) (H:Hp) (x:V) (xs:List V) (v:Value) (us:List Value) (Q:VK),Inv X pins σ H s->W3 x v->Q4 xs us->r x xs H Q ->
  wpAny (model X.prog X.w) X.A (call (.builtin id) (v::us)) (EP X pins σ Q) X.xe s
theorem Q4.one:∀{x:V} {us:List Value},Q4 [x] us->∃u,us=[u]/\W3 x u
 | _,_,.cons r .nil=>⟨_,rfl,r⟩
theorem Q4.eraseIdx:∀{xs:List V} {us:List Value} (i:Nat),Q4 xs us->Q4 (xs.eraseIdx i) (us.eraseIdx i)
 | _,_,_,.nil=>.nil
 | _,_,0,.cons _ t=>t
 | _,_,i+1,.cons r t=>.cons r (Q4.eraseIdx i t)
theorem Q4.rep{xs:List V}{us:List Value}(h:Q4 xs us):∀k:Nat,Q4 (List.replicate k xs).flatten (List.replicate k us).flatten
 | 0=>.nil
 | k+1=>by
  rw[List.replicate_succ,List.replicate_succ,List.flatten_cons,List.flatten_cons];exact Q4.append h (Q4.rep h k)
theorem y2J{α:Type}:∀(l:List α) (i:Nat),(l.eraseIdx i).length≤l.length
 | [],_=>Nat.le_refl _
 | _::_,0=>Nat.le_succ _
 | _::r,i+1=>Nat.succ_le_succ (y2J r i)
theorem y2R(its:List Value):∀(k:Nat) (acc:List Value),
  List.foldl (fun x1 x2=>x1++x2) acc.toArray (List.replicate k its.toArray)=(acc++(List.replicate k its).flatten).toArray
 | 0,acc=>by simp
 | k+1,acc=>by
  have e:acc.toArray++its.toArray=(acc++its).toArray:=by simp
  have e2:(acc++its)++(List.replicate k its).flatten=acc++(List.replicate (k+1) its).flatten:=by
   rw[List.replicate_succ,List.flatten_cons,List.append_assoc]
  rw[←e2,←y2R its k (acc++its),←e,List.replicate_succ,List.foldl_cons]
section
variable{X:Cx}{pins:List (Addr×Obj)}{σ:St}{H:Hp}{s:Shared}{l b:Addr}{xs ys zs:List V}
theorem Inv.lset{its its':List Value}{n:Nat}{f:Array Value->Array Value}{t':Nat}(I:Inv X pins σ H s)(hH:H l=some (.lst xs))(e:s.heap.get? l=some { cls:=.type "list",data:=.seq its.toArray n })(hf:f its.toArray=its'.toArray)(hv:Q4 ys its')(hz:ys.length≤sizeLine) :
  Inv X pins σ (upd H l (.lst ys)) { s with heap:=s.heap.update l (Obj.mapSeq f),toks:=t' }:=by
 have q:=PySem.IsL.update e f;rw[hf]at q
 refine I.write (x:=l) (e:=l) (by rw[hH];exact trivial) (.inl rfl) (fun b' u hb hu=>(Heap.get?_update_other s.heap (Obj.mapSeq f) (Ne.symm hb)).trans hu) ⟨_,q⟩ ?_
 exact⟨hz,its',_,hv,q⟩
theorem Inv.lnew{its:List Value}{t':Nat}(I:Inv X pins σ H s)(hv:Q4 ys its)(hz:ys.length≤sizeLine) :
  Inv X pins σ (upd H s.heap.objs.size (.lst ys)) { s with heap:=s.heap.push { cls:=.type "list",data:=.seq its.toArray },toks:=t' } :=
 I.laid (fun _ _ q=>Heap.get?_push_of_some _ q) (Nat.le_refl _) ⟨hz,its,0,hv,Heap.get?_push_size _ rfl⟩
theorem Inv.fresh(I:Inv X pins σ H s):H s.heap.objs.size=none:=I.hok.fresh (Nat.le_refl _)
theorem Inv.lstM(I:Inv X pins σ H s)(hH:H l=some (.lst xs)):xs.length≤sizeLine/\∃(its:List Value) (n:Nat),Q4 xs its/\xs.length=its.length/\s.heap.get? l=some { cls:=.type "list",data:=.seq its.toArray n }:=by
 obtain⟨z,its,n,r,e⟩:=I.hok l _ hH
 exact⟨z,its,n,r,r.length,e⟩
theorem x39{n:Nat}(h:n≤sizeLine):Builtin.List.listTooLong n=false:=by
 unfold Builtin.List.listTooLong
 exact decide_eq_false (by omega)
end
section
variable{X:Cx}
def x6M:V->List V->Hp->VK->Prop:=fun x vs H Q=>∃l xs y,x = .ref l/\vs=[y]/\H l=some (.lst xs)/\xs.length<sizeLine/\Q .non (upd H l (.lst (xs++[y])))
theorem z86:MtM X "list.append" x6M:=by
 intro pins s σ H x vs v us Q I rx rv h;obtain⟨l,xs,y,rfl,rfl,hH,hz,q⟩:=h;cases rx;obtain⟨u,rfl,ru⟩:=rv.one;obtain⟨z,its,n,r,hl,e⟩:=I.lstM hH
 refine call_meets F.slot_list_append ⟨_,e,rfl⟩ F.entry_list_append (F.args_list_append_2 _ _) (PySem.list_append l its.toArray n u (by rw[List.size_toArray];omega)) ⟨e,?_⟩
 refine⟨.non,_,I.lset (its':=its++[u]) hH e (by simp) (r.append (.cons ru .nil)) ?_,rfl,q⟩
 rw[List.length_append,List.length_singleton];omega
def x6L:V->List V->Hp->VK->Prop:=fun x vs H Q=>∃l b xs zs,x = .ref l/\vs=[.ref b]/\H l=some (.lst xs)/\H b=some (.lst zs)/\xs.length+zs.length≤sizeLine/\Q .non (upd H l (.lst (xs++zs)))
theorem y9W:MtM X "list.extend" x6L:=by
 intro pins s σ H x vs v us Q I rx rv h;obtain⟨l,b,xs,zs,rfl,rfl,hH,hB,hz,q⟩:=h;cases rx;obtain⟨u,rfl,ru⟩:=rv.one;cases ru;obtain⟨z,its,n,r,hl,e⟩:=I.lstM hH;obtain⟨z2,its2,n2,r2,hl2,e2⟩:=I.lstM hB
 have hsz:its.toArray.size+its2.toArray.size≤sizeLine:=by rw[List.size_toArray,List.size_toArray];omega
 have hlong:¬(!its.toArray.isEmpty&&Builtin.List.listTooLong (its.toArray.size+its2.toArray.size))=true:=by
  rw[x39 hsz,Bool.and_false];exact Bool.false_ne_true
 refine call_meets F.slot_list_extend ⟨_,e,rfl⟩ F.entry_list_extend (F.args_list_extend_2 _ _)
  (AutoSeq1.list_extend_list_list_0 l its.toArray n b its2.toArray n2 hlong (by rw[List.size_toArray];omega) (by omega)) ⟨e,e2,?_⟩
 refine⟨.non,_,I.lset (its':=its++its2) hH e (by simp) (r.append r2) ?_,rfl,q⟩
 rw[List.length_append];omega
def x4I:V->List V->Hp->VK->Prop:=fun x vs H Q=>∃l xs i k y,x = .ref l/\vs=[.int i]/\H l=some (.lst xs)/\-(2 ^ 63)≤i/\i<2 ^ 63/\seqIndex? i xs.length=some k/\xs[k]?=some y/\Q y (upd H l (.lst (xs.eraseIdx k)))
theorem x3A:MtM X "list.pop" x4I:=by
 intro pins s σ H x vs v us Q I rx rv h;obtain⟨l,xs,i,k,y,rfl,rfl,hH,h1,h2,hk,hy,q⟩:=h;cases rx;obtain⟨u,rfl,ru⟩:=rv.one;obtain⟨t,rfl⟩:=ru;obtain⟨z,its,n,r,hl,e⟩:=I.lstM hH;obtain⟨w,hw,rw'⟩:=r.get hy
 refine call_meets F.slot_list_pop ⟨_,e,rfl⟩ F.entry_list_pop (F.args_list_pop_2 _ _)
  (MeetsSeq.list_pop_at l its.toArray n i t k w (fitsIndex_both h1 h2) (by rw[List.size_toArray,←hl];exact hk) (by rw[←Array.getElem?_toList];exact hw) (by rw[List.size_toArray];omega)) ⟨e,?_⟩
 refine⟨y,_,I.lset (its':=its.eraseIdx k) hH e ?_ (r.eraseIdx k) ?_,rw',q⟩
 ·show its.toArray.eraseIdxIfInBounds k=(its.eraseIdx k).toArray
  rw[List.eraseIdxIfInBounds_toArray]
 ·have:=y2J xs k
  omega
theorem x7L{α:Type}(xs:List α)(k:Nat):(List.replicate k xs).flatten.length=k*xs.length:=by
 induction k with
 | zero=>simp
 | succ k ih=>rw[List.replicate_succ,List.flatten_cons,List.length_append,ih,Nat.succ_mul,Nat.add_comm]
end
end L2
namespace Att
open PySem PySem.W PySem.Calls PyProof.Rows
theorem z8C{P:Params}{h:Heap}:∀(ns:List Int) (vs:List Value),WellAll P h vs (ns.map WData.int)->IntsAre vs ns:=by
 intro ns
 induction ns with
 | nil =>
  intro vs w;rw[List.map_nil]at w;cases w;exact .nil
 | cons n ns ih =>
  intro vs w;rw[List.map_cons]at w
  cases w with
  | cons a b =>
   cases a;exact .cons _ _ (ih _ b)
theorem y93{l:OpenLaw}{n:Nat}(hn:l.most=some n){P:Params}{h:Heap}{args:List WData}{vals:List Value}(hpre:l.row.toRowW.claim.pre args=true)(hwl:WellAll P h vals args) :
  ∃a vs ns,vals=[Value.ref a]/\args=[WData.list (ns.map WData.int)]/\h.get? a=some { cls:=.type "list",data:=.seq vs.toArray }/\IntsAre vs ns/\ns.length≤n:=by
 have hsh:WShape.hasAll [] args [.list .int]=true:=(pre_splitW hpre).1;have hc:l.pre.holds [] { args:=args }=true:=(pre_splitW hpre).2;obtain⟨d,r,rfl,h1,h2⟩:=hasAllW_cons hsh
 obtain rfl:=hasAllW_nil h2
 obtain⟨xs,rfl,h3⟩:=hasW_list h1;obtain⟨ns,rfl⟩:=items_int h3
 have hlen:ns.length≤n:=by
  unfold OpenLaw.pre at hc
  have h4:(WTm.not (.lt (.lit (.int (n:Int))) (.len (.arg 0)))).holds [] { args:=[.list (ns.map .int)] }=true:=by
   have h4:=(holds_andW hc).1;rw[hn]at h4;exact h4
  have h5:=condW_of h4 (w_not (w_lt w_lit (w_len_list (w_arg rfl))));rw[List.length_map]at h5
  refine Nat.le_of_not_lt fun q=>?_
  have q':(n:Int)<((ns.length:Nat):Int):=by omega
  first
   | (rw[decide_eq_true q']at h5;exact absurd h5 (by decide))
   | (simp at h5;omega)
 cases hwl with
 | cons w1 w2 =>
  cases w2
  cases w1 with
  | list ho hall=>exact⟨_,_,ns,rfl,rfl,ho,z8C ns _ hall,hlen⟩
theorem y9F(l:OpenLaw)(args:List WData):l.row.toRowW.claim.post args (.bool true) args=true :=
 postW_of (r:=l.row.toRowW) (X:=(true==true))
  (show WShape.has [] (.bool true) .bool=true by first|rfl|decide|simp[WShape.has,WShape.arms,WShape.armsAll])
  (show (WTm.eq .res (.lit (.bool true))).value [] { args:=args,res:=some (.bool true),after:=args }=some (.bool (true==true)) from w_eq_bool (w_res rfl) w_lit) rfl
theorem attach_call{l:OpenLaw}{n:Nat}{q:Program}{loose:List Str}{XP:(Str->Option Value)->Heap->Prop}{YP:World->Heap->Prop}{d:DefRec}(hn:l.most=some n)(hdf:d.params.defaults=[])
  (call:∀(w:World) (s₀ s₁:Shared) (mg mb:Str->Option Value) (fa:Addr) (o:Obj) (pm cd doc:Value) (a:Addr) (vs:List Value) (ns:List Int),
   Ground q loose [] XP w s₀ mg mb s₁.heap->YP w s₁.heap ->
   s₁.heap.get? fa=some o->o.data = .func (docDef d.name d.params d.body d.scope pm cd doc)->s₁.heap.CodeRec cd d.name->mg d.name=some (.ref fa) ->
   s₁.heap.get? a=some { cls:=.type "list",data:=.seq vs.toArray }->IntsAre vs ns->ns.length≤n->s₁.gens = #[] ->
   codeAny (model l.prog w) callerA (.call (.ref fa) ⟨[.ref a],[]⟩) (fun r s'=>r = .ok (.ret (.bool true))/\OldK s₁.heap s'.heap/\s'.os=s₁.os/\AllBare s'.gens) s₁) :
  WalkO q loose XP YP l.row.toRowW d [] (fun f vs=>PySem.call f vs):=by
 intro w s₀ s₁ mg mb G Y fa o pm cd doc dV kV ho hd hcd hD hmg hg args vals as hpre hlay hrd hwl hlo
 obtain rfl:dV = .none:=Dflts.none hD hdf
 obtain rfl:kV = .none:=Dflts.noKw hD
 obtain⟨a,vs,ns,rfl,rfl,hobj,hints,hlen⟩:=y93 hn hpre hwl
 refine enter_call (codeAny_mono (call w s₀ s₁ mg mb fa o pm cd doc a vs ns G Y ho (fd_plain hd) hcd hmg hobj hints hlen hg) fun r s' hq=>?_)
 obtain⟨rfl,h2,h3,h4⟩:=hq
 exact⟨.inl ⟨.bool true,.bool true,[],rfl,fun _=>rfl,.bool true,y9F l _,fun _=>⟨List.Pairwise.nil,fun _ hm=>(nomatch hm)⟩⟩,h2,h3,h4⟩
end Att
namespace L2
open PySem PySem.Spec PyProof.Rows
theorem z7W:∀{vs:List Value} {ns:List Int},IntsAre vs ns->Q4 (ns.map V.int) vs
 | _,_,.nil=>.nil
 | _,_,.cons n t h=>.cons ⟨t,rfl⟩ (z7W h)
def j8(s:Stmt):Arguments:=match s with
 | .FunctionDef _ a _ _ _ _ _ _ _ _=>a
 | _=>{ posonlyargs:=[],args:=[],vararg:=none,kwonlyargs:=[],kw_defaults:=[],kwarg:=none,defaults:=[] }
def y8(s:Stmt):List Stmt:=match s with
 | .FunctionDef _ _ b _ _ _ _ _ _ _=>b
 | _=>[]
def z7(s:Stmt):Scope:=match s with
 | .FunctionDef _ _ _ _ _ _ sc _ _ _=>sc
 | _=>{ kind:=.function,names:=[],isGenerator:=false,isCoroutine:=false }
abbrev CX0:CXT:=fun _ _ _ _ _ _=>False
abbrev E0:XK:=fun _ _ _=>False
theorem w30{X:Cx}:x1O CX0 X E0:=fun _ _ _ _ _ _ _ h=>h.elim
structure Fun(K:PySem.W.Frag)(x qual:Str)(st:Stmt)(f:Addr)(fd:FuncData):Prop where
 ex:∃(oc:Value) (od:Option Addr) (kV doc pm:Value) (an:Option Addr) (cdv ct:Value) (osl:Array (Option Value)),
  fd=PySem.W.fnOf x qual (j8 st) (y8 st) (z7 st) .none kV doc pm an cdv ct/\K.lookup f=some ⟨oc,od,.func fd,osl⟩/\PySem.W.codeIn K cdv qual=true
 kp:PySem.W.keepIn K (.ref f)=true
section
variable{P:Program}{w:World}{K:PySem.W.Frag}{mg:Str->Option Value}{base:Heap}
theorem Fun.ok{x qual:Str}{st:Stmt}{f:Addr}{fd:FuncData}{N ps:List Str}{k:Nat}{sp:Sp}(F:Fun K x qual st f fd)(S:FnScope N ps (z7 st))(len:∀vs H Q E,sp vs H Q E->vs.length=ps.length)
  (hbody:∀(cdv:Value) (A:Around) (outer:List Env) (s:Shared) (H:Hp) (vs:List V) (Q:VK) (E:XK),Room k (A.deeper (envOfC qual (z7 st) s.heap.objs.size f cdv))->sp vs H Q E ->
   ∃t,PSs (z47 CX0 P w K mg base N qual (z7 st) f cdv A outer s H E).nox (y8 st) t/\t { nx:=fun _ H'=>Q .non H',rt:=Q } (start N vs) H):FnOk P w K mg base CX0 (k+1) f fd ps sp:=by
 obtain⟨oc,od,kV,doc,pm,an,cdv,ct,osl,rfl,lk,hcd⟩:=F.ex
 refine w1Q lk hcd S len fun A outer s H vs Q E hr hsp=>?_
 obtain⟨t,h,q⟩:=hbody cdv A outer s H vs Q E hr hsp
 exact⟨t,h.nox,q⟩
theorem Fun.binds{x qual:Str}{st:Stmt}{f:Addr}{fd:FuncData}{ps:List Str}(F:Fun K x qual st f fd)(h:∀(kV doc pm:Value) (an:Option Addr) (cdv ct:Value) (us:List Value),us.length=ps.length->bindArgs (PySem.W.fnOf x qual (j8 st) (y8 st) (z7 st) .none kV doc pm an cdv ct) ⟨us,[]⟩=pure (ps.zip us)):y4W K fd ps []:=by
 obtain⟨oc,od,kV,doc,pm,an,cdv,ct,osl,rfl,lk,hcd⟩:=F.ex;exact .all (h kV doc pm an cdv ct)
theorem W8{x qual:Str}{st:Stmt}{f:Addr}{oc:Value}{od an:Option Addr}{osl:Array (Option Value)}{kV doc pm cdv ct:Value}(l:K.lookup f=some ⟨oc,od,.func (PySem.W.fnOf x qual (j8 st) (y8 st) (z7 st) .none kV doc pm an cdv ct),osl⟩)(c:PySem.W.codeIn K cdv qual=true)(k:PySem.W.keepIn K (.ref f)=true):Fun K x qual st f (PySem.W.fnOf x qual (j8 st) (y8 st) (z7 st) .none kV doc pm an cdv ct):=⟨⟨oc,od,kV,doc,pm,an,cdv,ct,osl,rfl,l,c⟩,k⟩
end
theorem x7R{A B:Prop}(h:B):if false=true then A else B:=by
 rw[if_neg Bool.false_ne_true];exact h
theorem x4Z{A B:Prop}(h:A):if true=true then A else B:=by
 rw[if_pos rfl];exact h
def u5(H H':Hp):Prop:=∀b o,H b=some o->H' b=some o
theorem u5.refl(H:Hp):u5 H H:=fun _ _ h=>h
theorem u5.trans{H H1 H2:Hp}(a:u5 H H1)(b:u5 H1 H2):u5 H H2:=fun c o h=>b c o (a c o h)
theorem u5.free{H H':Hp}(e:u5 H H'){l:Addr}(h:H' l=Option.none):H l=Option.none:=by
 cases q:H l with
 | none=>rfl
 | some o =>
  rw[e l o q]at h;cases h
theorem u5.seq{K:PySem.W.Frag}{H H':Hp}{a:Addr}{xs:List V}(e:u5 H H')(h:SqL K H a xs):SqL K H' a xs:=by
 rcases h with (h|⟨o,h⟩)|h
 ·exact .inl (.inl (e _ _ h))
 ·exact .inl (.inr ⟨o,e _ _ h⟩)
 ·exact .inr h
end L2
namespace L3
open PySem PySem.Spec PyProof.Rows L2
abbrev St:=L2.St
section
variable{env:Env}
theorem x19:∀(names:List (Str×NameKind)) (cs:List (Str×Addr)),(∀x∈names,x.2 = .free->∃c,env.cells.lookup x.1=some c) ->
  ∃cl:List (Str×Addr),(forIn names cs (fun (x:Str×NameKind) (r:List (Str×Addr))=>(if (x.2==NameKind.free)=true then do
    let a ←cellOf env x.1
    pure (ForInStep.yield ((x.1,a)::r))
   else pure (ForInStep.yield r):Sem (ForInStep (List (Str×Addr))))):Sem (List (Str×Addr)))=pure cl /\
   (∀x c,cl.lookup x=some c->cs.lookup x=some c∨(env.cells.lookup x=some c/\(x,NameKind.free)∈names)) /\
   (∀x,((x,NameKind.free)∈names∨∃c,cs.lookup x=some c)->∃c,cl.lookup x=some c)
 | [],cs,_=>⟨cs,rfl,fun x c h=>.inl h,fun x h=>by
   rcases h with h|h
   ·simp at h
   ·exact h⟩
 | (n,k)::r,cs,hf=>by
  by_cases hk:k = .free
  ·subst hk;obtain⟨c,hc⟩:=hf (n,.free) List.mem_cons_self rfl
   obtain⟨cl,e,h1,h2⟩:=x19 r ((n,c)::cs) (fun x hx=>hf x (List.mem_cons_of_mem _ hx))
   refine⟨cl,?_,fun x d hd=>?_,fun x hx=>?_⟩
   ·rw[List.forIn_cons]
    have e1:cellOf env n=pure c:=by
     unfold cellOf;rw[hc]
    simp only[beq_self_eq_true,if_true,e1];exact e
   ·rcases h1 x d hd with q|⟨q1,q2⟩
    ·rw[List.lookup_cons]at q
     cases hx:x==n with
     | true =>
      rw[hx]at q
      have ex:x=n:=by simpa using hx
      subst ex;cases q;exact .inr ⟨hc,List.mem_cons_self⟩
     | false=>rw[hx]at q;exact .inl q
    ·exact .inr ⟨q1,List.mem_cons_of_mem _ q2⟩
   ·refine h2 x ?_
    rcases hx with hx|⟨d,hd⟩
    ·rcases List.mem_cons.mp hx with z|z
     ·cases z
      exact .inr ⟨c,by simp[List.lookup_cons]⟩
     ·exact .inl z
    ·refine .inr ?_;rw[List.lookup_cons]
     cases hx:x==n with
     | true=>exact⟨c,rfl⟩
     | false=>exact⟨d,hd⟩
  ·obtain⟨cl,e,h1,h2⟩:=x19 r cs (fun x hx=>hf x (List.mem_cons_of_mem _ hx))
   refine⟨cl,?_,fun x d hd=>?_,fun x hx=>?_⟩
   ·rw[List.forIn_cons]
    have hb:(k==NameKind.free)=false:=by simpa using hk
    simp only[hb,Bool.false_eq_true,if_false];exact e
   ·rcases h1 x d hd with q|⟨q1,q2⟩
    ·exact .inl q
    ·exact .inr ⟨q1,List.mem_cons_of_mem _ q2⟩
   ·refine h2 x ?_
    rcases hx with hx|hx
    ·rcases List.mem_cons.mp hx with z|z
     ·cases z;exact absurd rfl hk
     ·exact .inl z
    ·exact .inr hx
theorem x18{scope:Scope}(hf:∀x∈scope.names,x.2 = .free->∃c,env.cells.lookup x.1=some c) :
  ∃cl,closureFor scope env=pure cl/\(∀x c,cl.lookup x=some c->env.cells.lookup x=some c/\(x,NameKind.free)∈scope.names)/\(∀x,(x,NameKind.free)∈scope.names->∃c,cl.lookup x=some c):=by
 obtain⟨cl,e,h1,h2⟩:=x19 (env:=env) scope.names [] hf
 refine⟨cl,?_,fun x c h=>?_,fun x h=>h2 x (.inl h)⟩
 ·unfold closureFor;have e':=e
  first
   | exact (congrArg (fun m=>m >>= fun cs=>pure cs) e')
   | (simp only[bind_pure];exact e')
   | (show (forIn scope.names [] _ >>= fun cs=>pure cs)=pure cl;rw[e'];rfl)
 ·rcases h1 x c h with q|q
  ·simp at q
  ·exact q
end
section
variable{prog:Program}{w:World}{A:Around}{R:Result->Shared->Prop}{s:Shared}
theorem z6W{elt target iter:Expr}{ifs:List Expr}{scope:Scope}{pos:Pos}{it acc:Value}{env:Env}(I:Nat->Shared->Prop)
  (turn:∀n s,I n s->wpAny (model prog w) A (pyNext it) (fun r s1=>match r with
   | none=>R (.ok .next) s1
   | some v=>wpAny (model prog w) A (letOwnedTupleGo target it v) (fun _ s1'=>wpAny (model prog w) A (assign target env v) (fun _ s2 =>
     wpAny (model prog w) A (forIn ifs true fun c r=>if r=true then do let ok ←isTrue c env (eval c env);pure (ForInStep.yield ok) else pure (ForInStep.yield r)) (fun ok s3 =>
      if ok=true then wpAny (model prog w) A (eval elt env) (fun x s4 =>
       wpAny (model prog w) A (call (.builtin "list.append") [acc,x]) (fun _ s5=>∃m,m<n/\I m s5) (fun _ _=>False) s4) (fun _ _=>False) s3
      else ∃m,m<n/\I m s3) (fun _ _=>False) s2) (fun _ _=>False) s1') (fun _ _=>False) s1) (fun _ _=>False) s)
  (n:Nat) (h:I n s) :
  codeAny (model prog w) A (.compLoop (.ListComp elt [⟨target,iter,ifs,0⟩] scope pos) 0 it acc env) R s:=by
 refine codeAny_loop rfl I (fun n s hI=>?_) n h
 show wpAny _ A ((compTurn (.ListComp elt [⟨target,iter,ifs,0⟩] scope pos) 0 it acc env).onRaise (fun x=>do noteFrame x env;theTreesLotGoes x)) _ _ s
 refine wpAny_noted ?_;rw[compTurn_list]
 refine wpAny_bind (wpAny_standAt (wpAny_bind (wpAny_mono (turn n s hI) (fun r s1 h1=>?_) fun _ _ h'=>h'.elim)))
 cases r with
 | none=>exact wpAny_pure h1
 | some v =>
  refine wpAny_bind (wpAny_mono h1 (fun _ s1' h1'=>?_) fun _ _ h'=>h'.elim)
  refine wpAny_bind (wpAny_mono h1' (fun _ s2 h2=>wpAny_bind (wpAny_mono h2 (fun ok s3 h3=>?_) fun _ _ h'=>h'.elim)) fun _ _ h'=>h'.elim)
  cases ok with
  | false=>exact wpAny_pure ⟨rfl,h3⟩
  | true =>
   exact wpAny_bind (wpAny_bind (wpAny_mono h3 (fun x s4 h4=>wpAny_bind (wpAny_mono h4 (fun _ s5 h5=>wpAny_pure (wpAny_pure ⟨rfl,h5⟩)) fun _ _ h'=>h'.elim)) fun _ _ h'=>h'.elim))
end
abbrev j4(X:Cx)(N:List Str)(scope:Scope)(cl:List (Str×Addr))(C:Addr)(fp:List Addr)(s:Shared)(H:Hp):Cx where
 prog:=X.prog
 w:=X.w
 K:=X.K
 mg:=X.mg
 base:=X.base
 A:=X.A
 N:=N
 s₀:=s
 H₀:=H
 env:=compEnvC scope cl C X.env
 outer:=X.stack
 stack:=X.stack
 ex:=fp
 fn:=fun x=>match scope.names.lookup x with|some .local=>true|some .cell=>true|_=>false
 calm:=X.calm
 pn:=[]
 xe:=fun _ _=>False
structure CellsC(X:Cx)(scope:Scope)(s:Shared)(h1:Heap)(cs:List (Str×Addr)):Prop where
 old:∀x c,cs.lookup x=some c->(X.env.cells.lookup x=some c/\(x,NameKind.free)∈scope.names)∨(s.heap.objs.size<c/\h1.IsCell c none/\(x,NameKind.cell)∈scope.names)
 has:∀x,((x,NameKind.free)∈scope.names∨(x,NameKind.cell)∈scope.names)->∃c,cs.lookup x=some c
 inj:∀x y c,cs.lookup x=some c->cs.lookup y=some c->s.heap.objs.size<c->x=y
theorem z33:∀(names:List (Str×NameKind)) (n:Nat) (acc:List (Str×Addr)) (x:Str),((x,NameKind.cell)∈names∨∃c,acc.lookup x=some c)->∃c,(cellsFrom n names acc).lookup x=some c
 | [],_,_,_,h=>by
  rcases h with h|h
  ·simp at h
  ·exact h
 | (m,k)::r,n,acc,x,h=>by
  unfold cellsFrom;by_cases hk:(k==NameKind.cell)=true
  ·rw[if_pos hk];refine z33 r _ _ x ?_
   rcases h with h|⟨c,h⟩
   ·rcases List.mem_cons.mp h with z|z
    ·cases z
     exact .inr ⟨n,by simp[List.lookup_cons]⟩
    ·exact .inl z
   ·refine .inr ?_;rw[List.lookup_cons]
    cases hx:x==m with
    | true=>exact⟨n,rfl⟩
    | false=>exact⟨c,h⟩
  ·rw[if_neg hk];refine z33 r _ _ x ?_
   rcases h with h|h
   ·rcases List.mem_cons.mp h with z|z
    ·cases z;exact absurd rfl hk
    ·exact .inl z
   ·exact .inr h
theorem z31:∀(names:List (Str×NameKind)) (h:Heap) (acc:List (Str×Addr)) (x:Str) (c:Addr),(cellsFrom h.objs.size names acc).lookup x=some c ->
  acc.lookup x=some c∨(h.objs.size≤c/\(pushCells h names).IsCell c none/\(x,NameKind.cell)∈names)
 | [],_,_,_,_,e=>.inl e
 | (m,k)::r,h,acc,x,c,e=>by
  unfold cellsFrom at e;unfold pushCells;by_cases hk:(k==NameKind.cell)=true
  ·rw[if_pos hk]at e ⊢
   have hk':k=NameKind.cell:=by simpa using hk
   have ih:=z31 r (h.push { cls:=.type "cell",data:=.cell none }) ((m,h.objs.size)::acc) x c (by rw[Heap.size_push];exact e)
   rcases ih with z|⟨z1,z2,z3⟩
   ·rw[List.lookup_cons]at z
    cases hx:x==m with
    | true =>
     rw[hx]at z;cases z
     have:x=m:=by simpa using hx
     subst this
     subst hk'
     exact .inr ⟨Nat.le_refl _,⟨_,pushCells_keeps _ _ _ _ (Heap.get?_push_size _ rfl),rfl⟩,List.mem_cons_self⟩
    | false =>
     rw[hx]at z;exact .inl z
   ·rw[Heap.size_push]at z1
    exact .inr ⟨by omega,z2,List.mem_cons_of_mem _ z3⟩
  ·rw[if_neg hk]at e ⊢
   rcases z31 r h acc x c e with z|⟨z1,z2,z3⟩
   ·exact .inl z
   ·exact .inr ⟨z1,z2,List.mem_cons_of_mem _ z3⟩
theorem z32:∀(names:List (Str×NameKind)) (n:Nat) (acc:List (Str×Addr)),(∀x c,acc.lookup x=some c->c<n)->∀lo,(∀x y c,acc.lookup x=some c->acc.lookup y=some c->lo<c->x=y) ->
  ∀x y c,(cellsFrom n names acc).lookup x=some c->(cellsFrom n names acc).lookup y=some c->lo<c->x=y
 | [],_,_,_,_,hi,x,y,c,e1,e2,hc=>hi x y c e1 e2 hc
 | (m,k)::r,n,acc,hlt,lo,hi,x,y,c,e1,e2,hc=>by
  unfold cellsFrom at e1 e2;by_cases hk:(k==NameKind.cell)=true
  ·rw[if_pos hk]at e1 e2
   have look:∀z d,((m,n)::acc).lookup z=some d->(z=m/\d=n)∨(acc.lookup z=some d):=fun z d e=>by
    rw[List.lookup_cons]at e
    cases hx:z==m with
    | true=>rw[hx]at e;cases e;exact .inl ⟨by simpa using hx,rfl⟩
    | false=>rw[hx]at e;exact .inr e
   refine z32 r (n+1) _ (fun z d e=>?_) lo (fun z1 z2 d f1 f2 hd=>?_) x y c e1 e2 hc
   ·rcases look z d e with⟨_,q⟩|q
    ·rw[q];exact Nat.lt_succ_self n
    ·exact Nat.lt_succ_of_lt (hlt z d q)
   ·rcases look z1 d f1 with⟨q1,q2⟩|q
    ·rcases look z2 d f2 with⟨p1,_⟩|p
     ·rw[q1,p1]
     ·exact absurd (hlt z2 d p) (by rw[q2];exact Nat.lt_irrefl _)
    ·rcases look z2 d f2 with⟨p1,p2⟩|p
     ·exact absurd (hlt z1 d q) (by rw[p2];exact Nat.lt_irrefl _)
     ·exact hi z1 z2 d q p hd
  ·rw[if_neg hk]at e1 e2;exact z32 r n acc hlt lo hi x y c e1 e2 hc
section
variable{M:Model}{A:Around}{E:Value->Shared->Prop}
theorem z56{X:Cx}{scope:Scope}{cl:List (Str×Addr)}{globals:Addr}{qual:Str}{Q:Env->Shared->Prop}{s:Shared}(hcl:∀x c,cl.lookup x=some c->X.env.cells.lookup x=some c/\(x,NameKind.free)∈scope.names)(hcf:∀x,(x,NameKind.free)∈scope.names->∃c,cl.lookup x=some c)(hlt:∀x c,X.env.cells.lookup x=some c->c<s.heap.objs.size)
  (hQ:∀cs h' m,h'.Ns s.heap.objs.size m->(∀b o,s.heap.get? b=some o->h'.get? b=some o)->CellsC X scope s h' cs ->
   Q (newEnv scope s.heap.objs.size globals cs qual none .none (some X.env) builtinsNs) { s with heap:=h',toks:=s.toks+([]:List (Str×Value)).length }) :
  wpAny M A (newFunctionEnv scope globals cl [] qual none .none (some X.env)) Q E s:=by
 simp only[newFunctionEnv,Option.isSome_some,if_true];refine wpAny_bind (wpAny_alloc ?_)
 refine wpAny_bind (wpAny_layCells _ (fun name kind cells=>by cases hkc:kind==NameKind.cell<;>simp[hkc]) _ _ _ _ ?_)
 refine wpAny_bind ?_;rw[List.forIn_nil];refine wpAny_pure (wpAny_pure ?_)
 have hn:∀b o,s.heap.get? b=some o->(pushCells (s.heap.push { cls:=.type "dict",data:=.dict #[] }) scope.names).get? b=some o:=fun b o e=>pushCells_keeps _ _ b o (Heap.get?_push_of_some _ e)
 have sz:(s.heap.push { cls:=.type "dict",data:=.dict #[] }).objs.size=s.heap.objs.size+1:=Heap.size_push ..
 refine hQ _ _ (fun _=>none) ((Heap.Ns.new s.heap (.type "dict")).keeps (pushCells_keeps _ _)) hn ⟨fun x c e=>?_,fun x hx=>?_,fun x y c e1 e2 hc=>?_⟩
 ·rcases z31 scope.names _ cl x c e with z|⟨z1,z2,z3⟩
  ·exact .inl (hcl x c z)
  ·rw[sz]at z1
   exact .inr ⟨by omega,z2,z3⟩
 ·refine z33 _ _ _ x ?_
  rcases hx with hx|hx
  ·exact .inr (hcf x hx)
  ·exact .inl hx
 ·refine z32 scope.names _ cl (fun x c e=>?_) s.heap.objs.size (fun x y c e1 e2 hc=>?_) x y c e1 e2 hc
  ·show c<(s.heap.push { cls:=.type "dict",data:=.dict #[] }).objs.size
   rw[sz];exact Nat.lt_succ_of_lt (hlt x c (hcl x c e).1)
  ·exact absurd (Nat.lt_trans hc (hlt x c (hcl x c e1).1)) (Nat.lt_irrefl _)
end
theorem z29{env:Env}{x:Str}:∀{names:List (Str×NameKind)} {k:NameKind},
  (names.map fun (n,k)=>if (k==NameKind.free&&env.scope.kind==.function&&env.kindOf n==some .cell) then (n,NameKind.cell) else (n,k)).lookup x=some k ->
  (names.lookup x=some k∨(k = .cell/\names.lookup x=some .free))
 | [],_,h=>by simp at h
 | (n,k')::r,k,h=>by
  have ih:=@z29 env x r k;rw[List.map_cons]at h;dsimp only at h;rw[List.lookup_cons]
  cases hx:x==n with
  | true =>
   by_cases hc:(k'==NameKind.free&&env.scope.kind==.function&&env.kindOf n==some .cell)=true
   ·rw[if_pos hc,List.lookup_cons,hx]at h;cases h
    have:k' = .free:=by
     simp only[Bool.and_eq_true,beq_iff_eq]at hc;exact hc.1.1
    subst this;exact .inr ⟨rfl,rfl⟩
   ·rw[if_neg hc,List.lookup_cons,hx]at h;exact .inl h
  | false =>
   by_cases hc:(k'==NameKind.free&&env.scope.kind==.function&&env.kindOf n==some .cell)=true
   ·rw[if_pos hc,List.lookup_cons,hx]at h;exact ih h
   ·rw[if_neg hc,List.lookup_cons,hx]at h;exact ih h
theorem z6P{env:Env}{x:Str}:∀{names:List (Str×NameKind)},names.lookup x=some .free ->
    ((names.map fun (n,k)=>if (k==NameKind.free&&env.scope.kind==.function&&env.kindOf n==some .cell) then (n,NameKind.cell) else (n,k)).lookup x=some .cell ∨
     (names.map fun (n,k)=>if (k==NameKind.free&&env.scope.kind==.function&&env.kindOf n==some .cell) then (n,NameKind.cell) else (n,k)).lookup x=some .free)
  | [],h=>by simp at h
  | (n,k')::r,h=>by
    have ih:=@z6P env x r
    rw[List.map_cons]
    dsimp only
    rw[List.lookup_cons]at h
    cases hx:x==n with
    | true =>
      rw[hx]at h
      cases h
      by_cases hc:((NameKind.free==NameKind.free)&&env.scope.kind==.function&&env.kindOf n==some .cell)=true
      · rw[if_pos hc,List.lookup_cons,hx];exact .inl rfl
      · rw[if_neg hc,List.lookup_cons,hx];exact .inr rfl
    | false =>
      rw[hx]at h
      by_cases hc:(k'==NameKind.free&&env.scope.kind==.function&&env.kindOf n==some .cell)=true
      · rw[if_pos hc,List.lookup_cons,hx];exact ih h
      · rw[if_neg hc,List.lookup_cons,hx];exact ih h
def x1P(X:Cx)(ifs:List Expr)(t:TT):Prop :=
 ∀(pins:List (Addr×Obj)) (s:Shared) (σ:St) (H:Hp) (Q:Bool->Hp->Prop),Inv X pins σ H s->t σ H Q ->
  wpAny (model X.prog X.w) X.A (forIn ifs true fun c r=>if r=true then do let ok ←isTrue c X.env (eval c X.env);pure (ForInStep.yield ok) else pure (ForInStep.yield r)) (TP X pins σ Q) X.xe s
theorem y5K{X:Cx}:x1P X [] (fun _ H Q=>Q true H):=fun _ _ _ H _ I h=>wpAny_tests_nil ⟨H,I,h⟩
theorem x2X{X:Cx}{c:Expr}{t:TT}(h:PT X c t):x1P X [c] t:=fun pins s σ H Q I hw=>wpAny_tests_one (h pins s σ H Q I hw)
def z8Z(cap:List (Option Nat))(σ:St):St:=cap.map fun o=>o.bind fun j=>(σ[j]?).bind id
def x5K(cap:List (Option Nat))(wi:TI)(g:TG)(tt:TT)(te:TE):TE:=fun σ H Q=>wi σ H fun J H1=>∀l,H1 l=none ->
 ∃W:Nat->Nat->St->Hp->List V->Prop,(∃m,W 0 m (z8Z cap σ) (upd H1 l (.lst [])) [])/\∀i m σ' H' acc,W i m σ' H' acc ->
  (J.stop i H'/\Q (.ref l) H') ∨
  (J.go i H'/\acc.length<sizeLine/\∀x H2,J.yld i H' x H2->g x σ' H2 fun σ2 H3=>tt σ2 H3 fun ok H4 =>
   if ok=true then te σ2 H4 fun y H5=>H5 l=some (.lst acc)/\∃m',m'<m/\W (i+1) m' σ2 (upd H5 l (.lst (acc++[y]))) (acc++[y])
   else ∃m',m'<m/\W (i+1) m' σ2 H4 acc)
section
variable{X:Cx}
theorem y68{pins:List (Addr×Obj)}{σ:St}{H:Hp}{s:Shared}{scope:Scope}{cl:List (Str×Addr)}{fp:List Addr}{N:List Str}{cap:List (Option Nat)}{h1:Heap}{tk:Nat}{m:Str->Option Value}(I:Inv X pins σ H s)(hk:scope.kind = .function)(hcell:∀y∈scope.names,y.2 = .cell->scope.names.lookup y.1=some .cell)(hcl:CellsC X scope s h1 cl)(hfr:∀x∈scope.names,x.2 = .free->scope.names.lookup x.1=some .free)(hcap:∀(i j:Nat),cap[i]?=some (some j)->∃x,N[i]?=some x/\X.N[j]?=some x/\scope.names.lookup x=some .free/\(X.env.scope.names.lookup x=some .cell∨X.env.scope.names.lookup x=some .free))(hlen:cap.length=N.length)(hfp:∀b∈fp,y88 X pins H b)(hfo:∀b∈fp,∃o,s.heap.get? b=some o)(hns:h1.Ns s.heap.objs.size m)(keep:∀b o,s.heap.get? b=some o->h1.get? b=some o) :
  Inv (j4 X N scope cl s.heap.objs.size fp s H) [] (z8Z cap σ) H { s with heap:=h1,toks:=tk }:=by
 have kk:∀x,(compEnvC scope cl s.heap.objs.size X.env).kindOf x=(relabel scope X.env).names.lookup x:=fun x=>rfl
 have nost:∀b∈fp,b∉frs X.stack:=fun b hb z=>by
  obtain⟨_,f1,f2,_⟩:=hfp b hb
  rcases List.mem_cons.mp (I.stkSub b z) with e|e
  ·exact f1 e
  ·exact f2 e
 have ltC:∀b∈fp,b<s.heap.objs.size:=fun b hb=>by
  obtain⟨o,e⟩:=hfo b hb;exact Heap.lt_size e
 have lts:∀x c,X.env.cells.lookup x=some c->c<s.heap.objs.size:=fun x c e=>by
  obtain⟨v,o,ho,_⟩:=I.cell x c e;exact Heap.lt_size ho
 have fro:∀x c,(x,NameKind.free)∈scope.names->cl.lookup x=some c->X.env.cells.lookup x=some c:=fun x c hx e=>by
  rcases hcl.old x c e with z|⟨_,_,z⟩
  ·exact z.1
  ·have z1:=hfr _ hx rfl;have z2:=hcell _ z rfl;rw[z1]at z2;cases z2
 have free_of:∀x,((relabel scope X.env).names.lookup x=some .cell∨(relabel scope X.env).names.lookup x=some .free)->((x,NameKind.free)∈scope.names∨(x,NameKind.cell)∈scope.names):=fun x hx=>by
  have nc:∀{k},scope.names.lookup x=some k->(x,k)∈scope.names:=fun h=>PySem.mem_of_lookup h
  rcases hx with hx|hx
  ·rcases z29 hx with z|⟨_,z⟩
   ·exact .inr (nc z)
   ·exact .inl (nc z)
  ·rcases z29 hx with z|⟨z,_⟩
   ·exact .inl (nc z)
   ·cases z
 refine⟨⟨I.ok.mod,hk,I.ok.glob,I.ok.blt,Nat.le_refl _,fun x y c e1 e2=>?inj,fun x hx=>hcl.has x (free_of x hx),fun x c hx e=>?cab,I.ok.hd,I.ok.frames,.inl rfl,fun b hb=>?exf,I.bs,Nat.le_trans I.ok.bsz I.sz,fun b o e hb=>?noex,nost,I.stack,I.stkFree⟩,
  rfl,I.bare,Un.kept keep,⟨m,hns,fun i x v e1 e2 e3=>?loc⟩,fun x c e=>?cell,I.hok.fresh (Nat.le_refl _),fun x c e=>?freeC,fun p hp=>absurd (show p∈([]:List (Addr×Obj)) from hp) (by simp),I.hok.kept keep,?len⟩
 case inj =>
  rcases hcl.old x c e1 with⟨z,_⟩|⟨z,_⟩
  ·rcases hcl.old y c e2 with⟨z',_⟩|⟨z',_⟩
   ·exact I.ok.inj x y c z z'
   ·exact absurd (Nat.lt_trans z' (lts x c z)) (Nat.lt_irrefl _)
  ·exact hcl.inj x y c e1 e2 z
 case freeC =>
  rcases hcl.old x c e with⟨z,_⟩|⟨z,_⟩
  ·exact I.freeC x c z
  ·exact I.hok.fresh (Nat.le_of_lt z)
 case cab =>
  have hx':(match scope.names.lookup x with|some .local=>true|some .cell=>true|_=>false)=true:=hx
  rcases hcl.old x c e with⟨_,z⟩|⟨z,_⟩
  ·have:=hfr _ z rfl
   rw[this]at hx'
   cases hx'
  ·exact Nat.le_of_lt z
 case exf =>
  refine⟨Nat.ne_of_lt (ltC b hb),fun x c e=>?_⟩
  rcases hcl.old x c e with⟨z,_⟩|⟨z,_⟩
  ·exact (hfp b hb).2.2.2.2.1 x c z
  ·intro q;rw[q]at z;exact absurd (Nat.lt_trans z (ltC b hb)) (Nat.lt_irrefl _)
 case noex =>
  obtain⟨_,_,_,f3,_⟩:=hfp b hb
  rcases f3 with z|z
  ·exact I.ok.noex b o e z
  ·exact absurd (Nat.lt_of_lt_of_le (Heap.lt_size (I.ok.bs b o e).1) z) (Nat.lt_irrefl _)
 case loc =>
  have hc:∃j,cap[i]?=some (some j)/\σ[j]?=some (some v):=by
   unfold z8Z at e2;rw[List.getElem?_map]at e2
   cases hci:cap[i]? with
   | none=>rw[hci]at e2;cases e2
   | some o =>
    rw[hci]at e2
    cases o with
    | none=>cases e2
    | some j =>
     refine⟨j,rfl,?_⟩
     have e2':(σ[j]?).bind id=some v:=Option.some.inj e2
     cases hs:σ[j]? with
     | none=>rw[hs]at e2';cases e2'
     | some q =>
      rw[hs]at e2'
      have:q=some v:=e2'
      rw[this]
  obtain⟨j,hj,hv⟩:=hc;obtain⟨y,n1,n2,n3,n4⟩:=hcap i j hj
  have exy:y=x:=by
   have:N[i]?=some x:=e1
   rw[n1]at this;exact Option.some.inj this
  subst exy;obtain⟨mm,hm,hl⟩:=I.loc;obtain⟨u,r,look⟩:=hl j y v n2 hv (.inr n4)
  refine⟨u,r,.inr ⟨z6P n3,?_⟩⟩
  rcases look with⟨k,_⟩|⟨k,c,e,z⟩
  ·have k':X.env.scope.names.lookup y=some .local:=k;rw[k']at n4
   rcases n4 with q|q<;>cases q
  ·obtain⟨c',hc'⟩:=hcl.has y (.inl (PySem.mem_of_lookup n3))
   have:=fro y c' (PySem.mem_of_lookup n3) hc'
   rw[e]at this;cases this;obtain⟨o,ho,hd⟩:=z
   exact⟨c,hc',o,keep _ _ ho,hd⟩
 case cell =>
  rcases hcl.old x c e with⟨z,_⟩|⟨_,z,_⟩
  ·obtain⟨v,o,ho,hd⟩:=I.cell x c z
   exact⟨v,o,keep _ _ ho,hd⟩
  ·exact⟨_,z⟩
 case len =>
  unfold z8Z;rw[List.length_map];exact hlen
theorem y9L{elt target iter:Expr}{ifs:List Expr}{scope:Scope}{pos:Pos}{N:List Str}{cap:List (Option Nat)}{wi:TI}{g:TG}{tt:TT}{te:TE}(hc:X.calm=true)(hi:PI X target iter wi)(hg:∀cl C fp s H,PG (j4 X N scope cl C fp s H) target g)(ht:∀cl C fp s H,x1P (j4 X N scope cl C fp s H) ifs tt)(he:∀cl C fp s H,PE (j4 X N scope cl C fp s H) elt te)(hk:scope.kind = .function)(hcell:∀y∈scope.names,y.2 = .cell->scope.names.lookup y.1=some .cell)(hnames:∀x∈scope.names,x.2 = .local->scope.names.lookup x.1=some .local)(hfr:∀x∈scope.names,x.2 = .free->scope.names.lookup x.1=some .free)(hout:∀x∈scope.names,x.2 = .free->X.env.scope.names.lookup x.1=some .cell∨X.env.scope.names.lookup x.1=some .free)(hcap:∀(i j:Nat),cap[i]?=some (some j)->∃x,N[i]?=some x/\X.N[j]?=some x/\scope.names.lookup x=some .free)(hlen:cap.length=N.length)(hs:∀x,foldedSetIterable iter X.env x=pure x:=by intro _;rfl) :
  PE X (.ListComp elt [⟨target,iter,ifs,0⟩] scope pos) (x5K cap wi g tt te):=by
 intro pins s σ H Q I h
 obtain⟨cl,hclos,hcl,hcf⟩:=x18 (env:=X.env) (scope:=scope) fun x hx hf=>I.ok.has x.1 (hout x hx hf)
 rw[eval_ListComp];refine wpAny_comprehension_free (use:=none) rfl hs hclos hk hnames ?_
 show wpAny _ _ (eval iter X.env) _ _ s
 refine thn (hi pins s σ H _ I h) fun v s1 h1=>thn h1 fun itv s2 h2=>?_
 obtain⟨it,fp,tn,J,H2,rfl,I2,T,st2,f2,hW⟩:=h2;obtain⟨W,⟨m0,w0⟩,turn⟩:=hW s2.heap.objs.size I2.fresh
 refine wpAny_newObj_type (z56 (X:=X) (E:=X.xe) hcl hcf (fun x c e=>by
  obtain⟨v,o,ho,_⟩:=I2.cell x c e
  show c<(Heap.push _ _).objs.size
  rw[Heap.size_push]
  exact Nat.lt_succ_of_lt (Heap.lt_size ho)) (fun cs h4 m4 hns keep0 hcs=>?_))
 dsimp only at hns keep0 ⊢
 have I3:Inv X pins σ (upd H2 s2.heap.objs.size (.lst [])) { s2 with heap:=s2.heap.push { cls:=.type "list",dict:=none,data:=.seq ([]:List Value).toArray } }:=I2.lnew (its:=[]) (t':=s2.toks) .nil (Nat.zero_le _)
 generalize hs3:({ s2 with heap:=s2.heap.push { cls:=.type "list",dict:=none,data:=.seq ([]:List Value).toArray } }:Shared)=s3 at I3
 have hh3:s2.heap.push { cls:=.type "list",dict:=none,data:=.seq ([]:List Value).toArray }=s3.heap:=by rw[←hs3]
 have hsz3:s3.heap.objs.size=s2.heap.objs.size+1:=by rw[←hh3,Heap.size_push]
 rw[hh3]at hns keep0;have keep4:∀b o,s3.heap.get? b=some o->h4.get? b=some o:=keep0
 have hcs':CellsC X scope s3 h4 cs:=⟨fun x c e=>by rw[←hh3];exact hcs.old x c e,hcs.has,fun x y c e1 e2 hc=>hcs.inj x y c e1 e2 (by rw[←hh3]at hc;exact hc)⟩
 have fpn:∀b∈fp,(upd H2 s2.heap.objs.size (.lst [])) b=none/\y88 X pins (upd H2 s2.heap.objs.size (.lst [])) b:=fun b hb=>by
  obtain⟨o,e,_⟩:=T.obj 0 _ st2 b hb;have ne:b≠s2.heap.objs.size:=Nat.ne_of_lt (Heap.lt_size e)
  have z:(upd H2 s2.heap.objs.size (.lst [])) b=none:=by rw[v9 ne];exact (f2 b hb).1
  exact⟨z,z,(f2 b hb).2⟩
 have hfo:∀b∈fp,∃o,s3.heap.get? b=some o:=fun b hb=>by
  obtain⟨o,e,_⟩:=T.obj 0 _ st2 b hb
  exact⟨o,by rw[←hh3];exact Heap.get?_push_of_some _ e⟩
 have I4:∀tk,Inv (j4 X N scope cs s3.heap.objs.size fp s3 (upd H2 s2.heap.objs.size (.lst []))) [] (z8Z cap σ) (upd H2 s2.heap.objs.size (.lst [])) { s3 with heap:=h4,toks:=tk }:=fun tk =>
  y68 I3 hk hcell hcs' hfr (fun i j e=>by
   obtain⟨x,n1,n2,n3⟩:=hcap i j e
   exact⟨x,n1,n2,n3,hout _ (PySem.mem_of_lookup n3) rfl⟩) hlen (fun b hb=>(fpn b hb).2) hfo hns keep4
 have st4:tn 0 h4:=T.keep _ _ _ st2 fun b _ o e=>keep4 b o (by rw[←hh3];exact Heap.get?_push_of_some _ e)
 have stat:∀{H':Hp},(∀b∈fp,H' b=none)->∀b∈fp,y88 (j4 X N scope cs s3.heap.objs.size fp s3 (upd H2 s2.heap.objs.size (.lst []))) [] H' b:=fun {H'} hn b hb=>by
  obtain⟨o,e⟩:=hfo b hb;obtain⟨_,f1,f3,_,f5,_⟩:=f2 b hb
  refine⟨hn b hb,Nat.ne_of_lt (Heap.lt_size e),fun z=>?_,.inl hb,fun x c e=>(hcs'.old x c e).elim (fun z=>f5 x c z.1) (fun z q=>absurd (Heap.lt_size (q▸‹s3.heap.get? b=some o›)) (Nat.not_lt.mpr (Nat.le_of_lt z.1))),fun p hp=>absurd (show p∈([]:List (Addr×Obj)) from hp) (by simp)⟩
  rcases List.mem_cons.mp (I3.stkSub b z) with e'|e'
  ·exact f1 e'
  ·exact f3 e'
 have loop:∀s4:Shared,s4={ s3 with heap:=h4,toks:=s2.toks+([]:List (Str×Value)).length } ->
   codeAny (model X.prog X.w) X.A (.compLoop (.ListComp elt [⟨target,iter,ifs,0⟩] scope pos) 0 (.ref it) (.ref s2.heap.objs.size) (compEnvC scope cs s3.heap.objs.size X.env))
    (compPost (model X.prog X.w) X.A X.xe none (EP X pins σ Q) (.ref s2.heap.objs.size) s3.heap.objs.size) s4:=by
  rintro s4 rfl
  refine z6W (fun n s'=>∃i σ' H' acc,Inv (j4 X N scope cs s3.heap.objs.size fp s3 (upd H2 s2.heap.objs.size (.lst []))) [] σ' H' s'/\tn i s'.heap/\(∀b∈fp,H' b=none)/\W i n σ' H' acc) ?_ m0 ⟨0,_,_,[],I4 _,st4,fun b hb=>(fpn b hb).1,w0⟩
  rintro n s5 ⟨i,σ5,H5,acc,I5,st5,fr5,w5⟩
  rcases turn i n σ5 H5 acc w5 with⟨stop,q⟩|⟨go,hz,step⟩
  ·refine thn (T.done (j4 X N scope cs s3.heap.objs.size fp s3 (upd H2 s2.heap.objs.size (.lst []))) rfl rfl rfl hc i [] s5 σ5 H5 _ I5 (stat fr5) st5 stop) fun r s6 ⟨hr,I6⟩=>?_
   subst hr;obtain⟨m6,hn6,_⟩:=I6.loc
   refine⟨m6,hn6,fun h' sb=>?_⟩
   have neC:∀b u,H5 b=some u->b≠s3.heap.objs.size:=fun b u e z=>by
    subst z
    have:=I6.free
    rw[show H5 s3.heap.objs.size=none from this]at e
    cases e
   refine⟨.ref s2.heap.objs.size,H5,?_,rfl,q⟩
   refine I3.call' (s':={ s6 with heap:=h' }) (ch:=fp) I6.os ?_ (fun b u e=>?_) I6.bare (fun b hb=>?_)
   ·have u6:Un (frs X.stack) fp (upd H2 s2.heap.objs.size (.lst [])) H5 s3.heap s6.heap:=I6.base
    have ex:∀b o,s3.heap.get? b=some o->∀o',s6.heap.get? b=some o'->h'.get? b=some o':=fun b o e o' e'=>(sb.2 b (Nat.ne_of_lt (Heap.lt_size e))).trans e'
    exact⟨fun b o e n hb hx=>ex b o e _ (u6.keep b o e n hb hx),fun b o e n hb hx=>let ⟨sl,z⟩:=u6.slot b o e n hb hx;⟨sl,ex b o e _ z⟩,u6.free,fun b o e hx=>let ⟨o',z⟩:=u6.there b o e hx;⟨o',ex b o e _ z⟩,u6.tups,u6.frzs,u6.tbls⟩
   ·refine (I6.hok b u e).stay (fun c v hc' q'=>(sb.2 c ?_).trans q') (fun _ q'=>q') (fun _ _ q'=>q') fun _ _ _ q'=>q'
    rcases hc' with rfl|hc'
    ·exact neC _ _ e
    ·exact neC _ _ hc'
   ·obtain⟨_,f1,_,f3,f5,f6⟩:=f2 b hb
    exact⟨f3,f1,f5,f6⟩
  ·refine thn (T.item (j4 X N scope cs s3.heap.objs.size fp s3 (upd H2 s2.heap.objs.size (.lst []))) rfl rfl rfl hc i [] s5 σ5 H5 _ I5 (stat fr5) st5 go) fun r s6 ⟨u,hr,h6⟩=>?_
   subst hr
   refine thn h6 fun _ s7 ⟨x,H7,I7,r7,y7,st7,fr7⟩=>?_
   have I7':=I7.pinned (stat fr7) (T.obj _ _ st7)
   refine thn (hg _ _ _ _ _ _ s7 σ5 H7 x u _ I7' r7 (step x H7 y7)) fun _ s8 ⟨σ8,H8,I8,q8⟩=>?_
   refine thn (ht _ _ _ _ _ _ s8 σ8 H8 _ I8 q8) fun ok s9 ⟨H9,I9,q9⟩=>?_
   have again:∀{s':Shared} {σ':St} {H':Hp} {acc':List V} {m':Nat},Inv (j4 X N scope cs s3.heap.objs.size fp s3 (upd H2 s2.heap.objs.size (.lst []))) ([]++z9M fp s7.heap) σ' H' s'->m'<n->W (i+1) m' σ' H' acc' ->
     ∃m,m<n/\∃i σ'' H'' acc,Inv (j4 X N scope cs s3.heap.objs.size fp s3 (upd H2 s2.heap.objs.size (.lst []))) [] σ'' H'' s'/\tn i s'.heap/\(∀b∈fp,H'' b=none)/\W i m σ'' H'' acc:=fun {s' σ' H' acc' m'} I' hm w'=>by
    refine⟨m',hm,i+1,σ',H',acc',I'.unpinned,T.keep _ _ _ st7 fun b hb o e=>(I'.pin (b,o) (List.mem_append_right _ (List.mem_append_right _ (z1L hb e)))).1,fun b hb=>?_,w'⟩
    obtain⟨o,e,d⟩:=T.obj _ _ st7 b hb;exact (I'.pin (b,o) (List.mem_append_right _ (List.mem_append_right _ (z1L hb e)))).2.1
   cases ok with
   | false =>
    rw[if_neg Bool.false_ne_true]at q9;obtain⟨m',hm,w'⟩:=q9;exact again I9 hm w'
   | true =>
    rw[if_pos rfl]at q9
    show wpAny _ _ (eval elt _) _ _ s9
    refine thn (he _ _ _ _ _ _ s9 σ8 H9 _ I9 q9) fun xv s10 ⟨y,H10,I10,r10,hl10,m',hm,w'⟩=>?_
    refine thn (z86 _ s10 σ8 H10 (.ref s2.heap.objs.size) [y] (.ref s2.heap.objs.size) [xv] (fun (_:V) (H':Hp)=>H'=upd H10 s2.heap.objs.size (.lst (acc++[y]))) I10 rfl (.cons r10 .nil) ⟨_,acc,y,rfl,rfl,hl10,hz,rfl⟩) fun _ s11 ⟨_,H11,I11,_,e11⟩=>?_
    have e11':H11=upd H10 s2.heap.objs.size (.lst (acc++[y])):=e11
    subst e11'
    exact again I11 hm w'
 have hx:∀s4:Shared,s4={ s3 with heap:=h4,toks:=s2.toks+([]:List (Str×Value)).length }->tn 0 s4.heap:=by
  rintro s4 rfl
  exact st4
 subst hs3;exact codeAny_compStart_list (loop _ rfl) (T.self X.A 0 _ _ _ (hx _ rfl) (loop _ rfl))
end
inductive D where
 | non
 | bl (b:Bool)
 | int (i:Int)
 | str (x:Str)
 | tup (xs:List D)
 | lst (xs:List D)
 | dct (ks:List Key) (vs:List D)
mutual
def Rep(K:PySem.W.Frag)(H:Hp):D->V->Prop
 | .non,v=>v=V.non
 | .bl b,v=>v=V.bl b
 | .int i,v=>v=V.int i
 | .str x,v=>v=V.str x
 | .tup ds,v=>∃a xs,v=V.ref a/\SqT K H a xs/\u7 K H ds xs
 | .lst ds,v=>∃a xs,v=V.ref a/\SqL K H a xs/\u7 K H ds xs
 | .dct ks ds,v=>∃a kvs,v=V.ref a/\H a=some (HO.dK kvs)/\kvs.map (·.1)=ks/\u7 K H ds (kvs.map (·.2))
def u7(K:PySem.W.Frag)(H:Hp):List D->List V->Prop
 | [],xs=>xs=[]
 | d::ds,xs=>∃v vs,xs=v::vs/\Rep K H d v/\u7 K H ds vs
end
section
variable{K:PySem.W.Frag}{H H':Hp}
theorem v4{ds:List D}{v:V}:Rep K H (.tup ds) v↔∃a xs,v=V.ref a/\SqT K H a xs/\u7 K H ds xs:=by rw[Rep]
theorem j1{ds:List D}{v:V}:Rep K H (.lst ds) v↔∃a xs,v=V.ref a/\SqL K H a xs/\u7 K H ds xs:=by rw[Rep]
theorem z0V{ks:List Key}{ds:List D}{v:V}:Rep K H (.dct ks ds) v↔∃a kvs,v=V.ref a/\H a=some (HO.dK kvs)/\kvs.map (·.1)=ks/\u7 K H ds (kvs.map (·.2)):=by rw[Rep]
theorem x4{i:Int}{v:V}:Rep K H (.int i) v↔v=V.int i:=by rw[Rep]
theorem g8{i:Bool}{v:V}:Rep K H (.bl i) v↔v=V.bl i:=by rw[Rep]
theorem Q7{i:Str}{v:V}:Rep K H (.str i) v↔v=V.str i:=by rw[Rep]
theorem Y3{v:V}:Rep K H .non v↔v=V.non:=by rw[Rep]
theorem g7{xs:List V}:u7 K H [] xs↔xs=[]:=by rw[u7]
theorem v7{d:D}{ds:List D}{xs:List V}:u7 K H (d::ds) xs↔∃v vs,xs=v::vs/\Rep K H d v/\u7 K H ds vs:=by rw[u7]
theorem v3{a:Addr}{xs:List V}(e:u5 H H')(h:SqT K H a xs):SqT K H' a xs:=by
 rcases h with (h|⟨o,h⟩)|h
 ·exact .inl (.inl (e _ _ h))
 ·exact .inl (.inr ⟨o,e _ _ h⟩)
 ·exact .inr h
mutual
theorem Rep.mono(e:u5 H H'):∀{d:D} {v:V},Rep K H d v->Rep K H' d v
 | .non,_,h=>by rw[Y3]at h ⊢;exact h
 | .bl _,_,h=>by rw[g8]at h ⊢;exact h
 | .int _,_,h=>by rw[x4]at h ⊢;exact h
 | .str _,_,h=>by rw[Q7]at h ⊢;exact h
 | .tup ds,_,h=>by
  rw[v4]at h ⊢;obtain⟨a,xs,h1,h2,h3⟩:=h
  exact⟨a,xs,h1,v3 e h2,u7.mono e h3⟩
 | .lst ds,_,h=>by
  rw[j1]at h ⊢;obtain⟨a,xs,h1,h2,h3⟩:=h
  exact⟨a,xs,h1,e.seq h2,u7.mono e h3⟩
 | .dct ks ds,_,h=>by
  rw[z0V]at h ⊢;obtain⟨a,kvs,h1,h2,h3,h4⟩:=h
  exact⟨a,kvs,h1,e _ _ h2,h3,u7.mono e h4⟩
theorem u7.mono(e:u5 H H'):∀{ds:List D} {xs:List V},u7 K H ds xs->u7 K H' ds xs
 | [],_,h=>by rw[g7]at h ⊢;exact h
 | d::ds,_,h=>by
  rw[v7]at h ⊢;obtain⟨v,vs,h1,h2,h3⟩:=h
  exact⟨v,vs,h1,Rep.mono e h2,u7.mono e h3⟩
end
theorem u7.length:∀{ds:List D} {xs:List V},u7 K H ds xs->ds.length=xs.length
 | [],_,h=>by rw[g7]at h;subst h;rfl
 | d::ds,_,h=>by
  rw[v7]at h;obtain⟨v,vs,rfl,_,h3⟩:=h;rw[List.length_cons,List.length_cons,u7.length h3]
theorem u7.get:∀{ds:List D} {xs:List V} {i:Nat} {d:D},u7 K H ds xs->ds[i]?=some d->∃v,xs[i]?=some v/\Rep K H d v
 | [],_,_,_,_,e=>by simp at e
 | d::ds,_,i,d',h,e=>by
  rw[v7]at h;obtain⟨v,vs,rfl,h2,h3⟩:=h
  cases i with
  | zero=>simp at e;subst e;exact⟨v,rfl,h2⟩
  | succ i=>simpa using u7.get (i:=i) h3 (by simpa using e)
theorem u7.at:∀{ds:List D} {xs:List V} {i:Nat} {v:V},u7 K H ds xs->xs[i]?=some v->∃d,ds[i]?=some d/\Rep K H d v
 | [],_,_,_,h,e=>by rw[g7]at h;subst h;simp at e
 | d::ds,_,i,v',h,e=>by
  rw[v7]at h;obtain⟨v,vs,rfl,h2,h3⟩:=h
  cases i with
  | zero=>simp at e;subst e;exact⟨d,rfl,h2⟩
  | succ i=>simpa using u7.at (i:=i) h3 (by simpa using e)
theorem u7.append:∀{ds es:List D} {xs ys:List V},u7 K H ds xs->u7 K H es ys->u7 K H (ds++es) (xs++ys)
 | [],_,_,_,h,h'=>by rw[g7]at h;subst h;exact h'
 | d::ds,_,_,_,h,h'=>by
  rw[v7]at h;obtain⟨v,vs,rfl,h2,h3⟩:=h;exact v7.mpr ⟨v,_,rfl,h2,u7.append h3 h'⟩
theorem u7.one{d:D}{v:V}(h:Rep K H d v):u7 K H [d] [v]:=v7.mpr ⟨v,[],rfl,h,g7.mpr rfl⟩
theorem u7.cons{d:D}{v:V}{ds:List D}{xs:List V}(h:Rep K H d v)(t:u7 K H ds xs):u7 K H (d::ds) (v::xs):=v7.mpr ⟨v,xs,rfl,h,t⟩
theorem u7.nil:u7 K H [] []:=g7.mpr rfl
theorem u7.take:∀{ds:List D} {xs:List V} (n:Nat),u7 K H ds xs->u7 K H (ds.take n) (xs.take n)
 | _,_,0,_=>g7.mpr rfl
 | [],_,n+1,h=>by rw[g7]at h;subst h;exact g7.mpr rfl
 | d::ds,_,n+1,h=>by
  rw[v7]at h;obtain⟨v,vs,rfl,h2,h3⟩:=h;exact u7.cons h2 (u7.take n h3)
theorem u7.drop:∀{ds:List D} {xs:List V} (n:Nat),u7 K H ds xs->u7 K H (ds.drop n) (xs.drop n)
 | _,_,0,h=>h
 | [],_,n+1,h=>by rw[g7]at h;subst h;exact g7.mpr rfl
 | d::ds,_,n+1,h=>by
  rw[v7]at h;obtain⟨v,vs,rfl,h2,h3⟩:=h;exact u7.drop n h3
theorem u7.eraseIdx:∀{ds:List D} {xs:List V} (n:Nat),u7 K H ds xs->u7 K H (ds.eraseIdx n) (xs.eraseIdx n)
 | [],_,n,h=>by rw[g7]at h;subst h;exact g7.mpr rfl
 | d::ds,_,0,h=>by
  rw[v7]at h;obtain⟨v,vs,rfl,h2,h3⟩:=h;exact h3
 | d::ds,_,n+1,h=>by
  rw[v7]at h;obtain⟨v,vs,rfl,h2,h3⟩:=h;exact u7.cons h2 (u7.eraseIdx n h3)
theorem u7.rep{ds:List D}{xs:List V}(h:u7 K H ds xs):∀k:Nat,u7 K H (List.replicate k ds).flatten (List.replicate k xs).flatten
 | 0=>g7.mpr rfl
 | k+1=>by
  rw[List.replicate_succ,List.replicate_succ,List.flatten_cons,List.flatten_cons];exact u7.append h (u7.rep h k)
theorem Q3:∀{ns:List Int} {xs:List V},u7 K H (ns.map D.int) xs↔xs=ns.map V.int
 | [],xs=>by rw[List.map_nil,g7,List.map_nil]
 | n::ns,xs=>by
  rw[List.map_cons,v7,List.map_cons];constructor
  ·rintro ⟨v,vs,rfl,h2,h3⟩
   rw[x4]at h2;rw[Q3]at h3;rw[h2,h3]
  ·rintro rfl
   exact⟨_,_,rfl,x4.mpr rfl,Q3.mpr rfl⟩
end
def j7(Z:List Addr)(H:Hp):Hp:=fun b=>if b∈Z then none else H b
section
variable{Z B:List Addr}{H H':Hp}{a:Addr}{o:HO}
theorem x7T(h:a∈Z):j7 Z H a=none:=if_pos h
theorem Q6(h:a∉Z):j7 Z H a=H a:=if_neg h
theorem z2K(h:j7 Z H a=some o):a∉Z/\H a=some o:=by
 by_cases hz:a∈Z
 ·rw[x7T hz]at h;cases h
 ·rw[Q6 hz]at h;exact⟨hz,h⟩
theorem y4:u5 (j7 Z H) H:=fun b o h=>(z2K h).2
theorem y3(e:u5 H H'):u5 (j7 Z H) (j7 Z H'):=fun b o h=>by
 obtain⟨h1,h2⟩:=z2K h;rw[Q6 h1];exact e b o h2
theorem z12(h:∀b∈B,b∈Z):u5 (j7 Z H) (j7 B H):=fun b o q=>by
 obtain⟨h1,h2⟩:=z2K q
 rw[Q6 fun z=>h1 (h b z)]
 exact h2
theorem z11(hn:H a=none)(e:u5 H H'):u5 (j7 Z H) (j7 (a::Z) H'):=fun b u q=>by
 obtain⟨h1,h2⟩:=z2K q
 have ne:b≠a:=fun z=>by rw[z,hn]at h2;cases h2
 rw[Q6 (by rw[List.mem_cons];exact fun z=>z.elim ne h1)]
 exact e b u h2
theorem z23(h:a∈Z):u5 (j7 Z H) (j7 Z (upd H a o)):=fun b u q=>by
 obtain⟨h1,h2⟩:=z2K q
 have ne:b≠a:=fun z=>h1 (by rw[z];exact h)
 rw[Q6 h1,v9 ne];exact h2
theorem v8(hn:H a=none):u5 H (upd H a o):=fun b u q=>by rw[v9 (K7 q hn)];exact q
theorem z5C{H0:Hp}(hn:H0 a=none)(e:u5 H0 H):u5 H0 (upd H a o):=fun b u q=>by
 have ne:b≠a:=fun z=>by rw[z,hn]at q;cases q
 rw[v9 ne];exact e b u q
end
inductive OC where
 | l (ds:List D)
 | d (ks:List Key) (vs:List D)
inductive Cell where
 | sh (d:D)
 | ow (ds:List D)
 | od (ks:List Key) (vs:List D)
def Cell.oc:Cell->Option OC
 | .sh _=>none
 | .ow ds=>some (.l ds)
 | .od ks vs=>some (.d ks vs)
def OC.cell:OC->Cell
 | .l ds=>.ow ds
 | .d ks vs=>.od ks vs
def OC.dat:OC->D
 | .l ds=>.lst ds
 | .d ks vs=>.dct ks vs
theorem OC.cell_oc(c:OC):c.cell.oc=some c:=by cases c<;>rfl
def x1Q(K:PySem.W.Frag)(H:Hp):OC->HO->Prop
 | .l ds,o=>∃xs,o=HO.lst xs/\u7 K H ds xs
 | .d ks ds,o=>∃kvs,o=HO.dK kvs/\kvs.map (·.1)=ks/\u7 K H ds (kvs.map (·.2))
theorem x1Q.mono{K:PySem.W.Frag}{H H':Hp}(e:u5 H H'):∀{c:OC} {o:HO},x1Q K H c o->x1Q K H' c o
 | .l ds,o,⟨xs,h1,h2⟩=>⟨xs,h1,h2.mono e⟩
 | .d ks ds,o,⟨kvs,h1,h2,h3⟩=>⟨kvs,h1,h2,h3.mono e⟩
theorem x1Q.rep{K:PySem.W.Frag}{H:Hp}{a:Addr}:∀{c:OC} {o:HO},x1Q K H c o->H a=some o->Rep K H c.dat (.ref a)
 | .l ds,o,⟨xs,h1,h2⟩,e=>j1.mpr ⟨a,xs,rfl,SqL.of (by rw[e,h1]),h2⟩
 | .d ks ds,o,⟨kvs,h1,h2,h3⟩,e=>z0V.mpr ⟨a,kvs,rfl,by rw[e,h1],h2,h3⟩
abbrev z9:=List (Option Cell)
def y62:List Str:=["ties_over","queue_pages","hardest_tie","as_laid_on"]
def z89(vs:Array Value):Bool:=match (vs[1]?:Option Value) with|some (.str q _)=>y62.contains q|_=>false
def TB(K:PySem.W.Frag)(H:Hp):Prop:=∀c o vs P,K.lookup c=some o->o.cls = .type "code"->o.data = .fields vs->vs[11]?=some (.ref P)->K.lookup P=none->z89 vs=true ->
 ∃q t,vs[1]?=some (.str q t)/\H P=some (.tbl #[.str q 0])
theorem TB.mono{K:PySem.W.Frag}{H H':Hp}(h:TB K H)(e:u5 H H'):TB K H':=fun c o vs P h1 h2 h3 h4 h5 h6=>let ⟨q,t,e1,e2⟩:=h c o vs P h1 h2 h3 h4 h5 h6;⟨q,t,e1,e _ _ e2⟩
theorem TB.upd{K:PySem.W.Frag}{H:Hp}{a:Addr}{o u:HO}(h:TB K H)(ha:H a=some u)(hu:∀ps,u≠.tbl ps):TB K (upd H a o):=fun c ob vs P h1 h2 h3 h4 h5 h6=>by
 obtain⟨q,t,e1,e2⟩:=h c ob vs P h1 h2 h3 h4 h5 h6
 refine⟨q,t,e1,?_⟩
 rw[v9]
 ·exact e2
 ·rintro rfl
  rw[e2]at ha;exact hu _ (Option.some.inj ha).symm
theorem x1Q.notbl{K:PySem.W.Frag}{H:Hp}:∀{c:OC} {o:HO},x1Q K H c o->∀ps,o≠.tbl ps
 | .l ds,o,⟨xs,h1,_⟩,ps=>by rw[h1];intro z;cases z
 | .d ks ds,o,⟨kvs,h1,_⟩,ps=>by rw[h1];intro z;cases z
structure SR(K:PySem.W.Frag)(B:List Addr)(H0 V0 H:Hp)(Z:List Addr)(σ:St)(ρ:z9):Prop where
 same:u5 H0 H
 tb:TB K H
 vis:u5 V0 (j7 Z H)
 sub:∀b∈B,b∈Z
 zs:∀z∈Z,∃o,H z=some o
 sh:∀(i:Nat) d,ρ[i]?=some (some (.sh d))->∃v,σ[i]?=some (some v)/\Rep K (j7 Z H) d v
 own:∀(i:Nat) (c:OC),ρ[i]?=some (some c.cell)->∃a o,σ[i]?=some (some (.ref a))/\a∈Z/\a∉B/\H0 a=none/\H a=some o/\x1Q K (j7 Z H) c o
 inj:∀(i j:Nat) (c e:OC) a,ρ[i]?=some (some c.cell)->ρ[j]?=some (some e.cell)->σ[i]?=some (some (.ref a))->σ[j]?=some (some (.ref a))->i=j
 len:σ.length=ρ.length
section
variable{K:PySem.W.Frag}{B Z:List Addr}{H0 V0 H H':Hp}{σ:St}{ρ:z9}
theorem SR.ow(r:SR K B H0 V0 H Z σ ρ)(i:Nat)(ds:List D)(h:ρ[i]?=some (some (.ow ds))):∃a xs,σ[i]?=some (some (.ref a))/\a∈Z/\a∉B/\H0 a=none/\H a=some (.lst xs)/\u7 K (j7 Z H) ds xs:=by
 obtain⟨a,o,h1,h2,h3,h4,h5,xs,rfl,h7⟩:=r.own i (.l ds) h
 exact⟨a,xs,h1,h2,h3,h4,h5,h7⟩
theorem SR.od(r:SR K B H0 V0 H Z σ ρ)(i:Nat)(ks:List Key)(ds:List D)(h:ρ[i]?=some (some (.od ks ds))):∃a kvs,σ[i]?=some (some (.ref a))/\a∈Z/\a∉B/\H0 a=none/\H a=some (.dK kvs)/\kvs.map (·.1)=ks/\u7 K (j7 Z H) ds (kvs.map (·.2)):=by
 obtain⟨a,o,h1,h2,h3,h4,h5,kvs,rfl,h7,h8⟩:=r.own i (.d ks ds) h
 exact⟨a,kvs,h1,h2,h3,h4,h5,h7,h8⟩
theorem SR.mono(r:SR K B H0 V0 H Z σ ρ)(e:u5 H H'):SR K B H0 V0 H' Z σ ρ :=
 ⟨r.same.trans e,r.tb.mono e,r.vis.trans (y3 e),r.sub,fun z hz=>let ⟨o,h⟩:=r.zs z hz;⟨o,e _ _ h⟩,
  fun i d h=>let ⟨v,h1,h2⟩:=r.sh i d h;⟨v,h1,h2.mono (y3 e)⟩,
  fun i c h=>let ⟨a,o,h1,h2,hb,h3,h4,h5⟩:=r.own i c h;⟨a,o,h1,h2,hb,h3,e _ _ h4,h5.mono (y3 e)⟩,r.inj,r.len⟩
theorem SR.vis'(r:SR K B H0 V0 H Z σ ρ){V1:Hp}(e:u5 V1 (j7 Z H)):SR K B H0 V1 H Z σ ρ :=
 ⟨r.same,r.tb,e,r.sub,r.zs,r.sh,r.own,r.inj,r.len⟩
theorem SR.newer(r:SR K B H0 V0 H Z σ ρ){a:Addr}(h:H a=none):a∉Z:=fun z=>by
 obtain⟨o,e⟩:=r.zs a z;rw[h]at e;cases e
theorem SR.more(r:SR K B H0 V0 H Z σ ρ){a:Addr}{o:HO}(hn:H a=none)(e:u5 H H')(ha:H' a=some o):SR K B H0 V0 H' (a::Z) σ ρ :=
 ⟨r.same.trans e,r.tb.mono e,r.vis.trans (z11 hn e),fun b hb=>List.mem_cons_of_mem _ (r.sub b hb),fun z hz=>(List.mem_cons.mp hz).elim (fun q=>⟨o,q▸ha⟩) fun q=>let ⟨u,h⟩:=r.zs z q;⟨u,e _ _ h⟩,
  fun i d h=>let ⟨v,h1,h2⟩:=r.sh i d h;⟨v,h1,h2.mono (z11 hn e)⟩,
  fun i c h=>let ⟨b,o,h1,h2,hb,h3,h4,h5⟩:=r.own i c h;⟨b,o,h1,List.mem_cons_of_mem _ h2,hb,h3,e _ _ h4,h5.mono (z11 hn e)⟩,r.inj,r.len⟩
theorem z00{α:Type}{ρ:List (Option α)}{i j:Nat}{x y:α}(q:(ρ.set i (some x))[j]?=some (some y)):(i=j/\x=y/\i<ρ.length)∨(i≠j/\ρ[j]?=some (some y)):=by
 by_cases hj:i=j
 ·subst hj
  have hl:i<ρ.length:=by
   have:=(List.getElem?_eq_some_iff.mp q).1
   rw[List.length_set]at this;exact this
  rw[List.getElem?_set_self hl]at q;cases q;exact .inl ⟨rfl,rfl,hl⟩
 ·rw[List.getElem?_set_ne hj]at q;exact .inr ⟨hj,q⟩
theorem z90{d:D}{c:OC}:Cell.sh d=c.cell->False:=fun e=>by cases c<;>cases e
theorem y6H{c e:OC}(h:c.cell=e.cell):c=e:=by
 have:=congrArg Cell.oc h
 rw[c.cell_oc,e.cell_oc]at this;exact Option.some.inj this
theorem SR.set(r:SR K B H0 V0 H Z σ ρ){i:Nat}{d:D}{v:V}(h:Rep K (j7 Z H) d v):SR K B H0 V0 H Z (σ.set i (some v)) (ρ.set i (some (.sh d))):=by
 refine⟨r.same,r.tb,r.vis,r.sub,r.zs,fun j e q=>?_,fun j c q=>?_,fun j k c e a q1 q2 s1 s2=>?_,by rw[List.length_set,List.length_set];exact r.len⟩
 ·rcases z00 q with⟨rfl,z,hl⟩|⟨hj,q⟩
  ·cases z
   exact⟨v,List.getElem?_set_self (by rw[r.len];exact hl),h⟩
  ·obtain⟨u,h1,h2⟩:=r.sh j e q
   exact⟨u,by rw[List.getElem?_set_ne hj];exact h1,h2⟩
 ·rcases z00 q with⟨_,z,_⟩|⟨hj,q⟩
  ·exact (z90 z).elim
  ·obtain⟨a,o,h1,h2⟩:=r.own j c q
   exact⟨a,o,by rw[List.getElem?_set_ne hj];exact h1,h2⟩
 ·rcases z00 q1 with⟨_,z,_⟩|⟨n1,q1⟩
  ·exact (z90 z).elim
  rcases z00 q2 with⟨_,z,_⟩|⟨n2,q2⟩
  ·exact (z90 z).elim
  rw[List.getElem?_set_ne n1]at s1;rw[List.getElem?_set_ne n2]at s2;exact r.inj j k c e a q1 q2 s1 s2
theorem SR.setO(r:SR K B H0 V0 H Z σ ρ){i:Nat}{c:OC}{a:Addr}{o:HO}(hz:a∈Z)(hb:a∉B)(h0:H0 a=none)(hH:H a=some o)(h:x1Q K (j7 Z H) c o)(hn:∀(j:Nat) (e:OC),ρ[j]?=some (some e.cell)->σ[j]?≠some (some (.ref a))):SR K B H0 V0 H Z (σ.set i (some (.ref a))) (ρ.set i (some c.cell)):=by
 refine⟨r.same,r.tb,r.vis,r.sub,r.zs,fun j e q=>?_,fun j e q=>?_,fun j k fs gs b q1 q2 s1 s2=>?_,by rw[List.length_set,List.length_set];exact r.len⟩
 ·rcases z00 q with⟨_,z,_⟩|⟨hj,q⟩
  ·exact (z90 z.symm).elim
  ·obtain⟨u,h1,h2⟩:=r.sh j e q
   exact⟨u,by rw[List.getElem?_set_ne hj];exact h1,h2⟩
 ·rcases z00 q with⟨rfl,z,hl⟩|⟨hj,q⟩
  ·have:=y6H z
   subst this
   exact⟨a,o,List.getElem?_set_self (by rw[r.len];exact hl),hz,hb,h0,hH,h⟩
  ·obtain⟨a',o',h1,h2⟩:=r.own j e q
   exact⟨a',o',by rw[List.getElem?_set_ne hj];exact h1,h2⟩
 ·rcases z00 q1 with⟨e1,_,hl⟩|⟨n1,q1⟩
  ·rcases z00 q2 with⟨e2,_,_⟩|⟨n2,q2⟩
   ·rw[←e1,←e2]
   ·subst e1
    rw[List.getElem?_set_self (by rw[r.len];exact hl)]at s1
    cases s1;rw[List.getElem?_set_ne n2]at s2;exact absurd s2 (hn k gs q2)
  ·rw[List.getElem?_set_ne n1]at s1
   rcases z00 q2 with⟨e2,_,hl⟩|⟨n2,q2⟩
   ·subst e2
    rw[List.getElem?_set_self (by rw[r.len];exact hl)]at s2
    cases s2;exact absurd s1 (hn j fs q1)
   ·rw[List.getElem?_set_ne n2]at s2;exact r.inj j k fs gs b q1 q2 s1 s2
theorem SR.updC(r:SR K B H0 V0 H Z σ ρ){i:Nat}{c e:OC}{a:Addr}{o:HO}(hi:ρ[i]?=some (some c.cell))(hs:σ[i]?=some (some (.ref a)))(h:x1Q K (j7 Z H) e o) :
  SR K B H0 V0 (upd H a o) Z σ (ρ.set i (some e.cell)):=by
 obtain⟨a',o',s1,hz,hb,h0,hH,hld⟩:=r.own i c hi;rw[hs]at s1;cases s1;have vs:u5 (j7 Z H) (j7 Z (upd H a o)):=z23 hz
 refine⟨z5C h0 r.same,r.tb.upd hH hld.notbl,r.vis.trans vs,r.sub,fun z q=>?_,fun j d q=>?_,fun j f q=>?_,fun j k fs gs b q1 q2 s1 s2=>?_,by rw[List.length_set];exact r.len⟩
 ·by_cases e:z=a
  ·subst e;exact⟨_,x5⟩
  ·obtain⟨o,ho⟩:=r.zs z q
   exact⟨o,by rw[v9 e];exact ho⟩
 ·rcases z00 q with⟨_,z,_⟩|⟨n,q⟩
  ·exact (z90 z.symm).elim
  ·obtain⟨u,h1,h2⟩:=r.sh j d q
   exact⟨u,h1,h2.mono vs⟩
 ·rcases z00 q with⟨rfl,z,_⟩|⟨n,q⟩
  ·have:=y6H z
   subst this
   exact⟨a,o,hs,hz,hb,h0,x5,h.mono vs⟩
  ·obtain⟨b,zs,t1,t2,tb,t3,t4,t5⟩:=r.own j f q
   have ne:b≠a:=fun z=>by
    subst z;exact n (r.inj i j _ _ b hi q hs t1)
   exact⟨b,zs,t1,t2,tb,t3,by rw[v9 ne];exact t4,t5.mono vs⟩
 ·have g:∀{m:Nat} {fs:OC},(ρ.set i (some e.cell))[m]?=some (some fs.cell)->∃fs':OC,ρ[m]?=some (some fs'.cell):=fun {m fs} q=>by
   rcases z00 q with⟨rfl,_,_⟩|⟨_,q⟩
   ·exact⟨c,hi⟩
   ·exact⟨fs,q⟩
  obtain⟨f1,p1⟩:=g q1;obtain⟨f2,p2⟩:=g q2;exact r.inj j k f1 f2 b p1 p2 s1 s2
theorem SR.updO(r:SR K B H0 V0 H Z σ ρ){i:Nat}{ds es:List D}{a:Addr}{ys:List V}(hi:ρ[i]?=some (some (.ow ds)))(hs:σ[i]?=some (some (.ref a)))(h:u7 K (j7 Z H) es ys) :
  SR K B H0 V0 (upd H a (.lst ys)) Z σ (ρ.set i (some (.ow es))):=r.updC (c:=.l ds) (e:=.l es) hi hs ⟨ys,rfl,h⟩
end
def tD(K:PySem.W.Frag)(f:z9->Option D):TE:=fun σ H Q=>∃ρ d B H0 V0 Z,f ρ=some d/\SR K B H0 V0 H Z σ ρ/\∀v H',u5 H H'->Rep K (j7 Z H') d v->Q v H'
def tQ(K:PySem.W.Frag)(f:z9->Option (List D)):TE:=fun σ H Q=>∃ρ ds B H0 V0 Z,f ρ=some ds/\SR K B H0 V0 H Z σ ρ/\∀a xs H',u5 H H'->(SqL K H' a xs∨SqT K (j7 Z H') a xs)->u7 K (j7 Z H') ds xs->Q (.ref a) H'
def tF(K:PySem.W.Frag)(f:z9->Option (List D)):TE:=fun σ H Q=>∃ρ ds B H0 V0 Z,f ρ=some ds/\SR K B H0 V0 H Z σ ρ/\∀a xs H',u5 H H'->H a=none->H' a=some (.lst xs)->u7 K (j7 (a::Z) H') ds xs->Q (.ref a) H'
def tT(K:PySem.W.Frag)(f:z9->Option Bool):TT:=fun σ H Q=>∃ρ b B H0 V0 Z,f ρ=some b/\SR K B H0 V0 H Z σ ρ/\∀H',u5 H H'->Q b H'
def tL(K:PySem.W.Frag)(f:z9->Option (List D)):TA:=fun σ H Q=>∃ρ ds B H0 V0 Z,f ρ=some ds/\SR K B H0 V0 H Z σ ρ/\∀xs H',u5 H H'->u7 K (j7 Z H') ds xs->Q xs H'
structure Walk(K:PySem.W.Frag)(V:Hp)(J:It)(ds:List D):Prop where
 go:∀H',u5 V H'->∀i,i<ds.length->J.go i H'
 yld:∀H',u5 V H'->∀(i:Nat) x H3,J.yld i H' x H3->u5 H' H3/\∀d,ds[i]?=some d->∀Z:List Addr,(∀z∈Z,∃o,H' z=some o)->u5 V (j7 Z H')->Rep K (j7 Z H3) d x
 stop:∀H',u5 V H'->J.stop ds.length H'
def tI(K:PySem.W.Frag)(f:z9->Option (List D)):TI:=fun σ H R=>∃ρ ds B H0 V0 Z,f ρ=some ds/\SR K B H0 V0 H Z σ ρ/\∀J H',u5 H H'->Walk K (j7 Z H') J ds->R J H'
inductive Out where
 | nx (ρ:z9)
 | bk (ρ:z9)
 | ct (ρ:z9)
 | rt (d:D)
def w1W(K:PySem.W.Frag)(B:List Addr)(H0 V0:Hp)(E:Ends):Out->Prop
 | .nx ρ=>∀σ H Z,SR K B H0 V0 H Z σ ρ->E.nx σ H
 | .bk ρ=>∀σ H Z,SR K B H0 V0 H Z σ ρ->E.bk σ H
 | .ct ρ=>∀σ H Z,SR K B H0 V0 H Z σ ρ->E.ct σ H
 | .rt d=>∀v H,u5 H0 H->Rep K (j7 B H) d v->E.rt v H
def tS(K:PySem.W.Frag)(g:z9->Option Out):TS:=fun E σ H=>∃ρ o B H0 V0 Z,g ρ=some o/\SR K B H0 V0 H Z σ ρ/\w1W K B H0 V0 E o
def tG(K:PySem.W.Frag)(h:D->z9->Option z9):TG:=fun v σ H Q=>∃ρ d ρ' B H0 V0 Z,h d ρ=some ρ'/\SR K B H0 V0 H Z σ ρ/\Rep K (j7 Z H) d v/\∀σ',SR K B H0 V0 H Z σ' ρ'->Q σ' H
def tGs(K:PySem.W.Frag)(h:List D->z9->Option z9):TGs:=fun vs σ H Q=>∃ρ ds ρ' B H0 V0 Z,h ds ρ=some ρ'/\SR K B H0 V0 H Z σ ρ/\u7 K (j7 Z H) ds vs/\∀σ',SR K B H0 V0 H Z σ' ρ'->Q σ' H
abbrev SE(X:Cx)(e:Expr)(f:z9->Option D):Prop:=PE X e (tD X.K f)
abbrev SQ(X:Cx)(e:Expr)(f:z9->Option (List D)):Prop:=PE X e (tQ X.K f)
abbrev SF(X:Cx)(e:Expr)(f:z9->Option (List D)):Prop:=PE X e (tF X.K f)
abbrev STt(X:Cx)(e:Expr)(f:z9->Option Bool):Prop:=PT X e (tT X.K f)
abbrev STw(X:Cx)(e:Expr)(f:z9->Option Bool):Prop:=PW X e (tT X.K f)
abbrev SA(X:Cx)(es:List Expr)(f:z9->Option (List D)):Prop:=PA X es (tL X.K f)
abbrev SI(X:Cx)(tg e:Expr)(f:z9->Option (List D)):Prop:=PI X tg e (tI X.K f)
abbrev SS(X:Cx)(st:Stmt)(g:z9->Option Out):Prop:=PS X st (tS X.K g)
abbrev SSs(X:Cx)(st:List Stmt)(g:z9->Option Out):Prop:=PSs X st (tS X.K g)
abbrev SG(X:Cx)(e:Expr)(h:D->z9->Option z9):Prop:=PG X e (tG X.K h)
abbrev SGs(X:Cx)(es:List Expr)(h:List D->z9->Option z9):Prop:=PGs X es (tGs X.K h)
section
variable{X:Cx}{e:Expr}
theorem v5{t t':TE}(h:PE X e t)(w:∀σ H Q,t' σ H Q->t σ H Q):PE X e t':=fun pins s σ H Q I q=>h pins s σ H Q I (w σ H Q q)
theorem z4R{t t':TT}(h:PT X e t)(w:∀σ H Q,t' σ H Q->t σ H Q):PT X e t':=fun pins s σ H Q I q=>h pins s σ H Q I (w σ H Q q)
theorem y9B{t t':TT}(h:PW X e t)(w:∀σ H Q,t' σ H Q->t σ H Q):PW X e t':=fun wh pins s σ H Q I q=>h wh pins s σ H Q I (w σ H Q q)
theorem y9M{es:List Expr}{t t':TA}(h:PA X es t)(w:∀σ H Q,t' σ H Q->t σ H Q):PA X es t':=fun pos pins s σ H Q I q=>h pos pins s σ H Q I (w σ H Q q)
theorem z4S{tg:Expr}{t t':TI}(h:PI X tg e t)(w:∀σ H Q,t' σ H Q->t σ H Q):PI X tg e t':=fun pins s σ H Q I q=>h pins s σ H Q I (w σ H Q q)
theorem z1A{st:Stmt}{t t':TS}(h:PS X st t)(w:∀E σ H,t' E σ H->t E σ H):PS X st t':=fun pins s σ H E I q=>h pins s σ H E I (w E σ H q)
theorem y5I{st:List Stmt}{t t':TS}(h:PSs X st t)(w:∀E σ H,t' E σ H->t E σ H):PSs X st t':=fun pins s σ H E I q=>h pins s σ H E I (w E σ H q)
theorem y9K{t t':TG}(h:PG X e t)(w:∀v σ H Q,t' v σ H Q->t v σ H Q):PG X e t':=fun pins s σ H v u Q I r q=>h pins s σ H v u Q I r (w v σ H Q q)
theorem y5L{es:List Expr}{t t':TGs}(h:PGs X es t)(w:∀v σ H Q,t' v σ H Q->t v σ H Q):PGs X es t':=fun pins s σ H v u Q I r q=>h pins s σ H v u Q I r (w v σ H Q q)
end
def LIM:Nat:=100000
theorem z9S{n:Nat}(h:n≤LIM):n≤sizeLine:=by rw[sizeLine_eq];unfold LIM at h;omega
theorem y5Y{n:Nat}(h:n≤LIM):n<sizeLine:=by rw[sizeLine_eq];unfold LIM at h;omega
def y1(i:Nat):z9->Option D:=fun ρ=>match ρ[i]? with|some (some (.sh d))=>some d|_=>none
def z8X(i:Nat):z9->Option (List D):=fun ρ=>match ρ[i]? with|some (some (.ow ds))=>some ds|_=>none
def dC(d:D):z9->Option D:=fun _=>some d
theorem x14{i:Nat}{ρ:z9}{d:D}(e:y1 i ρ=some d):ρ[i]?=some (some (.sh d)):=by
 unfold y1 at e;split at e
 ·rename_i h;cases e;exact h
 ·cases e
theorem z15{i:Nat}{ρ:z9}{d:List D}(e:z8X i ρ=some d):ρ[i]?=some (some (.ow d)):=by
 unfold z8X at e;split at e
 ·rename_i h;cases e;exact h
 ·cases e
section
variable{X:Cx}
theorem sv(i:Nat){x:Str}{pos:Pos}(hN:X.N[i]?=some x:=by rfl)(hv:Vis X.env.scope x:=by first|exact Or.inl rfl|exact Or.inr (Or.inl rfl)|exact Or.inr (Or.inr rfl))(hd:(x==("__debug__":Str))=false:=by decide)(hcd:(x==("__classdict__":Str))=false:=by decide):SE X (.Name x pos) (y1 i) :=
 v5 (z82 hN hv hd hcd) fun σ H Q ⟨ρ,d,B,H0,V0,Z,e,r,q⟩=>by
  obtain⟨v,h1,h2⟩:=r.sh i d (x14 e)
  exact⟨v,h1,q v H (u5.refl H) h2⟩
theorem qv(i:Nat){x:Str}{pos:Pos}(hN:X.N[i]?=some x:=by rfl)(hv:Vis X.env.scope x:=by first|exact Or.inl rfl|exact Or.inr (Or.inl rfl)|exact Or.inr (Or.inr rfl))(hd:(x==("__debug__":Str))=false:=by decide)(hcd:(x==("__classdict__":Str))=false:=by decide):SQ X (.Name x pos) (z8X i) :=
 v5 (z82 hN hv hd hcd) fun σ H Q ⟨ρ,ds,B,H0,V0,Z,e,r,q⟩=>by
  obtain⟨a,xs,h1,h2,hb,h3,h4,h5⟩:=r.ow i ds (z15 e)
  exact⟨.ref a,h1,q a xs H (u5.refl H) (.inl (SqL.of h4)) h5⟩
theorem w20{e:Expr}{d:D}{v:V}(h:PE X e (tC v))(hr:∀H,Rep X.K H d v):SE X e (dC d) :=
 v5 h fun σ H Q ⟨ρ,d',B,H0,V0,Z,e,r,q⟩=>by
  cases e;exact q v H (u5.refl H) (hr _)
theorem x9Z{i j pos}:SE X (.Constant (.int i) j pos) (dC (.int i)):=w20 w11 fun _=>x4.mpr rfl
theorem w2N{b j pos}:SE X (.Constant (.bool b) j pos) (dC (.bl b)):=w20 w2Z fun _=>g8.mpr rfl
theorem x9T{j pos}:SE X (.Constant .none j pos) (dC .non):=w20 w0Z fun _=>Y3.mpr rfl
theorem x9Q{x j pos}:SE X (.Constant (.str x) j pos) (dC (.str x)):=w20 w0V fun _=>Q7.mpr rfl
end
def dSq(f:z9->Option D):z9->Option (List D):=fun ρ=>match f ρ with|some (.lst ds)=>some ds|some (.tup ds)=>some ds|_=>none
def dLs(f:z9->Option (List D)):z9->Option D:=fun ρ=>(f ρ).map D.lst
section
variable{X:Cx}{e:Expr}
theorem w4B{f:z9->Option D}(h:SE X e f):SQ X e (dSq f) :=
 v5 h fun σ H Q ⟨ρ,ds,B,H0,V0,Z,e,r,q⟩=>by
  unfold dSq at e;split at e
  ·rename_i es he;cases e
   exact⟨ρ,_,B,H0,V0,Z,he,r,fun v H' s hr=>by
    obtain⟨a,xs,rfl,h2,h3⟩:=j1.mp hr
    exact q a xs H' s (.inl (y4.seq h2)) h3⟩
  ·rename_i es he;cases e
   exact⟨ρ,_,B,H0,V0,Z,he,r,fun v H' s hr=>by
    obtain⟨a,xs,rfl,h2,h3⟩:=v4.mp hr
    exact q a xs H' s (.inr h2) h3⟩
  ·cases e
theorem w4K{f:z9->Option (List D)}(h:SF X e f):SE X e (dLs f) :=
 v5 h fun σ H Q ⟨ρ,d,B,H0,V0,Z,e,r,q⟩=>by
  unfold dLs at e;obtain⟨ds,he,rfl⟩:=Option.map_eq_some_iff.mp e
  refine⟨ρ,ds,B,H0,V0,Z,he,r,fun a xs H' s hn ha hr=>q _ H' s (j1.mpr ⟨a,xs,rfl,SqL.of ?_,hr.mono (z12 fun b hb=>List.mem_cons_of_mem _ hb)⟩)⟩
  rw[Q6 (r.newer hn)];exact ha
theorem f_q{f:z9->Option (List D)}(h:SF X e f):SQ X e f :=
 v5 h fun σ H Q ⟨ρ,ds,B,H0,V0,Z,e,r,q⟩ =>
  ⟨ρ,ds,B,H0,V0,Z,e,r,fun a xs H' s hn ha hr=>q a xs H' s (.inl (SqL.of ha)) (hr.mono (z12 fun b hb=>List.mem_cons_of_mem _ hb))⟩
end
def z4J(K:PySem.W.Frag)(r:R2)(g:D->D->Option D):Prop :=
 ∀x y d,g x y=some d->∀(Z:List Addr) (H:Hp) (u v:V) (Q:VK),(∀z∈Z,∃o,H z=some o)->Rep K (j7 Z H) x u->Rep K (j7 Z H) y v->(∀w' H',u5 H H'->Rep K (j7 Z H') d w'->Q w' H')->r u v H Q
def d2(g:D->D->Option D)(fa fb:z9->Option D):z9->Option D:=fun ρ=>match fa ρ with|some x=>(match fb ρ with|some y=>g x y|none=>none)|none=>none
def x9(f:z9->Option D):z9->Option Bool:=fun ρ=>match f ρ with|some (.bl b)=>some b|_=>none
theorem x17{g:D->D->Option D}{fa fb:z9->Option D}{ρ:z9}{d:D}(e:d2 g fa fb ρ=some d):∃x y,fa ρ=some x/\fb ρ=some y/\g x y=some d:=by
 unfold d2 at e;split at e
 ·rename_i x hx;split at e
  ·rename_i y hy
   exact⟨x,y,hx,hy,e⟩
  ·cases e
 ·cases e
section
variable{X:Cx}{a b c:Expr}{fa fb fc:z9->Option D}{pos:Pos}
theorem y4O{K:PySem.W.Frag}{r:R2}{g:D->D->Option D}(hr:z4J K r g):∀σ H Q,tD K (d2 g fa fb) σ H Q->tOp r (tD K fa) (tD K fb) σ H Q :=
 fun σ H Q ⟨ρ,d,B,H0,V0,Z,e,r,q⟩=>by
  obtain⟨x,y,ex,ey,e⟩:=x17 e
  exact⟨ρ,x,B,H0,V0,Z,ex,r,fun u H1 s1 r1=>⟨ρ,y,B,H0,V0,Z,ey,r.mono s1,fun v H2 s2 r2 =>
   hr x y d e Z H2 u v Q ((r.mono s1).mono s2).zs (r1.mono (y3 s2)) r2 fun w' H' s rr=>q w' H' (s1.trans (s2.trans s)) rr⟩⟩
theorem z59{K:PySem.W.Frag}{f:z9->Option D}:∀σ H Q,tT K (x9 f) σ H Q->tD K f σ H (fun x H'=>∃k,x = .bl k/\Q k H') :=
 fun σ H Q ⟨ρ,b,B,H0,V0,Z,e,r,q⟩=>by
  unfold x9 at e;split at e
  ·rename_i b' hb;cases e
   exact⟨ρ,_,B,H0,V0,Z,hb,r,fun v H' s rr=>⟨b,g8.mp rr,q H' s⟩⟩
  ·cases e
theorem y23{op:Operator}{r:R2}{g:D->D->Option D}(ho:OpR X (binaryOp op) r)(hr:z4J X.K r g)(ha:SE X a fa)(hb:SE X b fb):SE X (.BinOp a op b pos) (d2 g fa fb) :=
 v5 (w0W ho ha hb) (y4O hr)
theorem x4B{op:CmpOp}{r:R2}{g:D->D->Option D}(ho:OpR X (compareOp op) r)(hr:z4J X.K r g)(ha:SE X a fa)(hb:SE X b fb)(hm:behindInMarks op b=false):SE X (.Compare a [op] [b] pos) (d2 g fa fb) :=
 v5 (x71 ho ha hb hm) (y4O hr)
theorem y1V{op:CmpOp}{r:R2}{g:D->D->Option D}(ho:OpR X (compareOp op) r)(hr:z4J X.K r g)(ha:SE X a fa)(hb:SE X b fb)(hm:behindInMarks op b=false):STt X (.Compare a [op] [b] pos) (x9 (d2 g fa fb)) :=
 z4R (y42 ho ha hb hm) fun σ H Q h=>y4O hr _ _ _ (z59 σ H Q h)
theorem x91{f:z9->Option D}(h:SE X a f)(he:∀whole,isTrue a X.env whole=(do let v ←whole;standAt a.pos;holding [v] (truthy v)):=by intro _;rfl):STt X a (x9 f) :=
 z4R (w0M h he) fun σ H Q h=>z59 σ H Q h
def z0P(g g':D->D->Option D)(fa fb fc:z9->Option D):z9->Option D:=fun ρ=>match fa ρ with
 | some x=>(match fb ρ with
  | some y=>(match g x y with
   | some (.bl true)=>(match fc ρ with|some z=>g' y z|none=>none)
   | some (.bl false)=>some (.bl false)
   | _=>none)
  | none=>none)
 | none=>none
theorem y30{K:PySem.W.Frag}{r r':R2}{g g':D->D->Option D}(hr:z4J K r g)(hr':z4J K r' g'):∀σ H Q,tD K (z0P g g' fa fb fc) σ H Q->y8T r r' (tD K fa) (tD K fb) (tD K fc) σ H Q :=
 fun σ H Q ⟨ρ,d,B,H0,V0,Z,e,r,q⟩=>by
  unfold z0P at e;split at e
  ·rename_i x ex;split at e
   ·rename_i y ey
    refine⟨ρ,x,B,H0,V0,Z,ex,r,fun u H1 s1 r1=>⟨ρ,y,B,H0,V0,Z,ey,r.mono s1,fun v H2 s2 r2=>?_⟩⟩
    have R2:=(r.mono s1).mono s2;split at e
    ·rename_i eg;split at e
     ·rename_i z ez
      refine hr x y _ eg Z H2 u v _ R2.zs (r1.mono (y3 s2)) r2 fun k H3 s3 r3=>⟨true,g8.mp r3,x4Z ?_⟩
      exact⟨ρ,z,B,H0,V0,Z,ez,R2.mono s3,fun w' H4 s4 r4=>hr' y z d e Z H4 v w' Q ((R2.mono s3).mono s4).zs (r2.mono (y3 (s3.trans s4))) r4 fun k' H5 s5 r5 =>
       q k' H5 (s1.trans (s2.trans (s3.trans (s4.trans s5)))) r5⟩
     ·cases e
    ·rename_i eg;cases e
     exact hr x y _ eg Z H2 u v _ R2.zs (r1.mono (y3 s2)) r2 fun k H3 s3 r3=>⟨false,g8.mp r3,x7R (q _ H3 (s1.trans (s2.trans s3)) (g8.mpr rfl))⟩
    ·cases e
   ·cases e
  ·cases e
theorem x2N{op op':CmpOp}{r r':R2}{g g':D->D->Option D}(ho:OpR X (compareOp op) r)(hr:z4J X.K r g)(ho':OpR X (compareOp op') r')(hr':z4J X.K r' g')(ha:SE X a fa)(hb:SE X b fb)(hc:SE X c fc)(hm:lastMarks [op,op'] [b,c]=false:=by with_unfolding_all rfl):SE X (.Compare a [op,op'] [b,c] pos) (z0P g g' fa fb fc) :=
 v5 (x34 ho ho' ha hb hc hm) (y30 hr hr')
theorem x26{op op':CmpOp}{r r':R2}{g g':D->D->Option D}(ho:OpR X (compareOp op) r)(hr:z4J X.K r g)(ho':OpR X (compareOp op') r')(hr':z4J X.K r' g')(ha:SE X a fa)(hb:SE X b fb)(hc:SE X c fc)(hm:lastMarks [op,op'] [b,c]=false:=by with_unfolding_all rfl):STt X (.Compare a [op,op'] [b,c] pos) (x9 (z0P g g' fa fb fc)) :=
 z4R (x2V ho ho' ha hb hc hm) fun σ H Q h=>y30 hr hr' _ _ _ (z59 σ H Q h)
def x53(fa fb:z9->Option D):z9->Option D:=fun ρ=>match fa ρ with|some (.bl true)=>fb ρ|some (.bl false)=>some (.bl false)|_=>none
def w21(fa:z9->Option D):z9->Option D:=fun ρ=>match fa ρ with|some (.bl b)=>some (.bl (!b))|_=>none
def z7A(fa fb:z9->Option Bool):z9->Option Bool:=fun ρ=>match fa ρ with|some true=>fb ρ|some false=>some false|none=>none
def y3G(fa fb:z9->Option Bool):z9->Option Bool:=fun ρ=>match fa ρ with|some true=>some true|some false=>fb ρ|none=>none
def z1X(fa:z9->Option Bool):z9->Option Bool:=fun ρ=>(fa ρ).map (!·)
variable{rest:List Expr}
theorem x9R{op}{f:z9->Option D}(h:SE X a f):SE X (.BoolOp op [a] pos) f:=w0X h
theorem w01(ha:SE X a fa)(hb:SE X (.BoolOp .And (b::rest) pos) fb):SE X (.BoolOp .And (a::b::rest) pos) (x53 fa fb) :=
 v5 (w12 ha hb) fun σ H Q ⟨ρ,d,B,H0,V0,Z,e,r,q⟩=>by
  unfold x53 at e;split at e
  ·rename_i ea
   exact⟨ρ,_,B,H0,V0,Z,ea,r,fun u H1 s1 r1=>⟨true,g8.mp r1,x4Z ⟨ρ,d,B,H0,V0,Z,e,r.mono s1,fun v H' s rr=>q v H' (s1.trans s) rr⟩⟩⟩
  ·rename_i ea;cases e
   exact⟨ρ,_,B,H0,V0,Z,ea,r,fun u H1 s1 r1=>⟨false,g8.mp r1,x7R (q _ H1 s1 (g8.mpr rfl))⟩⟩
  ·cases e
theorem x9S(ha:SE X a fa):SE X (.UnaryOp .Not a pos) (w21 fa) :=
 v5 (w0Y ha) fun σ H Q ⟨ρ,d,B,H0,V0,Z,e,r,q⟩=>by
  unfold w21 at e;split at e
  ·rename_i b' ea;cases e
   exact⟨ρ,_,B,H0,V0,Z,ea,r,fun u H1 s1 r1=>⟨b',g8.mp r1,q _ H1 s1 (g8.mpr rfl)⟩⟩
  ·cases e
variable{ga gb:z9->Option Bool}
theorem x5L(ha:STt X a ga):STw X (.BoolOp .And [a] pos) ga:=x6O ha
theorem x8Z(ha:STt X a ga):STw X (.BoolOp .Or [a] pos) ga:=w0J ha
theorem x90(ha:STt X a ga)(hb:STw X (.BoolOp .And (b::rest) pos) gb):STw X (.BoolOp .And (a::b::rest) pos) (z7A ga gb) :=
 y9B (w0L ha hb) fun σ H Q ⟨ρ,d,B,H0,V0,Z,e,r,q⟩=>by
  unfold z7A at e;split at e
  ·rename_i ea
   exact⟨ρ,_,B,H0,V0,Z,ea,r,fun H1 s1=>x4Z ⟨ρ,d,B,H0,V0,Z,e,r.mono s1,fun H' s=>q H' (s1.trans s)⟩⟩
  ·rename_i ea;cases e
   exact⟨ρ,_,B,H0,V0,Z,ea,r,fun H1 s1=>x7R (q H1 s1)⟩
  ·cases e
theorem w2B(ha:STt X a ga)(hb:STw X (.BoolOp .Or (b::rest) pos) gb):STw X (.BoolOp .Or (a::b::rest) pos) (y3G ga gb) :=
 y9B (w2T ha hb) fun σ H Q ⟨ρ,d,B,H0,V0,Z,e,r,q⟩=>by
  unfold y3G at e;split at e
  ·rename_i ea;cases e
   exact⟨ρ,_,B,H0,V0,Z,ea,r,fun H1 s1=>x4Z (q H1 s1)⟩
  ·rename_i ea
   exact⟨ρ,_,B,H0,V0,Z,ea,r,fun H1 s1=>x7R ⟨ρ,d,B,H0,V0,Z,e,r.mono s1,fun H' s=>q H' (s1.trans s)⟩⟩
  ·cases e
theorem w45(h:STw X a ga):STt X a ga:=PW.pt h
theorem x92(ha:STt X a ga):STt X (.UnaryOp .Not a pos) (z1X ga) :=
 z4R (w0N ha) fun σ H Q ⟨ρ,d,B,H0,V0,Z,e,r,q⟩=>by
  unfold z1X at e;obtain⟨b',eb,rfl⟩:=Option.map_eq_some_iff.mp e
  exact⟨ρ,b',B,H0,V0,Z,eb,r,fun H1 s1=>q H1 s1⟩
def dIf(fc:z9->Option Bool)(fa fb:z9->Option D):z9->Option D:=fun ρ=>match fc ρ with|some true=>fa ρ|some false=>fb ρ|none=>none
theorem w2K(hc:STt X c ga)(ha:SE X a fa)(hb:SE X b fb):SE X (.IfExp c a b pos) (dIf ga fa fb) :=
 v5 (x32 hc ha hb) fun σ H Q ⟨ρ,d,B,H0,V0,Z,e,r,q⟩=>by
  unfold dIf at e;split at e
  ·rename_i ea
   exact⟨ρ,_,B,H0,V0,Z,ea,r,fun H1 s1=>x4Z ⟨ρ,d,B,H0,V0,Z,e,r.mono s1,fun v H' s rr=>q v H' (s1.trans s) rr⟩⟩
  ·rename_i ea
   exact⟨ρ,_,B,H0,V0,Z,ea,r,fun H1 s1=>x7R ⟨ρ,d,B,H0,V0,Z,e,r.mono s1,fun v H' s rr=>q v H' (s1.trans s) rr⟩⟩
  ·cases e
end
def x4M:Expr->Bool
 | .Starred _ _=>false
 | _=>true
theorem y2{e:Expr}{es:List Expr}{env:Env}(h:x4M e=true):starEach (e::es) env=(false,eval e env)::starEach es env:=by
 cases e<;>first|(cases h;done)|(rw[starEach];intro _ _ z;cases z)|rw[starEach]
theorem x6{pos:Pos}{env:Env}:∀{es:List Expr},es.all x4M=true->(backTo pos (starEach es env)).any (·.1)=false
 | [],_=>rfl
 | e::es,h=>by
  rw[List.all_cons,Bool.and_eq_true]at h;rw[y2 h.1];have ih:=@x6 pos env es h.2;unfold backTo at ih ⊢;rw[List.map_cons,List.any_cons,ih];rfl
def j0:z9->Option (List D):=fun _=>some []
def z6(f:z9->Option D)(g:z9->Option (List D)):z9->Option (List D):=fun ρ=>match f ρ with|some d=>(match g ρ with|some ds=>some (d::ds)|none=>none)|none=>none
section
variable{X:Cx}{e:Expr}{es:List Expr}{f:z9->Option D}{g:z9->Option (List D)}{pos:Pos}
theorem z9L:SA X [] j0:=y9M W4 fun σ H Q ⟨ρ,ds,B,H0,V0,Z,e,r,q⟩=>by
 cases e;exact q [] H (u5.refl H) u7.nil
theorem z27(ha:SE X e f)(hr:SA X es g)(hs:starEach (e::es) X.env=(false,eval e X.env)::starEach es X.env:=by exact y2 rfl):SA X (e::es) (z6 f g) :=
 y9M (J9 ha hr hs) fun σ H Q ⟨ρ,ds,B,H0,V0,Z,e,r,q⟩=>by
  unfold z6 at e;split at e
  ·rename_i d ed;split at e
   ·rename_i ds' eds;cases e
    exact⟨ρ,d,B,H0,V0,Z,ed,r,fun v H1 s1 r1=>⟨ρ,ds',B,H0,V0,Z,eds,r.mono s1,fun vs H2 s2 r2=>q (v::vs) H2 (s1.trans s2) (u7.cons (r1.mono (y3 s2)) r2)⟩⟩
   ·cases e
  ·cases e
def z1Q(g:z9->Option (List D)):z9->Option D:=fun ρ=>match g ρ with|some ds=>if ds.length≤LIM then some (.tup ds) else none|none=>none
def y14(g:z9->Option (List D)):z9->Option (List D):=fun ρ=>match g ρ with|some ds=>if ds.length≤LIM then some ds else none|none=>none
theorem x9O{x1}(h:SA X es g):SE X (.Tuple es x1 pos) (z1Q g) :=
 v5 (w0U h) fun σ H Q ⟨ρ,d,B,H0,V0,Z,e,r,q⟩=>by
  unfold z1Q at e;split at e
  ·rename_i ds eds;split at e
   ·rename_i hl;cases e
    refine⟨ρ,ds,B,H0,V0,Z,eds,r,fun xs H1 s1 r1=>⟨z9S (by rw[←r1.length];exact hl),fun p hp=>?_⟩⟩
    have sn:=v8 (o:=HO.tup xs) hp;refine q _ _ (s1.trans sn) (v4.mpr ⟨p,xs,rfl,SqT.of ?_,r1.mono (y3 sn)⟩);rw[Q6 ((r.mono s1).newer hp)];exact x5
   ·cases e
  ·cases e
theorem x9M(h:SA X es g):SF X (.List es pos) (y14 g) :=
 v5 (w10 h) fun σ H Q ⟨ρ,d,B,H0,V0,Z,e,r,q⟩=>by
  unfold y14 at e;split at e
  ·rename_i ds eds;split at e
   ·rename_i hl;cases e
    refine⟨ρ,_,B,H0,V0,Z,eds,r,fun xs H1 s1 r1=>⟨z9S (by rw[←r1.length];exact hl),fun p hp=>?_⟩⟩
    exact q p xs _ (s1.trans (v8 hp)) (s1.free hp) x5 (r1.mono (z11 hp (v8 hp)))
   ·cases e
  ·cases e
def spD(K:PySem.W.Frag)(F:List D->Option D):Sp:=fun vs H Q _=>∃Z ds d,(TB K H/\∀z∈Z,∃o,H z=some o)/\u7 K (j7 Z H) ds vs/\F ds=some d/\∀v H',u5 H H'->Rep K (j7 Z H') d v->Q v H'
def w6(F:List D->Option D)(g:z9->Option (List D)):z9->Option D:=fun ρ=>match g ρ with|some ds=>F ds|none=>none
theorem x6E{k:Nat}{f':Addr}{fd:FuncData}{ps:List Str}{F:List D->Option D}{x:Str}{p:Pos}(G:FnOk X.prog X.w X.K X.mg X.base CX0 k f' fd ps (spD X.K F))(hr:Room k X.A)(hm:X.mg x=some (.ref f'))(hk:PySem.W.keepIn X.K (.ref f')=true)(hb:y4W X.K fd ps [])(ha:SA X (e::es) g)(hg:Gl X x:=by rfl)(hdb:(x==("__debug__":Str))=false:=by decide)(he:starEach (e::es) X.env=(false,eval e X.env)::starEach es X.env:=by exact y2 rfl)(hpl:(backTo pos (starEach es X.env)).any (·.1)=false:=by exact x6 rfl) :
  SE X (.Call (.Name x p) (e::es) [] pos) (w6 F g) :=
 v5 (x72 G hr hg hm hk hb .nil w30 ha hdb he hpl) fun σ H Q ⟨ρ,d,B,H0,V0,Z,e,r,q⟩=>by
  unfold w6 at e;split at e
  ·rename_i ds eds
   refine⟨ρ,ds,B,H0,V0,Z,eds,r,fun vs H1 s1 r1=>?_⟩
   show spD X.K F (vs++[]) H1 Q E0
   rw[List.append_nil]
   exact⟨Z,ds,d,⟨(r.mono s1).tb,(r.mono s1).zs⟩,r1,e,fun v H' s rr=>q v H' (s1.trans s) rr⟩
  ·cases e
end
def W5(g k:z9->Option Out):z9->Option Out:=fun ρ=>match g ρ with|some (.nx ρ')=>k ρ'|o=>o
def z0S:z9->Option Out:=fun ρ=>some (.nx ρ)
def z14(f:z9->Option D):z9->Option Out:=fun ρ=>match f ρ with|some d=>some (.rt d)|none=>none
def z4Y(c:z9->Option Bool)(g k:z9->Option Out):z9->Option Out:=fun ρ=>match c ρ with|some true=>g ρ|some false=>k ρ|none=>none
def z1B(i:Nat)(f:z9->Option D):z9->Option Out:=fun ρ=>match f ρ with|some d=>some (.nx (ρ.set i (some (.sh d))))|none=>none
def y12(i:Nat)(f:z9->Option (List D)):z9->Option Out:=fun ρ=>match f ρ with|some d=>some (.nx (ρ.set i (some (.ow d))))|none=>none
def dAsg(f:z9->Option D)(h:D->z9->Option z9):z9->Option Out:=fun ρ=>match f ρ with|some d=>(match h d ρ with|some ρ'=>some (.nx ρ')|none=>none)|none=>none
def w9(i:Nat):D->z9->Option z9:=fun d ρ=>some (ρ.set i (some (.sh d)))
def z78:List D->z9->Option z9:=fun ds ρ=>match ds with|[]=>some ρ|_=>none
def z04(h:D->z9->Option z9)(k:List D->z9->Option z9):List D->z9->Option z9:=fun ds ρ=>match ds with|d::r=>(match h d ρ with|some ρ'=>k r ρ'|none=>none)|[]=>none
def z77(n:Nat)(k:List D->z9->Option z9):D->z9->Option z9:=fun d ρ=>match d with|.tup ds=>if ds.length=n then k ds ρ else none|_=>none
def x3W(i:Nat)(f:z9->Option (List Key×List D)):z9->Option Out:=fun ρ=>match f ρ with|some d=>some (.nx (ρ.set i (some (.od d.1 d.2))))|none=>none
def frz(i:Nat)(ρ:z9):z9:=match ρ[i]? with|some (some c)=>(match c.oc with|some o=>ρ.set i (some (.sh o.dat))|none=>ρ)|_=>ρ
theorem x7B{c:Cell}{o:OC}(h:c.oc=some o):c=o.cell:=by cases c<;>cases h<;>rfl
def tFD(K:PySem.W.Frag)(f:z9->Option (List Key×List D)):TE:=fun σ H Q=>∃ρ ds B H0 V0 Z,f ρ=some ds/\SR K B H0 V0 H Z σ ρ/\∀a kvs H',u5 H H'->H a=none->H' a=some (.dK kvs)->kvs.map (·.1)=ds.1->u7 K (j7 (a::Z) H') ds.2 (kvs.map (·.2))->Q (.ref a) H'
abbrev SFD(X:Cx)(e:Expr)(f:z9->Option (List Key×List D)):Prop:=PE X e (tFD X.K f)
section
variable{X:Cx}{st:Stmt}{rest:List Stmt}{e c:Expr}{pos:Pos}{f:z9->Option D}{g k:z9->Option Out}
theorem x9A:SSs X [] z0S:=y5I x6Q fun E σ H ⟨ρ,o,B,H0,V0,Z,e,r,q⟩=>by
 cases e;exact q σ H Z r
theorem x5Q(h1:SS X st g)(h2:SSs X rest k):SSs X (st::rest) (W5 g k) :=
 y5I (x2W h1 h2) fun E σ H ⟨ρ,o,B,H0,V0,Z,e,r,q⟩=>by
  unfold W5 at e;split at e
  ·rename_i ρ' eg
   exact⟨ρ,_,B,H0,V0,Z,eg,r,fun σ' H' Z' r'=>⟨ρ',o,B,H0,V0,Z',e,r',q⟩⟩
  ·rename_i hne
   refine⟨ρ,o,B,H0,V0,Z,e,r,?_⟩
   cases o with
   | nx ρ'=>exact absurd e (hne ρ')
   | bk ρ'=>exact q
   | ct ρ'=>exact q
   | rt d=>exact q
theorem x99(h1:SS X st g):SSs X [st] g:=x6P h1
theorem x97(h:SE X e f):SS X (.Return (some e) pos) (z14 f):=z1A (x4L h) fun E σ H ⟨ρ,o,B,H0,V0,Z,e,r,q⟩=>by
 unfold z14 at e;split at e
 ·rename_i d ed;cases e
  exact⟨ρ,d,B,H0,V0,Z,ed,r,fun v H' s rr=>q v H' (r.same.trans s) (rr.mono (z12 r.sub))⟩
 ·cases e
theorem w2G{a b:List Stmt}{fc:z9->Option Bool}(hc:STt X c fc)(ha:SSs X a g)(hb:SSs X b k):SS X (.If c a b pos) (z4Y fc g k) :=
 z1A (w2U hc ha hb) fun E σ H ⟨ρ,o,B,H0,V0,Z,e,r,q⟩=>by
  unfold z4Y at e;split at e
  ·rename_i ec
   exact⟨ρ,true,B,H0,V0,Z,ec,r,fun H' s=>x4Z ⟨ρ,o,B,H0,V0,Z,e,r.mono s,q⟩⟩
  ·rename_i ec
   exact⟨ρ,false,B,H0,V0,Z,ec,r,fun H' s=>x7R ⟨ρ,o,B,H0,V0,Z,e,r.mono s,q⟩⟩
  ·cases e
theorem x96{i:Nat}{x:Str}{pos':Pos}(he:SE X e f)(hN:X.N.Nodup)(hi:X.N[i]?=some x:=by rfl)(hx:Loc X.env.scope x:=by first|exact Or.inl rfl|exact Or.inr rfl)(hs:swapsWith e (some (.Name x pos')) pos.line X.env=pure false:=by rfl)(hf:X.fn x=true∨X.env.scope.names.lookup x=some .local:=by first|exact .inl rfl|exact .inr rfl):SS X (.Assign [.Name x pos'] e pos) (z1B i f) :=
 z1A (y9D hN hi hx he hs hf) fun E σ H ⟨ρ,o,B,H0,V0,Z,e,r,q⟩=>by
  unfold z1B at e;split at e
  ·rename_i d ed;cases e
   exact⟨ρ,d,B,H0,V0,Z,ed,r,fun v H' s rr=>q _ H' Z ((r.mono s).set rr)⟩
  ·cases e
theorem x5O{i:Nat}{x:Str}{pos':Pos}{fl:z9->Option (List D)}(he:SF X e fl)(hN:X.N.Nodup)(hi:X.N[i]?=some x:=by rfl)(hx:Loc X.env.scope x:=by first|exact Or.inl rfl|exact Or.inr rfl)(hs:swapsWith e (some (.Name x pos')) pos.line X.env=pure false:=by rfl)(hf:X.fn x=true∨X.env.scope.names.lookup x=some .local:=by first|exact .inl rfl|exact .inr rfl):SS X (.Assign [.Name x pos'] e pos) (y12 i fl) :=
 z1A (y9D hN hi hx he hs hf) fun E σ H ⟨ρ,o,B,H0,V0,Z,e,r,q⟩=>by
  unfold y12 at e;split at e
  ·rename_i ds ed;cases e
   refine⟨ρ,ds,B,H0,V0,Z,ed,r,fun a xs H' s hn ha rr=>q _ H' (a::Z) ?_⟩
   refine (r.more hn s ha).setO (c:=.l ds) List.mem_cons_self (fun z=>r.newer hn (r.sub _ z)) ?_ ha ⟨_,rfl,rr⟩ fun j es hj hs'=>?_
   ·exact r.same.free hn
   ·obtain⟨b,ys,t1,t2,_⟩:=r.own j es hj;rw[hs']at t1;cases t1;exact r.newer hn t2
  ·cases e
theorem x5P{i:Nat}{x:Str}{pos':Pos}{fl:z9->Option (List Key×List D)}(he:SFD X e fl)(hN:X.N.Nodup)(hi:X.N[i]?=some x:=by rfl)(hx:Loc X.env.scope x:=by first|exact Or.inl rfl|exact Or.inr rfl)(hs:swapsWith e (some (.Name x pos')) pos.line X.env=pure false:=by rfl)(hf:X.fn x=true∨X.env.scope.names.lookup x=some .local:=by first|exact .inl rfl|exact .inr rfl):SS X (.Assign [.Name x pos'] e pos) (x3W i fl) :=
 z1A (y9D hN hi hx he hs hf) fun E σ H ⟨ρ,o,B,H0,V0,Z,e,r,q⟩=>by
  unfold x3W at e;split at e
  ·rename_i ds ed;cases e
   refine⟨ρ,ds,B,H0,V0,Z,ed,r,fun a xs H' s hn ha rk rr=>q _ H' (a::Z) ?_⟩
   refine (r.more hn s ha).setO (c:=.d ds.1 ds.2) List.mem_cons_self (fun z=>r.newer hn (r.sub _ z)) ?_ ha ⟨_,rfl,rk,rr⟩ fun j es hj hs'=>?_
   ·exact r.same.free hn
   ·obtain⟨b,ys,t1,t2,_⟩:=r.own j es hj;rw[hs']at t1;cases t1;exact r.newer hn t2
  ·cases e
theorem x5Z{i:Nat}{x:Str}(hN:X.N.Nodup)(hi:X.N[i]?=some x:=by rfl)(hx:Loc X.env.scope x:=by first|exact Or.inl rfl|exact Or.inr rfl)(hf:X.fn x=true∨X.env.scope.names.lookup x=some .local:=by first|exact .inl rfl|exact .inr rfl):SG X (.Name x pos) (w9 i) :=
 y9K (x6Y hN hi hx hf) fun v σ H Q ⟨ρ,d,ρ',B,H0,V0,Z,e,r,rr,q⟩=>by
  cases e;exact q _ (r.set rr)
theorem x5Y:SGs X [] z78:=y5L x6X fun v σ H Q ⟨ρ,ds,ρ',B,H0,V0,Z,e,r,rr,q⟩=>by
 unfold z78 at e;split at e
 ·cases e
  exact⟨g7.mp rr,q σ r⟩
 ·cases e
theorem x2F{es:List Expr}{h:D->z9->Option z9}{kk:List D->z9->Option z9}(h1:SG X e h)(h2:SGs X es kk)(hs:(assignEach (e::es) X.env).map (·.2)=assign e X.env::(assignEach es X.env).map (·.2):=by rfl):SGs X (e::es) (z04 h kk) :=
 y5L (x30 h1 h2 hs) fun v σ H Q ⟨ρ,ds,ρ',B,H0,V0,Z,e,r,rr,q⟩=>by
  unfold z04 at e;split at e
  ·rename_i d rs;split at e
   ·rename_i ρ1 e1;obtain⟨v',vs',rfl,t1,t2⟩:=v7.mp rr
    exact⟨v',vs',rfl,ρ,d,ρ1,B,H0,V0,Z,e1,r,t1,fun σ' r'=>⟨ρ1,rs,ρ',B,H0,V0,Z,e,r',t2,q⟩⟩
   ·cases e
  ·cases e
theorem x9L{es:List Expr}{kt:Nat}{kk:List D->z9->Option z9}{n:Nat}(hc:X.calm=true)(h:SGs X es kk)(hn:(assignEach es X.env).length=n:=by rfl)(hst:(assignEach es X.env).findIdx? (·.1)=none:=by rfl):SG X (.Tuple es kt pos) (z77 n kk) :=
 y9K (w0T hc h hn hst) fun v σ H Q ⟨ρ,d,ρ',B,H0,V0,Z,e,r,rr,q⟩=>by
  unfold z77 at e;split at e
  ·rename_i ds;split at e
   ·rename_i hl;obtain⟨a,xs,rfl,t1,t2⟩:=v4.mp rr
    exact⟨a,xs,rfl,v3 y4 t1,t2.length.symm.trans hl,ρ,ds,ρ',B,H0,V0,Z,e,r,t2,q⟩
   ·cases e
  ·cases e
theorem SR.frz{K:PySem.W.Frag}{B Z:List Addr}{H0 V0 H:Hp}{σ:St}{ρ:z9}(i:Nat)(r:SR K B H0 V0 H Z σ ρ):∃Z',SR K B H0 V0 H Z' σ (frz i ρ)/\(∀b∈Z',b∈Z)/\(∀b∈Z,b∉Z'->∃(c:OC) (o:HO),ρ[i]?=some (some c.cell)/\H b=some o/\x1Q K (j7 Z H) c o):=by
 unfold L3.frz;split
 ·rename_i cc hi;split
  ·rename_i c hc;have hcc:=x7B hc;subst hcc;obtain⟨a,o,h1,h2,hnb,h3,h4,h5⟩:=r.own i c hi
   have hsub:∀b∈Z.filter (fun b=>decide (b≠a)),b∈Z:=fun b hb=>(List.mem_filter.mp hb).1
   have hm:u5 (j7 Z H) (j7 (Z.filter (fun b=>decide (b≠a))) H):=z12 hsub
   have hl:i<ρ.length:=(List.getElem?_eq_some_iff.mp hi).1
   refine⟨Z.filter (fun b=>decide (b≠a)),⟨r.same,r.tb,r.vis.trans hm,fun b hb=>?_,fun z hz=>r.zs z (hsub z hz),fun j d q=>?_,fun j es q=>?_,fun j k fs gs b q1 q2 s1 s2=>?_,by rw[List.length_set];exact r.len⟩,hsub,fun b hb nb=>?_⟩
   ·exact List.mem_filter.mpr ⟨r.sub b hb,decide_eq_true fun z=>hnb (z▸hb)⟩
   ·rcases z00 q with⟨rfl,z,_⟩|⟨n,q⟩
    ·cases z
     refine⟨_,h1,(h5.mono hm).rep ?_⟩
     rw[Q6 (fun z=>absurd rfl (of_decide_eq_true (List.mem_filter.mp z).2))]
     exact h4
    ·obtain⟨v,t1,t2⟩:=r.sh j d q
     exact⟨v,t1,t2.mono hm⟩
   ·rcases z00 q with⟨_,z,_⟩|⟨n,q⟩
    ·exact (z90 z).elim
    ·obtain⟨b,ys,t1,t2,tb,t3,t4,t5⟩:=r.own j es q
     refine⟨b,ys,t1,List.mem_filter.mpr ⟨t2,decide_eq_true fun z=>?_⟩,tb,t3,t4,t5.mono hm⟩
     subst z;exact n (r.inj i j _ _ b hi q h1 t1)
   ·rcases z00 q1 with⟨_,z,_⟩|⟨n1,q1⟩
    ·exact (z90 z).elim
    rcases z00 q2 with⟨_,z,_⟩|⟨n2,q2⟩
    ·exact (z90 z).elim
    exact r.inj j k fs gs b q1 q2 s1 s2
   ·have eb:b=a:=Classical.byContradiction fun z=>nb (List.mem_filter.mpr ⟨hb,decide_eq_true z⟩)
    subst eb
    exact⟨c,o,hi,h4,h5⟩
  ·exact⟨Z,r,fun _ h=>h,fun b hb nb=>absurd hb nb⟩
 ·exact⟨Z,r,fun _ h=>h,fun b hb nb=>absurd hb nb⟩
theorem x9B(i:Nat)(h:SS X st g):SS X st (fun ρ=>g (frz i ρ)):=z1A h fun E σ H ⟨ρ,o,B,H0,V0,Z,e,r,q⟩=>by
 obtain⟨Z',r',_⟩:=r.frz i
 exact⟨frz i ρ,o,B,H0,V0,Z',e,r',q⟩
def z16(h:D->z9->Option z9)(g:z9->Option Out):List D->z9->Option Out
 | [],ρ=>some (.nx ρ)
 | d::ds,ρ=>match h d ρ with
  | none=>none
  | some ρ1=>match g ρ1 with
   | some (.nx ρ2)=>z16 h g ds ρ2
   | some (.ct ρ2)=>z16 h g ds ρ2
   | some (.bk ρ2)=>some (.nx ρ2)
   | some (.rt v)=>some (.rt v)
   | none=>none
def z98(fi:z9->Option (List D))(h:D->z9->Option z9)(g:z9->Option Out):z9->Option Out:=fun ρ=>match fi ρ with|some ds=>z16 h g ds ρ|none=>none
theorem x9C{tg iter:Expr}{body:List Stmt}{fi:z9->Option (List D)}{h:D->z9->Option z9}(hp:PassesOwn (model X.prog X.w) X.A X.env X.xe)(hc:X.calm=true)(hi:SI X tg iter fi)(hg:SG X tg h)(hb:SSs X body g)(hs:∀x,foldedSetIterable iter X.env x=pure x:=by intro _;rfl):SS X (.For tg iter body [] pos) (z98 fi h g) :=
 z1A (w0O hp hc hi hg hb hs) fun E σ H ⟨ρ,o,B,H0,V0,Z,e,r,q⟩=>by
  unfold z98 at e;split at e
  ·rename_i ds eds
   refine⟨ρ,ds,B,H0,V0,Z,eds,r,fun J H1 s1 wk=>?_⟩
   have R1:=r.mono s1
   have RV:SR X.K B H0 (j7 Z H1) H1 Z σ ρ:=R1.vis' (fun _ _ h=>h)
   have back:∀{σ' H' Z' ρ'},SR X.K B H0 (j7 Z H1) H' Z' σ' ρ'->SR X.K B H0 V0 H' Z' σ' ρ':=fun r'=>r'.vis' (R1.vis.trans r'.vis)
   refine⟨fun i m σ' H'=>m=ds.length-i/\i≤ds.length/\∃ρ' Z',SR X.K B H0 (j7 Z H1) H' Z' σ' ρ'/\z16 h g (ds.drop i) ρ'=some o,⟨_,rfl,Nat.zero_le _,ρ,Z,RV,e⟩,?_⟩
   rintro i m σ' H' ⟨rfl,hi',ρ',Z',r',e'⟩
   have vis:u5 (j7 Z H1) H':=r'.vis.trans y4;by_cases hlt:i<ds.length
   ·refine .inr ⟨wk.go H' vis i hlt,fun σ2 H2=>∃ρ2 Z2,SR X.K B H0 (j7 Z H1) H2 Z2 σ2 ρ2/\z16 h g (ds.drop (i+1)) ρ2=some o,fun σ2 H2 ⟨ρ2,Z2,r2,e2⟩=>⟨ds.length-(i+1),by omega,rfl,hlt,ρ2,Z2,r2,e2⟩,fun x H3 hy=>?_⟩
    obtain⟨sH,hx⟩:=wk.yld H' vis i x H3 hy;have hd:=hx ds[i] (List.getElem?_eq_getElem hlt) Z' r'.zs r'.vis;rw[List.drop_eq_getElem_cons hlt]at e';unfold z16 at e';split at e'
    ·cases e'
    ·rename_i ρ1 e1
     refine⟨ρ',ds[i],ρ1,B,H0,j7 Z H1,Z',e1,r'.mono sH,hd,fun σ4 r4=>?_⟩
     split at e'
     ·rename_i ρ2 e2
      exact⟨ρ1,_,B,H0,j7 Z H1,Z',e2,r4,fun σ5 H5 Z5 r5=>⟨ρ2,Z5,r5,e'⟩⟩
     ·rename_i ρ2 e2
      exact⟨ρ1,_,B,H0,j7 Z H1,Z',e2,r4,fun σ5 H5 Z5 r5=>⟨ρ2,Z5,r5,e'⟩⟩
     ·rename_i ρ2 e2
      cases e'
      exact⟨ρ1,_,B,H0,j7 Z H1,Z',e2,r4,fun σ5 H5 Z5 r5=>q σ5 H5 Z5 (back r5)⟩
     ·rename_i v e2
      cases e'
      exact⟨ρ1,_,B,H0,j7 Z H1,Z',e2,r4,q⟩
     ·cases e'
   ·have ei:i=ds.length:=by omega
    subst ei;rw[List.drop_length]at e';unfold z16 at e'
    cases e'
    exact .inl ⟨wk.stop H' vis,q σ' H' Z' (back r')⟩
  ·cases e
theorem y8M{K:PySem.W.Frag}{W0:Hp}{a:Addr}{xs:List V}{ds:List D}(h1:SqL K W0 a xs)(h2:u7 K W0 ds xs):Walk K W0 (Itl K a) ds where
 go:=fun H' s i hi=>by
  obtain⟨v,hv,_⟩:=h2.get (List.getElem?_eq_getElem hi)
  exact⟨xs,v,s.seq h1,hv⟩
 yld:=fun H' s i x H3 hy=>by
  obtain⟨rfl,hx⟩:=hy
  refine⟨u5.refl _,fun d hd Z hz hs=>?_⟩
  obtain⟨v,hv,rv⟩:=h2.get hd
  have:=hx xs (s.seq h1)
  rw[hv]at this;cases this;exact rv.mono hs
 stop:=fun H' s=>⟨xs,s.seq h1,by rw[h2.length];exact Nat.le_refl _⟩
theorem x22{K:PySem.W.Frag}{W0:Hp}{a:Addr}{xs:List V}{ds:List D}(h1:SqT K W0 a xs)(h2:u7 K W0 ds xs):Walk K W0 (Itt K a) ds where
 go:=fun H' s i hi=>by
  obtain⟨v,hv,_⟩:=h2.get (List.getElem?_eq_getElem hi)
  exact⟨xs,v,v3 s h1,hv⟩
 yld:=fun H' s i x H3 hy=>by
  obtain⟨rfl,hx⟩:=hy
  refine⟨u5.refl _,fun d hd Z hz hs=>?_⟩
  obtain⟨v,hv,rv⟩:=h2.get hd
  have:=hx xs (v3 s h1)
  rw[hv]at this;cases this;exact rv.mono hs
 stop:=fun H' s=>⟨xs,v3 s h1,by rw[h2.length];exact Nat.le_refl _⟩
def J0(lo:Int)(n:Nat):List D:=(List.range n).map fun (k:Nat)=>D.int (lo+(k:Int))
theorem x23{K:PySem.W.Frag}{W0:Hp}(lo:Int)(n:Nat):Walk K W0 (Itr lo n) (J0 lo n) where
 go:=fun H' s i hi=>by
  show i<n
  simpa [J0] using hi
 yld:=fun H' s i x H3 hy=>by
  obtain⟨rfl,rfl⟩:=hy
  refine⟨u5.refl _,fun d hd Z hz hs=>?_⟩
  unfold J0 at hd;rw[List.getElem?_map]at hd
  cases hr:(List.range n)[i]? with
  | none=>rw[hr]at hd;cases hd
  | some k =>
   rw[hr]at hd
   have ek:k=i:=by
    have:=List.getElem?_eq_some_iff.mp hr
    obtain⟨h1,h2⟩:=this;simpa using h2.symm
   subst ek;cases hd;exact x4.mpr rfl
 stop:=fun H' s=>by
  show n≤(J0 lo n).length
  simp[J0]
variable{tg:Expr}
def W9(f:z9->Option D):z9->Option (List D):=fun ρ=>match f ρ with|some (.lst ds)=>some ds|_=>none
def x15(f:z9->Option D):z9->Option (List D):=fun ρ=>match f ρ with|some (.tup ds)=>some ds|_=>none
theorem x9K(h:SE X e f):SI X tg e (W9 f):=z4S (y9J h) fun σ H R ⟨ρ,ds,B,H0,V0,Z,e,r,q⟩=>by
 unfold W9 at e;split at e
 ·rename_i es he;cases e
  refine⟨ρ,_,B,H0,V0,Z,he,r,fun v H' s rr=>?_⟩
  obtain⟨a,xs,rfl,h1,h2⟩:=j1.mp rr
  exact⟨a,rfl,⟨xs,y4.seq h1⟩,q _ H' s (y8M h1 h2)⟩
 ·cases e
theorem x9I(h:SE X e f):SI X tg e (x15 f):=z4S (w0P h) fun σ H R ⟨ρ,ds,B,H0,V0,Z,e,r,q⟩=>by
 unfold x15 at e;split at e
 ·rename_i es he;cases e
  refine⟨ρ,_,B,H0,V0,Z,he,r,fun v H' s rr=>?_⟩
  obtain⟨a,xs,rfl,h1,h2⟩:=v4.mp rr
  exact⟨a,rfl,⟨xs,v3 y4 h1⟩,q _ H' s (x22 h1 h2)⟩
 ·cases e
def okR(i:Int):Bool:=decide (-(2 ^ 62)≤i)&&decide (i<2 ^ 62)
theorem x4P{i:Int}(h:okR i=true) : -(2 ^ 62)≤i/\i<2 ^ 62:=by
 unfold okR at h;rw[Bool.and_eq_true]at h
 exact⟨of_decide_eq_true h.1,of_decide_eq_true h.2⟩
def z1R(f:z9->Option D):z9->Option (List D):=fun ρ=>match f ρ with|some (.int j)=>if okR j=true then some (J0 0 j.toNat) else none|_=>none
theorem x5W{p:Pos}(hm:X.mg "range" = none)(h:SE X e f)(hg:Gl X "range":=by rfl)(hs:starEach [e] X.env=[(false,eval e X.env)]:=by rfl):SI X tg (.Call (.Name "range" p) [e] [] pos) (z1R f) :=
 z4S (y9I hg hm (J9 h W4 (by rw[hs];rfl)) hs) fun σ H R ⟨ρ,ds,B,H0,V0,Z,e,r,q⟩=>by
  unfold z1R at e;split at e
  ·rename_i j he;split at e
   ·rename_i hok;cases e
    refine⟨ρ,_,B,H0,V0,Z,he,r,fun v H' s rr=>?_⟩
    obtain rfl:=x4.mp rr
    exact⟨j,rfl,(x4P hok).1,(x4P hok).2,q _ H' s (x23 0 j.toNat)⟩
   ·cases e
  ·cases e
def y1I(cap:List (Option Nat))(ρ:z9):z9:=cap.map fun o=>o.bind fun j=>(ρ[j]?).bind id
def z3R(h:D->z9->Option z9)(ft:z9->Option Bool)(fe:z9->Option D):z9->List D->Option (List D)
 | _,[]=>some []
 | ρ,d::ds=>match h d ρ with
  | none=>none
  | some ρ1=>match ft ρ1 with
   | some true=>(match fe ρ1 with
    | some y=>(match z3R h ft fe ρ1 ds with|some ys=>some (y::ys)|none=>none)
    | none=>none)
   | some false=>z3R h ft fe ρ1 ds
   | none=>none
def J6(cap:List (Option Nat))(fi:z9->Option (List D))(h:D->z9->Option z9)(ft:z9->Option Bool)(fe:z9->Option D):z9->Option (List D):=fun ρ=>match fi ρ with
 | some ds=>if ds.length≤LIM then z3R h ft fe (y1I cap ρ) ds else none
 | none=>none
def z2B:z9->Option Bool:=fun _=>some true
theorem y0H{K:PySem.W.Frag}{B Z:List Addr}{H0 V0 H:Hp}{σ:St}{ρ:z9}{cap:List (Option Nat)}(hinj:∀(i j k:Nat),cap[i]?=some (some k)->cap[j]?=some (some k)->i=j)(r:SR K B H0 V0 H Z σ ρ) :
  SR K B H0 V0 H Z (z8Z cap σ) (y1I cap ρ):=by
 have get:∀{c:Cell} {i:Nat},(y1I cap ρ)[i]?=some (some c)->∃j,cap[i]?=some (some j)/\ρ[j]?=some (some c):=fun {c i} q=>by
  unfold y1I at q;rw[List.getElem?_map]at q
  cases hc:cap[i]? with
  | none=>rw[hc]at q;cases q
  | some o =>
   rw[hc]at q
   cases o with
   | none=>cases q
   | some j =>
    refine⟨j,rfl,?_⟩
    have q':(ρ[j]?).bind id=some c:=Option.some.inj q
    cases hs:ρ[j]? with
    | none=>rw[hs]at q';cases q'
    | some z =>
     rw[hs]at q'
     have:z=some c:=q'
     rw[this]
 have put:∀{v:V} {i j:Nat},cap[i]?=some (some j)->σ[j]?=some (some v)->(z8Z cap σ)[i]?=some (some v):=fun {v i j} h1 h2=>by
  unfold z8Z;rw[List.getElem?_map,h1]
  show some ((σ[j]?).bind id)=_
  rw[h2];rfl
 have get':∀{v:V} {i j:Nat},cap[i]?=some (some j)->(z8Z cap σ)[i]?=some (some v)->σ[j]?=some (some v):=fun {v i j} h1 h2=>by
  unfold z8Z at h2;rw[List.getElem?_map,h1]at h2;have h2':(σ[j]?).bind id=some v:=Option.some.inj h2
  cases hs:σ[j]? with
  | none=>rw[hs]at h2';cases h2'
  | some z =>
   rw[hs]at h2'
   have:z=some v:=h2'
   rw[this]
 refine⟨r.same,r.tb,r.vis,r.sub,r.zs,fun i d q=>?_,fun i ds q=>?_,fun i j ds es a q1 q2 s1 s2=>?_,by unfold z8Z y1I;rw[List.length_map,List.length_map]⟩
 ·obtain⟨j,h1,h2⟩:=get q;obtain⟨v,t1,t2⟩:=r.sh j d h2
  exact⟨v,put h1 t1,t2⟩
 ·obtain⟨j,h1,h2⟩:=get q;obtain⟨a,xs,t1,t2⟩:=r.own j ds h2
  exact⟨a,xs,put h1 t1,t2⟩
 ·obtain⟨i',h1,h2⟩:=get q1;obtain⟨j',h3,h4⟩:=get q2
  have:i'=j':=r.inj i' j' ds es a h2 h4 (get' h1 s1) (get' h3 s2)
  subst this;exact hinj i j i' h1 h3
structure WalkC(K:PySem.W.Frag)(Z:List Addr)(H:Hp)(J:It)(ds:List D):Prop where
 go:∀H',u5 H H'->∀i,i<ds.length->J.go i H'
 yld:∀H',u5 H H'->∀(i:Nat) x H3,J.yld i H' x H3->u5 H' H3/\∀d,ds[i]?=some d->∀Z':List Addr,(∀z∈Z',∃o,H' z=some o)->u5 (j7 Z H) (j7 Z' H')->Rep K (j7 Z' H3) d x
 stop:∀H',u5 H H'->J.stop ds.length H'
def tIc(K:PySem.W.Frag)(f:z9->Option (List D)):TI:=fun σ H R=>∃ρ ds B H0 V0 Z,f ρ=some ds/\SR K B H0 V0 H Z σ ρ/\∀J H',u5 H H'->WalkC K Z H' J ds->R J H'
abbrev SIc(X:Cx)(tg e:Expr)(f:z9->Option (List D)):Prop:=PI X tg e (tIc X.K f)
theorem x9H{tg e:Expr}{f:z9->Option (List D)}(h:SI X tg e f):SIc X tg e f:=z4S h fun σ H R ⟨ρ,ds,B,H0,V0,Z,e,r,q⟩ =>
 ⟨ρ,ds,B,H0,V0,Z,e,r,fun J H' s wk=>q J H' s ⟨fun H2 s2=>wk.go H2 (y4.trans s2),fun H2 s2=>wk.yld H2 (y4.trans s2),fun H2 s2=>wk.stop H2 (y4.trans s2)⟩⟩
theorem x5V{tg:Expr}(i:Nat){x:Str}{pos:Pos}(hN:X.N[i]?=some x:=by rfl)(hv:Vis X.env.scope x:=by first|exact Or.inl rfl|exact Or.inr (Or.inl rfl)|exact Or.inr (Or.inr rfl))(hd:(x==("__debug__":Str))=false:=by decide)(hcd:(x==("__classdict__":Str))=false:=by decide):SIc X tg (.Name x pos) (z8X i) :=
 z4S (y9J (z82 hN hv hd hcd)) fun σ H R ⟨ρ,ds,B,H0,V0,Z,e,r,q⟩=>by
  obtain⟨a,xs,h1,h2,hb,h3,h4,h5⟩:=r.ow i ds (z15 e)
  refine⟨.ref a,h1,a,rfl,⟨xs,SqL.of h4⟩,q _ H (u5.refl H) ⟨fun H' s j hj=>?_,fun H' s j y H3 hy=>?_,fun H' s=>⟨xs,SqL.of (s _ _ h4),by rw[h5.length];exact Nat.le_refl _⟩⟩⟩
  ·obtain⟨v,hv',_⟩:=h5.get (List.getElem?_eq_getElem hj)
   exact⟨xs,v,SqL.of (s _ _ h4),hv'⟩
  ·obtain⟨rfl,hx⟩:=hy
   refine⟨u5.refl _,fun d hd' Z' hz hs=>?_⟩
   obtain⟨v,hv',rv⟩:=h5.get hd'
   have:=hx xs (SqL.of (s _ _ h4))
   rw[hv']at this;cases this;exact rv.mono hs
theorem y6G{cap:List (Option Nat)}{fi:z9->Option (List D)}{h:D->z9->Option z9}{ft:z9->Option Bool}{fe:z9->Option D}(hinj:∀(i j k:Nat),cap[i]?=some (some k)->cap[j]?=some (some k)->i=j) :
  ∀σ H Q,tF X.K (J6 cap fi h ft fe) σ H Q->x5K cap (tIc X.K fi) (tG X.K h) (tT X.K ft) (tD X.K fe) σ H Q:=fun σ H Q ⟨ρ,zs,B,H0,V0,Z,e,r,q⟩=>by
  unfold J6 at e;split at e
  ·rename_i ds eds;split at e
   ·rename_i hl
    refine⟨ρ,ds,B,H0,V0,Z,eds,r,fun J H1 s1 wk l hl1=>?_⟩
    have R1:=r.mono s1;have sl:u5 H1 (upd H1 l (.lst [])):=v8 hl1
    have RV:SR X.K B H0 (j7 Z H1) H1 Z σ ρ:=R1.vis' (fun _ _ h=>h)
    have R2':=RV.more hl1 sl x5
    have R2:SR X.K (l::B) H0 (j7 Z H1) (upd H1 l (.lst [])) (l::Z) (z8Z cap σ) (y1I cap ρ):=y0H hinj ⟨R2'.same,R2'.tb,R2'.vis,fun b hb=>(List.mem_cons.mp hb).elim (fun z=>z▸List.mem_cons_self) fun z=>R2'.sub b z,R2'.zs,R2'.sh,fun j es hj=>by
     obtain⟨a,xs,t1,t2,tb,t3,t4,t5⟩:=RV.own j es hj;obtain⟨a',xs',t1',t2',tb',t3',t4',t5'⟩:=R2'.own j es hj;rw[t1]at t1'
     cases t1'
     refine⟨a,xs',t1,t2',fun z=>?_,t3',t4',t5'⟩
     rcases List.mem_cons.mp z with z|z
     ·rw[z,hl1]at t4;cases t4
     ·exact tb z,R2'.inj,R2'.len⟩
    refine⟨fun i m σ' H' acc=>m=ds.length-i/\i≤ds.length/\H' l=some (.lst acc)/\u5 H1 H'/\acc.length≤i/\∃ρ' ys ws,SR X.K (l::B) H0 (j7 Z H1) H' (l::Z) σ' ρ'/\u7 X.K (j7 (l::Z) H') ys acc/\z3R h ft fe ρ' (ds.drop i)=some ws/\zs=ys++ws,
     ⟨_,rfl,Nat.zero_le _,x5,sl,Nat.le_refl _,y1I cap ρ,[],zs,R2,u7.nil,e,rfl⟩,?_⟩
    rintro i m σ' H' acc ⟨rfl,hi',hacc,hS,hal,ρ',ys,ws,r',ry,e',ez⟩
    have vis:u5 (j7 Z H1) H':=r'.vis.trans y4;by_cases hlt:i<ds.length
    ·refine .inr ⟨wk.go H' hS i hlt,y5Y (Nat.le_trans hal (Nat.le_trans hi' hl)),fun x H3 hy=>?_⟩
     obtain⟨sH,hx⟩:=wk.yld H' hS i x H3 hy;have hd:=hx ds[i] (List.getElem?_eq_getElem hlt) (l::Z) r'.zs r'.vis;have hacc:=sH _ _ hacc;have hS:=hS.trans sH;have ry:=ry.mono (y3 sH);rw[List.drop_eq_getElem_cons hlt]at e';unfold z3R at e';split at e'
     ·cases e'
     ·rename_i ρ1 e1
      refine⟨ρ',ds[i],ρ1,l::B,H0,j7 Z H1,l::Z,e1,r'.mono sH,hd,fun σ4 r4=>?_⟩
      split at e'
      ·rename_i et
       refine⟨ρ1,true,l::B,H0,j7 Z H1,l::Z,et,r4,fun H5 s5=>x4Z ?_⟩
       split at e'
       ·rename_i y ey;split at e'
        ·rename_i yy eyy
         cases e'
         refine⟨ρ1,y,l::B,H0,j7 Z H1,l::Z,ey,r4.mono s5,fun v H6 s6 r6=>⟨s6 _ _ (s5 _ _ hacc),ds.length-(i+1),by omega,rfl,hlt,x5,z5C hl1 (hS.trans (s5.trans s6)),?_,ρ1,ys++[y],yy,?_,?_,eyy,by rw[ez];simp⟩⟩
         ·rw[List.length_append];simpa using hal
         ·have R6:=(r4.mono s5).mono s6;have vs:u5 (j7 (l::Z) H6) (j7 (l::Z) (upd H6 l (.lst (acc++[v])))):=z23 List.mem_cons_self;have nl:H0 l=none:=(r.same.trans s1).free hl1
          refine⟨z5C nl R6.same,R6.tb.upd (s6 _ _ (s5 _ _ hacc)) (fun _ z=>by cases z),R6.vis.trans vs,R6.sub,fun z hz=>?_,fun j d hj=>let ⟨u,t1,t2⟩:=R6.sh j d hj;⟨u,t1,t2.mono vs⟩,fun j es hj=>?_,R6.inj,R6.len⟩
          ·by_cases ez':z=l
           ·subst ez';exact⟨_,x5⟩
           ·obtain⟨o',ho'⟩:=R6.zs z hz
            exact⟨o',by rw[v9 ez'];exact ho'⟩
          ·obtain⟨a,xs,t1,t2,tb,t3,t4,t5⟩:=R6.own j es hj
           have na:a≠l:=fun z=>tb (z▸List.mem_cons_self)
           exact⟨a,xs,t1,t2,tb,t3,by rw[v9 na];exact t4,t5.mono vs⟩
         ·exact u7.append (ry.mono ((y3 (s5.trans s6)).trans (z23 List.mem_cons_self))) (u7.one (r6.mono (z23 List.mem_cons_self)))
        ·cases e'
       ·cases e'
      ·rename_i et
       exact⟨ρ1,false,l::B,H0,j7 Z H1,l::Z,et,r4,fun H5 s5=>x7R ⟨ds.length-(i+1),by omega,rfl,hlt,s5 _ _ hacc,hS.trans s5,by omega,ρ1,ys,ws,r4.mono s5,ry.mono (y3 s5),e',ez⟩⟩
      ·cases e'
    ·have ei:i=ds.length:=by omega
     subst ei;rw[List.drop_length]at e';unfold z3R at e'
     cases e'
     rw[List.append_nil]at ez;subst ez;exact .inl ⟨wk.stop H' hS,q l acc H' (s1.trans hS) (s1.free hl1) hacc ry⟩
   ·cases e
  ·cases e
theorem x62{elt target iter:Expr}{ifs:List Expr}{scope:Scope}{N:List Str}{cap:List (Option Nat)}{fi:z9->Option (List D)}{h:D->z9->Option z9}{ft:z9->Option Bool}{fe:z9->Option D}(hc:X.calm=true)(hi:SIc X target iter fi)(hg:∀cl C fp s H,SG (j4 X N scope cl C fp s H) target h)(ht:∀cl C fp s H,x1P (j4 X N scope cl C fp s H) ifs (tT X.K ft))(he:∀cl C fp s H,SE (j4 X N scope cl C fp s H) elt fe)(hk:scope.kind = .function)(hcell:∀y∈scope.names,y.2 = .cell->scope.names.lookup y.1=some .cell)(hnames:∀x∈scope.names,x.2 = .local->scope.names.lookup x.1=some .local)(hfr:∀x∈scope.names,x.2 = .free->scope.names.lookup x.1=some .free)(hout:∀x∈scope.names,x.2 = .free->X.env.scope.names.lookup x.1=some .cell∨X.env.scope.names.lookup x.1=some .free)(hcap:∀(i j:Nat),cap[i]?=some (some j)->∃x,N[i]?=some x/\X.N[j]?=some x/\scope.names.lookup x=some .free)(hlen:cap.length=N.length)(hinj:∀(i j k:Nat),cap[i]?=some (some k)->cap[j]?=some (some k)->i=j)(hs:∀x,foldedSetIterable iter X.env x=pure x:=by intro _;rfl) :
  SF X (.ListComp elt [⟨target,iter,ifs,0⟩] scope pos) (J6 cap fi h ft fe) :=
 v5 (y9L (g:=tG X.K h) (te:=tD X.K fe) hc hi hg ht he hk hcell hnames hfr hout hcap hlen hs) (y6G hinj)
end
def gI(g:Int->Int->Int):D->D->Option D:=fun x y=>match x,y with|.int i,.int j=>some (.int (g i j))|_,_=>none
def gB(g:Int->Int->Bool):D->D->Option D:=fun x y=>match x,y with|.int i,.int j=>some (.bl (g i j))|_,_=>none
def gIC(C:Int->Int->Bool)(g:Int->Int->Int):D->D->Option D:=fun x y=>match x,y with|.int i,.int j=>if C i j=true then some (.int (g i j)) else none|_,_=>none
section
variable{K:PySem.W.Frag}
theorem y9A{g:Int->Int->Int}:z4J K (rI0 fun i j=>.int (g i j)) (gI g):=by
 intro x y d e Z H u v Q zs hx hy q;unfold gI at e;split at e
 ·rename_i i j;cases e
  obtain rfl:=x4.mp hx
  obtain rfl:=x4.mp hy
  exact⟨i,j,rfl,rfl,q _ H (u5.refl H) (x4.mpr rfl)⟩
 ·cases e
theorem z2H{g:Int->Int->Bool}:z4J K (rI0 fun i j=>.bl (g i j)) (gB g):=by
 intro x y d e Z H u v Q zs hx hy q;unfold gB at e;split at e
 ·rename_i i j;cases e
  obtain rfl:=x4.mp hx
  obtain rfl:=x4.mp hy
  exact⟨i,j,rfl,rfl,q _ H (u5.refl H) (g8.mpr rfl)⟩
 ·cases e
theorem y40{C':Int->Int->Prop}{C:Int->Int->Bool}{g:Int->Int->Int}(hC:∀i j,C i j=true->C' i j):z4J K (rI C' fun i j=>.int (g i j)) (gIC C g):=by
 intro x y d e Z H u v Q zs hx hy q;unfold gIC at e;split at e
 ·rename_i i j;split at e
  ·rename_i hc;cases e
   obtain rfl:=x4.mp hx
   obtain rfl:=x4.mp hy
   exact⟨i,j,rfl,rfl,hC i j hc,q _ H (u5.refl H) (x4.mpr rfl)⟩
  ·cases e
 ·cases e
theorem z4J.or{r r':R2}{g g':D->D->Option D}(h:z4J K r g)(h':z4J K r' g'):z4J K (fun x y H Q=>r x y H Q∨r' x y H Q) (fun x y=>match g x y with|some d=>some d|none=>g' x y):=by
 intro x y d e Z H u v Q zs hx hy q;dsimp only at e;split at e
 ·rename_i d' hd;cases e;exact .inl (h x y d hd Z H u v Q zs hx hy q)
 ·exact .inr (h' x y d e Z H u v Q zs hx hy q)
end
def w3F:=gI (fun i j=>i+j)
def y2X:=gI (fun i j=>i-j)
def z4P(i:Int):Bool:=decide (-(2 ^ 64)<i)&&decide (i<2 ^ 64)
def x3X:=gIC (fun i j=>z4P i||z4P j) (fun i j=>i*j)
def y13:=gIC (fun _ j=>decide (0<j)) (fun i j=>i % j)
def x3Z:=gIC (fun _ j=>decide (0<j)&&decide (j<1073741824)) (fun i j=>i / j)
def y1H:=gB (fun i j=>decide (i<j))
def x87:=gB (fun i j=>decide (i≤j))
def w1U:=gB (fun i j=>decide (j<i))
section
variable{X:Cx}{a b c:Expr}{fa fb fc:z9->Option D}{pos:Pos}
theorem x9P(ha:SE X a fa)(hb:SE X b fb):SE X (.BinOp a .Sub b pos) (d2 y2X fa fb):=y23 w13 y9A ha hb
theorem w09{K:PySem.W.Frag}:z4J K (rI w1X fun i j=>.int (i*j)) x3X:=y40 (C':=w1X) fun i j h=>by
  rw[Bool.or_eq_true]at h
  rcases h with h|h
  ·unfold z4P at h;rw[Bool.and_eq_true]at h;exact .inl ⟨of_decide_eq_true h.1,of_decide_eq_true h.2⟩
  ·unfold z4P at h;rw[Bool.and_eq_true]at h;exact .inr ⟨of_decide_eq_true h.1,of_decide_eq_true h.2⟩
theorem x9W(ha:SE X a fa)(hb:SE X b fb):SE X (.BinOp a .Mod b pos) (d2 y13 fa fb):=y23 w16 (y40 fun i j h=>of_decide_eq_true h) ha hb
theorem w00(ha:SE X a fa)(hb:SE X b fb):SE X (.BinOp a .FloorDiv b pos) (d2 x3Z fa fb):=y23 x76 (y40 (C':=w3W) fun i j h=>by
  rw[Bool.and_eq_true]at h
  exact⟨of_decide_eq_true h.1,of_decide_eq_true h.2⟩) ha hb
theorem x95(ha:SE X a fa)(hb:SE X b fb):STt X (.Compare a [.Gt] [b] pos) (x9 (d2 w1U fa fb)):=y1V w31 z2H ha hb (z85 _)
end
def w3E:D->D->Option D:=fun x y=>match x,y with
 | .tup xs,.tup ys=>if xs.length+ys.length≤LIM then some (.tup (xs++ys)) else none
 | .lst xs,.lst ys=>if xs.length+ys.length≤LIM then some (.lst (xs++ys)) else none
 | _,_=>none
def w0H(K:PySem.W.Frag):R2:=fun x y H Q=>∃a b xs ys,x = .ref a/\y = .ref b/\SqT K H a xs/\SqT K H b ys/\xs.length+ys.length≤sizeLine /\
 (xs=[]->Q (.ref b) H)/\(xs≠[]->ys=[]->Q (.ref a) H)/\(xs≠[]->ys≠[]->∀p,H p=none->Q (.ref p) (upd H p (.tup (xs++ys))))
def w0I(K:PySem.W.Frag):R2:=fun x y H Q=>∃a b xs ys,x = .ref a/\y = .ref b/\SqL K H a xs/\SqL K H b ys/\xs.length+ys.length≤sizeLine/\∀p,H p=none->Q (.ref p) (upd H p (.lst (xs++ys)))
section
variable{X:Cx}
theorem x78:OpR X (binaryOp .Add) (w0H X.K):=by
 intro pins s σ H x y v u Q I rx ry h;obtain⟨a,b,xs,ys,rfl,rfl,ha,hb,hz,q0,q1,q2⟩:=h;by_cases hx:xs=[]
 ·cases rx;cases ry;obtain⟨its,r1,p1,_⟩:=I.tuple ha;obtain⟨its2,r2,p2,_⟩:=I.tuple hb;obtain⟨⟨cls,dd,data,sl⟩,ho,hc,n,hd⟩:=id p1;obtain⟨⟨cls2,dd2,data2,sl2⟩,ho2,hc2,n2,hd2⟩:=id p2;simp only at hc hd hc2 hd2
  subst hc hd hc2 hd2
  have hv:its=[]:=r1.nil_iff.mpr hx
  exact concat_meets ⟨_,ho,rfl⟩ ⟨_,ho2,rfl⟩ noFill_tuple_add seq_tuple_add PySem.F.slot_tuple_add PySem.F.entry_tuple_add (PySem.F.args_tuple_add_2 _ _)
   (tuple_addW0 a b its.toArray its2.toArray n n2 dd dd2 sl sl2 (by simp[hv])) ⟨ho,ho2,⟨.ref b,H,I,rfl,q0 hx⟩⟩
 ·exact x77 pins s σ H _ _ v u Q I rx ry ⟨a,b,xs,ys,rfl,rfl,ha,hb,hx,hz,q1 hx,q2 hx⟩
theorem y9P:OpR X (binaryOp .Add) (w0I X.K):=by
 intro pins s σ H x y v u Q I rx ry h;obtain⟨l,b,xs,zs,rfl,rfl,hH,hB,hz,q⟩:=h;cases rx;cases ry;obtain⟨its,r,pl,z⟩:=I.list hH;obtain⟨its2,r2,pl2,z2⟩:=I.list hB;have hl:=r.length;have hl2:=r2.length
 have ea:its.toArray++its2.toArray=(its++its2).toArray:=by simp
 obtain⟨⟨cls,dd,data,sl⟩,n,ho,hc,hdd,hd⟩:=id pl;obtain⟨⟨cls2,dd2,data2,sl2⟩,n2,ho2,hc2,hdd2,hd2⟩:=id pl2;simp only at hc hd hc2 hd2 hdd hdd2
 subst hc hd hc2 hd2 hdd hdd2
 refine concat_meets ⟨_,ho,rfl⟩ ⟨_,ho2,rfl⟩ noFill_list_add seq_list_add PySem.F.slot_list_add PySem.F.entry_list_add (PySem.F.args_list_add_2 _ _) (list_addW l b its.toArray its2.toArray n n2 none none sl sl2 (by rw[List.size_toArray,List.size_toArray];omega)) ⟨ho,ho2,?_⟩
 rw[ea]
 exact⟨.ref _,_,I.lnew (t':=s.toks) (r.append r2) (by rw[List.length_append];omega),rfl,q _ I.fresh⟩
theorem w0C{K:PySem.W.Frag}:z4J K (fun x y H Q=>w0H K x y H Q∨w0I K x y H Q) w3E:=by
 intro x y d e Z H u v Q zs hx hy q
 have newer:∀{p:Addr},H p=none->p∉Z:=fun hp z=>by
  obtain⟨o,ho⟩:=zs _ z;rw[hp]at ho;cases ho
 unfold w3E at e;split at e
 ·rename_i xs ys;split at e
  ·rename_i hl;cases e;obtain⟨a,us,rfl,h1,h2⟩:=v4.mp hx;obtain⟨b,ws,rfl,h3,h4⟩:=v4.mp hy
   refine .inl ⟨a,b,us,ws,rfl,rfl,v3 y4 h1,v3 y4 h3,by rw[←h2.length,←h4.length];exact z9S hl,fun z=>?_,fun z1 z2=>?_,fun z1 z2 p hp=>?_⟩
   ·have:xs=[]:=List.eq_nil_of_length_eq_zero (by rw[h2.length,z];rfl)
    subst this;exact q _ H (u5.refl H) hy
   ·have:ys=[]:=List.eq_nil_of_length_eq_zero (by rw[h4.length,z2];rfl)
    subst this;rw[List.append_nil]at q;exact q _ H (u5.refl H) hx
   ·have sn:=v8 (o:=HO.tup (us++ws)) hp;refine q _ _ sn (v4.mpr ⟨p,_,rfl,SqT.of ?_,(u7.append h2 h4).mono (y3 sn)⟩);rw[Q6 (newer hp)];exact x5
  ·cases e
 ·rename_i xs ys;split at e
  ·rename_i hl;cases e;obtain⟨a,us,rfl,h1,h2⟩:=j1.mp hx;obtain⟨b,ws,rfl,h3,h4⟩:=j1.mp hy
   refine .inr ⟨a,b,us,ws,rfl,rfl,y4.seq h1,y4.seq h3,by rw[←h2.length,←h4.length];exact z9S hl,fun p hp=>?_⟩
   have sn:=v8 (o:=HO.lst (us++ws)) hp;refine q _ _ sn (j1.mpr ⟨p,_,rfl,SqL.of ?_,(u7.append h2 h4).mono (y3 sn)⟩);rw[Q6 (newer hp)];exact x5
  ·cases e
 ·cases e
variable{a b c:Expr}{fa fb fc:z9->Option D}{pos:Pos}
def z3E:D->D->Option D:=fun x y=>match w3F x y with|some d=>some d|none=>w3E x y
theorem w03(ha:SE X a fa)(hb:SE X b fb):SE X (.BinOp a .Add b pos) (d2 z3E fa fb):=y23 (w18.or (x78.or y9P)) (z4J.or y9A w0C) ha hb
def z79(fa fb:z9->Option (List D)):z9->Option (List D):=fun ρ=>match fa ρ with|some xs=>(match fb ρ with|some ys=>if xs.length+ys.length≤LIM then some (xs++ys) else none|none=>none)|none=>none
def Y5:List D->Option (List Int)
 | []=>some []
 | .int i::r=>(Y5 r).map (i::·)
 | _::_=>none
theorem Q8:∀{ds:List D} {ns:List Int},Y5 ds=some ns->ds=ns.map D.int
 | [],ns,e=>by cases e;rfl
 | .int i::r,ns,e=>by
  unfold Y5 at e;obtain⟨ms,h1,rfl⟩:=Option.map_eq_some_iff.mp e;rw[Q8 h1];rfl
 | .non::r,ns,e=>by unfold Y5 at e;cases e
 | .bl _::r,ns,e=>by unfold Y5 at e;cases e
 | .str _::r,ns,e=>by unfold Y5 at e;cases e
 | .tup _::r,ns,e=>by unfold Y5 at e;cases e
 | .lst _::r,ns,e=>by unfold Y5 at e;cases e
 | .dct _ _::r,ns,e=>by unfold Y5 at e;cases e
theorem y7H(ns:List Int):Y5 (ns.map D.int)=some ns:=by
 induction ns with
 | nil=>rfl
 | cons n r ih=>rw[List.map_cons,Y5,ih];rfl
def w3D:D->D->Option D:=fun x y=>match x,y with
 | .tup xs,.tup ys=>(match Y5 xs,Y5 ys with|some ns,some ms=>some (.bl (HT.lexLt ns ms))|_,_=>none)
 | _,_=>none
theorem x4G{K:PySem.W.Frag}:z4J K (w3N K) w3D:=by
 intro x y d e Z H u v Q zs hx hy q;unfold w3D at e;split at e
 ·rename_i xs ys;split at e
  ·rename_i ns ms h1 h2;cases e;obtain⟨a,us,rfl,h3,h4⟩:=v4.mp hx;obtain⟨b,ws,rfl,h5,h6⟩:=v4.mp hy;rw[Q8 h1,Q3]at h4;rw[Q8 h2,Q3]at h6
   subst h4 h6
   exact⟨a,b,ns,ms,rfl,rfl,v3 y4 h3,v3 y4 h5,q _ H (u5.refl H) (g8.mpr rfl)⟩
  ·cases e
 ·cases e
def dLt:D->D->Option D:=fun x y=>match y1H x y with|some d=>some d|none=>w3D x y
theorem w2I(hu:X.A.units<cLine)(ha:SE X a fa)(hb:SE X b fb):SE X (.Compare a [.Lt] [b] pos) (d2 dLt fa fb):=x4B (y0R.or (x4N hu)) (z4J.or z2H x4G) ha hb (z85 _)
def x7X:V->Bool
 | .non=>true
 | .bl _=>true
 | _=>false
theorem y9O:OpR X (compareOp .IsNot) (fun x y H Q=>x7X y=true/\Q (.bl (!decide (x=y))) H):=by
 intro pins s σ H x y v u Q I rx ry h;obtain⟨hf,q⟩:=h
 have go:plainIs v u=true/\(v==u)=decide (x=y):=by
  cases y with
  | non=>cases ry;cases x<;>first|(cases rx;exact⟨rfl,rfl⟩)|(obtain⟨t,rfl⟩:=rx;exact⟨rfl,rfl⟩)
  | bl k =>
   cases ry
   cases x with
   | bl k'=>cases rx;refine⟨rfl,?_⟩;cases k<;>cases k'<;>rfl
   | non=>cases rx;exact⟨rfl,rfl⟩
   | ref _=>cases rx;exact⟨rfl,rfl⟩
   | ty _=>cases rx;exact⟨rfl,rfl⟩
   | int _=>obtain⟨t,rfl⟩:=rx;exact⟨rfl,rfl⟩
   | str _=>obtain⟨t,rfl⟩:=rx;exact⟨rfl,rfl⟩
   | byt _=>obtain⟨t,rfl⟩:=rx;exact⟨rfl,rfl⟩
   | flt _=>obtain⟨t,rfl⟩:=rx;exact⟨rfl,rfl⟩
  | _=>cases hf
 exact wpAny_isNot_plain go.1 ⟨.bl _,H,I,by rw[go.2];rfl,q⟩
def isD:D->D->Option Bool:=fun x y=>match y with
 | .non=>(match x with|.non=>some true|_=>some false)
 | .bl b=>(match x with|.bl b'=>some (b'==b)|_=>some false)
 | _=>none
def x8L:D->D->Option D:=fun x y=>(isD x y).map fun b=>D.bl (!b)
theorem w1P{K:PySem.W.Frag}{H:Hp}{x y:D}{u v:V}{b:Bool}(e:isD x y=some b)(hx:Rep K H x u)(hy:Rep K H y v):x7X v=true/\decide (u=v)=b:=by
 have ref:∀{x:D} {u:V},Rep K H x u->(match x with|.tup _=>∃a,u = .ref a|.lst _=>∃a,u = .ref a|.dct _ _=>∃a,u = .ref a|_=>True):=fun {x u} h=>by
  cases x with
  | tup _=>obtain⟨a,_,e,_⟩:=v4.mp h;exact⟨a,e⟩
  | lst _=>obtain⟨a,_,e,_⟩:=j1.mp h;exact⟨a,e⟩
  | dct _ _=>obtain⟨a,_,e,_⟩:=z0V.mp h;exact⟨a,e⟩
  | _=>trivial
 unfold isD at e
 cases y with
 | non =>
  obtain rfl:=Y3.mp hy
  refine⟨rfl,?_⟩
  cases x with
  | non=>obtain rfl:=Y3.mp hx;cases e;rfl
  | bl _=>obtain rfl:=g8.mp hx;cases e;rfl
  | int _=>obtain rfl:=x4.mp hx;cases e;rfl
  | str _=>obtain rfl:=Q7.mp hx;cases e;rfl
  | tup _=>obtain⟨a,rfl⟩:=ref hx;cases e;rfl
  | lst _=>obtain⟨a,rfl⟩:=ref hx;cases e;rfl
  | dct _ _=>obtain⟨a,rfl⟩:=ref hx;cases e;rfl
 | bl k =>
  obtain rfl:=g8.mp hy
  refine⟨rfl,?_⟩
  cases x with
  | non=>obtain rfl:=Y3.mp hx;cases e;rfl
  | bl k'=>obtain rfl:=g8.mp hx;cases e;cases k<;>cases k'<;>rfl
  | int _=>obtain rfl:=x4.mp hx;cases e;rfl
  | str _=>obtain rfl:=Q7.mp hx;cases e;rfl
  | tup _=>obtain⟨a,rfl⟩:=ref hx;cases e;rfl
  | lst _=>obtain⟨a,rfl⟩:=ref hx;cases e;rfl
  | dct _ _=>obtain⟨a,rfl⟩:=ref hx;cases e;rfl
 | _=>cases e
theorem w0A{K:PySem.W.Frag}:z4J K (fun x y H Q=>x7X y=true/\Q (.bl (!decide (x=y))) H) x8L:=by
 intro x y d e Z H u v Q zs hx hy q;unfold x8L at e;obtain⟨b,hb,rfl⟩:=Option.map_eq_some_iff.mp e;obtain⟨h1,h2⟩:=w1P hb hx hy
 refine⟨h1,?_⟩
 rw[h2];exact q _ H (u5.refl H) (g8.mpr rfl)
theorem x94(ha:SE X a fa)(hb:SE X b fb):STt X (.Compare a [.IsNot] [b] pos) (x9 (d2 x8L fa fb)):=y1V y9O w0A ha hb (z85 _)
end
end L3
namespace L3
open PySem PySem.Spec PyProof.Rows L2 PySem.SeqAt
mutual
def beq:D->D->Bool
 | .non,e=>(match e with|.non=>true|_=>false)
 | .bl a,e=>(match e with|.bl b=>a==b|.int j=>(if a then (1:Int) else 0)==j|_=>false)
 | .int i,e=>(match e with|.int j=>i==j|.bl b=>i==(if b then (1:Int) else 0)|_=>false)
 | .str x,e=>(match e with|.str y=>x==y|_=>false)
 | .tup xs,e=>(match e with|.tup ys=>y86 xs ys|_=>false)
 | .lst xs,e=>(match e with|.lst ys=>y86 xs ys|_=>false)
 | .dct ks xs,e=>(match e with|.dct js ys=>decide (ks=js)&&y86 xs ys|_=>false)
def y86:List D->List D->Bool
 | [],e=>(match e with|[]=>true|_=>false)
 | x::xs,e=>(match e with|y::ys=>beq x y&&y86 xs ys|[]=>false)
end
mutual
def depth:D->Nat
 | .tup xs=>Y7 xs+1
 | .lst xs=>Y7 xs+1
 | .dct _ xs=>Y7 xs+1000
 | _=>0
def Y7:List D->Nat
 | []=>0
 | x::xs=>max (depth x) (Y7 xs)
end
theorem z2L:∀{ds:List D} {i:Nat} {d:D},ds[i]?=some d->depth d≤Y7 ds
 | [],_,_,e=>by simp at e
 | x::xs,0,d,e=>by simp at e;subst e;rw[Y7];omega
 | x::xs,i+1,d,e=>by
  have:=z2L (ds:=xs) (i:=i) (d:=d) (by simpa using e)
  rw[Y7];omega
mutual
theorem z7R:∀d:D,beq d d=true
 | .non=>by rw[beq]
 | .bl b=>by rw[beq];exact beq_self_eq_true b
 | .int i=>by rw[beq];exact beq_self_eq_true i
 | .str x=>by rw[beq];exact beq_self_eq_true x
 | .tup xs=>by rw[beq];exact z5T xs
 | .lst xs=>by rw[beq];exact z5T xs
 | .dct ks xs=>by rw[beq,z5T xs];simp
theorem z5T:∀ds:List D,y86 ds ds=true
 | []=>by rw[y86]
 | d::ds=>by rw[y86,z7R d,z5T ds];rfl
end
theorem z48:∀(xs ys:List D),y86 xs ys=((List.range (min xs.length ys.length)).all (fun j=>beq (xs.getD j .non) (ys.getD j .non))&&xs.length==ys.length)
 | [],[]=>by rw[y86];rfl
 | [],y::ys=>by simp[y86]
 | x::xs,[]=>by simp[y86]
 | x::xs,y::ys=>by
  rw[y86,z48 xs ys]
  have e:min (x::xs).length (y::ys).length=min xs.length ys.length+1:=by simp only[List.length_cons];omega
  rw[e,List.range_succ_eq_map,List.all_cons,List.all_map]
  have e2:((x::xs).length==(y::ys).length)=(xs.length==ys.length):=by simp
  rw[e2,Bool.and_assoc];rfl
section
variable{X:Cx}{pins:List (Addr×Obj)}{σ:St}{H:Hp}{s:Shared}
theorem y3Z{K:PySem.W.Frag}{d:D}{a:Addr}(h:Rep K H d (.ref a)):(∃ds,d = .tup ds)∨(∃ds,d = .lst ds)∨∃ks ds,d = .dct ks ds:=by
 cases d with
 | non=>cases Y3.mp h
 | bl _=>cases g8.mp h
 | int _=>cases x4.mp h
 | str _=>cases Q7.mp h
 | tup ds=>exact .inl ⟨ds,rfl⟩
 | lst ds=>exact .inr (.inl ⟨ds,rfl⟩)
 | dct ks ds=>exact .inr (.inr ⟨ks,ds,rfl⟩)
theorem y4H(I:Inv X pins σ H s){a:Addr}{kvs:List (Key×V)}(h:H a=some (.dK kvs)):∃o,s.heap.get? a=some o/\o.cls = .type "dict":=by
 obtain⟨_,_,vs,_,p⟩:=(show z0W X.prog X.w H s.heap a (.dK kvs) from I.hok a _ h)
 obtain⟨o,es,ep,h1,h2,_⟩:=p
 exact⟨o,h1,h2.1⟩
theorem w19(I:Inv X pins σ H s){a:Addr}{kvs:List (Key×V)}{xs:List V}(h:H a=some (.dK kvs))(h':SqT X.K H a xs):False:=by
 obtain⟨o,e,c⟩:=y4H I h;obtain⟨its,_,p,_⟩:=I.tuple h';obtain⟨o',h1,h2,_⟩:=p;rw[e]at h1;cases h1;rw[c]at h2
 revert h2
 simp
theorem w1A(I:Inv X pins σ H s){a:Addr}{kvs:List (Key×V)}{xs:List V}(h:H a=some (.dK kvs))(h':SqL X.K H a xs):False:=by
 obtain⟨o,e,c⟩:=y4H I h;obtain⟨its,_,p,_⟩:=I.list h';obtain⟨o',n,h1,h2,_⟩:=p;rw[e]at h1;cases h1;rw[c]at h2
 revert h2
 simp
theorem y9R(I:Inv X pins σ H s){a:Addr}{xs ys:List V}(h:SqT X.K H a xs)(h':SqL X.K H a ys):False:=by
 obtain⟨its,_,p,_⟩:=I.tuple h;obtain⟨its2,_,q,_⟩:=I.list h';exact ne_of_list_tuple q.isList p rfl
mutual
theorem y0L(I:Inv X pins σ H s):∀{d e:D} {v:V},Rep X.K H d v->Rep X.K H e v->d=e
 | .non,e,v,h,h'=>by
  obtain rfl:=Y3.mp h
  cases e with
  | non=>rfl
  | bl _=>cases g8.mp h'
  | int _=>cases x4.mp h'
  | str _=>cases Q7.mp h'
  | tup _=>obtain⟨_,_,z,_⟩:=v4.mp h';cases z
  | lst _=>obtain⟨_,_,z,_⟩:=j1.mp h';cases z
  | dct _ _=>obtain⟨_,_,z,_⟩:=z0V.mp h';cases z
 | .bl b,e,v,h,h'=>by
  obtain rfl:=g8.mp h
  cases e with
  | non=>cases Y3.mp h'
  | bl _=>cases g8.mp h';rfl
  | int _=>cases x4.mp h'
  | str _=>cases Q7.mp h'
  | tup _=>obtain⟨_,_,z,_⟩:=v4.mp h';cases z
  | lst _=>obtain⟨_,_,z,_⟩:=j1.mp h';cases z
  | dct _ _=>obtain⟨_,_,z,_⟩:=z0V.mp h';cases z
 | .int b,e,v,h,h'=>by
  obtain rfl:=x4.mp h
  cases e with
  | non=>cases Y3.mp h'
  | bl _=>cases g8.mp h'
  | int _=>cases x4.mp h';rfl
  | str _=>cases Q7.mp h'
  | tup _=>obtain⟨_,_,z,_⟩:=v4.mp h';cases z
  | lst _=>obtain⟨_,_,z,_⟩:=j1.mp h';cases z
  | dct _ _=>obtain⟨_,_,z,_⟩:=z0V.mp h';cases z
 | .str b,e,v,h,h'=>by
  obtain rfl:=Q7.mp h
  cases e with
  | non=>cases Y3.mp h'
  | bl _=>cases g8.mp h'
  | int _=>cases x4.mp h'
  | str _=>cases Q7.mp h';rfl
  | tup _=>obtain⟨_,_,z,_⟩:=v4.mp h';cases z
  | lst _=>obtain⟨_,_,z,_⟩:=j1.mp h';cases z
  | dct _ _=>obtain⟨_,_,z,_⟩:=z0V.mp h';cases z
 | .tup ds,e,v,h,h'=>by
  obtain⟨a,xs,rfl,h1,h2⟩:=v4.mp h
  rcases y3Z h' with⟨es,rfl⟩|⟨es,rfl⟩|⟨ks,es,rfl⟩
  ·obtain⟨b,ys,z,h3,h4⟩:=v4.mp h';cases z
   have:=I.tuple_inj h1 h3
   subst this;rw[z7N I h2 h4]
  ·obtain⟨b,ys,z,h3,h4⟩:=j1.mp h';cases z;exact (y9R I h1 h3).elim
  ·obtain⟨b,ys,z,h3,h4⟩:=z0V.mp h';cases z;exact (w19 I h3 h1).elim
 | .lst ds,e,v,h,h'=>by
  obtain⟨a,xs,rfl,h1,h2⟩:=j1.mp h
  rcases y3Z h' with⟨es,rfl⟩|⟨es,rfl⟩|⟨ks,es,rfl⟩
  ·obtain⟨b,ys,z,h3,h4⟩:=v4.mp h';cases z;exact (y9R I h3 h1).elim
  ·obtain⟨b,ys,z,h3,h4⟩:=j1.mp h';cases z
   have:=I.list_inj h1 h3
   subst this;rw[z7N I h2 h4]
  ·obtain⟨b,ys,z,h3,h4⟩:=z0V.mp h';cases z;exact (w1A I h3 h1).elim
 | .dct ks ds,e,v,h,h'=>by
  obtain⟨a,kvs,rfl,h1,h2,h2'⟩:=z0V.mp h
  rcases y3Z h' with⟨es,rfl⟩|⟨es,rfl⟩|⟨js,es,rfl⟩
  ·obtain⟨b,ys,z,h3,h4⟩:=v4.mp h';cases z;exact (w19 I h1 h3).elim
  ·obtain⟨b,ys,z,h3,h4⟩:=j1.mp h';cases z;exact (w1A I h1 h3).elim
  ·obtain⟨b,ys,z,h3,h4,h5⟩:=z0V.mp h';cases z;rw[h1]at h3;cases h3;rw[←h2,←h4,z7N I h2' h5]
theorem z7N(I:Inv X pins σ H s):∀{ds es:List D} {xs:List V},u7 X.K H ds xs->u7 X.K H es xs->ds=es
 | [],es,xs,h,h'=>by
  obtain rfl:=g7.mp h
  cases es with
  | nil=>rfl
  | cons e es=>obtain⟨_,_,z,_⟩:=v7.mp h';cases z
 | d::ds,es,xs,h,h'=>by
  obtain⟨v,vs,rfl,h1,h2⟩:=v7.mp h
  cases es with
  | nil=>cases g7.mp h'
  | cons e es =>
   obtain⟨v',vs',z,h3,h4⟩:=v7.mp h';cases z;rw[y0L I h1 h3,z7N I h2 h4]
end
theorem j2{α:Type}{xs:List α}{j:Nat}{d x:α}(h:xs[j]?=some x):xs.getD j d=x:=by
 rw[List.getD_eq_getElem?_getD,h];rfl
theorem x0Z(I:Inv X pins σ H s){A:Around}(h0:A.units<cLine){d e:D}{x y:V}{u v:Value}(hd:depth d=0)(he:depth e<1000)(hx:Rep X.K H d x)(hy:Rep X.K H e y)(rx:W3 x u)(ry:W3 y v) :
  EqAt A s u v (beq d e)/\RcAt A s u v (beq d e)/\RcNeAt A s u v (!beq d e):=by
 cases d with
 | tup xs=>rw[depth]at hd;omega
 | lst xs=>rw[depth]at hd;omega
 | dct _ xs=>rw[depth]at hd;omega
 | non =>
  obtain rfl:=Y3.mp hx
  cases rx
  cases e with
  | non=>obtain rfl:=Y3.mp hy;cases ry;exact⟨EqAt.same _,RcAt.none_none,RcNeAt.none_none⟩
  | bl b=>obtain rfl:=g8.mp hy;cases ry;exact⟨EqAt.none_bool b,RcAt.none_bool b,RcNeAt.none_bool b⟩
  | int j=>obtain rfl:=x4.mp hy;obtain⟨t,rfl⟩:=ry;exact⟨EqAt.none_int j t,RcAt.none_int j t,RcNeAt.none_int j t⟩
  | str z=>obtain rfl:=Q7.mp hy;obtain⟨t,rfl⟩:=ry;exact⟨EqAt.none_str z t,RcAt.none_str z t,RcNeAt.none_str z t⟩
  | tup ys=>obtain⟨b,zs,rfl,h1,_⟩:=v4.mp hy;cases ry;obtain⟨its,_,p,_⟩:=I.tuple h1;exact⟨EqAt.none_tuple p h0,RcAt.none_tuple p h0,RcNeAt.none_tuple p h0⟩
  | lst ys=>obtain⟨b,zs,rfl,h1,_⟩:=j1.mp hy;cases ry;obtain⟨its,_,p,_⟩:=I.list h1;exact⟨EqAt.none_list p.isList h0,RcAt.none_list p.isList h0,RcNeAt.none_list p.isList h0⟩
  | dct _ ys=>rw[depth]at he;omega
 | bl a =>
  obtain rfl:=g8.mp hx
  cases rx
  cases e with
  | non=>obtain rfl:=Y3.mp hy;cases ry;exact⟨EqAt.bool_none a,RcAt.bool_none a,RcNeAt.bool_none a⟩
  | bl b=>obtain rfl:=g8.mp hy;cases ry;exact⟨EqAt.bool_bool a b,RcAt.bool_bool a b,RcNeAt.bool_bool a b⟩
  | int j=>obtain rfl:=x4.mp hy;obtain⟨t,rfl⟩:=ry;exact⟨EqAt.bool_int a j t,RcAt.bool_int a j t,RcNeAt.bool_int a j t⟩
  | str z=>obtain rfl:=Q7.mp hy;obtain⟨t,rfl⟩:=ry;exact⟨EqAt.bool_str a z t,RcAt.bool_str a z t,RcNeAt.bool_str a z t⟩
  | tup ys=>obtain⟨b,zs,rfl,h1,_⟩:=v4.mp hy;cases ry;obtain⟨its,_,p,_⟩:=I.tuple h1;exact⟨EqAt.bool_tuple a p h0,RcAt.bool_tuple a p h0,RcNeAt.bool_tuple a p h0⟩
  | lst ys=>obtain⟨b,zs,rfl,h1,_⟩:=j1.mp hy;cases ry;obtain⟨its,_,p,_⟩:=I.list h1;exact⟨EqAt.bool_list a p.isList h0,RcAt.bool_list a p.isList h0,RcNeAt.bool_list a p.isList h0⟩
  | dct _ ys=>rw[depth]at he;omega
 | int i =>
  obtain rfl:=x4.mp hx
  obtain⟨t0,rfl⟩:=rx
  cases e with
  | non=>obtain rfl:=Y3.mp hy;cases ry;exact⟨EqAt.int_none i t0,RcAt.int_none i t0,RcNeAt.int_none i t0⟩
  | bl b=>obtain rfl:=g8.mp hy;cases ry;exact⟨EqAt.int_bool i t0 b,RcAt.int_bool i t0 b,RcNeAt.int_bool i t0 b⟩
  | int j=>obtain rfl:=x4.mp hy;obtain⟨t,rfl⟩:=ry;exact⟨EqAt.int_int i t0 j t,RcAt.int_int i t0 j t,RcNeAt.int_int i t0 j t⟩
  | str z=>obtain rfl:=Q7.mp hy;obtain⟨t,rfl⟩:=ry;exact⟨EqAt.int_str i t0 z t,RcAt.int_str i t0 z t,RcNeAt.int_str i t0 z t⟩
  | tup ys=>obtain⟨b,zs,rfl,h1,_⟩:=v4.mp hy;cases ry;obtain⟨its,_,p,_⟩:=I.tuple h1;exact⟨EqAt.int_tuple i t0 p h0,RcAt.int_tuple i t0 p h0,RcNeAt.int_tuple i t0 p h0⟩
  | lst ys=>obtain⟨b,zs,rfl,h1,_⟩:=j1.mp hy;cases ry;obtain⟨its,_,p,_⟩:=I.list h1;exact⟨EqAt.int_list i t0 p.isList h0,RcAt.int_list i t0 p.isList h0,RcNeAt.int_list i t0 p.isList h0⟩
  | dct _ ys=>rw[depth]at he;omega
 | str w' =>
  obtain rfl:=Q7.mp hx
  obtain⟨t0,rfl⟩:=rx
  cases e with
  | non=>obtain rfl:=Y3.mp hy;cases ry;exact⟨EqAt.str_none w' t0,RcAt.str_none w' t0,RcNeAt.str_none w' t0⟩
  | bl b=>obtain rfl:=g8.mp hy;cases ry;exact⟨EqAt.str_bool w' t0 b,RcAt.str_bool w' t0 b,RcNeAt.str_bool w' t0 b⟩
  | int j=>obtain rfl:=x4.mp hy;obtain⟨t,rfl⟩:=ry;exact⟨EqAt.str_int w' t0 j t,RcAt.str_int w' t0 j t,RcNeAt.str_int w' t0 j t⟩
  | str z=>obtain rfl:=Q7.mp hy;obtain⟨t,rfl⟩:=ry;exact⟨EqAt.str_str w' t0 z t,RcAt.str_str w' t0 z t,RcNeAt.str_str w' t0 z t⟩
  | tup ys=>obtain⟨b,zs,rfl,h1,_⟩:=v4.mp hy;cases ry;obtain⟨its,_,p,_⟩:=I.tuple h1;exact⟨EqAt.str_tuple w' t0 p h0,RcAt.str_tuple w' t0 p h0,RcNeAt.str_tuple w' t0 p h0⟩
  | lst ys=>obtain⟨b,zs,rfl,h1,_⟩:=j1.mp hy;cases ry;obtain⟨its,_,p,_⟩:=I.list h1;exact⟨EqAt.str_list w' t0 p.isList h0,RcAt.str_list w' t0 p.isList h0,RcNeAt.str_list w' t0 p.isList h0⟩
  | dct _ ys=>rw[depth]at he;omega
theorem y4D(I:Inv X pins σ H s):∀(n:Nat) (A:Around),A.units+n<cLine->n<1000->∀{d e:D} {x y:V} {u v:Value},depth d≤n->depth e<1000->Rep X.K H d x->Rep X.K H e y->W3 x u->W3 y v ->
  EqAt A s u v (beq d e)/\RcAt A s u v (beq d e)/\RcNeAt A s u v (!beq d e):=by
 intro n
 induction n with
 | zero =>
  intro A hu hn d e x y u v hd he hx hy rx ry
  exact x0Z I (by omega) (by omega) he hx hy rx ry
 | succ n ih =>
  intro A hu hn d e x y u v hd he hx hy rx ry
  have h0:A.units<cLine:=by omega
  have h1':A.in1.units+n<cLine:=by show A.units+1+n<cLine;omega
  by_cases hd0:depth d=0
  ·exact x0Z I h0 hd0 he hx hy rx ry
  ·cases d with
   | non=>exact absurd (by simp[depth]) hd0
   | bl _=>exact absurd (by simp[depth]) hd0
   | int _=>exact absurd (by simp[depth]) hd0
   | str _=>exact absurd (by simp[depth]) hd0
   | dct _ xs=>rw[depth]at hd;omega
   | tup xs =>
    obtain⟨a,us,rfl,h1,h2⟩:=v4.mp hx;cases rx;obtain⟨its,rv,p,_⟩:=I.tuple h1;rw[depth]at hd
    cases e with
    | dct _ ys=>rw[depth]at he;omega
    | non=>obtain rfl:=Y3.mp hy;cases ry;exact⟨EqAt.tuple_none p h0,RcAt.tuple_none p h0,RcNeAt.tuple_none p h0⟩
    | bl b=>obtain rfl:=g8.mp hy;cases ry;exact⟨EqAt.tuple_bool b p h0,RcAt.tuple_bool b p h0,RcNeAt.tuple_bool b p h0⟩
    | int j=>obtain rfl:=x4.mp hy;obtain⟨t,rfl⟩:=ry;exact⟨EqAt.tuple_int j t p h0,RcAt.tuple_int j t p h0,RcNeAt.tuple_int j t p h0⟩
    | str z=>obtain rfl:=Q7.mp hy;obtain⟨t,rfl⟩:=ry;exact⟨EqAt.tuple_str z t p h0,RcAt.tuple_str z t p h0,RcNeAt.tuple_str z t p h0⟩
    | lst ys =>
     obtain⟨b,zs,rfl,g1,_⟩:=j1.mp hy;cases ry;obtain⟨its2,_,p2,_⟩:=I.list g1
     exact⟨EqAt.tuple_list p p2.isList h0,RcAt.tuple_list p p2.isList h0,RcNeAt.tuple_list p p2.isList h0⟩
    | tup ys =>
     obtain⟨b,zs,rfl,g1,g2⟩:=v4.mp hy;cases ry;obtain⟨its2,rv2,p2,_⟩:=I.tuple g1
     have l1:its.toArray.size=xs.length:=by rw[List.size_toArray,←rv.length,←h2.length]
     have l2:its2.toArray.size=ys.length:=by rw[List.size_toArray,←rv2.length,←g2.length]
     have items:∀j (k1:j<its.toArray.size) (k2:j<its2.toArray.size),EqAt A.in1 s its.toArray[j] its2.toArray[j] (beq (xs.getD j .non) (ys.getD j .non)):=fun j k1 k2=>by
      have k1':j<xs.length:=by omega
      have k2':j<ys.length:=by omega
      obtain⟨vj,e1,r1⟩:=h2.get (List.getElem?_eq_getElem k1');obtain⟨wj,e2,r2⟩:=g2.get (List.getElem?_eq_getElem k2');obtain⟨uj,f1,s1⟩:=rv.get e1;obtain⟨tj,f2,s2⟩:=rv2.get e2
      have z1:its.toArray[j]=uj:=by
       rw[List.getElem?_eq_getElem (by rw[List.size_toArray]at k1;exact k1)]at f1
       simpa using f1
      have z2:its2.toArray[j]=tj:=by
       rw[List.getElem?_eq_getElem (by rw[List.size_toArray]at k2;exact k2)]at f2
       simpa using f2
      rw[z1,z2,j2 (List.getElem?_eq_getElem k1'),j2 (List.getElem?_eq_getElem k2')];have dd:=z2L (List.getElem?_eq_getElem k1');have de:=z2L (List.getElem?_eq_getElem k2');rw[depth]at he
      exact (ih A.in1 h1' (by omega) (by omega) (by omega) r1 r2 s1 s2).1
     have eb:beq (.tup xs) (.tup ys)=((List.range (min its.toArray.size its2.toArray.size)).all (fun j=>beq (xs.getD j .non) (ys.getD j .non))&&its.toArray.size==its2.toArray.size):=by
      rw[beq,z48,l1,l2]
     have rc:RcAt A s (.ref a) (.ref b) (beq (.tup xs) (.tup ys)):=by
      rw[eb];exact RcAt.tuples p p2 h0 items
     have rn:RcNeAt A s (.ref a) (.ref b) (!beq (.tup xs) (.tup ys)):=by
      rw[eb];exact RcNeAt.tuples p p2 h0 items
     refine⟨?_,rc,rn⟩
     by_cases hab:a=b
     ·subst hab;rw[y0L I hx hy,z7R];exact EqAt.same _
     ·exact EqAt.of_refs hab rc
   | lst xs =>
    obtain⟨a,us,rfl,h1,h2⟩:=j1.mp hx;cases rx;obtain⟨its,rv,p,_⟩:=I.list h1;rw[depth]at hd
    cases e with
    | dct _ ys=>rw[depth]at he;omega
    | non=>obtain rfl:=Y3.mp hy;cases ry;exact⟨EqAt.list_none p.isList h0,RcAt.list_none p.isList h0,RcNeAt.list_none p.isList h0⟩
    | bl b=>obtain rfl:=g8.mp hy;cases ry;exact⟨EqAt.list_bool b p.isList h0,RcAt.list_bool b p.isList h0,RcNeAt.list_bool b p.isList h0⟩
    | int j=>obtain rfl:=x4.mp hy;obtain⟨t,rfl⟩:=ry;exact⟨EqAt.list_int j t p.isList h0,RcAt.list_int j t p.isList h0,RcNeAt.list_int j t p.isList h0⟩
    | str z=>obtain rfl:=Q7.mp hy;obtain⟨t,rfl⟩:=ry;exact⟨EqAt.list_str z t p.isList h0,RcAt.list_str z t p.isList h0,RcNeAt.list_str z t p.isList h0⟩
    | tup ys =>
     obtain⟨b,zs,rfl,g1,_⟩:=v4.mp hy;cases ry;obtain⟨its2,_,p2,_⟩:=I.tuple g1
     exact⟨EqAt.list_tuple p.isList p2 h0,RcAt.list_tuple p.isList p2 h0,RcNeAt.list_tuple p.isList p2 h0⟩
    | lst ys =>
     obtain⟨b,zs,rfl,g1,g2⟩:=j1.mp hy;cases ry;obtain⟨its2,rv2,p2,_⟩:=I.list g1
     have l1:its.toArray.size=xs.length:=by rw[List.size_toArray,←rv.length,←h2.length]
     have l2:its2.toArray.size=ys.length:=by rw[List.size_toArray,←rv2.length,←g2.length]
     have items:∀j (k1:j<its.toArray.size) (k2:j<its2.toArray.size),EqAt A.in1 s its.toArray[j] its2.toArray[j] (beq (xs.getD j .non) (ys.getD j .non)):=fun j k1 k2=>by
      have k1':j<xs.length:=by omega
      have k2':j<ys.length:=by omega
      obtain⟨vj,e1,r1⟩:=h2.get (List.getElem?_eq_getElem k1');obtain⟨wj,e2,r2⟩:=g2.get (List.getElem?_eq_getElem k2');obtain⟨uj,f1,s1⟩:=rv.get e1;obtain⟨tj,f2,s2⟩:=rv2.get e2
      have z1:its.toArray[j]=uj:=by
       rw[List.getElem?_eq_getElem (by rw[List.size_toArray]at k1;exact k1)]at f1
       simpa using f1
      have z2:its2.toArray[j]=tj:=by
       rw[List.getElem?_eq_getElem (by rw[List.size_toArray]at k2;exact k2)]at f2
       simpa using f2
      rw[z1,z2,j2 (List.getElem?_eq_getElem k1'),j2 (List.getElem?_eq_getElem k2')];have dd:=z2L (List.getElem?_eq_getElem k1');have de:=z2L (List.getElem?_eq_getElem k2');rw[depth]at he
      exact (ih A.in1 h1' (by omega) (by omega) (by omega) r1 r2 s1 s2).1
     have both:RcAt A s (.ref a) (.ref b) (beq (.lst xs) (.lst ys))/\RcNeAt A s (.ref a) (.ref b) (!beq (.lst xs) (.lst ys)):=by
      by_cases hl:its.toArray.size=its2.toArray.size
      ·have eb:beq (.lst xs) (.lst ys)=((List.range its.toArray.size).all (fun j=>beq (xs.getD j .non) (ys.getD j .non))):=by
        rw[beq,z48]
        have:xs.length=ys.length:=by omega
        rw[l1,this,Nat.min_self];simp
       rw[eb]
       exact⟨RcAt.lists p.isList p2.isList hl h0 items,RcNeAt.lists p.isList p2.isList hl h0 items⟩
      ·have eb:beq (.lst xs) (.lst ys)=false:=by
        rw[beq,z48]
        have:(xs.length==ys.length)=false:=by simp;omega
        rw[this,Bool.and_false]
       rw[eb]
       exact⟨RcAt.lists_lengths p.isList p2.isList (by simpa using hl) h0,RcNeAt.lists_lengths p.isList p2.isList (by simpa using hl) h0⟩
     refine⟨?_,both⟩
     by_cases hab:a=b
     ·subst hab;rw[y0L I hx hy,z7R];exact EqAt.same _
     ·exact EqAt.of_refs hab both.1
end
def z1W:Nat:=60
def w3R(K:PySem.W.Frag):R2:=fun x y H Q=>∃d e,depth d≤z1W/\depth e≤z1W/\Rep K H d x/\Rep K H e y/\Q (.bl (beq d e)) H
def w3M(K:PySem.W.Frag):R2:=fun x y H Q=>∃d e,depth d≤z1W/\depth e≤z1W/\Rep K H d x/\Rep K H e y/\Q (.bl (!beq d e)) H
def dEq:D->D->Option D:=fun x y=>if depth x≤z1W/\depth y≤z1W then some (.bl (beq x y)) else none
def dNe:D->D->Option D:=fun x y=>if depth x≤z1W/\depth y≤z1W then some (.bl (!beq x y)) else none
section
variable{X:Cx}{a b c:Expr}{fa fb fc:z9->Option D}{pos:Pos}
theorem x4O(hu:X.A.units+64<cLine):OpR X (compareOp .Eq) (w3R X.K):=by
 intro pins s σ H x y v u Q I rx ry h;obtain⟨d,e,hd,he,hx,hy,q⟩:=h
 have he':depth e<1000:=Nat.lt_of_le_of_lt he (by unfold z1W;decide)
 exact (y4D I z1W X.A (by unfold z1W;omega) (by unfold z1W;decide) hd he' hx hy rx ry).2.1 X.prog X.w X.xe _ ⟨.bl _,H,I,rfl,q⟩
theorem w14(hu:X.A.units+64<cLine):OpR X (compareOp .NotEq) (w3M X.K):=by
 intro pins s σ H x y v u Q I rx ry h;obtain⟨d,e,hd,he,hx,hy,q⟩:=h
 have he':depth e<1000:=Nat.lt_of_le_of_lt he (by unfold z1W;decide)
 exact (y4D I z1W X.A (by unfold z1W;omega) (by unfold z1W;decide) hd he' hx hy rx ry).2.2 X.prog X.w X.xe _ ⟨.bl _,H,I,rfl,q⟩
theorem x4H{K:PySem.W.Frag}:z4J K (w3R K) dEq:=by
 intro x y d e Z H u v Q zs hx hy q;unfold dEq at e;split at e
 ·rename_i h;cases e
  exact⟨x,y,h.1,h.2,hx.mono y4,hy.mono y4,q _ H (u5.refl H) (g8.mpr rfl)⟩
 ·cases e
theorem w08{K:PySem.W.Frag}:z4J K (w3M K) dNe:=by
 intro x y d e Z H u v Q zs hx hy q;unfold dNe at e;split at e
 ·rename_i h;cases e
  exact⟨x,y,h.1,h.2,hx.mono y4,hy.mono y4,q _ H (u5.refl H) (g8.mpr rfl)⟩
 ·cases e
theorem w2M(hu:X.A.units+64<cLine)(ha:SE X a fa)(hb:SE X b fb):SE X (.Compare a [.Eq] [b] pos) (d2 dEq fa fb):=x4B (x4O hu) x4H ha hb (z85 _)
theorem w2F(hu:X.A.units+64<cLine)(ha:SE X a fa)(hb:SE X b fb):STt X (.Compare a [.Eq] [b] pos) (x9 (d2 dEq fa fb)):=y1V (x4O hu) x4H ha hb (z85 _)
theorem w2C(hu:X.A.units+64<cLine)(ha:SE X a fa)(hb:SE X b fb):STt X (.Compare a [.NotEq] [b] pos) (x9 (d2 dNe fa fb)):=y1V (w14 hu) w08 ha hb (z85 _)
def inD(x:D)(ds:List D):Bool:=ds.any fun y=>beq y x
def w2P(K:PySem.W.Frag)(neg:Bool):R2:=fun x y H Q=>∃d ds p xs,Y7 ds≤z1W/\depth d≤z1W/\Rep K H d x/\y = .ref p/\(SqL K H p xs∨SqT K H p xs)/\u7 K H ds xs/\Q (.bl (if neg then !inD d ds else inD d ds)) H
open Classical in
noncomputable def inE (ds:List D) (its:List Value) (x:D) (u:Value):Bool:=if ∃(j:Nat) (d:D),its[j]?=some u/\ds[j]?=some d/\beq d x=true then true else false
theorem y6C{pins:List (Addr×Obj)}{σ:St}{H:Hp}{s:Shared}(I:Inv X pins σ H s){ds:List D}{xs:List V}{its:List Value}{x d:D}{u:Value}{j:Nat}(hr:u7 X.K H ds xs)(rv:Q4 xs its)(h1:its[j]?=some u)(h2:ds[j]?=some d):inE ds its x u=beq d x:=by
 unfold inE
 have uniq:∀(i:Nat) (e:D),its[i]?=some u->ds[i]?=some e->e=d:=fun i e g1 g2=>by
  obtain⟨v,e1,r1⟩:=hr.get g2;obtain⟨w',e2,r2⟩:=hr.get h2;obtain⟨u1,f1,s1⟩:=rv.get e1;obtain⟨u2,f2,s2⟩:=rv.get e2;rw[g1]at f1;cases f1;rw[h1]at f2;cases f2
  have:v=w':=s1.inj s2
  subst this;exact y0L I r1 r2
 by_cases hb:beq d x=true
 ·rw[if_pos ⟨j,d,h1,h2,hb⟩,hb]
 ·rw[if_neg ?_]
  ·exact (Bool.eq_false_iff.mpr hb).symm
  ·rintro ⟨i,e,g1,g2,g3⟩
   rw[uniq i e g1 g2]at g3;exact hb g3
theorem y1C{pins:List (Addr×Obj)}{σ:St}{H:Hp}{s:Shared}(I:Inv X pins σ H s){ds:List D}{xs:List V}{its:List Value}{x:D}(hr:u7 X.K H ds xs)(rv:Q4 xs its):its.any (inE ds its x)=inD x ds:=by
 have hl1:=hr.length;have hl2:=rv.length;rw[Bool.eq_iff_iff];unfold inD;rw[List.any_eq_true,List.any_eq_true];constructor
 ·rintro ⟨u,hu,e⟩
  obtain⟨j,hj,rfl⟩:=List.mem_iff_getElem.mp hu
  have h2:ds[j]?=some ds[j]:=List.getElem?_eq_getElem (by omega)
  rw[y6C I hr rv (List.getElem?_eq_getElem hj) h2]at e
  exact⟨ds[j],List.getElem_mem _,e⟩
 ·rintro ⟨d,hd,e⟩
  obtain⟨j,hj,rfl⟩:=List.mem_iff_getElem.mp hd
  have h1:its[j]?=some its[j]:=List.getElem?_eq_getElem (by omega)
  refine⟨its[j],List.getElem_mem _,?_⟩
  rw[y6C I hr rv h1 (List.getElem?_eq_getElem hj)];exact e
theorem z87{pins:List (Addr×Obj)}{σ:St}{H:Hp}{s:Shared}(I:Inv X pins σ H s)(hu:X.A.units+64<cLine){ds:List D}{xs:List V}{its:List Value}{x:D}{xv:V}{v:Value}(hr:u7 X.K H ds xs)(rv:Q4 xs its)(hd:Y7 ds≤z1W)(hd':depth x≤z1W)(hx:Rep X.K H x xv)(rx:W3 xv v):∀w'∈its.toArray,EqAt X.A.in1 s w' v (inE ds its x w'):=fun w' hw=>by
 have hl1:=hr.length;have hl2:=rv.length
 have hw':w'∈its:=by simpa using hw
 obtain⟨j,hj,rfl⟩:=List.mem_iff_getElem.mp hw'
 have h2:ds[j]?=some ds[j]:=List.getElem?_eq_getElem (by omega)
 have h1:its[j]?=some its[j]:=List.getElem?_eq_getElem hj;rw[y6C I hr rv h1 h2];obtain⟨z,e1,r1⟩:=hr.get h2;obtain⟨u1,f1,s1⟩:=rv.get e1;rw[h1]at f1;cases f1;have dd:=z2L h2
 exact (y4D I z1W X.A.in1 (by show X.A.units+1+z1W<cLine;unfold z1W;omega) (by unfold z1W;decide) (by omega) (Nat.lt_of_le_of_lt hd' (by unfold z1W;decide)) r1 hx s1 rx).1
theorem w17(hu:X.A.units+64<cLine):OpR X (compareOp .In) (w2P X.K false):=by
 intro pins s σ H x y v u Q I rx ry h;obtain⟨d,ds,p,xs,hd,hd',hx,rfl,hq,hr,q⟩:=h;cases ry
 rcases hq with hq|hq
 ·obtain⟨its,rv,pl,_⟩:=I.list hq;refine SeqAt.in_listAt (inE ds its d) pl.isList (z87 I hu hr rv hd hd' hx rx) ⟨.bl _,H,I,rfl,?_⟩
  rw[show its.toArray.any (inE ds its d)=its.any (inE ds its d) by simp,y1C I hr rv]
  exact q
 ·obtain⟨its,rv,pl,_⟩:=I.tuple hq;refine SeqAt.in_tupleAt (inE ds its d) pl (z87 I hu hr rv hd hd' hx rx) ⟨.bl _,H,I,rfl,?_⟩
  rw[show its.toArray.any (inE ds its d)=its.any (inE ds its d) by simp,y1C I hr rv]
  exact q
theorem y9N(hu:X.A.units+64<cLine):OpR X (compareOp .NotIn) (w2P X.K true):=by
 intro pins s σ H x y v u Q I rx ry h;obtain⟨d,ds,p,xs,hd,hd',hx,rfl,hq,hr,q⟩:=h;cases ry
 rcases hq with hq|hq
 ·obtain⟨its,rv,pl,_⟩:=I.list hq;refine SeqAt.notIn_listAt (inE ds its d) pl.isList (z87 I hu hr rv hd hd' hx rx) ⟨.bl _,H,I,rfl,?_⟩
  rw[show its.toArray.any (inE ds its d)=its.any (inE ds its d) by simp,y1C I hr rv]
  exact q
 ·obtain⟨its,rv,pl,_⟩:=I.tuple hq;refine SeqAt.notIn_tupleAt (inE ds its d) pl (z87 I hu hr rv hd hd' hx rx) ⟨.bl _,H,I,rfl,?_⟩
  rw[show its.toArray.any (inE ds its d)=its.any (inE ds its d) by simp,y1C I hr rv]
  exact q
def dIn(neg:Bool)(fa:z9->Option D)(fb:z9->Option (List D)):z9->Option D:=fun ρ=>match fa ρ with
 | some x=>(match fb ρ with|some ds=>if Y7 ds≤z1W/\depth x≤z1W then some (.bl (if neg then !inD x ds else inD x ds)) else none|none=>none)
 | none=>none
theorem x51{K:PySem.W.Frag}{neg:Bool}{fb:z9->Option (List D)}:∀σ H Q,tD K (dIn neg fa fb) σ H Q->tOp (w2P K neg) (tD K fa) (tQ K fb) σ H Q :=
 fun σ H Q ⟨ρ,d,B,H0,V0,Z,e,r,q⟩=>by
  unfold dIn at e;split at e
  ·rename_i x ex;split at e
   ·rename_i ds ey;split at e
    ·rename_i hd;cases e
     exact⟨ρ,x,B,H0,V0,Z,ex,r,fun u H1 s1 r1=>⟨ρ,ds,B,H0,V0,Z,ey,r.mono s1,fun p xs H2 s2 hq r2 =>
      ⟨x,ds,p,xs,hd.1,hd.2,(r1.mono (y3 s2)).mono y4,rfl,hq.imp id (v3 y4),r2.mono y4,q _ H2 (s1.trans s2) (g8.mpr rfl)⟩⟩⟩
    ·cases e
   ·cases e
  ·cases e
theorem w2E{fb:z9->Option (List D)}(hu:X.A.units+64<cLine)(ha:SE X a fa)(hb:SQ X b fb)(hm:behindInMarks .In b=false:=by with_unfolding_all rfl):STt X (.Compare a [.In] [b] pos) (x9 (dIn false fa fb)) :=
 z4R (y42 (w17 hu) ha hb hm) fun σ H Q h=>x51 _ _ _ (z59 σ H Q h)
theorem x93{fb:z9->Option (List D)}(hu:X.A.units+64<cLine)(ha:SE X a fa)(hb:SQ X b fb)(hm:behindInMarks .NotIn b=false:=by with_unfolding_all rfl):STt X (.Compare a [.NotIn] [b] pos) (x9 (dIn true fa fb)) :=
 z4R (y42 (y9N hu) ha hb hm) fun σ H Q h=>x51 _ _ _ (z59 σ H Q h)
theorem x2O{K:PySem.W.Frag}{H:Hp}{ds:List D}{xs:List V}{i:Int}{d:D}(h:u7 K H ds xs)(e:atI ds i=some d):∃v,atI xs i=some v/\Rep K H d v:=by
 unfold atI at e ⊢;rw[←h.length]
 cases hi:ixN ds.length i with
 | none=>rw[hi]at e;cases e
 | some j =>
  rw[hi]at e;exact h.get e
def dIx(fa:z9->Option (List D))(fb:z9->Option D):z9->Option D:=fun ρ=>match fa ρ with|some ds=>(match fb ρ with|some (.int i)=>atI ds i|_=>none)|none=>none
theorem w2J{fa:z9->Option (List D)}(ha:SQ X a fa)(hb:SE X b fb)(hs:y4U b:=by exact fun _ _=>rfl):SE X (.Subscript a b pos) (dIx fa fb) :=
 v5 (w2Y w1M ha hb hs) fun σ H Q ⟨ρ,d,B,H0,V0,Z,e,r,q⟩=>by
  unfold dIx at e;split at e
  ·rename_i ds eds;split at e
   ·rename_i i ei
    refine⟨ρ,ds,B,H0,V0,Z,eds,r,fun p xs H1 s1 hq r1=>⟨ρ,_,B,H0,V0,Z,ei,r.mono s1,fun u H2 s2 r2=>?_⟩⟩
    obtain rfl:=x4.mp r2
    obtain⟨v,hv,rv⟩:=x2O (r1.mono (y3 s2)) e;have fin:=q v H2 (s1.trans s2) rv
    rcases hq with hq|hq
    ·exact .inl ⟨p,xs,i,v,rfl,rfl,s2.seq hq,hv,fin⟩
    ·exact .inr (.inl ⟨p,xs,i,v,rfl,rfl,v3 s2 (v3 y4 hq),hv,fin⟩)
   ·cases e
  ·cases e
def tO(K:PySem.W.Frag)(f:z9->Option (Option Int)):TO:=fun σ H Q=>∃ρ o B H0 V0 Z,f ρ=some o/\SR K B H0 V0 H Z σ ρ/\∀H',u5 H H'->Q o H'
abbrev SO(X:Cx)(e:Option Expr)(f:z9->Option (Option Int)):Prop:=PO X e (tO X.K f)
def y3H:z9->Option (Option Int):=fun _=>some none
def z2C(f:z9->Option D):z9->Option (Option Int):=fun ρ=>match f ρ with|some (.int i)=>some (some i)|_=>none
theorem x5T:SO X none y3H:=fun pins s σ H Q I ⟨ρ,o,B,H0,V0,Z,e,r,q⟩=>by
 cases e;exact x6U pins s σ H Q I (q H (u5.refl H))
theorem x5S{f:z9->Option D}(h:SE X a f):SO X (some a) (z2C f):=fun pins s σ H Q I ⟨ρ,o,B,H0,V0,Z,e,r,q⟩=>by
 refine x6T h pins s σ H Q I ?_;unfold z2C at e;split at e
 ·rename_i i ei;cases e
  exact⟨ρ,_,B,H0,V0,Z,ei,r,fun v H' s rr=>⟨i,x4.mp rr,q H' s⟩⟩
 ·cases e
def cut{α:Type}(xs:List α)(lo hi:Option Int):List α:=(xs.drop (HT.sIx xs.length 0 lo)).take (HT.sIx xs.length xs.length hi-HT.sIx xs.length 0 lo)
theorem y5D{K:PySem.W.Frag}{H:Hp}{ds:List D}{xs:List V}(lo hi:Option Int)(h:u7 K H ds xs):u7 K H (cut ds lo hi) (x1T xs lo hi):=by
 unfold cut x1T;rw[h.length];exact (h.drop _).take _
def dSl:D->Option Int->Option Int->Option D:=fun x lo hi=>match x with
 | .tup ds=>if HT.sIx ds.length 0 lo=0/\HT.sIx ds.length ds.length hi=ds.length then none else some (.tup (cut ds lo hi))
 | .lst ds=>some (.lst (cut ds lo hi))
 | _=>none
def z96(f:z9->Option D)(fl fh:z9->Option (Option Int)):z9->Option D:=fun ρ=>match f ρ with
 | some x=>(match fl ρ with|some lo=>(match fh ρ with|some hi=>dSl x lo hi|none=>none)|none=>none)
 | none=>none
theorem w2H{lo hi:Option Expr}{p2:Pos}{fl fh:z9->Option (Option Int)}(he:SE X a fa)(hl:SO X lo fl)(hh:SO X hi fh):SE X (.Subscript a (.Slice lo hi none p2) pos) (z96 fa fl fh) :=
 v5 (x31 (x9G.or x5U) he hl hh) fun σ H Q ⟨ρ,d,B,H0,V0,Z,e,r,q⟩=>by
  unfold z96 at e;split at e
  ·rename_i x ex;split at e
   ·rename_i l el;split at e
    ·rename_i h eh
     refine⟨ρ,x,B,H0,V0,Z,ex,r,fun u H1 s1 r1=>⟨ρ,l,B,H0,V0,Z,el,r.mono s1,fun H2 s2=>⟨ρ,h,B,H0,V0,Z,eh,(r.mono s1).mono s2,fun H3 s3=>?_⟩⟩⟩
     have R3:=((r.mono s1).mono s2).mono s3;have rx:=r1.mono (y3 (s2.trans s3));unfold dSl at e;split at e
     ·rename_i ds;split at e
      ·cases e
      ·rename_i hw;cases e;obtain⟨p,xs,rfl,h1,h2⟩:=v4.mp rx
       refine .inl ⟨p,xs,rfl,v3 y4 h1,by rw[←h2.length];exact hw,fun n hn=>?_⟩
       have sn:=v8 (o:=HO.tup (x1T xs l h)) hn;refine q _ _ (s1.trans (s2.trans (s3.trans sn))) (v4.mpr ⟨n,_,rfl,SqT.of ?_,(y5D l h h2).mono (y3 sn)⟩);rw[Q6 (R3.newer hn)];exact x5
     ·rename_i ds;cases e;obtain⟨p,xs,rfl,h1,h2⟩:=j1.mp rx
      refine .inr ⟨p,xs,rfl,y4.seq h1,fun n hn=>?_⟩
      have sn:=v8 (o:=HO.lst (x1T xs l h)) hn;refine q _ _ (s1.trans (s2.trans (s3.trans sn))) (j1.mpr ⟨n,_,rfl,SqL.of ?_,(y5D l h h2).mono (y3 sn)⟩);rw[Q6 (R3.newer hn)];exact x5
     ·cases e
    ·cases e
   ·cases e
  ·cases e
def z8Y(f:z9->Option (List D)):z9->Option D:=fun ρ=>(f ρ).map fun ds=>D.int ds.length
theorem x9X{p:Pos}{f:z9->Option (List D)}(hm:X.mg "len" = none)(h:SQ X a f)(hg:Gl X "len":=by rfl)(he:starEach [a] X.env=(false,eval a X.env)::starEach [] X.env:=by exact y2 rfl)(hpl:(backTo pos (starEach [] X.env)).any (·.1)=false:=by exact x6 rfl):SE X (.Call (.Name "len" p) [a] [] pos) (z8Y f) :=
 v5 (z20 y35 hg hm PySem.boot_len (J9 h W4 he) (by decide) (by decide) he hpl) fun σ H Q ⟨ρ,d,B,H0,V0,Z,e,r,q⟩=>by
  unfold z8Y at e;obtain⟨ds,eds,rfl⟩:=Option.map_eq_some_iff.mp e
  exact⟨ρ,ds,B,H0,V0,Z,eds,r,fun p xs H' s hq rr=>⟨p,xs,rfl,hq.imp id (v3 y4),q _ H' s (by rw[←rr.length];exact x4.mpr rfl)⟩⟩
def z4F(f:z9->Option (List D)):z9->Option D:=fun ρ=>(f ρ).map D.tup
theorem x2J{p:Pos}{f:z9->Option (List D)}(hm:X.mg "tuple" = none)(h:SQ X a f)(hg:Gl X "tuple":=by rfl)(he:starEach [a] X.env=(false,eval a X.env)::starEach [] X.env:=by exact y2 rfl)(hpl:(backTo pos (starEach [] X.env)).any (·.1)=false:=by exact x6 rfl)(hv:bootBuiltins "tuple" = some (.type "tuple"):=by decide +kernel):SE X (.Call (.Name "tuple" p) [a] [] pos) (z4F f) :=
 v5 (z1O z5S hg hm hv (J9 h W4 he) (by decide) (by decide) he hpl) fun σ H Q ⟨ρ,d,B,H0,V0,Z,e,r,q⟩=>by
  unfold z4F at e;obtain⟨ds,eds,rfl⟩:=Option.map_eq_some_iff.mp e
  refine⟨ρ,ds,B,H0,V0,Z,eds,r,fun p xs H' s hq rr=>⟨p,xs,rfl,?_⟩⟩
  rcases hq with hq|hq
  ·refine .inl ⟨hq,fun l hl=>?_⟩
   have sn:=v8 (o:=HO.tup xs) hl;refine q _ _ (s.trans sn) (v4.mpr ⟨l,xs,rfl,SqT.of ?_,rr.mono (y3 sn)⟩);rw[Q6 ((r.mono s).newer hl)];exact x5
  ·exact .inr ⟨v3 y4 hq,q _ H' s (v4.mpr ⟨p,xs,rfl,hq,rr⟩)⟩
end
end L3
namespace L3
open PySem PySem.W PyProof.Rows
def z1M{α:Type}(lt:Nat->Nat->Bool):KasT α->α
 | .ret a=>a
 | .ask i j k=>z1M lt (k (lt i j))
theorem z0L{α β:Type}(lt:Nat->Nat->Bool)(f:α->KasT β):∀t:KasT α,z1M lt (t.bind f)=z1M lt (f (z1M lt t))
 | .ret _=>rfl
 | .ask i j k=>z0L lt f (k (lt i j))
structure KOrd(lt:Nat->Nat->Bool):Prop where
 asym:∀i j,lt i j=true->lt j i=false
 tr:∀i j k,lt j i=false->lt k j=false->lt k i=false
def gt(p:Array Nat)(i:Nat):Nat:=p.getD i 0
theorem y7K{p q:Array Nat}{i j:Nat}(h:p[i]?=q[j]?):gt p i=gt q j:=by
 unfold gt;rw[Array.getD_eq_getD_getElem?,Array.getD_eq_getD_getElem?,h]
def Up(lt:Nat->Nat->Bool)(p:Array Nat)(b:Nat):Prop:=∀i j,i≤j->j<b->lt (gt p j) (gt p i)=false
def Dn(lt:Nat->Nat->Bool)(p:Array Nat)(b:Nat):Prop:=∀i j,i≤j->j<b->lt (gt p i) (gt p j)=false
def Al(lt:Nat->Nat->Bool)(p:Array Nat)(a b:Nat):Prop:=∀i j,a≤i->i<b->a≤j->j<b->lt (gt p i) (gt p j)=false
section
variable{lt:Nat->Nat->Bool}(O:KOrd lt)
theorem KOrd.irr{lt:Nat->Nat->Bool}(O:KOrd lt)(i:Nat):lt i i=false:=by
 cases h:lt i i with
 | false=>rfl
 | true=>rw[O.asym i i h]at h;cases h
theorem z6O{p:Array Nat}{i j:Nat}(hj:j≤p.size)(hij:i≤j)(k:Nat):gt (kas_rev p i j) k=if i≤k/\k<j then gt p (i+j-1-k) else gt p k:=by
 unfold kas_rev
 have e:=getElem?_mirror (xs:=p) (i:=i) hj ((j-i) / 2) (by omega) k
 by_cases h:i≤k/\k<j
 ·rw[if_pos h];by_cases h2:(i≤k/\k<i+(j-i) / 2)∨(j-(j-i) / 2≤k/\k<j)
  ·rw[if_pos h2]at e;exact y7K e
  ·rw[if_neg h2]at e
   have:i+j-1-k=k:=by omega
   rw[this];exact y7K e
 ·rw[if_neg h]
  rw[if_neg (by omega)]at e
  exact y7K e
theorem z2S(p:Array Nat)(i j:Nat):(kas_rev p i j).size=p.size:=mirror_size _ _ _ _
theorem z1F(p:Array Nat)(i j:Nat):(kas_rev p i j).Perm p:=mirror_perm _ _ _ _
include O
theorem x1M{p:Array Nat}:∀(f n:Nat),1≤n->Up lt p n->n≤z1M lt (kas_asc p f n)/\z1M lt (kas_asc p f n)≤n+f/\Up lt p (z1M lt (kas_asc p f n)) /\
  (z1M lt (kas_asc p f n)<n+f->lt (gt p (z1M lt (kas_asc p f n))) (gt p (z1M lt (kas_asc p f n)-1))=true)
 | 0,n,h1,h=>⟨Nat.le_refl _,Nat.le_refl _,h,fun z=>absurd z (Nat.lt_irrefl _)⟩
 | f+1,n,h1,h=>by
  have e:z1M lt (kas_asc p (f+1) n)=z1M lt (if lt (gt p n) (gt p (n-1))=true then KasT.ret n else kas_asc p f (n+1)):=rfl
  rw[e]
  cases hc:lt (gt p n) (gt p (n-1)) with
  | true =>
   rw[if_pos rfl]
   exact⟨Nat.le_refl _,Nat.le_add_right _ _,h,fun _=>hc⟩
  | false =>
   rw[if_neg Bool.false_ne_true]
   have h':Up lt p (n+1):=fun i j hij hj=>by
    by_cases hjn:j<n
    ·exact h i j hij hjn
    ·have:j=n:=by omega
     subst this;by_cases hi:i=j
     ·subst hi;exact O.irr _
     ·exact O.tr _ _ _ (h i (j-1) (by omega) (by omega)) hc
   obtain⟨a1,a2,a3,a4⟩:=x1M f (n+1) (by omega) h'
   exact⟨by omega,by omega,a3,fun z=>a4 (by omega)⟩
theorem x4D{p:Array Nat}{n q:Nat}(hz:n≤p.size)(hq:q+1≤n)(hd:Dn lt p n)(ha:Al lt p (n-(q+1)) n):Dn lt (kas_rev p (n-(q+1)) n) n:=fun i j hij hj=>by
 rw[z6O hz (by omega),z6O hz (by omega)]
 by_cases h1:n-(q+1)≤i/\i<n
 ·have h2:n-(q+1)≤j/\j<n:=by omega
  rw[if_pos h1,if_pos h2]
  exact ha _ _ (by omega) (by omega) (by omega) (by omega)
 ·rw[if_neg h1];by_cases h2:n-(q+1)≤j/\j<n
  ·rw[if_pos h2]
   exact hd _ _ (by omega) (by omega)
  ·rw[if_neg h2];exact hd _ _ hij hj
theorem y11:∀(f:Nat) (p:Array Nat) (n q:Nat),n+f≤p.size->q+1≤n->Dn lt p n->Al lt p (n-(q+1)) n ->
  ∃p' m q',z1M lt (kas_desc f p n q)=(p',m,q')/\p'.size=p.size/\p'.Perm p/\n≤m/\m≤n+f/\q'+1≤m/\Dn lt p' m/\Al lt p' (m-(q'+1)) m
 | 0,p,n,q,hz,hq,hd,ha=>⟨p,n,q,rfl,rfl,Array.Perm.refl _,Nat.le_refl _,Nat.le_refl _,hq,hd,ha⟩
 | f+1,p,n,q,hz,hq,hd,ha=>by
  have e:z1M lt (kas_desc (f+1) p n q)=z1M lt (if lt (gt p n) (gt p (n-1))=true then (if q>0 then kas_desc f (kas_rev p (n-(q+1)) n) (n+1) 0 else kas_desc f p (n+1) 0)
   else .ask (p.getD (n-1) 0) (p.getD n 0) fun d=>if d=true then .ret (p,n,q) else kas_desc f p (n+1) (q+1)):=rfl
  rw[e]
  cases hc:lt (gt p n) (gt p (n-1)) with
  | true =>
   rw[if_pos rfl]
   have less:∀i,i<n->lt (gt p i) (gt p n)=false:=fun i hi=>O.tr _ _ _ (O.asym _ _ hc) (hd i (n-1) (by omega) (by omega))
   by_cases h0:q>0
   ·rw[if_pos h0]
    have hd':=x4D O (by omega) hq hd ha
    have hd2:Dn lt (kas_rev p (n-(q+1)) n) (n+1):=fun i j hij hj=>by
     by_cases hjn:j<n
     ·exact hd' i j hij hjn
     ·have:j=n:=by omega
      subst this;by_cases hi:i=j
      ·subst hi;exact O.irr _
      ·rw[z6O (by omega) (by omega),z6O (by omega) (by omega),if_neg (by omega:¬(j-(q+1)≤j/\j<j))]
       split
       ·exact less _ (by omega)
       ·exact less _ (by omega)
    obtain⟨p',m,q',e1,e2,e3,e4,e5,e6,e7,e8⟩:=y11 f (kas_rev p (n-(q+1)) n) (n+1) 0 (by rw[z2S];omega) (by omega) hd2 (fun i j h1 h2 h3 h4=>by
     have:i=j:=by omega
     subst this;exact O.irr _)
    exact⟨p',m,q',e1,by rw[e2,z2S],e3.trans (z1F _ _ _),by omega,by omega,e6,e7,e8⟩
   ·rw[if_neg h0]
    have hd2:Dn lt p (n+1):=fun i j hij hj=>by
     by_cases hjn:j<n
     ·exact hd i j hij hjn
     ·have:j=n:=by omega
      subst this;by_cases hi:i=j
      ·subst hi;exact O.irr _
      ·exact less i (by omega)
    obtain⟨p',m,q',e1,e2,e3,e4,e5,e6,e7,e8⟩:=y11 f p (n+1) 0 (by omega) (by omega) hd2 (fun i j h1 h2 h3 h4=>by
     have:i=j:=by omega
     subst this;exact O.irr _)
    exact⟨p',m,q',e1,e2,e3,by omega,by omega,e6,e7,e8⟩
  | false =>
   rw[if_neg Bool.false_ne_true]
   have e':z1M lt (KasT.ask (p.getD (n-1) 0) (p.getD n 0) fun d=>if d=true then .ret (p,n,q) else kas_desc f p (n+1) (q+1))=z1M lt (if lt (gt p (n-1)) (gt p n)=true then .ret (p,n,q) else kas_desc f p (n+1) (q+1)):=rfl
   rw[e']
   cases hc2:lt (gt p (n-1)) (gt p n) with
   | true =>
    rw[if_pos rfl]
    exact⟨p,n,q,rfl,rfl,Array.Perm.refl _,Nat.le_refl _,by omega,hq,hd,ha⟩
   | false =>
    rw[if_neg Bool.false_ne_true]
    have hd2:Dn lt p (n+1):=fun i j hij hj=>by
     by_cases hjn:j<n
     ·exact hd i j hij hjn
     ·have:j=n:=by omega
      subst this;by_cases hi:i=j
      ·subst hi;exact O.irr _
      ·exact O.tr _ _ _ hc2 (hd i (j-1) (by omega) (by omega))
    have ha2:Al lt p (n+1-(q+1+1)) (n+1):=fun i j h1 h2 h3 h4=>by
     have lastL:∀i,n-(q+1)≤i->i<n->lt (gt p i) (gt p n)=false:=fun i g1 g2=>O.tr _ _ _ hc2 (ha i (n-1) g1 g2 (by omega) (by omega))
     have lastR:∀i,n-(q+1)≤i->i<n->lt (gt p n) (gt p i)=false:=fun i g1 g2=>O.tr _ _ _ (ha (n-1) i (by omega) (by omega) g1 g2) hc
     by_cases hi:i<n
     ·by_cases hj:j<n
      ·exact ha i j (by omega) hi (by omega) hj
      ·have:j=n:=by omega
       subst this
       exact lastL i (by omega) hi
     ·have:i=n:=by omega
      subst this;by_cases hj:j<i
      ·exact lastR j (by omega) hj
      ·have:j=i:=by omega
       subst this;exact O.irr _
    obtain⟨p',m,q',e1,e2,e3,e4,e5,e6,e7,e8⟩:=y11 f p (n+1) (q+1) (by omega) (by omega) hd2 ha2
    exact⟨p',m,q',e1,e2,e3,by omega,by omega,e6,e7,e8⟩
theorem w06{p:Array Nat}{n:Nat}(hz:n≤p.size)(hd:Dn lt p n):Up lt (kas_rev p 0 n) n:=fun i j hij hj=>by
 rw[z6O hz (by omega),z6O hz (by omega),if_pos (by omega),if_pos (by omega)]
 exact hd _ _ (by omega) (by omega)
theorem y8Q{p:Array Nat}{n nrem:Nat}(hn:n≤nrem)(h1:1≤n)(hz:nrem≤p.size)(hd:Dn lt p n) :
  ∃m p',z1M lt (kas_tail3 n nrem p)=(m,p')/\p'.size=p.size/\p'.Perm p/\1≤m/\m≤nrem/\Up lt p' m:=by
 unfold kas_tail3;rw[z0L]
 obtain⟨a1,a2,a3,_⟩:=x1M O (nrem-n) n h1 (w06 O (by omega) hd)
 exact⟨_,_,rfl,z2S _ _ _,z1F _ _ _,by omega,by omega,a3⟩
theorem z8F{p:Array Nat}{n nrem:Nat}(hn:n+1≤nrem)(hz:nrem≤p.size)(hd:Dn lt p (n+1)) :
  ∃m p',z1M lt (kas_descPart n nrem p)=(m,p')/\p'.size=p.size/\p'.Perm p/\1≤m/\m≤nrem/\Up lt p' m:=by
 unfold kas_descPart;rw[z0L]
 obtain⟨p',m,q',e1,e2,e3,e4,e5,e6,e7,e8⟩:=y11 O (nrem-(n+1)) p (n+1) 0 (by omega) (by omega) hd (fun i j h1 h2 h3 h4=>by
  have:i=j:=by omega
  subst this;exact O.irr _)
 rw[e1];dsimp only;by_cases hq:q'>0
 ·rw[if_pos hq]
  obtain⟨m2,p2,t1,t2,t3,t4,t5,t6⟩:=y8Q O (p:=kas_rev p' (m-(q'+1)) m) (n:=m) (nrem:=nrem) (by omega) (by omega) (by rw[z2S];omega) (x4D O (by omega) e6 e7 e8)
  exact⟨m2,p2,t1,by rw[t2,z2S,e2],t3.trans ((z1F _ _ _).trans e3),t4,t5,t6⟩
 ·rw[if_neg hq]
  obtain⟨m2,p2,t1,t2,t3,t4,t5,t6⟩:=y8Q O (p:=p') (n:=m) (nrem:=nrem) (by omega) (by omega) (by omega) e7
  exact⟨m2,p2,t1,by rw[t2,e2],t3.trans e3,t4,t5,t6⟩
theorem x41{p:Array Nat}{nrem:Nat}(h1:1≤nrem)(hz:nrem≤p.size) :
  ∃m p',z1M lt (kas_count nrem p)=(m,p')/\p'.size=p.size/\p'.Perm p/\1≤m/\m≤nrem/\Up lt p' m:=by
 unfold kas_count;rw[z0L]
 obtain⟨a1,a2,a3,a4⟩:=x1M O (p:=p) (nrem-1) 1 (Nat.le_refl _) (fun i j hij hj=>by
  have:i=j:=by omega
  subst this;exact O.irr _)
 generalize z1M lt (kas_asc p (nrem-1) 1)=n at a1 a2 a3 a4;by_cases e1:(n==nrem)=true
 ·rw[if_pos e1]
  exact⟨n,p,rfl,rfl,Array.Perm.refl _,a1,by omega,a3⟩
 ·rw[if_neg e1]
  have hne:n≠nrem:=fun q=>e1 (by rw[q];exact beq_self_eq_true _)
  have hlt:=a4 (by omega)
  by_cases e2:n>1
  ·rw[if_pos e2]
   have e':z1M lt (KasT.ask (p.getD 0 0) (p.getD (n-1) 0) fun c=>if c=true then .ret (n,p) else kas_descPart n nrem (kas_rev p 0 n))=z1M lt (if lt (gt p 0) (gt p (n-1))=true then .ret (n,p) else kas_descPart n nrem (kas_rev p 0 n)):=rfl
   rw[e']
   cases hc:lt (gt p 0) (gt p (n-1)) with
   | true =>
    rw[if_pos rfl]
    exact⟨n,p,rfl,rfl,Array.Perm.refl _,a1,by omega,a3⟩
   | false =>
    rw[if_neg Bool.false_ne_true]
    have all:∀i j,i<n->j<n->lt (gt p i) (gt p j)=false:=fun i j hi hj =>
     O.tr _ _ _ (O.tr _ _ _ (a3 j (n-1) (by omega) (by omega)) hc) (a3 0 i (by omega) hi)
    obtain⟨m2,p2,t1,t2,t3,t4,t5,t6⟩:=z8F O (p:=kas_rev p 0 n) (n:=n) (nrem:=nrem) (by omega) (by rw[z2S];exact hz) (fun i j hij hj=>by
     rw[z6O (by omega) (by omega),z6O (by omega) (by omega)]
     by_cases hjn:j<n
     ·rw[if_pos (by omega),if_pos (by omega)]
      exact all _ _ (by omega) (by omega)
     ·have:j=n:=by omega
      subst this
      rw[if_neg (by omega:¬(0≤j/\j<j))]
      by_cases hi:i<j
      ·rw[if_pos (by omega)]
       exact O.tr _ _ _ (O.asym _ _ hlt) (all _ _ (by omega) (by omega))
      ·rw[if_neg (by omega)]
       have:i=j:=by omega
       subst this;exact O.irr _)
    exact⟨m2,p2,t1,by rw[t2,z2S],t3.trans (z1F _ _ _),t4,t5,t6⟩
  ·rw[if_neg e2]
   have:n=1:=by omega
   subst this
   obtain⟨m2,p2,t1,t2,t3,t4,t5,t6⟩:=z8F O (p:=p) (n:=1) (nrem:=nrem) (by omega) hz (fun i j hij hj=>by
    by_cases hij':i=j
    ·subst hij';exact O.irr _
    ·have hi:i=0:=by omega
     have hj':j=1:=by omega
     subst hi hj'
     exact O.asym _ _ hlt)
   exact⟨m2,p2,t1,t2,t3,t4,t5,t6⟩
theorem y0O{p:Array Nat}{k:Nat}(hu:Up lt p k):∀(f l r:Nat),r-l≤f->l≤r->r≤k->(∀i,i<l->lt (gt p k) (gt p i)=false)->(∀i,r≤i->i<k->lt (gt p i) (gt p k)=false) ->
  z1M lt (kas_place p k f l r)≤k/\(∀i,i<z1M lt (kas_place p k f l r)->lt (gt p k) (gt p i)=false)/\(∀i,z1M lt (kas_place p k f l r)≤i->i<k->lt (gt p i) (gt p k)=false)
 | 0,l,r,hf,hlr,hr,h1,h2=>⟨show l≤k by omega,h1,fun i (g1:l≤i) g2=>h2 i (by omega) g2⟩
 | f+1,l,r,hf,hlr,hr,h1,h2=>by
  have e:z1M lt (kas_place p k (f+1) l r)=z1M lt (if l≥r then .ret l else .ask (p.getD k 0) (p.getD ((l+r) / 2) 0) fun c=>if c=true then kas_place p k f l ((l+r) / 2) else kas_place p k f ((l+r) / 2+1) r):=rfl
  rw[e];by_cases hge:l≥r
  ·rw[if_pos hge]
   exact⟨show l≤k by omega,h1,fun i (g1:l≤i) g2=>h2 i (by omega) g2⟩
  ·rw[if_neg hge]
   have e':z1M lt (KasT.ask (p.getD k 0) (p.getD ((l+r) / 2) 0) fun c=>if c=true then kas_place p k f l ((l+r) / 2) else kas_place p k f ((l+r) / 2+1) r) =
    z1M lt (if lt (gt p k) (gt p ((l+r) / 2))=true then kas_place p k f l ((l+r) / 2) else kas_place p k f ((l+r) / 2+1) r):=rfl
   rw[e']
   cases hc:lt (gt p k) (gt p ((l+r) / 2)) with
   | true =>
    rw[if_pos rfl]
    exact y0O hu f l ((l+r) / 2) (by omega) (by omega) (by omega) h1 fun i g1 g2=>O.tr _ _ _ (O.asym _ _ hc) (hu _ i g1 g2)
   | false =>
    rw[if_neg Bool.false_ne_true]
    exact y0O hu f ((l+r) / 2+1) r (by omega) (by omega) hr (fun i g1=>O.tr _ _ _ (hu i _ (by omega) (by omega)) hc) h2
theorem x54:∀(f:Nat) (p:Array Nat) (k:Nat),k+f≤p.size->Up lt p k->∃p',z1M lt (kas_bin f p k)=p'/\p'.size=p.size/\p'.Perm p/\Up lt p' (k+f)
 | 0,p,k,_,hu=>⟨p,rfl,rfl,Array.Perm.refl _,hu⟩
 | f+1,p,k,hz,hu=>by
  have e:z1M lt (kas_bin (f+1) p k)=z1M lt ((kas_place p k k 0 k).bind fun l=>kas_bin f (bubble p k (k-l)) (k+1)):=rfl
  rw[e,z0L]
  obtain⟨b1,b2,b3⟩:=y0O O hu k 0 k (by omega) (by omega) (Nat.le_refl _) (fun i g=>by omega) (fun i g1 g2=>by omega)
  generalize z1M lt (kas_place p k k 0 k)=l at b1 b2 b3
  have bg:∀x,gt (bubble p k (k-l)) x=if x=l then gt p k else if l<x/\x≤k then gt p (x-1) else gt p x:=fun x=>by
   have e:=getElem?_bubble (xs:=p) (src:=k) (by omega) (k-l) (by omega) x
   have ek:k-(k-l)=l:=by omega
   rw[ek]at e;by_cases g1:x=l
   ·rw[if_pos g1]at e ⊢;exact y7K e
   ·rw[if_neg g1]at e ⊢;by_cases g2:l<x/\x≤k
    ·rw[if_pos g2]at e ⊢;exact y7K e
    ·rw[if_neg g2]at e ⊢;exact y7K e
  have hu':Up lt (bubble p k (k-l)) (k+1):=fun i j hij hj=>by
   by_cases hij':i=j
   ·subst hij';exact O.irr _
   rw[bg,bg];by_cases hj1:j=l
   ·rw[if_pos hj1,if_neg (by omega:¬i=l),if_neg (by omega:¬(l<i/\i≤k))]
    exact b2 i (by omega)
   ·rw[if_neg hj1];by_cases hj2:l<j/\j≤k
    ·rw[if_pos hj2];by_cases hi1:i=l
     ·rw[if_pos hi1]
      exact b3 _ (by omega) (by omega)
     ·rw[if_neg hi1];by_cases hi2:l<i/\i≤k
      ·rw[if_pos hi2]
       exact hu _ _ (by omega) (by omega)
      ·rw[if_neg hi2]
       exact hu _ _ (by omega) (by omega)
    ·rw[if_neg hj2,if_neg (by omega:¬i=l),if_neg (by omega:¬(l<i/\i≤k))]
     exact hu _ _ hij (by omega)
  obtain⟨p',e1,e2,e3,e4⟩:=x54 f (bubble p k (k-l)) (k+1) (by rw[bubble_size];omega) hu'
  exact⟨p',e1,by rw[e2,bubble_size],e3.trans (bubble_perm _ _ _),by rw[show k+(f+1)=k+1+f by omega];exact e4⟩
theorem y8W{n:Nat}(hn:1≤n):∃p,z1M lt (kas_sort n)=p/\p.size=n/\p.Perm (List.toArray (List.range n))/\Up lt p n:=by
 unfold kas_sort;rw[z0L]
 have hz:(List.toArray (List.range n)).size=n:=by simp
 obtain⟨m,p',e1,e2,e3,e4,e5,e6⟩:=x41 O (p:=List.toArray (List.range n)) (nrem:=n) hn (by rw[hz];exact Nat.le_refl _)
 rw[e1];dsimp only;by_cases h:m<n
 ·rw[if_pos h]
  have em:max m 1=m:=by omega
  rw[em]
  obtain⟨p2,t1,t2,t3,t4⟩:=x54 O (n-m) p' m (by omega) e6
  exact⟨p2,t1,by rw[t2,e2,hz],t3.trans e3,by rw[show n=m+(n-m) by omega];exact t4⟩
 ·rw[if_neg h]
  have em:m=n:=by omega
  subst em
  exact⟨p',rfl,by rw[e2,hz],e3,e6⟩
end
def y1G{α:Type}(lt:Nat->Nat->Bool)(n:Nat):KasT α->Prop
 | .ret _=>True
 | .ask i j k=>i<n/\j<n/\y1G lt n (k (lt i j))
def InN(n:Nat)(p:Array Nat):Prop:=0<n/\∀x,x∈p->x<n
section
variable{lt:Nat->Nat->Bool}{n:Nat}
theorem z2N{α β:Type}{f:α->KasT β}:∀{t:KasT α},y1G lt n t->y1G lt n (f (z1M lt t))->y1G lt n (t.bind f)
 | .ret _,_,h=>h
 | .ask i j k,⟨h1,h2,h3⟩,h=>⟨h1,h2,z2N (t:=k (lt i j)) h3 h⟩
theorem InN.gt{p:Array Nat}(h:InN n p)(i:Nat):p.getD i 0<n:=by
 rw[Array.getD_eq_getD_getElem?]
 cases e:p[i]? with
 | none=>exact h.1
 | some x=>exact h.2 x (Array.mem_of_getElem? e)
theorem InN.perm{p q:Array Nat}(h:InN n p)(e:q.Perm p):InN n q:=⟨h.1,fun x hx=>h.2 x (e.mem_iff.mp hx)⟩
theorem z5U{α:Type}{c:Bool}{t u:KasT α}(h1:y1G lt n t)(h2:y1G lt n u):y1G lt n (if c=true then t else u):=by
 cases c with
 | true=>rw[if_pos rfl];exact h1
 | false=>rw[if_neg Bool.false_ne_true];exact h2
theorem z2M{α:Type}{c:Prop}[Decidable c]{t u:KasT α}(h1:y1G lt n t)(h2:y1G lt n u):y1G lt n (if c then t else u):=by
 split
 ·exact h1
 ·exact h2
theorem x1N{p:Array Nat}(h:InN n p):∀f m,y1G lt n (kas_asc p f m)
 | 0,_=>trivial
 | f+1,m=>⟨h.gt _,h.gt _,z5U trivial (x1N h f (m+1))⟩
theorem z4W:∀(f:Nat) (p:Array Nat) (m q:Nat),InN n p->y1G lt n (kas_desc f p m q)/\InN n (z1M lt (kas_desc f p m q)).1
 | 0,p,_,_,h=>⟨trivial,h⟩
 | f+1,p,m,q,h=>by
  have hr:InN n (kas_rev p (m-(q+1)) m):=h.perm (z1F _ _ _)
  have e:z1M lt (kas_desc (f+1) p m q)=z1M lt (if lt (p.getD m 0) (p.getD (m-1) 0)=true then (if q>0 then kas_desc f (kas_rev p (m-(q+1)) m) (m+1) 0 else kas_desc f p (m+1) 0)
   else .ask (p.getD (m-1) 0) (p.getD m 0) fun d=>if d=true then .ret (p,m,q) else kas_desc f p (m+1) (q+1)):=rfl
  refine⟨⟨h.gt _,h.gt _,z5U (z2M (z4W f _ _ _ hr).1 (z4W f _ _ _ h).1) ⟨h.gt _,h.gt _,z5U trivial (z4W f _ _ _ h).1⟩⟩,?_⟩
  rw[e]
  cases lt (p.getD m 0) (p.getD (m-1) 0) with
  | true =>
   rw[if_pos rfl];split
   ·exact (z4W f _ _ _ hr).2
   ·exact (z4W f _ _ _ h).2
  | false =>
   rw[if_neg Bool.false_ne_true]
   have e':z1M lt (KasT.ask (p.getD (m-1) 0) (p.getD m 0) fun d=>if d=true then .ret (p,m,q) else kas_desc f p (m+1) (q+1))=z1M lt (if lt (p.getD (m-1) 0) (p.getD m 0)=true then .ret (p,m,q) else kas_desc f p (m+1) (q+1)):=rfl
   rw[e']
   cases lt (p.getD (m-1) 0) (p.getD m 0) with
   | true=>rw[if_pos rfl];exact h
   | false=>rw[if_neg Bool.false_ne_true];exact (z4W f _ _ _ h).2
theorem y0G{p:Array Nat}{a b:Nat}(h:InN n p):y1G lt n (kas_tail3 a b p)/\InN n (z1M lt (kas_tail3 a b p)).2:=by
 have hr:InN n (kas_rev p 0 a):=h.perm (z1F _ _ _)
 refine⟨z2N (x1N hr _ _) trivial,?_⟩
 unfold kas_tail3;rw[z0L];exact hr
theorem z2Y{p:Array Nat}{a b:Nat}(h:InN n p):y1G lt n (kas_descPart a b p)/\InN n (z1M lt (kas_descPart a b p)).2:=by
 obtain⟨d1,d2⟩:=z4W (lt:=lt) (b-(a+1)) p (a+1) 0 h;unfold kas_descPart;rw[z0L]
 refine⟨z2N d1 ?_,?_⟩
 ·exact z2M (y0G (d2.perm (z1F _ _ _))).1 (y0G d2).1
 ·split
  ·exact (y0G (d2.perm (z1F _ _ _))).2
  ·exact (y0G d2).2
theorem x42{p:Array Nat}{b:Nat}(h:InN n p):y1G lt n (kas_count b p)/\InN n (z1M lt (kas_count b p)).2:=by
 have hr:∀m,InN n (kas_rev p 0 m):=fun m=>h.perm (z1F _ _ _)
 unfold kas_count;rw[z0L];generalize hm:z1M lt (kas_asc p (b-1) 1)=m
 refine⟨z2N (x1N h _ _) ?_,?_⟩
 ·rw[hm];exact z2M trivial (z2M ⟨h.gt _,h.gt _,z5U trivial (z2Y (hr m)).1⟩ (z2Y h).1)
 ·split
  ·exact h
  ·split
   ·have e':z1M lt (KasT.ask (p.getD 0 0) (p.getD (m-1) 0) fun c=>if c=true then .ret (m,p) else kas_descPart m b (kas_rev p 0 m))=z1M lt (if lt (p.getD 0 0) (p.getD (m-1) 0)=true then .ret (m,p) else kas_descPart m b (kas_rev p 0 m)):=rfl
    rw[e']
    cases lt (p.getD 0 0) (p.getD (m-1) 0) with
    | true=>rw[if_pos rfl];exact h
    | false=>rw[if_neg Bool.false_ne_true];exact (z2Y (hr m)).2
   ·exact (z2Y h).2
theorem y0P{p:Array Nat}{k:Nat}(h:InN n p):∀f l r,y1G lt n (kas_place p k f l r)
 | 0,_,_=>trivial
 | f+1,l,r=>z2M (t:=.ret l) trivial ⟨h.gt _,h.gt _,z5U (y0P h f _ _) (y0P h f _ _)⟩
theorem x55:∀(f:Nat) (p:Array Nat) (k:Nat),InN n p->y1G lt n (kas_bin f p k)
 | 0,_,_,_=>trivial
 | f+1,p,k,h=>z2N (y0P h _ _ _) (x55 f _ _ (h.perm (bubble_perm _ _ _)))
theorem y8X(hn:0<n):y1G lt n (kas_sort n):=by
 have h:InN n (List.toArray (List.range n)):=⟨hn,fun x hx=>by simpa using hx⟩
 obtain⟨c1,c2⟩:=x42 (lt:=lt) (b:=n) h;exact z2N c1 (z2M (x55 _ _ _ c2) trivial)
end
theorem z69{α:Type}{lt:Nat->Nat->Bool}{n:Nat}{cmp:Nat->Nat->(Bool->Shared->Prop)->Shared->Prop}{Ok:Shared->Prop}(hc:∀i j C s,i<n->j<n->Ok s->(∀s',Ok s'->C (lt i j) s')->cmp i j C s){Q:α->Shared->Prop} :
  ∀(t:KasT α) (s:Shared),y1G lt n t->Ok s->(∀s',Ok s'->Q (z1M lt t) s')->t.kasWp cmp Q s
 | .ret a,s,_,ok,q=>q s ok
 | .ask i j k,s,⟨h1,h2,h3⟩,ok,q=>hc i j _ s h1 h2 ok fun s' ok'=>z69 hc (k (lt i j)) s' h3 ok' q
end L3
namespace L3
open PySem PySem.Spec PyProof.Rows L2 PySem.SeqAt PySem.W
theorem y2H:∀a:List Int,HT.lexLt a a=false
 | []=>rfl
 | x::xs=>by rw[HT.lexLt_cons,if_pos rfl];exact y2H xs
theorem z41:∀a b:List Int,HT.lexLt a b=true->HT.lexLt b a=false
 | [],[],h=>by cases h
 | [],_::_,_=>rfl
 | _::_,[],h=>by cases h
 | x::xs,y::ys,h=>by
  rw[HT.lexLt_cons]at h ⊢;by_cases e:x=y
  ·rw[if_pos e]at h;rw[if_pos e.symm];exact z41 xs ys h
  ·rw[if_neg e]at h;rw[if_neg (Ne.symm e)]
   have:=of_decide_eq_true h
   exact decide_eq_false (by omega)
theorem z5G:∀a b c:List Int,HT.lexLt b a=false->HT.lexLt c b=false->HT.lexLt c a=false
 | a,b,[],h1,h2=>by
  cases a with
  | nil=>rfl
  | cons x xs =>
   cases b with
   | nil=>cases h1
   | cons y ys=>cases h2
 | a,[],z::zs,h1,h2=>by
  cases a with
  | nil=>rfl
  | cons x xs=>cases h1
 | [],y::ys,z::zs,h1,h2=>rfl
 | x::xs,y::ys,z::zs,h1,h2=>by
  rw[HT.lexLt_cons]at h1 h2 ⊢;by_cases e1:y=x
  ·rw[if_pos e1]at h1;by_cases e2:z=y
   ·rw[if_pos e2]at h2;rw[if_pos (e2.trans e1)];exact z5G xs ys zs h1 h2
   ·rw[if_neg e2]at h2
    have:=of_decide_eq_false h2
    rw[if_neg (by omega)]
    exact decide_eq_false (by omega)
  ·rw[if_neg e1]at h1;have g1:=of_decide_eq_false h1;by_cases e2:z=y
   ·rw[if_neg (by omega)]
    exact decide_eq_false (by omega)
   ·rw[if_neg e2]at h2;have g2:=of_decide_eq_false h2
    rw[if_neg (by omega)]
    exact decide_eq_false (by omega)
theorem y0U:∀a b:List Int,HT.lexLt a b=false->HT.lexLt b a=false->a=b
 | [],[],_,_=>rfl
 | [],_::_,h,_=>by cases h
 | _::_,[],_,h=>by cases h
 | x::xs,y::ys,h1,h2=>by
  rw[HT.lexLt_cons]at h1 h2;by_cases e:x=y
  ·rw[if_pos e]at h1;rw[if_pos e.symm]at h2;rw[e,y0U xs ys h1 h2]
  ·rw[if_neg e]at h1;rw[if_neg (Ne.symm e)]at h2;have g1:=of_decide_eq_false h1;have g2:=of_decide_eq_false h2;omega
theorem z2F{α:Type}{le:α->α->Prop}(anti:∀a b,le a b->le b a->a=b):∀{xs ys:List α},xs.Perm ys->xs.Pairwise le->ys.Pairwise le->(∀a,le a a)->xs=ys
 | [],ys,p,_,_,_=>(List.nil_perm.mp p).symm
 | x::xs,ys,p,h1,h2,rf=>by
  cases ys with
  | nil=>exact absurd (List.perm_nil.mp p) (by simp)
  | cons y ys =>
   have hx:=List.pairwise_cons.mp h1;have hy:=List.pairwise_cons.mp h2
   have e:x=y:=by
    have m1:x∈y::ys:=p.mem_iff.mp List.mem_cons_self;have m2:y∈x::xs:=p.mem_iff.mpr List.mem_cons_self;refine anti x y ?_ ?_
    ·rcases List.mem_cons.mp m2 with z|z
     ·rw[z];exact rf x
     ·exact hx.1 y z
    ·rcases List.mem_cons.mp m1 with z|z
     ·rw[z];exact rf y
     ·exact hy.1 x z
   subst e;rw[z2F anti (List.perm_cons x |>.mp p) hx.2 hy.2 rf]
def leL(a b:List Int):Bool:=!HT.lexLt b a
def y1X(nss:List (List Int)):List (List Int):=nss.mergeSort leL
theorem z64(nss:List (List Int)):(y1X nss).Perm nss:=List.mergeSort_perm nss leL
theorem y59(nss:List (List Int)):(y1X nss).Pairwise fun a b=>HT.lexLt b a=false:=by
 have h:=List.pairwise_mergeSort (le:=leL) (l:=nss) (fun a b c h1 h2=>by
  unfold leL at h1 h2 ⊢;simp only[Bool.not_eq_true']at h1 h2 ⊢
  exact z5G a b c h1 h2) (fun a b=>by
  unfold leL
  cases h:HT.lexLt b a with
  | false=>rfl
  | true=>rw[z41 b a h];rfl)
 exact h.imp fun q=>by
  unfold leL at q;simpa using q
def z4O(ns:List Int):List Int:=ns.mergeSort fun a b=>decide (a≤b)
theorem z2G(ns:List Int):(z4O ns).Perm ns:=List.mergeSort_perm ns _
theorem z7K(ns:List Int):(z4O ns).Pairwise (·≤·):=by
 have h:=List.pairwise_mergeSort (le:=fun a b:Int=>decide (a≤b)) (l:=ns) (fun a b c h1 h2=>by
  have:=of_decide_eq_true h1
  have:=of_decide_eq_true h2
  exact decide_eq_true (by omega)) (fun a b=>by
  by_cases h:a≤b
  ·simp[h]
  ·simp;omega)
 exact h.imp fun q=>of_decide_eq_true q
section
variable{prog:Program}{w:World}{A:Around}{E:Value->Shared->Prop}{s:Shared}
theorem z66(vs:List Value):(List.range vs.length).map (fun i=>vs.getD i Value.none)=vs:=by
 apply List.ext_getElem
 ·simp
 ·intro i h1 h2;simp[List.getElem_map,h2]
theorem y58{a:Addr}{vs:List Value}{n:Nat}{P:PySem.Fin->Shared->Prop}{κ:SortKind}{lt:Nat->Nat->Bool}(O:KOrd lt)(ho:s.heap.get? a=some (seqObj "list" vs.toArray n))(h64:vs.length<64)(hk:2≤vs.length->∀h:Heap,(∀b o,b≠a->s.heap.get? b=some o->h.get? b=some o)->∀Q:SortKind->Shared->Prop,Q κ { s with heap:=h }->wpAny (model prog w) A (keyKind' vs.toArray) Q (fun _ _=>False) { s with heap:=h })
  (hc:∀h:Heap,(∀b o,b≠a->s.heap.get? b=some o->h.get? b=some o)->∀i j,i<vs.length->j<vs.length->∀C:Bool->Shared->Prop,C (lt i j) { s with heap:=h } ->
   wpAny (model prog w) A (keyLt' κ (vs.getD i Value.none) (vs.getD j Value.none)) C (fun _ _=>False) { s with heap:=h })
  (fin:∀p:Array Nat,p.size=vs.length->p.Perm (List.toArray (List.range vs.length))->Up lt p vs.length->P (.done (.ret .none)) { s with heap:=sortedHeap s.heap a vs (List.toArray (p.toList.map fun i=>vs.getD i Value.none)) }) :
  wpAny (model prog w) A (Builtin.«list.sort» ⟨[.ref a],[]⟩) P E s:=by
 rw[list_sort_plain];have hlt:a<s.heap.objs.size:=Heap.lt_size ho
 have hzz:vs.toArray.size≤sizeLine:=by rw[List.size_toArray,sizeLine_eq];omega
 refine wpAny_bind (listItems_at ho rfl (wpAny_bind (listUpdate_at ho rfl ?_ hzz (Nat.zero_le _))))
 obtain⟨e1,ho1⟩:∃e1,(s.heap.update a (Obj.mapSeq fun _=>(#[]:Array Value))).get? a=some (seqObj "list" #[] e1):=⟨_,get?_update_seq ho (fun _=>#[])⟩
 refine wpAny_bind (seqEpoch_at ho1 rfl (wpAny_bind (wpAny_newTuple (wpAny_bind (wpAny_newList (wpAny_holding ?_) (Nat.zero_le _))) (by show vs.length≤_;rw[sizeLine_eq];omega))))
 generalize hS:({ s with heap:=((s.heap.update a (Obj.mapSeq fun _=>(#[]:Array Value))).push (seqObj "tuple" vs.toArray 0)).push (seqObj "list" #[] 0) }:Shared)=S6
 have hh6:S6.heap=((s.heap.update a (Obj.mapSeq fun _=>(#[]:Array Value))).push (seqObj "tuple" vs.toArray 0)).push (seqObj "list" #[] 0):=by rw[←hS]
 have e6:S6={ s with heap:=S6.heap }:=by rw[←hS]
 have ho6:S6.heap.get? a=some (seqObj "list" #[] e1):=by
  rw[hh6,Heap.get?_push_ne _ _ _ (by rw[size_push',Heap.size_update];exact Nat.ne_of_lt (Nat.lt_succ_of_lt hlt)),Heap.get?_push_ne _ _ _ (by rw[Heap.size_update];exact Nat.ne_of_lt hlt)]
  exact ho1
 have kept:∀b o,b≠a->s.heap.get? b=some o->S6.heap.get? b=some o:=fun b o hb e=>by
  rw[hh6];exact Heap.get?_push_of_some _ (Heap.get?_push_of_some _ ((Heap.get?_update_other _ _ (Ne.symm hb)).trans e))
 show wpAny (model prog w) A _ P E S6
 dsimp only
 have last:∀(st':SortSt) (p:Array Nat),p.size=vs.length->p.Perm (List.toArray (List.range vs.length))->Up lt p vs.length->(arrOf st').map (·.2)=List.toArray (p.toList.map fun i=>vs.getD i Value.none)->failedOf st'=none ->
   wpAny (model prog w) A (do
    let touched:=(←seqEpoch a) != e1
    Builtin.List.listUpdate (.ref a) fun _=>(arrOf st').map (·.2)
    if let some e:=failedOf st' then rule "list.sort.comparison-raised";throw e
    if touched then rule "list.sort.modified";raiseError "ValueError" "list modified during sort"
    ret .none) P E S6:=fun st' p h1 h2 h3 h4 h5=>by
  refine wpAny_bind (seqEpoch_at ho6 rfl ?_);refine wpAny_bind (listUpdate_at ho6 rfl ?_ (Nat.zero_le _) ?_)
  ·rw[h5,h4];simp only[bne_self_eq_false,Bool.false_eq_true,if_false];have z:=fin p h1 h2 h3;unfold sortedHeap at z;rw[←hh6]at z;refine wpAny_pure ?_;rw[e6];exact z
  ·rw[h4]
   show (List.toArray (p.toList.map fun i=>vs.getD i Value.none)).size≤sizeLine+1
   rw[List.size_toArray,List.length_map,Array.length_toList,h1,sizeLine_eq];omega
 by_cases h2:vs.toArray.size<2
 ·rw[if_pos h2,if_pos h2];refine wpAny_bind (wpAny_pure ?_);rw[StateT.run_pure];refine wpAny_bind (wpAny_pure ?_);dsimp only
  refine last (SortSt.mk' general' (vs.toArray.zip vs.toArray) #[] 7 none) (List.toArray (List.range vs.length)) (by simp) (Array.Perm.refl _) (fun i j hij hj=>?_) ?_ rfl
  ·have:i=j:=by rw[List.size_toArray]at h2;omega
   subst this;exact O.irr _
  ·rw[show (List.toArray (List.range vs.length)).toList=List.range vs.length from rfl,z66]
   apply Array.toList_inj.mp
   show ((vs.toArray.zip vs.toArray).map (·.2)).toList=vs
   apply List.ext_getElem
   ·simp
   ·intro i g1 g2;simp
 ·rw[if_neg h2,if_neg h2]
  have h2':2≤vs.length:=by rw[List.size_toArray]at h2;omega
  have zk:=hk h2' S6.heap kept (fun κ' s'=>κ'=κ/\s'=S6) ⟨rfl,e6.symm⟩
  rw[←e6]at zk
  refine wpAny_bind (wpAny_mono zk (fun κ' s' hq=>?_) fun _ _ x=>x.elim)
  obtain⟨hq1,hq2⟩:=hq;rw[hq1,hq2]
  obtain⟨p,ep,p1,p2,p3⟩:=y8W O (n:=vs.length) (by omega)
  refine wpAny_bind (wpAny_mono (kat_run (ks:=vs) (vs:=vs) (Q:=fun st' s'=>∃q,q.size=vs.length/\arrOf st'=q.map (kas_item (vs.toArray.zip vs.toArray))/\failedOf st'=none/\q=p/\s'=S6) rfl h2' h64 (fun q st' s' a1 a2 a3 a4=>⟨q,a1,a2,a3,a4⟩)
   (z69 (lt:=lt) (n:=vs.length) (Ok:=fun s'=>s'=S6) (fun i j C s' hi hj hs hC=>?_) _ S6 (y8X (by omega)) rfl (fun s' hs=>⟨ep,hs⟩))) ?_ fun _ _ e=>e)
  ·rw[hs];unfold kas_ask;have z0:=hC S6 rfl;rw[e6]at z0;have z:=hc S6.heap kept i j hi hj C z0;rw[←e6]at z;exact z
  ·rintro ⟨⟨⟩,st'⟩ s' ⟨q,q1,q2,q3,hqp,hqs⟩
   rw[hqs];rw[hqp]at q2;exact last st' p p1 p2 p3 (kat_snds rfl q2) q3
theorem z9W{l:Addr}{us:List Value}{Q:List Value->Shared->Prop}(ht:IsTup s.heap l us.toArray)(q:Q us { s with heap:=(s.heap.push (seqObj "list" #[] 0)).update s.heap.objs.size (Obj.mapSeq (·++us.toArray)) })(hz:us.length≤sizeLine):wpAny (model prog w) A (collect (.ref l)) Q E s:=by
 obtain⟨ob,hob,hcl,n,hdt⟩:=id ht;have hob2:(s.heap.push (seqObj "list" #[] 0)).get? l=some ob:=Heap.get?_push_of_some _ hob;unfold collect
 refine wpAny_bind (wpAny_runValue (codeAny_builtin entry_proto_collect' (wpAny_bind (wpAny_newList (wpAny_pure ⟨Code.quiet_builtin _ (by decide +kernel),codeAny_builtin entry_list_iadd' ?_⟩)))))
 show wpAny _ _ (Builtin.List.listExtendWith (.ref s.heap.objs.size) (.ref l) (.ref s.heap.objs.size)) _ _ { s with heap:=s.heap.push (seqObj "list" #[] 0) }
 unfold Builtin.List.listExtendWith;refine wpAny_bind (wpAny_typeOf (T:="tuple") ⟨ob,hob2,hcl⟩ ?_)
 rw[if_pos (by rw[show (Value.type "tuple"==Value.type "tuple")=true by rfl];simp)]
 refine wpAny_bind (listItems_at hob2 hdt (wpAny_bind (listItems_at (xs:=#[]) (n:=0) (Heap.get?_push_size _ rfl) rfl ?_)))
 rw[if_neg (by simp)]
 refine wpAny_bind (listUpdate_at (xs:=#[]) (n:=0) (Heap.get?_push_size _ rfl) rfl (wpAny_pure ?_) (Nat.zero_le _) (by show (#[]++us.toArray).size≤sizeLine+1;simp only[Array.size_append,List.size_toArray,List.length_nil];omega))
 refine wpAny_bind (wpAny_load (get?_update_seq (Heap.get?_push_size _ rfl) _) ?_)
 show wpAny _ _ (pure ((#[]:Array Value)++us.toArray).toList) Q E _
 rw[show ((#[]:Array Value)++us.toArray).toList=us by simp]
 exact wpAny_pure q
theorem z9H{l:Addr}{us:List Value}{Q:Value->Shared->Prop}{κ:SortKind}{lt:Nat->Nat->Bool}(O:KOrd lt)(hl:s.heap.IsList l us.toArray∨IsTup s.heap l us.toArray)(h64:us.length<64)(hk:2≤us.length->∀h:Heap,(∀b o,s.heap.get? b=some o->h.get? b=some o)->∀Q':SortKind->Shared->Prop,Q' κ { s with heap:=h }->wpAny (model prog w) A.in1.in1 (keyKind' us.toArray) Q' (fun _ _=>False) { s with heap:=h })
  (hc:∀h:Heap,(∀b o,s.heap.get? b=some o->h.get? b=some o)->∀i j,i<us.length->j<us.length->∀C:Bool->Shared->Prop,C (lt i j) { s with heap:=h } ->
   wpAny (model prog w) A.in1.in1 (keyLt' κ (us.getD i Value.none) (us.getD j Value.none)) C (fun _ _=>False) { s with heap:=h })
  (fin:∀p:Array Nat,p.size=us.length->p.Perm (List.toArray (List.range us.length))->Up lt p us.length->Q (.ref (s.heap.objs.size+1)) { s with heap:=sortedAll s.heap us (List.toArray (p.toList.map fun i=>us.getD i Value.none)) }) :
  wpAny (model prog w) A (call (.builtin "sorted") [.ref l]) Q E s:=by
 have hz:us.length≤sizeLine:=by rw[sizeLine_eq];omega
 have h1:((s.heap.push (seqObj "list" #[] 0)).update s.heap.objs.size (Obj.mapSeq (·++us.toArray))).objs.size=s.heap.objs.size+1:=by rw[Heap.size_update,size_push']
 have h2:(((s.heap.push (seqObj "list" #[] 0)).update s.heap.objs.size (Obj.mapSeq (·++us.toArray))).push (seqObj "list" us.toArray 0)).get? (s.heap.objs.size+1)=some (seqObj "list" us.toArray 0):=by
  have e:=Heap.get?_push_size ((s.heap.push (seqObj "list" #[] 0)).update s.heap.objs.size (Obj.mapSeq (·++us.toArray))) (o:=seqObj "list" us.toArray 0) rfl;rw[h1]at e;exact e
 have h3:∀b o,s.heap.get? b=some o->(((s.heap.push (seqObj "list" #[] 0)).update s.heap.objs.size (Obj.mapSeq (·++us.toArray))).push (seqObj "list" us.toArray 0)).get? b=some o:=fun b o e =>
  Heap.get?_push_of_some _ ((Heap.get?_update_other _ _ (Ne.symm (Nat.ne_of_lt (Heap.lt_size e)))).trans (Heap.get?_push_of_some _ e))
 refine Calls.call_function_entry kind_sorted plain_sorted entry_sorted (args_sorted1 _) ?_;unfold Builtin.«sorted»;refine wpAny_bind (m:=checkCount "sorted" 1 1 _) (wpAny_pure ?_)
 have col:∀{A':Around} {E':Value->Shared->Prop} {Q':List Value->Shared->Prop},Q' us { s with heap:=(s.heap.push (seqObj "list" #[] 0)).update s.heap.objs.size (Obj.mapSeq (·++us.toArray)) }->wpAny (model prog w) A' (collect (.ref l)) Q' E' s:=fun q=>by
  rcases hl with hl|hl
  ·exact collect_list hl q hz
  ·exact z9W hl q hz
 refine wpAny_bind (col (wpAny_bind (wpAny_newList ?_ hz)))
 show wpAny _ _ _ _ _ { s with heap:=((s.heap.push (seqObj "list" #[] 0)).update s.heap.objs.size (Obj.mapSeq (·++us.toArray))).push (seqObj "list" us.toArray 0) }
 rw[h1]
 refine wpAny_bind (wpAny_holding (wpAny_call_entry slot_list_sort ⟨_,h2,rfl⟩ entry_list_sort (y58 (κ:=κ) O h2 h64 (fun g2 h hkp Q' q'=>hk g2 h (fun b o e=>hkp b o (Nat.ne_of_lt (Nat.lt_succ_of_lt (Heap.lt_size e))) (h3 b o e)) Q' q')
  (fun h hkp i j hi hj C hC=>hc h (fun b o e=>hkp b o (Nat.ne_of_lt (Nat.lt_succ_of_lt (Heap.lt_size e))) (h3 b o e)) i j hi hj C hC) (fun p a1 a2 a3=>⟨_,rfl,wpAny_pure ⟨_,rfl,fin p a1 a2 a3⟩⟩)) (args_list_sort _)))
theorem y4A{b:Bool}{Q:Bool->Shared->Prop}:∀{us ws:List Value} {ns ms:List Int},IntsAre us ns->IntsAre ws ms->∀(i:Nat) (fin:Bool),fin=decide (ns.length<ms.length)->Q (HT.lexLt ns ms) s ->
  KatLex prog w A b fin Q (us.zip ws) i s
 | _,_,_,_,.nil,.nil,i,fin,e,q=>by
  subst e;exact kat_nil q
 | _,_,_,_,.nil,.cons m t h,i,fin,e,q=>by
  have e':fin=true:=by rw[e];simp
  rw[e'];exact kat_nil q
 | _,_,_,_,.cons n t h,.nil,i,fin,e,q=>by
  have e':fin=false:=by rw[e];simp
  rw[e'];exact kat_nil q
 | _,_,_,_,.cons n t h,.cons m t' h',i,fin,e,q=>by
  rw[List.zip_cons_cons];refine kat_cons (EqAt.int_int n t m t' prog w _ _ ?_);rw[HT.lexLt_cons]at q;by_cases hnm:n=m
  ·rw[show (n==m)=true by simpa using hnm]
   rw[if_pos hnm]at q
   exact kat_yes (y4A h h' (i+1) fin (by rw[e];simp) q)
  ·rw[show (n==m)=false by simpa using hnm]
   rw[if_neg hnm]at q;refine kat_no ?_
   cases (b&&i==0) with
   | true=>exact oneLt_int q
   | false=>exact kat_one _ _ (lt_int q)
end
def z1Z:List D->Option (List (List Int))
 | []=>some []
 | .tup xs::r=>(match Y5 xs with|some (n::ns)=>(z1Z r).map ((n::ns)::·)|_=>none)
 | _::_=>none
theorem z4N:∀{ds:List D} {nss:List (List Int)},z1Z ds=some nss->ds=nss.map (fun ns=>D.tup (ns.map D.int))/\∀ns∈nss,ns≠[]
 | [],nss,e=>by cases e;exact⟨rfl,fun _ h=>by simp at h⟩
 | .tup xs::r,nss,e=>by
  unfold z1Z at e;split at e
  ·rename_i n ns h1;obtain⟨mss,h2,rfl⟩:=Option.map_eq_some_iff.mp e;obtain⟨h3,h4⟩:=z4N h2
   refine⟨by rw[h3,Q8 h1];rfl,fun ms hm=>?_⟩
   rcases List.mem_cons.mp hm with z|z
   ·rw[z];simp
   ·exact h4 ms z
  ·cases e
 | .non::r,_,e=>by unfold z1Z at e;cases e
 | .bl _::r,_,e=>by unfold z1Z at e;cases e
 | .str _::r,_,e=>by unfold z1Z at e;cases e
 | .int _::r,_,e=>by unfold z1Z at e;cases e
 | .lst _::r,_,e=>by unfold z1Z at e;cases e
theorem z62:∀{nss:List (List Int)},(∀ns∈nss,ns≠[])->z1Z (nss.map fun ns=>D.tup (ns.map D.int))=some nss
 | [],_=>rfl
 | ns::nss,h=>by
  cases ns with
  | nil=>exact absurd rfl (h [] List.mem_cons_self)
  | cons n ns =>
   rw[List.map_cons,z1Z,y7H];dsimp only
   rw[z62 fun ms hm=>h ms (List.mem_cons_of_mem _ hm)]
   rfl
def z6Y(ds:List D):Option (List D):=if ds.length<64 then
  (match Y5 ds with
  | some ns=>some ((z4O ns).map D.int)
  | none=>(match z1Z ds with|some nss=>some ((y1X nss).map fun ns=>D.tup (ns.map D.int))|none=>none))
 else none
section
variable{X:Cx}
theorem x3D{α:Type}{p:Array Nat}{us:List α}{d:α}(hp:p.Perm (List.toArray (List.range us.length))):(p.toList.map fun i=>us.getD i d).Perm us:=by
 have h1:p.toList.Perm (List.range us.length):=Array.perm_iff_toList_perm.mp hp
 have h2:=h1.map (fun i=>us.getD i d)
 have h3:(List.range us.length).map (fun i=>us.getD i d)=us:=by
  apply List.ext_getElem
  ·simp
  ·intro i g1 g2;simp[List.getElem_map,g2]
 rw[h3]at h2;exact h2
theorem x6W{K:PySem.W.Frag}{H:Hp}{ds:List D}{xs:List V}(h:u7 K H ds xs):∀is:List Nat,(∀i∈is,i<ds.length)->u7 K H (is.map fun i=>ds.getD i .non) (is.map fun i=>xs.getD i .non)
 | [],_=>u7.nil
 | i::is,hi=>by
  have h1:i<ds.length:=hi i List.mem_cons_self;obtain⟨v,e,r⟩:=h.get (List.getElem?_eq_getElem h1);rw[List.map_cons,List.map_cons]
  refine u7.cons ?_ (x6W h is fun j hj=>hi j (List.mem_cons_of_mem _ hj))
  rw[j2 (List.getElem?_eq_getElem h1),j2 e];exact r
theorem x2Z{xs:List V}{us:List Value}(h:Q4 xs us):∀is:List Nat,(∀i∈is,i<xs.length)->Q4 (is.map fun i=>xs.getD i .non) (is.map fun i=>us.getD i Value.none)
 | [],_=>.nil
 | i::is,hi=>by
  have h1:i<xs.length:=hi i List.mem_cons_self;obtain⟨v,e,r⟩:=h.get (List.getElem?_eq_getElem h1);rw[List.map_cons,List.map_cons]
  refine .cons ?_ (x2Z h is fun j hj=>hi j (List.mem_cons_of_mem _ hj))
  rw[j2 (List.getElem?_eq_getElem h1),j2 e];exact r
theorem z4T{p:Array Nat}{n:Nat}(hp:p.Perm (List.toArray (List.range n))):∀i∈p.toList,i<n:=fun i hi=>by
 have:=(Array.perm_iff_toList_perm.mp hp).mem_iff.mp hi
 simpa using this
theorem z2Q{lt:Nat->Nat->Bool}{p:Array Nat}{n:Nat}(hz:p.size=n)(h:Up lt p n):p.toList.Pairwise fun i j=>lt j i=false:=by
 rw[List.pairwise_iff_getElem];intro i j hi hj hij
 have hi':i<p.size:=by simpa using hi
 have hj':j<p.size:=by simpa using hj
 have e:=h i j (Nat.le_of_lt hij) (by omega)
 unfold gt at e
 have e1:p.getD i 0=p.toList[i]:=by simp[Array.getD,hi']
 have e2:p.getD j 0=p.toList[j]:=by simp[Array.getD,hj']
 rw[e1,e2]at e;exact e
theorem z8A:∀{its:List Value} {ns:List Int},IntsAre its ns->2≤its.length->keyKind' its.toArray=pure oneType'
 | [],_,_,h=>absurd h (by simp)
 | [_],_,_,h=>absurd h (by simp)
 | v1::v2::r,ns,hi,_=>keyKind_ints hi
theorem z6D{its:List Value}{ns:List Int}(hi:IntsAre its ns){i:Nat}(h:i<its.length):∃t,its.getD i Value.none = .int (ns.getD i 0) t:=by
 have hl:=hi.length
 have h2:i<ns.length:=by omega
 obtain⟨t,e⟩:=hi.get i ns[i] (List.getElem?_eq_getElem h2)
 exact⟨t,by rw[j2 e,j2 (List.getElem?_eq_getElem h2)]⟩
theorem y5Q(ns:List Int):KOrd (fun i j=>decide (ns.getD i 0<ns.getD j 0)) :=
 ⟨fun i j h=>by
  have:=of_decide_eq_true h
  exact decide_eq_false (by omega),fun i j k h1 h2=>by
  have:=of_decide_eq_false h1
  have:=of_decide_eq_false h2
  exact decide_eq_false (by omega)⟩
theorem x38(nss:List (List Int)):KOrd (fun i j=>HT.lexLt (nss.getD i []) (nss.getD j [])) :=
 ⟨fun i j h=>z41 _ _ h,fun i j k h1 h2=>z5G _ _ _ h1 h2⟩
theorem x37{ns:List Int}{p:Array Nat}(p1:p.size=ns.length)(p2:p.Perm (List.toArray (List.range ns.length)))(p3:Up (fun i j=>decide (ns.getD i 0<ns.getD j 0)) p ns.length) :
  (p.toList.map fun i=>(ns.map D.int).getD i .non)=(z4O ns).map D.int:=by
 have e:(p.toList.map fun i=>(ns.map D.int).getD i .non)=(p.toList.map fun i=>ns.getD i 0).map D.int:=by
  rw[List.map_map];apply List.map_congr_left;intro i hi;have h2:i<ns.length:=z4T p2 i hi
  show (ns.map D.int).getD i .non=D.int (ns.getD i 0)
  rw[j2 (x:=D.int ns[i]) (by rw[List.getElem?_map,List.getElem?_eq_getElem h2];rfl),j2 (List.getElem?_eq_getElem h2)]
 rw[e]
 congr 1
 refine z2F (le:=fun a b:Int=>a≤b) (fun a b h1 h2=>by omega) ((x3D p2).trans (z2G ns).symm) ?_ (z7K ns) (fun a=>Int.le_refl a)
 rw[List.pairwise_map]
 exact (z2Q p1 p3).imp fun h=>by
  have:=of_decide_eq_false h
  omega
theorem x36{nss:List (List Int)}{p:Array Nat}(p1:p.size=nss.length)(p2:p.Perm (List.toArray (List.range nss.length)))(p3:Up (fun i j=>HT.lexLt (nss.getD i []) (nss.getD j [])) p nss.length) :
  (p.toList.map fun i=>(nss.map fun ns=>D.tup (ns.map D.int)).getD i .non)=(y1X nss).map fun ns=>D.tup (ns.map D.int):=by
 have e:(p.toList.map fun i=>(nss.map fun ns=>D.tup (ns.map D.int)).getD i .non)=(p.toList.map fun i=>nss.getD i []).map fun ns=>D.tup (ns.map D.int):=by
  rw[List.map_map];apply List.map_congr_left;intro i hi;have h2:i<nss.length:=z4T p2 i hi
  show (nss.map fun ns=>D.tup (ns.map D.int)).getD i .non=D.tup ((nss.getD i []).map D.int)
  rw[j2 (x:=D.tup (nss[i].map D.int)) (by rw[List.getElem?_map,List.getElem?_eq_getElem h2];rfl),j2 (List.getElem?_eq_getElem h2)]
 rw[e]
 congr 1
 refine z2F (le:=fun a b:List Int=>HT.lexLt b a=false) (fun a b h1 h2=>y0U a b h2 h1) ((x3D p2).trans (z64 nss).symm) ?_ (y59 nss) (fun a=>y2H a)
 rw[List.pairwise_map]
 exact (z2Q p1 p3).imp fun h=>h
theorem y1Q{pins:List (Addr×Obj)}{σ:St}{H:Hp}{s:Shared}(I:Inv X pins σ H s){ns:List Int}{x:V}{u:Value}(hr:Rep X.K H (D.tup (ns.map D.int)) x)(rv:W3 x u) :
  ∃a o its n,u = .ref a/\s.heap.get? a=some o/\o.cls = .type "tuple"/\o.data = .seq its n/\IntsAre its.toList ns:=by
 obtain⟨a,xs,rfl,h1,h2⟩:=v4.mp hr;rw[Q3]at h2;subst h2;cases rv;obtain⟨its,r,p,_⟩:=I.tuple h1;obtain⟨o,ho,hc,n,hd⟩:=p
 exact⟨a,o,its.toArray,n,rfl,ho,hc,hd,K1 r⟩
theorem x0G{pins:List (Addr×Obj)}{σ:St}{H:Hp}{s:Shared}(I:Inv X pins σ H s){h:Heap}(hk:∀b o,s.heap.get? b=some o->h.get? b=some o):∀{nss:List (List Int)} {us:List V} {its:List Value},(∀ns∈nss,ns≠[]) ->
  u7 X.K H (nss.map fun ns=>D.tup (ns.map D.int)) us->Q4 us its->∃fs,KatTups h its fs/\fs.length=its.length/\∀v∈fs,∃n t,v=Value.int n t
 | [],us,its,_,hr,rv=>by
  rw[List.map_nil,g7]at hr;subst hr;cases rv
  exact⟨[],KatTups.nil,rfl,fun v hv=>by simp at hv⟩
 | ns::nss,us,its,hne,hr,rv=>by
  rw[List.map_cons,v7]at hr;obtain⟨x,xs,rfl,h1,h2⟩:=hr
  cases rv with
  | cons r1 r2 =>
   obtain⟨fs,t1,t2,t3⟩:=x0G I hk (fun ms hm=>hne ms (List.mem_cons_of_mem _ hm)) h2 r2
   obtain⟨a,o,js,n,rfl,ho,hc,hd,hi⟩:=y1Q I h1 r1
   cases ns with
   | nil=>exact absurd rfl (hne [] List.mem_cons_self)
   | cons m ms =>
    obtain⟨t,e⟩:=hi.get 0 m rfl
    have e':js[0]?=some (Value.int m t):=by simpa using e
    refine⟨Value.int m t::fs,KatTups.cons (hk _ _ ho) hc hd e' t1,by simp[t2],fun v hv=>?_⟩
    rcases List.mem_cons.mp hv with z|z
    ·exact⟨m,t,z⟩
    ·exact t3 v z
def w0D(K:PySem.W.Frag):List V->Hp->VK->Prop:=fun xs H Q=>∃a us ds es Hh,xs=[.ref a]/\u5 Hh H/\(SqL K H a us∨SqT K H a us)/\u7 K Hh ds us/\z6Y ds=some es/\∀p ys,H p=none->u7 K Hh es ys->Q (.ref p) (upd H p (.lst ys))
theorem y4M:z0Y X (.builtin "sorted") (w0D X.K):=by
 intro pins s σ H xs vs Q I r h;obtain⟨a,us,ds,es,Hh,rfl,sH,hq,hr0,hs,q⟩:=h;have hr:=hr0.mono sH;obtain⟨u,rfl,ru⟩:=z3D r;cases ru
 have src:∃its:List Value,Q4 us its/\(s.heap.IsList a its.toArray∨IsTup s.heap a its.toArray):=by
  rcases hq with hq|hq
  ·obtain⟨its,rv,pl,_⟩:=I.list hq
   exact⟨its,rv,.inl pl.isList⟩
  ·obtain⟨its,rv,pl,_⟩:=I.tuple hq
   exact⟨its,rv,.inr pl⟩
 obtain⟨its,rv,hl⟩:=src;have l1:=hr.length;have l2:=rv.length;unfold z6Y at hs;split at hs
 ·rename_i h64
  have fin:∀p:Array Nat,p.size=its.length->p.Perm (List.toArray (List.range its.length))->(p.toList.map fun i=>ds.getD i .non)=es ->
    EP X pins σ Q (.ref (s.heap.objs.size+1)) { s with heap:=sortedAll s.heap its (List.toArray (p.toList.map fun i=>its.getD i Value.none)) }:=fun p p1 p2 p3=>by
   have pl:∀i∈p.toList,i<its.length:=z4T p2
   have v1:Q4 (p.toList.map fun i=>us.getD i .non) (p.toList.map fun i=>its.getD i Value.none):=x2Z rv _ fun i hi=>by have:=pl i hi;omega
   have v2:u7 X.K Hh es (p.toList.map fun i=>us.getD i .non):=by
    rw[←p3]
    exact x6W hr0 _ fun i hi=>by have:=pl i hi;omega
   obtain⟨e,he⟩:=sortedAll_at s.heap its (List.toArray (p.toList.map fun i=>its.getD i Value.none))
   have hfr:H (s.heap.objs.size+1)=none:=I.hok.fresh (Nat.le_succ _)
   refine⟨.ref (s.heap.objs.size+1),_,I.laid (t':=s.toks) (a:=s.heap.objs.size+1) (o:=.lst (p.toList.map fun i=>us.getD i .non)) (fun b o hb=>sortedAll_old hb) (Nat.le_succ _) ?_,rfl,q _ _ hfr v2⟩
   refine⟨?_,_,e,v1,he⟩
   rw[List.length_map,Array.length_toList,p1,sizeLine_eq];omega
  split at hs
  ·rename_i ns hn;cases hs;have hd:=Q8 hn;subst hd;have hus:=Q3.mp hr;subst hus;have hi:IntsAre its ns:=K1 rv;have hz:its.length=ns.length:=hi.length
   refine z9H (κ:=oneType') (y5Q ns) hl (by omega) (fun g2 h hkp Q' q'=>?_) (fun h hkp i j hi' hj' C hC=>?_) (fun p p1 p2 p3=>fin p p1 p2 (x37 (by rw[p1,hz]) (by rw[←hz];exact p2) (by rw[←hz];exact p3)))
   ·rw[z8A hi g2];exact wpAny_pure q'
   ·obtain⟨ti,ei⟩:=z6D hi hi';obtain⟨tj,ej⟩:=z6D hi hj';rw[ei,ej,keyLt'_oneType];exact oneLt_int hC
  ·split at hs
   ·rename_i nss hn;cases hs;obtain⟨hd,hne⟩:=z4N hn;subst hd
    have hz:its.length=nss.length:=by rw[←l2,←l1,List.length_map]
    refine z9H (κ:=tuples' (Value.type "int" != Value.type "tuple")) (x38 nss) hl (by omega) (fun g2 h hkp Q' q'=>?_) (fun h hkp i j hi' hj' C hC=>?_) (fun p p1 p2 p3=>fin p p1 p2 (x36 (by rw[p1,hz]) (by rw[←hz];exact p2) (by rw[←hz];exact p3)))
    ·obtain⟨fs,t1,t2,t3⟩:=x0G I hkp hne hr rv
     refine kat_kind (s:={ s with heap:=h }) t1 (by omega) (fun v hv=>?_) rfl q'
     obtain⟨n,t,rfl⟩:=t3 v hv;exact Looks.of_pure rfl
    ·have gi:i<nss.length:=by omega
     have gj:j<nss.length:=by omega
     obtain⟨xi,e1,r1⟩:=hr.get (i:=i) (d:=D.tup (nss[i].map D.int)) (by rw[List.getElem?_map,List.getElem?_eq_getElem gi];rfl)
     obtain⟨xj,e2,r2⟩:=hr.get (i:=j) (d:=D.tup (nss[j].map D.int)) (by rw[List.getElem?_map,List.getElem?_eq_getElem gj];rfl)
     obtain⟨ui,f1,s1⟩:=rv.get e1;obtain⟨uj,f2,s2⟩:=rv.get e2;obtain⟨ai,oi,ji,ni,rfl,hoi,hci,hdi,ii⟩:=y1Q I r1 s1;obtain⟨aj,oj,jj,nj,rfl,hoj,hcj,hdj,ij⟩:=y1Q I r2 s2;rw[j2 f1,j2 f2];rw[j2 (List.getElem?_eq_getElem gi),j2 (List.getElem?_eq_getElem gj)]at hC
     refine kat_lt (s:={ s with heap:=h }) (hkp _ _ hoi) hdi (hkp _ _ hoj) hdj (y4A ii ij 0 _ ?_ hC)
     have a1:=ii.length;have a2:=ij.length;rw[Array.length_toList]at a1 a2;rw[a1,a2]
   ·cases hs
 ·cases hs
end
end L3
namespace L3
open PySem PySem.Spec PyProof.Rows L2 PySem.SeqAt
def RdC(K:PySem.W.Frag)(r:List V->Hp->VK->Prop)(F:List D->Option D):Prop :=
 ∀ds d,F ds=some d->∀(Z:List Addr) (H:Hp) (vs:List V) (Q:VK),(∀z∈Z,∃o,H z=some o)->u7 K (j7 Z H) ds vs->(∀w' H',u5 H H'->Rep K (j7 Z H') d w'->Q w' H')->r vs H Q
def w1V(K:PySem.W.Frag)(r:List V->Hp->VK->Prop)(F:List D->Option (List D)):Prop :=
 ∀ds es,F ds=some es->∀(Z:List Addr) (H:Hp) (a:Addr) (xs:List V) (Q:VK),(∀z∈Z,∃o,H z=some o)->(SqL K H a xs∨SqT K (j7 Z H) a xs)->u7 K (j7 Z H) ds xs ->
  (∀l ys H',u5 H H'->H l=none->H' l=some (.lst ys)->u7 K (j7 (l::Z) H') es ys->Q (.ref l) H')->r [.ref a] H Q
def dQ(F:List D->Option D)(f:z9->Option (List D)):z9->Option D:=fun ρ=>match f ρ with|some ds=>F ds|none=>none
def dQF(F:List D->Option (List D))(f:z9->Option (List D)):z9->Option (List D):=fun ρ=>match f ρ with|some ds=>F ds|none=>none
section
variable{X:Cx}{x:Str}{p pos:Pos}{e:Expr}{es:List Expr}{id T:String}{r:List V->Hp->VK->Prop}{F:List D->Option D}{FL:List D->Option (List D)}{g f:z9->Option (List D)}
theorem y36{K:PySem.W.Frag}(hr:RdC K r F):∀σ H Q,tD K (w6 F g) σ H Q->tCB r (tL K g) σ H Q:=fun σ H Q ⟨ρ,d,B,H0,V0,Z,e,r',q⟩=>by
 unfold w6 at e;split at e
 ·rename_i ds eds
  exact⟨ρ,ds,B,H0,V0,Z,eds,r',fun vs H1 s1 rr=>hr ds d e Z H1 vs Q (r'.mono s1).zs rr fun w' H' s rw'=>q w' H' (s1.trans s) rw'⟩
 ·cases e
theorem z7L(hc:z0Y X (.builtin id) r)(hr:RdC X.K r F)(hm:X.mg x=none)(hv:bootBuiltins x=some (.builtin id))(ha:SA X (e::es) g)(hg:Gl X x:=by rfl)(hn:x≠"__name__":=by decide)(hdb:(x==("__debug__":Str))=false:=by decide)(he:starEach (e::es) X.env=(false,eval e X.env)::starEach es X.env:=by exact y2 rfl)(hpl:(backTo pos (starEach es X.env)).any (·.1)=false:=by exact x6 rfl):SE X (.Call (.Name x p) (e::es) [] pos) (w6 F g) :=
 v5 (z20 hc hg hm hv ha hn hdb he hpl) (y36 hr)
theorem y92(hc:z0Y X (.type T) r)(hr:RdC X.K r F)(hm:X.mg x=none)(hv:bootBuiltins x=some (.type T))(ha:SA X (e::es) g)(hg:Gl X x:=by rfl)(hn:x≠"__name__":=by decide)(hdb:(x==("__debug__":Str))=false:=by decide)(he:starEach (e::es) X.env=(false,eval e X.env)::starEach es X.env:=by exact y2 rfl)(hpl:(backTo pos (starEach es X.env)).any (·.1)=false:=by exact x6 rfl):SE X (.Call (.Name x p) (e::es) [] pos) (w6 F g) :=
 v5 (z1O hc hg hm hv ha hn hdb he hpl) (y36 hr)
theorem y04{K:PySem.W.Frag}(hr:w1V K r FL):∀σ H Q,tF K (dQF FL f) σ H Q->tCB r (x5J (tQ K f) w25) σ H Q:=fun σ H Q ⟨ρ,d,B,H0,V0,Z,e,r',q⟩=>by
 unfold dQF at e;split at e
 ·rename_i ds eds
  exact⟨ρ,ds,B,H0,V0,Z,eds,r',fun a xs H1 s1 hq rr=>hr ds d e Z H1 a xs Q (r'.mono s1).zs hq rr fun l ys H' s hn hl rw'=>q l ys H' (s1.trans s) (s1.free hn) hl rw'⟩
 ·cases e
theorem x2I(hc:z0Y X (.builtin id) r)(hr:w1V X.K r FL)(hm:X.mg x=none)(hv:bootBuiltins x=some (.builtin id))(h:SQ X e f)(hg:Gl X x:=by rfl)(hn:x≠"__name__":=by decide)(hdb:(x==("__debug__":Str))=false:=by decide)(he:starEach [e] X.env=(false,eval e X.env)::starEach [] X.env:=by exact y2 rfl)(hpl:(backTo pos (starEach [] X.env)).any (·.1)=false:=by exact x6 rfl):SF X (.Call (.Name x p) [e] [] pos) (dQF FL f) :=
 v5 (z20 hc hg hm hv (J9 h W4 he) hn hdb he hpl) (y04 hr)
theorem y70(hc:z0Y X (.type T) r)(hr:w1V X.K r FL)(hm:X.mg x=none)(hv:bootBuiltins x=some (.type T))(h:SQ X e f)(hg:Gl X x:=by rfl)(hn:x≠"__name__":=by decide)(hdb:(x==("__debug__":Str))=false:=by decide)(he:starEach [e] X.env=(false,eval e X.env)::starEach [] X.env:=by exact y2 rfl)(hpl:(backTo pos (starEach [] X.env)).any (·.1)=false:=by exact x6 rfl):SF X (.Call (.Name x p) [e] [] pos) (dQF FL f) :=
 v5 (z1O hc hg hm hv (J9 h W4 he) hn hdb he hpl) (y04 hr)
end
section
variable{X:Cx}{p pos:Pos}{e:Expr}{f:z9->Option (List D)}
theorem y5S{Z:List Addr}{H:Hp}(zs:∀z∈Z,∃o,H z=some o){l:Addr}(hl:H l=none):l∉Z:=fun z=>by
 obtain⟨o,ho⟩:=zs _ z;rw[hl]at ho;cases ho
theorem y99{K:PySem.W.Frag}:w1V K (w0D K) z6Y:=by
 intro ds es hs Z H a xs Q zs hq rr q
 refine⟨a,xs,ds,es,j7 Z H,rfl,y4,hq.imp id (v3 y4),rr,hs,fun l ys hl ry=>?_⟩
 exact q l ys _ (v8 hl) hl x5 (ry.mono (z11 hl (v8 hl)))
theorem y90(hm:X.mg "sorted" = none)(h:SQ X e f)(hg:Gl X "sorted":=by rfl)(hv:bootBuiltins "sorted" = some (.builtin "sorted"):=by decide +kernel)(he:starEach [e] X.env=(false,eval e X.env)::starEach [] X.env:=by exact y2 rfl)(hpl:(backTo pos (starEach [] X.env)).any (·.1)=false:=by exact x6 rfl):SF X (.Call (.Name "sorted" p) [e] [] pos) (dQF z6Y f) :=
 x2I y4M y99 hm hv h hg (by decide) (by decide) he hpl
theorem x6J{K:PySem.W.Frag}:w1V K (fun xs H Q=>∃p ys,xs=[.ref p]/\(SqL K H p ys∨SqT K H p ys)/\∀l,H l=none->Q (.ref l) (upd H l (.lst ys))) some:=by
 intro ds es hs Z H a xs Q zs hq rr q;cases hs
 refine⟨a,xs,rfl,hq.imp id (v3 y4),fun l hl=>?_⟩
 exact q l xs _ (v8 hl) hl x5 (rr.mono (z11 hl (v8 hl)))
theorem x61(hm:X.mg "list" = none)(h:SQ X e f)(hg:Gl X "list":=by rfl)(hv:bootBuiltins "list" = some (.type "list"):=by decide +kernel)(he:starEach [e] X.env=(false,eval e X.env)::starEach [] X.env:=by exact y2 rfl)(hpl:(backTo pos (starEach [] X.env)).any (·.1)=false:=by exact x6 rfl):SF X (.Call (.Name "list" p) [e] [] pos) (dQF some f) :=
 y70 y34 x6J hm hv h hg (by decide) (by decide) he hpl
def w49(K:PySem.W.Frag):List V->Hp->VK->Prop:=fun xs H Q=>∃p,∃bs:List Bool,xs=[.ref p]/\SqL K H p (bs.map V.bl)/\Q (.bl (bs.all id)) H
theorem y6L:∀{bs:List Bool} {us:List Value},Q4 (bs.map V.bl) us->LSm.BoolsAre us bs
 | [],_,.nil=>.nil
 | b::bs,_,.cons r t=>by cases r;exact .cons _ (y6L t)
theorem x45(hc:X.calm=true):z0Y X (.builtin "all") (w49 X.K):=by
 intro pins s σ H xs us Q I r h;obtain⟨l,bs,rfl,hq,q⟩:=h;obtain⟨u,rfl,rx⟩:=z3D r;cases rx;obtain⟨vs,rv,pl,hz⟩:=I.list hq;have hl:=pl.isList;have hb:=y6L rv
 have hlt:l<s.heap.objs.size:=by obtain⟨_,e,_⟩:=hl;exact Heap.lt_size e
 refine call_all_walk (wpAny_pyIter_list hl ?_)
 refine⟨s.heap.objs.size,[s.heap.objs.size,l],[s.heap.objs.size],vs.toArray.size,_,_,fun i=>(bs[i]?).getD true,rfl,Walks.list (A:=X.A.in1) (I.ok.hd hc) _ l (Nat.ne_of_lt hlt) vs.toArray,
  ⟨⟨_,Heap.get?_push_size _ rfl,rfl,rfl⟩,hl.push _⟩,fun i v s' Q' E' hP hQ=>?_,fun h' tk hk=>?_⟩
 ·obtain⟨b,e,rfl⟩:=hb.get i v (by simpa using hP)
  simp only[e,Option.getD_some]at hQ;exact wpAny_truthy_bool hQ
 ·have e:((List.range vs.toArray.size).all fun i=>(bs[i]?).getD true)=bs.all id:=by
   rw[List.size_toArray,hb.length];exact LSm.range_all bs
  rw[e]
  exact⟨.bl _,H,I.kept (LSm.kept_iter hk),rfl,q⟩
def z6B:List D->Option (List Bool)
 | []=>some []
 | .bl b::r=>(z6B r).map (b::·)
 | _::_=>none
theorem y05:∀{ds:List D} {bs:List Bool},z6B ds=some bs->ds=bs.map D.bl
 | [],bs,e=>by cases e;rfl
 | .bl b::r,bs,e=>by
  unfold z6B at e;obtain⟨cs,h1,rfl⟩:=Option.map_eq_some_iff.mp e;rw[y05 h1];rfl
 | .int _::r,_,e=>by unfold z6B at e;cases e
 | .non::r,_,e=>by unfold z6B at e;cases e
 | .str _::r,_,e=>by unfold z6B at e;cases e
 | .tup _::r,_,e=>by unfold z6B at e;cases e
 | .lst _::r,_,e=>by unfold z6B at e;cases e
 | .dct _ _::r,_,e=>by unfold z6B at e;cases e
theorem y5E{K:PySem.W.Frag}{H:Hp}:∀{bs:List Bool} {xs:List V},u7 K H (bs.map D.bl) xs->xs=bs.map V.bl
 | [],xs,h=>g7.mp h
 | b::bs,xs,h=>by
  obtain⟨v,vs,rfl,h1,h2⟩:=v7.mp h;rw[g8.mp h1,y5E h2];rfl
def x1S(f:z9->Option (List D)):z9->Option D:=fun ρ=>match f ρ with|some ds=>(match z6B ds with|some bs=>some (.bl (bs.all id))|none=>none)|none=>none
theorem w02(hc:X.calm=true)(hm:X.mg "all" = none)(h:SF X e f)(hg:Gl X "all":=by rfl)(hv:bootBuiltins "all" = some (.builtin "all"):=by decide +kernel)(he:starEach [e] X.env=(false,eval e X.env)::starEach [] X.env:=by exact y2 rfl)(hpl:(backTo pos (starEach [] X.env)).any (·.1)=false:=by exact x6 rfl):SE X (.Call (.Name "all" p) [e] [] pos) (x1S f) :=
 v5 (z20 (x45 hc) hg hm hv (J9 h W4 he) (by decide) (by decide) he hpl) fun σ H Q ⟨ρ,d,B,H0,V0,Z,e,r,q⟩=>by
  unfold x1S at e;split at e
  ·rename_i ds eds;split at e
   ·rename_i bs hb;cases e
    have:=y05 hb
    subst this
    refine⟨ρ,_,B,H0,V0,Z,eds,r,fun a xs H' s hn ha rr=>⟨a,bs,rfl,?_,q _ H' s (g8.mpr rfl)⟩⟩
    rw[←y5E rr];exact SqL.of ha
   ·cases e
  ·cases e
def tyN:D->String
 | .non=>"NoneType"
 | .bl _=>"bool"
 | .int _=>"int"
 | .str _=>"str"
 | .tup _=>"tuple"
 | .lst _=>"list"
 | .dct _ _=>"dict"
def y7E(T:String)(d:D):Bool:=tyN d==T||(T=="int"&&tyN d=="bool")
def w48(K:PySem.W.Frag)(T:String):List V->Hp->VK->Prop:=fun xs H Q=>∃x d,xs=[x,.ty T]/\Rep K H d x/\Q (.bl (y7E T d)) H
def Kit(T:String):Prop:=∀(K:PySem.W.Frag) (d:D),PySem.W.kitOne K (.type (tyN d)) (.type T)=some (y7E T d)
theorem x0C{T:String} (h:∀K:PySem.W.Frag,PySem.W.kitOne K (.type "NoneType") (.type T)=some (y7E T .non)/\PySem.W.kitOne K (.type "bool") (.type T)=some (y7E T (.bl true))/\PySem.W.kitOne K (.type "int") (.type T)=some (y7E T (.int 0))/\PySem.W.kitOne K (.type "str") (.type T)=some (y7E T (.str ⟨#[]⟩)) /\
  PySem.W.kitOne K (.type "tuple") (.type T)=some (y7E T (.tup []))/\PySem.W.kitOne K (.type "list") (.type T)=some (y7E T (.lst []))/\PySem.W.kitOne K (.type "dict") (.type T)=some (y7E T (.dct [] []))):Kit T:=fun K d=>by
 obtain⟨h1,h2,h3,h4,h5,h6,h7⟩:=h K
 cases d with
 | non=>exact h1
 | bl _=>exact h2
 | int _=>exact h3
 | str _=>exact h4
 | tup _=>exact h5
 | lst _=>exact h6
 | dct _ _=>exact h7
theorem x7N:Kit "int":=x0C fun K=>⟨rfl,rfl,rfl,rfl,rfl,rfl,rfl⟩
theorem y63:Kit "bool":=x0C fun K=>⟨rfl,rfl,rfl,rfl,rfl,rfl,rfl⟩
theorem y2M:Kit "tuple":=x0C fun K=>⟨rfl,rfl,rfl,rfl,rfl,rfl,rfl⟩
theorem x44{T:String}(kt:Kit T):z0Y X (.builtin "isinstance") (w48 X.K T):=by
 intro pins s σ H xs us Q I r h;obtain⟨x,d,rfl,hx,q⟩:=h;obtain⟨u,w',rfl,ru,rw'⟩:=y8N r
 cases rw'
 have e:=kt X.K d
 have fin:∀tk,EP X pins σ Q (.bool (y7E T d)) { s with toks:=tk }:=fun tk=>⟨.bl _,H,I.tok tk,rfl,q⟩
 cases d with
 | non=>obtain rfl:=Y3.mp hx;cases ru;exact PySem.W.kia_one PySem.W.kitx_none I.kIn True.intro e (fun z=>nomatch z) fin
 | bl b=>obtain rfl:=g8.mp hx;cases ru;exact PySem.W.kia_one PySem.W.kitx_bool I.kIn True.intro e (fun z=>nomatch z) fin
 | int i=>obtain rfl:=x4.mp hx;obtain⟨t,rfl⟩:=ru;exact PySem.W.kia_one PySem.W.kitx_int I.kIn True.intro e (fun z=>nomatch z) fin
 | str i=>obtain rfl:=Q7.mp hx;obtain⟨t,rfl⟩:=ru;exact PySem.W.kia_one PySem.W.kitx_str I.kIn True.intro e (fun z=>nomatch z) fin
 | tup ds =>
  obtain⟨a,ys,rfl,h1,_⟩:=v4.mp hx;cases ru;obtain⟨its,_,⟨o,h1,h2,_⟩,_⟩:=I.tuple h1
  exact PySem.W.kia_one PySem.W.kitx_tuple I.kIn ⟨o,h1,h2⟩ e (fun z=>nomatch z) fin
 | lst ds =>
  obtain⟨a,ys,rfl,h1,_⟩:=j1.mp hx;cases ru;obtain⟨its,_,⟨o,n,h1,h2,_⟩,_⟩:=I.list h1
  exact PySem.W.kia_one PySem.W.kitx_list I.kIn ⟨o,h1,h2⟩ e (fun z=>nomatch z) fin
 | dct ks ds =>
  obtain⟨a,kvs,rfl,h1,_⟩:=z0V.mp hx;cases ru;obtain⟨o,h1,h2⟩:=y4H I h1
  exact PySem.W.kia_one PySem.W.kitx_dict I.kIn ⟨o,h1,h2⟩ e (fun z=>nomatch z) fin
def y85(T:String)(f:z9->Option D):z9->Option D:=fun ρ=>match f ρ with|some d=>some (.bl (y7E T d))|none=>none
theorem x9Y{T:String}{x:Str}{p1 p2:Pos}{fe:z9->Option D}(kt:Kit T)(hm:X.mg "isinstance" = none)(hmT:X.mg x=none)(h:SE X e fe)(hvT:bootBuiltins x=some (.type T))(hg:Gl X "isinstance":=by rfl)(hgT:Gl X x:=by rfl)(hv:bootBuiltins "isinstance" = some (.builtin "isinstance"):=by decide +kernel)(hn:x≠"__name__":=by decide)(hdb:(x==("__debug__":Str))=false:=by decide)(he:starEach [e,.Name x p1] X.env=(false,eval e X.env)::starEach [.Name x p1] X.env:=by exact y2 rfl)(he2:starEach [.Name x p1] X.env=(false,eval (.Name x p1) X.env)::starEach [] X.env:=by exact y2 rfl)(hpl:(backTo pos (starEach [.Name x p1] X.env)).any (·.1)=false:=by exact x6 rfl) :
  SE X (.Call (.Name "isinstance" p2) [e,.Name x p1] [] pos) (y85 T fe) :=
 v5 (z20 (x44 kt) hg hm hv (J9 h (J9 (x73 hgT hmT hvT (v:=.ty T) rfl hn hdb) W4 he2) he) (by decide) (by decide) he hpl) fun σ H Q ⟨ρ,d,B,H0,V0,Z,e,r,q⟩=>by
  unfold y85 at e;split at e
  ·rename_i d' ed;cases e
   exact⟨ρ,d',B,H0,V0,Z,ed,r,fun v H' s rr=>⟨v,d',rfl,rr.mono y4,q _ H' s (g8.mpr rfl)⟩⟩
  ·cases e
end
section
variable{X:Cx}{p p2 pos pos2:Pos}{a b e:Expr}{f:z9->Option (List D)}{fa fb:z9->Option D}
def x6K:List V->Hp->VK->Prop:=fun xs H Q=>∃j:Int,xs=[.int j]/\∀p,H p=none->Q (.ref p) (upd H p (.rng 0 j))
theorem y4N:z0Y X (.type "range") x6K:=by
 intro pins s σ H xs us Q I r h;obtain⟨j,rfl,q⟩:=h;obtain⟨u,rfl,ru⟩:=z3D r;obtain⟨t,rfl⟩:=ru
 exact call_range_1 ⟨.ref s.heap.objs.size,_,I.laid (o:=.rng 0 j) (fun b o e=>Heap.get?_push_of_some _ e) (Nat.le_refl _) ⟨_,_,_,Heap.get?_push_size _ rfl⟩,rfl,q _ I.fresh⟩
def iUp(lo:Int)(n:Nat):List Int:=(List.range n).map fun (k:Nat)=>lo+(k:Int)
def x2T:List V->Hp->VK->Prop:=fun xs H Q=>∃p,∃j:Int,xs=[.ref p]/\H p=some (.rng 0 j)/\-(2 ^ 62)≤j/\j≤1000000/\∀l,H l=none->Q (.ref l) (upd H l (.lst ((iUp 0 j.toNat).map V.int)))
theorem y16(hc:X.calm=true):z0Y X (.type "list") x2T:=by
 intro pins s σ H xs us Q I r h;obtain⟨p,j,rfl,hp,h1,h2,q⟩:=h;obtain⟨u,rfl,ru⟩:=z3D r;cases ru
 obtain⟨t,u,v,ho⟩:=(show z0W X.prog X.w H s.heap p (.rng 0 j) from I.hok p _ hp)
 have hn:Builtin.Range.rangeSize 0 j 1=((j.toNat:Nat):Int):=by rw[rangeSize_one];split<;>omega
 refine call_list_range (I.ok.hd hc) ho (small_one (by omega) (by omega) h1 (by omega)) hn (by omega) fun h' tk acc' c' hk hS' hacc=>?_
 refine⟨.ref s.heap.objs.size,_,I.laid (o:=.lst ((iUp 0 j.toNat).map V.int)) hk (Nat.le_refl _) ⟨?_,acc'.toList,c',?_,?_⟩,rfl,q _ I.fresh⟩
 ·unfold iUp;rw[List.length_map,List.length_map,List.length_range,sizeLine_eq];omega
 ·have hv:∀(n:Nat) (acc:List Value) (lo:Nat),acc.length=n->(∀(i:Nat) v,acc[i]?=some v->∃t,v = .int (0+((lo+i:Nat):Int)*1) t)->Q4 (((List.range n).map fun (k:Nat)=>(0:Int)+((lo+k:Nat):Int)).map V.int) acc:=by
   intro n
   induction n with
   | zero=>intro acc lo hl _;cases acc with|nil=>exact .nil|cons _ _=>cases hl
   | succ n ih =>
    intro acc lo hl hg
    cases acc with
    | nil=>cases hl
    | cons x acc =>
     rw[List.range_succ_eq_map,List.map_cons,List.map_cons];refine .cons ?_ ?_
     ·obtain⟨t,e⟩:=hg 0 x rfl
      exact⟨t,by rw[e];simp⟩
     ·rw[List.map_map,List.map_map]
      have:=ih acc (lo+1) (by simpa using hl) fun i v hv=>by
       obtain⟨t,e⟩:=hg (i+1) v (by simpa using hv)
       refine⟨t,?_⟩
       rw[e]
       congr 3
       omega
      rw[List.map_map]at this
      refine Eq.mp (congrArg (fun l=>Q4 l acc) (List.map_congr_left fun k _=>?_)) this
      simp only[Function.comp]
      congr 2
      omega
  have:=hv j.toNat acc'.toList 0 (by simpa using hacc.1) fun i v e=>by
   obtain⟨t,e'⟩:=hacc.2 i v (by simpa using e)
   exact⟨t,by rw[e'];simp⟩
  unfold iUp
  refine Eq.mp (congrArg (fun l=>Q4 l acc'.toList) ?_) this
  simp
 ·simpa using hS'
def z1I(f:z9->Option D):z9->Option (List D):=fun ρ=>match f ρ with|some (.int j)=>if -(2 ^ 62)≤j/\j≤100000 then some ((iUp 0 j.toNat).map D.int) else none|_=>none
theorem y6Z(hc:X.calm=true)(hm:X.mg "list" = none)(hm2:X.mg "range" = none)(h:SE X a fa)(hg:Gl X "list":=by rfl)(hg2:Gl X "range":=by rfl)(hv:bootBuiltins "list" = some (.type "list"):=by decide +kernel)(hv2:bootBuiltins "range" = some (.type "range"):=by decide +kernel)(he:starEach [a] X.env=(false,eval a X.env)::starEach [] X.env:=by exact y2 rfl)(hpl:(backTo pos2 (starEach [] X.env)).any (·.1)=false:=by exact x6 rfl)(he2:starEach [.Call (.Name "range" p2) [a] [] pos2] X.env=(false,eval (.Call (.Name "range" p2) [a] [] pos2) X.env)::starEach [] X.env:=by exact y2 rfl)(hpl2:(backTo pos (starEach [] X.env)).any (·.1)=false:=by exact x6 rfl) :
  SF X (.Call (.Name "list" p) [.Call (.Name "range" p2) [a] [] pos2] [] pos) (z1I fa) :=
 v5 (z1O (y16 hc) hg hm hv (J9 (z1O y4N hg2 hm2 hv2 (J9 h W4 he) (by decide) (by decide) he hpl) W4 he2) (by decide) (by decide) he2 hpl2) fun σ H Q ⟨ρ,d,B,H0,V0,Z,e,r,q⟩=>by
  unfold z1I at e;split at e
  ·rename_i j ej;split at e
   ·rename_i hj;cases e
    refine⟨ρ,_,B,H0,V0,Z,ej,r,fun v H' s rr=>?_⟩
    obtain rfl:=x4.mp rr
    refine⟨j,rfl,fun p1 hp1=>⟨p1,j,rfl,x5,hj.1,by omega,fun l hl=>?_⟩⟩
    have s1:=v8 (o:=HO.rng 0 j) hp1;have s2:=v8 (o:=HO.lst ((iUp 0 j.toNat).map V.int)) hl;exact q l _ _ (s.trans (s1.trans s2)) ((s.trans s1).free hl) x5 (Q3.mpr rfl)
   ·cases e
  ·cases e
def x3R:List D->Option D:=fun ds=>match ds with|[.int i,.int j]=>some (.int (if j<i then j else i))|_=>none
def x0U:List D->Option D:=fun ds=>match ds with|[.int i,.int j]=>some (.int (if j>i then j else i))|_=>none
theorem z7M{K:PySem.W.Frag}{H:Hp}{d e:D}{xs:List V}(h:u7 K H [d,e] xs):∃u v,xs=[u,v]/\Rep K H d u/\Rep K H e v:=by
 obtain⟨u,vs,rfl,h1,h2⟩:=v7.mp h;obtain⟨v,ws,rfl,h3,h4⟩:=v7.mp h2
 obtain rfl:=g7.mp h4
 exact⟨u,v,rfl,h1,h3⟩
theorem y5C{K:PySem.W.Frag}{H:Hp}{d:D}{xs:List V}(h:u7 K H [d] xs):∃u,xs=[u]/\Rep K H d u:=by
 obtain⟨u,vs,rfl,h1,h2⟩:=v7.mp h
 obtain rfl:=g7.mp h2
 exact⟨u,rfl,h1⟩
theorem x4E{K:PySem.W.Frag}:RdC K (fun xs H Q=>∃i j,xs=[.int i,.int j]/\Q (.int (if j<i then j else i)) H) x3R:=by
 intro ds d e Z H vs Q zs rr q;unfold x3R at e;split at e
 ·rename_i i j;cases e;obtain⟨u,v,rfl,h1,h2⟩:=z7M rr
  obtain rfl:=x4.mp h1
  obtain rfl:=x4.mp h2
  exact⟨i,j,rfl,q _ H (u5.refl H) (x4.mpr rfl)⟩
 ·cases e
theorem x4F{K:PySem.W.Frag}:RdC K (fun xs H Q=>∃i j,xs=[.int i,.int j]/\Q (.int (if j>i then j else i)) H) x0U:=by
 intro ds d e Z H vs Q zs rr q;unfold x0U at e;split at e
 ·rename_i i j;cases e;obtain⟨u,v,rfl,h1,h2⟩:=z7M rr
  obtain rfl:=x4.mp h1
  obtain rfl:=x4.mp h2
  exact⟨i,j,rfl,q _ H (u5.refl H) (x4.mpr rfl)⟩
 ·cases e
theorem x68(hc:X.calm=true)(hm:X.mg "min" = none)(ha:SE X a fa)(hb:SE X b fb)(hg:Gl X "min":=by rfl)(hv:bootBuiltins "min" = some (.builtin "min"):=by decide +kernel)(he:starEach [a,b] X.env=(false,eval a X.env)::starEach [b] X.env:=by exact y2 rfl)(he2:starEach [b] X.env=(false,eval b X.env)::starEach [] X.env:=by exact y2 rfl)(hpl:(backTo pos (starEach [b] X.env)).any (·.1)=false:=by exact x6 rfl):SE X (.Call (.Name "min" p) [a,b] [] pos) (w6 x3R (z6 fa (z6 fb j0))) :=
 z7L (y32 hc) x4E hm hv (z27 ha (z27 hb z9L he2) he) hg (by decide) (by decide) he hpl
theorem x6B(hc:X.calm=true)(hm:X.mg "max" = none)(ha:SE X a fa)(hb:SE X b fb)(hg:Gl X "max":=by rfl)(hv:bootBuiltins "max" = some (.builtin "max"):=by decide +kernel)(he:starEach [a,b] X.env=(false,eval a X.env)::starEach [b] X.env:=by exact y2 rfl)(he2:starEach [b] X.env=(false,eval b X.env)::starEach [] X.env:=by exact y2 rfl)(hpl:(backTo pos (starEach [b] X.env)).any (·.1)=false:=by exact x6 rfl):SE X (.Call (.Name "max" p) [a,b] [] pos) (w6 x0U (z6 fa (z6 fb j0))) :=
 z7L (y33 hc) x4F hm hv (z27 ha (z27 hb z9L he2) he) hg (by decide) (by decide) he hpl
def fBool:List D->Option D:=fun ds=>match ds with|[.int i]=>some (.bl (i != 0))|[.bl b]=>some (.bl b)|_=>none
def x8K:List D->Option D:=fun ds=>match ds with|[.int i]=>some (.int i)|[.bl b]=>some (.int (if b then 1 else 0))|_=>none
theorem w0B{K:PySem.W.Frag}:RdC K (fun xs H Q=>(∃i,xs=[.int i]/\Q (.int i) H)∨∃k,xs=[.bl k]/\Q (.int (if k then 1 else 0)) H) x8K:=by
 intro ds d e Z H vs Q zs rr q;unfold x8K at e;split at e
 ·cases e;obtain⟨u,rfl,h1⟩:=y5C rr
  obtain rfl:=x4.mp h1
  exact .inl ⟨_,rfl,q _ H (u5.refl H) (x4.mpr rfl)⟩
 ·cases e;obtain⟨u,rfl,h1⟩:=y5C rr
  obtain rfl:=g8.mp h1
  exact .inr ⟨_,rfl,q _ H (u5.refl H) (x4.mpr rfl)⟩
 ·cases e
theorem x2K(hm:X.mg "int" = none)(ha:SE X a fa)(hg:Gl X "int":=by rfl)(hv:bootBuiltins "int" = some (.type "int"):=by decide +kernel)(he:starEach [a] X.env=(false,eval a X.env)::starEach [] X.env:=by exact y2 rfl)(hpl:(backTo pos (starEach [] X.env)).any (·.1)=false:=by exact x6 rfl):SE X (.Call (.Name "int" p) [a] [] pos) (w6 x8K (z6 fa j0)) :=
 y92 x1E w0B hm hv (z27 ha z9L he) hg (by decide) (by decide) he hpl
def x16(f:z9->Option D):z9->Option D:=fun ρ=>match f ρ with|some (.int i)=>some (.int (-i))|_=>none
theorem x9U(h:SE X a fa):SE X (.UnaryOp .USub a pos) (x16 fa) :=
 v5 (w2X x8S h) fun σ H Q ⟨ρ,d,B,H0,V0,Z,e,r,q⟩=>by
  unfold x16 at e;split at e
  ·rename_i i ei;cases e
   exact⟨ρ,_,B,H0,V0,Z,ei,r,fun v H' s rr=>⟨i,x4.mp rr,q _ H' s (x4.mpr rfl)⟩⟩
  ·cases e
def x1R(i:Nat)(f:z9->Option D):z9->Option Out:=fun ρ=>match z8X i ρ with
 | some ds=>(match f ρ with|some d=>if ds.length<LIM then some (.nx (ρ.set i (some (.ow (ds++[d]))))) else none|none=>none)
 | none=>none
def x88(i:Nat)(f:z9->Option (List D)):z9->Option Out:=fun ρ=>match z8X i ρ with
 | some ds=>(match f ρ with|some es=>if ds.length+es.length≤LIM then some (.nx (ρ.set i (some (.ow (ds++es))))) else none|none=>none)
 | none=>none
theorem x9F{i:Nat}{x:Str}{p1 p2 p3:Pos}(h:SE X a fa)(hN:X.N[i]?=some x:=by rfl)(hv:Vis X.env.scope x:=by first|exact Or.inl rfl|exact Or.inr (Or.inl rfl)|exact Or.inr (Or.inr rfl))(hd:(x==("__debug__":Str))=false:=by decide)(hcd:(x==("__classdict__":Str))=false:=by decide)(hbase:attributeBase (.Name x p1) "append" X.env (eval (.Name x p1) X.env)=eval (.Name x p1) X.env:=by rfl)
  (hfew:((backTo p3 (starEach [a] X.env)).all (fun x=>!x.1)&&(backToKw p3 (keywordEach [] X.env)).all (fun x=>x.1.isSome)
   && decide (([a]:List Expr).length+([]:List Keyword).length+(if ([]:List Keyword).isEmpty then 0 else 1)<30))=true:=by rfl)
  (hline:(p2.endLine==p3.line)=true:=by rfl) (hs:starEach [a] X.env=(false,eval a X.env)::starEach [] X.env:=by exact y2 rfl) (hplain:(backTo p3 (starEach [] X.env)).any (·.1)=false:=by exact x6 rfl)
  (hsw:swapsWith (.Call (.Attribute (.Name x p1) "append" p2) [a] [] p3) none pos.line X.env=pure false:=by rfl) :
  SS X (.Expr (.Call (.Attribute (.Name x p1) "append" p2) [a] [] p3) pos) (x1R i fa) :=
 z1A (y9E (x35 PySem.F.plainAttrs_list PySem.F.slot_list_append PySem.F.type_list_append z86 (z82 hN hv hd hcd) (J9 h W4 hs) hbase hfew hline hs hplain) hsw) fun E σ H ⟨ρ,o,B,H0,V0,Z,e,r,q⟩=>by
  unfold x1R at e;split at e
  ·rename_i ds eds;split at e
   ·rename_i d ed;split at e
    ·rename_i hl;cases e;obtain⟨n,xs,h1,h2,hb,h3,h4,h5⟩:=r.ow i ds (z15 eds)
     refine⟨.ref n,h1,.inl ⟨rfl,xs,SqL.of h4⟩,ρ,_,B,H0,V0,Z,ed,r,fun v H1 s1 r1=>?_⟩
     have g5:=h5.mono (y3 s1)
     refine⟨n,xs,v,rfl,rfl,s1 _ _ h4,by rw[←h5.length];exact y5Y (Nat.le_of_lt hl),?_⟩
     exact q σ _ Z ((r.mono s1).updO (z15 eds) h1 (u7.append g5 (u7.one r1)))
    ·cases e
   ·cases e
  ·cases e
theorem x9D{i:Nat}{x:Str}{p1 p2 p3:Pos}(h:SF X a f)(hN:X.N[i]?=some x:=by rfl)(hv:Vis X.env.scope x:=by first|exact Or.inl rfl|exact Or.inr (Or.inl rfl)|exact Or.inr (Or.inr rfl))(hd:(x==("__debug__":Str))=false:=by decide)(hcd:(x==("__classdict__":Str))=false:=by decide)(hbase:attributeBase (.Name x p1) "extend" X.env (eval (.Name x p1) X.env)=eval (.Name x p1) X.env:=by rfl)
  (hfew:((backTo p3 (starEach [a] X.env)).all (fun x=>!x.1)&&(backToKw p3 (keywordEach [] X.env)).all (fun x=>x.1.isSome)
   && decide (([a]:List Expr).length+([]:List Keyword).length+(if ([]:List Keyword).isEmpty then 0 else 1)<30))=true:=by rfl)
  (hline:(p2.endLine==p3.line)=true:=by rfl) (hs:starEach [a] X.env=(false,eval a X.env)::starEach [] X.env:=by exact y2 rfl) (hplain:(backTo p3 (starEach [] X.env)).any (·.1)=false:=by exact x6 rfl)
  (hsw:swapsWith (.Call (.Attribute (.Name x p1) "extend" p2) [a] [] p3) none pos.line X.env=pure false:=by rfl) :
  SS X (.Expr (.Call (.Attribute (.Name x p1) "extend" p2) [a] [] p3) pos) (x88 i f) :=
 z1A (y9E (x35 PySem.F.plainAttrs_list PySem.F.slot_list_extend PySem.F.type_list_extend y9W (z82 hN hv hd hcd) (J9 h W4 hs) hbase hfew hline hs hplain) hsw) fun E σ H ⟨ρ,o,B,H0,V0,Z,e,r,q⟩=>by
  unfold x88 at e;split at e
  ·rename_i ds eds;split at e
   ·rename_i es ee;split at e
    ·rename_i hl;cases e;obtain⟨n,xs,h1,h2,hb,h3,h4,h5⟩:=r.ow i ds (z15 eds)
     refine⟨.ref n,h1,.inl ⟨rfl,xs,SqL.of h4⟩,ρ,_,B,H0,V0,Z,ee,r,fun l ys H1 s1 hn hl1 r1=>?_⟩
     have g5:=h5.mono (y3 s1)
     refine⟨n,l,xs,ys,rfl,rfl,s1 _ _ h4,hl1,by rw[←h5.length,←r1.length];exact z9S hl,?_⟩
     exact q σ _ Z ((r.mono s1).updO (z15 eds) h1 (u7.append g5 (r1.mono (z12 fun b hb=>List.mem_cons_of_mem _ hb))))
    ·cases e
   ·cases e
  ·cases e
end
theorem z74:fillsNumberSlot (.type "tuple") "mul" = pure false :=
 PySem.fillsNumberSlot_seq (id:="tuple.__mul__") (r:=some (.builtin "tuple.__rmul__")) F.slot_tuple_mul.lookup (by decide +kernel) F.slot_tuple_rmul.lookup (by decide +kernel)
theorem y25:seqRepeat? (.type "tuple")=pure (some (.builtin "tuple.__mul__")):=by
 unfold seqRepeat?
 rw[PySem.seqSlot_of (T:="tuple") (name:="__mul__") (id:="tuple.__mul__") F.slot_tuple_mul.lookup (by decide +kernel),PySem.seqSlot_of (T:="tuple") (name:="__rmul__") (id:="tuple.__rmul__") F.slot_tuple_rmul.lookup (by decide +kernel)]
 rfl
theorem y6U(l:Addr)(items:Array Value)(n:Nat)(dd:Option Addr)(sl:Array (Option Value))(x:Int)(t:Tok)(h1:(decide (x < -(2 ^ 63))||decide (x≥2 ^ 63))=false)(h2:(items.isEmpty||x==1)=false)(h3:(decide (x≤0)||items.isEmpty)=true)(hz:¬(#[]:Array Value).size>sizeLine) :
  Meets (Builtin.«tuple.__mul__» ⟨[.ref l,.int x t],[]⟩) (fun _ R s=>s.heap.get? l=some { cls:=.type "tuple",dict:=dd,data:=.seq items n,slots:=sl }/\R (.ok (.ret (.ref s.heap.objs.size))) { s with heap:=s.heap.push { cls:=Value.type "tuple",data:=Data.seq #[] } }) :=
 .of_wp fun prog w A R s h=>by obtain⟨hp,g,d,tk,os⟩:=s;obtain⟨hl,h⟩:=h;wp_walk;refine wpAny_ite_false (decide_eq_false (by rw[h1];exact Bool.false_ne_true)) ?_;wp_walk;exact⟨_,rfl,h⟩
theorem y6S(l:Addr)(items:Array Value)(n:Nat)(dd:Option Addr)(sl:Array (Option Value))(x:Int)(t:Tok)(h1:(decide (x < -(2 ^ 63))||decide (x≥2 ^ 63))=false)(h2:(items.isEmpty||x==1)=false)(h3:(decide (x≤0)||items.isEmpty)=false)(h4:¬(items.size:Int)*x>(2 ^ 63-1) / 8)(h5:Builtin.Tuple.tupleTooMany ((items.size:Int)*x)=false)(h6:¬(List.foldl (fun x1 x2=>x1++x2) #[] (List.replicate x.toNat items)).size>sizeLine) :
  Meets (Builtin.«tuple.__mul__» ⟨[.ref l,.int x t],[]⟩) (fun _ R s=>s.heap.get? l=some { cls:=.type "tuple",dict:=dd,data:=.seq items n,slots:=sl }/\R (.ok (.ret (.ref s.heap.objs.size))) { s with heap:=s.heap.push { cls:=Value.type "tuple",data:=Data.seq (List.foldl (fun x1 x2=>x1++x2) #[] (List.replicate x.toNat items)) } }) :=
 .of_wp fun prog w A R s h=>by obtain⟨hp,g,d,tk,os⟩:=s;obtain⟨hl,h⟩:=h;wp_walk;refine wpAny_ite_false (decide_eq_false (by rw[h1];exact Bool.false_ne_true)) ?_;wp_walk;refine wpAny_ite_false (decide_eq_false h4) ?_;wp_walk;exact⟨_,rfl,h⟩
theorem z95(a:Int)(t:Tok)(l:Addr)(items:Array Value)(n:Nat)(dd:Option Addr)(sl:Array (Option Value)) :
  Meets (Builtin.«int.__rmul__» ⟨[.int a t,.ref l],[]⟩) (fun _ R s=>s.heap.get? l=some { cls:=.type "tuple",dict:=dd,data:=.seq items n,slots:=sl }/\R (.ok (.ret Value.notImplemented)) s) :=
 .of_wp fun prog w A R s h=>by obtain⟨hp,g,d,tk,os⟩:=s;obtain⟨hl,h⟩:=h;wp_walk;exact⟨_,rfl,h⟩
theorem y6T(l:Addr)(items:Array Value)(n:Nat)(dd:Option Addr)(sl:Array (Option Value))(t:Tok) :
  Meets (Builtin.«tuple.__mul__» ⟨[.ref l,.int 1 t],[]⟩) (fun _ R s=>s.heap.get? l=some { cls:=.type "tuple",dict:=dd,data:=.seq items n,slots:=sl }/\R (.ok (.ret (.ref l))) s) :=
 .of_wp fun prog w A R s h=>by obtain⟨hp,g,d,tk,os⟩:=s;obtain⟨hl,h⟩:=h;wp_walk;exact⟨_,rfl,h⟩
def w0F(K:PySem.W.Frag):R2:=fun x y H Q=>∃a k xs,x = .ref a/\y = .int k/\SqT K H a xs/\xs≠[]/\-(2 ^ 63)≤k/\k<2 ^ 63/\xs.length*k.toNat≤1000000 /\
 (k=1->Q (.ref a) H)/\(k≠1->∀p,H p=none->Q (.ref p) (upd H p (.tup (List.replicate k.toNat xs).flatten)))
section
variable{X:Cx}
theorem x74:OpR X (binaryOp .Mult) (w0F X.K):=by
 intro pins s σ H x y v u Q I rx ry h;obtain⟨a,k,xs,rfl,rfl,ha,hne,h1,h2,hz,q1,q2⟩:=h;cases rx;obtain⟨t,rfl⟩:=ry;obtain⟨its,r,p,_⟩:=I.tuple ha;have hl:=r.length;obtain⟨⟨cls,dd,data,sl⟩,ho,hc,n,hd⟩:=id p;simp only at hc hd
 subst hc hd
 have hne':its≠[]:=fun z=>hne (r.nil_iff.mp z)
 have he:its.toArray.isEmpty=false:=by
  cases its with
  | nil=>exact absurd rfl hne'
  | cons _ _=>rfl
 have b1:(decide (k < -(2 ^ 63))||decide (k≥2 ^ 63))=false:=by
  rw[decide_eq_false (by omega),decide_eq_false (by omega)];rfl
 refine wpAny_binaryOp_repeat_ref (T:="tuple") (U:="int") (by decide) ⟨_,ho,rfl⟩ (fun s'=>typeIs_int s' k t) z74 F.fills_int_mul F.slot_int_rmul y25 F.slot_int_index.lookup
  (call_meets F.slot_int_rmul (typeIs_int s k t) F.entry_int_rmul (F.args_int_rmul_2 _ _) (z95 k t a its.toArray n dd sl) ⟨ho,rfl,⟨_,ho,rfl⟩,?_⟩)
 by_cases hk:k=1
 ·subst hk;exact call_meets F.slot_tuple_mul ⟨_,ho,rfl⟩ F.entry_tuple_mul (F.args_tuple_mul_2 _ _) (y6T a its.toArray n dd sl t) ⟨ho,⟨.ref a,H,I,rfl,q1 rfl⟩⟩
 ·have b2:(its.toArray.isEmpty||k==1)=false:=by rw[he,Bool.false_or];exact beq_eq_false_iff_ne.mpr hk
  by_cases h0:k≤0
  ·refine call_meets F.slot_tuple_mul ⟨_,ho,rfl⟩ F.entry_tuple_mul (F.args_tuple_mul_2 _ _) (y6U a its.toArray n dd sl k t b1 b2 (by rw[decide_eq_true h0];rfl) (by simp)) ⟨ho,?_⟩
   have e0:k.toNat=0:=by omega
   have:=q2 hk s.heap.objs.size I.fresh
   rw[e0]at this
   exact⟨.ref _,_,I.laid (o:=.tup []) (t':=s.toks) (fun b o e=>Heap.get?_push_of_some _ e) (Nat.le_refl _) ⟨Nat.zero_le _,[],.nil,x1U.new _ _⟩,rfl,this⟩
  ·have hsz:((its.toArray.size:Nat):Int)*k≤1000000:=by
    rw[List.size_toArray,←hl]
    have e1:k=((k.toNat:Nat):Int):=by omega
    rw[e1]
    have:((xs.length*k.toNat:Nat):Int)≤1000000:=Int.ofNat_le.mpr hz
    rw[Int.natCast_mul]at this;exact this
   have f0:List.foldl (fun x1 x2=>x1++x2) #[] (List.replicate k.toNat its.toArray)=(List.replicate k.toNat its).flatten.toArray:=by
    have:=y2R its k.toNat []
    rw[List.nil_append]at this;exact this
   have hlen:(List.replicate k.toNat xs).flatten.length≤sizeLine:=by
    rw[x7L,Nat.mul_comm,sizeLine_eq];omega
   refine call_meets F.slot_tuple_mul ⟨_,ho,rfl⟩ F.entry_tuple_mul (F.args_tuple_mul_2 _ _) (y6S a its.toArray n dd sl k t b1 b2 (by rw[decide_eq_false h0,he];rfl) (by omega) (by unfold Builtin.Tuple.tupleTooMany;rw[sizeLine_eq];exact decide_eq_false (by omega)) ?_) ⟨ho,?_⟩
   ·rw[f0,List.size_toArray,←(r.rep k.toNat).length];omega
   ·rw[f0]
    exact⟨.ref _,_,I.laid (o:=.tup (List.replicate k.toNat xs).flatten) (t':=s.toks) (fun b o e=>Heap.get?_push_of_some _ e) (Nat.le_refl _) ⟨hlen,_,r.rep k.toNat,x1U.new _ _⟩,rfl,q2 hk _ I.fresh⟩
def x83:D->D->Option D:=fun x y=>match x,y with
 | .tup ds,.int k=>if ds≠[]/\-(2 ^ 63)≤k/\k<2 ^ 63/\ds.length*k.toNat≤LIM then some (.tup (List.replicate k.toNat ds).flatten) else none
 | _,_=>none
theorem x6G{K:PySem.W.Frag}:z4J K (w0F K) x83:=by
 intro x y d e Z H u v Q zs hx hy q;unfold x83 at e;split at e
 ·rename_i ds k;split at e
  ·rename_i hh;obtain⟨hne,h1,h2,hl⟩:=hh;cases e;obtain⟨a,us,rfl,g1,g2⟩:=v4.mp hx
   obtain rfl:=x4.mp hy
   have hlen:=g2.length
   refine⟨a,k,us,rfl,rfl,v3 y4 g1,fun z=>hne (List.eq_nil_of_length_eq_zero (by rw[hlen,z];rfl)),h1,h2,by rw[←hlen];unfold LIM at hl;omega,fun e1=>?_,fun e1 p hp=>?_⟩
   ·subst e1
    have:(List.replicate (1:Int).toNat ds).flatten=ds:=by simp
    rw[this]at q;exact q _ H (u5.refl H) hx
   ·have sn:=v8 (o:=HO.tup (List.replicate k.toNat us).flatten) hp;refine q _ _ sn (v4.mpr ⟨p,_,rfl,SqT.of ?_,(g2.rep k.toNat).mono (y3 sn)⟩);rw[Q6 (y5S zs hp)];exact x5
  ·cases e
 ·cases e
def y4I:D->D->Option D:=fun x y=>match x3X x y with|some d=>some d|none=>x83 x y
variable{a b:Expr}{fa fb:z9->Option D}{pos:Pos}
theorem x9V(ha:SE X a fa)(hb:SE X b fb):SE X (.BinOp a .Mult b pos) (d2 y4I fa fb):=y23 (w15.or x74) (z4J.or w09 x6G) ha hb
end
def z38(N:List Str)(ds:List D):z9:=ds.map (fun d=>some (Cell.sh d))++List.replicate (N.length-ds.length) none
def z67:Option Out->Option D
 | some (.rt d)=>some d
 | some (.nx _)=>some .non
 | _=>none
theorem y56{K:PySem.W.Frag}{Z:List Addr}{H:Hp}{N:List Str}{ds:List D}{vs:List V}(zs:TB K H/\∀z∈Z,∃o,H z=some o)(rr:u7 K (j7 Z H) ds vs):SR K Z H (j7 Z H) H Z (start N vs) (z38 N ds):=by
 have hl:=rr.length
 have get:∀{i:Nat} {c:Cell},(z38 N ds)[i]?=some (some c)->∃d,ds[i]?=some d/\c = .sh d:=fun {i c} q=>by
  unfold z38 at q;by_cases hi:i<ds.length
  ·rw[List.getElem?_append_left (by simpa using hi),List.getElem?_map]at q
   cases e:ds[i]? with
   | none=>rw[e]at q;cases q
   | some d=>rw[e]at q;cases q;exact⟨d,rfl,rfl⟩
  ·rw[List.getElem?_append_right (by simpa using hi),List.getElem?_replicate]at q
   split at q<;>cases q
 refine⟨u5.refl H,zs.1,fun _ _ h=>h,fun b hb=>hb,zs.2,fun i d q=>?_,fun i c q=>?_,fun i j c e a q1 q2=>?_,?_⟩
 ·obtain⟨d',e,z⟩:=get q;cases z;obtain⟨v,e1,r1⟩:=rr.get e
  refine⟨v,?_,r1⟩
  have hi:i<vs.length:=(List.getElem?_eq_some_iff.mp e1).1;unfold L2.start
  rw[List.getElem?_append_left (by simpa using hi),List.getElem?_map,e1]
  rfl
 ·obtain⟨d',e,z⟩:=get q;exact (z90 z.symm).elim
 ·obtain⟨d',e,z⟩:=get q1;exact (z90 z.symm).elim
 ·unfold L2.start z38;rw[List.length_append,List.length_append,List.length_map,List.length_map,List.length_replicate,List.length_replicate,hl]
theorem x0Q{P:Program}{w:World}{K:PySem.W.Frag}{mg:Str->Option Value}{base:Heap}{x:Str}{st:Stmt}{f:Addr}{fd:FuncData}{N ps:List Str}{k:Nat}{g:z9->Option Out}{F:List D->Option D}(G:Fun K x x st f fd)(S:FnScope N ps (z7 st))(len:∀ds d,F ds=some d->ds.length=ps.length)(hF:∀ds d,F ds=some d->z67 (g (z38 N ds))=some d)
  (hbody:∀(cdv:Value) (A:Around) (outer:List Env) (s:Shared) (H:Hp) (E:XK),Room k (A.deeper (envOfC x (z7 st) s.heap.objs.size f cdv)) ->
   SSs (z47 CX0 P w K mg base N x (z7 st) f cdv A outer s H E).nox (y8 st) g):FnOk P w K mg base CX0 (k+1) f fd ps (spD K F):=by
 refine G.ok S (fun vs H Q E h=>?_) fun cdv A outer s H vs Q E hr h=>?_
 ·obtain⟨Z,ds,d,zs,rr,e,q⟩:=h;rw[←rr.length];exact len ds d e
 ·obtain⟨Z,ds,d,zs,rr,e,q⟩:=h;have e2:=hF ds d e
  refine⟨_,hbody cdv A outer s H E hr,?_⟩
  cases ho:g (z38 N ds) with
  | none=>rw[ho]at e2;cases e2
  | some o =>
   refine⟨z38 N ds,o,Z,H,j7 Z H,Z,ho,y56 zs rr,?_⟩
   rw[ho]at e2
   cases o with
   | rt d'=>cases e2;exact fun v H' s' rv=>q v H' s' rv
   | nx ρ=>cases e2;exact fun σ H' Z' r'=>q .non H' r'.same (Y3.mpr rfl)
   | bk _=>cases e2
   | ct _=>cases e2
def z3B(sc outer:Scope)(N:List Str)(cap:List (Option Nat))(M:List Str):Bool :=
 (sc.kind==.function)&&(sc.names.all fun y=>if y.2==.cell then sc.names.lookup y.1==some .cell else true)&&(sc.names.all fun y=>if y.2==.local then sc.names.lookup y.1==some .local else true) &&
 (sc.names.all fun y=>if y.2==.free then sc.names.lookup y.1==some .free&&(outer.names.lookup y.1==some .cell||outer.names.lookup y.1==some .free) else true) &&
 ((List.range cap.length).all fun i=>match cap[i]? with|some (some j)=>(match N[i]? with|some x=>(match M[j]? with|some y=>x==y&&sc.names.lookup x==some .free|none=>false)|none=>false)|_=>true) &&
 (cap.length==N.length)&&((List.range cap.length).all fun i=>(List.range cap.length).all fun j=>match cap[i]? with|some (some k)=>(match cap[j]? with|some (some k')=>if k==k' then i==j else true|_=>true)|_=>true)
def x3K(sc outer:Scope)(N:List Str)(cap:List (Option Nat))(M:List Str):Bool:=z3B sc outer N cap M&&(sc.names.all fun y=>y.2 != .cell)
section
variable{X:Cx}{pos:Pos}
theorem x2H{elt target iter:Expr}{ifs:List Expr}{scope:Scope}{fi:z9->Option (List D)}{h:D->z9->Option z9}{ft:z9->Option Bool}{fe:z9->Option D}(N:List Str)(cap:List (Option Nat))(hc:X.calm=true)(hi:SIc X target iter fi)(hg:∀cl C fp s H,SG (j4 X N scope cl C fp s H) target h)(ht:∀cl C fp s H,x1P (j4 X N scope cl C fp s H) ifs (tT X.K ft))(he:∀cl C fp s H,SE (j4 X N scope cl C fp s H) elt fe)(hok:z3B scope X.env.scope N cap X.N=true:=by rfl)(hs:∀x,foldedSetIterable iter X.env x=pure x:=by intro _;rfl) :
  SF X (.ListComp elt [⟨target,iter,ifs,0⟩] scope pos) (J6 cap fi h ft fe):=by
 unfold z3B at hok;simp only[Bool.and_eq_true]at hok;obtain⟨⟨⟨⟨⟨⟨h1,h2⟩,h3⟩,h4⟩,h5⟩,h6⟩,h7⟩:=hok;rw[List.all_eq_true]at h2 h3 h4 h5 h7
 refine x62 (N:=N) (cap:=cap) hc hi hg ht he (by simpa using h1) (fun y hy e=>by have z:=h2 y hy;rw[e]at z;simpa using z) (fun y hy e=>?_) (fun y hy e=>?_) (fun y hy e=>?_) (fun i j e=>?_) (by simpa using h6) (fun i j k e1 e2=>?_) hs
 ·have z:=h3 y hy;rw[e]at z;simpa using z
 ·have z:=h4 y hy;rw[e]at z;simp only[beq_self_eq_true,if_true,Bool.and_eq_true]at z;simpa using z.1
 ·have z:=h4 y hy;rw[e]at z;simp only[beq_self_eq_true,if_true,Bool.and_eq_true,Bool.or_eq_true]at z;simpa using z.2
 ·have hi':i<cap.length:=(List.getElem?_eq_some_iff.mp e).1;have z:=h5 i (List.mem_range.mpr hi');rw[e]at z;dsimp only at z;split at z
  ·rename_i x hx;split at z
   ·rename_i y hy;simp only[Bool.and_eq_true,beq_iff_eq]at z;obtain⟨z1,z2⟩:=z;subst z1
    exact⟨x,hx,hy,z2⟩
   ·cases z
  ·cases z
 ·have hi':i<cap.length:=(List.getElem?_eq_some_iff.mp e1).1;have hj':j<cap.length:=(List.getElem?_eq_some_iff.mp e2).1;have z:=h7 i (List.mem_range.mpr hi');rw[List.all_eq_true]at z;have z2:=z j (List.mem_range.mpr hj');rw[e1,e2]at z2;simpa using z2
theorem w2W:x1P X [] (tT X.K z2B):=fun pins s σ H Q I ⟨ρ,b,B,H0,V0,Z,e,r,q⟩=>by
 cases e;exact y5K pins s σ H Q I (q H (u5.refl H))
theorem w2V{c:Expr}{f:z9->Option Bool}(h:STt X c f):x1P X [c] (tT X.K f):=x2X h
def tQL(K:PySem.W.Frag)(f:z9->Option (List D)):TE:=fun σ H Q=>∃ρ ds B H0 V0 Z,f ρ=some ds/\SR K B H0 V0 H Z σ ρ/\∀a xs H',u5 H H'->SqL K H' a xs->u7 K (j7 Z H') ds xs->Q (.ref a) H'
abbrev SQL(X:Cx)(e:Expr)(f:z9->Option (List D)):Prop:=PE X e (tQL X.K f)
theorem w4A{e:Expr}{f:z9->Option (List D)}(h:SF X e f):SQL X e f :=
 v5 h fun σ H Q ⟨ρ,ds,B,H0,V0,Z,e,r,q⟩ =>
  ⟨ρ,ds,B,H0,V0,Z,e,r,fun a xs H' s hn ha hr=>q a xs H' s (SqL.of ha) (hr.mono (z12 fun b hb=>List.mem_cons_of_mem _ hb))⟩
theorem w2S{e:Expr}{f:z9->Option D}(h:SE X e f):SQL X e (W9 f) :=
 v5 h fun σ H Q ⟨ρ,ds,B,H0,V0,Z,e,r,q⟩=>by
  unfold W9 at e;split at e
  ·rename_i es he;cases e
   refine⟨ρ,_,B,H0,V0,Z,he,r,fun v H' s rr=>?_⟩
   obtain⟨a,xs,rfl,h1,h2⟩:=j1.mp rr;exact q a xs H' s (y4.seq h1) h2
  ·cases e
theorem x9N{a b:Expr}{fa fb:z9->Option (List D)}(ha:SQL X a fa)(hb:SQL X b fb):SF X (.BinOp a .Add b pos) (z79 fa fb) :=
 v5 (w0W y9P ha hb) fun σ H Q ⟨ρ,ds,B,H0,V0,Z,e,r,q⟩=>by
  unfold z79 at e;split at e
  ·rename_i xs ex;split at e
   ·rename_i ys ey;split at e
    ·rename_i hl;cases e
     refine⟨ρ,xs,B,H0,V0,Z,ex,r,fun n us H1 s1 hq1 r1=>⟨ρ,ys,B,H0,V0,Z,ey,r.mono s1,fun m ws H2 s2 hq2 r2=>⟨n,m,us,ws,rfl,rfl,s2.seq hq1,hq2,by rw[←r1.length,←r2.length];exact z9S hl,fun l hl'=>?_⟩⟩⟩
     exact q l _ _ (s1.trans (s2.trans (v8 hl'))) ((s1.trans s2).free hl') x5 ((u7.append (r1.mono (y3 s2)) r2).mono (z11 hl' (v8 hl')))
    ·cases e
   ·cases e
  ·cases e
end
structure FnD(P:Program)(w:World)(K:PySem.W.Frag)(mg:Str->Option Value)(base:Heap)(k:Nat)(x:Str)(ps:List Str)(F:List D->Option D):Prop where
 ex:∃f fd,FnOk P w K mg base CX0 k f fd ps (spD K F)/\mg x=some (.ref f)/\PySem.W.keepIn K (.ref f)=true/\y4W K fd ps []
theorem w2L{X:Cx}{j k:Nat}{ps:List Str}{F:List D->Option D}{x:Str}{p pos:Pos}{e:Expr}{es:List Expr}{g:z9->Option (List D)}(G:FnD X.prog X.w X.K X.mg X.base j x ps F)(hr:Room k X.A)(ha:SA X (e::es) g)(hjk:j≤k:=by decide)(hg:Gl X x:=by rfl)(hdb:(x==("__debug__":Str))=false:=by decide)(he:starEach (e::es) X.env=(false,eval e X.env)::starEach es X.env:=by exact y2 rfl)(hpl:(backTo pos (starEach es X.env)).any (·.1)=false:=by exact x6 rfl) :
  SE X (.Call (.Name x p) (e::es) [] pos) (w6 F g):=by
 obtain⟨f,fd,h1,h2,h3,h4⟩:=G.ex;exact x6E h1 (hr.mono hjk) h2 h3 h4 ha hg hdb he hpl
structure Stands(K:PySem.W.Frag)(mg:Str->Option Value)(x:Str)(st:Stmt):Prop where
 ex:∃f fd,Fun K x x st f fd/\mg x=some (.ref f)
theorem x0P{P:Program}{w:World}{K:PySem.W.Frag}{mg:Str->Option Value}{base:Heap}{x:Str}{st:Stmt}{N ps:List Str}{k:Nat}{g:z9->Option Out}{F:List D->Option D}(G:Stands K mg x st)(S:FnScope N ps (z7 st))(len:∀ds d,F ds=some d->ds.length=ps.length)(hF:∀ds d,F ds=some d->z67 (g (z38 N ds))=some d)(hb:∀(kV doc pm:Value) (an:Option Addr) (cdv ct:Value) (us:List Value),us.length=ps.length->bindArgs (PySem.W.fnOf x x (j8 st) (y8 st) (z7 st) .none kV doc pm an cdv ct) ⟨us,[]⟩=pure (ps.zip us))
  (hbody:∀(f:Addr) (cdv:Value) (A:Around) (outer:List Env) (s:Shared) (H:Hp) (E:XK),Room k (A.deeper (envOfC x (z7 st) s.heap.objs.size f cdv)) ->
   SSs (z47 CX0 P w K mg base N x (z7 st) f cdv A outer s H E).nox (y8 st) g):FnD P w K mg base (k+1) x ps F:=by
 obtain⟨f,fd,G1,G2⟩:=G.ex
 exact⟨f,fd,x0Q G1 S len hF (hbody f),G2,G1.kp,G1.binds hb⟩
def tX(K:PySem.W.Frag)(f:z9->Option (D×z9)):TE:=fun σ H Q=>∃ρ d ρ' B H0 V0 Z,f ρ=some (d,ρ')/\SR K B H0 V0 H Z σ ρ/\∀v H',SR K B H0 V0 H' Z σ ρ'->Rep K (j7 Z H') d v->Q v H'
abbrev SX(X:Cx)(e:Expr)(f:z9->Option (D×z9)):Prop:=PE X e (tX X.K f)
def x85(i:Nat)(f:z9->Option D):z9->Option (D×z9):=fun ρ=>match z8X i ρ with
 | some ds=>(match f ρ with
  | some (.int j)=>(match ixN ds.length j with
   | some k=>(match ds[k]? with|some d=>if ds.length≤LIM then some (d,ρ.set i (some (.ow (ds.eraseIdx k)))) else none|none=>none)
   | none=>none)
  | _=>none)
 | none=>none
def tR(K:PySem.W.Frag)(f:z9->Option (List D)):TE:=fun σ H Q=>∃ρ ds B H0 V0 Z,f ρ=some ds/\SR K B H0 V0 H Z σ ρ/\∀a xs H',u5 H0 H'->SqL K H' a xs->u7 K (j7 B H') ds xs->(∀b∈B,∃o,H' b=some o)->Q (.ref a) H'
abbrev SL(X:Cx)(e:Expr)(f:z9->Option (List D)):Prop:=PE X e (tR X.K f)
section
variable{X:Cx}{pos:Pos}
theorem x8Y{i:Nat}{call:Expr}{f:z9->Option D}(h:PE X call (tBM X.K "list" x4I (w3K i) (x5J (tD X.K f) w25))):SX X call (x85 i f) :=
 v5 h fun σ H Q ⟨ρ,d,ρ',B,H0,V0,Z,e,r,q⟩=>by
  unfold x85 at e;split at e
  ·rename_i ds eds;split at e
   ·rename_i j ej;split at e
    ·rename_i k ek;split at e
     ·rename_i d' ed;split at e
      ·rename_i hz;cases e;obtain⟨n,xs,h1,h2,hb,h3,h4,h5⟩:=r.ow i ds (z15 eds)
       refine⟨.ref n,h1,.inl ⟨rfl,xs,SqL.of h4⟩,ρ,_,B,H0,V0,Z,ej,r,fun v H1 s1 r1=>?_⟩
       obtain rfl:=x4.mp r1
       have R1:=r.mono s1;have g5:=h5.mono (y3 s1);obtain⟨y,hy,ry⟩:=g5.get ed;have hl:=h5.length;obtain⟨q1,q2,q3,q4⟩:=x0I ek
       have big:(ds.length:Int)<2 ^ 63:=by
        have:ds.length≤100000:=hz
        omega
       refine⟨n,xs,j,k,y,rfl,rfl,s1 _ _ h4,by omega,by omega,by rw[←hl];exact q1,hy,?_⟩
       have vs:u5 (j7 Z H1) (j7 Z (upd H1 n (.lst (xs.eraseIdx k)))):=z23 h2;exact q y _ (R1.updO (z15 eds) h1 (g5.eraseIdx k)) (ry.mono vs)
      ·cases e
     ·cases e
    ·cases e
   ·cases e
  ·cases e
def z30(h:D->z9->Option z9)(fe:z9->Option (D×z9)):z9->List D->Option (List D)
 | _,[]=>some []
 | ρ,d::ds=>match h d ρ with
  | none=>none
  | some ρ1=>match fe ρ1 with
   | some (y,ρ2)=>(match z30 h fe ρ2 ds with|some ys=>some (y::ys)|none=>none)
   | none=>none
def y03(cap:List (Option Nat))(fi:z9->Option (List D))(h:D->z9->Option z9)(fe:z9->Option (D×z9)):z9->Option (List D):=fun ρ=>match fi ρ with
 | some ds=>if ds.length≤LIM then z30 h fe (y1I cap ρ) ds else none
 | none=>none
theorem SR.base{K:PySem.W.Frag}{B Z:List Addr}{H0 V0 H:Hp}{σ:St}{ρ:z9}(r:SR K B H0 V0 H Z σ ρ){l:Addr}{o:HO}(hl:H l=some o)(hn:H0 l=none)(hno:∀(j:Nat) (es:OC) a,ρ[j]?=some (some es.cell)->σ[j]?=some (some (.ref a))->a≠l):SR K B (upd H0 l o) V0 H Z σ ρ :=
 ⟨fun b u e=>by
   by_cases z:b=l
   ·subst z;rw[x5]at e;cases e;exact hl
   ·rw[v9 z]at e;exact r.same b u e,
  r.tb,r.vis,r.sub,r.zs,r.sh,fun j es hj=>by
   obtain⟨a,xs,t1,t2,tb,t3,t4,t5⟩:=r.own j es hj
   exact⟨a,xs,t1,t2,tb,by rw[v9 (hno j es a hj t1)];exact t3,t4,t5⟩,r.inj,r.len⟩
theorem SR.unbase{K:PySem.W.Frag}{B Z:List Addr}{H0 V0 H:Hp}{σ:St}{ρ:z9}{l:Addr}{o:HO}(r:SR K B (upd H0 l o) V0 H Z σ ρ)(hn:H0 l=none):SR K B H0 V0 H Z σ ρ :=
 ⟨fun b u e=>r.same b u (by rw[v9 (fun z=>by rw[z,hn]at e;cases e)];exact e),r.tb,r.vis,r.sub,r.zs,r.sh,fun j es hj=>by
   obtain⟨a,xs,t1,t2,tb,t3,t4,t5⟩:=r.own j es hj
   have na:a≠l:=fun z=>by rw[z,x5]at t3;cases t3
   exact⟨a,xs,t1,t2,tb,by rw[v9 na]at t3;exact t3,t4,t5⟩,r.inj,r.len⟩
theorem x2E{elt target iter:Expr}{scope:Scope}{fi:z9->Option (List D)}{h:D->z9->Option z9}{fe:z9->Option (D×z9)}(N:List Str)(cap:List (Option Nat))(hc:X.calm=true)(hi:SI X target iter fi)(hg:∀cl C fp s H,SG (j4 X N scope cl C fp s H) target h)(he:∀cl C fp s H,SX (j4 X N scope cl C fp s H) elt fe)(hok:z3B scope X.env.scope N cap X.N=true:=by rfl)(hs:∀x,foldedSetIterable iter X.env x=pure x:=by intro _;rfl) :
  SL X (.ListComp elt [⟨target,iter,[],0⟩] scope pos) (y03 cap fi h fe):=by
 unfold z3B at hok;simp only[Bool.and_eq_true]at hok;obtain⟨⟨⟨⟨⟨⟨h1,h2⟩,h3⟩,h4⟩,h5⟩,h6⟩,h7⟩:=hok;rw[List.all_eq_true]at h2 h3 h4 h5 h7
 have hinj:∀(i j k:Nat),cap[i]?=some (some k)->cap[j]?=some (some k)->i=j:=fun i j k e1 e2=>by
  have hi':i<cap.length:=(List.getElem?_eq_some_iff.mp e1).1;have hj':j<cap.length:=(List.getElem?_eq_some_iff.mp e2).1;have z:=h7 i (List.mem_range.mpr hi');rw[List.all_eq_true]at z;have z2:=z j (List.mem_range.mpr hj');rw[e1,e2]at z2;simpa using z2
 refine v5 (y9L (N:=N) (cap:=cap) (g:=tG X.K h) (te:=tX X.K fe) hc hi hg (fun cl C fp s H=>y5K) he (by simpa using h1) (fun y hy e=>by have z:=h2 y hy;rw[e]at z;simpa using z) (fun y hy e=>?_) (fun y hy e=>?_) (fun y hy e=>?_) (fun i j e=>?_) (by simpa using h6) hs) fun σ H Q ⟨ρ,zs,B,H0,V0,Z,e,r,q⟩=>?_
 ·have z:=h3 y hy;rw[e]at z;simpa using z
 ·have z:=h4 y hy;rw[e]at z;simp only[beq_self_eq_true,if_true,Bool.and_eq_true]at z;simpa using z.1
 ·have z:=h4 y hy;rw[e]at z;simp only[beq_self_eq_true,if_true,Bool.and_eq_true,Bool.or_eq_true]at z;simpa using z.2
 ·have hi':i<cap.length:=(List.getElem?_eq_some_iff.mp e).1;have z:=h5 i (List.mem_range.mpr hi');rw[e]at z;dsimp only at z;split at z
  ·rename_i x hx;split at z
   ·rename_i y hy;simp only[Bool.and_eq_true,beq_iff_eq]at z;obtain⟨z1,z2⟩:=z;subst z1
    exact⟨x,hx,hy,z2⟩
   ·cases z
  ·cases z
 ·unfold y03 at e;split at e
  ·rename_i ds eds;split at e
   ·rename_i hl
    refine⟨ρ,ds,B,H0,V0,Z,eds,r,fun J H1 s1 wk l hl1=>?_⟩
    have R1:=r.mono s1;have n0:H0 l=none:=R1.same.free hl1;have sl:u5 H1 (upd H1 l (.lst [])):=v8 hl1
    have R2:SR X.K B H0 (j7 Z H1) (upd H1 l (.lst [])) (l::Z) (z8Z cap σ) (y1I cap ρ):=y0H hinj ((R1.vis' (fun _ _ h=>h)).more hl1 sl x5)
    have noL:∀{H':Hp} {σ':St} {ρ':z9} {o:HO},SR X.K B (upd H0 l o) (j7 Z H1) H' (l::Z) σ' ρ'->∀(j:Nat) (es:OC) a,ρ'[j]?=some (some es.cell)->σ'[j]?=some (some (.ref a))->a≠l:=fun r' j es a hj hs' z=>by
     obtain⟨a',xs,t1,_,_,t3,_⟩:=r'.own j es hj;rw[hs']at t1;cases t1;rw[z,x5]at t3;cases t3
    have R3:SR X.K B (upd H0 l (.lst [])) (j7 Z H1) (upd H1 l (.lst [])) (l::Z) (z8Z cap σ) (y1I cap ρ):=by
     refine R2.base x5 n0 fun j es a hj hs' z=>?_
     have rc:=y0H hinj R1;obtain⟨a',xs,t1,_,_,_,t4,_⟩:=rc.own j es hj;rw[hs']at t1;cases t1;rw[z,hl1]at t4;cases t4
    refine⟨fun i m σ' H' acc=>m=ds.length-i/\i≤ds.length/\acc.length≤i/\∃ρ' ys ws,SR X.K B (upd H0 l (.lst acc)) (j7 Z H1) H' (l::Z) σ' ρ'/\u7 X.K (j7 (l::Z) H') ys acc/\z30 h fe ρ' (ds.drop i)=some ws/\zs=ys++ws/\u7 X.K (j7 Z H1) [] [],
     ⟨_,rfl,Nat.zero_le _,Nat.le_refl _,y1I cap ρ,[],zs,R3,u7.nil,e,rfl,u7.nil⟩,?_⟩
    rintro i m σ' H' acc ⟨rfl,hi',hal,ρ',ys,ws,r',ry,e',ez,_⟩
    have vis:u5 (j7 Z H1) H':=r'.vis.trans y4;have hacc:H' l=some (.lst acc):=r'.same l _ x5;by_cases hlt:i<ds.length
    ·refine .inr ⟨wk.go H' vis i hlt,y5Y (Nat.le_trans hal (Nat.le_trans hi' hl)),fun x H3 hy=>?_⟩
     obtain⟨sH,hx⟩:=wk.yld H' vis i x H3 hy;have hd:=hx ds[i] (List.getElem?_eq_getElem hlt) (l::Z) r'.zs r'.vis;have r':=r'.mono sH;have ry:=ry.mono (y3 sH);rw[List.drop_eq_getElem_cons hlt]at e';unfold z30 at e';split at e'
     ·cases e'
     ·rename_i ρ1 e1
      refine⟨ρ',ds[i],ρ1,B,upd H0 l (.lst acc),j7 (l::Z) H3,l::Z,e1,r'.vis' (fun _ _ h=>h),hd,fun σ4 r4=>x4Z ?_⟩
      split at e'
      ·rename_i y ρ2 ey;split at e'
       ·rename_i yy eyy
        cases e'
        refine⟨ρ1,y,ρ2,B,upd H0 l (.lst acc),j7 (l::Z) H3,l::Z,ey,r4,fun v H6 r6 rv=>⟨r6.same l _ x5,ds.length-(i+1),by omega,rfl,hlt,?_,ρ2,ys++[y],yy,?_,?_,eyy,by rw[ez];simp,u7.nil⟩⟩
        ·rw[List.length_append];simpa using hal
        ·have R6:=(r6.vis' (r'.vis.trans r6.vis)).unbase n0;have vs:u5 (j7 (l::Z) H6) (j7 (l::Z) (upd H6 l (.lst (acc++[v])))):=z23 List.mem_cons_self;have na:=noL (r6.vis' (V1:=j7 Z H1) (r'.vis.trans r6.vis))
         have R7:SR X.K B H0 (j7 Z H1) (upd H6 l (.lst (acc++[v]))) (l::Z) σ4 ρ2:=by
          refine⟨z5C n0 R6.same,R6.tb.upd (r6.same l _ x5) (fun _ z=>by cases z),R6.vis.trans vs,R6.sub,fun z hz=>?_,fun j d hj=>let ⟨u,t1,t2⟩:=R6.sh j d hj;⟨u,t1,t2.mono vs⟩,fun j es hj=>?_,R6.inj,R6.len⟩
          ·by_cases ez':z=l
           ·subst ez';exact⟨_,x5⟩
           ·obtain⟨o',ho'⟩:=R6.zs z hz
            exact⟨o',by rw[v9 ez'];exact ho'⟩
          ·obtain⟨a,xs,t1,t2,tb,t3,t4,t5⟩:=R6.own j es hj
           exact⟨a,xs,t1,t2,tb,t3,by rw[v9 (na j es a hj t1)];exact t4,t5.mono vs⟩
         exact R7.base x5 n0 na
        ·exact u7.append ((ry.mono r6.vis).mono (z23 List.mem_cons_self)) (u7.one (rv.mono (z23 List.mem_cons_self)))
       ·cases e'
      ·cases e'
    ·have ei:i=ds.length:=by omega
     subst ei;rw[List.drop_length]at e';unfold z30 at e'
     cases e'
     rw[List.append_nil]at ez;subst ez;have r0:=r'.unbase n0
     exact .inl ⟨wk.stop H' vis,q l acc H' r0.same (SqL.of hacc) (ry.mono (z12 fun b hb=>List.mem_cons_of_mem _ (r.sub b hb))) fun b hb=>r0.zs b (r0.sub b hb)⟩
   ·cases e
  ·cases e
theorem y3W{a:Expr}{p pos2:Pos}{f:z9->Option (List D)}(hm:X.mg "tuple" = none)(h:SL X a f)(hg:Gl X "tuple":=by rfl)(he:starEach [a] X.env=(false,eval a X.env)::starEach [] X.env:=by exact y2 rfl)(hpl:(backTo pos2 (starEach [] X.env)).any (·.1)=false:=by exact x6 rfl)(hv:bootBuiltins "tuple" = some (.type "tuple"):=by decide +kernel) :
  SS X (.Return (some (.Call (.Name "tuple" p) [a] [] pos2)) pos) (z14 (z4F f)) :=
 z1A (x4L (z1O z5S hg hm hv (J9 h W4 he) (by decide) (by decide) he hpl)) fun E σ H ⟨ρ,o,B,H0,V0,Z,e,r,q⟩=>by
  unfold z14 z4F at e
  cases ef:f ρ with
  | none=>rw[ef]at e;cases e
  | some ds =>
   rw[ef]at e;cases e
   refine⟨ρ,ds,B,H0,V0,Z,ef,r,fun n xs H1 s1 hq rr hB=>⟨n,xs,rfl,.inl ⟨hq,fun l hl=>?_⟩⟩⟩
   have sn:=v8 (o:=HO.tup xs) hl;refine q _ _ (s1.trans sn) (v4.mpr ⟨l,xs,rfl,SqT.of ?_,rr.mono (y3 sn)⟩)
   rw[Q6 (fun z=>by obtain⟨u,hu⟩:=hB l z;rw[hl]at hu;cases hu)]
   exact x5
end
section
variable{X:Cx}{pos p p2 pos2:Pos}{a b c e tg:Expr}{fa fb fc f:z9->Option D}
theorem w0Q{w1 w2:TI}(h1:PI X tg e w1)(h2:PI X tg e w2):PI X tg e (fun σ H R=>w1 σ H R∨w2 σ H R):=fun pins s σ H R I h=>by
 rcases h with h|h
 ·exact h1 pins s σ H R I h
 ·exact h2 pins s σ H R I h
theorem x9J(h:SE X e f):SI X tg e (dSq f):=z4S (w0Q (x9K h) (x9I h)) fun σ H R ⟨ρ,ds,B,H0,V0,Z,e,r,q⟩=>by
 unfold dSq at e;split at e
 ·rename_i es he;cases e
  exact .inl ⟨ρ,_,B,H0,V0,Z,by unfold W9;rw[he],r,q⟩
 ·rename_i es he;cases e
  exact .inr ⟨ρ,_,B,H0,V0,Z,by unfold x15;rw[he],r,q⟩
 ·cases e
theorem w2D(hu:X.A.units<cLine)(ha:SE X a fa)(hb:SE X b fb):STt X (.Compare a [.Lt] [b] pos) (x9 (d2 dLt fa fb)):=y1V (y0R.or (x4N hu)) (z4J.or z2H x4G) ha hb (z85 _)
theorem x2L{i:Nat}{x:Str}{p1 p2 p3:Pos}(h:SE X a fa)(hN:X.N[i]?=some x:=by rfl)(hv:Vis X.env.scope x:=by first|exact Or.inl rfl|exact Or.inr (Or.inl rfl)|exact Or.inr (Or.inr rfl))(hd:(x==("__debug__":Str))=false:=by decide)(hcd:(x==("__classdict__":Str))=false:=by decide)(hbase:attributeBase (.Name x p1) "pop" X.env (eval (.Name x p1) X.env)=eval (.Name x p1) X.env:=by rfl)
  (hfew:((backTo p3 (starEach [a] X.env)).all (fun x=>!x.1)&&(backToKw p3 (keywordEach [] X.env)).all (fun x=>x.1.isSome)
   && decide (([a]:List Expr).length+([]:List Keyword).length+(if ([]:List Keyword).isEmpty then 0 else 1)<30))=true:=by rfl)
  (hline:(p2.endLine==p3.line)=true:=by rfl) (hs:starEach [a] X.env=(false,eval a X.env)::starEach [] X.env:=by exact y2 rfl) (hplain:(backTo p3 (starEach [] X.env)).any (·.1)=false:=by exact x6 rfl) :
  SX X (.Call (.Attribute (.Name x p1) "pop" p2) [a] [] p3) (x85 i fa) :=
 x8Y (x35 PySem.F.plainAttrs_list PySem.F.slot_list_pop PySem.F.type_list_pop x3A (z82 hN hv hd hcd) (J9 h W4 hs) hbase hfew hline hs hplain)
end
theorem x3M{H:Hp}:j7 [] H=H:=by
 funext b
 unfold j7
 rw[if_neg (by simp)]
def dFn(n:Nat)(N:List Str)(g:z9->Option Out):List D->Option D:=fun ds=>if ds.length=n then z67 (g (z38 N ds)) else none
theorem w4J{P:Program}{w:World}{K:PySem.W.Frag}{mg:Str->Option Value}{base:Heap}{x:Str}{st:Stmt}{N ps:List Str}{k n:Nat}{g:z9->Option Out}(G:Stands K mg x st)(S:FnScope N ps (z7 st))(hb:∀(kV doc pm:Value) (an:Option Addr) (cdv ct:Value) (us:List Value),us.length=ps.length->bindArgs (PySem.W.fnOf x x (j8 st) (y8 st) (z7 st) .none kV doc pm an cdv ct) ⟨us,[]⟩=pure (ps.zip us))(hn:ps.length=n)
  (hbody:∀(f:Addr) (cdv:Value) (A:Around) (outer:List Env) (s:Shared) (H:Hp) (E:XK),Room k (A.deeper (envOfC x (z7 st) s.heap.objs.size f cdv)) ->
   SSs (z47 CX0 P w K mg base N x (z7 st) f cdv A outer s H E).nox (y8 st) g):FnD P w K mg base (k+1) x ps (dFn n N g) :=
 x0P G S (fun ds d e=>by
  unfold dFn at e;split at e
  ·rename_i h;rw[h,hn]
  ·cases e) (fun ds d e=>by
  unfold dFn at e;split at e
  ·exact e
  ·cases e) hb hbody
section
variable{prog:Program}{w:World}{A:Around}{E:Value->Shared->Prop}{s:Shared}
theorem y1R{it t:Addr}{i:Nat}{items:Array Value}{x:Value}{Q:Value->Shared->Prop}(hit:s.heap.IsTupleIter it t i)(ht:s.heap.IsTuple t items)(hx:items[i]?=some x)(hQ:∀h',h'.IsTupleIter it t (i+1)->Heap.SameBut it s.heap h'->Q x { s with heap:=h' }):wpAny (model prog w) A (Builtin.SmallTypes.nextOf (.ref it)) Q E s:=by
 rcases id hit with⟨ob,eo,ec,ed⟩
 rcases ht with⟨ot,et,_,nt,edt⟩
 unfold Builtin.SmallTypes.nextOf;refine wpAny_bind (wpAny_callSpecial?_slot (name:=Str.ofString "__next__") hit.typeIs F.slot_tuple_iterator_next (wpAny_call_entry F.slot_tuple_iterator_next hit.typeIs F.entry_tuple_iterator_next ?_ (F.args_tuple_iterator_next_1 _)))
 show wpAny _ _ (field (.ref it) 0 >>= _) _ _ s;refine wpAny_bind (wpAny_field eo ed (x:=.ref t) rfl ?_)
 show wpAny _ _ (if (Value.ref t==Value.none)=true then _ else _) _ _ s;rw[if_neg (show ¬((Value.ref t==Value.none)=true) from Bool.false_ne_true)]
 show wpAny _ _ (field (.ref it) 1 >>= _) _ _ s;refine wpAny_bind (wpAny_field eo ed (x:=.int i 0) rfl ?_)
 show wpAny _ _ (seqItems? (.ref t) >>= _) _ _ s;refine wpAny_bind (wpAny_seqItems et edt ?_)
 simp only[Int.toNat_natCast,hx]
 refine wpAny_bind (wpAny_setField eo ed (by simp) (wpAny_pure ⟨x,rfl,wpAny_pure (hQ _ ?_ (Heap.SameBut.update ..))⟩))
 exact⟨_,Heap.get?_update_self _ eo (Obj.isFreed_of_fields (Obj.data_mapFields ed _)),(Obj.cls_mapFields ..).trans ec,by rw[Obj.data_mapFields ed];simp[rawInt]⟩
theorem y3T{it t:Addr}{i:Nat}{items:Array Value}{Q:Value->Shared->Prop}(hh:A.handled=none)(hit:s.heap.IsTupleIter it t i)(ht:s.heap.IsTuple t items)(hx:items[i]?=none)(hE:∀h' e,Heap.ExtBut it s.heap h'->(∃o,h'.get? e=some o/\o.cls = .type "StopIteration")->E (.ref e) { s with heap:=h' }):wpAny (model prog w) A (Builtin.SmallTypes.nextOf (.ref it)) Q E s:=by
 rcases id hit with⟨ob,eo,ec,ed⟩
 rcases ht with⟨ot,et,_,nt,edt⟩
 unfold Builtin.SmallTypes.nextOf;refine wpAny_bind (wpAny_callSpecial?_slot (name:=Str.ofString "__next__") hit.typeIs F.slot_tuple_iterator_next (wpAny_call_entry F.slot_tuple_iterator_next hit.typeIs F.entry_tuple_iterator_next ?_ (F.args_tuple_iterator_next_1 _)))
 show wpAny _ _ (field (.ref it) 0 >>= _) _ _ s;refine wpAny_bind (wpAny_field eo ed (x:=.ref t) rfl ?_)
 show wpAny _ _ (if (Value.ref t==Value.none)=true then _ else _) _ _ s;rw[if_neg (show ¬((Value.ref t==Value.none)=true) from Bool.false_ne_true)]
 show wpAny _ _ (field (.ref it) 1 >>= _) _ _ s;refine wpAny_bind (wpAny_field eo ed (x:=.int i 0) rfl ?_)
 show wpAny _ _ (seqItems? (.ref t) >>= _) _ _ s;refine wpAny_bind (wpAny_seqItems et edt ?_)
 simp only[Int.toNat_natCast,hx]
 refine wpAny_bind (wpAny_rule (wpAny_bind (wpAny_setField eo ed (by simp) ?_)))
 show wpAny _ _ (newExc (.type "StopIteration") [] >>= _) _ _ _;refine wpAny_bind ?_
 simp only[newExc,newTuple];refine wpAny_bind (wpAny_newObj_type ?_ (by size_fits))
 refine wpAny_bind (m:=firstArgMember _ _) (wpAny_of_eq (a:=Value.none) (by first|rfl|(simp only[firstArgMember];rfl)) (wpAny_newObj_type ?_ (by size_fits)))
 simp only[raiseNew];refine wpAny_bind (wpAny_handled ?_)
 first|rw[show A.in1.handled=none from hh]|rw[hh]
 refine wpAny_bind (wpAny_pure (wpAny_throw ?_));exact hE _ _ (((Heap.SameBut.update ..).extBut.push _).push _) ⟨_,Heap.get?_push_size _ rfl,rfl⟩
theorem y4F(hh:A.handled=none)(it t:Addr)(hne:t≠it)(items:Array Value) :
  Draws prog w A it [it,t] items.size (fun i v=>items[i]?=some v) (fun i h=>h.IsTupleIter it t i/\h.IsTuple t items) where
 live:=fun _ _ st=>by obtain⟨⟨o,ho,_⟩,_⟩:=st;exact⟨o,ho⟩
 frame:=fun _ _ _ st hk=>by
  obtain⟨⟨o,ho,z⟩,⟨o2,ho2,z2⟩⟩:=st
  exact⟨⟨o,hk it (by simp) o ho,z⟩,⟨o2,hk t (by simp) o2 ho2,z2⟩⟩
 item:=fun i s Q E hi st hQ=>y1R st.1 st.2 (x:=items[i]) (by simp[hi]) fun h' a b=>hQ _ h' s.toks (by simp[hi]) ⟨a,st.2.extBut b.extBut hne⟩ b
 done:=fun s Q E st hE=>y3T hh st.1 st.2 (by simp) hE
theorem y4E(l:Addr)(items:Array Value)(n:Nat)(dct:Option Addr)(sl:Array (Option Value)) :
  Meets (Builtin.«enumerate.__new__» ⟨[.type "enumerate",.ref l],[]⟩) (fun _ R s=>s.heap.get? l=some { cls:=.type "tuple",dict:=dct,data:=.seq items n,slots:=sl } /\
   R (.ok (.ret (.ref (s.heap.push { cls:=.type "tuple_iterator",data:=.fields #[.ref l,.int 0 0] }).objs.size)))
    { s with heap:=(s.heap.push { cls:=.type "tuple_iterator",data:=.fields #[.ref l,.int 0 0] }).push { cls:=.type "enumerate",data:=.fields #[.none,.bool false,.ref s.heap.objs.size,rawInt 0,.none,.none] } }) :=
 .of_wp fun prog w A R s h=>by
  obtain⟨hp,g,d,tk,os⟩:=s;obtain⟨hl,h⟩:=h;have hsub:=sub_enumerate;have hL:Heap.IsTuple (Shared.heap ⟨hp,g,d,tk,os⟩) l items:=⟨_,hl,rfl,n,rfl⟩
  wp_walk using AutoSeq1.wpAny_loadPart' hl;refine wpAny_stack_any fun st=>wpAny_pure ?_
  split
  ·rename_i c _ _ _ _ _
   cases (c==Value.type "enumerate")<;>(wp_walk using AutoSeq1.wpAny_loadPart' hl,wpAny_pyIter_tuple hL;exact⟨_,rfl,h⟩)
  ·wp_walk using AutoSeq1.wpAny_loadPart' hl,wpAny_pyIter_tuple hL;exact⟨_,rfl,h⟩
theorem y17{l:Addr}{items:Array Value}{Q:Value->Shared->Prop}(hL:s.heap.IsTuple l items)(h:∀h',IsEnum h' (s.heap.objs.size+1) s.heap.objs.size 0 .none->h'.IsTupleIter s.heap.objs.size l 0->(∀b o,s.heap.get? b=some o->h'.get? b=some o)->Q (.ref (s.heap.objs.size+1)) { s with heap:=h' }) :
  wpAny (model prog w) A (call (.type "enumerate") [.ref l]) Q E s:=by
 rcases hL with⟨⟨c,dct,dt,sl⟩,hl,hc,n,hd⟩
 have hc':c = .type "tuple":=hc;have hd':dt = .seq items n:=hd
 subst hc' hd'
 refine callType_new F.called_enumerate (by decide) (F.typeCall_enumerate_1 _) (F.newCall_enumerate_1 _) (fun obj=>F.args_object_init_2 obj _) F.entry_enumerate_new (y4E l items n dct sl) ⟨hl,?_⟩
 have hz:(s.heap.push { cls:=.type "tuple_iterator",data:=.fields #[.ref l,.int 0 0] }).objs.size=s.heap.objs.size+1:=Heap.size_push ..
 have he:IsEnum ((s.heap.push { cls:=.type "tuple_iterator",data:=.fields #[.ref l,.int 0 0] }).push { cls:=.type "enumerate",data:=.fields #[.none,.bool false,.ref s.heap.objs.size,rawInt 0,.none,.none] }) (s.heap.objs.size+1) s.heap.objs.size 0 .none:=by
  have z:=Heap.get?_push_size (s.heap.push { cls:=.type "tuple_iterator",data:=.fields #[.ref l,.int 0 0] }) (o:={ cls:=.type "enumerate",data:=.fields #[.none,.bool false,.ref s.heap.objs.size,rawInt 0,.none,.none] }) rfl
  rwa [hz]at z
 show _/\_
 rw[hz]
 exact⟨⟨_,he,rfl⟩,h _ he ⟨_,Heap.get?_push_of_some _ (Heap.get?_push_size _ rfl),rfl,rfl⟩ fun b o x=>Heap.get?_push_of_some _ (Heap.get?_push_of_some _ x)⟩
end
theorem y7G{X:Cx}{pins:List (Addr×Obj)}{σ:St}{H:Hp}{s:Shared}{h':Heap}{t':Nat}{ch:List Addr}{a:Addr}{o:HO}(I:Inv X pins σ H s)(k:∀b ob,b∉ch->s.heap.get? b=some ob->h'.get? b=some ob)(hf:∀b∈ch,y88 X pins H b)(ha:s.heap.objs.size≤a)(new:z0W X.prog X.w (upd H a o) h' a o):Inv X pins σ (upd H a o) { s with heap:=h',toks:=t' }:=by
 have hn:H a=none:=I.hok.fresh ha
 have lt:∀b ob,s.heap.get? b=some ob->b≠a:=fun b ob e=>Nat.ne_of_lt (Nat.lt_of_lt_of_le (Heap.lt_size e) ha)
 have nch:∀b u,H b=some u->b∉ch:=fun b u e z=>by
  have:=(hf b z).1
  rw[e]at this;cases this
 refine I.call (g':=s.gens) (d':=s.drawn) (ch:=ch) ⟨fun b ob e n _ hx=>k b ob hx e,fun b ob e n _ hx=>⟨ob.slots,k b ob hx e⟩,fun b ob e n _=>by rw[v9 (lt b ob e)];exact n,fun b ob e hx=>⟨ob,k b ob hx e⟩,
  fun b xs e=>by rw[v9 (K7 e hn)];exact e,fun b ob u e=>by rw[v9 (K7 e hn)];exact e,fun b ps e=>⟨#[],by rw[v9 (K7 e hn),e];simp⟩⟩ (fun b u e=>?_) I.bare fun b hb=>?_
 ·by_cases hb:b=a
  ·subst hb;rw[x5]at e;cases e;exact new
  ·rw[v9 hb]at e
   refine (I.hok b u e).stay (fun c v hc q=>k c v ?_ q) (fun c q=>by rw[v9 (K7 q hn)];exact q) (fun c xs q=>by rw[v9 (K7 q hn)];exact q) fun c ob xs q=>by rw[v9 (K7 q hn)];exact q
   rcases hc with z|z
   ·rw[z];exact nch b u e
   ·exact nch c _ z
 ·obtain⟨_,f1,_,f3,f5,f6⟩:=hf b hb
  exact⟨f3,f1,f5,f6⟩
def Ite(Sq:Hp->List V->Prop):It :=
 ⟨fun i H=>∃xs x,Sq H xs/\xs[i]?=some x,fun i H x H'=>∃p y,H p=none/\x = .ref p/\H'=upd H p (.tup [.int (i:Nat),y])/\∀xs,Sq H xs->xs[i]?=some y,fun i H=>∃xs,Sq H xs/\xs.length=i⟩
structure ESrc(P:Program)(w:World)(K:PySem.W.Frag)(a it:Addr)(Sq:Hp->List V->Prop)(Sr:Heap->Array Value->Prop)(It0:Nat->Heap->Prop):Prop where
 src:∀(X:Cx) pins σ H s,X.K=K->Inv X pins σ H s->∀xs,Sq H xs->∃its:List Value,Q4 xs its/\Sr s.heap its.toArray
 inj:∀(X:Cx) pins σ H s,X.K=K->Inv X pins σ H s->∀xs ys,Sq H xs->Sq H ys->xs=ys
 draw:∀(A:Around) (items:Array Value),A.handled=none->Draws P w A it [it,a] items.size (fun i v=>items[i]?=some v) (fun i h=>It0 i h/\Sr h items)
 obj:∀i h,It0 i h->∃o,h.get? it=some o/\∀v,o.data≠.cell v
 keep:∀i h h',It0 i h->(∀o,h.get? it=some o->h'.get? it=some o)->It0 i h'
 cls:∀h items,Sr h items->∃o,h.get? a=some o/\o.cls≠.type "enumerate"
theorem y1P{P:Program}{w:World}{K:PySem.W.Frag}{elts:List Expr}{x1:Nat}{tpos:Pos}{a it e:Addr}{Sq:Hp->List V->Prop}{Sr:Heap->Array Value->Prop}{It0:Nat->Heap->Prop}(D:ESrc P w K a it Sq Sr It0)(hei:e≠it) :
  Turn P w K (.Tuple elts x1 tpos) (Ite Sq) [e,it] e (fun i h=>(∃old,IsEnum h e it ((i:Nat):Int) old)/\It0 i h) where
 mem:=by simp
 obj:=fun i h st b hb=>by
  obtain⟨⟨old,he⟩,hi⟩:=st
  rcases List.mem_cons.mp hb with z|z
  ·subst z;exact⟨_,he,fun v q=>by cases q⟩
  ·rw[List.mem_singleton.mp z];exact D.obj i h hi
 keep:=fun i h h' st k=>by
  obtain⟨⟨old,he⟩,hi⟩:=st
  exact⟨⟨old,k e (by simp) _ he⟩,D.keep i h h' hi fun o q=>k it (by simp) o q⟩
 item:=by
  intro X hP hw hK hc i pins s σ H E I hf st hg
  subst hP hw
  obtain⟨xs,x,hq,hx⟩:=hg;obtain⟨⟨old,he⟩,hi⟩:=st;obtain⟨its,rv,sr⟩:=D.src X pins σ H s hK I xs hq;obtain⟨u,hu,ru⟩:=rv.get hx
  have hlt:i<its.toArray.size:=by rw[List.size_toArray];exact (List.getElem?_eq_some_iff.mp hu).1
  have hea:e≠a:=fun z=>by
   obtain⟨o,h1,h2⟩:=D.cls _ _ sr;rw[←z,he]at h1;cases h1;exact h2 rfl
  have hef:e∉[it,a]:=by simp[hei,hea]
  have heL:e<s.heap.objs.size:=Heap.lt_size he;obtain⟨oi,hoi,_⟩:=D.obj i _ hi;have hiL:it<s.heap.objs.size:=Heap.lt_size hoi
  refine wpAny_pyNext_enum_itemD (D.draw X.A.in1 its.toArray (I.ok.hd hc)) he ⟨hi,sr⟩ hlt hei hef fun v h1 tk hv ho hs hT hz hk=>?_
  have ev:v=u:=by
   have:its.toArray[i]?=some v:=hv
   rw[show its.toArray[i]?=its[i]? by simp,hu]at this
   exact (Option.some.inj this).symm
  subst ev
  refine⟨_,rfl,wpAny_letOwnedTupleGo_enum ho fun h2 he2 hs2=>?_⟩
  have kk:∀b ob,b∉[e,it]->s.heap.get? b=some ob->h2.get? b=some ob:=fun b ob hb q=>by
   have n1:b≠e:=fun z=>hb (by simp[z])
   have n2:b≠it:=fun z=>hb (by simp[z])
   exact (hs2.2 b n1).trans (hk b ob n1 n2 q)
  have hT2:h2.get? s.heap.objs.size=some { cls:=.type "tuple",data:=.seq #[.int i tk,v] }:=(hs2.2 _ (Nat.ne_of_gt heL)).trans hT
  refine⟨.ref s.heap.objs.size,upd H s.heap.objs.size (.tup [.int (i:Nat),x]),y7G (s:=s) (t':=tk+1) I kk hf (Nat.le_refl _) ⟨by rw[sizeLine_eq];simp,[.int i tk,v],.cons ⟨tk,rfl⟩ (.cons ru .nil),⟨_,hT2,rfl,⟨_,rfl⟩,rfl⟩⟩,rfl,⟨_,x,I.fresh,rfl,rfl,fun ys hy=>by rw[D.inj X pins σ H s hK I ys xs hy hq];exact hx⟩,⟨⟨v,?_⟩,?_⟩,fun b hb=>?_⟩
  ·have:(((i+1:Nat):Nat):Int)=(i:Int)+1:=by omega
   rw[this];exact he2
  ·exact D.keep _ _ _ hs.1 fun o q=>(hs2.2 it (Ne.symm hei)).trans q
  ·have hb':b<s.heap.objs.size:=by
    rcases List.mem_cons.mp hb with z|z
    ·rw[z];exact heL
    ·rw[List.mem_singleton.mp z];exact hiL
   rw[v9 (Nat.ne_of_lt hb')];exact (hf b hb).1
 done:=by
  intro X hP hw hK hc i pins s σ H E I hf st hg
  subst hP hw
  obtain⟨xs,hq,hx⟩:=hg;obtain⟨⟨old,he⟩,hi⟩:=st;obtain⟨its,rv,sr⟩:=D.src X pins σ H s hK I xs hq
  have hn:i=its.toArray.size:=by rw[List.size_toArray,←rv.length,hx]
  obtain⟨f0,f1,f2,f3,f4,f5⟩:=hf it (by simp)
  refine wpAny_pyNext_enum_endD (D.draw X.A.in1 its.toArray (I.ok.hd hc)) he ⟨hn▸hi,sr⟩ fun h' eb=>⟨rfl,I.turned (t':=s.toks) (fun b o hb q=>eb b o hb q) f0 f1 f3 f4 f5⟩
 self:=fun _ _ _ _ _ st h=>by
  obtain⟨⟨old,he⟩,_⟩:=st;exact wpAny_pyIter_enum he h
theorem x0Y{P:Program}{w:World}{K:PySem.W.Frag}{a it:Addr}(hne:a≠it):ESrc P w K a it (fun H xs=>SqL K H a xs) (fun h items=>h.IsList a items) (fun i h=>h.IsListIter it a i) where
 src:=fun X pins σ H s hK I xs hq=>by
  subst hK;obtain⟨its,rv,p,_⟩:=I.list hq
  exact⟨its,rv,p.isList⟩
 inj:=fun X pins σ H s hK I xs ys h1 h2=>by subst hK;exact I.list_inj h1 h2
 draw:=fun A items hh=>Draws.list hh it a hne items
 obj:=fun i h st=>by
  obtain⟨o,e,c,d⟩:=st
  exact⟨o,e,fun v z=>by rw[d]at z;cases z⟩
 keep:=fun i h h' st k=>by
  obtain⟨o,e,z⟩:=st
  exact⟨o,k o e,z⟩
 cls:=fun h items st=>by
  obtain⟨o,e,c,_⟩:=st
  exact⟨o,e,by rw[c];decide⟩
theorem x3U{P:Program}{w:World}{K:PySem.W.Frag}{a it:Addr}(hne:a≠it):ESrc P w K a it (fun H xs=>SqT K H a xs) (fun h items=>h.IsTuple a items) (fun i h=>h.IsTupleIter it a i) where
 src:=fun X pins σ H s hK I xs hq=>by
  subst hK;obtain⟨its,rv,p,_⟩:=I.tuple hq
  exact⟨its,rv,p⟩
 inj:=fun X pins σ H s hK I xs ys h1 h2=>by subst hK;exact I.tuple_inj h1 h2
 draw:=fun A items hh=>y4F hh it a hne items
 obj:=fun i h st=>by
  obtain⟨o,e,c,d⟩:=st
  exact⟨o,e,fun v z=>by rw[d]at z;cases z⟩
 keep:=fun i h h' st k=>by
  obtain⟨o,e,z⟩:=st
  exact⟨o,k o e,z⟩
 cls:=fun h items st=>by
  obtain⟨o,e,c,_⟩:=st
  exact⟨o,e,by rw[c];decide⟩
section
variable{X:Cx}{elts:List Expr}{x1:Nat}{tpos pos p:Pos}{a:Expr}{f:z9->Option D}
def w4G(K:PySem.W.Frag)(ta:TA):TI:=fun σ H R=>ta σ H fun vs H1=>∃a,vs=[.ref a]/\(∃xs,SqL K H1 a xs)/\R (Ite fun H xs=>SqL K H a xs) H1
def w4F(K:PySem.W.Frag)(ta:TA):TI:=fun σ H R=>ta σ H fun vs H1=>∃a,vs=[.ref a]/\(∃xs,SqT K H1 a xs)/\R (Ite fun H xs=>SqT K H a xs) H1
theorem w0S{ta:TA}(hg:Gl X "enumerate")(hm:X.mg "enumerate" = none)(ha:PA X [a] ta)(hv:bootBuiltins "enumerate" = some (.type "enumerate"))(he:starEach [a] X.env=(false,eval a X.env)::starEach [] X.env)(hpl:(backTo pos (starEach [] X.env)).any (·.1)=false):PI X (.Tuple elts x1 tpos) (.Call (.Name "enumerate" p) [a] [] pos) (w4G X.K ta):=by
 intro pins s σ H R I h
 refine Call_ (z3N I hg hm hv (PyProof.Rows.callWith_type1 (thn (ha pos pins s σ H _ I h) fun us s1 ⟨vs,H1,I1,r1,l,ev,⟨xs,hq⟩,q1⟩=>?_) he hpl))
 subst ev;obtain⟨u,rfl,ru⟩:=z3D r1;cases ru;obtain⟨its,rv,pl,_⟩:=I1.list hq
 refine call_enumerate_list pl.isList fun h' e1 e2 hz kk=>wpAny_pyIter_enum e1 ?_
 have I2:Inv X pins σ H1 { s1 with heap:=h' }:=I1.kept (t':=s1.toks) kk
 have hll:l<s1.heap.objs.size:=by obtain⟨o,e,_⟩:=pl.isList;exact Heap.lt_size e
 refine⟨s1.heap.objs.size+1,[s1.heap.objs.size+1,s1.heap.objs.size],_,_,H1,rfl,I2,y1P (x0Y (Nat.ne_of_lt hll)) (Nat.succ_ne_self _),⟨⟨_,e1⟩,e2⟩,fun b hb=>?_,q1⟩
 have hb':s1.heap.objs.size≤b:=by
  rcases List.mem_cons.mp hb with z|z
  ·rw[z];exact Nat.le_succ _
  ·rw[List.mem_singleton.mp z];exact Nat.le_refl _
 exact I1.fpOk hb' (I1.hok.fresh hb')
theorem w0R{ta:TA}(hg:Gl X "enumerate")(hm:X.mg "enumerate" = none)(ha:PA X [a] ta)(hv:bootBuiltins "enumerate" = some (.type "enumerate"))(he:starEach [a] X.env=(false,eval a X.env)::starEach [] X.env)(hpl:(backTo pos (starEach [] X.env)).any (·.1)=false):PI X (.Tuple elts x1 tpos) (.Call (.Name "enumerate" p) [a] [] pos) (w4F X.K ta):=by
 intro pins s σ H R I h
 refine Call_ (z3N I hg hm hv (PyProof.Rows.callWith_type1 (thn (ha pos pins s σ H _ I h) fun us s1 ⟨vs,H1,I1,r1,l,ev,⟨xs,hq⟩,q1⟩=>?_) he hpl))
 subst ev;obtain⟨u,rfl,ru⟩:=z3D r1;cases ru;obtain⟨its,rv,pl,_⟩:=I1.tuple hq
 refine y17 (show s1.heap.IsTuple l its.toArray from pl) fun h' e1 e2 kk=>wpAny_pyIter_enum e1 ?_
 have I2:Inv X pins σ H1 { s1 with heap:=h' }:=I1.kept (t':=s1.toks) kk
 have hll:l<s1.heap.objs.size:=by obtain⟨o,e,_⟩:=id pl;exact Heap.lt_size e
 refine⟨s1.heap.objs.size+1,[s1.heap.objs.size+1,s1.heap.objs.size],_,_,H1,rfl,I2,y1P (x3U (Nat.ne_of_lt hll)) (Nat.succ_ne_self _),⟨⟨_,e1⟩,e2⟩,fun b hb=>?_,q1⟩
 have hb':s1.heap.objs.size≤b:=by
  rcases List.mem_cons.mp hb with z|z
  ·rw[z];exact Nat.le_succ _
  ·rw[List.mem_singleton.mp z];exact Nat.le_refl _
 exact I1.fpOk hb' (I1.hok.fresh hb')
def z13:Nat->List D->List D
 | _,[]=>[]
 | k,d::ds=>.tup [.int (k:Int),d]::z13 (k+1) ds
theorem z8D:∀(ds:List D) (k i:Nat),(z13 k ds)[i]?=(ds[i]?).map fun d=>.tup [.int ((k+i:Nat):Int),d]
 | [],k,i=>by simp[z13]
 | d::ds,k,0=>by simp[z13]
 | d::ds,k,i+1=>by
  rw[z13,List.getElem?_cons_succ,z8D ds (k+1) i,List.getElem?_cons_succ,show k+1+i=k+(i+1) by omega]
theorem z3P:∀(ds:List D) (k:Nat),(z13 k ds).length=ds.length
 | [],_=>rfl
 | d::ds,k=>by rw[z13,List.length_cons,List.length_cons,z3P ds]
theorem y1N{K:PySem.W.Frag}{W0:Hp}{Sq:Hp->List V->Prop}{xs:List V}{ds:List D}(h1:∀H',u5 W0 H'->Sq H' xs)(h2:u7 K W0 ds xs):Walk K W0 (Ite Sq) (z13 0 ds) where
 go:=fun H' s i hi=>by
  rw[z3P]at hi;obtain⟨v,hv,_⟩:=h2.get (List.getElem?_eq_getElem hi)
  exact⟨xs,v,h1 H' s,hv⟩
 yld:=fun H' s i x H3 hy=>by
  obtain⟨p,y,hp,rfl,rfl,hx⟩:=hy
  refine⟨v8 hp,fun d hd Z hz hs=>?_⟩
  rw[z8D]at hd
  cases e:ds[i]? with
  | none=>rw[e]at hd;cases hd
  | some d0 =>
   rw[e]at hd;cases hd;obtain⟨v,hv,rv⟩:=h2.get e
   have:=hx xs (h1 H' s)
   rw[hv]at this
   obtain rfl:=Option.some.inj this
   have sn:=v8 (o:=HO.tup [.int (i:Nat),v]) hp
   refine v4.mpr ⟨p,[.int (i:Nat),v],rfl,SqT.of ?_,u7.cons (x4.mpr (by simp)) (u7.one ((rv.mono hs).mono (y3 sn)))⟩
   rw[Q6 (y5S hz hp)];exact x5
 stop:=fun H' s=>⟨xs,h1 H' s,by rw[z3P,h2.length]⟩
def y2Z(f:z9->Option D):z9->Option (List D):=fun ρ=>match f ρ with|some (.lst ds)=>some (z13 0 ds)|some (.tup ds)=>some (z13 0 ds)|_=>none
theorem x5X(hm:X.mg "enumerate" = none)(h:SE X a f)(hg:Gl X "enumerate":=by rfl)(hv:bootBuiltins "enumerate" = some (.type "enumerate"):=by decide +kernel)(he:starEach [a] X.env=(false,eval a X.env)::starEach [] X.env:=by exact y2 rfl)(hpl:(backTo pos (starEach [] X.env)).any (·.1)=false:=by exact x6 rfl) :
  SI X (.Tuple elts x1 tpos) (.Call (.Name "enumerate" p) [a] [] pos) (y2Z f) :=
 z4S (w0Q (w0S hg hm (J9 h W4 he) hv he hpl) (w0R hg hm (J9 h W4 he) hv he hpl)) fun σ H R ⟨ρ,ds,B,H0,V0,Z,e,r,q⟩=>by
  unfold y2Z at e;split at e
  ·rename_i es he;cases e
   refine .inl ⟨ρ,_,B,H0,V0,Z,he,r,fun v H' s rr=>?_⟩
   obtain⟨l,xs,rfl,h1,h2⟩:=j1.mp rr
   exact⟨l,rfl,⟨xs,y4.seq h1⟩,q _ H' s (y1N (fun H'' s''=>s''.seq h1) h2)⟩
  ·rename_i es he;cases e
   refine .inr ⟨ρ,_,B,H0,V0,Z,he,r,fun v H' s rr=>?_⟩
   obtain⟨l,xs,rfl,h1,h2⟩:=v4.mp rr
   exact⟨l,rfl,⟨xs,v3 y4 h1⟩,q _ H' s (y1N (fun H'' s''=>v3 s'' h1) h2)⟩
  ·cases e
end
end L3
namespace L2
open PySem PySem.Spec PyProof.Rows
section
variable{κ:Type}[DecidableEq κ]
def y6P(kvs:List (κ×V))(k:κ):Option V:=(kvs.find? fun kv=>decide (kv.1=k)).map (·.2)
def y41(kvs:List (κ×V))(k:κ)(v:V):List (κ×V) :=
 if (kvs.any fun kv=>decide (kv.1=k))=true then kvs.map (fun kv=>if kv.1=k then (kv.1,v) else kv) else kvs++[(k,v)]
theorem z7I{p:κ×V}{r:List (κ×V)}{k:κ}(e:p.1=k):y6P (p::r) k=some p.2:=by simp[y6P,List.find?_cons,e]
theorem z7J{p:κ×V}{r:List (κ×V)}{k:κ}(e:¬p.1=k):y6P (p::r) k=y6P r k:=by simp[y6P,List.find?_cons,e]
theorem y54(k:κ):∀kvs:List (κ×V),(kvs.any fun kv=>decide (kv.1=k))=(y6P kvs k).isSome
 | []=>rfl
 | p::r=>by
  rw[List.any_cons];by_cases e:p.1=k
  ·simp only[z7I e,decide_eq_true e,Bool.true_or,Option.isSome_some]
  ·rw[z7J e,decide_eq_false e,Bool.false_or];exact y54 k r
theorem z88(kvs:List (κ×V))(k:κ)(v:V):(y41 kvs k v).length≤kvs.length+1:=by
 unfold y41;split
 ·rw[List.length_map];omega
 ·rw[List.length_append,List.length_cons,List.length_nil];omega
theorem y87.isSome_eq{o:Option V}{u:Option Value}(r:y87 o u):o.isSome=u.isSome:=by
 cases o with
 | none=>cases u with
  | none=>rfl
  | some _=>exact (show False from r).elim
 | some _=>cases u with
  | none=>exact (show False from r).elim
  | some _=>rfl
theorem y87.getD{o:Option V}{u:Option Value}{d:V}{d':Value}(r:y87 o u)(rd:W3 d d'):W3 (o.getD d) (u.getD d'):=by
 cases o with
 | none=>cases u with
  | none=>exact rd
  | some _=>exact (show False from r).elim
 | some _=>cases u with
  | none=>exact (show False from r).elim
  | some _=>exact r
theorem KV.val{kvs:List (κ×V)}{vs:List (κ×Value)}(r:KV kvs vs)(k:κ):y87 (y6P kvs k) (valueAt vs k):=by
 unfold KV at r
 induction r with
 | nil=>exact True.intro
 | @cons p q ps qs h t ih =>
  obtain⟨h1,h2⟩:=h;by_cases e:p.1=k
  ·have e':q.1=k:=h1.symm.trans e
   have b:valueAt (q::qs) k=some q.2:=by simp[valueAt,List.find?_cons,e']
   rw[z7I e,b];exact h2
  ·have e':¬q.1=k:=fun z=>e (h1.trans z)
   have b:valueAt (q::qs) k=valueAt qs k:=by simp[valueAt,List.find?_cons,e']
   rw[z7J e,b];exact ih
theorem KV.any{kvs:List (κ×V)}{vs:List (κ×Value)}(r:KV kvs vs)(k:κ):(kvs.any fun kv=>decide (kv.1=k))=vs.any fun kv=>decide (kv.1=k):=by
 unfold KV at r
 induction r with
 | nil=>rfl
 | cons h t ih=>rw[List.any_cons,List.any_cons,ih,h.1]
theorem KV.repl{kvs:List (κ×V)}{vs:List (κ×Value)}(r:KV kvs vs)(k:κ){y:V}{u:Value}(ry:W3 y u) :
  KV (kvs.map fun kv=>if kv.1=k then (kv.1,y) else kv) (vs.map fun kv=>if kv.1=k then (kv.1,u) else kv):=by
 unfold KV at r ⊢
 induction r with
 | nil=>exact .nil
 | @cons p q ps qs h t ih =>
  rw[List.map_cons,List.map_cons];refine .cons ?_ ih;obtain⟨h1,h2⟩:=h;by_cases e:p.1=k
  ·rw[if_pos e,if_pos (h1.symm.trans e)];exact⟨h1,ry⟩
  ·rw[if_neg e,if_neg (fun z=>e (h1.trans z))];exact⟨h1,h2⟩
theorem KV.put{kvs:List (κ×V)}{vs:List (κ×Value)}(r:KV kvs vs)(k:κ){y:V}{u:Value}(ry:W3 y u):KV (y41 kvs k y) (stored vs k u):=by
 unfold y41 stored;rw[r.any k]
 by_cases e:(vs.any fun kv=>decide (kv.1=k))=true
 ·rw[if_pos e,if_pos e];exact r.repl k ry
 ·rw[if_neg e,if_neg e];exact Paired.snoc r ⟨rfl,ry⟩
theorem KV.length{kvs:List (κ×V)}{vs:List (κ×Value)}(r:KV kvs vs):kvs.length=vs.length:=Paired.length r
end
theorem x7O{P:Program}{w:World}{k:Key}{u:Value}(r:W3 (kV k) u):(z0K P w).is k u=true:=by
 cases k with
 | inl i=>obtain⟨t,e⟩:=(show ∃t,u=Value.int i t from r);subst e;exact y48 P w i t
 | inr x=>obtain⟨t,e⟩:=(show ∃t,u=Value.str x t from r);subst e;exact y47 P w x t
theorem y2O{P:Program}{w:World}:∀{ks:List Key} {us:List Value},Q4 (ks.map kV) us->ItemsAre (z0K P w) ks us
 | [],_,r=>by rw[List.map_nil]at r;cases r;exact .nil
 | k::ks,_,r=>by
  rw[List.map_cons]at r
  cases r with
  | cons h t=>exact .cons (x7O h) (y2O t)
abbrev KT(H:Hp):List (List Key×V)->List (List Key×Addr×Value)->Prop:=Paired fun p q=>p.1=q.1/\H q.2.1=some (.tup (p.1.map kV))/\W3 p.2 q.2.2
theorem KT.val{H:Hp}{kvs:List (List Key×V)}{xs:List (List Key×Addr×Value)}(r:KT H kvs xs)(k:List Key):y87 (y6P kvs k) ((atKey xs k).map (·.2)):=by
 induction r with
 | nil=>exact True.intro
 | @cons p q ps qs h t ih =>
  obtain⟨h1,_,h2⟩:=h;by_cases e:p.1=k
  ·have e':q.1=k:=h1.symm.trans e
   have b:atKey (q::qs) k=some q.2:=by simp[atKey,List.find?_cons,e']
   rw[z7I e,b];exact h2
  ·have e':¬q.1=k:=fun z=>e (h1.trans z)
   have b:atKey (q::qs) k=atKey qs k:=by simp[atKey,List.find?_cons,e']
   rw[z7J e,b];exact ih
theorem KT.repl{H:Hp}{kvs:List (List Key×V)}{xs:List (List Key×Addr×Value)}(r:KT H kvs xs)(k:List Key){y:V}{u:Value}(ry:W3 y u) :
  KT H (kvs.map fun kv=>if kv.1=k then (kv.1,y) else kv) (xs.map (putAt k u)):=by
 induction r with
 | nil=>exact .nil
 | @cons p q ps qs h t ih =>
  rw[List.map_cons,List.map_cons];refine .cons ?_ ih;obtain⟨h1,h2,h3⟩:=h;unfold putAt;by_cases e:p.1=k
  ·rw[if_pos e,if_pos (h1.symm.trans e)];exact⟨h1,h2,ry⟩
  ·rw[if_neg e,if_neg (fun z=>e (h1.trans z))];exact⟨h1,h2,h3⟩
theorem KT.put{H:Hp}{kvs:List (List Key×V)}{xs:List (List Key×Addr×Value)}(r:KT H kvs xs)(k:List Key){b:Addr}{y:V}{u:Value}(hb:H b=some (.tup (k.map kV)))(ry:W3 y u) :
  KT H (y41 kvs k y) (storedH xs k b u):=by
 have e:(kvs.any fun kv=>decide (kv.1=k))=(atKey xs k).isSome:=by
  rw[y54,(r.val k).isSome_eq,Option.isSome_map]
 unfold y41 storedH;rw[e];by_cases q:(atKey xs k).isSome=true
 ·rw[if_pos q,if_pos q];exact r.repl k ry
 ·rw[if_neg q,if_neg q];exact Paired.snoc r ⟨rfl,hb,ry⟩
theorem KT.keeps{H H':Hp}{kvs:List (List Key×V)}{xs:List (List Key×Addr×Value)}(r:KT H kvs xs)(ht:∀b ys,H b=some (.tup ys)->H' b=some (.tup ys)):KT H' kvs xs :=
 Paired.mapP r fun _ _ z=>⟨z.1,ht _ _ z.2.1,z.2.2⟩
section
variable{P:Program}{w:World}{H:Hp}{h:Heap}{a:Addr}
theorem w07{u:HO}(ok:HOk P w H h)(e:Rd H a u):z0W P w H h a u:=e.ok ok
theorem x82{kvs:List (Key×V)}(ok:HOk P w H h)(e:Rd H a (.dK kvs)):kvs.length≤sizeLine/\(a==sysModules)=false/\∃vs,KV kvs vs/\h.DictOf (z0K P w) a vs :=
 show z0W P w H h a (.dK kvs) from w07 ok e
theorem w3C{kvs:List (Key×V)}(ok:HOk P w H h)(e:H a=some (.dK kvs)):kvs.length≤sizeLine/\(a==sysModules)=false/\∃vs,KV kvs vs/\h.DictOf (z0K P w) a vs:=x82 ok (.inl e)
theorem x0D{ks:List Key}(ok:HOk P w H h)(e:H a=some (.tup (ks.map kV))):(tupleKind (z0K P w)).is h ks a:=by
 obtain⟨_,its,r,o,h1,h2,⟨n,h3⟩,_⟩:=(show z0W P w H h a (.tup (ks.map kV)) from ok a _ e)
 exact⟨o,its.toArray,n,h1,h2,h3,by simpa using y2O r⟩
theorem x81{kvs:List (List Key×V)}(ok:HOk P w H h)(e:Rd H a (.dT kvs)):kvs.length≤sizeLine/\(a==sysModules)=false /\
  ∃xs,KT H kvs xs/\h.DictOfH (tupleKind (z0K P w)) a xs:=by
 obtain⟨z,y,xs,r,o,es,ep,h1,h2,h3,h4,h5⟩:=(show z0W P w H h a (.dT kvs) from w07 ok e)
 refine⟨z,y,xs,r,o,es,ep,h1,h2,h3,h4,fun x hx=>?_,h5⟩
 have all:∀{l:List (List Key×V)} {m:List (List Key×Addr×Value)},KT H l m->∀x∈m,(tupleKind (z0K P w)).is h x.1 x.2.1:=by
  intro l m q
  induction q with
  | nil=>intro x hx;exact nomatch hx
  | @cons p q ps qs hq t ih =>
   intro x hx
   rcases List.mem_cons.mp hx with e|hx
   ·subst e
    exact x0D ok (by rw[←hq.1];exact hq.2.1)
   ·exact ih x hx
 exact all r x hx
theorem w3B{kvs:List (List Key×V)}(ok:HOk P w H h)(e:H a=some (.dT kvs)):kvs.length≤sizeLine/\(a==sysModules)=false /\
  ∃xs,KT H kvs xs/\h.DictOfH (tupleKind (z0K P w)) a xs:=x81 ok (.inl e)
end
def x58(H:Hp)(a:Addr)(y:V)(r:Option V):Prop :=
 (∃kvs k,Rd H a (.dK kvs)/\y=kV k/\r=y6P kvs k)∨∃kvs k b,Rd H a (.dT kvs)/\y = .ref b/\H b=some (.tup (k.map kV))/\r=y6P kvs k
def x8H(H:Hp)(a:Addr)(y v:V)(H':Hp):Prop :=
 (∃kvs k,H a=some (.dK kvs)/\y=kV k/\kvs.length<sizeLine/\H'=upd H a (.dK (y41 kvs k v))) ∨
 ∃kvs k b,H a=some (.dT kvs)/\y = .ref b/\H b=some (.tup (k.map kV))/\kvs.length<sizeLine/\H'=upd H a (.dT (y41 kvs k v))
theorem x58.k{H:Hp}{a:Addr}{kvs:List (Key×V)}{k:Key}(e:H a=some (.dK kvs)):x58 H a (kV k) (y6P kvs k):=.inl ⟨kvs,k,.inl e,rfl,rfl⟩
theorem x58.t{H:Hp}{a b:Addr}{kvs:List (List Key×V)}{k:List Key}(e:H a=some (.dT kvs))(eb:H b=some (.tup (k.map kV))):x58 H a (.ref b) (y6P kvs k):=.inr ⟨kvs,k,b,.inl e,rfl,eb,rfl⟩
theorem x8H.k{H:Hp}{a:Addr}{kvs:List (Key×V)}{k:Key}{v:V}(e:H a=some (.dK kvs))(hl:kvs.length<sizeLine):x8H H a (kV k) v (upd H a (.dK (y41 kvs k v))):=.inl ⟨kvs,k,e,rfl,hl,rfl⟩
theorem x8H.t{H:Hp}{a b:Addr}{kvs:List (List Key×V)}{k:List Key}{v:V}(e:H a=some (.dT kvs))(eb:H b=some (.tup (k.map kV)))(hl:kvs.length<sizeLine) :
  x8H H a (.ref b) v (upd H a (.dT (y41 kvs k v))):=.inr ⟨kvs,k,b,e,rfl,eb,hl,rfl⟩
section
variable{X:Cx}{pins:List (Addr×Obj)}{σ:St}{H:Hp}{s:Shared}{a:Addr}{y v:V}{u r:Value}{o:Option V}{A:Around}{E:Value->Shared->Prop}
theorem Inv.big(I:Inv X pins σ H s):sysModules<s.heap.objs.size:=by
 have h:mainGlobals<s.heap.objs.size:=(I.mod.glob.keeps I.bk).lt
 exact Nat.lt_trans (by decide) h
theorem x13{Q:Value->Shared->Prop}(hu:A.units+1<cLine)(I:Inv X pins σ H s)(g:x58 H a y (some v))(ry:W3 y u)(h:∀w' s',Inv X pins σ H s'->W3 v w'->Q w' s') :
  wpAny (model X.prog X.w) A (getItem (.ref a) u) Q E s:=by
 rcases g with⟨kvs,k,e,ey,l⟩|⟨kvs,k,b,e,ey,eb,l⟩
 ·subst ey;obtain⟨z,hd,vs,rel,dd⟩:=x82 I.hok e
  obtain⟨w',hw,rw'⟩:=y87.some_of (v:=v) (o:=valueAt vs k) (by rw[l];exact rel.val k)
  exact wpAny_getItem_of (x7O ry) dd.mapOf hw (h w' _ (I.tok _) rw')
 ·subst ey
  cases (show u=Value.ref b from ry)
  obtain⟨z,hd,xs,rel,dd⟩:=x81 I.hok e
  obtain⟨w',hw,rw'⟩:=y87.some_of (v:=v) (o:=(atKey xs k).map (·.2)) (by rw[l];exact rel.val k)
  obtain⟨p,hp,hp2⟩:=Option.map_eq_some_iff.mp hw;refine wpAny_getItem_heap (tupleKind_room_in1 hu) (x0D I.hok eb) dd hp ?_;rw[hp2];exact h w' _ (I.tok _) rw'
theorem x11{h':Heap}{t':Nat}{ob:HO}(I:Inv X pins σ H s)(mu:Mut (H a))(hs:Heap.SameBut a s.heap h')(he:∃q,h'.get? a=some q)(new:z0W X.prog X.w (upd H a ob) h' a ob) :
  Inv X pins σ (upd H a ob) { s with heap:=h',toks:=t' } :=
 I.write (x:=a) (e:=a) mu (.inl rfl) (fun b q hb z=>(hs.2 b hb).trans z) he new
theorem w1T{P:Program}{w:World}{H':Hp}{h':Heap}{kvs:List (Key×V)}{vs:List (Key×Value)}(z:kvs.length≤sizeLine)(hd:(a==sysModules)=false)(rel:KV kvs vs)(dd:h'.DictOf (z0K P w) a vs) :
  z0W P w H' h' a (.dK kvs):=⟨z,hd,vs,rel,dd⟩
theorem x12{H':Hp}{Q:Unit->Shared->Prop}(hu:A.units+1<cLine)(I:Inv X pins σ H s)(g:x8H H a y v H')(ry:W3 y u)(rv:W3 v r)(h:∀s',Inv X pins σ H' s'->Q () s') :
  wpAny (model X.prog X.w) A (setItem (.ref a) u r) Q E s:=by
 rcases g with⟨kvs,k,e,ey,l,eH⟩|⟨kvs,k,b,e,ey,eb,l,eH⟩
 ·subst ey eH
  obtain⟨z,hd,vs,rel,dd⟩:=w3C I.hok e
  have hz:vs.length≤sizeLine:=by rw[←rel.length];exact z
  have hl:(y41 kvs k v).length≤sizeLine:=by have:=z88 kvs k v;omega
  refine wpAny_setItem_pairs (hsz:=hz) (x7O ry) dd fun h' dd' hs=>h _ ?_
  have he:∃q,h'.get? a=some q:=let ⟨q,_,_,hq,_⟩:=dd';⟨q,hq⟩
  exact x11 I (by rw[e];exact True.intro) hs he (w1T hl hd (rel.put k rv) dd')
 ·subst ey eH
  cases (show u=Value.ref b from ry)
  obtain⟨z,hd,xs,rel,dd⟩:=w3B I.hok e
  have hz:xs.length≤sizeLine:=by rw[←Paired.length rel];exact z
  have hl:(y41 kvs k v).length≤sizeLine:=by have:=z88 kvs k v;omega
  refine wpAny_setItem_heap (hsz:=hz) (tupleKind_room_in1 hu) (x0D I.hok eb) dd fun h' dd' hs=>h _ ?_
  obtain⟨q,es,ep,hq,h2,h3,h4,_,h5⟩:=dd'
  refine x11 I (by rw[e];exact True.intro) hs ⟨q,hq⟩ ⟨hl,hd,_,(rel.put k eb rv).keeps fun c ys ec=>?_,q,es,ep,hq,h2,h3,h4,h5⟩
  rw[v9 (w33 ec e (fun z=>nomatch z))]
  exact ec
end
def x8M(i:Expr):Prop:=∀ov iv,subscripted i false ov iv=operate [ov,iv] (getItem ov iv)
theorem y8U{prog:Program}{w:World}{A:Around}{E:Value->Shared->Prop}{s:Shared}{env:Env}{value slice:Expr}{pos:Pos}{T id:String}{Q:Value->Shared->Prop}(hl:typeLookup (.type T) "__getitem__" = pure (some (.builtin id)))(hs:x8M slice)(h:wpAny (model prog w) A (eval value env) (fun o s₁=>wpAny (model prog w) A (eval slice env) (fun i s₂=>s₂.TypeIs o T/\wpAny (model prog w) A (getItem o i) Q E s₂) E s₁) E s) :
  wpAny (model prog w) A (eval (.Subscript value slice pos) env) Q E s:=by
 refine Subscript_ (wpAny_mono h (fun o s₁ h₁=>wpAny_mono h₁ (fun i s₂ h₂=>?_) fun _ _ x=>x) fun _ _ x=>x)
 obtain⟨hT,h₂⟩:=h₂;unfold subscriptTail;refine wpAny_bind ?_;rw[getitemInPython_of_ne hT.not_modules];refine wpAny_bind (wpAny_specialOf hT hl ?_)
 have fin:wpAny (model prog w) A (subscripted slice false o i) (fun r s₃=>wpAny (model prog w) A (letTemporaryGo value o r >>= fun _=>pure r) Q E s₃) E s₂:=by
  rw[hs o i]
  exact wpAny_operating (wpAny_mono h₂ (fun r s₃ h₃=>wpAny_bind (wpAny_letTemporaryGo (wpAny_pure h₃))) fun _ _ x=>x)
 first
  | exact wpAny_pure (wpAny_bind fin)
  | exact wpAny_bind (wpAny_pure (wpAny_bind fin))
  | exact wpAny_bind fin
theorem y4G{X:Cx}{pins:List (Addr×Obj)}{σ:St}{H:Hp}{s:Shared}{a:Addr}{y:V}{o:Option V}(I:Inv X pins σ H s)(g:x58 H a y o):s.TypeIs (.ref a) "dict":=by
 rcases g with⟨kvs,k,e,_,_⟩|⟨kvs,k,b,e,_,_,_⟩
 ·obtain⟨_,_,vs,_,dd⟩:=x82 I.hok e;exact dd.typeIs
 ·obtain⟨_,_,xs,_,dd⟩:=x81 I.hok e;exact dd.typeIs
def w28(td ty:TE):TE:=fun σ H Q=>td σ H fun x H1=>ty σ H1 fun y H2=>∃a v,x = .ref a/\x58 H2 a y (some v)/\Q v H2
def w2O(td ty tv:TE):TS:=fun D σ H=>tv σ H fun v H1=>td σ H1 fun x H2=>ty σ H2 fun y H3=>∃a H4,x = .ref a/\x8H H3 a y v H4/\D.nx σ H4
section
variable{X:Cx}{o i e value:Expr}{pos pos' tpos:Pos}{td ty tv:TE}
theorem x70(hu:X.A.units+1<cLine)(ho:PE X o td)(hi:PE X i ty)(hs:x8M i):PE X (.Subscript o i pos) (w28 td ty):=by
 intro pins s σ H Q I h
 refine y8U PySem.F.slot_dict_getitem.lookup hs (thn (ho pins s σ H _ I h) fun u s1 ⟨x,H1,I1,rx,q1⟩=>thn (hi pins s1 σ H1 _ I1 q1) fun iv s2 ⟨y,H2,I2,ry,a,v,ex,g,q2⟩=>?_)
 subst ex
 obtain rfl:u=Value.ref a:=rx
 exact⟨y4G I2 g,x13 hu I2 g ry fun w' s3 I3 rw'=>⟨v,H2,I3,rw',q2⟩⟩
theorem x6R(hu:X.A.units+1<cLine)(ho:PE X o td)(hi:PE X i ty)(hv:PE X value tv)(hs:swapsWith value (some (.Subscript o i pos')) pos.line X.env=pure false) :
  PS X (.Assign [.Subscript o i pos'] value pos) (w2O td ty tv):=by
 intro pins s σ H D I h
 refine wpAny_Assign_Subscript (thn (hv pins s σ H _ I h) fun r s1 ⟨v,H1,I1,rv,q1⟩=>thn (ho pins s1 σ H1 _ I1 q1) fun u s2 ⟨x,H2,I2,rx,q2⟩=>thn (hi pins s2 σ H2 _ I2 q2) fun iv s3 ⟨y,H3,I3,ry,a,H4,ex,g,q3⟩=>?_) hs
 subst ex
 obtain rfl:u=Value.ref a:=rx
 exact x12 hu I3 g ry rv fun s4 I4=>⟨σ,H4,I4,q3⟩
end
theorem x3V{P:Program}{w:World}{H:Hp}(h:Heap)(hb:sysModules<h.objs.size):z0W P w H (h.push { cls:=.type "dict",data:=.dict #[] }) h.objs.size (.dK []) :=
 ⟨Nat.zero_le _,beq_eq_false_iff_ne.mpr (Ne.symm (Nat.ne_of_lt hb)),[],.nil,Heap.DictOf.new h⟩
def x8X:TE:=fun _ H Q=>∀p,H p=none->Q (.ref p) (upd H p (.dK []))
section
variable{X:Cx}{pos:Pos}
theorem x33:PE X (.Dict [] [] pos) x8X:=fun pins s σ H Q I h =>
 wpAny_Dict_empty ⟨.ref s.heap.objs.size,_,I.laid (a:=s.heap.objs.size) (o:=.dK []) (t':=s.toks) (fun _ _ q=>Heap.get?_push_of_some _ q) (Nat.le_refl _) (x3V s.heap I.big),rfl,h _ (I.hok.fresh (Nat.le_refl _))⟩
end
end L2
namespace L3
open PySem PySem.Spec PyProof.Rows L2 PySem.SeqAt
def w34:D->Option Key
 | .int i=>some (.inl i)
 | .str x=>some (.inr x)
 | _=>none
def y49:List Key->List D->Key->Option D
 | k::ks,v::vs,j=>if k=j then some v else y49 ks vs j
 | _,_,_=>none
def y74:List Key->List D->Key->D->List Key×List D
 | k::ks,v::vs,j,d=>if k=j then (k::ks,d::vs) else (k::(y74 ks vs j d).1,v::(y74 ks vs j d).2)
 | _,_,j,d=>([j],[d])
def x8I:List (Key×V)->Key->V->List (Key×V)
 | [],j,d=>[(j,d)]
 | p::r,j,d=>if p.1=j then (p.1,d)::r else p::x8I r j d
theorem y26(j:Key)(d:V):∀kvs:List (Key×V),(kvs.map (·.1)).Nodup->y41 kvs j d=x8I kvs j d
 | [],_=>rfl
 | p::r,hn=>by
  rw[List.map_cons,List.nodup_cons]at hn;have ih:=y26 j d r hn.2;unfold x8I;by_cases e:p.1=j
  ·rw[if_pos e];unfold y41
   have ha:((p::r).any fun kv=>decide (kv.1=j))=true:=by rw[List.any_cons,decide_eq_true e,Bool.true_or]
   rw[if_pos ha,List.map_cons,if_pos e]
   congr 1
   have:∀kv∈r,(if kv.1=j then (kv.1,d) else kv)=kv:=fun kv hkv=>if_neg fun z=>hn.1 (by rw[e,←z];exact List.mem_map_of_mem hkv)
   exact (List.map_congr_left this).trans (List.map_id _)
  ·rw[if_neg e,←ih];unfold y41;rw[List.any_cons,decide_eq_false e,Bool.false_or]
   by_cases h:(r.any fun kv=>decide (kv.1=j))=true
   ·rw[if_pos h,if_pos h,List.map_cons,if_neg e]
   ·rw[if_neg h,if_neg h];rfl
section
variable{K:PySem.W.Frag}{H:Hp}
theorem y5X:∀{kvs:List (Key×V)} {vs:List D} {j:Key} {d:D},u7 K H vs (kvs.map (·.2))->y49 (kvs.map (·.1)) vs j=some d->∃v,y6P kvs j=some v/\Rep K H d v
 | [],vs,j,d,_,e=>by cases vs<;>cases e
 | p::r,vs,j,d,h,e=>by
  cases vs with
  | nil=>cases e
  | cons x xs =>
   obtain⟨v,ws,e1,h1,h2⟩:=v7.mp h;rw[List.map_cons]at e1;cases e1;rw[List.map_cons]at e;unfold y49 at e;by_cases z:p.1=j
   ·rw[if_pos z]at e;cases e
    exact⟨_,z7I z,h1⟩
   ·rw[if_neg z]at e;obtain⟨v,q1,q2⟩:=y5X h2 e
    exact⟨v,by rw[z7J z];exact q1,q2⟩
theorem y9C:∀{kvs:List (Key×V)} {vs:List D} {j:Key} {d:D} {v:V},u7 K H vs (kvs.map (·.2))->Rep K H d v->(x8I kvs j v).map (·.1)=(y74 (kvs.map (·.1)) vs j d).1/\u7 K H (y74 (kvs.map (·.1)) vs j d).2 ((x8I kvs j v).map (·.2))
 | [],vs,j,d,v,h,hd=>by
  obtain rfl:vs=[]:=by cases vs with|nil=>rfl|cons _ _=>obtain⟨_,_,e,_⟩:=v7.mp h;cases e
  exact⟨rfl,u7.one hd⟩
 | p::r,vs,j,d,v,h,hd=>by
  cases vs with
  | nil=>cases g7.mp h
  | cons x xs =>
   obtain⟨y,ws,e1,h1,h2⟩:=v7.mp h;rw[List.map_cons]at e1;cases e1;rw[List.map_cons];unfold x8I y74;by_cases z:p.1=j
   ·rw[if_pos z,if_pos z]
    exact⟨rfl,u7.cons hd h2⟩
   ·rw[if_neg z,if_neg z];obtain⟨q1,q2⟩:=y9C (j:=j) (d:=d) (v:=v) h2 hd
    exact⟨by rw[List.map_cons,q1],u7.cons h1 q2⟩
end
theorem y66{K:PySem.W.Frag}{H:Hp}{d:D}{k:Key}{v:V}(e:w34 d=some k)(h:Rep K H d v):v=kV k:=by
 cases d with
 | int i=>cases e;exact x4.mp h
 | str x=>cases e;exact Q7.mp h
 | _=>cases e
section
variable{X:Cx}{a b e o:Expr}{pos pos' p:Pos}{f fa fb:z9->Option D}
theorem x60:SFD X (.Dict [] [] pos) (fun _=>some ([],[])):=v5 x33 fun σ H Q ⟨ρ,ds,B,H0,V0,Z,e,r,q⟩ p hp=>by
 cases e;exact q p [] _ (v8 hp) hp x5 rfl u7.nil
def y4J(fa fb:z9->Option D):z9->Option D:=fun ρ=>match fa ρ with
 | some (.dct ks vs)=>(match fb ρ with|some kd=>(match w34 kd with|some k=>y49 ks vs k|none=>none)|none=>none)
 | _=>none
theorem x6D(hu:X.A.units+64<cLine)(ho:SE X o fa)(hi:SE X a fb)(hs:x8M a:=by exact fun _ _=>rfl):SE X (.Subscript o a pos) (y4J fa fb) :=
 v5 (x70 (by omega) ho hi hs) fun σ H Q ⟨ρ,d,B,H0,V0,Z,e,r,q⟩=>by
  unfold y4J at e;split at e
  ·rename_i ks vs ed;split at e
   ·rename_i kd ek;split at e
    ·rename_i k hk
     refine⟨ρ,_,B,H0,V0,Z,ed,r,fun x H1 s1 r1=>⟨ρ,kd,B,H0,V0,Z,ek,r.mono s1,fun y H2 s2 r2=>?_⟩⟩
     obtain⟨n,kvs,rfl,h1,h2,h3⟩:=z0V.mp (r1.mono (y3 s2));subst h2;obtain⟨v,q1,q2⟩:=y5X h3 e
     obtain rfl:=y66 hk r2
     refine⟨n,v,rfl,?_,q v H2 (s1.trans s2) q2⟩
     rw[←q1];exact x58.k (z2K h1).2
    ·cases e
   ·cases e
  ·cases e
def x86(i:Nat):z9->Option (List Key×List D):=fun ρ=>match ρ[i]? with|some (some (.od ks vs))=>some (ks,vs)|_=>none
theorem y02{i:Nat}{ρ:z9}{d:List Key×List D}(e:x86 i ρ=some d):ρ[i]?=some (some (.od d.1 d.2)):=by
 unfold x86 at e;split at e
 ·rename_i h;cases e;exact h
 ·cases e
def x84(i:Nat)(fk fv:z9->Option D):z9->Option Out:=fun ρ=>match fv ρ with
 | some v=>(match x86 i ρ with
  | some d=>(match fk ρ with
   | some kd=>(match w34 kd with|some k=>if d.1.Nodup/\d.1.length<LIM then some (.nx (ρ.set i (some (.od (y74 d.1 d.2 k v).1 (y74 d.1 d.2 k v).2)))) else none|none=>none)
   | none=>none)
  | none=>none)
 | none=>none
theorem x98{i:Nat}{x:Str}(hu:X.A.units+64<cLine)(hi:SE X a fb)(hv':SE X b fa)(hN:X.N[i]?=some x:=by rfl)(hv:Vis X.env.scope x:=by first|exact Or.inl rfl|exact Or.inr (Or.inl rfl)|exact Or.inr (Or.inr rfl))(hd:(x==("__debug__":Str))=false:=by decide)(hcd:(x==("__classdict__":Str))=false:=by decide)(hs:swapsWith b (some (.Subscript (.Name x p) a pos')) pos.line X.env=pure false:=by rfl):SS X (.Assign [.Subscript (.Name x p) a pos'] b pos) (x84 i fb fa) :=
 z1A (x6R (by omega) (z82 hN hv hd hcd) hi hv' hs) fun E σ H ⟨ρ,o,B,H0,V0,Z,e,r,q⟩=>by
  unfold x84 at e;split at e
  ·rename_i v ev;split at e
   ·rename_i dd ed;split at e
    ·rename_i kd ek;split at e
     ·rename_i k hk;split at e
      ·rename_i hz;cases e;obtain⟨n,kvs,h1,h2,hb,h3,h4,h5,h6⟩:=r.od i dd.1 dd.2 (y02 ed)
       refine⟨ρ,v,B,H0,V0,Z,ev,r,fun y H1 s1 r1=>⟨.ref n,h1,ρ,kd,B,H0,V0,Z,ek,r.mono s1,fun z H2 s2 r2=>?_⟩⟩
       obtain rfl:=y66 hk r2
       have hlen:kvs.length<sizeLine:=by
        have:kvs.length=dd.1.length:=by rw[←h5,List.length_map]
        rw[this];exact y5Y (Nat.le_of_lt hz.2)
       refine⟨n,_,rfl,x8H.k (s2 _ _ (s1 _ _ h4)) hlen,?_⟩
       rw[y26 k y kvs (by rw[h5];exact hz.1)]
       have R2:=(r.mono s1).mono s2;obtain⟨p1,p2⟩:=y9C (j:=k) (h6.mono (y3 (s1.trans s2))) (r1.mono (y3 s2));rw[h5]at p1 p2;exact q σ _ Z (R2.updC (c:=.d dd.1 dd.2) (e:=.d (y74 dd.1 dd.2 k v).1 (y74 dd.1 dd.2 k v).2) (y02 ed) h1 ⟨_,rfl,p1,p2⟩)
      ·cases e
     ·cases e
    ·cases e
   ·cases e
  ·cases e
end
section
variable{prog:Program}{w:World}{A:Around}{E:Value->Shared->Prop}{s:Shared}{R:Result->Shared->Prop}
def Kp(it S:Addr)(h h':Heap):Prop:=∀b o,b≠it->b≠S->h.get? b=some o->h'.get? b=some o
theorem Kp.trans{it S:Addr}{h h1 h2:Heap}(a:Kp it S h h1)(b:Kp it S h1 h2):Kp it S h h2:=fun c o n1 n2 e=>b c o n1 n2 (a c o n1 n2 e)
theorem x01{it T S:Addr}{u v x:Value}{c:Nat}(hh:A.handled=none)(hit:s.heap.IsTupleIter it T 2)(ht:s.heap.IsTuple T #[u,v])(hne:S≠it)(hS:s.heap.get? S=some { cls:=.type "list",dict:=none,data:=.seq #[x,x] c,slots:=#[] })(hR:∀h',Kp it S s.heap h'->R (.ok (.ret x)) { s with heap:=h' }):codeAny (model prog w) A (.builtin "max.loop" ⟨[.ref it,.none,.ref S],[]⟩) R s:=by
 refine codeAny_builtin F.entry_max_loop ?_;rw[Around.under_plainId F.plain_max_loop _]
 show wpAny _ A.in1 (seqItems? (.ref S) >>= _) _ _ s;refine wpAny_bind (wpAny_seqItems hS rfl ?_)
 show wpAny _ A.in1 (tryCatch (pyNext (.ref it)) _ >>= _) _ _ s;refine wpAny_bind (wpAny_tryCatch (wpAny_pyNext_tuple_end hh hit ht (by simp) fun h1 k1=>?_))
 have hS1:=k1 S _ hne hS
 show wpAny _ A.in1 (updateSeq S (fun _=>#[]) >>= _) _ _ _;refine wpAny_bind (wpAny_updateSeq hS1 rfl (wpAny_bind (wpAny_letGo (wpAny_pure (hR _ fun b o n1 n2 e=>?_)))))
 exact (Heap.get?_update_other _ _ (Ne.symm n2)).trans (k1 b o n1 e)
theorem x7H{it T S:Addr}{u v:Value}{c:Nat}{bb:Bool}(hh:A.handled=none)(hit:s.heap.IsTupleIter it T 1)(ht:s.heap.IsTuple T #[u,v])(hne:S≠it)(hTi:T≠it)(hTS:T≠S)(hS:s.heap.get? S=some { cls:=.type "list",dict:=none,data:=.seq #[u,u] c,slots:=#[] })(hc:∀h' (Q:Value->Shared->Prop) (E:Value->Shared->Prop),Kp it S s.heap h'->Q (.bool bb) { s with heap:=h' }->wpAny (model prog w) A.in1 (richCompare .Gt v u) Q E { s with heap:=h' })(hR:∀h',Kp it S s.heap h'->R (.ok (.ret (if bb=true then v else u))) { s with heap:=h' }):codeAny (model prog w) A (.builtin "max.loop" ⟨[.ref it,.none,.ref S],[]⟩) R s:=by
 have hname:(toString "max"++toString ".loop":String) = "max.loop":=by decide
 refine codeAny_builtin F.entry_max_loop ?_;rw[Around.under_plainId F.plain_max_loop _]
 show wpAny _ A.in1 (seqItems? (.ref S) >>= _) _ _ s;refine wpAny_bind (wpAny_seqItems hS rfl ?_)
 show wpAny _ A.in1 (tryCatch (pyNext (.ref it)) _ >>= _) _ _ s;refine wpAny_bind (wpAny_tryCatch (wpAny_pyNext_tuple_item hit ht (x:=v) (by simp) fun h1 i1 k1=>?_))
 have kp1:Kp it S s.heap h1:=fun b o n1 _ e=>(k1.2 b n1).trans e
 have hS1:=(k1.2 S hne).trans hS;have hT1:h1.IsTuple T #[u,v]:=ht.extBut k1.extBut hTi
 show wpAny _ A.in1 (tryCatch (holding [v,v] (richCompare .Gt v u >>= _)) _ >>= _) _ _ _;refine wpAny_bind (wpAny_tryCatch (wpAny_holding (wpAny_bind (hc h1 _ _ kp1 ?_))))
 refine wpAny_bind (wpAny_holding (wpAny_truthy_bool (wpAny_bind (wpAny_letGo (wpAny_pure ?_)))))
 cases bb with
 | true =>
  simp only[if_true];refine wpAny_bind (wpAny_updateSeq hS1 rfl (wpAny_bind (wpAny_letGo ?_)));rw[hname]
  refine wpAny_pure ⟨plainId_quiet F.plain_max_loop _,x01 (u:=u) (v:=v) (T:=T) hh ?_ ?_ hne (Heap.get?_update_self _ hS1 rfl) fun h2 k2=>hR h2 (kp1.trans (Kp.trans (fun b o n1 n2 e=>(Heap.get?_update_other _ _ (Ne.symm n2)).trans e) k2))⟩
  ·obtain⟨o,e,z⟩:=i1;exact⟨o,(Heap.get?_update_other _ _ hne).trans e,z⟩
  ·obtain⟨o,e,z⟩:=hT1;exact⟨o,(Heap.get?_update_other _ _ (Ne.symm hTS)).trans e,z⟩
 | false =>
  simp only[Bool.false_eq_true,if_false];refine wpAny_bind (wpAny_letGo ?_);rw[hname]
  exact wpAny_pure ⟨plainId_quiet F.plain_max_loop _,x01 (u:=u) (v:=v) hh i1 hT1 hne hS1 fun h2 k2=>hR h2 (kp1.trans k2)⟩
theorem x7I{it T S:Addr}{u v:Value}{c:Nat}{bb:Bool}(hh:A.handled=none)(hit:s.heap.IsTupleIter it T 0)(ht:s.heap.IsTuple T #[u,v])(hne:S≠it)(hTi:T≠it)(hTS:T≠S)(hS:s.heap.get? S=some { cls:=.type "list",dict:=none,data:=.seq #[] c,slots:=#[] })(hc:∀h' (Q:Value->Shared->Prop) (E:Value->Shared->Prop),Kp it S s.heap h'->Q (.bool bb) { s with heap:=h' }->wpAny (model prog w) A.in1 (richCompare .Gt v u) Q E { s with heap:=h' })(hR:∀h',Kp it S s.heap h'->R (.ok (.ret (if bb=true then v else u))) { s with heap:=h' }):codeAny (model prog w) A (.builtin "max.loop" ⟨[.ref it,.none,.ref S],[]⟩) R s:=by
 have hname:(toString "max"++toString ".loop":String) = "max.loop":=by decide
 refine codeAny_builtin F.entry_max_loop ?_;rw[Around.under_plainId F.plain_max_loop _]
 show wpAny _ A.in1 (seqItems? (.ref S) >>= _) _ _ s;refine wpAny_bind (wpAny_seqItems hS rfl ?_)
 show wpAny _ A.in1 (tryCatch (pyNext (.ref it)) _ >>= _) _ _ s;refine wpAny_bind (wpAny_tryCatch (wpAny_pyNext_tuple_item hit ht (x:=u) (by simp) fun h1 i1 k1=>?_))
 have kp1:Kp it S s.heap h1:=fun b o n1 _ e=>(k1.2 b n1).trans e
 have hS1:=(k1.2 S hne).trans hS;have hT1:h1.IsTuple T #[u,v]:=ht.extBut k1.extBut hTi
 show wpAny _ A.in1 (updateSeq S (fun _=>#[u,u]) >>= _) _ _ _;refine wpAny_bind (wpAny_updateSeq hS1 rfl ?_)
 rw[hname]
 have ku:Kp it S h1 _:=fun b o n1 n2 e=>(Heap.get?_update_other h1 (Obj.mapSeq fun _=>#[u,u]) (Ne.symm n2)).trans e
 refine wpAny_pure ⟨plainId_quiet F.plain_max_loop _,x7H (u:=u) (v:=v) (T:=T) (bb:=bb) hh ?_ ?_ hne hTi hTS (Heap.get?_update_self _ hS1 rfl) (fun h' Q E k q=>hc h' Q E (kp1.trans (ku.trans k)) q) fun h2 k2=>hR h2 (kp1.trans (ku.trans k2))⟩
 ·obtain⟨o,e,z⟩:=i1;exact⟨o,(Heap.get?_update_other _ _ hne).trans e,z⟩
 ·obtain⟨o,e,z⟩:=hT1;exact⟨o,(Heap.get?_update_other _ _ (Ne.symm hTS)).trans e,z⟩
theorem x7G{u v:Value}{bb:Bool}{Q:Value->Shared->Prop}(hh:A.handled=none)(hc:∀h' (Q:Value->Shared->Prop) (E:Value->Shared->Prop),(∀b o,s.heap.get? b=some o->h'.get? b=some o)->Q (.bool bb) { s with heap:=h' }->wpAny (model prog w) A.in1 (richCompare .Gt v u) Q E { s with heap:=h' })(hQ:∀h',(∀b o,s.heap.get? b=some o->h'.get? b=some o)->Q (if bb=true then v else u) { s with heap:=h' }):wpAny (model prog w) A (call (.builtin "max") [u,v]) Q E s:=by
 have hname:(toString "max"++toString ".loop":String) = "max.loop":=by decide
 refine call_function_tree F.kind_max F.plain_max F.entry_max (F.args_max2 _ _) ?_
 show wpAny _ A.in1 (Builtin.Builtins.bindParams "max" ["key","default"] 0 ⟨[],[]⟩ >>= _) _ _ s;refine wpAny_bind (wpAny_of_eq (show Builtin.Builtins.bindParams "max" ["key","default"] 0 ⟨[],[]⟩=pure [none,none] from rfl) ?_)
 show wpAny _ A.in1 (newTuple [u,v] >>= _) _ _ s;refine wpAny_bind (wpAny_newObj_type ?_)
 generalize h1e:s.heap.push { cls:=Value.type "tuple",data:=Data.seq #[u,v] }=h1
 have k1:∀b o,s.heap.get? b=some o->h1.get? b=some o:=fun b o e=>by rw[←h1e];exact Heap.get?_push_of_some _ e
 have t1:h1.IsTuple s.heap.objs.size #[u,v]:=by rw[←h1e];exact⟨_,Heap.get?_push_size _ rfl,rfl,_,rfl⟩
 have z1:h1.objs.size=s.heap.objs.size+1:=by rw[←h1e,Heap.size_push]
 refine wpAny_bind (wpAny_pyIter_tuple (s:={ s with heap:=h1 }) t1 (wpAny_bind (wpAny_newObj_type ?_)))
 generalize h2e:(h1.push { cls:=Value.type "tuple_iterator",data:=Data.fields #[.ref s.heap.objs.size,.int 0 0] })=h2
 have k2:∀b o,h1.get? b=some o->h2.get? b=some o:=fun b o e=>by rw[←h2e];exact Heap.get?_push_of_some _ e
 have i2:h2.IsTupleIter h1.objs.size s.heap.objs.size 0:=by rw[←h2e];exact⟨_,Heap.get?_push_size _ rfl,rfl,rfl⟩
 have z2:h2.objs.size=h1.objs.size+1:=by rw[←h2e,Heap.size_push]
 rw[hname]
 have hs0:s.heap.objs.size<h1.objs.size:=by rw[z1];exact Nat.lt_succ_self _
 have hs1:h1.objs.size<h2.objs.size:=by rw[z2];exact Nat.lt_succ_self _
 have k3:∀b o,h2.get? b=some o->(h2.push { cls:=Value.type "list",data:=Data.seq ([]:List Value).toArray }).get? b=some o:=fun b o e=>Heap.get?_push_of_some _ e
 have all:∀{h'},Kp h1.objs.size h2.objs.size (h2.push { cls:=Value.type "list",data:=Data.seq ([]:List Value).toArray }) h'->∀b o,s.heap.get? b=some o->h'.get? b=some o:=fun {h'} k b o e =>
  k b o (Nat.ne_of_lt (Nat.lt_trans (Heap.lt_size e) hs0)) (Nat.ne_of_lt (Nat.lt_trans (Heap.lt_size e) (Nat.lt_trans hs0 hs1))) (k3 b o (k2 b o (k1 b o e)))
 refine wpAny_pure ⟨plainId_quiet F.plain_max_loop _,x7I (u:=u) (v:=v) (T:=s.heap.objs.size) (bb:=bb) (s:={ s with heap:=h2.push { cls:=Value.type "list",data:=Data.seq ([]:List Value).toArray } }) hh ?_ ?_ (Nat.ne_of_gt hs1) (Nat.ne_of_lt hs0) (Nat.ne_of_lt (Nat.lt_trans hs0 hs1)) (Heap.get?_push_size _ rfl) (fun h' Q E k q=>hc h' Q E (all k) q) fun h' k=>hQ h' (all k)⟩
 ·obtain⟨o,e,z⟩:=i2;exact⟨o,k3 _ _ e,z⟩
 ·obtain⟨o,e,z⟩:=t1;exact⟨o,k3 _ _ (k2 _ _ e),z⟩
theorem y9Y{it T S:Addr}{u v x:Value}{c:Nat}(hh:A.handled=none)(hit:s.heap.IsTupleIter it T 2)(ht:s.heap.IsTuple T #[u,v])(hne:S≠it)(hS:s.heap.get? S=some { cls:=.type "list",dict:=none,data:=.seq #[x,x] c,slots:=#[] })(hR:∀h',Kp it S s.heap h'->R (.ok (.ret x)) { s with heap:=h' }):codeAny (model prog w) A (.builtin "min.loop" ⟨[.ref it,.none,.ref S],[]⟩) R s:=by
 refine codeAny_builtin F.entry_min_loop ?_;rw[Around.under_plainId F.plain_min_loop _]
 show wpAny _ A.in1 (seqItems? (.ref S) >>= _) _ _ s;refine wpAny_bind (wpAny_seqItems hS rfl ?_)
 show wpAny _ A.in1 (tryCatch (pyNext (.ref it)) _ >>= _) _ _ s;refine wpAny_bind (wpAny_tryCatch (wpAny_pyNext_tuple_end hh hit ht (by simp) fun h1 k1=>?_))
 have hS1:=k1 S _ hne hS
 show wpAny _ A.in1 (updateSeq S (fun _=>#[]) >>= _) _ _ _;refine wpAny_bind (wpAny_updateSeq hS1 rfl (wpAny_bind (wpAny_letGo (wpAny_pure (hR _ fun b o n1 n2 e=>?_)))))
 exact (Heap.get?_update_other _ _ (Ne.symm n2)).trans (k1 b o n1 e)
theorem x7E{it T S:Addr}{u v:Value}{c:Nat}{bb:Bool}(hh:A.handled=none)(hit:s.heap.IsTupleIter it T 1)(ht:s.heap.IsTuple T #[u,v])(hne:S≠it)(hTi:T≠it)(hTS:T≠S)(hS:s.heap.get? S=some { cls:=.type "list",dict:=none,data:=.seq #[u,u] c,slots:=#[] })(hc:∀h' (Q:Value->Shared->Prop) (E:Value->Shared->Prop),Kp it S s.heap h'->Q (.bool bb) { s with heap:=h' }->wpAny (model prog w) A.in1 (richCompare .Lt v u) Q E { s with heap:=h' })(hR:∀h',Kp it S s.heap h'->R (.ok (.ret (if bb=true then v else u))) { s with heap:=h' }):codeAny (model prog w) A (.builtin "min.loop" ⟨[.ref it,.none,.ref S],[]⟩) R s:=by
 have hname:(toString "min"++toString ".loop":String) = "min.loop":=by decide
 refine codeAny_builtin F.entry_min_loop ?_;rw[Around.under_plainId F.plain_min_loop _]
 show wpAny _ A.in1 (seqItems? (.ref S) >>= _) _ _ s;refine wpAny_bind (wpAny_seqItems hS rfl ?_)
 show wpAny _ A.in1 (tryCatch (pyNext (.ref it)) _ >>= _) _ _ s;refine wpAny_bind (wpAny_tryCatch (wpAny_pyNext_tuple_item hit ht (x:=v) (by simp) fun h1 i1 k1=>?_))
 have kp1:Kp it S s.heap h1:=fun b o n1 _ e=>(k1.2 b n1).trans e
 have hS1:=(k1.2 S hne).trans hS;have hT1:h1.IsTuple T #[u,v]:=ht.extBut k1.extBut hTi
 show wpAny _ A.in1 (tryCatch (holding [v,v] (richCompare .Lt v u >>= _)) _ >>= _) _ _ _;refine wpAny_bind (wpAny_tryCatch (wpAny_holding (wpAny_bind (hc h1 _ _ kp1 ?_))))
 refine wpAny_bind (wpAny_holding (wpAny_truthy_bool (wpAny_bind (wpAny_letGo (wpAny_pure ?_)))))
 cases bb with
 | true =>
  simp only[if_true];refine wpAny_bind (wpAny_updateSeq hS1 rfl (wpAny_bind (wpAny_letGo ?_)));rw[hname]
  refine wpAny_pure ⟨plainId_quiet F.plain_min_loop _,y9Y (u:=u) (v:=v) (T:=T) hh ?_ ?_ hne (Heap.get?_update_self _ hS1 rfl) fun h2 k2=>hR h2 (kp1.trans (Kp.trans (fun b o n1 n2 e=>(Heap.get?_update_other _ _ (Ne.symm n2)).trans e) k2))⟩
  ·obtain⟨o,e,z⟩:=i1;exact⟨o,(Heap.get?_update_other _ _ hne).trans e,z⟩
  ·obtain⟨o,e,z⟩:=hT1;exact⟨o,(Heap.get?_update_other _ _ (Ne.symm hTS)).trans e,z⟩
 | false =>
  simp only[Bool.false_eq_true,if_false];refine wpAny_bind (wpAny_letGo ?_);rw[hname]
  exact wpAny_pure ⟨plainId_quiet F.plain_min_loop _,y9Y (u:=u) (v:=v) hh i1 hT1 hne hS1 fun h2 k2=>hR h2 (kp1.trans k2)⟩
theorem x7F{it T S:Addr}{u v:Value}{c:Nat}{bb:Bool}(hh:A.handled=none)(hit:s.heap.IsTupleIter it T 0)(ht:s.heap.IsTuple T #[u,v])(hne:S≠it)(hTi:T≠it)(hTS:T≠S)(hS:s.heap.get? S=some { cls:=.type "list",dict:=none,data:=.seq #[] c,slots:=#[] })(hc:∀h' (Q:Value->Shared->Prop) (E:Value->Shared->Prop),Kp it S s.heap h'->Q (.bool bb) { s with heap:=h' }->wpAny (model prog w) A.in1 (richCompare .Lt v u) Q E { s with heap:=h' })(hR:∀h',Kp it S s.heap h'->R (.ok (.ret (if bb=true then v else u))) { s with heap:=h' }):codeAny (model prog w) A (.builtin "min.loop" ⟨[.ref it,.none,.ref S],[]⟩) R s:=by
 have hname:(toString "min"++toString ".loop":String) = "min.loop":=by decide
 refine codeAny_builtin F.entry_min_loop ?_;rw[Around.under_plainId F.plain_min_loop _]
 show wpAny _ A.in1 (seqItems? (.ref S) >>= _) _ _ s;refine wpAny_bind (wpAny_seqItems hS rfl ?_)
 show wpAny _ A.in1 (tryCatch (pyNext (.ref it)) _ >>= _) _ _ s;refine wpAny_bind (wpAny_tryCatch (wpAny_pyNext_tuple_item hit ht (x:=u) (by simp) fun h1 i1 k1=>?_))
 have kp1:Kp it S s.heap h1:=fun b o n1 _ e=>(k1.2 b n1).trans e
 have hS1:=(k1.2 S hne).trans hS;have hT1:h1.IsTuple T #[u,v]:=ht.extBut k1.extBut hTi
 show wpAny _ A.in1 (updateSeq S (fun _=>#[u,u]) >>= _) _ _ _;refine wpAny_bind (wpAny_updateSeq hS1 rfl ?_)
 rw[hname]
 have ku:Kp it S h1 _:=fun b o n1 n2 e=>(Heap.get?_update_other h1 (Obj.mapSeq fun _=>#[u,u]) (Ne.symm n2)).trans e
 refine wpAny_pure ⟨plainId_quiet F.plain_min_loop _,x7E (u:=u) (v:=v) (T:=T) (bb:=bb) hh ?_ ?_ hne hTi hTS (Heap.get?_update_self _ hS1 rfl) (fun h' Q E k q=>hc h' Q E (kp1.trans (ku.trans k)) q) fun h2 k2=>hR h2 (kp1.trans (ku.trans k2))⟩
 ·obtain⟨o,e,z⟩:=i1;exact⟨o,(Heap.get?_update_other _ _ hne).trans e,z⟩
 ·obtain⟨o,e,z⟩:=hT1;exact⟨o,(Heap.get?_update_other _ _ (Ne.symm hTS)).trans e,z⟩
theorem x7D{u v:Value}{bb:Bool}{Q:Value->Shared->Prop}(hh:A.handled=none)(hc:∀h' (Q:Value->Shared->Prop) (E:Value->Shared->Prop),(∀b o,s.heap.get? b=some o->h'.get? b=some o)->Q (.bool bb) { s with heap:=h' }->wpAny (model prog w) A.in1 (richCompare .Lt v u) Q E { s with heap:=h' })(hQ:∀h',(∀b o,s.heap.get? b=some o->h'.get? b=some o)->Q (if bb=true then v else u) { s with heap:=h' }):wpAny (model prog w) A (call (.builtin "min") [u,v]) Q E s:=by
 have hname:(toString "min"++toString ".loop":String) = "min.loop":=by decide
 refine call_function_tree F.kind_min F.plain_min F.entry_min (F.args_min2 _ _) ?_
 show wpAny _ A.in1 (Builtin.Builtins.bindParams "min" ["key","default"] 0 ⟨[],[]⟩ >>= _) _ _ s;refine wpAny_bind (wpAny_of_eq (show Builtin.Builtins.bindParams "min" ["key","default"] 0 ⟨[],[]⟩=pure [none,none] from rfl) ?_)
 show wpAny _ A.in1 (newTuple [u,v] >>= _) _ _ s;refine wpAny_bind (wpAny_newObj_type ?_)
 generalize h1e:s.heap.push { cls:=Value.type "tuple",data:=Data.seq #[u,v] }=h1
 have k1:∀b o,s.heap.get? b=some o->h1.get? b=some o:=fun b o e=>by rw[←h1e];exact Heap.get?_push_of_some _ e
 have t1:h1.IsTuple s.heap.objs.size #[u,v]:=by rw[←h1e];exact⟨_,Heap.get?_push_size _ rfl,rfl,_,rfl⟩
 have z1:h1.objs.size=s.heap.objs.size+1:=by rw[←h1e,Heap.size_push]
 refine wpAny_bind (wpAny_pyIter_tuple (s:={ s with heap:=h1 }) t1 (wpAny_bind (wpAny_newObj_type ?_)))
 generalize h2e:(h1.push { cls:=Value.type "tuple_iterator",data:=Data.fields #[.ref s.heap.objs.size,.int 0 0] })=h2
 have k2:∀b o,h1.get? b=some o->h2.get? b=some o:=fun b o e=>by rw[←h2e];exact Heap.get?_push_of_some _ e
 have i2:h2.IsTupleIter h1.objs.size s.heap.objs.size 0:=by rw[←h2e];exact⟨_,Heap.get?_push_size _ rfl,rfl,rfl⟩
 have z2:h2.objs.size=h1.objs.size+1:=by rw[←h2e,Heap.size_push]
 rw[hname]
 have hs0:s.heap.objs.size<h1.objs.size:=by rw[z1];exact Nat.lt_succ_self _
 have hs1:h1.objs.size<h2.objs.size:=by rw[z2];exact Nat.lt_succ_self _
 have k3:∀b o,h2.get? b=some o->(h2.push { cls:=Value.type "list",data:=Data.seq ([]:List Value).toArray }).get? b=some o:=fun b o e=>Heap.get?_push_of_some _ e
 have all:∀{h'},Kp h1.objs.size h2.objs.size (h2.push { cls:=Value.type "list",data:=Data.seq ([]:List Value).toArray }) h'->∀b o,s.heap.get? b=some o->h'.get? b=some o:=fun {h'} k b o e =>
  k b o (Nat.ne_of_lt (Nat.lt_trans (Heap.lt_size e) hs0)) (Nat.ne_of_lt (Nat.lt_trans (Heap.lt_size e) (Nat.lt_trans hs0 hs1))) (k3 b o (k2 b o (k1 b o e)))
 refine wpAny_pure ⟨plainId_quiet F.plain_min_loop _,x7F (u:=u) (v:=v) (T:=s.heap.objs.size) (bb:=bb) (s:={ s with heap:=h2.push { cls:=Value.type "list",data:=Data.seq ([]:List Value).toArray } }) hh ?_ ?_ (Nat.ne_of_gt hs1) (Nat.ne_of_lt hs0) (Nat.ne_of_lt (Nat.lt_trans hs0 hs1)) (Heap.get?_push_size _ rfl) (fun h' Q E k q=>hc h' Q E (all k) q) fun h' k=>hQ h' (all k)⟩
 ·obtain⟨o,e,z⟩:=i2;exact⟨o,k3 _ _ e,z⟩
 ·obtain⟨o,e,z⟩:=t1;exact⟨o,k3 _ _ (k2 _ _ e),z⟩
end
section
open HT
theorem y5F(A:Around)(s:Shared)(a:Int)(t:Tok)(c:Int)(u:Tok)(prog:Program)(w:World)(E:Value->Shared->Prop)(Q:Value->Shared->Prop)(h:Q (.bool (decide (c<a))) s) :
  wpAny (model prog w) A (richCompare .Gt (.int a t) (.int c u)) Q E s :=
 (PyProof.Rows.gt_int h:wpAny (model prog w) A (compareOp .Gt (.int a t) (.int c u)) Q E s)
open PySem.SeqAt
open PySem.AutoSeq1 (wpAny_loadPart')
open PySem.MeetsSeq PySem.MeetsSeq2 PySem.MeetsSeq3
theorem y0E(l b:Addr)(items items2:Array Value)(n n2:Nat)(dd dd2:Option Addr)(sl sl2:Array (Option Value))(ns ms:List Int)(hi:IntsAre items.toList ns)(hj:IntsAre items2.toList ms) :
  Meets (Builtin.«tuple.__gt__» ⟨[.ref l,.ref b],[]⟩)
   (fun _ R s=>s.heap.get? l=some { cls:=.type "tuple",dict:=dd,data:=.seq items n,slots:=sl }/\s.heap.get? b=some { cls:=.type "tuple",dict:=dd2,data:=.seq items2 n2,slots:=sl2 } /\
    R (.ok (.ret (.bool (lexLt ms ns)))) s) :=
 .of_wp fun prog w A R s h=>by
  obtain⟨hp,g,d,tk,os⟩:=s;obtain⟨hl,hb,h⟩:=h;have f2:=AutoSeq1.sub_tuple_tuple
  have z1:items.size=ns.length:=by rw[←hi.length];simp
  have z2:items2.size=ms.length:=by rw[←hj.length];simp
  wp_walk using wpAny_loadPart' hl,wpAny_loadPart' hb,wpAny_forIn_list _ (fun rest b s'=>b.1=none/\s'=⟨hp,g,d,tk,os⟩/\∃(vs ws:List Value) (ns' ms':List Int),rest=vs.zip ws /\
   IntsAre vs ns'/\IntsAre ws ms'/\ns'.length+items2.size=ms'.length+items.size/\R (.ok (.ret (.bool (lexLt ms' ns')))) ⟨hp,g,d,tk,os⟩) _
  case turn =>
   rintro ⟨y,x⟩ rest b s' ⟨hb',rfl,vs,ws,ns',ms',hz,hvi,hwi,hlen,hR⟩
   cases hvi with
   | nil=>rw[List.zip_nil_left]at hz;cases hz
   | cons a t hvi' =>
    cases hwi with
    | nil=>rw[List.zip_nil_right]at hz;cases hz
    | cons c u hwi' =>
     rw[List.zip_cons_cons]at hz
     injection hz with hyx hrest
     injection hyx with hy hx
     subst hy hx
     rw[lexLt_cons]at hR;simp only[List.length_cons]at hlen;obtain⟨e,he,hiff⟩:=y6F A.in1 ⟨hp,g,d,tk,os⟩ a t c u;refine wpAny_bind (he prog w _ _ ?_)
     cases e with
     | true =>
      rw[if_pos (hiff.mp rfl).symm]at hR
      wp_walk
      exact⟨rfl,rfl,_,_,_,_,hrest,hvi',hwi',by omega,hR⟩
     | false =>
      rw[if_neg (fun q=>absurd (hiff.mpr q.symm) Bool.false_ne_true)]at hR
      have hri:=y5F A.in1 ⟨hp,g,d,tk,os⟩ a t c u prog w
      wp_walk using hri
      exact⟨_,rfl,by simpa using hR⟩
  case fin =>
   rintro ⟨b1,b2⟩ s' ⟨hb',rfl,vs,ws,ns',ms',hz,hvi,hwi,hlen,hR⟩
   simp only at hb'
   subst hb'
   have hv:lexLt ms' ns'=decide (items2.size<items.size):=by
    cases hvi with
    | nil =>
     cases hwi with
     | nil =>
      simp only[List.length_nil]at hlen;rw[lexLt_nil_nil]
      exact (decide_eq_false (by omega)).symm
     | cons c u hw =>
      simp only[List.length_nil,List.length_cons]at hlen;rw[z4H]
      exact (decide_eq_false (by omega)).symm
    | cons a t hv =>
     cases hwi with
     | nil =>
      simp only[List.length_nil,List.length_cons]at hlen;rw[z4G]
      exact (decide_eq_true (by omega)).symm
     | cons c u hw =>
      rw[List.zip_cons_cons]at hz;cases hz
   rw[hv]at hR
   wp_walk
   exact⟨_,rfl,by simpa [Builtin.Tuple.tupleCompareSizes] using hR⟩
  case h =>
   exact⟨rfl,rfl,items.toList,items2.toList,ns,ms,rfl,hi,hj,by omega,h⟩
end
section
variable{prog:Program}{w:World}{A:Around}{E:Value->Shared->Prop}{s:Shared}
theorem y7J{l b:Addr}{items items2:Array Value}{ns ms:List Int}{Q:Value->Shared->Prop}(hl:IsTup s.heap l items)(hb:IsTup s.heap b items2)(hi:IntsAre items.toList ns)(hj:IntsAre items2.toList ms)(hu:A.units<cLine)(h:Q (.bool (HT.lexLt ms ns)) s):wpAny (model prog w) A (richCompare .Gt (.ref l) (.ref b)) Q E s:=by
 rcases id hl with⟨⟨cls,dd,data,sl⟩,ho,hc,n,hd⟩
 rcases id hb with⟨⟨cls2,dd2,data2,sl2⟩,ho2,hc2,n2,hd2⟩
 simp only at hc hd hc2 hd2
 subst hc hd hc2 hd2
 exact richCompare_meets_room (op:=.Gt) ⟨_,ho,rfl⟩ ⟨_,ho2,rfl⟩ PySem.F.slot_tuple_gt PySem.F.entry_tuple_gt (PySem.F.args_tuple_gt_2 _ _) (y0E l b items items2 n n2 dd dd2 sl sl2 ns ms hi hj)
  ⟨ho,ho2,show Value.bool (HT.lexLt ms ns)≠Value.notImplemented/\Q (.bool (HT.lexLt ms ns)) s from ⟨(fun x=>nomatch x),h⟩⟩ hu
end
section
variable{X:Cx}{a b:Expr}{fa fb:z9->Option D}{p pos:Pos}
def x4K(K:PySem.W.Frag):List V->Hp->VK->Prop:=fun xs H Q=>∃a b ns ms,xs=[.ref a,.ref b]/\SqT K H a (ns.map V.int)/\SqT K H b (ms.map V.int)/\Q (if HT.lexLt ns ms=true then .ref b else .ref a) H
def x4J(K:PySem.W.Frag):List V->Hp->VK->Prop:=fun xs H Q=>∃a b ns ms,xs=[.ref a,.ref b]/\SqT K H a (ns.map V.int)/\SqT K H b (ms.map V.int)/\Q (if HT.lexLt ms ns=true then .ref b else .ref a) H
theorem y7T(hc:X.calm=true)(hu:X.A.units+64<cLine):z0Y X (.builtin "max") (x4K X.K):=by
 intro pins s σ H xs us Q I r h;obtain⟨a,b,ns,ms,rfl,ha,hb,q⟩:=h;obtain⟨u,v,rfl,ru,rv⟩:=y8N r;cases ru;cases rv
 refine x7G (bb:=HT.lexLt ns ms) (I.ok.hd hc) (fun h' Q' E' k q'=>?_) fun h' k=>?_
 ·have I':Inv X pins σ H { s with heap:=h' }:=I.kept (t':=s.toks) k
  obtain⟨its,r1,p1,_⟩:=I'.tuple ha;obtain⟨its2,r2,p2,_⟩:=I'.tuple hb
  exact y7J (s:={ s with heap:=h' }) p2 p1 (show IntsAre its2.toArray.toList ms from K1 r2) (show IntsAre its.toArray.toList ns from K1 r1) (by show X.A.units+1<cLine;omega) q'
 ·refine⟨_,H,I.kept (t':=s.toks) k,?_,q⟩
  split<;>rfl
theorem y7Q(hc:X.calm=true)(hu:X.A.units+64<cLine):z0Y X (.builtin "min") (x4J X.K):=by
 intro pins s σ H xs us Q I r h;obtain⟨a,b,ns,ms,rfl,ha,hb,q⟩:=h;obtain⟨u,v,rfl,ru,rv⟩:=y8N r;cases ru;cases rv
 refine x7D (bb:=HT.lexLt ms ns) (I.ok.hd hc) (fun h' Q' E' k q'=>?_) fun h' k=>?_
 ·have I':Inv X pins σ H { s with heap:=h' }:=I.kept (t':=s.toks) k
  obtain⟨its,r1,p1,_⟩:=I'.tuple ha;obtain⟨its2,r2,p2,_⟩:=I'.tuple hb
  have:=HT.lt_tupInts (prog:=X.prog) (w:=X.w) (A:=X.A.in1) (E:=E') (Q:=Q') (s:={ s with heap:=h' }) p2 p1 (show IntsAre its2.toArray.toList ms from K1 r2) (show IntsAre its.toArray.toList ns from K1 r1) (by show X.A.units+1<cLine;omega) q'
  exact this
 ·refine⟨_,H,I.kept (t':=s.toks) k,?_,q⟩
  split<;>rfl
def x0K:D->Option (List Int)
 | .tup ds=>Y5 ds
 | _=>none
def x7Z:List D->Option D:=fun ds=>match ds with|[x,y]=>(match x0K x,x0K y with|some ns,some ms=>some (if HT.lexLt ns ms=true then y else x)|_,_=>none)|_=>none
def x7Y:List D->Option D:=fun ds=>match ds with|[x,y]=>(match x0K x,x0K y with|some ns,some ms=>some (if HT.lexLt ms ns=true then y else x)|_,_=>none)|_=>none
theorem z42{K:PySem.W.Frag}{H:Hp}{d:D}{ns:List Int}{v:V}(e:x0K d=some ns)(h:Rep K H d v):∃a,v = .ref a/\SqT K H a (ns.map V.int):=by
 cases d with
 | tup ds =>
  have e':Y5 ds=some ns:=e;obtain⟨a,xs,rfl,h1,h2⟩:=v4.mp h;rw[Q8 e',Q3]at h2;subst h2
  exact⟨a,rfl,h1⟩
 | _=>cases e
theorem x6I{K:PySem.W.Frag}:RdC K (x4K K) x7Z:=by
 intro ds d e Z H vs Q zs rr q;unfold x7Z at e;split at e
 ·rename_i x y;split at e
  ·rename_i ns ms e1 e2;cases e;obtain⟨u,v,rfl,h1,h2⟩:=z7M rr;obtain⟨a,rfl,g1⟩:=z42 e1 h1;obtain⟨b,rfl,g2⟩:=z42 e2 h2
   refine⟨a,b,ns,ms,rfl,v3 y4 g1,v3 y4 g2,q _ H (u5.refl H) ?_⟩
   split
   ·exact h2
   ·exact h1
  ·cases e
 ·cases e
theorem x6H{K:PySem.W.Frag}:RdC K (x4J K) x7Y:=by
 intro ds d e Z H vs Q zs rr q;unfold x7Y at e;split at e
 ·rename_i x y;split at e
  ·rename_i ns ms e1 e2;cases e;obtain⟨u,v,rfl,h1,h2⟩:=z7M rr;obtain⟨a,rfl,g1⟩:=z42 e1 h1;obtain⟨b,rfl,g2⟩:=z42 e2 h2
   refine⟨a,b,ns,ms,rfl,v3 y4 g1,v3 y4 g2,q _ H (u5.refl H) ?_⟩
   split
   ·exact h2
   ·exact h1
  ·cases e
 ·cases e
theorem RdC.or{K:PySem.W.Frag}{r r':List V->Hp->VK->Prop}{F F':List D->Option D}(h:RdC K r F)(h':RdC K r' F'):RdC K (fun xs H Q=>r xs H Q∨r' xs H Q) (fun ds=>match F ds with|some d=>some d|none=>F' ds):=by
 intro ds d e Z H vs Q zs rr q;dsimp only at e;split at e
 ·rename_i d' hd;cases e;exact .inl (h ds d hd Z H vs Q zs rr q)
 ·exact .inr (h' ds d e Z H vs Q zs rr q)
def x3S:List D->Option D:=fun ds=>match x0U ds with|some d=>some d|none=>x7Z ds
def x3Q:List D->Option D:=fun ds=>match x3R ds with|some d=>some d|none=>x7Y ds
theorem x6A(hc:X.calm=true)(hu:X.A.units+64<cLine)(hm:X.mg "max" = none)(ha:SE X a fa)(hb:SE X b fb)(hg:Gl X "max":=by rfl)(hv:bootBuiltins "max" = some (.builtin "max"):=by decide +kernel)(he:starEach [a,b] X.env=(false,eval a X.env)::starEach [b] X.env:=by exact y2 rfl)(he2:starEach [b] X.env=(false,eval b X.env)::starEach [] X.env:=by exact y2 rfl)(hpl:(backTo pos (starEach [b] X.env)).any (·.1)=false:=by exact x6 rfl):SE X (.Call (.Name "max" p) [a,b] [] pos) (w6 x3S (z6 fa (z6 fb j0))) :=
 z7L ((y33 hc).or (y7T hc hu)) (x4F.or x6I) hm hv (z27 ha (z27 hb z9L he2) he) hg (by decide) (by decide) he hpl
theorem x67(hc:X.calm=true)(hu:X.A.units+64<cLine)(hm:X.mg "min" = none)(ha:SE X a fa)(hb:SE X b fb)(hg:Gl X "min":=by rfl)(hv:bootBuiltins "min" = some (.builtin "min"):=by decide +kernel)(he:starEach [a,b] X.env=(false,eval a X.env)::starEach [b] X.env:=by exact y2 rfl)(he2:starEach [b] X.env=(false,eval b X.env)::starEach [] X.env:=by exact y2 rfl)(hpl:(backTo pos (starEach [b] X.env)).any (·.1)=false:=by exact x6 rfl):SE X (.Call (.Name "min" p) [a,b] [] pos) (w6 x3Q (z6 fa (z6 fb j0))) :=
 z7L ((y32 hc).or (y7Q hc hu)) (x4E.or x6H) hm hv (z27 ha (z27 hb z9L he2) he) hg (by decide) (by decide) he hpl
def w0G(K:PySem.W.Frag)(nm:Bool):List V->Hp->VK->Prop:=fun xs H Q=>∃a n ns,xs=[.ref a]/\SqL K H a ((n::ns).map V.int)/\∀m,m∈(n::ns)->(∀x∈(n::ns),if nm=true then x≤m else m≤x)->Q (.int m) H
theorem x1D(hc:X.calm=true):z0Y X (.builtin "max") (w0G X.K true):=by
 intro pins s σ H xs us Q I r h;obtain⟨a,n,ns,rfl,ha,q⟩:=h;obtain⟨u,rfl,ru⟩:=z3D r;cases ru;obtain⟨its,r1,p1,_⟩:=I.list ha;have i1:IntsAre its (n::ns):=K1 r1;obtain⟨zs,e⟩:=i1.allInts.items
 have hns:(n::ns)=zs.toList.map (·.1):=by rw[←i1.numsOf,←nums_intItems,←e]
 have hsz:0<zs.size:=by
  have:=congrArg List.length hns
  rw[List.length_map,Array.length_toList]at this;simp at this;omega
 have hl:=p1.isList;rw[e]at hl
 refine max_intList (I.ok.hd hc) hl hsz fun v h' tk hv hk=>?_
 obtain⟨t,rfl⟩:=intItems_at hv;obtain⟨h1,h2⟩:=argBest_gt (numAt zs) (zs.size-1)
 refine⟨.int _,H,I.kept hk,⟨t,rfl⟩,q _ ?_ fun x hx=>?_⟩
 ·rw[hns,numAt_eq];exact getD_mem (by rw[List.length_map,Array.length_toList];omega)
 ·rw[hns]at hx;obtain⟨j,hj,rfl⟩:=mem_getD hx;rw[List.length_map,Array.length_toList]at hj
  rw[if_pos rfl,←numAt_eq];exact h2 j (by omega)
theorem x1C(hc:X.calm=true):z0Y X (.builtin "min") (w0G X.K false):=by
 intro pins s σ H xs us Q I r h;obtain⟨a,n,ns,rfl,ha,q⟩:=h;obtain⟨u,rfl,ru⟩:=z3D r;cases ru;obtain⟨its,r1,p1,_⟩:=I.list ha;have i1:IntsAre its (n::ns):=K1 r1;obtain⟨zs,e⟩:=i1.allInts.items
 have hns:(n::ns)=zs.toList.map (·.1):=by rw[←i1.numsOf,←nums_intItems,←e]
 have hsz:0<zs.size:=by
  have:=congrArg List.length hns
  rw[List.length_map,Array.length_toList]at this;simp at this;omega
 have hl:=p1.isList;rw[e]at hl
 refine min_intList (I.ok.hd hc) hl hsz fun v h' tk hv hk=>?_
 obtain⟨t,rfl⟩:=intItems_at hv;obtain⟨h1,h2⟩:=argBest_lt (numAt zs) (zs.size-1)
 refine⟨.int _,H,I.kept hk,⟨t,rfl⟩,q _ ?_ fun x hx=>?_⟩
 ·rw[hns,numAt_eq];exact getD_mem (by rw[List.length_map,Array.length_toList];omega)
 ·rw[hns]at hx;obtain⟨j,hj,rfl⟩:=mem_getD hx;rw[List.length_map,Array.length_toList]at hj
  rw[if_neg Bool.false_ne_true,←numAt_eq];exact h2 j (by omega)
end
theorem y0D(l:Addr)(items:Array Value)(n:Nat)(dd:Option Addr)(sl:Array (Option Value))(x:Value)(e:Value->Bool)(j:Nat)(hj:j<items.size)(hit:e items[j]=true)(hno:∀m (hm:m<items.size),m<j->e items[m]=false) :
  Meets (Builtin.«tuple.index» ⟨[.ref l,x],[]⟩)
   (fun A R s=>s.heap.get? l=some { cls:=.type "tuple",dict:=dd,data:=.seq items n,slots:=sl }/\(∀y,y∈items->EqAt A.in1 s y x (e y))/\R (.ok (.ret (.int j s.toks))) { s with toks:=s.toks+1 }) :=
 .of_wp fun prog w A R s h=>by
  obtain⟨hp,g,d,tk,os⟩:=s;obtain⟨hl,he,h⟩:=h
  wp_walk using AutoSeq1.wpAny_loadPart' hl
  change wpAny _ _ (forIn [:min items.size items.size] (none,()) (fun (i:Nat) __s=>match items[i]? with
    | some y=>do
     let __do_lift ←eqBool y x
     if __do_lift=true then do
       let __do_lift ←retInt (i:Int)
       pure (ForInStep.done (some __do_lift,()))
      else pure (ForInStep.yield (none,()))
    | x=>pure (ForInStep.yield (none,())))) _ _ _
  rw[Std.Legacy.Range.forIn_eq_forIn_range']
  refine wpAny_forIn_list _ (fun rest b s'=>s'=⟨hp,g,d,tk,os⟩/\∃i,i≤j/\rest=List.range' i (items.size-i)) _ ?turn ?fin _ _ ⟨rfl,0,Nat.zero_le _,by simp[Std.Legacy.Range.size]⟩
  case turn =>
   rintro i0 rest b s' ⟨rfl,i,hij,hr⟩
   have hlt:i<items.size:=by omega
   have e0:items.size-i=(items.size-(i+1))+1:=by omega
   rw[e0,List.range'_succ]at hr;cases hr;rw[Array.getElem?_eq_getElem hlt];refine wpAny_bind (he _ (Array.getElem_mem hlt) prog w _ _ ?_);by_cases hj':i0=j
   ·subst hj'
    rw[hit]
    wp_walk
    exact⟨_,rfl,h⟩
   ·rw[hno i0 hlt (by omega)]
    wp_walk
    exact⟨rfl,i0+1,by omega,rfl⟩
  case fin =>
   rintro ⟨b1,b2⟩ s' ⟨rfl,i,hij,hr⟩
   have:=congrArg List.length hr
   simp at this;omega
def x8J(d:D)(ds:List D):Option Nat:=ds.findIdx? fun y=>beq y d
def w2Q(K:PySem.W.Frag):V->List V->Hp->VK->Prop:=fun x vs H Q=>∃a xs ds d y j,x = .ref a/\vs=[y]/\SqT K H a xs/\u7 K H ds xs/\Rep K H d y/\Y7 ds≤z1W/\depth d≤z1W/\x8J d ds=some j/\Q (.int (j:Nat)) H
section
variable{X:Cx}{a b:Expr}{fa fb:z9->Option D}{p pos apos:Pos}
theorem y9V(hu:X.A.units+64<cLine):MtR X "tuple.index" (w2Q X.K):=by
 intro pins s σ H x vs v us Q I rx rv h;obtain⟨a,xs,ds,d,y,j,rfl,rfl,hq,hr,hd,h1,h2,hj,q⟩:=h;cases rx;obtain⟨u,rfl,ru⟩:=z3D rv;obtain⟨its,r1,p1,_⟩:=I.tuple hq;obtain⟨⟨cls,dd,data,sl⟩,ho,hc,n,hdt⟩:=id p1;simp only at hc hdt
 subst hc hdt
 have l1:=hr.length;have l2:=r1.length;unfold x8J at hj;rw[List.findIdx?_eq_some_iff_getElem]at hj;obtain⟨hlt,hjt,hjn⟩:=hj
 have hlt':j<its.toArray.size:=by rw[List.size_toArray];omega
 have at_:∀m (hm:m<its.toArray.size),inE ds its d its.toArray[m]=beq (ds[m]'(by rw[List.size_toArray]at hm;omega)) d:=fun m hm=>by
  have hm':m<its.length:=by rw[List.size_toArray]at hm;exact hm
  have e1:its[m]?=some its.toArray[m]:=by rw[List.getElem?_eq_getElem hm'];simp
  exact y6C I hr r1 e1 (List.getElem?_eq_getElem (by omega))
 refine call_meets F.slot_tuple_index ⟨_,ho,rfl⟩ F.entry_tuple_index (F.args_tuple_index_2 _ _) (y0D a its.toArray n dd sl u (inE ds its d) j hlt' ?_ ?_) ⟨ho,?_,?_⟩
 ·rw[at_ j hlt'];exact hjt
 ·intro m hm hmj;rw[at_ m hm];exact Bool.eq_false_iff.mpr (hjn m hmj)
 ·exact z87 I hu hr r1 h1 h2 hd ru
 ·exact⟨.int _,H,I.tok _,⟨_,rfl⟩,q⟩
def z6V(fa fb:z9->Option D):z9->Option D:=fun ρ=>match fa ρ with
 | some (.tup ds)=>(match fb ρ with|some d=>if Y7 ds≤z1W/\depth d≤z1W then (match x8J d ds with|some j=>some (.int (j:Nat))|none=>none) else none|none=>none)
 | _=>none
theorem x2M(hu:X.A.units+64<cLine)(ha:SE X a fa)(hb:SE X b fb)(hbase:attributeBase a "index" X.env (eval a X.env)=eval a X.env:=by rfl)
  (hfew:((backTo pos (starEach [b] X.env)).all (fun x=>!x.1)&&(backToKw pos (keywordEach [] X.env)).all (fun x=>x.1.isSome)
   && decide (([b]:List Expr).length+([]:List Keyword).length+(if ([]:List Keyword).isEmpty then 0 else 1)<30))=true:=by rfl)
  (hline:(apos.endLine==pos.line)=true:=by rfl) (hs:starEach [b] X.env=(false,eval b X.env)::starEach [] X.env:=by exact y2 rfl) (hplain:(backTo pos (starEach [] X.env)).any (·.1)=false:=by exact x6 rfl) :
  SE X (.Call (.Attribute a "index" apos) [b] [] pos) (z6V fa fb) :=
 v5 (x35 PySem.F.plainAttrs_tuple PySem.F.slot_tuple_index PySem.F.type_tuple_index (y9V hu) ha (J9 hb W4 hs) hbase hfew hline hs hplain) fun σ H Q ⟨ρ,d,B,H0,V0,Z,e,r,q⟩=>by
  unfold z6V at e;split at e
  ·rename_i ds ea;split at e
   ·rename_i d' eb;split at e
    ·rename_i hz;split at e
     ·rename_i j hj;cases e
      refine⟨ρ,_,B,H0,V0,Z,ea,r,fun x H1 s1 r1=>?_⟩
      obtain⟨n,xs,rfl,h1,h2⟩:=v4.mp r1
      refine⟨.inr (.inl ⟨rfl,xs,v3 y4 h1⟩),ρ,d',B,H0,V0,Z,eb,r.mono s1,fun y H2 s2 r2=>?_⟩
      exact⟨n,xs,ds,d',y,j,rfl,rfl,v3 (y4.trans s2) h1,h2.mono (y4.trans s2),r2.mono y4,hz.1,hz.2,hj,q _ H2 (s1.trans s2) (x4.mpr rfl)⟩
     ·cases e
    ·cases e
   ·cases e
  ·cases e
def z6R:Int->List Int->Int
 | n,[]=>n
 | n,m::r=>z6R (min n m) r
def y2C:Int->List Int->Int
 | n,[]=>n
 | n,m::r=>y2C (max n m) r
theorem y2K:∀(ns:List Int) (n:Int),z6R n ns∈n::ns/\∀x∈n::ns,z6R n ns≤x
 | [],n=>by simp[z6R]
 | m::r,n=>by
  obtain⟨h1,h2⟩:=y2K r (min n m)
  show z6R (min n m) r∈_/\∀x∈_,z6R (min n m) r≤x
  have hm:=h2 (min n m) List.mem_cons_self;constructor
  ·rcases List.mem_cons.mp h1 with z|z
   ·rw[z]
    rcases Int.le_total n m with q|q
    ·rw[Int.min_eq_left q];exact List.mem_cons_self
    ·rw[Int.min_eq_right q];exact List.mem_cons_of_mem _ List.mem_cons_self
   ·exact List.mem_cons_of_mem _ (List.mem_cons_of_mem _ z)
  ·intro x hx
   rcases List.mem_cons.mp hx with z|z
   ·omega
   ·rcases List.mem_cons.mp z with z|z
    ·omega
    ·exact h2 x (List.mem_cons_of_mem _ z)
theorem y5T:∀(ns:List Int) (n:Int),y2C n ns∈n::ns/\∀x∈n::ns,x≤y2C n ns
 | [],n=>by simp[y2C]
 | m::r,n=>by
  obtain⟨h1,h2⟩:=y5T r (max n m)
  show y2C (max n m) r∈_/\∀x∈_,x≤y2C (max n m) r
  have hm:=h2 (max n m) List.mem_cons_self;constructor
  ·rcases List.mem_cons.mp h1 with z|z
   ·rw[z]
    rcases Int.le_total n m with q|q
    ·rw[Int.max_eq_right q];exact List.mem_cons_of_mem _ List.mem_cons_self
    ·rw[Int.max_eq_left q];exact List.mem_cons_self
   ·exact List.mem_cons_of_mem _ (List.mem_cons_of_mem _ z)
  ·intro x hx
   rcases List.mem_cons.mp hx with z|z
   ·omega
   ·rcases List.mem_cons.mp z with z|z
    ·omega
    ·exact h2 x (List.mem_cons_of_mem _ z)
def z97(f:z9->Option (List D)):z9->Option D:=fun ρ=>match f ρ with|some ds=>(match Y5 ds with|some (n::ns)=>some (.int (z6R n ns))|_=>none)|none=>none
def y2Y(f:z9->Option (List D)):z9->Option D:=fun ρ=>match f ρ with|some ds=>(match Y5 ds with|some (n::ns)=>some (.int (y2C n ns))|_=>none)|none=>none
theorem x66{f:z9->Option (List D)}(hc:X.calm=true)(hm:X.mg "min" = none)(h:SQL X a f)(hg:Gl X "min":=by rfl)(hv:bootBuiltins "min" = some (.builtin "min"):=by decide +kernel)(he:starEach [a] X.env=(false,eval a X.env)::starEach [] X.env:=by exact y2 rfl)(hpl:(backTo pos (starEach [] X.env)).any (·.1)=false:=by exact x6 rfl):SE X (.Call (.Name "min" p) [a] [] pos) (z97 f) :=
 v5 (z20 (x1C hc) hg hm hv (J9 h W4 he) (by decide) (by decide) he hpl) fun σ H Q ⟨ρ,d,B,H0,V0,Z,e,r,q⟩=>by
  unfold z97 at e;split at e
  ·rename_i ds eds;split at e
   ·rename_i n ns hn;cases e
    refine⟨ρ,ds,B,H0,V0,Z,eds,r,fun l xs H' s hq rr=>⟨l,n,ns,rfl,?_,fun m hm hb=>?_⟩⟩
    ·rw[Q8 hn,Q3]at rr;rw[←rr];exact hq
    ·obtain⟨h1,h2⟩:=y2K ns n;have e1:=hb _ h1;have e2:=h2 _ hm;rw[if_neg Bool.false_ne_true]at e1
     have:m=z6R n ns:=by omega
     rw[this];exact q _ H' s (x4.mpr rfl)
   ·cases e
  ·cases e
theorem x69{f:z9->Option (List D)}(hc:X.calm=true)(hm:X.mg "max" = none)(h:SQL X a f)(hg:Gl X "max":=by rfl)(hv:bootBuiltins "max" = some (.builtin "max"):=by decide +kernel)(he:starEach [a] X.env=(false,eval a X.env)::starEach [] X.env:=by exact y2 rfl)(hpl:(backTo pos (starEach [] X.env)).any (·.1)=false:=by exact x6 rfl):SE X (.Call (.Name "max" p) [a] [] pos) (y2Y f) :=
 v5 (z20 (x1D hc) hg hm hv (J9 h W4 he) (by decide) (by decide) he hpl) fun σ H Q ⟨ρ,d,B,H0,V0,Z,e,r,q⟩=>by
  unfold y2Y at e;split at e
  ·rename_i ds eds;split at e
   ·rename_i n ns hn;cases e
    refine⟨ρ,ds,B,H0,V0,Z,eds,r,fun l xs H' s hq rr=>⟨l,n,ns,rfl,?_,fun m hm hb=>?_⟩⟩
    ·rw[Q8 hn,Q3]at rr;rw[←rr];exact hq
    ·obtain⟨h1,h2⟩:=y5T ns n;have e1:=hb _ h1;have e2:=h2 _ hm;rw[if_pos rfl]at e1
     have:m=y2C n ns:=by omega
     rw[this];exact q _ H' s (x4.mpr rfl)
   ·cases e
  ·cases e
def z3Q(f:z9->Option (List D)):z9->Option Bool:=fun ρ=>match f ρ with|some ds=>some (!ds.isEmpty)|none=>none
theorem x5N{f:z9->Option (List D)}(h:SQL X a f)(he:∀whole,isTrue a X.env whole=(do let v ←whole;standAt a.pos;holding [v] (truthy v)):=by intro _;rfl):STt X a (z3Q f) :=
 z4R (x2U h he) fun σ H Q ⟨ρ,d,B,H0,V0,Z,e,r,q⟩=>by
  unfold z3Q at e;split at e
  ·rename_i ds eds;cases e
   refine⟨ρ,ds,B,H0,V0,Z,eds,r,fun l xs H' s hq rr=>?_⟩
   refine⟨!xs.isEmpty,.inl ⟨xs,hq,rfl⟩,?_⟩
   have hl:=rr.length
   have:ds.isEmpty=xs.isEmpty:=by
    cases ds<;>cases xs<;>first|rfl|cases hl
   rw[←this];exact q H' s
  ·cases e
end
end L3
namespace L3
open PySem PySem.Spec PyProof.Rows L2 PySem.SeqAt PySem.W
end L3
namespace L3
open PySem PySem.Spec PyProof.Rows L2 PySem.SeqAt
def w3J(K:PySem.W.Frag)(w:World)(a:Addr)(kvs:List (Str×Str)):Prop :=
 ∃es n,K.lookup a=some ⟨.type "dict",none,.dict es n,#[]⟩/\PySem.W.KeysLit w.params es.toList/\∀kv∈kvs,∃t,PySem.W.nsIn K a kv.1=some (some (.str kv.2 t))
def x3Y(kvs:List (Str×Str))(f:z9->Option D):z9->Option D:=fun ρ=>match f ρ with
 | some (.str x)=>(match kvs.lookup x with|some y=>some (.str y)|none=>none)
 | _=>none
theorem z9P{x y:Str}:∀{kvs:List (Str×Str)},kvs.lookup x=some y->(x,y)∈kvs
 | [],h=>by cases h
 | (a,b)::r,h=>by
  rw[List.lookup_cons]at h;split at h
  ·rename_i e;cases h;rw[eq_of_beq e];exact List.mem_cons_self
  ·exact List.mem_cons_of_mem _ (z9P h)
section
variable{X:Cx}{i:Expr}{p pos:Pos}{f:z9->Option D}
theorem x6C{x:Str}{a:Addr}{kvs:List (Str×Str)}(hm:X.mg x=some (.ref a))(ht:w3J X.K X.w a kvs)(hi:SE X i f)(hg:Gl X x:=by rfl)(hd:(x==("__debug__":Str))=false:=by decide)(hs:x8M i:=by exact fun _ _=>rfl) :
  SE X (.Subscript (.Name x p) i pos) (x3Y kvs f):=fun pins s σ H Q I ⟨ρ,d,B,H0,V0,Z,e,r,q⟩=>by
 unfold x3Y at e;split at e
 ·rename_i k hk;split at e
  ·rename_i y hy;cases e;obtain⟨es,n,hl,hk',hv⟩:=ht;obtain⟨t,ht⟩:=hv _ (z9P hy)
   have h0:tC (.ref a) σ H (fun x H1=>x=V.ref a/\H1=H):=⟨rfl,rfl⟩
   refine y8U PySem.F.slot_dict_getitem.lookup hs (thn (x6Z (pos:=p) hg hm (v:=.ref a) rfl hd pins s σ H _ I h0) fun u s1 ⟨x',H1,I1,rx,ex,eH⟩=>?_)
   subst ex eH
   obtain rfl:u=Value.ref a:=rx
   refine thn (hi pins s1 σ H1 (fun v H'=>u5 H1 H'/\v=V.str k) I1 ⟨ρ,_,B,H0,V0,Z,hk,r,fun v H' sm rv=>⟨sm,Q7.mp rv⟩⟩) fun iv s2 ⟨y',H2,I2,ry,sm,ey⟩=>?_
   subst ey;obtain⟨tk,rfl⟩:=ry;have hm:=PySem.W.mapOf_K (prog:=X.prog) (w:=X.w) I2.kIn hl hk'
   refine⟨hm.typeIs,wpAny_getItem_of (strKind_is X.prog X.w k tk) hm (PySem.W.find_K hl ht) ⟨.str y,H2,I2.tok _,⟨t,rfl⟩,q _ _ sm (Q7.mpr rfl)⟩⟩
  ·cases e
 ·cases e
end
end L3
namespace L3
open PySem PySem.Spec PyProof.Rows L2
section
variable{X:Cx}
theorem x6S{i:Nat}{y:Str}{py spos:Pos}{elt target iter:Expr}{ifs:List Expr}{scope:Scope}{pos:Pos}{N:List Str}{cap:List (Option Nat)}{wi:TI}{g:TG}{tt:TT}{te:TE}(hc:X.calm=true)(hi:PI X target iter wi)(hg:∀cl C fp s H,PG (j4 X N scope cl C fp s H) target g)(ht:∀cl C fp s H,x1P (j4 X N scope cl C fp s H) ifs tt)(he:∀cl C fp s H,PE (j4 X N scope cl C fp s H) elt te)(hk:scope.kind = .function)(hcell:∀y∈scope.names,y.2 = .cell->scope.names.lookup y.1=some .cell)(hnames:∀x∈scope.names,x.2 = .local->scope.names.lookup x.1=some .local)(hfr:∀x∈scope.names,x.2 = .free->scope.names.lookup x.1=some .free)(hout:∀x∈scope.names,x.2 = .free->X.env.scope.names.lookup x.1=some .cell∨X.env.scope.names.lookup x.1=some .free)(hcap:∀(i j:Nat),cap[i]?=some (some j)->∃x,N[i]?=some x/\X.N[j]?=some x/\scope.names.lookup x=some .free)(hlen:cap.length=N.length)(hN:X.N.Nodup)(hiy:X.N[i]?=some y)(hy:Loc X.env.scope y)(hf:X.fn y=true∨X.env.scope.names.lookup y=some .local)(hsw:swapsWith (.ListComp elt [⟨target,iter,ifs,0⟩] scope pos) (some (.Name y py)) spos.line X.env=pure true)(hs:∀x,foldedSetIterable iter X.env x=pure x:=by intro _;rfl) :
  PS X (.Assign [.Name y py] (.ListComp elt [⟨target,iter,ifs,0⟩] scope pos) spos) (w3L (x5K cap wi g tt te) (x7V i)):=by
 intro pins s σ H D I h
 obtain⟨cl,hclos,hcl,hcf⟩:=x18 (env:=X.env) (scope:=scope) fun x hx hf=>I.ok.has x.1 (hout x hx hf)
 rw[exec_Assign_Name_used _ _ _ _ hsw];refine wpAny_bind (wpAny_standAt (wpAny_bind ?_))
 show wpAny _ X.A (do let _ ←comprehension (.ListComp elt [⟨target,iter,ifs,0⟩] scope pos) scope X.env _ (newList []) false (eval iter X.env) (some (assign (.Name y py) X.env))) _ _ s
 refine wpAny_bind (wpAny_mono (wpAny_comprehension_free (use:=some (assign (.Name y py) X.env)) (Q:=fun _ s'=>SP X pins D .next s') rfl hs hclos hk hnames ?_) (fun _ s' hq=>wpAny_pure (wpAny_pure hq)) fun _ _ e=>e)
 show wpAny _ _ (eval iter X.env) _ _ s
 refine thn (hi pins s σ H _ I h) fun v s1 h1=>thn h1 fun itv s2 h2=>?_
 obtain⟨it,fp,tn,J,H2,rfl,I2,T,st2,f2,hW⟩:=h2;obtain⟨W,⟨m0,w0⟩,turn⟩:=hW s2.heap.objs.size I2.fresh
 refine wpAny_newObj_type (z56 (X:=X) (E:=X.xe) hcl hcf (fun x c e=>by
  obtain⟨v,o,ho,_⟩:=I2.cell x c e
  show c<(Heap.push _ _).objs.size
  rw[Heap.size_push]
  exact Nat.lt_succ_of_lt (Heap.lt_size ho)) (fun cs h4 m4 hns keep0 hcs=>?_))
 dsimp only at hns keep0 ⊢
 have I3:Inv X pins σ (upd H2 s2.heap.objs.size (.lst [])) { s2 with heap:=s2.heap.push { cls:=.type "list",dict:=none,data:=.seq ([]:List Value).toArray } }:=I2.lnew (its:=[]) (t':=s2.toks) .nil (Nat.zero_le _)
 generalize hs3:({ s2 with heap:=s2.heap.push { cls:=.type "list",dict:=none,data:=.seq ([]:List Value).toArray } }:Shared)=s3 at I3
 have hh3:s2.heap.push { cls:=.type "list",dict:=none,data:=.seq ([]:List Value).toArray }=s3.heap:=by rw[←hs3]
 have hsz3:s3.heap.objs.size=s2.heap.objs.size+1:=by rw[←hh3,Heap.size_push]
 rw[hh3]at hns keep0;have keep4:∀b o,s3.heap.get? b=some o->h4.get? b=some o:=keep0
 have hcs':CellsC X scope s3 h4 cs:=⟨fun x c e=>by rw[←hh3];exact hcs.old x c e,hcs.has,fun x y c e1 e2 hc=>hcs.inj x y c e1 e2 (by rw[←hh3]at hc;exact hc)⟩
 have fpn:∀b∈fp,(upd H2 s2.heap.objs.size (.lst [])) b=none/\y88 X pins (upd H2 s2.heap.objs.size (.lst [])) b:=fun b hb=>by
  obtain⟨o,e,_⟩:=T.obj 0 _ st2 b hb;have ne:b≠s2.heap.objs.size:=Nat.ne_of_lt (Heap.lt_size e)
  have z:(upd H2 s2.heap.objs.size (.lst [])) b=none:=by rw[v9 ne];exact (f2 b hb).1
  exact⟨z,z,(f2 b hb).2⟩
 have hfo:∀b∈fp,∃o,s3.heap.get? b=some o:=fun b hb=>by
  obtain⟨o,e,_⟩:=T.obj 0 _ st2 b hb
  exact⟨o,by rw[←hh3];exact Heap.get?_push_of_some _ e⟩
 have I4:∀tk,Inv (j4 X N scope cs s3.heap.objs.size fp s3 (upd H2 s2.heap.objs.size (.lst []))) [] (z8Z cap σ) (upd H2 s2.heap.objs.size (.lst [])) { s3 with heap:=h4,toks:=tk }:=fun tk =>
  y68 I3 hk hcell hcs' hfr (fun i j e=>by
   obtain⟨x,n1,n2,n3⟩:=hcap i j e
   exact⟨x,n1,n2,n3,hout _ (PySem.mem_of_lookup n3) rfl⟩) hlen (fun b hb=>(fpn b hb).2) hfo hns keep4
 have st4:tn 0 h4:=T.keep _ _ _ st2 fun b _ o e=>keep4 b o (by rw[←hh3];exact Heap.get?_push_of_some _ e)
 have stat:∀{H':Hp},(∀b∈fp,H' b=none)->∀b∈fp,y88 (j4 X N scope cs s3.heap.objs.size fp s3 (upd H2 s2.heap.objs.size (.lst []))) [] H' b:=fun {H'} hn b hb=>by
  obtain⟨o,e⟩:=hfo b hb;obtain⟨_,f1,f3,_,f5,_⟩:=f2 b hb
  refine⟨hn b hb,Nat.ne_of_lt (Heap.lt_size e),fun z=>?_,.inl hb,fun x c e=>(hcs'.old x c e).elim (fun z=>f5 x c z.1) (fun z q=>absurd (Heap.lt_size (q▸‹s3.heap.get? b=some o›)) (Nat.not_lt.mpr (Nat.le_of_lt z.1))),fun p hp=>absurd (show p∈([]:List (Addr×Obj)) from hp) (by simp)⟩
  rcases List.mem_cons.mp (I3.stkSub b z) with e'|e'
  ·exact f1 e'
  ·exact f3 e'
 have loop:∀s4:Shared,s4={ s3 with heap:=h4,toks:=s2.toks+([]:List (Str×Value)).length } ->
   codeAny (model X.prog X.w) X.A (.compLoop (.ListComp elt [⟨target,iter,ifs,0⟩] scope pos) 0 (.ref it) (.ref s2.heap.objs.size) (compEnvC scope cs s3.heap.objs.size X.env))
    (compPost (model X.prog X.w) X.A X.xe (some (assign (.Name y py) X.env)) (fun _ s'=>SP X pins D .next s') (.ref s2.heap.objs.size) s3.heap.objs.size) s4:=by
  rintro s4 rfl
  refine z6W (fun n s'=>∃i σ' H' acc,Inv (j4 X N scope cs s3.heap.objs.size fp s3 (upd H2 s2.heap.objs.size (.lst []))) [] σ' H' s'/\tn i s'.heap/\(∀b∈fp,H' b=none)/\W i n σ' H' acc) ?_ m0 ⟨0,_,_,[],I4 _,st4,fun b hb=>(fpn b hb).1,w0⟩
  rintro n s5 ⟨i,σ5,H5,acc,I5,st5,fr5,w5⟩
  rcases turn i n σ5 H5 acc w5 with⟨stop,q⟩|⟨go,hz,step⟩
  ·refine thn (T.done (j4 X N scope cs s3.heap.objs.size fp s3 (upd H2 s2.heap.objs.size (.lst []))) rfl rfl rfl hc i [] s5 σ5 H5 _ I5 (stat fr5) st5 stop) fun r s6 ⟨hr,I6⟩=>?_
   subst hr;obtain⟨m6,hn6,_⟩:=I6.loc
   have IX:Inv X pins σ H5 s6:=by
    refine I3.call' (s':=s6) (ch:=fp) I6.os ?_ (fun b u e=>I6.hok b u e) I6.bare (fun b hb=>?_)
    ·have u6:Un (frs X.stack) fp (upd H2 s2.heap.objs.size (.lst [])) H5 s3.heap s6.heap:=I6.base;exact u6
    ·obtain⟨_,f1,_,f3,f5,f6⟩:=f2 b hb
     exact⟨f3,f1,f5,f6⟩
   have ltL:X.env.locals<s3.heap.objs.size:=by
    obtain⟨m3,hn3,_⟩:=I3.loc;obtain⟨o,_,_,ho,_⟩:=hn3;exact Heap.lt_size ho
   have ltC:∀x c,X.env.cells.lookup x=some c->c<s3.heap.objs.size:=fun x c e=>by
    obtain⟨v,o,ho,_⟩:=I3.cell x c e;exact Heap.lt_size ho
   show wpAny _ X.A (assign (.Name y py) X.env (.ref s2.heap.objs.size)) _ _ s6
   refine wpAny_assign_Name (y1U IX hN hiy hy (v:=.ref s2.heap.objs.size) rfl (fun s7 I7 hsb7=>?_) hf)
   obtain⟨a7,sb7,ha7⟩:=hsb7
   have neA:s3.heap.objs.size≠a7:=by
    rcases ha7 with rfl|ha7
    ·exact Ne.symm (Nat.ne_of_lt ltL)
    ·exact Ne.symm (Nat.ne_of_lt (ltC _ _ ha7))
   refine⟨m6,hn6.sameBut sb7 neA,fun h' sb=>?_⟩
   have neC:∀b u,H5 b=some u->b≠s3.heap.objs.size:=fun b u e z=>by
    subst z
    have:=I6.free
    rw[show H5 s3.heap.objs.size=none from this]at e
    cases e
   refine⟨_,H5,?_,q⟩
   refine I7.call' (s':={ s7 with heap:=h' }) (ch:=[s3.heap.objs.size]) rfl ?_ (fun b u e=>?_) I7.bare (fun b hb=>?_)
   ·have ex:∀b,b∉[s3.heap.objs.size]->∀o,s7.heap.get? b=some o->h'.get? b=some o:=fun b hb o e=>(sb.2 b fun z=>hb (by rw[z];exact List.mem_singleton.mpr rfl)).trans e
    exact⟨fun b o e n hb hx=>ex b hx o e,fun b o e n hb hx=>⟨o.slots,ex b hx o e⟩,fun b o e n hx=>n,fun b o e hx=>⟨o,ex b hx o e⟩,fun _ _ e=>e,fun _ _ _ e=>e,fun b ps e=>⟨#[],by simpa using e⟩⟩
   ·refine (I7.hok b u e).stay (fun c v hc' q'=>(sb.2 c ?_).trans q') (fun _ q'=>q') (fun _ _ q'=>q') fun _ _ _ q'=>q'
    rcases hc' with rfl|hc'
    ·exact neC _ _ e
    ·exact neC _ _ hc'
   ·obtain rfl:=List.mem_singleton.mp hb
    refine⟨.inr ?_,Ne.symm (Nat.ne_of_lt ltL),fun x c e=>Nat.ne_of_lt (ltC x c e),fun p hp=>?_⟩
    ·exact I3.sz
    ·exact Nat.ne_of_lt (Heap.lt_size (I3.pin p hp).1)
  ·refine thn (T.item (j4 X N scope cs s3.heap.objs.size fp s3 (upd H2 s2.heap.objs.size (.lst []))) rfl rfl rfl hc i [] s5 σ5 H5 _ I5 (stat fr5) st5 go) fun r s6 ⟨u,hr,h6⟩=>?_
   subst hr
   refine thn h6 fun _ s7 ⟨x,H7,I7,r7,y7,st7,fr7⟩=>?_
   have I7':=I7.pinned (stat fr7) (T.obj _ _ st7)
   refine thn (hg _ _ _ _ _ _ s7 σ5 H7 x u _ I7' r7 (step x H7 y7)) fun _ s8 ⟨σ8,H8,I8,q8⟩=>?_
   refine thn (ht _ _ _ _ _ _ s8 σ8 H8 _ I8 q8) fun ok s9 ⟨H9,I9,q9⟩=>?_
   have again:∀{s':Shared} {σ':St} {H':Hp} {acc':List V} {m':Nat},Inv (j4 X N scope cs s3.heap.objs.size fp s3 (upd H2 s2.heap.objs.size (.lst []))) ([]++z9M fp s7.heap) σ' H' s'->m'<n->W (i+1) m' σ' H' acc' ->
     ∃m,m<n/\∃i σ'' H'' acc,Inv (j4 X N scope cs s3.heap.objs.size fp s3 (upd H2 s2.heap.objs.size (.lst []))) [] σ'' H'' s'/\tn i s'.heap/\(∀b∈fp,H'' b=none)/\W i m σ'' H'' acc:=fun {s' σ' H' acc' m'} I' hm w'=>by
    refine⟨m',hm,i+1,σ',H',acc',I'.unpinned,T.keep _ _ _ st7 fun b hb o e=>(I'.pin (b,o) (List.mem_append_right _ (List.mem_append_right _ (z1L hb e)))).1,fun b hb=>?_,w'⟩
    obtain⟨o,e,d⟩:=T.obj _ _ st7 b hb;exact (I'.pin (b,o) (List.mem_append_right _ (List.mem_append_right _ (z1L hb e)))).2.1
   cases ok with
   | false =>
    rw[if_neg Bool.false_ne_true]at q9;obtain⟨m',hm,w'⟩:=q9;exact again I9 hm w'
   | true =>
    rw[if_pos rfl]at q9
    show wpAny _ _ (eval elt _) _ _ s9
    refine thn (he _ _ _ _ _ _ s9 σ8 H9 _ I9 q9) fun xv s10 ⟨y,H10,I10,r10,hl10,m',hm,w'⟩=>?_
    refine thn (z86 _ s10 σ8 H10 (.ref s2.heap.objs.size) [y] (.ref s2.heap.objs.size) [xv] (fun (_:V) (H':Hp)=>H'=upd H10 s2.heap.objs.size (.lst (acc++[y]))) I10 rfl (.cons r10 .nil) ⟨_,acc,y,rfl,rfl,hl10,hz,rfl⟩) fun _ s11 ⟨_,H11,I11,_,e11⟩=>?_
    have e11':H11=upd H10 s2.heap.objs.size (.lst (acc++[y])):=e11
    subst e11'
    exact again I11 hm w'
 have hx:∀s4:Shared,s4={ s3 with heap:=h4,toks:=s2.toks+([]:List (Str×Value)).length }->tn 0 s4.heap:=by
  rintro s4 rfl
  exact st4
 subst hs3;exact codeAny_compStart_list (loop _ rfl) (T.self X.A 0 _ _ _ (hx _ rfl) (loop _ rfl))
theorem x28{i:Nat}{y:Str}{py spos pos:Pos}{elt target iter:Expr}{ifs:List Expr}{scope:Scope}{fi:z9->Option (List D)}{h:D->z9->Option z9}{ft:z9->Option Bool}{fe:z9->Option D}{go:z9->Option Out}(N:List Str)(cap:List (Option Nat))(hc:X.calm=true)(hi:SIc X target iter fi)(hg:∀cl C fp s H,SG (j4 X N scope cl C fp s H) target h)(ht:∀cl C fp s H,x1P (j4 X N scope cl C fp s H) ifs (tT X.K ft))(he:∀cl C fp s H,SE (j4 X N scope cl C fp s H) elt fe)(hN:X.N.Nodup)(hiy:X.N[i]?=some y)(hy:Loc X.env.scope y)(hf:X.fn y=true∨X.env.scope.names.lookup y=some .local)(hsw:swapsWith (.ListComp elt [⟨target,iter,ifs,0⟩] scope pos) (some (.Name y py)) spos.line X.env=pure true)(hok:z3B scope X.env.scope N cap X.N=true)(hs:∀x,foldedSetIterable iter X.env x=pure x)(himp:∀E σ H,tS X.K go E σ H->tF X.K (J6 cap fi h ft fe) σ H (fun v H1=>E.nx (σ.set i (some v)) H1)) :
  SS X (.Assign [.Name y py] (.ListComp elt [⟨target,iter,ifs,0⟩] scope pos) spos) go:=by
 unfold z3B at hok;simp only[Bool.and_eq_true]at hok;obtain⟨⟨⟨⟨⟨⟨h1,h2⟩,h3⟩,h4⟩,h5⟩,h6⟩,h7⟩:=hok;rw[List.all_eq_true]at h2 h3 h4 h5 h7
 refine z1A (x6S (N:=N) (cap:=cap) (wi:=tIc X.K fi) (g:=tG X.K h) (tt:=tT X.K ft) (te:=tD X.K fe) hc hi hg ht he (by simpa using h1) (fun y hy e=>by have z:=h2 y hy;rw[e]at z;simpa using z) (fun y hy e=>?_) (fun y hy e=>?_) (fun y hy e=>?_) (fun i j e=>?_) (by simpa using h6) hN hiy hy hf hsw hs)
  fun E σ H z=>y6G (X:=X) (fun i j k e1 e2=>?_) σ H _ (himp E σ H z)
 ·have z:=h3 y hy;rw[e]at z;simpa using z
 ·have z:=h4 y hy;rw[e]at z;simp only[beq_self_eq_true,if_true,Bool.and_eq_true]at z;simpa using z.1
 ·have z:=h4 y hy;rw[e]at z;simp only[beq_self_eq_true,if_true,Bool.and_eq_true,Bool.or_eq_true]at z;simpa using z.2
 ·have hi':i<cap.length:=(List.getElem?_eq_some_iff.mp e).1;have z:=h5 i (List.mem_range.mpr hi');rw[e]at z;dsimp only at z;split at z
  ·rename_i x hx;split at z
   ·rename_i y hy;simp only[Bool.and_eq_true,beq_iff_eq]at z;obtain⟨z1,z2⟩:=z;subst z1
    exact⟨x,hx,hy,z2⟩
   ·cases z
  ·cases z
 ·have hi':i<cap.length:=(List.getElem?_eq_some_iff.mp e1).1;have hj':j<cap.length:=(List.getElem?_eq_some_iff.mp e2).1;have z:=h7 i (List.mem_range.mpr hi');rw[List.all_eq_true]at z;have z2:=z j (List.mem_range.mpr hj');rw[e1,e2]at z2;simpa using z2
theorem x27{i:Nat}{y:Str}{py spos pos:Pos}{elt target iter:Expr}{ifs:List Expr}{scope:Scope}{fi:z9->Option (List D)}{h:D->z9->Option z9}{ft:z9->Option Bool}{fe:z9->Option D}(N:List Str)(cap:List (Option Nat))(hc:X.calm=true)(hi:SIc X target iter fi)(hg:∀cl C fp s H,SG (j4 X N scope cl C fp s H) target h)(ht:∀cl C fp s H,x1P (j4 X N scope cl C fp s H) ifs (tT X.K ft))(he:∀cl C fp s H,SE (j4 X N scope cl C fp s H) elt fe)(hN:X.N.Nodup)(hiy:X.N[i]?=some y:=by rfl)(hy:Loc X.env.scope y:=by first|exact Or.inl rfl|exact Or.inr rfl)(hf:X.fn y=true∨X.env.scope.names.lookup y=some .local:=by first|exact .inl rfl|exact .inr rfl)(hsw:swapsWith (.ListComp elt [⟨target,iter,ifs,0⟩] scope pos) (some (.Name y py)) spos.line X.env=pure true:=by rfl)(hok:z3B scope X.env.scope N cap X.N=true:=by rfl)(hs:∀x,foldedSetIterable iter X.env x=pure x:=by intro _;rfl) :
  SS X (.Assign [.Name y py] (.ListComp elt [⟨target,iter,ifs,0⟩] scope pos) spos) (z1B i (dLs (J6 cap fi h ft fe))) :=
 x28 N cap hc hi hg ht he hN hiy hy hf hsw hok hs fun E σ H ⟨ρ,o,B,H0,V0,Z,e,r,q⟩=>by
  unfold z1B at e;split at e
  ·rename_i d ed;cases e;unfold dLs at ed;obtain⟨ds,he,rfl⟩:=Option.map_eq_some_iff.mp ed
   refine⟨ρ,ds,B,H0,V0,Z,he,r,fun a xs H' s hn ha hr=>q _ H' Z ((r.mono s).set (j1.mpr ⟨a,xs,rfl,SqL.of ?_,hr.mono (z12 fun b hb=>List.mem_cons_of_mem _ hb)⟩))⟩
   rw[Q6 (r.newer hn)];exact ha
  ·cases e
end
end L3
namespace HT
open PySem PyProof.Rows
end HT
namespace L3
open PySem PySem.Spec PyProof.Rows L2 PySem.SeqAt
end L3
namespace L3
open PySem PySem.Spec PyProof.Rows L2
def z94(K:PySem.W.Frag)(cd:Value)(x:Str):Bool:=match cd with
 | .ref c=>(match K.lookup c with
  | some ⟨.type "code",_,.fields vs,_⟩=>(match (vs[11]?:Option Value) with|some (.ref P)=>PySem.W.codeHdIn K c P&&(K.lookup P).isNone|_=>false)&&(match (vs[1]?:Option Value) with|some (.str q _)=>q==x&&y62.contains q|_=>false)
  | _=>false)
 | _=>false
theorem y7C{K:PySem.W.Frag}{cd:Value}{x:Str}(h:z94 K cd x=true):∃c o vs P t,cd = .ref c/\K.lookup c=some o/\o.cls = .type "code"/\o.data = .fields vs/\vs[11]?=some (.ref P)/\vs[1]?=some (.str x t) /\
  PySem.W.codeHdIn K c P=true/\K.lookup P=none/\z89 vs=true:=by
 unfold z94 at h;split at h
 ·rename_i c;split at h
  ·rename_i od vs osl hk;rw[Bool.and_eq_true]at h;obtain⟨h1,h2⟩:=h;split at h1
   ·rename_i P hP;rw[Bool.and_eq_true]at h1;split at h2
    ·rename_i q t hq;rw[Bool.and_eq_true]at h2
     have e:q=x:=by simpa using h2.1
     subst e
     exact⟨c,_,vs,P,t,rfl,hk,rfl,rfl,hP,hq,h1.1,by simpa using h1.2,by unfold z89;rw[hq];exact h2.2⟩
    ·cases h2
   ·cases h1
  ·cases h
 ·cases h
structure BmAt(K:PySem.W.Frag)(mg:Str->Option Value):Prop where
 ex:True
theorem y83{p:Pos}{a b:Int}{c v:Value}(l:List Value)(h:TriplesOk l)(e:codeAmong p (l++[rawInt a,rawInt b,c])=some v):codeAmong p l=some v∨v=c:=by
 fun_induction TriplesOk l with
 | case1 =>
  simp only[List.nil_append,codeAmong,rawInt]at e;split at e
  ·exact .inr (Option.some.inj e).symm
  ·cases e
 | case2 i t j u y r ih =>
  simp only[List.cons_append,codeAmong]at e ⊢;split at e
  ·rename_i hc;rw[if_pos hc];exact .inl e
  ·rename_i hc;rw[if_neg hc];exact ih h e
 | case3 l h1 h2=>exact h.elim
abbrev y61(qual:Str)(params:Arguments)(body:Expr)(scope:Scope)(cl:List (Str×Addr))(doc pm:Value)(c:Addr)(ct:Value):Obj:=PySem.W.kdv_obj "<lambda>" qual params (.expr body) scope cl .none doc pm c ct
section
variable{X:Cx}{pins:List (Addr×Obj)}{σ:St}{H:Hp}{s:Shared}
theorem Inv.pin1{f:Addr}{o:Obj}(I:Inv X pins σ H s)(ho:s.heap.get? f=some o)(hn:H f=none)(hl:f≠X.env.locals)(hf:f∉X.fs)(hd:∀v,o.data≠.cell v):Inv X ((f,o)::pins) σ H s :=
 I.pins_of fun p hp=>by
  rcases List.mem_cons.mp hp with z|z
  ·subst z;exact⟨ho,hn,hl,hf,hd⟩
  ·exact I.pin p (List.mem_append_right _ z)
theorem w1C{A:Around}{E:Value->Shared->Prop}{params:Arguments}{body:Expr}{scope:Scope}{pos:Pos}{cl:List (Str×Addr)}{x:Str}{Q:Value->Shared->Prop}(I:Inv X pins σ H s)(tb:TB X.K H)(bm:BmAt X.K X.mg)(hl:z94 X.K X.env.code x=true)(hq:X.env.qual=x++".<locals>.")(hcl:closureFor scope X.env=pure cl)(hdef:defaultsOf params X.env=([],[]))(h:∀f c oc vs t doc pm ct s' H',u5 H H'->Inv X ((f,y61 (X.env.qual++"<lambda>") params body scope cl doc pm c ct)::pins) σ H' s'->(∃u,H' c=some (.frz oc u))->oc.data = .fields vs->vs[1]?=some (.str (X.env.qual++"<lambda>") t)->Q (.ref f) s') :
  wpAny (model X.prog X.w) A (eval (.Lambda params body scope pos) X.env) Q E s:=by
 refine PySem.W.kla_eval hdef ?_;rw[makeFunction_eq];simp only[List.zip_nil_right,List.filterMap_nil,List.isEmpty_nil,if_true,pure_bind];obtain⟨c,o,vs,P,t0,hc,k1,k2,k3,k4,k5,k6,k7,k8⟩:=y7C hl;obtain⟨q,t,e1,hP⟩:=tb c o vs P k1 k2 k3 k4 k7 k8;rw[k5]at e1;cases e1;obtain⟨qs,hp,ht,hent⟩:=I.hok P _ hP;have CH:PySem.W.CodeHd s.heap c P:=PySem.W.codeHd_of_K I.kIn k6;have hg:s.heap.Ns mainGlobals X.mg:=I.ok.mod.glob.keeps I.bk
 have hgP:mainGlobals≠P:=fun z=>by
  obtain⟨og,es,ep,e,_⟩:=I.ok.mod.glob
  have:=(I.bs _ _ e).2
  rw[z,hP]at this;cases this
 obtain⟨bm,ob,b1,b6,b2,b3,b4,b5⟩:=I.ok.mod.bm
 have b7:bm≠mainGlobals:=fun z=>by
  obtain⟨og,es,ep,e,hd,_⟩:=I.ok.mod.glob;rw[←z,b2]at e;cases e;rw[b5]at hd;cases hd
 have hB:s.heap.BuiltinsAt X.mg P:=⟨bm,ob,b1,b6,b7,(fun z=>by
  have:=(I.bs _ _ b2).2
  rw[z,hP]at this
  cases this),I.bk _ _ b2,b3,b4,b5⟩
 have tq:y8S #[Value.str x 0]=X.env.qual++"<lambda>":=by rw[hq];rfl
 cases hca:codeAmong pos qs.toList with
 | none =>
  refine PySem.W.kdv_makeTail hcl I.ok.glob hg hc CH hp ht hca hgP hB fun c' ct doc h' tk hx hge hlt hrec htb=>?_
  obtain⟨c2,oc,ws,t2,e2,hoc,hd,hv⟩:=hrec;cases e2;have hcn:H c'=none:=I.hok.fresh hge
  have cne:∀b u,H b=some u->b≠c':=fun b u e z=>by rw[z,hcn]at e;cases e
  have sm:u5 H (upd H c' (.frz oc (.own P))):=v8 hcn;have hsz:s.heap.objs.size≤h'.objs.size:=Nat.le_trans hge (Nat.le_of_lt hlt);generalize hfo:PySem.W.kdv_obj "<lambda>" (X.env.qual++"<lambda>") params (.expr body) scope cl .none doc ((X.mg "__name__").getD .none) c' ct=fo
  have hok:HOk X.prog X.w (upd H c' (.frz oc (.own P))) (h'.push fo):=fun b u e=>by
   by_cases hb:b=c'
   ·subst hb;rw[x5]at e;cases e
    exact⟨Heap.get?_push_of_some _ hoc,oc,Heap.get?_push_of_some _ hoc⟩
   ·rw[v9 hb]at e;by_cases hbP:b=P
    ·subst hbP;rw[hP]at e;cases e
     refine⟨qs++#[rawInt pos.line,rawInt pos.col,.ref c'],Heap.get?_push_of_some _ htb,?_,fun p v hv'=>?_⟩
     ·have:=TriplesOk_snoc pos.line pos.col (.ref c') qs.toList ht
      simpa using this
     ·have hv2:codeAmong p (qs.toList++[rawInt pos.line,rawInt pos.col,.ref c'])=some v:=by simpa using hv'
      rcases y83 qs.toList ht hv2 with z|z
      ·obtain⟨c3,oc3,vs3,t3,z1,z2,z3,z4⟩:=hent p v z
       exact⟨c3,oc3,vs3,t3,z1,sm _ _ z2,z3,z4⟩
      ·exact⟨c',oc,ws,t2,z,x5,hd,by rw[tq];exact hv⟩
    ·refine (I.hok b u e).stay (fun d v hd' r=>Heap.get?_push_of_some _ (hx d v ?_ r)) (fun d r=>sm _ _ r) (fun d ys r=>sm _ _ r) fun d ob' ys r=>sm _ _ r
     rcases hd' with z|z
     ·rw[z];exact hbP
     ·intro z2;rw[z2,hP]at z;cases z
  have un:Un X.fs [] H (upd H c' (.frz oc (.own P))) s.heap (h'.push fo):=by
   have kp:∀b ob',s.heap.get? b=some ob'->H b=none->(h'.push fo).get? b=some ob':=fun b ob' e n=>Heap.get?_push_of_some _ (hx b ob' (fun z=>by rw[z,hP]at n;cases n) e)
   refine⟨fun b ob' e n _ _=>kp b ob' e n,fun b ob' e n _ _=>⟨ob'.slots,kp b ob' e n⟩,fun b ob' e n _=>?_,fun b ob' e _=>?_,fun b ys e=>sm _ _ e,fun b ob' u e=>sm _ _ e,fun b ps e=>⟨#[],by rw[sm _ _ e];simp⟩⟩
   ·rw[v9]
    ·exact n
    ·intro z
     have:=Heap.lt_size e
     rw[z]at this;exact absurd (Nat.lt_of_lt_of_le this hge) (Nat.lt_irrefl _)
   ·by_cases hb:b=P
    ·rw[hb];exact⟨_,Heap.get?_push_of_some _ htb⟩
    ·exact⟨ob',Heap.get?_push_of_some _ (hx b ob' hb e)⟩
  have I2:=I.un (h':=h'.push fo) (t':=tk) un hok;refine h h'.objs.size c' oc ws t2 doc ((X.mg "__name__").getD .none) ct _ _ sm ?_ ⟨_,x5⟩ hd hv
  have hf:(h'.push fo).get? h'.objs.size=some fo:=Heap.get?_push_size _ (by rw[←hfo];rfl)
  rw[←hfo]at hf I2 ⊢;refine Inv.pin1 I2 hf ?_ ?_ ?_ ?_
  ·rw[v9 (Nat.ne_of_gt hlt)];exact I.hok.fresh hsz
  ·exact Nat.ne_of_gt (Nat.lt_of_lt_of_le I.lt hsz)
  ·exact I.nofs hsz
  ·intro v z;cases z
 | some v =>
  obtain⟨c',oc,ws,t2,rfl,z2,z3,z4⟩:=hent pos v hca
  refine PySem.W.kdv_makeTailHit hcl I.ok.glob hg hc CH hp ht hca hB fun ct doc h' tk hx hsz=>?_
  rw[tq]at z4
  have I2:=I.kept (h':=h'.push (y61 (X.env.qual++"<lambda>") params body scope cl doc ((X.mg "__name__").getD .none) c' ct)) (t':=tk) fun b u e=>Heap.get?_push_of_some _ (hx b u e)
  refine h h'.objs.size c' oc ws t2 doc ((X.mg "__name__").getD .none) ct _ H (u5.refl H) ?_ ⟨_,z2⟩ z3 z4;refine Inv.pin1 I2 (Heap.get?_push_size _ rfl) (I.hok.fresh hsz) (Nat.ne_of_gt (Nat.lt_of_lt_of_le I.lt hsz)) (I.nofs hsz) ?_;intro v z;cases z
end
abbrev y2L(X:Cx)(A:Around)(N:List Str)(qual:Str)(scope:Scope)(cl:List (Str×Addr))(f:Addr)(cd:Value)(s:Shared)(H:Hp):Cx where
 prog:=X.prog
 w:=X.w
 K:=X.K
 mg:=X.mg
 base:=X.base
 A:=A.deeper (PySem.W.envX qual scope s.heap.objs.size f cd cl)
 N:=N
 s₀:=s
 H₀:=H
 env:=PySem.W.envX qual scope s.heap.objs.size f cd cl
 outer:=X.stack
 stack:=PySem.W.envX qual scope s.heap.objs.size f cd cl::X.stack
 ex:=[]
 fn:=fun x=>match scope.names.lookup x with|some .local=>true|_=>false
 calm:=true
 pn:=[]
 xe:=fun _ _=>False
section
variable{X:Cx}{pins:List (Addr×Obj)}{σ:St}{H:Hp}{s:Shared}{scope:Scope}{cl:List (Str×Addr)}{N:List Str}{cap:List (Option Nat)}{A:Around}{qual p:Str}{f:Addr}{cd u:Value}{v:V}
theorem x7S{h1:Heap}{tk:Nat}(I:Inv X pins σ H s)(hAf:A.frames=some X.stack)(hAh:A.handled=none)(hk:scope.kind = .function)(hcell:∀y∈scope.names,y.2≠.cell)(hcl:∀x c,cl.lookup x=some c->X.env.cells.lookup x=some c/\(x,NameKind.free)∈scope.names)(hcf:∀x,(x,NameKind.free)∈scope.names->∃c,cl.lookup x=some c)(hfr:∀x∈scope.names,x.2 = .free->scope.names.lookup x.1=some .free)(hcap:∀(i j:Nat),cap[i]?=some (some j)->∃x,N[i]?=some x/\X.N[j]?=some x/\scope.names.lookup x=some .free/\(X.env.scope.names.lookup x=some .cell∨X.env.scope.names.lookup x=some .free))(hlen:cap.length=N.length)(h0:cap[0]?=some none)(hp:N[0]?=some p)(hpl:scope.names.lookup p=some .local)(rv:W3 v u)(hns:h1.Ns s.heap.objs.size (fun y=>([(p,u)]:List (Str×Value)).reverse.lookup y))(keep:∀b o,s.heap.get? b=some o->h1.get? b=some o) :
  Inv (y2L X A N qual scope cl f cd s H) [] ((z8Z cap σ).set 0 (some v)) H { s with heap:=h1,toks:=tk }:=by
 have e0:=I.env0
 have noA:∀b:Addr,b∉(y2L X A N qual scope cl f cd s H).ex:=fun b z=>absurd (show b∈([]:List Addr) from z) (by simp)
 refine⟨⟨e0.mod,hk,rfl,rfl,Nat.le_refl _,fun x y c e1 e2=>I.ok.inj x y c (hcl x c e1).1 (hcl y c e2).1,fun x hx=>?_,fun x c hx e=>?_,fun _=>hAh,Around.frames_deeper hAf,.inr ⟨rfl,rfl⟩,fun b z=>absurd z (noA b),e0.bs,e0.bsz,fun b _ _=>noA b,fun b z=>absurd z (noA b),e0.funs,e0.frf⟩,
  rfl,e0.bare,Un.kept keep,⟨_,hns,fun i y w e1 e2 e3=>?_⟩,fun x c e=>?_,e0.hok.fresh (Nat.le_refl _),fun x c e=>I.freeC x c (hcl x c e).1,fun q hq=>absurd (show q∈([]:List (Addr×Obj)) from hq) (by simp),e0.hok.kept keep,?_⟩
 ·have hx:scope.names.lookup x=some .cell∨scope.names.lookup x=some .free:=hx
  rcases hx with z|z
  ·exact absurd rfl (hcell _ (PySem.mem_of_lookup z))
  ·exact hcf x (PySem.mem_of_lookup z)
 ·have hx':(match scope.names.lookup x with|some .local=>true|_=>false)=true:=hx
  have:=hfr _ (hcl x c e).2 rfl
  rw[this]at hx'
  cases hx'
 ·cases i with
  | zero =>
   have e1':N[0]?=some y:=e1;rw[hp]at e1'
   cases e1'
   have hl0:0<(z8Z cap σ).length:=by
    unfold z8Z;rw[List.length_map];exact (List.getElem?_eq_some_iff.mp h0).1
   rw[List.getElem?_set_self hl0]at e2;cases e2
   refine⟨u,rv,.inl ⟨hpl,?_⟩⟩
   simp[List.lookup_cons]
  | succ i =>
   rw[List.getElem?_set_ne (by omega)]at e2
   have hc:∃j,cap[i+1]?=some (some j)/\σ[j]?=some (some w):=by
    unfold z8Z at e2;rw[List.getElem?_map]at e2
    cases hci:cap[i+1]? with
    | none=>rw[hci]at e2;cases e2
    | some o =>
     rw[hci]at e2
     cases o with
     | none=>cases e2
     | some j =>
      refine⟨j,rfl,?_⟩
      have e2':(σ[j]?).bind id=some w:=Option.some.inj e2
      cases hs:σ[j]? with
      | none=>rw[hs]at e2';cases e2'
      | some q =>
       rw[hs]at e2'
       have:q=some w:=e2'
       rw[this]
   obtain⟨j,hj,hv⟩:=hc;obtain⟨x,n1,n2,n3,n4⟩:=hcap (i+1) j hj
   have exy:x=y:=by
    have:N[i+1]?=some y:=e1
    rw[n1]at this;exact Option.some.inj this
   subst exy;obtain⟨mm,hm,hl⟩:=I.loc;obtain⟨u',r,look⟩:=hl j x w n2 hv (.inr n4)
   refine⟨u',r,.inr ⟨.inr n3,?_⟩⟩
   rcases look with⟨k,_⟩|⟨k,c,e,z⟩
   ·have k':X.env.scope.names.lookup x=some .local:=k;rw[k']at n4
    rcases n4 with q|q<;>cases q
   ·obtain⟨c',hc'⟩:=hcf x (PySem.mem_of_lookup n3)
    have:=(hcl x c' hc').1
    rw[e]at this;cases this;obtain⟨o,ho,hd⟩:=z
    exact⟨c,hc',o,keep _ _ ho,hd⟩
 ·obtain⟨v',o,ho,hd⟩:=I.cell x c (hcl x c e).1
  exact⟨v',o,keep _ _ ho,hd⟩
 ·rw[List.length_set];unfold z8Z;rw[List.length_map];exact hlen
theorem x3J{params:Arguments}{body:Expr}{doc pm ct:Value}{c:Addr}{oc:Obj}{vs:Array Value}{t:Tok}{te:TE}{Q:VK}{E:Value->Shared->Prop}(I:Inv X pins σ H s)(hAf:A.frames=some X.stack)(hr:Room 0 A)(hf:s.heap.get? f=some (y61 qual params body scope cl doc pm c ct))(hc:∃u,H c=some (.frz oc u))(hd:oc.data = .fields vs)(hv:vs[1]?=some (.str qual t))(hk:scope.kind = .function)(hcell:∀y∈scope.names,y.2≠.cell)(hco:scope.isCoroutine=false)(hgen:scope.isGenerator=false)(hcl:∀x c,cl.lookup x=some c->X.env.cells.lookup x=some c/\(x,NameKind.free)∈scope.names)(hcf:∀x,(x,NameKind.free)∈scope.names->∃c,cl.lookup x=some c)(hfr:∀x∈scope.names,x.2 = .free->scope.names.lookup x.1=some .free)(hcap:∀(i j:Nat),cap[i]?=some (some j)->∃x,N[i]?=some x/\X.N[j]?=some x/\scope.names.lookup x=some .free/\(X.env.scope.names.lookup x=some .cell∨X.env.scope.names.lookup x=some .free))(hlen:cap.length=N.length)(h0:cap[0]?=some none)(hp:N[0]?=some p)(hpl:scope.names.lookup p=some .local)(rv:W3 v u)(hb:bindArgs (PySem.W.kdv_fn "<lambda>" qual params (.expr body) scope cl .none doc pm (.ref c) ct) ⟨[u],[]⟩=pure [(p,u)])(he:PE (y2L X A N qual scope cl f (.ref c) s H) body te)(h:te ((z8Z cap σ).set 0 (some v)) H Q) :
  wpAny (model X.prog X.w) A (call (.ref f) [u]) (EP X pins σ Q) E s:=by
 obtain⟨uu,hc⟩:=hc;have hoc:s.heap.get? c=some oc:=(I.hok c _ hc).1;refine wpAny_call (PySem.W.kla_callFunE hr.depth hf rfl hco hgen rfl ⟨c,oc,vs,t,rfl,hoc,hd,hv⟩ ?_);rw[hb]
 refine wpAny_pure (wpAny_newFunctionEnv hcell (fun y hy=>?_) (fun h₁ hns hsb=>⟨I.nolimit.fresh _ hsb,?_⟩) hk)
 ·rw[List.mem_singleton.mp hy];exact hpl
 have keep:∀b o,s.heap.get? b=some o->h₁.get? b=some o:=fun b o e=>hsb.extBut b o (Nat.ne_of_lt (Heap.lt_size e)) (Heap.get?_push_of_some _ e)
 show codeAny _ _ (.expr body (PySem.W.envX qual scope s.heap.objs.size f (.ref c) cl)) _ _
 have I2:Inv (y2L X A N qual scope cl f (.ref c) s H) [] ((z8Z cap σ).set 0 (some v)) H { s with heap:=h₁,toks:=s.toks+([(p,u)]:List (Str×Value)).length } :=
  x7S I hAf hr.hd hk hcell hcl hcf hfr hcap hlen h0 hp hpl rv hns keep
 refine PySem.W.kla_codeExpr (wpAny_mono (he [] _ _ H Q I2 h) (fun x s' hs=>?_) fun _ _ z=>z.elim)
 obtain⟨w,H',J,r,q⟩:=hs;exact I.after ⟨w,H',J.os,J.bare,J.base,J.hok,r,q⟩
end
end L3
namespace L3
open PySem PySem.Spec PyProof.Rows L2 PySem.SeqAt PySem.W
section
variable{X:Cx}{pins:List (Addr×Obj)}{σ:St}{H:Hp}{s:Shared}
theorem Inv.repin{b:Addr}{o o':Obj}{h':Heap}{t':Nat}(J:Inv X ((b,o)::pins) σ H s)(hk:Heap.SameBut b s.heap h')(ho:h'.get? b=some o')(h0:X.s₀.heap.objs.size≤b)(hc:∀x c,X.env.cells.lookup x=some c->c≠b)(hp:∀p∈X.pn++pins,p.1≠b)(hd:∀v,o'.data≠.cell v):Inv X ((b,o')::pins) σ H { s with heap:=h',toks:=t' }:=by
 obtain⟨_,p2,p3,p4,_⟩:=J.pin (b,o) (List.mem_append_right _ List.mem_cons_self)
 have J1:Inv X pins σ H s:=J.pins_of fun p z=>J.pin p (List.mem_append_right _ (List.mem_cons_of_mem _ z))
 exact Inv.pin1 (J1.turned (h':=h') (t':=t') (fun c u ne e=>(hk.2 c ne).trans e) p2 p3 (.inr h0) hc hp) ho p2 p3 p4 hd
theorem Inv.tail{p:Addr×Obj}(J:Inv X (p::pins) σ H s):Inv X pins σ H s:=J.pins_of fun q z=>J.pin q (List.mem_append_right _ (List.mem_cons_of_mem _ z))
theorem Inv.told{a b:Addr}{oa ob:Obj}{ys:List V}{h':Heap}{t':Nat}(J:Inv X ((b,ob)::(a,oa)::pins) σ H s)(hk:∀c u,c≠a->c≠b->s.heap.get? c=some u->h'.get? c=some u)(hb:∃u,h'.get? b=some u)(ha:z0W X.prog X.w (upd H a (.lst ys)) h' a (.lst ys))(h0:X.s₀.heap.objs.size≤a)(h1:X.s₀.heap.objs.size≤b)(hc:∀x c,X.env.cells.lookup x=some c->c≠a/\c≠b)(hp:∀p∈X.pn++pins,p.1≠a/\p.1≠b):Inv X pins σ (upd H a (.lst ys)) { s with heap:=h',toks:=t' }:=by
 obtain⟨q1,q2,q3,q4,_⟩:=J.pin (b,ob) (List.mem_append_right _ List.mem_cons_self);obtain⟨p1,p2,p3,p4,_⟩:=J.pin (a,oa) (List.mem_append_right _ (List.mem_cons_of_mem _ List.mem_cons_self));have sm:u5 H (upd H a (.lst ys)):=v8 p2;have J1:Inv X pins σ H s:=Inv.tail (Inv.tail J)
 have nt:∀c u,H c=some u->c≠a/\c≠b:=fun c u e=>⟨(fun z=>by rw[z,p2]at e;cases e),(fun z=>by rw[z,q2]at e;cases e)⟩
 refine J1.step (g':=s.gens) (d':=s.drawn) (ch:=[a,b]) (fun c hc'=>?_) (fun c u _ _ hn e _=>hk c u (fun z=>hn (by simp[z])) (fun z=>hn (by simp[z])) e) (fun c u _ _ hn e _=>⟨u.slots,hk c u (fun z=>hn (by simp[z])) (fun z=>hn (by simp[z])) e⟩)
  (fun c u hn e n=>by rw[v9 (fun z=>hn (by simp[z]))];exact n) (fun c u hn e=>⟨u,hk c u (fun z=>hn (by simp[z])) (fun z=>hn (by simp[z])) e⟩) (fun c xs e=>sm _ _ e) (fun c o' u e=>sm _ _ e) (fun c ps e=>⟨#[],by rw[sm _ _ e];simp⟩)
  (fun m hm=>?_) (fun c u e=>?_) J1.bare
 ·rcases List.mem_cons.mp hc' with z|z
  ·subst z
   exact⟨.inr h0,p3,fun x c e=>(hc x c e).1,fun p z=>(hp p z).1⟩
  ·rw[List.mem_singleton.mp z]
   exact⟨.inr h1,q3,fun x c e=>(hc x c e).2,fun p z=>(hp p z).2⟩
 ·obtain⟨o',es',ep',ho',r'⟩:=hm
  exact⟨o',es',ep',hk _ _ (Ne.symm p3) (Ne.symm q3) ho',r'⟩
 ·by_cases hb':c=a
  ·subst hb'
   rw[x5]at e;cases e;exact ha
  ·rw[v9 hb']at e
   refine (J1.hok c u e).stay (fun d v hd r=>?_) (fun d r=>sm _ _ r) (fun d xs r=>sm _ _ r) fun d o' u r=>sm _ _ r
   rcases hd with z|z
   ·rw[z]at r ⊢;exact hk _ _ (nt c u e).1 (nt c u e).2 r
   ·exact hk _ _ (nt _ _ z).1 (nt _ _ z).2 r
variable{A:Around}{E:Value->Shared->Prop}
theorem y57{a:Addr}{f:Value}{vs:List Value}{us:List V}{n:Nat}{P:PySem.Fin->Shared->Prop}{Z:List Addr}{kds:List D}{κ:SortKind}{lt:Nat->Nat->Bool}(O:KOrd lt)(I:Inv X ((a,seqObj "list" vs.toArray n)::pins) σ H s)(h64:vs.length<64)(hkl:kds.length=vs.length)(rv:Q4 us vs)(h0:X.s₀.heap.objs.size≤a)(hc:∀x c,X.env.cells.lookup x=some c->c<a)(hp:∀p∈X.pn++pins,p.1<a)
  (turn:∀(i:Nat) (u:Value) (d:D),vs[i]?=some u->kds[i]?=some d->∀(more:List (Addr×Obj)) (H1:Hp) (s1:Shared),u5 H H1->Inv X (more++pins) σ H1 s1 ->
   wpAny (model X.prog X.w) A (call f [u]) (EP X (more++pins) σ fun k H2=>u5 H1 H2/\Rep X.K (j7 Z H2) d k) (fun _ _=>False) s1)
  (hkind:∀(more:List (Addr×Obj)) (H1:Hp) (s1:Shared) (ks:List V) (kvs:List Value),u5 H H1->Inv X (more++pins) σ H1 s1->Q4 ks kvs->u7 X.K (j7 Z H1) kds ks->2≤kvs.length->∀Q:SortKind->Shared->Prop,Q κ s1->wpAny (model X.prog X.w) A (keyKind' kvs.toArray) Q (fun _ _=>False) s1)
  (hlt:∀(more:List (Addr×Obj)) (H1:Hp) (s1:Shared) (ks:List V) (kvs:List Value),u5 H H1->Inv X (more++pins) σ H1 s1->Q4 ks kvs->u7 X.K (j7 Z H1) kds ks->∀i j,i<kvs.length->j<kvs.length->∀C:Bool->Shared->Prop,C (lt i j) s1 ->
   wpAny (model X.prog X.w) A (keyLt' κ (kvs.getD i Value.none) (kvs.getD j Value.none)) C (fun _ _=>False) s1)
  (fin:∀(p:Array Nat) (H1:Hp) (s1:Shared),p.size=vs.length->p.Perm (List.toArray (List.range vs.length))->Up lt p vs.length->u5 H H1->H1 a=none->Inv X pins σ (upd H1 a (.lst (p.toList.map fun i=>us.getD i .non))) s1->P (.done (.ret .none)) s1) :
  wpAny (model X.prog X.w) A (ksk_tree a f false) P E s:=by
 have ho:s.heap.get? a=some (seqObj "list" vs.toArray n):=(I.pin _ (List.mem_append_right _ List.mem_cons_self)).1;have ha:a<s.heap.objs.size:=Heap.lt_size ho
 have hzz:vs.toArray.size≤sizeLine:=by rw[List.size_toArray,sizeLine_eq];omega
 obtain⟨e1,ho1⟩:∃e1,(s.heap.update a (Obj.mapSeq fun _=>(#[]:Array Value))).get? a=some (seqObj "list" #[] e1):=⟨_,get?_update_seq ho fun _=>#[]⟩
 have I1:Inv X ((a,seqObj "list" #[] e1)::pins) σ H { s with heap:=s.heap.update a (Obj.mapSeq fun _=>(#[]:Array Value)),toks:=s.toks } :=
  Inv.repin I (Heap.SameBut.update _ _ _) ho1 h0 (fun x c e=>Nat.ne_of_lt (hc x c e)) (fun p z=>Nat.ne_of_lt (hp p z)) (fun v z=>by cases z)
 unfold ksk_tree;refine wpAny_bind (listItems_at ho rfl (wpAny_bind (listUpdate_at ho rfl ?_ hzz (Nat.zero_le _))))
 refine wpAny_bind (seqEpoch_at ho1 rfl (wpAny_bind (wpAny_newTuple (wpAny_bind (wpAny_newList (wpAny_holding ?_) (Nat.zero_le _))) (by show vs.length≤_;rw[sizeLine_eq];omega))))
 generalize hh1:s.heap.update a (Obj.mapSeq fun _=>(#[]:Array Value))=h1 at I1 ho1 ⊢
 have hs1:s.heap.objs.size=h1.objs.size:=by rw[←hh1,Heap.size_update]
 generalize hkS:(h1.push (seqObj "tuple" vs.toArray 0)).objs.size=kS
 have kS1:kS=h1.objs.size+1:=by rw[←hkS,size_push']
 have akS:a<kS:=by rw[kS1,←hs1];exact Nat.lt_succ_of_lt ha
 have ckS:∀x c,X.env.cells.lookup x=some c->c≠kS:=fun x c e=>Nat.ne_of_lt (Nat.lt_trans (hc x c e) akS)
 have I2:Inv X ((kS,seqObj "list" #[] 0)::(a,seqObj "list" #[] e1)::pins) σ H { s with heap:=(h1.push (seqObj "tuple" vs.toArray 0)).push (seqObj "list" #[] 0),toks:=s.toks }:=by
  have J:=I1.kept (h':=(h1.push (seqObj "tuple" vs.toArray 0)).push (seqObj "list" #[] 0)) (t':=s.toks) fun b u e=>Heap.get?_push_of_some _ (Heap.get?_push_of_some _ e)
  refine Inv.pin1 J (by rw[←hkS];exact Heap.get?_push_size _ rfl) (I1.hok.fresh (by rw[kS1];exact Nat.le_succ _)) (Nat.ne_of_gt (by rw[kS1];exact Nat.lt_succ_of_lt I1.lt)) (I1.nofs (by rw[kS1];exact Nat.le_succ _)) (fun v z=>by cases z)
 have pkS:∀p∈X.pn++(a,seqObj "list" #[] e1)::pins,p.1≠kS:=fun p z=>by
  rcases List.mem_append.mp z with z|z
  ·exact Nat.ne_of_lt (Nat.lt_trans (hp p (List.mem_append_left _ z)) akS)
  ·rcases List.mem_cons.mp z with z|z
   ·rw[z];exact Nat.ne_of_lt akS
   ·exact Nat.ne_of_lt (Nat.lt_trans (hp p (List.mem_append_right _ z)) akS)
 have h0k:X.s₀.heap.objs.size≤kS:=Nat.le_trans h0 (Nat.le_of_lt akS)
 show wpAny _ _ (ksk_rest a f false vs.toArray e1 (.ref kS)) P E { s with heap:=(h1.push (seqObj "tuple" vs.toArray 0)).push (seqObj "list" #[] 0) }
 unfold ksk_rest;refine wpAny_bind (wpAny_rule ?_);rw[List.forIn_toArray]
 refine wpAny_bind (ksk_fold (fun i s'=>∃(H1:Hp) (kA:Array Value) (ks:List V) (e:Nat),Inv X ((kS,seqObj "list" kA e)::(a,seqObj "list" #[] e1)::pins) σ H1 s'/\u5 H H1/\Q4 ks kA.toList/\u7 X.K (j7 Z H1) (kds.take i) ks) vs 0 _
  ⟨H,#[],[],0,I2,u5.refl H,.nil,by rw[List.take_zero];exact u7.nil⟩ ?step ?done)
 case step =>
  rintro j x s' hx ⟨H1,kA,ks,e,J,sm,rk,rr⟩
  simp only[Nat.zero_add]at rr ⊢;have hj:j<vs.length:=(List.getElem?_eq_some_iff.mp hx).1
  have hkj:kds[j]?=some kds[j]:=List.getElem?_eq_getElem (by omega)
  have hz:kA.size≤vs.length:=by
   have l1:=rk.length;have l2:=rr.length;have l3:kA.toList.length=kA.size:=Array.length_toList;rw[List.length_take]at l2;omega
  refine wpAny_bind (wpAny_attempt (wpAny_mono (turn j x _ hx hkj [(kS,seqObj "list" kA e),(a,seqObj "list" #[] e1)] H1 s' sm J) (fun k s'' he=>?_) fun _ _ z=>z.elim))
  obtain⟨kv,H2,J2,rkv,sm2,rd⟩:=he;have J2':Inv X ((kS,seqObj "list" kA e)::(a,seqObj "list" #[] e1)::pins) σ H2 s'':=J2;have hok:s''.heap.get? kS=some (seqObj "list" kA e):=(J2'.pin _ (List.mem_append_right _ List.mem_cons_self)).1;obtain⟨e2,hk2⟩:∃e2,(s''.heap.update kS (Obj.mapSeq (·.push k))).get? kS=some (seqObj "list" (kA.push k) e2):=⟨_,get?_update_seq hok (·.push k)⟩
  try dsimp only
  refine wpAny_bind (listUpdate_at hok rfl ?_ (by rw[sizeLine_eq];omega) (Nat.le_trans (Nat.le_of_eq (Array.size_push ..)) (by rw[sizeLine_eq];omega)))
  refine wpAny_pure ⟨rfl,H2,kA.push k,ks++[kv],e2,?_,sm.trans sm2,?_,?_⟩
  ·exact Inv.repin (t':=s''.toks) J2' (Heap.SameBut.update _ _ _) hk2 h0k ckS pkS (fun v z=>by cases z)
  ·rw[Array.toList_push];exact rk.append (.cons rkv .nil)
  ·rw[List.take_add_one,hkj];exact u7.append (rr.mono (y3 sm2)) (u7.one rd)
 case done =>
  rintro s' ⟨H1,kA,ks,e,J,sm,rk,rr⟩
  have rr':u7 X.K (j7 Z H1) kds ks:=by
   rw[List.take_of_length_le (by omega)]at rr
   exact rr
  have lk:kA.size=vs.length:=by
   have l1:=rk.length;have l2:=rr'.length;have l3:kA.toList.length=kA.size:=Array.length_toList;omega
  have hok:s'.heap.get? kS=some (seqObj "list" kA e):=(J.pin _ (List.mem_append_right _ List.mem_cons_self)).1;have hoa:s'.heap.get? a=some (seqObj "list" #[] e1):=(J.pin _ (List.mem_append_right _ (List.mem_cons_of_mem _ List.mem_cons_self))).1
  try dsimp only
  refine wpAny_bind (listItems_at hok rfl ?_);have eK:kA.toList.toArray=kA:=Array.toArray_toList
  have last:∀(st':SortSt) (p:Array Nat),p.size=vs.length->p.Perm (List.toArray (List.range vs.length))->Up lt p vs.length->(arrOf st').map (·.2)=List.toArray (p.toList.map fun i=>vs.getD i Value.none)->failedOf st'=none ->
    wpAny (model X.prog X.w) A (ksk_tail a false e1 (.ref kS) st') P E s':=fun st' p h1 h2 h3 h4 h5=>by
   have s1:=Heap.SameBut.update s'.heap kS (Obj.mapSeq fun _=>(#[]:Array Value))
   have na1:(s'.heap.update kS (Obj.mapSeq fun _=>(#[]:Array Value))).get? a=some (seqObj "list" #[] e1):=(s1.2 a (Nat.ne_of_lt akS)).trans hoa
   unfold ksk_tail
   try dsimp only
   refine wpAny_bind (listUpdate_at hok rfl ?_ (by rw[lk,sizeLine_eq];omega) (Nat.zero_le _))
   refine wpAny_bind (wpAny_letGo ?_);refine wpAny_bind (seqEpoch_at na1 rfl ?_);rw[h4,h5]
   refine wpAny_bind (listUpdate_at na1 rfl ?_ (Nat.zero_le _) (by
    show (if false=true then _ else List.toArray (p.toList.map fun i=>vs.getD i Value.none)).size≤sizeLine+1
    rw[if_neg Bool.false_ne_true,List.size_toArray,List.length_map,Array.length_toList,h1,sizeLine_eq]
    omega))
   simp only[bne_self_eq_false,Bool.false_eq_true,if_false];refine wpAny_pure (fin p H1 _ h1 h2 h3 sm ?_ ?_)
   ·exact (J.pin _ (List.mem_append_right _ (List.mem_cons_of_mem _ List.mem_cons_self))).2.1
   ·have pl:∀i∈p.toList,i<vs.length:=z4T h2
    have s2:=Heap.SameBut.update (s'.heap.update kS (Obj.mapSeq fun _=>(#[]:Array Value))) a (Obj.mapSeq fun _=>List.toArray (p.toList.map fun i=>vs.getD i Value.none))
    refine Inv.told (t':=s'.toks) J (fun c u n1 n2 e=>(s2.2 c n1).trans ((s1.2 c n2).trans e)) ?_ ?_ h0 h0k (fun x c e=>⟨Nat.ne_of_lt (hc x c e),ckS x c e⟩) (fun q z=>⟨Nat.ne_of_lt (hp q z),pkS q ?_⟩)
    ·have:(s'.heap.update kS (Obj.mapSeq fun _=>(#[]:Array Value))).get? kS=some _:=get?_update_seq hok fun _=>#[]
     exact⟨_,(s2.2 kS (Nat.ne_of_gt akS)).trans this⟩
    ·refine⟨?_,p.toList.map fun i=>vs.getD i Value.none,_,x2Z rv _ fun i hi=>by have:=pl i hi;have:=rv.length;omega,get?_update_seq na1 _⟩
     rw[List.length_map,Array.length_toList,h1,sizeLine_eq];omega
    ·rcases List.mem_append.mp z with z|z
     ·exact List.mem_append_left _ z
     ·exact List.mem_append_right _ (List.mem_cons_of_mem _ z)
  unfold ksk_end
  try dsimp only
  simp only[Bool.false_eq_true,if_false]
  have lks:kA.toList.length=vs.length:=by rw[Array.length_toList];exact lk
  by_cases h2:vs.toArray.size<2
  ·rw[if_pos h2,if_pos h2];refine wpAny_bind (wpAny_pure ?_);rw[StateT.run_pure];refine wpAny_bind (wpAny_pure ?_);dsimp only
   refine last (SortSt.mk' general' (kA.zip vs.toArray) #[] 7 none) (List.toArray (List.range vs.length)) (by simp) (Array.Perm.refl _) (fun i j hij hj=>?_) ?_ rfl
   ·have:i=j:=by rw[List.size_toArray]at h2;omega
    subst this;exact O.irr _
   ·rw[show (List.toArray (List.range vs.length)).toList=List.range vs.length from rfl,z66]
    apply Array.toList_inj.mp
    show ((kA.zip vs.toArray).map (·.2)).toList=vs
    apply List.ext_getElem
    ·simp[lk]
    ·intro i g1 g2;simp
  ·rw[if_neg h2,if_neg h2]
   have h2':2≤vs.length:=by rw[List.size_toArray]at h2;omega
   have zk:=hkind [(kS,seqObj "list" kA e),(a,seqObj "list" #[] e1)] H1 s' ks kA.toList sm J rk rr' (by omega) (fun κ' s''=>κ'=κ/\s''=s') ⟨rfl,rfl⟩
   rw[eK]at zk
   refine wpAny_bind (wpAny_mono zk (fun κ' s'' hq=>?_) fun _ _ x=>x.elim)
   obtain⟨hq1,hq2⟩:=hq;rw[hq1,hq2]
   obtain⟨p,ep,p1,p2,p3⟩:=y8W O (n:=vs.length) (by omega)
   have kr:=kat_run (prog:=X.prog) (w:=X.w) (A:=A) (s:=s') (E:=fun _ _=>False) (κ:=κ) (ks:=kA.toList) (vs:=vs) (Q:=fun st' s''=>∃q,q.size=vs.length/\arrOf st'=q.map (kas_item (kA.toList.toArray.zip vs.toArray))/\failedOf st'=none/\q=p/\s''=s') lks h2' h64 (fun q st' s'' a1 a2 a3 a4=>⟨q,a1,a2,a3,a4⟩)
    (z69 (lt:=lt) (n:=vs.length) (Ok:=fun s''=>s''=s') (fun i j C s'' hi hj hs hC=>by
     rw[hs];unfold kas_ask;have z0:=hC s' rfl
     exact hlt [(kS,seqObj "list" kA e),(a,seqObj "list" #[] e1)] H1 s' ks kA.toList sm J rk rr' i j (by omega) (by omega) C z0) _ s' (y8X (by omega)) rfl (fun s'' hs=>⟨ep,hs⟩))
   rw[eK]at kr
   refine wpAny_bind (wpAny_mono kr ?_ fun _ _ e=>e.elim)
   rintro ⟨⟨⟩,st'⟩ s'' ⟨q,q1,q2,q3,hqp,hqs⟩
   rw[hqs];rw[hqp]at q2;rw[←eK]at q2;exact last st' p p1 p2 p3 (kat_snds lks q2) q3
end
structure CapOk(sc outer:Scope)(N:List Str)(cap:List (Option Nat))(M:List Str):Prop where
 kind:sc.kind = .function
 cell:∀y∈sc.names,y.2≠.cell
 loc:∀y∈sc.names,y.2 = .local->sc.names.lookup y.1=some .local
 fre:∀y∈sc.names,y.2 = .free->sc.names.lookup y.1=some .free
 out:∀y∈sc.names,y.2 = .free->outer.names.lookup y.1=some .cell∨outer.names.lookup y.1=some .free
 sel:∀(i j:Nat),cap[i]?=some (some j)->∃x,N[i]?=some x/\M[j]?=some x/\sc.names.lookup x=some .free
 len:cap.length=N.length
 inj:∀(i j k:Nat),cap[i]?=some (some k)->cap[j]?=some (some k)->i=j
theorem x43{sc outer:Scope}{N:List Str}{cap:List (Option Nat)}{M:List Str}(hok:x3K sc outer N cap M=true):CapOk sc outer N cap M:=by
 unfold x3K z3B at hok;simp only[Bool.and_eq_true]at hok;obtain⟨⟨⟨⟨⟨⟨⟨h1,_⟩,h3⟩,h4⟩,h5⟩,h6⟩,h7⟩,h2⟩:=hok;rw[List.all_eq_true]at h2 h3 h4 h5 h7
 refine⟨by simpa using h1,fun y hy=>by simpa using h2 y hy,fun y hy e=>?_,fun y hy e=>?_,fun y hy e=>?_,fun i j e=>?_,by simpa using h6,fun i j k e1 e2=>?_⟩
 ·have z:=h3 y hy;rw[e]at z;simpa using z
 ·have z:=h4 y hy;rw[e]at z;simp only[beq_self_eq_true,if_true,Bool.and_eq_true]at z;simpa using z.1
 ·have z:=h4 y hy;rw[e]at z;simp only[beq_self_eq_true,if_true,Bool.and_eq_true,Bool.or_eq_true]at z;simpa using z.2
 ·have hi':i<cap.length:=(List.getElem?_eq_some_iff.mp e).1;have z:=h5 i (List.mem_range.mpr hi');rw[e]at z;dsimp only at z
  cases hn:N[i]? with
  | none=>rw[hn]at z;cases z
  | some x =>
   rw[hn]at z;dsimp only at z
   cases hm:M[j]? with
   | none=>rw[hm]at z;cases z
   | some y =>
    rw[hm]at z;simp only[Bool.and_eq_true,beq_iff_eq]at z;obtain⟨rfl,z2⟩:=z
    exact⟨x,rfl,rfl,z2⟩
 ·have hi':i<cap.length:=(List.getElem?_eq_some_iff.mp e1).1;have hj':j<cap.length:=(List.getElem?_eq_some_iff.mp e2).1;have z:=h7 i (List.mem_range.mpr hi');rw[List.all_eq_true]at z;have z2:=z j (List.mem_range.mpr hj');rw[e1,e2]at z2;simpa using z2
def x3E(fb:z9->Option D)(ρ:z9):List D->Option (List D)
 | []=>some []
 | d::ds=>match fb (ρ.set 0 (some (.sh d))) with|some k=>(match x3E fb ρ ds with|some ks=>some (k::ks)|none=>none)|none=>none
theorem y5V{fb:z9->Option D}{ρ:z9}:∀{ds ks:List D},x3E fb ρ ds=some ks->ks.length=ds.length
 | [],ks,e=>by cases e;rfl
 | d::ds,ks,e=>by
  unfold x3E at e;split at e
  ·split at e
   ·rename_i ks' h;cases e;rw[List.length_cons,List.length_cons,y5V h]
   ·cases e
  ·cases e
theorem x02{fb:z9->Option D}{ρ:z9}:∀{ds ks:List D} {i:Nat} {d k:D},x3E fb ρ ds=some ks->ds[i]?=some d->ks[i]?=some k->fb (ρ.set 0 (some (.sh d)))=some k
 | [],ks,i,d,k,_,h,_=>by simp at h
 | d'::ds,ks,i,d,k,e,h1,h2=>by
  unfold x3E at e;split at e
  ·rename_i k' hk';split at e
   ·rename_i ks' h;cases e
    cases i with
    | zero=>simp at h1 h2;subst h1;subst h2;exact hk'
    | succ i=>exact x02 (i:=i) h (by simpa using h1) (by simpa using h2)
   ·cases e
  ·cases e
def z8K{α:Type}(le:α->α->Bool)(kk:List α)(ds:List D):List D:=((kk.zip ds).mergeSort fun a b=>le a.1 b.1).map (·.2)
def leI(a b:Int):Bool:=decide (a≤b)
def x2B(ks ds:List D):Option (List D):=if ds.length<64 then
  (match Y5 ks with
  | some ns=>if ns.Nodup then some (z8K leI ns ds) else none
  | none=>(match z1Z ks with|some nss=>if nss.Nodup then some (z8K leL nss ds) else none|none=>none))
 else none
def y01(cap:List (Option Nat))(fa:z9->Option (List D))(fb:z9->Option D):z9->Option (List D):=fun ρ=>match fa ρ with
 | some ds=>(match x3E fb (y1I cap ρ) ds with|some ks=>x2B ks ds|none=>none)
 | none=>none
theorem z7Z{α:Type}{le:α->α->Prop}:∀{xs ys:List α},(∀a∈xs,∀b∈xs,le a b->le b a->a=b)->xs.Perm ys->xs.Pairwise le->ys.Pairwise le->(∀a,le a a)->xs=ys
 | [],ys,_,p,_,_,_=>(List.nil_perm.mp p).symm
 | x::xs,ys,anti,p,h1,h2,rf=>by
  cases ys with
  | nil=>exact absurd (List.perm_nil.mp p) (by simp)
  | cons y ys =>
   have hx:=List.pairwise_cons.mp h1;have hy:=List.pairwise_cons.mp h2
   have e:x=y:=by
    have m1:x∈y::ys:=p.mem_iff.mp List.mem_cons_self;have m2:y∈x::xs:=p.mem_iff.mpr List.mem_cons_self;refine anti x List.mem_cons_self y m2 ?_ ?_
    ·rcases List.mem_cons.mp m2 with z|z
     ·rw[z];exact rf x
     ·exact hx.1 y z
    ·rcases List.mem_cons.mp m1 with z|z
     ·rw[z];exact rf y
     ·exact hy.1 x z
   subst e
   rw[z7Z (fun a ha b hb=>anti a (List.mem_cons_of_mem _ ha) b (List.mem_cons_of_mem _ hb)) (List.perm_cons x |>.mp p) hx.2 hy.2 rf]
theorem y8K{α β:Type}:∀{kk:List α} {ds:List β},kk.Nodup->∀a∈kk.zip ds,∀b∈kk.zip ds,a.1=b.1->a=b
 | [],_,_,a,ha,_,_,_=>by simp at ha
 | _::_,[],_,a,ha,_,_,_=>by simp at ha
 | k::kk,d::ds,nd,a,ha,b,hb,e=>by
  rw[List.zip_cons_cons]at ha hb;have nd':=List.nodup_cons.mp nd
  rcases List.mem_cons.mp ha with z|z
  ·rcases List.mem_cons.mp hb with y|y
   ·rw[z,y]
   ·exfalso
    have:=(List.of_mem_zip y).1
    rw[←e,z]at this;exact nd'.1 this
  ·rcases List.mem_cons.mp hb with y|y
   ·exfalso
    have:=(List.of_mem_zip z).1
    rw[e,y]at this;exact nd'.1 this
   ·exact y8K nd'.2 a z b y e
theorem x21{α β:Type}(dk:α)(dd:β):∀{kk:List α} {ds:List β},kk.length=ds.length->∀is:List Nat,(∀i∈is,i<kk.length)->(is.map fun i=>(kk.getD i dk,ds.getD i dd))=is.map fun i=>(kk.zip ds).getD i (dk,dd):=fun {kk ds} hl is hi=>by
 apply List.map_congr_left;intro i h;have h1:=hi i h
 have h2:i<ds.length:=by omega
 have e1:(kk.zip ds)[i]?=some (kk[i],ds[i]):=by
  rw[List.getElem?_eq_getElem (by rw[List.length_zip];omega),List.getElem_zip]
 rw[j2 (List.getElem?_eq_getElem h1),j2 (List.getElem?_eq_getElem h2),j2 e1]
theorem y5O{α:Type}{le:α->α->Bool}(tr:∀a b c,le a b=true->le b c=true->le a c=true)(tot:∀a b,(le a b||le b a)=true)(anti:∀a b,le a b=true->le b a=true->a=b){kk:List α}{ds:List D}{dk:α}(hl:kk.length=ds.length)(nd:kk.Nodup){p:Array Nat}(p1:p.size=kk.length)(p2:p.Perm (List.toArray (List.range kk.length)))(p3:Up (fun i j=>!le (kk.getD j dk) (kk.getD i dk)) p kk.length):(p.toList.map fun i=>ds.getD i .non)=z8K le kk ds:=by
 have pl:=z4T p2
 have e:(p.toList.map fun i=>ds.getD i .non)=(p.toList.map fun i=>(kk.getD i dk,ds.getD i .non)).map (·.2):=by rw[List.map_map];rfl
 rw[e];unfold z8K
 congr 1
 have hz:(kk.zip ds).length=kk.length:=by rw[List.length_zip];omega
 have pm:(p.toList.map fun i=>(kk.getD i dk,ds.getD i .non)).Perm (kk.zip ds):=by
  rw[x21 dk D.non hl _ pl]
  exact x3D (us:=kk.zip ds) (by rw[hz];exact p2)
 have up:((kk.zip ds).mergeSort fun a b=>le a.1 b.1).Pairwise fun a b=>le a.1 b.1=true:=List.pairwise_mergeSort (le:=fun a b:α×D=>le a.1 b.1) (fun a b c=>tr _ _ _) (fun a b=>tot _ _) _
 refine z7Z (le:=fun a b:α×D=>le a.1 b.1=true) (fun a ha b hb h1 h2=>y8K nd a (pm.mem_iff.mp ha) b (pm.mem_iff.mp hb) (anti _ _ h1 h2)) (pm.trans (List.mergeSort_perm _ _).symm) ?_ up (fun a=>by
  have:=tot a.1 a.1
  simpa using this)
 rw[List.pairwise_map]
 exact (z2Q p1 p3).imp fun h=>by simpa using h
theorem x4X(a b c:Int)(h1:leI a b=true)(h2:leI b c=true):leI a c=true:=by
 have:=of_decide_eq_true h1
 have:=of_decide_eq_true h2
 exact decide_eq_true (by omega)
theorem x07(a b:Int):(leI a b||leI b a)=true:=by
 unfold leI;by_cases h:a≤b
 ·simp[h]
 ·simp;omega
theorem x3I(a b:Int)(h1:leI a b=true)(h2:leI b a=true):a=b:=by
 have:=of_decide_eq_true h1
 have:=of_decide_eq_true h2
 omega
theorem x4W(a b c:List Int)(h1:leL a b=true)(h2:leL b c=true):leL a c=true:=by
 unfold leL at h1 h2 ⊢;simp only[Bool.not_eq_true']at h1 h2 ⊢;exact z5G a b c h1 h2
theorem x06(a b:List Int):(leL a b||leL b a)=true:=by
 unfold leL
 cases h:HT.lexLt b a with
 | false=>rfl
 | true=>rw[z41 b a h];rfl
theorem x3H(a b:List Int)(h1:leL a b=true)(h2:leL b a=true):a=b:=by
 unfold leL at h1 h2;simp only[Bool.not_eq_true']at h1 h2;exact y0U a b h2 h1
theorem y5P{α:Type}{le:α->α->Bool}(tr:∀a b c,le a b=true->le b c=true->le a c=true)(tot:∀a b,(le a b||le b a)=true)(kk:List α)(dk:α):KOrd (fun i j=>!le (kk.getD j dk) (kk.getD i dk)):=by
 refine⟨fun i j h=>?_,fun i j k h1 h2=>?_⟩
 ·simp only[Bool.not_eq_true',Bool.not_eq_false']at h ⊢
  have:=tot (kk.getD i dk) (kk.getD j dk)
  rw[h,Bool.or_false]at this;exact this
 ·simp only[Bool.not_eq_false']at h1 h2 ⊢;exact tr _ _ _ h1 h2
section
variable{X:Cx}{e body:Expr}{params:Arguments}{scope:Scope}{lp kp p pos:Pos}{fa:z9->Option (List D)}{fb:z9->Option D}
theorem x2G{x pn:Str}{k:Nat}(N:List Str)(cap:List (Option Nat))(hm:X.mg "sorted" = none)(bm:BmAt X.K X.mg)(hl:z94 X.K X.env.code x=true)(hr:Room (k+3) X.A)(ha:SQ X e fa)(he:∀A' cl f cd s H,Room k (y2L X A' N (X.env.qual++"<lambda>") scope cl f cd s H).A->SE (y2L X A' N (X.env.qual++"<lambda>") scope cl f cd s H) body fb)(hok:x3K scope X.env.scope N cap X.N=true:=by rfl)(h0:cap[0]?=some none:=by rfl)(hp:N[0]?=some pn:=by rfl)(hpl:scope.names.lookup pn=some .local:=by rfl)(hco:scope.isCoroutine=false:=by rfl)(hgen:scope.isGenerator=false:=by rfl)(hq:X.env.qual=x++".<locals>.":=by rfl)(hdef:defaultsOf params X.env=([],[]):=by rfl)(hb:∀(cl:List (Str×Addr)) (doc pm:Value) (c:Addr) (ct u:Value),bindArgs (PySem.W.kdv_fn "<lambda>" (X.env.qual++"<lambda>") params (.expr body) scope cl .none doc pm (.ref c) ct) ⟨[u],[]⟩=pure [(pn,u)]:=by intros;rfl)(hg:Gl X "sorted":=by rfl)(hv:bootBuiltins "sorted" = some (.builtin "sorted"):=by decide +kernel)(hs:starEach [e] X.env=(false,eval e X.env)::starEach [] X.env:=by exact y2 rfl) :
  SF X (.Call (.Name "sorted" p) [e] [⟨some "key",.Lambda params body scope lp,kp⟩] pos) (y01 cap fa fb):=by
 intro pins s σ H Q I h;have C:=x43 hok;obtain⟨ρ,es,B,H0,V0,Z,e1,r,q⟩:=h;unfold y01 at e1;split at e1
 ·rename_i ds eds;split at e1
  ·rename_i ks eks
   refine wpAny_Call_Name_kw (z3N I hg hm hv ?_ (by decide) (by decide))
   have hst:backTo pos (starEach [e] X.env)=(false,eval e X.env)::backTo pos (starEach [] X.env):=by
    rw[hs];rfl
   refine PyProof.Rows.callWith_kw ?_ hst (by rw[hst];rfl)
   refine thn (J9 ha W4 hs pos pins s σ H (fun vs H1=>∃a xs,vs=[.ref a]/\u5 H H1/\(SqL X.K H1 a xs∨SqT X.K (j7 Z H1) a xs)/\u7 X.K (j7 Z H1) ds xs) I ⟨ρ,ds,B,H0,V0,Z,eds,r,fun a xs H1 s1 hq rr=>⟨a,xs,rfl,s1,hq,rr⟩⟩) fun us s1 ⟨vs,H1,I1,rvs,a,xs,hvs,sm1,hsq,rr⟩=>?_
   subst hvs;obtain⟨u,rfl,ru⟩:=z3D rvs;cases ru;have R1:=r.mono sm1
   obtain⟨cl,hcl,hc1,hc2⟩:=x18 (env:=X.env) (scope:=scope) fun y hy hf=>I1.ok.has y.1 (C.out y hy hf)
   show wpAny _ _ (evalAll ((do let v ←eval (.Lambda params body scope lp) X.env;standAt pos;pure v)::[])) _ _ s1
   refine wpAny_evalAll_cons (wpAny_bind (w1C I1 R1.tb bm hl hq hcl hdef fun f c oc ws t doc pm ct s2 H2 sm2 I2 hfc hd hws=>wpAny_bind (wpAny_standAt (wpAny_pure (wpAny_evalAll_nil ?_)))))
   show wpAny _ _ (call (.builtin "sorted") [.ref a] [(Str.ofString "key",.ref f)]) _ _ s2
   have src:∃its:List Value,Q4 xs its/\(s2.heap.IsList a its.toArray∨IsTup s2.heap a its.toArray):=by
    rcases hsq with z|z
    ·obtain⟨its,rv,pl,_⟩:=I2.list (sm2.seq z)
     exact⟨its,rv,.inl pl.isList⟩
    ·obtain⟨its,rv,pl,_⟩:=I2.tuple (v3 (y4.trans sm2) z)
     exact⟨its,rv,.inr pl⟩
   obtain⟨its,rv,hlt⟩:=src;have l1:=rr.length;have l2:=rv.length;have l3:=y5V eks;unfold x2B at e1;split at e1
   ·rename_i h64
    have hz:its.length≤sizeLine:=by rw[sizeLine_eq];omega
    generalize hfo:y61 (X.env.qual++"<lambda>") params body scope cl doc pm c ct=fo at I2
    have g1:((s2.heap.push (seqObj "list" #[] 0)).update s2.heap.objs.size (Obj.mapSeq (·++its.toArray))).objs.size=s2.heap.objs.size+1:=by rw[Heap.size_update,size_push']
    have g2:(((s2.heap.push (seqObj "list" #[] 0)).update s2.heap.objs.size (Obj.mapSeq (·++its.toArray))).push (seqObj "list" its.toArray 0)).get? (s2.heap.objs.size+1)=some (seqObj "list" its.toArray 0):=by
     have z:=Heap.get?_push_size ((s2.heap.push (seqObj "list" #[] 0)).update s2.heap.objs.size (Obj.mapSeq (·++its.toArray))) (o:=seqObj "list" its.toArray 0) rfl;rw[g1]at z;exact z
    have g3:∀b o,s2.heap.get? b=some o->(((s2.heap.push (seqObj "list" #[] 0)).update s2.heap.objs.size (Obj.mapSeq (·++its.toArray))).push (seqObj "list" its.toArray 0)).get? b=some o:=fun b o z =>
     Heap.get?_push_of_some _ ((Heap.get?_update_other _ _ (Ne.symm (Nat.ne_of_lt (Heap.lt_size z)))).trans (Heap.get?_push_of_some _ z))
    have I3:Inv X ((s2.heap.objs.size+1,seqObj "list" its.toArray 0)::(f,fo)::pins) σ H2 { s2 with heap:=((s2.heap.push (seqObj "list" #[] 0)).update s2.heap.objs.size (Obj.mapSeq (·++its.toArray))).push (seqObj "list" its.toArray 0),toks:=s2.toks } :=
     Inv.pin1 (I2.kept (t':=s2.toks) g3) g2 (I2.hok.fresh (Nat.le_succ _)) (Nat.ne_of_gt (Nat.lt_succ_of_lt I2.lt)) (I2.nofs (Nat.le_succ _)) (fun v z=>by cases z)
    have cln:∀y c',X.env.cells.lookup y=some c'->c'<s2.heap.objs.size+1:=fun y c' z=>by
     obtain⟨v,o,ho,_⟩:=I2.cell y c' z;exact Nat.lt_succ_of_lt (Heap.lt_size ho)
    have pln:∀w∈X.pn++(f,fo)::pins,w.1<s2.heap.objs.size+1:=fun w z=>Nat.lt_succ_of_lt (Heap.lt_size (I2.pin w z).1)
    have turn:∀(i:Nat) (u:Value) (d:D),its[i]?=some u->ks[i]?=some d->∀(more:List (Addr×Obj)) (H3:Hp) (s3:Shared),u5 H2 H3->Inv X (more++(f,fo)::pins) σ H3 s3 ->
      wpAny (model X.prog X.w) X.A.in1.in1 (call (.ref f) [u]) (EP X (more++(f,fo)::pins) σ fun k' H4=>u5 H3 H4/\Rep X.K (j7 Z H4) d k') (fun _ _=>False) s3:=fun i u d hu hkd more H3 s3 sm3 I4=>by
     have hi:i<its.length:=(List.getElem?_eq_some_iff.mp hu).1
     have hd0:ds[i]?=some ds[i]:=List.getElem?_eq_getElem (by omega)
     obtain⟨v,hv',rv0⟩:=(rr.mono (y3 (sm2.trans sm3))).get hd0;obtain⟨u',hu',ru⟩:=rv.get hv';rw[hu]at hu'
     cases hu'
     have hf0:s3.heap.get? f=some fo:=(I4.pin (f,fo) (List.mem_append_right _ (List.mem_append_right _ List.mem_cons_self))).1;rw[←hfo]at hf0;obtain⟨uu,hfc'⟩:=hfc;have hr2:Room (k+1) X.A.in1.in1:=(Room.in1 (Room.in1 hr))
     exact x3J (te:=tD X.K fb) I4 I.ok.frames (hr2.mono (Nat.zero_le _)) hf0 ⟨uu,sm3 _ _ hfc'⟩ hd hws C.kind C.cell hco hgen hc1 hc2 C.fre
      (fun i j z=>let ⟨y,n1,n2,n3⟩:=C.sel i j z;⟨y,n1,n2,n3,C.out _ (PySem.mem_of_lookup n3) rfl⟩) C.len h0 hp hpl ru (hb cl doc pm c ct u) (he _ _ _ _ _ _ (hr2.deeper _))
      ⟨(y1I cap ρ).set 0 (some (.sh ds[i])),d,B,H0,V0,Z,x02 eks hd0 hkd,((y0H C.inj (r.mono (sm1.trans (sm2.trans sm3)))).set rv0),fun w H4 sm4 rw'=>⟨sm4,rw'⟩⟩
    have fin:∀{es':List D},es'=es->∀(pp:Array Nat) (H3:Hp) (s3:Shared),pp.size=its.length->pp.Perm (List.toArray (List.range its.length))->(pp.toList.map fun i=>ds.getD i .non)=es'->u5 H2 H3->H3 (s2.heap.objs.size+1)=none ->
      Inv X ((f,fo)::pins) σ (upd H3 (s2.heap.objs.size+1) (.lst (pp.toList.map fun i=>xs.getD i .non))) s3->EP X pins σ Q (.ref (s2.heap.objs.size+1)) s3:=fun {es'} ee pp H3 s3 z1 z2 z3 sm3 hn I4=>by
     have pl:=z4T z2;have sm4:=sm1.trans (sm2.trans sm3);have hn0:H (s2.heap.objs.size+1)=none:=sm4.free hn
     refine⟨.ref (s2.heap.objs.size+1),_,Inv.tail I4,rfl,q _ _ _ (sm4.trans (v8 hn)) hn0 x5 ?_⟩
     rw[←ee,←z3]
     exact (x6W (rr.mono (y3 (sm2.trans sm3))) _ fun i hi=>by have:=pl i hi;omega).mono (z11 hn (v8 hn))
    refine PyProof.Rows.call_function_entry_kw kind_sorted plain_sorted entry_sorted (ksk_s1 _ _) ?_;unfold Builtin.«sorted»;refine wpAny_bind (m:=checkCount "sorted" 1 1 _) (wpAny_pure ?_)
    have col:∀{A':Around} {E':Value->Shared->Prop} {Q':List Value->Shared->Prop},Q' its { s2 with heap:=(s2.heap.push (seqObj "list" #[] 0)).update s2.heap.objs.size (Obj.mapSeq (·++its.toArray)) }->wpAny (model X.prog X.w) A' (collect (.ref a)) Q' E' s2:=fun z=>by
     rcases hlt with y|y
     ·exact collect_list y z hz
     ·exact z9W y z hz
    refine wpAny_bind (col (wpAny_bind (wpAny_newList ?_ hz)))
    show wpAny _ _ _ _ _ { s2 with heap:=((s2.heap.push (seqObj "list" #[] 0)).update s2.heap.objs.size (Obj.mapSeq (·++its.toArray))).push (seqObj "list" its.toArray 0) }
    rw[g1];refine wpAny_bind (wpAny_holding (wpAny_call_entry_kw slot_list_sort ⟨_,g2,rfl⟩ entry_list_sort ?body (ksk_l1 _ _)))
    case body =>
     show wpAny (model X.prog X.w) X.A.in1.in1 (Builtin.«list.sort» ⟨[.ref (s2.heap.objs.size+1)],[(Str.ofString "key",.ref f)]⟩) _ _ _
     rw[ksk_t1];have h0':X.s₀.heap.objs.size≤s2.heap.objs.size+1:=Nat.le_succ_of_le I2.sz;split at e1
     ·rename_i ns hn;split at e1
      ·rename_i nd;cases e1;have hks:=Q8 hn
       have lns:ns.length=its.length:=by rw[hks,List.length_map]at l3;omega
       refine y57 (κ:=oneType') (y5P x4X x07 ns 0) I3 (by omega) (by omega) rv h0' cln pln turn (fun more H3 s3 kx kvs sm3 I4 rk rkk g Q' q'=>?_) (fun more H3 s3 kx kvs sm3 I4 rk rkk i j hi hj C' hC=>?_)
        (fun pp H3 s3 z1 z2 z3 sm3 hn' I4=>⟨_,rfl,wpAny_pure ⟨_,rfl,fin rfl pp H3 s3 z1 z2 (y5O x4X x07 x3I (by omega) nd (by omega) (by rw[lns];exact z2) (by rw[lns];exact z3)) sm3 hn' I4⟩⟩)
       ·rw[hks,Q3]at rkk;subst rkk;have hi:IntsAre kvs ns:=K1 rk;rw[z8A hi g];exact wpAny_pure q'
       ·rw[hks,Q3]at rkk;subst rkk;have hI:IntsAre kvs ns:=K1 rk;obtain⟨ti,ei⟩:=z6D hI hi;obtain⟨tj,ej⟩:=z6D hI hj;rw[ei,ej,keyLt'_oneType];refine oneLt_int ?_
        have:(!leI (ns.getD j 0) (ns.getD i 0))=decide (ns.getD i 0<ns.getD j 0):=by
         unfold leI;by_cases z:ns.getD i 0<ns.getD j 0
         ·rw[decide_eq_true z,decide_eq_false (by omega)];rfl
         ·rw[decide_eq_false z,decide_eq_true (by omega)];rfl
        rw[this]at hC;exact hC
      ·cases e1
     ·split at e1
      ·rename_i nss hn;split at e1
       ·rename_i nd;cases e1;obtain⟨hks,hne⟩:=z4N hn
        have lns:nss.length=its.length:=by rw[hks,List.length_map]at l3;omega
        refine y57 (κ:=tuples' (Value.type "int" != Value.type "tuple")) (y5P x4W x06 nss []) I3 (by omega) (by omega) rv h0' cln pln turn (fun more H3 s3 kx kvs sm3 I4 rk rkk g Q' q'=>?_) (fun more H3 s3 kx kvs sm3 I4 rk rkk i j hi hj C' hC=>?_)
         (fun pp H3 s3 z1 z2 z3 sm3 hn' I4=>⟨_,rfl,wpAny_pure ⟨_,rfl,fin rfl pp H3 s3 z1 z2 (y5O x4W x06 x3H (by omega) nd (by omega) (by rw[lns];exact z2) (by rw[lns];exact z3)) sm3 hn' I4⟩⟩)
        ·rw[hks]at rkk
         obtain⟨fs,t1,t2,t3⟩:=x0G I4 (fun _ _ z=>z) hne (rkk.mono y4) rk
         refine kat_kind t1 (by omega) (fun v hv=>?_) rfl q'
         obtain⟨n,t,rfl⟩:=t3 v hv;exact Looks.of_pure rfl
        ·rw[hks]at rkk;have rkk':=rkk.mono (y4 (Z:=Z));have lk1:=rkk.length;have lk2:=rk.length;rw[List.length_map]at lk1
         have gi:i<nss.length:=by omega
         have gj:j<nss.length:=by omega
         obtain⟨xi,f1,r1⟩:=rkk'.get (i:=i) (d:=D.tup (nss[i].map D.int)) (by rw[List.getElem?_map,List.getElem?_eq_getElem gi];rfl)
         obtain⟨xj,f2,r2⟩:=rkk'.get (i:=j) (d:=D.tup (nss[j].map D.int)) (by rw[List.getElem?_map,List.getElem?_eq_getElem gj];rfl)
         obtain⟨ui,k1,s1'⟩:=rk.get f1;obtain⟨uj,k2,s2'⟩:=rk.get f2;obtain⟨ai,oi,ji,ni,rfl,hoi,hci,hdi,ii⟩:=y1Q I4 r1 s1';obtain⟨aj,oj,jj,nj,rfl,hoj,hcj,hdj,ij⟩:=y1Q I4 r2 s2';rw[j2 k1,j2 k2];rw[j2 (List.getElem?_eq_getElem gi),j2 (List.getElem?_eq_getElem gj)]at hC
         have:(!leL nss[j] nss[i])=HT.lexLt nss[i] nss[j]:=by unfold leL;rw[Bool.not_not]
         rw[this]at hC;refine kat_lt hoi hdi hoj hdj (y4A ii ij 0 _ ?_ hC);have a1:=ii.length;have a2:=ij.length;rw[Array.length_toList]at a1 a2;rw[a1,a2]
       ·cases e1
      ·cases e1
   ·cases e1
  ·cases e1
 ·cases e1
end
def W2(gt:Nat->Nat->Bool):Nat->Nat->Nat->Nat
 | 0,_,b=>b
 | r+1,j,b=>W2 gt r (j+1) (if gt j b=true then j else b)
section
variable{X:Cx}{pins:List (Addr×Obj)}{σ:St}{H:Hp}{s:Shared}
theorem Inv.swap{p q:Addr×Obj}(J:Inv X (p::q::pins) σ H s):Inv X (q::p::pins) σ H s:=J.pins_of fun r z=>J.pin r (List.mem_append_right _ (by
 rcases List.mem_cons.mp z with z|z
 ·rw[z];exact List.mem_cons_of_mem _ List.mem_cons_self
 ·rcases List.mem_cons.mp z with z|z
  ·rw[z];exact List.mem_cons_self
  ·exact List.mem_cons_of_mem _ (List.mem_cons_of_mem _ z)))
theorem Inv.repin'{b:Addr}{o o':Obj}{h':Heap}{t':Nat}(J:Inv X ((b,o)::pins) σ H s)(hk:∀c u,c≠b->s.heap.get? c=some u->h'.get? c=some u)(ho:h'.get? b=some o')(h0:X.s₀.heap.objs.size≤b)(hc:∀x c,X.env.cells.lookup x=some c->c≠b)(hp:∀p∈X.pn++pins,p.1≠b)(hd:∀v,o'.data≠.cell v):Inv X ((b,o')::pins) σ H { s with heap:=h',toks:=t' }:=by
 obtain⟨_,p2,p3,p4,_⟩:=J.pin (b,o) (List.mem_append_right _ List.mem_cons_self)
 exact Inv.pin1 ((Inv.tail J).turned (h':=h') (t':=t') (fun c u ne e=>hk c u ne e) p2 p3 (.inr h0) hc hp) ho p2 p3 p4 hd
theorem Inv.gone{b:Addr}{o:Obj}{h':Heap}{t':Nat}(J:Inv X ((b,o)::pins) σ H s)(hk:∀c u,c≠b->s.heap.get? c=some u->h'.get? c=some u)(h0:X.s₀.heap.objs.size≤b)(hc:∀x c,X.env.cells.lookup x=some c->c≠b)(hp:∀p∈X.pn++pins,p.1≠b):Inv X pins σ H { s with heap:=h',toks:=t' }:=by
 obtain⟨_,p2,p3,p4,_⟩:=J.pin (b,o) (List.mem_append_right _ List.mem_cons_self)
 exact (Inv.tail J).turned (h':=h') (t':=t') (fun c u ne e=>hk c u ne e) p2 p3 (.inr h0) hc hp
structure Src(X:Cx)(pins:List (Addr×Obj))(σ:St)(H:Hp)(A:Around)(it ax:Addr)(xs:List V)(Φ:Nat->Obj->Prop)(Sx:Nat->Heap->Prop):Prop where
 W:Walks X.prog X.w A it [it,ax] [it] xs.length (fun i v=>∃x,xs[i]?=some x/\W3 x v) Sx
 to:∀(i:Nat) (o:Obj) (more:List (Addr×Obj)) (H1:Hp) (s1:Shared),u5 H H1->Inv X (more++pins) σ H1 s1->s1.heap.get? it=some o->Φ i o->Sx i s1.heap
 of:∀i h,Sx i h->∃o,h.get? it=some o/\Φ i o
 nc:∀i o v,Φ i o->o.data≠.cell v
variable{A:Around}{E:Value->Shared->Prop}
def x8N(X:Cx)(pins:List (Addr×Obj))(σ:St)(H:Hp)(A:Around)(Z:List Addr)(key:Value)(xs:List V)(kds:List D):Prop :=
 ∀(i:Nat) (x:V) (u:Value) (d:D),xs[i]?=some x->W3 x u->kds[i]?=some d->∀(more:List (Addr×Obj)) (H1:Hp) (s1:Shared),u5 H H1->Inv X (more++pins) σ H1 s1 ->
   wpAny (model X.prog X.w) A (call key [u]) (EP X (more++pins) σ fun k H2=>u5 H1 H2/\Rep X.K (j7 Z H2) d k) (fun _ _=>False) s1
def z6I(X:Cx)(pins:List (Addr×Obj))(σ:St)(H:Hp)(A:Around)(Z:List Addr)(kds:List D)(gt:Nat->Nat->Bool):Prop :=
 ∀(more:List (Addr×Obj)) (H1:Hp) (s1:Shared),u5 H H1->Inv X (more++pins) σ H1 s1->∀(i j:Nat) (di dj:D) (x y:V) (u v:Value),kds[i]?=some di->kds[j]?=some dj->Rep X.K (j7 Z H1) di x->Rep X.K (j7 Z H1) dj y->W3 x u->W3 y v ->
  ∀(Q:Value->Shared->Prop) (E:Value->Shared->Prop),Q (.bool (gt i j)) s1->wpAny (model X.prog X.w) A (richCompare .Gt u v) Q E s1
theorem x3C{it S ax:Addr}{xs:List V}{Φ:Nat->Obj->Prop}{Sx:Nat->Heap->Prop}{key:Value}{kw:List (Str×Value)}{kds:List D}{Z:List Addr}{gt:Nat->Nat->Bool}{R:Result->Shared->Prop}(hkey:(∃q,key = .ref q)∨∃id,key = .builtin id)(hlen:kds.length=xs.length)(h0:X.s₀.heap.objs.size≤it)(h1:X.s₀.heap.objs.size≤S)(hne:S≠it)(hc:∀x c,X.env.cells.lookup x=some c->c≠it/\c≠S)(hp:∀p∈X.pn++pins,p.1≠it/\p.1≠S)(src:Src X pins σ H A.in1 it ax xs Φ Sx)(turn:x8N X pins σ H A.in1 Z key xs kds)(cmp:z6I X pins σ H A.in1 Z kds gt)(hR:∀b x v H1 s1,xs[b]?=some x->W3 x v->b=W2 gt (xs.length-1) 1 0->u5 H H1->Inv X pins σ H1 s1->R (.ok (.ret v)) s1) :
  ∀(r j b:Nat) (H1:Hp) (s1:Shared) (xb:V) (vb kvb:Value) (kb:V) (db:D) (c:Nat) (oI:Obj),xs.length-j=r->j≤xs.length->W2 gt r j b=W2 gt (xs.length-1) 1 0->u5 H H1->Inv X ((S,seqObj "list" #[vb,kvb] c)::(it,oI)::pins) σ H1 s1->Φ j oI ->
   xs[b]?=some xb->W3 xb vb->kds[b]?=some db->Rep X.K (j7 Z H1) db kb->W3 kb kvb->codeAny (model X.prog X.w) A (.builtin "max.loop" ⟨[.ref it,key,.ref S],kw⟩) R s1:=by
 have hname:(toString "max"++toString ".loop":String) = "max.loop":=by decide
 have pS:∀(o:Obj),∀p∈X.pn++(it,o)::pins,p.1≠S:=fun o p z=>by
  rcases List.mem_append.mp z with z|z
  ·exact (hp p (List.mem_append_left _ z)).2
  ·rcases List.mem_cons.mp z with z|z
   ·rw[z];exact Ne.symm hne
   ·exact (hp p (List.mem_append_right _ z)).2
 have pI:∀(o:Obj),∀p∈X.pn++(S,o)::pins,p.1≠it:=fun o p z=>by
  rcases List.mem_append.mp z with z|z
  ·exact (hp p (List.mem_append_left _ z)).1
  ·rcases List.mem_cons.mp z with z|z
   ·rw[z];exact hne
   ·exact (hp p (List.mem_append_right _ z)).1
 intro r
 induction r with
 | zero =>
  intro j b H1 s1 xb vb kvb kb db c oI hr hj hbest sm J hΦ hvb rxb hdb rb rv
  have hjn:j=xs.length:=by omega
  have gS:s1.heap.get? S=some (seqObj "list" #[vb,kvb] c):=(J.pin _ (List.mem_append_right _ List.mem_cons_self)).1;have gI:s1.heap.get? it=some oI:=(J.pin _ (List.mem_append_right _ (List.mem_cons_of_mem _ List.mem_cons_self))).1
  have sx:Sx xs.length s1.heap:=by
   rw[←hjn];exact src.to j oI [(S,seqObj "list" #[vb,kvb] c),(it,oI)] H1 s1 sm J gI hΦ
  refine codeAny_builtin PySem.F.entry_max_loop ?_;rw[Around.under_plainId PySem.F.plain_max_loop _]
  show wpAny _ A.in1 (seqItems? (.ref S) >>= _) _ _ _
  refine wpAny_bind (wpAny_seqItems gS rfl ?_)
  show wpAny _ A.in1 (tryCatch (pyNext (.ref it)) _ >>= _) _ _ _
  refine wpAny_bind (wpAny_tryCatch (src.W.done _ _ _ sx fun h' tk' hk'=>?_))
  have gS':h'.get? S=some (seqObj "list" #[vb,kvb] c):=hk' S _ (by simpa using hne) gS
  have J1:Inv X ((S,seqObj "list" #[vb,kvb] c)::pins) σ H1 { s1 with heap:=h',toks:=tk' }:=Inv.gone (Inv.swap J) (fun c u ne e=>hk' c u (by simpa using ne) e) h0 (fun x c e=>(hc x c e).1) (pI _)
  show wpAny _ A.in1 (updateSeq S (fun _=>#[]) >>= _) _ _ _
  refine wpAny_bind (wpAny_updateSeq gS' rfl (wpAny_bind (wpAny_letGo (wpAny_pure ?_))));have hb0:b=W2 gt (xs.length-1) 1 0:=hbest
  exact hR b xb vb H1 _ hvb rxb hb0 sm (Inv.gone (t':=tk') J1 (fun c u ne e=>(Heap.get?_update_other _ _ (Ne.symm ne)).trans e) h1 (fun x c e=>(hc x c e).2) (fun p z=>(hp p z).2))
 | succ r ih =>
  intro j b H1 s1 xb vb kvb kb db c oI hr hj hbest sm J hΦ hvb rxb hdb rb rv
  have hlt:j<xs.length:=by omega
  have gS:s1.heap.get? S=some (seqObj "list" #[vb,kvb] c):=(J.pin _ (List.mem_append_right _ List.mem_cons_self)).1;have gI:s1.heap.get? it=some oI:=(J.pin _ (List.mem_append_right _ (List.mem_cons_of_mem _ List.mem_cons_self))).1;have sx:Sx j s1.heap:=src.to j oI [(S,seqObj "list" #[vb,kvb] c),(it,oI)] H1 s1 sm J gI hΦ;refine codeAny_builtin PySem.F.entry_max_loop ?_;rw[Around.under_plainId PySem.F.plain_max_loop _]
  show wpAny _ A.in1 (seqItems? (.ref S) >>= _) _ _ _
  refine wpAny_bind (wpAny_seqItems gS rfl ?_)
  show wpAny _ A.in1 (tryCatch (pyNext (.ref it)) _ >>= _) _ _ _
  refine wpAny_bind (wpAny_tryCatch (src.W.item j _ _ _ hlt sx fun v h' tk' hP hst' hk'=>?_))
  obtain⟨x,hv,rx⟩:=hP;obtain⟨oI',gI',hΦ'⟩:=src.of (j+1) h' hst'
  have J1:Inv X ((S,seqObj "list" #[vb,kvb] c)::(it,oI')::pins) σ H1 { s1 with heap:=h',toks:=tk' }:=Inv.swap (Inv.repin' (Inv.swap J) (fun c u ne e=>hk' c u (by simpa using ne) e) gI' h0 (fun x c e=>(hc x c e).1) (pI _) (fun w=>src.nc _ _ w hΦ'))
  have hkj:kds[j]?=some kds[j]:=List.getElem?_eq_getElem (by omega)
  have call1:wpAny (model X.prog X.w) A.in1 (call key [v]) (EP X ((S,seqObj "list" #[vb,kvb] c)::(it,oI')::pins) σ fun k H2=>u5 H1 H2/\Rep X.K (j7 Z H2) kds[j] k) (fun _ _=>False) { s1 with heap:=h',toks:=tk' }:=turn j x v _ hv rx hkj [(S,seqObj "list" #[vb,kvb] c),(it,oI')] H1 _ sm J1
  have key1:wpAny (model X.prog X.w) A.in1 (tryCatch (holding [v] (call key [v])) fun e=>do
    updateSeq S fun _=>#[]
    letGo ([v]++[vb,kvb].reverse) [e]
    throw e) (EP X ((S,seqObj "list" #[vb,kvb] c)::(it,oI')::pins) σ fun k H2=>u5 H1 H2/\Rep X.K (j7 Z H2) kds[j] k) (fun _ _=>False) { s1 with heap:=h',toks:=tk' } :=
   wpAny_tryCatch (wpAny_holding (wpAny_mono call1 (fun _ _ z=>z) fun _ _ z=>z.elim))
  have rest:∀(k:Value) (s2:Shared),EP X ((S,seqObj "list" #[vb,kvb] c)::(it,oI')::pins) σ (fun k H2=>u5 H1 H2/\Rep X.K (j7 Z H2) kds[j] k) k s2 ->
    ∀(P:PySem.Fin->Shared->Prop) (E':Value->Shared->Prop),(∀s3,codeAny (model X.prog X.w) A (.builtin "max.loop" ⟨[.ref it,key,.ref S],kw⟩) R s3->P (.again (.builtin "max.loop" ⟨[.ref it,key,.ref S],kw⟩)) s3) ->
    wpAny (model X.prog X.w) A.in1 (do
     let better ←tryCatch (holding [v,k] do
       let answer ←richCompare .Gt k kvb
       let yes ←holding [answer] (truthy answer)
       letGo [answer]
       pure yes) fun e=>do
      updateSeq S fun _=>#[]
      letGo ([k,v]++[vb,kvb].reverse) [e]
      throw e
     if better then
      updateSeq S fun _=>#[v,k]
      letGo [kvb,vb]
     else letGo [v,k]
     pure (PySem.Fin.again (.builtin "max.loop" ⟨[.ref it,key,.ref S],kw⟩))) P E' s2:=fun k s2 he P E' hP=>by
   obtain⟨kx,H2,J2,rk,sm2,rd⟩:=he;refine wpAny_bind (wpAny_tryCatch (wpAny_holding (wpAny_bind (cmp [(S,seqObj "list" #[vb,kvb] c),(it,oI')] H2 s2 (sm.trans sm2) J2 j b _ _ kx kb k kvb hkj hdb rd (rb.mono (y3 sm2)) rk rv _ _ ?_))));refine wpAny_bind (wpAny_holding (wpAny_truthy_bool (wpAny_bind (wpAny_letGo (wpAny_pure ?_)))));have gS2:s2.heap.get? S=some (seqObj "list" #[vb,kvb] c):=(J2.pin _ (List.mem_append_right _ List.mem_cons_self)).1
   have hb':W2 gt r (j+1) (if gt j b=true then j else b)=W2 gt (xs.length-1) 1 0:=hbest
   cases hg:gt j b with
   | true =>
    rw[hg,if_pos rfl]at hb';simp only[if_true]
    obtain⟨c2,hc2⟩:∃c2,(s2.heap.update S (Obj.mapSeq fun _=>#[v,k])).get? S=some (seqObj "list" #[v,k] c2):=⟨_,get?_update_seq gS2 fun _=>#[v,k]⟩
    refine wpAny_bind (wpAny_updateSeq gS2 rfl (wpAny_bind (wpAny_letGo (wpAny_pure (hP _ ?_)))))
    refine ih (j+1) j H2 _ x v k kx _ c2 oI' (by omega) hlt hb' (sm.trans sm2) ?_ hΦ' hv rx hkj rd rk
    exact Inv.repin' (t':=s2.toks) J2 (fun c u ne e=>(Heap.get?_update_other _ _ (Ne.symm ne)).trans e) hc2 h1 (fun x c e=>(hc x c e).2) (pS _) (fun w z=>by cases z)
   | false =>
    rw[hg,if_neg Bool.false_ne_true]at hb';simp only[Bool.false_eq_true,if_false];refine wpAny_bind (wpAny_letGo (wpAny_pure (hP _ ?_)))
    exact ih (j+1) b H2 _ xb vb kvb kb db c oI' (by omega) hlt hb' (sm.trans sm2) J2 hΦ' hvb rxb hdb (rb.mono (y3 sm2)) rv
  rcases hkey with⟨q,rfl⟩|⟨id,rfl⟩
  ·show wpAny _ A.in1 (tryCatch (holding [v] (call (.ref q) [v])) _ >>= _) _ _ _
   refine wpAny_bind (wpAny_mono key1 (fun k s2 he=>?_) fun _ _ z=>z.elim)
   refine rest k s2 he _ _ fun s3 z=>?_
   exact⟨plainId_quiet PySem.F.plain_max_loop _,z⟩
  ·show wpAny _ A.in1 (tryCatch (holding [v] (call (.builtin id) [v])) _ >>= _) _ _ _
   refine wpAny_bind (wpAny_mono key1 (fun k s2 he=>?_) fun _ _ z=>z.elim)
   refine rest k s2 he _ _ fun s3 z=>?_
   exact⟨plainId_quiet PySem.F.plain_max_loop _,z⟩
end
section
variable{X:Cx}{pins:List (Addr×Obj)}{σ:St}{H:Hp}{s:Shared}{A:Around}{E:Value->Shared->Prop}
theorem y9Z{it S ax:Addr}{xs:List V}{Φ:Nat->Obj->Prop}{Sx:Nat->Heap->Prop}{key:Value}{kw:List (Str×Value)}{kds:List D}{Z:List Addr}{gt:Nat->Nat->Bool}{R:Result->Shared->Prop}{c:Nat}{oI:Obj}(hkey:(∃q,key = .ref q)∨∃id,key = .builtin id)(hlen:kds.length=xs.length)(h0:X.s₀.heap.objs.size≤it)(h1:X.s₀.heap.objs.size≤S)(hne:S≠it)(hc:∀x c,X.env.cells.lookup x=some c->c≠it/\c≠S)(hp:∀p∈X.pn++pins,p.1≠it/\p.1≠S)(src:Src X pins σ H A.in1 it ax xs Φ Sx)(turn:x8N X pins σ H A.in1 Z key xs kds)(cmp:z6I X pins σ H A.in1 Z kds gt)(hR:∀b x v H1 s1,xs[b]?=some x->W3 x v->b=W2 gt (xs.length-1) 1 0->u5 H H1->Inv X pins σ H1 s1->R (.ok (.ret v)) s1)(hE:xs=[]->∃x d,kw=[(x,d)]/\∀s1,Inv X pins σ H s1->R (.ok (.ret d)) s1)(J:Inv X ((S,seqObj "list" #[] c)::(it,oI)::pins) σ H s)(hΦ:Φ 0 oI):codeAny (model X.prog X.w) A (.builtin "max.loop" ⟨[.ref it,key,.ref S],kw⟩) R s:=by
 have hname:(toString "max"++toString ".loop":String) = "max.loop":=by decide
 have pS:∀(o:Obj),∀p∈X.pn++(it,o)::pins,p.1≠S:=fun o p z=>by
  rcases List.mem_append.mp z with z|z
  ·exact (hp p (List.mem_append_left _ z)).2
  ·rcases List.mem_cons.mp z with z|z
   ·rw[z];exact Ne.symm hne
   ·exact (hp p (List.mem_append_right _ z)).2
 have pI:∀(o:Obj),∀p∈X.pn++(S,o)::pins,p.1≠it:=fun o p z=>by
  rcases List.mem_append.mp z with z|z
  ·exact (hp p (List.mem_append_left _ z)).1
  ·rcases List.mem_cons.mp z with z|z
   ·rw[z];exact hne
   ·exact (hp p (List.mem_append_right _ z)).1
 have gS:s.heap.get? S=some (seqObj "list" #[] c):=(J.pin _ (List.mem_append_right _ List.mem_cons_self)).1;have gI:s.heap.get? it=some oI:=(J.pin _ (List.mem_append_right _ (List.mem_cons_of_mem _ List.mem_cons_self))).1;have sx:Sx 0 s.heap:=src.to 0 oI [(S,seqObj "list" #[] c),(it,oI)] H s (u5.refl H) J gI hΦ;refine codeAny_builtin PySem.F.entry_max_loop ?_;rw[Around.under_plainId PySem.F.plain_max_loop _]
 show wpAny _ A.in1 (seqItems? (.ref S) >>= _) _ _ _
 refine wpAny_bind (wpAny_seqItems gS rfl ?_)
 show wpAny _ A.in1 (tryCatch (pyNext (.ref it)) _ >>= _) _ _ _
 cases hv0:xs with
 | nil =>
  obtain⟨x,d,rfl,hd⟩:=hE hv0
  have sx':Sx xs.length s.heap:=by rw[hv0];exact sx
  refine wpAny_bind (wpAny_tryCatch (src.W.done _ _ _ sx' fun h' tk' hk'=>?_))
  have J1:Inv X ((S,seqObj "list" #[] c)::pins) σ H { s with heap:=h',toks:=tk' }:=Inv.gone (Inv.swap J) (fun c u ne e=>hk' c u (by simpa using ne) e) h0 (fun x c e=>(hc x c e).1) (pI _)
  refine wpAny_bind (wpAny_rule (wpAny_pure ?_));exact hd _ (Inv.tail J1)
 | cons v0 vr =>
  have hn:0<xs.length:=by rw[hv0];exact Nat.succ_pos _
  refine wpAny_bind (wpAny_tryCatch (src.W.item 0 _ _ _ hn sx fun v h' tk' hP hst' hk'=>?_))
  obtain⟨x,hv,rx⟩:=hP;obtain⟨oI',gI',hΦ'⟩:=src.of (0+1) h' hst'
  have J1:Inv X ((S,seqObj "list" #[] c)::(it,oI')::pins) σ H { s with heap:=h',toks:=tk' }:=Inv.swap (Inv.repin' (Inv.swap J) (fun c u ne e=>hk' c u (by simpa using ne) e) gI' h0 (fun x c e=>(hc x c e).1) (pI _) (fun w=>src.nc _ _ w hΦ'))
  have hkj:kds[0]?=some kds[0]:=List.getElem?_eq_getElem (by omega)
  have call1:wpAny (model X.prog X.w) A.in1 (call key [v]) (EP X ((S,seqObj "list" #[] c)::(it,oI')::pins) σ fun k H2=>u5 H H2/\Rep X.K (j7 Z H2) kds[0] k) (fun _ _=>False) { s with heap:=h',toks:=tk' }:=turn 0 x v _ hv rx hkj [(S,seqObj "list" #[] c),(it,oI')] H _ (u5.refl H) J1
  have key1:wpAny (model X.prog X.w) A.in1 (tryCatch (holding [v] (call key [v])) fun e=>do
    updateSeq S fun _=>#[]
    letGo ([v]++[].reverse) [e]
    throw e) (EP X ((S,seqObj "list" #[] c)::(it,oI')::pins) σ fun k H2=>u5 H H2/\Rep X.K (j7 Z H2) kds[0] k) (fun _ _=>False) { s with heap:=h',toks:=tk' } :=
   wpAny_tryCatch (wpAny_holding (wpAny_mono call1 (fun _ _ z=>z) fun _ _ z=>z.elim))
  have rest:∀(k:Value) (s2:Shared),EP X ((S,seqObj "list" #[] c)::(it,oI')::pins) σ (fun k H2=>u5 H H2/\Rep X.K (j7 Z H2) kds[0] k) k s2 ->
    ∀(P:PySem.Fin->Shared->Prop) (E':Value->Shared->Prop),(∀s3,codeAny (model X.prog X.w) A (.builtin "max.loop" ⟨[.ref it,key,.ref S],kw⟩) R s3->P (.again (.builtin "max.loop" ⟨[.ref it,key,.ref S],kw⟩)) s3) ->
    wpAny (model X.prog X.w) A.in1 (do
     updateSeq S fun _=>#[v,k]
     pure (PySem.Fin.again (.builtin "max.loop" ⟨[.ref it,key,.ref S],kw⟩))) P E' s2:=fun k s2 he P E' hP=>by
   obtain⟨kx,H2,J2,rk,sm2,rd⟩:=he;have gS2:s2.heap.get? S=some (seqObj "list" #[] c):=(J2.pin _ (List.mem_append_right _ List.mem_cons_self)).1
   obtain⟨c2,hc2⟩:∃c2,(s2.heap.update S (Obj.mapSeq fun _=>#[v,k])).get? S=some (seqObj "list" #[v,k] c2):=⟨_,get?_update_seq gS2 fun _=>#[v,k]⟩
   refine wpAny_bind (wpAny_updateSeq gS2 rfl (wpAny_pure (hP _ ?_)));refine x3C hkey hlen h0 h1 hne hc hp src turn cmp hR (xs.length-1) 1 0 H2 _ x v k kx _ c2 oI' rfl hn rfl sm2 ?_ hΦ' hv rx hkj rd rk
   exact Inv.repin' (t':=s2.toks) J2 (fun c u ne e=>(Heap.get?_update_other _ _ (Ne.symm ne)).trans e) hc2 h1 (fun x c e=>(hc x c e).2) (pS _) (fun w z=>by cases z)
  rcases hkey with⟨q,rfl⟩|⟨id,rfl⟩
  ·show wpAny _ A.in1 (tryCatch (holding [v] (call (.ref q) [v])) _ >>= _) _ _ _
   refine wpAny_bind (wpAny_mono key1 (fun k s2 he=>?_) fun _ _ z=>z.elim)
   refine rest k s2 he _ _ fun s3 z=>?_
   exact⟨plainId_quiet PySem.F.plain_max_loop _,z⟩
  ·show wpAny _ A.in1 (tryCatch (holding [v] (call (.builtin id) [v])) _ >>= _) _ _ _
   refine wpAny_bind (wpAny_mono key1 (fun k s2 he=>?_) fun _ _ z=>z.elim)
   refine rest k s2 he _ _ fun s3 z=>?_
   exact⟨plainId_quiet PySem.F.plain_max_loop _,z⟩
theorem y6O{it ax:Addr}{xs:List V}(hh:A.handled=none)(hne:ax≠it):Walks X.prog X.w A.in1 it [it,ax] [it] xs.length (fun i v=>∃x,xs[i]?=some x/\W3 x v) (fun i h=>h.IsListIter it ax i/\∃its:List Value,Q4 xs its/\h.IsList ax its.toArray) where
 sub:=fun b hb=>by simp at hb;simp[hb]
 frame:=fun _ _ _ st hk=>⟨st.1.at fun o e=>hk it (by simp) o e,let ⟨its,rv,hl⟩:=st.2;⟨its,rv,hl.at fun o e=>hk ax (by simp) o e⟩⟩
 item:=fun i s Q E hi st hQ=>by
  obtain⟨st1,its,rv,hl⟩:=st;have l:=rv.length
  have hi':i<its.length:=by omega
  obtain⟨u,hu,ru⟩:=rv.get (List.getElem?_eq_getElem hi)
  refine wpAny_pyNext_list_item st1 hl (x:=u) (by simpa using hu) fun h' hit' hs'=>?_
  exact hQ _ h' s.toks ⟨_,List.getElem?_eq_getElem hi,ru⟩ ⟨hit',its,rv,hl.extBut hs'.extBut hne⟩ fun b o hb e=>hs'.extBut b o (fun h=>hb (by simp[h])) e
 done:=fun s Q E st hQ=>by
  obtain⟨st1,its,rv,hl⟩:=st;have l:=rv.length
  exact wpAny_pyNext_list_end (A:=A.in1) hh st1 hl (by simp[l]) fun h' he'=>hQ h' s.toks fun b o hb e=>he' b o (fun h=>hb (by simp[h])) e
 self:=fun _ _ _ _ st hQ=>wpAny_pyIter_listiter st.1 hQ
theorem y8L{it ax:Addr}{xs:List V}(hh:A.handled=none)(hne:ax≠it):Walks X.prog X.w A.in1 it [it,ax] [it] xs.length (fun i v=>∃x,xs[i]?=some x/\W3 x v) (fun i h=>h.IsTupleIter it ax i/\∃its:List Value,Q4 xs its/\h.IsTuple ax its.toArray) where
 sub:=fun b hb=>by simp at hb;simp[hb]
 frame:=fun _ _ _ st hk=>⟨st.1.at fun o e=>hk it (by simp) o e,let ⟨its,rv,hl⟩:=st.2;⟨its,rv,hl.at fun o e=>hk ax (by simp) o e⟩⟩
 item:=fun i s Q E hi st hQ=>by
  obtain⟨st1,its,rv,hl⟩:=st;have l:=rv.length
  have hi':i<its.length:=by omega
  obtain⟨u,hu,ru⟩:=rv.get (List.getElem?_eq_getElem hi)
  refine wpAny_pyNext_tuple_item st1 hl (x:=u) (by simpa using hu) fun h' hit' hs'=>?_
  exact hQ _ h' s.toks ⟨_,List.getElem?_eq_getElem hi,ru⟩ ⟨hit',its,rv,hl.extBut hs'.extBut hne⟩ fun b o hb e=>hs'.extBut b o (fun h=>hb (by simp[h])) e
 done:=fun s Q E st hQ=>by
  obtain⟨st1,its,rv,hl⟩:=st;have l:=rv.length
  exact wpAny_pyNext_tuple_end (A:=A.in1) hh st1 hl (by simp[l]) fun h' he'=>hQ h' s.toks fun b o hb e=>he' b o (fun h=>hb (by simp[h])) e
 self:=fun _ _ _ _ st hQ=>wpAny_pyIter_tupleiter st.1 hQ
theorem x4R{ax:Addr}{xs:List V}{key:Value}{kw:List (Str×Value)}{kds:List D}{Z:List Addr}{gt:Nat->Nat->Bool}{R:Result->Shared->Prop}{P:PySem.Fin->Shared->Prop}(hkey:(∃q,key = .ref q)∨∃id,key = .builtin id)(hh:A.handled=none)(I:Inv X pins σ H s)(hlen:kds.length=xs.length)(hsrc:(∀(more:List (Addr×Obj)) (H1:Hp) (s1:Shared),u5 H H1->Inv X (more++pins) σ H1 s1->∃its:List Value,Q4 xs its/\s1.heap.IsList ax its.toArray)∨(∀(more:List (Addr×Obj)) (H1:Hp) (s1:Shared),u5 H H1->Inv X (more++pins) σ H1 s1->∃its:List Value,Q4 xs its/\s1.heap.IsTuple ax its.toArray))(turn:x8N X pins σ H A.in1 Z key xs kds)(cmp:z6I X pins σ H A.in1 Z kds gt)(hR:∀b x v H1 s1,xs[b]?=some x->W3 x v->b=W2 gt (xs.length-1) 1 0->u5 H H1->Inv X pins σ H1 s1->R (.ok (.ret v)) s1)(hE:xs=[]->∃x d,kw=[(x,d)]/\∀s1,Inv X pins σ H s1->R (.ok (.ret d)) s1)(hP:∀c' s',c'.quiet=true->codeAny (model X.prog X.w) A c' R s'->P (.again c') s') :
  wpAny (model X.prog X.w) A.in1 (do
   let it ←pyIter (.ref ax)
   let l ←newList []
   pure (PySem.Fin.again (.builtin "max.loop" ⟨[it,key,l],kw⟩))) P E s:=by
 have axlt:ax<s.heap.objs.size:=by
  rcases hsrc with h|h
  ·obtain⟨_,_,o,e,_⟩:=h [] H s (u5.refl H) I;exact Heap.lt_size e
  ·obtain⟨_,_,o,e,_⟩:=h [] H s (u5.refl H) I;exact Heap.lt_size e
 have cln:∀y c',X.env.cells.lookup y=some c'->c'<s.heap.objs.size:=fun y c' z=>by
  obtain⟨v,o,ho,_⟩:=I.cell y c' z;exact Heap.lt_size ho
 have pln:∀w∈X.pn++pins,w.1<s.heap.objs.size:=fun w z=>Heap.lt_size (I.pin w z).1
 have go:∀(oI:Obj) (Φ:Nat->Obj->Prop) (Sx:Nat->Heap->Prop),(∀v,oI.data≠.cell v)->oI.isFreed=false->Φ 0 oI->Src X pins σ H A.in1 s.heap.objs.size ax xs Φ Sx ->
   wpAny (model X.prog X.w) A.in1 (do
    let l ←newList []
    pure (PySem.Fin.again (.builtin "max.loop" ⟨[.ref s.heap.objs.size,key,l],kw⟩))) P E { s with heap:=s.heap.push oI }:=fun oI Φ Sx hnc hfr hΦ src=>by
  have z1:(s.heap.push oI).objs.size=s.heap.objs.size+1:=Heap.size_push ..;refine wpAny_bind (wpAny_newList (wpAny_pure (hP _ _ (plainId_quiet PySem.F.plain_max_loop _) ?_)) (Nat.zero_le _))
  show codeAny _ _ (.builtin "max.loop" ⟨[.ref s.heap.objs.size,key,.ref (s.heap.push oI).objs.size],kw⟩) R { s with heap:=(s.heap.push oI).push (seqObj "list" #[] 0) }
  rw[z1]
  have I1:Inv X ((s.heap.objs.size,oI)::pins) σ H { s with heap:=s.heap.push oI,toks:=s.toks } :=
   Inv.pin1 (I.kept (h':=s.heap.push oI) (t':=s.toks) fun b u e=>Heap.get?_push_of_some _ e) (Heap.get?_push_size _ hfr) (I.hok.fresh (Nat.le_refl _)) (Nat.ne_of_gt I.lt) (I.nofs (Nat.le_refl _)) hnc
  have I2:Inv X ((s.heap.objs.size+1,seqObj "list" #[] 0)::(s.heap.objs.size,oI)::pins) σ H { s with heap:=(s.heap.push oI).push (seqObj "list" #[] 0),toks:=s.toks }:=by
   have g:=Heap.get?_push_size (s.heap.push oI) (o:=seqObj "list" #[] 0) rfl;rw[z1]at g
   exact Inv.pin1 (I1.kept (h':=(s.heap.push oI).push (seqObj "list" #[] 0)) (t':=s.toks) fun b u e=>Heap.get?_push_of_some _ e) g (I.hok.fresh (Nat.le_succ _)) (Nat.ne_of_gt (Nat.lt_succ_of_lt I.lt)) (I.nofs (Nat.le_succ _)) (fun v z=>by cases z)
  exact y9Z (S:=s.heap.objs.size+1) hkey hlen I.sz (Nat.le_succ_of_le I.sz) (Nat.ne_of_gt (Nat.lt_succ_self _)) (fun x c e=>⟨Nat.ne_of_lt (cln x c e),Nat.ne_of_lt (Nat.lt_succ_of_lt (cln x c e))⟩)
   (fun p z=>⟨Nat.ne_of_lt (pln p z),Nat.ne_of_lt (Nat.lt_succ_of_lt (pln p z))⟩) src turn cmp hR hE I2 hΦ
 have axne:ax≠s.heap.objs.size:=Nat.ne_of_lt axlt
 rcases hsrc with hs|hs
 ·obtain⟨its,rv,hl⟩:=hs [] H s (u5.refl H) I;refine wpAny_bind (wpAny_pyIter_list hl ?_)
  refine go { cls:=.type "list_iterator",data:=.fields #[.ref ax,.int 0 0] } (fun i o=>o.cls = .type "list_iterator"/\o.data = .fields #[.ref ax,.int i 0]) (fun i h=>h.IsListIter s.heap.objs.size ax i/\∃its:List Value,Q4 xs its/\h.IsList ax its.toArray) (fun v z=>by cases z) rfl ⟨rfl,rfl⟩
   ⟨y6O hh axne,fun i o more H1 s1 sm J g hΦ=>⟨⟨o,g,hΦ.1,hΦ.2⟩,hs more H1 s1 sm J⟩,fun i h z=>let ⟨o,g,a,b⟩:=z.1;⟨o,g,a,b⟩,fun i o v hΦ z=>by rw[hΦ.2]at z;cases z⟩
 ·obtain⟨its,rv,hl⟩:=hs [] H s (u5.refl H) I;refine wpAny_bind (wpAny_pyIter_tuple hl ?_)
  refine go { cls:=.type "tuple_iterator",data:=.fields #[.ref ax,.int 0 0] } (fun i o=>o.cls = .type "tuple_iterator"/\o.data = .fields #[.ref ax,.int i 0]) (fun i h=>h.IsTupleIter s.heap.objs.size ax i/\∃its:List Value,Q4 xs its/\h.IsTuple ax its.toArray) (fun v z=>by cases z) rfl ⟨rfl,rfl⟩
   ⟨y8L hh axne,fun i o more H1 s1 sm J g hΦ=>⟨⟨o,g,hΦ.1,hΦ.2⟩,hs more H1 s1 sm J⟩,fun i h z=>let ⟨o,g,a,b⟩:=z.1;⟨o,g,a,b⟩,fun i o v hΦ z=>by rw[hΦ.2]at z;cases z⟩
theorem y81(a v d:Value):argsOk "max" ⟨[a],[(Str.ofString "key",v),(Str.ofString "default",d)]⟩:=by unfold argsOk;kernel_rfl
theorem y82(a b v:Value):argsOk "max" ⟨[a,b],[(Str.ofString "key",v)]⟩:=by unfold argsOk;kernel_rfl
variable{ax:Addr}{xs:List V}{key:Value}{kds:List D}{Z:List Addr}{gt:Nat->Nat->Bool}{Q:Value->Shared->Prop}
theorem y7R{id:String}{d:Value}(hh:A.handled=none)(I:Inv X pins σ H s)(hlen:kds.length=xs.length)(hsrc:(∀(more:List (Addr×Obj)) (H1:Hp) (s1:Shared),u5 H H1->Inv X (more++pins) σ H1 s1->∃its:List Value,Q4 xs its/\s1.heap.IsList ax its.toArray)∨(∀(more:List (Addr×Obj)) (H1:Hp) (s1:Shared),u5 H H1->Inv X (more++pins) σ H1 s1->∃its:List Value,Q4 xs its/\s1.heap.IsTuple ax its.toArray))(turn:x8N X pins σ H A.in1 Z (.builtin id) xs kds)(cmp:z6I X pins σ H A.in1 Z kds gt)(hE:xs=[]->∀s1,Inv X pins σ H s1->Q d s1)(hR:∀b x v H1 s1,xs[b]?=some x->W3 x v->b=W2 gt (xs.length-1) 1 0->u5 H H1->Inv X pins σ H1 s1->Q v s1) :
  wpAny (model X.prog X.w) A (call (.builtin "max") [.ref ax] [(Str.ofString "key",.builtin id),(Str.ofString "default",d)]) Q E s:=by
 refine kmk_tree PySem.F.kind_max PySem.F.plain_max PySem.F.entry_max (y81 _ _ _) ?_
 have fin:=x4R (E:=E) (P:=fun fin s'=>match fin with
   | .done f=>(match (Except.ok f:Result) with|.ok (.ret v)=>Q v s'|.ok _=>False|.error e=>E e s')
   | .again c'=>c'.quiet=true/\codeAny (model X.prog X.w) A c' (fun r s'=>match r with|.ok (.ret v)=>Q v s'|.ok _=>False|.error e=>E e s') s') (kw:=[("default",d)]) (.inr ⟨id,rfl⟩) hh I hlen hsrc turn cmp (fun b x v H1 s1 a0 a1 a2 a3 a4=>hR b x v H1 s1 a0 a1 a2 a3 a4) (fun z=>⟨_,d,rfl,fun s1 J=>hE z s1 J⟩) (fun c' s' h1 h2=>⟨h1,h2⟩)
 show wpAny _ A.in1 (Builtin.Builtins.bindParams "max" ["key","default"] 0 ⟨[],[(Str.ofString "key",.builtin id),(Str.ofString "default",d)]⟩ >>= _) _ _ s
 refine wpAny_bind (wpAny_of_eq (show Builtin.Builtins.bindParams "max" ["key","default"] 0 ⟨[],[(Str.ofString "key",.builtin id),(Str.ofString "default",d)]⟩=pure [some (.builtin id),some d] from rfl) ?_)
 refine wpAny_bind (wpAny_pure ?_);exact fin
theorem y7S{id:String}{x y:V}{u v:Value}(ru:W3 x u)(rv:W3 y v)(hh:A.handled=none)(I:Inv X pins σ H s)(hlen:kds.length=2)(turn:∀(o:Obj) (t:Nat),x8N X ((s.heap.objs.size,o)::pins) σ H A.in1 Z (.builtin id) [x,y] kds)(cmp:∀(o:Obj),z6I X ((s.heap.objs.size,o)::pins) σ H A.in1 Z kds gt)(hR:∀w H1 s1,W3 (if gt 1 0=true then y else x) w->u5 H H1->Inv X pins σ H1 s1->Q w s1) :
  wpAny (model X.prog X.w) A (call (.builtin "max") [u,v] [(Str.ofString "key",.builtin id)]) Q E s:=by
 refine kmk_tree PySem.F.kind_max PySem.F.plain_max PySem.F.entry_max (y82 _ _ _) ?_
 show wpAny _ A.in1 (Builtin.Builtins.bindParams "max" ["key","default"] 0 ⟨[],[(Str.ofString "key",.builtin id)]⟩ >>= _) _ _ s
 refine wpAny_bind (wpAny_of_eq (show Builtin.Builtins.bindParams "max" ["key","default"] 0 ⟨[],[(Str.ofString "key",.builtin id)]⟩=pure [some (.builtin id),none] from rfl) ?_)
 show wpAny _ A.in1 (newTuple [u,v] >>= _) _ _ s
 refine wpAny_bind (wpAny_newObj_type ?_)
 have I1:Inv X ((s.heap.objs.size,{ cls:=Value.type "tuple",data:=Data.seq #[u,v] })::pins) σ H { s with heap:=s.heap.push { cls:=Value.type "tuple",data:=Data.seq #[u,v] },toks:=s.toks } :=
  Inv.pin1 (I.kept (t':=s.toks) fun b u e=>Heap.get?_push_of_some _ e) (Heap.get?_push_size _ rfl) (I.hok.fresh (Nat.le_refl _)) (Nat.ne_of_gt I.lt) (I.nofs (Nat.le_refl _)) (fun v z=>by cases z)
 exact x4R (E:=E) (ax:=s.heap.objs.size) (xs:=[x,y]) (P:=fun fin s'=>match fin with
   | .done f=>(match (Except.ok f:Result) with|.ok (.ret v)=>Q v s'|.ok _=>False|.error e=>E e s')
   | .again c'=>c'.quiet=true/\codeAny (model X.prog X.w) A c' (fun r s'=>match r with|.ok (.ret v)=>Q v s'|.ok _=>False|.error e=>E e s') s') (kw:=[]) (.inr ⟨id,rfl⟩) hh I1 hlen
  (.inr fun more H1 s1 sm J=>⟨[u,v],.cons ru (.cons rv .nil),_,(J.pin (s.heap.objs.size,{ cls:=Value.type "tuple",data:=Data.seq #[u,v] }) (List.mem_append_right _ (List.mem_append_right _ List.mem_cons_self))).1,rfl,_,rfl⟩) (turn _ 0) (cmp _) (fun b z w H1 s1 a1 a0 a2 a3 a4=>by
   have e:b=if gt 1 0=true then 1 else 0:=a2
   refine hR w H1 s1 ?_ a3 (Inv.tail a4)
   cases hg:gt 1 0 with
   | true =>
    rw[hg,if_pos rfl]at e;rw[if_pos rfl];subst e;cases a1;exact a0
   | false =>
    rw[hg,if_neg Bool.false_ne_true]at e;rw[if_neg Bool.false_ne_true];subst e;cases a1
    exact a0) (fun z=>by cases z) (fun c' s' h1 h2=>⟨h1,h2⟩)
end
def w1E:D->Option Int
 | .tup xs=>some xs.length
 | .lst xs=>some xs.length
 | _=>none
def z75:List D->Option (List Int)
 | []=>some []
 | d::ds=>match w1E d with|some n=>(match z75 ds with|some ns=>some (n::ns)|none=>none)|none=>none
theorem y2I:∀{ds:List D} {ns:List Int},z75 ds=some ns->ns.length=ds.length
 | [],ns,e=>by cases e;rfl
 | d::ds,ns,e=>by
  unfold z75 at e;split at e
  ·split at e
   ·rename_i h;cases e;rw[List.length_cons,List.length_cons,y2I h]
   ·cases e
  ·cases e
theorem y60:∀{ds:List D} {ns:List Int} {i:Nat} {d:D} {n:Int},z75 ds=some ns->ds[i]?=some d->ns[i]?=some n->w1E d=some n
 | [],_,i,d,n,_,h,_=>by simp at h
 | d'::ds,ns,i,d,n,e,h1,h2=>by
  unfold z75 at e;split at e
  ·rename_i m hm;split at e
   ·rename_i ns' h;cases e
    cases i with
    | zero=>simp at h1 h2;subst h1;subst h2;exact hm
    | succ i=>exact y60 (i:=i) h (by simpa using h1) (by simpa using h2)
   ·cases e
  ·cases e
def gtI(ns:List Int)(i j:Nat):Bool:=decide (ns.getD j 0<ns.getD i 0)
def y0Q(gt:Nat->Nat->Bool)(ds:List D):Option D:=ds[W2 gt (ds.length-1) 1 0]?
section
variable{X:Cx}{pins:List (Addr×Obj)}{σ:St}{H:Hp}{s:Shared}{A:Around}{Z:List Addr}{ds:List D}{xs:List V}
theorem y65{ns:List Int}(rr:u7 X.K (j7 Z H) ds xs)(hn:z75 ds=some ns):x8N X pins σ H A Z (.builtin "len") xs (ns.map D.int):=by
 intro i x u d hx ru hd more H1 s1 sm I;rw[List.getElem?_map]at hd
 cases hni:ns[i]? with
 | none=>rw[hni]at hd;cases hd
 | some n =>
  rw[hni]at hd;cases hd;have rr1:=rr.mono (y3 sm);obtain⟨dd,hdd,rd⟩:=rr1.at hx;have hl:=y60 hn hdd hni;have h63:=z9R
  cases dd with
  | tup es =>
   have e:(es.length:Int)=n:=Option.some.inj hl;obtain⟨a,ys,rfl,hq,r2⟩:=v4.mp rd;cases ru;obtain⟨its,r',pl,hz⟩:=I.tuple (v3 y4 hq);have hlen:=r'.length;have hlen2:=r2.length
   exact len_tuple pl (by simp only[List.size_toArray]<;>omega) ⟨.int n,H1,I.tok _,⟨s1.toks+1,by rw[List.size_toArray,←hlen,←hlen2,e]⟩,u5.refl _,x4.mpr rfl⟩
  | lst es =>
   have e:(es.length:Int)=n:=Option.some.inj hl;obtain⟨a,ys,rfl,hq,r2⟩:=j1.mp rd;cases ru;obtain⟨its,r',pl,hz⟩:=I.list (y4.seq hq);have hlen:=r'.length;have hlen2:=r2.length
   exact Calls.call_len_list pl.isList (by simp only[List.size_toArray]<;>omega) ⟨.int n,H1,I.tok _,⟨s1.toks+1,by rw[List.size_toArray,←hlen,←hlen2,e]⟩,u5.refl _,x4.mpr rfl⟩
  | non=>cases hl
  | bl _=>cases hl
  | int _=>cases hl
  | str _=>cases hl
  | dct _ _=>cases hl
theorem z9V(ns:List Int):z6I X pins σ H A Z (ns.map D.int) (gtI ns):=by
 intro more H1 s1 sm I i j di dj x y u v hi hj rx ry ru rv Q E q;rw[List.getElem?_map]at hi hj
 cases ei:ns[i]? with
 | none=>rw[ei]at hi;cases hi
 | some a =>
  cases ej:ns[j]? with
  | none=>rw[ej]at hj;cases hj
  | some b =>
   rw[ei]at hi;rw[ej]at hj
   cases hi;cases hj;rw[x4]at rx ry
   subst rx;subst ry;obtain⟨t,rfl⟩:=ru;obtain⟨t',rfl⟩:=rv;refine y5F A s1 a t b t' X.prog X.w E Q ?_;unfold gtI at q;rw[j2 ei,j2 ej]at q;exact q
theorem x65{a:Addr}(hsq:SqL X.K H a xs∨SqT X.K (j7 Z H) a xs):(∀(more:List (Addr×Obj)) (H1:Hp) (s1:Shared),u5 H H1->Inv X (more++pins) σ H1 s1->∃its:List Value,Q4 xs its/\s1.heap.IsList a its.toArray) ∨
  (∀(more:List (Addr×Obj)) (H1:Hp) (s1:Shared),u5 H H1->Inv X (more++pins) σ H1 s1->∃its:List Value,Q4 xs its/\s1.heap.IsTuple a its.toArray):=by
 rcases hsq with z|z
 ·exact .inl fun more H1 s1 sm I=>let ⟨its,rv,pl,_⟩:=I.list (sm.seq z);⟨its,rv,pl.isList⟩
 ·exact .inr fun more H1 s1 sm I=>let ⟨its,rv,pl,_⟩:=I.tuple (v3 (y4.trans sm) z);⟨its,rv,pl⟩
end
section
variable{X:Cx}{e body dflt ea eb:Expr}{params:Arguments}{scope:Scope}{lp kp kp2 p pos:Pos}{fa:z9->Option (List D)}{fb fd f1 f2:z9->Option D}
def z9O(ds:List D)(d0:D):Option D:=match z75 ds with|some ns=>(match ds with|[]=>some d0|_::_=>y0Q (gtI ns) ds)|none=>none
def z6A(fa:z9->Option (List D))(fd:z9->Option D):z9->Option D:=fun ρ=>match fa ρ with|some ds=>(match fd ρ with|some d0=>z9O ds d0|none=>none)|none=>none
theorem y91(hc:X.calm=true)(hm:X.mg "max" = none)(hml:X.mg "len" = none)(ha:SQ X e fa)(hd:SE X dflt fd)(hg:Gl X "max":=by rfl)(hgl:Gl X "len":=by rfl)(hv:bootBuiltins "max" = some (.builtin "max"):=by decide +kernel)(hvl:bootBuiltins "len" = some (.builtin "len"):=by decide +kernel)(hs:starEach [e] X.env=(false,eval e X.env)::starEach [] X.env:=by exact y2 rfl) :
  SE X (.Call (.Name "max" p) [e] [⟨some "key",.Name "len" lp,kp⟩,⟨some "default",dflt,kp2⟩] pos) (z6A fa fd):=by
 intro pins s σ H Q I h;obtain⟨ρ,d,B,H0,V0,Z,e1,r,q⟩:=h;unfold z6A at e1;split at e1
 ·rename_i ds eds;split at e1
  ·rename_i d0 ed0
   refine wpAny_Call_Name_kw (z3N I hg hm hv ?_ (by decide) (by decide))
   have hst:backTo pos (starEach [e] X.env)=(false,eval e X.env)::backTo pos (starEach [] X.env):=by
    rw[hs];rfl
   refine PyProof.Rows.callWith_kw ?_ hst (by rw[hst];rfl)
   refine thn (J9 ha W4 hs pos pins s σ H (fun vs H1=>∃a xs,vs=[.ref a]/\u5 H H1/\(SqL X.K H1 a xs∨SqT X.K (j7 Z H1) a xs)/\u7 X.K (j7 Z H1) ds xs) I ⟨ρ,ds,B,H0,V0,Z,eds,r,fun a xs H1 s1 hq rr=>⟨a,xs,rfl,s1,hq,rr⟩⟩) fun us s1 ⟨vs,H1,I1,rvs,a,xs,hvs,sm1,hsq,rr⟩=>?_
   subst hvs;obtain⟨u,rfl,ru⟩:=z3D rvs;cases ru;have R1:=r.mono sm1
   show wpAny _ _ (evalAll ((do let v ←eval (.Name "len" lp) X.env;standAt pos;pure v)::(do let v ←eval dflt X.env;standAt pos;pure v)::[])) _ _ s1
   refine wpAny_evalAll_cons (wpAny_bind (z3N I1 hgl hml hvl (wpAny_bind (wpAny_standAt (wpAny_pure ?_))) (by decide) (by decide)))
   refine wpAny_evalAll_cons (wpAny_bind (thn (hd pins s1 σ H1 (fun v H2=>u5 H1 H2/\Rep X.K (j7 Z H2) d0 v) I1 ⟨ρ,d0,B,H0,V0,Z,ed0,R1,fun v H2 s2 r2=>⟨s2,r2⟩⟩) fun w s2 ⟨v0,H2,I2,rw0,sm2,rd0⟩=>wpAny_bind (wpAny_standAt (wpAny_pure (wpAny_evalAll_nil ?_)))))
   show wpAny _ _ (call (.builtin "max") [.ref a] [(Str.ofString "key",.builtin "len"),(Str.ofString "default",w)]) _ _ s2
   have rr2:=rr.mono (y3 sm2);have hsq2:SqL X.K H2 a xs∨SqT X.K (j7 Z H2) a xs:=hsq.imp sm2.seq (v3 (y3 sm2));unfold z9O at e1;split at e1
   ·rename_i ns hn;have l1:=rr.length;have l2:=y2I hn
    refine y7R (I2.ok.hd hc) I2 (by rw[List.length_map];omega) (x65 hsq2) (y65 rr2 hn) (z9V ns) (fun hx s3 I3=>?_) (fun b x v H3 s3 hb rb hbest sm3 I3=>?_)
    ·have:ds=[]:=by
      rw[hx]at l1;exact List.length_eq_zero_iff.mp l1
     subst this;cases e1
     exact⟨v0,H2,I3,rw0,q v0 H2 (sm1.trans sm2) rd0⟩
    ·have rr3:=rr2.mono (y3 sm3);obtain⟨dd,hdd,rd⟩:=rr3.at hb
     have:dd=d:=by
      have hne:ds≠[]:=fun z=>by rw[z]at hdd;simp at hdd
      split at e1
      ·exact absurd rfl hne
      ·unfold y0Q at e1;rw[l1,←hbest,hdd]at e1;exact Option.some.inj e1
     subst this
     exact⟨x,H3,I3,rb,q x H3 (sm1.trans (sm2.trans sm3)) rd⟩
   ·cases e1
  ·cases e1
 ·cases e1
def z4U(a b:D):Option D:=match w1E a with|some n=>(match w1E b with|some m=>some (if n<m then b else a)|none=>none)|none=>none
theorem y71(hc:X.calm=true)(hm:X.mg "max" = none)(hml:X.mg "len" = none)(ha:SE X ea f1)(hb:SE X eb f2)(hg:Gl X "max":=by rfl)(hgl:Gl X "len":=by rfl)(hv:bootBuiltins "max" = some (.builtin "max"):=by decide +kernel)(hvl:bootBuiltins "len" = some (.builtin "len"):=by decide +kernel)(hs:starEach [ea,eb] X.env=(false,eval ea X.env)::starEach [eb] X.env:=by exact y2 rfl)(hs2:starEach [eb] X.env=(false,eval eb X.env)::starEach [] X.env:=by exact y2 rfl) :
  SE X (.Call (.Name "max" p) [ea,eb] [⟨some "key",.Name "len" lp,kp⟩] pos) (d2 z4U f1 f2):=by
 intro pins s σ H Q I h;obtain⟨ρ,d,B,H0,V0,Z,e1,r,q⟩:=h;obtain⟨x0,y0,ex,ey,e1⟩:=x17 e1
 refine wpAny_Call_Name_kw (z3N I hg hm hv ?_ (by decide) (by decide))
 have hst:backTo pos (starEach [ea,eb] X.env)=(false,eval ea X.env)::backTo pos (starEach [eb] X.env):=by
  rw[hs];rfl
 have hst2:(backTo pos (starEach [eb] X.env)).any (·.1)=false:=by
  rw[hs2];rfl
 refine PyProof.Rows.callWith_kw ?_ hst (by rw[hst,List.any_cons,hst2];rfl)
 refine thn (J9 ha (J9 hb W4 hs2) hs pos pins s σ H (fun vs H1=>∃x y,vs=[x,y]/\u5 H H1/\Rep X.K (j7 Z H1) x0 x/\Rep X.K (j7 Z H1) y0 y) I
  ⟨ρ,x0,B,H0,V0,Z,ex,r,fun x H1 s1 rx=>⟨ρ,y0,B,H0,V0,Z,ey,r.mono s1,fun y H2 s2 ry=>⟨x,y,rfl,s1.trans s2,rx.mono (y3 s2),ry⟩⟩⟩) fun us s1 ⟨vs,H1,I1,rvs,x,y,hvs,sm1,rx,ry⟩=>?_
 subst hvs
 obtain⟨u,v,rfl,ru,rv⟩:∃u v,us=[u,v]/\W3 x u/\W3 y v:=by
  cases rvs with
  | cons a b =>
   cases b with
   | cons c d =>
    cases d
    exact⟨_,_,rfl,a,c⟩
 show wpAny _ _ (evalAll ((do let v ←eval (.Name "len" lp) X.env;standAt pos;pure v)::[])) _ _ s1
 refine wpAny_evalAll_cons (wpAny_bind (z3N I1 hgl hml hvl (wpAny_bind (wpAny_standAt (wpAny_pure (wpAny_evalAll_nil ?_)))) (by decide) (by decide)))
 show wpAny _ _ (call (.builtin "max") [u,v] [(Str.ofString "key",.builtin "len")]) _ _ s1
 unfold z4U at e1;split at e1
 ·rename_i n hn;split at e1
  ·rename_i m hm'
   have hl:z75 [x0,y0]=some [n,m]:=by
    unfold z75;rw[hn];dsimp only;unfold z75;rw[hm'];rfl
   have rr:u7 X.K (j7 Z H1) [x0,y0] [x,y]:=u7.cons rx (u7.one ry)
   refine y7S (kds:=[D.int n,D.int m]) (gt:=gtI [n,m]) ru rv (I1.ok.hd hc) I1 rfl (fun o t=>y65 rr hl) (fun o=>z9V [n,m]) (fun w H2 s2 rw' sm2 I2=>?_)
   have g:gtI [n,m] 1 0=decide (n<m):=rfl;rw[g]at rw';by_cases hnm:n<m
   ·rw[if_pos hnm]at e1;cases e1;rw[decide_eq_true hnm,if_pos rfl]at rw'
    exact⟨y,H2,I2,rw',q y H2 (sm1.trans sm2) (ry.mono (y3 sm2))⟩
   ·rw[if_neg hnm]at e1;cases e1;rw[decide_eq_false hnm,if_neg Bool.false_ne_true]at rw'
    exact⟨x,H2,I2,rw',q x H2 (sm1.trans sm2) (rx.mono (y3 sm2))⟩
  ·cases e1
 ·cases e1
end
end L3
namespace L3
open PySem PySem.Spec PyProof.Rows L2
abbrev Ris(xs:Array Nat):Prop:=xs.toList.Pairwise (· < ·)
theorem y0K{xs:Array Nat}(h:Ris xs){i k:Nat}(hik:i<k)(hk:k<xs.size)(j:Nat):xs.getD i j<xs.getD k j:=by
 have hi:i<xs.size:=Nat.lt_trans hik hk
 have e1:xs.getD i j=xs.toList[i]'(by simpa using hi):=by simp[Array.getD,hi]
 have e2:xs.getD k j=xs.toList[k]'(by simpa using hk):=by simp[Array.getD,hk]
 rw[e1,e2];exact List.pairwise_iff_getElem.mp h i k _ _ hik
theorem y19{xs:Array Nat}(h:Ris xs)(j:Nat):∀(fuel lo hi:Nat),lo≤hi->hi≤xs.size->hi-lo≤fuel->(∀i,i<lo->xs.getD i j<j)->(∀i,hi≤i->i<xs.size->j≤xs.getD i j) ->
  SetTable.below.go xs j fuel lo hi≤xs.size/\(∀i,i<SetTable.below.go xs j fuel lo hi->xs.getD i j<j)/\(∀i,SetTable.below.go xs j fuel lo hi≤i->i<xs.size->j≤xs.getD i j)
 | 0,lo,hi,h1,h2,h3,a,b=>by
  have e:lo=hi:=by omega
  subst e
  exact⟨h2,a,b⟩
 | fuel+1,lo,hi,h1,h2,h3,a,b=>by
  unfold SetTable.below.go;by_cases hlt:lo<hi
  ·rw[if_pos hlt];dsimp only
   have hm:(lo+hi) / 2<hi:=by omega
   have hm2:lo≤(lo+hi) / 2:=by omega
   by_cases hc:xs.getD ((lo+hi) / 2) j<j
   ·rw[if_pos hc]
    refine y19 h j fuel _ hi (by omega) h2 (by omega) (fun i hi'=>?_) b
    by_cases e:i=(lo+hi) / 2
    ·rw[e];exact hc
    ·exact Nat.lt_trans (y0K h (by omega:i<(lo+hi) / 2) (by omega) j) hc
   ·rw[if_neg hc]
    refine y19 h j fuel lo _ hm2 (by omega) (by omega) a (fun i hi' hi2=>?_)
    by_cases e:i=(lo+hi) / 2
    ·rw[e];omega
    ·have:=y0K h (by omega:(lo+hi) / 2<i) hi2 j
     omega
  ·rw[if_neg hlt]
   have e:lo=hi:=by omega
   subst e
   exact⟨h2,a,b⟩
theorem y18{xs:Array Nat}(h:Ris xs)(j:Nat):SetTable.below xs j≤xs.size/\(∀i,i<SetTable.below xs j->xs.getD i j<j)/\(∀i,SetTable.below xs j≤i->i<xs.size->j≤xs.getD i j) :=
 y19 h j xs.size 0 xs.size (Nat.zero_le _) (Nat.le_refl _) (by omega) (fun i hi=>absurd hi (Nat.not_lt_zero _)) (fun i h1 h2=>absurd h2 (Nat.not_lt.mpr h1))
theorem x46{xs:Array Nat}(h:Ris xs){i:Nat}(hi:i<xs.size):SetTable.below xs (xs.getD i 0+1)=i+1:=by
 obtain⟨b1,b2,b3⟩:=y18 h (xs.getD i 0+1)
 have ge:∀k m n:Nat,k<xs.size->xs.getD k m=xs.getD k n:=fun k m n hk=>by simp[Array.getD,hk]
 by_cases hlt:SetTable.below xs (xs.getD i 0+1)≤i
 ·have:=b3 i hlt hi
  have e:=ge i (xs.getD i 0+1) 0 hi;omega
 ·by_cases hgt:i+1<SetTable.below xs (xs.getD i 0+1)
  ·have h1:=b2 (i+1) hgt
   have h2:=y0K h (by omega:i<i+1) (by omega) 0
   have e:=ge (i+1) (xs.getD i 0+1) 0 (by omega)
   omega
  ·omega
theorem y7U{xs:Array Nat}(h:Ris xs):SetTable.below xs 0=0:=by
 obtain⟨b1,b2,b3⟩:=y18 h 0;by_cases hz:SetTable.below xs 0=0
 ·exact hz
 ·exact absurd (b2 0 (by omega)) (Nat.not_lt_zero _)
theorem y7I{xs:Array Nat}(h:Ris xs){j:Nat}(hn:xs[SetTable.below xs j]?≠some j):Ris (SetTable.insertAt xs (SetTable.below xs j) j):=by
 obtain⟨b1,b2,b3⟩:=y18 h j;unfold Ris;rw[SetTable.toList_insertAt]
 have ge:∀(k:Nat) (hk:k<xs.toList.length),xs.getD k j=xs.toList[k]:=fun k hk=>by
  have hk':k<xs.size:=by simpa using hk
  simp[Array.getD,hk']
 rw[List.pairwise_append]
 refine⟨h.sublist (List.take_sublist _ _),List.pairwise_cons.mpr ⟨fun y hy=>?_,h.sublist (List.drop_sublist _ _)⟩,fun x hx y hy=>?_⟩
 ·obtain⟨k,hk,rfl⟩:=List.getElem_of_mem hy;rw[List.length_drop]at hk;rw[List.getElem_drop]
  have hk2:SetTable.below xs j+k<xs.toList.length:=by omega
  have hk3:SetTable.below xs j+k<xs.size:=by simpa using hk2
  have hb:=b3 _ (Nat.le_add_right _ k) hk3;rw[ge _ hk2]at hb
  rcases Nat.lt_or_ge j (xs.toList[SetTable.below xs j+k]) with z|z
  ·exact z
  ·exfalso
   have e:xs.toList[SetTable.below xs j+k]=j:=by omega
   by_cases k0:k=0
   ·subst k0;apply hn
    have hs:SetTable.below xs j<xs.size:=by simpa using hk3
    rw[Array.getElem?_eq_getElem hs];simpa using e
   ·have hs:SetTable.below xs j<xs.size:=by omega
    have h1:=y0K h (by omega:SetTable.below xs j<SetTable.below xs j+k) hk3 j
    rw[ge _ hk2,e]at h1;have h2:=b3 _ (Nat.le_refl _) hs;omega
 ·obtain⟨k,hk,rfl⟩:=List.getElem_of_mem hx;rw[List.length_take]at hk;rw[List.getElem_take]
  have hk2:k<xs.toList.length:=by omega
  have h1:=b2 k (by omega)
  rw[ge k hk2]at h1
  rcases List.mem_cons.mp hy with z|z
  ·rw[z];exact h1
  ·obtain⟨m,hm,rfl⟩:=List.getElem_of_mem z;rw[List.length_drop]at hm;rw[List.getElem_drop]
   have hm2:SetTable.below xs j+m<xs.toList.length:=by omega
   have h2:=b3 _ (Nat.le_add_right _ m) (by simpa using hm2)
   rw[ge _ hm2]at h2;omega
theorem y1Z{t:SetTable}{j:Nat}(h:t.slot j = .empty∨t.slot j = .dummy):t.place[SetTable.below t.place j]?≠some j:=fun z=>by
 unfold SetTable.slot at h;dsimp only at h;rw[z]at h;simp at h
theorem y0N{t:SetTable}{f:Nat->Int}{h:Int}:∀(fuel:Nat) (p:SetTable.Probe) (j:Nat) (d:Option Nat),(∀d',p.dummy=some d'->t.slot d' = .dummy)->SetTable.probe.go t f h fuel p=some (.empty j d)->t.slot j = .empty/\∀d',d=some d'->t.slot d' = .dummy
 | 0,p,j,d,_,e=>by cases e
 | fuel+1,p,j,d,hp,e=>by
  have adv:∀q:SetTable.Probe,(t.advance q).dummy=q.dummy:=fun q=>by
   unfold SetTable.advance
   split<;>rfl
  unfold SetTable.probe.go at e;split at e
  ·rename_i hs;cases e
   exact⟨hs,hp⟩
  ·rename_i hs
   refine y0N fuel _ j d (fun d' hd=>?_) e
   rw[adv]at hd;cases hd;exact hs
  ·split at e
   ·cases e
   ·refine y0N fuel _ j d (fun d' hd=>?_) e
    rw[adv]at hd;exact hp d' hd
theorem y0W{t:SetTable}{h:Int}{j:Nat}{b:Bool}(e:t.freeSlot h=some (j,b)):t.place[SetTable.below t.place j]?≠some j:=by
 unfold SetTable.freeSlot at e;split at e
 ·rename_i k d hp
  have:=y0N (t:=t) _ _ k d (fun d' hd=>by
   unfold SetTable.probeStart at hd
   cases hd) hp
  cases e
  cases d with
  | none=>exact y1Z (.inl this.1)
  | some d'=>exact y1Z (.inr (this.2 d' rfl))
 ·cases e
def Tb(L:Bool)(t:SetTable):Prop:=(t.plain=true->Ris t.place)/\t.led=L
theorem z3X{L:Bool}{t:SetTable}(h:Tb L t)(n:Nat):Tb L (t.standIn n):=⟨(fun z=>by cases z),h.2⟩
theorem x0A{L:Bool}{t:SetTable}(hT:Tb L t)(es:Array (Int×Value))(h:Int)(x:Value):Tb L (layNew t es h x).2.1:=by
 unfold layNew;split
 ·rename_i slot wd hs;dsimp only;unfold SetTable.orStandIn
  have hput:Tb L (t.put slot).1:=by
   unfold SetTable.put
   refine⟨fun z=>?_,hT.2⟩
   exact y7I (hT.1 z) (y0W hs)
  split
  ·exact hput
  ·exact z3X hput _
 ·exact z3X hT _
theorem x2P{L:Bool}{t:SetTable}(hT:Tb L t)(es:Array (Int×Value))(wanted:Nat):Tb L (relayAll t es wanted).2.1:=by
 unfold relayAll;split
 ·rename_i t' order hr;dsimp only;split
  ·unfold SetTable.relaid SetTable.laid at hr
   cases ho:SetTable.layClean (SetTable.sizeAbove wanted-1) (es.map (·.1)) with
   | none=>rw[ho]at hr;cases hr
   | some owner =>
    rw[ho]at hr;simp only[Option.bind_eq_bind,Option.bind_some,Option.pure_def,Option.some.injEq,Prod.mk.injEq]at hr;obtain⟨rfl,_⟩:=hr
    refine⟨fun _=>?_,hT.2⟩
    unfold Ris
    show List.Pairwise _ (((List.range (SetTable.sizeAbove wanted-1+1)).filterMap fun j=>(owner.getD j none).map (j,·)).map (·.1))
    rw[List.pairwise_map,List.pairwise_filterMap]
    refine List.pairwise_lt_range.imp fun {a b} hab p hp q hq=>?_
    obtain⟨k,_,rfl⟩:=Option.map_eq_some_iff.mp hp;obtain⟨m,_,rfl⟩:=Option.map_eq_some_iff.mp hq;exact hab
  ·exact z3X hT _
 ·exact z3X hT _
theorem erase_perm{α:Type}:∀(l:List α) (i:Nat) (h:i<l.length),l.Perm (l[i]::l.eraseIdx i)
 | [],i,h=>absurd h (Nat.not_lt_zero _)
 | x::l,0,_=>List.Perm.refl _
 | x::l,i+1,h=>by
  have hi:i<l.length:=by simpa using h
  have ih:=erase_perm l i hi
  show (x::l).Perm (l[i]::x::l.eraseIdx i)
  exact (ih.cons x).trans (List.Perm.swap _ _ _)
theorem y9H{α:Type}(next:Nat->Nat):∀(fuel k:Nat) (left:List α) (out:Array α),left.length=fuel->(pickOrder.go next fuel k left out).toList.Perm (out.toList++left)
 | 0,k,left,out,h=>by
  have:left=[]:=List.length_eq_zero_iff.mp h
  subst this
  show out.toList.Perm (out.toList++[])
  rw[List.append_nil]
 | fuel+1,k,left,out,h=>by
  have hl:next k % left.length<left.length:=Nat.mod_lt _ (by omega)
  unfold pickOrder.go;rw[List.getElem?_eq_getElem hl];dsimp only
  refine (y9H next fuel (k+1) _ _ (by rw[List.length_eraseIdx_of_lt hl];omega)).trans ?_
  rw[Array.toList_push,List.append_assoc];exact List.Perm.append_left _ (erase_perm left _ hl).symm
theorem y9G{α:Type}(next:Nat->Nat)(xs:Array α):(pickOrder next xs).toList.Perm xs.toList:=by
 have:=y9H next xs.size 0 xs.toList #[] (by simp)
 show (pickOrder.go next xs.size 0 xs.toList #[]).toList.Perm _
 simpa using this
abbrev z3S(w:World):Bool:=w.params.followText "set-order"
def y1J(prog:Program)(w:World)(h:Heap)(a:Addr)(ms:List Int):Prop:=∃o es ep t,h.get? a=some o/\o.ExactSet/\o.data = .set es ep t/\ElemsOf (intKind prog w) es.toList/\IntsAre (es.toList.map (·.2)) ms/\ms.Nodup/\es.size<scanBound/\t.fits es.size=true/\Tb (!z3S w) t
theorem z5I{vs vs':List Value}(p:vs'.Perm vs):∀{ns:List Int},IntsAre vs ns->∃ns',IntsAre vs' ns'/\ns'.Perm ns:=by
 induction p with
 | nil=>exact fun h=>⟨_,h,List.Perm.refl _⟩
 | cons x p ih =>
  intro ns h
  cases h with
  | cons n t h' =>
   obtain⟨ns',h1,h2⟩:=ih h'
   exact⟨n::ns',.cons n t h1,h2.cons n⟩
 | swap x y l =>
  intro ns h
  cases h with
  | cons n t h' =>
   cases h' with
   | cons m u h''=>exact⟨_,.cons m u (.cons n t h''),List.Perm.swap _ _ _⟩
 | trans p1 p2 ih1 ih2 =>
  intro ns h;obtain⟨n1,h1,q1⟩:=ih2 h;obtain⟨n2,h2,q2⟩:=ih1 h1
  exact⟨n2,h2,q2.trans q1⟩
theorem y2P{k:Int}{t:Tok}:∀{vs:List Value} {ns:List Int},IntsAre vs ns->IntsAre (vs++[.int k t]) (ns++[k])
 | _,_,.nil=>.cons k t .nil
 | _,_,.cons n u h=>.cons n u (y2P h)
theorem y69:∀{vs:List Value} {ns:List Int} {k:Int},IntsAre vs ns->(k∈ns↔∃t,Value.int k t∈vs)
 | _,_,k,.nil=>by simp
 | _,_,k,.cons n t h=>by
  have ih:=y69 (k:=k) h;rw[List.mem_cons];constructor
  ·rintro (z|z)
   ·rw[z];exact⟨t,List.mem_cons_self⟩
   ·obtain⟨u,hu⟩:=ih.mp z
    exact⟨u,List.mem_cons_of_mem _ hu⟩
  ·rintro ⟨u,hu⟩
   rcases List.mem_cons.mp hu with z|z
   ·cases z;exact .inl rfl
   ·exact .inr (ih.mpr ⟨u,z⟩)
section
variable{prog:Program}{w:World}{A:Around}{E:Value->Shared->Prop}{s:Shared}
theorem x50{es:List (Int×Value)}{ms:List Int}{k:Int}(hi:IntsAre (es.map (·.2)) ms):(∃e∈es,(intKind prog w).is k e.2=true)↔k∈ms:=by
 rw[y69 hi];constructor
 ·rintro ⟨e,he,hk⟩
  have hm:e.2∈es.map (·.2):=List.mem_map_of_mem he;obtain⟨n,t,hn⟩:∃n t,e.2=Value.int n t:=hi.all _ hm
  have:k=n:=(intKind prog w).inj e.2 k n hk (by rw[hn];exact intKind_is _ _ _ _)
  subst this
  exact⟨t,by rw[←hn];exact hm⟩
 ·rintro ⟨t,ht⟩
  obtain⟨e,he,hv⟩:=List.mem_map.mp ht
  exact⟨e,he,by rw[hv];exact intKind_is _ _ _ _⟩
theorem w3I{a:Addr}{ms:List Int}{k:Int}{tk:Tok}{Q:Bool->Shared->Prop}(hS:y1J prog w s.heap a ms)(hroom:ms.length+1<scanBound)(h:∀b h' ms',Heap.SameBut a s.heap h'->y1J prog w h' a ms'->(∀x,x∈ms'↔x∈ms∨x=k)->ms'.length≤ms.length+1->Q b { s with heap:=h' }) :
  wpAny (model prog w) A (setAddHashed a (.int k tk) ((intKind prog w).hash k)) Q E s:=by
 obtain⟨o,es,ep,t,ho,hex,hd,hel,hi,hnd,hb,hf,hT⟩:=hS
 have hlen:es.size=ms.length:=by
  have:=hi.length
  rw[List.length_map,Array.length_toList]at this;exact this
 have hkey:(intKind prog w).is k (.int k tk)=true:=intKind_is _ _ _ _;unfold setAddHashed setAddHashedIn;refine wpAny_holding (wpAny_bind (wpAny_setState_of ho hd hf ?_));dsimp only;rw[byScan_of (knd:=intKind prog w) rfl hb hel];simp only[↓reduceIte];unfold setAddByScan;refine wpAny_bind (wpAny_bind (wpAny_rule (wpAny_bind (wpAny_setScan_of hkey ho hd hf hel ?_))))
 cases hr:List.findIdx? (fun e=>(intKind prog w).is k e.2) es.toList with
 | some j =>
  dsimp only;obtain⟨hj,hpj,_⟩:=List.findIdx?_eq_some_iff_getElem.mp hr;have hm:k∈ms:=(x50 hi).mp ⟨es.toList[j],List.getElem_mem hj,hpj⟩;refine wpAny_pure (wpAny_pure ?_)
  have e:s={ s with heap:=s.heap }:=by cases s;rfl
  rw[e]
  exact h _ s.heap ms (Heap.SameBut.refl a s.heap) ⟨o,es,ep,t,ho,hex,hd,hel,hi,hnd,hb,hf,hT⟩ (fun x=>⟨.inl,fun z=>z.elim id fun q=>q▸hm⟩) (Nat.le_succ _)
 | none =>
  dsimp only
  have hm:k∉ms:=fun z=>by
   obtain⟨e,he,hp⟩:=(x50 (prog:=prog) (w:=w) hi).mpr z
   have:=List.findIdx?_eq_none_iff.mp hr e he
   rw[hp]at this;cases this
  have hgw:∀(b:Bool) {s₁:Shared} {Q':Unit->Shared->Prop},Q' () s₁->wpAny (model prog w) A (match b with|true=>rule "set.scan.the-table-gave-way" | false=>pure ()) Q' E s₁ :=
   fun b s₁ Q' hq=>by cases b<;>first|exact wpAny_pure hq|exact wpAny_rule hq
  have hperm:=layNew_perm t es ((intKind prog w).hash k) (.int k tk);have hfits:=layNew_fits t es ((intKind prog w).hash k) (.int k tk);have htb:=x0A hT es ((intKind prog w).hash k) (.int k tk);generalize hL:layNew t es ((intKind prog w).hash k) (.int k tk)=Lx at hperm hfits htb ⊢;obtain⟨es1,t1,wd,gave⟩:=Lx;dsimp only at hperm hfits htb ⊢;rw[Array.toList_push]at hperm;have hel1:ElemsOf (intKind prog w) es1.toList:=(hel.push hkey rfl).perm hperm
  obtain⟨ms1,hi1,hp1⟩:∃ms1,IntsAre (es1.toList.map (·.2)) ms1/\ms1.Perm (ms++[k]):=by
   have p2:(es1.toList.map (·.2)).Perm ((es.toList++[((intKind prog w).hash k,Value.int k tk)]).map (·.2)):=hperm.map _;refine z5I p2 ?_;rw[List.map_append];exact y2P hi
  have hnd1:ms1.Nodup:=hp1.nodup_iff.mpr (List.nodup_append.mpr ⟨hnd,by simp,fun x hx y hy z=>hm (by rw[List.mem_singleton.mp hy]at z;exact z▸hx)⟩)
  have hsz1:es1.size=ms.length+1:=by
   rw[←Array.length_toList,hperm.length_eq,List.length_append,Array.length_toList,hlen];rfl
  have hb1:es1.size<scanBound:=by omega
  have hmem1:∀x,x∈ms1↔x∈ms∨x=k:=fun x=>by
   rw[hp1.mem_iff,List.mem_append,List.mem_singleton]
  have hl1:ms1.length≤ms.length+1:=by
   rw[hp1.length_eq,List.length_append];exact Nat.le_refl _
  have store:∀{h0:Heap} {o0:Obj} {es0:Array (Int×Value)} {ep0:Nat} {t0 t2:SetTable} {es2:Array (Int×Value)},h0.get? a=some o0->o0.ExactSet->o0.data = .set es0 ep0 t0->es2.toList.Perm es1.toList->t2.fits es2.size=true->Tb (!z3S w) t2 ->
    (h0.update a (Obj.putSet es2 t2)).get? a=some { o0 with data:=.set es2 (ep0+1) t2 }/\∃ms2,y1J prog w (h0.update a (Obj.putSet es2 t2)) a ms2/\(∀x,x∈ms2↔x∈ms∨x=k)/\ms2.length≤ms.length+1:=fun {h0 o0 es0 ep0 t0 t2 es2} g0 x0 d0 p2 f2 b2=>by
   have hg:(h0.update a (Obj.putSet es2 t2)).get? a=some { o0 with data:=.set es2 (ep0+1) t2 }:=by
    have:=Heap.get?_update_self (Obj.putSet es2 t2) g0 (by rw[putSet_of es2 t2 d0];rfl)
    rw[putSet_of es2 t2 d0]at this;exact this
   obtain⟨ms2,hi2,hp2⟩:=z5I (p2.map (·.2)) hi1
   have hsz2:es2.size=es1.size:=by rw[←Array.length_toList,p2.length_eq,Array.length_toList]
   exact⟨hg,ms2,⟨_,es2,ep0+1,t2,hg,x0,rfl,hel1.perm p2,hi2,hp2.nodup_iff.mpr hnd1,by rw[hsz2];exact hb1,f2,b2⟩,fun x=>by rw[hp2.mem_iff];exact hmem1 x,by rw[hp2.length_eq];exact hl1⟩
  have tail:∀(t2:SetTable),t2.fits es1.size=true->Tb (!z3S w) t2->∀{R:Option Bool->Shared->Prop},(∀h',Heap.SameBut a s.heap h'->(∃ms2,y1J prog w h' a ms2/\(∀x,x∈ms2↔x∈ms∨x=k)/\ms2.length≤ms.length+1)->R (some true) { s with heap:=h' })->∀{g:Bool->Sem Unit},
    (∀(b:Bool) (s₁:Shared) (Q':Unit->Shared->Prop),Q' () s₁->wpAny (model prog w) A (g b) Q' E s₁) ->
    wpAny (model prog w) A (do
     storeSet a es1 t2
     if (!wd&&t2.tooFull)=true then do
       g (relayAll t2 es1 (SetTable.grown es1.size)).2.2
       storeSet a (relayAll t2 es1 (SetTable.grown es1.size)).1 (relayAll t2 es1 (SetTable.grown es1.size)).2.1
       pure (some true)
      else pure (some true)) R E s:=fun t2 f2 b2 {R} hR {g} hg=>by
   refine wpAny_bind (wpAny_storeSet_of ho hd ?_ (fits_of_scanBound hb1));obtain⟨g1,ms1',G1⟩:=store ho hex hd (List.Perm.refl _) f2 b2;have sb1:=Heap.SameBut.update s.heap a (Obj.putSet es1 t2);split
   ·have hp:=relayAll_perm t2 es1 (SetTable.grown es1.size);have hfr:=relayAll_fits t2 es1 (SetTable.grown es1.size);have htr:=x2P b2 es1 (SetTable.grown es1.size);generalize relayAll t2 es1 (SetTable.grown es1.size)=Rl at hp hfr htr ⊢;obtain⟨es2,t3,gave2⟩:=Rl;dsimp only at hp hfr htr ⊢
    have hsz:es2.size=es1.size:=by rw[←Array.length_toList,hp.length_eq,Array.length_toList]
    refine wpAny_bind (hg _ _ _ (wpAny_bind (wpAny_storeSet_of g1 rfl ?_ (fits_of_scanBound (by rw[hsz];exact hb1)))))
    obtain⟨_,ms2',G2⟩:=store g1 hex rfl hp hfr htr;exact wpAny_pure (hR _ (sb1.trans (Heap.SameBut.update _ a _)) ⟨ms2',G2⟩)
   ·exact wpAny_pure (hR _ sb1 ⟨ms1',G1⟩)
  refine wpAny_bind (hgw _ ?_)
  have hend:∀h',Heap.SameBut a s.heap h'->(∃ms2,y1J prog w h' a ms2/\(∀x,x∈ms2↔x∈ms∨x=k)/\ms2.length≤ms.length+1)->Q true { s with heap:=h' }:=fun h' sb ⟨ms2,G,m,l⟩=>h _ h' ms2 sb G m l
  have hgg:∀(b:Bool) (s₁:Shared) (Q':Unit->Shared->Prop),Q' () s₁->wpAny (model prog w) A (match b with|true=>rule "set.scan.the-table-gave-way" | false=>pure ()) Q' E s₁:=fun b s₁ Q' q=>hgw b q
  split
  ·refine wpAny_bind ?_;rw[hashByValue_scannable 8 rfl];refine wpAny_pure ?_
   refine tail _ ?_ ?_ (fun h' sb z=>?_) hgg
   ·exact hfits
   ·exact htb
   ·dsimp only;exact wpAny_pure (hend h' sb z)
  ·refine wpAny_bind (wpAny_pure ?_);simp only[↓reduceIte]
   refine tail _ hfits htb (fun h' sb z=>?_) hgg
   dsimp only;exact wpAny_pure (hend h' sb z)
theorem z7X{it S:Addr}{fp:List Addr}{n:Nat}{val:Nat->Int}{Sx:Nat->Heap->Prop}{R:Result->Shared->Prop}(W:Walks prog w A.in1 it fp [it] n (fun i v=>∃t,v = .int (val i) t) Sx)(hSf:S∉fp)(hit:it∈fp)(hb:n+1<scanBound) :
  ∀(r i:Nat) (s:Shared) (ms:List Int),n-i=r->i≤n->Sx i s.heap->y1J prog w s.heap S ms->ms.length≤i ->
   (∀h' tk ms',(∀b o,b≠S->b≠it->s.heap.get? b=some o->h'.get? b=some o)->y1J prog w h' S ms'->(∀x,x∈ms'↔x∈ms∨∃j,i≤j/\j<n/\x=val j)->R (.ok (.ret .none)) { s with heap:=h',toks:=tk }) ->
   codeAny (model prog w) A (.builtin "set.update.loop" ⟨[.ref S,.ref it],[]⟩) R s
 | 0,i,s,ms,hr,hi,hx,hS,hl,hR=>by
  have hin:i=n:=by omega
  subst hin
  have hSi:S≠it:=fun z=>hSf (z▸hit)
  refine codeAny_builtin PyProof.Rows.F.entry_set_update_loop ?_;rw[Around.under_plainId PyProof.Rows.F.plain_set_update_loop _]
  show wpAny _ A.in1 (pyNext (.ref it) >>= _) _ _ s
  refine wpAny_bind (W.done s _ _ hx fun h' tk hk=>wpAny_pure (hR h' tk ms (fun b o _ h2 e=>hk b o (by simpa using h2) e) ?_ fun x=>?_))
  ·obtain⟨o,es,ep,t,ho,z⟩:=hS
   exact⟨o,es,ep,t,hk _ _ (by simpa using hSi) ho,z⟩
  ·constructor
   ·exact .inl
   ·rintro (z|⟨j,h1,h2,_⟩)
    ·exact z
    ·omega
 | r+1,i,s,ms,hr,hi,hx,hS,hl,hR=>by
  have hlt:i<n:=by omega
  have hSi:S≠it:=fun z=>hSf (z▸hit)
  refine codeAny_builtin PyProof.Rows.F.entry_set_update_loop ?_;rw[Around.under_plainId PyProof.Rows.F.plain_set_update_loop _]
  show wpAny _ A.in1 (pyNext (.ref it) >>= _) _ _ s
  refine wpAny_bind (W.item i s _ _ hlt hx fun v h1 tk1 hv hx1 hk1=>?_)
  obtain⟨t,rfl⟩:=hv
  have hS1:y1J prog w h1 S ms:=by
   obtain⟨o,es,ep,t,ho,z⟩:=hS
   exact⟨o,es,ep,t,hk1 _ _ (by simpa using hSi) ho,z⟩
  show wpAny _ A.in1 (holding [Value.int (val i) t] (setAdd S (.int (val i) t)) >>= _) _ _ _
  refine wpAny_bind (wpAny_holding ?_);unfold setAdd;refine wpAny_holding (wpAny_bind ((intKind prog w).pyHash (k:=val i) (intKind_is _ _ _ _) ?_))
  refine w3I hS1 (by omega) fun b h2 ms2 sb hS2 hm2 hl2=>?_
  refine wpAny_pure ⟨plainId_quiet PyProof.Rows.F.plain_set_update_loop _,z7X W hSf hit hb r (i+1) _ ms2 (by omega) hlt ?_ hS2 (by omega) fun h3 tk3 ms3 hk3 hS3 hm3=>?_⟩
  ·exact W.frame _ _ _ hx1 fun b hb' o e=>(sb.2 b (fun z=>hSf (z▸hb'))).trans e
  ·refine hR h3 tk3 ms3 (fun b o n1 n2 e=>hk3 b o n1 n2 ((sb.2 b n1).trans (hk1 b o (by simpa using n2) e))) hS3 fun x=>?_
   rw[hm3,hm2];constructor
   ·rintro ((z|z)|⟨j,h1,h2,h3⟩)
    ·exact .inl z
    ·exact .inr ⟨i,Nat.le_refl _,hlt,z⟩
    ·exact .inr ⟨j,by omega,h2,h3⟩
   ·rintro (z|⟨j,h1,h2,h3⟩)
    ·exact .inl (.inl z)
    ·by_cases e:j=i
     ·subst e;exact .inl (.inr h3)
     ·exact .inr ⟨j,by omega,h2,h3⟩
end
theorem y3V:isSubtype (.type "tuple") (.type "set")=pure false:=by rw[isSubtype_type];kernel_rfl
theorem y6V:isSubtype (.type "tuple") (.type "frozenset")=pure false:=by rw[isSubtype_type];kernel_rfl
section
variable{prog:Program}{w:World}{A:Around}{E:Value->Shared->Prop}{s:Shared}
abbrev z02(w:World):Obj:={ cls:=.type "set",dict:=none,data:=.set #[] 0 (.fresh 0 0 (!z3S w)) }
theorem x63(a:Value){Q₁:Value->Shared->Prop}(h:Q₁ (.ref s.heap.objs.size) { s with heap:=s.heap.push (z02 w) }) :
  codeAny (model prog w) A (.call (.builtin "set.__new__") ⟨[.type "set",a],[]⟩) (wants Q₁ E) s:=by
 refine codeAny_of_tree ?_
 show wpAny _ A.in1 (do checkBuiltinCall "set.__new__" ⟨[.type "set",a],[]⟩;again (.builtin "set.__new__" ⟨[.type "set",a],[]⟩)) _ _ s
 refine wpAny_bind (wpAny_of_eq (F.newCall_set_1 a) (wpAny_pure ⟨plainId_quiet F.plain_set_new _,codeAny_builtin F.entry_set_new ?_⟩));rw[Around.under_plainId F.plain_set_new _];unfold Builtin.«set.__new__» Builtin.Frozenset.newClass;have hsub:=sub_set_self;obtain⟨hp,g,d,tk,os⟩:=s;dsimp only
 wp_walk
 refine wpAny_askSetting (wpAny_pure ?_);dsimp only;simp only[newObj];exact wpAny_bind (wpAny_alloc (wpAny_pure (wpAny_pure h)))
theorem x7W{h:Heap}{a:Addr}(ho:h.get? a=some (z02 w)):y1J prog w h a [] :=
 ⟨_,#[],0,_,ho,⟨rfl,rfl,rfl⟩,rfl,fun e he=>by simp at he,.nil,List.nodup_nil,by decide,by rfl,fun _=>List.Pairwise.nil,rfl⟩
theorem y6K{l:Addr}{T:String}{ol:Obj}{n:Nat}{val:Nat->Int}{Sx:Nat->Heap->Prop}{oI:Obj}{Q:Value->Shared->Prop}(hol:s.heap.get? l=some ol)(hcl:ol.cls = .type T)(hs1:isSubtype (.type T) (.type "set")=pure false)(hs2:isSubtype (.type T) (.type "frozenset")=pure false)(hne:(Value.type T==Value.type "dict")=false)(hoI:oI.isFreed=false)(hiter:∀(A':Around) (E':Value->Shared->Prop) (s':Shared) (Q':Value->Shared->Prop),s'.heap.get? l=some ol->Q' (.ref s'.heap.objs.size) { s' with heap:=s'.heap.push oI }->wpAny (model prog w) A' (pyIter (.ref l)) Q' E' s')(hW:Walks prog w A.in1.in1.in1 (s.heap.objs.size+1) [s.heap.objs.size+1,l] [s.heap.objs.size+1] n (fun i v=>∃t,v = .int (val i) t) Sx)(hx:∀h,h.get? l=some ol->h.get? (s.heap.objs.size+1)=some oI->Sx 0 h)(hb:n+1<scanBound)(h:∀(h':Heap) (tk:Nat) (ms:List Int),y1J prog w h' s.heap.objs.size ms->(∀x,x∈ms↔∃j,j<n/\x=val j)->(∀b o,s.heap.get? b=some o->h'.get? b=some o)->Q (.ref s.heap.objs.size) { s with heap:=h',toks:=tk }) :
  wpAny (model prog w) A (call (.type "set") [.ref l]) Q E s:=by
 obtain⟨c,tl,hmro⟩:=F.called_set.mro;have hmade:=F.called_set.made;have hsub:=F.called_set.sub;refine wpAny_call (codeAny_of_tree ?_)
 show wpAny _ _ (callAny (.type "set") _) _ _ _
 refine wpAny_pure ⟨Code.quiet_builtin _ (by decide +kernel),codeAny_builtin F.entry_type_call ?_⟩
 rw[Around.under_plain (weight_type_call_type "set" [.ref l] []) rfl];have h1:=F.called_set.notType;have h2:=F.called_set.canCreate;have hct:=F.typeCall_set_1 (.ref l)
 repeat (any_goals (first|assumption|wp_step))
 refine codeAny_mono (x63 (.ref l) (E:=E) (Q₁:=fun obj s₁=>obj = .ref s.heap.objs.size/\s₁={ s with heap:=s.heap.push (z02 w) }) ⟨rfl,rfl⟩) fun r s₁ hr=>?_
 cases r with
 | error e=>exact hr
 | ok fl =>
  cases fl with
  | ret obj =>
   obtain⟨rfl,rfl⟩:=hr;have hS:(s.heap.push (z02 w)).get? s.heap.objs.size=some (z02 w):=Heap.get?_push_size _ rfl
   have hT:Shared.TypeIs { s with heap:=s.heap.push (z02 w) } (.ref s.heap.objs.size) "set":=⟨_,hS,rfl⟩
   have hli:=F.called_set.init.lookup;have hbi:=F.called_set.init.bind (.ref s.heap.objs.size)
   repeat (any_goals (first|assumption|wp_step))
   refine codeAny_mono (codeAny_call_builtin (R:=wants (fun r s₂=>r = .none/\∃h' tk ms,s₂={ s with heap:=h',toks:=tk }/\y1J prog w h' s.heap.objs.size ms/\(∀x,x∈ms↔∃j,j<n/\x=val j) /\
     (∀b o,s.heap.get? b=some o->h'.get? b=some o)) E) F.called_set.init.plain F.entry_set_init (check_set_init_1 hT ?_)) fun r₂ s₂ hr₂=>?_
   ·obtain⟨ocls,odict,odata,oslots⟩:=ol;have hcl':ocls = .type T:=hcl
    subst hcl'
    have hol':(s.heap.push (z02 w)).get? l=some { cls:=.type T,dict:=odict,data:=odata,slots:=oslots }:=Heap.get?_push_of_some _ hol;unfold Builtin.«set.__init__» noKeywords Builtin.Frozenset.updateFrom;generalize hPI:pyIter=PI
    wp_walk
    subst hPI;refine hiter _ _ _ _ hol' ?_;have hz:(s.heap.push (z02 w)).objs.size=s.heap.objs.size+1:=Heap.size_push ..;rw[hz];refine wpAny_bind (wpAny_runValue ?_);have hlS:l<s.heap.objs.size:=Heap.lt_size hol
    have hSf:s.heap.objs.size∉[s.heap.objs.size+1,l]:=by
     simp only[List.mem_cons,List.not_mem_nil,or_false,not_or]
     exact⟨Nat.ne_of_lt (Nat.lt_succ_self _),Nat.ne_of_gt hlS⟩
    have gI:((s.heap.push (z02 w)).push oI).get? (s.heap.objs.size+1)=some oI:=by
     have g:=Heap.get?_push_size (s.heap.push (z02 w)) (o:=oI) hoI;rw[hz]at g;exact g
    refine z7X hW hSf List.mem_cons_self hb (n-0) 0 _ [] rfl (Nat.zero_le _) (hx _ (Heap.get?_push_of_some _ hol') gI) (x7W (Heap.get?_push_of_some _ hS)) (Nat.zero_le _) fun h' tk ms hk hG hm=>?_
    refine wpAny_pure (wpAny_pure ⟨rfl,h',tk,ms,rfl,hG,fun x=>?_,fun b o e=>?_⟩)
    ·rw[hm];constructor
     ·rintro (z|⟨j,_,z⟩)
      ·cases z
      ·exact⟨j,z⟩
     ·rintro ⟨j,z⟩
      exact .inr ⟨j,Nat.zero_le _,z⟩
    ·have hb1:=Heap.lt_size e;exact hk b o (Nat.ne_of_lt hb1) (Nat.ne_of_lt (Nat.lt_succ_of_lt hb1)) (Heap.get?_push_of_some _ (Heap.get?_push_of_some _ e))
   ·cases r₂ with
    | error e=>exact hr₂
    | ok fl₂ =>
     cases fl₂ with
     | ret r =>
      obtain⟨rfl,h',tk,ms,rfl,hG,hm,hk⟩:=hr₂
      repeat (any_goals (first|assumption|wp_step))
      exact h _ _ _ hG hm hk
     | _=>exact hr₂.elim
  | _=>exact hr.elim
end
theorem Y2:Slot "set_iterator" "__next__" "set_iterator.__next__" :=
 .of (owner:="set_iterator") (n:="__next__") (by rw[typeLookup_type,builtinLookup_eq_fast];kernel_rfl) (by decide +kernel) (by decide +kernel) (by decide +kernel)
  (by first|exact .inl (by decide +kernel)|exact .inr (by decide +kernel)) (by rw[isSubtype_type];kernel_rfl)
theorem z2X:entryFor table "set_iterator.__next__" = some Builtin.«set_iterator.__next__»:=entryFor_of_tree (by kernel_rfl)
theorem z4A(a:Value):argsOk "set_iterator.__next__" ⟨[a],[]⟩:=by unfold argsOk;kernel_rfl
theorem y10:entryFor table "set.__iter__" = some Builtin.«frozenset.__iter__»:=entryFor_alias (id':="frozenset.__iter__") (by kernel_rfl) rfl (by decide +kernel) (by kernel_rfl)
section
variable{prog:Program}{w:World}{A:Around}{E:Value->Shared->Prop}{s:Shared}
theorem y6M{src:Source}{n:Nat}{M:Model}{Q:Nat->Shared->Prop}(hn:n≠0)(h:∀i d,i<n->Q i { s with drawn:=d }):wpAny M A (choose src n) Q E s :=
 fun Γ p hΓ=>⟨hn,h _ _ (Nat.mod_lt _ (Nat.pos_of_ne_zero hn))⟩
theorem x10{α:Type}{M:Model}:∀(n:Nat) (xs:List α) (s:Shared) (Q:List α->Shared->Prop),xs.length=n->(∀ys d,ys.Perm xs->Q ys { s with drawn:=d })->wpAny M A (drawOrder n xs) Q E s
 | 0,xs,s,Q,hl,h=>by
  have:xs=[]:=List.length_eq_zero_iff.mp hl
  subst this
  have:=h [] s.drawn (List.Perm.refl _)
  cases s;exact wpAny_pure this
 | n+1,xs,s,Q,hl,h=>by
  cases hx:xs with
  | nil=>rw[hx]at hl;cases hl
  | cons x0 xr =>
   unfold drawOrder;rw[←hx]
   refine wpAny_bind (y6M (by omega) fun i d hi=>?_)
   rw[List.getElem?_eq_getElem hi];dsimp only
   refine wpAny_bind (x10 n _ _ _ (by rw[List.length_eraseIdx_of_lt hi];omega) fun ys d' hp=>wpAny_pure ?_)
   exact h _ d' ((hp.cons _).trans (erase_perm xs i hi).symm)
abbrev z4Q(first:Value)(i:Nat)(a:Addr)(n ep:Nat):Obj:={ cls:=.type "set_iterator",data:=.fields #[first,rawInt i,.ref a,rawInt n,rawInt ep] }
theorem y9S{it a:Addr}{slot i n ep nx:Nat}{x:Value}{o:Obj}{es:Array (Int×Value)}{t:SetTable}{Q:Option Value->Shared->Prop}(hit:s.heap.get? it=some (z4Q (rawInt slot) i a n ep))(ho:s.heap.get? a=some o)(hd:o.data = .set es ep t)(hf:t.fits es.size=true)(hn:es.size=n)(hnx:∀(A':Around) (Q':Option (Value×Nat)->Shared->Prop) (E':Value->Shared->Prop),Q' (some (x,nx)) s->wpAny (model prog w) A' (setNext a slot i ep) Q' E' s)(hQ:∀h',Heap.SameBut it s.heap h'->h'.get? it=some (z4Q (rawInt nx) (i+1) a n ep)->Q (some x) { s with heap:=h' }):wpAny (model prog w) A (pyNext (.ref it)) Q E s:=by
 have hT:s.TypeIs (.ref it) "set_iterator":=⟨_,hit,rfl⟩;unfold pyNext;refine wpAny_bind (wpAny_attempt (wpAny_callSpecial?_slot (name:=Str.ofString "__next__") hT Y2 (wpAny_call_entry Y2 hT z2X ?_ (z4A _))));unfold Builtin.«set_iterator.__next__»
 refine wpAny_bind (wpAny_of_eq (show slotArgs "__next__" 0 ⟨[.ref it],[]⟩=pure (.ref it,[]) from rfl) ?_)
 dsimp only;refine wpAny_bind (wpAny_fieldsOf hit rfl ?_)
 show wpAny _ _ (setEntries a >>= _) _ _ s
 refine wpAny_bind (wpAny_setEntries_of ho hd hf ?_);rw[hn]
 have e0:((n:Int) != (n:Int))=false:=by simp
 simp only[e0,Bool.false_eq_true,if_false]
 show wpAny _ _ (setNext a slot i ep >>= _) _ _ s
 refine wpAny_bind (hnx _ _ _ ?_);dsimp only
 refine wpAny_bind (wpAny_setField hit rfl (by simp) ?_)
 have g1:(s.heap.update it (Obj.mapFields (·.setIfInBounds 0 (rawInt nx)))).get? it=some (z4Q (rawInt nx) i a n ep):=Heap.get?_update_self _ hit rfl
 refine wpAny_bind (wpAny_setField g1 rfl (by simp) (wpAny_pure ⟨x,rfl,wpAny_pure (hQ _ ((Heap.SameBut.update ..).trans (Heap.SameBut.update ..)) ?_)⟩))
 exact Heap.get?_update_self _ g1 rfl
theorem y9T{it a:Addr}{slot i n ep:Nat}{o:Obj}{es:Array (Int×Value)}{t:SetTable}{Q:Option Value->Shared->Prop}(hh:A.handled=none)(hit:s.heap.get? it=some (z4Q (rawInt slot) i a n ep))(ho:s.heap.get? a=some o)(hd:o.data = .set es ep t)(hf:t.fits es.size=true)(hn:es.size=n)(hnx:∀(A':Around) (Q':Option (Value×Nat)->Shared->Prop) (E':Value->Shared->Prop),Q' none s->wpAny (model prog w) A' (setNext a slot i ep) Q' E' s)(hQ:∀h',Heap.ExtBut it s.heap h'->Q none { s with heap:=h' }):wpAny (model prog w) A (pyNext (.ref it)) Q E s:=by
 have hT:s.TypeIs (.ref it) "set_iterator":=⟨_,hit,rfl⟩;unfold pyNext;refine wpAny_bind (wpAny_attempt (wpAny_callSpecial?_slot (name:=Str.ofString "__next__") hT Y2 (wpAny_call_entry Y2 hT z2X ?_ (z4A _))));unfold Builtin.«set_iterator.__next__»
 refine wpAny_bind (wpAny_of_eq (show slotArgs "__next__" 0 ⟨[.ref it],[]⟩=pure (.ref it,[]) from rfl) ?_)
 dsimp only;refine wpAny_bind (wpAny_fieldsOf hit rfl ?_)
 show wpAny _ _ (setEntries a >>= _) _ _ s
 refine wpAny_bind (wpAny_setEntries_of ho hd hf ?_);rw[hn]
 have e0:((n:Int) != (n:Int))=false:=by simp
 simp only[e0,Bool.false_eq_true,if_false]
 show wpAny _ _ (setNext a slot i ep >>= _) _ _ s
 refine wpAny_bind (hnx _ _ _ ?_);dsimp only
 refine wpAny_bind (wpAny_setField hit rfl (by simp) ?_)
 simp only[newExc,newTuple]
 refine wpAny_bind (wpAny_bind (wpAny_newObj_type ?_ (by size_fits)))
 refine wpAny_bind (m:=firstArgMember _ _) (wpAny_of_eq (a:=Value.none) (by first|rfl|(simp only[firstArgMember];rfl)) ?_)
 refine wpAny_newObj_type ?_ (by size_fits)
 simp only[raiseNew];refine wpAny_bind (wpAny_handled ?_)
 rw[show A.in1.handled=none from hh]
 refine wpAny_bind (wpAny_pure (wpAny_throw ?_));refine wpAny_bind (wpAny_isInstance (T:="StopIteration") (b:=true) ⟨_,Heap.get?_push_size _ rfl,rfl⟩ isSubtype_stop ?_);exact wpAny_pure (hQ _ (((Heap.SameBut.update ..).extBut.push _).push _))
end
section
variable{prog:Program}{w:World}{A:Around}{E:Value->Shared->Prop}{s:Shared}{a:Addr}{o:Obj}{es:Array (Int×Value)}{t:SetTable}{ep:Nat}
theorem y2B{slot i:Nat}{Q:Option (Value×Nat)->Shared->Prop}(hb:z3S w=true)(ho:s.heap.get? a=some o)(hd:o.data = .set es ep t)(hf:t.fits es.size=true)(h:Q (((pickOrder (w.params.setOrder a ep) es)[i]?).map fun e=>(e.2,slot)) s):wpAny (model prog w) A (setNext a slot i ep) Q E s:=by
 unfold setNext;refine wpAny_bind (wpAny_setState_of ho hd hf ?_);dsimp only;unfold setsByText;refine wpAny_bind (wpAny_bind (wpAny_askSetting (wpAny_pure ?_)))
 show wpAny _ _ (if z3S w=true then _ else _) _ _ _
 rw[if_pos hb];simp only[bne_self_eq_false,Bool.false_eq_true,if_false];unfold setWalk;refine wpAny_bind (wpAny_bind (wpAny_setState_of ho hd hf ?_));dsimp only;unfold setsByText;refine wpAny_bind (wpAny_bind (wpAny_askSetting (wpAny_pure ?_)))
 show wpAny _ _ (if z3S w=true then _ else _) _ _ _
 rw[if_pos hb];refine wpAny_bind (wpAny_askSetting (wpAny_pure (wpAny_pure h)))
theorem z9N{slot i:Nat}{Q:Option (Value×Nat)->Shared->Prop}(hb:z3S w=false)(ho:s.heap.get? a=some o)(hd:o.data = .set es ep t)(hf:t.fits es.size=true)(hp:t.plain=true∨es.size≤1)(hL:t.led=true)(h:Q (match es[SetTable.below t.place slot]?,t.place[SetTable.below t.place slot]? with|some (_,x),some j=>some (x,j+1)|_,_=>none) s):wpAny (model prog w) A (setNext a slot i ep) Q E s:=by
 unfold setNext;refine wpAny_bind (wpAny_setState_of ho hd hf ?_);dsimp only;unfold setsByText;refine wpAny_bind (wpAny_bind (wpAny_askSetting (wpAny_pure ?_)))
 show wpAny _ _ (if z3S w=true then _ else _) _ _ _
 rw[if_neg (by rw[hb];exact Bool.false_ne_true)]
 split
 ·rename_i hz;have hz':(!t.plain&&decide (es.size>1))=true:=hz;rw[Bool.and_eq_true]at hz';have z2:=of_decide_eq_true hz'.2
  rcases hp with q|q
  ·rw[q]at hz';cases hz'.1
  ·omega
 ·refine wpAny_bind ?_
  show wpAny _ _ (if (!t.led&&!es.isEmpty)=true then unsupported _ else pure ()) _ _ _
  rw[hL];exact wpAny_pure (wpAny_pure h)
theorem y96{xs:Array Nat}(h:xs.size≤1):Ris xs:=by
 unfold Ris
 have hl:xs.toList.length≤1:=by simpa using h
 match xs.toList,hl with
 | [],_=>exact List.Pairwise.nil
 | [x],_=>exact List.pairwise_singleton _ _
 | _::_::_,hl=>simp at hl
theorem y7L{it T:Addr}{i n p:Nat}{x:Value}{hv:Int}{oT:Obj}{places:Array Value}{nT:Nat}{Q:Option Value->Shared->Prop}(hit:s.heap.get? it=some (z4Q (.ref T) i a n ep))(ho:s.heap.get? a=some o)(hd:o.data = .set es ep t)(hf:t.fits es.size=true)(hn:es.size=n)(hT:s.heap.get? T=some oT)(hdT:oT.data = .seq places nT)(hp:places[i]?=some (rawInt p))(hx:es[p]?=some (hv,x))(hQ:∀h',Heap.SameBut it s.heap h'->h'.get? it=some (z4Q (.ref T) (i+1) a n ep)->Q (some x) { s with heap:=h' }):wpAny (model prog w) A (pyNext (.ref it)) Q E s:=by
 have hTy:s.TypeIs (.ref it) "set_iterator":=⟨_,hit,rfl⟩;unfold pyNext;refine wpAny_bind (wpAny_attempt (wpAny_callSpecial?_slot (name:=Str.ofString "__next__") hTy Y2 (wpAny_call_entry Y2 hTy z2X ?_ (z4A _))));unfold Builtin.«set_iterator.__next__»
 refine wpAny_bind (wpAny_of_eq (show slotArgs "__next__" 0 ⟨[.ref it],[]⟩=pure (.ref it,[]) from rfl) ?_)
 dsimp only;refine wpAny_bind (wpAny_fieldsOf hit rfl ?_)
 show wpAny _ _ (setEntries a >>= _) _ _ s
 refine wpAny_bind (wpAny_setEntries_of ho hd hf ?_);rw[hn]
 have e0:((n:Int) != (n:Int))=false:=by simp
 simp only[e0,Bool.false_eq_true,if_false];refine wpAny_bind (wpAny_seqItems hT hdT ?_)
 have hp':places[((i:Nat):Int).toNat]?=some (rawInt p):=by rw[Int.toNat_natCast];exact hp
 dsimp only;rw[hp']
 show wpAny _ _ (setNextDrawn a p ep >>= _) _ _ s
 unfold setNextDrawn;refine wpAny_bind (wpAny_bind (wpAny_setState_of ho hd hf ?_));dsimp only;simp only[bne_self_eq_false,Bool.false_eq_true,if_false];rw[hx]
 refine wpAny_pure (wpAny_bind (wpAny_setField hit rfl (by simp) (wpAny_pure ⟨x,rfl,wpAny_pure (hQ _ (Heap.SameBut.update ..) ?_)⟩)))
 exact Heap.get?_update_self _ hit rfl
theorem y7M{it T:Addr}{i n:Nat}{oT:Obj}{places:Array Value}{nT:Nat}{Q:Option Value->Shared->Prop}(hh:A.handled=none)(hit:s.heap.get? it=some (z4Q (.ref T) i a n ep))(ho:s.heap.get? a=some o)(hd:o.data = .set es ep t)(hf:t.fits es.size=true)(hn:es.size=n)(hT:s.heap.get? T=some oT)(hdT:oT.data = .seq places nT)(hp:places[i]?=none)(hQ:∀h',Heap.ExtBut it s.heap h'->Q none { s with heap:=h' }):wpAny (model prog w) A (pyNext (.ref it)) Q E s:=by
 have hTy:s.TypeIs (.ref it) "set_iterator":=⟨_,hit,rfl⟩;unfold pyNext;refine wpAny_bind (wpAny_attempt (wpAny_callSpecial?_slot (name:=Str.ofString "__next__") hTy Y2 (wpAny_call_entry Y2 hTy z2X ?_ (z4A _))));unfold Builtin.«set_iterator.__next__»
 refine wpAny_bind (wpAny_of_eq (show slotArgs "__next__" 0 ⟨[.ref it],[]⟩=pure (.ref it,[]) from rfl) ?_)
 dsimp only;refine wpAny_bind (wpAny_fieldsOf hit rfl ?_)
 show wpAny _ _ (setEntries a >>= _) _ _ s
 refine wpAny_bind (wpAny_setEntries_of ho hd hf ?_);rw[hn]
 have e0:((n:Int) != (n:Int))=false:=by simp
 simp only[e0,Bool.false_eq_true,if_false];refine wpAny_bind (wpAny_seqItems hT hdT ?_)
 have hp':places[((i:Nat):Int).toNat]?=none:=by rw[Int.toNat_natCast];exact hp
 dsimp only;rw[hp'];dsimp only
 refine wpAny_bind (wpAny_setField hit rfl (by simp) ?_)
 have g1:(s.heap.update it (Obj.mapFields (·.setIfInBounds 0 (rawInt 0)))).get? it=some (z4Q (rawInt 0) i a n ep):=Heap.get?_update_self _ hit rfl
 refine wpAny_bind (wpAny_setField g1 rfl (by simp) ?_)
 simp only[newExc,newTuple]
 refine wpAny_bind (wpAny_bind (wpAny_newObj_type ?_ (by size_fits)))
 refine wpAny_bind (m:=firstArgMember _ _) (wpAny_of_eq (a:=Value.none) (by first|rfl|(simp only[firstArgMember];rfl)) ?_)
 refine wpAny_newObj_type ?_ (by size_fits)
 simp only[raiseNew];refine wpAny_bind (wpAny_handled ?_)
 rw[show A.in1.handled=none from hh]
 refine wpAny_bind (wpAny_pure (wpAny_throw ?_));refine wpAny_bind (wpAny_isInstance (T:="StopIteration") (b:=true) ⟨_,Heap.get?_push_size _ rfl,rfl⟩ isSubtype_stop ?_);exact wpAny_pure (hQ _ ((((Heap.SameBut.update ..).trans (Heap.SameBut.update ..)).extBut.push _).push _))
theorem z3J:Slot "set_iterator" "__iter__" "set_iterator.__iter__" :=
 .of (owner:="set_iterator") (n:="__iter__") (by rw[typeLookup_type,builtinLookup_eq_fast];kernel_rfl) (by decide +kernel) (by decide +kernel) (by decide +kernel)
  (by first|exact .inl (by decide +kernel)|exact .inr (by decide +kernel)) (by rw[isSubtype_type];kernel_rfl)
theorem z76:entryFor table "set_iterator.__iter__" = some Builtin.«dict_keyiterator.__iter__»:=entryFor_alias (id':="dict_keyiterator.__iter__") (by kernel_rfl) rfl (by decide +kernel) (by kernel_rfl)
theorem z8P(a:Value):argsOk "set_iterator.__iter__" ⟨[a],[]⟩:=by unfold argsOk;kernel_rfl
theorem y2N{it:Addr}{Q:Value->Shared->Prop}(hT:s.TypeIs (.ref it) "set_iterator")(h:Q (.ref it) s):wpAny (model prog w) A (pyIter (.ref it)) Q E s:=by
 refine wpAny_pyIter_slot hT z3J (wpAny_call_entry z3J hT z76 ?_ (z8P _));exact wpAny_pure ⟨_,rfl,"set_iterator",_,hT,Y2.lookup,h⟩
theorem x3L{ms:List Int}{Q:Value->Shared->Prop}(hh:A.handled=none)(hG:y1J prog w s.heap a ms)
  (h:∀(it:Addr) (s':Shared) (ord:List Value) (ms':List Int) (St:Nat->Heap->Prop) (fp:List Addr),(∃hp d,s'={ s with heap:=hp,drawn:=d })->(∀b ob,s.heap.get? b=some ob->s'.heap.get? b=some ob)->IntsAre ord ms'->ms'.Perm ms->(∀b∈fp,b<s'.heap.objs.size)->it∈fp->(∀b∈fp,b=a∨s.heap.objs.size≤b)->s'.TypeIs (.ref it) "set_iterator" ->
   St 0 s'.heap->Walks prog w A.in1 it fp [it] ord.length (fun i v=>ord[i]?=some v) St->Q (.ref it) s') :
  wpAny (model prog w) A (pyIter (.ref a)) Q E s:=by
 obtain⟨o,es,ep,t,ho,hex,hd,hel,hi,hnd,hb,hf,hT⟩:=hG;have hTy:s.TypeIs (.ref a) "set":=⟨o,ho,hex.1⟩
 have hfit:t.place.size=es.size:=by
  unfold SetTable.fits at hf;simp only[Bool.and_eq_true,beq_iff_eq]at hf;exact hf.1
 refine wpAny_pyIter_slot hTy F.slot_set_iter (wpAny_call_entry F.slot_set_iter hTy y10 ?_ (F.args_set_iter_1 _));unfold Builtin.«frozenset.__iter__» Builtin.Frozenset.slot0
 refine wpAny_bind (wpAny_bind (wpAny_of_eq (show slotArgs "__iter__" 0 ⟨[.ref a],[]⟩=pure (.ref a,[]) from rfl) ?_))
 show wpAny _ _ (pure a) _ _ s
 refine wpAny_pure ?_;unfold Builtin.Frozenset.sizeOf;refine wpAny_bind (wpAny_bind (wpAny_setEntries_of ho hd hf (wpAny_pure ?_)));unfold setDrawn;refine wpAny_bind (wpAny_bind (wpAny_setState_of ho hd hf ?_));dsimp only;unfold setsByText;refine wpAny_bind (wpAny_bind (wpAny_askSetting (wpAny_pure ?_)))
 have ep1:∀(s1:Shared) {A1:Around} {E1:Value->Shared->Prop} {Q1:Nat->Shared->Prop},s1.heap.get? a=some o->Q1 ep s1->wpAny (model prog w) A1 (setEpoch a) Q1 E1 s1:=fun s1 {A1 E1 Q1} g q=>by
  unfold setEpoch;exact wpAny_bind (wpAny_setState_of g hd hf (wpAny_pure q))
 show wpAny _ _ (pure (!z3S w&&_) >>= _) _ _ s
 refine wpAny_bind (wpAny_pure ?_);have alt:a<s.heap.objs.size:=Heap.lt_size ho
 have num:∀(slot:Nat->Nat) (ord:List Value) (ms':List Int),slot 0=0->ord.length=es.size->IntsAre ord ms'->ms'.Perm ms ->
   (∀i x,ord[i]?=some x->∀(s1:Shared),s1.heap.get? a=some o->∀(A':Around) (Q':Option (Value×Nat)->Shared->Prop) (E':Value->Shared->Prop),Q' (some (x,slot (i+1))) s1->wpAny (model prog w) A' (setNext a (slot i) i ep) Q' E' s1) ->
   (∀(s1:Shared),s1.heap.get? a=some o->∀(A':Around) (Q':Option (Value×Nat)->Shared->Prop) (E':Value->Shared->Prop),Q' none s1->wpAny (model prog w) A' (setNext a (slot es.size) es.size ep) Q' E' s1) ->
   wpAny (model prog w) A.in1 (do
    let e ←setEpoch a
    let r ←newFields "set_iterator" [rawInt 0,rawInt 0,.ref a,rawInt es.size,rawInt e]
    ret r) (fun fin s'=>∃v,fin = .done (.ret v)/\∃T' r,s'.TypeIs v T'/\typeLookup (.type T') "__next__" = pure (some r)/\Q v s') E s:=fun slot ord ms' h0 hl hi' hp hn1 hn2=>by
  refine wpAny_bind (ep1 s ho ?_);unfold newFields
  refine wpAny_bind (wpAny_newObj_type (wpAny_pure ⟨_,rfl,"set_iterator",_,⟨_,Heap.get?_push_size _ rfl,rfl⟩,Y2.lookup,?_⟩) (by size_fits))
  refine h s.heap.objs.size _ ord ms' (fun i hp=>hp.get? a=some o/\hp.get? s.heap.objs.size=some (z4Q (rawInt (slot i)) i a es.size ep)) [s.heap.objs.size,a] ⟨_,s.drawn,rfl⟩ (fun b ob e=>Heap.get?_push_of_some _ e) hi' hp (fun b hb=>?_) List.mem_cons_self (fun b hb=>(List.mem_cons.mp hb).elim (fun z=>.inr (z▸Nat.le_refl _)) fun z=>.inl (List.mem_singleton.mp z)) ⟨_,Heap.get?_push_size _ rfl,rfl⟩ ⟨Heap.get?_push_of_some _ ho,by rw[h0];exact Heap.get?_push_size _ rfl⟩ ⟨fun b hb=>?_,fun i h1 h2 st hk=>⟨hk _ (by simp) _ st.1,hk _ (by simp) _ st.2⟩,fun i s1 Q1 E1 hi1 st hQ=>?_,fun s1 Q1 E1 st hQ=>?_,fun i s1 Q1 E1 st q=>?_⟩
  ·rw[Heap.size_push]
   rcases List.mem_cons.mp hb with z|z
   ·rw[z];exact Nat.lt_succ_self _
   ·rw[List.mem_singleton.mp z];exact Nat.lt_succ_of_lt alt
  ·simp at hb;simp[hb]
  ·have hx:=List.getElem?_eq_getElem hi1
   refine y9S (slot:=slot i) (nx:=slot (i+1)) st.2 st.1 hd hf rfl (fun A' Q' E' q=>hn1 i _ hx s1 st.1 A' Q' E' q) fun h' sb g=>?_
   exact hQ _ h' s1.toks hx ⟨(sb.2 a (Nat.ne_of_lt alt)).trans st.1,g⟩ fun b ob hb e=>(sb.2 b (by simpa using hb)).trans e
  ·have st':s1.heap.get? a=some o/\s1.heap.get? s.heap.objs.size=some (z4Q (rawInt (slot es.size)) es.size a es.size ep):=by rw[←hl];rw[←hl]at st;exact st
   refine y9T (A:=A.in1) hh st'.2 st'.1 hd hf rfl (fun A' Q' E' q=>hn2 s1 st'.1 A' Q' E' q) fun h' sb=>?_
   exact hQ h' s1.toks fun b ob hb e=>sb b ob (by simpa using hb) e
  ·exact y2N ⟨_,st.2,rfl⟩ q
 cases hbt:z3S w with
 | true =>
  refine wpAny_pure ?_
  show wpAny _ _ (if false=true then _ else _) _ _ s
  rw[if_neg Bool.false_ne_true];refine wpAny_bind (wpAny_pure ?_);have pp:=y9G (w.params.setOrder a ep) es;obtain⟨ms',hi',hp'⟩:=z5I (pp.map (·.2)) hi
  have hl:((pickOrder (w.params.setOrder a ep) es).toList.map (·.2)).length=es.size:=by rw[List.length_map,pp.length_eq,Array.length_toList]
  refine num (fun _=>0) _ ms' rfl hl hi' hp' (fun i x hx s1 g A' Q' E' q=>?_) (fun s1 g A' Q' E' q=>?_)
  ·refine y2B hbt g hd hf ?_;rw[List.getElem?_map,Array.getElem?_toList]at hx
   cases he:(pickOrder (w.params.setOrder a ep) es)[i]? with
   | none=>rw[he]at hx;cases hx
   | some e =>
    rw[he]at hx;cases hx;exact q
  ·refine y2B hbt g hd hf ?_
   have hz:(pickOrder (w.params.setOrder a ep) es).size=es.size:=by rw[←Array.length_toList,pp.length_eq,Array.length_toList]
   rw[Array.getElem?_eq_none (by omega)]
   exact q
 | false =>
  have hL:t.led=true:=by rw[hT.2,hbt];rfl
  by_cases hdr:(!t.plain&&decide (es.size>1))=true
  ·-- drawn
   refine wpAny_pure ?_
   show wpAny _ _ (if (!t.plain&&decide (es.size>1))=true then _ else _) _ _ s
   rw[if_pos hdr]
   refine wpAny_bind (x10 es.size (List.range es.size) s _ (by simp) fun ys d hys=>?_)
   have ylen:ys.length=es.size:=by rw[hys.length_eq,List.length_range]
   have ylt:∀i∈ys,i<es.size:=fun i hi1=>List.mem_range.mp (hys.mem_iff.mp hi1)
   refine wpAny_bind (wpAny_newTuple ?_ (by rw[List.length_map,ylen,sizeLine_eq];unfold scanBound at hb;omega))
   generalize hoT:({ cls:=.type "tuple",data:=.seq (ys.map fun (i:Nat)=>rawInt i).toArray }:Obj)=oT
   have hdT:oT.data = .seq (ys.map fun (i:Nat)=>rawInt i).toArray 0:=by rw[←hoT]
   have gT:(s.heap.push oT).get? s.heap.objs.size=some oT:=Heap.get?_push_size _ (by rw[←hoT];rfl)
   have go:(s.heap.push oT).get? a=some o:=Heap.get?_push_of_some _ ho;have hz:(s.heap.push oT).objs.size=s.heap.objs.size+1:=Heap.size_push ..
   show wpAny _ _ (setEpoch a >>= _) _ _ { s with heap:=s.heap.push oT,drawn:=d }
   refine wpAny_bind (ep1 _ go ?_);unfold newFields
   refine wpAny_bind (wpAny_newObj_type (wpAny_pure ⟨_,rfl,"set_iterator",_,⟨_,Heap.get?_push_size _ rfl,rfl⟩,Y2.lookup,?_⟩) (by size_fits))
   show Q (.ref (s.heap.push oT).objs.size) { s with heap:=(s.heap.push oT).push (z4Q (.ref s.heap.objs.size) 0 a es.size ep),drawn:=d }
   rw[hz]
   have gI:((s.heap.push oT).push (z4Q (.ref s.heap.objs.size) 0 a es.size ep)).get? (s.heap.objs.size+1)=some (z4Q (.ref s.heap.objs.size) 0 a es.size ep):=by
    have g:=Heap.get?_push_size (s.heap.push oT) (o:=z4Q (.ref s.heap.objs.size) 0 a es.size ep) rfl;rw[hz]at g;exact g
   have ordI:∃ms',IntsAre (ys.map fun i=>(es.toList.map (·.2)).getD i Value.none) ms'/\ms'.Perm ms:=by
    refine z5I ?_ hi
    have h2:=hys.map (fun i=>(es.toList.map (·.2)).getD i Value.none)
    have h3:(List.range es.size).map (fun i=>(es.toList.map (·.2)).getD i Value.none)=es.toList.map (·.2):=by
     have:=z66 (es.toList.map (·.2))
     rw[List.length_map,Array.length_toList]at this;exact this
    rw[h3]at h2;exact h2
   obtain⟨ms',hi',hp'⟩:=ordI
   refine h (s.heap.objs.size+1) _ _ ms' (fun i hp=>hp.get? a=some o/\hp.get? s.heap.objs.size=some oT/\hp.get? (s.heap.objs.size+1)=some (z4Q (.ref s.heap.objs.size) i a es.size ep)) [s.heap.objs.size+1,s.heap.objs.size,a] ⟨_,d,rfl⟩ (fun b ob e=>Heap.get?_push_of_some _ (Heap.get?_push_of_some _ e)) hi' hp' (fun b hb=>?_) List.mem_cons_self (fun b hb=>(List.mem_cons.mp hb).elim (fun z=>.inr (z▸Nat.le_succ _)) fun z=>(List.mem_cons.mp z).elim (fun y=>.inr (y▸Nat.le_refl _)) fun y=>.inl (List.mem_singleton.mp y)) ⟨_,gI,rfl⟩ ⟨Heap.get?_push_of_some _ go,Heap.get?_push_of_some _ gT,gI⟩
    ⟨fun b hb=>?_,fun i h1 h2 st hk=>⟨hk _ (by simp) _ st.1,hk _ (by simp) _ st.2.1,hk _ (by simp) _ st.2.2⟩,fun i s1 Q1 E1 hi1 st hQ=>?_,fun s1 Q1 E1 st hQ=>?_,fun i s1 Q1 E1 st q=>?_⟩
   ·rw[Heap.size_push,hz]
    have hb':b=s.heap.objs.size+1∨b=s.heap.objs.size∨b=a:=by simpa using hb
    rcases hb' with z|z|z
    ·rw[z];exact Nat.lt_succ_self _
    ·rw[z];exact Nat.lt_succ_of_lt (Nat.lt_succ_self _)
    ·rw[z];exact Nat.lt_succ_of_lt (Nat.lt_succ_of_lt alt)
   ·simp at hb;simp[hb]
   ·have hiy:i<ys.length:=by simpa using hi1
    have hpl:ys[i]<es.size:=ylt _ (List.getElem_mem hiy)
    have hv:(ys.map fun i=>(es.toList.map (·.2)).getD i Value.none)[i]?=some (es[ys[i]]).2:=by
     rw[List.getElem?_map,List.getElem?_eq_getElem hiy]
     show some ((es.toList.map (·.2)).getD ys[i] Value.none)=_
     rw[j2 (x:=(es[ys[i]]).2) (by rw[List.getElem?_map,Array.getElem?_toList,Array.getElem?_eq_getElem hpl];rfl)]
    refine y7L (p:=ys[i]) (x:=(es[ys[i]]).2) (hv:=(es[ys[i]]).1) st.2.2 st.1 hd hf rfl st.2.1 hdT ?_ (by rw[Array.getElem?_eq_getElem hpl]) fun h' sb g=>?_
    ·rw[List.getElem?_toArray,List.getElem?_map,List.getElem?_eq_getElem hiy];rfl
    ·exact hQ _ h' s1.toks hv ⟨(sb.2 a (Nat.ne_of_lt (Nat.lt_succ_of_lt alt))).trans st.1,(sb.2 _ (Nat.ne_of_lt (Nat.lt_succ_self _))).trans st.2.1,g⟩ fun b ob hb e=>(sb.2 b (by simpa using hb)).trans e
   ·refine y7M (A:=A.in1) hh st.2.2 st.1 hd hf rfl st.2.1 hdT ?_ fun h' sb=>?_
    ·rw[List.getElem?_toArray]
     exact List.getElem?_eq_none (by simp)
    ·exact hQ h' s1.toks fun b ob hb e=>sb b ob (by simpa using hb) e
   ·exact y2N ⟨_,st.2.2,rfl⟩ q
  ·have hpl:t.plain=true∨es.size≤1:=by
    cases htp:t.plain with
    | true=>exact .inl rfl
    | false =>
     refine .inr ?_;rw[htp]at hdr;simpa using hdr
   have hris:Ris t.place:=by
    rcases hpl with z|z
    ·exact hT.1 z
    ·exact y96 (by rw[hfit];exact z)
   refine wpAny_pure ?_
   show wpAny _ _ (if (!t.plain&&decide (es.size>1))=true then _ else _) _ _ s
   rw[if_neg hdr];refine wpAny_bind (wpAny_pure ?_)
   have slotAt:∀i,i≤es.size->SetTable.below t.place (if i=0 then 0 else t.place.getD (i-1) 0+1)=i:=fun i hi1=>by
    by_cases hz:i=0
    ·subst hz;rw[if_pos rfl];exact y7U hris
    ·rw[if_neg hz,x46 hris (by omega)]
     omega
   refine num (fun i=>if i=0 then 0 else t.place.getD (i-1) 0+1) (es.toList.map (·.2)) ms rfl (by simp) hi (List.Perm.refl _) (fun i x hx s1 g A' Q' E' q=>?_) (fun s1 g A' Q' E' q=>?_)
   ·refine z9N hbt g hd hf hpl hL ?_;rw[List.getElem?_map,Array.getElem?_toList]at hx
    cases he:es[i]? with
    | none=>rw[he]at hx;cases hx
    | some e =>
     rw[he]at hx;cases hx;have hi1:i<es.size:=(Array.getElem?_eq_some_iff.mp he).1;rw[slotAt i (Nat.le_of_lt hi1),he]
     have hpi:t.place[i]?=some (t.place.getD i 0):=by
      have:i<t.place.size:=by omega
      rw[Array.getElem?_eq_getElem this];simp[Array.getD,this]
     rw[hpi]
     have e2:(if i+1=0 then 0 else t.place.getD (i+1-1) 0+1)=t.place.getD i 0+1:=by rw[if_neg (by omega)];rfl
     rw[e2]at q;exact q
   ·refine z9N hbt g hd hf hpl hL ?_;rw[slotAt es.size (Nat.le_refl _),Array.getElem?_eq_none (Nat.le_refl _)];exact q
end
theorem y22:typeLookup (.type "set") "__len__" = pure (some (.builtin "set.__len__")):=by rw[typeLookup_type,builtinLookup_eq_fast];kernel_rfl
section
variable{prog:Program}{w:World}{A:Around}{E:Value->Shared->Prop}{s:Shared}{a:Addr}{ms:List Int}
theorem x49{α:Type}{M:Model}{c:Prop}[Decidable c]{x y:Sem α}{Q:α->Shared->Prop}(h:c)(hx:wpAny M A x Q E s):wpAny M A (if c then x else y) Q E s:=by rw[if_pos h];exact hx
theorem y4K{Q:List Value->Shared->Prop}(hh:A.handled=none)(hG:y1J prog w s.heap a ms)(hQ:∀s' vs ms',(∃hp tk d,s'={ s with heap:=hp,toks:=tk,drawn:=d })->(∀b o,s.heap.get? b=some o->s'.heap.get? b=some o)->s.heap.objs.size≤s'.heap.objs.size->IntsAre vs ms'->ms'.Perm ms->Q vs s'):wpAny (model prog w) A (collect (.ref a)) Q E s:=by
 have lms:ms.length<scanBound:=by
  obtain⟨o,es,ep,t,ho,hex,hd,hel,hi,hnd,hb,hf,hT⟩:=hG
  have:=hi.length
  rw[List.length_map,Array.length_toList]at this;omega
 have alt:a<s.heap.objs.size:=by
  obtain⟨o,es,ep,t,ho,_⟩:=hG;exact Heap.lt_size ho
 unfold collect;refine wpAny_bind (wpAny_runValue (codeAny_builtin F.entry_proto_collect ?_));rw[Around.under_plainId F.plain_proto_collect _]
 show wpAny _ A.in1 (newList [] >>= fun l=>again (.builtin "list.__iadd__" ⟨[l,.ref a],[]⟩)) _ _ s
 refine wpAny_bind (wpAny_newObj_type ?_);refine wpAny_pure ⟨plainId_quiet F.plain_list_iadd _,codeAny_builtin F.entry_list_iadd ?_⟩;rw[Around.under_plainId F.plain_list_iadd _];generalize hh1:s.heap.push { cls:=.type "list",data:=.seq ([]:List Value).toArray }=h1
 have g1:h1.get? s.heap.objs.size=some { cls:=.type "list",data:=.seq ([]:List Value).toArray }:=by rw[←hh1];exact Heap.get?_push_size _ rfl
 have k1:∀b o,s.heap.get? b=some o->h1.get? b=some o:=fun b o e=>by rw[←hh1];exact Heap.get?_push_of_some _ e
 have G1:y1J prog w h1 a ms:=by
  obtain⟨o,es,ep,t,ho,z⟩:=hG
  exact⟨o,es,ep,t,k1 _ _ ho,z⟩
 have hTy:Shared.TypeIs { s with heap:=h1 } (.ref a) "set":=by
  obtain⟨o,es,ep,t,ho,hex,_⟩:=G1
  exact⟨o,ho,hex.1⟩
 show wpAny _ A.in1 (Builtin.List.listExtendWith (.ref s.heap.objs.size) (.ref a) (.ref s.heap.objs.size)) _ _ { s with heap:=h1 }
 unfold Builtin.List.listExtendWith;refine wpAny_bind (wpAny_typeOf hTy ?_)
 have e1:Builtin.List.listSameRef (.ref s.heap.objs.size) (.ref a)=false:=by simp[Builtin.List.listSameRef,Nat.ne_of_gt alt]
 have e2:(Value.type "set"==Value.type "list")=false:=by decide
 have e3:(Value.type "set"==Value.type "tuple")=false:=by decide
 simp only[e1,e2,e3,Bool.or_false,Bool.false_eq_true,if_false]
 refine wpAny_bind (x3L (A:=A.in1) hh G1 fun it s2 ord ms' St fp hs2 k2 hi' hp hfp hit hfa hTi st W=>?_)
 obtain⟨h2,d2,rfl⟩:=hs2
 have hTy2:Shared.TypeIs { s with heap:=h2,drawn:=d2 } (.ref a) "set":=by
  obtain⟨o,es,ep,t,ho,hex,_⟩:=G1
  exact⟨o,k2 _ _ ho,hex.1⟩
 refine wpAny_bind (wpAny_holding ?_);unfold Builtin.List.listLengthHint;refine wpAny_bind (wpAny_specialOf hTy2 y22 ?_)
 have hsp:splitId "set.__len__" = some ("set","__len__"):=by decide +kernel
 dsimp only;rw[hsp];dsimp only;refine wpAny_bind (wpAny_isInstance hTy2 sub_set_self ?_)
 rw[if_neg (show ¬((!true)=true) by decide)]
 refine x49 ?_ ?_
 ·rfl
 refine wpAny_bind (wpAny_typeOf hTy2 ?_);refine wpAny_pure (x49 ?_ ?_)
 ·rfl
 refine wpAny_bind (wpAny_rule ?_);have gS:h2.get? s.heap.objs.size=some { cls:=.type "list",data:=.seq ([]:List Value).toArray }:=k2 _ _ g1;refine wpAny_bind ?_
 show wpAny _ A.in1 (updateSeq s.heap.objs.size (·.push .none) >>= fun _=>updateSeq s.heap.objs.size (·.pop)) _ _ { s with heap:=h2,drawn:=d2 }
 refine wpAny_bind (wpAny_updateSeq gS rfl ?_);have gS2:=Heap.get?_update_self (Obj.mapSeq (·.push Value.none)) gS rfl;refine wpAny_updateSeq gS2 rfl ?_;have gS3:=Heap.get?_update_self (Obj.mapSeq (·.pop)) gS2 rfl
 have z1:s.heap.objs.size<h1.objs.size:=by rw[←hh1,Heap.size_push];exact Nat.lt_succ_self _
 have hSf:s.heap.objs.size∉fp:=fun z=>by
  rcases hfa _ z with y|y
  ·exact Nat.ne_of_gt alt y
  ·exact Nat.lt_irrefl _ (Nat.lt_of_lt_of_le z1 y)
 have oth:∀b o,b≠s.heap.objs.size->h2.get? b=some o->((h2.update s.heap.objs.size (Obj.mapSeq (·.push Value.none))).update s.heap.objs.size (Obj.mapSeq (·.pop))).get? b=some o :=
  fun b o hb e=>(Heap.get?_update_other _ _ (Ne.symm hb)).trans ((Heap.get?_update_other _ _ (Ne.symm hb)).trans e)
 have olen:ord.length=ms.length:=by rw[hi'.length,hp.length_eq]
 refine wpAny_pure ⟨plainId_quiet F.plain_extend_loop _,codeAny_extend_loopS (Walks.of_in1 W).toS (by rw[olen,sizeLine_eq];unfold scanBound at lms;omega) _ hSf _ ord.length 0 _ _ _ rfl (Nat.zero_le _) (W.frame 0 _ _ st fun b hb o e=>oth b o (fun z=>hSf (z▸hb)) e) gS3 (ItemsOf.nil _) fun s' acc c hm hS hacc=>?_⟩
 show wpAny _ A (load s.heap.objs.size >>= _) _ _ s'
 refine wpAny_bind (wpAny_load hS ?_)
 have eacc:acc.toList=ord:=by
  apply List.ext_getElem?;intro j;rw[Array.getElem?_toList]
  cases hj:acc[j]? with
  | some v=>exact (hacc.2 j v hj).symm
  | none =>
   have:acc.size≤j:=by
    rcases Nat.lt_or_ge j acc.size with z|z
    ·rw[Array.getElem?_eq_getElem z]at hj;cases hj
    ·exact z
   rw[hacc.1]at this;exact (List.getElem?_eq_none this).symm
 show wpAny _ A (pure acc.toList) Q E s'
 rw[eacc]
 have itn:∀b o,s.heap.get? b=some o->b≠it:=fun b o e z=>by
  rcases hfa it hit with y|y
  ·obtain⟨o1,q1,c1⟩:=hTi;obtain⟨o2,q2,c2⟩:=hTy2;rw[y]at q1;have q3:some o1=some o2:=q1.symm.trans q2;cases q3;rw[c1]at c2
   exact absurd (Value.type.inj c2) (by decide)
  ·exact Nat.lt_irrefl _ (Nat.lt_of_lt_of_le (Nat.lt_trans (z▸Heap.lt_size e) z1) y)
 refine wpAny_pure (hQ s' ord ms' ⟨s'.heap,s'.toks,d2,?_⟩ (fun b o e=>?_) (Nat.le_of_lt (Heap.lt_size hS)) hi' hp)
 ·have e1:=hm.gens;have e2:=hm.drawn;have e3:=hm.os
  cases s'
  simp only at e1 e2 e3
  subst e1;subst e2;subst e3;rfl
 ·have hb:=Heap.lt_size e
  exact hm.heap b o (by
   simp only[List.mem_cons,List.not_mem_nil,or_false,not_or]
   exact⟨Nat.ne_of_lt hb,itn b o e⟩) (oth b o (Nat.ne_of_lt hb) (k2 _ _ (k1 _ _ e)))
end
end L3
namespace L3
open PySem PySem.Spec PyProof.Rows L2 PySem.SeqAt
def z4E:List Int->List Int
 | []=>[]
 | x::xs=>if x∈z4E xs then z4E xs else x::z4E xs
theorem z57:∀{xs:List Int} {y:Int},y∈z4E xs↔y∈xs
 | [],y=>Iff.rfl
 | x::xs,y=>by
  unfold z4E;by_cases h:x∈z4E xs
  ·rw[if_pos h,z57,List.mem_cons];constructor
   ·exact .inr
   ·rintro (z|z)
    ·rw[z];exact z57.mp h
    ·exact z
  ·rw[if_neg h,List.mem_cons,List.mem_cons,z57]
theorem z4M:∀xs:List Int,(z4E xs).Nodup
 | []=>List.nodup_nil
 | x::xs=>by
  unfold z4E;by_cases h:x∈z4E xs
  ·rw[if_pos h];exact z4M xs
  ·rw[if_neg h];exact List.nodup_cons.mpr ⟨h,z4M xs⟩
theorem y5M{α:Type}:∀{xs ys:List α},xs.Nodup->ys.Nodup->(∀a,a∈xs↔a∈ys)->xs.Perm ys
 | [],ys,_,_,h=>by
  cases ys with
  | nil=>exact List.Perm.refl _
  | cons y ys=>exact absurd ((h y).mpr List.mem_cons_self) (by simp)
 | x::xs,ys,hx,hy,h=>by
  have hm:x∈ys:=(h x).mp List.mem_cons_self;obtain⟨k,hk,e⟩:=List.getElem_of_mem hm;have p:=erase_perm ys k hk;rw[e]at p;have hy':=List.nodup_cons.mp (p.nodup_iff.mp hy);have hx':=List.nodup_cons.mp hx
  refine (List.Perm.cons x (y5M hx'.2 hy'.2 fun a=>?_)).trans p.symm
  constructor
  ·intro ha
   have:=p.mem_iff.mp ((h a).mp (List.mem_cons_of_mem _ ha))
   rcases List.mem_cons.mp this with z|z
   ·rw[z]at ha;exact absurd ha hx'.1
   ·exact z
  ·intro ha
   have:=(h a).mpr (p.mem_iff.mpr (List.mem_cons_of_mem _ ha))
   rcases List.mem_cons.mp this with z|z
   ·rw[z]at ha;exact absurd ha hy'.1
   ·exact z
theorem z5A{xs ys:List Int}(h:xs.Perm ys):z4O xs=z4O ys :=
 z2F (le:=fun a b:Int=>a≤b) (fun a b h1 h2=>by omega) ((z2G xs).trans (h.trans (z2G ys).symm)) (z7K xs) (z7K ys) (fun a=>Int.le_refl a)
section
variable{X:Cx}
abbrev w1Z(X:Cx)(a:Addr)(ms:List Int):HO:=.ext fun h=>y1J X.prog X.w h a ms
theorem x64{H:Hp}{h:Heap}{a:Addr}{ms:List Int}(G:y1J X.prog X.w h a ms):z0W X.prog X.w H h a (w1Z X a ms):=by
 obtain⟨o,es,ep,t,ho,z⟩:=G
 refine⟨⟨o,es,ep,t,ho,z⟩,⟨o,ho⟩,fun h1 h2 hz k=>?_⟩
 obtain⟨o',es',ep',t',ho',z'⟩:=hz
 exact⟨o',es',ep',t',k _ ho',z'⟩
def w0E(X:Cx):List V->Hp->VK->Prop:=fun xs H Q=>∃(p:Addr) (ns:List Int),xs=[.ref p]/\(SqL X.K H p (ns.map V.int)∨SqT X.K H p (ns.map V.int))/\ns.length+1<scanBound/\∀(a:Addr) (ms:List Int),H a=none->ms.Nodup->(∀x,x∈ms↔x∈ns)->Q (.ref a) (upd H a (w1Z X a ms))
theorem y7P(hc:X.calm=true):z0Y X (.type "set") (w0E X):=by
 intro pins s σ H xs us Q I r h;obtain⟨p,ns,rfl,hq,hb,q⟩:=h;obtain⟨u,rfl,rx⟩:=z3D r;cases rx;have hh:X.A.handled=none:=I.ok.hd hc
 have fin:∀(h':Heap) (tk:Nat) (ms:List Int),y1J X.prog X.w h' s.heap.objs.size ms->(∀x,x∈ms↔∃j,j<ns.length/\x=ns.getD j 0)->(∀b o,s.heap.get? b=some o->h'.get? b=some o)->EP X pins σ Q (.ref s.heap.objs.size) { s with heap:=h',toks:=tk }:=fun h' tk ms G hm hk=>by
  refine⟨.ref s.heap.objs.size,_,I.laid (t':=tk) hk (Nat.le_refl _) (x64 G),rfl,q _ ms (I.hok.fresh (Nat.le_refl _)) ?_ fun x=>?_⟩
  ·obtain⟨o,es,ep,t,ho,hex,hd,hel,hi,hnd,_⟩:=G;exact hnd
  ·rw[hm];constructor
   ·rintro ⟨j,hj,rfl⟩
    rw[j2 (List.getElem?_eq_getElem hj)];exact List.getElem_mem hj
   ·intro hx;obtain⟨j,hj,e⟩:=List.getElem_of_mem hx
    exact⟨j,hj,by rw[j2 (List.getElem?_eq_getElem hj),e]⟩
 rcases hq with hq|hq
 ·obtain⟨its,rv,pl,hz⟩:=I.list hq;have hi:IntsAre its ns:=K1 rv;have hl:=hi.length
  have hsz0:its.toArray.size=ns.length:=by simp[hl]
  obtain⟨ol,hol,hcl,nl,hdl⟩:=pl.isList;have hpl:p<s.heap.objs.size:=Heap.lt_size hol
  have vn:∀(i:Nat) (v:Value),its.toArray[i]?=some v->∃t,v = .int (ns.getD i 0) t:=fun i v hv=>IntsAre.int_at hi i v (by simpa using hv)
  have W0:=Walks.list (prog:=X.prog) (w:=X.w) (A:=X.A.in1.in1.in1) hh (s.heap.objs.size+1) p (Nat.ne_of_lt (Nat.lt_succ_of_lt hpl)) its.toArray
  refine y6K (T:="list") (n:=ns.length) (val:=fun i=>ns.getD i 0) (oI:={ cls:=.type "list_iterator",data:=.fields #[.ref p,.int 0 0] }) (Sx:=fun i h=>h.IsListIter (s.heap.objs.size+1) p i/\h.IsList p its.toArray) hol hcl F.sub_list_set F.sub_list_frozenset (by decide) rfl
   (fun A' E' s' Q' g q'=>wpAny_pyIter_list ⟨ol,g,hcl,nl,hdl⟩ q')
   ⟨W0.sub,W0.frame,fun i s1 Q1 E1 hi1 st hQ=>W0.item i s1 Q1 E1 (by simpa [hl] using hi1) st fun v h' tk hP a b=>hQ v h' tk (vn i v hP) a b,fun s1 Q1 E1 st hQ=>W0.done s1 Q1 E1 (by rw[hsz0];exact st) hQ,W0.self⟩
   (fun h' g1 g2=>⟨⟨_,g2,rfl,rfl⟩,⟨ol,g1,hcl,nl,hdl⟩⟩) hb fin
 ·obtain⟨its,rv,pl,hz⟩:=I.tuple hq;have hi:IntsAre its ns:=K1 rv;have hl:=hi.length
  have hsz0:its.toArray.size=ns.length:=by simp[hl]
  obtain⟨ol,hol,hcl,nl,hdl⟩:=pl;have hpl:p<s.heap.objs.size:=Heap.lt_size hol
  have vn:∀(i:Nat) (v:Value),its.toArray[i]?=some v->∃t,v = .int (ns.getD i 0) t:=fun i v hv=>IntsAre.int_at hi i v (by simpa using hv)
  have W0:=Walks.tuple (prog:=X.prog) (w:=X.w) (A:=X.A.in1.in1.in1) hh (s.heap.objs.size+1) p (Nat.ne_of_lt (Nat.lt_succ_of_lt hpl)) its.toArray
  refine y6K (T:="tuple") (n:=ns.length) (val:=fun i=>ns.getD i 0) (oI:={ cls:=.type "tuple_iterator",data:=.fields #[.ref p,.int 0 0] }) (Sx:=fun i h=>h.IsTupleIter (s.heap.objs.size+1) p i/\h.IsTuple p its.toArray) hol hcl y3V y6V (by decide) rfl
   (fun A' E' s' Q' g q'=>wpAny_pyIter_tuple ⟨ol,g,hcl,nl,hdl⟩ q')
   ⟨W0.sub,W0.frame,fun i s1 Q1 E1 hi1 st hQ=>W0.item i s1 Q1 E1 (by simpa [hl] using hi1) st fun v h' tk hP a b=>hQ v h' tk (vn i v hP) a b,fun s1 Q1 E1 st hQ=>W0.done s1 Q1 E1 (by rw[hsz0];exact st) hQ,W0.self⟩
   (fun h' g1 g2=>⟨⟨_,g2,rfl,rfl⟩,⟨ol,g1,hcl,nl,hdl⟩⟩) hb fin
theorem Inv.laidD{pins:List (Addr×Obj)}{σ:St}{H:Hp}{s:Shared}{a:Addr}{o:HO}{h':Heap}{t':Nat}{d':Drawn}(I:Inv X pins σ H s)(k:∀b u,s.heap.get? b=some u->h'.get? b=some u)(hp:s.heap.objs.size≤a)(new:z0W X.prog X.w (upd H a o) h' a o) :
  Inv X pins σ (upd H a o) { s with heap:=h',toks:=t',drawn:=d' }:=by
 have hn:=I.hok.fresh hp;have sm:u5 H (upd H a o):=v8 hn
 refine I.step (g':=s.gens) (d':=d') (ch:=[]) (fun _ z=>nomatch z) (fun b o' _ _ _ e _=>k b o' e) (fun b o' _ _ _ e _=>⟨o'.slots,k b o' e⟩) (fun b o' _ e n=>?_) (fun b o' _ e=>⟨o',k b o' e⟩) (fun b xs e=>sm _ _ e) (fun b o' u e=>sm _ _ e) (fun b ps e=>⟨#[],by rw[sm _ _ e];simp⟩) (fun m hm=>?_) (I.hok.laid k hp new) I.bare
 ·rw[v9]
  ·exact n
  ·intro z
   have:=Heap.lt_size e
   rw[z]at this;exact absurd (Nat.lt_of_lt_of_le this hp) (Nat.lt_irrefl _)
 ·obtain⟨o',es',ep',ho',r'⟩:=hm
  exact⟨o',es',ep',k _ _ ho',r'⟩
def x2S(X:Cx):List V->Hp->VK->Prop:=fun xs H Q=>∃(a:Addr) (ms:List Int),xs=[.ref a]/\H a=some (w1Z X a ms)/\ms.length<64/\∀l,H l=none->Q (.ref l) (upd H l (.lst ((z4O ms).map V.int)))
theorem y31(hc:X.calm=true):z0Y X (.builtin "sorted") (x2S X):=by
 intro pins s σ H xs us Q I r h;obtain⟨a,ms,rfl,hH,h64,q⟩:=h;obtain⟨u,rfl,rx⟩:=z3D r;cases rx;have hh:X.A.handled=none:=I.ok.hd hc;have G:y1J X.prog X.w s.heap a ms:=(I.hok a _ hH).1;refine Calls.call_function_entry kind_sorted plain_sorted entry_sorted (args_sorted1 _) ?_;unfold Builtin.«sorted»;refine wpAny_bind (m:=checkCount "sorted" 1 1 _) (wpAny_pure ?_)
 refine wpAny_bind (y4K (A:=X.A.in1) hh G fun s1 vs ms' hs1 k1 hsz hi hp=>?_)
 obtain⟨h1,tk1,d1,rfl⟩:=hs1
 have lvs:vs.length=ms.length:=by rw[hi.length,hp.length_eq]
 have hz:vs.length≤sizeLine:=by rw[sizeLine_eq];omega
 refine wpAny_bind (wpAny_newList ?_ hz);have g2:(h1.push (seqObj "list" vs.toArray 0)).get? h1.objs.size=some (seqObj "list" vs.toArray 0):=Heap.get?_push_size _ rfl
 show wpAny _ _ _ _ _ { s with heap:=h1.push (seqObj "list" vs.toArray 0),toks:=tk1,drawn:=d1 }
 refine wpAny_bind (wpAny_holding (wpAny_call_entry slot_list_sort ⟨_,g2,rfl⟩ entry_list_sort (y58 (κ:=oneType') (y5Q ms') g2 (by omega) (fun g h _ Q' q'=>?_) (fun h _ i j hi' hj' C hC=>?_) (fun p p1 p2 p3=>⟨_,rfl,wpAny_pure ⟨_,rfl,?_⟩⟩)) (args_list_sort _)))
 ·rw[z8A hi g];exact wpAny_pure q'
 ·obtain⟨ti,ei⟩:=z6D hi hi';obtain⟨tj,ej⟩:=z6D hi hj';rw[ei,ej,keyLt'_oneType];exact oneLt_int hC
 ·have lms:ms'.length=vs.length:=hi.length.symm;have hz2:(h1.push (seqObj "list" vs.toArray 0)).objs.size=h1.objs.size+1:=size_push' ..;have pl:∀i∈p.toList,i<vs.length:=z4T p2;have rv:Q4 (ms'.map V.int) vs:=z7W hi
  have v1:Q4 (p.toList.map fun i=>(ms'.map V.int).getD i .non) (p.toList.map fun i=>vs.getD i Value.none):=x2Z rv _ fun i hi1=>by rw[List.length_map,lms];exact pl i hi1
  have v2:(p.toList.map fun i=>(ms'.map V.int).getD i .non)=(z4O ms).map V.int:=by
   rw[←z5A hp]
   have e:(p.toList.map fun i=>(ms'.map V.int).getD i .non)=(p.toList.map fun i=>ms'.getD i 0).map V.int:=by
    rw[List.map_map];apply List.map_congr_left;intro i hi1
    have h2:i<ms'.length:=by rw[lms];exact pl i hi1
    show (ms'.map V.int).getD i .non=V.int (ms'.getD i 0)
    rw[j2 (x:=V.int ms'[i]) (by rw[List.getElem?_map,List.getElem?_eq_getElem h2];rfl),j2 (List.getElem?_eq_getElem h2)]
   rw[e]
   congr 1
   refine z2F (le:=fun a b:Int=>a≤b) (fun a b h1 h2=>by omega) ((x3D (by rw[lms];exact p2)).trans (z2G ms').symm) ?_ (z7K ms') (fun a=>Int.le_refl a)
   rw[List.pairwise_map]
   exact (z2Q p1 p3).imp fun h=>by
    have:=of_decide_eq_false h
    omega
  rw[v2]at v1
  obtain⟨e,he⟩:=sortedHeap_at (out:=List.toArray (p.toList.map fun i=>vs.getD i Value.none)) g2
  refine⟨.ref h1.objs.size,_,Inv.laidD (s:=s) (t':=tk1) (d':=d1) (o:=.lst ((z4O ms).map V.int)) I (fun b u g=>?_) hsz ?_,rfl,q _ (I.hok.fresh hsz)⟩
  ·have hb:=Heap.lt_size (k1 _ _ g)
   exact (sortedHeap_old (Nat.ne_of_lt hb) (by rw[hz2];exact Nat.lt_succ_of_lt hb)).trans (Heap.get?_push_of_some _ (k1 _ _ g))
  ·refine⟨?_,_,e,v1,he⟩
   rw[List.length_map,(z2G ms).length_eq,sizeLine_eq];omega
variable{e:Expr}{fa:z9->Option (List D)}{p p2 pos pos2:Pos}
def z2Z(fa:z9->Option (List D)):z9->Option (List D):=fun ρ=>match fa ρ with
 | some ds=>(match Y5 ds with|some ns=>if ns.length<64 then some ((z4O (z4E ns)).map D.int) else none|none=>none)
 | none=>none
theorem x5R{K:PySem.W.Frag}{Z:List Addr}{H:Hp}{a:Addr}{xs:List V}{ns:List Int}(hq:SqL K H a xs∨SqT K (j7 Z H) a xs)(rr:u7 K (j7 Z H) (ns.map D.int) xs):SqL K H a (ns.map V.int)∨SqT K H a (ns.map V.int):=by
 rw[Q3]at rr;subst rr;exact hq.imp id (v3 y4)
theorem y6Y(hc:X.calm=true)(hm:X.mg "sorted" = none)(hms:X.mg "set" = none)(ha:SQ X e fa)(hg:Gl X "sorted":=by rfl)(hgs:Gl X "set":=by rfl)(hv:bootBuiltins "sorted" = some (.builtin "sorted"):=by decide +kernel)(hvs:bootBuiltins "set" = some (.type "set"):=by decide +kernel)(he:starEach [e] X.env=(false,eval e X.env)::starEach [] X.env:=by exact y2 rfl)(hpl:(backTo pos2 (starEach [] X.env)).any (·.1)=false:=by exact x6 rfl)(he2:starEach [.Call (.Name "set" p2) [e] [] pos2] X.env=(false,eval (.Call (.Name "set" p2) [e] [] pos2) X.env)::starEach [] X.env:=by exact y2 rfl)(hpl2:(backTo pos (starEach [] X.env)).any (·.1)=false:=by exact x6 rfl) :
  SF X (.Call (.Name "sorted" p) [.Call (.Name "set" p2) [e] [] pos2] [] pos) (z2Z fa) :=
 v5 (z20 (y31 hc) hg hm hv (J9 (z1O (y7P hc) hgs hms hvs (J9 ha W4 he) (by decide) (by decide) he hpl) W4 he2) (by decide) (by decide) he2 hpl2) fun σ H Q ⟨ρ,es,B,H0,V0,Z,e1,r,q⟩=>by
  unfold z2Z at e1;split at e1
  ·rename_i ds eds;split at e1
   ·rename_i ns hn;split at e1
    ·rename_i h64;cases e1;have hds:=Q8 hn;subst hds
     refine⟨ρ,_,B,H0,V0,Z,eds,r,fun a xs H1 s1 hq rr=>⟨a,ns,rfl,x5R hq rr,by unfold scanBound;omega,fun b ms hb hnd hmem=>?_⟩⟩
     have pm:ms.Perm (z4E ns):=y5M hnd (z4M ns) fun x=>by rw[hmem,z57]
     have l1:(z4E ns).length≤ns.length:=by
      have:∀xs:List Int,(z4E xs).length≤xs.length:=fun xs=>by
       induction xs with
       | nil=>exact Nat.le_refl _
       | cons x xs ih =>
        unfold z4E;split
        ·exact Nat.le_succ_of_le ih
        ·exact Nat.succ_le_succ ih
      exact this ns
     refine⟨b,ms,rfl,x5,by rw[pm.length_eq];omega,fun l hl=>?_⟩
     have hlb:l≠b:=fun z=>by rw[z,x5]at hl;cases hl
     rw[v9 hlb]at hl
     have sm:u5 H1 (upd (upd H1 b (w1Z X b ms)) l (.lst ((z4O ms).map V.int))):=(v8 hb).trans (v8 (by rw[v9 hlb];exact hl))
     refine q l _ _ (s1.trans sm) (s1.free hl) x5 ?_;rw[z5A pm];exact Q3.mpr rfl
    ·cases e1
   ·cases e1
  ·cases e1
end
end L3
namespace L3
open PySem PySem.Spec PyProof.Rows L2
structure StandsL(K:PySem.W.Frag)(mg:Str->Option Value)(x:Str)(st:Stmt):Prop where
 ex:∃f fd,Fun K x x st f fd/\mg x=some (.ref f)/\z94 K fd.code x=true
theorem w38{P:Program}{w:World}{K:PySem.W.Frag}{mg:Str->Option Value}{base:Heap}{x:Str}{st:Stmt}{N ps:List Str}{k n:Nat}{g:z9->Option Out}(G:StandsL K mg x st)(S:FnScope N ps (z7 st))(hb:∀(kV doc pm:Value) (an:Option Addr) (cdv ct:Value) (us:List Value),us.length=ps.length->bindArgs (PySem.W.fnOf x x (j8 st) (y8 st) (z7 st) .none kV doc pm an cdv ct) ⟨us,[]⟩=pure (ps.zip us))(hn:ps.length=n)
  (hbody:∀(f:Addr) (cdv:Value) (A:Around) (outer:List Env) (s:Shared) (H:Hp) (E:XK),z94 K cdv x=true->Room k (A.deeper (envOfC x (z7 st) s.heap.objs.size f cdv)) ->
   SSs (z47 CX0 P w K mg base N x (z7 st) f cdv A outer s H E).nox (y8 st) g):FnD P w K mg base (k+1) x ps (dFn n N g):=by
 obtain⟨f,fd,G1,G2,G3⟩:=G.ex
 refine⟨f,fd,?_,G2,G1.kp,G1.binds hb⟩
 obtain⟨oc,od,kV,doc,pm,an,cdv,ct,osl,rfl,lk,hcd⟩:=G1.ex
 refine w1Q lk hcd S (fun vs H Q E h=>?_) fun A outer s H vs Q E hr h=>?_
 ·obtain⟨Z,ds,d,zs,rr,e,q⟩:=h;rw[←rr.length];unfold dFn at e;split at e
  ·rename_i hl;rw[hl,hn]
  ·cases e
 ·obtain⟨Z,ds,d,zs,rr,e,q⟩:=h
  have e2:z67 (g (z38 N ds))=some d:=by
   unfold dFn at e;split at e
   ·exact e
   ·cases e
  refine⟨_,(hbody f cdv A outer s H E G3 hr).nox,?_⟩
  cases ho:g (z38 N ds) with
  | none=>rw[ho]at e2;cases e2
  | some o =>
   refine⟨z38 N ds,o,Z,H,j7 Z H,Z,ho,y56 zs rr,?_⟩
   rw[ho]at e2
   cases o with
   | rt d'=>cases e2;exact fun v H' s' rv=>q v H' s' rv
   | nx ρ=>cases e2;exact fun σ H' Z' r'=>q .non H' r'.same (Y3.mpr rfl)
   | bk _=>cases e2
   | ct _=>cases e2
theorem x9E{X:Cx}{sts:List Stmt}:SSs X sts (fun _=>none):=fun pins s σ H E I h=>by
 obtain⟨ρ,o,B,H0,V0,Z,e,_⟩:=h;cases e
theorem mem_look{α:Type}{a:Addr}{b:α}:∀{l:List (Addr×α)},l.lookup a=some b->(a,b)∈l
 | [],h=>by cases h
 | (k,v)::l,h=>by
  rw[List.lookup_cons]at h
  cases hk:a==k with
  | true =>
   rw[hk]at h
   have e:a=k:=by simpa using hk
   cases h;rw[e];exact List.mem_cons_self
  | false =>
   rw[hk]at h;exact List.mem_cons_of_mem _ (mem_look h)
def z7Y(K:PySem.W.Frag)(ts:List (Addr×Str)):Bool :=
 (K.all fun co=>match co.2 with
  | ⟨.type "code",_,.fields vs,_⟩=>(match (vs[11]?:Option Value) with
   | some (.ref P)=>(K.lookup P).isSome||!z89 vs||(match (vs[1]?:Option Value) with|some (.str q _)=>(match ts.lookup P with|some q'=>q==q'|none=>false)|_=>false)
   | _=>true)
  | _=>true)&&(ts.all fun pq=>(K.lookup pq.1).isNone&&K.any fun co=>PySem.W.codeHdIn K co.1 pq.1)
theorem y8R{K:PySem.W.Frag}{ts:List (Addr×Str)}(h:z7Y K ts=true){H:Hp}(hH:∀P q,ts.lookup P=some q->H P=some (.tbl #[.str q 0])):TB K H:=fun c o vs P h1 h2 h3 h4 h5 h5'=>by
 unfold z7Y at h;rw[Bool.and_eq_true]at h;have h6:=List.all_eq_true.mp h.1 (c,o) (mem_look h1);obtain⟨cls,dict,data,sl⟩:=o;simp only at h2 h3;subst h2;subst h3
 have h6:(match (vs[11]?:Option Value) with
   | some (.ref P)=>(K.lookup P).isSome||!z89 vs||(match (vs[1]?:Option Value) with|some (.str q _)=>(match ts.lookup P with|some q'=>q==q'|none=>false)|_=>false)
   | _=>true)=true:=h6
 rw[h4]at h6;dsimp only at h6;rw[h5,h5']at h6;simp only[Option.isSome_none,Bool.false_or,Bool.not_true]at h6;split at h6
 ·rename_i q t hq;split at h6
  ·rename_i q' hq'
   have e:q=q':=by simpa using h6
   subst e
   exact⟨q,t,hq,hH P q hq'⟩
  ·cases h6
 ·cases h6
theorem y1T{K:PySem.W.Frag}{ts:List (Addr×Str)}(h:z7Y K ts=true){P:Addr}{q:Str}(e:ts.lookup P=some q):K.lookup P=none/\∃c,PySem.W.codeHdIn K c P=true:=by
 unfold z7Y at h;rw[Bool.and_eq_true]at h;have h6:=List.all_eq_true.mp h.2 (P,q) (mem_look e);rw[Bool.and_eq_true]at h6;obtain⟨co,_,hc⟩:=List.any_eq_true.mp h6.2
 exact⟨by simpa using h6.1,co.1,hc⟩
theorem x0B{P:Program}{w:World}{K:PySem.W.Frag}{mg mb:Str->Option Value}{k:Nat}{fa a:Addr}{fd:FuncData}{x:Str}{sp:Sp}{s₁:Shared}{vs:List Value}{ns:List Int}{ts:List (Addr×Str)}(KX:K.In s₁.heap)(hns:s₁.heap.Ns mainGlobals mg)(hb:s₁.heap.Ns builtinsNs mb)(hbb:∀x:Str,x≠"__name__"->mb x=bootBuiltins x)(hlim:s₁.heap.NoLimit)(hbm:∃bm ob,mg "__builtins__" = some (.ref bm)/\bm≠builtinsNs/\s₁.heap.get? bm=some ob/\ob.cls = .type "module"/\ob.dict=some builtinsNs/\ob.data = .plain)(hg:s₁.gens = #[])(ha:s₁.heap.get? a=some { cls:=.type "list",data:=.seq vs.toArray })(hi:IntsAre vs ns)(hl:ns.length≤sizeLine)(hr:Room k callerA)(hts:z7Y K ts=true)(htt:∀P q,ts.lookup P=some q->s₁.heap.get? P=some { cls:=.none,data:=.fields #[] })(F:∀base:Heap,K.In base->base.Ns mainGlobals mg->FnOk P w K mg base CX0 k fa fd [x] sp)(hbind:∀(s:Shared) (u:Value),BindsTo s fd ⟨[u],[]⟩ [(x,u)])(hsp:∀H:Hp,TB K H->SqL K H a (ns.map V.int)->sp [.ref a] H (fun v _=>v = .bl true) fun _ _ _=>False) :
  codeAny (model P w) callerA (.call (.ref fa) ⟨[.ref a],[]⟩) (fun r s'=>r = .ok (.ret (.bool true))/\OldK s₁.heap s'.heap/\s'.os=s₁.os/\AllBare s'.gens) s₁:=by
 have rv:=z7W hi;have lenV:=hi.length
 have nota:∀q,ts.lookup a≠some q:=fun q z=>by
  have:=htt a q z
  rw[ha]at this;cases this
 have core:∀H:Hp,(∀b,(∃q,ts.lookup b=some q/\H b=some (.tbl #[.str q 0]))∨(ts.lookup b=none/\(H b=none∨(b=a/\K.lookup a=none/\H a=some (.frz { cls:=.type "list",data:=.seq vs.toArray } (.lst (ns.map V.int)))))))->SqL K H a (ns.map V.int) ->
   codeAny (model P w) callerA (.call (.ref fa) ⟨[.ref a],[]⟩) (fun r s'=>r = .ok (.ret (.bool true))/\OldK s₁.heap s'.heap/\s'.os=s₁.os/\AllBare s'.gens) s₁:=fun H hH hS=>by
  have hok:HOk P w H s₁.heap:=fun b u z=>by
   rcases hH b with⟨q,e1,e2⟩|⟨e1,e2|⟨rfl,_,e2⟩⟩
   ·rw[e2]at z;cases z
    exact⟨#[],htt b q e1,trivial,fun p v c=>by cases c⟩
   ·rw[e2]at z;cases z
   ·rw[e2]at z;cases z
    exact⟨ha,by rw[List.length_map];exact hl,vs,_,rv,ha⟩
  have base_of:∀{b:Addr} {o:Obj},s₁.heap.get? b=some o->H b=none->(x3O s₁.heap H).get? b=some o:=fun e n=>x3N e n
  have noA:∀{b:Addr} {o:Obj} {es:Array DictEntry} {ep:Nat},s₁.heap.get? b=some o->o.data = .dict es ep->H b=none:=fun {b o es ep} e d=>by
   rcases hH b with⟨q,e1,e2⟩|⟨e1,e2|⟨rfl,_,e2⟩⟩
   ·have:=htt b q e1
    rw[e]at this;cases this;cases d
   ·exact e2
   ·rw[ha]at e;cases e;cases d
  have noM:∀{b:Addr} {o:Obj},s₁.heap.get? b=some o->o.data = .plain->H b=none:=fun {b o} e d=>by
   rcases hH b with⟨q,e1,e2⟩|⟨e1,e2|⟨rfl,_,e2⟩⟩
   ·have:=htt b q e1
    rw[e]at this;cases this;cases d
   ·exact e2
   ·rw[ha]at e;cases e;cases d
  have nsK:∀{b:Addr} {m:Str->Option Value},s₁.heap.Ns b m->(x3O s₁.heap H).Ns b m:=fun {b m} ⟨o,es,ep,e,d,r⟩=>⟨o,es,ep,base_of e (noA e d),d,r⟩
  have hKb:K.In (x3O s₁.heap H):=fun b o e=>base_of (KX b o e) (by
   rcases hH b with⟨q,e1,e2⟩|⟨e1,e2|⟨rfl,e3,e2⟩⟩
   ·rw[(y1T hts e1).1]at e;cases e
   ·exact e2
   ·rw[e3]at e;cases e)
  have hM:Mod K mg (x3O s₁.heap H):=⟨hKb,nsK hns,⟨mb,nsK hb,hbb⟩,(let ⟨mc,h1,h2⟩:=hlim;⟨mc,nsK h1,h2⟩),let ⟨bm,ob,m1,m2,m3,m4,m5,m6⟩:=hbm;⟨bm,ob,m1,m2,base_of m3 (noM m3 m6),m4,m5,m6⟩⟩
  have e0:Env0 P w K mg (x3O s₁.heap H) callerA [] s₁ H:=⟨rfl,hM,fun b o e=>x7A e,Nat.le_of_eq (x0O _ _),trivial,fun b hb=>absurd (show b∈([]:List Addr) from hb) (by simp),hok,.of_eq hg⟩
  have tb:TB K H:=y8R hts fun Q q e=>by
   rcases hH Q with⟨q',e1,e2⟩|⟨e1,_⟩
   ·rw[e]at e1;cases e1;exact e2
   ·rw[e]at e1;cases e1
  refine codeAny_mono ((F _ hKb (nsK hns)).run callerA [] s₁ H ⟨[.ref a],[]⟩ [.ref a] [.ref a] _ _ hr e0 (hbind s₁ (.ref a)) (.cons rfl .nil) (hsp H tb hS)) fun r s' h=>?_
  cases r with
  | error e=>exact False.elim h
  | ok fl =>
   cases fl with
   | next=>exact False.elim h
   | brk=>exact False.elim h
   | cont=>exact False.elim h
   | ret u =>
    obtain⟨v,H',os,bare,un,hok',r',q⟩:=h;have q':v = .bl true:=q
    subst q'
    obtain rfl:u=Value.bool true:=r'
    refine⟨rfl,⟨fun b o e=>?_,fun b o e=>un.there b o e (by simp)⟩,os,bare⟩
    rcases hH b with⟨q,e1,e2⟩|⟨e1,e2|⟨rfl,_,e2⟩⟩
    ·obtain⟨more,z2⟩:=un.tbls b _ e2;obtain⟨qs,z3,_⟩:=hok' b _ z2;have e3:=htt b q e1;rw[e]at e3;cases e3;obtain⟨c,hc⟩:=(y1T hts e1).2;have ct:=(PySem.W.CodeHd.tab (PySem.W.codeHd_of_K KX hc) e).isCodeTable
     exact .inr (.inl ⟨ct,rfl,#[],qs,rfl,by rw[z3];simp⟩)
    ·exact .inl (un.keep b o e e2 (by intro z;exact absurd (show b∈([]:List Addr) from z) (by simp)) (by simp))
    ·have z2:=un.frzs b _ _ e2;obtain⟨z3,_⟩:=hok' b _ z2;rw[ha]at e;cases e;exact .inl z3
 cases hk:K.lookup a with
 | some o =>
  have e:=KX a o hk;rw[ha]at e;cases e
  refine core (fun b=>(ts.lookup b).map fun q=>.tbl #[.str q 0]) (fun b=>?_) (.inr ⟨_,vs.toArray,_,hk,rfl,rfl,rfl,by rw[List.size_toArray,lenV];exact hl,by simpa using rv⟩)
  cases hb':ts.lookup b with
  | none=>exact .inr ⟨rfl,.inl rfl⟩
  | some q=>exact .inl ⟨q,rfl,rfl⟩
 | none =>
  refine core (fun b=>if b=a then some (.frz { cls:=.type "list",data:=.seq vs.toArray } (.lst (ns.map V.int))) else (ts.lookup b).map fun q=>.tbl #[.str q 0]) (fun b=>?_) (.inl (.inr ⟨{ cls:=.type "list",data:=.seq vs.toArray },if_pos rfl⟩))
  by_cases hba:b=a
  ·subst hba;refine .inr ⟨?_,.inr ⟨rfl,hk,if_pos rfl⟩⟩
   cases hb':ts.lookup b with
   | none=>rfl
   | some q=>exact absurd hb' (nota q)
  ·cases hb':ts.lookup b with
   | none=>exact .inr ⟨rfl,.inl (if_neg hba)⟩
   | some q=>exact .inl ⟨q,rfl,if_neg hba⟩
theorem x24{l:PySem.W.OpenLaw}{n k:Nat}{q:Program}{loose:List Str}{XP:(Str->Option Value)->Heap->Prop}{YP:World->Heap->Prop}{d:DefRec}{K:Params->PySem.W.Frag}{sp:World->Sp}{x:Str}(ts:List (Addr×Str))(hn:l.most=some n)(hn2:n≤sizeLine)(hdf:d.params.defaults=[])(hr:Room k callerA)(hY:∀(w:World) (h:Heap),YP w h->(K w.params).In h)(hT:∀(w:World) (h:Heap),YP w h->∀P q,ts.lookup P=some q->h.get? P=some { cls:=.none,data:=.fields #[] })(hK:∀w:World,z7Y (K w.params) ts=true)
  (F:∀(w:World) (mg:Str->Option Value) (fa:Addr) (h:Heap),(K w.params).In h->h.Ns mainGlobals mg->mg d.name=some (.ref fa) ->
   ∃fd:FuncData,(∀(s:Shared) (u:Value),BindsTo s fd ⟨[u],[]⟩ [(x,u)]) /\
    ∀base:Heap,(K w.params).In base->base.Ns mainGlobals mg->FnOk l.prog w (K w.params) mg base CX0 k fa fd [x] (sp w))
  (hsp:∀(w:World) (H:Hp) (a:Addr) (ns:List Int),ns.length≤n->TB (K w.params) H->SqL (K w.params) H a (ns.map V.int)->sp w [.ref a] H (fun v _=>v = .bl true) fun _ _ _=>False) :
  PySem.W.WalkO q loose XP YP l.row.toRowW d [] (fun f vs=>PySem.call f vs):=by
 refine Att.attach_call hn hdf fun w s₀ s₁ mg mb fa o pm cd doc a vs ns G Y ho hd hcd hmg hobj hints hlen hg=>?_
 have KX:=hY w _ Y;obtain⟨fd,hb,hF⟩:=F w mg fa _ KX G.T.g hmg
 exact x0B KX G.T.g G.T.b G.T.builtins G.T.nolimit G.T.bmain hg hobj hints (Nat.le_trans hlen hn2) hr (hK w) (fun P q e=>hT w _ Y P q e) hF hb (fun H hO hS=>hsp w H a ns hlen hO hS)
end L3
namespace L3
open PySem PySem.Spec PyProof.Rows L2 PySem.SeqAt
structure ZE(X:Cx)(e:Expr)(f:z9->Option D):Prop where
 h:SE X e f
structure ZQ(X:Cx)(e:Expr)(f:z9->Option (List D)):Prop where
 h:SQ X e f
structure ZF(X:Cx)(e:Expr)(f:z9->Option (List D)):Prop where
 h:SF X e f
structure ZT(X:Cx)(e:Expr)(f:z9->Option Bool):Prop where
 h:STt X e f
structure ZW(X:Cx)(e:Expr)(f:z9->Option Bool):Prop where
 h:STw X e f
structure ZA(X:Cx)(e:List Expr)(f:z9->Option (List D)):Prop where
 h:SA X e f
structure ZS(X:Cx)(e:Stmt)(f:z9->Option Out):Prop where
 h:SS X e f
structure ZB(X:Cx)(e:List Stmt)(f:z9->Option Out):Prop where
 h:SSs X e f
structure ZG(X:Cx)(e:Expr)(f:D->z9->Option z9):Prop where
 h:SG X e f
structure ZGs(X:Cx)(e:List Expr)(f:List D->z9->Option z9):Prop where
 h:SGs X e f
structure ZX(X:Cx)(e:Expr)(f:z9->Option (D×z9)):Prop where
 h:SX X e f
structure ZL(X:Cx)(e:Expr)(f:z9->Option (List D)):Prop where
 h:SL X e f
structure ZQL(X:Cx)(e:Expr)(f:z9->Option (List D)):Prop where
 h:SQL X e f
structure ZO(X:Cx)(e:Option Expr)(f:z9->Option (Option Int)):Prop where
 h:SO X e f
structure ZFD(X:Cx)(e:Expr)(f:z9->Option (List Key×List D)):Prop where
 h:SFD X e f
structure ZI(X:Cx)(tg e:Expr)(f:z9->Option (List D)):Prop where
 h:SI X tg e f
structure ZIc(X:Cx)(tg e:Expr)(f:z9->Option (List D)):Prop where
 h:SIc X tg e f
structure ZP(X:Cx)(ifs:List Expr)(f:z9->Option Bool):Prop where
 h:x1P X ifs (tT X.K f)
section
variable{X:Cx}
theorem zsv(i:Nat){x:Str}{pos:Pos}(hN:X.N[i]?=some x:=by rfl)(hv:Vis X.env.scope x:=by first|exact Or.inl rfl|exact Or.inr (Or.inl rfl)|exact Or.inr (Or.inr rfl))(hd:(x==("__debug__":Str))=false:=by decide)(hcd:(x==("__classdict__":Str))=false:=by decide):ZE X (.Name x pos) (y1 i) :=
 ⟨sv (i:=i) (hN:=hN) (hv:=hv) (hd:=hd) (hcd:=hcd)⟩
theorem zqv(i:Nat){x:Str}{pos:Pos}(hN:X.N[i]?=some x:=by rfl)(hv:Vis X.env.scope x:=by first|exact Or.inl rfl|exact Or.inr (Or.inl rfl)|exact Or.inr (Or.inr rfl))(hd:(x==("__debug__":Str))=false:=by decide)(hcd:(x==("__classdict__":Str))=false:=by decide):ZQ X (.Name x pos) (z8X i) :=
 ⟨qv (i:=i) (hN:=hN) (hv:=hv) (hd:=hd) (hcd:=hcd)⟩
theorem y9{i j pos}:ZE X (.Constant (.int i) j pos) (dC (.int i)) :=
 ⟨x9Z ⟩
theorem z2E{b j pos}:ZE X (.Constant (.bool b) j pos) (dC (.bl b)) :=
 ⟨w2N ⟩
theorem y8H{j pos}:ZE X (.Constant .none j pos) (dC .non) :=
 ⟨x9T ⟩
theorem z0D{x j pos}:ZE X (.Constant (.str x) j pos) (dC (.str x)) :=
 ⟨x9Q ⟩
end
section
variable{X:Cx}{e:Expr}
theorem K2{f:z9->Option D}(h:ZE X e f):ZQ X e (dSq f) :=
 ⟨w4B (h:=h.h)⟩
theorem z61{f:z9->Option (List D)}(h:ZF X e f):ZE X e (dLs f) :=
 ⟨w4K (h:=h.h)⟩
theorem w1Y{f:z9->Option (List D)}(h:ZF X e f):ZQ X e f :=
 ⟨f_q (h:=h.h)⟩
end
section
variable{X:Cx}{a b c:Expr}{fa fb fc:z9->Option D}{pos:Pos}
theorem z4L{f:z9->Option D}(h:ZE X a f)(he:∀whole,isTrue a X.env whole=(do let v ←whole;standAt a.pos;holding [v] (truthy v)):=by intro _;rfl):ZT X a (x9 f) :=
 ⟨x91 (h:=h.h) (he:=he)⟩
theorem y8J{op op':CmpOp}{r r':R2}{g g':D->D->Option D}(ho:OpR X (compareOp op) r)(hr:z4J X.K r g)(ho':OpR X (compareOp op') r')(hr':z4J X.K r' g')(ha:ZE X a fa)(hb:ZE X b fb)(hc:ZE X c fc)(hm:lastMarks [op,op'] [b,c]=false:=by with_unfolding_all rfl):ZE X (.Compare a [op,op'] [b,c] pos) (z0P g g' fa fb fc) :=
 ⟨x2N (ho:=ho) (hr:=hr) (ho':=ho') (hr':=hr') (ha:=ha.h) (hb:=hb.h) (hc:=hc.h) (hm:=hm)⟩
theorem z51{op op':CmpOp}{r r':R2}{g g':D->D->Option D}(ho:OpR X (compareOp op) r)(hr:z4J X.K r g)(ho':OpR X (compareOp op') r')(hr':z4J X.K r' g')(ha:ZE X a fa)(hb:ZE X b fb)(hc:ZE X c fc)(hm:lastMarks [op,op'] [b,c]=false:=by with_unfolding_all rfl):ZT X (.Compare a [op,op'] [b,c] pos) (x9 (z0P g g' fa fb fc)) :=
 ⟨x26 (ho:=ho) (hr:=hr) (ho':=ho') (hr':=hr') (ha:=ha.h) (hb:=hb.h) (hc:=hc.h) (hm:=hm)⟩
end
section
variable{X:Cx}{a b c:Expr}{fa fb fc:z9->Option D}{pos:Pos}
variable{rest:List Expr}
theorem y3N{op}{f:z9->Option D}(h:ZE X a f):ZE X (.BoolOp op [a] pos) f :=
 ⟨x9R (h:=h.h)⟩
end
section
variable{X:Cx}{a b c:Expr}{fa fb fc:z9->Option D}{pos:Pos}
variable{rest:List Expr}
theorem y3Q(ha:ZE X a fa)(hb:ZE X (.BoolOp .And (b::rest) pos) fb):ZE X (.BoolOp .And (a::b::rest) pos) (x53 fa fb) :=
 ⟨w01 (ha:=ha.h) (hb:=hb.h)⟩
end
section
variable{X:Cx}{a b c:Expr}{fa fb fc:z9->Option D}{pos:Pos}
variable{rest:List Expr}
theorem x5F(ha:ZE X a fa):ZE X (.UnaryOp .Not a pos) (w21 fa) :=
 ⟨x9S (ha:=ha.h)⟩
end
section
variable{X:Cx}{a b c:Expr}{fa fb fc:z9->Option D}{pos:Pos}
variable{rest:List Expr}
variable{ga gb:z9->Option Bool}
theorem y4X(ha:ZT X a ga):ZW X (.BoolOp .And [a] pos) ga :=
 ⟨x5L (ha:=ha.h)⟩
end
section
variable{X:Cx}{a b c:Expr}{fa fb fc:z9->Option D}{pos:Pos}
variable{rest:List Expr}
variable{ga gb:z9->Option Bool}
theorem z7S(ha:ZT X a ga):ZW X (.BoolOp .Or [a] pos) ga :=
 ⟨x8Z (ha:=ha.h)⟩
end
section
variable{X:Cx}{a b c:Expr}{fa fb fc:z9->Option D}{pos:Pos}
variable{rest:List Expr}
variable{ga gb:z9->Option Bool}
theorem y89(ha:ZT X a ga)(hb:ZW X (.BoolOp .And (b::rest) pos) gb):ZW X (.BoolOp .And (a::b::rest) pos) (z7A ga gb) :=
 ⟨x90 (ha:=ha.h) (hb:=hb.h)⟩
end
section
variable{X:Cx}{a b c:Expr}{fa fb fc:z9->Option D}{pos:Pos}
variable{rest:List Expr}
variable{ga gb:z9->Option Bool}
theorem z9B(ha:ZT X a ga)(hb:ZW X (.BoolOp .Or (b::rest) pos) gb):ZW X (.BoolOp .Or (a::b::rest) pos) (y3G ga gb) :=
 ⟨w2B (ha:=ha.h) (hb:=hb.h)⟩
end
section
variable{X:Cx}{a b c:Expr}{fa fb fc:z9->Option D}{pos:Pos}
variable{rest:List Expr}
variable{ga gb:z9->Option Bool}
theorem y3I(h:ZW X a ga):ZT X a ga :=
 ⟨w45 (h:=h.h)⟩
end
section
variable{X:Cx}{a b c:Expr}{fa fb fc:z9->Option D}{pos:Pos}
variable{rest:List Expr}
variable{ga gb:z9->Option Bool}
theorem z3F(ha:ZT X a ga):ZT X (.UnaryOp .Not a pos) (z1X ga) :=
 ⟨x92 (ha:=ha.h)⟩
end
section
variable{X:Cx}{a b c:Expr}{fa fb fc:z9->Option D}{pos:Pos}
variable{rest:List Expr}
variable{ga gb:z9->Option Bool}
theorem x8Q(hc:ZT X c ga)(ha:ZE X a fa)(hb:ZE X b fb):ZE X (.IfExp c a b pos) (dIf ga fa fb) :=
 ⟨w2K (hc:=hc.h) (ha:=ha.h) (hb:=hb.h)⟩
end
section
variable{X:Cx}{e:Expr}{es:List Expr}{f:z9->Option D}{g:z9->Option (List D)}{pos:Pos}
theorem x3 :ZA X [] j0 :=
 ⟨z9L ⟩
theorem z8(ha:ZE X e f)(hr:ZA X es g)(hs:starEach (e::es) X.env=(false,eval e X.env)::starEach es X.env:=by exact y2 rfl):ZA X (e::es) (z6 f g) :=
 ⟨z27 (ha:=ha.h) (hr:=hr.h) (hs:=hs)⟩
theorem W7{x1}(h:ZA X es g):ZE X (.Tuple es x1 pos) (z1Q g) :=
 ⟨x9O (h:=h.h)⟩
theorem z3G(h:ZA X es g):ZF X (.List es pos) (y14 g) :=
 ⟨x9M (h:=h.h)⟩
end
section
variable{X:Cx}{st:Stmt}{rest:List Stmt}{e c:Expr}{pos:Pos}{f:z9->Option D}{g k:z9->Option Out}
theorem Z8 :ZB X [] z0S :=
 ⟨x9A ⟩
theorem y6(h1:ZS X st g)(h2:ZB X rest k):ZB X (st::rest) (W5 g k) :=
 ⟨x5Q (h1:=h1.h) (h2:=h2.h)⟩
theorem x8(h1:ZS X st g):ZB X [st] g :=
 ⟨x99 (h1:=h1.h)⟩
theorem u8(h:ZE X e f):ZS X (.Return (some e) pos) (z14 f) :=
 ⟨x97 (h:=h.h)⟩
theorem z1E{a b:List Stmt}{fc:z9->Option Bool}(hc:ZT X c fc)(ha:ZB X a g)(hb:ZB X b k):ZS X (.If c a b pos) (z4Y fc g k) :=
 ⟨w2G (hc:=hc.h) (ha:=ha.h) (hb:=hb.h)⟩
theorem K9{i:Nat}{x:Str}{pos':Pos}(he:ZE X e f)(hN:X.N.Nodup)(hi:X.N[i]?=some x:=by rfl)(hx:Loc X.env.scope x:=by first|exact Or.inl rfl|exact Or.inr rfl)(hs:swapsWith e (some (.Name x pos')) pos.line X.env=pure false:=by rfl)(hf:X.fn x=true∨X.env.scope.names.lookup x=some .local:=by first|exact .inl rfl|exact .inr rfl):ZS X (.Assign [.Name x pos'] e pos) (z1B i f) :=
 ⟨x96 (he:=he.h) (hN:=hN) (hi:=hi) (hx:=hx) (hs:=hs) (hf:=hf)⟩
theorem z7F{i:Nat}{x:Str}{pos':Pos}{fl:z9->Option (List D)}(he:ZF X e fl)(hN:X.N.Nodup)(hi:X.N[i]?=some x:=by rfl)(hx:Loc X.env.scope x:=by first|exact Or.inl rfl|exact Or.inr rfl)(hs:swapsWith e (some (.Name x pos')) pos.line X.env=pure false:=by rfl)(hf:X.fn x=true∨X.env.scope.names.lookup x=some .local:=by first|exact .inl rfl|exact .inr rfl):ZS X (.Assign [.Name x pos'] e pos) (y12 i fl) :=
 ⟨x5O (he:=he.h) (hN:=hN) (hi:=hi) (hx:=hx) (hs:=hs) (hf:=hf)⟩
theorem x1V{i:Nat}{x:Str}{pos':Pos}{fl:z9->Option (List Key×List D)}(he:ZFD X e fl)(hN:X.N.Nodup)(hi:X.N[i]?=some x:=by rfl)(hx:Loc X.env.scope x:=by first|exact Or.inl rfl|exact Or.inr rfl)(hs:swapsWith e (some (.Name x pos')) pos.line X.env=pure false:=by rfl)(hf:X.fn x=true∨X.env.scope.names.lookup x=some .local:=by first|exact .inl rfl|exact .inr rfl):ZS X (.Assign [.Name x pos'] e pos) (x3W i fl) :=
 ⟨x5P (he:=he.h) (hN:=hN) (hi:=hi) (hx:=hx) (hs:=hs) (hf:=hf)⟩
theorem w8{i:Nat}{x:Str}(hN:X.N.Nodup)(hi:X.N[i]?=some x:=by rfl)(hx:Loc X.env.scope x:=by first|exact Or.inl rfl|exact Or.inr rfl)(hf:X.fn x=true∨X.env.scope.names.lookup x=some .local:=by first|exact .inl rfl|exact .inr rfl):ZG X (.Name x pos) (w9 i) :=
 ⟨x5Z (hN:=hN) (hi:=hi) (hx:=hx) (hf:=hf)⟩
theorem z7H :ZGs X [] z78 :=
 ⟨x5Y ⟩
theorem z10{es:List Expr}{h:D->z9->Option z9}{kk:List D->z9->Option z9}(h1:ZG X e h)(h2:ZGs X es kk)(hs:(assignEach (e::es) X.env).map (·.2)=assign e X.env::(assignEach es X.env).map (·.2):=by rfl):ZGs X (e::es) (z04 h kk) :=
 ⟨x2F (h1:=h1.h) (h2:=h2.h) (hs:=hs)⟩
theorem y08{es:List Expr}{kt:Nat}{kk:List D->z9->Option z9}{n:Nat}(hc:X.calm=true)(h:ZGs X es kk)(hn:(assignEach es X.env).length=n:=by rfl)(hst:(assignEach es X.env).findIdx? (·.1)=none:=by rfl):ZG X (.Tuple es kt pos) (z77 n kk) :=
 ⟨x9L (hc:=hc) (h:=h.h) (hn:=hn) (hst:=hst)⟩
theorem x5C(i:Nat)(h:ZS X st g):ZS X st (fun ρ=>g (frz i ρ)) :=
 ⟨x9B (i:=i) (h:=h.h)⟩
theorem z17{tg iter:Expr}{body:List Stmt}{fi:z9->Option (List D)}{h:D->z9->Option z9}(hp:PassesOwn (model X.prog X.w) X.A X.env X.xe)(hc:X.calm=true)(hi:ZI X tg iter fi)(hg:ZG X tg h)(hb:ZB X body g)(hs:∀x,foldedSetIterable iter X.env x=pure x:=by intro _;rfl):ZS X (.For tg iter body [] pos) (z98 fi h g) :=
 ⟨x9C (hp:=hp) (hc:=hc) (hi:=hi.h) (hg:=hg.h) (hb:=hb.h) (hs:=hs)⟩
end
section
variable{X:Cx}{st:Stmt}{rest:List Stmt}{e c:Expr}{pos:Pos}{f:z9->Option D}{g k:z9->Option Out}
variable{tg:Expr}
theorem z1Y{p:Pos}(hm:X.mg "range" = none)(h:ZE X e f)(hg:Gl X "range":=by rfl)(hs:starEach [e] X.env=[(false,eval e X.env)]:=by rfl):ZI X tg (.Call (.Name "range" p) [e] [] pos) (z1R f) :=
 ⟨x5W (hm:=hm) (h:=h.h) (hg:=hg) (hs:=hs)⟩
end
section
variable{X:Cx}{st:Stmt}{rest:List Stmt}{e c:Expr}{pos:Pos}{f:z9->Option D}{g k:z9->Option Out}
variable{tg:Expr}
theorem Z9{tg e:Expr}{f:z9->Option (List D)}(h:ZI X tg e f):ZIc X tg e f :=
 ⟨x9H (h:=h.h)⟩
end
section
variable{X:Cx}{st:Stmt}{rest:List Stmt}{e c:Expr}{pos:Pos}{f:z9->Option D}{g k:z9->Option Out}
variable{tg:Expr}
theorem x1W{tg:Expr}(i:Nat){x:Str}{pos:Pos}(hN:X.N[i]?=some x:=by rfl)(hv:Vis X.env.scope x:=by first|exact Or.inl rfl|exact Or.inr (Or.inl rfl)|exact Or.inr (Or.inr rfl))(hd:(x==("__debug__":Str))=false:=by decide)(hcd:(x==("__classdict__":Str))=false:=by decide):ZIc X tg (.Name x pos) (z8X i) :=
 ⟨x5V (i:=i) (hN:=hN) (hv:=hv) (hd:=hd) (hcd:=hcd)⟩
end
section
variable{X:Cx}{a b c:Expr}{fa fb fc:z9->Option D}{pos:Pos}
theorem y3M(ha:ZE X a fa)(hb:ZE X b fb):ZE X (.BinOp a .Sub b pos) (d2 y2X fa fb) :=
 ⟨x9P (ha:=ha.h) (hb:=hb.h)⟩
theorem y3O(ha:ZE X a fa)(hb:ZE X b fb):ZE X (.BinOp a .Mod b pos) (d2 y13 fa fb) :=
 ⟨x9W (ha:=ha.h) (hb:=hb.h)⟩
theorem x5G(ha:ZE X a fa)(hb:ZE X b fb):ZE X (.BinOp a .FloorDiv b pos) (d2 x3Z fa fb) :=
 ⟨w00 (ha:=ha.h) (hb:=hb.h)⟩
theorem x5A(ha:ZE X a fa)(hb:ZE X b fb):ZT X (.Compare a [.Gt] [b] pos) (x9 (d2 w1U fa fb)) :=
 ⟨x95 (ha:=ha.h) (hb:=hb.h)⟩
end
section
variable{X:Cx}
variable{a b c:Expr}{fa fb fc:z9->Option D}{pos:Pos}
theorem z0T(ha:ZE X a fa)(hb:ZE X b fb):ZE X (.BinOp a .Add b pos) (d2 z3E fa fb) :=
 ⟨w03 (ha:=ha.h) (hb:=hb.h)⟩
end
section
variable{X:Cx}
variable{a b c:Expr}{fa fb fc:z9->Option D}{pos:Pos}
theorem x8P(hu:X.A.units<cLine)(ha:ZE X a fa)(hb:ZE X b fb):ZE X (.Compare a [.Lt] [b] pos) (d2 dLt fa fb) :=
 ⟨w2I (hu:=hu) (ha:=ha.h) (hb:=hb.h)⟩
end
section
variable{X:Cx}
variable{a b c:Expr}{fa fb fc:z9->Option D}{pos:Pos}
theorem x59(ha:ZE X a fa)(hb:ZE X b fb):ZT X (.Compare a [.IsNot] [b] pos) (x9 (d2 x8L fa fb)) :=
 ⟨x94 (ha:=ha.h) (hb:=hb.h)⟩
end
section
variable{X:Cx}{a b c:Expr}{fa fb fc:z9->Option D}{pos:Pos}
theorem x48(hu:X.A.units+64<cLine)(ha:ZE X a fa)(hb:ZE X b fb):ZE X (.Compare a [.Eq] [b] pos) (d2 dEq fa fb) :=
 ⟨w2M (hu:=hu) (ha:=ha.h) (hb:=hb.h)⟩
theorem y4Z(hu:X.A.units+64<cLine)(ha:ZE X a fa)(hb:ZE X b fb):ZT X (.Compare a [.Eq] [b] pos) (x9 (d2 dEq fa fb)) :=
 ⟨w2F (hu:=hu) (ha:=ha.h) (hb:=hb.h)⟩
theorem y4Y(hu:X.A.units+64<cLine)(ha:ZE X a fa)(hb:ZE X b fb):ZT X (.Compare a [.NotEq] [b] pos) (x9 (d2 dNe fa fb)) :=
 ⟨w2C (hu:=hu) (ha:=ha.h) (hb:=hb.h)⟩
theorem y8B{fb:z9->Option (List D)}(hu:X.A.units+64<cLine)(ha:ZE X a fa)(hb:ZQ X b fb)(hm:behindInMarks .In b=false:=by with_unfolding_all rfl):ZT X (.Compare a [.In] [b] pos) (x9 (dIn false fa fb)) :=
 ⟨w2E (hu:=hu) (ha:=ha.h) (hb:=hb.h) (hm:=hm)⟩
theorem y3J{fb:z9->Option (List D)}(hu:X.A.units+64<cLine)(ha:ZE X a fa)(hb:ZQ X b fb)(hm:behindInMarks .NotIn b=false:=by with_unfolding_all rfl):ZT X (.Compare a [.NotIn] [b] pos) (x9 (dIn true fa fb)) :=
 ⟨x93 (hu:=hu) (ha:=ha.h) (hb:=hb.h) (hm:=hm)⟩
theorem Q0{fa:z9->Option (List D)}(ha:ZQ X a fa)(hb:ZE X b fb)(hs:y4U b:=by exact fun _ _=>rfl):ZE X (.Subscript a b pos) (dIx fa fb) :=
 ⟨w2J (ha:=ha.h) (hb:=hb.h) (hs:=hs)⟩
theorem z53 :ZO X none y3H :=
 ⟨x5T ⟩
theorem z2O{f:z9->Option D}(h:ZE X a f):ZO X (some a) (z2C f) :=
 ⟨x5S (h:=h.h)⟩
theorem z9C{lo hi:Option Expr}{p2:Pos}{fl fh:z9->Option (Option Int)}(he:ZE X a fa)(hl:ZO X lo fl)(hh:ZO X hi fh):ZE X (.Subscript a (.Slice lo hi none p2) pos) (z96 fa fl fh) :=
 ⟨w2H (he:=he.h) (hl:=hl.h) (hh:=hh.h)⟩
theorem z2P{p:Pos}{f:z9->Option (List D)}(hm:X.mg "len" = none)(h:ZQ X a f)(hg:Gl X "len":=by rfl)(he:starEach [a] X.env=(false,eval a X.env)::starEach [] X.env:=by exact y2 rfl)(hpl:(backTo pos (starEach [] X.env)).any (·.1)=false:=by exact x6 rfl):ZE X (.Call (.Name "len" p) [a] [] pos) (z8Y f) :=
 ⟨x9X (hm:=hm) (h:=h.h) (hg:=hg) (he:=he) (hpl:=hpl)⟩
theorem z54{p:Pos}{f:z9->Option (List D)}(hm:X.mg "tuple" = none)(h:ZQ X a f)(hg:Gl X "tuple":=by rfl)(he:starEach [a] X.env=(false,eval a X.env)::starEach [] X.env:=by exact y2 rfl)(hpl:(backTo pos (starEach [] X.env)).any (·.1)=false:=by exact x6 rfl)(hv:bootBuiltins "tuple" = some (.type "tuple"):=by decide +kernel):ZE X (.Call (.Name "tuple" p) [a] [] pos) (z4F f) :=
 ⟨x2J (hm:=hm) (h:=h.h) (hg:=hg) (he:=he) (hpl:=hpl) (hv:=hv)⟩
end
section
variable{X:Cx}{p pos:Pos}{e:Expr}{f:z9->Option (List D)}
theorem z60(hm:X.mg "sorted" = none)(h:ZQ X e f)(hg:Gl X "sorted":=by rfl)(hv:bootBuiltins "sorted" = some (.builtin "sorted"):=by decide +kernel)(he:starEach [e] X.env=(false,eval e X.env)::starEach [] X.env:=by exact y2 rfl)(hpl:(backTo pos (starEach [] X.env)).any (·.1)=false:=by exact x6 rfl):ZF X (.Call (.Name "sorted" p) [e] [] pos) (dQF z6Y f) :=
 ⟨y90 (hm:=hm) (h:=h.h) (hg:=hg) (hv:=hv) (he:=he) (hpl:=hpl)⟩
theorem y50(hm:X.mg "list" = none)(h:ZQ X e f)(hg:Gl X "list":=by rfl)(hv:bootBuiltins "list" = some (.type "list"):=by decide +kernel)(he:starEach [e] X.env=(false,eval e X.env)::starEach [] X.env:=by exact y2 rfl)(hpl:(backTo pos (starEach [] X.env)).any (·.1)=false:=by exact x6 rfl):ZF X (.Call (.Name "list" p) [e] [] pos) (dQF some f) :=
 ⟨x61 (hm:=hm) (h:=h.h) (hg:=hg) (hv:=hv) (he:=he) (hpl:=hpl)⟩
theorem y3R(hc:X.calm=true)(hm:X.mg "all" = none)(h:ZF X e f)(hg:Gl X "all":=by rfl)(hv:bootBuiltins "all" = some (.builtin "all"):=by decide +kernel)(he:starEach [e] X.env=(false,eval e X.env)::starEach [] X.env:=by exact y2 rfl)(hpl:(backTo pos (starEach [] X.env)).any (·.1)=false:=by exact x6 rfl):ZE X (.Call (.Name "all" p) [e] [] pos) (x1S f) :=
 ⟨w02 (hc:=hc) (hm:=hm) (h:=h.h) (hg:=hg) (hv:=hv) (he:=he) (hpl:=hpl)⟩
theorem z7U{T:String}{x:Str}{p1 p2:Pos}{fe:z9->Option D}(kt:Kit T)(hm:X.mg "isinstance" = none)(hmT:X.mg x=none)(h:ZE X e fe)(hvT:bootBuiltins x=some (.type T))(hg:Gl X "isinstance":=by rfl)(hgT:Gl X x:=by rfl)(hv:bootBuiltins "isinstance" = some (.builtin "isinstance"):=by decide +kernel)(hn:x≠"__name__":=by decide)(hdb:(x==("__debug__":Str))=false:=by decide)(he:starEach [e,.Name x p1] X.env=(false,eval e X.env)::starEach [.Name x p1] X.env:=by exact y2 rfl)(he2:starEach [.Name x p1] X.env=(false,eval (.Name x p1) X.env)::starEach [] X.env:=by exact y2 rfl)(hpl:(backTo pos (starEach [.Name x p1] X.env)).any (·.1)=false:=by exact x6 rfl):ZE X (.Call (.Name "isinstance" p2) [e,.Name x p1] [] pos) (y85 T fe) :=
 ⟨x9Y (kt:=kt) (hm:=hm) (hmT:=hmT) (h:=h.h) (hvT:=hvT) (hg:=hg) (hgT:=hgT) (hv:=hv) (hn:=hn) (hdb:=hdb) (he:=he) (he2:=he2) (hpl:=hpl)⟩
end
section
variable{X:Cx}{p p2 pos pos2:Pos}{a b e:Expr}{f:z9->Option (List D)}{fa fb:z9->Option D}
theorem z7T(hc:X.calm=true)(hm:X.mg "list" = none)(hm2:X.mg "range" = none)(h:ZE X a fa)(hg:Gl X "list":=by rfl)(hg2:Gl X "range":=by rfl)(hv:bootBuiltins "list" = some (.type "list"):=by decide +kernel)(hv2:bootBuiltins "range" = some (.type "range"):=by decide +kernel)(he:starEach [a] X.env=(false,eval a X.env)::starEach [] X.env:=by exact y2 rfl)(hpl:(backTo pos2 (starEach [] X.env)).any (·.1)=false:=by exact x6 rfl)(he2:starEach [.Call (.Name "range" p2) [a] [] pos2] X.env=(false,eval (.Call (.Name "range" p2) [a] [] pos2) X.env)::starEach [] X.env:=by exact y2 rfl)(hpl2:(backTo pos (starEach [] X.env)).any (·.1)=false:=by exact x6 rfl):ZF X (.Call (.Name "list" p) [.Call (.Name "range" p2) [a] [] pos2] [] pos) (z1I fa) :=
 ⟨y6Z (hc:=hc) (hm:=hm) (hm2:=hm2) (h:=h.h) (hg:=hg) (hg2:=hg2) (hv:=hv) (hv2:=hv2) (he:=he) (hpl:=hpl) (he2:=he2) (hpl2:=hpl2)⟩
theorem y51(hc:X.calm=true)(hm:X.mg "min" = none)(ha:ZE X a fa)(hb:ZE X b fb)(hg:Gl X "min":=by rfl)(hv:bootBuiltins "min" = some (.builtin "min"):=by decide +kernel)(he:starEach [a,b] X.env=(false,eval a X.env)::starEach [b] X.env:=by exact y2 rfl)(he2:starEach [b] X.env=(false,eval b X.env)::starEach [] X.env:=by exact y2 rfl)(hpl:(backTo pos (starEach [b] X.env)).any (·.1)=false:=by exact x6 rfl):ZE X (.Call (.Name "min" p) [a,b] [] pos) (w6 x3R (z6 fa (z6 fb j0))) :=
 ⟨x68 (hc:=hc) (hm:=hm) (ha:=ha.h) (hb:=hb.h) (hg:=hg) (hv:=hv) (he:=he) (he2:=he2) (hpl:=hpl)⟩
theorem y0B(hc:X.calm=true)(hm:X.mg "max" = none)(ha:ZE X a fa)(hb:ZE X b fb)(hg:Gl X "max":=by rfl)(hv:bootBuiltins "max" = some (.builtin "max"):=by decide +kernel)(he:starEach [a,b] X.env=(false,eval a X.env)::starEach [b] X.env:=by exact y2 rfl)(he2:starEach [b] X.env=(false,eval b X.env)::starEach [] X.env:=by exact y2 rfl)(hpl:(backTo pos (starEach [b] X.env)).any (·.1)=false:=by exact x6 rfl):ZE X (.Call (.Name "max" p) [a,b] [] pos) (w6 x0U (z6 fa (z6 fb j0))) :=
 ⟨x6B (hc:=hc) (hm:=hm) (ha:=ha.h) (hb:=hb.h) (hg:=hg) (hv:=hv) (he:=he) (he2:=he2) (hpl:=hpl)⟩
theorem y8F(hm:X.mg "int" = none)(ha:ZE X a fa)(hg:Gl X "int":=by rfl)(hv:bootBuiltins "int" = some (.type "int"):=by decide +kernel)(he:starEach [a] X.env=(false,eval a X.env)::starEach [] X.env:=by exact y2 rfl)(hpl:(backTo pos (starEach [] X.env)).any (·.1)=false:=by exact x6 rfl):ZE X (.Call (.Name "int" p) [a] [] pos) (w6 x8K (z6 fa j0)) :=
 ⟨x2K (hm:=hm) (ha:=ha.h) (hg:=hg) (hv:=hv) (he:=he) (hpl:=hpl)⟩
theorem y8I(h:ZE X a fa):ZE X (.UnaryOp .USub a pos) (x16 fa) :=
 ⟨x9U (h:=h.h)⟩
theorem y8C{i:Nat}{x:Str}{p1 p2 p3:Pos}(h:ZE X a fa)(hN:X.N[i]?=some x:=by rfl)(hv:Vis X.env.scope x:=by first|exact Or.inl rfl|exact Or.inr (Or.inl rfl)|exact Or.inr (Or.inr rfl))(hd:(x==("__debug__":Str))=false:=by decide)(hcd:(x==("__classdict__":Str))=false:=by decide)(hbase:attributeBase (.Name x p1) "append" X.env (eval (.Name x p1) X.env)=eval (.Name x p1) X.env:=by rfl) (hfew:((backTo p3 (starEach [a] X.env)).all (fun x=>!x.1)&&(backToKw p3 (keywordEach [] X.env)).all (fun x=>x.1.isSome)
   && decide (([a]:List Expr).length+([]:List Keyword).length+(if ([]:List Keyword).isEmpty then 0 else 1)<30))=true:=by rfl) (hline:(p2.endLine==p3.line)=true:=by rfl) (hs:starEach [a] X.env=(false,eval a X.env)::starEach [] X.env:=by exact y2 rfl) (hplain:(backTo p3 (starEach [] X.env)).any (·.1)=false:=by exact x6 rfl) (hsw:swapsWith (.Call (.Attribute (.Name x p1) "append" p2) [a] [] p3) none pos.line X.env=pure false:=by rfl):ZS X (.Expr (.Call (.Attribute (.Name x p1) "append" p2) [a] [] p3) pos) (x1R i fa) :=
 ⟨x9F (h:=h.h) (hN:=hN) (hv:=hv) (hd:=hd) (hcd:=hcd) (hbase:=hbase) (hfew:=hfew) (hline:=hline) (hs:=hs) (hplain:=hplain) (hsw:=hsw)⟩
theorem x5D{i:Nat}{x:Str}{p1 p2 p3:Pos}(h:ZF X a f)(hN:X.N[i]?=some x:=by rfl)(hv:Vis X.env.scope x:=by first|exact Or.inl rfl|exact Or.inr (Or.inl rfl)|exact Or.inr (Or.inr rfl))(hd:(x==("__debug__":Str))=false:=by decide)(hcd:(x==("__classdict__":Str))=false:=by decide)(hbase:attributeBase (.Name x p1) "extend" X.env (eval (.Name x p1) X.env)=eval (.Name x p1) X.env:=by rfl) (hfew:((backTo p3 (starEach [a] X.env)).all (fun x=>!x.1)&&(backToKw p3 (keywordEach [] X.env)).all (fun x=>x.1.isSome)
   && decide (([a]:List Expr).length+([]:List Keyword).length+(if ([]:List Keyword).isEmpty then 0 else 1)<30))=true:=by rfl) (hline:(p2.endLine==p3.line)=true:=by rfl) (hs:starEach [a] X.env=(false,eval a X.env)::starEach [] X.env:=by exact y2 rfl) (hplain:(backTo p3 (starEach [] X.env)).any (·.1)=false:=by exact x6 rfl) (hsw:swapsWith (.Call (.Attribute (.Name x p1) "extend" p2) [a] [] p3) none pos.line X.env=pure false:=by rfl):ZS X (.Expr (.Call (.Attribute (.Name x p1) "extend" p2) [a] [] p3) pos) (x88 i f) :=
 ⟨x9D (h:=h.h) (hN:=hN) (hv:=hv) (hd:=hd) (hcd:=hcd) (hbase:=hbase) (hfew:=hfew) (hline:=hline) (hs:=hs) (hplain:=hplain) (hsw:=hsw)⟩
end
section
variable{X:Cx}
variable{a b:Expr}{fa fb:z9->Option D}{pos:Pos}
theorem y09(ha:ZE X a fa)(hb:ZE X b fb):ZE X (.BinOp a .Mult b pos) (d2 y4I fa fb) :=
 ⟨x9V (ha:=ha.h) (hb:=hb.h)⟩
end
section
variable{X:Cx}{pos:Pos}
theorem Y1{elt target iter:Expr}{ifs:List Expr}{scope:Scope}{fi:z9->Option (List D)}{h:D->z9->Option z9}{ft:z9->Option Bool}{fe:z9->Option D}(N:List Str)(cap:List (Option Nat))(hc:X.calm=true)(hi:ZIc X target iter fi)(hg:∀cl C fp s H,ZG (j4 X N scope cl C fp s H) target h)(ht:∀cl C fp s H,ZP (j4 X N scope cl C fp s H) ifs ft)(he:∀cl C fp s H,ZE (j4 X N scope cl C fp s H) elt fe)(hok:z3B scope X.env.scope N cap X.N=true:=by rfl)(hs:∀x,foldedSetIterable iter X.env x=pure x:=by intro _;rfl):ZF X (.ListComp elt [⟨target,iter,ifs,0⟩] scope pos) (J6 cap fi h ft fe) :=
 ⟨x2H (N:=N) (cap:=cap) (hc:=hc) (hi:=hi.h) (hg:=fun cl C fp s H=>(hg cl C fp s H).h) (ht:=fun cl C fp s H=>(ht cl C fp s H).h) (he:=fun cl C fp s H=>(he cl C fp s H).h) (hok:=hok) (hs:=hs)⟩
theorem z6L :ZP X [] z2B :=
 ⟨w2W ⟩
theorem z55{c:Expr}{f:z9->Option Bool}(h:ZT X c f):ZP X [c] f :=
 ⟨w2V (h:=h.h)⟩
theorem y1M{e:Expr}{f:z9->Option (List D)}(h:ZF X e f):ZQL X e f :=
 ⟨w4A (h:=h.h)⟩
theorem z7V{e:Expr}{f:z9->Option D}(h:ZE X e f):ZQL X e (W9 f) :=
 ⟨w2S (h:=h.h)⟩
theorem y3L{a b:Expr}{fa fb:z9->Option (List D)}(ha:ZQL X a fa)(hb:ZQL X b fb):ZF X (.BinOp a .Add b pos) (z79 fa fb) :=
 ⟨x9N (ha:=ha.h) (hb:=hb.h)⟩
end
section
theorem Q2{X:Cx}{j k:Nat}{ps:List Str}{F:List D->Option D}{x:Str}{p pos:Pos}{e:Expr}{es:List Expr}{g:z9->Option (List D)}(G:FnD X.prog X.w X.K X.mg X.base j x ps F)(hr:Room k X.A)(ha:ZA X (e::es) g)(hjk:j≤k:=by decide)(hg:Gl X x:=by rfl)(hdb:(x==("__debug__":Str))=false:=by decide)(he:starEach (e::es) X.env=(false,eval e X.env)::starEach es X.env:=by exact y2 rfl)(hpl:(backTo pos (starEach es X.env)).any (·.1)=false:=by exact x6 rfl):ZE X (.Call (.Name x p) (e::es) [] pos) (w6 F g) :=
 ⟨w2L (G:=G) (hr:=hr) (ha:=ha.h) (hjk:=hjk) (hg:=hg) (hdb:=hdb) (he:=he) (hpl:=hpl)⟩
end
section
variable{X:Cx}{pos:Pos}
theorem y8D{elt target iter:Expr}{scope:Scope}{fi:z9->Option (List D)}{h:D->z9->Option z9}{fe:z9->Option (D×z9)}(N:List Str)(cap:List (Option Nat))(hc:X.calm=true)(hi:ZI X target iter fi)(hg:∀cl C fp s H,ZG (j4 X N scope cl C fp s H) target h)(he:∀cl C fp s H,ZX (j4 X N scope cl C fp s H) elt fe)(hok:z3B scope X.env.scope N cap X.N=true:=by rfl)(hs:∀x,foldedSetIterable iter X.env x=pure x:=by intro _;rfl):ZL X (.ListComp elt [⟨target,iter,[],0⟩] scope pos) (y03 cap fi h fe) :=
 ⟨x2E (N:=N) (cap:=cap) (hc:=hc) (hi:=hi.h) (hg:=fun cl C fp s H=>(hg cl C fp s H).h) (he:=fun cl C fp s H=>(he cl C fp s H).h) (hok:=hok) (hs:=hs)⟩
theorem y1K{a:Expr}{p pos2:Pos}{f:z9->Option (List D)}(hm:X.mg "tuple" = none)(h:ZL X a f)(hg:Gl X "tuple":=by rfl)(he:starEach [a] X.env=(false,eval a X.env)::starEach [] X.env:=by exact y2 rfl)(hpl:(backTo pos2 (starEach [] X.env)).any (·.1)=false:=by exact x6 rfl)(hv:bootBuiltins "tuple" = some (.type "tuple"):=by decide +kernel):ZS X (.Return (some (.Call (.Name "tuple" p) [a] [] pos2)) pos) (z14 (z4F f)) :=
 ⟨y3W (hm:=hm) (h:=h.h) (hg:=hg) (he:=he) (hpl:=hpl) (hv:=hv)⟩
end
section
variable{X:Cx}{pos p p2 pos2:Pos}{a b c e tg:Expr}{fa fb fc f:z9->Option D}
theorem W6(h:ZE X e f):ZI X tg e (dSq f) :=
 ⟨x9J (h:=h.h)⟩
theorem y8A(hu:X.A.units<cLine)(ha:ZE X a fa)(hb:ZE X b fb):ZT X (.Compare a [.Lt] [b] pos) (x9 (d2 dLt fa fb)) :=
 ⟨w2D (hu:=hu) (ha:=ha.h) (hb:=hb.h)⟩
theorem y8G{i:Nat}{x:Str}{p1 p2 p3:Pos}(h:ZE X a fa)(hN:X.N[i]?=some x:=by rfl)(hv:Vis X.env.scope x:=by first|exact Or.inl rfl|exact Or.inr (Or.inl rfl)|exact Or.inr (Or.inr rfl))(hd:(x==("__debug__":Str))=false:=by decide)(hcd:(x==("__classdict__":Str))=false:=by decide)(hbase:attributeBase (.Name x p1) "pop" X.env (eval (.Name x p1) X.env)=eval (.Name x p1) X.env:=by rfl) (hfew:((backTo p3 (starEach [a] X.env)).all (fun x=>!x.1)&&(backToKw p3 (keywordEach [] X.env)).all (fun x=>x.1.isSome)
   && decide (([a]:List Expr).length+([]:List Keyword).length+(if ([]:List Keyword).isEmpty then 0 else 1)<30))=true:=by rfl) (hline:(p2.endLine==p3.line)=true:=by rfl) (hs:starEach [a] X.env=(false,eval a X.env)::starEach [] X.env:=by exact y2 rfl) (hplain:(backTo p3 (starEach [] X.env)).any (·.1)=false:=by exact x6 rfl):ZX X (.Call (.Attribute (.Name x p1) "pop" p2) [a] [] p3) (x85 i fa) :=
 ⟨x2L (h:=h.h) (hN:=hN) (hv:=hv) (hd:=hd) (hcd:=hcd) (hbase:=hbase) (hfew:=hfew) (hline:=hline) (hs:=hs) (hplain:=hplain)⟩
end
section
theorem z25{P:Program}{w:World}{K:PySem.W.Frag}{mg:Str->Option Value}{base:Heap}{x:Str}{st:Stmt}{N ps:List Str}{k n:Nat}{g:z9->Option Out}(G:Stands K mg x st)(S:FnScope N ps (z7 st))(hb:∀(kV doc pm:Value) (an:Option Addr) (cdv ct:Value) (us:List Value),us.length=ps.length->bindArgs (PySem.W.fnOf x x (j8 st) (y8 st) (z7 st) .none kV doc pm an cdv ct) ⟨us,[]⟩=pure (ps.zip us))(hn:ps.length=n) (hbody:∀(f:Addr) (cdv:Value) (A:Around) (outer:List Env) (s:Shared) (H:Hp) (E:XK),Room k (A.deeper (envOfC x (z7 st) s.heap.objs.size f cdv)) ->
   ZB (z47 CX0 P w K mg base N x (z7 st) f cdv A outer s H E).nox (y8 st) g):FnD P w K mg base (k+1) x ps (dFn n N g) :=
 w4J (G:=G) (S:=S) (hb:=hb) (hn:=hn) (hbody:=fun f cdv A outer s H E hr=>(hbody f cdv A outer s H E hr).h)
end
section
variable{X:Cx}{elts:List Expr}{x1:Nat}{tpos pos p:Pos}{a:Expr}{f:z9->Option D}
theorem z7G(hm:X.mg "enumerate" = none)(h:ZE X a f)(hg:Gl X "enumerate":=by rfl)(hv:bootBuiltins "enumerate" = some (.type "enumerate"):=by decide +kernel)(he:starEach [a] X.env=(false,eval a X.env)::starEach [] X.env:=by exact y2 rfl)(hpl:(backTo pos (starEach [] X.env)).any (·.1)=false:=by exact x6 rfl):ZI X (.Tuple elts x1 tpos) (.Call (.Name "enumerate" p) [a] [] pos) (y2Z f) :=
 ⟨x5X (hm:=hm) (h:=h.h) (hg:=hg) (hv:=hv) (he:=he) (hpl:=hpl)⟩
end
section
variable{X:Cx}{a b e o:Expr}{pos pos' p:Pos}{f fa fb:z9->Option D}
theorem x1X :ZFD X (.Dict [] [] pos) (fun _=>some ([],[])) :=
 ⟨x60 ⟩
theorem y53(hu:X.A.units+64<cLine)(ho:ZE X o fa)(hi:ZE X a fb)(hs:x8M a:=by exact fun _ _=>rfl):ZE X (.Subscript o a pos) (y4J fa fb) :=
 ⟨x6D (hu:=hu) (ho:=ho.h) (hi:=hi.h) (hs:=hs)⟩
theorem x5B{i:Nat}{x:Str}(hu:X.A.units+64<cLine)(hi:ZE X a fb)(hv':ZE X b fa)(hN:X.N[i]?=some x:=by rfl)(hv:Vis X.env.scope x:=by first|exact Or.inl rfl|exact Or.inr (Or.inl rfl)|exact Or.inr (Or.inr rfl))(hd:(x==("__debug__":Str))=false:=by decide)(hcd:(x==("__classdict__":Str))=false:=by decide)(hs:swapsWith b (some (.Subscript (.Name x p) a pos')) pos.line X.env=pure false:=by rfl):ZS X (.Assign [.Subscript (.Name x p) a pos'] b pos) (x84 i fb fa) :=
 ⟨x98 (hu:=hu) (hi:=hi.h) (hv':=hv'.h) (hN:=hN) (hv:=hv) (hd:=hd) (hcd:=hcd) (hs:=hs)⟩
end
section
variable{X:Cx}{a b:Expr}{fa fb:z9->Option D}{p pos:Pos}
theorem x1Z(hc:X.calm=true)(hu:X.A.units+64<cLine)(hm:X.mg "max" = none)(ha:ZE X a fa)(hb:ZE X b fb)(hg:Gl X "max":=by rfl)(hv:bootBuiltins "max" = some (.builtin "max"):=by decide +kernel)(he:starEach [a,b] X.env=(false,eval a X.env)::starEach [b] X.env:=by exact y2 rfl)(he2:starEach [b] X.env=(false,eval b X.env)::starEach [] X.env:=by exact y2 rfl)(hpl:(backTo pos (starEach [b] X.env)).any (·.1)=false:=by exact x6 rfl):ZE X (.Call (.Name "max" p) [a,b] [] pos) (w6 x3S (z6 fa (z6 fb j0))) :=
 ⟨x6A (hc:=hc) (hu:=hu) (hm:=hm) (ha:=ha.h) (hb:=hb.h) (hg:=hg) (hv:=hv) (he:=he) (he2:=he2) (hpl:=hpl)⟩
theorem x1Y(hc:X.calm=true)(hu:X.A.units+64<cLine)(hm:X.mg "min" = none)(ha:ZE X a fa)(hb:ZE X b fb)(hg:Gl X "min":=by rfl)(hv:bootBuiltins "min" = some (.builtin "min"):=by decide +kernel)(he:starEach [a,b] X.env=(false,eval a X.env)::starEach [b] X.env:=by exact y2 rfl)(he2:starEach [b] X.env=(false,eval b X.env)::starEach [] X.env:=by exact y2 rfl)(hpl:(backTo pos (starEach [b] X.env)).any (·.1)=false:=by exact x6 rfl):ZE X (.Call (.Name "min" p) [a,b] [] pos) (w6 x3Q (z6 fa (z6 fb j0))) :=
 ⟨x67 (hc:=hc) (hu:=hu) (hm:=hm) (ha:=ha.h) (hb:=hb.h) (hg:=hg) (hv:=hv) (he:=he) (he2:=he2) (hpl:=hpl)⟩
end
section
variable{X:Cx}{a b:Expr}{fa fb:z9->Option D}{p pos apos:Pos}
theorem y1L(hu:X.A.units+64<cLine)(ha:ZE X a fa)(hb:ZE X b fb)(hbase:attributeBase a "index" X.env (eval a X.env)=eval a X.env:=by rfl) (hfew:((backTo pos (starEach [b] X.env)).all (fun x=>!x.1)&&(backToKw pos (keywordEach [] X.env)).all (fun x=>x.1.isSome)
   && decide (([b]:List Expr).length+([]:List Keyword).length+(if ([]:List Keyword).isEmpty then 0 else 1)<30))=true:=by rfl) (hline:(apos.endLine==pos.line)=true:=by rfl) (hs:starEach [b] X.env=(false,eval b X.env)::starEach [] X.env:=by exact y2 rfl) (hplain:(backTo pos (starEach [] X.env)).any (·.1)=false:=by exact x6 rfl):ZE X (.Call (.Attribute a "index" apos) [b] [] pos) (z6V fa fb) :=
 ⟨x2M (hu:=hu) (ha:=ha.h) (hb:=hb.h) (hbase:=hbase) (hfew:=hfew) (hline:=hline) (hs:=hs) (hplain:=hplain)⟩
theorem y0A{f:z9->Option (List D)}(hc:X.calm=true)(hm:X.mg "min" = none)(h:ZQL X a f)(hg:Gl X "min":=by rfl)(hv:bootBuiltins "min" = some (.builtin "min"):=by decide +kernel)(he:starEach [a] X.env=(false,eval a X.env)::starEach [] X.env:=by exact y2 rfl)(hpl:(backTo pos (starEach [] X.env)).any (·.1)=false:=by exact x6 rfl):ZE X (.Call (.Name "min" p) [a] [] pos) (z97 f) :=
 ⟨x66 (hc:=hc) (hm:=hm) (h:=h.h) (hg:=hg) (hv:=hv) (he:=he) (hpl:=hpl)⟩
theorem y52{f:z9->Option (List D)}(hc:X.calm=true)(hm:X.mg "max" = none)(h:ZQL X a f)(hg:Gl X "max":=by rfl)(hv:bootBuiltins "max" = some (.builtin "max"):=by decide +kernel)(he:starEach [a] X.env=(false,eval a X.env)::starEach [] X.env:=by exact y2 rfl)(hpl:(backTo pos (starEach [] X.env)).any (·.1)=false:=by exact x6 rfl):ZE X (.Call (.Name "max" p) [a] [] pos) (y2Y f) :=
 ⟨x69 (hc:=hc) (hm:=hm) (h:=h.h) (hg:=hg) (hv:=hv) (he:=he) (hpl:=hpl)⟩
theorem z7E{f:z9->Option (List D)}(h:ZQL X a f)(he:∀whole,isTrue a X.env whole=(do let v ←whole;standAt a.pos;holding [v] (truthy v)):=by intro _;rfl):ZT X a (z3Q f) :=
 ⟨x5N (h:=h.h) (he:=he)⟩
end
section
variable{X:Cx}{i:Expr}{p pos:Pos}{f:z9->Option D}
theorem x20{x:Str}{a:Addr}{kvs:List (Str×Str)}(hm:X.mg x=some (.ref a))(ht:w3J X.K X.w a kvs)(hi:ZE X i f)(hg:Gl X x:=by rfl)(hd:(x==("__debug__":Str))=false:=by decide)(hs:x8M i:=by exact fun _ _=>rfl):ZE X (.Subscript (.Name x p) i pos) (x3Y kvs f) :=
 ⟨x6C (hm:=hm) (ht:=ht) (hi:=hi.h) (hg:=hg) (hd:=hd) (hs:=hs)⟩
end
section
variable{X:Cx}
theorem z52{i:Nat}{y:Str}{py spos pos:Pos}{elt target iter:Expr}{ifs:List Expr}{scope:Scope}{fi:z9->Option (List D)}{h:D->z9->Option z9}{ft:z9->Option Bool}{fe:z9->Option D}(N:List Str)(cap:List (Option Nat))(hc:X.calm=true)(hi:ZIc X target iter fi)(hg:∀cl C fp s H,ZG (j4 X N scope cl C fp s H) target h)(ht:∀cl C fp s H,ZP (j4 X N scope cl C fp s H) ifs ft)(he:∀cl C fp s H,ZE (j4 X N scope cl C fp s H) elt fe)(hN:X.N.Nodup)(hiy:X.N[i]?=some y:=by rfl)(hy:Loc X.env.scope y:=by first|exact Or.inl rfl|exact Or.inr rfl)(hf:X.fn y=true∨X.env.scope.names.lookup y=some .local:=by first|exact .inl rfl|exact .inr rfl)(hsw:swapsWith (.ListComp elt [⟨target,iter,ifs,0⟩] scope pos) (some (.Name y py)) spos.line X.env=pure true:=by rfl)(hok:z3B scope X.env.scope N cap X.N=true:=by rfl)(hs:∀x,foldedSetIterable iter X.env x=pure x:=by intro _;rfl):ZS X (.Assign [.Name y py] (.ListComp elt [⟨target,iter,ifs,0⟩] scope pos) spos) (z1B i (dLs (J6 cap fi h ft fe))) :=
 ⟨x27 (N:=N) (cap:=cap) (hc:=hc) (hi:=hi.h) (hg:=fun cl C fp s H=>(hg cl C fp s H).h) (ht:=fun cl C fp s H=>(ht cl C fp s H).h) (he:=fun cl C fp s H=>(he cl C fp s H).h) (hN:=hN) (hiy:=hiy) (hy:=hy) (hf:=hf) (hsw:=hsw) (hok:=hok) (hs:=hs)⟩
end
section
variable{X:Cx}{e body:Expr}{params:Arguments}{scope:Scope}{lp kp p pos:Pos}{fa:z9->Option (List D)}{fb:z9->Option D}
theorem y8E{x pn:Str}{k:Nat}(N:List Str)(cap:List (Option Nat))(hm:X.mg "sorted" = none)(bm:BmAt X.K X.mg)(hl:z94 X.K X.env.code x=true)(hr:Room (k+3) X.A)(ha:ZQ X e fa)(he:∀A' cl f cd s H,Room k (y2L X A' N (X.env.qual++"<lambda>") scope cl f cd s H).A->ZE (y2L X A' N (X.env.qual++"<lambda>") scope cl f cd s H) body fb)(hok:x3K scope X.env.scope N cap X.N=true:=by rfl)(h0:cap[0]?=some none:=by rfl)(hp:N[0]?=some pn:=by rfl)(hpl:scope.names.lookup pn=some .local:=by rfl)(hco:scope.isCoroutine=false:=by rfl)(hgen:scope.isGenerator=false:=by rfl)(hq:X.env.qual=x++".<locals>.":=by rfl)(hdef:defaultsOf params X.env=([],[]):=by rfl)(hb:∀(cl:List (Str×Addr)) (doc pm:Value) (c:Addr) (ct u:Value),bindArgs (PySem.W.kdv_fn "<lambda>" (X.env.qual++"<lambda>") params (.expr body) scope cl .none doc pm (.ref c) ct) ⟨[u],[]⟩=pure [(pn,u)]:=by intros;rfl)(hg:Gl X "sorted":=by rfl)(hv:bootBuiltins "sorted" = some (.builtin "sorted"):=by decide +kernel)(hs:starEach [e] X.env=(false,eval e X.env)::starEach [] X.env:=by exact y2 rfl):ZF X (.Call (.Name "sorted" p) [e] [⟨some "key",.Lambda params body scope lp,kp⟩] pos) (y01 cap fa fb) :=
 ⟨x2G (N:=N) (cap:=cap) (hm:=hm) (bm:=bm) (hl:=hl) (hr:=hr) (ha:=ha.h) (he:=fun A' cl f cd s H hr=>(he A' cl f cd s H hr).h) (hok:=hok) (h0:=h0) (hp:=hp) (hpl:=hpl) (hco:=hco) (hgen:=hgen) (hq:=hq) (hdef:=hdef) (hb:=hb) (hg:=hg) (hv:=hv) (hs:=hs)⟩
end
section
variable{X:Cx}{e body dflt ea eb:Expr}{params:Arguments}{scope:Scope}{lp kp kp2 p pos:Pos}{fa:z9->Option (List D)}{fb fd f1 f2:z9->Option D}
theorem z9D(hc:X.calm=true)(hm:X.mg "max" = none)(hml:X.mg "len" = none)(ha:ZQ X e fa)(hd:ZE X dflt fd)(hg:Gl X "max":=by rfl)(hgl:Gl X "len":=by rfl)(hv:bootBuiltins "max" = some (.builtin "max"):=by decide +kernel)(hvl:bootBuiltins "len" = some (.builtin "len"):=by decide +kernel)(hs:starEach [e] X.env=(false,eval e X.env)::starEach [] X.env:=by exact y2 rfl):ZE X (.Call (.Name "max" p) [e] [⟨some "key",.Name "len" lp,kp⟩,⟨some "default",dflt,kp2⟩] pos) (z6A fa fd) :=
 ⟨y91 (hc:=hc) (hm:=hm) (hml:=hml) (ha:=ha.h) (hd:=hd.h) (hg:=hg) (hgl:=hgl) (hv:=hv) (hvl:=hvl) (hs:=hs)⟩
theorem y3P(hc:X.calm=true)(hm:X.mg "max" = none)(hml:X.mg "len" = none)(ha:ZE X ea f1)(hb:ZE X eb f2)(hg:Gl X "max":=by rfl)(hgl:Gl X "len":=by rfl)(hv:bootBuiltins "max" = some (.builtin "max"):=by decide +kernel)(hvl:bootBuiltins "len" = some (.builtin "len"):=by decide +kernel)(hs:starEach [ea,eb] X.env=(false,eval ea X.env)::starEach [eb] X.env:=by exact y2 rfl)(hs2:starEach [eb] X.env=(false,eval eb X.env)::starEach [] X.env:=by exact y2 rfl):ZE X (.Call (.Name "max" p) [ea,eb] [⟨some "key",.Name "len" lp,kp⟩] pos) (d2 z4U f1 f2) :=
 ⟨y71 (hc:=hc) (hm:=hm) (hml:=hml) (ha:=ha.h) (hb:=hb.h) (hg:=hg) (hgl:=hgl) (hv:=hv) (hvl:=hvl) (hs:=hs) (hs2:=hs2)⟩
end
section
variable{X:Cx}
variable{e:Expr}{fa:z9->Option (List D)}{p p2 pos pos2:Pos}
theorem y3K(hc:X.calm=true)(hm:X.mg "sorted" = none)(hms:X.mg "set" = none)(ha:ZQ X e fa)(hg:Gl X "sorted":=by rfl)(hgs:Gl X "set":=by rfl)(hv:bootBuiltins "sorted" = some (.builtin "sorted"):=by decide +kernel)(hvs:bootBuiltins "set" = some (.type "set"):=by decide +kernel)(he:starEach [e] X.env=(false,eval e X.env)::starEach [] X.env:=by exact y2 rfl)(hpl:(backTo pos2 (starEach [] X.env)).any (·.1)=false:=by exact x6 rfl)(he2:starEach [.Call (.Name "set" p2) [e] [] pos2] X.env=(false,eval (.Call (.Name "set" p2) [e] [] pos2) X.env)::starEach [] X.env:=by exact y2 rfl)(hpl2:(backTo pos (starEach [] X.env)).any (·.1)=false:=by exact x6 rfl):ZF X (.Call (.Name "sorted" p) [.Call (.Name "set" p2) [e] [] pos2] [] pos) (z2Z fa) :=
 ⟨y6Y (hc:=hc) (hm:=hm) (hms:=hms) (ha:=ha.h) (hg:=hg) (hgs:=hgs) (hv:=hv) (hvs:=hvs) (he:=he) (hpl:=hpl) (he2:=he2) (hpl2:=hpl2)⟩
end
section
theorem x8R{P:Program}{w:World}{K:PySem.W.Frag}{mg:Str->Option Value}{base:Heap}{x:Str}{st:Stmt}{N ps:List Str}{k n:Nat}{g:z9->Option Out}(G:StandsL K mg x st)(S:FnScope N ps (z7 st))(hb:∀(kV doc pm:Value) (an:Option Addr) (cdv ct:Value) (us:List Value),us.length=ps.length->bindArgs (PySem.W.fnOf x x (j8 st) (y8 st) (z7 st) .none kV doc pm an cdv ct) ⟨us,[]⟩=pure (ps.zip us))(hn:ps.length=n) (hbody:∀(f:Addr) (cdv:Value) (A:Around) (outer:List Env) (s:Shared) (H:Hp) (E:XK),z94 K cdv x=true->Room k (A.deeper (envOfC x (z7 st) s.heap.objs.size f cdv)) ->
   ZB (z47 CX0 P w K mg base N x (z7 st) f cdv A outer s H E).nox (y8 st) g):FnD P w K mg base (k+1) x ps (dFn n N g) :=
 w38 (G:=G) (S:=S) (hb:=hb) (hn:=hn) (hbody:=fun f cdv A outer s H E hl hr=>(hbody f cdv A outer s H E hl hr).h)
end
section
theorem x5E{X:Cx}{sts:List Stmt}:ZB X sts (fun _=>none) :=
 ⟨x9E ⟩
end
end L3
namespace P
open PySem L2 L3
def top(i:Nat):Stmt:=PySem.Challenge.pw_pageties_k04_whole_most_that_clash.main.body.getD i (.Pass ⟨0,0,0,0⟩)
abbrev z0I:Stmt:=top 19
abbrev z0G:Stmt:=top 20
abbrev z0H:Stmt:=top 21
abbrev z0J:Stmt:=top 22
abbrev K4:Stmt:=top 23
abbrev Z0:Stmt:=top 6
abbrev K3:Stmt:=top 3
abbrev z0F:Stmt:=top 7
abbrev Z1:Stmt:=top 8
abbrev Y8:Stmt:=top 11
abbrev g6:Stmt:=top 9
abbrev j5:Stmt:=top 10
abbrev j9:Stmt:=top 12
abbrev Z6:Stmt:=top 13
abbrev Y9:Stmt:=top 24
abbrev Z3:Stmt:=top 25
abbrev Z4:Stmt:=top 1
abbrev g4:Stmt:=top 14
abbrev Q5:Stmt:=top 2
abbrev u9:Stmt:=top 15
abbrev J5:Stmt:=top 16
abbrev z81:Stmt:=top 26
def z8T:List Str:=["_law_cell_here","_law_prime","_law_many"]
def y2Q:z9->Option Out :=
 z14 (d2 y13 (d2 y13 (d2 y4I (y1 0) (dC (.int 48271))) (y1 1)) (y1 2))
def K0:List D->Option D:=dFn 3 z8T y2Q
def z8R:List Str:=["_law_cell_here","_law_most_here","_law_ties","_law_many","_law_found","_law_k","_law_one","_law_other","_law_tie"]
def z5K:z9->Option Out :=
 W5 (z1B 3 (d2 z3E (dC (.int 1)) (w6 K0 (z6 (y1 0) (z6 (dC (.int 9973)) (z6 (y1 1) (j0)))))))
 (W5 (z4Y (z7A (x9 (d2 dLt (y1 3) (dC (.int 4)))) (x9 (d2 w1U (d2 y13 (y1 0) (dC (.int 4))) (dC (.int 0)))))
 (z1B 3 (y1 1))
 (z0S))
 (W5 (y12 4 (y14 (j0)))
 (W5 (z98 (z1R (w6 K0 (z6 (y1 0) (z6 (dC (.int 9967)) (z6 (d2 z3E (y1 2) (dC (.int 1))) (j0)))))) (w9 5)
 (W5 (z1B 6 (w6 K0 (z6 (d2 z3E (y1 0) (d2 y4I (dC (.int 11)) (y1 5))) (z6 (dC (.int 9949)) (z6 (y1 3) (j0))))))
 (W5 (z1B 7 (w6 K0 (z6 (d2 z3E (d2 z3E (y1 0) (d2 y4I (dC (.int 13)) (y1 5))) (dC (.int 1))) (z6 (dC (.int 9941)) (z6 (y1 3) (j0))))))
 (W5 (z1B 8 (z1Q (z6 (w6 x3R (z6 (y1 6) (z6 (y1 7) j0))) (z6 (w6 x0U (z6 (y1 6) (z6 (y1 7) j0))) (j0)))))
 (z4Y (z7A (x9 (d2 dNe (y1 6) (y1 7))) (x9 (dIn true (y1 8) (z8X 4))))
 (x1R 4 (y1 8))
 (z0S))))))
 (z14 (z1Q (z6 (y1 3) (z6 (z4F (dQF z6Y (z8X 4))) (j0))))))))
def z5X:List D->Option D:=dFn 3 z8R z5K
def z8S:List Str:=["_law_cell_here","_law_many","_law_left"]
def z5L:z9->Option Out :=
 W5 (y12 2 (z1I (y1 1)))
 (z14 (z4F (y03 [none,some 2,some 0,some 1] (z1R (y1 1)) (w9 0) (x85 1 (w6 K0 (z6 (d2 z3E (y1 2) (d2 y4I (dC (.int 5)) (y1 0))) (z6 (dC (.int 9931)) (z6 (d2 y2X (y1 3) (y1 0)) (j0)))))))))
def z5Y:List D->Option D:=dFn 2 z8S z5L
def z8U:List Str:=["_law_web_here","_law_row_here","_law_one","_law_other","_law_first","_law_second","_law_between"]
def z5M:z9->Option Out :=
 W5 (z1B 4 (dLs (J6 [none,some 1] (dSq (dIx (dSq (dIx (dSq (y1 0)) (dC (.int 1)))) (y1 2))) (w9 0) (z2B) (z6V (y1 1) (y1 0)))))
 (W5 (z1B 5 (dLs (J6 [none,some 1] (dSq (dIx (dSq (dIx (dSq (y1 0)) (dC (.int 1)))) (y1 3))) (w9 0) (z2B) (z6V (y1 1) (y1 0)))))
 (W5 (z4Y (z3Q (J6 [none,some 5] (dSq (y1 4)) (w9 0) (x9 (dIn false (y1 0) (dSq (y1 1)))) (y1 0)))
 (z14 (dC (.str "meet")))
 (z0S))
 (W5 (z1B 6 (dLs (J6 [none,some 4] (dSq (y1 5)) (w9 0) (x9 (z0P y1H y1H (z97 (W9 (y1 1))) (y1 0) (y2Y (W9 (y1 1))))) (y1 0))))
 (W5 (z4Y (x9 (d2 dEq (z8Y (dSq (y1 6))) (dC (.int 1))))
 (z14 (dC (.str "cross")))
 (z0S))
 (W5 (z4Y (y3G (x9 (d2 dEq (z8Y (dSq (y1 6))) (dC (.int 2)))) (x9 (z0P y1H y1H (z97 (W9 (y1 5))) (z97 (W9 (y1 4))) (y2Y (W9 (y1 5))))))
 (z14 (dC (.str "within")))
 (z0S))
 (z14 (dC (.str "apart"))))))))
def z3U:List D->Option D:=dFn 4 z8U z5M
def z35:List Str:=["_law_web_here","_law_row_here","_law_kind","_law_word","_law_found","_law_other"]
def z1H:z9->Option Out :=
 W5 (z1B 3 (dIx (y14 (z6 (dC (.str "cross")) (z6 (dC (.str "within")) (j0)))) (w6 x8K (z6 (d2 dEq (y1 2) (dC (.str "queue"))) j0))))
 (W5 (y12 4 (y14 (j0)))
 (W5 (z98 (z1R (z8Y (dSq (dIx (dSq (y1 0)) (dC (.int 1)))))) (w9 5)
 (x88 4 (J6 [none,some 5,some 0,some 1,some 3] (z1R (y1 5)) (w9 0) (x9 (d2 dEq (w6 z3U (z6 (y1 2) (z6 (y1 3) (z6 (y1 0) (z6 (y1 1) (j0)))))) (y1 4))) (z1Q (z6 (y1 0) (z6 (y1 1) (j0)))))))
 (z14 (dLs (dQF z6Y (z8X 4))))))
def z1J:List D->Option D:=dFn 3 z35 z1H
def z6E:List Str:=["row","spots","spot","place"]
def z43:z9->Option Out :=
 W5 (x3W 1 (fun _=>some ([],[])))
 (W5 (z98 (y2Z (y1 0)) (z77 2 (z04 (w9 2) (z04 (w9 3) (z78))))
 (x84 1 (y1 3) (y1 2)))
 (fun ρ=>z14 (y1 1) (frz 1 ρ)))
def z6J:List D->Option D:=dFn 1 z6E z43
def z34:List Str:=["one","other"]
def z1G:z9->Option Out :=
 z14 (z1Q (z6 (w6 x3R (z6 (y1 0) (z6 (y1 1) j0))) (z6 (w6 x0U (z6 (y1 0) (z6 (y1 1) j0))) (j0))))
def z37:List D->Option D:=dFn 2 z34 z1G
def z8Q:List Str:=["spots","tie"]
def z5J:z9->Option Out :=
 z14 (w6 z37 (z6 (y4J (y1 0) (dIx (dSq (y1 1)) (dC (.int 0)))) (z6 (y4J (y1 0) (dIx (dSq (y1 1)) (dC (.int 1)))) (j0))))
def z8V:List D->Option D:=dFn 2 z8Q z5J
def z6F:List Str:=["web","row","spots"]
def z44:z9->Option Out :=
 W5 (z1B 2 (w6 z6J (z6 (y1 1) (j0))))
 (z14 (dLs (J6 [none,some 2] (dSq (dIx (dSq (y1 0)) (dC (.int 1)))) (w9 0) (z2B) (w6 z8V (z6 (y1 1) (z6 (y1 0) (j0)))))))
def z4C:List D->Option D:=dFn 2 z6F z44
def z4Z:List Str:=["spans","gap","over"]
def z2U:z9->Option Out :=
 W5 (z1B 2 (dLs (J6 [none,some 0,some 1] (z1R (z8Y (dSq (y1 0)))) (w9 0) (x9 (z0P x87 y1H (dIx (dSq (dIx (dSq (y1 1)) (y1 0))) (dC (.int 0))) (y1 2) (dIx (dSq (dIx (dSq (y1 1)) (y1 0))) (dC (.int 1))))) (y1 0))))
 (z14 (dLs (y01 [none,some 0] (dSq (y1 2)) (dIx (dSq (y1 1)) (y1 0)))))
def z36:List D->Option D:=dFn 2 z4Z z2U
def z1U:List Str:=["one","other","first","second"]
def z0O:z9->Option Out :=
 W5 (z4Y (y3G (x9 (dIn false (dIx (dSq (y1 0)) (dC (.int 0))) (dSq (y1 1)))) (x9 (dIn false (dIx (dSq (y1 0)) (dC (.int 1))) (dSq (y1 1)))))
 (z14 (dC (.str "meet")))
 (z0S))
 (W5 (z1B 2 (w6 x3Q (z6 (y1 0) (z6 (y1 1) j0))))
 (W5 (z1B 3 (w6 x3S (z6 (y1 0) (z6 (y1 1) j0))))
 (W5 (z4Y (x9 (d2 dLt (dIx (dSq (y1 2)) (dC (.int 1))) (dIx (dSq (y1 3)) (dC (.int 0)))))
 (z14 (dC (.str "apart")))
 (z0S))
 (z14 (dIf (x9 (d2 dLt (dIx (dSq (y1 2)) (dC (.int 1))) (dIx (dSq (y1 3)) (dC (.int 1))))) (dC (.str "cross")) (dC (.str "within")))))))
def z1V:List D->Option D:=dFn 2 z1U z0O
def z1C:List Str:=["one","other","kind"]
def z07:z9->Option Out :=
 z14 (d2 dEq (w6 z1V (z6 (y1 0) (z6 (y1 1) (j0)))) (x3Y [("pile","cross"),("queue","within")] (y1 2)))
def j6:List D->Option D:=dFn 3 z1C z07
def z1S:List Str:=["spans","ties","kind","chains","tie","before"]
def z0M:z9->Option Out :=
 W5 (y12 3 (y14 (j0)))
 (W5 (z98 (dSq (y1 1)) (w9 4)
 (W5 (z1B 5 (dLs (J6 [none,some 0,some 4,some 2] (z8X 3) (w9 0) (x9 (w6 j6 (z6 (dIx (dSq (y1 1)) (dIx (dSq (y1 0)) (x16 (dC (.int 1))))) (z6 (dIx (dSq (y1 1)) (y1 2)) (z6 (y1 3) (j0)))))) (y1 0))))
 (x1R 3 (d2 z3E (z6A (dSq (y1 5)) (z1Q (j0))) (z1Q (z6 (y1 4) (j0)))))))
 (z14 (z6A (z8X 3) (z1Q (j0)))))
def z0Q:List D->Option D:=dFn 3 z1S z0M
def z6H:List Str:=["web","row","kind","spans","found","gap"]
def z46:z9->Option Out :=
 W5 (z1B 3 (w6 z4C (z6 (y1 0) (z6 (y1 1) (j0)))))
 (W5 (z1B 4 (z1Q (j0)))
 (W5 (z98 (z1R (d2 y2X (dIx (dSq (y1 0)) (dC (.int 0))) (dC (.int 1)))) (w9 5)
 (z1B 4 (d2 z4U (y1 4) (w6 z0Q (z6 (y1 3) (z6 (w6 z36 (z6 (y1 3) (z6 (y1 5) (j0)))) (z6 (y1 2) (j0))))))))
 (z14 (z4F (dQF z6Y (dSq (y1 4)))))))
def z4D:List D->Option D:=dFn 3 z6H z46
def z50:List Str:=["_law_pairs","_law_some","_law_k","_law_one"]
def z2V:z9->Option Out :=
 W5 (z98 (y2Z (y1 1)) (z77 2 (z04 (w9 2) (z04 (w9 3) (z78))))
 (z4Y (z3Q (J6 [none,some 3,some 0] (dSq (z96 (y1 1) (z2C (d2 z3E (y1 2) (dC (.int 1)))) (y3H))) (w9 0) (x9 (dIn true (z1Q (z6 (y1 1) (z6 (y1 0) (j0)))) (dSq (y1 2)))) (y1 0)))
 (z14 (dC (.bl false)))
 (z0S)))
 (z14 (dC (.bl true)))
def z08:List D->Option D:=dFn 2 z50 z2V
def z4B:List Str:=["_law_pairs","_law_chosen","_law_left","_law_best","_law_k","_law_tie"]
def z45(Fr:List D->Option D):z9->Option Out :=
 W5 (z1B 3 (z8Y (dSq (y1 1))))
 (W5 (z98 (y2Z (y1 2)) (z77 2 (z04 (w9 4) (z04 (w9 5) (z78))))
 (z4Y (z1X (z3Q (J6 [none,some 5,some 0] (dSq (y1 1)) (w9 0) (x9 (dIn true (z1Q (z6 (y1 0) (z6 (y1 1) (j0)))) (dSq (y1 2)))) (y1 0))))
 (z1B 3 (w6 x0U (z6 (y1 3) (z6 (w6 Fr (z6 (y1 0) (z6 (dLs (z79 (W9 (y1 1)) (y14 (z6 (y1 5) (j0))))) (z6 (z96 (y1 2) (z2C (d2 z3E (y1 4) (dC (.int 1)))) (y3H)) (j0))))) j0))))
 (z0S)))
 (z14 (y1 3)))
def z0B:Nat->List D->Option D
 | 0=>dFn 3 z4B (fun _=>none)
 | k+1=>dFn 3 z4B (z45 (z0B k))
def z6G:List Str:=["thing"]
def z9X:z9->Option Out :=
 z14 (x53 (y85 "int" (y1 0)) (w21 (y85 "bool" (y1 0))))
def y06:List D->Option D:=dFn 1 z6G z9X
def z1T:List Str:=["web","thing"]
def z0N:z9->Option Out :=
 z14 (x53 (w6 y06 (z6 (y1 1) (j0))) (z0P x87 y1H (dC (.int 0)) (y1 1) (z8Y (dSq (dIx (dSq (y1 0)) (dC (.int 1)))))))
def z0R:List D->Option D:=dFn 2 z1T z0N
def z3T:List Str:=["things"]
def z6T:z9->Option Out :=
 z14 (x1S (J6 [none,some 0] (z1R (d2 y2X (z8Y (dSq (y1 0))) (dC (.int 1)))) (w9 0) (z2B) (d2 dLt (dIx (dSq (y1 1)) (y1 0)) (dIx (dSq (y1 1)) (d2 z3E (y1 0) (dC (.int 1)))))))
def z3V:List D->Option D:=dFn 1 z3T z6T
def z0X:List Str:=["web","thing"]
def K8:z9->Option Out :=
 W5 (z4Y (z1X (x9 (y85 "tuple" (y1 1))))
 (z14 (dC (.bl false)))
 (z0S))
 (z14 (x53 (x1S (J6 [none,some 0] (dSq (y1 1)) (w9 0) (z2B) (w6 z0R (z6 (y1 1) (z6 (y1 0) (j0)))))) (w6 z3V (z6 (y1 1) (j0)))))
def J4:List D->Option D:=dFn 2 z0X K8
def z2D:List Str:=["web","row","kind","thing","spans","k","tie"]
def Q9:z9->Option Out :=
 W5 (z4Y (z1X (x9 (w6 J4 (z6 (y1 0) (z6 (y1 3) (j0))))))
 (z14 (dC (.bl false)))
 (z0S))
 (W5 (z1B 4 (w6 z4C (z6 (y1 0) (z6 (y1 1) (j0)))))
 (W5 (z98 (y2Z (y1 3)) (z77 2 (z04 (w9 5) (z04 (w9 6) (z78))))
 (z4Y (z1X (x9 (x1S (J6 [none,some 4,some 6,some 2] (dSq (z96 (y1 3) (z2C (d2 z3E (y1 5) (dC (.int 1)))) (y3H))) (w9 0) (z2B) (w6 j6 (z6 (dIx (dSq (y1 1)) (y1 2)) (z6 (dIx (dSq (y1 1)) (y1 0)) (z6 (y1 3) (j0)))))))))
 (z14 (dC (.bl false)))
 (z0S)))
 (z14 (dC (.bl true)))))
def J8:List D->Option D:=dFn 4 z2D Q9
def x8G:List Str:=["_law_script","_law_cell_here","_law_web_here","_law_row_here","_law_size","_law_kind","_law_pairs","_law_found","_law_some","_law_thing","_law_told","_law_bad"]
def x3P:z9->Option Out :=
 W5 (z98 (dSq (z96 (y1 0) (y3H) (z2C (dC (.int 3))))) (w9 1)
 (W5 (z1B 2 (w6 z5X (z6 (y1 1) (z6 (dC (.int 6)) (z6 (dC (.int 10)) (j0))))))
 (W5 (z1B 3 (w6 z5Y (z6 (d2 x3Z (y1 1) (dC (.int 3))) (z6 (dIx (dSq (y1 2)) (dC (.int 0))) (j0)))))
 (W5 (z1B 4 (z8Y (dSq (dIx (dSq (y1 2)) (dC (.int 1))))))
 (z98 (dSq (z1Q (z6 (dC (.str "pile")) (z6 (dC (.str "queue")) (j0))))) (w9 5)
 (W5 (z1B 6 (w6 z1J (z6 (y1 2) (z6 (y1 3) (z6 (y1 5) (j0))))))
 (W5 (z1B 7 (w6 z4D (z6 (y1 2) (z6 (y1 3) (z6 (y1 5) (j0))))))
 (W5 (z4Y (y3G (z1X (x9 (y85 "tuple" (y1 7)))) (y3G (x9 (d2 dNe (dLs (dQF some (dSq (y1 7)))) (dLs (z2Z (dSq (y1 7)))))) (z1X (x9 (w6 z08 (z6 (y1 6) (z6 (y1 7) (j0))))))))
 (z14 (dC (.bl false)))
 (z0S))
 (W5 (z4Y (y3G (z3Q (J6 [none,some 4] (dSq (y1 7)) (w9 0) (z1X (x9 (z0P x87 y1H (dC (.int 0)) (y1 0) (y1 1)))) (y1 0))) (x9 (d2 dNe (z8Y (dSq (y1 7))) (w6 (z0B 12) (z6 (y1 6) (z6 (dLs (y14 (j0))) (z6 (dLs (z1I (y1 4))) (j0))))))))
 (z14 (dC (.bl false)))
 (z0S))
 (W5 (z1B 8 (dLs (J6 [none,some 4] (dSq (z96 (y1 0) (z2C (dC (.int 3))) (z2C (dC (.int 7))))) (w9 0) (z2B) (z4F (J6 [none,some 0] (z1R (y1 1)) (w9 0) (x9 (d2 dEq (w6 K0 (z6 (d2 z3E (y1 1) (y1 0)) (z6 (dC (.int 9929)) (z6 (dC (.int 4)) (j0))))) (dC (.int 0)))) (y1 0))))))
 (W5 (z98 (dSq (dLs (z79 (z79 (W9 (y1 8)) (y14 (z6 (y1 7) (j0)))) (J6 [none] (dSq (z96 (y1 6) (y3H) (z2C (dC (.int 2))))) (w9 0) (z2B) (z4F (dSq (y1 0))))))) (w9 9)
 (W5 (z1B 10 (w6 J8 (z6 (y1 2) (z6 (y1 3) (z6 (y1 5) (z6 (y1 9) (j0)))))))
 (z4Y (y3G (z1X (x9 (y85 "bool" (y1 10)))) (x9 (d2 dNe (y1 10) (w6 z08 (z6 (y1 6) (z6 (y1 9) (j0)))))))
 (z14 (dC (.bl false)))
 (z0S))))
 (z98 (dSq (dLs (y14 (z6 (d2 z3E (y1 7) (z1Q (z6 (y1 4) (j0)))) (z6 (z1Q (z6 (x16 (dC (.int 1))) (j0))) (z6 (z1Q (z6 (dC (.int 0)) (z6 (dC (.int 0)) (j0)))) (z6 (dLs (dQF some (dSq (y1 7)))) (z6 (dC .non) (z6 (z1Q (z6 (dC (.str "0")) (j0))) (z6 (z1Q (z6 (dC .non) (j0))) (z6 (z1Q (z6 (dC (.bl true)) (z6 (dC (.int 2)) (j0)))) (j0)))))))))))) (w9 11)
 (z4Y (x9 (d2 x8L (w6 J8 (z6 (y1 2) (z6 (y1 3) (z6 (y1 5) (z6 (y1 11) (j0)))))) (dC (.bl false))))
 (z14 (dC (.bl false)))
 (z0S))))))))))))))
 (z14 (dC (.bl true)))
def y3F:List D->Option D:=dFn 1 x8G x3P
structure Top(K:PySem.W.Frag)(w:World)(mg:Str->Option Value):Prop where
 d_law_mix:Stands K mg "_law_mix" z0I
 d_law_web:Stands K mg "_law_web" z0G
 d_law_row:Stands K mg "_law_row" z0H
 d_law_how:Stands K mg "_law_how" z0J
 d_law_clashes:Stands K mg "_law_clashes" K4
 d_spots_of:Stands K mg "spots_of" Z0
 d_rising_pair:Stands K mg "rising_pair" K3
 d_span_of:Stands K mg "span_of" z0F
 d_spans_of:Stands K mg "spans_of" Z1
 d_ties_over:StandsL K mg "ties_over" Y8
 d_how_spans_lie:Stands K mg "how_spans_lie" g6
 d_do_spans_clash:Stands K mg "do_spans_clash" j5
 d_longest_chain:Stands K mg "longest_chain" j9
 d_greatest:Stands K mg "greatest" Z6
 d_law_clash:Stands K mg "_law_clash" Y9
 d_law_most:Stands K mg "_law_most" Z3
 d_is_whole:Stands K mg "is_whole" Z4
 d_is_tie_number:Stands K mg "is_tie_number" g4
 d_are_rising:Stands K mg "are_rising" Q5
 d_are_tie_numbers:Stands K mg "are_tie_numbers" u9
 d_are_clashing:Stands K mg "are_clashing" J5
 d_law:Stands K mg "law" z81
 x_bm:BmAt K mg
 b_all:mg "all" = none
 b_bool:mg "bool" = none
 b_enumerate:mg "enumerate" = none
 b_int:mg "int" = none
 b_isinstance:mg "isinstance" = none
 b_len:mg "len" = none
 b_list:mg "list" = none
 b_max:mg "max" = none
 b_min:mg "min" = none
 b_range:mg "range" = none
 b_set:mg "set" = none
 b_sorted:mg "sorted" = none
 b_tuple:mg "tuple" = none
 x_CLASHING:∃a,mg "CLASHING" = some (.ref a)/\w3J K w a [("pile","cross"),("queue","within")]
section
variable{P:Program}{w:World}{K:PySem.W.Frag}{mg:Str->Option Value}{base:Heap}
theorem y73:FnScope z8T ["_law_cell_here","_law_prime","_law_many"] (z7 z0I):=⟨rfl,rfl,rfl,by decide +kernel,rfl,by decide +kernel,by decide +kernel⟩
theorem x1J(T:Top K w mg)(f:Addr)(cdv:Value)(A:Around)(outer:List Env)(s:Shared)(H:Hp)(E:XK)(hr:Room 0 (A.deeper (PyProof.Rows.envOfC "_law_mix" (z7 z0I) s.heap.objs.size f cdv))) :
  ZB (z47 CX0 P w K mg base z8T "_law_mix" (z7 z0I) f cdv A outer s H E).nox (y8 z0I) y2Q:=by
 have hu:=hr.units;have hu0:=hr.units0;exact x8 (u8 (y3O (y3O (y09 (zsv 0) (y9)) (zsv 1)) (zsv 2)))
theorem z1K(T:Top K w mg):FnD P w K mg base 1 "_law_mix" ["_law_cell_here","_law_prime","_law_many"] K0 :=
 z25 T.d_law_mix y73 (fun _ _ _ _ _ _ us hl=>match us,hl with|[_,_,_],_=>rfl) rfl (x1J T)
theorem z09:FnScope z8R ["_law_cell_here","_law_most_here","_law_ties"] (z7 z0G):=⟨rfl,rfl,rfl,by decide +kernel,rfl,by decide +kernel,by decide +kernel⟩
theorem x1H(T:Top K w mg)(f:Addr)(cdv:Value)(A:Around)(outer:List Env)(s:Shared)(H:Hp)(E:XK)(hr:Room 1 (A.deeper (PyProof.Rows.envOfC "_law_web" (z7 z0G) s.heap.objs.size f cdv))) :
  ZB (z47 CX0 P w K mg base z8R "_law_web" (z7 z0G) f cdv A outer s H E).nox (y8 z0G) z5K:=by
 have hu:=hr.units;have hu0:=hr.units0
 exact y6 (K9 (i:=3) (z0T (y9) (Q2 (z1K T) hr (z8 (zsv 0) (z8 (y9) (z8 (zsv 1) (x3)))))) z09.nd)
   (y6 (z1E (y3I (y89 (y8A hu0 (zsv 3) (y9)) (y4X (x5A (y3O (zsv 0) (y9)) (y9)))))
   (x8 (K9 (i:=3) (zsv 1) z09.nd))
   (Z8))
   (y6 (z7F (i:=4) (z3G (x3)) z09.nd)
   (y6 (z17 PassesOwn.never rfl (z1Y T.b_range (Q2 (z1K T) hr (z8 (zsv 0) (z8 (y9) (z8 (z0T (zsv 2) (y9)) (x3)))))) (w8 (i:=5) z09.nd)
   (y6 (K9 (i:=6) (Q2 (z1K T) hr (z8 (z0T (zsv 0) (y09 (y9) (zsv 5))) (z8 (y9) (z8 (zsv 3) (x3))))) z09.nd)
   (y6 (K9 (i:=7) (Q2 (z1K T) hr (z8 (z0T (z0T (zsv 0) (y09 (y9) (zsv 5))) (y9)) (z8 (y9) (z8 (zsv 3) (x3))))) z09.nd)
   (y6 (K9 (i:=8) (W7 (z8 (y51 rfl T.b_min (zsv 6) (zsv 7)) (z8 (y0B rfl T.b_max (zsv 6) (zsv 7)) (x3)))) z09.nd)
   (x8 (z1E (y3I (y89 (y4Y hu (zsv 6) (zsv 7)) (y4X (y3J hu (zsv 8) (zqv 4)))))
   (x8 (y8C (i:=4) (zsv 8)))
   (Z8)))))))
   (x8 (u8 (W7 (z8 (zsv 3) (z8 (z54 T.b_tuple (w1Y (z60 T.b_sorted (zqv 4)))) (x3)))))))))
theorem y77(T:Top K w mg):FnD P w K mg base 2 "_law_web" ["_law_cell_here","_law_most_here","_law_ties"] z5X :=
 z25 T.d_law_web z09 (fun _ _ _ _ _ _ us hl=>match us,hl with|[_,_,_],_=>rfl) rfl (x1H T)
theorem z9K:FnScope z8S ["_law_cell_here","_law_many"] (z7 z0H):=⟨rfl,rfl,rfl,by decide +kernel,rfl,by decide +kernel,by decide +kernel⟩
theorem x1I(T:Top K w mg)(f:Addr)(cdv:Value)(A:Around)(outer:List Env)(s:Shared)(H:Hp)(E:XK)(hr:Room 1 (A.deeper (PyProof.Rows.envOfC "_law_row" (z7 z0H) s.heap.objs.size f cdv))) :
  ZB (z47 CX0 P w K mg base z8S "_law_row" (z7 z0H) f cdv A outer s H E).nox (y8 z0H) z5L:=by
 have hu:=hr.units;have hu0:=hr.units0
 exact y6 (z7F (i:=2) (z7T rfl T.b_list T.b_range (zsv 1)) z9K.nd)
   (x8 (y1K T.b_tuple (y8D ["_law_k","_law_left","_law_cell_here","_law_many"] [none,some 2,some 0,some 1] rfl (z1Y T.b_range (zsv 1)) (fun _ _ _ _ _=>w8 (i:=0) (show List.Nodup (["_law_k","_law_left","_law_cell_here","_law_many"]:List Str) by decide +kernel)) (fun _ _ _ _ _=>y8G (i:=1) (Q2 (z1K T) hr (z8 (z0T (zsv 2) (y09 (y9) (zsv 0))) (z8 (y9) (z8 (y3M (zsv 3) (zsv 0)) (x3)))))))))
theorem y78(T:Top K w mg):FnD P w K mg base 2 "_law_row" ["_law_cell_here","_law_many"] z5Y :=
 z25 T.d_law_row z9K (fun _ _ _ _ _ _ us hl=>match us,hl with|[_,_],_=>rfl) rfl (x1I T)
theorem z3Z:FnScope z8U ["_law_web_here","_law_row_here","_law_one","_law_other"] (z7 z0J):=⟨rfl,rfl,rfl,by decide +kernel,rfl,by decide +kernel,by decide +kernel⟩
theorem x1K(T:Top K w mg)(f:Addr)(cdv:Value)(A:Around)(outer:List Env)(s:Shared)(H:Hp)(E:XK)(hr:Room 0 (A.deeper (PyProof.Rows.envOfC "_law_how" (z7 z0J) s.heap.objs.size f cdv))) :
  ZB (z47 CX0 P w K mg base z8U "_law_how" (z7 z0J) f cdv A outer s H E).nox (y8 z0J) z5M:=by
 have hu:=hr.units;have hu0:=hr.units0
 exact y6 (K9 (i:=4) (z61 (Y1 ["_law_place","_law_row_here"] [none,some 1] rfl (Z9 (W6 (Q0 (K2 (Q0 (K2 (zsv 0)) (y9))) (zsv 2)))) (fun _ _ _ _ _=>w8 (i:=0) (show List.Nodup (["_law_place","_law_row_here"]:List Str) by decide +kernel)) (fun _ _ _ _ _=>z6L) (fun _ _ _ _ _=>y1L hu (zsv 1) (zsv 0)))) z3Z.nd)
   (y6 (K9 (i:=5) (z61 (Y1 ["_law_place","_law_row_here"] [none,some 1] rfl (Z9 (W6 (Q0 (K2 (Q0 (K2 (zsv 0)) (y9))) (zsv 3)))) (fun _ _ _ _ _=>w8 (i:=0) (show List.Nodup (["_law_place","_law_row_here"]:List Str) by decide +kernel)) (fun _ _ _ _ _=>z6L) (fun _ _ _ _ _=>y1L hu (zsv 1) (zsv 0)))) z3Z.nd)
   (y6 (z1E (z7E (y1M (Y1 ["_law_spot","_law_second"] [none,some 5] rfl (Z9 (W6 (zsv 4))) (fun _ _ _ _ _=>w8 (i:=0) (show List.Nodup (["_law_spot","_law_second"]:List Str) by decide +kernel)) (fun _ _ _ _ _=>z55 (y8B hu (zsv 0) (K2 (zsv 1)))) (fun _ _ _ _ _=>zsv 0))))
   (x8 (u8 (z0D)))
   (Z8))
   (y6 (z52 (i:=6) ["_law_spot","_law_first"] [none,some 4] rfl (Z9 (W6 (zsv 5))) (fun _ _ _ _ _=>w8 (i:=0) (show List.Nodup (["_law_spot","_law_first"]:List Str) by decide +kernel)) (fun _ _ _ _ _=>z55 (z51 y0R z2H y0R z2H (y0A rfl T.b_min (z7V (zsv 1))) (zsv 0) (y52 rfl T.b_max (z7V (zsv 1))))) (fun _ _ _ _ _=>zsv 0) z3Z.nd)
   (y6 (z1E (y4Z hu (z2P T.b_len (K2 (zsv 6))) (y9))
   (x8 (u8 (z0D)))
   (Z8))
   (y6 (z1E (y3I (z9B (y4Z hu (z2P T.b_len (K2 (zsv 6))) (y9)) (z7S (z51 y0R z2H y0R z2H (y0A rfl T.b_min (z7V (zsv 5))) (y0A rfl T.b_min (z7V (zsv 4))) (y52 rfl T.b_max (z7V (zsv 5)))))))
   (x8 (u8 (z0D)))
   (Z8))
   (x8 (u8 (z0D))))))))
theorem y79(T:Top K w mg):FnD P w K mg base 1 "_law_how" ["_law_web_here","_law_row_here","_law_one","_law_other"] z3U :=
 z25 T.d_law_how z3Z (fun _ _ _ _ _ _ us hl=>match us,hl with|[_,_,_,_],_=>rfl) rfl (x1K T)
theorem z0Z:FnScope z35 ["_law_web_here","_law_row_here","_law_kind"] (z7 K4):=⟨rfl,rfl,rfl,by decide +kernel,rfl,by decide +kernel,by decide +kernel⟩
theorem y1B(T:Top K w mg)(f:Addr)(cdv:Value)(A:Around)(outer:List Env)(s:Shared)(H:Hp)(E:XK)(hr:Room 1 (A.deeper (PyProof.Rows.envOfC "_law_clashes" (z7 K4) s.heap.objs.size f cdv))) :
  ZB (z47 CX0 P w K mg base z35 "_law_clashes" (z7 K4) f cdv A outer s H E).nox (y8 K4) z1H:=by
 have hu:=hr.units;have hu0:=hr.units0
 exact y6 (K9 (i:=3) (Q0 (w1Y (z3G (z8 (z0D) (z8 (z0D) (x3))))) (y8F T.b_int (x48 hu (zsv 2) (z0D)))) z0Z.nd)
   (y6 (z7F (i:=4) (z3G (x3)) z0Z.nd)
   (y6 (z17 PassesOwn.never rfl (z1Y T.b_range (z2P T.b_len (K2 (Q0 (K2 (zsv 0)) (y9))))) (w8 (i:=5) z0Z.nd)
   (x8 (x5D (i:=4) (Y1 ["_law_one","_law_other","_law_web_here","_law_row_here","_law_word"] [none,some 5,some 0,some 1,some 3] rfl (Z9 (z1Y T.b_range (zsv 5))) (fun _ _ _ _ _=>w8 (i:=0) (show List.Nodup (["_law_one","_law_other","_law_web_here","_law_row_here","_law_word"]:List Str) by decide +kernel)) (fun _ _ _ _ _=>z55 (y4Z hu (Q2 (y79 T) hr (z8 (zsv 2) (z8 (zsv 3) (z8 (zsv 0) (z8 (zsv 1) (x3)))))) (zsv 4))) (fun _ _ _ _ _=>W7 (z8 (zsv 0) (z8 (zsv 1) (x3))))))))
   (x8 (u8 (z61 (z60 T.b_sorted (zqv 4)))))))
theorem z93(T:Top K w mg):FnD P w K mg base 2 "_law_clashes" ["_law_web_here","_law_row_here","_law_kind"] z1J :=
 z25 T.d_law_clashes z0Z (fun _ _ _ _ _ _ us hl=>match us,hl with|[_,_,_],_=>rfl) rfl (y1B T)
theorem z2R:FnScope z6E ["row"] (z7 Z0):=⟨rfl,rfl,rfl,by decide +kernel,rfl,by decide +kernel,by decide +kernel⟩
theorem y7W(T:Top K w mg)(f:Addr)(cdv:Value)(A:Around)(outer:List Env)(s:Shared)(H:Hp)(E:XK)(hr:Room 0 (A.deeper (PyProof.Rows.envOfC "spots_of" (z7 Z0) s.heap.objs.size f cdv))) :
  ZB (z47 CX0 P w K mg base z6E "spots_of" (z7 Z0) f cdv A outer s H E).nox (y8 Z0) z43:=by
 have hu:=hr.units;have hu0:=hr.units0
 exact y6 (x1V (i:=1) x1X z2R.nd)
   (y6 (z17 PassesOwn.never rfl (z7G T.b_enumerate (zsv 0)) (y08 rfl (z10 (w8 (i:=2) z2R.nd) (z10 (w8 (i:=3) z2R.nd) (z7H))))
   (x8 (x5B (i:=1) hu (zsv 3) (zsv 2))))
   (x8 (x5C 1 (u8 (zsv 1)))))
theorem y43(T:Top K w mg):FnD P w K mg base 1 "spots_of" ["row"] z6J :=
 z25 T.d_spots_of z2R (fun _ _ _ _ _ _ us hl=>match us,hl with|[_],_=>rfl) rfl (y7W T)
theorem z91:FnScope z34 ["one","other"] (z7 K3):=⟨rfl,rfl,rfl,by decide +kernel,rfl,by decide +kernel,by decide +kernel⟩
theorem y1A(T:Top K w mg)(f:Addr)(cdv:Value)(A:Around)(outer:List Env)(s:Shared)(H:Hp)(E:XK)(hr:Room 0 (A.deeper (PyProof.Rows.envOfC "rising_pair" (z7 K3) s.heap.objs.size f cdv))) :
  ZB (z47 CX0 P w K mg base z34 "rising_pair" (z7 K3) f cdv A outer s H E).nox (y8 K3) z1G:=by
 have hu:=hr.units;have hu0:=hr.units0;exact x8 (u8 (W7 (z8 (y51 rfl T.b_min (zsv 0) (zsv 1)) (z8 (y0B rfl T.b_max (zsv 0) (zsv 1)) (x3)))))
theorem z92(T:Top K w mg):FnD P w K mg base 1 "rising_pair" ["one","other"] z37 :=
 z25 T.d_rising_pair z91 (fun _ _ _ _ _ _ us hl=>match us,hl with|[_,_],_=>rfl) rfl (y1A T)
theorem y72:FnScope z8Q ["spots","tie"] (z7 z0F):=⟨rfl,rfl,rfl,by decide +kernel,rfl,by decide +kernel,by decide +kernel⟩
theorem x1G(T:Top K w mg)(f:Addr)(cdv:Value)(A:Around)(outer:List Env)(s:Shared)(H:Hp)(E:XK)(hr:Room 1 (A.deeper (PyProof.Rows.envOfC "span_of" (z7 z0F) s.heap.objs.size f cdv))) :
  ZB (z47 CX0 P w K mg base z8Q "span_of" (z7 z0F) f cdv A outer s H E).nox (y8 z0F) z5J:=by
 have hu:=hr.units;have hu0:=hr.units0;exact x8 (u8 (Q2 (z92 T) hr (z8 (y53 hu (zsv 0) (Q0 (K2 (zsv 1)) (y9))) (z8 (y53 hu (zsv 0) (Q0 (K2 (zsv 1)) (y9))) (x3)))))
theorem y76(T:Top K w mg):FnD P w K mg base 2 "span_of" ["spots","tie"] z8V :=
 z25 T.d_span_of y72 (fun _ _ _ _ _ _ us hl=>match us,hl with|[_,_],_=>rfl) rfl (x1G T)
theorem z80:FnScope z6F ["web","row"] (z7 Z1):=⟨rfl,rfl,rfl,by decide +kernel,rfl,by decide +kernel,by decide +kernel⟩
theorem y7X(T:Top K w mg)(f:Addr)(cdv:Value)(A:Around)(outer:List Env)(s:Shared)(H:Hp)(E:XK)(hr:Room 2 (A.deeper (PyProof.Rows.envOfC "spans_of" (z7 Z1) s.heap.objs.size f cdv))) :
  ZB (z47 CX0 P w K mg base z6F "spans_of" (z7 Z1) f cdv A outer s H E).nox (y8 Z1) z44:=by
 have hu:=hr.units;have hu0:=hr.units0
 exact y6 (K9 (i:=2) (Q2 (y43 T) hr (z8 (zsv 1) (x3))) z80.nd)
   (x8 (u8 (z61 (Y1 ["tie","spots"] [none,some 2] rfl (Z9 (W6 (Q0 (K2 (zsv 0)) (y9)))) (fun _ _ _ _ _=>w8 (i:=0) (show List.Nodup (["tie","spots"]:List Str) by decide +kernel)) (fun _ _ _ _ _=>z6L) (fun _ _ _ _ _=>Q2 (y76 T) hr (z8 (zsv 1) (z8 (zsv 0) (x3))))))))
theorem z83(T:Top K w mg):FnD P w K mg base 3 "spans_of" ["web","row"] z4C :=
 z25 T.d_spans_of z80 (fun _ _ _ _ _ _ us hl=>match us,hl with|[_,_],_=>rfl) rfl (y7X T)
theorem z6N:FnScope z4Z ["spans","gap"] (z7 Y8):=⟨rfl,rfl,rfl,by decide +kernel,rfl,by decide +kernel,by decide +kernel⟩
theorem y4R(T:Top K w mg)(f:Addr)(cdv:Value)(A:Around)(outer:List Env)(s:Shared)(H:Hp)(E:XK)(hl:z94 K cdv "ties_over" = true)(hr:Room 3 (A.deeper (PyProof.Rows.envOfC "ties_over" (z7 Y8) s.heap.objs.size f cdv))) :
  ZB (z47 CX0 P w K mg base z4Z "ties_over" (z7 Y8) f cdv A outer s H E).nox (y8 Y8) z2U:=by
 have hu:=hr.units;have hu0:=hr.units0
 exact y6 (z52 (i:=2) ["tie","spans","gap"] [none,some 0,some 1] rfl (Z9 (z1Y T.b_range (z2P T.b_len (K2 (zsv 0))))) (fun _ _ _ _ _=>w8 (i:=0) (show List.Nodup (["tie","spans","gap"]:List Str) by decide +kernel)) (fun _ _ _ _ _=>z55 (z51 x75 z2H y0R z2H (Q0 (K2 (Q0 (K2 (zsv 1)) (zsv 0))) (y9)) (zsv 2) (Q0 (K2 (Q0 (K2 (zsv 1)) (zsv 0))) (y9)))) (fun _ _ _ _ _=>zsv 0) z6N.nd)
   (x8 (u8 (z61 (y8E (k:=0) ["tie","spans"] [none,some 0] T.b_sorted T.x_bm hl (hr.mono (by decide)) (K2 (zsv 2)) (fun _ _ _ _ _ _ hr=>have hu:=hr.units;have hu0:=hr.units0;Q0 (K2 (zsv 1)) (zsv 0))))))
theorem y29(T:Top K w mg):FnD P w K mg base 4 "ties_over" ["spans","gap"] z36 :=
 x8R T.d_ties_over z6N (fun _ _ _ _ _ _ us hl=>match us,hl with|[_,_],_=>rfl) rfl (y4R T)
theorem z19:FnScope z1U ["one","other"] (z7 g6):=⟨rfl,rfl,rfl,by decide +kernel,rfl,by decide +kernel,by decide +kernel⟩
theorem z8O(T:Top K w mg)(f:Addr)(cdv:Value)(A:Around)(outer:List Env)(s:Shared)(H:Hp)(E:XK)(hr:Room 0 (A.deeper (PyProof.Rows.envOfC "how_spans_lie" (z7 g6) s.heap.objs.size f cdv))) :
  ZB (z47 CX0 P w K mg base z1U "how_spans_lie" (z7 g6) f cdv A outer s H E).nox (y8 g6) z0O:=by
 have hu:=hr.units;have hu0:=hr.units0
 exact y6 (z1E (y3I (z9B (y8B hu (Q0 (K2 (zsv 0)) (y9)) (K2 (zsv 1))) (z7S (y8B hu (Q0 (K2 (zsv 0)) (y9)) (K2 (zsv 1))))))
   (x8 (u8 (z0D)))
   (Z8))
   (y6 (K9 (i:=2) (x1Y rfl hu T.b_min (zsv 0) (zsv 1)) z19.nd)
   (y6 (K9 (i:=3) (x1Z rfl hu T.b_max (zsv 0) (zsv 1)) z19.nd)
   (y6 (z1E (y8A hu0 (Q0 (K2 (zsv 2)) (y9)) (Q0 (K2 (zsv 3)) (y9)))
   (x8 (u8 (z0D)))
   (Z8))
   (x8 (u8 (x8Q (y8A hu0 (Q0 (K2 (zsv 2)) (y9)) (Q0 (K2 (zsv 3)) (y9))) (z0D) (z0D)))))))
theorem z73(T:Top K w mg):FnD P w K mg base 1 "how_spans_lie" ["one","other"] z1V :=
 z25 T.d_how_spans_lie z19 (fun _ _ _ _ _ _ us hl=>match us,hl with|[_,_],_=>rfl) rfl (z8O T)
theorem z65:FnScope z1C ["one","other","kind"] (z7 j5):=⟨rfl,rfl,rfl,by decide +kernel,rfl,by decide +kernel,by decide +kernel⟩
theorem z7B(T:Top K w mg)(f:Addr)(cdv:Value)(A:Around)(outer:List Env)(s:Shared)(H:Hp)(E:XK)(hr:Room 1 (A.deeper (PyProof.Rows.envOfC "do_spans_clash" (z7 j5) s.heap.objs.size f cdv))) :
  ZB (z47 CX0 P w K mg base z1C "do_spans_clash" (z7 j5) f cdv A outer s H E).nox (y8 j5) z07:=by
 obtain⟨a_CLASHING,z_CLASHING,y_CLASHING⟩:=T.x_CLASHING;have hu:=hr.units;have hu0:=hr.units0;exact x8 (u8 (x48 hu (Q2 (z73 T) hr (z8 (zsv 0) (z8 (zsv 1) (x3)))) (x20 z_CLASHING y_CLASHING (zsv 2))))
theorem z2I(T:Top K w mg):FnD P w K mg base 2 "do_spans_clash" ["one","other","kind"] j6 :=
 z25 T.d_do_spans_clash z65 (fun _ _ _ _ _ _ us hl=>match us,hl with|[_,_,_],_=>rfl) rfl (z7B T)
theorem z06:FnScope z1S ["spans","ties","kind"] (z7 j9):=⟨rfl,rfl,rfl,by decide +kernel,rfl,by decide +kernel,by decide +kernel⟩
theorem z8M(T:Top K w mg)(f:Addr)(cdv:Value)(A:Around)(outer:List Env)(s:Shared)(H:Hp)(E:XK)(hr:Room 2 (A.deeper (PyProof.Rows.envOfC "longest_chain" (z7 j9) s.heap.objs.size f cdv))) :
  ZB (z47 CX0 P w K mg base z1S "longest_chain" (z7 j9) f cdv A outer s H E).nox (y8 j9) z0M:=by
 have hu:=hr.units;have hu0:=hr.units0
 exact y6 (z7F (i:=3) (z3G (x3)) z06.nd)
   (y6 (z17 PassesOwn.never rfl (W6 (zsv 1)) (w8 (i:=4) z06.nd)
   (y6 (z52 (i:=5) ["chain","spans","tie","kind"] [none,some 0,some 4,some 2] rfl (x1W 3) (fun _ _ _ _ _=>w8 (i:=0) (show List.Nodup (["chain","spans","tie","kind"]:List Str) by decide +kernel)) (fun _ _ _ _ _=>z55 (z4L (Q2 (z2I T) hr (z8 (Q0 (K2 (zsv 1)) (Q0 (K2 (zsv 0)) (y8I (y9)))) (z8 (Q0 (K2 (zsv 1)) (zsv 2)) (z8 (zsv 3) (x3))))))) (fun _ _ _ _ _=>zsv 0) z06.nd)
   (x8 (y8C (i:=3) (z0T (z9D rfl T.b_max T.b_len (K2 (zsv 5)) (W7 (x3))) (W7 (z8 (zsv 4) (x3))))))))
   (x8 (u8 (z9D rfl T.b_max T.b_len (zqv 3) (W7 (x3))))))
theorem z71(T:Top K w mg):FnD P w K mg base 3 "longest_chain" ["spans","ties","kind"] z0Q :=
 z25 T.d_longest_chain z06 (fun _ _ _ _ _ _ us hl=>match us,hl with|[_,_,_],_=>rfl) rfl (z8M T)
theorem z1N:FnScope z6H ["web","row","kind"] (z7 Z6):=⟨rfl,rfl,rfl,by decide +kernel,rfl,by decide +kernel,by decide +kernel⟩
theorem y80(T:Top K w mg)(f:Addr)(cdv:Value)(A:Around)(outer:List Env)(s:Shared)(H:Hp)(E:XK)(hr:Room 4 (A.deeper (PyProof.Rows.envOfC "greatest" (z7 Z6) s.heap.objs.size f cdv))) :
  ZB (z47 CX0 P w K mg base z6H "greatest" (z7 Z6) f cdv A outer s H E).nox (y8 Z6) z46:=by
 have hu:=hr.units;have hu0:=hr.units0
 exact y6 (K9 (i:=3) (Q2 (z83 T) hr (z8 (zsv 0) (z8 (zsv 1) (x3)))) z1N.nd)
   (y6 (K9 (i:=4) (W7 (x3)) z1N.nd)
   (y6 (z17 PassesOwn.never rfl (z1Y T.b_range (y3M (Q0 (K2 (zsv 0)) (y9)) (y9))) (w8 (i:=5) z1N.nd)
   (x8 (K9 (i:=4) (y3P rfl T.b_max T.b_len (zsv 4) (Q2 (z71 T) hr (z8 (zsv 3) (z8 (Q2 (y29 T) hr (z8 (zsv 3) (z8 (zsv 5) (x3)))) (z8 (zsv 2) (x3)))))) z1N.nd)))
   (x8 (u8 (z54 T.b_tuple (w1Y (z60 T.b_sorted (K2 (zsv 4)))))))))
theorem y45(T:Top K w mg):FnD P w K mg base 5 "greatest" ["web","row","kind"] z4D :=
 z25 T.d_greatest z1N (fun _ _ _ _ _ _ us hl=>match us,hl with|[_,_,_],_=>rfl) rfl (y80 T)
theorem z3K:FnScope z50 ["_law_pairs","_law_some"] (z7 Y9):=⟨rfl,rfl,rfl,by decide +kernel,rfl,by decide +kernel,by decide +kernel⟩
theorem y4S(T:Top K w mg)(f:Addr)(cdv:Value)(A:Around)(outer:List Env)(s:Shared)(H:Hp)(E:XK)(hr:Room 0 (A.deeper (PyProof.Rows.envOfC "_law_clash" (z7 Y9) s.heap.objs.size f cdv))) :
  ZB (z47 CX0 P w K mg base z50 "_law_clash" (z7 Y9) f cdv A outer s H E).nox (y8 Y9) z2V:=by
 have hu:=hr.units;have hu0:=hr.units0
 exact y6 (z17 PassesOwn.never rfl (z7G T.b_enumerate (zsv 1)) (y08 rfl (z10 (w8 (i:=2) z3K.nd) (z10 (w8 (i:=3) z3K.nd) (z7H))))
   (x8 (z1E (z7E (y1M (Y1 ["_law_other","_law_one","_law_pairs"] [none,some 3,some 0] rfl (Z9 (W6 (z9C (zsv 1) (z2O (z0T (zsv 2) (y9))) (z53)))) (fun _ _ _ _ _=>w8 (i:=0) (show List.Nodup (["_law_other","_law_one","_law_pairs"]:List Str) by decide +kernel)) (fun _ _ _ _ _=>z55 (y3J hu (W7 (z8 (zsv 1) (z8 (zsv 0) (x3)))) (K2 (zsv 2)))) (fun _ _ _ _ _=>zsv 0))))
   (x8 (u8 (z2E)))
   (Z8))))
   (x8 (u8 (z2E)))
theorem z6Q(T:Top K w mg):FnD P w K mg base 1 "_law_clash" ["_law_pairs","_law_some"] z08 :=
 z25 T.d_law_clash z3K (fun _ _ _ _ _ _ us hl=>match us,hl with|[_,_],_=>rfl) rfl (y4S T)
theorem z0U:FnScope z4B ["_law_pairs","_law_chosen","_law_left"] (z7 Z3):=⟨rfl,rfl,rfl,by decide +kernel,rfl,by decide +kernel,by decide +kernel⟩
theorem y7Y(T:Top K w mg){j:Nat}{Fr:List D->Option D}(R:FnD P w K mg base j "_law_most" ["_law_pairs","_law_chosen","_law_left"] Fr)(hj:0≤j)(f:Addr)(cdv:Value)(A:Around)(outer:List Env)(s:Shared)(H:Hp)(E:XK)(hr:Room j (A.deeper (PyProof.Rows.envOfC "_law_most" (z7 Z3) s.heap.objs.size f cdv))) :
  ZB (z47 CX0 P w K mg base z4B "_law_most" (z7 Z3) f cdv A outer s H E).nox (y8 Z3) (z45 Fr):=by
 have hu:=hr.units;have hu0:=hr.units0
 exact y6 (K9 (i:=3) (z2P T.b_len (K2 (zsv 1))) z0U.nd)
   (y6 (z17 PassesOwn.never rfl (z7G T.b_enumerate (zsv 2)) (y08 rfl (z10 (w8 (i:=4) z0U.nd) (z10 (w8 (i:=5) z0U.nd) (z7H))))
   (x8 (z1E (z3F (z7E (y1M (Y1 ["_law_one","_law_tie","_law_pairs"] [none,some 5,some 0] rfl (Z9 (W6 (zsv 1))) (fun _ _ _ _ _=>w8 (i:=0) (show List.Nodup (["_law_one","_law_tie","_law_pairs"]:List Str) by decide +kernel)) (fun _ _ _ _ _=>z55 (y3J hu (W7 (z8 (zsv 0) (z8 (zsv 1) (x3)))) (K2 (zsv 2)))) (fun _ _ _ _ _=>zsv 0)))))
   (x8 (K9 (i:=3) (y0B rfl T.b_max (zsv 3) (Q2 R hr (z8 (zsv 0) (z8 (z61 (y3L (z7V (zsv 1)) (y1M (z3G (z8 (zsv 5) (x3)))))) (z8 (z9C (zsv 2) (z2O (z0T (zsv 4) (y9))) (z53)) (x3)))) (hjk:=by omega))) z0U.nd))
   (Z8))))
   (x8 (u8 (zsv 3))))
theorem z84(T:Top K w mg):∀n:Nat,FnD P w K mg base (0+1+n) "_law_most" ["_law_pairs","_law_chosen","_law_left"] (z0B n)
 | 0=>z25 (k:=0) T.d_law_most z0U (fun _ _ _ _ _ _ us hl=>match us,hl with|[_,_,_],_=>rfl) rfl (fun _ _ _ _ _ _ _ _=>x5E)
 | n+1=>z25 (k:=0+1+n) T.d_law_most z0U (fun _ _ _ _ _ _ us hl=>match us,hl with|[_,_,_],_=>rfl) rfl (y7Y T (z84 T n) (by omega))
theorem y3Y:FnScope z6G ["thing"] (z7 Z4):=⟨rfl,rfl,rfl,by decide +kernel,rfl,by decide +kernel,by decide +kernel⟩
theorem y7Z(T:Top K w mg)(f:Addr)(cdv:Value)(A:Around)(outer:List Env)(s:Shared)(H:Hp)(E:XK)(hr:Room 0 (A.deeper (PyProof.Rows.envOfC "is_whole" (z7 Z4) s.heap.objs.size f cdv))) :
  ZB (z47 CX0 P w K mg base z6G "is_whole" (z7 Z4) f cdv A outer s H E).nox (y8 Z4) z9X:=by
 have hu:=hr.units;have hu0:=hr.units0
 exact x8 (u8 (y3Q (z7U x7N T.b_isinstance T.b_int (zsv 0) (by decide +kernel)) (y3N (x5F (z7U y63 T.b_isinstance T.b_bool (zsv 0) (by decide +kernel))))))
theorem y44(T:Top K w mg):FnD P w K mg base 1 "is_whole" ["thing"] y06 :=
 z25 T.d_is_whole y3Y (fun _ _ _ _ _ _ us hl=>match us,hl with|[_],_=>rfl) rfl (y7Z T)
theorem z70:FnScope z1T ["web","thing"] (z7 g4):=⟨rfl,rfl,rfl,by decide +kernel,rfl,by decide +kernel,by decide +kernel⟩
theorem z8N(T:Top K w mg)(f:Addr)(cdv:Value)(A:Around)(outer:List Env)(s:Shared)(H:Hp)(E:XK)(hr:Room 1 (A.deeper (PyProof.Rows.envOfC "is_tie_number" (z7 g4) s.heap.objs.size f cdv))) :
  ZB (z47 CX0 P w K mg base z1T "is_tie_number" (z7 g4) f cdv A outer s H E).nox (y8 g4) z0N:=by
 have hu:=hr.units;have hu0:=hr.units0;exact x8 (u8 (y3Q (Q2 (y44 T) hr (z8 (zsv 1) (x3))) (y3N (y8J x75 z2H y0R z2H (y9) (zsv 1) (z2P T.b_len (K2 (Q0 (K2 (zsv 0)) (y9))))))))
theorem z72(T:Top K w mg):FnD P w K mg base 2 "is_tie_number" ["web","thing"] z0R :=
 z25 T.d_is_tie_number z70 (fun _ _ _ _ _ _ us hl=>match us,hl with|[_,_],_=>rfl) rfl (z8N T)
theorem y0J:FnScope z3T ["things"] (z7 Q5):=⟨rfl,rfl,rfl,by decide +kernel,rfl,by decide +kernel,by decide +kernel⟩
theorem y3B(T:Top K w mg)(f:Addr)(cdv:Value)(A:Around)(outer:List Env)(s:Shared)(H:Hp)(E:XK)(hr:Room 0 (A.deeper (PyProof.Rows.envOfC "are_rising" (z7 Q5) s.heap.objs.size f cdv))) :
  ZB (z47 CX0 P w K mg base z3T "are_rising" (z7 Q5) f cdv A outer s H E).nox (y8 Q5) z6T:=by
 have hu:=hr.units;have hu0:=hr.units0
 exact x8 (u8 (y3R rfl T.b_all (Y1 ["k","things"] [none,some 0] rfl (Z9 (z1Y T.b_range (y3M (z2P T.b_len (K2 (zsv 0))) (y9)))) (fun _ _ _ _ _=>w8 (i:=0) (show List.Nodup (["k","things"]:List Str) by decide +kernel)) (fun _ _ _ _ _=>z6L) (fun _ _ _ _ _=>x8P hu0 (Q0 (K2 (zsv 1)) (zsv 0)) (Q0 (K2 (zsv 1)) (z0T (zsv 0) (y9)))))))
theorem y0S(T:Top K w mg):FnD P w K mg base 1 "are_rising" ["things"] z3V :=
 z25 T.d_are_rising y0J (fun _ _ _ _ _ _ us hl=>match us,hl with|[_],_=>rfl) rfl (y3B T)
theorem z5B:FnScope z0X ["web","thing"] (z7 u9):=⟨rfl,rfl,rfl,by decide +kernel,rfl,by decide +kernel,by decide +kernel⟩
theorem z6C(T:Top K w mg)(f:Addr)(cdv:Value)(A:Around)(outer:List Env)(s:Shared)(H:Hp)(E:XK)(hr:Room 2 (A.deeper (PyProof.Rows.envOfC "are_tie_numbers" (z7 u9) s.heap.objs.size f cdv))) :
  ZB (z47 CX0 P w K mg base z0X "are_tie_numbers" (z7 u9) f cdv A outer s H E).nox (y8 u9) K8:=by
 have hu:=hr.units;have hu0:=hr.units0
 exact y6 (z1E (z3F (z4L (z7U y2M T.b_isinstance T.b_tuple (zsv 1) (by decide +kernel))))
   (x8 (u8 (z2E)))
   (Z8))
   (x8 (u8 (y3Q (y3R rfl T.b_all (Y1 ["tie","web"] [none,some 0] rfl (Z9 (W6 (zsv 1))) (fun _ _ _ _ _=>w8 (i:=0) (show List.Nodup (["tie","web"]:List Str) by decide +kernel)) (fun _ _ _ _ _=>z6L) (fun _ _ _ _ _=>Q2 (z72 T) hr (z8 (zsv 1) (z8 (zsv 0) (x3)))))) (y3N (Q2 (y0S T) hr (z8 (zsv 1) (x3)))))))
theorem z5E(T:Top K w mg):FnD P w K mg base 3 "are_tie_numbers" ["web","thing"] J4 :=
 z25 T.d_are_tie_numbers z5B (fun _ _ _ _ _ _ us hl=>match us,hl with|[_,_],_=>rfl) rfl (z6C T)
theorem z0E:FnScope z2D ["web","row","kind","thing"] (z7 J5):=⟨rfl,rfl,rfl,by decide +kernel,rfl,by decide +kernel,by decide +kernel⟩
theorem z99(T:Top K w mg)(f:Addr)(cdv:Value)(A:Around)(outer:List Env)(s:Shared)(H:Hp)(E:XK)(hr:Room 3 (A.deeper (PyProof.Rows.envOfC "are_clashing" (z7 J5) s.heap.objs.size f cdv))) :
  ZB (z47 CX0 P w K mg base z2D "are_clashing" (z7 J5) f cdv A outer s H E).nox (y8 J5) Q9:=by
 have hu:=hr.units;have hu0:=hr.units0
 exact y6 (z1E (z3F (z4L (Q2 (z5E T) hr (z8 (zsv 0) (z8 (zsv 3) (x3))))))
   (x8 (u8 (z2E)))
   (Z8))
   (y6 (K9 (i:=4) (Q2 (z83 T) hr (z8 (zsv 0) (z8 (zsv 1) (x3)))) z0E.nd)
   (y6 (z17 PassesOwn.never rfl (z7G T.b_enumerate (zsv 3)) (y08 rfl (z10 (w8 (i:=5) z0E.nd) (z10 (w8 (i:=6) z0E.nd) (z7H))))
   (x8 (z1E (z3F (z4L (y3R rfl T.b_all (Y1 ["other","spans","tie","kind"] [none,some 4,some 6,some 2] rfl (Z9 (W6 (z9C (zsv 3) (z2O (z0T (zsv 5) (y9))) (z53)))) (fun _ _ _ _ _=>w8 (i:=0) (show List.Nodup (["other","spans","tie","kind"]:List Str) by decide +kernel)) (fun _ _ _ _ _=>z6L) (fun _ _ _ _ _=>Q2 (z2I T) hr (z8 (Q0 (K2 (zsv 1)) (zsv 2)) (z8 (Q0 (K2 (zsv 1)) (zsv 0)) (z8 (zsv 3) (x3)))))))))
   (x8 (u8 (z2E)))
   (Z8))))
   (x8 (u8 (z2E)))))
theorem z3L(T:Top K w mg):FnD P w K mg base 4 "are_clashing" ["web","row","kind","thing"] J8 :=
 z25 T.d_are_clashing z0E (fun _ _ _ _ _ _ us hl=>match us,hl with|[_,_,_,_],_=>rfl) rfl (z99 T)
theorem z39:FnScope x8G ["_law_script"] (z7 z81):=⟨rfl,rfl,rfl,by decide +kernel,rfl,by decide +kernel,by decide +kernel⟩
theorem w3H(T:Top K w mg)(f:Addr)(cdv:Value)(A:Around)(outer:List Env)(s:Shared)(H:Hp)(E:XK)(hr:Room 13 (A.deeper (PyProof.Rows.envOfC "law" (z7 z81) s.heap.objs.size f cdv))) :
  ZB (z47 CX0 P w K mg base x8G "law" (z7 z81) f cdv A outer s H E).nox (y8 z81) x3P:=by
 have hu:=hr.units;have hu0:=hr.units0
 exact y6 (z17 PassesOwn.never rfl (W6 (z9C (zsv 0) (z53) (z2O (y9)))) (w8 (i:=1) z39.nd)
   (y6 (K9 (i:=2) (Q2 (y77 T) hr (z8 (zsv 1) (z8 (y9) (z8 (y9) (x3))))) z39.nd)
   (y6 (K9 (i:=3) (Q2 (y78 T) hr (z8 (x5G (zsv 1) (y9)) (z8 (Q0 (K2 (zsv 2)) (y9)) (x3)))) z39.nd)
   (y6 (K9 (i:=4) (z2P T.b_len (K2 (Q0 (K2 (zsv 2)) (y9)))) z39.nd)
   (x8 (z17 PassesOwn.never rfl (W6 (W7 (z8 (z0D) (z8 (z0D) (x3))))) (w8 (i:=5) z39.nd)
   (y6 (K9 (i:=6) (Q2 (z93 T) hr (z8 (zsv 2) (z8 (zsv 3) (z8 (zsv 5) (x3))))) z39.nd)
   (y6 (K9 (i:=7) (Q2 (y45 T) hr (z8 (zsv 2) (z8 (zsv 3) (z8 (zsv 5) (x3))))) z39.nd)
   (y6 (z1E (y3I (z9B (z3F (z4L (z7U y2M T.b_isinstance T.b_tuple (zsv 7) (by decide +kernel)))) (z9B (y4Y hu (z61 (y50 T.b_list (K2 (zsv 7)))) (z61 (y3K rfl T.b_sorted T.b_set (K2 (zsv 7))))) (z7S (z3F (z4L (Q2 (z6Q T) hr (z8 (zsv 6) (z8 (zsv 7) (x3))))))))))
   (x8 (u8 (z2E)))
   (Z8))
   (y6 (z1E (y3I (z9B (z7E (y1M (Y1 ["_law_tie","_law_size"] [none,some 4] rfl (Z9 (W6 (zsv 7))) (fun _ _ _ _ _=>w8 (i:=0) (show List.Nodup (["_law_tie","_law_size"]:List Str) by decide +kernel)) (fun _ _ _ _ _=>z55 (z3F (z51 x75 z2H y0R z2H (y9) (zsv 0) (zsv 1)))) (fun _ _ _ _ _=>zsv 0)))) (z7S (y4Y hu (z2P T.b_len (K2 (zsv 7))) (Q2 (z84 T 12) hr (z8 (zsv 6) (z8 (z61 (z3G (x3))) (z8 (z61 (z7T rfl T.b_list T.b_range (zsv 4))) (x3)))))))))
   (x8 (u8 (z2E)))
   (Z8))
   (y6 (z52 (i:=8) ["_law_more","_law_size"] [none,some 4] rfl (Z9 (W6 (z9C (zsv 0) (z2O (y9)) (z2O (y9))))) (fun _ _ _ _ _=>w8 (i:=0) (show List.Nodup (["_law_more","_law_size"]:List Str) by decide +kernel)) (fun _ _ _ _ _=>z6L) (fun _ _ _ _ _=>z54 T.b_tuple (w1Y (Y1 ["_law_tie","_law_more"] [none,some 0] rfl (Z9 (z1Y T.b_range (zsv 1))) (fun _ _ _ _ _=>w8 (i:=0) (show List.Nodup (["_law_tie","_law_more"]:List Str) by decide +kernel)) (fun _ _ _ _ _=>z55 (y4Z hu (Q2 (z1K T) hr (z8 (z0T (zsv 1) (zsv 0)) (z8 (y9) (z8 (y9) (x3))))) (y9))) (fun _ _ _ _ _=>zsv 0)))) z39.nd)
   (y6 (z17 PassesOwn.never rfl (W6 (z61 (y3L (y1M (y3L (z7V (zsv 8)) (y1M (z3G (z8 (zsv 7) (x3)))))) (y1M (Y1 ["_law_pair"] [none] rfl (Z9 (W6 (z9C (zsv 6) (z53) (z2O (y9))))) (fun _ _ _ _ _=>w8 (i:=0) (show List.Nodup (["_law_pair"]:List Str) by decide +kernel)) (fun _ _ _ _ _=>z6L) (fun _ _ _ _ _=>z54 T.b_tuple (K2 (zsv 0)))))))) (w8 (i:=9) z39.nd)
   (y6 (K9 (i:=10) (Q2 (z3L T) hr (z8 (zsv 2) (z8 (zsv 3) (z8 (zsv 5) (z8 (zsv 9) (x3)))))) z39.nd)
   (x8 (z1E (y3I (z9B (z3F (z4L (z7U y63 T.b_isinstance T.b_bool (zsv 10) (by decide +kernel)))) (z7S (y4Y hu (zsv 10) (Q2 (z6Q T) hr (z8 (zsv 6) (z8 (zsv 9) (x3))))))))
   (x8 (u8 (z2E)))
   (Z8)))))
   (x8 (z17 PassesOwn.never rfl (W6 (z61 (z3G (z8 (z0T (zsv 7) (W7 (z8 (zsv 4) (x3)))) (z8 (W7 (z8 (y8I (y9)) (x3))) (z8 (W7 (z8 (y9) (z8 (y9) (x3)))) (z8 (z61 (y50 T.b_list (K2 (zsv 7)))) (z8 (y8H) (z8 (W7 (z8 (z0D) (x3))) (z8 (W7 (z8 (y8H) (x3))) (z8 (W7 (z8 (z2E) (z8 (y9) (x3)))) (x3)))))))))))) (w8 (i:=11) z39.nd)
   (x8 (z1E (x59 (Q2 (z3L T) hr (z8 (zsv 2) (z8 (zsv 3) (z8 (zsv 5) (z8 (zsv 11) (x3)))))) (z2E))
   (x8 (u8 (z2E)))
   (Z8)))))))))))))))))
   (x8 (u8 (z2E)))
theorem w1F(T:Top K w mg){f:Addr}{fd:FuncData}(G:Fun K "law" "law" z81 f fd):FnOk P w K mg base CX0 14 f fd ["_law_script"] (spD K y3F) :=
 x0Q G z39 (fun ds d e=>by
  unfold y3F dFn at e;split at e
  ·rename_i h;exact h
  ·cases e) (fun ds d e=>by
  unfold y3F dFn at e;split at e
  ·exact e
  ·cases e) fun cdv A outer s H E hr=>(w3H T f cdv A outer s H E hr).h
end
theorem all_mk{l:PySem.W.OpenLaw}{w:World}{K:PySem.W.Frag}{h:Heap}{mg:Str->Option Value}{fa:Addr}(X:K.In h)(G:h.Ns mainGlobals mg)(hfa:mg "law" = some (.ref fa)){f0:Addr}{od0 an0:Option Addr}{sl0:Array (Option Value)}{oc0 kV0 dc0 pm0 cd0 ct0:Value}{f1:Addr}{od1 an1:Option Addr}{sl1:Array (Option Value)}{oc1 kV1 dc1 pm1 cd1 ct1:Value}{f2:Addr}{od2 an2:Option Addr}{sl2:Array (Option Value)}{oc2 kV2 dc2 pm2 cd2 ct2:Value}{f3:Addr}{od3 an3:Option Addr}{sl3:Array (Option Value)}{oc3 kV3 dc3 pm3 cd3 ct3:Value}{f4:Addr}{od4 an4:Option Addr}{sl4:Array (Option Value)}{oc4 kV4 dc4 pm4 cd4 ct4:Value}{f5:Addr}{od5 an5:Option Addr}{sl5:Array (Option Value)}{oc5 kV5 dc5 pm5 cd5 ct5:Value}{f6:Addr}{od6 an6:Option Addr}{sl6:Array (Option Value)}{oc6 kV6 dc6 pm6 cd6 ct6:Value}{f7:Addr}{od7 an7:Option Addr}{sl7:Array (Option Value)}{oc7 kV7 dc7 pm7 cd7 ct7:Value}{f8:Addr}{od8 an8:Option Addr}{sl8:Array (Option Value)}{oc8 kV8 dc8 pm8 cd8 ct8:Value}{f9:Addr}{od9 an9:Option Addr}{sl9:Array (Option Value)}{oc9 kV9 dc9 pm9 cd9 ct9:Value}{f10:Addr}{od10 an10:Option Addr}{sl10:Array (Option Value)}{oc10 kV10 dc10 pm10 cd10 ct10:Value}{f11:Addr}{od11 an11:Option Addr}{sl11:Array (Option Value)}{oc11 kV11 dc11 pm11 cd11 ct11:Value}{f12:Addr}{od12 an12:Option Addr}{sl12:Array (Option Value)}{oc12 kV12 dc12 pm12 cd12 ct12:Value}{f13:Addr}{od13 an13:Option Addr}{sl13:Array (Option Value)}{oc13 kV13 dc13 pm13 cd13 ct13:Value}{f14:Addr}{od14 an14:Option Addr}{sl14:Array (Option Value)}{oc14 kV14 dc14 pm14 cd14 ct14:Value}{f15:Addr}{od15 an15:Option Addr}{sl15:Array (Option Value)}{oc15 kV15 dc15 pm15 cd15 ct15:Value}{f16:Addr}{od16 an16:Option Addr}{sl16:Array (Option Value)}{oc16 kV16 dc16 pm16 cd16 ct16:Value}{f17:Addr}{od17 an17:Option Addr}{sl17:Array (Option Value)}{oc17 kV17 dc17 pm17 cd17 ct17:Value}{f18:Addr}{od18 an18:Option Addr}{sl18:Array (Option Value)}{oc18 kV18 dc18 pm18 cd18 ct18:Value}{f19:Addr}{od19 an19:Option Addr}{sl19:Array (Option Value)}{oc19 kV19 dc19 pm19 cd19 ct19:Value}{f20:Addr}{od20 an20:Option Addr}{sl20:Array (Option Value)}{oc20 kV20 dc20 pm20 cd20 ct20:Value}{f21:Addr}{od21 an21:Option Addr}{sl21:Array (Option Value)}{oc21 kV21 dc21 pm21 cd21 ct21:Value}{ta_CLASHING:Addr}{te_CLASHING:Array DictEntry}{tn_CLASHING:Nat}{tt_CLASHING_0 tt_CLASHING_1:Tok}(a0:PySem.W.nsIn K mainGlobals "_law_mix" = some (some (.ref f0)))(l0:K.lookup f0=some ⟨oc0,od0,.func (PySem.W.fnOf "_law_mix" "_law_mix" (j8 z0I) (y8 z0I) (z7 z0I) .none kV0 dc0 pm0 an0 cd0 ct0),sl0⟩)(c0:PySem.W.codeIn K cd0 "_law_mix" = true)(k0:PySem.W.keepIn K (.ref f0)=true)(a1:PySem.W.nsIn K mainGlobals "_law_web" = some (some (.ref f1)))(l1:K.lookup f1=some ⟨oc1,od1,.func (PySem.W.fnOf "_law_web" "_law_web" (j8 z0G) (y8 z0G) (z7 z0G) .none kV1 dc1 pm1 an1 cd1 ct1),sl1⟩)(c1:PySem.W.codeIn K cd1 "_law_web" = true)(k1:PySem.W.keepIn K (.ref f1)=true)(a2:PySem.W.nsIn K mainGlobals "_law_row" = some (some (.ref f2)))(l2:K.lookup f2=some ⟨oc2,od2,.func (PySem.W.fnOf "_law_row" "_law_row" (j8 z0H) (y8 z0H) (z7 z0H) .none kV2 dc2 pm2 an2 cd2 ct2),sl2⟩)(c2:PySem.W.codeIn K cd2 "_law_row" = true)(k2:PySem.W.keepIn K (.ref f2)=true)(a3:PySem.W.nsIn K mainGlobals "_law_how" = some (some (.ref f3)))(l3:K.lookup f3=some ⟨oc3,od3,.func (PySem.W.fnOf "_law_how" "_law_how" (j8 z0J) (y8 z0J) (z7 z0J) .none kV3 dc3 pm3 an3 cd3 ct3),sl3⟩)(c3:PySem.W.codeIn K cd3 "_law_how" = true)(k3:PySem.W.keepIn K (.ref f3)=true)(a4:PySem.W.nsIn K mainGlobals "_law_clashes" = some (some (.ref f4)))(l4:K.lookup f4=some ⟨oc4,od4,.func (PySem.W.fnOf "_law_clashes" "_law_clashes" (j8 K4) (y8 K4) (z7 K4) .none kV4 dc4 pm4 an4 cd4 ct4),sl4⟩)(c4:PySem.W.codeIn K cd4 "_law_clashes" = true)(k4:PySem.W.keepIn K (.ref f4)=true)(a5:PySem.W.nsIn K mainGlobals "spots_of" = some (some (.ref f5)))(l5:K.lookup f5=some ⟨oc5,od5,.func (PySem.W.fnOf "spots_of" "spots_of" (j8 Z0) (y8 Z0) (z7 Z0) .none kV5 dc5 pm5 an5 cd5 ct5),sl5⟩)(c5:PySem.W.codeIn K cd5 "spots_of" = true)(k5:PySem.W.keepIn K (.ref f5)=true)(a6:PySem.W.nsIn K mainGlobals "rising_pair" = some (some (.ref f6)))(l6:K.lookup f6=some ⟨oc6,od6,.func (PySem.W.fnOf "rising_pair" "rising_pair" (j8 K3) (y8 K3) (z7 K3) .none kV6 dc6 pm6 an6 cd6 ct6),sl6⟩)(c6:PySem.W.codeIn K cd6 "rising_pair" = true)(k6:PySem.W.keepIn K (.ref f6)=true)(a7:PySem.W.nsIn K mainGlobals "span_of" = some (some (.ref f7)))(l7:K.lookup f7=some ⟨oc7,od7,.func (PySem.W.fnOf "span_of" "span_of" (j8 z0F) (y8 z0F) (z7 z0F) .none kV7 dc7 pm7 an7 cd7 ct7),sl7⟩)(c7:PySem.W.codeIn K cd7 "span_of" = true)(k7:PySem.W.keepIn K (.ref f7)=true)(a8:PySem.W.nsIn K mainGlobals "spans_of" = some (some (.ref f8)))(l8:K.lookup f8=some ⟨oc8,od8,.func (PySem.W.fnOf "spans_of" "spans_of" (j8 Z1) (y8 Z1) (z7 Z1) .none kV8 dc8 pm8 an8 cd8 ct8),sl8⟩)(c8:PySem.W.codeIn K cd8 "spans_of" = true)(k8:PySem.W.keepIn K (.ref f8)=true)(a9:PySem.W.nsIn K mainGlobals "ties_over" = some (some (.ref f9)))(l9:K.lookup f9=some ⟨oc9,od9,.func (PySem.W.fnOf "ties_over" "ties_over" (j8 Y8) (y8 Y8) (z7 Y8) .none kV9 dc9 pm9 an9 cd9 ct9),sl9⟩)(c9:PySem.W.codeIn K cd9 "ties_over" = true)(k9:PySem.W.keepIn K (.ref f9)=true)(m9:z94 K cd9 "ties_over" = true)(a10:PySem.W.nsIn K mainGlobals "how_spans_lie" = some (some (.ref f10)))(l10:K.lookup f10=some ⟨oc10,od10,.func (PySem.W.fnOf "how_spans_lie" "how_spans_lie" (j8 g6) (y8 g6) (z7 g6) .none kV10 dc10 pm10 an10 cd10 ct10),sl10⟩)(c10:PySem.W.codeIn K cd10 "how_spans_lie" = true)(k10:PySem.W.keepIn K (.ref f10)=true)(a11:PySem.W.nsIn K mainGlobals "do_spans_clash" = some (some (.ref f11)))(l11:K.lookup f11=some ⟨oc11,od11,.func (PySem.W.fnOf "do_spans_clash" "do_spans_clash" (j8 j5) (y8 j5) (z7 j5) .none kV11 dc11 pm11 an11 cd11 ct11),sl11⟩)(c11:PySem.W.codeIn K cd11 "do_spans_clash" = true)(k11:PySem.W.keepIn K (.ref f11)=true)(a12:PySem.W.nsIn K mainGlobals "longest_chain" = some (some (.ref f12)))(l12:K.lookup f12=some ⟨oc12,od12,.func (PySem.W.fnOf "longest_chain" "longest_chain" (j8 j9) (y8 j9) (z7 j9) .none kV12 dc12 pm12 an12 cd12 ct12),sl12⟩)(c12:PySem.W.codeIn K cd12 "longest_chain" = true)(k12:PySem.W.keepIn K (.ref f12)=true)(a13:PySem.W.nsIn K mainGlobals "greatest" = some (some (.ref f13)))(l13:K.lookup f13=some ⟨oc13,od13,.func (PySem.W.fnOf "greatest" "greatest" (j8 Z6) (y8 Z6) (z7 Z6) .none kV13 dc13 pm13 an13 cd13 ct13),sl13⟩)(c13:PySem.W.codeIn K cd13 "greatest" = true)(k13:PySem.W.keepIn K (.ref f13)=true)(a14:PySem.W.nsIn K mainGlobals "_law_clash" = some (some (.ref f14)))(l14:K.lookup f14=some ⟨oc14,od14,.func (PySem.W.fnOf "_law_clash" "_law_clash" (j8 Y9) (y8 Y9) (z7 Y9) .none kV14 dc14 pm14 an14 cd14 ct14),sl14⟩)(c14:PySem.W.codeIn K cd14 "_law_clash" = true)(k14:PySem.W.keepIn K (.ref f14)=true)(a15:PySem.W.nsIn K mainGlobals "_law_most" = some (some (.ref f15)))(l15:K.lookup f15=some ⟨oc15,od15,.func (PySem.W.fnOf "_law_most" "_law_most" (j8 Z3) (y8 Z3) (z7 Z3) .none kV15 dc15 pm15 an15 cd15 ct15),sl15⟩)(c15:PySem.W.codeIn K cd15 "_law_most" = true)(k15:PySem.W.keepIn K (.ref f15)=true)(a16:PySem.W.nsIn K mainGlobals "is_whole" = some (some (.ref f16)))(l16:K.lookup f16=some ⟨oc16,od16,.func (PySem.W.fnOf "is_whole" "is_whole" (j8 Z4) (y8 Z4) (z7 Z4) .none kV16 dc16 pm16 an16 cd16 ct16),sl16⟩)(c16:PySem.W.codeIn K cd16 "is_whole" = true)(k16:PySem.W.keepIn K (.ref f16)=true)(a17:PySem.W.nsIn K mainGlobals "is_tie_number" = some (some (.ref f17)))(l17:K.lookup f17=some ⟨oc17,od17,.func (PySem.W.fnOf "is_tie_number" "is_tie_number" (j8 g4) (y8 g4) (z7 g4) .none kV17 dc17 pm17 an17 cd17 ct17),sl17⟩)(c17:PySem.W.codeIn K cd17 "is_tie_number" = true)(k17:PySem.W.keepIn K (.ref f17)=true)(a18:PySem.W.nsIn K mainGlobals "are_rising" = some (some (.ref f18)))(l18:K.lookup f18=some ⟨oc18,od18,.func (PySem.W.fnOf "are_rising" "are_rising" (j8 Q5) (y8 Q5) (z7 Q5) .none kV18 dc18 pm18 an18 cd18 ct18),sl18⟩)(c18:PySem.W.codeIn K cd18 "are_rising" = true)(k18:PySem.W.keepIn K (.ref f18)=true)(a19:PySem.W.nsIn K mainGlobals "are_tie_numbers" = some (some (.ref f19)))(l19:K.lookup f19=some ⟨oc19,od19,.func (PySem.W.fnOf "are_tie_numbers" "are_tie_numbers" (j8 u9) (y8 u9) (z7 u9) .none kV19 dc19 pm19 an19 cd19 ct19),sl19⟩)(c19:PySem.W.codeIn K cd19 "are_tie_numbers" = true)(k19:PySem.W.keepIn K (.ref f19)=true)(a20:PySem.W.nsIn K mainGlobals "are_clashing" = some (some (.ref f20)))(l20:K.lookup f20=some ⟨oc20,od20,.func (PySem.W.fnOf "are_clashing" "are_clashing" (j8 J5) (y8 J5) (z7 J5) .none kV20 dc20 pm20 an20 cd20 ct20),sl20⟩)(c20:PySem.W.codeIn K cd20 "are_clashing" = true)(k20:PySem.W.keepIn K (.ref f20)=true)(a21:PySem.W.nsIn K mainGlobals "law" = some (some (.ref f21)))(l21:K.lookup f21=some ⟨oc21,od21,.func (PySem.W.fnOf "law" "law" (j8 z81) (y8 z81) (z7 z81) .none kV21 dc21 pm21 an21 cd21 ct21),sl21⟩)(c21:PySem.W.codeIn K cd21 "law" = true)(k21:PySem.W.keepIn K (.ref f21)=true)(z_all:PySem.W.nsIn K mainGlobals "all" = some none)(z_bool:PySem.W.nsIn K mainGlobals "bool" = some none)(z_enumerate:PySem.W.nsIn K mainGlobals "enumerate" = some none)(z_int:PySem.W.nsIn K mainGlobals "int" = some none)(z_isinstance:PySem.W.nsIn K mainGlobals "isinstance" = some none)(z_len:PySem.W.nsIn K mainGlobals "len" = some none)(z_list:PySem.W.nsIn K mainGlobals "list" = some none)(z_max:PySem.W.nsIn K mainGlobals "max" = some none)(z_min:PySem.W.nsIn K mainGlobals "min" = some none)(z_range:PySem.W.nsIn K mainGlobals "range" = some none)(z_set:PySem.W.nsIn K mainGlobals "set" = some none)(z_sorted:PySem.W.nsIn K mainGlobals "sorted" = some none)(z_tuple:PySem.W.nsIn K mainGlobals "tuple" = some none)(x_CLASHING:PySem.W.nsIn K mainGlobals "CLASHING" = some (some (.ref ta_CLASHING)))(y_CLASHING:K.lookup ta_CLASHING=some ⟨.type "dict",none,.dict te_CLASHING tn_CLASHING,#[]⟩)(k_CLASHING:PySem.W.KeysLit w.params te_CLASHING.toList)(v_CLASHING_0:PySem.W.nsIn K ta_CLASHING "pile" = some (some (.str "cross" tt_CLASHING_0)))(v_CLASHING_1:PySem.W.nsIn K ta_CLASHING "queue" = some (some (.str "within" tt_CLASHING_1))) :
    ∃fd:FuncData,(∀(s:Shared) (v:Value),BindsTo s fd ⟨[v],[]⟩ [("_law_script",v)])/\∀base:Heap,K.In base->base.Ns mainGlobals mg->FnOk l.prog w K mg base CX0 14 fa fd ["_law_script"] (spD K y3F):=by
  have e:=hfa.symm.trans (PySem.W.mg_of X G a21)
  cases e
  have T:Top K w mg :=
    { d_law_mix:=⟨_,_,W8 (st:=z0I) l0 c0 k0,PySem.W.mg_of X G a0⟩
      d_law_web:=⟨_,_,W8 (st:=z0G) l1 c1 k1,PySem.W.mg_of X G a1⟩
      d_law_row:=⟨_,_,W8 (st:=z0H) l2 c2 k2,PySem.W.mg_of X G a2⟩
      d_law_how:=⟨_,_,W8 (st:=z0J) l3 c3 k3,PySem.W.mg_of X G a3⟩
      d_law_clashes:=⟨_,_,W8 (st:=K4) l4 c4 k4,PySem.W.mg_of X G a4⟩
      d_spots_of:=⟨_,_,W8 (st:=Z0) l5 c5 k5,PySem.W.mg_of X G a5⟩
      d_rising_pair:=⟨_,_,W8 (st:=K3) l6 c6 k6,PySem.W.mg_of X G a6⟩
      d_span_of:=⟨_,_,W8 (st:=z0F) l7 c7 k7,PySem.W.mg_of X G a7⟩
      d_spans_of:=⟨_,_,W8 (st:=Z1) l8 c8 k8,PySem.W.mg_of X G a8⟩
      d_ties_over:=⟨_,_,W8 (st:=Y8) l9 c9 k9,PySem.W.mg_of X G a9,m9⟩
      d_how_spans_lie:=⟨_,_,W8 (st:=g6) l10 c10 k10,PySem.W.mg_of X G a10⟩
      d_do_spans_clash:=⟨_,_,W8 (st:=j5) l11 c11 k11,PySem.W.mg_of X G a11⟩
      d_longest_chain:=⟨_,_,W8 (st:=j9) l12 c12 k12,PySem.W.mg_of X G a12⟩
      d_greatest:=⟨_,_,W8 (st:=Z6) l13 c13 k13,PySem.W.mg_of X G a13⟩
      d_law_clash:=⟨_,_,W8 (st:=Y9) l14 c14 k14,PySem.W.mg_of X G a14⟩
      d_law_most:=⟨_,_,W8 (st:=Z3) l15 c15 k15,PySem.W.mg_of X G a15⟩
      d_is_whole:=⟨_,_,W8 (st:=Z4) l16 c16 k16,PySem.W.mg_of X G a16⟩
      d_is_tie_number:=⟨_,_,W8 (st:=g4) l17 c17 k17,PySem.W.mg_of X G a17⟩
      d_are_rising:=⟨_,_,W8 (st:=Q5) l18 c18 k18,PySem.W.mg_of X G a18⟩
      d_are_tie_numbers:=⟨_,_,W8 (st:=u9) l19 c19 k19,PySem.W.mg_of X G a19⟩
      d_are_clashing:=⟨_,_,W8 (st:=J5) l20 c20 k20,PySem.W.mg_of X G a20⟩
      d_law:=⟨_,_,W8 (st:=z81) l21 c21 k21,PySem.W.mg_of X G a21⟩
      b_all:=PySem.W.mg_none_of X G z_all
      b_bool:=PySem.W.mg_none_of X G z_bool
      b_enumerate:=PySem.W.mg_none_of X G z_enumerate
      b_int:=PySem.W.mg_none_of X G z_int
      b_isinstance:=PySem.W.mg_none_of X G z_isinstance
      b_len:=PySem.W.mg_none_of X G z_len
      b_list:=PySem.W.mg_none_of X G z_list
      b_max:=PySem.W.mg_none_of X G z_max
      b_min:=PySem.W.mg_none_of X G z_min
      b_range:=PySem.W.mg_none_of X G z_range
      b_set:=PySem.W.mg_none_of X G z_set
      b_sorted:=PySem.W.mg_none_of X G z_sorted
      b_tuple:=PySem.W.mg_none_of X G z_tuple
      x_bm:=⟨trivial⟩
      x_CLASHING:=⟨_,PySem.W.mg_of X G x_CLASHING,_,_,y_CLASHING,k_CLASHING,by
        intro kv hkv
        simp only[List.mem_cons,List.not_mem_nil,or_false]at hkv
        rcases hkv with rfl|rfl
        · exact⟨_,v_CLASHING_0⟩
        · exact⟨_,v_CLASHING_1⟩⟩ }
  exact⟨_,fun s v=>.of_eq rfl,fun base _ _=>w1F T (W8 (st:=z81) l21 c21 k21)⟩
theorem walk{l:PySem.W.OpenLaw}{q:Program}{loose:List Str}{XP:(Str->Option Value)->Heap->Prop}{YP:World->Heap->Prop}{d:DefRec}{K:Params->PySem.W.Frag}(hn:l.most=some 63)(hdf:d.params.defaults=[])(hY:∀(w:World) (h:Heap),YP w h->(K w.params).In h)(hT:∀(w:World) (h:Heap),YP w h->∀P q,([(69,"ties_over")]:List (Addr×Str)).lookup P=some q->h.get? P=some { cls:=.none,data:=.fields #[] })(hK:∀w:World,z7Y (K w.params) [(69,"ties_over")]=true)(hlaw:∀ns:List Int,ns.length≤63->y3F [.lst (ns.map D.int)]=some (.bl true))
  (F:∀(w:World) (mg:Str->Option Value) (fa:Addr) (h:Heap),(K w.params).In h->h.Ns mainGlobals mg->mg d.name=some (.ref fa) ->
   ∃fd:FuncData,(∀(s:Shared) (u:Value),BindsTo s fd ⟨[u],[]⟩ [("_law_script",u)])/\∀base:Heap,(K w.params).In base->base.Ns mainGlobals mg->FnOk l.prog w (K w.params) mg base CX0 14 fa fd ["_law_script"] (spD (K w.params) y3F)) :
  PySem.W.WalkO q loose XP YP l.row.toRowW d [] (fun f vs=>PySem.call f vs) :=
 x24 (n:=63) (k:=14) (x:="_law_script") (sp:=fun w=>spD (K w.params) y3F) [(69,"ties_over")] hn (by decide) hdf ⟨rfl,by decide,by decide⟩ hY hT hK F (fun w H a ns hl tb hS =>
  ⟨[],[.lst (ns.map D.int)],.bl true,⟨tb,fun z hz=>absurd hz (by simp)⟩,u7.one (j1.mpr ⟨a,ns.map V.int,rfl,by rw[x3M];exact hS,Q3.mpr rfl⟩),hlaw ns hl,fun v H' _ hv=>g8.mp hv⟩)
end P
namespace L3
open PySem L2
section
variable{ρ ρ':z9}{d e:D}{a b:Bool}{fa fb fc:z9->Option D}{ga gb:z9->Option Bool}{g k:z9->Option Out}{fl gl:z9->Option (List D)}{i:Nat}{o:Option Out}
theorem u0{r:Out}(h:g ρ=some (.nx ρ'))(h2:k ρ'=o):W5 g k ρ=o:=by unfold W5;rw[h];exact h2
theorem z2W(h:g ρ=some (.rt d)):W5 g k ρ=some (.rt d):=by unfold W5;rw[h]
theorem z1P(h:fa ρ=some d):z14 fa ρ=some (.rt d):=by unfold z14;rw[h]
theorem Y6(h:fa ρ=some d):z1B i fa ρ=some (.nx (ρ.set i (some (.sh d)))):=by unfold z1B;rw[h]
theorem y0Y{ds:List D}(h:fl ρ=some ds):y12 i fl ρ=some (.nx (ρ.set i (some (.ow ds)))):=by unfold y12;rw[h]
theorem Y4(h:ga ρ=some a):z4Y ga g k ρ=if a=true then g ρ else k ρ:=by unfold z4Y;rw[h];cases a<;>rfl
theorem y2U(h:fa ρ=some (.bl a))(h2:a=true->fb ρ=some (.bl b)):x53 fa fb ρ=some (.bl (a&&b)):=by
 unfold x53;rw[h];cases a with
 | true=>exact h2 rfl
 | false=>rfl
theorem J3(h:fa ρ=some (.bl a)):x9 fa ρ=some a:=by unfold x9;rw[h]
theorem x0W(h:ga ρ=some a)(h2:a=true->gb ρ=some b):z7A ga gb ρ=some (a&&b):=by
 unfold z7A;rw[h];cases a with
 | true=>exact h2 rfl
 | false=>rfl
theorem z9Y(h:ga ρ=some a)(h2:a=false->gb ρ=some b):y3G ga gb ρ=some (a||b):=by
 unfold y3G;rw[h];cases a with
 | true=>rfl
 | false=>exact h2 rfl
theorem z2A(h:ga ρ=some a):z1X ga ρ=some (!a):=by unfold z1X;rw[h];rfl
theorem w3A(h:ga ρ=some a):dIf ga fa fb ρ=if a=true then fa ρ else fb ρ:=by unfold dIf;rw[h];cases a<;>rfl
theorem z7P{f:D->D->Option D}{x y:D}(h:fa ρ=some x)(h2:fb ρ=some y):d2 f fa fb ρ=f x y:=by unfold d2;rw[h,h2]
theorem z5Q{f f':D->D->Option D}{x y z:D}(h:fa ρ=some x)(h2:fb ρ=some y)(h3:f x y=some (.bl a))(h4:a=true->fc ρ=some z)(h5:a=true->f' y z=some (.bl b)):z0P f f' fa fb fc ρ=some (.bl (a&&b)):=by
 unfold z0P;rw[h,h2];dsimp only;rw[h3];cases a with
 | true=>dsimp only;rw[h4 rfl];exact h5 rfl
 | false=>rfl
theorem j3{ds:List D}(h:fa ρ=some d)(h2:fl ρ=some ds):z6 fa fl ρ=some (d::ds):=by unfold z6;rw[h,h2]
theorem u4{F:List D->Option D}{ds:List D}(h:fl ρ=some ds):w6 F fl ρ=F ds:=by unfold w6;rw[h]
theorem z6U{ds:List D}(h:fl ρ=some ds)(h2:ds.length≤LIM):z1Q fl ρ=some (.tup ds):=by unfold z1Q;rw[h];dsimp only;rw[if_pos h2]
theorem y6E{ds:List D}(h:fl ρ=some ds)(h2:ds.length≤LIM):y14 fl ρ=some ds:=by unfold y14;rw[h];dsimp only;rw[if_pos h2]
theorem z5O{ds:List D}(h:fl ρ=some ds):dLs fl ρ=some (.lst ds):=by unfold dLs;rw[h];rfl
theorem y2T{ds:List D}(h:fl ρ=some ds):z8Y fl ρ=some (.int ds.length):=by unfold z8Y;rw[h];rfl
theorem y0X{ds:List D}(h:fl ρ=some ds):z4F fl ρ=some (.tup ds):=by unfold z4F;rw[h];rfl
theorem w1R{T:String}(h:fa ρ=some d):y85 T fa ρ=some (.bl (y7E T d)):=by unfold y85;rw[h]
theorem x0X{ds:List D}{bs:List Bool}(h:fl ρ=some ds)(h2:z6B ds=some bs):x1S fl ρ=some (.bl (bs.all id)):=by unfold x1S;rw[h];dsimp only;rw[h2]
theorem z5N{ds:List D}(h:fa ρ=some (.tup ds)):dSq fa ρ=some ds:=by unfold dSq;rw[h]
theorem z3O{ds:List D}(h:fa ρ=some (.lst ds)):dSq fa ρ=some ds:=by unfold dSq;rw[h]
theorem z5P{ds:List D}{j:Int}(h:fl ρ=some ds)(h2:fa ρ=some (.int j)):dIx fl fa ρ=atI ds j:=by unfold dIx;rw[h,h2]
theorem x80{F:List D->Option (List D)}{ds:List D}(h:fl ρ=some ds):dQF F fl ρ=F ds:=by unfold dQF;rw[h]
theorem x0V{neg:Bool}{ds:List D}(h:fa ρ=some d)(h2:fl ρ=some ds)(h3:Y7 ds≤z1W)(h4:depth d≤z1W):dIn neg fa fl ρ=some (.bl (if neg=true then !inD d ds else inD d ds)):=by unfold dIn;rw[h,h2];dsimp only;rw[if_pos ⟨h3,h4⟩]
theorem x52{ds:List D}(h:z8X i ρ=some ds)(h2:fa ρ=some d)(h3:ds.length<LIM):x1R i fa ρ=some (.nx (ρ.set i (some (.ow (ds++[d]))))):=by unfold x1R;rw[h,h2];dsimp only;rw[if_pos h3]
theorem w1S{ds es:List D}(h:z8X i ρ=some ds)(h2:fl ρ=some es)(h3:ds.length+es.length≤LIM):x88 i fl ρ=some (.nx (ρ.set i (some (.ow (ds++es))))):=by unfold x88;rw[h,h2];dsimp only;rw[if_pos h3]
theorem z24{ds:List D}{h:D->z9->Option z9}(e:fl ρ=some ds):z98 fl h g ρ=z16 h g ds ρ:=by unfold z98;rw[e]
theorem z01{ds:List D}{cap:List (Option Nat)}{h:D->z9->Option z9}(e:fl ρ=some ds)(hl:ds.length≤LIM):J6 cap fl h ga fa ρ=z3R h ga fa (y1I cap ρ) ds:=by unfold J6;rw[e];dsimp only;rw[if_pos hl]
theorem x3T{ds:List D}{cap:List (Option Nat)}{h:D->z9->Option z9}{fe:z9->Option (D×z9)}(e:fl ρ=some ds)(hl:ds.length≤LIM):y03 cap fl h fe ρ=z30 h fe (y1I cap ρ) ds:=by unfold y03;rw[e];dsimp only;rw[if_pos hl]
theorem y2S{x:D}{lo hi:Option Int}{fo fh:z9->Option (Option Int)}(h:fa ρ=some x)(h1:fo ρ=some lo)(h2:fh ρ=some hi):z96 fa fo fh ρ=dSl x lo hi:=by unfold z96;rw[h,h1,h2]
theorem z4V{j:Int}(h:fa ρ=some (.int j))(h2:okR j=true):z1R fa ρ=some (J0 0 j.toNat):=by unfold z1R;rw[h];dsimp only;rw[if_pos h2]
theorem z9Z{j:Int}(h:fa ρ=some (.int j))(h1 : -(2 ^ 62)≤j)(h2:j≤100000):z1I fa ρ=some ((iUp 0 j.toNat).map D.int):=by unfold z1I;rw[h];dsimp only;rw[if_pos ⟨h1,h2⟩]
end
theorem z0A{h:D->z9->Option z9}{fe:z9->Option D}(I:z9->Prop)(y:D->D):∀(ds:List D) (ρ:z9),I ρ->(∀d∈ds,∀ρ,I ρ->∃ρ1,h d ρ=some ρ1/\I ρ1/\fe ρ1=some (y d))->z3R h z2B fe ρ ds=some (ds.map y)
 | [],_,_,_=>rfl
 | d::ds,ρ,hI,hs=>by
  obtain⟨ρ1,e1,I1,e2⟩:=hs d List.mem_cons_self ρ hI;unfold z3R;rw[e1];dsimp only[z2B];rw[e2];dsimp only
  rw[z0A I y ds ρ1 I1 fun d hd=>hs d (List.mem_cons_of_mem _ hd)]
  rfl
theorem J7{h:D->z9->Option z9}{ft:z9->Option Bool}{fe:z9->Option D}(I:z9->Prop)(t:D->Bool)(y:D->D):∀(ds:List D) (ρ:z9),I ρ->(∀d∈ds,∀ρ,I ρ->∃ρ1,h d ρ=some ρ1/\I ρ1/\ft ρ1=some (t d)/\(t d=true->fe ρ1=some (y d)))->z3R h ft fe ρ ds=some ((ds.filter t).map y)
 | [],_,_,_=>rfl
 | d::ds,ρ,hI,hs=>by
  obtain⟨ρ1,e1,I1,e2,e3⟩:=hs d List.mem_cons_self ρ hI
  have ih:=J7 I t y ds ρ1 I1 fun d hd=>hs d (List.mem_cons_of_mem _ hd)
  unfold z3R;rw[e1];dsimp only;rw[e2]
  cases ht:t d with
  | true =>
   dsimp only;rw[e3 ht,List.filter_cons_of_pos ht];dsimp only;rw[ih];rfl
  | false =>
   dsimp only
   rw[List.filter_cons_of_neg (by rw[ht];simp)]
   exact ih
theorem x03{h:D->z9->Option z9}{g:z9->Option Out}(I:List D->z9->Prop){all:List D}(hs:∀pre d post ρ,pre++d::post=all->I pre ρ->∃ρ1 ρ2,h d ρ=some ρ1/\(g ρ1=some (.nx ρ2)∨g ρ1=some (.ct ρ2))/\I (pre++[d]) ρ2) :
  ∀(ds pre:List D) (ρ:z9),pre++ds=all->I pre ρ->∃ρ',z16 h g ds ρ=some (.nx ρ')/\I all ρ'
 | [],pre,ρ,e,hI=>⟨ρ,rfl,by rw[←e,List.append_nil];exact hI⟩
 | d::ds,pre,ρ,e,hI=>by
  obtain⟨ρ1,ρ2,e1,e2,I2⟩:=hs pre d ds ρ e hI
  obtain⟨ρ',e3,I3⟩:=x03 I hs ds (pre++[d]) ρ2 (by rw[←e];simp) I2
  refine⟨ρ',?_,I3⟩
  unfold z16;rw[e1];dsimp only
  rcases e2 with e2|e2<;>(rw[e2];exact e3)
theorem z40{h:D->z9->Option z9}{g:z9->Option Out}(I:List D->z9->Prop){ds:List D}{ρ:z9}(h0:I [] ρ)(hs:∀pre d post ρ,pre++d::post=ds->I pre ρ->∃ρ1 ρ2,h d ρ=some ρ1/\(g ρ1=some (.nx ρ2)∨g ρ1=some (.ct ρ2))/\I (pre++[d]) ρ2) :
  ∃ρ',z16 h g ds ρ=some (.nx ρ')/\I ds ρ':=x03 I hs ds [] ρ rfl h0
theorem y0T{h:D->z9->Option z9}{g:z9->Option Out}(I:z9->Prop){ds:List D}{ρ:z9}(h0:I ρ)(hs:∀d∈ds,∀ρ,I ρ->∃ρ1 ρ2,h d ρ=some ρ1/\(g ρ1=some (.nx ρ2)∨g ρ1=some (.ct ρ2))/\I ρ2) :
  ∃ρ',z16 h g ds ρ=some (.nx ρ')/\I ρ':=z40 (fun _ ρ=>I ρ) h0 fun pre d post ρ e hI=>hs d (by rw[←e];simp) ρ hI
end L3
namespace P
open PySem L2 L3
theorem z8E{n k:Nat}(h:k<n):(J0 0 n)[k]?=some (.int (k:Int)):=by
 unfold J0;rw[List.getElem?_map,List.getElem?_range h];simp
theorem z03(lo:Int)(n:Nat):(J0 lo n).length=n:=by unfold J0;simp
theorem y2W{n:Nat}{d:D}(h:d∈J0 0 n):∃k:Nat,k<n/\d = .int (k:Int):=by
 unfold J0 at h;obtain⟨k,hk,rfl⟩:=List.mem_map.mp h
 exact⟨k,List.mem_range.mp hk,by simp⟩
def mix(c p m:Int):Int:=c*48271 % p % m
theorem w1B(c:Int){k:Int}(h:z4P k=true):y4I (.int c) (.int k)=some (.int (c*k)):=by
 unfold y4I x3X gIC;dsimp only
 rw[if_pos (by rw[h,Bool.or_true])]
theorem y9U(c:Int){k:Int}(h:z4P k=true):y4I (.int k) (.int c)=some (.int (k*c)):=by
 unfold y4I x3X gIC;dsimp only
 rw[if_pos (by rw[h,Bool.true_or])]
theorem y9X(c:Int){k:Int}(h:0<k):y13 (.int c) (.int k)=some (.int (c % k)):=by
 unfold y13 gIC;dsimp only;rw[if_pos (decide_eq_true h)]
theorem z0C(c:Int){p m:Int}(hp:0<p)(hm:0<m):K0 [.int c,.int p,.int m]=some (.int (mix c p m)):=by
 show z67 (z14 _ _)=_
 rw[z1P (d:=.int (mix c p m))]
 ·rfl
 ·exact (z7P (x:=.int (c*48271 % p)) (y:=.int m) ((z7P (x:=.int (c*48271)) (y:=.int p) ((z7P (x:=.int c) (y:=.int 48271) rfl rfl).trans (w1B c (by decide))) rfl).trans (y9X _ hp)) rfl).trans (y9X _ hm)
theorem y2D(c p:Int){m:Int}(h:0<m):0≤mix c p m:=Int.emod_nonneg _ (by omega)
theorem y2E(c p:Int){m:Int}(h:0<m):mix c p m<m:=Int.emod_lt_of_pos _ h
abbrev Tie:=Int×Int
def u3(t:Tie):D:=.tup [.int t.1,.int t.2]
theorem x89(s t:Tie):beq (u3 s) (u3 t)=decide (s=t):=by
 show (s.1==t.1&&(s.2==t.2&&true))=_
 rw[Bool.and_true];obtain⟨a,b⟩:=s;obtain⟨c,d⟩:=t;by_cases h1:a=c
 ·by_cases h2:b=d
  ·subst h1 h2;simp
  ·have:¬((a,b)=(c,d)):=fun z=>h2 (Prod.mk.inj z).2
   rw[decide_eq_false this];simp[h2]
 ·have:¬((a,b)=(c,d)):=fun z=>h1 (Prod.mk.inj z).1
  rw[decide_eq_false this];simp[h1]
theorem y4C(t:Tie):∀ts:List Tie,inD (u3 t) (ts.map u3)=decide (t∈ts)
 | []=>by simp[inD]
 | s::ts=>by
  have ih:=y4C t ts;unfold inD at ih ⊢;rw[List.map_cons,List.any_cons,ih,x89];by_cases h:s=t
  ·subst h;simp
  ·have h':¬t=s:=fun z=>h z.symm
   simp[h,h']
theorem z8G(t:Tie):depth (u3 t)=1:=by
 unfold u3;simp[depth,Y7]
theorem z4X:∀ts:List Tie,Y7 (ts.map u3)≤1
 | []=>by rw[List.map_nil,Y7];omega
 | t::ts=>by
  have:=z4X ts
  have h2:=z8G t;rw[List.map_cons,Y7];omega
def tlt(s t:Tie):Prop:=s.1<t.1∨(s.1=t.1/\s.2<t.2)
instance (s t:Tie):Decidable (tlt s t):=inferInstanceAs (Decidable (_∨_))
theorem z68(s t:Tie):HT.lexLt [s.1,s.2] [t.1,t.2]=decide (tlt s t):=by
 have key:HT.lexLt [s.1,s.2] [t.1,t.2]=true↔tlt s t:=by
  rw[HT.lexLt_cons];unfold tlt;by_cases h1:s.1=t.1
  ·rw[if_pos h1,HT.lexLt_cons];by_cases h2:s.2=t.2
   ·rw[if_pos h2,HT.lexLt_nil_nil]
    exact⟨fun z=>absurd z (by decide),fun z=>absurd z (by omega)⟩
   ·rw[if_neg h2,decide_eq_true_iff];omega
  ·rw[if_neg h1,decide_eq_true_iff];omega
 by_cases h:tlt s t
 ·rw[decide_eq_true h];exact key.mpr h
 ·rw[decide_eq_false h];exact Bool.eq_false_iff.mpr fun z=>h (key.mp z)
theorem z3I(s:Tie):¬tlt s s:=by unfold tlt;omega
theorem y1S{s t u:Tie}(h:tlt s t)(h':tlt t u):tlt s u:=by unfold tlt at *;omega
theorem z3H(s t:Tie):tlt s t∨s=t∨tlt t s:=by
 obtain⟨a,b⟩:=s;obtain⟨c,d⟩:=t;unfold tlt;dsimp only;by_cases h:a=c
 ·by_cases h2:b=d
  ·subst h h2;exact .inr (.inl rfl)
  ·omega
 ·omega
def z6M(t:Tie):List Int:=[t.1,t.2]
def y8O(ns:List Int):Tie:=(ns.getD 0 0,ns.getD 1 0)
def z6X(ts:List Tie):List Tie:=(y1X (ts.map z6M)).map y8O
theorem y5B(ts:List Tie):y1X (ts.map z6M)=(z6X ts).map z6M:=by
 unfold z6X;rw[List.map_map]
 have:∀ns∈y1X (ts.map z6M),(z6M∘y8O) ns=ns:=fun ns h=>by
  have h':=(z64 (ts.map z6M)).mem_iff.mp h;obtain⟨t,_,rfl⟩:=List.mem_map.mp h';rfl
 exact ((List.map_congr_left this).trans (List.map_id _)).symm
theorem z3Y(ts:List Tie):(z6X ts).Perm ts:=by
 have h:=(z64 (ts.map z6M)).map y8O
 have e:(ts.map z6M).map y8O=ts:=by
  rw[List.map_map]
  exact (List.map_congr_left (fun t _=>rfl:∀t∈ts,(y8O∘z6M) t=t)).trans (List.map_id _)
 rw[e]at h;exact h
theorem y5A(ts:List Tie)(hn:ts.Nodup):(z6X ts).Pairwise tlt:=by
 have h:=y59 (ts.map z6M);rw[y5B,List.pairwise_map]at h;have hn':(z6X ts).Nodup:=(z3Y ts).nodup_iff.mpr hn
 have:=h.and hn'
 refine this.imp fun {s t} q=>?_
 obtain⟨q1,q2⟩:=q
 have:decide (tlt t s)=false:=(z68 t s).symm.trans q1
 have n1:=of_decide_eq_false this
 rcases z3H s t with z|z|z
 ·exact z
 ·exact absurd z q2
 ·exact absurd z n1
theorem z9I{ts:List Tie}(h:ts.length<64):z6Y (ts.map u3)=some ((z6X ts).map u3):=by
 unfold z6Y
 rw[if_pos (by rw[List.length_map];exact h)]
 cases ts with
 | nil =>
  show some ((z4O []).map D.int)=some ((z6X []).map u3)
  unfold z6X z4O y1X;simp
 | cons t ts =>
  have e1:Y5 ((t::ts).map u3)=none:=rfl
  have e2:z1Z ((t::ts).map u3)=some ((t::ts).map z6M):=by
   have:=z62 (nss:=(t::ts).map z6M) (fun ns h=>by
    obtain⟨u,_,rfl⟩:=List.mem_map.mp h
    simp[z6M])
   rw[List.map_map]at this;exact this
  rw[e1];dsimp only;rw[e2];dsimp only;rw[y5B,List.map_map];rfl
structure IsWeb(n:Int)(ts:List Tie):Prop where
 lo:1≤n
 hi:n≤6
 up:ts.Pairwise tlt
 ok:∀t∈ts,0≤t.1/\t.1<t.2/\t.2<n
def Z7(n:Int)(ts:List Tie):D:=.tup [.int n,.tup (ts.map u3)]
theorem x4Q(a b:Int):x3R [.int a,.int b]=some (.int (min a b)):=by
 show some (D.int (if b<a then b else a))=_
 by_cases h:b<a
 ·rw[if_pos h,Int.min_eq_right (by omega)]
 ·rw[if_neg h,Int.min_eq_left (by omega)]
theorem x00(a b:Int):x0U [.int a,.int b]=some (.int (max a b)):=by
 show some (D.int (if b>a then b else a))=_
 by_cases h:b>a
 ·rw[if_pos h,Int.max_eq_right (by omega)]
 ·rw[if_neg h,Int.max_eq_left (by omega)]
def y3S:z9->Option Out :=
 W5 (z1B 6 (w6 K0 (z6 (d2 z3E (y1 0) (d2 y4I (dC (.int 11)) (y1 5))) (z6 (dC (.int 9949)) (z6 (y1 3) (j0))))))
 (W5 (z1B 7 (w6 K0 (z6 (d2 z3E (d2 z3E (y1 0) (d2 y4I (dC (.int 13)) (y1 5))) (dC (.int 1))) (z6 (dC (.int 9941)) (z6 (y1 3) (j0))))))
 (W5 (z1B 8 (z1Q (z6 (w6 x3R (z6 (y1 6) (z6 (y1 7) j0))) (z6 (w6 x0U (z6 (y1 6) (z6 (y1 7) j0))) (j0)))))
 (z4Y (z7A (x9 (d2 dNe (y1 6) (y1 7))) (x9 (dIn true (y1 8) (z8X 4))))
 (x1R 4 (y1 8))
 (z0S))))
theorem y6N{c m t:D}{cc n k:Int}{ts:List Tie}{c6 c7 c8:Option Cell}(hn:0<n)(hok:∀t∈ts,0≤t.1/\t.1<t.2/\t.2<n)(hnd:ts.Nodup)(hl:ts.length≤1000) :
  ∃(ts':List Tie) (c6' c7' c8':Option Cell),y3S [some (.sh (.int cc)),some (.sh m),some (.sh t),some (.sh (.int n)),some (.ow (ts.map u3)),some (.sh (.int k)),c6,c7,c8] =
   some (.nx [some (.sh (.int cc)),some (.sh m),some (.sh t),some (.sh (.int n)),some (.ow (ts'.map u3)),some (.sh (.int k)),c6',c7',c8'])/\(∀t∈ts',0≤t.1/\t.1<t.2/\t.2<n)/\ts'.Nodup/\ts'.length≤ts.length+1:=by
 have a1:=y2D (cc+11*k) 9949 hn;have a2:=y2E (cc+11*k) 9949 hn;have b1:=y2D (cc+13*k+1) 9941 hn;have b2:=y2E (cc+13*k+1) 9941 hn;generalize e1:mix (cc+11*k) 9949 n=a at a1 a2;generalize e2:mix (cc+13*k+1) 9941 n=b at b1 b2
 have f1:K0 [.int (cc+11*k),.int 9949,.int n]=some (.int a):=by rw[z0C _ (by decide) hn,e1]
 have f2:K0 [.int (cc+13*k+1),.int 9941,.int n]=some (.int b):=by rw[z0C _ (by decide) hn,e2]
 have g0:∀ρ:z9,ρ[0]?=some (some (.sh (.int cc)))->ρ[5]?=some (some (.sh (.int k)))->∀j:Int,z4P j=true->d2 z3E (y1 0) (d2 y4I (dC (.int j)) (y1 5)) ρ=some (.int (cc+j*k)):=fun ρ h0 h5 j hj=>by
  have z0:y1 0 ρ=some (.int cc):=by unfold y1;rw[h0]
  have z5:y1 5 ρ=some (.int k):=by unfold y1;rw[h5]
  exact (z7P z0 ((z7P (x:=.int j) (y:=.int k) rfl z5).trans (y9U k hj))).trans rfl
 let tie:Tie:=(min a b,max a b)
 have step:y3S [some (.sh (.int cc)),some (.sh m),some (.sh t),some (.sh (.int n)),some (.ow (ts.map u3)),some (.sh (.int k)),c6,c7,c8] =
   z4Y (z7A (x9 (d2 dNe (y1 6) (y1 7))) (x9 (dIn true (y1 8) (z8X 4)))) (x1R 4 (y1 8)) z0S
    [some (.sh (.int cc)),some (.sh m),some (.sh t),some (.sh (.int n)),some (.ow (ts.map u3)),some (.sh (.int k)),some (.sh (.int a)),some (.sh (.int b)),some (.sh (u3 tie))]:=by
  refine u0 (r:=.rt .non) (Y6 (d:=.int a) ((u4 (ds:=[.int (cc+11*k),.int 9949,.int n]) (j3 (g0 _ rfl rfl 11 (by decide)) rfl)).trans f1)) ?_
  refine u0 (r:=.rt .non) (Y6 (d:=.int b) ((u4 (ds:=[.int (cc+13*k+1),.int 9941,.int n]) (j3 ((z7P (g0 _ rfl rfl 13 (by decide)) rfl).trans rfl) rfl)).trans f2)) ?_
  exact u0 (r:=.rt .non) (Y6 (d:=u3 tie) (z6U (ds:=[.int tie.1,.int tie.2]) (j3 ((u4 (ds:=[.int a,.int b]) rfl).trans (x4Q a b)) (j3 ((u4 (ds:=[.int a,.int b]) rfl).trans (x00 a b)) rfl)) (show 2≤LIM by decide))) rfl
 rw[step]
 have et:z7A (x9 (d2 dNe (y1 6) (y1 7))) (x9 (dIn true (y1 8) (z8X 4))) [some (.sh (.int cc)),some (.sh m),some (.sh t),some (.sh (.int n)),some (.ow (ts.map u3)),some (.sh (.int k)),some (.sh (.int a)),some (.sh (.int b)),some (.sh (u3 tie))]=some (!(a==b)&&!decide (tie∈ts)):=by
  refine x0W (J3 rfl) fun _=>J3 ((x0V (d:=u3 tie) (ds:=ts.map u3) rfl rfl (Nat.le_trans (z4X ts) (by decide)) (by rw[z8G];decide)).trans ?_)
  rw[y4C];rfl
 rw[Y4 et]
 cases hc:(!(a==b)&&!decide (tie∈ts)) with
 | false =>
  exact⟨ts,_,_,_,rfl,hok,hnd,Nat.le_succ _⟩
 | true =>
  rw[Bool.and_eq_true]at hc
  have hne:a≠b:=by simpa using hc.1
  have hni:tie∉ts:=by simpa using hc.2
  refine⟨ts++[tie],some (.sh (.int a)),some (.sh (.int b)),some (.sh (u3 tie)),?_,fun u hu=>?_,?_,by simp⟩
  ·rw[if_pos rfl]
   refine (x52 (ds:=ts.map u3) (d:=u3 tie) rfl rfl (by rw[List.length_map];unfold LIM;omega)).trans ?_
   rw[List.map_append];rfl
  ·rcases List.mem_append.mp hu with z|z
   ·exact hok u z
   ·have:u=tie:=by simpa using z
    subst this
    show 0≤min a b/\min a b<max a b/\max a b<n
    omega
  ·rw[List.nodup_append]
   refine⟨hnd,by simp,fun x hx y hy=>?_⟩
   have:y=tie:=by simpa using hy
   subst this
   exact fun z=>hni (z▸hx)
theorem y3D(c:Int){most ties:Int}(h1:1≤most)(h6:most≤6)(t0:0≤ties)(t12:ties≤12) :
  ∃(n:Int) (ts:List Tie),z5X [.int c,.int most,.int ties]=some (Z7 n ts)/\IsWeb n ts/\n≤most/\(ts.length:Int)≤ties:=by
 have a1:=y2D c 9973 (show 0<most by omega)
 have a2:=y2E c 9973 (show 0<most by omega)
 have b1:=y2D c 9967 (show 0<ties+1 by omega)
 have b2:=y2E c 9967 (show 0<ties+1 by omega)
 obtain⟨n,hn1,hn2,e1⟩:∃n:Int,1≤n/\n≤most/\∀k:z9->Option Out,W5 (z1B 3 (d2 z3E (dC (.int 1)) (w6 K0 (z6 (y1 0) (z6 (dC (.int 9973)) (z6 (y1 1) (j0)))))))
   (W5 (z4Y (z7A (x9 (d2 dLt (y1 3) (dC (.int 4)))) (x9 (d2 w1U (d2 y13 (y1 0) (dC (.int 4))) (dC (.int 0))))) (z1B 3 (y1 1)) (z0S)) k) [some (.sh (.int c)),some (.sh (.int most)),some (.sh (.int ties)),none,none,none,none,none,none] =
   k [some (.sh (.int c)),some (.sh (.int most)),some (.sh (.int ties)),some (.sh (.int n)),none,none,none,none,none]:=by
  have s1:∀k,W5 (z1B 3 (d2 z3E (dC (.int 1)) (w6 K0 (z6 (y1 0) (z6 (dC (.int 9973)) (z6 (y1 1) (j0))))))) k [some (.sh (.int c)),some (.sh (.int most)),some (.sh (.int ties)),none,none,none,none,none,none] =
    k [some (.sh (.int c)),some (.sh (.int most)),some (.sh (.int ties)),some (.sh (.int (1+mix c 9973 most))),none,none,none,none,none]:=fun k =>
   u0 (r:=.rt .non) (Y6 (d:=.int (1+mix c 9973 most)) ((z7P (x:=.int 1) (y:=.int (mix c 9973 most)) rfl ((u4 (ds:=[.int c,.int 9973,.int most]) rfl).trans (z0C c (by decide) (by omega)))).trans rfl)) rfl
  have s2:z7A (x9 (d2 dLt (y1 3) (dC (.int 4)))) (x9 (d2 w1U (d2 y13 (y1 0) (dC (.int 4))) (dC (.int 0)))) [some (.sh (.int c)),some (.sh (.int most)),some (.sh (.int ties)),some (.sh (.int (1+mix c 9973 most))),none,none,none,none,none]=some (decide (1+mix c 9973 most<4)&&decide (0<c % 4)) :=
   x0W (J3 rfl) fun _=>J3 ((z7P (x:=.int (c % 4)) (y:=.int 0) ((z7P (x:=.int c) (y:=.int 4) rfl rfl).trans (y9X c (by decide))) rfl).trans rfl)
  cases hc:(decide (1+mix c 9973 most<4)&&decide (0<c % 4)) with
  | true =>
   refine⟨most,h1,Int.le_refl _,fun k=>(s1 _).trans (u0 (r:=.rt .non) ((Y4 s2).trans ?_) rfl)⟩
   rw[hc];rfl
  | false =>
   refine⟨1+mix c 9973 most,by omega,by omega,fun k=>(s1 _).trans (u0 (r:=.rt .non) ((Y4 s2).trans ?_) rfl)⟩
   rw[hc];rfl
 have hok:okR (mix c 9967 (ties+1))=true:=by unfold okR;rw[decide_eq_true (by omega),decide_eq_true (by omega)];rfl
 obtain⟨ρ',l1,ts,c5,c6,c7,c8,rfl,q1,q2,q3⟩:=z40 (h:=w9 5) (g:=y3S) (fun pre ρ=>∃(ts:List Tie) (c5 c6 c7 c8:Option Cell),ρ=[some (.sh (.int c)),some (.sh (.int most)),some (.sh (.int ties)),some (.sh (.int n)),some (.ow (ts.map u3)),c5,c6,c7,c8]/\(∀t∈ts,0≤t.1/\t.1<t.2/\t.2<n)/\ts.Nodup/\ts.length≤pre.length)
  (ds:=J0 0 (mix c 9967 (ties+1)).toNat) (ρ:=[some (.sh (.int c)),some (.sh (.int most)),some (.sh (.int ties)),some (.sh (.int n)),some (.ow []),none,none,none,none]) ⟨[],none,none,none,none,rfl,fun t h=>absurd h (by simp),List.nodup_nil,Nat.le_refl _⟩ (fun pre d post ρ he hI=>by
   obtain⟨ts,c5,c6,c7,c8,rfl,q1,q2,q3⟩:=hI
   obtain⟨k,hk,rfl⟩:=y2W (show d∈J0 0 _ by rw[←he];simp)
   have hlen:=congrArg List.length he;rw[z03,List.length_append]at hlen
   obtain⟨ts',c6',c7',c8',w1,w2,w3,w4⟩:=y6N (c:=.non) (cc:=c) (m:=.int most) (t:=.int ties) (k:=(k:Int)) (c6:=c6) (c7:=c7) (c8:=c8) (show 0<n by omega) q1 q2 (by omega)
   refine⟨_,_,rfl,.inl w1,ts',_,c6',c7',c8',rfl,w2,w3,?_⟩
   rw[List.length_append]
   exact Nat.le_trans w4 (Nat.succ_le_succ q3))
 have hts:(ts.length:Int)≤ties:=by
  rw[z03]at q3;omega
 refine⟨n,z6X ts,?_,⟨hn1,by omega,y5A ts q2,fun t ht=>q1 t ((z3Y ts).mem_iff.mp ht)⟩,hn2,by rw[(z3Y ts).length_eq];exact hts⟩
 show z67 (z5K [some (.sh (.int c)),some (.sh (.int most)),some (.sh (.int ties)),none,none,none,none,none,none])=_
 have fin:z5K [some (.sh (.int c)),some (.sh (.int most)),some (.sh (.int ties)),none,none,none,none,none,none]=some (.rt (Z7 n (z6X ts))):=by
  refine (e1 _).trans (u0 (r:=.rt .non) (y0Y (ds:=[]) (y6E (ds:=[]) rfl (by decide))) ?_)
  refine u0 (r:=.rt .non) ((z24 (ds:=J0 0 (mix c 9967 (ties+1)).toNat) ?_).trans l1) ?_
  ·exact z4V ((u4 (ds:=[.int c,.int 9967,.int (ties+1)]) rfl).trans (z0C c (by decide) (by omega))) hok
  ·refine z1P (z6U (ds:=[.int n,.tup ((z6X ts).map u3)]) (j3 rfl (j3 (y0X ((x80 (ds:=ts.map u3) rfl).trans (z9I (by omega)))) rfl)) (show 2≤LIM by decide))
 rw[fin];rfl
theorem y00(lo:Int)(m:Nat):J0 lo (m+1) = .int lo::J0 (lo+1) m:=by
 unfold J0;rw[List.range_succ_eq_map,List.map_cons,List.map_map]
 congr 1
 ·simp
 ·refine List.map_congr_left fun k _=>?_
  simp only[Function.comp]
  congr 1
  omega
theorem y4B{n j:Nat}(h:j<n):ixN n (j:Int)=some j:=by
 unfold ixN
 rw[if_pos (by omega),if_pos (by omega),Int.toNat_natCast]
theorem y2G{α β:Type}(f:α->β):∀(l:List α) (j:Nat),(l.map f).eraseIdx j=(l.eraseIdx j).map f
 | [],_=>rfl
 | _::_,0=>rfl
 | a::l,j+1=>by
  show f a::(l.map f).eraseIdx j=f a::(l.eraseIdx j).map f
  rw[y2G f l j]
theorem erase_perm{α:Type}:∀(l:List α) (j:Nat) (h:j<l.length),(l[j]::l.eraseIdx j).Perm l
 | a::l,0,_=>List.Perm.refl _
 | a::l,j+1,h=>by
  have ih:=erase_perm l j (by simpa using h)
  have hj:j<l.length:=by simpa using h
  show (l[j]::a::l.eraseIdx j).Perm (a::l)
  exact (List.Perm.swap _ _ _).trans (ih.cons a)
def y24:z9->Option (D×z9):=x85 1 (w6 K0 (z6 (d2 z3E (y1 2) (d2 y4I (dC (.int 5)) (y1 0))) (z6 (dC (.int 9931)) (z6 (d2 y2X (y1 3) (y1 0)) (j0)))))
theorem y94{c:Int}{n k:Nat}{ls:List Int}(hl:ls.length+k=n)(hk:k<n)(hn:n≤1000) :
  ∃(j:Nat) (h:j<ls.length),y24 [some (.sh (.int (k:Int))),some (.ow (ls.map D.int)),some (.sh (.int c)),some (.sh (.int (n:Int)))]=some (.int ls[j],[some (.sh (.int (k:Int))),some (.ow ((ls.eraseIdx j).map D.int)),some (.sh (.int c)),some (.sh (.int (n:Int)))]):=by
 have hm:(0:Int)<(n:Int)-(k:Int):=by omega
 have a1:=y2D (c+5*(k:Int)) 9931 hm;have a2:=y2E (c+5*(k:Int)) 9931 hm;obtain⟨j,hj⟩:=Int.eq_ofNat_of_zero_le a1
 have hj':j<ls.length:=by omega
 refine⟨j,hj',?_⟩
 have ef:w6 K0 (z6 (d2 z3E (y1 2) (d2 y4I (dC (.int 5)) (y1 0))) (z6 (dC (.int 9931)) (z6 (d2 y2X (y1 3) (y1 0)) (j0)))) [some (.sh (.int (k:Int))),some (.ow (ls.map D.int)),some (.sh (.int c)),some (.sh (.int (n:Int)))]=some (.int (j:Int)):=by
  refine (u4 (ds:=[.int (c+5*(k:Int)),.int 9931,.int ((n:Int)-(k:Int))]) (j3 ((z7P (x:=.int c) (y:=.int (5*(k:Int))) rfl ((z7P (x:=.int 5) (y:=.int (k:Int)) rfl rfl).trans (y9U _ (by decide)))).trans rfl) rfl)).trans ?_
  rw[z0C _ (by decide) hm,hj]
 have eo:z8X 1 [some (.sh (.int (k:Int))),some (.ow (ls.map D.int)),some (.sh (.int c)),some (.sh (.int (n:Int)))]=some (ls.map D.int):=rfl;unfold y24 x85;rw[eo,ef];dsimp only;rw[List.length_map,y4B hj'];dsimp only;rw[List.getElem?_map,List.getElem?_eq_getElem hj'];dsimp only[Option.map_some]
 rw[if_pos (by unfold LIM;omega),y2G]
 rfl
theorem x4C{c:Int}{n:Nat}(hn:n≤1000):∀(m k:Nat) (ls:List Int) (c0:Option Cell),ls.length=m->m+k=n ->
  ∃r:List Int,z30 (w9 0) y24 [c0,some (.ow (ls.map D.int)),some (.sh (.int c)),some (.sh (.int (n:Int)))] (J0 (k:Int) m)=some (r.map D.int)/\r.Perm ls
 | 0,k,ls,c0,hl,hk=>by
  have:ls=[]:=List.eq_nil_of_length_eq_zero hl
  subst this
  exact⟨[],rfl,List.Perm.refl _⟩
 | m+1,k,ls,c0,hl,hk=>by
  obtain⟨j,hj,e⟩:=y94 (c:=c) (n:=n) (k:=k) (ls:=ls) (by omega) (by omega) hn
  obtain⟨r,e2,hp⟩:=x4C hn m (k+1) (ls.eraseIdx j) (some (.sh (.int (k:Int)))) (by rw[List.length_eraseIdx,if_pos hj];omega) (by omega)
  refine⟨ls[j]::r,?_,(hp.cons _).trans (erase_perm ls j hj)⟩
  rw[y00];unfold z30
  show (match y24 [some (.sh (.int (k:Int))),some (.ow (ls.map D.int)),some (.sh (.int c)),some (.sh (.int (n:Int)))] with
   | some (y,ρ2)=>(match z30 (w9 0) y24 ρ2 (J0 ((k:Int)+1) m) with|some ys=>some (y::ys)|none=>none)
   | none=>none)=_
  rw[e];dsimp only
  have ek:((k:Int)+1)=((k+1:Nat):Int):=by omega
  rw[ek,e2];rfl
theorem y3E(c:Int){n:Int}(h0:0≤n)(h1:n≤1000):∃r:List Int,z5Y [.int c,.int n]=some (.tup (r.map D.int))/\r.Perm (iUp 0 n.toNat):=by
 obtain⟨m,rfl⟩:=Int.eq_ofNat_of_zero_le h0
 have hlen:(iUp 0 m).length=m:=by unfold iUp;rw[List.length_map,List.length_range]
 obtain⟨r,e,hp⟩:=x4C (c:=c) (n:=m) (by omega) m 0 (iUp 0 m) none hlen (by omega)
 have e0:((0:Nat):Int)=0:=rfl;rw[e0]at e
 refine⟨r,?_,by rw[Int.toNat_natCast];exact hp⟩
 have fin:z5L [some (.sh (.int c)),some (.sh (.int (m:Int))),none]=some (.rt (.tup (r.map D.int))):=by
  have el:z1I (y1 1) [some (.sh (.int c)),some (.sh (.int (m:Int))),none]=some ((iUp 0 m).map D.int):=by
   rw[z9Z (j:=(m:Int)) rfl (by omega) (by omega),Int.toNat_natCast]
  refine u0 (r:=.rt .non) (y0Y (ds:=(iUp 0 m).map D.int) el) ?_
  have er:z1R (y1 1) [some (.sh (.int c)),some (.sh (.int (m:Int))),some (.ow ((iUp 0 m).map D.int))]=some (J0 0 m):=by
   rw[z4V (j:=(m:Int)) rfl (by unfold okR;rw[decide_eq_true (by omega),decide_eq_true (by omega)];rfl),Int.toNat_natCast]
  exact z1P (y0X ((x3T er (by rw[z03];unfold LIM;omega)).trans e))
 show z67 (z5L [some (.sh (.int c)),some (.sh (.int (m:Int))),none])=_
 rw[fin];rfl
theorem x25(n:Nat):(iUp 0 n).length=n:=by unfold iUp;simp
def ixI(r:List Int)(p:Int):Int:=(r.idxOf p:Nat)
def K5(r:List Int):List Key:=r.map Sum.inl
theorem y6X(r:List Int)(p:Int):K5 (r++[p])=K5 r++[Sum.inl p]:=by unfold K5;rw[List.map_append];rfl
theorem y6W{r:List Int}{p:Int}:(Sum.inl p:Key)∈K5 r↔p∈r:=by
 unfold K5;constructor
 ·intro h;obtain⟨q,hq,e⟩:=List.mem_map.mp h;cases e;exact hq
 ·exact fun h=>List.mem_map_of_mem h
theorem y1W{r:List Int}(h:r.Nodup):(K5 r).Nodup:=by
 unfold K5
 exact List.pairwise_map.mpr (h.imp fun {a b} hab z=>hab (Sum.inl.inj z))
theorem y5H:∀(ks:List Key) (vs:List D) (j:Key) (d:D),ks.length=vs.length->j∉ks->y74 ks vs j d=(ks++[j],vs++[d])
 | [],[],_,_,_,_=>rfl
 | [],_::_,_,_,h,_=>by cases h
 | _::_,[],_,_,h,_=>by cases h
 | k::ks,v::vs,j,d,hl,hn=>by
  have hne:k≠j:=fun z=>hn (z▸List.mem_cons_self)
  unfold y74
  rw[if_neg hne,y5H ks vs j d (by simpa using hl) fun z=>hn (List.mem_cons_of_mem _ z)]
  rfl
theorem y7N(n:Nat):J0 0 (n+1)=J0 0 n++[.int (n:Int)]:=by
 unfold J0;rw[List.range_succ,List.map_append];simp
theorem z9Q:∀(r:List Int) (k:Nat) (p:Int),p∈r->y49 (K5 r) (J0 (k:Int) r.length) (Sum.inl p)=some (.int ((k+r.idxOf p:Nat):Int))
 | [],_,_,h=>by cases h
 | q::r,k,p,h=>by
  have e:J0 (k:Int) (q::r).length = .int (k:Int)::J0 ((k+1:Nat):Int) r.length:=by
   rw[List.length_cons,y00];rfl
  rw[e]
  show (if (Sum.inl q:Key)=Sum.inl p then some (D.int (k:Int)) else y49 (K5 r) (J0 ((k+1:Nat):Int) r.length) (Sum.inl p))=_
  by_cases hq:q=p
  ·subst hq;rw[if_pos rfl,List.idxOf_cons_self];rfl
  ·have hp:p∈r:=by
    rcases List.mem_cons.mp h with z|z
    ·exact absurd z.symm hq
    ·exact z
   have hi:(q::r).idxOf p=r.idxOf p+1:=by
    rw[List.idxOf_cons,beq_false_of_ne hq];rfl
   rw[if_neg fun z=>hq (Sum.inl.inj z),z9Q r (k+1) p hp,hi]
   congr 2
   omega
theorem y5W{r:List Int}{p:Int}(h:p∈r):y49 (K5 r) (J0 0 r.length) (Sum.inl p)=some (.int (ixI r p)):=by
 have:=z9Q r 0 p h
 rw[Nat.zero_add]at this;exact this
theorem x0R{rw':D}:∀(r done:List Int) (c3 c4:Option Cell),(done++r).Nodup->(done++r).length≤1000 ->
  ∃c3' c4',z16 (z77 2 (z04 (w9 2) (z04 (w9 3) (z78)))) (x84 1 (y1 3) (y1 2)) (z13 done.length (r.map D.int)) [some (.sh rw'),some (.od (K5 done) (J0 0 done.length)),c3,c4] =
   some (.nx [some (.sh rw'),some (.od (K5 (done++r)) (J0 0 (done++r).length)),c3',c4'])
 | [],done,c3,c4,_,_=>⟨c3,c4,by rw[List.append_nil];rfl⟩
 | p::r,done,c3,c4,hn,hl=>by
  have hn':((done++[p])++r).Nodup:=by rw[List.append_assoc];exact hn
  have hl':((done++[p])++r).length≤1000:=by rw[List.append_assoc];exact hl
  obtain⟨c3',c4',ih⟩:=x0R r (done++[p]) (some (.sh (.int (done.length:Int)))) (some (.sh (.int p))) hn' hl'
  refine⟨c3',c4',?_⟩
  have hp:p∉done:=fun z=>by
   have:=(List.nodup_append.mp hn).2.2
   exact this p z p List.mem_cons_self rfl
  have hd:done.Nodup:=(List.nodup_append.mp hn).1
  have hlen:done.length<1000:=by rw[List.length_append,List.length_cons]at hl;omega
  have step:x84 1 (y1 3) (y1 2) [some (.sh rw'),some (.od (K5 done) (J0 0 done.length)),some (.sh (.int (done.length:Int))),some (.sh (.int p))] =
    some (.nx [some (.sh rw'),some (.od (K5 (done++[p])) (J0 0 (done++[p]).length)),some (.sh (.int (done.length:Int))),some (.sh (.int p))]):=by
   show (if (K5 done).Nodup/\(K5 done).length<LIM then some (Out.nx [some (.sh rw'),some (.od (y74 (K5 done) (J0 0 done.length) (Sum.inl p) (.int (done.length:Int))).1 (y74 (K5 done) (J0 0 done.length) (Sum.inl p) (.int (done.length:Int))).2),some (.sh (.int (done.length:Int))),some (.sh (.int p))]) else none)=_
   rw[if_pos ⟨y1W hd,by unfold K5;rw[List.length_map];unfold LIM;omega⟩,y5H _ _ _ _ (by unfold K5;rw[List.length_map,z03]) (fun z=>hp (y6W.mp z)),←y6X,List.length_append,List.length_singleton,y7N]
  rw[List.map_cons]
  show z16 _ _ (.tup [.int (done.length:Int),.int p]::z13 (done.length+1) (r.map D.int)) _=_
  unfold z16
  show (match x84 1 (y1 3) (y1 2) [some (.sh rw'),some (.od (K5 done) (J0 0 done.length)),some (.sh (.int (done.length:Int))),some (.sh (.int p))] with
   | some (.nx ρ2)=>z16 _ _ (z13 (done.length+1) (r.map D.int)) ρ2
   | some (.ct ρ2)=>z16 _ _ (z13 (done.length+1) (r.map D.int)) ρ2
   | some (.bk ρ2)=>some (.nx ρ2)
   | some (.rt v)=>some (.rt v)
   | none=>none)=_
  rw[step];dsimp only;rw[List.length_append,List.length_singleton]at ih ⊢;rw[ih,List.append_assoc];rfl
theorem y1D{r:List Int}(hn:r.Nodup)(hr:r.length≤1000):z6J [.tup (r.map D.int)]=some (.dct (K5 r) (J0 0 r.length)):=by
 show z67 (z43 [some (.sh (.tup (r.map D.int))),none,none,none])=_
 obtain⟨c3,c4,hl⟩:=x0R (rw':=.tup (r.map D.int)) r [] none none (by simpa using hn) (by simpa using hr)
 have fin:z43 [some (.sh (.tup (r.map D.int))),none,none,none]=some (.rt (.dct (K5 r) (J0 0 r.length))):=by
  refine u0 (r:=.rt .non) rfl ?_;refine u0 (r:=.rt .non) ((z24 (ds:=z13 0 (r.map D.int)) rfl).trans hl) ?_;rfl
 rw[fin];rfl
def z18(r:List Int)(t:Tie):Tie:=(min (ixI r t.1) (ixI r t.2),max (ixI r t.1) (ixI r t.2))
theorem z7C(a b:Int):z37 [.int a,.int b]=some (.tup [.int (min a b),.int (max a b)]):=by
 show z67 (z1G [some (.sh (.int a)),some (.sh (.int b))])=_
 have fin:z1G [some (.sh (.int a)),some (.sh (.int b))]=some (.rt (.tup [.int (min a b),.int (max a b)])):=by
  refine z1P (z6U (ds:=[.int (min a b),.int (max a b)]) (j3 ?_ (j3 ?_ rfl)) (show 2≤LIM by decide))
  ·exact x4Q a b
  ·exact x00 a b
 rw[fin];rfl
theorem y3C{r:List Int}{t:Tie}(h1:t.1∈r)(h2:t.2∈r):z8V [.dct (K5 r) (J0 0 r.length),u3 t]=some (u3 (z18 r t)):=by
 show z67 (z5J [some (.sh (.dct (K5 r) (J0 0 r.length))),some (.sh (u3 t))])=_
 have e1:y4J (y1 0) (dIx (dSq (y1 1)) (dC (.int 0))) [some (.sh (.dct (K5 r) (J0 0 r.length))),some (.sh (u3 t))]=some (.int (ixI r t.1)):=y5W h1;have e2:y4J (y1 0) (dIx (dSq (y1 1)) (dC (.int 1))) [some (.sh (.dct (K5 r) (J0 0 r.length))),some (.sh (u3 t))]=some (.int (ixI r t.2)):=y5W h2
 have fin:z5J [some (.sh (.dct (K5 r) (J0 0 r.length))),some (.sh (u3 t))]=some (.rt (u3 (z18 r t))):=by
  refine z1P ?_;exact (u4 (ds:=[.int (ixI r t.1),.int (ixI r t.2)]) (j3 e1 (j3 e2 rfl))).trans (z7C _ _)
 rw[fin];rfl
theorem z5V{n:Int}{ts:List Tie}{r:List Int}(hn:r.Nodup)(hr:r.length≤1000)(ht:ts.length≤1000)(hm:∀t∈ts,t.1∈r/\t.2∈r) :
  z4C [Z7 n ts,.tup (r.map D.int)]=some (.lst (ts.map fun t=>u3 (z18 r t))):=by
 show z67 (z44 [some (.sh (Z7 n ts)),some (.sh (.tup (r.map D.int))),none])=_
 have fin:z44 [some (.sh (Z7 n ts)),some (.sh (.tup (r.map D.int))),none]=some (.rt (.lst (ts.map fun t=>u3 (z18 r t)))):=by
  refine u0 (r:=.rt .non) (Y6 (d:=.dct (K5 r) (J0 0 r.length)) ((u4 (ds:=[.tup (r.map D.int)]) rfl).trans (y1D hn hr))) ?_
  show z14 (dLs (J6 _ _ _ _ _)) [some (.sh (Z7 n ts)),some (.sh (.tup (r.map D.int))),some (.sh (.dct (K5 r) (J0 0 r.length)))]=_
  refine z1P (z5O ?_)
  refine (z01 (ds:=ts.map u3) rfl (by rw[List.length_map];unfold LIM;omega)).trans ?_
  refine (z0A (fun ρ=>∃c,ρ=[c,some (.sh (.dct (K5 r) (J0 0 r.length)))]) (fun d=>match d with|.tup [.int a,.int b]=>u3 (z18 r (a,b))|_=>.non) _ _ ⟨none,rfl⟩ ?_).trans ?_
  ·rintro d hd ρ ⟨c,rfl⟩
   obtain⟨t,ht',rfl⟩:=List.mem_map.mp hd
   refine⟨_,rfl,⟨_,rfl⟩,?_⟩
   exact (u4 (ds:=[.dct (K5 r) (J0 0 r.length),u3 t]) rfl).trans (y3C (hm t ht').1 (hm t ht').2)
  ·rw[List.map_map];rfl
 rw[fin];rfl
def lie(s t:Tie):Str:=if s.1=t.1∨s.1=t.2∨s.2=t.1∨s.2=t.2 then "meet" else
 if (if tlt t s then t else s).2<(if tlt s t then t else s).1 then "apart" else if (if tlt t s then t else s).2<(if tlt s t then t else s).2 then "cross" else "within"
theorem in2(a c d:Int):inD (.int a) [.int c,.int d]=(decide (a=c)||decide (a=d)):=by
 show ((c==a)||((d==a)||false))=_
 rw[Bool.or_false]
 congr 1
 ·rw[show (c==a)=decide (c=a) from rfl];exact decide_eq_decide.mpr eq_comm
 ·rw[show (d==a)=decide (d=a) from rfl];exact decide_eq_decide.mpr eq_comm
theorem x0S(s t:Tie):x3Q [u3 s,u3 t]=some (u3 (if tlt t s then t else s)):=by
 show some (if HT.lexLt [t.1,t.2] [s.1,s.2]=true then u3 t else u3 s)=_
 rw[z68];by_cases h:tlt t s
 ·rw[if_pos h,if_pos (decide_eq_true h)]
 ·rw[if_neg h,if_neg (by rw[decide_eq_false h];decide)]
theorem x0T(s t:Tie):x3S [u3 s,u3 t]=some (u3 (if tlt s t then t else s)):=by
 show some (if HT.lexLt [s.1,s.2] [t.1,t.2]=true then u3 t else u3 s)=_
 rw[z68];by_cases h:tlt s t
 ·rw[if_pos h,if_pos (decide_eq_true h)]
 ·rw[if_neg h,if_neg (by rw[decide_eq_false h];decide)]
theorem x47(s t:Tie):z1V [u3 s,u3 t]=some (.str (lie s t)):=by
 show z67 (z0O [some (.sh (u3 s)),some (.sh (u3 t)),none,none])=_
 have e1:y3G (x9 (dIn false (dIx (dSq (y1 0)) (dC (.int 0))) (dSq (y1 1)))) (x9 (dIn false (dIx (dSq (y1 0)) (dC (.int 1))) (dSq (y1 1)))) [some (.sh (u3 s)),some (.sh (u3 t)),none,none] =
   some ((decide (s.1=t.1)||decide (s.1=t.2))||(decide (s.2=t.1)||decide (s.2=t.2))):=by
  refine z9Y (J3 ((x0V (d:=.int s.1) (ds:=[.int t.1,.int t.2]) rfl rfl (by simp[Y7,depth,z1W]) (by simp[depth,z1W])).trans ?_)) fun _=>J3 ((x0V (d:=.int s.2) (ds:=[.int t.1,.int t.2]) rfl rfl (by simp[Y7,depth,z1W]) (by simp[depth,z1W])).trans ?_)
  ·rw[in2];rfl
  ·rw[in2];rfl
 have fin:z0O [some (.sh (u3 s)),some (.sh (u3 t)),none,none]=some (.rt (.str (lie s t))):=by
  unfold lie;by_cases hm:s.1=t.1∨s.1=t.2∨s.2=t.1∨s.2=t.2
  ·rw[if_pos hm];refine z2W ?_;rw[Y4 e1]
   have:((decide (s.1=t.1)||decide (s.1=t.2))||(decide (s.2=t.1)||decide (s.2=t.2)))=true:=by simp only[Bool.or_eq_true,decide_eq_true_eq];omega
   rw[this];rfl
  ·rw[if_neg hm];refine u0 (r:=.rt .non) (ρ':=[some (.sh (u3 s)),some (.sh (u3 t)),none,none]) ?_ ?_
   ·rw[Y4 e1]
    have:((decide (s.1=t.1)||decide (s.1=t.2))||(decide (s.2=t.1)||decide (s.2=t.2)))=false:=by simp only[Bool.or_eq_false_iff,decide_eq_false_iff_not];omega
    rw[this];rfl
   ·generalize hf:(if tlt t s then t else s)=f
    generalize hg:(if tlt s t then t else s)=g
    refine u0 (r:=.rt .non) (Y6 (d:=u3 f) ((u4 (ds:=[u3 s,u3 t]) rfl).trans (by rw[x0S,hf]))) ?_
    refine u0 (r:=.rt .non) (Y6 (d:=u3 g) ((u4 (ds:=[u3 s,u3 t]) rfl).trans (by rw[x0T,hg]))) ?_
    have e2:x9 (d2 dLt (dIx (dSq (y1 2)) (dC (.int 1))) (dIx (dSq (y1 3)) (dC (.int 0)))) [some (.sh (u3 s)),some (.sh (u3 t)),some (.sh (u3 f)),some (.sh (u3 g))]=some (decide (f.2<g.1)):=rfl;have e3:x9 (d2 dLt (dIx (dSq (y1 2)) (dC (.int 1))) (dIx (dSq (y1 3)) (dC (.int 1)))) [some (.sh (u3 s)),some (.sh (u3 t)),some (.sh (u3 f)),some (.sh (u3 g))]=some (decide (f.2<g.2)):=rfl;by_cases h1:f.2<g.1
    ·rw[if_pos h1];refine z2W ((Y4 e2).trans ?_);rw[decide_eq_true h1];rfl
    ·rw[if_neg h1];refine u0 (r:=.rt .non) (ρ':=[some (.sh (u3 s)),some (.sh (u3 t)),some (.sh (u3 f)),some (.sh (u3 g))]) ((Y4 e2).trans ?_) ?_
     ·rw[decide_eq_false h1];rfl
     ·refine z1P ((w3A e3).trans ?_);by_cases h2:f.2<g.2
      ·rw[if_pos h2,decide_eq_true h2];rfl
      ·rw[if_neg h2,decide_eq_false h2];rfl
 rw[fin];rfl
def btw(a b c:Int):Bool:=decide (min a b<c)&&decide (c<max a b)
def z9T(a b c d:Int):Str:=if a=c∨a=d∨b=c∨b=d then "meet" else
 if (btw a b c&&!btw a b d)||(!btw a b c&&btw a b d) then "cross" else if (btw a b c&&btw a b d)||(decide (min c d<min a b)&&decide (min a b<max c d)) then "within" else "apart"
theorem x7K{a b c d:Int}(h1:a≠b)(h2:c≠d):lie (min a b,max a b) (min c d,max c d)=z9T a b c d:=by
 unfold lie z9T btw;dsimp only;by_cases hm:a=c∨a=d∨b=c∨b=d
 ·rw[if_pos hm,if_pos (by omega)]
 ·rw[if_neg hm,if_neg (by omega)]
  by_cases h:min c d<min a b
  ·have q:tlt (min c d,max c d) (min a b,max a b):=.inl h
   have q':¬tlt (min a b,max a b) (min c d,max c d):=by unfold tlt;dsimp only;omega
   rw[if_pos q,if_neg q'];dsimp only;simp only[Bool.and_eq_true,Bool.or_eq_true,Bool.not_eq_true',Bool.and_eq_false_iff,decide_eq_true_eq,decide_eq_false_iff_not];split
   ·rw[if_neg (by omega),if_neg (by omega)]
   ·split
    ·rw[if_pos (by omega)]
    ·rw[if_neg (by omega),if_pos (by omega)]
  ·have q:¬tlt (min c d,max c d) (min a b,max a b):=by unfold tlt;dsimp only;omega
   have q':tlt (min a b,max a b) (min c d,max c d):=by unfold tlt;dsimp only;omega
   rw[if_neg q,if_pos q'];dsimp only;simp only[Bool.and_eq_true,Bool.or_eq_true,Bool.not_eq_true',Bool.and_eq_false_iff,decide_eq_true_eq,decide_eq_false_iff_not];split
   ·rw[if_neg (by omega),if_neg (by omega)]
   ·split
    ·rw[if_pos (by omega)]
    ·rw[if_neg (by omega),if_pos (by omega)]
theorem x0L:∀(r:List Int) (p:Int),p∈r->x8J (.int p) (r.map D.int)=some (r.idxOf p)
 | [],_,h=>by cases h
 | q::r,p,h=>by
  unfold x8J;rw[List.map_cons,List.findIdx?_cons]
  show (if (q==p)=true then some 0 else ((r.map D.int).findIdx? fun y=>beq y (.int p)).map (·+1))=_
  by_cases hq:q=p
  ·subst hq
   rw[if_pos (by simp),List.idxOf_cons_self]
  ·have hp:p∈r:=by
    rcases List.mem_cons.mp h with z|z
    ·exact absurd z.symm hq
    ·exact z
   have ih:=x0L r p hp;unfold x8J at ih
   have hi:(q::r).idxOf p=r.idxOf p+1:=by rw[List.idxOf_cons,beq_false_of_ne hq];rfl
   rw[if_neg (by simpa using hq),ih,hi]
   rfl
theorem z8I:∀r:List Int,Y7 (r.map D.int)=0
 | []=>by rw[List.map_nil,Y7]
 | p::r=>by
  have e:depth (.int p)=0:=by simp[depth]
  rw[List.map_cons,Y7,z8I r,e];rfl
theorem y6A{r:List Int}{p:Int}{fa fb:z9->Option D}{ρ:z9}(h:p∈r)(ha:fa ρ=some (.tup (r.map D.int)))(hb:fb ρ=some (.int p)):z6V fa fb ρ=some (.int (ixI r p)):=by
 unfold z6V;rw[ha,hb];dsimp only
 rw[if_pos ⟨by rw[z8I];decide,by simp[depth,z1W]⟩,x0L r p h]
 rfl
theorem x1L{ts:List Tie}{i:Nat}{s:Tie}(h:ts[i]?=some s):atI (ts.map u3) (i:Int)=some (u3 s):=by
 have hlt:i<ts.length:=(List.getElem?_eq_some_iff.mp h).1;unfold atI;rw[List.length_map,y4B hlt]
 show (ts.map u3)[i]?=_
 rw[List.getElem?_map,h];rfl
theorem z9F{r:List Int}{s:Tie}{fi:z9->Option (List D)}{ρ:z9}(h0:fi ρ=some [.int s.1,.int s.2])(hc:y1I [none,some 1] ρ=[none,some (.sh (.tup (r.map D.int)))])(h1:s.1∈r)(h2:s.2∈r) :
  J6 [none,some 1] fi (w9 0) z2B (z6V (y1 1) (y1 0)) ρ=some [.int (ixI r s.1),.int (ixI r s.2)]:=by
 refine (z01 h0 (show 2≤LIM by decide)).trans ?_
 rw[hc]
 refine (z0A (fun ρ=>∃c,ρ=[c,some (.sh (.tup (r.map D.int)))]) (fun d=>match d with|.int p=>.int (ixI r p)|_=>.non) _ _ ⟨none,rfl⟩ ?_).trans rfl
 rintro d hd ρ ⟨c,rfl⟩
 refine⟨_,rfl,⟨_,rfl⟩,?_⟩
 rcases List.mem_cons.mp hd with rfl|hd
 ·exact y6A h1 rfl rfl
 ·obtain rfl:=List.mem_singleton.mp hd
  exact y6A h2 rfl rfl
theorem w39(p:D->Bool)(x y:D):[x,y].filter p=if p x=true then (if p y=true then [x,y] else [x]) else (if p y=true then [y] else []):=by
 rw[List.filter_cons,List.filter_cons,List.filter_nil];by_cases h:p x=true
 ·rw[if_pos h,if_pos h];by_cases h':p y=true
  ·rw[if_pos h',if_pos h']
  ·rw[if_neg h',if_neg h']
 ·rw[if_neg h,if_neg h]
theorem y7B{n:Int}{ts:List Tie}{r:List Int}{i j:Nat}{s t:Tie}(hi:ts[i]?=some s)(hj:ts[j]?=some t)(hs:s.1∈r/\s.2∈r)(ht:t.1∈r/\t.2∈r) :
  z3U [Z7 n ts,.tup (r.map D.int),.int (i:Int),.int (j:Int)]=some (.str (z9T (ixI r s.1) (ixI r s.2) (ixI r t.1) (ixI r t.2))):=by
 show z67 (z5M [some (.sh (Z7 n ts)),some (.sh (.tup (r.map D.int))),some (.sh (.int (i:Int))),some (.sh (.int (j:Int))),none,none,none])=_
 generalize ea:ixI r s.1=a;generalize eb:ixI r s.2=b;generalize ec:ixI r t.1=c;generalize ed:ixI r t.2=d
 have c1:=fun ρ h0 hc=>z9F (r:=r) (s:=s) (fi:=dSq (dIx (dSq (dIx (dSq (y1 0)) (dC (.int 1)))) (y1 2))) (ρ:=ρ) h0 hc hs.1 hs.2
 have c2:=fun ρ h0 hc=>z9F (r:=r) (s:=t) (fi:=dSq (dIx (dSq (dIx (dSq (y1 0)) (dC (.int 1)))) (y1 3))) (ρ:=ρ) h0 hc ht.1 ht.2
 rw[ea,eb]at c1;rw[ec,ed]at c2
 let W:D:=Z7 n ts
 let R:D:=.tup (r.map D.int)
 have fin:z5M [some (.sh W),some (.sh R),some (.sh (.int (i:Int))),some (.sh (.int (j:Int))),none,none,none]=some (.rt (.str (z9T a b c d))):=by
  refine u0 (r:=.rt .non) (Y6 (d:=.lst [.int a,.int b]) (z5O (c1 _ (z5N (ds:=[.int s.1,.int s.2]) ((z5P (ds:=ts.map u3) rfl rfl).trans (x1L hi))) rfl))) ?_;refine u0 (r:=.rt .non) (Y6 (d:=.lst [.int c,.int d]) (z5O (c2 _ (z5N (ds:=[.int t.1,.int t.2]) ((z5P (ds:=ts.map u3) rfl rfl).trans (x1L hj))) rfl))) ?_
  have e3:z3Q (J6 [none,some 5] (dSq (y1 4)) (w9 0) (x9 (dIn false (y1 0) (dSq (y1 1)))) (y1 0)) [some (.sh W),some (.sh R),some (.sh (.int (i:Int))),some (.sh (.int (j:Int))),some (.sh (.lst [.int a,.int b])),some (.sh (.lst [.int c,.int d])),none] =
    some ((decide (a=c)||decide (a=d))||(decide (b=c)||decide (b=d))):=by
   have:J6 [none,some 5] (dSq (y1 4)) (w9 0) (x9 (dIn false (y1 0) (dSq (y1 1)))) (y1 0) [some (.sh W),some (.sh R),some (.sh (.int (i:Int))),some (.sh (.int (j:Int))),some (.sh (.lst [.int a,.int b])),some (.sh (.lst [.int c,.int d])),none] =
     some (([.int a,.int b].filter fun x=>inD x [.int c,.int d]).map id):=by
    refine (z01 (ds:=[.int a,.int b]) rfl (show 2≤LIM by decide)).trans ?_
    refine J7 (fun ρ=>∃c0,ρ=[c0,some (.sh (.lst [.int c,.int d]))]) (fun x=>inD x [.int c,.int d]) id _ _ ⟨none,rfl⟩ ?_
    rintro x hx ρ ⟨c0,rfl⟩
    refine⟨_,rfl,⟨_,rfl⟩,J3 ((x0V (d:=x) (ds:=[.int c,.int d]) rfl rfl (by simp[Y7,depth,z1W]) ?_).trans rfl),fun _=>rfl⟩
    rcases List.mem_cons.mp hx with rfl|hx
    ·simp[depth,z1W]
    ·obtain rfl:=List.mem_singleton.mp hx;simp[depth,z1W]
   unfold z3Q;rw[this];dsimp only;rw[List.map_id,List.filter_cons,List.filter_cons,List.filter_nil,in2,in2]
   cases (decide (a=c)||decide (a=d))<;>cases (decide (b=c)||decide (b=d))<;>rfl
  unfold z9T;by_cases hm:a=c∨a=d∨b=c∨b=d
  ·rw[if_pos hm];refine z2W ((Y4 e3).trans ?_)
   have:((decide (a=c)||decide (a=d))||(decide (b=c)||decide (b=d)))=true:=by simp only[Bool.or_eq_true,decide_eq_true_eq];omega
   rw[this];rfl
  ·rw[if_neg hm];refine u0 (r:=.rt .non) (ρ':=[some (.sh W),some (.sh R),some (.sh (.int (i:Int))),some (.sh (.int (j:Int))),some (.sh (.lst [.int a,.int b])),some (.sh (.lst [.int c,.int d])),none]) ((Y4 e3).trans ?_) ?_
   ·have:((decide (a=c)||decide (a=d))||(decide (b=c)||decide (b=d)))=false:=by simp only[Bool.or_eq_false_iff,decide_eq_false_iff_not];omega
    rw[this];rfl
   ·have e4:J6 [none,some 4] (dSq (y1 5)) (w9 0) (x9 (z0P y1H y1H (z97 (W9 (y1 1))) (y1 0) (y2Y (W9 (y1 1))))) (y1 0) [some (.sh W),some (.sh R),some (.sh (.int (i:Int))),some (.sh (.int (j:Int))),some (.sh (.lst [.int a,.int b])),some (.sh (.lst [.int c,.int d])),none] =
      some (([.int c,.int d].filter fun x=>match x with|.int y=>btw a b y|_=>false).map id):=by
     refine (z01 (ds:=[.int c,.int d]) rfl (show 2≤LIM by decide)).trans ?_
     refine J7 (fun ρ=>∃c0,ρ=[c0,some (.sh (.lst [.int a,.int b]))]) (fun x=>match x with|.int y=>btw a b y|_=>false) id _ _ ⟨none,rfl⟩ ?_
     rintro x hx ρ ⟨c0,rfl⟩
     have key:∀y:Int,x9 (z0P y1H y1H (z97 (W9 (y1 1))) (y1 0) (y2Y (W9 (y1 1)))) [some (.sh (.int y)),some (.sh (.lst [.int a,.int b]))]=some (btw a b y):=fun y =>
      J3 (z5Q (x:=.int (min a b)) (y:=.int y) (z:=.int (max a b)) rfl rfl rfl (fun _=>rfl) fun _=>rfl)
     refine⟨_,rfl,⟨_,rfl⟩,?_,fun _=>rfl⟩
     rcases List.mem_cons.mp hx with rfl|hx
     ·exact key c
     ·obtain rfl:=List.mem_singleton.mp hx;exact key d
    rw[List.map_id]at e4
    generalize el:([.int c,.int d].filter fun x=>match x with|.int y=>btw a b y|_=>false:List D)=L at e4
    have eL:L=(if btw a b c=true then (if btw a b d=true then [.int c,.int d] else [.int c]) else (if btw a b d=true then [.int d] else [])):=by
     rw[←el,w39]
    refine u0 (r:=.rt .non) (Y6 (z5O e4)) ?_
    have e5:∀k:Int,x9 (d2 dEq (z8Y (dSq (y1 6))) (dC (.int k))) [some (.sh W),some (.sh R),some (.sh (.int (i:Int))),some (.sh (.int (j:Int))),some (.sh (.lst [.int a,.int b])),some (.sh (.lst [.int c,.int d])),some (.sh (.lst L))]=some ((L.length:Int)==k):=fun k=>rfl
    have e6:x9 (z0P y1H y1H (z97 (W9 (y1 5))) (z97 (W9 (y1 4))) (y2Y (W9 (y1 5)))) [some (.sh W),some (.sh R),some (.sh (.int (i:Int))),some (.sh (.int (j:Int))),some (.sh (.lst [.int a,.int b])),some (.sh (.lst [.int c,.int d])),some (.sh (.lst L))]=some (decide (min c d<min a b)&&decide (min a b<max c d)) :=
     J3 (z5Q (x:=.int (min c d)) (y:=.int (min a b)) (z:=.int (max c d)) rfl rfl rfl (fun _=>rfl) fun _=>rfl)
    have k1:((L.length:Int)==1)=((btw a b c&&!btw a b d)||(!btw a b c&&btw a b d)):=by rw[eL];cases btw a b c<;>cases btw a b d<;>rfl
    have k2:((L.length:Int)==2)=(btw a b c&&btw a b d):=by rw[eL];cases btw a b c<;>cases btw a b d<;>rfl
    have e51:=e5 1;have e52:=e5 2;rw[k1]at e51;rw[k2]at e52
    cases h1:((btw a b c&&!btw a b d)||(!btw a b c&&btw a b d)) with
    | true =>
     rw[h1]at e51;rw[if_pos rfl];exact z2W (Y4 e51)
    | false =>
     rw[h1]at e51;rw[if_neg Bool.false_ne_true];refine u0 (r:=.rt .non) (Y4 e51) ?_
     have e7:=z9Y e52 (fun _=>e6)
     cases h2:((btw a b c&&btw a b d)||(decide (min c d<min a b)&&decide (min a b<max c d))) with
     | true =>
      rw[h2]at e7;rw[if_pos rfl];exact z2W (Y4 e7)
     | false =>
      rw[h2]at e7;rw[if_neg Bool.false_ne_true];exact u0 (r:=.rt .non) (Y4 e7) rfl
 rw[fin];rfl
theorem z3W{s t:Tie}(h:tlt s t)(h':tlt t s):False:=z3I s (y1S h h')
theorem z9E:∀{xs ys:List Tie},xs.Pairwise tlt->ys.Pairwise tlt->(∀t,t∈xs↔t∈ys)->xs=ys
 | [],[],_,_,_=>rfl
 | [],y::ys,_,_,h=>absurd ((h y).mpr List.mem_cons_self) (by simp)
 | x::xs,[],_,_,h=>absurd ((h x).mp List.mem_cons_self) (by simp)
 | x::xs,y::ys,hx,hy,h=>by
  rw[List.pairwise_cons]at hx hy
  have e:x=y:=by
   rcases List.mem_cons.mp ((h x).mp List.mem_cons_self) with z|z
   ·exact z
   ·rcases List.mem_cons.mp ((h y).mpr List.mem_cons_self) with q|q
    ·exact q.symm
    ·exact absurd (hx.1 y q) fun w=>z3W w (hy.1 x z)
  subst e
  congr 1
  refine z9E hx.2 hy.2 fun t=>?_
  constructor
  ·intro ht
   rcases List.mem_cons.mp ((h t).mp (List.mem_cons_of_mem _ ht)) with z|z
   ·subst z;exact absurd (hx.1 _ ht) (z3I _)
   ·exact z
  ·intro ht
   rcases List.mem_cons.mp ((h t).mpr (List.mem_cons_of_mem _ ht)) with z|z
   ·subst z;exact absurd (hy.1 _ ht) (z3I _)
   ·exact z
theorem y2A{α:Type}[DecidableEq α]:∀(xs ys:List α),xs.Nodup->(∀x∈xs,x∈ys)->xs.length≤ys.length
 | [],_,_,_=>Nat.zero_le _
 | x::xs,ys,hn,h=>by
  rw[List.nodup_cons]at hn;have hx:=h x List.mem_cons_self
  have ih:=y2A xs (ys.erase x) hn.2 fun y hy=>(List.mem_erase_of_ne (fun e:y=x=>hn.1 (e▸hy))).mpr (h y (List.mem_cons_of_mem _ hy))
  rw[List.length_erase_of_mem hx]at ih
  have:0<ys.length:=List.length_pos_of_mem hx
  rw[List.length_cons];omega
def g9(m:Nat)(cl:Nat->Nat->Bool)(k:Nat):List Tie:=(List.range k).flatMap fun i=>(((List.range (m-(i+1))).map fun q=>i+1+q).filter (cl i)).map fun (j:Nat)=>((i:Int),(j:Int))
def Y0(cl:Nat->Nat->Bool)(k:Nat):List Tie:=(List.range k).flatMap fun j=>((List.range j).filter fun i=>cl i j).map fun (i:Nat)=>((i:Int),(j:Int))
theorem z2T{m k:Nat}{cl:Nat->Nat->Bool}{t:Tie}:t∈g9 m cl k↔∃i j:Nat,t=((i:Int),(j:Int))/\i<k/\i<j/\j<m/\cl i j=true:=by
 unfold g9;rw[List.mem_flatMap];constructor
 ·rintro ⟨i,hi,h⟩
  obtain⟨j,hj,rfl⟩:=List.mem_map.mp h;obtain⟨hj1,hj2⟩:=List.mem_filter.mp hj;obtain⟨q,hq,rfl⟩:=List.mem_map.mp hj1
  have:=List.mem_range.mp hi
  have:=List.mem_range.mp hq
  exact⟨i,i+1+q,rfl,by omega,by omega,by omega,hj2⟩
 ·rintro ⟨i,j,rfl,h1,h2,h3,h4⟩
  refine⟨i,List.mem_range.mpr h1,List.mem_map.mpr ⟨j,List.mem_filter.mpr ⟨List.mem_map.mpr ⟨j-(i+1),List.mem_range.mpr (by omega),by omega⟩,h4⟩,rfl⟩⟩
theorem z22{k:Nat}{cl:Nat->Nat->Bool}{t:Tie}:t∈Y0 cl k↔∃i j:Nat,t=((i:Int),(j:Int))/\i<j/\j<k/\cl i j=true:=by
 unfold Y0;rw[List.mem_flatMap];constructor
 ·rintro ⟨j,hj,h⟩
  obtain⟨i,hi,rfl⟩:=List.mem_map.mp h;obtain⟨hi1,hi2⟩:=List.mem_filter.mp hi
  exact⟨i,j,rfl,List.mem_range.mp hi1,List.mem_range.mp hj,hi2⟩
 ·rintro ⟨i,j,rfl,h1,h2,h3⟩
  exact⟨j,List.mem_range.mpr h2,List.mem_map.mpr ⟨i,List.mem_filter.mpr ⟨List.mem_range.mpr h1,h3⟩,rfl⟩⟩
theorem y27(m k:Nat)(cl:Nat->Nat->Bool):(g9 m cl k).Pairwise tlt:=by
 unfold g9;rw[List.pairwise_flatMap]
 refine⟨fun i _=>?_,?_⟩
 ·rw[List.pairwise_map];refine List.Pairwise.filter _ ?_;rw[List.pairwise_map]
  exact List.pairwise_lt_range.imp fun {a b} h=>by unfold tlt;dsimp only;omega
 ·refine List.pairwise_lt_range.imp fun {a b} h x hx y hy=>?_
  obtain⟨p,_,rfl⟩:=List.mem_map.mp hx;obtain⟨q,_,rfl⟩:=List.mem_map.mp hy;unfold tlt;dsimp only;omega
theorem z4I(k:Nat)(cl:Nat->Nat->Bool):(Y0 cl k).Nodup:=by
 unfold Y0 List.Nodup;rw[List.pairwise_flatMap]
 refine⟨fun j _=>?_,?_⟩
 ·rw[List.pairwise_map];refine List.Pairwise.filter _ ?_
  exact List.pairwise_lt_range.imp fun {a b} h z=>by have:=(Prod.mk.inj z).1;omega
 ·refine List.pairwise_lt_range.imp fun {a b} h x hx y hy z=>?_
  obtain⟨p,_,rfl⟩:=List.mem_map.mp hx;obtain⟨q,_,rfl⟩:=List.mem_map.mp hy
  have:=(Prod.mk.inj z).2
  omega
theorem x29(m:Nat)(cl:Nat->Nat->Bool):z6X (Y0 cl m)=g9 m cl m:=by
 refine z9E (y5A _ (z4I m cl)) (y27 m m cl) fun t=>?_
 rw[(z3Y _).mem_iff,z22,z2T];constructor
 ·rintro ⟨i,j,h1,h2,h3,h4⟩;exact⟨i,j,h1,by omega,h2,h3,h4⟩
 ·rintro ⟨i,j,h1,h2,h3,h4,h5⟩;exact⟨i,j,h1,h3,h4,h5⟩
def k15:List Tie:=[(0,1),(0,2),(0,3),(0,4),(0,5),(1,2),(1,3),(1,4),(1,5),(2,3),(2,4),(2,5),(3,4),(3,5),(4,5)]
theorem x0H{t:Tie}(h:0≤t.1/\t.1<t.2/\t.2<6):t∈k15:=by
 obtain⟨a,b⟩:=t;dsimp only at h
 have ha:a=0∨a=1∨a=2∨a=3∨a=4:=by omega
 have hb:b=1∨b=2∨b=3∨b=4∨b=5:=by omega
 rcases ha with rfl|rfl|rfl|rfl|rfl<;>rcases hb with rfl|rfl|rfl|rfl|rfl<;>first|(exfalso;omega)|decide
def dis(s t:Tie):Bool:=decide (tlt s t)&&!((decide (s.1=t.1)||decide (s.1=t.2))||(decide (s.2=t.1)||decide (s.2=t.2)))
def k45:List (Tie×Tie):=k15.flatMap fun s=>(k15.filter (dis s)).map fun t=>(s,t)
theorem x7P:k45.length=45:=by decide +kernel
def w22:List (Str×Str):=[("pile","cross"),("queue","within")]
theorem y07{k w:Str}(hk:w22.lookup k=some w)(s t:Tie):j6 [u3 s,u3 t,.str k]=some (.bl (lie s t==w)):=by
 have e:z07 [some (.sh (u3 s)),some (.sh (u3 t)),some (.sh (.str k))]=some (.rt (.bl (lie s t==w))):=by
  refine z1P ((z7P (x:=.str (lie s t)) (y:=.str w) ((u4 (ds:=[u3 s,u3 t]) rfl).trans (x47 s t)) ?_).trans rfl)
  show (match w22.lookup k with|some y=>some (D.str y)|none=>none)=_
  rw[hk]
 show z67 (z07 [some (.sh (u3 s)),some (.sh (u3 t)),some (.sh (.str k))])=_
 rw[e];rfl
def z05(r:List Int)(ts:List Tie)(i:Nat):Tie:=z18 r (ts.getD i (0,0))
def clP(r:List Int)(ts:List Tie)(w:Str)(i j:Nat):Bool:=lie (z05 r ts i) (z05 r ts j)==w
theorem z63{r:List Int}{ts:List Tie}{i:Nat}{s:Tie}(h:ts[i]?=some s):z05 r ts i=z18 r s:=by
 unfold z05;rw[List.getD_eq_getElem?_getD,h];rfl
theorem z49{r:List Int}{ts:List Tie}{j:Nat}(h:j<ts.length):atI (ts.map fun t=>u3 (z18 r t)) (j:Int)=some (u3 (z05 r ts j)):=by
 unfold atI;rw[List.length_map,y4B h]
 show (ts.map fun t=>u3 (z18 r t))[j]?=_
 rw[List.getElem?_map,List.getElem?_eq_getElem h,z63 (List.getElem?_eq_getElem h)];rfl
theorem y6D{r:List Int}{p q:Int}(hp:p∈r)(hq:q∈r)(h:p≠q):ixI r p≠ixI r q:=fun e=>by
 have e':r.idxOf p=r.idxOf q:=by unfold ixI at e;omega
 have l1:r.idxOf p<r.length:=List.idxOf_lt_length_of_mem hp;have l2:r.idxOf q<r.length:=List.idxOf_lt_length_of_mem hq
 have g1:r[r.idxOf p]?=some p:=by rw[List.getElem?_eq_getElem l1,List.getElem_idxOf]
 have g2:r[r.idxOf q]?=some q:=by rw[List.getElem?_eq_getElem l2,List.getElem_idxOf]
 rw[e',g2]at g1;exact h (Option.some.inj g1).symm
theorem x7M{r:List Int}{s t:Tie}(hs:s.1∈r/\s.2∈r)(ht:t.1∈r/\t.2∈r)(h1:s.1≠s.2)(h2:t.1≠t.2):z9T (ixI r s.1) (ixI r s.2) (ixI r t.1) (ixI r t.2)=lie (z18 r s) (z18 r t) :=
 (x7K (y6D hs.1 hs.2 h1) (y6D ht.1 ht.2 h2)).symm
def KW(k w:Str):Prop:=(k = "pile"/\w = "cross")∨(k = "queue"/\w = "within")
theorem KW.tab{k w:Str}(h:KW k w):w22.lookup k=some w:=by
 rcases h with⟨rfl,rfl⟩|⟨rfl,rfl⟩<;>decide +kernel
theorem KW.meet{k w:Str}(h:KW k w):(("meet":Str)==w)=false:=by
 rcases h with⟨rfl,rfl⟩|⟨rfl,rfl⟩<;>decide +kernel
theorem z5H(cl:Nat->Nat->Bool)(k:Nat):Y0 cl (k+1)=Y0 cl k++((List.range k).filter fun i=>cl i k).map fun (i:Nat)=>((i:Int),(k:Int)):=by
 unfold Y0;rw[List.range_succ,List.flatMap_append,List.flatMap_singleton]
theorem z6S(cl:Nat->Nat->Bool):∀k,k≤12->(Y0 cl k).length≤k*12
 | 0,_=>by unfold Y0;simp
 | k+1,h=>by
  have ih:=z6S cl k (by omega)
  rw[z5H,List.length_append,List.length_map]
  have:=List.length_filter_le (fun i=>cl i k) (List.range k)
  rw[List.length_range]at this;omega
theorem few{ts:List Tie}{r:List Int}{k w:Str}(hkw:KW k w)(hup:ts.Pairwise tlt)(hok:∀t∈ts,0≤t.1/\t.1<t.2/\t.2<6):(Y0 (clP r ts w) ts.length).length≤45:=by
 let f:Tie->Tie×Tie:=fun p=>(ts.getD p.1.toNat (0,0),ts.getD p.2.toNat (0,0))
 have at_:∀{i:Nat} (h:i<ts.length),ts.getD i (0,0)=ts[i]:=fun {i} h=>by rw[List.getD_eq_getElem?_getD,List.getElem?_eq_getElem h];rfl
 have hlt:∀{i j:Nat} (hj:j<ts.length) (h:i<j),tlt (ts[i]'(by omega)) ts[j]:=fun {i j} hj h=>List.pairwise_iff_getElem.mp hup i j (by omega) hj h
 have inj:∀{i j:Nat} (hi:i<ts.length) (hj:j<ts.length),ts[i]=ts[j]->i=j:=fun {i j} hi hj e=>by
  rcases Nat.lt_trichotomy i j with h|h|h
  ·have:=hlt hj h;rw[e]at this;exact absurd this (z3I _)
  ·exact h
  ·have:=hlt hi h;rw[e]at this;exact absurd this (z3I _)
 have hn:((Y0 (clP r ts w) ts.length).map f).Nodup:=by
  rw[List.Nodup,List.pairwise_map]
  refine (z4I ts.length (clP r ts w)).imp_of_mem fun {p q} hp hq hne e=>hne ?_
  obtain⟨i,j,rfl,h1,h2,_⟩:=z22.mp hp;obtain⟨i',j',rfl,h1',h2',_⟩:=z22.mp hq;have e1:ts.getD i (0,0)=ts.getD i' (0,0):=(Prod.mk.inj e).1;have e2:ts.getD j (0,0)=ts.getD j' (0,0):=(Prod.mk.inj e).2
  rw[at_ (by omega),at_ (by omega)]at e1
  rw[at_ h2,at_ h2']at e2;rw[inj _ _ e1,inj _ _ e2]
 have hm:∀x∈(Y0 (clP r ts w) ts.length).map f,x∈k45:=fun x hx=>by
  obtain⟨p,hp,rfl⟩:=List.mem_map.mp hx;obtain⟨i,j,rfl,h1,h2,hc⟩:=z22.mp hp
  show (ts.getD i (0,0),ts.getD j (0,0))∈k45
  have hs:=hok _ (List.getElem_mem (show i<ts.length by omega))
  have ht:=hok _ (List.getElem_mem h2)
  have hd:dis (ts.getD i (0,0)) (ts.getD j (0,0))=true:=by
   unfold dis
   rw[at_ (by omega),at_ h2,decide_eq_true (hlt h2 h1),Bool.true_and]
   cases hh:((decide ((ts[i]'(by omega)).1=ts[j].1)||decide ((ts[i]'(by omega)).1=ts[j].2))||(decide ((ts[i]'(by omega)).2=ts[j].1)||decide ((ts[i]'(by omega)).2=ts[j].2))) with
   | false=>rfl
   | true =>
    exfalso;simp only[Bool.or_eq_true,decide_eq_true_eq]at hh;unfold clP at hc
    rw[z63 (List.getElem?_eq_getElem (show i<ts.length by omega)),z63 (List.getElem?_eq_getElem h2)]at hc
    have hmeet:lie (z18 r (ts[i]'(by omega))) (z18 r ts[j]) = "meet":=by
     unfold lie z18;dsimp only;rw[if_pos]
     rcases hh with (z|z)|(z|z)<;>(rw[z];omega)
    rw[hmeet,hkw.meet]at hc;cases hc
  unfold k45;rw[List.mem_flatMap]
  refine⟨_,x0H (by rw[at_ (by omega)];exact hs),List.mem_map.mpr ⟨_,List.mem_filter.mpr ⟨x0H (by rw[at_ h2];exact ht),hd⟩,rfl⟩⟩
 have:=y2A _ _ hn hm
 rw[List.length_map,x7P]at this;exact this
def x4Y:z9->Option Out:=x88 4 (J6 [none,some 5,some 0,some 1,some 3] (z1R (y1 5)) (w9 0) (x9 (d2 dEq (w6 z3U (z6 (y1 2) (z6 (y1 3) (z6 (y1 0) (z6 (y1 1) (j0)))))) (y1 4))) (z1Q (z6 (y1 0) (z6 (y1 1) (j0)))))
theorem x09{n:Int}{ts:List Tie}{r:List Int}{k w:Str}{j:Nat}{found:List Tie}(hj:j<ts.length)(hm:ts.length≤12)(hf:found.length≤1000)(hmem:∀t∈ts,t.1∈r/\t.2∈r)(hne:∀t∈ts,t.1≠t.2) :
  x4Y [some (.sh (Z7 n ts)),some (.sh (.tup (r.map D.int))),some (.sh (.str k)),some (.sh (.str w)),some (.ow (found.map u3)),some (.sh (.int (j:Int)))] =
   some (.nx [some (.sh (Z7 n ts)),some (.sh (.tup (r.map D.int))),some (.sh (.str k)),some (.sh (.str w)),some (.ow ((found++((List.range j).filter fun i=>clP r ts w i j).map fun (i:Nat)=>((i:Int),(j:Int))).map u3)),some (.sh (.int (j:Int)))]):=by
 have e1:J6 [none,some 5,some 0,some 1,some 3] (z1R (y1 5)) (w9 0) (x9 (d2 dEq (w6 z3U (z6 (y1 2) (z6 (y1 3) (z6 (y1 0) (z6 (y1 1) (j0)))))) (y1 4))) (z1Q (z6 (y1 0) (z6 (y1 1) (j0))))
   [some (.sh (Z7 n ts)),some (.sh (.tup (r.map D.int))),some (.sh (.str k)),some (.sh (.str w)),some (.ow (found.map u3)),some (.sh (.int (j:Int)))]=some ((((List.range j).filter fun i=>clP r ts w i j).map fun (i:Nat)=>((i:Int),(j:Int))).map u3):=by
  have e0:z1R (y1 5) [some (.sh (Z7 n ts)),some (.sh (.tup (r.map D.int))),some (.sh (.str k)),some (.sh (.str w)),some (.ow (found.map u3)),some (.sh (.int (j:Int)))]=some ((List.range j).map fun (i:Nat)=>D.int (i:Int)):=by
   rw[z4V (j:=(j:Int)) rfl (by unfold okR;rw[decide_eq_true (by omega),decide_eq_true (by omega)];rfl),Int.toNat_natCast]
   unfold J0
   congr 1
   refine List.map_congr_left fun q _=>?_
   rw[Int.zero_add]
  refine (z01 e0 (by rw[List.length_map,List.length_range];unfold LIM;omega)).trans ?_
  refine (J7 (fun ρ=>∃c0,ρ=[c0,some (.sh (.int (j:Int))),some (.sh (Z7 n ts)),some (.sh (.tup (r.map D.int))),some (.sh (.str w))]) (fun d=>match d with|.int i=>clP r ts w i.toNat j|_=>false) (fun d=>.tup [d,.int (j:Int)]) _ _ ⟨none,rfl⟩ ?_).trans ?_
  ·rintro d hd ρ ⟨c0,rfl⟩
   obtain⟨i,hi,rfl⟩:=List.mem_map.mp hd
   have hi':i<ts.length:=by have:=List.mem_range.mp hi;omega
   refine⟨_,rfl,⟨_,rfl⟩,J3 ?_,fun _=>z6U (ds:=[.int (i:Int),.int (j:Int)]) rfl (show 2≤LIM by decide)⟩
   have gi:=List.getElem?_eq_getElem hi';have gj:=List.getElem?_eq_getElem hj;have mi:=List.getElem_mem hi';have mj:=List.getElem_mem hj;have hF:=y7B (n:=n) (r:=r) gi gj (hmem _ mi) (hmem _ mj);rw[x7M (hmem _ mi) (hmem _ mj) (hne _ mi) (hne _ mj),←z63 (r:=r) gi,←z63 (r:=r) gj]at hF;refine (z7P (x:=.str (lie (z05 r ts i) (z05 r ts j))) (y:=.str w) ((u4 (ds:=[Z7 n ts,.tup (r.map D.int),.int (i:Int),.int (j:Int)]) rfl).trans hF) rfl).trans ?_
   show some (D.bl (clP r ts w i j))=some (D.bl (clP r ts w (i:Int).toNat j))
   rw[Int.toNat_natCast]
  ·rw[List.filter_map,List.map_map,List.map_map];rfl
 refine (w1S (ds:=found.map u3) rfl e1 ?_).trans ?_
 ·rw[List.length_map,List.length_map,List.length_map]
  have:=List.length_filter_le (fun i=>clP r ts w i j) (List.range j)
  rw[List.length_range]at this;unfold LIM;omega
 ·rw[List.map_append];rfl
theorem z7D{n:Int}{ts:List Tie}{r:List Int}{k w:Str}(hkw:KW k w)(hm:ts.length≤12)(hup:ts.Pairwise tlt)(hok:∀t∈ts,0≤t.1/\t.1<t.2/\t.2<6)(hmem:∀t∈ts,t.1∈r/\t.2∈r) :
  z1J [Z7 n ts,.tup (r.map D.int),.str k]=some (.lst ((g9 ts.length (clP r ts w) ts.length).map u3)):=by
 have hne:∀t∈ts,t.1≠t.2:=fun t ht=>by have:=hok t ht;omega
 obtain⟨ρ',l1,c5,rfl⟩:=z40 (h:=w9 5) (g:=x4Y) (fun pre ρ=>∃c5,ρ=[some (.sh (Z7 n ts)),some (.sh (.tup (r.map D.int))),some (.sh (.str k)),some (.sh (.str w)),some (.ow ((Y0 (clP r ts w) pre.length).map u3)),c5])
  (ds:=J0 0 ts.length) (ρ:=[some (.sh (Z7 n ts)),some (.sh (.tup (r.map D.int))),some (.sh (.str k)),some (.sh (.str w)),some (.ow []),none]) ⟨none,rfl⟩ (fun pre d post ρ he hI=>by
   obtain⟨c5,rfl⟩:=hI;have hlen:=congrArg List.length he;rw[z03,List.length_append,List.length_cons]at hlen
   have hd:d = .int (pre.length:Int):=by
    have h1:(J0 0 ts.length)[pre.length]?=some d:=by rw[←he];simp
    rw[z8E (by omega)]at h1
    exact (Option.some.inj h1).symm
   subst hd
   refine⟨_,_,rfl,.inl (x09 (found:=Y0 (clP r ts w) pre.length) (by omega) hm ?_ hmem hne),⟨some (.sh (.int (pre.length:Int))),?_⟩⟩
   ·have:=z6S (clP r ts w) pre.length (by omega)
    omega
   ·rw[List.length_append,List.length_singleton,z5H])
 rw[z03]at l1
 have e3:dIx (y14 (z6 (dC (.str "cross")) (z6 (dC (.str "within")) (j0)))) (w6 x8K (z6 (d2 dEq (y1 2) (dC (.str "queue"))) j0)) [some (.sh (Z7 n ts)),some (.sh (.tup (r.map D.int))),some (.sh (.str k)),none,none,none]=some (.str w):=by
  refine (z5P (ds:=[.str "cross",.str "within"]) (j:=if k=="queue" then 1 else 0) (y6E rfl (show 2≤LIM by decide)) ?_).trans ?_
  ·refine (u4 (ds:=[.bl (k=="queue")]) rfl).trans ?_
   rcases hkw with⟨rfl,rfl⟩|⟨rfl,rfl⟩
   ·rw[show (("pile":Str)=="queue")=false by decide +kernel];rfl
   ·rw[show (("queue":Str)=="queue")=true by decide +kernel];rfl
  ·rcases hkw with⟨rfl,rfl⟩|⟨rfl,rfl⟩
   ·rw[show (("pile":Str)=="queue")=false by decide +kernel];rfl
   ·rw[show (("queue":Str)=="queue")=true by decide +kernel];rfl
 have fin:z1H [some (.sh (Z7 n ts)),some (.sh (.tup (r.map D.int))),some (.sh (.str k)),none,none,none]=some (.rt (.lst ((g9 ts.length (clP r ts w) ts.length).map u3))):=by
  refine u0 (r:=.rt .non) (Y6 e3) ?_
  refine u0 (r:=.rt .non) (y0Y (ds:=[]) (y6E (ds:=[]) rfl (by decide))) ?_
  refine u0 (r:=.rt .non) ((z24 (ds:=J0 0 ts.length) ?_).trans l1) ?_
  ·have e4:=z4V (fa:=z8Y (dSq (dIx (dSq (y1 0)) (dC (.int 1))))) (ρ:=[some (.sh (Z7 n ts)),some (.sh (.tup (r.map D.int))),some (.sh (.str k)),some (.sh (.str w)),some (.ow []),none]) (j:=((ts.map u3).length:Int)) rfl (by rw[List.length_map];unfold okR;rw[decide_eq_true (by omega),decide_eq_true (by omega)];rfl)
   rw[List.length_map,Int.toNat_natCast]at e4;exact e4
  ·refine z1P (z5O ((x80 (ds:=(Y0 (clP r ts w) ts.length).map u3) rfl).trans ?_))
   rw[z9I (by have:=few (r:=r) hkw hup hok;omega),x29]
 show z67 (z1H [some (.sh (Z7 n ts)),some (.sh (.tup (r.map D.int))),some (.sh (.str k)),none,none,none])=_
 rw[fin];rfl
end P
namespace P
section
variable{cl:Nat->Nat->Bool}
def PW(cl:Nat->Nat->Bool)(e:List Nat):Prop:=e.Pairwise fun i j=>cl i j=true
instance (cl:Nat->Nat->Bool) (e:List Nat):Decidable (PW cl e):=by unfold PW;exact inferInstance
structure Chs(cl:Nat->Nat->Bool)(done:List Nat)(cs:List (List Nat)):Prop where
 ok:∀c∈cs,PW cl c/\c.Sublist done/\c≠[]
 top:∀e:List Nat,e.Sublist done->PW cl e->∀t:Nat,e.getLast?=some t->∃c∈cs,c.getLast?=some t/\e.length≤c.length
theorem Chs.zero:Chs cl [] []:=⟨(fun c h=>by cases h),(fun e h _ t ht=>by rw[List.sublist_nil.mp h]at ht;cases ht)⟩
theorem x5M{e:List Nat}{t:Nat}(h:e.Sublist [t]):e=[]∨e=[t]:=by
 cases h with
 | cons _ h=>exact .inl (List.sublist_nil.mp h)
 | cons_cons _ h=>exact .inr (by rw[List.sublist_nil.mp h])
theorem Chs.step{done:List Nat}{cs:List (List Nat)}{t:Nat}{b:List Nat}(h:Chs cl done cs)(tr:∀x y,[x,y].Sublist done->cl x y=true->cl y t=true->cl x t=true)(hb:b=[]∨(b∈cs/\∃u,b.getLast?=some u/\cl u t=true))(hm:∀c∈cs,(∃u,c.getLast?=some u/\cl u t=true)->c.length≤b.length):Chs cl (done++[t]) (cs++[b++[t]]):=by
 have bok:PW cl (b++[t])/\(b++[t]).Sublist (done++[t]):=by
  rcases hb with rfl|⟨hbc,u,hu,hut⟩
  ·exact⟨List.pairwise_singleton _ _,List.Sublist.append (List.nil_sublist _) (List.Sublist.refl _)⟩
  ·obtain⟨p1,p2,_⟩:=h.ok b hbc
   refine⟨List.pairwise_append.mpr ⟨p1,List.pairwise_singleton _ _,fun x hx y hy=>?_⟩,List.Sublist.append p2 (List.Sublist.refl _)⟩
   rw[List.mem_singleton.mp hy];obtain⟨ys,rfl⟩:=List.getLast?_eq_some_iff.mp hu
   rcases List.mem_append.mp hx with z|z
   ·refine tr x u (List.Sublist.trans ?_ p2) ((List.pairwise_append.mp p1).2.2 x z u (List.mem_singleton.mpr rfl)) hut;exact List.Sublist.append (List.singleton_sublist.mpr z) (List.Sublist.refl [u])
   ·rw[List.mem_singleton.mp z];exact hut
 refine⟨fun c hc=>?_,fun e he pe s hs=>?_⟩
 ·rcases List.mem_append.mp hc with z|z
  ·obtain⟨p1,p2,p3⟩:=h.ok c z
   exact⟨p1,p2.trans (List.sublist_append_left _ _),p3⟩
  ·rw[List.mem_singleton.mp z]
   exact⟨bok.1,bok.2,by simp⟩
 ·obtain⟨e1,e2,rfl,s1,s2⟩:=List.sublist_append_iff.mp he
  rcases x5M s2 with rfl|rfl
  ·rw[List.append_nil]at hs pe ⊢;obtain⟨c,hc,q1,q2⟩:=h.top e1 s1 pe s hs
   exact⟨c,List.mem_append_left _ hc,q1,q2⟩
  ·rw[List.getLast?_append]at hs
   have hst:s=t:=by simpa using hs.symm
   subst hst
   refine⟨b++[s],List.mem_append_right _ (List.mem_singleton.mpr rfl),by simp,?_⟩
   rw[List.length_append,List.length_append];refine Nat.add_le_add_right ?_ _
   cases hl:e1.getLast? with
   | none=>rw[List.getLast?_eq_none_iff.mp hl];exact Nat.zero_le _
   | some u =>
    obtain⟨c,hc,q1,q2⟩:=h.top e1 s1 (List.pairwise_append.mp pe).1 u hl;have mu:u∈e1:=List.mem_of_getLast? hl;exact Nat.le_trans q2 (hm c hc ⟨u,q1,(List.pairwise_append.mp pe).2.2 u mu s (List.mem_singleton.mpr rfl)⟩)
def x8O(cs:List (List Nat))(b:List Nat):Prop:=(cs=[]/\b=[])∨(b∈cs/\∀c∈cs,c.length≤b.length)
theorem Chs.best{L:List Nat}{cs:List (List Nat)}{b:List Nat}(h:Chs cl L cs)(hb:x8O cs b):PW cl b/\b.Sublist L/\∀e:List Nat,e.Sublist L->PW cl e->e.length≤b.length:=by
 have top:∀e:List Nat,e.Sublist L->PW cl e->e=[]∨∃c∈cs,e.length≤c.length:=fun e he pe=>by
  cases hl:e.getLast? with
  | none=>exact .inl (List.getLast?_eq_none_iff.mp hl)
  | some u =>
   obtain⟨c,hc,_,q⟩:=h.top e he pe u hl;exact .inr ⟨c,hc,q⟩
 rcases hb with⟨rfl,rfl⟩|⟨hb,hm⟩
 ·refine⟨List.Pairwise.nil,List.nil_sublist _,fun e he pe=>?_⟩
  rcases top e he pe with rfl|⟨c,hc,_⟩
  ·exact Nat.le_refl _
  ·cases hc
 ·obtain⟨p1,p2,_⟩:=h.ok b hb
  refine⟨p1,p2,fun e he pe=>?_⟩
  rcases top e he pe with rfl|⟨c,hc,q⟩
  ·exact Nat.zero_le _
  ·exact Nat.le_trans q (hm c hc)
theorem x8O.step{cs:List (List Nat)}{b:List Nat}{t:Nat}{p:List Nat->Bool}(hp:∀c∈cs,c≠[])(hb:x8O (cs.filter p) b)(hpe:∀c∈cs,p c=true↔∃u,c.getLast?=some u/\cl u t=true) :
  (b=[]∨(b∈cs/\∃u,b.getLast?=some u/\cl u t=true))/\(∀c∈cs,(∃u,c.getLast?=some u/\cl u t=true)->c.length≤b.length):=by
 rcases hb with⟨h1,rfl⟩|⟨h1,h2⟩
 ·refine⟨.inl rfl,fun c hc hu=>?_⟩
  have:c∈cs.filter p:=List.mem_filter.mpr ⟨hc,(hpe c hc).mpr hu⟩
  rw[h1]at this;cases this
 ·obtain⟨m1,m2⟩:=List.mem_filter.mp h1
  exact⟨.inr ⟨m1,(hpe b m1).mp m2⟩,fun c hc hu=>h2 c (List.mem_filter.mpr ⟨hc,(hpe c hc).mpr hu⟩)⟩
theorem y5G(hs:∀i j,cl i j=cl j i):∀{S:List Nat},PW cl S->∀{x y},x∈S->y∈S->x≠y->cl x y=true
 | [],_,_,_,h,_,_=>by cases h
 | a::S,hp,x,y,hx,hy,hne=>by
  have hp':=List.pairwise_cons.mp hp
  rcases List.mem_cons.mp hx with rfl|hx
  ·rcases List.mem_cons.mp hy with rfl|hy
   ·exact absurd rfl hne
   ·exact hp'.1 y hy
  ·rcases List.mem_cons.mp hy with z|hy
   ·rw[hs,z];exact hp'.1 x hx
   ·exact y5G hs hp'.2 hx hy hne
theorem w0K{S:List Nat}(hn:S.Nodup)(h:∀x∈S,∀y∈S,x≠y->cl x y=true):PW cl S:=List.Pairwise.imp_of_mem (fun {a b} ha hb hab=>h a ha b hb hab) hn
theorem x6N(hs:∀i j,cl i j=cl j i){S T:List Nat}(hn:S.Nodup)(hp:S.Perm T)(h:PW cl S):PW cl T :=
 w0K (hp.nodup_iff.mp hn) fun x hx y hy hne=>y5G hs h (hp.mem_iff.mpr hx) (hp.mem_iff.mpr hy) hne
theorem z21{α:Type}[DecidableEq α]:∀(xs ys:List α),xs.Nodup->(∀x∈xs,x∈ys)->xs.length≤ys.length
 | [],_,_,_=>Nat.zero_le _
 | x::xs,ys,hn,hs=>by
  have hn':=List.nodup_cons.mp hn;have hx:x∈ys:=hs x List.mem_cons_self
  have:=z21 xs (ys.erase x) hn'.2 fun y hy=>(List.mem_erase_of_ne (a:=y) (b:=x) (fun z=>hn'.1 (by rw[←z];exact hy))).mpr (hs y (List.mem_cons_of_mem _ hy))
  rw[List.length_erase_of_mem hx]at this;have hpos:0<ys.length:=List.length_pos_of_mem hx;rw[List.length_cons];omega
theorem x57(hs:∀i j,cl i j=cl j i){L S:List Nat}(hL:L.Nodup)(hS:S.Nodup)(hin:∀x∈S,x∈L)(hp:PW cl S):∃e:List Nat,e.Sublist L/\PW cl e/\S.length≤e.length:=by
 refine⟨L.filter fun x=>decide (x∈S),List.filter_sublist,?_,z21 S _ hS fun x hx=>List.mem_filter.mpr ⟨hin x hx,decide_eq_true hx⟩⟩
 refine w0K (hL.sublist List.filter_sublist) fun x hx y hy hne=>y5G hs hp ?_ ?_ hne
 ·exact of_decide_eq_true (List.mem_filter.mp hx).2
 ·exact of_decide_eq_true (List.mem_filter.mp hy).2
structure Grt(m:Nat)(cl:Nat->Nat->Bool)(over:Nat->List Nat)(k:Nat)(f:List Nat):Prop where
 pw:PW cl f
 nd:f.Nodup
 lt:∀x∈f,x<m
 top:∀g,g<k->∀e:List Nat,e.Sublist (over g)->PW cl e->e.length≤f.length
theorem Grt.zero{m:Nat}{over:Nat->List Nat}:Grt m cl over 0 []:=⟨List.Pairwise.nil,List.Pairwise.nil,(fun x h=>by cases h),(fun g h=>absurd h (Nat.not_lt_zero _))⟩
theorem Grt.step{m k:Nat}{over:Nat->List Nat}{f b:List Nat}(h:Grt m cl over k f)(ho:(over k).Nodup)(hl:∀x∈over k,x<m)(hb:PW cl b/\b.Sublist (over k)/\∀e:List Nat,e.Sublist (over k)->PW cl e->e.length≤b.length) :
  Grt m cl over (k+1) (if f.length<b.length then b else f):=by
 obtain⟨b1,b2,b3⟩:=hb;by_cases hc:f.length<b.length
 ·rw[if_pos hc]
  refine⟨b1,ho.sublist b2,fun x hx=>hl x (b2.subset hx),fun g hg e he pe=>?_⟩
  rcases Nat.lt_succ_iff_lt_or_eq.mp hg with z|rfl
  ·exact Nat.le_trans (h.top g z e he pe) (Nat.le_of_lt hc)
  ·exact b3 e he pe
 ·rw[if_neg hc]
  refine⟨h.pw,h.nd,h.lt,fun g hg e he pe=>?_⟩
  rcases Nat.lt_succ_iff_lt_or_eq.mp hg with z|rfl
  ·exact h.top g z e he pe
  ·exact Nat.le_trans (b3 e he pe) (Nat.le_of_not_lt hc)
theorem Grt.all{m k:Nat}{over:Nat->List Nat}{f:List Nat}(h:Grt m cl over k f)(hs:∀i j,cl i j=cl j i)(ho:∀g,g<k->(over g).Nodup)(helly:∀S:List Nat,S≠[]->S.Nodup->(∀x∈S,x<m)->PW cl S->∃g,g<k/\∀x∈S,x∈over g){S:List Nat}(hn:S.Nodup)(hl:∀x∈S,x<m)(hp:PW cl S):S.length≤f.length:=by
 by_cases hS:S=[]
 ·rw[hS];exact Nat.zero_le _
 ·obtain⟨g,hg,hin⟩:=helly S hS hn hl hp;obtain⟨e,e1,e2,e3⟩:=x57 hs (ho g hg) hn hin hp;exact Nat.le_trans e3 (h.top g hg e e1 e2)
structure IsMost(cl:Nat->Nat->Bool)(chosen left:List Nat)(R:Nat):Prop where
 has:∃e:List Nat,e.Sublist left/\PW cl (chosen++e)/\R=chosen.length+e.length
 top:∀e:List Nat,e.Sublist left->PW cl (chosen++e)->chosen.length+e.length≤R
structure MostTo(cl:Nat->Nat->Bool)(chosen pre post:List Nat)(R:Nat):Prop where
 has:∃e:List Nat,e.Sublist (pre++post)/\PW cl (chosen++e)/\R=chosen.length+e.length
 le:chosen.length≤R
 top:∀(p:List Nat) (t:Nat) (q:List Nat),p++t::q=pre->∀e:List Nat,e.Sublist (q++post)->PW cl (chosen++t::e)->chosen.length+(e.length+1)≤R
theorem MostTo.zero{chosen left:List Nat}(h:PW cl chosen):MostTo cl chosen [] left chosen.length :=
 ⟨⟨[],List.nil_sublist _,by rw[List.append_nil];exact h,rfl⟩,Nat.le_refl _,fun p t q e=>absurd e (by simp)⟩
theorem MostTo.all{chosen left:List Nat}{R:Nat}(h:MostTo cl chosen left [] R):IsMost cl chosen left R:=by
 refine⟨by have:=h.has;rw[List.append_nil]at this;exact this,fun e he pe=>?_⟩
 cases e with
 | nil=>exact h.le
 | cons t e =>
  obtain⟨r1,r2,er,ht,hs⟩:=List.cons_sublist_iff.mp he;obtain⟨p,q,rfl⟩:=List.append_of_mem ht
  refine h.top p t (q++r2) (by rw[er];simp) e ?_ pe
  rw[List.append_nil];exact hs.trans (List.sublist_append_right _ _)
theorem z9G{p q pre:List Nat}{t u:Nat}(e:p++t::q=pre++[u]):(p=pre/\t=u/\q=[])∨∃q',q=q'++[u]/\p++t::q'=pre:=by
 rcases List.eq_nil_or_concat q with rfl|⟨q',v,rfl⟩
 ·have:=List.append_inj' e rfl
  exact .inl ⟨this.1,by simpa using this.2,rfl⟩
 ·have e':(p++t::q')++[v]=pre++[u]:=by rw[←e];simp
  have:=List.append_inj' e' rfl
  have hv:v=u:=by simpa using this.2
  exact .inr ⟨q',by rw[hv];simp,this.1⟩
theorem MostTo.skip{chosen pre post:List Nat}{u:Nat}{R:Nat}(h:MostTo cl chosen pre (u::post) R)(hu:¬∀x∈chosen,cl x u=true):MostTo cl chosen (pre++[u]) post R:=by
 refine⟨by have:=h.has;rw[List.append_assoc];exact this,h.le,fun p t q e e' he pe=>?_⟩
 rcases z9G e with⟨_,rfl,_⟩|⟨q',rfl,eq⟩
 ·refine absurd (fun x hx=>?_) hu
  exact (List.pairwise_append.mp pe).2.2 x hx t List.mem_cons_self
 ·refine h.top p t q' eq e' ?_ pe;rw[List.append_assoc]at he;exact he
theorem MostTo.take{chosen pre post:List Nat}{u:Nat}{R R':Nat}(h:MostTo cl chosen pre (u::post) R)(hr:IsMost cl (chosen++[u]) post R'):MostTo cl chosen (pre++[u]) post (max R R'):=by
 refine⟨?_,Nat.le_trans h.le (Nat.le_max_left _ _),fun p t q e e' he pe=>?_⟩
 ·by_cases hm:R≤R'
  ·rw[Nat.max_eq_right hm];obtain⟨e,e1,e2,e3⟩:=hr.has
   refine⟨u::e,?_,by rw[List.append_assoc]at e2;exact e2,by rw[e3,List.length_append,List.length_singleton,List.length_cons];omega⟩
   rw[List.append_assoc];exact (List.Sublist.cons_cons u e1).trans (List.sublist_append_right _ _)
  ·rw[Nat.max_eq_left (by omega)]
   have:=h.has
   rw[List.append_assoc];exact this
 ·rcases z9G e with⟨_,rfl,rfl⟩|⟨q',rfl,eq⟩
  ·have:=hr.top e' he (by rw[List.append_assoc];exact pe)
   rw[List.length_append,List.length_singleton]at this
   exact Nat.le_trans (by omega) (Nat.le_trans this (Nat.le_max_right _ _))
  ·refine Nat.le_trans (h.top p t q' eq e' ?_ pe) (Nat.le_max_left _ _);rw[List.append_assoc]at he;exact he
end
end P
namespace P
open PySem L2 L3
theorem y5Z(s t:Tie):lie s t=lie t s:=by
 unfold lie;by_cases h:s.1=t.1∨s.1=t.2∨s.2=t.1∨s.2=t.2
 ·rw[if_pos h,if_pos (by omega)]
 ·have h':¬(t.1=s.1∨t.1=s.2∨t.2=s.1∨t.2=s.2):=by omega
  rw[if_neg h,if_neg h']
  rcases z3H s t with z|z|z
  ·have z':¬tlt t s:=fun q=>z3W z q
   rw[if_neg z',if_pos z,if_pos z,if_neg z']
  ·subst z;exact absurd (.inl rfl) h
  ·have z':¬tlt s t:=fun q=>z3W z q
   rw[if_pos z,if_neg z',if_neg z',if_pos z]
theorem x4S{s t:Tie}(h:tlt s t):lie s t=(if s.1=t.1∨s.1=t.2∨s.2=t.1∨s.2=t.2 then ("meet":Str) else if s.2<t.1 then ("apart":Str) else if s.2<t.2 then ("cross":Str) else ("within":Str):Str):=by
 unfold lie
 rw[if_neg (fun q=>z3W h q),if_pos h]
theorem x4A{s t:Tie}(h:tlt s t):s.1≤t.1:=by unfold tlt at h;omega
theorem z3M{s t:Tie}(h:tlt s t)(hs:s.1<s.2)(ht:t.1<t.2):lie s t = "cross"↔(s.1<t.1/\t.1<s.2/\s.2<t.2):=by
 have hl:=x4A h;rw[x4S h];by_cases h1:s.1=t.1∨s.1=t.2∨s.2=t.1∨s.2=t.2
 ·rw[if_pos h1]
  exact⟨fun e=>absurd e (by decide),fun e=>by omega⟩
 ·rw[if_neg h1];by_cases h2:s.2<t.1
  ·rw[if_pos h2]
   exact⟨fun e=>absurd e (by decide),fun e=>by omega⟩
  ·rw[if_neg h2];by_cases h3:s.2<t.2
   ·rw[if_pos h3]
    exact⟨fun _=>by omega,fun _=>rfl⟩
   ·rw[if_neg h3]
    exact⟨fun e=>absurd e (by decide),fun e=>by omega⟩
theorem z2J{s t:Tie}(h:tlt s t)(hs:s.1<s.2)(ht:t.1<t.2):lie s t = "within"↔(s.1<t.1/\t.2<s.2):=by
 have hl:=x4A h;rw[x4S h];by_cases h1:s.1=t.1∨s.1=t.2∨s.2=t.1∨s.2=t.2
 ·rw[if_pos h1]
  exact⟨fun e=>absurd e (by decide),fun e=>by omega⟩
 ·rw[if_neg h1];by_cases h2:s.2<t.1
  ·rw[if_pos h2]
   exact⟨fun e=>absurd e (by decide),fun e=>by omega⟩
  ·rw[if_neg h2];by_cases h3:s.2<t.2
   ·rw[if_pos h3]
    exact⟨fun e=>absurd e (by decide),fun e=>by omega⟩
   ·rw[if_neg h3]
    exact⟨fun _=>by omega,fun _=>rfl⟩
theorem w1D{k w:Str}(hk:KW k w){s t u:Tie}(h1:tlt s t)(h2:tlt t u)(hs:s.1<s.2)(ht:t.1<t.2)(hu:u.1<u.2)(hg:u.1<s.2)(a:lie s t=w)(b:lie t u=w):lie s u=w:=by
 have h3:=y1S h1 h2
 rcases hk with⟨_,rfl⟩|⟨_,rfl⟩
 ·have a':=(z3M h1 hs ht).mp a;have b':=(z3M h2 ht hu).mp b
  exact (z3M h3 hs hu).mpr (by omega)
 ·have a':=(z2J h1 hs ht).mp a;have b':=(z2J h2 ht hu).mp b
  exact (z2J h3 hs hu).mpr (by omega)
theorem x3G{k w:Str}(hk:KW k w){s t:Tie}(hs:s.1<s.2)(ht:t.1<t.2)(a:lie s t=w):s.1<t.2/\t.1<s.2:=by
 rcases z3H s t with z|z|z
 ·rcases hk with⟨_,rfl⟩|⟨_,rfl⟩
  ·have:=(z3M z hs ht).mp a;omega
  ·have:=(z2J z hs ht).mp a;omega
 ·subst z;exact⟨hs,ht⟩
 ·rw[y5Z]at a
  rcases hk with⟨_,rfl⟩|⟨_,rfl⟩
  ·have:=(z3M z ht hs).mp a;omega
  ·have:=(z2J z ht hs).mp a;omega
structure Lay(n:Int)(ts:List Tie)(r:List Int):Prop where
 up:ts.Pairwise tlt
 ok:∀t∈ts,0≤t.1/\t.1<t.2/\t.2<n
 nd:r.Nodup
 len:(r.length:Int)=n
 mem:∀t∈ts,t.1∈r/\t.2∈r
 n6:n≤6
 m12:ts.length≤12
section
variable{n:Int}{ts:List Tie}{r:List Int}{k w:Str}
theorem Lay.rl(h:Lay n ts r):r.length≤1000:=by have:=h.len;have:=h.n6;omega
theorem Lay.hm'(h:Lay n ts r):ts.length≤1000:=by have:=h.m12;omega
theorem w1N(r:List Int)(p:Int):0≤ixI r p:=by unfold ixI;omega
theorem w1O{r:List Int}{p:Int}(h:p∈r):ixI r p<(r.length:Int):=by
 unfold ixI
 have:=List.idxOf_lt_length_of_mem h
 omega
theorem Lay.sp(h:Lay n ts r){i:Nat}(hi:i<ts.length):∃t∈ts,ts[i]?=some t/\z05 r ts i=z18 r t :=
 ⟨ts[i],List.getElem_mem hi,List.getElem?_eq_getElem hi,z63 (List.getElem?_eq_getElem hi)⟩
theorem Lay.sp_ok(h:Lay n ts r){i:Nat}(hi:i<ts.length):0≤(z05 r ts i).1/\(z05 r ts i).1<(z05 r ts i).2/\(z05 r ts i).2<n:=by
 obtain⟨t,ht,_,e⟩:=h.sp hi;rw[e];unfold z18;dsimp only;have hm:=h.mem t ht
 have hne:=y6D hm.1 hm.2 (by have:=h.ok t ht;omega)
 have a1:=w1N r t.1;have a2:=w1N r t.2;have b1:=w1O hm.1;have b2:=w1O hm.2
 have:=h.len
 omega
theorem y67{r:List Int}{p q:Int}(hp:p∈r)(hq:q∈r)(e:ixI r p=ixI r q):p=q:=by
 by_cases h:p=q
 ·exact h
 ·exact absurd e (y6D hp hq h)
theorem Lay.sp_inj(h:Lay n ts r){i j:Nat}(hi:i<ts.length)(hj:j<ts.length)(e:z05 r ts i=z05 r ts j):i=j:=by
 obtain⟨s,hs,gs,es⟩:=h.sp hi;obtain⟨t,ht,gt,et⟩:=h.sp hj;rw[es,et]at e;unfold z18 at e;have e1:=congrArg Prod.fst e;have e2:=congrArg Prod.snd e;dsimp only at e1 e2;have ms:=h.mem s hs;have mt:=h.mem t ht;have os:=h.ok s hs;have ot:=h.ok t ht
 have hc:(ixI r s.1=ixI r t.1/\ixI r s.2=ixI r t.2)∨(ixI r s.1=ixI r t.2/\ixI r s.2=ixI r t.1):=by omega
 have est:s=t:=by
  rcases hc with⟨c1,c2⟩|⟨c1,c2⟩
  ·exact Prod.ext (y67 ms.1 mt.1 c1) (y67 ms.2 mt.2 c2)
  ·have q1:=y67 ms.1 mt.2 c1;have q2:=y67 ms.2 mt.1 c2;omega
 subst est;have gi:=(List.getElem?_eq_some_iff.mp gs).2;have gj:=(List.getElem?_eq_some_iff.mp gt).2;have pw:=List.pairwise_iff_getElem.mp h.up
 rcases Nat.lt_trichotomy i j with q|q|q
 ·have:=pw i j hi hj q
  rw[gi,gj]at this;exact absurd this (z3I _)
 ·exact q
 ·have:=pw j i hj hi q
  rw[gi,gj]at this;exact absurd this (z3I _)
theorem z7Q(i j:Nat):clP r ts w i j=clP r ts w j i:=by unfold clP;rw[y5Z]
theorem y15{i j:Nat}:clP r ts w i j=true↔lie (z05 r ts i) (z05 r ts j)=w:=by unfold clP;exact beq_iff_eq
def z3A(r:List Int)(ts:List Tie)(g:Nat)(i:Nat):Bool:=decide ((z05 r ts i).1≤(g:Int))&&decide ((g:Int)<(z05 r ts i).2)
def x4V(r:List Int)(ts:List Tie)(i j:Nat):Bool:=leL (z6M (z05 r ts i)) (z6M (z05 r ts j))
def ovr(r:List Int)(ts:List Tie)(g:Nat):List Nat:=((List.range ts.length).filter (z3A r ts g)).mergeSort (x4V r ts)
theorem y5N(g:Nat):(ovr r ts g).Perm ((List.range ts.length).filter (z3A r ts g)):=List.mergeSort_perm _ _
theorem z28{g i:Nat}:i∈ovr r ts g↔i<ts.length/\z3A r ts g i=true:=by
 rw[(y5N g).mem_iff,List.mem_filter,List.mem_range]
theorem z5D(g:Nat):(ovr r ts g).Nodup:=(y5N g).nodup_iff.mpr (List.nodup_range.sublist List.filter_sublist)
theorem Lay.ovr_up(h:Lay n ts r)(g:Nat):(ovr r ts g).Pairwise fun i j=>tlt (z05 r ts i) (z05 r ts j):=by
 have h1:(ovr r ts g).Pairwise fun i j=>x4V r ts i j=true:=List.pairwise_mergeSort (fun a b c h1 h2=>by
  unfold x4V leL at h1 h2 ⊢;simp only[Bool.not_eq_true']at h1 h2 ⊢
  exact z5G _ _ _ h1 h2) (fun a b=>by
  unfold x4V leL
  have:=z68 (z05 r ts a) (z05 r ts b)
  have h2:=z68 (z05 r ts b) (z05 r ts a);unfold z6M;rw[this,h2]
  rcases z3H (z05 r ts a) (z05 r ts b) with z|z|z
  ·rw[decide_eq_false (fun q=>z3W z q)];rfl
  ·rw[z,decide_eq_false (z3I _)];rfl
  ·rw[decide_eq_false (fun q=>z3W z q)];simp) _
 refine List.Pairwise.imp_of_mem (fun {a b} ha hb q=>?_) (h1.and (z5D g))
 have la:=(z28.mp ha).1;have lb:=(z28.mp hb).1;obtain⟨q1,q2⟩:=q;unfold x4V leL at q1;have l2:=z68 (z05 r ts b) (z05 r ts a);unfold z6M at q1;rw[l2]at q1
 rcases z3H (z05 r ts a) (z05 r ts b) with z|z|z
 ·exact z
 ·exact absurd (h.sp_inj la lb z) q2
 ·rw[decide_eq_true z]at q1;cases q1
theorem Lay.helly(h:Lay n ts r)(hk:KW k w){S:List Nat}(hS:S≠[])(hl:∀x∈S,x<ts.length)(hp:PW (clP r ts w) S):∃g:Nat,(g:Int)<n-1/\∀x∈S,x∈ovr r ts g:=by
 have mx:∀T:List Nat,T≠[]->(∀x∈T,x<ts.length)->∃a∈T,∀b∈T,(z05 r ts b).1≤(z05 r ts a).1:=by
  intro T
  induction T with
  | nil=>intro e;exact absurd rfl e
  | cons x T ih =>
   intro _ hl;by_cases hT:T=[]
   ·subst hT
    exact⟨x,List.mem_cons_self,fun b hb=>by rw[List.mem_singleton.mp hb];exact Int.le_refl _⟩
   ·obtain⟨a,ha,hb⟩:=ih hT fun y hy=>hl y (List.mem_cons_of_mem _ hy)
    by_cases hc:(z05 r ts a).1≤(z05 r ts x).1
    ·refine⟨x,List.mem_cons_self,fun b hb'=>?_⟩
     rcases List.mem_cons.mp hb' with rfl|z
     ·exact Int.le_refl _
     ·exact Int.le_trans (hb b z) hc
    ·refine⟨a,List.mem_cons_of_mem _ ha,fun b hb'=>?_⟩
     rcases List.mem_cons.mp hb' with rfl|z
     ·omega
     ·exact hb b z
 obtain⟨a,ha,hmax⟩:=mx S hS hl;have oa:=h.sp_ok (hl a ha)
 refine⟨(z05 r ts a).1.toNat,by omega,fun x hx=>z28.mpr ⟨hl x hx,?_⟩⟩
 have ox:=h.sp_ok (hl x hx);have e:((z05 r ts a).1.toNat:Int)=(z05 r ts a).1:=Int.toNat_of_nonneg oa.1;unfold z3A;rw[e,decide_eq_true (hmax x hx)];by_cases hxa:x=a
 ·subst hxa;rw[decide_eq_true oa.2.1];rfl
 ·have:=y15.mp (y5G (fun i j=>z7Q (r:=r) (ts:=ts) (w:=w) i j) hp hx ha hxa)
  rw[decide_eq_true (x3G hk ox.2.1 oa.2.1 this).2];rfl
theorem Lay.tr(h:Lay n ts r)(hk:KW k w){g:Nat}{done post:List Nat}{t:Nat}(hL:done++t::post=ovr r ts g):∀x y,[x,y].Sublist done->clP r ts w x y=true->clP r ts w y t=true->clP r ts w x t=true:=fun x y hs h1 h2=>by
 have up:=h.ovr_up g;rw[←hL]at up
 have sub:[x,y,t].Sublist (done++t::post):=by
  have:([x,y]++[t]).Sublist (done++t::post):=List.Sublist.append hs (List.singleton_sublist.mpr List.mem_cons_self)
  exact this
 have up3:=up.sublist sub;have p1:=List.pairwise_cons.mp up3;have p2:=List.pairwise_cons.mp p1.2
 have m:∀z∈[x,y,t],z∈ovr r ts g:=fun z hz=>by rw[←hL];exact sub.subset hz
 have mx:=z28.mp (m x (by simp))
 have my:=z28.mp (m y (by simp))
 have mt:=z28.mp (m t (by simp))
 have ox:=h.sp_ok mx.1;have oy:=h.sp_ok my.1;have ot:=h.sp_ok mt.1;have gx:=mx.2;have gt:=mt.2;unfold z3A at gx gt;simp only[Bool.and_eq_true,decide_eq_true_eq]at gx gt
 exact y15.mpr (w1D hk (p1.1 y (by simp)) (p2.1 t (by simp)) ox.2.1 oy.2.1 ot.2.1 (by omega) (y15.mp h1) (y15.mp h2))
end
def v6(i:Nat):D:=.int (i:Int)
def chD(c:List Nat):D:=.tup (c.map v6)
def K6(r:List Int)(ts:List Tie):D:=.lst (ts.map fun t=>u3 (z18 r t))
theorem x79{j:Nat}(h:j≤100000):okR (j:Int)=true:=by unfold okR;rw[decide_eq_true (by omega),decide_eq_true (by omega)];rfl
theorem y95{fa:z9->Option D}{ρ:z9}{j:Nat}(h:fa ρ=some (.int (j:Int)))(hj:j≤100000):z1R fa ρ=some ((List.range j).map v6):=by
 rw[z4V h (x79 hj),Int.toNat_natCast];unfold J0
 congr 1
 refine List.map_congr_left fun q _=>?_
 rw[Int.zero_add];rfl
theorem z7O{p:D->Bool}{q:Nat->Bool}(l:List Nat)(h:∀i∈l,p (v6 i)=q i):(l.map v6).filter p=(l.filter q).map v6:=by
 rw[List.filter_map]
 congr 1
 exact List.filter_congr fun i hi=>h i hi
theorem y5U{fb:z9->Option D}{ρ:z9}{f:D->D}:∀(ds:List D),(∀d∈ds,fb (ρ.set 0 (some (.sh d)))=some (f d))->x3E fb ρ ds=some (ds.map f)
 | [],_=>rfl
 | d::ds,h=>by
  unfold x3E;rw[h d List.mem_cons_self];dsimp only
  rw[y5U ds fun x hx=>h x (List.mem_cons_of_mem _ hx)]
  rfl
section
variable{n:Int}{ts:List Tie}{r:List Int}{k w:Str}
theorem x1F(S:List Nat):z8K leL (S.map fun i=>z6M (z05 r ts i)) (S.map v6)=(S.mergeSort (x4V r ts)).map v6:=by
 unfold z8K
 have e:(S.map fun i=>z6M (z05 r ts i)).zip (S.map v6)=S.map fun i=>(z6M (z05 r ts i),v6 i):=by
  induction S with
  | nil=>rfl
  | cons a S ih=>rw[List.map_cons,List.map_cons,List.zip_cons_cons,ih];rfl
 rw[e]
 have:=List.map_mergeSort (r:=x4V r ts) (s:=fun (a b:List Int×D)=>leL a.1 b.1) (f:=fun i=>(z6M (z05 r ts i),v6 i)) (l:=S) (fun a _ b _=>rfl)
 rw[←this,List.map_map];rfl
theorem x2A(h:Lay n ts r){S:List Nat}(hn:S.Nodup)(hl:∀i∈S,i<ts.length):x2B (S.map fun i=>u3 (z05 r ts i)) (S.map v6)=some ((S.mergeSort (x4V r ts)).map v6):=by
 have hlen:S.length<64:=by
  have:=z21 S (List.range ts.length) hn fun i hi=>List.mem_range.mpr (hl i hi)
  rw[List.length_range]at this
  have:=h.m12
  omega
 unfold x2B
 rw[if_pos (by rw[List.length_map];exact hlen)]
 cases S with
 | nil=>simp[Y5,z8K]
 | cons a S =>
  have e1:Y5 ((a::S).map fun i=>u3 (z05 r ts i))=none:=rfl
  have e2:z1Z ((a::S).map fun i=>u3 (z05 r ts i))=some ((a::S).map fun i=>z6M (z05 r ts i)):=by
   have:=z62 (nss:=(a::S).map fun i=>z6M (z05 r ts i)) (fun ns h=>by
    obtain⟨u,_,rfl⟩:=List.mem_map.mp h
    simp[z6M])
   rw[List.map_map]at this;exact this
  have e3:((a::S).map fun i=>z6M (z05 r ts i)).Nodup:=by
   refine List.pairwise_map.mpr (List.Pairwise.imp_of_mem (fun {x y} hx hy hxy z=>hxy ?_) hn)
   refine h.sp_inj (hl x hx) (hl y hy) ?_;unfold z6M at z;have z1:=(List.cons.inj z).1;have z2:=(List.cons.inj (List.cons.inj z).2).1;exact Prod.ext z1 z2
  rw[e1];dsimp only;rw[e2];dsimp only;rw[if_pos e3,x1F]
theorem z9A(h:Lay n ts r)(g:Nat):z36 [K6 r ts,.int (g:Int)]=some (.lst ((ovr r ts g).map v6)):=by
 have e1:J6 [none,some 0,some 1] (z1R (z8Y (dSq (y1 0)))) (w9 0) (x9 (z0P x87 y1H (dIx (dSq (dIx (dSq (y1 1)) (y1 0))) (dC (.int 0))) (y1 2) (dIx (dSq (dIx (dSq (y1 1)) (y1 0))) (dC (.int 1))))) (y1 0)
   [some (.sh (K6 r ts)),some (.sh (.int (g:Int))),none]=some (((List.range ts.length).filter (z3A r ts g)).map v6):=by
  have e0:z1R (z8Y (dSq (y1 0))) [some (.sh (K6 r ts)),some (.sh (.int (g:Int))),none]=some ((List.range ts.length).map v6):=by
   refine y95 ?_ (by have:=h.m12;omega)
   refine (y2T (ds:=ts.map fun t=>u3 (z18 r t)) (z3O rfl)).trans ?_
   rw[List.length_map]
  refine (z01 e0 (by rw[List.length_map,List.length_range];have:=h.m12;unfold LIM;omega)).trans ?_
  refine (J7 (fun ρ=>∃c0,ρ=[c0,some (.sh (K6 r ts)),some (.sh (.int (g:Int)))]) (fun d=>match d with|.int i=>z3A r ts g i.toNat|_=>false) (fun d=>d) _ _ ⟨none,rfl⟩ ?_).trans ?_
  ·rintro d hd ρ ⟨c0,rfl⟩
   obtain⟨i,hi,rfl⟩:=List.mem_map.mp hd;have hi':i<ts.length:=List.mem_range.mp hi
   refine⟨_,rfl,⟨_,rfl⟩,?_,fun _=>rfl⟩
   have at':dIx (dSq (y1 1)) (y1 0) [some (.sh (v6 i)),some (.sh (K6 r ts)),some (.sh (.int (g:Int)))]=some (u3 (z05 r ts i)):=(z5P (ds:=ts.map fun t=>u3 (z18 r t)) (j:=(i:Int)) (z3O rfl) rfl).trans (z49 hi')
   refine J3 (z5Q (x:=.int (z05 r ts i).1) (y:=.int (g:Int)) (z:=.int (z05 r ts i).2) (a:=decide ((z05 r ts i).1≤(g:Int))) (b:=decide ((g:Int)<(z05 r ts i).2)) ?_ rfl rfl (fun _=>?_) (fun _=>rfl))
   ·exact (z5P (ds:=[.int (z05 r ts i).1,.int (z05 r ts i).2]) (j:=0) (z5N at') rfl).trans rfl
   ·exact (z5P (ds:=[.int (z05 r ts i).1,.int (z05 r ts i).2]) (j:=1) (z5N at') rfl).trans rfl
  ·rw[z7O (q:=z3A r ts g) _ (fun i _=>rfl),List.map_id']
 have e2:z2U [some (.sh (K6 r ts)),some (.sh (.int (g:Int))),none]=some (.rt (.lst ((ovr r ts g).map v6))):=by
  refine u0 (r:=.rt .non) (Y6 (z5O e1)) (z1P (z5O ?_))
  show y01 [none,some 0] (dSq (y1 2)) (dIx (dSq (y1 1)) (y1 0)) [some (.sh (K6 r ts)),some (.sh (.int (g:Int))),some (.sh (.lst (((List.range ts.length).filter (z3A r ts g)).map v6)))]=some ((ovr r ts g).map v6)
  have lt:∀i∈(List.range ts.length).filter (z3A r ts g),i<ts.length:=fun i hi=>List.mem_range.mp (List.mem_filter.mp hi).1
  have nd:((List.range ts.length).filter (z3A r ts g)).Nodup:=List.nodup_range.sublist List.filter_sublist;unfold ovr;generalize (List.range ts.length).filter (z3A r ts g)=S at lt nd
  have hm:x3E (dIx (dSq (y1 1)) (y1 0)) [none,some (.sh (K6 r ts))] (S.map v6)=some (S.map fun i=>u3 (z05 r ts i)):=by
   refine (y5U (f:=fun d=>match d with|.int i=>u3 (z05 r ts i.toNat)|_=>d) _ fun d hd=>?_).trans ?_
   ·obtain⟨i,hi,rfl⟩:=List.mem_map.mp hd
    exact (z5P (ds:=ts.map fun t=>u3 (z18 r t)) (j:=(i:Int)) (z3O rfl) rfl).trans (z49 (lt i hi))
   ·rw[List.map_map];rfl
  unfold y01
  rw[show dSq (y1 2) [some (.sh (K6 r ts)),some (.sh (.int (g:Int))),some (.sh (.lst (S.map v6)))]=some (S.map v6) from rfl]
  dsimp only
  rw[show y1I [none,some 0] [some (.sh (K6 r ts)),some (.sh (.int (g:Int))),some (.sh (.lst (S.map v6)))]=[none,some (.sh (K6 r ts))] from rfl,hm]
  exact x2A h nd lt
 show z67 (z2U [some (.sh (K6 r ts)),some (.sh (.int (g:Int))),none])=_
 rw[e2];rfl
theorem x4U(c:List Nat):w1E (chD c)=some (c.length:Int):=by
 show some ((c.map v6).length:Int)=_
 rw[List.length_map]
theorem x05:∀cs:List (List Nat),z75 (cs.map chD)=some (cs.map fun c=>(c.length:Int))
 | []=>rfl
 | c::cs=>by
  rw[List.map_cons];unfold z75;rw[x4U c];dsimp only;rw[x05 cs];rfl
theorem y4P{f:Nat->Int}:∀(q j b:Nat),b<j->(∀i,i<j->f i≤f b)->W2 (fun i j=>decide (f j<f i)) q j b<j+q/\∀i,i<j+q->f i≤f (W2 (fun i j=>decide (f j<f i)) q j b)
 | 0,j,b,hb,hm=>⟨hb,hm⟩
 | q+1,j,b,hb,hm=>by
  unfold W2;by_cases hc:f b<f j
  ·rw[if_pos (decide_eq_true hc)]
   have:=y4P (f:=f) q (j+1) j (by omega) fun i hi=>by
    rcases Nat.lt_succ_iff_lt_or_eq.mp hi with z|rfl
    ·have:=hm i z;omega
    ·exact Int.le_refl _
   rw[show j+(q+1)=j+1+q by omega]
   exact this
  ·rw[if_neg (by simpa using hc)]
   have:=y4P (f:=f) q (j+1) b (by omega) fun i hi=>by
    rcases Nat.lt_succ_iff_lt_or_eq.mp hi with z|rfl
    ·exact hm i z
    ·omega
   rw[show j+(q+1)=j+1+q by omega]
   exact this
theorem y2F(cs:List (List Nat)):∃b,z9O (cs.map chD) (chD [])=some (chD b)/\x8O cs b:=by
 unfold z9O;rw[x05];dsimp only
 cases cs with
 | nil=>exact⟨[],rfl,.inl ⟨rfl,rfl⟩⟩
 | cons c cs =>
  rw[List.map_cons];dsimp only;rw[←List.map_cons];unfold y0Q
  have hgt:gtI ((c::cs).map fun c=>(c.length:Int))=fun i j=>decide (((c::cs).map fun c=>(c.length:Int)).getD j 0<((c::cs).map fun c=>(c.length:Int)).getD i 0):=rfl
  rw[hgt]
  have:=y4P (f:=fun i=>((c::cs).map fun c=>(c.length:Int)).getD i 0) (((c::cs).map chD).length-1) 1 0 (by omega) (fun i hi=>by rw[show i=0 by omega];exact Int.le_refl _)
  generalize W2 (fun i j=>decide (((c::cs).map fun c=>(c.length:Int)).getD j 0<((c::cs).map fun c=>(c.length:Int)).getD i 0)) (((c::cs).map chD).length-1) 1 0=b at this
  obtain⟨h1,h2⟩:=this
  have hlen:1+(((c::cs).map chD).length-1)=(c::cs).length:=by rw[List.length_map,List.length_cons];omega
  rw[hlen]at h1 h2
  have get:∀(i:Nat) (hi:i<(c::cs).length),((c::cs).map fun c=>(c.length:Int)).getD i 0=((c::cs)[i].length:Int):=fun i hi=>by
   rw[List.getD_eq_getElem?_getD,List.getElem?_map,List.getElem?_eq_getElem hi];rfl
  refine⟨(c::cs)[b],?_,.inr ⟨List.getElem_mem h1,fun d hd=>?_⟩⟩
  ·rw[List.getElem?_map,List.getElem?_eq_getElem h1];rfl
  ·obtain⟨i,hi,rfl⟩:=List.mem_iff_getElem.mp hd
   have:=h2 i hi
   rw[get i hi,get b h1]at this;omega
theorem x8D{c:List Nat}{u:Nat}(h:c.getLast?=some u)(hc:c.length≤1000):atI (c.map v6) (-1)=some (v6 u):=by
 obtain⟨ys,rfl⟩:=List.getLast?_eq_some_iff.mp h;unfold atI ixN
 rw[if_neg (by omega),if_pos (by rw[List.length_map,List.length_append,List.length_singleton];omega)]
 show ((ys++[u]).map v6)[(-1+(((ys++[u]).map v6).length:Int)).toNat]?=_
 rw[List.length_map,List.length_append,List.length_singleton,show (-1+((ys.length+1:Nat):Int)).toNat=ys.length by omega,List.getElem?_map]
 simp
def z5R(r:List Int)(ts:List Tie)(w:Str)(t:Nat)(c:List Nat):Bool:=match c.getLast? with|some u=>clP r ts w u t|none=>false
def x4T:z9->Option Out:=W5 (z1B 5 (dLs (J6 [none,some 0,some 4,some 2] (z8X 3) (w9 0) (x9 (w6 j6 (z6 (dIx (dSq (y1 1)) (dIx (dSq (y1 0)) (x16 (dC (.int 1))))) (z6 (dIx (dSq (y1 1)) (y1 2)) (z6 (y1 3) (j0)))))) (y1 0))))
 (x1R 3 (d2 z3E (z6A (dSq (y1 5)) (z1Q (j0))) (z1Q (z6 (y1 4) (j0)))))
theorem x04(h:Lay n ts r)(hk:KW k w){tiesD:D}{cs:List (List Nat)}{t:Nat}{c5:Option Cell}(ht:t<ts.length)(hcs:cs.length≤12)(hc:∀c∈cs,c≠[]/\c.length≤12/\∀x∈c,x<ts.length) :
  ∃b,x8O (cs.filter (z5R r ts w t)) b/\x4T [some (.sh (K6 r ts)),some (.sh tiesD),some (.sh (.str k)),some (.ow (cs.map chD)),some (.sh (v6 t)),c5] =
   some (.nx [some (.sh (K6 r ts)),some (.sh tiesD),some (.sh (.str k)),some (.ow ((cs++[b++[t]]).map chD)),some (.sh (v6 t)),some (.sh (.lst ((cs.filter (z5R r ts w t)).map chD)))]):=by
 have e1:J6 [none,some 0,some 4,some 2] (z8X 3) (w9 0) (x9 (w6 j6 (z6 (dIx (dSq (y1 1)) (dIx (dSq (y1 0)) (x16 (dC (.int 1))))) (z6 (dIx (dSq (y1 1)) (y1 2)) (z6 (y1 3) (j0)))))) (y1 0)
   [some (.sh (K6 r ts)),some (.sh tiesD),some (.sh (.str k)),some (.ow (cs.map chD)),some (.sh (v6 t)),c5]=some ((cs.filter (z5R r ts w t)).map chD):=by
  refine (z01 (ds:=cs.map chD) rfl (by rw[List.length_map];unfold LIM;omega)).trans ?_
  refine (J7 (fun ρ=>∃c0,ρ=[c0,some (.sh (K6 r ts)),some (.sh (v6 t)),some (.sh (.str k))]) (fun d=>match d with|.tup ds=>(match ds.getLast? with|some (.int u)=>clP r ts w u.toNat t|_=>false)|_=>false) (fun d=>d) _ _ ⟨none,rfl⟩ ?_).trans ?_
  ·rintro d hd ρ ⟨c0,rfl⟩
   obtain⟨c,hcm,rfl⟩:=List.mem_map.mp hd;obtain⟨h1,h2,h3⟩:=hc c hcm
   refine⟨_,rfl,⟨_,rfl⟩,?_,fun _=>rfl⟩
   cases hl:c.getLast? with
   | none=>exact absurd (List.getLast?_eq_none_iff.mp hl) h1
   | some u =>
    have hu:u<ts.length:=h3 u (List.mem_of_getLast? hl)
    have el:(c.map v6).getLast?=some (v6 u):=by
     obtain⟨ys,rfl⟩:=List.getLast?_eq_some_iff.mp hl;simp
    show x9 _ _=some (match (c.map v6).getLast? with|some (.int u)=>clP r ts w u.toNat t|_=>false)
    rw[el]
    show x9 _ _=some (clP r ts w u t)
    refine J3 ?_
    have a0:dIx (dSq (y1 0)) (x16 (dC (.int 1))) [some (.sh (chD c)),some (.sh (K6 r ts)),some (.sh (v6 t)),some (.sh (.str k))]=some (v6 u):=(z5P (ds:=c.map v6) (j:=-1) (z5N rfl) rfl).trans (x8D hl (by omega))
    have a1:dIx (dSq (y1 1)) (dIx (dSq (y1 0)) (x16 (dC (.int 1)))) [some (.sh (chD c)),some (.sh (K6 r ts)),some (.sh (v6 t)),some (.sh (.str k))]=some (u3 (z05 r ts u)):=(z5P (ds:=ts.map fun t=>u3 (z18 r t)) (j:=(u:Int)) (z3O rfl) a0).trans (z49 hu)
    have a2:dIx (dSq (y1 1)) (y1 2) [some (.sh (chD c)),some (.sh (K6 r ts)),some (.sh (v6 t)),some (.sh (.str k))]=some (u3 (z05 r ts t)):=(z5P (ds:=ts.map fun t=>u3 (z18 r t)) (j:=(t:Int)) (z3O rfl) rfl).trans (z49 ht)
    exact (u4 (j3 a1 (j3 a2 (j3 (d:=.str k) rfl rfl)))).trans (y07 hk.tab _ _)
  ·rw[List.map_id',List.filter_map]
   refine congrArg (fun l=>some (List.map chD l)) (List.filter_congr fun c hcm=>?_)
   show (match (c.map v6).getLast? with|some (.int u)=>clP r ts w u.toNat t|_=>false)=z5R r ts w t c
   unfold z5R;rw[List.getLast?_map]
   cases c.getLast? with
   | none=>rfl
   | some u=>rfl
 obtain⟨b,eb,hb⟩:=y2F (cs.filter (z5R r ts w t))
 refine⟨b,hb,?_⟩
 have hbl:b.length≤12:=by
  rcases hb with⟨_,rfl⟩|⟨hb,_⟩
  ·exact Nat.zero_le _
  ·exact (hc b (List.mem_filter.mp hb).1).2.1
 refine u0 (r:=.rt .non) (Y6 (z5O e1)) ?_
 refine (x52 (ds:=cs.map chD) (d:=chD (b++[t])) rfl ?_ (by rw[List.length_map];unfold LIM;omega)).trans ?_
 ·refine (z7P (x:=chD b) (y:=chD [t]) ?_ (z6U (ds:=[v6 t]) rfl (show 1≤LIM by decide))).trans ?_
  ·show z9O ((cs.filter (z5R r ts w t)).map chD) (chD [])=some (chD b)
   exact eb
  ·show (if (b.map v6).length+([t].map v6).length≤LIM then some (D.tup (b.map v6++[t].map v6)) else none)=_
   rw[if_pos (by rw[List.length_map,List.length_map,List.length_singleton];unfold LIM;omega),←List.map_append]
   rfl
 ·rw[List.map_append];rfl
theorem y7O{t:Nat}{c:List Nat}:z5R r ts w t c=true↔∃u,c.getLast?=some u/\clP r ts w u t=true:=by
 unfold z5R
 cases c.getLast? with
 | none=>exact⟨(fun e=>by cases e),(fun ⟨u,e,_⟩=>by cases e)⟩
 | some v=>exact⟨fun e=>⟨v,rfl,e⟩,fun ⟨u,e,q⟩=>by cases e;exact q⟩
theorem z5W(h:Lay n ts r)(hk:KW k w)(g:Nat):∃b:List Nat,z0Q [K6 r ts,.lst ((ovr r ts g).map v6),.str k]=some (chD b) /\
  PW (clP r ts w) b/\b.Sublist (ovr r ts g)/\∀e:List Nat,e.Sublist (ovr r ts g)->PW (clP r ts w) e->e.length≤b.length:=by
 have hL:(ovr r ts g).length≤12:=by
  have:=z21 (ovr r ts g) (List.range ts.length) (z5D g) fun i hi=>List.mem_range.mpr (z28.mp hi).1
  rw[List.length_range]at this
  have:=h.m12
  omega
 obtain⟨ρ',l1,cs,c4,c5,hch,hcl,rfl⟩:=z40 (h:=w9 4) (g:=x4T) (fun pre ρ=>∃cs c4 c5,Chs (clP r ts w) ((ovr r ts g).take pre.length) cs/\cs.length=pre.length /\
   ρ=[some (.sh (K6 r ts)),some (.sh (.lst ((ovr r ts g).map v6))),some (.sh (.str k)),some (.ow (cs.map chD)),c4,c5])
  (ds:=(ovr r ts g).map v6) (ρ:=[some (.sh (K6 r ts)),some (.sh (.lst ((ovr r ts g).map v6))),some (.sh (.str k)),some (.ow []),none,none]) ⟨[],none,none,by rw[List.length_nil,List.take_zero];exact Chs.zero,rfl,rfl⟩ (fun pre d post ρ he hI=>by
   obtain⟨cs,c4,c5,hch,hcl,rfl⟩:=hI;have hlen:=congrArg List.length he;rw[List.length_map,List.length_append,List.length_cons]at hlen
   have hlt:pre.length<(ovr r ts g).length:=by omega
   have hd:d=v6 (ovr r ts g)[pre.length]:=by
    have h1:((ovr r ts g).map v6)[pre.length]?=some d:=by rw[←he];simp
    rw[List.getElem?_map,List.getElem?_eq_getElem hlt]at h1;exact (Option.some.inj h1).symm
   have ht:=(z28.mp (List.getElem_mem hlt)).1
   have hsplit:(ovr r ts g).take pre.length++(ovr r ts g)[pre.length]::(ovr r ts g).drop (pre.length+1)=ovr r ts g:=by
    rw[←List.drop_eq_getElem_cons hlt,List.take_append_drop]
   have htake:(ovr r ts g).take (pre.length+1)=(ovr r ts g).take pre.length++[(ovr r ts g)[pre.length]]:=(List.take_append_getElem hlt).symm;generalize (ovr r ts g)[pre.length]=t at hd ht hsplit htake;subst hd
   have hok:∀c∈cs,c≠[]/\c.length≤12/\∀x∈c,x<ts.length:=fun c hc=>by
    obtain⟨_,q2,q3⟩:=hch.ok c hc;have q4:c.Sublist (ovr r ts g):=q2.trans (List.take_sublist _ _)
    exact⟨q3,Nat.le_trans q4.length_le hL,fun x hx=>(z28.mp (q4.subset hx)).1⟩
   obtain⟨b,hb,e⟩:=x04 h hk (tiesD:=.lst ((ovr r ts g).map v6)) (cs:=cs) (t:=t) (c5:=c5) ht (by omega) hok
   refine⟨_,_,rfl,.inl e,⟨cs++[b++[t]],_,_,?_,?_,rfl⟩⟩
   ·rw[List.length_append,List.length_singleton,htake]
    obtain⟨b1,b2⟩:=x8O.step (fun c hc=>(hok c hc).1) hb (fun c hc=>y7O (r:=r) (ts:=ts) (w:=w) (t:=t) (c:=c))
    exact hch.step (h.tr hk hsplit) b1 b2
   ·rw[List.length_append,List.length_append,hcl];rfl)
 rw[List.length_map,List.take_length]at hch;obtain⟨b,eb,hb⟩:=y2F cs
 refine⟨b,?_,hch.best hb⟩
 have fin:z0M [some (.sh (K6 r ts)),some (.sh (.lst ((ovr r ts g).map v6))),some (.sh (.str k)),none,none,none]=some (.rt (chD b)):=by
  refine u0 (r:=.rt .non) (y0Y (ds:=[]) rfl) ?_;refine u0 (r:=.rt .non) ((z24 (ds:=(ovr r ts g).map v6) rfl).trans l1) ?_;refine z1P ?_
  show z9O (cs.map chD) (chD [])=some (chD b)
  exact eb
 show z67 (z0M [some (.sh (K6 r ts)),some (.sh (.lst ((ovr r ts g).map v6))),some (.sh (.str k)),none,none,none])=_
 rw[fin];rfl
theorem y7A(a b:List Nat):z4U (chD a) (chD b)=some (chD (if a.length<b.length then b else a)):=by
 have e:=x4U;unfold z4U;rw[e a,e b];dsimp only;by_cases hc:a.length<b.length
 ·rw[if_pos hc,if_pos (by omega)]
 ·rw[if_neg hc,if_neg (by omega)]
theorem y0V:∀f:List Nat,Y5 (f.map v6)=some (f.map fun (i:Nat)=>(i:Int))
 | []=>rfl
 | a::f=>by
  rw[List.map_cons];unfold v6 Y5
  have:=y0V f
  unfold v6 at this;rw[this];rfl
theorem y1Y(f:List Nat):z4O (f.map fun (i:Nat)=>(i:Int))=(f.mergeSort fun a b=>decide (a≤b)).map fun (i:Nat)=>(i:Int):=by
 unfold z4O
 exact (List.map_mergeSort (r:=fun (a b:Nat)=>decide (a≤b)) (s:=fun (a b:Int)=>decide (a≤b)) (f:=fun (i:Nat)=>(i:Int)) (l:=f) (fun a _ b _=>by
  by_cases hc:a≤b
  ·rw[decide_eq_true hc,decide_eq_true (by omega)]
  ·rw[decide_eq_false hc,decide_eq_false (by omega)])).symm
theorem y8Y(f:List Nat)(h:f.length<64):z6Y (f.map v6)=some ((f.mergeSort fun a b=>decide (a≤b)).map v6):=by
 unfold z6Y
 rw[if_pos (by rw[List.length_map];exact h),y0V]
 dsimp only;rw[y1Y,List.map_map];rfl
theorem x5H(f:List Nat)(hn:f.Nodup):(f.mergeSort fun a b=>decide (a≤b)).Pairwise (· < ·):=by
 have h1:(f.mergeSort fun a b=>decide (a≤b)).Pairwise fun a b=>decide (a≤b)=true:=List.pairwise_mergeSort (fun a b c h1 h2=>by
  have:=of_decide_eq_true h1
  have:=of_decide_eq_true h2
  exact decide_eq_true (by omega)) (fun a b=>by
  by_cases hc:a≤b
  ·rw[decide_eq_true hc];rfl
  ·rw[decide_eq_true (show b≤a by omega)];simp) _
 have h2:(f.mergeSort fun a b=>decide (a≤b)).Nodup:=(List.mergeSort_perm _ _).nodup_iff.mpr hn
 refine (h1.and h2).imp fun {a b} q=>?_
 have:=of_decide_eq_true q.1
 have:=q.2
 omega
structure Most(m:Nat)(cl:Nat->Nat->Bool)(F:List Nat):Prop where
 up:F.Pairwise (· < ·)
 lt:∀x∈F,x<m
 pw:PW cl F
 top:∀S:List Nat,S.Nodup->(∀x∈S,x<m)->PW cl S->S.length≤F.length
theorem y1E(h:Lay n ts r)(hk:KW k w):∃F:List Nat,z4D [Z7 n ts,.tup (r.map D.int),.str k]=some (chD F)/\Most ts.length (clP r ts w) F:=by
 have hs:=z5V (n:=n) h.nd h.rl h.hm' h.mem
 have hlo:0≤n:=by have:=h.len;omega
 have h6:=h.n6
 obtain⟨ρ',l1,f,c5,hg,rfl⟩:=z40 (h:=w9 5) (g:=z1B 4 (d2 z4U (y1 4) (w6 z0Q (z6 (y1 3) (z6 (w6 z36 (z6 (y1 3) (z6 (y1 5) (j0)))) (z6 (y1 2) (j0)))))))
  (fun pre ρ=>∃f c5,Grt ts.length (clP r ts w) (ovr r ts) pre.length f/\ρ=[some (.sh (Z7 n ts)),some (.sh (.tup (r.map D.int))),some (.sh (.str k)),some (.sh (K6 r ts)),some (.sh (chD f)),c5])
  (ds:=J0 0 (n-1).toNat) (ρ:=[some (.sh (Z7 n ts)),some (.sh (.tup (r.map D.int))),some (.sh (.str k)),some (.sh (K6 r ts)),some (.sh (chD [])),none]) ⟨[],none,Grt.zero,rfl⟩ (fun pre d post ρ he hI=>by
   obtain⟨f,c5,hg,rfl⟩:=hI;have hlen:=congrArg List.length he;rw[z03,List.length_append,List.length_cons]at hlen
   have hd:d = .int (pre.length:Int):=by
    have h1:(J0 0 (n-1).toNat)[pre.length]?=some d:=by rw[←he];simp
    rw[z8E (by omega)]at h1
    exact (Option.some.inj h1).symm
   subst hd;obtain⟨b,e,hb⟩:=z5W h hk pre.length
   refine⟨_,_,rfl,.inl (Y6 (d:=chD (if f.length<b.length then b else f)) ?_),⟨_,_,?_,rfl⟩⟩
   ·refine (z7P (x:=chD f) (y:=chD b) rfl ?_).trans (y7A f b);refine (u4 (ds:=[K6 r ts,.lst ((ovr r ts pre.length).map v6),.str k]) (j3 rfl (j3 ?_ rfl))).trans e;exact (u4 (ds:=[K6 r ts,.int (pre.length:Int)]) rfl).trans (z9A h _)
   ·rw[List.length_append,List.length_singleton]
    exact hg.step (z5D _) (fun x hx=>(z28.mp hx).1) hb)
 rw[z03]at hg
 have hfl:f.length≤12:=by
  have:=z21 f (List.range ts.length) hg.nd fun i hi=>List.mem_range.mpr (hg.lt i hi)
  rw[List.length_range]at this
  have:=h.m12
  omega
 have pm:(f.mergeSort fun a b=>decide (a≤b)).Perm f:=List.mergeSort_perm _ _
 refine⟨f.mergeSort fun a b=>decide (a≤b),?_,⟨x5H f hg.nd,fun x hx=>hg.lt x (pm.mem_iff.mp hx),x6N (fun i j=>z7Q i j) hg.nd pm.symm hg.pw,fun S hS hl hp=>?_⟩⟩
 ·have fin:z46 [some (.sh (Z7 n ts)),some (.sh (.tup (r.map D.int))),some (.sh (.str k)),none,none,none]=some (.rt (chD (f.mergeSort fun a b=>decide (a≤b)))):=by
   refine u0 (r:=.rt .non) (Y6 ((u4 (ds:=[Z7 n ts,.tup (r.map D.int)]) rfl).trans hs)) ?_
   refine u0 (r:=.rt .non) (Y6 (d:=chD []) (z6U (ds:=[]) rfl (show 0≤LIM by decide))) ?_
   refine u0 (r:=.rt .non) ((z24 (ds:=J0 0 (n-1).toNat) (z4V (j:=n-1) ((z7P (x:=.int n) (y:=.int 1) rfl rfl).trans rfl) (by unfold okR;rw[decide_eq_true (by omega),decide_eq_true (by omega)];rfl))).trans l1) ?_
   refine z1P (y0X ((x80 (ds:=f.map v6) (z5N rfl)).trans (y8Y f (by omega))))
  show z67 (z46 [some (.sh (Z7 n ts)),some (.sh (.tup (r.map D.int))),some (.sh (.str k)),none,none,none])=_
  rw[fin];rfl
 ·rw[pm.length_eq]
  refine hg.all (fun i j=>z7Q i j) (fun g _=>z5D g) (fun S hS hn hl hp=>?_) hS hl hp
  obtain⟨g,g1,g2⟩:=h.helly hk hS hl hp
  exact⟨g,by omega,g2⟩
end
def ltB:D->D->Option Bool:=fun x y=>match dLt x y with|some (.bl b)=>some b|_=>none
def x6F:List D->Option Bool
 | x::y::r=>(match ltB x y with|some b=>(match x6F (y::r) with|some c=>some (b&&c)|none=>none)|none=>none)
 | _=>some true
theorem x3F{x y:D}{b:Bool}(h:ltB x y=some b):dLt x y=some (.bl b):=by
 unfold ltB at h;split at h
 ·rename_i e;cases h;exact e
 ·cases h
def nbs(ds:List D)(k:Nat):Option Bool:=match ds[k]?,ds[k+1]? with|some x,some y=>ltB x y|_,_=>none
theorem y98:∀{ds:List D} {b:Bool},x6F ds=some b->∃bs:List Bool,bs.length=ds.length-1/\(∀k,k<ds.length-1->nbs ds k=some (bs.getD k true))/\bs.all id=b
 | [],b,e=>by cases e;exact⟨[],rfl,fun k h=>absurd h (by simp),rfl⟩
 | [x],b,e=>by cases e;exact⟨[],rfl,fun k h=>absurd h (by simp),rfl⟩
 | x::y::r,b,e=>by
  unfold x6F at e;split at e
  ·rename_i b1 e1;split at e
   ·rename_i c1 e2;cases e;obtain⟨bs,h1,h2,h3⟩:=y98 e2
    refine⟨b1::bs,by simp only[List.length_cons]at h1 ⊢;omega,fun k hk=>?_,by rw[List.all_cons,h3];rfl⟩
    cases k with
    | zero=>exact e1
    | succ k=>
     have:=h2 k (by simp only[List.length_cons]at hk ⊢;omega)
     exact this
   ·cases e
  ·cases e
theorem x56{ds:List D}{k:Nat}{d:D}(h:ds[k]?=some d):atI ds (k:Int)=some d:=x8E h
theorem z8L(bs:List Bool):z6B (bs.map D.bl)=some bs:=by
 induction bs with
 | nil=>rfl
 | cons b r ih=>rw[List.map_cons,z6B,ih];rfl
theorem z8W{ds:List D}{b:Bool}(h:x6F ds=some b)(hl:ds.length≤1000):z3V [.tup ds]=some (.bl b):=by
 obtain⟨bs,h1,h2,h3⟩:=y98 h
 show z67 (z14 _ _)=_
 rw[z1P (d:=.bl b)]
 ·rfl
 ·have hj:okR ((ds.length:Int)-1)=true:=by unfold okR;rw[decide_eq_true (by omega),decide_eq_true (by omega)];rfl
  have en:((ds.length:Int)-1).toNat=ds.length-1:=by omega
  have e2:J6 [none,some 0] (z1R (d2 y2X (z8Y (dSq (y1 0))) (dC (.int 1)))) (w9 0) z2B (d2 dLt (dIx (dSq (y1 1)) (y1 0)) (dIx (dSq (y1 1)) (d2 z3E (y1 0) (dC (.int 1))))) [some (.sh (.tup ds))]=some (bs.map D.bl):=by
   rw[z01 (ds:=J0 0 (ds.length-1)) (by rw[z4V (j:=(ds.length:Int)-1) rfl hj,en]) (by rw[z03];unfold LIM;omega)]
   have:=z0A (h:=w9 0) (fe:=d2 dLt (dIx (dSq (y1 1)) (y1 0)) (dIx (dSq (y1 1)) (d2 z3E (y1 0) (dC (.int 1))))) (fun ρ=>∃c,ρ=[c,some (.sh (.tup ds))]) (fun d=>match d with|.int k=>.bl (bs.getD k.toNat true)|_=>.non) (J0 0 (ds.length-1)) (y1I [none,some 0] [some (.sh (.tup ds))]) ⟨none,rfl⟩ (fun d hd ρ hρ=>by
    obtain⟨c,rfl⟩:=hρ;obtain⟨k,hk,rfl⟩:=y2W hd
    refine⟨_,rfl,⟨_,rfl⟩,?_⟩
    have q:=h2 k hk;unfold nbs at q;split at q
    ·rename_i x y ex ey;refine (z7P (x:=x) (y:=y) ?_ ?_).trans (x3F q)
     ·exact (z5P (ds:=ds) (j:=(k:Int)) rfl rfl).trans (x56 ex)
     ·exact (z5P (ds:=ds) (j:=((k+1:Nat):Int)) rfl rfl).trans (x56 ey)
    ·cases q)
   rw[this]
   congr 1
   refine List.ext_getElem? fun k=>?_
   rw[List.getElem?_map,List.getElem?_map];by_cases hk:k<ds.length-1
   ·rw[z8E hk,List.getElem?_eq_getElem (by omega)]
    simp only[Option.map_some,Int.toNat_natCast,List.getD_eq_getElem?_getD]
    rw[List.getElem?_eq_getElem (by omega)]
    rfl
   ·rw[List.getElem?_eq_none (by rw[z03];omega),List.getElem?_eq_none (by omega)]
    rfl
  exact (x0X e2 (z8L bs)).trans (by rw[h3])
theorem z5F{h:D->z9->Option z9}{g:z9->Option Out}{d:D}{ds:List D}{ρ ρ1 ρ2:z9}(h1:h d ρ=some ρ1)(h2:g ρ1=some (.nx ρ2)):z16 h g (d::ds) ρ=z16 h g ds ρ2:=by
 show (match h d ρ with|none=>none|some ρ1=>(match g ρ1 with|some (.nx ρ2)=>z16 h g ds ρ2|some (.ct ρ2)=>z16 h g ds ρ2|some (.bk ρ2)=>some (.nx ρ2)|some (.rt v)=>some (.rt v)|none=>none))=_
 rw[h1];dsimp only;rw[h2]
theorem x7J{h:D->z9->Option z9}{g:z9->Option Out}{d v:D}{ds:List D}{ρ ρ1:z9}(h1:h d ρ=some ρ1)(h2:g ρ1=some (.rt v)):z16 h g (d::ds) ρ=some (.rt v):=by
 show (match h d ρ with|none=>none|some ρ1=>(match g ρ1 with|some (.nx ρ2)=>z16 h g ds ρ2|some (.ct ρ2)=>z16 h g ds ρ2|some (.bk ρ2)=>some (.nx ρ2)|some (.rt v)=>some (.rt v)|none=>none))=_
 rw[h1];dsimp only;rw[h2]
theorem y0Z{h:D->z9->Option z9}{g:z9->Option Out}{S:List Nat}{mk:Option Cell->Option Cell->z9}{cl:Nat->Nat->Bool}(hs:∀(pre:List Nat) (a:Nat) (rest:List Nat) c2 c3,pre++a::rest=S->∃ρ1,h (.tup [.int (pre.length:Int),v6 a]) (mk c2 c3)=some ρ1/\((∀o∈rest,cl a o=true)->∃c2' c3',g ρ1=some (.nx (mk c2' c3')))/\((¬∀o∈rest,cl a o=true)->g ρ1=some (.rt (.bl false)))) :
  ∀(rest pre:List Nat) c2 c3,pre++rest=S->(PW cl rest->∃c2' c3',z16 h g (z13 pre.length (rest.map v6)) (mk c2 c3)=some (.nx (mk c2' c3')))/\(¬PW cl rest->z16 h g (z13 pre.length (rest.map v6)) (mk c2 c3)=some (.rt (.bl false)))
 | [],pre,c2,c3,e=>⟨fun _=>⟨c2,c3,rfl⟩,fun n=>absurd List.Pairwise.nil n⟩
 | a::rest,pre,c2,c3,e=>by
  obtain⟨ρ1,h1,h2,h3⟩:=hs pre a rest c2 c3 e
  have eL:z13 pre.length ((a::rest).map v6) = .tup [.int (pre.length:Int),v6 a]::z13 (pre++[a]).length (rest.map v6):=by
   rw[List.length_append];rfl
  rw[eL];by_cases hc:∀o∈rest,cl a o=true
  ·obtain⟨c2',c3',e2⟩:=h2 hc
   have ih:=y0Z hs rest (pre++[a]) c2' c3' (by rw[←e];simp)
   refine⟨fun p=>?_,fun p=>?_⟩
   ·obtain⟨d2,d3,q⟩:=ih.1 (List.pairwise_cons.mp p).2
    exact⟨d2,d3,(z5F h1 e2).trans q⟩
   ·exact (z5F h1 e2).trans (ih.2 fun z=>p (List.pairwise_cons.mpr ⟨hc,z⟩))
  ·exact⟨fun p=>absurd (List.pairwise_cons.mp p).1 hc,fun _=>x7J h1 (h3 hc)⟩
theorem y20{pre rest:List Nat}{a:Nat}:dSl (chD (pre++a::rest)) (some ((pre.length:Int)+1)) none=some (chD rest):=by
 show (if HT.sIx ((pre++a::rest).map v6).length 0 (some ((pre.length+1:Nat):Int))=0/\HT.sIx ((pre++a::rest).map v6).length ((pre++a::rest).map v6).length none=((pre++a::rest).map v6).length then none else some (D.tup (cut ((pre++a::rest).map v6) (some ((pre.length+1:Nat):Int)) none)))=_
 have e1:HT.sIx ((pre++a::rest).map v6).length 0 (some ((pre.length+1:Nat):Int))=pre.length+1:=by
  rw[HT.sIx_nat,List.length_map,List.length_append,List.length_cons];omega
 unfold cut
 rw[e1,if_neg (by omega),HT.sIx_none,←List.map_drop,←List.map_take]
 unfold chD
 congr 3
 rw[show (pre++a::rest).drop (pre.length+1)=rest by rw[←List.drop_drop];simp]
 rw[List.length_map,List.length_append,List.length_cons]
 exact List.take_of_length_le (by omega)
theorem y8Z{l:List Nat}{k:Nat}:dSl (.lst (l.map v6)) (some ((k:Int)+1)) none=some (.lst ((l.drop (k+1)).map v6)):=by
 show some (D.lst (cut (l.map v6) (some ((k+1:Nat):Int)) none))=_
 unfold cut;rw[HT.sIx_nat,HT.sIx_none,List.length_map,←List.map_drop,←List.map_take]
 congr 3
 by_cases hc:k+1≤l.length
 ·rw[Nat.min_eq_left hc]
  exact List.take_of_length_le (by rw[List.length_drop];omega)
 ·rw[Nat.min_eq_right (by omega),List.drop_of_length_le (Nat.le_refl _),List.drop_of_length_le (by omega),List.take_nil]
def clM(pairs:List Tie)(i j:Nat):Bool:=decide (((i:Int),(j:Int))∈pairs)
theorem y6B{pairs:List Tie}{i j:Nat}{fa fb:z9->Option D}{fl:z9->Option (List D)}{ρ:z9}(ha:fa ρ=some (v6 i))(hb:fb ρ=some (v6 j))(hl:fl ρ=some (pairs.map u3)) :
  x9 (dIn true (z1Q (z6 fa (z6 fb j0))) fl) ρ=some (!clM pairs i j):=by
 refine J3 ((x0V (neg:=true) (d:=u3 ((i:Int),(j:Int))) (z6U (ds:=[v6 i,v6 j]) (j3 ha (j3 hb rfl)) (show 2≤LIM by decide)) hl (by have:=z4X pairs;unfold z1W;omega) (by rw[z8G];decide)).trans ?_)
 rw[if_pos rfl,y4C];rfl
theorem z4K(pairs:List Tie)(S:List Nat)(hl:S.length≤1000):z08 [.lst (pairs.map u3),chD S]=some (.bl (decide (PW (clM pairs) S))):=by
 let g:z9->Option Out:=z4Y (z3Q (J6 [none,some 3,some 0] (dSq (z96 (y1 1) (z2C (d2 z3E (y1 2) (dC (.int 1)))) (y3H))) (w9 0) (x9 (dIn true (z1Q (z6 (y1 1) (z6 (y1 0) (j0)))) (dSq (y1 2)))) (y1 0)))
  (z14 (dC (.bl false)))
  (z0S)
 have turn:=y0Z (h:=z77 2 (z04 (w9 2) (z04 (w9 3) (z78)))) (g:=g) (S:=S) (mk:=fun c2 c3=>[some (.sh (.lst (pairs.map u3))),some (.sh (chD S)),c2,c3]) (cl:=clM pairs) (fun pre a rest c2 c3 e=>by
  refine⟨[some (.sh (.lst (pairs.map u3))),some (.sh (chD S)),some (.sh (.int (pre.length:Int))),some (.sh (v6 a))],rfl,?_⟩
  have hsl:rest.length≤1000:=by have:=congrArg List.length e;rw[List.length_append,List.length_cons]at this;omega
  have e1:J6 [none,some 3,some 0] (dSq (z96 (y1 1) (z2C (d2 z3E (y1 2) (dC (.int 1)))) (y3H))) (w9 0) (x9 (dIn true (z1Q (z6 (y1 1) (z6 (y1 0) (j0)))) (dSq (y1 2)))) (y1 0)
    [some (.sh (.lst (pairs.map u3))),some (.sh (chD S)),some (.sh (.int (pre.length:Int))),some (.sh (v6 a))]=some ((rest.filter fun o=>!clM pairs a o).map v6):=by
   refine (z01 (ds:=rest.map v6) (z5N ((y2S (x:=chD S) (lo:=some ((pre.length:Int)+1)) (hi:=none) rfl rfl rfl).trans (by rw[←e];exact y20))) (by rw[List.length_map];unfold LIM;omega)).trans ?_
   refine (J7 (fun ρ=>∃c0,ρ=[c0,some (.sh (v6 a)),some (.sh (.lst (pairs.map u3)))]) (fun d=>match d with|.int o=>!clM pairs a o.toNat|_=>false) (fun d=>d) _ _ ⟨none,rfl⟩ ?_).trans ?_
   ·rintro d hd ρ ⟨c0,rfl⟩
    obtain⟨o,ho,rfl⟩:=List.mem_map.mp hd
    exact⟨_,rfl,⟨_,rfl⟩,y6B rfl rfl rfl,fun _=>rfl⟩
   ·rw[List.map_id',z7O (q:=fun o=>!clM pairs a o) _ (fun i _=>rfl)]
  have e2:z3Q (J6 [none,some 3,some 0] (dSq (z96 (y1 1) (z2C (d2 z3E (y1 2) (dC (.int 1)))) (y3H))) (w9 0) (x9 (dIn true (z1Q (z6 (y1 1) (z6 (y1 0) (j0)))) (dSq (y1 2)))) (y1 0))
    [some (.sh (.lst (pairs.map u3))),some (.sh (chD S)),some (.sh (.int (pre.length:Int))),some (.sh (v6 a))]=some (!((rest.filter fun o=>!clM pairs a o).map v6).isEmpty):=by
   unfold z3Q;rw[e1]
  refine⟨fun hc=>⟨some (.sh (.int (pre.length:Int))),some (.sh (v6 a)),(Y4 e2).trans ?_⟩,fun hc=>(Y4 e2).trans ?_⟩
  ·have:rest.filter (fun o=>!clM pairs a o)=[]:=List.filter_eq_nil_iff.mpr fun o ho=>by rw[hc o ho];decide
   rw[this];rfl
  ·cases hf:rest.filter (fun o=>!clM pairs a o) with
   | nil =>
    refine absurd (fun o ho=>?_) hc
    have:=List.filter_eq_nil_iff.mp hf o ho
    simpa using this
   | cons x xs=>rfl) S [] none none rfl
 have fin:z2V [some (.sh (.lst (pairs.map u3))),some (.sh (chD S)),none,none]=some (.rt (.bl (decide (PW (clM pairs) S)))):=by
  by_cases hp:PW (clM pairs) S
  ·obtain⟨c2,c3,q⟩:=turn.1 hp;rw[decide_eq_true hp];exact u0 (r:=.rt .non) ((z24 (ds:=z13 0 (S.map v6)) rfl).trans q) rfl
  ·rw[decide_eq_false hp];exact z2W ((z24 (ds:=z13 0 (S.map v6)) rfl).trans (turn.2 hp))
 show z67 (z2V [some (.sh (.lst (pairs.map u3))),some (.sh (chD S)),none,none])=_
 rw[fin];rfl
def x3B(Fr:List D->Option D):z9->Option Out:=z4Y (z1X (z3Q (J6 [none,some 5,some 0] (dSq (y1 1)) (w9 0) (x9 (dIn true (z1Q (z6 (y1 0) (z6 (y1 1) (j0)))) (dSq (y1 2)))) (y1 0))))
 (z1B 3 (w6 x0U (z6 (y1 3) (z6 (w6 Fr (z6 (y1 0) (z6 (dLs (z79 (W9 (y1 1)) (y14 (z6 (y1 5) (j0))))) (z6 (z96 (y1 2) (z2C (d2 z3E (y1 4) (dC (.int 1)))) (y3H)) (j0))))) j0))))
 (z0S)
theorem z5Z(pairs:List Tie):∀(q:Nat) (chosen left:List Nat),left.length<q->chosen.length+left.length≤100->PW (clM pairs) chosen ->
  ∃R:Nat,z0B q [.lst (pairs.map u3),.lst (chosen.map v6),.lst (left.map v6)]=some (.int (R:Int))/\IsMost (clM pairs) chosen left R
 | 0,_,_,h,_,_=>absurd h (Nat.not_lt_zero _)
 | q+1,chosen,left,hq,hl,hp=>by
  let PD:D:=.lst (pairs.map u3)
  let CD:D:=.lst (chosen.map v6)
  let LD:D:=.lst (left.map v6)
  obtain⟨ρ',l1,R,c4,c5,hR,rfl⟩:=z40 (h:=z77 2 (z04 (w9 4) (z04 (w9 5) (z78)))) (g:=x3B (z0B q))
   (fun pre ρ=>∃(R:Nat) (c4 c5:Option Cell),MostTo (clM pairs) chosen (left.take pre.length) (left.drop pre.length) R/\ρ=[some (.sh PD),some (.sh CD),some (.sh LD),some (.sh (.int (R:Int))),c4,c5])
   (ds:=z13 0 (left.map v6)) (ρ:=[some (.sh PD),some (.sh CD),some (.sh LD),some (.sh (.int (chosen.length:Int))),none,none]) ⟨chosen.length,none,none,by rw[List.length_nil,List.take_zero,List.drop_zero];exact MostTo.zero hp,rfl⟩ (fun pre d post ρ he hI=>by
    obtain⟨R,c4,c5,hR,rfl⟩:=hI;have hlen:=congrArg List.length he;rw[z3P,List.length_map,List.length_append,List.length_cons]at hlen
    have hlt:pre.length<left.length:=by omega
    have hd:d = .tup [.int (pre.length:Int),v6 left[pre.length]]:=by
     have h1:(z13 0 (left.map v6))[pre.length]?=some d:=by rw[←he];simp
     rw[z8D,List.getElem?_map,List.getElem?_eq_getElem hlt,Nat.zero_add]at h1;exact (Option.some.inj h1).symm
    have hdrop:=List.drop_eq_getElem_cons hlt;have htake:left.take (pre.length+1)=left.take pre.length++[left[pre.length]]:=(List.take_append_getElem hlt).symm;generalize left[pre.length]=t at hd hdrop htake;subst hd;rw[hdrop]at hR
    refine⟨[some (.sh PD),some (.sh CD),some (.sh LD),some (.sh (.int (R:Int))),some (.sh (.int (pre.length:Int))),some (.sh (v6 t))],?_⟩
    have e1:J6 [none,some 5,some 0] (dSq (y1 1)) (w9 0) (x9 (dIn true (z1Q (z6 (y1 0) (z6 (y1 1) (j0)))) (dSq (y1 2)))) (y1 0)
      [some (.sh PD),some (.sh CD),some (.sh LD),some (.sh (.int (R:Int))),some (.sh (.int (pre.length:Int))),some (.sh (v6 t))]=some ((chosen.filter fun o=>!clM pairs o t).map v6):=by
     refine (z01 (ds:=chosen.map v6) rfl (by rw[List.length_map];unfold LIM;omega)).trans ?_
     refine (J7 (fun ρ=>∃c0,ρ=[c0,some (.sh (v6 t)),some (.sh PD)]) (fun d=>match d with|.int o=>!clM pairs o.toNat t|_=>false) (fun d=>d) _ _ ⟨none,rfl⟩ ?_).trans ?_
     ·rintro d hd ρ ⟨c0,rfl⟩
      obtain⟨o,ho,rfl⟩:=List.mem_map.mp hd
      exact⟨_,rfl,⟨_,rfl⟩,y6B rfl rfl rfl,fun _=>rfl⟩
     ·rw[List.map_id',z7O (q:=fun o=>!clM pairs o t) _ (fun i _=>rfl)]
    have e2:z1X (z3Q (J6 [none,some 5,some 0] (dSq (y1 1)) (w9 0) (x9 (dIn true (z1Q (z6 (y1 0) (z6 (y1 1) (j0)))) (dSq (y1 2)))) (y1 0)))
      [some (.sh PD),some (.sh CD),some (.sh LD),some (.sh (.int (R:Int))),some (.sh (.int (pre.length:Int))),some (.sh (v6 t))]=some (!!((chosen.filter fun o=>!clM pairs o t).map v6).isEmpty):=by
     refine z2A ?_;unfold z3Q;rw[e1]
    rw[List.length_append,List.length_singleton,htake];by_cases hc:∀o∈chosen,clM pairs o t=true
    ·have hf:chosen.filter (fun o=>!clM pairs o t)=[]:=List.filter_eq_nil_iff.mpr fun o ho=>by rw[hc o ho];decide
     have hp':PW (clM pairs) (chosen++[t]):=List.pairwise_append.mpr ⟨hp,List.pairwise_singleton _ _,fun x hx y hy=>by rw[List.mem_singleton.mp hy];exact hc x hx⟩
     obtain⟨R',f1,f2⟩:=z5Z pairs q (chosen++[t]) (left.drop (pre.length+1)) (by rw[List.length_drop];omega) (by rw[List.length_append,List.length_singleton,List.length_drop];omega) hp'
     refine⟨_,rfl,.inl ((Y4 e2).trans ?_),⟨max R R',some (.sh (.int (pre.length:Int))),some (.sh (v6 t)),hR.take f2,rfl⟩⟩
     rw[hf];refine (Y6 (d:=.int ((max R R':Nat):Int)) ?_);refine (u4 (ds:=[.int (R:Int),.int (R':Int)]) (j3 rfl (j3 ?_ rfl))).trans ?_
     ·refine (u4 (ds:=[PD,.lst ((chosen++[t]).map v6),.lst ((left.drop (pre.length+1)).map v6)]) (j3 rfl (j3 ?_ (j3 ?_ rfl)))).trans f1
      ·refine z5O ?_
       show (if (chosen.map v6).length+[v6 t].length≤LIM then some (chosen.map v6++[v6 t]) else none)=_
       rw[if_pos (by rw[List.length_map,List.length_singleton];unfold LIM;omega),List.map_append]
       rfl
      ·exact (y2S (x:=LD) (lo:=some ((pre.length:Int)+1)) (hi:=none) rfl rfl rfl).trans y8Z
     ·rw[x00]
      congr 2
      omega
    ·refine⟨_,rfl,.inl ((Y4 e2).trans ?_),⟨R,some (.sh (.int (pre.length:Int))),some (.sh (v6 t)),hR.skip hc,rfl⟩⟩
     cases hf:chosen.filter (fun o=>!clM pairs o t) with
     | nil =>
      refine absurd (fun o ho=>?_) hc
      have:=List.filter_eq_nil_iff.mp hf o ho
      simpa using this
     | cons x xs=>rfl)
  rw[z3P,List.length_map,List.take_length,List.drop_length]at hR
  refine⟨R,?_,hR.all⟩
  have fin:z45 (z0B q) [some (.sh PD),some (.sh CD),some (.sh LD),none,none,none]=some (.rt (.int (R:Int))):=by
   refine u0 (r:=.rt .non) (Y6 (d:=.int (chosen.length:Int)) ((y2T (ds:=chosen.map v6) rfl).trans (by rw[List.length_map]))) ?_
   exact u0 (r:=.rt .non) ((z24 (ds:=z13 0 (left.map v6)) rfl).trans l1) rfl
  show z67 (z45 (z0B q) [some (.sh PD),some (.sh CD),some (.sh LD),none,none,none])=_
  rw[fin];rfl
section
variable{n:Int}{ts:List Tie}{r:List Int}{k w:Str}
def tnB(m:Nat):D->Bool
 | .int i=>decide (0≤i)&&decide (i<(m:Int))
 | _=>false
def y5J:D->Bool
 | .int _=>true
 | .non=>true
 | .bl _=>true
 | .str _=>true
 | _=>false
theorem y4V(d:D)(h:y5J d=true):z0R [Z7 n ts,d]=some (.bl (tnB ts.length d)):=by
 have hl:z8Y (dSq (dIx (dSq (y1 0)) (dC (.int 1)))) [some (.sh (Z7 n ts)),some (.sh d)]=some (.int (ts.length:Int)):=by
  refine (y2T (ds:=ts.map u3) rfl).trans ?_;rw[List.length_map]
 have fin:z0N [some (.sh (Z7 n ts)),some (.sh d)]=some (.rt (.bl (tnB ts.length d))):=by
  refine z1P ?_
  cases d with
  | int i=>exact y2U (a:=true) (b:=tnB ts.length (.int i)) rfl fun _=>(z5Q (x:=.int 0) (y:=.int i) (z:=.int (ts.length:Int)) (a:=decide (0≤i)) (b:=decide (i<(ts.length:Int))) rfl rfl rfl (fun _=>hl) (fun _=>rfl))
  | non=>exact y2U (a:=false) (b:=false) rfl fun e=>by cases e
  | bl b=>exact y2U (a:=false) (b:=false) rfl fun e=>by cases e
  | str x=>exact y2U (a:=false) (b:=false) rfl fun e=>by cases e
  | tup _=>cases h
  | lst _=>cases h
  | dct _ _=>cases h
 show z67 (z0N [some (.sh (Z7 n ts)),some (.sh d)])=_
 rw[fin];rfl
theorem z1D{ds:List D}(h:∀d∈ds,y5J d=true)(hl:ds.length≤1000){b:Bool}(hb:ds.all (tnB ts.length)=true->x6F ds=some b) :
  J4 [Z7 n ts,.tup ds]=some (.bl (ds.all (tnB ts.length)&&b)):=by
 have e1:J6 [none,some 0] (dSq (y1 1)) (w9 0) (z2B) (w6 z0R (z6 (y1 1) (z6 (y1 0) (j0)))) [some (.sh (Z7 n ts)),some (.sh (.tup ds))]=some ((ds.map (tnB ts.length)).map D.bl):=by
  refine (z01 (ds:=ds) rfl (by unfold LIM;omega)).trans ?_
  refine (z0A (fun ρ=>∃c0,ρ=[c0,some (.sh (Z7 n ts))]) (fun d=>.bl (tnB ts.length d)) _ _ ⟨none,rfl⟩ ?_).trans ?_
  ·rintro d hd ρ ⟨c0,rfl⟩
   exact⟨_,rfl,⟨_,rfl⟩,(u4 (ds:=[Z7 n ts,d]) rfl).trans (y4V d (h d hd))⟩
  ·rw[List.map_map];rfl
 have fin:K8 [some (.sh (Z7 n ts)),some (.sh (.tup ds))]=some (.rt (.bl (ds.all (tnB ts.length)&&b))):=by
  refine u0 (r:=.rt .non) (ρ':=[some (.sh (Z7 n ts)),some (.sh (.tup ds))]) ((Y4 (a:=!true) (z2A (J3 rfl))).trans rfl) ?_
  refine z1P (y2U (a:=ds.all (tnB ts.length)) (b:=b) ((x0X e1 (z8L _)).trans ?_) fun q=>?_)
  ·rw[List.all_map];rfl
  ·exact (u4 (ds:=[.tup ds]) rfl).trans (z8W (hb q) hl)
 show z67 (K8 [some (.sh (Z7 n ts)),some (.sh (.tup ds))])=_
 rw[fin];rfl
theorem y97:∀{S:List Nat},S.Pairwise (· < ·)->x6F (S.map v6)=some true
 | [],_=>rfl
 | [a],_=>rfl
 | a::b::S,h=>by
  have h1:=List.pairwise_cons.mp h;have ih:=y97 h1.2;have hab:=h1.1 b List.mem_cons_self
  have e:ltB (v6 a) (v6 b)=some true:=by
   show some (decide ((a:Int)<(b:Int)))=some true
   rw[decide_eq_true (by omega)]
  show (match ltB (v6 a) (v6 b) with|some x=>(match x6F ((b::S).map v6) with|some c=>some (x&&c)|none=>none)|none=>none)=_
  rw[e,ih];rfl
theorem x8V{S:List Nat}(h:∀x∈S,x<ts.length):(S.map v6).all (tnB ts.length)=true:=by
 rw[List.all_eq_true];intro d hd;obtain⟨i,hi,rfl⟩:=List.mem_map.mp hd
 have:=h i hi
 show (decide ((0:Int)≤(i:Int))&&decide ((i:Int)<(ts.length:Int)))=true
 rw[decide_eq_true (by omega),decide_eq_true (by omega)]
 rfl
theorem y28{S:List Nat}:∀d∈S.map v6,y5J d=true:=fun d hd=>by
 obtain⟨i,_,rfl⟩:=List.mem_map.mp hd;rfl
theorem y1F{d:D}(h:J4 [Z7 n ts,d]=some (.bl false)):J8 [Z7 n ts,.tup (r.map D.int),.str k,d]=some (.bl false):=by
 have fin:Q9 [some (.sh (Z7 n ts)),some (.sh (.tup (r.map D.int))),some (.sh (.str k)),some (.sh d),none,none,none]=some (.rt (.bl false)) :=
  z2W ((Y4 (a:=!false) (z2A (J3 ((u4 (ds:=[Z7 n ts,d]) rfl).trans h)))).trans rfl)
 show z67 (Q9 [some (.sh (Z7 n ts)),some (.sh (.tup (r.map D.int))),some (.sh (.str k)),some (.sh d),none,none,none])=_
 rw[fin];rfl
theorem z3C{d:D}(h:y7E "tuple" d=false):J4 [Z7 n ts,d]=some (.bl false):=by
 have fin:K8 [some (.sh (Z7 n ts)),some (.sh d)]=some (.rt (.bl false)) :=
  z2W ((Y4 (a:=!false) (z2A (J3 ((w1R (d:=d) rfl).trans (by rw[h]))))).trans rfl)
 show z67 (K8 [some (.sh (Z7 n ts)),some (.sh d)])=_
 rw[fin];rfl
theorem z6K(h:Lay n ts r)(hk:KW k w){S:List Nat}(hup:S.Pairwise (· < ·))(hlt:∀x∈S,x<ts.length):J8 [Z7 n ts,.tup (r.map D.int),.str k,chD S]=some (.bl (decide (PW (clP r ts w) S))):=by
 have hS:S.length≤1000:=by
  have:=z21 S (List.range ts.length) (hup.imp fun {a b} q=>Nat.ne_of_lt q) fun i hi=>List.mem_range.mpr (hlt i hi)
  rw[List.length_range]at this
  have:=h.m12
  omega
 have htn:J4 [Z7 n ts,chD S]=some (.bl true):=by
  refine (z1D (b:=true) y28 (by rw[List.length_map];exact hS) fun _=>y97 hup).trans ?_
  rw[x8V hlt];rfl
 have hs:=z5V (n:=n) h.nd h.rl h.hm' h.mem
 let g:z9->Option Out:=z4Y (z1X (x9 (x1S (J6 [none,some 4,some 6,some 2] (dSq (z96 (y1 3) (z2C (d2 z3E (y1 5) (dC (.int 1)))) (y3H))) (w9 0) (z2B) (w6 j6 (z6 (dIx (dSq (y1 1)) (y1 2)) (z6 (dIx (dSq (y1 1)) (y1 0)) (z6 (y1 3) (j0)))))))))
  (z14 (dC (.bl false)))
  (z0S)
 let mk:Option Cell->Option Cell->z9:=fun c5 c6=>[some (.sh (Z7 n ts)),some (.sh (.tup (r.map D.int))),some (.sh (.str k)),some (.sh (chD S)),some (.sh (K6 r ts)),c5,c6]
 have turn:=y0Z (h:=z77 2 (z04 (w9 5) (z04 (w9 6) (z78)))) (g:=g) (S:=S) (mk:=mk) (cl:=clP r ts w) (fun pre a rest c2 c3 e=>by
  refine⟨mk (some (.sh (.int (pre.length:Int)))) (some (.sh (v6 a))),rfl,?_⟩
  have hsl:rest.length≤1000:=by have:=congrArg List.length e;rw[List.length_append,List.length_cons]at this;omega
  have ha:a<ts.length:=hlt a (by rw[←e];simp)
  have ho:∀o∈rest,o<ts.length:=fun o ho=>hlt o (by rw[←e];simp[ho])
  have e1:J6 [none,some 4,some 6,some 2] (dSq (z96 (y1 3) (z2C (d2 z3E (y1 5) (dC (.int 1)))) (y3H))) (w9 0) (z2B) (w6 j6 (z6 (dIx (dSq (y1 1)) (y1 2)) (z6 (dIx (dSq (y1 1)) (y1 0)) (z6 (y1 3) (j0)))))
    (mk (some (.sh (.int (pre.length:Int)))) (some (.sh (v6 a))))=some ((rest.map (clP r ts w a)).map D.bl):=by
   refine (z01 (ds:=rest.map v6) (z5N ((y2S (x:=chD S) (lo:=some ((pre.length:Int)+1)) (hi:=none) rfl rfl rfl).trans (by rw[←e];exact y20))) (by rw[List.length_map];unfold LIM;omega)).trans ?_
   refine (z0A (fun ρ=>∃c0,ρ=[c0,some (.sh (K6 r ts)),some (.sh (v6 a)),some (.sh (.str k))]) (fun d=>match d with|.int o=>.bl (clP r ts w a o.toNat)|_=>.non) _ _ ⟨none,rfl⟩ ?_).trans ?_
   ·rintro d hd ρ ⟨c0,rfl⟩
    obtain⟨o,ho',rfl⟩:=List.mem_map.mp hd
    refine⟨_,rfl,⟨_,rfl⟩,?_⟩
    have a1:dIx (dSq (y1 1)) (y1 2) [some (.sh (v6 o)),some (.sh (K6 r ts)),some (.sh (v6 a)),some (.sh (.str k))]=some (u3 (z05 r ts a)):=(z5P (ds:=ts.map fun t=>u3 (z18 r t)) (j:=(a:Int)) (z3O rfl) rfl).trans (z49 ha)
    have a2:dIx (dSq (y1 1)) (y1 0) [some (.sh (v6 o)),some (.sh (K6 r ts)),some (.sh (v6 a)),some (.sh (.str k))]=some (u3 (z05 r ts o)):=(z5P (ds:=ts.map fun t=>u3 (z18 r t)) (j:=(o:Int)) (z3O rfl) rfl).trans (z49 (ho o ho'))
    exact (u4 (j3 a1 (j3 a2 (j3 (d:=.str k) rfl rfl)))).trans (y07 hk.tab _ _)
   ·rw[List.map_map,List.map_map];rfl
  have e2:z1X (x9 (x1S (J6 [none,some 4,some 6,some 2] (dSq (z96 (y1 3) (z2C (d2 z3E (y1 5) (dC (.int 1)))) (y3H))) (w9 0) (z2B) (w6 j6 (z6 (dIx (dSq (y1 1)) (y1 2)) (z6 (dIx (dSq (y1 1)) (y1 0)) (z6 (y1 3) (j0))))))))
    (mk (some (.sh (.int (pre.length:Int)))) (some (.sh (v6 a))))=some (!(rest.map (clP r ts w a)).all id):=z2A (J3 (x0X e1 (z8L _)))
  refine⟨fun hc=>⟨some (.sh (.int (pre.length:Int))),some (.sh (v6 a)),(Y4 e2).trans ?_⟩,fun hc=>(Y4 e2).trans ?_⟩
  ·have:(rest.map (clP r ts w a)).all id=true:=by
    rw[List.all_map,List.all_eq_true]
    exact fun o ho=>hc o ho
   rw[this];rfl
  ·have:(rest.map (clP r ts w a)).all id=false:=by
    cases hq:(rest.map (clP r ts w a)).all id with
    | false=>rfl
    | true =>
     rw[List.all_map,List.all_eq_true]at hq
     exact absurd (fun o ho=>hq o ho) hc
   rw[this]
   rfl) S [] none none rfl
 have pre:∀o:Option Out,W5 (z98 (y2Z (y1 3)) (z77 2 (z04 (w9 5) (z04 (w9 6) (z78)))) g) (z14 (dC (.bl true))) (mk none none)=o ->
   Q9 [some (.sh (Z7 n ts)),some (.sh (.tup (r.map D.int))),some (.sh (.str k)),some (.sh (chD S)),none,none,none]=o:=fun o ho=>by
  refine u0 (r:=.rt .non) (ρ':=[some (.sh (Z7 n ts)),some (.sh (.tup (r.map D.int))),some (.sh (.str k)),some (.sh (chD S)),none,none,none]) ((Y4 (a:=!true) (z2A (J3 ((u4 (ds:=[Z7 n ts,chD S]) rfl).trans htn)))).trans rfl) ?_;refine u0 (r:=.rt .non) (Y6 ((u4 (ds:=[Z7 n ts,.tup (r.map D.int)]) rfl).trans hs)) ?_;exact ho
 have fin:Q9 [some (.sh (Z7 n ts)),some (.sh (.tup (r.map D.int))),some (.sh (.str k)),some (.sh (chD S)),none,none,none]=some (.rt (.bl (decide (PW (clP r ts w) S)))):=by
  refine pre _ ?_;by_cases hp:PW (clP r ts w) S
  ·obtain⟨c2,c3,q⟩:=turn.1 hp;rw[decide_eq_true hp];exact u0 (r:=.rt .non) ((z24 (ds:=z13 0 (S.map v6)) rfl).trans q) rfl
  ·rw[decide_eq_false hp];exact z2W ((z24 (ds:=z13 0 (S.map v6)) rfl).trans (turn.2 hp))
 show z67 (Q9 [some (.sh (Z7 n ts)),some (.sh (.tup (r.map D.int))),some (.sh (.str k)),some (.sh (chD S)),none,none,none])=_
 rw[fin];rfl
theorem x1B{i j:Nat}:clM (g9 ts.length (clP r ts w) ts.length) i j=true↔i<j/\j<ts.length/\clP r ts w i j=true:=by
 unfold clM;rw[decide_eq_true_eq,z2T];constructor
 ·rintro ⟨a,b,e,h1,h2,h3,h4⟩
  have e1:=congrArg Prod.fst e;have e2:=congrArg Prod.snd e
  have q1:i=a:=by
   have z:(i:Int)=(a:Int):=e1;omega
  have q2:j=b:=by
   have z:(j:Int)=(b:Int):=e2;omega
  subst q1;subst q2
  exact⟨h2,h3,h4⟩
 ·rintro ⟨h1,h2,h3⟩
  exact⟨i,j,rfl,by omega,h1,h2,h3⟩
theorem y0M{S:List Nat}(hup:S.Pairwise (· < ·))(hlt:∀x∈S,x<ts.length):PW (clM (g9 ts.length (clP r ts w) ts.length)) S↔PW (clP r ts w) S:=by
 constructor
 ·exact fun h=>h.imp fun {a b} q=>(x1B.mp q).2.2
 ·exact fun h=>List.Pairwise.imp_of_mem (fun {a b} ha hb q=>x1B.mpr ⟨q.2,hlt b hb,q.1⟩) (h.and hup)
theorem x7C{F:List Nat}{R:Nat}(hF:Most ts.length (clP r ts w) F)(hR:IsMost (clM (g9 ts.length (clP r ts w) ts.length)) [] (List.range ts.length) R):F.length=R:=by
 refine Nat.le_antisymm ?_ ?_
 ·obtain⟨e,e1,e2,e3⟩:=x57 (cl:=clP r ts w) (fun i j=>z7Q i j) (L:=List.range ts.length) (S:=F) List.nodup_range (hF.up.imp fun {a b} q=>Nat.ne_of_lt q) (fun x hx=>List.mem_range.mpr (hF.lt x hx)) hF.pw
  have up:e.Pairwise (· < ·):=List.pairwise_lt_range.sublist e1
  have lt:∀x∈e,x<ts.length:=fun x hx=>List.mem_range.mp (e1.subset hx)
  have:=hR.top e e1 ((y0M up lt).mpr e2)
  rw[List.length_nil,Nat.zero_add]at this;omega
 ·obtain⟨e,e1,e2,e3⟩:=hR.has;have up:e.Pairwise (· < ·):=List.pairwise_lt_range.sublist e1
  have lt:∀x∈e,x<ts.length:=fun x hx=>List.mem_range.mp (e1.subset hx)
  have:=hF.top e (up.imp fun {a b} q=>Nat.ne_of_lt q) lt ((y0M up lt).mp e2)
  rw[e3,List.length_nil,Nat.zero_add];exact this
end
theorem y46{d:D}(h:depth d≤z1W):dNe d d=some (.bl false):=by
 unfold dNe;rw[if_pos ⟨h,h⟩,z7R];rfl
theorem x0N{n:Nat}{p:Int}:p∈iUp 0 n↔0≤p/\p<(n:Int):=by
 unfold iUp;constructor
 ·intro h;obtain⟨k,hk,rfl⟩:=List.mem_map.mp h
  have:=List.mem_range.mp hk
  omega
 ·intro h
  exact List.mem_map.mpr ⟨p.toNat,List.mem_range.mpr (by omega),by omega⟩
theorem x0M(n:Nat):(iUp 0 n).Nodup:=by
 unfold iUp
 exact List.pairwise_map.mpr (List.nodup_range.imp fun {a b} h z=>h (by omega))
theorem z8H:∀S:List Nat,Y7 (S.map v6)=0
 | []=>by simp[Y7]
 | a::S=>by
  rw[List.map_cons,Y7,z8H S];simp[v6,depth]
section
variable{n:Int}{ts:List Tie}{r:List Int}{k w:Str}
theorem y1O:∀{xs:List Int},xs.Nodup->z4E xs=xs
 | [],_=>rfl
 | x::xs,h=>by
  have h':=List.nodup_cons.mp h;unfold z4E;rw[y1O h'.2,if_neg h'.1]
theorem y8V{S:List Nat}(h:S.Pairwise (· < ·)):S.mergeSort (fun a b=>decide (a≤b))=S:=List.mergeSort_of_pairwise (h.imp fun {a b} q=>decide_eq_true (Nat.le_of_lt q))
theorem y3X{fa:z9->Option (List D)}{ρ:z9}{S:List Nat}(hf:fa ρ=some (S.map v6))(h:S.Pairwise (· < ·))(hl:S.length<64):z2Z fa ρ=some (S.map v6):=by
 unfold z2Z;rw[hf];dsimp only;rw[y0V];dsimp only
 rw[if_pos (by rw[List.length_map];exact hl),y1O,y1Y,y8V h,List.map_map]
 ·rfl
 ·exact List.pairwise_map.mpr (h.imp fun {a b} q z=>by omega)
def z26(m:Nat)(c:Int):List Nat:=(List.range m).filter fun i=>mix (c+(i:Int)) 9929 4==0
def w3S:z9->Option D:=z4F (J6 [none,some 0] (z1R (y1 1)) (w9 0) (x9 (d2 dEq (w6 K0 (z6 (d2 z3E (y1 1) (y1 0)) (z6 (dC (.int 9929)) (z6 (dC (.int 4)) (j0))))) (dC (.int 0)))) (y1 0))
theorem x6V{m:Nat}{c:Int}(hm:m≤1000):w3S [some (.sh (.int c)),some (.sh (.int (m:Int)))]=some (chD (z26 m c)):=by
 refine y0X ?_
 have e0:z1R (y1 1) [some (.sh (.int c)),some (.sh (.int (m:Int)))]=some ((List.range m).map v6):=y95 rfl (by omega)
 refine (z01 e0 (by rw[List.length_map,List.length_range];unfold LIM;omega)).trans ?_
 refine (J7 (fun ρ=>∃c0,ρ=[c0,some (.sh (.int c))]) (fun d=>match d with|.int i=>mix (c+i) 9929 4==0|_=>false) (fun d=>d) _ _ ⟨none,rfl⟩ ?_).trans ?_
 ·rintro d hd ρ ⟨c0,rfl⟩
  obtain⟨i,hi,rfl⟩:=List.mem_map.mp hd
  refine⟨_,rfl,⟨_,rfl⟩,J3 ?_,fun _=>rfl⟩
  refine (z7P (x:=.int (mix (c+(i:Int)) 9929 4)) (y:=.int 0) ?_ rfl).trans ?_
  ·exact (u4 (ds:=[.int (c+(i:Int)),.int 9929,.int 4]) (j3 ((z7P (x:=.int c) (y:=.int (i:Int)) rfl rfl).trans rfl) rfl)).trans (z0C _ (by decide) (by decide))
  ·unfold dEq
   rw[if_pos (by simp[depth,z1W])]
   rfl
 ·rw[List.map_id',z7O (q:=fun (i:Nat)=>mix (c+(i:Int)) 9929 4==0) _ (fun i _=>rfl)]
  rfl
theorem x2C(m:Nat)(c:Int):(z26 m c).Pairwise (· < ·):=List.pairwise_lt_range.sublist List.filter_sublist
theorem x2D{m:Nat}{c:Int}:∀x∈z26 m c,x<m:=fun x hx=>List.mem_range.mp (List.mem_filter.mp hx).1
def Fit(m:Nat)(S:List Nat):Prop:=S.Pairwise (· < ·)/\∀x∈S,x<m
def y0F:z9->Option Out:=W5 (z1B 10 (w6 J8 (z6 (y1 2) (z6 (y1 3) (z6 (y1 5) (z6 (y1 9) (j0)))))))
 (z4Y (y3G (z1X (x9 (y85 "bool" (y1 10)))) (x9 (d2 dNe (y1 10) (w6 z08 (z6 (y1 6) (z6 (y1 9) (j0)))))))
 (z14 (dC (.bl false)))
 (z0S))
def y4Q:z9->Option Out:=z4Y (x9 (d2 x8L (w6 J8 (z6 (y1 2) (z6 (y1 3) (z6 (y1 5) (z6 (y1 11) (j0)))))) (dC (.bl false))))
 (z14 (dC (.bl false)))
 (z0S)
def y2V(c0 c1:Option Cell)(n:Int)(ts:List Tie)(r:List Int)(k:Str)(pairs:List Tie)(F:List Nat)(c8 c9 c10 c11:Option Cell):z9 :=
 [c0,c1,some (.sh (Z7 n ts)),some (.sh (.tup (r.map D.int))),some (.sh (.int (ts.length:Int))),some (.sh (.str k)),some (.sh (.lst (pairs.map u3))),some (.sh (chD F)),c8,c9,c10,c11]
theorem y3U(h:Lay n ts r)(hk:KW k w){S F:List Nat}(hS:Fit ts.length S){c0 c1 c8 c10 c11:Option Cell} :
  ∃c10',y0F (y2V c0 c1 n ts r k (g9 ts.length (clP r ts w) ts.length) F c8 (some (.sh (chD S))) c10 c11)=some (.nx (y2V c0 c1 n ts r k (g9 ts.length (clP r ts w) ts.length) F c8 (some (.sh (chD S))) c10' c11)):=by
 have hl:S.length≤1000:=by
  have:=z21 S (List.range ts.length) (hS.1.imp fun {a b} q=>Nat.ne_of_lt q) fun i hi=>List.mem_range.mpr (hS.2 i hi)
  rw[List.length_range]at this
  have:=h.m12
  omega
 have e1:=z6K h hk hS.1 hS.2;have e2:=z4K (g9 ts.length (clP r ts w) ts.length) S hl
 rw[show decide (PW (clM (g9 ts.length (clP r ts w) ts.length)) S)=decide (PW (clP r ts w) S) from decide_eq_decide.mpr (y0M hS.1 hS.2)]at e2
 generalize decide (PW (clP r ts w) S)=b at e1 e2
 refine⟨some (.sh (.bl b)),?_⟩
 refine u0 (r:=.rt .non) (Y6 (d:=.bl b) ((u4 (ds:=[Z7 n ts,.tup (r.map D.int),.str k,chD S]) rfl).trans e1)) ?_
 refine (Y4 (a:=!true||false) (z9Y (z2A (J3 rfl)) fun _=>J3 ((z7P (x:=.bl b) (y:=.bl b) rfl ((u4 (ds:=[.lst ((g9 ts.length (clP r ts w) ts.length).map u3),chD S]) rfl).trans e2)).trans (y46 (by simp[depth,z1W]))))).trans rfl
theorem y7V{pairs:List Tie}{F:List Nat}{d:D}(hd:J8 [Z7 n ts,.tup (r.map D.int),.str k,d]=some (.bl false)){c0 c1 c8 c9 c10:Option Cell} :
  y4Q (y2V c0 c1 n ts r k pairs F c8 c9 c10 (some (.sh d)))=some (.nx (y2V c0 c1 n ts r k pairs F c8 c9 c10 (some (.sh d)))) :=
 (Y4 (a:=false) (J3 ((z7P (x:=.bl false) (y:=.bl false) ((u4 (ds:=[Z7 n ts,.tup (r.map D.int),.str k,d]) rfl).trans hd) rfl).trans rfl))).trans rfl
theorem z58{d:D}{ds:List D}(h:d∈ds)(hf:tnB ts.length d=false)(hp:∀d∈ds,y5J d=true)(hl:ds.length≤1000):J4 [Z7 n ts,.tup ds]=some (.bl false):=by
 have e:ds.all (tnB ts.length)=false:=by
  cases hq:ds.all (tnB ts.length) with
  | false=>rfl
  | true =>
   have:=List.all_eq_true.mp hq d h
   rw[hf]at this;cases this
 refine (z1D (b:=false) hp hl fun q=>by rw[e]at q;cases q).trans ?_
 rw[e];rfl
theorem x8B{F:List Nat}(hF:F.length≤12):∀d∈[D.tup (F.map v6++[.int (ts.length:Int)]),.tup [.int (-1)],.tup [.int 0,.int 0],.lst (F.map v6),.non,.tup [.str "0"],.tup [.non],.tup [.bl true,.int 2]],
  J8 [Z7 n ts,.tup (r.map D.int),.str k,d]=some (.bl false):=by
 intro d hd;simp only[List.mem_cons,List.not_mem_nil,or_false]at hd;refine y1F ?_
 rcases hd with rfl|rfl|rfl|rfl|rfl|rfl|rfl|rfl
 ·refine z58 (d:=.int (ts.length:Int)) (List.mem_append_right _ (List.mem_singleton.mpr rfl)) ?_ (fun d hd=>?_) (by rw[List.length_append,List.length_map,List.length_singleton];omega)
  ·show (decide ((0:Int)≤(ts.length:Int))&&decide ((ts.length:Int)<(ts.length:Int)))=false
   rw[decide_eq_false (show ¬(ts.length:Int)<(ts.length:Int) by omega),Bool.and_false]
  ·rcases List.mem_append.mp hd with z|z
   ·exact y28 d z
   ·rw[List.mem_singleton.mp z];rfl
 ·exact z58 (d:=.int (-1)) (List.mem_singleton.mpr rfl) rfl (fun d hd=>by rw[List.mem_singleton.mp hd];rfl) (by decide)
 ·refine (z1D (b:=false) (fun d hd=>?_) (by decide) fun _=>rfl).trans (by rw[Bool.and_false])
  simp only[List.mem_cons,List.not_mem_nil,or_false]at hd
  rcases hd with rfl|rfl<;>rfl
 ·exact z3C rfl
 ·exact z3C rfl
 ·exact z58 (d:=.str "0") (List.mem_singleton.mpr rfl) rfl (fun d hd=>by rw[List.mem_singleton.mp hd];rfl) (by decide)
 ·exact z58 (d:=.non) (List.mem_singleton.mpr rfl) rfl (fun d hd=>by rw[List.mem_singleton.mp hd];rfl) (by decide)
 ·refine z58 (d:=.bl true) List.mem_cons_self rfl (fun d hd=>?_) (by decide)
  simp only[List.mem_cons,List.not_mem_nil,or_false]at hd
  rcases hd with rfl|rfl<;>rfl
theorem w4C(a b c d e f g h:D):[a,b,c,d,e,f,g,h].length≤LIM:=by unfold LIM;simp only[List.length_cons,List.length_nil];omega
def w3U:z9->Option (List D):=(y14 (z6 (d2 z3E (y1 7) (z1Q (z6 (y1 4) (j0)))) (z6 (z1Q (z6 (x16 (dC (.int 1))) (j0))) (z6 (z1Q (z6 (dC (.int 0)) (z6 (dC (.int 0)) (j0)))) (z6 (dLs (dQF some (dSq (y1 7)))) (z6 (dC .non) (z6 (z1Q (z6 (dC (.str "0")) (j0))) (z6 (z1Q (z6 (dC .non) (j0))) (z6 (z1Q (z6 (dC (.bl true)) (z6 (dC (.int 2)) (j0)))) (j0))))))))))
def x8A(m:Nat)(F:List Nat):List D:=[D.tup (F.map v6++[.int (m:Int)]),.tup [.int (-1)],.tup [.int 0,.int 0],.lst (F.map v6),.non,.tup [.str "0"],.tup [.non],.tup [.bl true,.int 2]]
theorem x8C{pairs:List Tie}{F:List Nat}(hF:F.length≤12){c0 c1 c8 c9 c10 c11:Option Cell}:w3U (y2V c0 c1 n ts r k pairs F c8 c9 c10 c11)=some (x8A ts.length F):=by
 have e1:d2 z3E (y1 7) (z1Q (z6 (y1 4) (j0))) (y2V c0 c1 n ts r k pairs F c8 c9 c10 c11)=some (D.tup (F.map v6++[.int (ts.length:Int)])):=by
  show (if (F.map v6).length+[D.int (ts.length:Int)].length≤LIM then some (D.tup (F.map v6++[D.int (ts.length:Int)])) else none)=_
  rw[if_pos (by rw[List.length_map,List.length_singleton];unfold LIM;omega)]
 have e2:(z6 (z1Q (z6 (x16 (dC (.int 1))) (j0))) (z6 (z1Q (z6 (dC (.int 0)) (z6 (dC (.int 0)) (j0)))) (z6 (dLs (dQF some (dSq (y1 7)))) (z6 (dC .non) (z6 (z1Q (z6 (dC (.str "0")) (j0))) (z6 (z1Q (z6 (dC .non) (j0))) (z6 (z1Q (z6 (dC (.bl true)) (z6 (dC (.int 2)) (j0)))) (j0)))))))) (y2V c0 c1 n ts r k pairs F c8 c9 c10 c11)=some [.tup [.int (-1)],.tup [.int 0,.int 0],.lst (F.map v6),.non,.tup [.str "0"],.tup [.non],.tup [.bl true,.int 2]]:=rfl
 exact y6E (j3 e1 e2) (w4C _ _ _ _ _ _ _ _)
def y64:z9->Option Out :=
 (W5 (z1B 6 (w6 z1J (z6 (y1 2) (z6 (y1 3) (z6 (y1 5) (j0))))))
 (W5 (z1B 7 (w6 z4D (z6 (y1 2) (z6 (y1 3) (z6 (y1 5) (j0))))))
 (W5 (z4Y (y3G (z1X (x9 (y85 "tuple" (y1 7)))) (y3G (x9 (d2 dNe (dLs (dQF some (dSq (y1 7)))) (dLs (z2Z (dSq (y1 7)))))) (z1X (x9 (w6 z08 (z6 (y1 6) (z6 (y1 7) (j0))))))))
 (z14 (dC (.bl false)))
 (z0S))
 (W5 (z4Y (y3G (z3Q (J6 [none,some 4] (dSq (y1 7)) (w9 0) (z1X (x9 (z0P x87 y1H (dC (.int 0)) (y1 0) (y1 1)))) (y1 0))) (x9 (d2 dNe (z8Y (dSq (y1 7))) (w6 (z0B 12) (z6 (y1 6) (z6 (dLs (y14 (j0))) (z6 (dLs (z1I (y1 4))) (j0))))))))
 (z14 (dC (.bl false)))
 (z0S))
 (W5 (z1B 8 (dLs (J6 [none,some 4] (dSq (z96 (y1 0) (z2C (dC (.int 3))) (z2C (dC (.int 7))))) (w9 0) (z2B) w3S)))
 (W5 (z98 (dSq (dLs (z79 (z79 (W9 (y1 8)) (y14 (z6 (y1 7) (j0)))) (J6 [none] (dSq (z96 (y1 6) (y3H) (z2C (dC (.int 2))))) (w9 0) (z2B) (z4F (dSq (y1 0))))))) (w9 9)
 y0F)
 (z98 (dSq (dLs w3U)) (w9 11)
 y4Q)))))))
theorem x40(ns:List Int)(lo hi:Option Int):∃ms:List Int,cut (ns.map D.int) lo hi=ms.map D.int/\ms.length≤ns.length:=by
 unfold cut
 refine⟨(ns.drop (HT.sIx (ns.map D.int).length 0 lo)).take (HT.sIx (ns.map D.int).length (ns.map D.int).length hi-HT.sIx (ns.map D.int).length 0 lo),?_,?_⟩
 ·rw[←List.map_drop,←List.map_take]
 ·rw[List.length_take,List.length_drop];omega
theorem z8B(h:Lay n ts r)(h11:ts.length≤11)(hk:KW k w){ns:List Int}(hns:ns.length≤63){c1 c6 c7 c8 c9 c10 c11:Option Cell} :
  ∃c6' c7' c8' c9' c10' c11',y64 [some (.sh (.lst (ns.map D.int))),c1,some (.sh (Z7 n ts)),some (.sh (.tup (r.map D.int))),some (.sh (.int (ts.length:Int))),some (.sh (.str k)),c6,c7,c8,c9,c10,c11] =
   some (.nx [some (.sh (.lst (ns.map D.int))),c1,some (.sh (Z7 n ts)),some (.sh (.tup (r.map D.int))),some (.sh (.int (ts.length:Int))),some (.sh (.str k)),c6',c7',c8',c9',c10',c11']):=by
 let c0:Option Cell:=some (.sh (.lst (ns.map D.int)))
 have hn6:=h.n6
 have ok6:∀t∈ts,0≤t.1/\t.1<t.2/\t.2<6:=fun t ht=>by have:=h.ok t ht;omega
 have eP:=z7D (n:=n) (r:=r) hk h.m12 h.up ok6 h.mem;obtain⟨F,eF,hF⟩:=y1E h hk
 have hFl:F.length≤12:=by
  have:=z21 F (List.range ts.length) (hF.up.imp fun {a b} q=>Nat.ne_of_lt q) fun i hi=>List.mem_range.mpr (hF.lt i hi)
  rw[List.length_range]at this;omega
 obtain⟨R,eR,hR⟩:=z5Z (g9 ts.length (clP r ts w) ts.length) 12 [] (List.range ts.length) (by rw[List.length_range];omega) (by rw[List.length_range,List.length_nil];omega) List.Pairwise.nil
 have hFR:=x7C hF hR
 have eC:z08 [.lst ((g9 ts.length (clP r ts w) ts.length).map u3),chD F]=some (.bl true):=by
  rw[z4K _ _ (by omega),decide_eq_true ((y0M hF.up hF.lt).mpr hF.pw)]
 have hpm:∀t∈g9 ts.length (clP r ts w) ts.length,∃i j:Nat,t=((i:Int),(j:Int))/\i<j/\j<ts.length:=fun t ht=>by
  obtain⟨i,j,e,_,h1,h2,_⟩:=z2T.mp ht
  exact⟨i,j,e,h1,h2⟩
 have tell:∀{S:List Nat},Fit ts.length S->∀{c8 c10 c11:Option Cell},_:=fun {S} hS {c8 c10 c11}=>y3U (S:=S) (F:=F) h hk hS (c0:=c0) (c1:=c1) (c8:=c8) (c10:=c10) (c11:=c11)
 generalize g9 ts.length (clP r ts w) ts.length=pairs at eP eR eC hpm tell;obtain⟨ms,em,hml⟩:=x40 ns (some 3) (some 7)
 obtain⟨two,e2,h2l⟩:∃two:List (List Nat),J6 [none] (dSq (z96 (y1 6) (y3H) (z2C (dC (.int 2))))) (w9 0) (z2B) (z4F (dSq (y1 0))) (y2V c0 c1 n ts r k pairs F (some (.sh (.lst ((ms.map (z26 ts.length)).map chD)))) c9 c10 c11)=some (two.map chD)/\(two.length≤2/\∀S∈two,Fit ts.length S):=by
  have hc:cut (pairs.map u3) none (some 2)=(pairs.take 2).map u3:=by
   unfold cut;have e2:HT.sIx (pairs.map u3).length (pairs.map u3).length (some 2)=min 2 (pairs.map u3).length:=HT.sIx_nat _ _ 2;rw[e2,HT.sIx_none,List.drop_zero,Nat.sub_zero,List.map_take,List.take_eq_take_iff];omega
  have hp2:∀t∈pairs.take 2,∃i j:Nat,t=((i:Int),(j:Int))/\i<j/\j<ts.length:=fun t ht=>hpm t (List.mem_of_mem_take ht)
  have hl2:(pairs.take 2).length≤2:=by rw[List.length_take];omega
  generalize pairs.take 2=qs at hc hp2 hl2
  refine⟨qs.map fun t=>[t.1.toNat,t.2.toNat],?_,by rw[List.length_map];exact hl2,fun S hS=>?_⟩
  ·refine (z01 (ds:=qs.map u3) (z3O ((y2S (x:=.lst (pairs.map u3)) (lo:=none) (hi:=some 2) rfl rfl rfl).trans (by rw[←hc];rfl))) (by rw[List.length_map];unfold LIM;omega)).trans ?_
   refine (z0A (fun ρ=>∃c0,ρ=[c0]) (fun d=>d) _ _ ⟨none,rfl⟩ ?_).trans ?_
   ·rintro d hd ρ ⟨c0,rfl⟩
    obtain⟨t,ht,rfl⟩:=List.mem_map.mp hd
    exact⟨_,rfl,⟨_,rfl⟩,rfl⟩
   ·rw[List.map_id',List.map_map]
    refine congrArg some (List.map_congr_left fun t ht=>?_)
    obtain⟨i,j,rfl,_,_⟩:=hp2 t ht;rfl
  ·obtain⟨t,ht,rfl⟩:=List.mem_map.mp hS;obtain⟨i,j,rfl,h1,h2⟩:=hp2 t ht
   refine⟨List.pairwise_cons.mpr ⟨fun x hx=>by rw[List.mem_singleton.mp hx];exact h1,List.pairwise_singleton _ _⟩,fun x hx=>?_⟩
   rcases List.mem_cons.mp hx with z|hx
   ·rw[z]
    show i<ts.length
    omega
   ·rw[List.mem_singleton.mp hx];exact h2
 have hall:∀S∈ms.map (z26 ts.length)++[F]++two,Fit ts.length S:=fun S hS=>by
  rcases List.mem_append.mp hS with z|z
  ·rcases List.mem_append.mp z with z|z
   ·obtain⟨c,_,rfl⟩:=List.mem_map.mp z
    exact⟨x2C _ _,x2D⟩
   ·rw[List.mem_singleton.mp z];exact⟨hF.up,hF.lt⟩
  ·exact h2l.2 S z
 obtain⟨ρ1,l1,d9,d10,rfl⟩:=y0T (h:=w9 9) (g:=y0F) (fun ρ=>∃d9 d10:Option Cell,ρ=y2V c0 c1 n ts r k pairs F (some (.sh (.lst ((ms.map (z26 ts.length)).map chD)))) d9 d10 c11) (ds:=(ms.map (z26 ts.length)++[F]++two).map chD)
  (ρ:=y2V c0 c1 n ts r k pairs F (some (.sh (.lst ((ms.map (z26 ts.length)).map chD)))) c9 c10 c11) ⟨c9,c10,rfl⟩ (fun d hd ρ hI=>by
   obtain⟨d9,d10,rfl⟩:=hI;obtain⟨S,hS,rfl⟩:=List.mem_map.mp hd;obtain⟨c10',e⟩:=tell (hall S hS) (c8:=some (.sh (.lst ((ms.map (z26 ts.length)).map chD)))) (c10:=d10) (c11:=c11)
   exact⟨_,_,rfl,.inl e,⟨_,_,rfl⟩⟩)
 obtain⟨ρ2,l2,d11,rfl⟩:=y0T (h:=w9 11) (g:=y4Q) (fun ρ=>∃d11:Option Cell,ρ=y2V c0 c1 n ts r k pairs F (some (.sh (.lst ((ms.map (z26 ts.length)).map chD)))) d9 d10 d11)
  (ds:=x8A ts.length F)
  (ρ:=y2V c0 c1 n ts r k pairs F (some (.sh (.lst ((ms.map (z26 ts.length)).map chD)))) d9 d10 c11) ⟨c11,rfl⟩ (fun d hd ρ hI=>by
   obtain⟨d11,rfl⟩:=hI
   exact⟨_,_,rfl,.inl (y7V (x8B hFl d hd)),⟨_,rfl⟩⟩)
 refine⟨some (.sh (.lst (pairs.map u3))),some (.sh (chD F)),some (.sh (.lst ((ms.map (z26 ts.length)).map chD))),d9,d10,d11,?_⟩
 refine u0 (r:=.rt .non) (Y6 ((u4 (ds:=[Z7 n ts,.tup (r.map D.int),.str k]) rfl).trans eP)) ?_;refine u0 (r:=.rt .non) (Y6 ((u4 (ds:=[Z7 n ts,.tup (r.map D.int),.str k]) rfl).trans eF)) ?_;refine u0 (r:=.rt .non) (ρ':=y2V c0 c1 n ts r k pairs F c8 c9 c10 c11) ?_ ?_
 ·refine (Y4 (a:=!true||(false||!true)) (z9Y (z2A (J3 rfl)) fun _=>z9Y (J3 ?_) fun _=>z2A (J3 ((u4 (ds:=[.lst (pairs.map u3),chD F]) rfl).trans eC)))).trans rfl
  refine (z7P (x:=.lst (F.map v6)) (y:=.lst (F.map v6)) rfl (z5O (y3X rfl hF.up (by omega)))).trans (y46 ?_)
  rw[depth,z8H];decide
 refine u0 (r:=.rt .non) (ρ':=y2V c0 c1 n ts r k pairs F c8 c9 c10 c11) ?_ ?_
 ·refine (Y4 (a:=false||false) (z9Y (a:=false) ?_ fun _=>J3 ?_)).trans rfl
  ·have e1:J6 [none,some 4] (dSq (y1 7)) (w9 0) (z1X (x9 (z0P x87 y1H (dC (.int 0)) (y1 0) (y1 1)))) (y1 0) (y2V c0 c1 n ts r k pairs F c8 c9 c10 c11)=some []:=by
    refine (z01 (ds:=F.map v6) rfl (by rw[List.length_map];unfold LIM;omega)).trans ?_
    refine (J7 (fun ρ=>∃c0,ρ=[c0,some (.sh (.int (ts.length:Int)))]) (fun d=>false) (fun d=>d) _ _ ⟨none,rfl⟩ ?_).trans ?_
    ·rintro d hd ρ ⟨c0,rfl⟩
     obtain⟨i,hi,rfl⟩:=List.mem_map.mp hd;have hi':=hF.lt i hi
     refine⟨_,rfl,⟨_,rfl⟩,?_,fun _=>rfl⟩
     have:=z2A (J3 (z5Q (ρ:=[some (.sh (v6 i)),some (.sh (.int (ts.length:Int)))]) (f:=x87) (f':=y1H) (fa:=dC (.int 0)) (fb:=y1 0) (fc:=y1 1) (x:=.int 0) (y:=.int (i:Int)) (z:=.int (ts.length:Int)) (a:=decide ((0:Int)≤(i:Int))) (b:=decide ((i:Int)<(ts.length:Int))) rfl rfl rfl (fun _=>rfl) (fun _=>rfl)))
     rw[decide_eq_true (by omega),decide_eq_true (by omega)]at this
     exact this
    ·rw[List.filter_eq_nil_iff.mpr (fun _ _=>Bool.false_ne_true)]
     rfl
   unfold z3Q;rw[e1];rfl
  ·refine (z7P (x:=.int (F.length:Int)) (y:=.int (F.length:Int)) ((y2T (ds:=F.map v6) rfl).trans (by rw[List.length_map])) ?_).trans (y46 (by simp[depth,z1W]))
   rw[hFR];refine (u4 (ds:=[.lst (pairs.map u3),.lst (([]:List Nat).map v6),.lst ((List.range ts.length).map v6)]) (j3 rfl (j3 rfl (j3 ?_ rfl)))).trans eR
   refine z5O ((z9Z (j:=(ts.length:Int)) rfl (by omega) (by omega)).trans ?_)
   rw[Int.toNat_natCast];unfold iUp;rw[List.map_map]
   refine congrArg some (List.map_congr_left fun i _=>?_)
   show D.int (0+(i:Int))=D.int (i:Int)
   rw[Int.zero_add]
 refine u0 (r:=.rt .non) (Y6 (d:=.lst ((ms.map (z26 ts.length)).map chD)) (z5O ?_)) ?_
 ·refine (z01 (ds:=ms.map D.int) (z3O ((y2S (x:=.lst (ns.map D.int)) (lo:=some 3) (hi:=some 7) rfl rfl rfl).trans (by rw[←em];rfl))) (by rw[List.length_map];unfold LIM;omega)).trans ?_
  refine (z0A (fun ρ=>∃c0,ρ=[c0,some (.sh (.int (ts.length:Int)))]) (fun d=>match d with|.int c=>chD (z26 ts.length c)|_=>.non) _ _ ⟨none,rfl⟩ ?_).trans ?_
  ·rintro d hd ρ ⟨c0,rfl⟩
   obtain⟨c,hc,rfl⟩:=List.mem_map.mp hd
   exact⟨_,rfl,⟨_,rfl⟩,x6V (by omega)⟩
  ·rw[List.map_map,List.map_map];rfl
 refine u0 (r:=.rt .non) ((z24 (ds:=(ms.map (z26 ts.length)++[F]++two).map chD) (z3O (z5O ?_))).trans l1) ?_
 ·have hsz:((ms.map (z26 ts.length)).map chD).length≤63:=by rw[List.length_map,List.length_map];omega
  have ea:z79 (W9 (y1 8)) (y14 (z6 (y1 7) (j0))) (y2V c0 c1 n ts r k pairs F (some (.sh (.lst ((ms.map (z26 ts.length)).map chD)))) c9 c10 c11)=some ((ms.map (z26 ts.length)).map chD++[chD F]):=by
   show (if ((ms.map (z26 ts.length)).map chD).length+[chD F].length≤LIM then some ((ms.map (z26 ts.length)).map chD++[chD F]) else none)=_
   rw[if_pos (by rw[List.length_singleton];unfold LIM;omega)]
  show z79 _ _ (y2V c0 c1 n ts r k pairs F (some (.sh (.lst ((ms.map (z26 ts.length)).map chD)))) c9 c10 c11)=_
  unfold z79 at ea ⊢;rw[ea,e2];dsimp only
  rw[if_pos (by rw[List.length_append,List.length_singleton,List.length_map (as:=two)];have:=h2l.1;unfold LIM;omega),List.map_append,List.map_append]
  rfl
 ·exact (z24 (ds:=x8A ts.length F) (z3O (z5O (x8C hFl)))).trans l2
end
def y6J:z9->Option Out:=W5 (z1B 2 (w6 z5X (z6 (y1 1) (z6 (dC (.int 6)) (z6 (dC (.int 10)) (j0))))))
 (W5 (z1B 3 (w6 z5Y (z6 (d2 x3Z (y1 1) (dC (.int 3))) (z6 (dIx (dSq (y1 2)) (dC (.int 0))) (j0)))))
 (W5 (z1B 4 (z8Y (dSq (dIx (dSq (y1 2)) (dC (.int 1))))))
 (z98 (dSq (z1Q (z6 (dC (.str "pile")) (z6 (dC (.str "queue")) (j0))))) (w9 5) y64)))
theorem y4L{ns:List Int}(hns:ns.length≤63){c:Int}{c2 c3 c4 c5 c6 c7 c8 c9 c10 c11:Option Cell}:∃c2' c3' c4' c5' c6' c7' c8' c9' c10' c11',y6J [some (.sh (.lst (ns.map D.int))),some (.sh (.int c)),c2,c3,c4,c5,c6,c7,c8,c9,c10,c11] =
  some (.nx [some (.sh (.lst (ns.map D.int))),some (.sh (.int c)),c2',c3',c4',c5',c6',c7',c8',c9',c10',c11']):=by
 obtain⟨n',ts,w1,w2,w3,w4⟩:=y3D c (most:=6) (ties:=10) (by decide) (by decide) (by decide) (by decide)
 have hlo:=w2.lo
 obtain⟨n,rfl⟩:=Int.eq_ofNat_of_zero_le (show 0≤n' by omega)
 obtain⟨r,r1,r2⟩:=y3E (c / 3) (n:=(n:Int)) (by omega) (by omega)
 rw[Int.toNat_natCast]at r2
 have hm:ts.length≤10:=by omega
 have hr:r.Nodup:=r2.nodup_iff.mpr (x0M n)
 have hmem:∀t∈ts,t.1∈r/\t.2∈r:=fun t ht=>by
  have:=w2.ok t ht
  exact⟨r2.mem_iff.mpr (x0N.mpr (by omega)),r2.mem_iff.mpr (x0N.mpr (by omega))⟩
 have hL:Lay (n:Int) ts r:=⟨w2.up,w2.ok,hr,by rw[r2.length_eq,x25],hmem,w2.hi,by omega⟩
 obtain⟨a6,a7,a8,a9,a10,a11,ea⟩:=z8B hL (by omega) (.inl ⟨rfl,rfl⟩) hns (c1:=some (.sh (.int c))) (c6:=c6) (c7:=c7) (c8:=c8) (c9:=c9) (c10:=c10) (c11:=c11)
 obtain⟨b6,b7,b8,b9,b10,b11,eb⟩:=z8B hL (by omega) (.inr ⟨rfl,rfl⟩) hns (c1:=some (.sh (.int c))) (c6:=a6) (c7:=a7) (c8:=a8) (c9:=a9) (c10:=a10) (c11:=a11)
 refine⟨some (.sh (Z7 (n:Int) ts)),some (.sh (.tup (r.map D.int))),some (.sh (.int (ts.length:Int))),some (.sh (.str "queue")),b6,b7,b8,b9,b10,b11,?_⟩
 refine u0 (r:=.rt .non) (Y6 (d:=Z7 (n:Int) ts) ((u4 (ds:=[.int c,.int 6,.int 10]) rfl).trans w1)) ?_;refine u0 (r:=.rt .non) (Y6 (d:=.tup (r.map D.int)) ((u4 (ds:=[.int (c / 3),.int (n:Int)]) (j3 ((z7P (x:=.int c) (y:=.int 3) rfl rfl).trans rfl) rfl)).trans r1)) ?_
 refine u0 (r:=.rt .non) (Y6 (d:=.int (ts.length:Int)) ((y2T (ds:=ts.map u3) rfl).trans (by rw[List.length_map]))) ?_
 refine (z24 (ds:=[.str "pile",.str "queue"]) (z5N (z6U (ds:=[.str "pile",.str "queue"]) rfl (show 2≤LIM by decide)))).trans ?_
 exact (z5F rfl ea).trans ((z5F rfl eb).trans rfl)
theorem law_true:∀ns:List Int,ns.length≤63->y3F [.lst (ns.map D.int)]=some (.bl true):=by
 intro ns hl
 have fin:x3P [some (.sh (.lst (ns.map D.int))),none,none,none,none,none,none,none,none,none,none,none]=some (.rt (.bl true)):=by
  obtain⟨ρ',e,c1,c2,c3,c4,c5,c6,c7,c8,c9,c10,c11,rfl⟩:=y0T (h:=w9 1) (g:=y6J) (fun ρ=>∃c1 c2 c3 c4 c5 c6 c7 c8 c9 c10 c11:Option Cell,ρ=[some (.sh (.lst (ns.map D.int))),c1,c2,c3,c4,c5,c6,c7,c8,c9,c10,c11]) (ds:=cut (ns.map D.int) none (some 3))
   (ρ:=[some (.sh (.lst (ns.map D.int))),none,none,none,none,none,none,none,none,none,none,none]) ⟨none,none,none,none,none,none,none,none,none,none,none,rfl⟩ (fun d hd ρ hI=>by
    obtain⟨c1,c2,c3,c4,c5,c6,c7,c8,c9,c10,c11,rfl⟩:=hI;obtain⟨i,_,rfl⟩:=List.mem_map.mp (List.mem_of_mem_drop (List.mem_of_mem_take hd));obtain⟨c2',c3',c4',c5',c6',c7',c8',c9',c10',c11',e⟩:=y4L hl (c:=i) (c2:=c2) (c3:=c3) (c4:=c4) (c5:=c5) (c6:=c6) (c7:=c7) (c8:=c8) (c9:=c9) (c10:=c10) (c11:=c11)
    exact⟨_,_,rfl,.inl e,⟨_,_,_,_,_,_,_,_,_,_,_,rfl⟩⟩)
  exact u0 (r:=.rt .non) ((z24 (ds:=cut (ns.map D.int) none (some 3)) rfl).trans e) rfl
 show z67 (x3P [some (.sh (.lst (ns.map D.int))),none,none,none,none,none,none,none,none,none,none,none])=_
 rw[fin];rfl
end P
open PySem PySem.W PyProof.Rows
set_option maxRecDepth 100000 in
set_option maxHeartbeats 0 in
theorem PySem.Challenge.cw_pageties_k04_whole_most_that_clash_holds : PySem.Challenge.rw_pageties_k04_whole_most_that_clash.Holds := by
 w_on;o_law;k_head;(case hw=>w_witness2)
 k_fill
 refine P.walk (l:=PySem.Challenge.rw_pageties_k04_whole_most_that_clash) rfl rfl (fun w h Y=>PySem.W.km_in_of Y) (fun w h Y P q e=>PySem.W.km_tabs_of Y P (List.mem_map_of_mem (f:=Prod.fst) (L3.mem_look e))) (fun w=>by kernel_rfl) P.law_true ?F
 case F =>
  intro w mg fa h KX G hmg
  refine' P.all_mk KX G hmg ?a0 ?l0 ?c0 ?k0 ?a1 ?l1 ?c1 ?k1 ?a2 ?l2 ?c2 ?k2 ?a3 ?l3 ?c3 ?k3 ?a4 ?l4 ?c4 ?k4 ?a5 ?l5 ?c5 ?k5 ?a6 ?l6 ?c6 ?k6 ?a7 ?l7 ?c7 ?k7 ?a8 ?l8 ?c8 ?k8 ?a9 ?l9 ?c9 ?k9 ?m9 ?a10 ?l10 ?c10 ?k10 ?a11 ?l11 ?c11 ?k11 ?a12 ?l12 ?c12 ?k12 ?a13 ?l13 ?c13 ?k13 ?a14 ?l14 ?c14 ?k14 ?a15 ?l15 ?c15 ?k15 ?a16 ?l16 ?c16 ?k16 ?a17 ?l17 ?c17 ?k17 ?a18 ?l18 ?c18 ?k18 ?a19 ?l19 ?c19 ?k19 ?a20 ?l20 ?c20 ?k20 ?a21 ?l21 ?c21 ?k21 ?z_all ?z_bool ?z_enumerate ?z_int ?z_isinstance ?z_len ?z_list ?z_max ?z_min ?z_range ?z_set ?z_sorted ?z_tuple ?x_CLASHING ?y_CLASHING ?k_CLASHING ?v_CLASHING_0 ?v_CLASHING_1
  (case a0=>k_is)
  (case l0=>k_is)
  (case c0=>k_is)
  (case k0=>k_is)
  (case a1=>k_is)
  (case l1=>k_is)
  (case c1=>k_is)
  (case k1=>k_is)
  (case a2=>k_is)
  (case l2=>k_is)
  (case c2=>k_is)
  (case k2=>k_is)
  (case a3=>k_is)
  (case l3=>k_is)
  (case c3=>k_is)
  (case k3=>k_is)
  (case a4=>k_is)
  (case l4=>k_is)
  (case c4=>k_is)
  (case k4=>k_is)
  (case a5=>k_is)
  (case l5=>k_is)
  (case c5=>k_is)
  (case k5=>k_is)
  (case a6=>k_is)
  (case l6=>k_is)
  (case c6=>k_is)
  (case k6=>k_is)
  (case a7=>k_is)
  (case l7=>k_is)
  (case c7=>k_is)
  (case k7=>k_is)
  (case a8=>k_is)
  (case l8=>k_is)
  (case c8=>k_is)
  (case k8=>k_is)
  (case a9=>k_is)
  (case l9=>k_is)
  (case c9=>k_is)
  (case k9=>k_is)
  (case m9=>kernel_rfl)
  (case a10=>k_is)
  (case l10=>k_is)
  (case c10=>k_is)
  (case k10=>k_is)
  (case a11=>k_is)
  (case l11=>k_is)
  (case c11=>k_is)
  (case k11=>k_is)
  (case a12=>k_is)
  (case l12=>k_is)
  (case c12=>k_is)
  (case k12=>k_is)
  (case a13=>k_is)
  (case l13=>k_is)
  (case c13=>k_is)
  (case k13=>k_is)
  (case a14=>k_is)
  (case l14=>k_is)
  (case c14=>k_is)
  (case k14=>k_is)
  (case a15=>k_is)
  (case l15=>k_is)
  (case c15=>k_is)
  (case k15=>k_is)
  (case a16=>k_is)
  (case l16=>k_is)
  (case c16=>k_is)
  (case k16=>k_is)
  (case a17=>k_is)
  (case l17=>k_is)
  (case c17=>k_is)
  (case k17=>k_is)
  (case a18=>k_is)
  (case l18=>k_is)
  (case c18=>k_is)
  (case k18=>k_is)
  (case a19=>k_is)
  (case l19=>k_is)
  (case c19=>k_is)
  (case k19=>k_is)
  (case a20=>k_is)
  (case l20=>k_is)
  (case c20=>k_is)
  (case k20=>k_is)
  (case a21=>k_is)
  (case l21=>k_is)
  (case c21=>k_is)
  (case k21=>k_is)
  (case z_all=>k_is)
  (case z_bool=>k_is)
  (case z_enumerate=>k_is)
  (case z_int=>k_is)
  (case z_isinstance=>k_is)
  (case z_len=>k_is)
  (case z_list=>k_is)
  (case z_max=>k_is)
  (case z_min=>k_is)
  (case z_range=>k_is)
  (case z_set=>k_is)
  (case z_sorted=>k_is)
  (case z_tuple=>k_is)
  (case x_CLASHING=>k_is)
  (case y_CLASHING=>k_is)
  (case k_CLASHING=>k_keys)
  (case v_CLASHING_0=>k_is)
  (case v_CLASHING_1=>k_is)
