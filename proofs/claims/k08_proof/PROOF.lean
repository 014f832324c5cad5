import PyProof.Rows.All
import Wide.All
import OpenK.AllK
import Wide.FinOn
import Lean
import PyProof.EqAt
import PyProof.EqKinds
import PyProof.TupleCall
import PyProof.Rows.TupAdd
import PyProof.NeKinds
import KE.LcSums
import PyProof.ListRange
import PyProof.ListMulRoad
import PyProof.Draws
import PyProof.EnumMake
import PyProof.MinMaxWalk
import PyProof.WalkInts
import PyProof.Rows.SortStr
import PyProof.Rows.SortKeyStr
import PyProof.WalksMore
import PySem.Challenge.RW_pageties_k08_whole_runs
set_option Elab.async false
set_option linter.all false
set_option maxRecDepth 100000
set_option maxHeartbeats 4000000
namespace L2
open PySem PySem.Spec PyProof.Rows
noncomputable abbrev Key:=Sum Int Str
noncomputable def y8B:Key->Value->Bool
 | .inl k,v=>Value.isInt k v
 | .inr x,v=>Value.isStrOf x v
noncomputable def w6N(w:World):Key->Int
 | .inl k=>hashInt k
 | .inr x=>hashStr w x
theorem z01:∀{k:Key} {v:Value},y8B k v=true->(∃i t,k=Sum.inl i/\v=Value.int i t)∨(∃x t,k=Sum.inr x/\v=Value.str x t)
 | .inl i,v,h=>by
  obtain⟨t,e⟩:=Value.isInt_shape (k:=i) (v:=v) h;exact .inl ⟨i,t,rfl,e⟩
 | .inr x,v,h=>by
  obtain⟨t,e⟩:=Value.isStrOf_shape (x:=x) (v:=v) h;exact .inr ⟨x,t,rfl,e⟩
theorem x12(i:Int)(t:Tok):y8B (.inl i) (.int i t)=true:=by simp[y8B,Value.isInt]
theorem x11(x:Str)(t:Tok):y8B (.inr x) (.str x t)=true:=by simp[y8B,Value.isStrOf]
theorem w39(a b:Int):decide ((Sum.inl a:Key)=Sum.inl b)=(a==b):=by
 by_cases e:a=b
 ·subst e;simp
 ·have h:¬(Sum.inl a:Key)=Sum.inl b:=fun q=>e (Sum.inl.inj q)
  rw[decide_eq_false h];exact (beq_eq_false_iff_ne.mpr e).symm
theorem w36(a b:Str):decide ((Sum.inr a:Key)=Sum.inr b)=decide (a=b):=by
 by_cases e:a=b
 ·subst e;simp
 ·have h:¬(Sum.inr a:Key)=Sum.inr b:=fun q=>e (Sum.inr.inj q)
  rw[decide_eq_false h,decide_eq_false e]
theorem w38(a:Int)(b:Str):decide ((Sum.inl a:Key)=Sum.inr b)=false:=decide_eq_false (fun q=>nomatch q)
theorem w37(a:Str)(b:Int):decide ((Sum.inr a:Key)=Sum.inl b)=false:=decide_eq_false (fun q=>nomatch q)
noncomputable def z19(prog:Program)(w:World):PySem.KeyKind prog w Key where
 is:=y8B
 hash:=w6N w
 inj:=fun v a b ha hb=>by
  rcases z01 ha with⟨i,t,rfl,rfl⟩|⟨x,t,rfl,rfl⟩
  ·rcases z01 hb with⟨j,u,rfl,e⟩|⟨y,u,rfl,e⟩
   ·injection e with e1 _;rw[e1]
   ·exact nomatch e
  ·rcases z01 hb with⟨j,u,rfl,e⟩|⟨y,u,rfl,e⟩
   ·exact nomatch e
   ·injection e with e1 _;rw[e1]
 byValue:=fun k v h=>by
  rcases z01 h with⟨i,t,rfl,rfl⟩|⟨x,t,rfl,rfl⟩<;>rfl
 pyHash:=fun hv h=>by
  rcases z01 hv with⟨i,t,rfl,rfl⟩|⟨x,t,rfl,rfl⟩
  ·exact wpAny_pyHash_int h
  ·exact wpAny_pyHash_str h
 eqBool:=fun hu hv h=>by
  rcases z01 hu with⟨i,t,rfl,rfl⟩|⟨x,t,rfl,rfl⟩
  ·rcases z01 hv with⟨j,u,rfl,rfl⟩|⟨y,u,rfl,rfl⟩
   ·rw[w39]at h;exact wpAny_eqBool_int h
   ·rw[w38]at h;exact SeqAt.EqAt.int_str i t y u _ _ _ _ h
  ·rcases z01 hv with⟨j,u,rfl,rfl⟩|⟨y,u,rfl,rfl⟩
   ·rw[w37]at h;exact SeqAt.EqAt.str_int x t j u _ _ _ _ h
   ·rw[w36]at h;exact wpAny_eqBool_str h
 «strs»:=fun k x t v h=>by
  rcases z01 h with⟨i,u,rfl,e⟩|⟨y,u,rfl,e⟩
  ·exact nomatch e
  ·injection e with e1 _
   subst e1
   cases v<;>rfl
theorem y51(prog:Program)(w:World)(i:Int)(t:Tok):(z19 prog w).is (.inl i) (.int i t)=true:=x12 i t
theorem y50(prog:Program)(w:World)(x:Str)(t:Tok):(z19 prog w).is (.inr x) (.str x t)=true:=x11 x t
inductive V where
 | non|bl (b:Bool)|int (i:Int)|str (x:Str)|byt (b:Array UInt8)|flt (b:UInt64)|ref (a:Addr)|ty (n:String)
 deriving DecidableEq
noncomputable def z1D:V->Value->Prop
 | .non,u=>u=Value.none
 | .bl b,u=>u=Value.bool b
 | .int i,u=>∃t,u=Value.int i t
 | .str x,u=>∃t,u=Value.str x t
 | .byt b,u=>∃t,u=Value.bytes b t
 | .flt b,u=>∃t,u=Value.float b t
 | .ref a,u=>u=Value.ref a
 | .ty n,u=>u=Value.type n
noncomputable abbrev Z3:List V->List Value->Prop:=Paired z1D
theorem Z3.length{xs:List V}{us:List Value}(r:Z3 xs us):xs.length=us.length:=Paired.length r
theorem Z3.get:∀{xs:List V} {us:List Value} {i:Nat} {x:V},Z3 xs us->xs[i]?=some x->∃u,us[i]?=some u/\z1D x u
 | _,_,_,_,.nil,e=>by simp at e
 | _,_,0,_,.cons r _,e=>by simp at e;subst e;exact⟨_,rfl,r⟩
 | _,_,i+1,x,.cons _ t,e=>by
  obtain⟨u,h1,h2⟩:=Z3.get (i:=i) (x:=x) t (by simpa using e)
  exact⟨u,by simpa using h1,h2⟩
theorem Z3.append:∀{xs ys:List V} {us ws:List Value},Z3 xs us->Z3 ys ws->Z3 (xs++ys) (us++ws)
 | _,_,_,_,.nil,s=>s
 | _,_,_,_,.cons r t,s=>.cons r (Z3.append t s)
theorem Z3.take:∀{xs:List V} {us:List Value} (n:Nat),Z3 xs us->Z3 (xs.take n) (us.take n)
 | _,_,0,_=>.nil
 | _,_,_+1,.nil=>.nil
 | _,_,n+1,.cons r t=>.cons r (Z3.take n t)
theorem Z3.drop:∀{xs:List V} {us:List Value} (n:Nat),Z3 xs us->Z3 (xs.drop n) (us.drop n)
 | _,_,0,r=>r
 | _,_,_+1,.nil=>.nil
 | _,_,n+1,.cons _ t=>Z3.drop n t
noncomputable def y8S:Option V->Option Value->Prop
 | some v,some u=>z1D v u
 | none,none=>True
 | _,_=>False
noncomputable def KV{κ:Type}:List (κ×V)->List (κ×Value)->Prop:=Paired fun (p:κ×V) (q:κ×Value)=>p.1=q.1/\z1D p.2 q.2
noncomputable def kV:Key->V
 | .inl i=>.int i
 | .inr x=>.str x
inductive HO where
 /-- a list -/
 | lst (xs:List V)
 /-- a tuple (never changes) -/
 | tup (xs:List V)
 /-- a dict whose keys are ints and texts;one whose keys are tuples of ints and texts (the empty one is both) -/
 | dK (kvs:List (Key×V))|dT (kvs:List (List Key×V))
 /-- a set of ints: its members,its size -/
 | set (S:Int->Bool) (n:Nat)
 /-- an instance of the class at C,its dict at dx,its attributes -/
 | ins (C dx:Addr) (fs:List (Str×V))
 /-- the dict of the instance at x -/
 | own (x:Addr)
 /-- the dict of an exception -/
 | xd (fs:List (Str×V))
 /-- a bound method,f of x -/
 | met (f x:Addr)
 /-- a range object lo,lo+1,.. below hi -/
 | rng (lo hi:Int)
 /-- a thing that is known to the object (the script;a dict while a loop walks it): read,never written while it is so -/
 | frz (o:Obj) (u:HO)
 /-- a code object's table -/
 | tbl (ps:Array Value)
 /-- any other thing,by what is true of its one object (a def of one's own: SetO a S n:=HO.ext fun h=>..) -/
 | ext (φ:Heap->Prop)
noncomputable abbrev Hp:=Addr->Option HO
noncomputable def upd(H:Hp)(a:Addr)(o:HO):Hp:=fun b=>if b=a then some o else H b
theorem v5{H:Hp}{a:Addr}{o:HO}:upd H a o a=some o:=by unfold upd;rw[if_pos rfl]
theorem j8{H:Hp}{a b:Addr}{o:HO}(h:b≠a):upd H a o b=H b:=by unfold upd;rw[if_neg h]
theorem w55{H:Hp}{a b:Addr}{o u:HO}(h:H a=some o)(h':H b=some u)(d:o≠u):a≠b:=by
 intro e;subst e;rw[h]at h';exact d (Option.some.inj h')
theorem Y2{H:Hp}{a b:Addr}{o:HO}(h:H a=some o)(h':H b=none):a≠b:=by
 intro e;subst e;rw[h]at h';cases h'
noncomputable def y9G(ps:Array Value):Str:=match (ps[0]?:Option Value) with|some (Value.str q _)=>q++".<locals>."++"<lambda>" | _=>"<lambda>"
noncomputable def x2R(h:Heap)(a:Addr)(items:Array Value):Prop:=∃o,h.get? a=some o/\o.cls = .type "tuple"/\(∃n,o.data = .seq items n)/\o.dict=none
theorem x2R.isTup{h:Heap}{a:Addr}{items:Array Value}(x:x2R h a items):IsTup h a items:=let ⟨o,e,c,d,_⟩:=x;⟨o,e,c,d⟩
theorem x2R.new(h:Heap)(items:Array Value):x2R (h.push { cls:=.type "tuple",data:=.seq items }) h.objs.size items:=⟨_,Heap.get?_push_size _ rfl,rfl,⟨_,rfl⟩,rfl⟩
section
variable(P:Program)(w:World)
noncomputable def z03(H:Hp)(h:Heap)(a:Addr):HO->Prop
 | .lst xs=>xs.length≤sizeLine/\∃(its:List Value) (n:Nat),Z3 xs its/\h.get? a=some { cls:=.type "list",data:=.seq its.toArray n }
 | .tup xs=>xs.length≤sizeLine/\∃its:List Value,Z3 xs its/\x2R h a its.toArray
 | .dK kvs=>kvs.length≤sizeLine/\(a==sysModules)=false/\∃vs,KV kvs vs/\h.DictOf (z19 P w) a vs
 | .dT kvs=>kvs.length≤sizeLine/\(a==sysModules)=false/\∃xs:List (List Key×Addr×Value),
   Paired (fun (p:List Key×V) (q:List Key×Addr×Value)=>p.1=q.1/\H q.2.1=some (.tup (p.1.map kV))/\z1D p.2 q.2.2) kvs xs /\
   ∃o es ep,h.get? a=some o/\o.ExactDict/\o.data = .dict es ep/\es.toList=xs.map (entryOfKey (tupleKind (z19 P w)))/\(xs.map (·.1)).Nodup
 | .set S n=>h.SetOf (intKind P w) a S n
 | .ins C dx fs=>H dx=some (.own a)/\fs.length≤1000/\dx≠a/\h.get? a=some (PySem.W.instObj C dx) /\
   ∃mA,h.Ns1 dx mA/\(∀f,y8S (fs.lookup f) (mA f))/\PySem.Within mA (fs.map (·.1))
 | .own _=>∃o,h.get? a=some o
 | .xd fs=>∃mA,h.Ns1 a mA/\∀f,y8S (fs.lookup f) (mA f)
 | .rng lo hi=>∃t u v,h.get? a=some { cls:=.type "range",data:=.fields #[.int lo t,.int hi u,.int 1 v] }
 | .frz o u=>h.get? a=some o/\z03 H h a u
 | .tbl ps=>∃qs:Array Value,h.get? a=some { cls:=.none,data:=.fields qs }/\TriplesOk qs.toList/\∀(p:Pos) (v:Value),codeAmong p qs.toList=some v->∃(c:Addr) (oc:Obj) (vs:Array Value) (t:Tok),v = .ref c/\H c=some (.frz oc (.own a))/\oc.data = .fields vs/\vs[1]?=some (.str (y9G ps) t)
 | .met f x=>h.get? a=some (PySem.W.methodObj (.ref f) (.ref x))
 | .ext φ=>φ h/\(∃o,h.get? a=some o)/\∀h1 h2:Heap,φ h1->(∀o,h1.get? a=some o->h2.get? a=some o)->φ h2
noncomputable def HOk(H:Hp)(h:Heap):Prop:=∀a o,H a=some o->z03 P w H h a o
end
section
variable{P:Program}{w:World}{H H':Hp}{h h':Heap}{a:Addr}{o:HO}
theorem z03.lt(x:z03 P w H h a o):a<h.objs.size:=by
 cases o with
 | lst xs=>obtain⟨_,_,_,_,e⟩:=x;exact Heap.lt_size e
 | tup xs=>obtain⟨_,_,_,p⟩:=x;exact p.isTup.lt
 | dK kvs=>obtain⟨_,_,_,_,o,_,_,e,_⟩:=x;exact Heap.lt_size e
 | dT kvs=>obtain⟨_,_,_,_,o,_,_,e,_⟩:=x;exact Heap.lt_size e
 | set S n=>obtain⟨o,_,_,_,e,_⟩:=x;exact Heap.lt_size e
 | ins C dx fs=>obtain⟨_,_,_,e,_⟩:=x;exact Heap.lt_size e
 | own y=>obtain⟨_,e⟩:=x;exact Heap.lt_size e
 | xd fs=>obtain⟨_,⟨_,_,_,e,_⟩,_⟩:=x;exact Heap.lt_size e
 | rng lo hi=>obtain⟨_,_,_,e⟩:=x;exact Heap.lt_size e
 | frz ob u=>obtain⟨e,_⟩:=x;exact Heap.lt_size e
 | tbl ps=>obtain⟨_,e,_⟩:=x;exact Heap.lt_size e
 | met f y=>exact Heap.lt_size (show h.get? a=some _ from x)
 | ext φ=>obtain⟨_,⟨_,e⟩,_⟩:=x;exact Heap.lt_size e
theorem Paired.mapP{α β:Type}{F G:α->β->Prop}:∀{l₁:List α} {l₂:List β},Paired F l₁ l₂->(∀a b,F a b->G a b)->Paired G l₁ l₂
 | _,_,.nil,_=>.nil
 | _,_,.cons r t,f=>.cons (f _ _ r) (Paired.mapP t f)
theorem z03.stay(x:z03 P w H h a o)(k:∀b u,(b=a∨H b=some (.own a))->h.get? b=some u->h'.get? b=some u)(ho:∀b,H b=some (.own a)->H' b=some (.own a))(ht:∀b xs,H b=some (.tup xs)->H' b=some (.tup xs))(hz:∀b ob u,H b=some (.frz ob u)->H' b=some (.frz ob u)):z03 P w H' h' a o:=by
 induction o with
 | lst xs=>obtain⟨z,its,n,r,e⟩:=x;exact⟨z,its,n,r,k _ _ (.inl rfl) e⟩
 | tup xs=>obtain⟨z,its,r,ob,e,c⟩:=x;exact⟨z,its,r,ob,k _ _ (.inl rfl) e,c⟩
 | dK kvs=>obtain⟨z,y,vs,r,ob,es,ep,e,c⟩:=x;exact⟨z,y,vs,r,ob,es,ep,k _ _ (.inl rfl) e,c⟩
 | dT kvs =>
  obtain⟨z,y,xs,r,ob,es,ep,e,c⟩:=x
  exact⟨z,y,xs,Paired.mapP r fun p q z=>⟨z.1,ht _ _ z.2.1,z.2.2⟩,ob,es,ep,k _ _ (.inl rfl) e,c⟩
 | set S n=>obtain⟨ob,es,ep,t,e,c⟩:=x;exact⟨ob,es,ep,t,k _ _ (.inl rfl) e,c⟩
 | ins C dx fs =>
  obtain⟨d,z,ne,e,mA,⟨od,es,ep,e2,c⟩,r⟩:=x
  exact⟨ho _ d,z,ne,k _ _ (.inl rfl) e,mA,⟨od,es,ep,k _ _ (.inr d) e2,c⟩,r⟩
 | own y=>obtain⟨ob,e⟩:=x;exact⟨ob,k _ _ (.inl rfl) e⟩
 | xd fs=>obtain⟨mA,⟨od,es,ep,e,c⟩,r⟩:=x;exact⟨mA,⟨od,es,ep,k _ _ (.inl rfl) e,c⟩,r⟩
 | rng lo hi=>obtain⟨t,u,v,e⟩:=x;exact⟨t,u,v,k _ _ (.inl rfl) e⟩
 | frz ob u ih=>obtain⟨e,q⟩:=x;exact⟨k _ _ (.inl rfl) e,ih q⟩
 | tbl ps =>
  obtain⟨qs,e,t,c⟩:=x
  exact⟨qs,k a _ (.inl rfl) e,t,fun p v q=>let ⟨c',oc,vs,tk,z1,z2,z3⟩:=c p v q;⟨c',oc,vs,tk,z1,hz _ _ _ z2,z3⟩⟩
 | met f y =>
  have e:h.get? a=some (PySem.W.methodObj (.ref f) (.ref y)):=x
  show h'.get? a=some (PySem.W.methodObj (.ref f) (.ref y))
  exact k a _ (.inl rfl) e
 | ext φ=>obtain⟨p,⟨o,e⟩,st⟩:=x;exact⟨st _ _ p fun o q=>k _ _ (.inl rfl) q,⟨o,k _ _ (.inl rfl) e⟩,st⟩
theorem HOk.lt(x:HOk P w H h)(e:H a=some o):a<h.objs.size:=(x a o e).lt
theorem HOk.fresh(x:HOk P w H h)(e:h.objs.size≤a):H a=none:=by
 cases q:H a with
 | none=>rfl
 | some u=>exact absurd (Nat.lt_of_lt_of_le (x.lt q) e) (Nat.lt_irrefl _)
theorem HOk.kept(x:HOk P w H h)(k:∀b u,h.get? b=some u->h'.get? b=some u):HOk P w H h':=fun a o e =>
 (x a o e).stay (fun b u _ q=>k b u q) (fun _ q=>q) (fun _ _ q=>q) fun _ _ _ q=>q
theorem HOk.laid(x:HOk P w H h)(k:∀b u,h.get? b=some u->h'.get? b=some u)(hp:h.objs.size≤a)(new:z03 P w (upd H a o) h' a o):HOk P w (upd H a o) h':=fun b u e=>by
 have hn:=x.fresh hp;by_cases hb:b=a
 ·subst hb;rw[v5]at e;cases e;exact new
 ·rw[j8 hb]at e
  exact (x b u e).stay (fun c v _ q=>k c v q) (fun c q=>by rw[j8 (Y2 q hn)];exact q) (fun c xs q=>by rw[j8 (Y2 q hn)];exact q) fun c ob xs q=>by rw[j8 (Y2 q hn)];exact q
end
noncomputable def Rd(H:Hp)(a:Addr)(u:HO):Prop:=H a=some u∨∃o,H a=some (.frz o u)
theorem Rd.of{H:Hp}{a:Addr}{u:HO}(h:H a=some u):Rd H a u:=.inl h
theorem Rd.ok{P:Program}{w:World}{H:Hp}{h:Heap}{a:Addr}{u:HO}(r:Rd H a u)(x:HOk P w H h):z03 P w H h a u:=by
 rcases r with r|⟨o,r⟩
 ·exact x a u r
 ·obtain⟨_,q⟩:=x a _ r;exact q
noncomputable def Mut:Option HO->Prop
 | some (.lst _)=>True
 | some (.dK _)=>True
 | some (.dT _)=>True
 | some (.set _ _)=>True
 | some (.ins _ _ _)=>True
 | some (.ext _)=>True
 | _=>False
section
variable{P:Program}{w:World}{H:Hp}{h h':Heap}{x e:Addr}{o':HO}
theorem HOk.write(ok:HOk P w H h)(mu:Mut (H x))(he:e=x∨H e=some (.own x))(k:∀b u,b≠e->h.get? b=some u->h'.get? b=some u)(heo:∃u,h'.get? e=some u)(new:z03 P w (upd H x o') h' x o'):HOk P w (upd H x o') h':=fun b u q=>by
 have nown:∀c y,H c=some (.own y)->c≠x:=fun c y r z=>by subst z;rw[r]at mu;exact mu
 have ntup:∀c xs,H c=some (.tup xs)->c≠x:=fun c xs r z=>by subst z;rw[r]at mu;exact mu
 have nfrz:∀c ob u,H c=some (.frz ob u)->c≠x:=fun c ob u r z=>by subst z;rw[r]at mu;exact mu
 by_cases hb:b=x
 ·subst hb;rw[v5]at q;cases q;exact new
 ·rw[j8 hb]at q;by_cases hbe:b=e
  ·have q':H b=some (.own x):=by
    rcases he with z|z
    ·exact absurd (hbe.trans z) hb
    ·rw[hbe];exact z
   rw[q]at q';cases q'
   obtain⟨v,hv⟩:=heo
   exact⟨v,by rw[hbe];exact hv⟩
  ·refine (ok b u q).stay (fun c v hc r=>k c v ?_ r) (fun c r=>by rw[j8 (nown c b r)];exact r) (fun c xs r=>by rw[j8 (ntup c xs r)];exact r) fun c ob xs r=>by rw[j8 (nfrz c ob xs r)];exact r
   rcases hc with rfl|hc
   ·exact hbe
   ·rintro rfl
    rcases he with z|z
    ·exact nown c b hc z
    ·rw[hc]at z;cases z;exact hb rfl
end
structure Un(fs ex:List Addr)(H H':Hp)(h h':Heap):Prop where
 keep:∀b o,h.get? b=some o->H b=none->b∉fs->b∉ex->h'.get? b=some o
 slot:∀b o,h.get? b=some o->H b=none->b∈fs->b∉ex->∃sl,h'.get? b=some { o with slots:=sl }
 free:∀b o,h.get? b=some o->H b=none->b∉ex->H' b=none
 there:∀b o,h.get? b=some o->b∉ex->∃o',h'.get? b=some o'
 tups:∀b xs,H b=some (.tup xs)->H' b=some (.tup xs)
 frzs:∀b o u,H b=some (.frz o u)->H' b=some (.frz o u)
 tbls:∀b ps,H b=some (.tbl ps)->∃more,H' b=some (.tbl (ps++more))
section
variable{fs fs' ex ex':List Addr}{H H1 H2:Hp}{h h1 h2 h':Heap}{a x e:Addr}{o:HO}
theorem Un.any(u:Un fs ex H H1 h h1){b:Addr}{ob:Obj}(q:h.get? b=some ob)(n:H b=none)(hx:b∉ex):∃sl,h1.get? b=some { ob with slots:=sl }:=by
 by_cases hb:b∈fs
 ·exact u.slot b ob q n hb hx
 ·exact⟨ob.slots,u.keep b ob q n hb hx⟩
theorem Un.trans(a:Un fs ex H H1 h h1)(b:Un fs ex H1 H2 h1 h2):Un fs ex H H2 h h2 where
 keep:=fun c ob q n hc hx=>b.keep c ob (a.keep c ob q n hc hx) (a.free c ob q n hx) hc hx
 slot:=fun c ob q n hc hx=>by
  obtain⟨sl,e1⟩:=a.slot c ob q n hc hx;obtain⟨sl',e2⟩:=b.slot c _ e1 (a.free c ob q n hx) hc hx
  exact⟨sl',e2⟩
 free:=fun c ob q n hx=>by
  obtain⟨o',e1⟩:=a.there c ob q hx;exact b.free c o' e1 (a.free c ob q n hx) hx
 there:=fun c ob q hx=>by
  obtain⟨o',e1⟩:=a.there c ob q hx;exact b.there c o' e1 hx
 tups:=fun c xs q=>b.tups c xs (a.tups c xs q)
 frzs:=fun c ob xs q=>b.frzs c ob xs (a.frzs c ob xs q)
 tbls:=fun c ps q=>by
  obtain⟨m1,e1⟩:=a.tbls c ps q;obtain⟨m2,e2⟩:=b.tbls c _ e1
  exact⟨m1++m2,by rw[e2,Array.append_assoc]⟩
theorem Un.kept(k:∀b u,h.get? b=some u->h'.get? b=some u):Un fs ex H H h h' :=
 ⟨fun b ob q _ _ _=>k b ob q,fun b ob q _ _ _=>⟨ob.slots,k b ob q⟩,fun _ _ _ n _=>n,fun b ob q _=>⟨ob,k b ob q⟩,fun _ _ q=>q,fun _ _ _ q=>q,fun _ ps q=>⟨#[],by rw[q];simp⟩⟩
theorem Un.refl:Un fs ex H H h h:=Un.kept fun _ _ q=>q
theorem Un.laid(k:∀b u,h.get? b=some u->h'.get? b=some u)(hp:h.objs.size≤a)(hn:H a=none):Un fs ex H (upd H a o) h h' where
 keep:=fun b u q _ _ _=>k b u q
 slot:=fun b u q _ _ _=>⟨u.slots,k b u q⟩
 free:=fun b u q n _=>by rw[j8 (Nat.ne_of_lt (Nat.lt_of_lt_of_le (Heap.lt_size q) hp))];exact n
 there:=fun b u q _=>⟨u,k b u q⟩
 tups:=fun b xs q=>by rw[j8 (Y2 q hn)];exact q
 frzs:=fun b u xs q=>by rw[j8 (Y2 q hn)];exact q
 tbls:=fun b ps q=>⟨#[],by rw[j8 (Y2 q hn),q];simp⟩
theorem Un.write(mu:Mut (H x))(he:e=x∨H e=some (.own x))(k:∀b u,b≠e->h.get? b=some u->h'.get? b=some u)(heo:∃u,h'.get? e=some u):Un fs ex H (upd H x o) h h':=by
 have hx:∀b,H b=none->b≠x:=fun b n z=>by subst z;rw[n]at mu;exact mu
 have hb:∀b,H b=none->b≠e:=fun b n z=>by
  subst z
  rcases he with r|r
  ·exact hx b n r
  ·rw[n]at r;cases r
 have hm:∀b u,H b=some u->¬Mut (some u)->b≠x:=fun b u q nm z=>by subst z;rw[q]at mu;exact nm mu
 refine⟨fun b u q n _ _=>k b u (hb b n) q,fun b u q n _ _=>⟨u.slots,k b u (hb b n) q⟩,fun b u q n _=>by rw[j8 (hx b n)];exact n,fun b u q _=>?_,
  fun b xs q=>by rw[j8 (hm b _ q fun z=>z)];exact q,fun b u xs q=>by rw[j8 (hm b _ q fun z=>z)];exact q,fun b ps q=>⟨#[],by rw[j8 (hm b _ q fun z=>z),q];simp⟩⟩
 by_cases hbe:b=e
 ·subst hbe;exact heo
 ·exact⟨u,k b u hbe q⟩
theorem Un.mono(u:Un fs ex H H1 h h1)(hs:∀b∈fs,b∈fs')(hx:∀b∈ex,b∈ex'):Un fs' ex' H H1 h h1 :=
 ⟨fun b ob q n hb he=>u.keep b ob q n (fun z=>hb (hs b z)) fun z=>he (hx b z),fun _ _ q n _ he=>u.any q n fun z=>he (hx _ z),fun b ob q n he=>u.free b ob q n fun z=>he (hx b z),fun b ob q he=>u.there b ob q fun z=>he (hx b z),u.tups,u.frzs,u.tbls⟩
end
noncomputable def trk(h:Heap)(H:Hp):List Addr:=(List.range h.objs.size).filter fun a=>(H a).isSome
noncomputable def x4W(h:Heap)(H:Hp):Heap:=PySem.W.hideAll h (trk h H)
theorem x1F(h:Heap)(H:Hp):(x4W h H).objs.size=h.objs.size:=PySem.W.hideAll_size _ _
theorem x4V{h:Heap}{H:Hp}{b:Addr}{o:Obj}(e:h.get? b=some o)(n:H b=none):(x4W h H).get? b=some o :=
 PySem.W.hideAll_get _ e fun hm=>by
  have q:(H b).isSome=true:=(List.mem_filter.mp hm).2;rw[n]at q;simp at q
theorem x8P{h:Heap}{H:Hp}{b:Addr}{o:Obj}(e:(x4W h H).get? b=some o):h.get? b=some o/\H b=none:=by
 have e':h.get? b=some o:=PySem.W.of_hideAll (trk h H) e
 refine⟨e',?_⟩
 cases q:H b with
 | none=>rfl
 | some x =>
  have hm:b∈trk h H:=List.mem_filter.mpr ⟨List.mem_range.mpr (Heap.lt_size e'),by simp[q]⟩
  have z:(x4W h H).get? b=none:=PySem.W.hideAll_none (trk h H) hm;rw[z]at e;cases e
noncomputable def x9U(g h:Heap)(L:Addr):List (Addr×Obj):=(List.range h.objs.size).filterMap fun a=>if a=L∨(g.get? a).isSome=true then none else (h.get? a).map fun o=>(a,o)
noncomputable def rest(g h:Heap)(L d:Addr):List (Addr×Obj):=(x9U g h L).filter fun p=>decide (p.1≠d)
structure Mod(K:PySem.W.Frag)(mg:Str->Option Value)(base:Heap):Prop where
 kin:K.In base
 glob:base.Ns mainGlobals mg
 blt:∃mb,base.Ns builtinsNs mb/\∀x:Str,x≠"__name__"->mb x=bootBuiltins x
 nolimit:base.NoLimit
 bm:∃bm ob,mg "__builtins__" = some (.ref bm)/\bm≠builtinsNs/\base.get? bm=some ob/\ob.cls = .type "module"/\ob.dict=some builtinsNs/\ob.data = .plain
structure Cx where
 prog:Program
 w:World
 K:PySem.W.Frag
 mg:Str->Option Value
 base:Heap
 A:Around
 N:List Str
 s₀:Shared
 H₀:Hp
 env:Env
 outer:List Env
 stack:List Env
 ex:List Addr
 fn:Str->Bool
 calm:Bool
 pn:List (Addr×Obj)
 xe:Value->Shared->Prop
noncomputable def frs(l:List Env):List Addr:=l.filterMap (·.frame)
noncomputable abbrev Cx.fs(X:Cx):List Addr:=frs X.outer
noncomputable def Vis(sc:Scope)(x:Str):Prop:=sc.names.lookup x=some .local∨sc.names.lookup x=some .cell∨sc.names.lookup x=some .free
noncomputable def Loc(sc:Scope)(x:Str):Prop:=sc.names.lookup x=some .local∨sc.names.lookup x=some .cell
noncomputable def w70(env:Env)(h:Heap)(m:Str->Option Value)(x:Str)(u:Value):Prop :=
 (env.kindOf x=some .local/\m x=some u)∨((env.kindOf x=some .cell∨env.kindOf x=some .free)/\∃c,env.cells.lookup x=some c/\h.IsCell c (some u))
structure Cx.Ok(X:Cx):Prop where
 mod:Mod X.K X.mg X.base
 kind:X.env.scope.kind = .function
 glob:X.env.globals=mainGlobals
 blt:X.env.builtins=builtinsNs
 above:X.s₀.heap.objs.size≤X.env.locals
 inj:∀x y c,X.env.cells.lookup x=some c->X.env.cells.lookup y=some c->x=y
 has:∀x,(X.env.kindOf x=some .cell∨X.env.kindOf x=some .free)->∃c,X.env.cells.lookup x=some c
 cab:∀x c,X.fn x=true->X.env.cells.lookup x=some c->X.s₀.heap.objs.size≤c
 hd:X.calm=true->X.A.handled=none
 frames:X.A.frames=some X.stack
 stk:X.stack=X.outer∨(X.stack=X.env::X.outer/\X.env.frame=some X.env.locals)
 exf:∀b∈X.ex,b≠X.env.locals/\∀x c,X.env.cells.lookup x=some c->c≠b
 bs:∀b o,X.base.get? b=some o->X.s₀.heap.get? b=some o/\X.H₀ b=none
 bsz:X.base.objs.size≤X.s₀.heap.objs.size
 noex:∀b o,X.base.get? b=some o->b∉X.ex
 exfs:∀b∈X.ex,b∉X.fs
 funs:X.s₀.heap.FunFrames X.base X.outer
 frf:∀b∈X.fs,X.H₀ b=none
structure Inv(X:Cx)(pins:List (Addr×Obj))(σ:List (Option V))(H:Hp)(s:Shared):Prop where
 ok:X.Ok
 os:s.os=X.s₀.os
 bare:AllBare s.gens
 base:Un X.fs X.ex X.H₀ H X.s₀.heap s.heap
 loc:∃m,s.heap.Ns X.env.locals m/\∀(i:Nat) (x:Str) (v:V),X.N[i]?=some x->σ[i]?=some (some v)->Vis X.env.scope x->∃u,z1D v u/\w70 X.env s.heap m x u
 cell:∀x c,X.env.cells.lookup x=some c->∃v,s.heap.IsCell c v
 free:H X.env.locals=none
 freeC:∀x c,X.env.cells.lookup x=some c->H c=none
 pin:∀p∈X.pn++pins,s.heap.get? p.1=some p.2/\H p.1=none/\p.1≠X.env.locals/\p.1∉X.fs/\∀v,p.2.data≠.cell v
 hok:HOk X.prog X.w H s.heap
 len:σ.length=X.N.length
section
variable{X:Cx}{pins:List (Addr×Obj)}{σ:List (Option V)}{H H':Hp}{s:Shared}{h':Heap}
theorem Cx.Ok.nofr(ok:X.Ok){b:Addr}{o:Obj}(e:X.base.get? b=some o):b∉X.fs:=fun hb=>by
 have:=(ok.funs.mem hb).1
 rw[e]at this;cases this
theorem Inv.bs(I:Inv X pins σ H s):∀b o,X.base.get? b=some o->s.heap.get? b=some o/\H b=none:=fun b o e =>
 ⟨I.base.keep b o (I.ok.bs b o e).1 (I.ok.bs b o e).2 (I.ok.nofr e) (I.ok.noex b o e),I.base.free b o (I.ok.bs b o e).1 (I.ok.bs b o e).2 (I.ok.noex b o e)⟩
theorem Inv.bk(I:Inv X pins σ H s):∀b o,X.base.get? b=some o->s.heap.get? b=some o:=fun b o e=>(I.bs b o e).1
theorem Inv.mod(I:Inv X pins σ H s):Mod X.K X.mg X.base:=I.ok.mod
theorem Inv.kIn(I:Inv X pins σ H s):X.K.In s.heap:=I.ok.mod.kin.keeps I.bk
theorem Inv.nolimit(I:Inv X pins σ H s):s.heap.NoLimit:=I.ok.mod.nolimit.keeps I.bk
theorem Inv.lt(I:Inv X pins σ H s):X.env.locals<s.heap.objs.size:=let ⟨_,hn,_⟩:=I.loc;hn.lt
theorem Inv.sz(I:Inv X pins σ H s):X.s₀.heap.objs.size≤s.heap.objs.size:=Nat.le_trans I.ok.above (Nat.le_of_lt I.lt)
theorem Inv.nofs(I:Inv X pins σ H s){a:Addr}(h:s.heap.objs.size≤a):a∉X.fs:=fun hb=>by
 obtain⟨_,o,ho,_⟩:=I.ok.funs.mem hb;exact absurd (Nat.lt_of_lt_of_le (Heap.lt_size ho) (Nat.le_trans I.sz h)) (Nat.lt_irrefl _)
theorem Inv.cne(I:Inv X pins σ H s):∀x c,X.env.cells.lookup x=some c->c≠X.env.locals:=fun x c e z=>by
 obtain⟨v,o,ho,hd⟩:=I.cell x c e;obtain⟨m,⟨o',es,ep,ho',hd',_⟩,_⟩:=I.loc;rw[z,ho']at ho;cases ho;rw[hd']at hd;cases hd
theorem Inv.funs(I:Inv X pins σ H s):s.heap.FunFrames X.base X.outer:=by
 have all:∀(l:List Env),(∀b∈frs l,b∈X.fs)->X.s₀.heap.FunFrames X.base l->s.heap.FunFrames X.base l:=by
  intro l
  induction l with
  | nil=>intro _ _;trivial
  | cons env r ih =>
   intro hs hl;obtain⟨hk,⟨L,o,hf,hn,ho,hd⟩,hr⟩:=hl
   have hL:L∈X.fs:=hs L (by unfold frs;rw[List.filterMap_cons,hf];exact List.mem_cons_self)
   obtain⟨sl,e⟩:=I.base.slot L o ho (I.ok.frf L hL) hL fun z=>I.ok.exfs L z hL
   exact⟨hk,⟨L,_,hf,hn,e,hd⟩,ih (fun b hb=>hs b (by unfold frs;rw[List.filterMap_cons,hf];exact List.mem_cons_of_mem _ hb)) hr⟩
 exact all X.outer (fun _ hb=>hb) I.ok.funs
theorem Inv.stack(I:Inv X pins σ H s):s.heap.FunFrames X.base X.stack:=by
 rcases I.ok.stk with e|⟨e,hf⟩
 ·rw[e];exact I.funs
 ·rw[e];obtain⟨m,hn,_⟩:=I.loc
  refine .cons (by rw[I.ok.kind];decide) hf hn ?_ I.funs
  exact Heap.get?_none_of_le (Nat.le_trans I.ok.bsz I.ok.above)
theorem Inv.stkSub(I:Inv X pins σ H s):∀b∈frs X.stack,b∈X.env.locals::X.fs:=fun b hb=>by
 rcases I.ok.stk with e|⟨e,hf⟩
 ·rw[e]at hb;exact List.mem_cons_of_mem _ hb
 ·rw[e]at hb;unfold frs at hb;rw[List.filterMap_cons,hf]at hb;exact hb
theorem Inv.stkFree(I:Inv X pins σ H s):∀b∈frs X.stack,H b=none:=fun b hb=>by
 rcases List.mem_cons.mp (I.stkSub b hb) with e|hb
 ·rw[e];exact I.free
 ·obtain⟨_,o,ho,_⟩:=I.ok.funs.mem hb
  exact I.base.free b o ho (I.ok.frf b hb) fun z=>I.ok.exfs b z hb
theorem Inv.stepN{g':Array GenState}{t':Nat}{d':Drawn}{ch:List Addr}(I:Inv X pins σ H s)(hch:∀b∈ch,(b∈X.ex∨X.s₀.heap.get? b=none)/\b≠X.env.locals/\(∀x c,X.env.cells.lookup x=some c->c≠b)/\∀p∈X.pn++pins,p.1≠b)(keep:∀b o,b≠X.env.locals->b∉X.fs->b∉ch->s.heap.get? b=some o->H b=none->h'.get? b=some o)(slot:∀b o,b≠X.env.locals->b∈X.fs->b∉ch->s.heap.get? b=some o->H b=none->∃sl,h'.get? b=some { o with slots:=sl })(free:∀b o,b∉ch->s.heap.get? b=some o->H b=none->H' b=none)(there:∀b o,b∉ch->s.heap.get? b=some o->∃o',h'.get? b=some o')(tups:∀b xs,H b=some (.tup xs)->H' b=some (.tup xs))(frzs:∀b o u,H b=some (.frz o u)->H' b=some (.frz o u))(tbls:∀b ps,H b=some (.tbl ps)->∃more,H' b=some (.tbl (ps++more)))(ns:∀m,s.heap.Ns X.env.locals m->h'.Ns X.env.locals m)(hok:HOk X.prog X.w H' h')(hg:AllBare g') :
  Inv X pins σ H' { s with heap:=h',gens:=g',drawn:=d',toks:=t' }:=by
 have neL:∀b o,X.s₀.heap.get? b=some o->b≠X.env.locals:=fun b o e=>Nat.ne_of_lt (Nat.lt_of_lt_of_le (Heap.lt_size e) I.ok.above)
 have neC:∀b o,X.s₀.heap.get? b=some o->b∉X.ex->b∉ch:=fun b o e hx hb=>by
  rcases (hch b hb).1 with z|z
  ·exact hx z
  ·rw[z]at e;cases e
 have cellK:∀x c,X.env.cells.lookup x=some c->∀v,s.heap.IsCell c v->h'.IsCell c v:=fun x c e v ⟨o,ho,hd⟩=>by
  have nch:c∉ch:=fun z=>(hch c z).2.2.1 x c e rfl
  by_cases hc:c∈X.fs
  ·obtain⟨sl,q⟩:=slot c o (I.cne x c e) hc nch ho (I.freeC x c e)
   exact⟨_,q,hd⟩
  ·exact⟨o,keep c o (I.cne x c e) hc nch ho (I.freeC x c e),hd⟩
 refine⟨I.ok,I.os,hg,⟨fun b o e n hb hx=>?_,fun b o e n hb hx=>?_,fun b o e n hx=>?_,fun b o e hx=>?_,fun b xs e=>tups b xs (I.base.tups b xs e),fun b o xs e=>frzs b o xs (I.base.frzs b o xs e),fun b ps e=>?_⟩,?_,fun x c e=>?_,?_,fun x c e=>?_,fun p hp=>?_,hok,I.len⟩
 ·exact keep b o (neL b o e) hb (neC b o e hx) (I.base.keep b o e n hb hx) (I.base.free b o e n hx)
 ·obtain⟨sl,e1⟩:=I.base.slot b o e n hb hx;obtain⟨sl',e2⟩:=slot b _ (neL b o e) hb (neC b o e hx) e1 (I.base.free b o e n hx)
  exact⟨sl',e2⟩
 ·obtain⟨o',e1⟩:=I.base.there b o e hx;exact free b o' (neC b o e hx) e1 (I.base.free b o e n hx)
 ·obtain⟨o',e1⟩:=I.base.there b o e hx;exact there b o' (neC b o e hx) e1
 ·obtain⟨m1,e1⟩:=I.base.tbls b ps e;obtain⟨m2,e2⟩:=tbls b _ e1
  exact⟨m1++m2,by rw[e2,Array.append_assoc]⟩
 ·obtain⟨m,hn,hl⟩:=I.loc
  refine⟨m,ns m hn,fun i x v e1 e2 e3=>?_⟩
  obtain⟨u,r,l⟩:=hl i x v e1 e2 e3
  refine⟨u,r,?_⟩
  rcases l with l|⟨k,c,e,z⟩
  ·exact .inl l
  ·exact .inr ⟨k,c,e,cellK x c e _ z⟩
 ·obtain⟨v,z⟩:=I.cell x c e
  exact⟨v,cellK x c e v z⟩
 ·obtain⟨m,⟨o,_,_,ho,_⟩,_⟩:=I.loc
  exact free _ o (fun z=>(hch _ z).2.1 rfl) ho I.free
 ·obtain⟨v,o,ho,hd⟩:=I.cell x c e
  exact free c o (fun z=>(hch c z).2.2.1 x c e rfl) ho (I.freeC x c e)
 ·obtain⟨e,n,ne,nf,d⟩:=I.pin p hp
  have nch:p.1∉ch:=fun z=>(hch p.1 z).2.2.2 p hp rfl
  exact⟨keep p.1 p.2 ne nf nch e n,free p.1 p.2 nch e n,ne,nf,d⟩
theorem Inv.step{g':Array GenState}{t':Nat}{d':Drawn}{ch:List Addr}(I:Inv X pins σ H s)(hch:∀b∈ch,(b∈X.ex∨X.s₀.heap.objs.size≤b)/\b≠X.env.locals/\(∀x c,X.env.cells.lookup x=some c->c≠b)/\∀p∈X.pn++pins,p.1≠b)(keep:∀b o,b≠X.env.locals->b∉X.fs->b∉ch->s.heap.get? b=some o->H b=none->h'.get? b=some o)(slot:∀b o,b≠X.env.locals->b∈X.fs->b∉ch->s.heap.get? b=some o->H b=none->∃sl,h'.get? b=some { o with slots:=sl })(free:∀b o,b∉ch->s.heap.get? b=some o->H b=none->H' b=none)(there:∀b o,b∉ch->s.heap.get? b=some o->∃o',h'.get? b=some o')(tups:∀b xs,H b=some (.tup xs)->H' b=some (.tup xs))(frzs:∀b o u,H b=some (.frz o u)->H' b=some (.frz o u))(tbls:∀b ps,H b=some (.tbl ps)->∃more,H' b=some (.tbl (ps++more)))(ns:∀m,s.heap.Ns X.env.locals m->h'.Ns X.env.locals m)(hok:HOk X.prog X.w H' h')(hg:AllBare g') :
  Inv X pins σ H' { s with heap:=h',gens:=g',drawn:=d',toks:=t' } :=
 I.stepN (fun b hb=>⟨(hch b hb).1.imp id fun z=>Heap.get?_none_of_le z,(hch b hb).2⟩) keep slot free there tups frzs tbls ns hok hg
theorem Inv.un{t':Nat}(I:Inv X pins σ H s)(u:Un X.fs [] H H' s.heap h')(hok:HOk X.prog X.w H' h'):Inv X pins σ H' { s with heap:=h',toks:=t' }:=by
 obtain⟨m,⟨o,es,ep,ho,r⟩,_⟩:=id I.loc
 obtain⟨sl,hL⟩:=u.any ho I.free (by simp)
 exact I.step (g':=s.gens) (d':=s.drawn) (ch:=[]) (fun _ z=>nomatch z) (fun b o _ hb _ e n=>u.keep b o e n hb (by simp)) (fun b o _ hb _ e n=>u.slot b o e n hb (by simp)) (fun b o _ e n=>u.free b o e n (by simp)) (fun b o _ e=>u.there b o e (by simp)) u.tups u.frzs u.tbls (fun m' hm=>by
  obtain⟨o',es',ep',ho',r'⟩:=hm;rw[ho]at ho';cases ho'
  exact⟨_,es',ep',hL,r'⟩) hok I.bare
theorem Inv.call{g':Array GenState}{t':Nat}{d':Drawn}{ch:List Addr}(I:Inv X pins σ H s)(u:Un (frs X.stack) ch H H' s.heap h')(hok:HOk X.prog X.w H' h')(hg:AllBare g')(hch:∀b∈ch,(b∈X.ex∨X.s₀.heap.objs.size≤b)/\b≠X.env.locals/\(∀x c,X.env.cells.lookup x=some c->c≠b)/\∀p∈X.pn++pins,p.1≠b) :
  Inv X pins σ H' { s with heap:=h',gens:=g',drawn:=d',toks:=t' }:=by
 obtain⟨m,⟨o,es,ep,ho,r⟩,_⟩:=id I.loc
 obtain⟨sl,hL⟩:=u.any ho I.free fun z=>(hch _ z).2.1 rfl
 exact I.step (ch:=ch) hch (fun b o hL hb hc e n=>u.keep b o e n (fun z=>(List.mem_cons.mp (I.stkSub b z)).elim hL hb) hc) (fun b o _ _ hc e n=>u.any e n hc) (fun b o hc e n=>u.free b o e n hc) (fun b o hc e=>u.there b o e hc) u.tups u.frzs u.tbls (fun m' hm=>by
  obtain⟨o',es',ep',ho',r'⟩:=hm;rw[ho]at ho';cases ho'
  exact⟨_,es',ep',hL,r'⟩) hok hg
theorem Inv.turned{t':Nat}{it:Addr}(I:Inv X pins σ H s)(k:∀b o,b≠it->s.heap.get? b=some o->h'.get? b=some o)(hn:H it=none)(hL:it≠X.env.locals)(h1:it∈X.ex∨X.s₀.heap.objs.size≤it)(h2:∀x c,X.env.cells.lookup x=some c->c≠it)(h3:∀p∈X.pn++pins,p.1≠it):Inv X pins σ H { s with heap:=h',toks:=t' }:=by
 have nit:∀b u,H b=some u->b≠it:=fun b u e z=>by rw[z,hn]at e;cases e
 refine I.step (g':=s.gens) (d':=s.drawn) (ch:=[it]) (fun b hb=>?_) (fun b o _ _ hc e _=>k b o (fun z=>hc (by simp[z])) e) (fun b o _ _ hc e _=>⟨o.slots,k b o (fun z=>hc (by simp[z])) e⟩) (fun _ _ _ _ n=>n)
  (fun b o hc e=>⟨o,k b o (fun z=>hc (by simp[z])) e⟩) (fun _ _ e=>e) (fun _ _ _ e=>e) (fun b ps e=>⟨#[],by rw[e];simp⟩) (fun m hm=>?_) (fun b u e=>?_) I.bare
 ·have e:b=it:=by simpa using hb
  subst e
  exact⟨h1,hL,h2,h3⟩
 ·obtain⟨o,es,ep,ho,r⟩:=hm
  exact⟨o,es,ep,k _ o (Ne.symm hL) ho,r⟩
 ·refine (I.hok b u e).stay (fun c v hc q=>k c v ?_ q) (fun _ q=>q) (fun _ _ q=>q) fun _ _ _ q=>q
  rcases hc with z|z
  ·rw[z];exact nit b u e
  ·exact nit c _ z
theorem Inv.tok(I:Inv X pins σ H s)(t:Nat):Inv X pins σ H { s with toks:=t }:=I.un (h':=s.heap) (t':=t) Un.refl I.hok
theorem Inv.kept{t':Nat}(I:Inv X pins σ H s)(k:∀b u,s.heap.get? b=some u->h'.get? b=some u):Inv X pins σ H { s with heap:=h',toks:=t' }:=I.un (Un.kept k) (I.hok.kept k)
theorem Inv.laid{a:Addr}{o:HO}{t':Nat}(I:Inv X pins σ H s)(k:∀b u,s.heap.get? b=some u->h'.get? b=some u)(hp:s.heap.objs.size≤a)(new:z03 X.prog X.w (upd H a o) h' a o) :
  Inv X pins σ (upd H a o) { s with heap:=h',toks:=t' }:=I.un (Un.laid k hp (I.hok.fresh hp)) (I.hok.laid k hp new)
theorem Inv.write{x e:Addr}{o:HO}{t':Nat}(I:Inv X pins σ H s)(mu:Mut (H x))(he:e=x∨H e=some (.own x))(k:∀b u,b≠e->s.heap.get? b=some u->h'.get? b=some u)(heo:∃u,h'.get? e=some u)(new:z03 X.prog X.w (upd H x o) h' x o):Inv X pins σ (upd H x o) { s with heap:=h',toks:=t' }:=I.un (Un.write mu he k heo) (I.hok.write mu he k heo new)
theorem Inv.pins_of{pins':List (Addr×Obj)}(I:Inv X pins σ H s)(h:∀p∈pins',s.heap.get? p.1=some p.2/\H p.1=none/\p.1≠X.env.locals/\p.1∉X.fs/\∀v,p.2.data≠.cell v):Inv X pins' σ H s :=
 ⟨I.ok,I.os,I.bare,I.base,I.loc,I.cell,I.free,I.freeC,fun p hp=>(List.mem_append.mp hp).elim (fun z=>I.pin p (List.mem_append_left _ z)) (h p),I.hok,I.len⟩
theorem y1D{N:List Str}(hN:N.Nodup){i j:Nat}{x:Str}(a:N[i]?=some x)(b:N[j]?=some x):i=j:=by
 obtain⟨h1,e1⟩:=List.getElem?_eq_some_iff.mp a;obtain⟨h2,e2⟩:=List.getElem?_eq_some_iff.mp b;exact (List.getElem_inj hN).mp (e1.trans e2.symm)
theorem y2N{M:Model}{A:Around}{E:Value->Shared->Prop}{i:Nat}{x:Str}{v:V}{u:Value}{Q:Unit->Shared->Prop}(I:Inv X pins σ H s)(hN:X.N.Nodup)(hi:X.N[i]?=some x)(hx:Loc X.env.scope x)(r:z1D v u)(h:∀s',Inv X pins (σ.set i (some v)) H s'->(∃a,Heap.SameBut a s.heap s'.heap/\(a=X.env.locals∨X.env.cells.lookup x=some a))->Q () s')(hf:X.fn x=true∨X.env.scope.names.lookup x=some .local:=by first|exact .inl rfl|exact .inr rfl|assumption):wpAny M A (storeName X.env x u) Q E s:=by
 obtain⟨m,hn,hl⟩:=id I.loc
 have hcls:(X.env.scope.kind==.class||(X.env.scope.kind==.module&&X.env.locals != X.env.globals))=false:=by rw[I.ok.kind];rfl
 have hiσ:i<σ.length:=by rw[I.len];exact (List.getElem?_eq_some_iff.mp hi).1
 have cne:=I.cne
 have tracked:∀{a:Addr} {h':Heap},(∃o,s.heap.get? a=some o/\H a=none)->Heap.SameBut a s.heap h'->HOk X.prog X.w H h':=fun {a h'} ha hs b ob e=>by
  obtain⟨_,_,hfree⟩:=ha
  refine (I.hok b ob e).stay (fun c w' hc q=>(hs.2 c ?_).trans q) (fun _ q=>q) (fun _ _ q=>q) fun _ _ _ q=>q
  rintro rfl
  rcases hc with rfl|hc
  ·rw[hfree]at e;cases e
  ·rw[hfree]at hc;cases hc
 rcases hx with hk|hk
 ·refine wpAny_storeName_local hk hn (fun h' hn' hs=>?_) hcls
  obtain⟨oL,_,_,hoL,_⟩:=id hn
  refine h _ ⟨I.ok,I.os,I.bare,⟨fun b o e n hb hx=>?_,fun b o e n hb hx=>?_,I.base.free,fun b o e hx=>?_,I.base.tups,I.base.frzs,I.base.tbls⟩,⟨_,hn',fun j y v' e1 e2 e3=>?_⟩,fun y c e=>?_,I.free,I.freeC,fun p hp=>?_,tracked ⟨oL,hoL,I.free⟩ hs,by simpa using I.len⟩ ⟨_,hs,.inl rfl⟩
  ·exact (hs.2 b (Nat.ne_of_lt (Nat.lt_of_lt_of_le (Heap.lt_size e) I.ok.above))).trans (I.base.keep b o e n hb hx)
  ·obtain⟨sl,e1⟩:=I.base.slot b o e n hb hx
   exact⟨sl,(hs.2 b (Nat.ne_of_lt (Nat.lt_of_lt_of_le (Heap.lt_size e) I.ok.above))).trans e1⟩
  ·obtain⟨o',e1⟩:=I.base.there b o e hx
   exact⟨o',(hs.2 b (Nat.ne_of_lt (Nat.lt_of_lt_of_le (Heap.lt_size e) I.ok.above))).trans e1⟩
  ·by_cases hj:j=i
   ·subst hj;rw[hi]at e1;cases e1;rw[List.getElem?_set_self hiσ]at e2;cases e2
    exact⟨u,r,.inl ⟨hk,by simp⟩⟩
   ·rw[List.getElem?_set_ne (Ne.symm hj)]at e2;obtain⟨u',r',q⟩:=hl j y v' e1 e2 e3
    refine⟨u',r',?_⟩
    rcases q with⟨k,e⟩|⟨k,c,e,z⟩
    ·refine .inl ⟨k,?_⟩
     have:y≠x:=fun e=>hj (y1D hN e1 (e▸hi))
     simp[this,e]
    ·exact .inr ⟨k,c,e,z.sameBut hs (cne y c e)⟩
  ·obtain⟨w',z⟩:=I.cell y c e
   exact⟨w',z.sameBut hs (cne y c e)⟩
  ·obtain⟨e,n,ne,nf,d⟩:=I.pin p hp
   exact⟨(hs.2 p.1 ne).trans e,n,ne,nf,d⟩
 ·have hfn:X.fn x=true:=by
   rcases hf with z|z
   ·exact z
   ·rw[z]at hk;cases hk
  obtain⟨c,hc⟩:=I.ok.has x (.inl hk);obtain⟨w',z⟩:=I.cell x c hc
  refine wpAny_storeName_cell I.ok.kind hk hc z (fun h' hc' hs=>?_)
  obtain⟨oc,hoc,hocd⟩:=id z
  refine h { s with heap:=h' } ⟨I.ok,I.os,I.bare,⟨fun b o e n hb hx=>?_,fun b o e n hb hx=>?_,I.base.free,fun b o e hx=>?_,I.base.tups,I.base.frzs,I.base.tbls⟩,⟨m,hn.sameBut hs (Ne.symm (cne x c hc)),fun j y v' e1 e2 e3=>?_⟩,fun y c' e=>?_,I.free,I.freeC,fun p hp=>?_,tracked ⟨oc,hoc,I.freeC x c hc⟩ hs,by simpa using I.len⟩ ⟨c,hs,.inr hc⟩
  ·exact (hs.2 b (Nat.ne_of_lt (Nat.lt_of_lt_of_le (Heap.lt_size e) (I.ok.cab x c hfn hc)))).trans (I.base.keep b o e n hb hx)
  ·obtain⟨sl,e1⟩:=I.base.slot b o e n hb hx
   exact⟨sl,(hs.2 b (Nat.ne_of_lt (Nat.lt_of_lt_of_le (Heap.lt_size e) (I.ok.cab x c hfn hc)))).trans e1⟩
  ·obtain⟨o',e1⟩:=I.base.there b o e hx
   exact⟨o',(hs.2 b (Nat.ne_of_lt (Nat.lt_of_lt_of_le (Heap.lt_size e) (I.ok.cab x c hfn hc)))).trans e1⟩
  ·by_cases hj:j=i
   ·subst hj;rw[hi]at e1;cases e1;rw[List.getElem?_set_self hiσ]at e2;cases e2
    exact⟨u,r,.inr ⟨.inl hk,c,hc,hc'⟩⟩
   ·rw[List.getElem?_set_ne (Ne.symm hj)]at e2;obtain⟨u',r',q⟩:=hl j y v' e1 e2 e3
    refine⟨u',r',?_⟩
    rcases q with q|⟨k,c',e,z'⟩
    ·exact .inl q
    ·refine .inr ⟨k,c',e,z'.sameBut hs ?_⟩
     rintro rfl
     exact hj (y1D hN e1 (I.ok.inj _ _ _ e hc▸hi))
  ·by_cases hcc:c'=c
   ·subst hcc;exact⟨_,hc'⟩
   ·obtain⟨w2,z2⟩:=I.cell y c' e
    exact⟨w2,z2.sameBut hs hcc⟩
  ·obtain⟨e,n,ne,nf,d⟩:=I.pin p hp
   refine⟨(hs.2 p.1 ?_).trans e,n,ne,nf,d⟩
   intro q;rw[q,hoc]at e;have q':oc=p.2:=Option.some.inj e
   exact d w' (by rw[←q'];exact hocd)
theorem y14{M:Model}{A:Around}{E:Value->Shared->Prop}{i:Nat}{x:Str}{v:V}{u:Value}{Q:Unit->Shared->Prop}(I:Inv X pins σ H s)(hN:X.N.Nodup)(hi:X.N[i]?=some x)(hx:Loc X.env.scope x)(r:z1D v u)(h:∀s',Inv X pins (σ.set i (some v)) H s'->Q () s')(hf:X.fn x=true∨X.env.scope.names.lookup x=some .local:=by first|exact .inl rfl|exact .inr rfl|assumption):wpAny M A (storeName X.env x u) Q E s :=
 y2N I hN hi hx r (fun s' I' _=>h s' I') hf
theorem Inv.call'{s':Shared}{ch:List Addr}(I:Inv X pins σ H s)(ho:s'.os=s.os)(u:Un (frs X.stack) ch H H' s.heap s'.heap)(hok:HOk X.prog X.w H' s'.heap)(hg:AllBare s'.gens)(hch:∀b∈ch,(b∈X.ex∨X.s₀.heap.objs.size≤b)/\b≠X.env.locals/\(∀x c,X.env.cells.lookup x=some c->c≠b)/\∀p∈X.pn++pins,p.1≠b):Inv X pins σ H' s':=by
 obtain⟨h',g',d',t',o'⟩:=s';have e:o'=s.os:=ho;subst e;exact I.call (g':=g') (t':=t') (d':=d') u hok hg hch
end
noncomputable abbrev XK:=Value->Option Addr->Hp->Prop
noncomputable abbrev St:=List (Option V)
noncomputable abbrev VK:=V->Hp->Prop
noncomputable abbrev TE:=St->Hp->VK->Prop
noncomputable abbrev TT:=St->Hp->(Bool->Hp->Prop)->Prop
noncomputable abbrev TA:=St->Hp->(List V->Hp->Prop)->Prop
structure Ends where
 nx:St->Hp->Prop
 rt:VK
 bk:St->Hp->Prop:=fun _ _=>False
 ct:St->Hp->Prop:=fun _ _=>False
noncomputable abbrev TS:=Ends->St->Hp->Prop
noncomputable def EP(X:Cx)(pins:List (Addr×Obj))(σ:St)(Q:VK)(u:Value)(s':Shared):Prop:=∃v H',Inv X pins σ H' s'/\z1D v u/\Q v H'
noncomputable def TP(X:Cx)(pins:List (Addr×Obj))(σ:St)(Q:Bool->Hp->Prop)(b:Bool)(s':Shared):Prop:=∃H',Inv X pins σ H' s'/\Q b H'
noncomputable def AP(X:Cx)(pins:List (Addr×Obj))(σ:St)(Q:List V->Hp->Prop)(us:List Value)(s':Shared):Prop:=∃vs H',Inv X pins σ H' s'/\Z3 vs us/\Q vs H'
noncomputable def SP(X:Cx)(pins:List (Addr×Obj))(D:Ends)(f:Flow)(s':Shared):Prop :=
 match f with
 | .next=>∃σ' H',Inv X pins σ' H' s'/\D.nx σ' H'
 | .brk=>∃σ' H',Inv X pins σ' H' s'/\D.bk σ' H'
 | .cont=>∃σ' H',Inv X pins σ' H' s'/\D.ct σ' H'
 | .ret u=>∃v σ' H',Inv X pins σ' H' s'/\z1D v u/\D.rt v H'
noncomputable def PE(X:Cx)(e:Expr)(t:TE):Prop :=
 ∀(pins:List (Addr×Obj)) (s:Shared) (σ:St) (H:Hp) (Q:VK),Inv X pins σ H s->t σ H Q->wpAny (model X.prog X.w) X.A (eval e X.env) (EP X pins σ Q) X.xe s
noncomputable def PT(X:Cx)(e:Expr)(t:TT):Prop :=
 ∀(pins:List (Addr×Obj)) (s:Shared) (σ:St) (H:Hp) (Q:Bool->Hp->Prop),Inv X pins σ H s->t σ H Q->wpAny (model X.prog X.w) X.A (isTrue e X.env (eval e X.env)) (TP X pins σ Q) X.xe s
noncomputable def PW(X:Cx)(e:Expr)(t:TT):Prop :=
 ∀(whole:Sem Value) (pins:List (Addr×Obj)) (s:Shared) (σ:St) (H:Hp) (Q:Bool->Hp->Prop),Inv X pins σ H s->t σ H Q->wpAny (model X.prog X.w) X.A (isTrue e X.env whole) (TP X pins σ Q) X.xe s
theorem PW.pt{X:Cx}{e:Expr}{t:TT}(h:PW X e t):PT X e t:=h _
noncomputable def PA(X:Cx)(es:List Expr)(t:TA):Prop :=
 ∀(pos:Pos) (pins:List (Addr×Obj)) (s:Shared) (σ:St) (H:Hp) (Q:List V->Hp->Prop),Inv X pins σ H s->t σ H Q->wpAny (model X.prog X.w) X.A (spliced (backTo pos (starEach es X.env))) (AP X pins σ Q) X.xe s
noncomputable def PS(X:Cx)(st:Stmt)(t:TS):Prop :=
 ∀(pins:List (Addr×Obj)) (s:Shared) (σ:St) (H:Hp) (D:Ends),Inv X pins σ H s->t D σ H->wpAny (model X.prog X.w) X.A (exec st X.env) (SP X pins D) X.xe s
noncomputable def PSs(X:Cx)(st:List Stmt)(t:TS):Prop :=
 ∀(pins:List (Addr×Obj)) (s:Shared) (σ:St) (H:Hp) (D:Ends),Inv X pins σ H s->t D σ H->wpAny (model X.prog X.w) X.A (execs st X.env) (SP X pins D) X.xe s
theorem thn{α:Type}{t:Sem α}{Q Q':α->Shared->Prop}{M:Model}{A:Around}{E:Value->Shared->Prop}{s:Shared}(h:wpAny M A t Q E s)(hQ:∀a s,Q a s->Q' a s):wpAny M A t Q' E s:=wpAny_mono h hQ fun _ _ x=>x
section
variable{X:Cx}
noncomputable def w5R(i:Nat):TE:=fun σ H Q=>∃v,σ[i]?=some (some v)/\Q v H
noncomputable def tC(v:V):TE:=fun _ H Q=>Q v H
theorem z64{i:Nat}{x:Str}{pos:Pos}(hN:X.N[i]?=some x)(hv:Vis X.env.scope x)(hd:(x==("__debug__":Str))=false:=by decide)(hcd:(x==("__classdict__":Str))=false:=by decide):PE X (.Name x pos) (w5R i):=by
 intro pins s σ H Q I h;obtain⟨v,e,h⟩:=h;obtain⟨m,hn,hl⟩:=I.loc;obtain⟨u,r,l⟩:=hl i x v hN e hv;have fin:EP X pins σ Q u s:=⟨v,H,I,r,h⟩
 rcases l with⟨hk,hm⟩|⟨hk,c,hc,hcell⟩
 ·exact wpAny_Name (wpAny_loadName_local I.ok.kind hk hn hm fin) hd
 ·rcases hk with hk|hk
  ·exact wpAny_Name (wpAny_loadName_cell I.ok.kind hk hc hcell fin) hd
  ·exact wpAny_Name (wpAny_loadName_free I.ok.kind hk hc hcell fin hcd) hd
theorem w2Q{i j pos}:PE X (.Constant (.int i) j pos) (tC (.int i)):=fun _ _ _ H _ I h=>wpAny_Constant_int ⟨.int i,H,I.tok _,⟨_,rfl⟩,h⟩
theorem w50{b j pos}:PE X (.Constant (.bool b) j pos) (tC (.bl b)):=fun _ _ _ H _ I h=>Constant_bool ⟨.bl b,H,I,rfl,h⟩
theorem x67{j pos}:PE X (.Constant .none j pos) (tC .non):=fun _ _ _ H _ I h=>Constant_none ⟨.non,H,I,rfl,h⟩
theorem w2K{x j pos}:PE X (.Constant (.str x) j pos) (tC (.str x)):=fun _ _ _ H _ I h=>Calls.Constant_str ⟨.str x,H,I.tok _,⟨_,rfl⟩,h⟩
noncomputable def Gl(X:Cx)(x:Str):Prop:=X.env.kindOf x=some .globalImplicit
theorem z8W{E:Value->Shared->Prop}{pins:List (Addr×Obj)}{s:Shared}{σ:St}{H:Hp}{x:Str}{u:Value}{pos:Pos}{Q:Value->Shared->Prop}(I:Inv X pins σ H s)(hg:Gl X x)(hm:X.mg x=some u)(h:Q u s)(hd:(x==("__debug__":Str))=false:=by decide):wpAny (model X.prog X.w) X.A (eval (.Name x pos) X.env) Q E s :=
 Calls.Name_function_global I.ok.kind hg (Calls.loadGlobal_global (by rw[I.ok.glob];exact I.mod.glob.keeps I.bk) hm h) hd
theorem z8X{E:Value->Shared->Prop}{pins:List (Addr×Obj)}{s:Shared}{σ:St}{H:Hp}{x:Str}{u:Value}{pos:Pos}{Q:Value->Shared->Prop}(I:Inv X pins σ H s)(hg:Gl X x)(hm:X.mg x=none)(hv:bootBuiltins x=some u)(h:Q u s)(hn:x≠"__name__":=by decide)(hd:(x==("__debug__":Str))=false:=by decide):wpAny (model X.prog X.w) X.A (eval (.Name x pos) X.env) Q E s:=by
 obtain⟨mb,h1,h2⟩:=I.mod.blt
 exact Calls.Name_function_global I.ok.kind hg (Calls.loadGlobal_builtin (by rw[I.ok.glob];exact I.mod.glob.keeps I.bk) hm (by rw[I.ok.blt];exact h1.keeps I.bk) ((h2 x hn).trans hv) h) hd
theorem x0B{x:Str}{v:V}{u:Value}{pos:Pos}(hg:Gl X x)(hm:X.mg x=some u)(r:z1D v u)(hd:(x==("__debug__":Str))=false:=by decide):PE X (.Name x pos) (tC v) :=
 fun _ _ _ H _ I h=>z8W I hg hm ⟨v,H,I,r,h⟩ hd
theorem x0D{x:Str}{v:V}{u:Value}{pos:Pos}(hg:Gl X x)(hm:X.mg x=none)(hv:bootBuiltins x=some u)(r:z1D v u)(hn:x≠"__name__":=by decide)(hd:(x==("__debug__":Str))=false:=by decide):PE X (.Name x pos) (tC v) :=
 fun _ _ _ H _ I h=>z8X I hg hm hv ⟨v,H,I,r,h⟩ hn hd
variable{a b:Expr}{ta tb:TE}{pos:Pos}
noncomputable def tB(t:TE):TT:=fun σ H Q=>t σ H fun x H1=>∃c,x = .bl c/\Q c H1
theorem y6G{e:Expr}{t:TE}(h:PE X e t)(he:∀whole,isTrue e X.env whole=(do let v ←whole;standAt e.pos;holding [v] (truthy v)):=by intro _;rfl):PT X e (tB t):=by
 intro pins s σ H Q I hw
 refine isTrue_plain (thn (h pins s σ H _ I hw) fun v s1 ⟨x,H1,I1,r1,q1⟩=>?_) (he _)
 obtain⟨d,rfl,q⟩:=q1;cases r1;exact wpAny_truthy_bool ⟨H1,I1,q⟩
variable{tA tB':TT}{rest:List Expr}
noncomputable def w6D(t u:TT):TT:=fun σ H Q=>t σ H fun c H1=>if c=true then u σ H1 Q else Q false H1
noncomputable def tOr(t u:TT):TT:=fun σ H Q=>t σ H fun c H1=>if c=true then Q true H1 else u σ H1 Q
noncomputable def w69(t:TT):TT:=fun σ H Q=>t σ H fun c H1=>Q (!c) H1
theorem x03(ha:PT X a tA):PW X (.BoolOp .And [a] pos) tA:=by
 intro wh pins s σ H Q I h
 refine isTrue_and (thn (ha pins s σ H Q I h) fun c s1 e=>?_)
 cases c with
 | true=>exact isTrue_and_nil e
 | false=>exact e
theorem w28(ha:PT X a tA):PW X (.BoolOp .Or [a] pos) tA:=by
 intro wh pins s σ H Q I h
 refine isTrue_or (thn (ha pins s σ H Q I h) fun c s1 e=>?_)
 cases c with
 | false=>exact isTrue_or_nil e
 | true=>exact e
theorem x04(ha:PT X a tA)(hb:PW X (.BoolOp .And (b::rest) pos) tB'):PW X (.BoolOp .And (a::b::rest) pos) (w6D tA tB'):=by
 intro wh pins s σ H Q I h
 refine isTrue_and (thn (ha pins s σ H _ I h) fun c s1 ⟨H1,I1,q1⟩=>?_)
 cases c with
 | true=>exact hb wh pins s1 σ H1 Q I1 q1
 | false=>exact⟨H1,I1,q1⟩
theorem w4V(ha:PT X a tA)(hb:PW X (.BoolOp .Or (b::rest) pos) tB'):PW X (.BoolOp .Or (a::b::rest) pos) (tOr tA tB'):=by
 intro wh pins s σ H Q I h
 refine isTrue_or (thn (ha pins s σ H _ I h) fun c s1 ⟨H1,I1,q1⟩=>?_)
 cases c with
 | true=>exact⟨H1,I1,q1⟩
 | false=>exact hb wh pins s1 σ H1 Q I1 q1
theorem x64(ha:PT X a tA):PT X (.UnaryOp .Not a pos) (w69 tA):=by
 intro pins s σ H Q I h
 exact isTrue_not (ha pins s σ H (fun c H1=>Q (!c) H1) I h)
noncomputable def w4D(ta tb:TE):TE:=fun σ H Q=>ta σ H fun x H1=>∃c,x = .bl c/\if c=true then tb σ H1 Q else Q (.bl false) H1
noncomputable def w68(ta tb:TE):TE:=fun σ H Q=>ta σ H fun x H1=>∃c,x = .bl c/\if c=true then Q (.bl true) H1 else tb σ H1 Q
noncomputable def w47(ta:TE):TE:=fun σ H Q=>ta σ H fun x H1=>∃c,x = .bl c/\Q (.bl (!c)) H1
theorem w2N{op}{t:TE}(h:PE X a t):PE X (.BoolOp op [a] pos) t:=fun pins s σ H Q I hw=>BoolOp_one (h pins s σ H Q I hw)
theorem w2R(ha:PE X a ta)(hb:PE X (.BoolOp .And (b::rest) pos) tb):PE X (.BoolOp .And (a::b::rest) pos) (w4D ta tb):=by
 intro pins s σ H Q I h
 refine BoolOp_and (thn (ha pins s σ H _ I h) fun v s1 ⟨x,H1,I1,r1,q1⟩=>?_)
 obtain⟨c,rfl,q1⟩:=q1;cases r1;refine wpAny_truthy_bool ?_
 cases c with
 | true=>exact hb pins s1 σ H1 Q I1 q1
 | false=>exact⟨.bl false,H1,I1,rfl,q1⟩
theorem pe_or(ha:PE X a ta)(hb:PE X (.BoolOp .Or (b::rest) pos) tb):PE X (.BoolOp .Or (a::b::rest) pos) (w68 ta tb):=by
 intro pins s σ H Q I h
 refine BoolOp_or (thn (ha pins s σ H _ I h) fun v s1 ⟨x,H1,I1,r1,q1⟩=>?_)
 obtain⟨c,rfl,q1⟩:=q1;cases r1;refine wpAny_truthy_bool ?_
 cases c with
 | false=>exact hb pins s1 σ H1 Q I1 q1
 | true=>exact⟨.bl true,H1,I1,rfl,q1⟩
theorem w2O(ha:PE X a ta):PE X (.UnaryOp .Not a pos) (w47 ta):=by
 intro pins s σ H Q I h
 refine UnaryOp_ (thn (ha pins s σ H _ I h) fun v s1 ⟨x,H1,I1,r1,q1⟩=>?_)
 obtain⟨c,rfl,q1⟩:=q1;cases r1;exact not_of (wpAny_truthy_bool ⟨.bl (!c),H1,I1,rfl,q1⟩)
noncomputable def tIf(t:TT)(ta tb:TE):TE:=fun σ H Q=>t σ H fun c H1=>if c=true then ta σ H1 Q else tb σ H1 Q
theorem x48{c:Expr}(hc:PT X c tA)(ha:PE X a ta)(hb:PE X b tb):PE X (.IfExp c a b pos) (tIf tA ta tb):=by
 intro pins s σ H Q I h
 refine wpAny_IfExp (thn (hc pins s σ H _ I h) fun d s1 ⟨H1,I1,q1⟩=>?_)
 cases d with
 | true=>exact ha pins s1 σ H1 Q I1 q1
 | false=>exact hb pins s1 σ H1 Q I1 q1
end
noncomputable def SqL(K:PySem.W.Frag)(H:Hp)(a:Addr)(xs:List V):Prop :=
 Rd H a (.lst xs) ∨
  ∃(o:Obj) (its:Array Value) (n:Nat),K.lookup a=some o/\o.cls = .type "list"/\o.dict=none/\o.data = .seq its n/\its.size≤sizeLine/\Z3 xs its.toList
noncomputable def SqT(K:PySem.W.Frag)(H:Hp)(a:Addr)(xs:List V):Prop :=
 Rd H a (.tup xs) ∨
  ∃(o:Obj) (its:Array Value) (n:Nat),K.lookup a=some o/\o.cls = .type "tuple"/\o.data = .seq its n/\its.size≤sizeLine/\Z3 xs its.toList/\o.dict=none
noncomputable def w6Y:Value->Option V
 | .none=>some .non
 | .bool b=>some (.bl b)
 | .int i _=>some (.int i)
 | .str x _=>some (.str x)
 | .bytes b _=>some (.byt b)
 | .float b _=>some (.flt b)
 | .ref a=>some (.ref a)
 | .type n=>some (.ty n)
 | _=>none
theorem z1D.abs{x:V}{u:Value}(r:z1D x u):w6Y u=some x:=by
 cases x with
 | non=>cases r;rfl
 | bl _=>cases r;rfl
 | int _=>obtain⟨t,rfl⟩:=r;rfl
 | str _=>obtain⟨t,rfl⟩:=r;rfl
 | byt _=>obtain⟨t,rfl⟩:=r;rfl
 | flt _=>obtain⟨t,rfl⟩:=r;rfl
 | ref _=>cases r;rfl
 | ty _=>cases r;rfl
theorem z1D.inj{x y:V}{u:Value}(r:z1D x u)(q:z1D y u):x=y:=Option.some.inj (r.abs.symm.trans q.abs)
theorem Z3.inj:∀{xs ys:List V} {us:List Value},Z3 xs us->Z3 ys us->xs=ys
 | _,_,_,.nil,.nil=>rfl
 | _,_,_,.cons r t,.cons r' t'=>by rw[r.inj r',Z3.inj t t']
section
variable{X:Cx}{pins:List (Addr×Obj)}{σ:St}{H:Hp}{s:Shared}{a:Addr}{xs ys:List V}
theorem SqL.of{K:PySem.W.Frag}(h:H a=some (.lst xs)):SqL K H a xs:=.inl (.inl h)
theorem SqT.of{K:PySem.W.Frag}(h:H a=some (.tup xs)):SqT K H a xs:=.inl (.inl h)
theorem Inv.list(I:Inv X pins σ H s)(h:SqL X.K H a xs):∃its:List Value,Z3 xs its/\PlainL s.heap a its.toArray/\xs.length≤sizeLine:=by
 rcases h with h|⟨o,its,n,hk,hc,hd,hs,hz,r⟩
 ·obtain⟨z,its,n,r,e⟩:=h.ok I.hok
  exact⟨its,r,⟨_,n,e,rfl,rfl,rfl⟩,z⟩
 ·refine⟨its.toList,r,⟨o,n,I.kIn a o hk,hc,hd,by simpa using hs⟩,?_⟩
  have e:=r.length;simp only[Array.length_toList]at e;omega
theorem Inv.tuple(I:Inv X pins σ H s)(h:SqT X.K H a xs):∃its:List Value,Z3 xs its/\IsTup s.heap a its.toArray/\xs.length≤sizeLine:=by
 rcases h with h|⟨o,its,n,hk,hc,hs,hz,r,_⟩
 ·obtain⟨z,its,r,p⟩:=h.ok I.hok
  exact⟨its,r,p.isTup,z⟩
 ·refine⟨its.toList,r,⟨o,I.kIn a o hk,hc,n,by simpa using hs⟩,?_⟩
  have e:=r.length;simp only[Array.length_toList]at e;omega
theorem Inv.tupleP(I:Inv X pins σ H s)(h:SqT X.K H a xs):∃o,s.heap.get? a=some o/\o.cls = .type "tuple"/\o.dict=none:=by
 rcases h with h|⟨o,its,n,hk,hc,hs,hz,r,d⟩
 ·obtain⟨z,its,r,o,e,c,_,d⟩:=h.ok I.hok
  exact⟨o,e,c,d⟩
 ·exact⟨o,I.kIn a o hk,hc,d⟩
theorem Inv.list_inj(I:Inv X pins σ H s)(h:SqL X.K H a xs)(h':SqL X.K H a ys):xs=ys:=by
 obtain⟨its,r,⟨o,n,e,_,_,d⟩,_⟩:=I.list h;obtain⟨its',r',⟨o',n',e',_,_,d'⟩,_⟩:=I.list h';rw[e]at e';cases e'
 rw[d]at d'
 injection d' with d1 _
 have:its=its':=by simpa using congrArg Array.toList d1
 subst this;exact r.inj r'
theorem Inv.tuple_inj(I:Inv X pins σ H s)(h:SqT X.K H a xs)(h':SqT X.K H a ys):xs=ys:=by
 obtain⟨its,r,⟨o,e,_,n,d⟩,_⟩:=I.tuple h;obtain⟨its',r',⟨o',e',_,n',d'⟩,_⟩:=I.tuple h';rw[e]at e';cases e'
 rw[d]at d'
 injection d' with d1 _
 have:its=its':=by simpa using congrArg Array.toList d1
 subst this;exact r.inj r'
end
noncomputable abbrev Cx.wish(X:Cx)(E:Value->Shared->Prop):Cx:={ X with xe:=E }
noncomputable abbrev Cx.nox(X:Cx):Cx:=X.wish fun _ _=>False
theorem Cx.Ok.wish{X:Cx}(ok:X.Ok)(E:Value->Shared->Prop):(X.wish E).Ok :=
 ⟨ok.mod,ok.kind,ok.glob,ok.blt,ok.above,ok.inj,ok.has,ok.cab,ok.hd,ok.frames,ok.stk,ok.exf,ok.bs,ok.bsz,ok.noex,ok.exfs,ok.funs,ok.frf⟩
theorem Cx.Ok.unwish{X:Cx}{E:Value->Shared->Prop}(ok:(X.wish E).Ok):X.Ok :=
 ⟨ok.mod,ok.kind,ok.glob,ok.blt,ok.above,ok.inj,ok.has,ok.cab,ok.hd,ok.frames,ok.stk,ok.exf,ok.bs,ok.bsz,ok.noex,ok.exfs,ok.funs,ok.frf⟩
section
variable{X:Cx}{pins:List (Addr×Obj)}{σ:St}{H:Hp}{s:Shared}{E:Value->Shared->Prop}
theorem Inv.wish(I:Inv X pins σ H s)(E:Value->Shared->Prop):Inv (X.wish E) pins σ H s:=⟨I.ok.wish E,I.os,I.bare,I.base,I.loc,I.cell,I.free,I.freeC,I.pin,I.hok,I.len⟩
theorem Inv.unwish(I:Inv (X.wish E) pins σ H s):Inv X pins σ H s:=⟨I.ok.unwish,I.os,I.bare,I.base,I.loc,I.cell,I.free,I.freeC,I.pin,I.hok,I.len⟩
theorem SP.unwish{D:Ends}{f:Flow}{s':Shared}(h:SP (X.wish E) pins D f s'):SP X pins D f s':=by
 cases f with
 | next=>obtain⟨σ',H',I,q⟩:=h;exact⟨σ',H',I.unwish,q⟩
 | brk=>obtain⟨σ',H',I,q⟩:=h;exact⟨σ',H',I.unwish,q⟩
 | cont=>obtain⟨σ',H',I,q⟩:=h;exact⟨σ',H',I.unwish,q⟩
 | ret u=>obtain⟨v,σ',H',I,r,q⟩:=h;exact⟨v,σ',H',I.unwish,r,q⟩
theorem PSs.nox{st:List Stmt}{t:TS}(h:PSs X.nox st t):PSs X st t:=fun pins s σ H D I hw =>
 wpAny_mono (h pins s σ H D (I.wish _) hw) (fun _ _ q=>q.unwish) fun _ _ z=>False.elim z
end
section
variable{X:Cx}{st:Stmt}{rest:List Stmt}{t u:TS}{e:Expr}{te:TE}{pos:Pos}
noncomputable def w49:TS:=fun D σ H=>D.nx σ H
noncomputable def w66(t u:TS):TS:=fun D σ H=>t { D with nx:=u D } σ H
theorem x06:PSs X [] w49:=fun _ _ σ H _ I h=>wpAny_execs_nil ⟨σ,H,I,h⟩
theorem x41(h1:PS X st t)(h2:PSs X rest u):PSs X (st::rest) (w66 t u):=by
 intro pins s σ H D I h
 refine wpAny_execs_cons (thn (h1 pins s σ H { D with nx:=u D } I h) fun f s1 q=>?_)
 cases f with
 | next =>
  obtain⟨σ',H',I',q⟩:=q;exact h2 pins s1 σ' H' D I' q
 | ret v=>exact q
 | brk=>exact q
 | cont=>exact q
theorem y4S(h1:PS X st t):PSs X [st] t:=by
 intro pins s σ H D I h
 refine wpAny_execs_cons (thn (h1 pins s σ H D I h) fun f s1 q=>?_)
 cases f with
 | next=>exact wpAny_execs_nil q
 | ret v=>exact q
 | brk=>exact q
 | cont=>exact q
theorem Inv.quiet{pins:List (Addr×Obj)}{σ:St}{H:Hp}{s:Shared}(I:Inv X pins σ H s):interactive X.env=false:=by simp[interactive,I.ok.kind]
noncomputable def w4A(te:TE):TS:=fun D σ H=>te σ H fun _ H1=>D.nx σ H1
theorem x07(he:PE X e te)(hs:swapsWith e none pos.line X.env=pure false:=by rfl):PS X (.Expr e pos) (w4A te):=by
 intro pins s σ H D I h
 exact wpAny_Expr_any (thn (he pins s σ H _ I h) fun v s1 ⟨x,H1,I1,r1,q1⟩=>⟨σ,H1,I1,q1⟩) I.quiet hs
noncomputable def w67(te:TE):TS:=fun D σ H=>te σ H D.rt
theorem x65(he:PE X e te):PS X (.Return (some e) pos) (w67 te):=by
 intro pins s σ H D I h
 exact wpAny_Return_some (thn (he pins s σ H _ I h) fun v s1 ⟨x,H1,I1,r1,q1⟩=>⟨x,σ,H1,I1,r1,q1⟩)
noncomputable def w6B(c:TT)(t u:TS):TS:=fun D σ H=>c σ H fun b H1=>if b=true then t D σ H1 else u D σ H1
theorem w29{c:Expr}{a b:List Stmt}{tc:TT}(hc:PT X c tc)(ha:PSs X a t)(hb:PSs X b u):PS X (.If c a b pos) (w6B tc t u):=by
 intro pins s σ H D I h
 refine wpAny_If (thn (hc pins s σ H _ I h) fun d s1 ⟨H1,I1,q1⟩=>?_)
 cases d with
 | true=>exact ha pins s1 σ H1 D I1 q1
 | false=>exact hb pins s1 σ H1 D I1 q1
end
noncomputable abbrev TG:=V->St->Hp->(St->Hp->Prop)->Prop
noncomputable abbrev TGs:=List V->St->Hp->(St->Hp->Prop)->Prop
noncomputable def PG(X:Cx)(target:Expr)(t:TG):Prop :=
 ∀(pins:List (Addr×Obj)) (s:Shared) (σ:St) (H:Hp) (v:V) (u:Value) (Q:St->Hp->Prop),Inv X pins σ H s->z1D v u->t v σ H Q ->
  wpAny (model X.prog X.w) X.A (assign target X.env u) (fun _ s'=>∃σ' H',Inv X pins σ' H' s'/\Q σ' H') X.xe s
noncomputable def PGs(X:Cx)(ts:List Expr)(t:TGs):Prop :=
 ∀(pins:List (Addr×Obj)) (s:Shared) (σ:St) (H:Hp) (vs:List V) (us:List Value) (Q:St->Hp->Prop),Inv X pins σ H s->Z3 vs us->t vs σ H Q ->
  wpAny (model X.prog X.w) X.A (assignInOrder ((assignEach ts X.env).map (·.2)) us) (fun _ s'=>∃σ' H',Inv X pins σ' H' s'/\Q σ' H') X.xe s
section
variable{X:Cx}{pos:Pos}
noncomputable def x99(i:Nat):TG:=fun v σ H Q=>Q (σ.set i (some v)) H
theorem x8F{i:Nat}{x:Str}(hN:X.N.Nodup)(hi:X.N[i]?=some x)(hx:Loc X.env.scope x)(hf:X.fn x=true∨X.env.scope.names.lookup x=some .local:=by first|exact .inl rfl|exact .inr rfl|assumption):PG X (.Name x pos) (x99 i):=by
 intro pins s σ H v u Q I r h
 exact wpAny_assign_Name (y14 I hN hi hx r (fun s' I'=>⟨_,H,I',h⟩) hf)
noncomputable def w6S:TGs:=fun vs σ H Q=>vs=[]/\Q σ H
noncomputable def w5E(t:TG)(u:TGs):TGs:=fun vs σ H Q=>∃v r,vs=v::r/\t v σ H fun σ' H'=>u r σ' H' Q
theorem x8E:PGs X [] w6S:=by
 intro pins s σ H vs us Q I r h;obtain⟨e,h⟩:=h;subst e;cases r;exact assignInOrder_nil ⟨σ,H,I,h⟩
theorem x47{e:Expr}{es:List Expr}{t:TG}{u:TGs}(h1:PG X e t)(h2:PGs X es u)(hs:(assignEach (e::es) X.env).map (·.2)=assign e X.env::(assignEach es X.env).map (·.2):=by rfl):PGs X (e::es) (w5E t u):=by
 intro pins s σ H vs us Q I r h;obtain⟨v,vr,e1,h⟩:=h;subst e1
 cases r with
 | cons r rr =>
  rw[hs]
  refine assignInOrder_cons (thn (h1 pins s σ H _ _ _ I r h) fun _ s1 ⟨σ1,H1,I1,q1⟩=>?_)
  exact h2 pins s1 σ1 H1 _ _ Q I1 rr q1
noncomputable def w6R(K:PySem.W.Frag)(n:Nat)(t:TGs):TG:=fun v σ H Q=>∃a xs,v = .ref a/\SqT K H a xs/\xs.length=n/\t xs σ H Q
theorem w2I{es:List Expr}{k:Nat}{t:TGs}{n:Nat}(hc:X.calm=true)(h:PGs X es t)(hn:(assignEach es X.env).length=n:=by rfl)(hst:(assignEach es X.env).findIdx? (·.1)=none:=by rfl):PG X (.Tuple es k pos) (w6R X.K n t):=by
 intro pins s σ H v u Q I r hw;obtain⟨a,xs,e1,hq,hl,hw⟩:=hw;subst e1;cases r;obtain⟨its,rv,ht,hz⟩:=I.tuple hq
 refine assign_Tuple_tuple (I.ok.hd hc) ht (by simp[hn,←hl,rv.length]) hst fun h' hx=>?_
 have I1:Inv X pins σ H { s with heap:=h' }:=I.kept (t':=s.toks) fun b o e=>hx b o (Nat.ne_of_lt (Heap.lt_size e)) e
 exact h pins _ σ H xs _ Q I1 (by simpa using rv) hw
noncomputable def w5S(te:TE)(g:TG):TS:=fun D σ H=>te σ H fun x H1=>g x σ H1 D.nx
theorem y6I{i:Nat}{x:Str}{e:Expr}{te:TE}{pos':Pos}(hN:X.N.Nodup)(hi:X.N[i]?=some x)(hx:Loc X.env.scope x)(he:PE X e te)(hs:swapsWith e (some (.Name x pos')) pos.line X.env=pure false:=by rfl)(hf:X.fn x=true∨X.env.scope.names.lookup x=some .local:=by first|exact .inl rfl|exact .inr rfl|assumption) :
  PS X (.Assign [.Name x pos'] e pos) (w5S te (x99 i)):=by
 intro pins s σ H D I h
 refine wpAny_Assign_Name (thn (he pins s σ H _ I h) fun v s1 ⟨y,H1,I1,r1,q1⟩=>?_) hs
 exact y14 I1 hN hi hx r1 (fun s2 I2=>⟨_,H1,I2,q1⟩) hf
end
structure It where
 go:Nat->Hp->Prop
 yld:Nat->Hp->V->Hp->Prop
 stop:Nat->Hp->Prop
noncomputable def y8T(X:Cx)(pins:List (Addr×Obj))(H:Hp)(b:Addr):Prop :=
 H b=none/\b≠X.env.locals/\b∉X.fs/\(b∈X.ex∨X.s₀.heap.objs.size≤b)/\(∀x c,X.env.cells.lookup x=some c->c≠b)/\∀p∈X.pn++pins,p.1≠b
theorem Inv.fpOk{X:Cx}{pins:List (Addr×Obj)}{σ:St}{H H':Hp}{s:Shared}{b:Addr}(I:Inv X pins σ H s)(hb:s.heap.objs.size≤b)(hn:H' b=none):y8T X pins H' b:=by
 refine⟨hn,Nat.ne_of_gt (Nat.lt_of_lt_of_le I.lt hb),I.nofs hb,.inr (Nat.le_trans I.sz hb),fun x c e z=>?_,fun p hp z=>?_⟩
 ·obtain⟨v,q⟩:=I.cell x c e
  exact absurd (Nat.lt_of_lt_of_le q.lt (by rw[z];exact hb)) (Nat.lt_irrefl _)
 ·exact absurd (Nat.lt_of_lt_of_le (Heap.lt_size (I.pin p hp).1) (by rw[z];exact hb)) (Nat.lt_irrefl _)
structure Turn(P:Program)(w:World)(K:PySem.W.Frag)(tg:Expr)(J:It)(fp:List Addr)(it:Addr)(tn:Nat->Heap->Prop):Prop where
 mem:it∈fp
 obj:∀i h,tn i h->∀b∈fp,∃o,h.get? b=some o/\∀v,o.data≠.cell v
 keep:∀i h h',tn i h->(∀b∈fp,∀o,h.get? b=some o->h'.get? b=some o)->tn i h'
 item:∀(X:Cx),X.prog=P->X.w=w->X.K=K->X.calm=true->∀(i:Nat) (pins:List (Addr×Obj)) (s:Shared) (σ:St) (H:Hp) (E:Value->Shared->Prop),Inv X pins σ H s->(∀b∈fp,y8T X pins H b)->tn i s.heap->J.go i H ->
  wpAny (model P w) X.A (pyNext (.ref it)) (fun r s1=>∃u,r=some u /\
   wpAny (model P w) X.A (letOwnedTupleGo tg (.ref it) u) (fun _ s2=>∃x H',Inv X pins σ H' s2/\z1D x u/\J.yld i H x H'/\tn (i+1) s2.heap/\∀b∈fp,H' b=none) E s1) E s
 done:∀(X:Cx),X.prog=P->X.w=w->X.K=K->X.calm=true->∀(i:Nat) (pins:List (Addr×Obj)) (s:Shared) (σ:St) (H:Hp) (E:Value->Shared->Prop),Inv X pins σ H s->(∀b∈fp,y8T X pins H b)->tn i s.heap->J.stop i H ->
  wpAny (model P w) X.A (pyNext (.ref it)) (fun r s1=>r=none/\Inv X pins σ H s1) E s
 self:∀(A:Around) (i:Nat) (s:Shared) (Q:Value->Shared->Prop) (E:Value->Shared->Prop),tn i s.heap->Q (.ref it) s->wpAny (model P w) A (pyIter (.ref it)) Q E s
noncomputable abbrev TI:=St->Hp->(It->Hp->Prop)->Prop
noncomputable def PIE(X:Cx)(pins:List (Addr×Obj))(σ:St)(tg:Expr)(R:It->Hp->Prop)(itv:Value)(s2:Shared):Prop :=
 ∃(it:Addr) (fp:List Addr) (tn:Nat->Heap->Prop) (J:It) (H':Hp),itv = .ref it/\Inv X pins σ H' s2/\Turn X.prog X.w X.K tg J fp it tn/\tn 0 s2.heap/\(∀b∈fp,y8T X pins H' b)/\R J H'
noncomputable def PI(X:Cx)(tg iter:Expr)(wi:TI):Prop :=
 ∀(pins:List (Addr×Obj)) (s:Shared) (σ:St) (H:Hp) (R:It->Hp->Prop),Inv X pins σ H s->wi σ H R ->
  wpAny (model X.prog X.w) X.A (eval iter X.env) (fun v s1=>wpAny (model X.prog X.w) X.A (pyIter v) (PIE X pins σ tg R) X.xe s1) X.xe s
theorem x98{M:Model}{A:Around}{E:Value->Shared->Prop}{s:Shared}{tg:Expr}{it:Addr}{u:Value}{o:Obj}{n:String}{vs:Array Value}{Q:Unit->Shared->Prop}(ho:s.heap.get? it=some o)(hc:o.cls = .type n)(hd:o.data = .fields vs)(hn:["enumerate","zip","dict_itemiterator","dict_reverseitemiterator","odict_iterator","itertools.zip_longest","itertools.pairwise"].contains n=false)(hQ:Q () s):wpAny M A (letOwnedTupleGo tg (.ref it) u) Q E s:=by
  unfold letOwnedTupleGo
  cases tg<;>first
    | exact wpAny_pure hQ
    | (cases u<;>first
        | exact wpAny_pure hQ
        | (refine wpAny_bind (wpAny_load ho ?_)
           rw[hc,hd]
           show wpAny M A (if (["enumerate","zip","dict_itemiterator","dict_reverseitemiterator","odict_iterator","itertools.zip_longest","itertools.pairwise"].contains n&&vs[0]?==some (rawInt _))=true then _ else _) Q E s
           rw[if_neg (by intro h;rw[hn,Bool.false_and]at h;cases h)]
           exact wpAny_pure hQ))
noncomputable def Itl(K:PySem.W.Frag)(a:Addr):It :=
 ⟨fun i H=>∃xs x,SqL K H a xs/\xs[i]?=some x,fun i H x H'=>H'=H/\∀xs,SqL K H a xs->xs[i]?=some x,fun i H=>∃xs,SqL K H a xs/\xs.length≤i⟩
noncomputable def Itt(K:PySem.W.Frag)(a:Addr):It :=
 ⟨fun i H=>∃xs x,SqT K H a xs/\xs[i]?=some x,fun i H x H'=>H'=H/\∀xs,SqT K H a xs->xs[i]?=some x,fun i H=>∃xs,SqT K H a xs/\xs.length≤i⟩
noncomputable def Itr(lo:Int)(n:Nat):It:=⟨fun i _=>i<n,fun i H x H'=>H'=H/\x = .int (lo+i),fun i _=>n≤i⟩
theorem y98{P:Program}{w:World}{K:PySem.W.Frag}{tg:Expr}(a it:Addr):Turn P w K tg (Itl K a) [it] it (fun i h=>h.IsListIter it a i) where
 mem:=by simp
 obj:=fun i h st b hb=>by
  have e:b=it:=by simpa using hb
  subst e;obtain⟨o,e,c,d⟩:=st
  exact⟨o,e,fun v z=>by rw[d]at z;cases z⟩
 keep:=fun i h h' st k=>st.at fun o e=>k it (by simp) o e
 item:=by
  intro X hP hw hK hc i pins s σ H E I hf st hg
  subst hP hw hK
  obtain⟨xs,x,hq,hx⟩:=hg;obtain⟨its,rv,p,hz⟩:=I.list hq;obtain⟨u,hu,ru⟩:=rv.get hx
  obtain⟨f0,f1,f2,f3,f4,f5⟩:=hf it (by simp)
  refine wpAny_pyNext_list_item st p.isList (x:=u) (by simpa using hu) fun h' st' sb=>?_
  have I1:Inv X pins σ H { s with heap:=h' }:=I.turned (t':=s.toks) (fun b o hb e=>(sb.2 b hb).trans e) f0 f1 f3 f4 f5
  obtain⟨o,e,c,d⟩:=id st'
  exact⟨u,rfl,x98 (s:={ s with heap:=h' }) e c d (by decide) ⟨x,H,I1,ru,⟨rfl,fun ys hy=>by rw[I.list_inj hy hq];exact hx⟩,st',fun b hb=>(hf b hb).1⟩⟩
 done:=by
  intro X hP hw hK hc i pins s σ H E I hf st hg
  subst hP hw hK
  obtain⟨xs,hq,hx⟩:=hg;obtain⟨its,rv,p,hz⟩:=I.list hq
  obtain⟨f0,f1,f2,f3,f4,f5⟩:=hf it (by simp)
  have hl:=rv.length
  exact wpAny_pyNext_list_end (I.ok.hd hc) st p.isList (by simp;omega) fun h' eb=>⟨rfl,I.turned (t':=s.toks) (fun b o hb e=>eb b o hb e) f0 f1 f3 f4 f5⟩
 self:=fun _ _ _ _ _ st h=>wpAny_pyIter_listiter st h
theorem y7M{P:Program}{w:World}{K:PySem.W.Frag}{tg:Expr}(a it:Addr):Turn P w K tg (Itt K a) [it] it (fun i h=>h.IsTupleIter it a i) where
 mem:=by simp
 obj:=fun i h st b hb=>by
  have e:b=it:=by simpa using hb
  subst e;obtain⟨o,e,c,d⟩:=st
  exact⟨o,e,fun v z=>by rw[d]at z;cases z⟩
 keep:=fun i h h' st k=>st.at fun o e=>k it (by simp) o e
 item:=by
  intro X hP hw hK hc i pins s σ H E I hf st hg
  subst hP hw hK
  obtain⟨xs,x,hq,hx⟩:=hg;obtain⟨its,rv,p,hz⟩:=I.tuple hq;obtain⟨u,hu,ru⟩:=rv.get hx
  obtain⟨f0,f1,f2,f3,f4,f5⟩:=hf it (by simp)
  refine wpAny_pyNext_tuple_item st (show s.heap.IsTuple a its.toArray from p) (x:=u) (by simpa using hu) fun h' st' sb=>?_
  have I1:Inv X pins σ H { s with heap:=h' }:=I.turned (t':=s.toks) (fun b o hb e=>(sb.2 b hb).trans e) f0 f1 f3 f4 f5
  obtain⟨o,e,c,d⟩:=id st'
  exact⟨u,rfl,x98 (s:={ s with heap:=h' }) e c d (by decide) ⟨x,H,I1,ru,⟨rfl,fun ys hy=>by rw[I.tuple_inj hy hq];exact hx⟩,st',fun b hb=>(hf b hb).1⟩⟩
 done:=by
  intro X hP hw hK hc i pins s σ H E I hf st hg
  subst hP hw hK
  obtain⟨xs,hq,hx⟩:=hg;obtain⟨its,rv,p,hz⟩:=I.tuple hq
  obtain⟨f0,f1,f2,f3,f4,f5⟩:=hf it (by simp)
  have hl:=rv.length
  exact wpAny_pyNext_tuple_end (I.ok.hd hc) st (show s.heap.IsTuple a its.toArray from p) (by simp;omega) fun h' eb=>⟨rfl,I.turned (t':=s.toks) (fun b o hb e=>eb b o hb e) f0 f1 f3 f4 f5⟩
 self:=fun _ _ _ _ _ st h=>wpAny_pyIter_tupleiter st h
theorem y7N{P:Program}{w:World}{K:PySem.W.Frag}{tg:Expr}(it:Addr)(lo:Int)(n:Nat):Turn P w K tg (Itr lo n) [it] it (fun i h=>IsRangeIter h it (lo+(i:Nat)*1) ((n:Int)-(i:Nat)) 1) where
 mem:=by simp
 obj:=fun i h st b hb=>by
  have e:b=it:=by simpa using hb
  subst e
  exact⟨_,st,fun v z=>by
   have z':Data.fields _=Data.cell v:=z
   cases z'⟩
 keep:=fun i h h' st k=>k it (by simp) _ st
 item:=by
  intro X hP hw hK hc i pins s σ H E I hf st hg
  subst hP hw hK
  obtain⟨f0,f1,f2,f3,f4,f5⟩:=hf it (by simp)
  have W:=Walks.range (prog:=X.prog) (w:=X.w) (I.ok.hd hc) it lo 1 n
  refine W.item i s _ _ hg st fun v h' tk hv st' kk=>?_
  obtain⟨t,rfl⟩:=hv
  have I1:Inv X pins σ H { s with heap:=h',toks:=tk }:=I.turned (fun b o hb e=>kk b o (by simpa using hb) e) f0 f1 f3 f4 f5
  refine⟨_,rfl,x98 (s:={ s with heap:=h',toks:=tk }) (n:="range_iterator") st' rfl rfl (by decide) ⟨.int (lo+i),H,I1,⟨t,?_⟩,⟨rfl,rfl⟩,st',fun b hb=>(hf b hb).1⟩⟩
  rw[Int.mul_one]
 done:=by
  intro X hP hw hK hc i pins s σ H E I hf st hg
  subst hP hw hK
  obtain⟨f0,f1,f2,f3,f4,f5⟩:=hf it (by simp)
  exact wpAny_pyNext_range_end (I.ok.hd hc) st (by have:n≤i:=hg;omega) fun h' eb=>⟨rfl,I.turned (t':=s.toks) (fun b o hb e=>eb b o hb e) f0 f1 f3 f4 f5⟩
 self:=fun _ _ _ _ _ st h=>wpAny_pyIter_rangeiter st h
section
variable{X:Cx}{tg:Expr}
noncomputable def w5D(K:PySem.W.Frag)(tl:TE):TI:=fun σ H R=>tl σ H fun x H1=>∃a,x = .ref a/\(∃xs,SqL K H1 a xs)/\R (Itl K a) H1
noncomputable def w6O(K:PySem.W.Frag)(tl:TE):TI:=fun σ H R=>tl σ H fun x H1=>∃a,x = .ref a/\(∃xs,SqT K H1 a xs)/\R (Itt K a) H1
theorem x8D{l:Expr}{tl:TE}(hl:PE X l tl):PI X tg l (w5D X.K tl):=by
 intro pins s σ H R I h
 refine thn (hl pins s σ H _ I h) fun v s1 ⟨x,H1,I1,r1,q1⟩=>?_
 obtain⟨a,e,⟨xs,hq⟩,q⟩:=q1;subst e;cases r1;obtain⟨its,rv,p,hz⟩:=I1.list hq;refine wpAny_pyIter_list p.isList ?_
 refine⟨s1.heap.objs.size,[s1.heap.objs.size],_,_,H1,rfl,I1.kept (t':=s1.toks) fun b o e=>Heap.get?_push_of_some _ e,y98 a _,⟨_,Heap.get?_push_size _ rfl,rfl,rfl⟩,fun b hb=>?_,q⟩
 have e:b=s1.heap.objs.size:=by simpa using hb
 subst e;exact I1.fpOk (Nat.le_refl _) (I1.hok.fresh (Nat.le_refl _))
theorem w2E{l:Expr}{tl:TE}(hl:PE X l tl):PI X tg l (w6O X.K tl):=by
 intro pins s σ H R I h
 refine thn (hl pins s σ H _ I h) fun v s1 ⟨x,H1,I1,r1,q1⟩=>?_
 obtain⟨a,e,⟨xs,hq⟩,q⟩:=q1;subst e;cases r1;obtain⟨its,rv,p,hz⟩:=I1.tuple hq
 refine wpAny_pyIter_tuple (show s1.heap.IsTuple a its.toArray from p) ?_
 refine⟨s1.heap.objs.size,[s1.heap.objs.size],_,_,H1,rfl,I1.kept (t':=s1.toks) fun b o e=>Heap.get?_push_of_some _ e,y7M a _,⟨_,Heap.get?_push_size _ rfl,rfl,rfl⟩,fun b hb=>?_,q⟩
 have e:b=s1.heap.objs.size:=by simpa using hb
 subst e;exact I1.fpOk (Nat.le_refl _) (I1.hok.fresh (Nat.le_refl _))
theorem x3X{pins:List (Addr×Obj)}{σ:St}{H:Hp}{s:Shared}{R:It->Hp->Prop}{E:Value->Shared->Prop}{lo hi:Int}{t u v:Tok}{tk:Nat}(I:Inv X pins σ H s)(h1 : -(2 ^ 62)≤lo)(h2:lo<2 ^ 62)(h3 : -(2 ^ 62)≤hi)(h4:hi<2 ^ 62)(q:R (Itr lo (hi-lo).toNat) H):wpAny (model X.prog X.w) X.A (pyIter (.ref s.heap.objs.size)) (PIE X pins σ tg R) E { s with heap:=s.heap.push { cls:=.type "range",data:=.fields #[.int lo t,.int hi u,.int 1 v] },toks:=tk }:=by
 refine wpAny_pyIter_range (IsRange.new ..) (small_one h1 h2 h3 h4) ?_
 have I1:Inv X pins σ H { s with heap:=s.heap.push { cls:=.type "range",data:=.fields #[.int lo t,.int hi u,.int 1 v] },toks:=tk }:=I.kept fun b o e=>Heap.get?_push_of_some _ e
 refine⟨(s.heap.push { cls:=.type "range",data:=.fields #[.int lo t,.int hi u,.int 1 v] }).objs.size,[(s.heap.push { cls:=.type "range",data:=.fields #[.int lo t,.int hi u,.int 1 v] }).objs.size],_,_,H,rfl,
  I1.kept (t':=tk) fun b o e=>Heap.get?_push_of_some _ e,y7N _ lo (hi-lo).toNat,?_,fun b hb=>?_,q⟩
 ·have e1:lo+((0:Nat):Int)*1=lo:=by simp
  have e2:(((hi-lo).toNat:Nat):Int)-((0:Nat):Int)=Builtin.Range.rangeSize lo hi 1:=by rw[rangeSize_one];split<;>omega
  show IsRangeIter _ _ (lo+((0:Nat):Int)*1) ((((hi-lo).toNat:Nat):Int)-((0:Nat):Int)) 1
  rw[e1,e2];exact Heap.get?_push_size _ rfl
 ·have e:b=(s.heap.push { cls:=.type "range",data:=.fields #[.int lo t,.int hi u,.int 1 v] }).objs.size:=by simpa using hb
  subst e;exact I1.fpOk (Nat.le_refl _) (I1.hok.fresh (Nat.le_refl _))
noncomputable def w5C(ta:TA):TI:=fun σ H R=>ta σ H fun vs H1=>∃j:Int,vs=[.int j]/\-(2 ^ 62)≤j/\j<2 ^ 62/\R (Itr 0 j.toNat) H1
theorem x09{a:Expr}{ta:TA}{p pos:Pos}(hg:Gl X "range")(hm:X.mg "range" = none)(ha:PA X [a] ta)(hs:starEach [a] X.env=[(false,eval a X.env)]:=by rfl):PI X tg (.Call (.Name "range" p) [a] [] pos) (w5C ta):=by
 intro pins s σ H R I h
 refine Call_ (z8X I hg hm boot_range (PyProof.Rows.callWith_type1 (thn (ha pos pins s σ H _ I h) fun us s1 ⟨vs,H1,I1,r1,q1⟩=>?_) hs rfl))
 obtain⟨j,e,q1,q2,q⟩:=q1;subst e
 cases r1 with
 | cons r rr =>
  cases rr;obtain⟨t,rfl⟩:=r
  exact call_range_1 (x3X I1 (by omega) (by omega) q1 q2 (by simpa using q))
noncomputable def w6C(wi:TI)(g:TG)(tb:TS):TS:=fun D σ H=>wi σ H fun J H1=>∃W:Nat->Nat->St->Hp->Prop,(∃m,W 0 m σ H1)/\∀i m σ H,W i m σ H ->
 (J.stop i H/\D.nx σ H)∨(J.go i H/\∃N:St->Hp->Prop,(∀σ' H',N σ' H'->∃m',m'<m/\W (i+1) m' σ' H')/\∀x H',J.yld i H x H'->g x σ H' fun σ2 H2=>tb { D with nx:=N,ct:=N,bk:=D.nx } σ2 H2)
noncomputable def y0G(fp:List Addr)(h:Heap):List (Addr×Obj):=fp.filterMap fun b=>(h.get? b).map fun o=>(b,o)
theorem z2G{fp:List Addr}{h:Heap}{b:Addr}{o:Obj}(hb:b∈fp)(e:h.get? b=some o):(b,o)∈y0G fp h:=List.mem_filterMap.mpr ⟨b,hb,by rw[e];rfl⟩
theorem x0I{fp:List Addr}{h:Heap}{p:Addr×Obj}(hp:p∈y0G fp h):p.1∈fp/\h.get? p.1=some p.2:=by
 obtain⟨b,hb,e⟩:=List.mem_filterMap.mp hp
 cases q:h.get? b with
 | none=>rw[q]at e;cases e
 | some o =>
  rw[q]at e;have e':(b,o)=p:=Option.some.inj e
  subst e'
  exact⟨hb,q⟩
theorem Inv.pinned{pins:List (Addr×Obj)}{σ:St}{H:Hp}{s:Shared}{fp:List Addr}(I:Inv X pins σ H s)(hf:∀b∈fp,y8T X pins H b)(ho:∀b∈fp,∃o,s.heap.get? b=some o/\∀v,o.data≠.cell v):Inv X (pins++y0G fp s.heap) σ H s :=
 I.pins_of fun p hp=>(List.mem_append.mp hp).elim (fun z=>I.pin p (List.mem_append_right _ z)) fun z=>by
  obtain⟨hb,e⟩:=x0I z;obtain⟨f0,f1,f2,_⟩:=hf p.1 hb;obtain⟨o,e',d⟩:=ho p.1 hb;rw[e]at e';cases e'
  exact⟨e,f0,f1,f2,d⟩
theorem Inv.unpinned{pins pl:List (Addr×Obj)}{σ:St}{H:Hp}{s:Shared}(I:Inv X (pins++pl) σ H s):Inv X pins σ H s:=I.pins_of fun p hp=>I.pin p (List.mem_append_right _ (List.mem_append_left _ hp))
theorem w2A{iter:Expr}{body:List Stmt}{wi:TI}{g:TG}{tb:TS}{pos:Pos}(hp:PassesOwn (model X.prog X.w) X.A X.env X.xe)(hc:X.calm=true)(hi:PI X tg iter wi)(hg:PG X tg g)(hb:PSs X body tb)(hs:∀x,foldedSetIterable iter X.env x=pure x:=by intro _;rfl):PS X (.For tg iter body [] pos) (w6C wi g tb):=by
 intro pins s σ H D I h
 refine wpAny_For (thn (hi pins s σ H _ I h) fun v s1 h1=>thn h1 fun itv s2 h2=>?_) hs
 obtain⟨it,fp,tn,J,H2,e,I2,T,st2,f2,W,⟨m0,w0⟩,turn⟩:=h2;subst e
 have stat:∀{H':Hp},(∀b∈fp,H' b=none)->∀b∈fp,y8T X pins H' b:=fun hn b hb=>⟨hn b hb,(f2 b hb).2⟩
 refine codeAny_forLoop_any (fun n s'=>∃i σ' H',Inv X pins σ' H' s'/\tn i s'.heap/\(∀b∈fp,H' b=none)/\W i n σ' H') ?_ m0 ⟨0,σ,H2,I2,st2,fun b hb=>(f2 b hb).1,w0⟩
 rintro n s3 ⟨i,σ3,H3,I3,st3,fr3,w3⟩
 rcases turn i n σ3 H3 w3 with⟨stop,qn⟩|⟨go,N,hN,step⟩
 ·refine wpAny_passesOwn hp (thn (T.done X rfl rfl rfl hc i pins s3 σ3 H3 X.xe I3 (stat fr3) st3 stop) fun r s4 ⟨hr,I4⟩=>?_)
  subst hr;exact wpAny_execs_nil ⟨σ3,H3,I4,qn⟩
 ·refine wpAny_passesOwn hp (thn (T.item X rfl rfl rfl hc i pins s3 σ3 H3 X.xe I3 (stat fr3) st3 go) fun r s4 ⟨u,hr,h4⟩=>?_)
  subst hr
  refine wpAny_passesOwn hp (thn h4 fun _ s5 ⟨x,H5,I5,r5,y5,st5,fr5⟩=>?_)
  have I5':=I5.pinned (stat fr5) (T.obj _ _ st5)
  refine wpAny_passesOwn hp (thn (hg _ s5 σ3 H5 x u _ I5' r5 (step x H5 y5)) fun _ s6 ⟨σ6,H6,I6,q6⟩=>?_)
  refine wpAny_passesOwn hp (thn (hb _ s6 σ6 H6 _ I6 q6) fun f s7 q7=>?_)
  have again:∀{σ7:St} {H7:Hp},Inv X (pins++y0G fp s5.heap) σ7 H7 s7->N σ7 H7->∃m,m<n/\∃i σ' H',Inv X pins σ' H' s7/\tn i s7.heap/\(∀b∈fp,H' b=none)/\W i m σ' H':=fun {σ7 H7} I7 n7=>by
   obtain⟨m',hm,w7⟩:=hN σ7 H7 n7
   refine⟨m',hm,i+1,σ7,H7,I7.unpinned,T.keep _ _ _ st5 fun b hb o e=>(I7.pin (b,o) (List.mem_append_right _ (List.mem_append_right _ (z2G hb e)))).1,fun b hb=>?_,w7⟩
   obtain⟨o,e,d⟩:=T.obj _ _ st5 b hb;exact (I7.pin (b,o) (List.mem_append_right _ (List.mem_append_right _ (z2G hb e)))).2.1
  cases f with
  | next=>obtain⟨σ7,H7,I7,n7⟩:=q7;exact again I7 n7
  | cont=>obtain⟨σ7,H7,I7,n7⟩:=q7;exact again I7 n7
  | brk=>obtain⟨σ7,H7,I7,q7⟩:=q7;exact⟨σ7,H7,I7.unpinned,q7⟩
  | ret v=>obtain⟨x7,σ7,H7,I7,r7,q7⟩:=q7;exact⟨x7,σ7,H7,I7.unpinned,r7,q7⟩
end
noncomputable abbrev R2:=V->V->Hp->VK->Prop
noncomputable def OpR(X:Cx)(f:Value->Value->Sem Value)(r:R2):Prop :=
 ∀(pins:List (Addr×Obj)) (s:Shared) (σ:St) (H:Hp) (x y:V) (v u:Value) (Q:VK),Inv X pins σ H s->z1D x v->z1D y u->r x y H Q ->
  wpAny (model X.prog X.w) X.A (f v u) (EP X pins σ Q) X.xe s
noncomputable def UnR(X:Cx)(f:Value->Sem Value)(r:V->Hp->VK->Prop):Prop :=
 ∀(pins:List (Addr×Obj)) (s:Shared) (σ:St) (H:Hp) (x:V) (v:Value) (Q:VK),Inv X pins σ H s->z1D x v->r x H Q ->
  wpAny (model X.prog X.w) X.A (f v) (EP X pins σ Q) X.xe s
noncomputable def z3E(X:Cx)(f:Value)(r:List V->Hp->VK->Prop):Prop :=
 ∀(pins:List (Addr×Obj)) (s:Shared) (σ:St) (H:Hp) (xs:List V) (us:List Value) (Q:VK),Inv X pins σ H s->Z3 xs us->r xs H Q ->
  wpAny (model X.prog X.w) X.A (call f us) (EP X pins σ Q) X.xe s
noncomputable def w6Z(X:Cx)(r:V->Hp->(Bool->Hp->Prop)->Prop):Prop :=
 ∀(pins:List (Addr×Obj)) (s:Shared) (σ:St) (H:Hp) (x:V) (v:Value) (Q:Bool->Hp->Prop),Inv X pins σ H s->z1D x v->r x H Q ->
  wpAny (model X.prog X.w) X.A (truthy v) (TP X pins σ Q) X.xe s
noncomputable def tOp(r:R2)(ta tb:TE):TE:=fun σ H Q=>ta σ H fun x H1=>tb σ H1 fun y H2=>r x y H2 Q
noncomputable def tUn(r:V->Hp->VK->Prop)(ta:TE):TE:=fun σ H Q=>ta σ H fun x H1=>r x H1 Q
noncomputable def rI(C:Int->Int->Prop)(g:Int->Int->V):R2:=fun x y H Q=>∃i j,x = .int i/\y = .int j/\C i j/\Q (g i j) H
noncomputable def rI0(g:Int->Int->V):R2:=fun x y H Q=>∃i j,x = .int i/\y = .int j/\Q (g i j) H
noncomputable def rU(g:Int->V):V->Hp->VK->Prop:=fun x H Q=>∃i,x = .int i/\Q (g i) H
section
variable{X:Cx}{a b c:Expr}{ta tb tc:TE}{pos:Pos}
theorem w5M(ha:PE X a ta)(hb:PE X b tb){pins:List (Addr×Obj)}{s:Shared}{σ:St}{H:Hp}{R:V->V->Hp->Prop}(I:Inv X pins σ H s)(h:ta σ H fun x H1=>tb σ H1 fun y H2=>R x y H2){Q:Value->Shared->Prop}{f:Value->Value->Sem Value}(hf:∀v u s2 x y H2,Inv X pins σ H2 s2->z1D x v->z1D y u->R x y H2->wpAny (model X.prog X.w) X.A (f v u) Q X.xe s2) :
  wpAny (model X.prog X.w) X.A (eval a X.env) (fun v s₁=>wpAny (model X.prog X.w) X.A (eval b X.env) (fun u s₂=>wpAny (model X.prog X.w) X.A (f v u) Q X.xe s₂) X.xe s₁) X.xe s:=by
 refine thn (ha pins s σ H _ I h) fun v s1 ⟨x,H1,I1,r1,q1⟩=>?_
 refine thn (hb pins s1 σ H1 _ I1 q1) fun u s2 ⟨y,H2,I2,r2,q2⟩=>?_
 exact hf v u s2 x y H2 I2 r1 r2 q2
theorem w2M{op:Operator}{r:R2}(ho:OpR X (binaryOp op) r)(ha:PE X a ta)(hb:PE X b tb):PE X (.BinOp a op b pos) (tOp r ta tb):=by
 intro pins s σ H Q I h
 exact wpAny_BinOp (w5M ha hb I h fun v u s2 x y H2 I2 rx ry q=>ho pins s2 σ H2 x y v u Q I2 rx ry q)
theorem w4Y{op:UnaryOp}{r:V->Hp->VK->Prop}(ho:UnR X (unaryOp op) r)(ha:PE X a ta):PE X (.UnaryOp op a pos) (tUn r ta):=by
 intro pins s σ H Q I h
 exact UnaryOp_ (thn (ha pins s σ H _ I h) fun v s1 ⟨x,H1,I1,r1,q1⟩=>ho pins s1 σ H1 x v Q I1 r1 q1)
theorem opI{f:Value->Value->Sem Value}{C:Int->Int->Prop}{g:Int->Int->Int}(rule:∀(i j:Int) (t u:Tok) (s:Shared) (Q:Value->Shared->Prop) (E:Value->Shared->Prop),C i j->Q (.int (g i j) s.toks) { s with toks:=s.toks+1 }->wpAny (model X.prog X.w) X.A (f (.int i t) (.int j u)) Q E s) :
  OpR X f (rI C fun i j=>.int (g i j)):=by
 intro pins s σ H x y v u Q I rx ry h;obtain⟨i,j,rfl,rfl,hc,q⟩:=h;obtain⟨t,rfl⟩:=rx;obtain⟨t',rfl⟩:=ry;exact rule i j t t' s _ _ hc ⟨.int (g i j),H,I.tok _,⟨_,rfl⟩,q⟩
theorem w60{f:Value->Value->Sem Value}{g:Int->Int->Int}(rule:∀(i j:Int) (t u:Tok) (s:Shared) (Q:Value->Shared->Prop) (E:Value->Shared->Prop),Q (.int (g i j) s.toks) { s with toks:=s.toks+1 }->wpAny (model X.prog X.w) X.A (f (.int i t) (.int j u)) Q E s) :
  OpR X f (rI0 fun i j=>.int (g i j)):=by
 intro pins s σ H x y v u Q I rx ry h;obtain⟨i,j,rfl,rfl,q⟩:=h;obtain⟨t,rfl⟩:=rx;obtain⟨t',rfl⟩:=ry;exact rule i j t t' s _ _ ⟨.int (g i j),H,I.tok _,⟨_,rfl⟩,q⟩
theorem w54{f:Value->Value->Sem Value}{g:Int->Int->Bool}(rule:∀(i j:Int) (t u:Tok) (s:Shared) (Q:Value->Shared->Prop) (E:Value->Shared->Prop),Q (.bool (g i j)) s->wpAny (model X.prog X.w) X.A (f (.int i t) (.int j u)) Q E s) :
  OpR X f (rI0 fun i j=>.bl (g i j)):=by
 intro pins s σ H x y v u Q I rx ry h;obtain⟨i,j,rfl,rfl,q⟩:=h;obtain⟨t,rfl⟩:=rx;obtain⟨t',rfl⟩:=ry;exact rule i j t t' s _ _ ⟨.bl (g i j),H,I,rfl,q⟩
noncomputable def w63(i j:Int):Prop:=0<j/\j<1073741824
noncomputable def w3X(i j:Int):Prop:=(-(2 ^ 64)<i/\i<2 ^ 64)∨(-(2 ^ 64)<j/\j<2 ^ 64)
theorem w3X.ok{i j:Int}(h:w3X i j):IntMulOk i j:=by
 rcases h with⟨h1,h2⟩|⟨h1,h2⟩
 ·exact .of_left (intBits_le_64 h1 h2)
 ·exact .of_right (intBits_le_64 h1 h2)
theorem w2Z:OpR X (binaryOp .Add) (rI0 fun i j=>.int (i+j)):=w60 fun _ _ _ _ _ _ _ q=>add_int q
theorem w2S:OpR X (binaryOp .Sub) (rI0 fun i j=>.int (i-j)):=w60 fun _ _ _ _ _ _ _ q=>sub_int q
theorem w2U:OpR X (binaryOp .Mult) (rI w3X fun i j=>.int (i*j)):=opI fun _ _ _ _ _ _ _ hc q=>mul_int q hc.ok
theorem x8L:OpR X (binaryOp .FloorDiv) (rI w63 fun i j=>.int (i / j)):=opI fun i j _ _ _ _ _ hc q=>by
 have h1:(0:Int)<j:=hc.1;have h2:j<1073741824:=hc.2
 exact floordiv_int (by omega) (by rw[Int.fdiv_eq_ediv_of_nonneg i (by omega)];exact q) (.inl (PyProof.noPylong_small (by omega)))
theorem w2V:OpR X (binaryOp .Mod) (rI (fun _ j=>0<j) fun i j=>.int (i % j)):=opI fun i j _ _ _ _ _ hc q=>by
 have h1:(0:Int)<j:=hc
 exact mod_int' (by omega) (by rw[Int.fmod_eq_emod_of_nonneg i (by omega)];exact q)
theorem unI{f:Value->Sem Value}{g:Int->Int}(rule:∀(i:Int) (t:Tok) (s:Shared) (Q:Value->Shared->Prop) (E:Value->Shared->Prop),Q (.int (g i) s.toks) { s with toks:=s.toks+1 }->wpAny (model X.prog X.w) X.A (f (.int i t)) Q E s) :
  UnR X f (rU fun i=>.int (g i)):=by
 intro pins s σ H x v Q I rx h;obtain⟨i,rfl,q⟩:=h;obtain⟨t,rfl⟩:=rx;exact rule i t s _ _ ⟨.int (g i),H,I.tok _,⟨_,rfl⟩,q⟩
theorem w05:UnR X (unaryOp .USub) (rU fun i=>.int (-i)):=unI fun _ _ _ _ _ q=>neg_int q
theorem y82:OpR X (compareOp .Lt) (rI0 fun i j=>.bl (decide (i<j))):=w54 fun _ _ _ _ _ _ _ q=>lt_int q
theorem w52:OpR X (compareOp .LtE) (rI0 fun i j=>.bl (decide (i≤j))):=w54 fun _ _ _ _ _ _ _ q=>le_int q
theorem w53:OpR X (compareOp .Gt) (rI0 fun i j=>.bl (decide (j<i))):=w54 fun _ _ _ _ _ _ _ q=>gt_int q
theorem OpR.or{f:Value->Value->Sem Value}{r r':R2}(h:OpR X f r)(h':OpR X f r'):OpR X f (fun x y H Q=>r x y H Q∨r' x y H Q):=by
 intro pins s σ H x y v u Q I rx ry q
 rcases q with q|q
 ·exact h pins s σ H x y v u Q I rx ry q
 ·exact h' pins s σ H x y v u Q I rx ry q
theorem z7O(b:Expr){op:CmpOp}(h:op≠.In:=by decide)(h2:op≠.NotIn:=by decide):behindInMarks op b=false:=by
 have e1:(op==CmpOp.In)=false:=by cases op<;>first|rfl|exact absurd rfl h
 have e2:(op==CmpOp.NotIn)=false:=by cases op<;>first|rfl|exact absurd rfl h2
 cases b<;>simp[behindInMarks,e1,e2]
theorem x8H{op:CmpOp}{r:R2}(ho:OpR X (compareOp op) r)(ha:PE X a ta)(hb:PE X b tb)(hm:behindInMarks op b=false):PE X (.Compare a [op] [b] pos) (tOp r ta tb):=by
 intro pins s σ H Q I h
 exact wpAny_Compare1 (w5M ha hb I h fun v u s2 x y H2 I2 rx ry q=>ho pins s2 σ H2 x y v u Q I2 rx ry q) hm
noncomputable def w0A(t:TE):TT:=fun σ H Q=>t σ H fun x H'=>∃k,x = .bl k/\Q k H'
theorem y4R{op:CmpOp}{r:R2}(ho:OpR X (compareOp op) r)(ha:PE X a ta)(hb:PE X b tb)(hm:behindInMarks op b=false):PT X (.Compare a [op] [b] pos) (w0A (tOp r ta tb)):=by
 intro pins s σ H Q I h
 refine wpAny_isTrue_Compare1 (thn (ha pins s σ H _ I h) fun v s1 ⟨x,H1,I1,r1,q1⟩=>thn (hb pins s1 σ H1 _ I1 q1) fun u s2 ⟨y,H2,I2,r2,q2⟩ =>
  thn (ho pins s2 σ H2 x y v u _ I2 r1 r2 q2) fun c s3 ⟨z,H3,I3,r3,k,e,q3⟩=>?_) hm
 subst e;cases r3;exact wpAny_truthy_bool ⟨H3,I3,q3⟩
noncomputable def y9H(r r':R2)(ta tb tc:TE):TE:=fun σ H Q=>ta σ H fun x H1=>tb σ H1 fun y H2=>r x y H2 fun z H3=>∃k,z = .bl k /\
 (if k=true then tc σ H3 fun w' H4=>r' y w' H4 Q else Q (.bl false) H3)
theorem x4A{op op':CmpOp}{r r':R2}(ho:OpR X (compareOp op) r)(ho':OpR X (compareOp op') r')(ha:PE X a ta)(hb:PE X b tb)(hc:PE X c tc)(hm:lastMarks [op,op'] [b,c]=false:=by with_unfolding_all rfl):PE X (.Compare a [op,op'] [b,c] pos) (y9H r r' ta tb tc):=by
 intro pins s σ H Q I h
 refine Compare_chain (thn (ha pins s σ H _ I h) fun v s1 ⟨x,H1,I1,r1,q1⟩=>chain_link (thn (hb pins s1 σ H1 _ I1 q1) fun u s2 ⟨y,H2,I2,r2,q2⟩ =>
  thn (ho pins s2 σ H2 x y v u _ I2 r1 r2 q2) fun d s3 ⟨z,H3,I3,r3,k,e,q3⟩=>?_)) hm
 subst e;cases r3;refine wpAny_truthy_bool ?_
 cases k with
 | false=>exact ite_ff ⟨.bl false,H3,I3,rfl,q3⟩
 | true=>exact ite_tt (chain_last (thn (hc pins s3 σ H3 _ I3 q3) fun w' s4 ⟨z',H4,I4,r4,q4⟩=>ho' pins s4 σ H4 y z' u w' Q I4 r2 r4 q4))
theorem x40{op op':CmpOp}{r r':R2}(ho:OpR X (compareOp op) r)(ho':OpR X (compareOp op') r')(ha:PE X a ta)(hb:PE X b tb)(hc:PE X c tc)(hm:lastMarks [op,op'] [b,c]=false:=by with_unfolding_all rfl):PT X (.Compare a [op,op'] [b,c] pos) (w0A (y9H r r' ta tb tc)):=by
 intro pins s σ H Q I h
 refine isTrue_chain (thn (ha pins s σ H _ I h) fun v s1 ⟨x,H1,I1,r1,q1⟩=>test_link (thn (hb pins s1 σ H1 _ I1 q1) fun u s2 ⟨y,H2,I2,r2,q2⟩ =>
  thn (ho pins s2 σ H2 x y v u _ I2 r1 r2 q2) fun d s3 ⟨z,H3,I3,r3,k,e,q3⟩=>?_)) hm
 subst e;cases r3;refine wpAny_truthy_bool ?_
 cases k with
 | false =>
  obtain⟨k',e',q'⟩:=q3
  cases e'
  exact ite_ff ⟨H3,I3,q'⟩
 | true =>
  refine ite_tt (test_last (thn (hc pins s3 σ H3 _ I3 q3) fun w' s4 ⟨z',H4,I4,r4,q4⟩=>thn (ho' pins s4 σ H4 y z' u w' _ I4 r2 r4 q4) fun d' s5 ⟨z2,H5,I5,r5,k2,e2,q5⟩=>?_))
  subst e2;cases r5;exact wpAny_truthy_bool ⟨H5,I5,q5⟩
noncomputable def w62(K:PySem.W.Frag)(x:V)(H:Hp)(k:Bool):Prop :=
 match x with
 | .non=>k=false
 | .bl b=>k=b
 | .int i=>k=(i != 0)
 | .str y=>y.length≤sizeLine/\k=((y.length:Int) != 0)
 | .byt y=>y.size≤sizeLine/\k=((y.size:Int) != 0)
 | .ref p=>(∃xs,SqL K H p xs/\k = !xs.isEmpty)∨(∃xs,SqT K H p xs/\k = !xs.isEmpty)∨∃kvs,H p=some (.dK kvs)/\k = !kvs.isEmpty
 | _=>False
theorem y8C{κ:Type}{kvs:List (κ×V)}{vs:List (κ×Value)}(r:KV kvs vs):(!vs.isEmpty) = !kvs.isEmpty:=by
 cases r<;>rfl
theorem y0K{xs:List V}{its:List Value}(r:Z3 xs its):(!its.toArray.isEmpty) = !xs.isEmpty:=by
 cases r<;>simp
theorem y36:(sizeLine:Nat)<2 ^ 63:=by rw[sizeLine_eq];decide
theorem w07:w6Z X (fun x H Q=>∃k,w62 X.K x H k/\Q k H):=by
 intro pins s σ H x v Q I rx h;obtain⟨k,e,q⟩:=h;have hl:=y36;have hs:sizeLine=16777216:=sizeLine_eq
 cases x with
 | non =>
  cases rx;have e':k=false:=e
  subst e'
  exact truthy_none ⟨H,I,q⟩
 | bl b =>
  cases rx;have e':k=b:=e
  subst e'
  exact wpAny_truthy_bool ⟨H,I,q⟩
 | int i =>
  obtain⟨t,rfl⟩:=rx;have e':k=(i != 0):=e
  subst e'
  exact PySem.P.truthy_int ⟨H,I,q⟩
 | str y =>
  obtain⟨t,rfl⟩:=rx;obtain⟨hy,e'⟩:y.length≤sizeLine/\k=((y.length:Int) != 0):=e
  subst e'
  exact PySem.P.truthy_str (by omega) ⟨H,I.tok _,q⟩
 | byt y =>
  obtain⟨t,rfl⟩:=rx;obtain⟨hy,e'⟩:y.size≤sizeLine/\k=((y.size:Int) != 0):=e
  subst e'
  exact PySem.W.truthy_bytes (by omega) ⟨H,I.tok _,q⟩
 | ref p =>
  cases rx;have e':(∃xs,SqL X.K H p xs/\k = !xs.isEmpty)∨(∃xs,SqT X.K H p xs/\k = !xs.isEmpty)∨∃kvs,H p=some (.dK kvs)/\k = !kvs.isEmpty:=e
  rcases e' with⟨xs,hx,e'⟩|⟨xs,hx,e'⟩|⟨kvs,hx,e'⟩
  ·subst e'
   obtain⟨its,r,pl,hz⟩:=I.list hx;have hlen:=r.length
   exact wpAny_truthy_list pl.isList (by simp only[List.size_toArray];omega) ⟨H,I.tok _,by rw[y0K r];exact q⟩
  ·subst e'
   obtain⟨its,r,pl,hz⟩:=I.tuple hx;have hlen:=r.length
   exact truthy_tuple pl (by simp only[List.size_toArray];omega) ⟨H,I.tok _,by rw[y0K r];exact q⟩
  ·subst e'
   obtain⟨hz,hS,vs,r,m⟩:kvs.length≤sizeLine/\(p==sysModules)=false/\∃vs,KV kvs vs/\s.heap.DictOf (z19 X.prog X.w) p vs:=I.hok p _ hx;have hlen:kvs.length=vs.length:=Paired.length r
   exact wpAny_truthy_dict hS m (by omega) ⟨H,I.tok _,by rw[y8C r];exact q⟩
 | _=>exact (show False from e).elim
theorem x3Z(ha:PE X a ta)(he:∀whole,isTrue a X.env whole=(do let v ←whole;standAt a.pos;holding [v] (truthy v))) :
  PT X a (fun σ H Q=>ta σ H fun x H'=>∃k,w62 X.K x H' k/\Q k H'):=by
 intro pins s σ H Q I h
 exact isTrue_plain (thn (ha pins s σ H _ I h) fun v s1 ⟨x,H1,I1,r1,q1⟩=>w07 pins s1 σ H1 x v Q I1 r1 q1) (he _)
theorem z5G{x:V}{us:List Value}(r:Z3 [x] us):∃u,us=[u]/\z1D x u:=by
 cases r with
 | cons r1 r2=>cases r2;exact⟨_,rfl,r1⟩
theorem x75{x y:V}{us:List Value}(r:Z3 [x,y] us):∃u w',us=[u,w']/\z1D x u/\z1D y w':=by
 cases r with
 | cons r1 r2 =>
  cases r2 with
  | cons r3 r4=>cases r4;exact⟨_,_,rfl,r1,r3⟩
theorem x2C(hc:X.calm=true):z3E X (.builtin "max") (fun xs H Q=>∃i j,xs=[.int i,.int j]/\Q (.int (if j>i then j else i)) H):=by
 intro pins s σ H xs us Q I r h;obtain⟨i,j,rfl,q⟩:=h;obtain⟨u,w',rfl,⟨t,rfl⟩,⟨t',rfl⟩⟩:=x75 r
 refine max_two_ints (I.ok.hd hc) fun h' tk k=>⟨_,H,I.kept k,?_,q⟩
 by_cases hj:j>i
 ·rw[if_pos hj,if_pos hj];exact⟨_,rfl⟩
 ·rw[if_neg hj,if_neg hj];exact⟨_,rfl⟩
theorem x2A(hc:X.calm=true):z3E X (.builtin "min") (fun xs H Q=>∃i j,xs=[.int i,.int j]/\Q (.int (if j<i then j else i)) H):=by
 intro pins s σ H xs us Q I r h;obtain⟨i,j,rfl,q⟩:=h;obtain⟨u,w',rfl,⟨t,rfl⟩,⟨t',rfl⟩⟩:=x75 r
 refine min_two_ints (I.ok.hd hc) fun h' tk k=>⟨_,H,I.kept k,?_,q⟩
 by_cases hj:j<i
 ·rw[if_pos hj,if_pos hj];exact⟨_,rfl⟩
 ·rw[if_neg hj,if_neg hj];exact⟨_,rfl⟩
theorem x2E:z3E X (.type "int") (fun xs H Q=>(∃i,xs=[.int i]/\Q (.int i) H)∨∃k,xs=[.bl k]/\Q (.int (if k then 1 else 0)) H):=by
 intro pins s σ H xs us Q I r h
 rcases h with⟨i,rfl,q⟩|⟨k,rfl,q⟩
 ·obtain⟨u,rfl,t,rfl⟩:=z5G r;exact call_int_int ⟨.int i,H,I,⟨_,rfl⟩,q⟩
 ·obtain⟨u,rfl,r1⟩:=z5G r;cases r1
  exact call_int_bool ⟨.int (if k then 1 else 0),H,I.tok _,⟨_,rfl⟩,q⟩
end
theorem y8S.some_of{v:V}{o:Option Value}(r:y8S (some v) o):∃u,o=some u/\z1D v u:=by
 cases o with
 | none=>exact (show False from r).elim
 | some u=>exact⟨u,rfl,r⟩
structure Room(k:Nat)(A:Around):Prop where
 hd:A.handled=none
 dp:A.depth+3*k+5<recursionLimit
 un:A.units+16*k+200<cLine
 gd:A.guards=some []
theorem Room.mono{j k:Nat}{A:Around}(r:Room k A)(h:j≤k):Room j A:=⟨r.hd,by have:=r.dp;omega,by have:=r.un;omega,r.gd⟩
theorem Room.deeper{k:Nat}{A:Around}(r:Room (k+1) A)(env:Env):Room k (A.deeper env) :=
 ⟨r.hd,by have:=r.dp;show A.depth+1+3*k+5<_;omega,by have:=r.un;show A.units+3+16*k+200<_;omega,r.gd⟩
theorem Room.in1{k:Nat}{A:Around}(r:Room (k+1) A):Room k A.in1 :=
 ⟨r.hd,by have:=r.dp;show A.depth+3*k+5<_;omega,by have:=r.un;show A.units+1+16*k+200<_;omega,r.gd⟩
theorem Room.depth{k:Nat}{A:Around}(r:Room k A):A.depth<recursionLimit:=by have:=r.dp;omega
theorem Room.units{k:Nat}{A:Around}(r:Room k A):A.units+64<cLine:=by have:=r.un;omega
theorem Room.units0{k:Nat}{A:Around}(r:Room k A):A.units<cLine:=by have:=r.un;omega
noncomputable def w48:TA:=fun _ H Q=>Q [] H
noncomputable def x7A(ta:TE)(tr:TA):TA:=fun σ H Q=>ta σ H fun x H1=>tr σ H1 fun xs H2=>Q (x::xs) H2
section
variable{X:Cx}{e:Expr}{es:List Expr}{te:TE}{t:TA}{pos:Pos}
theorem z05:PA X [] w48:=fun _ _ _ _ H Q I h=>Calls.spliced_nil ⟨[],H,I,.nil,h⟩
theorem K8(ha:PE X e te)(hr:PA X es t)(hs:starEach (e::es) X.env=(false,eval e X.env)::starEach es X.env:=by rfl):PA X (e::es) (x7A te t):=by
 intro pos pins s σ H Q I h;rw[hs]
 show wpAny _ _ (spliced ((false,eval e X.env)::backTo pos (starEach es X.env))) _ _ s
 refine Calls.spliced_cons (thn (ha pins s σ H _ I h) fun u s1 ⟨x,H1,I1,r1,q1⟩=>?_)
 exact thn (hr pos pins s1 σ H1 _ I1 q1) fun us s2 ⟨xs,H2,I2,r2,q2⟩=>⟨x::xs,H2,I2,.cons r1 r2,q2⟩
noncomputable def w65(t:TA):TE:=fun σ H Q=>t σ H fun xs H1=>xs.length≤sizeLine/\∀p,H1 p=none->Q (.ref p) (upd H1 p (.tup xs))
noncomputable def w6A(t:TA):TE:=fun σ H Q=>t σ H fun xs H1=>xs.length≤sizeLine/\∀p,H1 p=none->Q (.ref p) (upd H1 p (.lst xs))
theorem w2J{x1}(h:PA X es t):PE X (.Tuple es x1 pos) (w65 t):=by
 intro pins s σ H Q I hq
 refine wpAny_Tuple_spliced (thn (h pos pins s σ H _ I hq) fun us s1 ⟨xs,H1,I1,r,z,q⟩=>⟨by rw[←r.length];exact z,?_⟩)
 have hf:H1 s1.heap.objs.size=none:=I1.hok.fresh (Nat.le_refl _)
 refine⟨.ref s1.heap.objs.size,upd H1 s1.heap.objs.size (.tup xs),I1.laid (t':=s1.toks) (fun b u e=>Heap.get?_push_of_some _ e) (Nat.le_refl _) ?_,rfl,q _ hf⟩
 exact⟨z,us,r,⟨_,Heap.get?_push_size _ rfl,rfl,⟨_,rfl⟩,rfl⟩⟩
theorem w2P(h:PA X es t):PE X (.List es pos) (w6A t):=by
 intro pins s σ H Q I hq
 refine wpAny_List_spliced (thn (h pos pins s σ H _ I hq) fun us s1 ⟨xs,H1,I1,r,z,q⟩=>⟨by rw[←r.length];exact z,?_⟩)
 have hf:H1 s1.heap.objs.size=none:=I1.hok.fresh (Nat.le_refl _)
 refine⟨.ref s1.heap.objs.size,upd H1 s1.heap.objs.size (.lst xs),I1.laid (t':=s1.toks) (fun b u e=>Heap.get?_push_of_some _ e) (Nat.le_refl _) ?_,rfl,q _ hf⟩
 exact⟨z,us,0,r,Heap.get?_push_size _ rfl⟩
end
noncomputable abbrev Sp:=List V->Hp->VK->XK->Prop
noncomputable abbrev CXT:=List Env->Hp->Shared->XK->Value->Shared->Prop
structure Env0(P:Program)(w:World)(K:PySem.W.Frag)(mg:Str->Option Value)(base:Heap)(A:Around)(outer:List Env)(s:Shared)(H:Hp):Prop where
 frames:A.frames=some outer
 mod:Mod K mg base
 bs:∀b o,base.get? b=some o->s.heap.get? b=some o/\H b=none
 bsz:base.objs.size≤s.heap.objs.size
 funs:s.heap.FunFrames base outer
 frf:∀b∈frs outer,H b=none
 hok:HOk P w H s.heap
 bare:AllBare s.gens
noncomputable def CE(outer:List Env)(P:Program)(w:World)(H:Hp)(s:Shared)(Q:VK)(u:Value)(s':Shared):Prop :=
 ∃v H',s'.os=s.os/\AllBare s'.gens/\Un (frs outer) [] H H' s.heap s'.heap/\HOk P w H' s'.heap/\z1D v u/\Q v H'
noncomputable def CR(CX:CXT)(outer:List Env)(P:Program)(w:World)(H:Hp)(s:Shared)(Q:VK)(E:XK)(r:Result)(s':Shared):Prop :=
 match r with
 | .ok (.ret u)=>CE outer P w H s Q u s'
 | .ok _=>False
 | .error e=>CX outer H s E e s'
structure FnOk(P:Program)(w:World)(K:PySem.W.Frag)(mg:Str->Option Value)(base:Heap)(CX:CXT)(k:Nat)(f:Addr)(fd:FuncData)(ps:List Str)(sp:Sp):Prop where
 len:∀vs H Q E,sp vs H Q E->vs.length=ps.length
 run:∀(A:Around) (outer:List Env) (s:Shared) (H:Hp) (args:Args) (us:List Value) (vs:List V) (Q:VK) (E:XK),Room k A->Env0 P w K mg base A outer s H->BindsTo s fd args (ps.zip us)->Z3 vs us->sp vs H Q E ->
  codeAny (model P w) A (.call (.ref f) args) (CR CX outer P w H s Q E) s
theorem FnOk.mono{P:Program}{w:World}{K:PySem.W.Frag}{mg:Str->Option Value}{base:Heap}{CX:CXT}{j k:Nat}{f:Addr}{fd:FuncData}{ps:List Str}{sp:Sp}(F:FnOk P w K mg base CX j f fd ps sp)(h:j≤k) :
  FnOk P w K mg base CX k f fd ps sp:=⟨F.len,fun A outer s H args us vs Q E hr=>F.run A outer s H args us vs Q E (hr.mono h)⟩
section
variable{X:Cx}{pins:List (Addr×Obj)}{σ:St}{H:Hp}{s s':Shared}
theorem Inv.env0(I:Inv X pins σ H s):Env0 X.prog X.w X.K X.mg X.base X.A X.stack s H :=
 ⟨I.ok.frames,I.ok.mod,I.bs,Nat.le_trans I.ok.bsz I.sz,I.stack,I.stkFree,I.hok,I.bare⟩
theorem Inv.after{Q:VK}{u:Value}(I:Inv X pins σ H s)(h:CE X.stack X.prog X.w H s Q u s'):EP X pins σ Q u s':=by
 obtain⟨v,H',os,bare,un,hok,r,q⟩:=h;obtain⟨hh,g,d,t,os'⟩:=s'
 obtain rfl:os'=s.os:=os
 exact⟨v,H',I.call (h':=hh) (g':=g) (d':=d) (t':=t) (ch:=[]) un hok bare (fun b z=>absurd z (by simp)),r,q⟩
end
noncomputable def w4C(sp:Sp)(dvs:List V)(E:XK)(t:TA):TE:=fun σ H Q=>t σ H fun vs H1=>sp (vs++dvs) H1 Q E
noncomputable def y48(K:PySem.W.Frag)(fd:FuncData)(ps:List Str)(ds:List Value):Prop :=
 ∀(s:Shared) (us:List Value),K.In s.heap->(us++ds).length=ps.length->BindsTo s fd ⟨us,[]⟩ (ps.zip (us++ds))
theorem y48.all{K:PySem.W.Frag}{fd:FuncData}{ps:List Str}(h:∀us:List Value,us.length=ps.length->bindArgs fd ⟨us,[]⟩=pure (ps.zip us)):y48 K fd ps []:=fun s us _ hl=>by
 rw[List.append_nil]at hl ⊢;exact .of_eq (h us hl)
noncomputable def x2Q(CX:CXT)(X:Cx)(E:XK):Prop:=∀(pins:List (Addr×Obj)) (σ:St) (H:Hp) (s:Shared) (e:Value) (s':Shared),Inv X pins σ H s->CX X.stack H s E e s'->X.xe e s'
section
variable{X:Cx}{CX:CXT}{k:Nat}{f C:Addr}{fd:FuncData}{ps:List Str}{sp:Sp}{dvs:List V}{ds:List Value}{E:XK}{x m:Str}{p pos apos:Pos}{e o:Expr}{es:List Expr}{ta:TE}{t:TA}
theorem w1R{pins:List (Addr×Obj)}{σ:St}{H:Hp}{s:Shared}{Q:VK}{us:List Value}{vs:List V}(F:FnOk X.prog X.w X.K X.mg X.base CX k f fd ps sp)(hr:Room k X.A)(hb:y48 X.K fd ps ds)(hd:Z3 dvs ds)(hx:x2Q CX X E)(I:Inv X pins σ H s)(r:Z3 vs us)(h:sp (vs++dvs) H Q E):wpAny (model X.prog X.w) X.A (call (.ref f) us) (EP X pins σ Q) X.xe s:=by
 have r2:Z3 (vs++dvs) (us++ds):=r.append hd
 have hl:(us++ds).length=ps.length:=by rw[←r2.length];exact F.len _ _ _ _ h
 refine wpAny_call (codeAny_mono (F.run X.A X.stack s H ⟨us,[]⟩ (us++ds) (vs++dvs) Q E hr I.env0 (hb s us I.kIn hl) r2 h) fun r s' hq=>?_)
 cases r with
 | error e=>exact hx pins σ H s e s' I hq
 | ok fl =>
  cases fl with
  | ret u=>exact I.after hq
  | next=>exact False.elim hq
  | brk=>exact False.elim hq
  | cont=>exact False.elim hq
theorem x8I(F:FnOk X.prog X.w X.K X.mg X.base CX k f fd ps sp)(hr:Room k X.A)(hg:Gl X x)(hm:X.mg x=some (.ref f))(hk:PySem.W.keepIn X.K (.ref f)=true)(hb:y48 X.K fd ps ds)(hd:Z3 dvs ds)(hx:x2Q CX X E)(ha:PA X (e::es) t)(hdb:(x==("__debug__":Str))=false:=by decide)(he:starEach (e::es) X.env=(false,eval e X.env)::starEach es X.env:=by rfl)(hpl:(backTo pos (starEach es X.env)).any (·.1)=false:=by rfl) :
  PE X (.Call (.Name x p) (e::es) [] pos) (w4C sp dvs E t):=by
 intro pins s σ H Q I h;refine wpAny_Call_Name_kw (z8W I hg hm ?_ hdb)
 refine PySem.W.callWith_K (h₀:=X.base) I.ok.mod.kin hk (thn (ha pos pins s σ H _ I h) fun us s1 ⟨vs,H1,I1,r,q⟩=>⟨I1.kIn,?_⟩) he hpl
 exact w1R F hr hb hd hx I1 r q
end
structure FnScope(N P:List Str)(sc:Scope):Prop where
 kind:sc.kind = .function
 co:sc.isCoroutine=false
 gen:sc.isGenerator=false
 nd:N.Nodup
 pre:N.take P.length=P
 par:∀x∈P,sc.names.lookup x=some .local∨sc.names.lookup x=some .cell
 nofree:∀y∈sc.names,y.2≠.free
theorem y3U{kindOf:Str->Option NameKind}{x:Str}:∀{binds:List (Str×Value)} {m:Str->Option Value},(∀v,(x,v)∉binds)->bindL kindOf binds m x=m x
 | [],_,_=>rfl
 | (n,v)::r,m,h=>by
  unfold bindL
  rw[y3U fun w hw=>h w (List.mem_cons_of_mem _ hw)]
  split
  ·have:x≠n:=by rintro rfl;exact h v List.mem_cons_self
   simp[this]
  ·rfl
theorem y3W{kindOf:Str->Option NameKind}{x:Str}:∀{binds:List (Str×Value)} {m:Str->Option Value},(∀v,(x,v)∉binds)->bindC kindOf binds m x=m x
 | [],_,_=>rfl
 | (n,v)::r,m,h=>by
  unfold bindC
  rw[y3W fun w hw=>h w (List.mem_cons_of_mem _ hw)]
  split
  ·rfl
  ·have:x≠n:=by rintro rfl;exact h v List.mem_cons_self
   simp[this]
theorem y3V{kindOf:Str->Option NameKind}{x:Str}{v:Value}:∀{P:List Str} {vs:List Value} {i:Nat} {m:Str->Option Value},P.Nodup->P[i]?=some x->vs[i]?=some v->kindOf x=some .local ->
  bindL kindOf (P.zip vs) m x=some v
 | [],_,_,_,_,h,_,_=>by simp at h
 | _::_,[],_,_,_,_,h,_=>by simp at h
 | p::P,w::vs,0,m,nd,h1,h2,hk=>by
  simp at h1 h2;subst h1;subst h2
  show bindL kindOf ((p,w)::P.zip vs) m p=_
  unfold bindL
  rw[y3U fun v hv=>(List.nodup_cons.mp nd).1 (List.of_mem_zip hv).1,if_pos hk]
  simp
 | p::P,w::vs,i+1,m,nd,h1,h2,hk=>by
  show bindL kindOf ((p,w)::P.zip vs) m x=_
  unfold bindL
  exact y3V (i:=i) (List.nodup_cons.mp nd).2 (by simpa using h1) (by simpa using h2) hk
theorem y3X{kindOf:Str->Option NameKind}{x:Str}{v:Value}:∀{P:List Str} {vs:List Value} {i:Nat} {m:Str->Option Value},P.Nodup->P[i]?=some x->vs[i]?=some v->kindOf x≠some .local ->
  bindC kindOf (P.zip vs) m x=some v
 | [],_,_,_,_,h,_,_=>by simp at h
 | _::_,[],_,_,_,_,h,_=>by simp at h
 | p::P,w::vs,0,m,nd,h1,h2,hk=>by
  simp at h1 h2;subst h1;subst h2
  show bindC kindOf ((p,w)::P.zip vs) m p=_
  unfold bindC
  rw[y3W fun v hv=>(List.nodup_cons.mp nd).1 (List.of_mem_zip hv).1,if_neg hk]
  simp
 | p::P,w::vs,i+1,m,nd,h1,h2,hk=>by
  show bindC kindOf ((p,w)::P.zip vs) m x=_
  unfold bindC
  exact y3X (i:=i) (List.nodup_cons.mp nd).2 (by simpa using h1) (by simpa using h2) hk
noncomputable def start(N:List Str)(vs:List V):St:=vs.map some++List.replicate (N.length-vs.length) none
noncomputable def z42(CX:CXT)(P:Program)(w:World)(K:PySem.W.Frag)(mg:Str->Option Value)(base:Heap)(N:List Str)(qual:Str)(scope:Scope)(f:Addr)(cd:Value)(A:Around)(outer:List Env)(s:Shared)(H:Hp)(E:XK):Cx where
 prog:=P
 w:=w
 K:=K
 mg:=mg
 base:=base
 A:=A.deeper (envOfC qual scope s.heap.objs.size f cd)
 N:=N
 s₀:=s
 H₀:=H
 env:=envOfC qual scope s.heap.objs.size f cd
 outer:=outer
 stack:=envOfC qual scope s.heap.objs.size f cd::outer
 ex:=[]
 calm:=true
 fn:=fun _=>true
 pn:=[]
 xe:=fun e s'=>wpAny (model P w) (A.deeper (envOfC qual scope s.heap.objs.size f cd)) (leaving (envOfC qual scope s.heap.objs.size f cd) e) (fun _ s''=>CX outer H s E e s'') (fun e' s''=>CX outer H s E e' s'') s'
theorem y7E{sc:Scope}{n:Nat}{x:Str}(h:sc.names.lookup x=some .cell):∃c,(cellsFrom n sc.names []).lookup x=some c:=by
 have q:=PySem.W.cellsFrom_some sc.names n [] (.inl h);exact Option.isSome_iff_exists.mp q
theorem x1A{CX:CXT}{P:Program}{w:World}{K:PySem.W.Frag}{mg:Str->Option Value}{base:Heap}{N ps:List Str}{qual:Str}{scope:Scope}{f:Addr}{cd:Value}{A:Around}{outer:List Env}{s s1:Shared}{H:Hp}{E:XK}{us:List Value}{vs:List V}(S:FnScope N ps scope)(hd:A.handled=none)(e0:Env0 P w K mg base A outer s H)(hl:vs.length=ps.length)(r:Z3 vs us)(x:InCallC s s.heap.objs.size (bindL (envOfC qual scope s.heap.objs.size f cd).kindOf (ps.zip us) fun _=>none) (cellsFrom (s.heap.objs.size+1) scope.names []) (bindC (envOfC qual scope s.heap.objs.size f cd).kindOf (ps.zip us) fun _=>none) s1) :
  Inv (z42 CX P w K mg base N qual scope f cd A outer s H E) [] (start N vs) H s1:=by
 have hpl:ps.length≤N.length:=by have:=congrArg List.length S.pre;rw[List.length_take]at this;omega
 obtain⟨h1,tk,rfl,hk⟩:=x.done
 have noA:∀b:Addr,b∉(z42 CX P w K mg base N qual scope f cd A outer s H E).ex:=fun b z=>absurd (show b∈([]:List Addr) from z) (by simp)
 refine⟨⟨e0.mod,S.kind,rfl,rfl,Nat.le_refl _,fun y z c h1 h2=>?_,fun y hy=>?_,fun y c _ h=>?_,fun _=>hd,Around.frames_deeper e0.frames,.inr ⟨rfl,rfl⟩,fun b z=>absurd z (noA b),e0.bs,e0.bsz,fun b _ _=>noA b,fun b z=>absurd z (noA b),e0.funs,e0.frf⟩,
  rfl,e0.bare,Un.kept hk,⟨_,x.toInCall.ns,fun i y v h1 h2 h3=>?_⟩,fun y c h=>⟨_,x.cell y c h⟩,e0.hok.fresh (Nat.le_refl _),fun y c h=>?_,fun p hp=>absurd (show p∈([]:List (Addr×Obj)) from hp) (by simp),e0.hok.kept hk,?_⟩
 ·exact name_of_addr x.apart (PySem.mem_of_lookup h1) (PySem.mem_of_lookup h2)
 ·have hy:scope.names.lookup y=some .cell∨scope.names.lookup y=some .free:=hy
  rcases hy with hy|hy
  ·exact y7E hy
  ·exact absurd rfl (S.nofree _ (PySem.mem_of_lookup hy))
 ·exact Nat.le_of_lt (x.above y c (PySem.mem_of_lookup h))
 ·have hi:i<vs.length:=by
   unfold start at h2;by_cases hi:i<vs.length
   ·exact hi
   ·rw[List.getElem?_append_right (by simpa using hi)]at h2
    rw[List.getElem?_replicate]at h2
    split at h2<;>cases h2
  have ha:vs[i]?=some v:=by
   unfold start at h2
   rw[List.getElem?_append_left (by simpa using hi),List.getElem?_map]at h2
   cases e:vs[i]? with
   | none=>rw[e]at h2;cases h2
   | some a=>rw[e]at h2;cases h2;rfl
  obtain⟨u,hu,rv⟩:=r.get ha
  have hp:ps[i]?=some y:=by
   rw[←S.pre,List.getElem?_take_of_lt (by omega)];exact h1
  have ndP:ps.Nodup:=by rw[←S.pre];exact S.nd.sublist (List.take_sublist _ _)
  refine⟨u,rv,?_⟩
  rcases S.par y (List.mem_of_getElem? hp) with k|k
  ·exact .inl ⟨k,y3V ndP hp hu k⟩
  ·obtain⟨c,e⟩:=y7E (n:=s.heap.objs.size+1) k;refine .inr ⟨.inl k,c,e,?_⟩;have q:=x.cell y c e
   rw[y3X ndP hp hu (by show scope.names.lookup y≠_;rw[k];decide)]at q
   exact q
 ·exact e0.hok.fresh (Nat.le_of_lt (x.above y c (PySem.mem_of_lookup h)))
 ·unfold start
  show _=N.length
  rw[List.length_append,List.length_map,List.length_replicate];omega
theorem x9D{CX:CXT}{P:Program}{w:World}{K:PySem.W.Frag}{mg:Str->Option Value}{base:Heap}{k:Nat}{f:Addr}{name qual:Str}{params:Arguments}{body:List Stmt}{scope:Scope}{dV kV doc pm cdv ct oc:Value}{an od:Option Addr}{osl:Array (Option Value)}{N ps:List Str}{sp:Sp}(lk:K.lookup f=some ⟨oc,od,.func (PySem.W.fnOf name qual params body scope dV kV doc pm an cdv ct),osl⟩)(hcd:PySem.W.codeIn K cdv qual=true)(S:FnScope N ps scope)(len:∀vs H Q E,sp vs H Q E->vs.length=ps.length)
  (hbody:∀(A:Around) (outer:List Env) (s:Shared) (H:Hp) (vs:List V) (Q:VK) (E:XK),Room k (A.deeper (envOfC qual scope s.heap.objs.size f cdv))->sp vs H Q E ->
   ∃t,PSs (z42 CX P w K mg base N qual scope f cdv A outer s H E) body t/\t { nx:=fun _ H'=>Q .non H',rt:=Q } (start N vs) H) :
  FnOk P w K mg base CX (k+1) f (PySem.W.fnOf name qual params body scope dV kV doc pm an cdv ct) ps sp:=by
 refine⟨len,fun A outer s H args us vs Q E hr e0 hb r hsp=>?_⟩
 have hl:=len _ _ _ _ hsp
 have KX:K.In s.heap:=e0.mod.kin.keeps fun b o e=>(e0.bs b o e).1
 have lim:s.heap.NoLimit:=e0.mod.nolimit.keeps fun b o e=>(e0.bs b o e).1
 have hkind:∀y∈ps.zip us,scope.names.lookup y.1=some .local∨(scope.names.lookup y.1=some .cell/\((cellsFrom (s.heap.objs.size+1) scope.names []).lookup y.1).isSome=true):=fun ⟨n,v⟩ hy=>by
  rcases S.par n (List.of_mem_zip hy).1 with q|q
  ·exact .inl q
  ·exact .inr ⟨q,PySem.W.cellsFrom_some _ _ _ (.inl q)⟩
 refine codeAny_call_function hr.depth (KX _ _ lk) rfl S.co S.gen rfl (PySem.W.codeRec_of KX hcd) (hb _ _ _ _ ?_)
 refine wpAny_newFunctionEnv_cells S.kind hkind fun env he s1 x=>?_
 subst he
 refine⟨lim.keeps x.toInCall.keep,codeAny_func ?_⟩
 obtain⟨t,ht,hq⟩:=hbody A outer s H vs Q E (hr.deeper _) hsp;have I:Inv (z42 CX P w K mg base N qual scope f cdv A outer s H E) [] (start N vs) H s1:=x1A S hr.hd e0 hl r x
 refine wpAny_mono (ht [] s1 (start N vs) H _ I hq) (fun fl s' hs=>?_) fun e s' hs=>hs
 have fin:∀{σ':St} {H':Hp} {v:V} {u:Value},Inv (z42 CX P w K mg base N qual scope f cdv A outer s H E) [] σ' H' s'->z1D v u->Q v H'->CE outer P w H s Q u s' :=
  fun {σ' H' v u} J rv q=>⟨v,H',J.os,J.bare,J.base,J.hok,rv,q⟩
 cases fl with
 | ret u =>
  obtain⟨v,σ',H',J,rv,q⟩:=hs;exact fin J rv q
 | next =>
  obtain⟨σ',H',J,q⟩:=hs;exact fin (v:=V.non) (u:=Value.none) J rfl q
 | brk =>
  obtain⟨_,_,_,q⟩:=hs;exact False.elim q
 | cont =>
  obtain⟨_,_,_,q⟩:=hs;exact False.elim q
section
variable{X:Cx}{x:Str}{p pos:Pos}{e:Expr}{es:List Expr}{t:TA}{id T:String}{r:List V->Hp->VK->Prop}
noncomputable def tCB(r:List V->Hp->VK->Prop)(t:TA):TE:=fun σ H Q=>t σ H fun vs H1=>r vs H1 Q
theorem z1N(hc:z3E X (.builtin id) r)(hg:Gl X x)(hm:X.mg x=none)(hv:bootBuiltins x=some (.builtin id))(ha:PA X (e::es) t)(hn:x≠"__name__":=by decide)(hdb:(x==("__debug__":Str))=false:=by decide)(he:starEach (e::es) X.env=(false,eval e X.env)::starEach es X.env:=by rfl)(hpl:(backTo pos (starEach es X.env)).any (·.1)=false:=by rfl):PE X (.Call (.Name x p) (e::es) [] pos) (tCB r t):=by
 intro pins s σ H Q I h;refine wpAny_Call_Name_kw (z8X I hg hm hv ?_ hn hdb)
 exact PyProof.Rows.callWith_builtin1 (thn (ha pos pins s σ H _ I h) fun us s1 ⟨vs,H1,I1,r1,q1⟩=>hc pins s1 σ H1 vs us Q I1 r1 q1) he hpl
theorem z3N(hc:z3E X (.type T) r)(hg:Gl X x)(hm:X.mg x=none)(hv:bootBuiltins x=some (.type T))(ha:PA X (e::es) t)(hn:x≠"__name__":=by decide)(hdb:(x==("__debug__":Str))=false:=by decide)(he:starEach (e::es) X.env=(false,eval e X.env)::starEach es X.env:=by rfl)(hpl:(backTo pos (starEach es X.env)).any (·.1)=false:=by rfl):PE X (.Call (.Name x p) (e::es) [] pos) (tCB r t):=by
 intro pins s σ H Q I h;refine wpAny_Call_Name_kw (z8X I hg hm hv ?_ hn hdb)
 exact PyProof.Rows.callWith_type1 (thn (ha pos pins s σ H _ I h) fun us s1 ⟨vs,H1,I1,r1,q1⟩=>hc pins s1 σ H1 vs us Q I1 r1 q1) he hpl
end
end L2
namespace HT
open PySem PyProof.Rows
noncomputable def lexLt:List Int->List Int->Bool
 | [],[]=>false
 | [],_::_=>true
 | _::_,[]=>false
 | x::xs,y::ys=>if x=y then lexLt xs ys else decide (x<y)
theorem lexLt_cons(x y:Int)(xs ys:List Int):lexLt (x::xs) (y::ys)=if x=y then lexLt xs ys else decide (x<y):=rfl
theorem lexLt_nil_nil:lexLt [] []=false:=rfl
theorem z9X(y:Int)(ys:List Int):lexLt [] (y::ys)=true:=rfl
theorem z9Y(x:Int)(xs:List Int):lexLt (x::xs) []=false:=rfl
theorem x57(A:Around)(s:Shared)(a:Int)(t:Tok)(c:Int)(u:Tok):∃e,SeqAt.EqAt A s (.int a t) (.int c u) e/\(e=true↔a=c) :=
 ⟨(a==c),SeqAt.EqAt.int_int a t c u,by simp⟩
theorem x3W(A:Around)(s:Shared)(a:Int)(t:Tok)(c:Int)(u:Tok)(prog:Program)(w:World)(E:Value->Shared->Prop)(Q:Value->Shared->Prop)(h:Q (.bool (decide (a<c))) s) :
  wpAny (model prog w) A (richCompare .Lt (.int a t) (.int c u)) Q E s :=
 (PyProof.Rows.lt_int h:wpAny (model prog w) A (compareOp .Lt (.int a t) (.int c u)) Q E s)
section
open PySem.SeqAt
open PySem.AutoSeq1 (wpAny_loadPart')
open PySem.MeetsSeq PySem.MeetsSeq2 PySem.MeetsSeq3
theorem y11(l b:Addr)(items items2:Array Value)(n n2:Nat)(dd dd2:Option Addr)(sl sl2:Array (Option Value))(ns ms:List Int)(hi:IntsAre items.toList ns)(hj:IntsAre items2.toList ms) :
  Meets (Builtin.«tuple.__lt__» ⟨[.ref l,.ref b],[]⟩)
   (fun _ R s=>s.heap.get? l=some { cls:=.type "tuple",dict:=dd,data:=.seq items n,slots:=sl }/\s.heap.get? b=some { cls:=.type "tuple",dict:=dd2,data:=.seq items2 n2,slots:=sl2 } /\
    R (.ok (.ret (.bool (lexLt ns ms)))) s) :=
 .of_wp fun prog w A R s h=>by
  obtain⟨hp,g,d,tk,os⟩:=s;obtain⟨hl,hb,h⟩:=h;have f2:=AutoSeq1.sub_tuple_tuple
  have z1:items.size=ns.length:=by rw[←hi.length];simp
  have z2:items2.size=ms.length:=by rw[←hj.length];simp
  wp_walk using wpAny_loadPart' hl,wpAny_loadPart' hb,wpAny_forIn_list _ (fun rest b s'=>b.1=none/\s'=⟨hp,g,d,tk,os⟩/\∃(vs ws:List Value) (ns' ms':List Int),rest=vs.zip ws /\
   IntsAre vs ns'/\IntsAre ws ms'/\ns'.length+items2.size=ms'.length+items.size/\R (.ok (.ret (.bool (lexLt ns' ms')))) ⟨hp,g,d,tk,os⟩) _
  case turn =>
   rintro ⟨y,x⟩ rest b s' ⟨hb',rfl,vs,ws,ns',ms',hz,hvi,hwi,hlen,hR⟩
   cases hvi with
   | nil=>rw[List.zip_nil_left]at hz;cases hz
   | cons a t hvi' =>
    cases hwi with
    | nil=>rw[List.zip_nil_right]at hz;cases hz
    | cons c u hwi' =>
     rw[List.zip_cons_cons]at hz
     injection hz with hyx hrest
     injection hyx with hy hx
     subst hy hx
     rw[lexLt_cons]at hR;simp only[List.length_cons]at hlen;obtain⟨e,he,hiff⟩:=x57 A.in1 ⟨hp,g,d,tk,os⟩ a t c u;refine wpAny_bind (he prog w _ _ ?_)
     cases e with
     | true =>
      rw[if_pos (hiff.mp rfl)]at hR
      wp_walk
      exact⟨rfl,rfl,_,_,_,_,hrest,hvi',hwi',by omega,hR⟩
     | false =>
      rw[if_neg (fun q=>absurd (hiff.mpr q) Bool.false_ne_true)]at hR
      have hri:=x3W A.in1 ⟨hp,g,d,tk,os⟩ a t c u prog w
      wp_walk using hri
      exact⟨_,rfl,by simpa using hR⟩
  case fin =>
   rintro ⟨b1,b2⟩ s' ⟨hb',rfl,vs,ws,ns',ms',hz,hvi,hwi,hlen,hR⟩
   simp only at hb'
   subst hb'
   have hv:lexLt ns' ms'=decide (items.size<items2.size):=by
    cases hvi with
    | nil =>
     cases hwi with
     | nil =>
      simp only[List.length_nil]at hlen;rw[lexLt_nil_nil]
      exact (decide_eq_false (by omega)).symm
     | cons c u hw =>
      simp only[List.length_nil,List.length_cons]at hlen;rw[z9X]
      exact (decide_eq_true (by omega)).symm
    | cons a t hv =>
     cases hwi with
     | nil =>
      simp only[List.length_nil,List.length_cons]at hlen;rw[z9Y]
      exact (decide_eq_false (by omega)).symm
     | cons c u hw =>
      rw[List.zip_cons_cons]at hz;cases hz
   rw[hv]at hR
   wp_walk
   exact⟨_,rfl,by simpa [Builtin.Tuple.tupleCompareSizes] using hR⟩
  case h =>
   exact⟨rfl,rfl,items.toList,items2.toList,ns,ms,rfl,hi,hj,by omega,h⟩
end
section
variable{prog:Program}{w:World}{A:Around}{E:Value->Shared->Prop}{s:Shared}
theorem lt_tupInts{l b:Addr}{items items2:Array Value}{ns ms:List Int}{Q:Value->Shared->Prop}(hl:IsTup s.heap l items)(hb:IsTup s.heap b items2)(hi:IntsAre items.toList ns)(hj:IntsAre items2.toList ms)(hu:A.units<cLine)(h:Q (.bool (lexLt ns ms)) s):wpAny (model prog w) A (compareOp .Lt (.ref l) (.ref b)) Q E s:=by
 obtain⟨⟨cls,dd,data,sl⟩,ho,hc,n,hd⟩:=id hl;obtain⟨⟨cls2,dd2,data2,sl2⟩,ho2,hc2,n2,hd2⟩:=id hb;simp only at hc hd hc2 hd2
 subst hc hd hc2 hd2
 exact richCompare_meets_room (op:=.Lt) ⟨_,ho,rfl⟩ ⟨_,ho2,rfl⟩ PySem.F.slot_tuple_lt PySem.F.entry_tuple_lt (PySem.F.args_tuple_lt_2 _ _) (y11 l b items items2 n n2 dd dd2 sl sl2 ns ms hi hj)
  ⟨ho,ho2,show Value.bool (lexLt ns ms)≠Value.notImplemented/\Q (.bool (lexLt ns ms)) s from ⟨(fun x=>nomatch x),h⟩⟩ hu
theorem cat_tup{t b:Addr}{vs ws:List Value}{Q:Value->Shared->Prop}(ht:IsTup s.heap t vs.toArray)(hb:IsTup s.heap b ws.toArray)(hv:vs≠[])(h1:ws=[]->Q (.ref t) s)(h2:ws≠[]->Q (.ref s.heap.objs.size) { s with heap:=s.heap.push { cls:=.type "tuple",data:=.seq (vs++ws).toArray } })(hsz:vs.length+ws.length≤sizeLine):wpAny (model prog w) A (binaryOp .Add (.ref t) (.ref b)) Q E s:=by
 obtain⟨⟨cls,dd,data,sl⟩,ho,hc,n,hd⟩:=id ht;obtain⟨⟨cls2,dd2,data2,sl2⟩,ho2,hc2,n2,hd2⟩:=id hb;simp only at hc hd hc2 hd2
 subst hc hd hc2 hd2
 have e:vs.toArray++ws.toArray=(vs++ws).toArray:=by simp
 by_cases hw:ws=[]
 ·exact concat_meets ⟨_,ho,rfl⟩ ⟨_,ho2,rfl⟩ noFill_tuple_add seq_tuple_add PySem.F.slot_tuple_add PySem.F.entry_tuple_add (PySem.F.args_tuple_add_2 _ _)
   (tuple_addW1 t b vs.toArray ws.toArray n n2 dd dd2 sl sl2 (by simpa using hv) (by simp[hw])) ⟨ho,ho2,h1 hw⟩
 ·refine concat_meets ⟨_,ho,rfl⟩ ⟨_,ho2,rfl⟩ noFill_tuple_add seq_tuple_add PySem.F.slot_tuple_add PySem.F.entry_tuple_add (PySem.F.args_tuple_add_2 _ _)
   (tuple_addW2 t b vs.toArray ws.toArray n n2 dd dd2 sl sl2 (by simpa using hv) (by simpa using hw) (by rw[List.size_toArray,List.size_toArray];exact hsz)) ⟨ho,ho2,?_⟩
  rw[e];exact h2 hw
noncomputable def sIx(n d:Nat):Option Int->Nat
 | none=>d
 | some v=>if v<0 then (v+(n:Int)).toNat else min v.toNat n
theorem sIx_none(n d:Nat):sIx n d none=d:=rfl
theorem sIx_nat(n d k:Nat):sIx n d (some (k:Int))=min k n:=by
 show (if (k:Int)<0 then ((k:Int)+(n:Int)).toNat else min (k:Int).toNat n)=min k n
 rw[if_neg (by omega),Int.toNat_natCast]
theorem x5X(n d:Nat)(hd:d≤n)(o:Option Int):sIx n d o≤n:=by
 cases o with
 | none=>exact hd
 | some v =>
  show (if v<0 then (v+(n:Int)).toNat else min v.toNat n)≤n
  by_cases hv:v<0
  ·rw[if_pos hv];omega
  ·rw[if_neg hv];exact Nat.min_le_right _ _
theorem x27(v:Int)(n d:Nat):(if v<0 then max (v+(n:Int)) 0 else min v (n:Int))=((sIx n d (some v):Nat):Int):=by
 show (if v<0 then max (v+(n:Int)) 0 else min v (n:Int))=(((if v<0 then (v+(n:Int)).toNat else min v.toNat n):Nat):Int)
 by_cases hv:v<0
 ·simp only[if_pos hv];omega
 ·simp only[if_neg hv];omega
theorem y8P(lo hi:Option Int)(n:Nat):Builtin.Slice.sliceAdjust lo hi 1 (n:Int)=(((sIx n 0 lo:Nat):Int),((sIx n n hi:Nat):Int)):=by
 have h1:¬((1:Int)<0):=by omega
 unfold Builtin.Slice.sliceAdjust;simp only[h1,if_false];refine Prod.ext ?_ ?_
 ·cases lo with
  | none=>rfl
  | some v=>exact x27 v n 0
 ·cases hi with
  | none=>rfl
  | some v=>exact x27 v n n
theorem y81(i j:Nat):Builtin.Slice.slicePlaces (i:Int) (j:Int) 1=j-i:=by
 unfold Builtin.Slice.slicePlaces
 have h1:(1:Int)>0:=by omega
 simp only[h1,if_true,Int.ediv_one]
 split<;>omega
theorem z3K{v:Value}{o:Option Int}{Q:Option Int->Shared->Prop}(p:IsPart v o)(h:Q o s):wpAny (model prog w) A (Builtin.Slice.slicePartIndex v) Q E s:=by
 cases p with
 | none=>exact slicePart_none h
 | int i t=>exact slicePart_int h
theorem z4C{sl:Addr}{vl vu:Value}{lo hi:Option Int}{n:Nat}{Q:Int×Int×Nat->Shared->Prop}(hs:s.heap.IsSliceOf sl vl vu .none)(pl:IsPart vl lo)(pu:IsPart vu hi)(h:Q (((sIx n 0 lo:Nat):Int),1,sIx n n hi-sIx n 0 lo) s):wpAny (model prog w) A (Builtin.Slice.sliceApplied (.ref sl) (pure (n:Int))) Q E s:=by
 obtain⟨os,hos,hcs,hds⟩:=id hs;unfold Builtin.Slice.sliceApplied Builtin.Slice.sliceFields;refine wpAny_bind (wpAny_bind (wpAny_field hos hds (x:=vl) rfl (wpAny_bind (wpAny_field hos hds (x:=vu) rfl (wpAny_bind (wpAny_field hos hds (x:=.none) rfl (wpAny_pure ?_)))))));refine wpAny_bind (slicePart_none ?_)
 show wpAny _ _ (if ((1:Int)==0)=true then _ else _) _ _ s
 rw[if_neg (by decide)]
 refine wpAny_bind (z3K pl (wpAny_bind (z3K pu (wpAny_bind (wpAny_pure ?_)))))
 show wpAny _ _ (match Builtin.Slice.sliceAdjust lo hi 1 (n:Int) with|(lo,hi)=>pure (lo,(1:Int),Builtin.Slice.slicePlaces lo hi 1)) _ _ s
 rw[y8P lo hi n]
 show wpAny _ _ (pure (((sIx n 0 lo:Nat):Int),(1:Int),Builtin.Slice.slicePlaces ((sIx n 0 lo:Nat):Int) ((sIx n n hi:Nat):Int) 1)) _ _ s
 rw[y81];exact wpAny_pure h
theorem x46(xs:Array Value)(i k:Nat):((List.range k).filterMap fun (m:Nat)=>xs[((i:Int)+(m:Int)*1).toNat]?).toArray=((xs.toList.drop i).take k).toArray:=by
 have e:(fun (m:Nat)=>xs[((i:Int)+(m:Int)*1).toNat]?)=fun m=>xs[i+m]?:=by
  funext m
  have:((i:Int)+(m:Int)*1).toNat=i+m:=by omega
  rw[this]
 rw[e]
 have:=pick_run xs i k
 rw[List.filterMap_map]at this
 have e2:((fun x=>xs[x]?)∘fun x=>i+x)=fun m=>xs[i+m]?:=rfl
 rw[e2]at this;rw[this]
theorem getItem_tuple_cut{t sl:Addr}{items:Array Value}{vl vu:Value}{lo hi:Option Int}{Q:Value->Shared->Prop}(ht:IsTup s.heap t items)(hs:s.heap.IsSliceOf sl vl vu .none)(pl:IsPart vl lo)(pu:IsPart vu hi)(hw:¬(sIx items.size 0 lo=0/\sIx items.size items.size hi=items.size))(h:Q (.ref s.heap.objs.size) { s with heap:=s.heap.push { cls:=.type "tuple",data:=.seq ((items.toList.drop (sIx items.size 0 lo)).take (sIx items.size items.size hi-sIx items.size 0 lo)).toArray } })(hsz:items.size≤sizeLine):wpAny (model prog w) A (getItem (.ref t) (.ref sl)) Q E s:=by
 have htake:sizeOk (.seq ((items.toList.drop (sIx items.size 0 lo)).take (sIx items.size items.size hi-sIx items.size 0 lo)).toArray):=by
  show ((items.toList.drop (sIx items.size 0 lo)).take (sIx items.size items.size hi-sIx items.size 0 lo)).toArray.size≤sizeLine
  rw[List.size_toArray,List.length_take,List.length_drop,Array.length_toList];omega
 have hj:sIx items.size items.size hi≤items.size:=x5X _ _ (Nat.le_refl _) hi;obtain⟨os,hos,hcs,hds⟩:=id hs;have hTs:s.TypeIs (.ref sl) "slice":=⟨os,hos,hcs⟩;unfold getItem
 try with_reducible refine wpAny_holding ?_
 first|refine wpAny_bind (wpAny_pure ?_)|skip
 refine wpAny_bind (wpAny_sequenceKey ht.typeIs (by decide) ?_)
 refine wpAny_bind (wpAny_callSpecial?_slot (name:=Str.ofString "__getitem__") ht.typeIs PyProof.Rows.slot_tuple_getitem
  (wpAny_call_entry PyProof.Rows.slot_tuple_getitem ht.typeIs entry_tuple_getitem ?_ (args_tuple_getitem _ _)))
 show wpAny _ _ (Builtin.Tuple.tupleItemsOf (.ref t) >>= _) _ _ s
 refine wpAny_bind (tupleItemsOf_ ht ?_);refine wpAny_bind (wpAny_typeOf hTs ?_)
 rw[if_pos (by decide)]
 refine wpAny_bind (z4C hs pl pu ?_)
 have hno:¬((((sIx items.size 0 lo:Nat):Int)==0&&(1:Int)==1&&(sIx items.size items.size hi-sIx items.size 0 lo)==items.size)=true):=by
  intro q;rw[Bool.and_eq_true,Bool.and_eq_true]at q;have q1:((sIx items.size 0 lo:Nat):Int)=0:=eq_of_beq q.1.1;have q2:sIx items.size items.size hi-sIx items.size 0 lo=items.size:=eq_of_beq q.2
  exact hw ⟨by omega,by omega⟩
 show wpAny _ _ (if (((sIx items.size 0 lo:Nat):Int)==0&&(1:Int)==1&&(sIx items.size items.size hi-sIx items.size 0 lo)==items.size)=true then _ else _) _ _ s
 rw[if_neg hno,x46]
 first
  | exact wpAny_bind (m:=Builtin.Tuple.tupleExact _) (wpAny_newObj_type (wpAny_pure ⟨_,rfl,wpAny_pure h⟩) htake)
  | exact wpAny_bind (m:=Builtin.Tuple.tupleExact _) (wpAny_newObj_type (wpAny_bind (wpAny_pure (wpAny_pure ⟨_,rfl,wpAny_pure h⟩))) htake)
  | exact wpAny_bind (wpAny_bind (m:=Builtin.Tuple.tupleExact _) (wpAny_newObj_type (wpAny_pure (wpAny_pure ⟨_,rfl,wpAny_pure h⟩)) htake))
  | exact wpAny_bind (wpAny_bind (m:=Builtin.Tuple.tupleExact _) (wpAny_newObj_type (wpAny_pure ⟨_,rfl,wpAny_pure h⟩) htake))
end
end HT
namespace L2
open PySem PySem.Spec PyProof.Rows
noncomputable abbrev TO:=St->Hp->(Option Int->Hp->Prop)->Prop
noncomputable def PO(X:Cx)(e:Option Expr)(t:TO):Prop :=
 ∀(pins:List (Addr×Obj)) (s:Shared) (σ:St) (H:Hp) (Q:Option Int->Hp->Prop),Inv X pins σ H s->t σ H Q ->
  wpAny (model X.prog X.w) X.A (evalPart e X.env) (fun u s'=>∃o H',Inv X pins σ H' s'/\IsPart u o/\Q o H') X.xe s
noncomputable def x79:TO:=fun _ H Q=>Q none H
noncomputable def w46(t:TE):TO:=fun σ H Q=>t σ H fun x H1=>∃i,x = .int i/\Q (some i) H1
theorem z0U{ns:List Int}:∀{us:List Value},Z3 (ns.map V.int) us->IntsAre us ns:=by
 induction ns with
 | nil=>intro us r;rw[List.map_nil]at r;cases r;exact .nil
 | cons n ns ih =>
  intro us r;rw[List.map_cons]at r
  cases r with
  | cons r1 r2 =>
   obtain⟨t,e⟩:=r1;subst e;exact .cons n t (ih r2)
section
variable{X:Cx}{e:Expr}{te:TE}{lo hi:Option Expr}{tl th:TO}{pos p2:Pos}
theorem x8A:PO X none x79:=by
 intro pins s σ H Q I h;rw[evalPart_none];exact wpAny_pure ⟨none,H,I,.none,h⟩
theorem x89(h:PE X e te):PO X (some e) (w46 te):=by
 intro pins s σ H Q I hw;rw[evalPart_some]
 refine thn (h pins s σ H _ I hw) fun u s1 ⟨x,H1,I1,r1,q1⟩=>?_
 obtain⟨i,rfl,q⟩:=q1;obtain⟨t,rfl⟩:=r1
 exact⟨some i,H1,I1,.int i t,q⟩
noncomputable def SlR(X:Cx)(r:V->Option Int->Option Int->Hp->VK->Prop):Prop :=
 ∀(pins:List (Addr×Obj)) (s:Shared) (σ:St) (H:Hp) (x:V) (v vl vu:Value) (lo hi:Option Int) (sl:Addr) (Q:VK),Inv X pins σ H s->z1D x v->s.heap.IsSliceOf sl vl vu .none->IsPart vl lo->IsPart vu hi->r x lo hi H Q ->
  ∃T id,typeLookup (.type T) "__getitem__" = pure (some (.builtin id))/\s.TypeIs v T/\wpAny (model X.prog X.w) X.A (getItem v (.ref sl)) (EP X pins σ Q) X.xe s
theorem SlR.or{r r':V->Option Int->Option Int->Hp->VK->Prop}(h:SlR X r)(h':SlR X r'):SlR X (fun x lo hi H Q=>r x lo hi H Q∨r' x lo hi H Q):=by
 intro pins s σ H x v vl vu lo hi sl Q I rx hs pl pu q
 rcases q with q|q
 ·exact h pins s σ H x v vl vu lo hi sl Q I rx hs pl pu q
 ·exact h' pins s σ H x v vl vu lo hi sl Q I rx hs pl pu q
noncomputable def tSl(r:V->Option Int->Option Int->Hp->VK->Prop)(te:TE)(tl th:TO):TE:=fun σ H Q=>te σ H fun x H1=>tl σ H1 fun l H2=>th σ H2 fun u H3=>r x l u H3 Q
theorem y6O{r:V->Option Int->Option Int->Hp->VK->Prop}(hr:SlR X r)(he:PE X e te)(hl:PO X lo tl)(hu:PO X hi th):PE X (.Subscript e (.Slice lo hi none p2) pos) (tSl r te tl th):=by
 intro pins s σ H Q I h
 refine Subscript_ (thn (he pins s σ H _ I h) fun v s1 ⟨x,H1,I1,r1,q1⟩=>?_)
 refine wpAny_Slice (thn (hl pins s1 σ H1 _ I1 q1) fun vl s2 ⟨l,H2,I2,pl,q2⟩=>thn (hu pins s2 σ H2 _ I2 q2) fun vu s3 ⟨u,H3,I3,pu,q3⟩=>?_)
 rw[evalPart_none];refine wpAny_pure ?_
 have I4:Inv X pins σ H3 { s3 with heap:=s3.heap.push { cls:=.type "slice",data:=.fields #[vl,vu,.none] } }:=I3.kept (t':=s3.toks) fun b ob q=>Heap.get?_push_of_some _ q
 obtain⟨T,id,hT,ht,hg⟩:=hr pins { s3 with heap:=s3.heap.push { cls:=.type "slice",data:=.fields #[vl,vu,.none] } } σ H3 x v vl vu l u s3.heap.objs.size Q I4 r1 (Heap.IsSliceOf.new ..) pl pu q3
 show wpAny (model X.prog X.w) X.A (subscriptTail e (.Slice lo hi none p2) v (.ref s3.heap.objs.size)) (EP X pins σ Q) X.xe { s3 with heap:=s3.heap.push { cls:=.type "slice",data:=.fields #[vl,vu,.none] } }
 exact tail_any (ops:=[.ref s3.heap.objs.size,v]) ht hT hg (by with_unfolding_all rfl)
noncomputable def x30(xs:List V)(lo hi:Option Int):List V:=(xs.drop (HT.sIx xs.length 0 lo)).take (HT.sIx xs.length xs.length hi-HT.sIx xs.length 0 lo)
theorem z9B(xs:List V)(lo hi:Option Int):(x30 xs lo hi).length≤xs.length:=by
 unfold x30;rw[List.length_take,List.length_drop];omega
noncomputable def w6G(K:PySem.W.Frag):V->Option Int->Option Int->Hp->VK->Prop:=fun x lo hi H Q=>∃a xs,x = .ref a/\SqT K H a xs /\
 ¬(HT.sIx xs.length 0 lo=0/\HT.sIx xs.length xs.length hi=xs.length)/\∀p,H p=none->Q (.ref p) (upd H p (.tup (x30 xs lo hi)))
theorem sl_tup:SlR X (w6G X.K):=by
 intro pins s σ H x v vl vu lo hi sl Q I rx hs pl pu h;obtain⟨a,xs,rfl,hx,hw,q⟩:=h;cases rx;obtain⟨its,r,ht,hz⟩:=I.tuple hx
 have hlen:its.toArray.size=xs.length:=by rw[List.size_toArray];exact r.length.symm
 refine⟨"tuple",_,PyProof.Rows.slot_tuple_getitem.lookup,ht.typeIs,?_⟩
 refine HT.getItem_tuple_cut ht hs pl pu (by rw[hlen];exact hw) ?_ (by rw[hlen];exact hz)
 rw[hlen]
 refine⟨.ref s.heap.objs.size,_,I.laid (t':=s.toks) (o:=.tup (x30 xs lo hi)) (fun b ob q=>Heap.get?_push_of_some _ q) (Nat.le_refl _) ?_,rfl,q _ (I.hok.fresh (Nat.le_refl _))⟩
 exact⟨Nat.le_trans (z9B xs lo hi) hz,_,(r.drop (HT.sIx xs.length 0 lo)).take (HT.sIx xs.length xs.length hi-HT.sIx xs.length 0 lo),x2R.new _ _⟩
noncomputable def w5U(K:PySem.W.Frag):R2:=fun x y H Q=>∃a b ns ms,x = .ref a/\y = .ref b/\SqT K H a (ns.map V.int)/\SqT K H b (ms.map V.int)/\Q (.bl (HT.lexLt ns ms)) H
theorem w2W(hu:X.A.units<cLine):OpR X (compareOp .Lt) (w5U X.K):=by
 intro pins s σ H x y v u Q I rx ry h;obtain⟨a,b,ns,ms,rfl,rfl,ha,hb,q⟩:=h;cases rx;cases ry;obtain⟨its,r1,p1,_⟩:=I.tuple ha;obtain⟨its2,r2,p2,_⟩:=I.tuple hb;have i1:IntsAre its.toArray.toList ns:=z0U r1;have i2:IntsAre its2.toArray.toList ms:=z0U r2;exact HT.lt_tupInts p1 p2 i1 i2 hu ⟨.bl (HT.lexLt ns ms),H,I,rfl,q⟩
noncomputable def w4T(K:PySem.W.Frag):R2:=fun x y H Q=>∃a b xs ys,x = .ref a/\y = .ref b/\SqT K H a xs/\SqT K H b ys/\xs≠[]/\xs.length+ys.length≤sizeLine /\
 (ys=[]->Q (.ref a) H)/\(ys≠[]->∀p,H p=none->Q (.ref p) (upd H p (.tup (xs++ys))))
theorem Z3.nil_iff{xs:List V}{us:List Value}(r:Z3 xs us):us=[]↔xs=[]:=by
 cases r with
 | nil=>simp
 | cons _ _=>simp
theorem x8M:OpR X (binaryOp .Add) (w4T X.K):=by
 intro pins s σ H x y v u Q I rx ry h;obtain⟨a,b,xs,ys,rfl,rfl,ha,hb,hx,hz,q1,q2⟩:=h;cases rx;cases ry;obtain⟨its,r1,p1,_⟩:=I.tuple ha;obtain⟨its2,r2,p2,_⟩:=I.tuple hb
 refine HT.cat_tup p1 p2 (fun z=>hx (r1.nil_iff.mp z)) (fun z=>⟨.ref a,H,I,rfl,q1 (r2.nil_iff.mp z)⟩) (fun z=>?_) (by rw[←r1.length,←r2.length];exact hz)
 refine⟨.ref s.heap.objs.size,_,I.laid (t':=s.toks) (o:=.tup (xs++ys)) (fun b ob q=>Heap.get?_push_of_some _ q) (Nat.le_refl _) ?_,rfl,q2 (fun w=>z (r2.nil_iff.mpr w)) _ (I.hok.fresh (Nat.le_refl _))⟩
 exact⟨by rw[List.length_append];exact hz,_,r1.append r2,x2R.new _ _⟩
end
noncomputable def ixN(n:Nat)(i:Int):Option Nat:=if 0≤i then (if i<n then some i.toNat else none) else if -(n:Int)≤i then some (i+n).toNat else none
noncomputable def atI{α:Type}(xs:List α)(i:Int):Option α:=(ixN xs.length i).bind fun j=>xs[j]?
theorem x16{n:Nat}{i:Int}{j:Nat}(h:ixN n i=some j):seqIndex? i n=some j/\j<n/\-(n:Int)≤i/\i<n:=by
 unfold ixN at h;by_cases h0:0≤i
 ·rw[if_pos h0]at h;by_cases h1:i<n
  ·rw[if_pos h1]at h;have e:i.toNat=j:=Option.some.inj h
   exact⟨by rw[seqIndex_of h0 h1,e],by omega,by omega,h1⟩
  ·rw[if_neg h1]at h;cases h
 ·rw[if_neg h0]at h;by_cases h1 : -(n:Int)≤i
  ·rw[if_pos h1]at h;have e:(i+n).toNat=j:=Option.some.inj h
   exact⟨by rw[seqIndex_neg (by omega) h1,e],by omega,h1,by omega⟩
  ·rw[if_neg h1]at h;cases h
theorem y5M{α:Type}{xs:List α}{i:Int}{v:α}(h:atI xs i=some v):∃j,seqIndex? i xs.length=some j/\xs[j]?=some v/\j<xs.length/\-(xs.length:Int)≤i/\i<xs.length:=by
 unfold atI at h
 cases e:ixN xs.length i with
 | none=>rw[e]at h;cases h
 | some j =>
  rw[e]at h;obtain⟨h1,h2,h3,h4⟩:=x16 e
  exact⟨j,h1,h,h2,h3,h4⟩
noncomputable def y5O(b:Expr):Prop:=∀o i,subscripted b false o i=operate [o,i] (getItem o i)
noncomputable def IxR(X:Cx)(r:R2):Prop :=
 ∀(value slice:Expr) (pins:List (Addr×Obj)) (s:Shared) (σ:St) (H:Hp) (x y:V) (v u:Value) (Q:VK),Inv X pins σ H s->z1D x v->z1D y u->r x y H Q ->
  subscripted slice false v u=operate [v,u] (getItem v u)->wpAny (model X.prog X.w) X.A (subscriptTail value slice v u) (EP X pins σ Q) X.xe s
noncomputable def MtR(X:Cx)(id:String)(r:V->List V->Hp->VK->Prop):Prop :=
 ∀(pins:List (Addr×Obj)) (s:Shared) (σ:St) (H:Hp) (x:V) (xs:List V) (v:Value) (us:List Value) (Q:VK),Inv X pins σ H s->z1D x v->Z3 xs us->r x xs H Q ->
  wpAny (model X.prog X.w) X.A (call (.builtin id) (v::us)) (EP X pins σ Q) X.xe s
section
variable{X:Cx}{a b:Expr}{ta tb:TE}{pos:Pos}
theorem IxR.or{r r':R2}(h:IxR X r)(h':IxR X r'):IxR X (fun x y H Q=>r x y H Q∨r' x y H Q):=by
 intro value slice pins s σ H x y v u Q I rx ry q hs
 rcases q with q|q
 ·exact h value slice pins s σ H x y v u Q I rx ry q hs
 ·exact h' value slice pins s σ H x y v u Q I rx ry q hs
theorem w4Z{r:R2}(hr:IxR X r)(ha:PE X a ta)(hb:PE X b tb)(hs:y5O b):PE X (.Subscript a b pos) (tOp r ta tb):=by
 intro pins s σ H Q I h
 exact Subscript_ (w5M ha hb I h fun v u s2 x y H2 I2 rx ry q=>hr a b pins s2 σ H2 x y v u Q I2 rx ry q (hs _ _))
noncomputable def w5X(K:PySem.W.Frag):R2:=fun x y H Q=>∃p xs i v,x = .ref p/\y = .int i/\SqL K H p xs/\atI xs i=some v/\Q v H
noncomputable def w5V(K:PySem.W.Frag):R2:=fun x y H Q=>∃p xs i v,x = .ref p/\y = .int i/\SqT K H p xs/\atI xs i=some v/\Q v H
noncomputable def w5W:R2:=fun x y H Q=>∃z i c,x = .str z/\y = .int i/\z.length≤sizeLine/\atI z.cps.toList i=some c/\Q (.str ⟨#[c]⟩) H
theorem x93:IxR X (w5X X.K):=by
 intro value slice pins s σ H x y v u Q I rx ry h hs;obtain⟨p,xs,i,z,rfl,rfl,hq,he,q⟩:=h;cases rx;obtain⟨t,rfl⟩:=ry;obtain⟨its,r,pl,hz⟩:=I.list hq;obtain⟨j,h1,h2,h3,h4,h5⟩:=y5M he;obtain⟨w,ew,rw'⟩:=r.get h2;have hl:=r.length;have hn:=y36;have fin:EP X pins σ Q w s:=⟨z,H,I,rw',q⟩;by_cases h0:0≤i
 ·have hj:i.toNat=j:=by
   rw[seqIndex_of h0 h5]at h1;exact Option.some.inj h1
  exact item_listR pl.isList h0 (by omega) (by rw[hj];simpa using ew) fin hs
 ·have hj:(i+(its.toArray.size:Int)).toNat=j:=by
   rw[seqIndex_neg (by omega) h4]at h1
   rw[List.size_toArray,←hl];exact Option.some.inj h1
  exact subscriptTail_builtinR (x:=w) pl.isList.typeIs slot_list_getitem.lookup
   (wpAny_getItem_list_neg (Q:=fun r s'=>r=w/\EP X pins σ Q r s') pl.isList (by omega) (by rw[List.size_toArray]<;>omega) (by omega) (by rw[hj];simpa using ew) ⟨rfl,fin⟩) hs
theorem w3A:IxR X (w5V X.K):=by
 intro value slice pins s σ H x y v u Q I rx ry h hs;obtain⟨p,xs,i,z,rfl,rfl,hq,he,q⟩:=h;cases rx;obtain⟨t,rfl⟩:=ry;obtain⟨its,r,pl,hz⟩:=I.tuple hq;obtain⟨j,h1,h2,h3,h4,h5⟩:=y5M he;obtain⟨w,ew,rw'⟩:=r.get h2;have hl:=r.length;have hn:=y36;have fin:EP X pins σ Q w s:=⟨z,H,I,rw',q⟩
 exact subscriptTail_builtinR (x:=w) pl.typeIs slot_tuple_getitem.lookup
  (getItem_tuple (j:=j) (Q:=fun r s'=>r=w/\EP X pins σ Q r s') pl (by omega) (by omega) (by rw[List.size_toArray,←hl];exact h1) (by simpa using ew) ⟨rfl,fin⟩) hs
theorem w3B:IxR X w5W:=by
 intro value slice pins s σ H x y v u Q I rx ry h hs;obtain⟨z,i,c,rfl,rfl,hz,he,q⟩:=h;obtain⟨t,rfl⟩:=rx;obtain⟨t',rfl⟩:=ry;obtain⟨j,h1,h2,h3,h4,h5⟩:=y5M he
 have hl:z.cps.toList.length=z.length:=by simp[Str.length]
 rw[hl]at h1 h4 h5;have hn:=y36
 exact tail_any (typeIs_str s z t) slot_str_getitem.lookup (getItem_str (c:=c) (by
  have e1:decide (i < -(2 ^ 63:Int))=false:=decide_eq_false (by omega)
  have e2:decide (i≥2 ^ 63)=false:=decide_eq_false (by omega)
  rw[e1,e2,Bool.or_false]) (by rw[h1];simpa using h2) ⟨.str ⟨#[c]⟩,H,I.tok _,⟨_,rfl⟩,q⟩) hs
noncomputable def rIx(K:PySem.W.Frag):R2:=fun x y H Q=>w5X K x y H Q∨w5V K x y H Q∨w5W x y H Q
theorem w3C:IxR X (rIx X.K):=x93.or (w3A.or w3B)
theorem Inv.lst{pins:List (Addr×Obj)}{σ:St}{H:Hp}{s:Shared}{p:Addr}{xs:List V}(I:Inv X pins σ H s)(h:H p=some (.lst xs)) :
  ∃(its:List Value) (n:Nat),Z3 xs its/\s.heap.get? p=some { cls:=.type "list",data:=.seq its.toArray n }/\xs.length≤sizeLine:=by
 obtain⟨z,its,n,r,e⟩:=I.hok p _ h
 exact⟨its,n,r,e,z⟩
theorem y2Q(lo hi:Option Int)(n:Nat):(sliceBounds lo hi none n).1=((HT.sIx n 0 lo:Nat):Int)/\(sliceBounds lo hi none n).2.1=((HT.sIx n n hi:Nat):Int)/\(sliceBounds lo hi none n).2.2=1:=by
 refine⟨?_,?_,rfl⟩
 ·cases lo with
  | none=>simp[sliceBounds,HT.sIx]
  | some i =>
   simp only[sliceBounds,HT.sIx,Option.getD_none,show (1:Int)>0 by decide,if_true]
   by_cases h:i<0
   ·simp only[h,if_true]<;>omega
   ·simp only[h,if_false]<;>omega
 ·cases hi with
  | none=>simp[sliceBounds,HT.sIx]
  | some i =>
   simp only[sliceBounds,HT.sIx,Option.getD_none,show (1:Int)>0 by decide,if_true]
   by_cases h:i<0
   ·simp only[h,if_true]<;>omega
   ·simp only[h,if_false]<;>omega
theorem y18(its:List Value)(lo hi:Option Int):slicePick its.toArray lo hi none=((its.drop (HT.sIx its.length 0 lo)).take (HT.sIx its.length its.length hi-HT.sIx its.length 0 lo)).toArray:=by
 obtain⟨h1,h2,h3⟩:=y2Q lo hi its.toArray.size;unfold slicePick;rw[h1,h2,h3]
 simp only[sliceRange_one,pick_run,List.size_toArray]<;>rfl
noncomputable def w6H(K:PySem.W.Frag):V->Option Int->Option Int->Hp->VK->Prop:=fun x lo hi H Q=>∃a xs,x = .ref a/\SqL K H a xs/\∀p,H p=none->Q (.ref p) (upd H p (.lst (x30 xs lo hi)))
theorem x7M:SlR X (w6H X.K):=by
 intro pins s σ H x v vl vu lo hi sl Q I rx hs pl pu h;obtain⟨a,xs,rfl,hx,q⟩:=h;cases rx;obtain⟨its,r,ht,hz⟩:=I.list hx;have hlen:=r.length
 refine⟨"list",_,slot_list_getitem.lookup,ht.isList.typeIs,?_⟩
 refine wpAny_getItem_list_slice ht.isList hs pl pu .none (by simp) ?_ (by rw[List.size_toArray]<;>omega)
 rw[y18,←hlen]
 refine⟨.ref s.heap.objs.size,_,I.laid (t':=s.toks) (o:=.lst (x30 xs lo hi)) (fun b ob q=>Heap.get?_push_of_some _ q) (Nat.le_refl _) ?_,rfl,q _ (I.hok.fresh (Nat.le_refl _))⟩
 exact⟨Nat.le_trans (z9B xs lo hi) hz,_,0,(r.drop (HT.sIx xs.length 0 lo)).take (HT.sIx xs.length xs.length hi-HT.sIx xs.length 0 lo),Heap.get?_push_size _ rfl⟩
theorem y3S:z3E X (.builtin "len") (fun xs H Q=>∃p ys,xs=[.ref p]/\(SqL X.K H p ys∨SqT X.K H p ys)/\Q (.int ys.length) H):=by
 intro pins s σ H xs us Q I r h;obtain⟨p,ys,rfl,hq,q⟩:=h;obtain⟨u,rfl,rx⟩:=z5G r;cases rx;have hn:=y36
 rcases hq with hq|hq
 ·obtain⟨its,r',pl,hz⟩:=I.list hq;have hlen:=r'.length
  exact Calls.call_len_list pl.isList (by simp only[List.size_toArray]<;>omega) ⟨.int ys.length,H,I.tok _,⟨s.toks+1,by rw[List.size_toArray,hlen]⟩,q⟩
 ·obtain⟨its,r',pl,hz⟩:=I.tuple hq;have hlen:=r'.length
  exact len_tuple pl (by simp only[List.size_toArray]<;>omega) ⟨.int ys.length,H,I.tok _,⟨s.toks+1,by rw[List.size_toArray,hlen]⟩,q⟩
theorem y3R:z3E X (.type "list") (fun xs H Q=>∃p ys,xs=[.ref p]/\(SqL X.K H p ys∨SqT X.K H p ys)/\∀l,H l=none->Q (.ref l) (upd H l (.lst ys))):=by
 intro pins s σ H xs us Q I r h;obtain⟨p,ys,rfl,hq,q⟩:=h;obtain⟨u,rfl,rx⟩:=z5G r;cases rx
 have fin:∀(its:List Value),Z3 ys its->ys.length≤sizeLine->∀(h':Heap) (c':Nat),(∀b o',s.heap.get? b=some o'->h'.get? b=some o') ->
   h'.get? s.heap.objs.size=some { cls:=.type "list",dict:=none,data:=.seq its.toArray c',slots:=#[] }->EP X pins σ Q (.ref s.heap.objs.size) { s with heap:=h' }:=fun its r' hz h' c' kp e =>
  ⟨.ref s.heap.objs.size,_,I.laid (t':=s.toks) kp (Nat.le_refl _) (show z03 X.prog X.w _ h' _ (.lst ys) from ⟨hz,its,c',r',e⟩),rfl,q _ (I.hok.fresh (Nat.le_refl _))⟩
 rcases hq with hq|hq
 ·obtain⟨its,r',pl,hz⟩:=I.list hq;have hlen:=r'.length;obtain⟨o,ho,hc,n,hd⟩:=pl.isList
  exact call_list_seq p (.inl rfl) ho hc hd (fun h' c' kp e=>fin its r' hz h' c' kp e) (by simp only[List.size_toArray]<;>omega)
 ·obtain⟨its,r',pl,hz⟩:=I.tuple hq;have hlen:=r'.length;obtain⟨o,ho,hc,n,hd⟩:=pl
  exact call_list_seq p (.inr rfl) ho hc hd (fun h' c' kp e=>fin its r' hz h' c' kp e) (by simp only[List.size_toArray]<;>omega)
theorem z6M:z3E X (.type "tuple") (fun xs H Q=>∃p ys,xs=[.ref p]/\((SqL X.K H p ys/\∀l,H l=none->Q (.ref l) (upd H l (.tup ys)))∨(SqT X.K H p ys/\Q (.ref p) H))):=by
 intro pins s σ H xs us Q I r h;obtain⟨p,ys,rfl,h⟩:=h;obtain⟨u,rfl,rx⟩:=z5G r;cases rx
 rcases h with⟨hq,q⟩|⟨hq,q⟩
 ·obtain⟨its,r',pl,hz⟩:=I.list hq;have hlen:=r'.length
  refine call_tuple_list pl.isList (fun h' kp=>?_) (by simp only[List.size_toArray]<;>omega)
  have I1:Inv X pins σ H { s with heap:=h' }:=I.kept (t':=s.toks) kp
  have I2:Inv X pins σ (upd H h'.objs.size (.tup ys)) { s with heap:=h'.push { cls:=.type "tuple",data:=.seq its.toArray } } :=
   I1.laid (t':=s.toks) (fun b o e=>Heap.get?_push_of_some _ e) (Nat.le_refl _) (show z03 X.prog X.w _ _ _ (.tup ys) from ⟨hz,its,r',x2R.new _ _⟩)
  exact⟨.ref h'.objs.size,_,I2,rfl,q _ (I1.hok.fresh (Nat.le_refl _))⟩
 ·obtain⟨its,r',pl,hz⟩:=I.tuple hq;exact call_tuple_same pl ⟨.ref p,H,I,rfl,q⟩
noncomputable def tyV(K:PySem.W.Frag)(T:String)(x:V)(H:Hp):Prop:=match x with
 | .str _=>T = "str"
 | .int _=>T = "int"
 | .ref p=>(T = "list"/\∃xs,SqL K H p xs)∨(T = "tuple"/\∃xs,SqT K H p xs) ∨
   (T = "dict"/\((∃kvs,H p=some (.dK kvs))∨∃kvs,H p=some (.dT kvs)))∨(T = "set"/\∃S n,H p=some (.set S n))
 | _=>False
theorem w06{pins:List (Addr×Obj)}{σ:St}{H:Hp}{s:Shared}{T:String}{x:V}{v:Value}(I:Inv X pins σ H s)(r:z1D x v)(ty:tyV X.K T x H) :
  s.TypeIs v T/\∀a,v = .ref a->∃ob,s.heap.get? a=some ob/\ob.dict=none:=by
 cases x with
 | str z =>
  obtain⟨t,rfl⟩:=r
  cases (show T = "str" from ty)
  exact⟨typeIs_str s z t,fun _ e=>nomatch e⟩
 | int i =>
  obtain⟨t,rfl⟩:=r
  cases (show T = "int" from ty)
  exact⟨typeIs_int s i t,fun _ e=>nomatch e⟩
 | ref p =>
  cases r
  rcases ty with⟨rfl,xs,hq⟩|⟨rfl,xs,hq⟩|⟨rfl,hk⟩|⟨rfl,S,n,hk⟩
  ·obtain⟨its,_,pl,_⟩:=I.list hq
   refine⟨pl.isList.typeIs,fun a e=>?_⟩
   cases e;obtain⟨o,n,e,c,hd,_⟩:=pl
   exact⟨o,e,hd⟩
  ·obtain⟨o,e0,hc,hd⟩:=I.tupleP hq
   refine⟨⟨o,e0,hc⟩,fun a e=>?_⟩
   cases e
   exact⟨o,e0,hd⟩
  ·have z:∃o,s.heap.get? p=some o/\o.ExactDict:=by
    rcases hk with⟨kvs,hk⟩|⟨kvs,hk⟩
    ·obtain⟨_,_,_,_,o,_,_,e,ex,_⟩:=I.hok p _ hk
     exact⟨o,e,ex⟩
    ·obtain⟨_,_,_,_,o,_,_,e,ex,_⟩:=I.hok p _ hk
     exact⟨o,e,ex⟩
   obtain⟨o,e,ex⟩:=z
   refine⟨⟨o,e,ex.1⟩,fun a e2=>?_⟩
   cases e2
   exact⟨o,e,ex.2.1⟩
  ·obtain⟨o,_,_,_,e,ex,_⟩:=I.hok p _ hk
   refine⟨⟨o,e,ex.1⟩,fun a e2=>?_⟩
   cases e2
   exact⟨o,e,ex.2.1⟩
 | _=>exact False.elim ty
noncomputable def tBM(K:PySem.W.Frag)(T:String)(r:V->List V->Hp->VK->Prop)(to:TE)(t:TA):TE:=fun σ H Q=>to σ H fun x H1=>tyV K T x H1/\t σ H1 fun xs H2=>r x xs H2 Q
variable{o e:Expr}{es:List Expr}{to:TE}{t:TA}{name:Str}{apos cpos:Pos}{T id:String}{r:V->List V->Hp->VK->Prop}
theorem x4B(pa:PlainAttrs T)(slot:Slot T name id)(hty:typeOf (.builtin id)=pure (.type "method_descriptor"))(hm:MtR X id r)(ho:PE X o to)(ha:PA X (e::es) t)(hbase:attributeBase o name X.env (eval o X.env)=eval o X.env:=by rfl)
  (hfew:((backTo cpos (starEach (e::es) X.env)).all (fun x=>!x.1)&&(backToKw cpos (keywordEach [] X.env)).all (fun x=>x.1.isSome)
   && decide ((e::es).length+([]:List Keyword).length+(if ([]:List Keyword).isEmpty then 0 else 1)<30))=true:=by rfl)
  (hline:(apos.endLine==cpos.line)=true:=by rfl) (hs:starEach (e::es) X.env=(false,eval e X.env)::starEach es X.env:=by rfl) (hplain:(backTo cpos (starEach es X.env)).any (·.1)=false:=by rfl) :
  PE X (.Call (.Attribute o name apos) (e::es) [] cpos) (tBM X.K T r to t):=by
 intro pins s σ H Q I h
 refine wpAny_Call_method_late hbase hfew hline rfl (thn (ho pins s σ H _ I h) fun v s1 ⟨x,H1,I1,r1,ty,q1⟩=>?_)
 obtain⟨h1,h2⟩:=w06 I1 r1 ty
 refine⟨T,id,pa,slot,hty,h1,h2,?_⟩
 have hA:=ha cpos pins s1 σ H1 _ I1 q1;rw[hs]at hA ⊢
 refine Calls.callWith_builtin (by show (false||(backTo cpos (starEach es X.env)).any (·.1))=false;rw[hplain]<;>rfl) (Calls.evalArgs_plain ?_)
 exact thn hA fun us s2 ⟨vs,H2,I2,r2,q2⟩=>hm pins s2 σ H2 x vs v us Q I2 r1 r2 q2
end
noncomputable def MtM(X:Cx)(id:String)(r:V->List V->Hp->VK->Prop):Prop :=
 ∀(pins:List (Addr×Obj)) (s:Shared) (σ:St) (H:Hp) (x:V) (xs:List V) (v:Value) (us:List Value) (Q:VK),Inv X pins σ H s->z1D x v->Z3 xs us->r x xs H Q ->
  wpAny (model X.prog X.w) X.A (call (.builtin id) (v::us)) (EP X pins σ Q) X.xe s
theorem Z3.one:∀{x:V} {us:List Value},Z3 [x] us->∃u,us=[u]/\z1D x u
 | _,_,.cons r .nil=>⟨_,rfl,r⟩
theorem Z3.zero:∀{us:List Value},Z3 [] us->us=[]
 | _,.nil=>rfl
theorem Z3.eraseIdx:∀{xs:List V} {us:List Value} (i:Nat),Z3 xs us->Z3 (xs.eraseIdx i) (us.eraseIdx i)
 | _,_,_,.nil=>.nil
 | _,_,0,.cons _ t=>t
 | _,_,i+1,.cons r t=>.cons r (Z3.eraseIdx i t)
theorem Z3.rep{xs:List V}{us:List Value}(h:Z3 xs us):∀k:Nat,Z3 (List.replicate k xs).flatten (List.replicate k us).flatten
 | 0=>.nil
 | k+1=>by
  rw[List.replicate_succ,List.replicate_succ,List.flatten_cons,List.flatten_cons];exact Z3.append h (Z3.rep h k)
theorem y39{α:Type}:∀(l:List α) (i:Nat),(l.eraseIdx i).length≤l.length
 | [],_=>Nat.le_refl _
 | _::_,0=>Nat.le_succ _
 | _::r,i+1=>Nat.succ_le_succ (y39 r i)
theorem y3H(its:List Value):∀(k:Nat) (acc:List Value),
  List.foldl (fun x1 x2=>x1++x2) acc.toArray (List.replicate k its.toArray)=(acc++(List.replicate k its).flatten).toArray
 | 0,acc=>by simp
 | k+1,acc=>by
  have e:acc.toArray++its.toArray=(acc++its).toArray:=by simp
  have e2:(acc++its)++(List.replicate k its).flatten=acc++(List.replicate (k+1) its).flatten:=by
   rw[List.replicate_succ,List.flatten_cons,List.append_assoc]
  rw[←e2,←y3H its k (acc++its),←e,List.replicate_succ,List.foldl_cons]
section
variable{X:Cx}{pins:List (Addr×Obj)}{σ:St}{H:Hp}{s:Shared}{l b:Addr}{xs ys zs:List V}
theorem Inv.lset{its its':List Value}{n:Nat}{f:Array Value->Array Value}{t':Nat}(I:Inv X pins σ H s)(hH:H l=some (.lst xs))(e:s.heap.get? l=some { cls:=.type "list",data:=.seq its.toArray n })(hf:f its.toArray=its'.toArray)(hv:Z3 ys its')(hz:ys.length≤sizeLine) :
  Inv X pins σ (upd H l (.lst ys)) { s with heap:=s.heap.update l (Obj.mapSeq f),toks:=t' }:=by
 have q:=PySem.IsL.update e f;rw[hf]at q
 refine I.write (x:=l) (e:=l) (by rw[hH];exact trivial) (.inl rfl) (fun b' u hb hu=>(Heap.get?_update_other s.heap (Obj.mapSeq f) (Ne.symm hb)).trans hu) ⟨_,q⟩ ?_
 exact⟨hz,its',_,hv,q⟩
theorem Inv.lnew{its:List Value}{t':Nat}(I:Inv X pins σ H s)(hv:Z3 ys its)(hz:ys.length≤sizeLine) :
  Inv X pins σ (upd H s.heap.objs.size (.lst ys)) { s with heap:=s.heap.push { cls:=.type "list",data:=.seq its.toArray },toks:=t' } :=
 I.laid (fun _ _ q=>Heap.get?_push_of_some _ q) (Nat.le_refl _) ⟨hz,its,0,hv,Heap.get?_push_size _ rfl⟩
theorem Inv.fresh(I:Inv X pins σ H s):H s.heap.objs.size=none:=I.hok.fresh (Nat.le_refl _)
theorem Inv.lstM(I:Inv X pins σ H s)(hH:H l=some (.lst xs)):xs.length≤sizeLine/\∃(its:List Value) (n:Nat),Z3 xs its/\xs.length=its.length/\s.heap.get? l=some { cls:=.type "list",data:=.seq its.toArray n }:=by
 obtain⟨z,its,n,r,e⟩:=I.hok l _ hH
 exact⟨z,its,n,r,r.length,e⟩
theorem x4G{n:Nat}(h:n≤sizeLine):Builtin.List.listTooLong n=false:=by
 unfold Builtin.List.listTooLong
 exact decide_eq_false (by omega)
end
section
variable{X:Cx}
noncomputable def x86:V->List V->Hp->VK->Prop:=fun x vs H Q=>∃l xs y,x = .ref l/\vs=[y]/\H l=some (.lst xs)/\xs.length<sizeLine/\Q .non (upd H l (.lst (xs++[y])))
theorem z8T:MtM X "list.append" x86:=by
 intro pins s σ H x vs v us Q I rx rv h;obtain⟨l,xs,y,rfl,rfl,hH,hz,q⟩:=h;cases rx;obtain⟨u,rfl,ru⟩:=rv.one;obtain⟨z,its,n,r,hl,e⟩:=I.lstM hH
 refine call_meets F.slot_list_append ⟨_,e,rfl⟩ F.entry_list_append (F.args_list_append_2 _ _) (PySem.list_append l its.toArray n u (by rw[List.size_toArray];omega)) ⟨e,?_⟩
 refine⟨.non,_,I.lset (its':=its++[u]) hH e (by simp) (r.append (.cons ru .nil)) ?_,rfl,q⟩
 rw[List.length_append,List.length_singleton];omega
noncomputable def x85:V->List V->Hp->VK->Prop:=fun x vs H Q=>∃l b xs zs,x = .ref l/\vs=[.ref b]/\H l=some (.lst xs)/\H b=some (.lst zs)/\xs.length+zs.length≤sizeLine/\Q .non (upd H l (.lst (xs++zs)))
theorem x0O:MtM X "list.extend" x85:=by
 intro pins s σ H x vs v us Q I rx rv h;obtain⟨l,b,xs,zs,rfl,rfl,hH,hB,hz,q⟩:=h;cases rx;obtain⟨u,rfl,ru⟩:=rv.one;cases ru;obtain⟨z,its,n,r,hl,e⟩:=I.lstM hH;obtain⟨z2,its2,n2,r2,hl2,e2⟩:=I.lstM hB
 have hsz:its.toArray.size+its2.toArray.size≤sizeLine:=by rw[List.size_toArray,List.size_toArray];omega
 have hlong:¬(!its.toArray.isEmpty&&Builtin.List.listTooLong (its.toArray.size+its2.toArray.size))=true:=by
  rw[x4G hsz,Bool.and_false];exact Bool.false_ne_true
 refine call_meets F.slot_list_extend ⟨_,e,rfl⟩ F.entry_list_extend (F.args_list_extend_2 _ _)
  (AutoSeq1.list_extend_list_list_0 l its.toArray n b its2.toArray n2 hlong (by rw[List.size_toArray];omega) (by omega)) ⟨e,e2,?_⟩
 refine⟨.non,_,I.lset (its':=its++its2) hH e (by simp) (r.append r2) ?_,rfl,q⟩
 rw[List.length_append];omega
noncomputable def x63:V->List V->Hp->VK->Prop:=fun x vs H Q=>∃l xs i k y,x = .ref l/\vs=[.int i]/\H l=some (.lst xs)/\-(2 ^ 63)≤i/\i<2 ^ 63/\seqIndex? i xs.length=some k/\xs[k]?=some y/\Q y (upd H l (.lst (xs.eraseIdx k)))
theorem x4H:MtM X "list.pop" x63:=by
 intro pins s σ H x vs v us Q I rx rv h;obtain⟨l,xs,i,k,y,rfl,rfl,hH,h1,h2,hk,hy,q⟩:=h;cases rx;obtain⟨u,rfl,ru⟩:=rv.one;obtain⟨t,rfl⟩:=ru;obtain⟨z,its,n,r,hl,e⟩:=I.lstM hH;obtain⟨w,hw,rw'⟩:=r.get hy
 refine call_meets F.slot_list_pop ⟨_,e,rfl⟩ F.entry_list_pop (F.args_list_pop_2 _ _)
  (MeetsSeq.list_pop_at l its.toArray n i t k w (fitsIndex_both h1 h2) (by rw[List.size_toArray,←hl];exact hk) (by rw[←Array.getElem?_toList];exact hw) (by rw[List.size_toArray];omega)) ⟨e,?_⟩
 refine⟨y,_,I.lset (its':=its.eraseIdx k) hH e ?_ (r.eraseIdx k) ?_,rw',q⟩
 ·show its.toArray.eraseIdxIfInBounds k=(its.eraseIdx k).toArray
  rw[List.eraseIdxIfInBounds_toArray]
 ·have:=y39 xs k
  omega
theorem x8X{α:Type}(xs:List α)(k:Nat):(List.replicate k xs).flatten.length=k*xs.length:=by
 induction k with
 | zero=>simp
 | succ k ih=>rw[List.replicate_succ,List.flatten_cons,List.length_append,ih,Nat.succ_mul,Nat.add_comm]
end
end L2
namespace Att
open PySem PySem.W PySem.Calls PyProof.Rows
theorem z92{P:Params}{h:Heap}:∀(ns:List Int) (vs:List Value),WellAll P h vs (ns.map WData.int)->IntsAre vs ns:=by
 intro ns
 induction ns with
 | nil =>
  intro vs w;rw[List.map_nil]at w;cases w;exact .nil
 | cons n ns ih =>
  intro vs w;rw[List.map_cons]at w
  cases w with
  | cons a b =>
   cases a;exact .cons _ _ (ih _ b)
theorem y9V{l:OpenLaw}{n:Nat}(hn:l.most=some n){P:Params}{h:Heap}{args:List WData}{vals:List Value}(hpre:l.row.toRowW.claim.pre args=true)(hwl:WellAll P h vals args) :
  ∃a vs ns,vals=[Value.ref a]/\args=[WData.list (ns.map WData.int)]/\h.get? a=some { cls:=.type "list",data:=.seq vs.toArray }/\IntsAre vs ns/\ns.length≤n:=by
 have hsh:WShape.hasAll [] args [.list .int]=true:=(pre_splitW hpre).1;have hc:l.pre.holds [] { args:=args }=true:=(pre_splitW hpre).2;obtain⟨d,r,rfl,h1,h2⟩:=hasAllW_cons hsh
 obtain rfl:=hasAllW_nil h2
 obtain⟨xs,rfl,h3⟩:=hasW_list h1;obtain⟨ns,rfl⟩:=items_int h3
 have hlen:ns.length≤n:=by
  unfold OpenLaw.pre at hc
  have h4:(WTm.not (.lt (.lit (.int (n:Int))) (.len (.arg 0)))).holds [] { args:=[.list (ns.map .int)] }=true:=by
   have h4:=(holds_andW hc).1;rw[hn]at h4;exact h4
  have h5:=condW_of h4 (w_not (w_lt w_lit (w_len_list (w_arg rfl))));rw[List.length_map]at h5
  refine Nat.le_of_not_lt fun q=>?_
  have q':(n:Int)<((ns.length:Nat):Int):=by omega
  first
   | (rw[decide_eq_true q']at h5;exact absurd h5 (by decide))
   | (simp at h5;omega)
 cases hwl with
 | cons w1 w2 =>
  cases w2
  cases w1 with
  | list ho hall=>exact⟨_,_,ns,rfl,rfl,ho,z92 ns _ hall,hlen⟩
theorem x08(l:OpenLaw)(args:List WData):l.row.toRowW.claim.post args (.bool true) args=true :=
 postW_of (r:=l.row.toRowW) (X:=(true==true))
  (show WShape.has [] (.bool true) .bool=true by first|rfl|decide|simp[WShape.has,WShape.arms,WShape.armsAll])
  (show (WTm.eq .res (.lit (.bool true))).value [] { args:=args,res:=some (.bool true),after:=args }=some (.bool (true==true)) from w_eq_bool (w_res rfl) w_lit) rfl
theorem attach_call{l:OpenLaw}{n:Nat}{q:Program}{loose:List Str}{XP:(Str->Option Value)->Heap->Prop}{YP:World->Heap->Prop}{d:DefRec}(hn:l.most=some n)(hdf:d.params.defaults=[])
  (call:∀(w:World) (s₀ s₁:Shared) (mg mb:Str->Option Value) (fa:Addr) (o:Obj) (pm cd doc:Value) (a:Addr) (vs:List Value) (ns:List Int),
   Ground q loose [] XP w s₀ mg mb s₁.heap->YP w s₁.heap ->
   s₁.heap.get? fa=some o->o.data = .func (docDef d.name d.params d.body d.scope pm cd doc)->s₁.heap.CodeRec cd d.name->mg d.name=some (.ref fa) ->
   s₁.heap.get? a=some { cls:=.type "list",data:=.seq vs.toArray }->IntsAre vs ns->ns.length≤n->s₁.gens = #[] ->
   codeAny (model l.prog w) callerA (.call (.ref fa) ⟨[.ref a],[]⟩) (fun r s'=>r = .ok (.ret (.bool true))/\OldK s₁.heap s'.heap/\s'.os=s₁.os/\AllBare s'.gens) s₁) :
  WalkO q loose XP YP l.row.toRowW d [] (fun f vs=>PySem.call f vs):=by
 intro w s₀ s₁ mg mb G Y fa o pm cd doc dV kV ho hd hcd hD hmg hg args vals as hpre hlay hrd hwl hlo
 obtain rfl:dV = .none:=Dflts.none hD hdf
 obtain rfl:kV = .none:=Dflts.noKw hD
 obtain⟨a,vs,ns,rfl,rfl,hobj,hints,hlen⟩:=y9V hn hpre hwl
 refine enter_call (codeAny_mono (call w s₀ s₁ mg mb fa o pm cd doc a vs ns G Y ho (fd_plain hd) hcd hmg hobj hints hlen hg) fun r s' hq=>?_)
 obtain⟨rfl,h2,h3,h4⟩:=hq
 exact⟨.inl ⟨.bool true,.bool true,[],rfl,fun _=>rfl,.bool true,x08 l _,fun _=>⟨List.Pairwise.nil,fun _ hm=>(nomatch hm)⟩⟩,h2,h3,h4⟩
end Att
namespace L2
open PySem PySem.Spec PyProof.Rows
theorem y2E:∀{vs:List Value} {ns:List Int},IntsAre vs ns->Z3 (ns.map V.int) vs
 | _,_,.nil=>.nil
 | _,_,.cons n t h=>.cons ⟨t,rfl⟩ (y2E h)
noncomputable def g9(s:Stmt):Arguments:=match s with
 | .FunctionDef _ a _ _ _ _ _ _ _ _=>a
 | _=>{ posonlyargs:=[],args:=[],vararg:=none,kwonlyargs:=[],kw_defaults:=[],kwarg:=none,defaults:=[] }
noncomputable def x6(s:Stmt):List Stmt:=match s with
 | .FunctionDef _ _ b _ _ _ _ _ _ _=>b
 | _=>[]
noncomputable def z9(s:Stmt):Scope:=match s with
 | .FunctionDef _ _ _ _ _ _ sc _ _ _=>sc
 | _=>{ kind:=.function,names:=[],isGenerator:=false,isCoroutine:=false }
noncomputable abbrev CX0:CXT:=fun _ _ _ _ _ _=>False
noncomputable abbrev E0:XK:=fun _ _ _=>False
theorem w51{X:Cx}:x2Q CX0 X E0:=fun _ _ _ _ _ _ _ h=>h.elim
structure Fun(K:PySem.W.Frag)(x qual:Str)(st:Stmt)(f:Addr)(fd:FuncData):Prop where
 ex:∃(oc:Value) (od:Option Addr) (kV doc pm:Value) (an:Option Addr) (cdv ct:Value) (osl:Array (Option Value)),
  fd=PySem.W.fnOf x qual (g9 st) (x6 st) (z9 st) .none kV doc pm an cdv ct/\K.lookup f=some ⟨oc,od,.func fd,osl⟩/\PySem.W.codeIn K cdv qual=true
 kp:PySem.W.keepIn K (.ref f)=true
section
variable{P:Program}{w:World}{K:PySem.W.Frag}{mg:Str->Option Value}{base:Heap}
theorem Fun.ok{x qual:Str}{st:Stmt}{f:Addr}{fd:FuncData}{N ps:List Str}{k:Nat}{sp:Sp}(F:Fun K x qual st f fd)(S:FnScope N ps (z9 st))(len:∀vs H Q E,sp vs H Q E->vs.length=ps.length)
  (hbody:∀(cdv:Value) (A:Around) (outer:List Env) (s:Shared) (H:Hp) (vs:List V) (Q:VK) (E:XK),Room k (A.deeper (envOfC qual (z9 st) s.heap.objs.size f cdv))->sp vs H Q E ->
   ∃t,PSs (z42 CX0 P w K mg base N qual (z9 st) f cdv A outer s H E).nox (x6 st) t/\t { nx:=fun _ H'=>Q .non H',rt:=Q } (start N vs) H):FnOk P w K mg base CX0 (k+1) f fd ps sp:=by
 obtain⟨oc,od,kV,doc,pm,an,cdv,ct,osl,rfl,lk,hcd⟩:=F.ex
 refine x9D lk hcd S len fun A outer s H vs Q E hr hsp=>?_
 obtain⟨t,h,q⟩:=hbody cdv A outer s H vs Q E hr hsp
 exact⟨t,h.nox,q⟩
theorem Fun.binds{x qual:Str}{st:Stmt}{f:Addr}{fd:FuncData}{ps:List Str}(F:Fun K x qual st f fd)(h:∀(kV doc pm:Value) (an:Option Addr) (cdv ct:Value) (us:List Value),us.length=ps.length->bindArgs (PySem.W.fnOf x qual (g9 st) (x6 st) (z9 st) .none kV doc pm an cdv ct) ⟨us,[]⟩=pure (ps.zip us)):y48 K fd ps []:=by
 obtain⟨oc,od,kV,doc,pm,an,cdv,ct,osl,rfl,lk,hcd⟩:=F.ex;exact .all (h kV doc pm an cdv ct)
theorem z07{x qual:Str}{st:Stmt}{f:Addr}{oc:Value}{od an:Option Addr}{osl:Array (Option Value)}{kV doc pm cdv ct:Value}(l:K.lookup f=some ⟨oc,od,.func (PySem.W.fnOf x qual (g9 st) (x6 st) (z9 st) .none kV doc pm an cdv ct),osl⟩)(c:PySem.W.codeIn K cdv qual=true)(k:PySem.W.keepIn K (.ref f)=true):Fun K x qual st f (PySem.W.fnOf x qual (g9 st) (x6 st) (z9 st) .none kV doc pm an cdv ct):=⟨⟨oc,od,kV,doc,pm,an,cdv,ct,osl,rfl,l,c⟩,k⟩
end
theorem x94{A B:Prop}(h:B):if false=true then A else B:=by
 rw[if_neg Bool.false_ne_true];exact h
theorem x17{A B:Prop}(h:A):if true=true then A else B:=by
 rw[if_pos rfl];exact h
noncomputable def K6(H H':Hp):Prop:=∀b o,H b=some o->H' b=some o
theorem K6.refl(H:Hp):K6 H H:=fun _ _ h=>h
theorem K6.trans{H H1 H2:Hp}(a:K6 H H1)(b:K6 H1 H2):K6 H H2:=fun c o h=>b c o (a c o h)
theorem K6.free{H H':Hp}(e:K6 H H'){l:Addr}(h:H' l=Option.none):H l=Option.none:=by
 cases q:H l with
 | none=>rfl
 | some o =>
  rw[e l o q]at h;cases h
theorem K6.seq{K:PySem.W.Frag}{H H':Hp}{a:Addr}{xs:List V}(e:K6 H H')(h:SqL K H a xs):SqL K H' a xs:=by
 rcases h with (h|⟨o,h⟩)|h
 ·exact .inl (.inl (e _ _ h))
 ·exact .inl (.inr ⟨o,e _ _ h⟩)
 ·exact .inr h
end L2
namespace L3
open PySem PySem.Spec PyProof.Rows L2
noncomputable abbrev St:=L2.St
section
variable{env:Env}
theorem x26:∀(names:List (Str×NameKind)) (cs:List (Str×Addr)),(∀x∈names,x.2 = .free->∃c,env.cells.lookup x.1=some c) ->
  ∃cl:List (Str×Addr),(forIn names cs (fun (x:Str×NameKind) (r:List (Str×Addr))=>(if (x.2==NameKind.free)=true then do
    let a ←cellOf env x.1
    pure (ForInStep.yield ((x.1,a)::r))
   else pure (ForInStep.yield r):Sem (ForInStep (List (Str×Addr))))):Sem (List (Str×Addr)))=pure cl /\
   (∀x c,cl.lookup x=some c->cs.lookup x=some c∨(env.cells.lookup x=some c/\(x,NameKind.free)∈names)) /\
   (∀x,((x,NameKind.free)∈names∨∃c,cs.lookup x=some c)->∃c,cl.lookup x=some c)
 | [],cs,_=>⟨cs,rfl,fun x c h=>.inl h,fun x h=>by
   rcases h with h|h
   ·simp at h
   ·exact h⟩
 | (n,k)::r,cs,hf=>by
  by_cases hk:k = .free
  ·subst hk;obtain⟨c,hc⟩:=hf (n,.free) List.mem_cons_self rfl
   obtain⟨cl,e,h1,h2⟩:=x26 r ((n,c)::cs) (fun x hx=>hf x (List.mem_cons_of_mem _ hx))
   refine⟨cl,?_,fun x d hd=>?_,fun x hx=>?_⟩
   ·rw[List.forIn_cons]
    have e1:cellOf env n=pure c:=by
     unfold cellOf;rw[hc]
    simp only[beq_self_eq_true,if_true,e1];exact e
   ·rcases h1 x d hd with q|⟨q1,q2⟩
    ·rw[List.lookup_cons]at q
     cases hx:x==n with
     | true =>
      rw[hx]at q
      have ex:x=n:=by simpa using hx
      subst ex;cases q;exact .inr ⟨hc,List.mem_cons_self⟩
     | false=>rw[hx]at q;exact .inl q
    ·exact .inr ⟨q1,List.mem_cons_of_mem _ q2⟩
   ·refine h2 x ?_
    rcases hx with hx|⟨d,hd⟩
    ·rcases List.mem_cons.mp hx with z|z
     ·cases z
      exact .inr ⟨c,by simp[List.lookup_cons]⟩
     ·exact .inl z
    ·refine .inr ?_;rw[List.lookup_cons]
     cases hx:x==n with
     | true=>exact⟨c,rfl⟩
     | false=>exact⟨d,hd⟩
  ·obtain⟨cl,e,h1,h2⟩:=x26 r cs (fun x hx=>hf x (List.mem_cons_of_mem _ hx))
   refine⟨cl,?_,fun x d hd=>?_,fun x hx=>?_⟩
   ·rw[List.forIn_cons]
    have hb:(k==NameKind.free)=false:=by simpa using hk
    simp only[hb,Bool.false_eq_true,if_false];exact e
   ·rcases h1 x d hd with q|⟨q1,q2⟩
    ·exact .inl q
    ·exact .inr ⟨q1,List.mem_cons_of_mem _ q2⟩
   ·refine h2 x ?_
    rcases hx with hx|hx
    ·rcases List.mem_cons.mp hx with z|z
     ·cases z;exact absurd rfl hk
     ·exact .inl z
    ·exact .inr hx
theorem x25{scope:Scope}(hf:∀x∈scope.names,x.2 = .free->∃c,env.cells.lookup x.1=some c) :
  ∃cl,closureFor scope env=pure cl/\(∀x c,cl.lookup x=some c->env.cells.lookup x=some c/\(x,NameKind.free)∈scope.names)/\(∀x,(x,NameKind.free)∈scope.names->∃c,cl.lookup x=some c):=by
 obtain⟨cl,e,h1,h2⟩:=x26 (env:=env) scope.names [] hf
 refine⟨cl,?_,fun x c h=>?_,fun x h=>h2 x (.inl h)⟩
 ·unfold closureFor;have e':=e
  first
   | exact (congrArg (fun m=>m >>= fun cs=>pure cs) e')
   | (simp only[bind_pure];exact e')
   | (show (forIn scope.names [] _ >>= fun cs=>pure cs)=pure cl;rw[e'];rfl)
 ·rcases h1 x c h with q|q
  ·simp at q
  ·exact q
end
section
variable{prog:Program}{w:World}{A:Around}{R:Result->Shared->Prop}{s:Shared}
theorem z7T{elt target iter:Expr}{ifs:List Expr}{scope:Scope}{pos:Pos}{it acc:Value}{env:Env}(I:Nat->Shared->Prop)
  (turn:∀n s,I n s->wpAny (model prog w) A (pyNext it) (fun r s1=>match r with
   | none=>R (.ok .next) s1
   | some v=>wpAny (model prog w) A (letOwnedTupleGo target it v) (fun _ s1'=>wpAny (model prog w) A (assign target env v) (fun _ s2 =>
     wpAny (model prog w) A (forIn ifs true fun c r=>if r=true then do let ok ←isTrue c env (eval c env);pure (ForInStep.yield ok) else pure (ForInStep.yield r)) (fun ok s3 =>
      if ok=true then wpAny (model prog w) A (eval elt env) (fun x s4 =>
       wpAny (model prog w) A (call (.builtin "list.append") [acc,x]) (fun _ s5=>∃m,m<n/\I m s5) (fun _ _=>False) s4) (fun _ _=>False) s3
      else ∃m,m<n/\I m s3) (fun _ _=>False) s2) (fun _ _=>False) s1') (fun _ _=>False) s1) (fun _ _=>False) s)
  (n:Nat) (h:I n s) :
  codeAny (model prog w) A (.compLoop (.ListComp elt [⟨target,iter,ifs,0⟩] scope pos) 0 it acc env) R s:=by
 refine codeAny_loop rfl I (fun n s hI=>?_) n h
 show wpAny _ A ((compTurn (.ListComp elt [⟨target,iter,ifs,0⟩] scope pos) 0 it acc env).onRaise (fun x=>do noteFrame x env;theTreesLotGoes x)) _ _ s
 refine wpAny_noted ?_;rw[compTurn_list]
 refine wpAny_bind (wpAny_standAt (wpAny_bind (wpAny_mono (turn n s hI) (fun r s1 h1=>?_) fun _ _ h'=>h'.elim)))
 cases r with
 | none=>exact wpAny_pure h1
 | some v =>
  refine wpAny_bind (wpAny_mono h1 (fun _ s1' h1'=>?_) fun _ _ h'=>h'.elim)
  refine wpAny_bind (wpAny_mono h1' (fun _ s2 h2=>wpAny_bind (wpAny_mono h2 (fun ok s3 h3=>?_) fun _ _ h'=>h'.elim)) fun _ _ h'=>h'.elim)
  cases ok with
  | false=>exact wpAny_pure ⟨rfl,h3⟩
  | true =>
   exact wpAny_bind (wpAny_bind (wpAny_mono h3 (fun x s4 h4=>wpAny_bind (wpAny_mono h4 (fun _ s5 h5=>wpAny_pure (wpAny_pure ⟨rfl,h5⟩)) fun _ _ h'=>h'.elim)) fun _ _ h'=>h'.elim))
end
noncomputable abbrev J4(X:Cx)(N:List Str)(scope:Scope)(cl:List (Str×Addr))(C:Addr)(fp:List Addr)(s:Shared)(H:Hp):Cx where
 prog:=X.prog
 w:=X.w
 K:=X.K
 mg:=X.mg
 base:=X.base
 A:=X.A
 N:=N
 s₀:=s
 H₀:=H
 env:=compEnvC scope cl C X.env
 outer:=X.stack
 stack:=X.stack
 ex:=fp
 fn:=fun x=>match scope.names.lookup x with|some .local=>true|some .cell=>true|_=>false
 calm:=X.calm
 pn:=[]
 xe:=fun _ _=>False
structure CellsC(X:Cx)(scope:Scope)(s:Shared)(h1:Heap)(cs:List (Str×Addr)):Prop where
 old:∀x c,cs.lookup x=some c->(X.env.cells.lookup x=some c/\(x,NameKind.free)∈scope.names)∨(s.heap.objs.size<c/\h1.IsCell c none/\(x,NameKind.cell)∈scope.names)
 has:∀x,((x,NameKind.free)∈scope.names∨(x,NameKind.cell)∈scope.names)->∃c,cs.lookup x=some c
 inj:∀x y c,cs.lookup x=some c->cs.lookup y=some c->s.heap.objs.size<c->x=y
theorem z46:∀(names:List (Str×NameKind)) (n:Nat) (acc:List (Str×Addr)) (x:Str),((x,NameKind.cell)∈names∨∃c,acc.lookup x=some c)->∃c,(cellsFrom n names acc).lookup x=some c
 | [],_,_,_,h=>by
  rcases h with h|h
  ·simp at h
  ·exact h
 | (m,k)::r,n,acc,x,h=>by
  unfold cellsFrom;by_cases hk:(k==NameKind.cell)=true
  ·rw[if_pos hk];refine z46 r _ _ x ?_
   rcases h with h|⟨c,h⟩
   ·rcases List.mem_cons.mp h with z|z
    ·cases z
     exact .inr ⟨n,by simp[List.lookup_cons]⟩
    ·exact .inl z
   ·refine .inr ?_;rw[List.lookup_cons]
    cases hx:x==m with
    | true=>exact⟨n,rfl⟩
    | false=>exact⟨c,h⟩
  ·rw[if_neg hk];refine z46 r _ _ x ?_
   rcases h with h|h
   ·rcases List.mem_cons.mp h with z|z
    ·cases z;exact absurd rfl hk
    ·exact .inl z
   ·exact .inr h
theorem z44:∀(names:List (Str×NameKind)) (h:Heap) (acc:List (Str×Addr)) (x:Str) (c:Addr),(cellsFrom h.objs.size names acc).lookup x=some c ->
  acc.lookup x=some c∨(h.objs.size≤c/\(pushCells h names).IsCell c none/\(x,NameKind.cell)∈names)
 | [],_,_,_,_,e=>.inl e
 | (m,k)::r,h,acc,x,c,e=>by
  unfold cellsFrom at e;unfold pushCells;by_cases hk:(k==NameKind.cell)=true
  ·rw[if_pos hk]at e ⊢
   have hk':k=NameKind.cell:=by simpa using hk
   have ih:=z44 r (h.push { cls:=.type "cell",data:=.cell none }) ((m,h.objs.size)::acc) x c (by rw[Heap.size_push];exact e)
   rcases ih with z|⟨z1,z2,z3⟩
   ·rw[List.lookup_cons]at z
    cases hx:x==m with
    | true =>
     rw[hx]at z;cases z
     have:x=m:=by simpa using hx
     subst this
     subst hk'
     exact .inr ⟨Nat.le_refl _,⟨_,pushCells_keeps _ _ _ _ (Heap.get?_push_size _ rfl),rfl⟩,List.mem_cons_self⟩
    | false =>
     rw[hx]at z;exact .inl z
   ·rw[Heap.size_push]at z1
    exact .inr ⟨by omega,z2,List.mem_cons_of_mem _ z3⟩
  ·rw[if_neg hk]at e ⊢
   rcases z44 r h acc x c e with z|⟨z1,z2,z3⟩
   ·exact .inl z
   ·exact .inr ⟨z1,z2,List.mem_cons_of_mem _ z3⟩
theorem z45:∀(names:List (Str×NameKind)) (n:Nat) (acc:List (Str×Addr)),(∀x c,acc.lookup x=some c->c<n)->∀lo,(∀x y c,acc.lookup x=some c->acc.lookup y=some c->lo<c->x=y) ->
  ∀x y c,(cellsFrom n names acc).lookup x=some c->(cellsFrom n names acc).lookup y=some c->lo<c->x=y
 | [],_,_,_,_,hi,x,y,c,e1,e2,hc=>hi x y c e1 e2 hc
 | (m,k)::r,n,acc,hlt,lo,hi,x,y,c,e1,e2,hc=>by
  unfold cellsFrom at e1 e2;by_cases hk:(k==NameKind.cell)=true
  ·rw[if_pos hk]at e1 e2
   have look:∀z d,((m,n)::acc).lookup z=some d->(z=m/\d=n)∨(acc.lookup z=some d):=fun z d e=>by
    rw[List.lookup_cons]at e
    cases hx:z==m with
    | true=>rw[hx]at e;cases e;exact .inl ⟨by simpa using hx,rfl⟩
    | false=>rw[hx]at e;exact .inr e
   refine z45 r (n+1) _ (fun z d e=>?_) lo (fun z1 z2 d f1 f2 hd=>?_) x y c e1 e2 hc
   ·rcases look z d e with⟨_,q⟩|q
    ·rw[q];exact Nat.lt_succ_self n
    ·exact Nat.lt_succ_of_lt (hlt z d q)
   ·rcases look z1 d f1 with⟨q1,q2⟩|q
    ·rcases look z2 d f2 with⟨p1,_⟩|p
     ·rw[q1,p1]
     ·exact absurd (hlt z2 d p) (by rw[q2];exact Nat.lt_irrefl _)
    ·rcases look z2 d f2 with⟨p1,p2⟩|p
     ·exact absurd (hlt z1 d q) (by rw[p2];exact Nat.lt_irrefl _)
     ·exact hi z1 z2 d q p hd
  ·rw[if_neg hk]at e1 e2;exact z45 r n acc hlt lo hi x y c e1 e2 hc
section
variable{M:Model}{A:Around}{E:Value->Shared->Prop}
theorem z5Y{X:Cx}{scope:Scope}{cl:List (Str×Addr)}{globals:Addr}{qual:Str}{Q:Env->Shared->Prop}{s:Shared}(hcl:∀x c,cl.lookup x=some c->X.env.cells.lookup x=some c/\(x,NameKind.free)∈scope.names)(hcf:∀x,(x,NameKind.free)∈scope.names->∃c,cl.lookup x=some c)(hlt:∀x c,X.env.cells.lookup x=some c->c<s.heap.objs.size)
  (hQ:∀cs h' m,h'.Ns s.heap.objs.size m->(∀b o,s.heap.get? b=some o->h'.get? b=some o)->CellsC X scope s h' cs ->
   Q (newEnv scope s.heap.objs.size globals cs qual none .none (some X.env) builtinsNs) { s with heap:=h',toks:=s.toks+([]:List (Str×Value)).length }) :
  wpAny M A (newFunctionEnv scope globals cl [] qual none .none (some X.env)) Q E s:=by
 simp only[newFunctionEnv,Option.isSome_some,if_true];refine wpAny_bind (wpAny_alloc ?_)
 refine wpAny_bind (wpAny_layCells _ (fun name kind cells=>by cases hkc:kind==NameKind.cell<;>simp[hkc]) _ _ _ _ ?_)
 refine wpAny_bind ?_;rw[List.forIn_nil];refine wpAny_pure (wpAny_pure ?_)
 have hn:∀b o,s.heap.get? b=some o->(pushCells (s.heap.push { cls:=.type "dict",data:=.dict #[] }) scope.names).get? b=some o:=fun b o e=>pushCells_keeps _ _ b o (Heap.get?_push_of_some _ e)
 have sz:(s.heap.push { cls:=.type "dict",data:=.dict #[] }).objs.size=s.heap.objs.size+1:=Heap.size_push ..
 refine hQ _ _ (fun _=>none) ((Heap.Ns.new s.heap (.type "dict")).keeps (pushCells_keeps _ _)) hn ⟨fun x c e=>?_,fun x hx=>?_,fun x y c e1 e2 hc=>?_⟩
 ·rcases z44 scope.names _ cl x c e with z|⟨z1,z2,z3⟩
  ·exact .inl (hcl x c z)
  ·rw[sz]at z1
   exact .inr ⟨by omega,z2,z3⟩
 ·refine z46 _ _ _ x ?_
  rcases hx with hx|hx
  ·exact .inr (hcf x hx)
  ·exact .inl hx
 ·refine z45 scope.names _ cl (fun x c e=>?_) s.heap.objs.size (fun x y c e1 e2 hc=>?_) x y c e1 e2 hc
  ·show c<(s.heap.push { cls:=.type "dict",data:=.dict #[] }).objs.size
   rw[sz];exact Nat.lt_succ_of_lt (hlt x c (hcl x c e).1)
  ·exact absurd (Nat.lt_trans hc (hlt x c (hcl x c e1).1)) (Nat.lt_irrefl _)
end
theorem z3C{env:Env}{x:Str}:∀{names:List (Str×NameKind)} {k:NameKind},
  (names.map fun (n,k)=>if (k==NameKind.free&&env.scope.kind==.function&&env.kindOf n==some .cell) then (n,NameKind.cell) else (n,k)).lookup x=some k ->
  (names.lookup x=some k∨(k = .cell/\names.lookup x=some .free))
 | [],_,h=>by simp at h
 | (n,k')::r,k,h=>by
  have ih:=@z3C env x r k;rw[List.map_cons]at h;dsimp only at h;rw[List.lookup_cons]
  cases hx:x==n with
  | true =>
   by_cases hc:(k'==NameKind.free&&env.scope.kind==.function&&env.kindOf n==some .cell)=true
   ·rw[if_pos hc,List.lookup_cons,hx]at h;cases h
    have:k' = .free:=by
     simp only[Bool.and_eq_true,beq_iff_eq]at hc;exact hc.1.1
    subst this;exact .inr ⟨rfl,rfl⟩
   ·rw[if_neg hc,List.lookup_cons,hx]at h;exact .inl h
  | false =>
   by_cases hc:(k'==NameKind.free&&env.scope.kind==.function&&env.kindOf n==some .cell)=true
   ·rw[if_pos hc,List.lookup_cons,hx]at h;exact ih h
   ·rw[if_neg hc,List.lookup_cons,hx]at h;exact ih h
theorem z7M{env:Env}{x:Str}:∀{names:List (Str×NameKind)},names.lookup x=some .free ->
    ((names.map fun (n,k)=>if (k==NameKind.free&&env.scope.kind==.function&&env.kindOf n==some .cell) then (n,NameKind.cell) else (n,k)).lookup x=some .cell ∨
     (names.map fun (n,k)=>if (k==NameKind.free&&env.scope.kind==.function&&env.kindOf n==some .cell) then (n,NameKind.cell) else (n,k)).lookup x=some .free)
  | [],h=>by simp at h
  | (n,k')::r,h=>by
    have ih:=@z7M env x r
    rw[List.map_cons]
    dsimp only
    rw[List.lookup_cons]at h
    cases hx:x==n with
    | true =>
      rw[hx]at h
      cases h
      by_cases hc:((NameKind.free==NameKind.free)&&env.scope.kind==.function&&env.kindOf n==some .cell)=true
      · rw[if_pos hc,List.lookup_cons,hx];exact .inl rfl
      · rw[if_neg hc,List.lookup_cons,hx];exact .inr rfl
    | false =>
      rw[hx]at h
      by_cases hc:(k'==NameKind.free&&env.scope.kind==.function&&env.kindOf n==some .cell)=true
      · rw[if_pos hc,List.lookup_cons,hx];exact ih h
      · rw[if_neg hc,List.lookup_cons,hx];exact ih h
noncomputable def x2S(X:Cx)(ifs:List Expr)(t:TT):Prop :=
 ∀(pins:List (Addr×Obj)) (s:Shared) (σ:St) (H:Hp) (Q:Bool->Hp->Prop),Inv X pins σ H s->t σ H Q ->
  wpAny (model X.prog X.w) X.A (forIn ifs true fun c r=>if r=true then do let ok ←isTrue c X.env (eval c X.env);pure (ForInStep.yield ok) else pure (ForInStep.yield r)) (TP X pins σ Q) X.xe s
theorem y6K{X:Cx}:x2S X [] (fun _ H Q=>Q true H):=fun _ _ _ H _ I h=>wpAny_tests_nil ⟨H,I,h⟩
theorem x44{X:Cx}{c:Expr}{t:TT}(h:PT X c t):x2S X [c] t:=fun pins s σ H Q I hw=>wpAny_tests_one (h pins s σ H Q I hw)
noncomputable def z9Q(cap:List (Option Nat))(σ:St):St:=cap.map fun o=>o.bind fun j=>(σ[j]?).bind id
noncomputable def x7B(cap:List (Option Nat))(wi:TI)(g:TG)(tt:TT)(te:TE):TE:=fun σ H Q=>wi σ H fun J H1=>∀l,H1 l=none ->
 ∃W:Nat->Nat->St->Hp->List V->Prop,(∃m,W 0 m (z9Q cap σ) (upd H1 l (.lst [])) [])/\∀i m σ' H' acc,W i m σ' H' acc ->
  (J.stop i H'/\Q (.ref l) H') ∨
  (J.go i H'/\acc.length<sizeLine/\∀x H2,J.yld i H' x H2->g x σ' H2 fun σ2 H3=>tt σ2 H3 fun ok H4 =>
   if ok=true then te σ2 H4 fun y H5=>H5 l=some (.lst acc)/\∃m',m'<m/\W (i+1) m' σ2 (upd H5 l (.lst (acc++[y]))) (acc++[y])
   else ∃m',m'<m/\W (i+1) m' σ2 H4 acc)
section
variable{X:Cx}
theorem y75{pins:List (Addr×Obj)}{σ:St}{H:Hp}{s:Shared}{scope:Scope}{cl:List (Str×Addr)}{fp:List Addr}{N:List Str}{cap:List (Option Nat)}{h1:Heap}{tk:Nat}{m:Str->Option Value}(I:Inv X pins σ H s)(hk:scope.kind = .function)(hcell:∀y∈scope.names,y.2 = .cell->scope.names.lookup y.1=some .cell)(hcl:CellsC X scope s h1 cl)(hfr:∀x∈scope.names,x.2 = .free->scope.names.lookup x.1=some .free)(hcap:∀(i j:Nat),cap[i]?=some (some j)->∃x,N[i]?=some x/\X.N[j]?=some x/\scope.names.lookup x=some .free/\(X.env.scope.names.lookup x=some .cell∨X.env.scope.names.lookup x=some .free))(hlen:cap.length=N.length)(hfp:∀b∈fp,y8T X pins H b)(hfo:∀b∈fp,∃o,s.heap.get? b=some o)(hns:h1.Ns s.heap.objs.size m)(keep:∀b o,s.heap.get? b=some o->h1.get? b=some o) :
  Inv (J4 X N scope cl s.heap.objs.size fp s H) [] (z9Q cap σ) H { s with heap:=h1,toks:=tk }:=by
 have kk:∀x,(compEnvC scope cl s.heap.objs.size X.env).kindOf x=(relabel scope X.env).names.lookup x:=fun x=>rfl
 have nost:∀b∈fp,b∉frs X.stack:=fun b hb z=>by
  obtain⟨_,f1,f2,_⟩:=hfp b hb
  rcases List.mem_cons.mp (I.stkSub b z) with e|e
  ·exact f1 e
  ·exact f2 e
 have ltC:∀b∈fp,b<s.heap.objs.size:=fun b hb=>by
  obtain⟨o,e⟩:=hfo b hb;exact Heap.lt_size e
 have lts:∀x c,X.env.cells.lookup x=some c->c<s.heap.objs.size:=fun x c e=>by
  obtain⟨v,o,ho,_⟩:=I.cell x c e;exact Heap.lt_size ho
 have fro:∀x c,(x,NameKind.free)∈scope.names->cl.lookup x=some c->X.env.cells.lookup x=some c:=fun x c hx e=>by
  rcases hcl.old x c e with z|⟨_,_,z⟩
  ·exact z.1
  ·have z1:=hfr _ hx rfl;have z2:=hcell _ z rfl;rw[z1]at z2;cases z2
 have free_of:∀x,((relabel scope X.env).names.lookup x=some .cell∨(relabel scope X.env).names.lookup x=some .free)->((x,NameKind.free)∈scope.names∨(x,NameKind.cell)∈scope.names):=fun x hx=>by
  have nc:∀{k},scope.names.lookup x=some k->(x,k)∈scope.names:=fun h=>PySem.mem_of_lookup h
  rcases hx with hx|hx
  ·rcases z3C hx with z|⟨_,z⟩
   ·exact .inr (nc z)
   ·exact .inl (nc z)
  ·rcases z3C hx with z|⟨z,_⟩
   ·exact .inl (nc z)
   ·cases z
 refine⟨⟨I.ok.mod,hk,I.ok.glob,I.ok.blt,Nat.le_refl _,fun x y c e1 e2=>?inj,fun x hx=>hcl.has x (free_of x hx),fun x c hx e=>?cab,I.ok.hd,I.ok.frames,.inl rfl,fun b hb=>?exf,I.bs,Nat.le_trans I.ok.bsz I.sz,fun b o e hb=>?noex,nost,I.stack,I.stkFree⟩,
  rfl,I.bare,Un.kept keep,⟨m,hns,fun i x v e1 e2 e3=>?loc⟩,fun x c e=>?cell,I.hok.fresh (Nat.le_refl _),fun x c e=>?freeC,fun p hp=>absurd (show p∈([]:List (Addr×Obj)) from hp) (by simp),I.hok.kept keep,?len⟩
 case inj =>
  rcases hcl.old x c e1 with⟨z,_⟩|⟨z,_⟩
  ·rcases hcl.old y c e2 with⟨z',_⟩|⟨z',_⟩
   ·exact I.ok.inj x y c z z'
   ·exact absurd (Nat.lt_trans z' (lts x c z)) (Nat.lt_irrefl _)
  ·exact hcl.inj x y c e1 e2 z
 case freeC =>
  rcases hcl.old x c e with⟨z,_⟩|⟨z,_⟩
  ·exact I.freeC x c z
  ·exact I.hok.fresh (Nat.le_of_lt z)
 case cab =>
  have hx':(match scope.names.lookup x with|some .local=>true|some .cell=>true|_=>false)=true:=hx
  rcases hcl.old x c e with⟨_,z⟩|⟨z,_⟩
  ·have:=hfr _ z rfl
   rw[this]at hx'
   cases hx'
  ·exact Nat.le_of_lt z
 case exf =>
  refine⟨Nat.ne_of_lt (ltC b hb),fun x c e=>?_⟩
  rcases hcl.old x c e with⟨z,_⟩|⟨z,_⟩
  ·exact (hfp b hb).2.2.2.2.1 x c z
  ·intro q;rw[q]at z;exact absurd (Nat.lt_trans z (ltC b hb)) (Nat.lt_irrefl _)
 case noex =>
  obtain⟨_,_,_,f3,_⟩:=hfp b hb
  rcases f3 with z|z
  ·exact I.ok.noex b o e z
  ·exact absurd (Nat.lt_of_lt_of_le (Heap.lt_size (I.ok.bs b o e).1) z) (Nat.lt_irrefl _)
 case loc =>
  have hc:∃j,cap[i]?=some (some j)/\σ[j]?=some (some v):=by
   unfold z9Q at e2;rw[List.getElem?_map]at e2
   cases hci:cap[i]? with
   | none=>rw[hci]at e2;cases e2
   | some o =>
    rw[hci]at e2
    cases o with
    | none=>cases e2
    | some j =>
     refine⟨j,rfl,?_⟩
     have e2':(σ[j]?).bind id=some v:=Option.some.inj e2
     cases hs:σ[j]? with
     | none=>rw[hs]at e2';cases e2'
     | some q =>
      rw[hs]at e2'
      have:q=some v:=e2'
      rw[this]
  obtain⟨j,hj,hv⟩:=hc;obtain⟨y,n1,n2,n3,n4⟩:=hcap i j hj
  have exy:y=x:=by
   have:N[i]?=some x:=e1
   rw[n1]at this;exact Option.some.inj this
  subst exy;obtain⟨mm,hm,hl⟩:=I.loc;obtain⟨u,r,look⟩:=hl j y v n2 hv (.inr n4)
  refine⟨u,r,.inr ⟨z7M n3,?_⟩⟩
  rcases look with⟨k,_⟩|⟨k,c,e,z⟩
  ·have k':X.env.scope.names.lookup y=some .local:=k;rw[k']at n4
   rcases n4 with q|q<;>cases q
  ·obtain⟨c',hc'⟩:=hcl.has y (.inl (PySem.mem_of_lookup n3))
   have:=fro y c' (PySem.mem_of_lookup n3) hc'
   rw[e]at this;cases this;obtain⟨o,ho,hd⟩:=z
   exact⟨c,hc',o,keep _ _ ho,hd⟩
 case cell =>
  rcases hcl.old x c e with⟨z,_⟩|⟨_,z,_⟩
  ·obtain⟨v,o,ho,hd⟩:=I.cell x c z
   exact⟨v,o,keep _ _ ho,hd⟩
  ·exact⟨_,z⟩
 case len =>
  unfold z9Q;rw[List.length_map];exact hlen
theorem x0C{elt target iter:Expr}{ifs:List Expr}{scope:Scope}{pos:Pos}{N:List Str}{cap:List (Option Nat)}{wi:TI}{g:TG}{tt:TT}{te:TE}(hc:X.calm=true)(hi:PI X target iter wi)(hg:∀cl C fp s H,PG (J4 X N scope cl C fp s H) target g)(ht:∀cl C fp s H,x2S (J4 X N scope cl C fp s H) ifs tt)(he:∀cl C fp s H,PE (J4 X N scope cl C fp s H) elt te)(hk:scope.kind = .function)(hcell:∀y∈scope.names,y.2 = .cell->scope.names.lookup y.1=some .cell)(hnames:∀x∈scope.names,x.2 = .local->scope.names.lookup x.1=some .local)(hfr:∀x∈scope.names,x.2 = .free->scope.names.lookup x.1=some .free)(hout:∀x∈scope.names,x.2 = .free->X.env.scope.names.lookup x.1=some .cell∨X.env.scope.names.lookup x.1=some .free)(hcap:∀(i j:Nat),cap[i]?=some (some j)->∃x,N[i]?=some x/\X.N[j]?=some x/\scope.names.lookup x=some .free)(hlen:cap.length=N.length)(hs:∀x,foldedSetIterable iter X.env x=pure x:=by intro _;rfl) :
  PE X (.ListComp elt [⟨target,iter,ifs,0⟩] scope pos) (x7B cap wi g tt te):=by
 intro pins s σ H Q I h
 obtain⟨cl,hclos,hcl,hcf⟩:=x25 (env:=X.env) (scope:=scope) fun x hx hf=>I.ok.has x.1 (hout x hx hf)
 rw[eval_ListComp];refine wpAny_comprehension_free (use:=none) rfl hs hclos hk hnames ?_
 show wpAny _ _ (eval iter X.env) _ _ s
 refine thn (hi pins s σ H _ I h) fun v s1 h1=>thn h1 fun itv s2 h2=>?_
 obtain⟨it,fp,tn,J,H2,rfl,I2,T,st2,f2,hW⟩:=h2;obtain⟨W,⟨m0,w0⟩,turn⟩:=hW s2.heap.objs.size I2.fresh
 refine wpAny_newObj_type (z5Y (X:=X) (E:=X.xe) hcl hcf (fun x c e=>by
  obtain⟨v,o,ho,_⟩:=I2.cell x c e
  show c<(Heap.push _ _).objs.size
  rw[Heap.size_push]
  exact Nat.lt_succ_of_lt (Heap.lt_size ho)) (fun cs h4 m4 hns keep0 hcs=>?_))
 dsimp only at hns keep0 ⊢
 have I3:Inv X pins σ (upd H2 s2.heap.objs.size (.lst [])) { s2 with heap:=s2.heap.push { cls:=.type "list",dict:=none,data:=.seq ([]:List Value).toArray } }:=I2.lnew (its:=[]) (t':=s2.toks) .nil (Nat.zero_le _)
 generalize hs3:({ s2 with heap:=s2.heap.push { cls:=.type "list",dict:=none,data:=.seq ([]:List Value).toArray } }:Shared)=s3 at I3
 have hh3:s2.heap.push { cls:=.type "list",dict:=none,data:=.seq ([]:List Value).toArray }=s3.heap:=by rw[←hs3]
 have hsz3:s3.heap.objs.size=s2.heap.objs.size+1:=by rw[←hh3,Heap.size_push]
 rw[hh3]at hns keep0;have keep4:∀b o,s3.heap.get? b=some o->h4.get? b=some o:=keep0
 have hcs':CellsC X scope s3 h4 cs:=⟨fun x c e=>by rw[←hh3];exact hcs.old x c e,hcs.has,fun x y c e1 e2 hc=>hcs.inj x y c e1 e2 (by rw[←hh3]at hc;exact hc)⟩
 have fpn:∀b∈fp,(upd H2 s2.heap.objs.size (.lst [])) b=none/\y8T X pins (upd H2 s2.heap.objs.size (.lst [])) b:=fun b hb=>by
  obtain⟨o,e,_⟩:=T.obj 0 _ st2 b hb;have ne:b≠s2.heap.objs.size:=Nat.ne_of_lt (Heap.lt_size e)
  have z:(upd H2 s2.heap.objs.size (.lst [])) b=none:=by rw[j8 ne];exact (f2 b hb).1
  exact⟨z,z,(f2 b hb).2⟩
 have hfo:∀b∈fp,∃o,s3.heap.get? b=some o:=fun b hb=>by
  obtain⟨o,e,_⟩:=T.obj 0 _ st2 b hb
  exact⟨o,by rw[←hh3];exact Heap.get?_push_of_some _ e⟩
 have I4:∀tk,Inv (J4 X N scope cs s3.heap.objs.size fp s3 (upd H2 s2.heap.objs.size (.lst []))) [] (z9Q cap σ) (upd H2 s2.heap.objs.size (.lst [])) { s3 with heap:=h4,toks:=tk }:=fun tk =>
  y75 I3 hk hcell hcs' hfr (fun i j e=>by
   obtain⟨x,n1,n2,n3⟩:=hcap i j e
   exact⟨x,n1,n2,n3,hout _ (PySem.mem_of_lookup n3) rfl⟩) hlen (fun b hb=>(fpn b hb).2) hfo hns keep4
 have st4:tn 0 h4:=T.keep _ _ _ st2 fun b _ o e=>keep4 b o (by rw[←hh3];exact Heap.get?_push_of_some _ e)
 have stat:∀{H':Hp},(∀b∈fp,H' b=none)->∀b∈fp,y8T (J4 X N scope cs s3.heap.objs.size fp s3 (upd H2 s2.heap.objs.size (.lst []))) [] H' b:=fun {H'} hn b hb=>by
  obtain⟨o,e⟩:=hfo b hb;obtain⟨_,f1,f3,_,f5,_⟩:=f2 b hb
  refine⟨hn b hb,Nat.ne_of_lt (Heap.lt_size e),fun z=>?_,.inl hb,fun x c e=>(hcs'.old x c e).elim (fun z=>f5 x c z.1) (fun z q=>absurd (Heap.lt_size (q▸‹s3.heap.get? b=some o›)) (Nat.not_lt.mpr (Nat.le_of_lt z.1))),fun p hp=>absurd (show p∈([]:List (Addr×Obj)) from hp) (by simp)⟩
  rcases List.mem_cons.mp (I3.stkSub b z) with e'|e'
  ·exact f1 e'
  ·exact f3 e'
 have loop:∀s4:Shared,s4={ s3 with heap:=h4,toks:=s2.toks+([]:List (Str×Value)).length } ->
   codeAny (model X.prog X.w) X.A (.compLoop (.ListComp elt [⟨target,iter,ifs,0⟩] scope pos) 0 (.ref it) (.ref s2.heap.objs.size) (compEnvC scope cs s3.heap.objs.size X.env))
    (compPost (model X.prog X.w) X.A X.xe none (EP X pins σ Q) (.ref s2.heap.objs.size) s3.heap.objs.size) s4:=by
  rintro s4 rfl
  refine z7T (fun n s'=>∃i σ' H' acc,Inv (J4 X N scope cs s3.heap.objs.size fp s3 (upd H2 s2.heap.objs.size (.lst []))) [] σ' H' s'/\tn i s'.heap/\(∀b∈fp,H' b=none)/\W i n σ' H' acc) ?_ m0 ⟨0,_,_,[],I4 _,st4,fun b hb=>(fpn b hb).1,w0⟩
  rintro n s5 ⟨i,σ5,H5,acc,I5,st5,fr5,w5⟩
  rcases turn i n σ5 H5 acc w5 with⟨stop,q⟩|⟨go,hz,step⟩
  ·refine thn (T.done (J4 X N scope cs s3.heap.objs.size fp s3 (upd H2 s2.heap.objs.size (.lst []))) rfl rfl rfl hc i [] s5 σ5 H5 _ I5 (stat fr5) st5 stop) fun r s6 ⟨hr,I6⟩=>?_
   subst hr;obtain⟨m6,hn6,_⟩:=I6.loc
   refine⟨m6,hn6,fun h' sb=>?_⟩
   have neC:∀b u,H5 b=some u->b≠s3.heap.objs.size:=fun b u e z=>by
    subst z
    have:=I6.free
    rw[show H5 s3.heap.objs.size=none from this]at e
    cases e
   refine⟨.ref s2.heap.objs.size,H5,?_,rfl,q⟩
   refine I3.call' (s':={ s6 with heap:=h' }) (ch:=fp) I6.os ?_ (fun b u e=>?_) I6.bare (fun b hb=>?_)
   ·have u6:Un (frs X.stack) fp (upd H2 s2.heap.objs.size (.lst [])) H5 s3.heap s6.heap:=I6.base
    have ex:∀b o,s3.heap.get? b=some o->∀o',s6.heap.get? b=some o'->h'.get? b=some o':=fun b o e o' e'=>(sb.2 b (Nat.ne_of_lt (Heap.lt_size e))).trans e'
    exact⟨fun b o e n hb hx=>ex b o e _ (u6.keep b o e n hb hx),fun b o e n hb hx=>let ⟨sl,z⟩:=u6.slot b o e n hb hx;⟨sl,ex b o e _ z⟩,u6.free,fun b o e hx=>let ⟨o',z⟩:=u6.there b o e hx;⟨o',ex b o e _ z⟩,u6.tups,u6.frzs,u6.tbls⟩
   ·refine (I6.hok b u e).stay (fun c v hc' q'=>(sb.2 c ?_).trans q') (fun _ q'=>q') (fun _ _ q'=>q') fun _ _ _ q'=>q'
    rcases hc' with rfl|hc'
    ·exact neC _ _ e
    ·exact neC _ _ hc'
   ·obtain⟨_,f1,_,f3,f5,f6⟩:=f2 b hb
    exact⟨f3,f1,f5,f6⟩
  ·refine thn (T.item (J4 X N scope cs s3.heap.objs.size fp s3 (upd H2 s2.heap.objs.size (.lst []))) rfl rfl rfl hc i [] s5 σ5 H5 _ I5 (stat fr5) st5 go) fun r s6 ⟨u,hr,h6⟩=>?_
   subst hr
   refine thn h6 fun _ s7 ⟨x,H7,I7,r7,y7,st7,fr7⟩=>?_
   have I7':=I7.pinned (stat fr7) (T.obj _ _ st7)
   refine thn (hg _ _ _ _ _ _ s7 σ5 H7 x u _ I7' r7 (step x H7 y7)) fun _ s8 ⟨σ8,H8,I8,q8⟩=>?_
   refine thn (ht _ _ _ _ _ _ s8 σ8 H8 _ I8 q8) fun ok s9 ⟨H9,I9,q9⟩=>?_
   have again:∀{s':Shared} {σ':St} {H':Hp} {acc':List V} {m':Nat},Inv (J4 X N scope cs s3.heap.objs.size fp s3 (upd H2 s2.heap.objs.size (.lst []))) ([]++y0G fp s7.heap) σ' H' s'->m'<n->W (i+1) m' σ' H' acc' ->
     ∃m,m<n/\∃i σ'' H'' acc,Inv (J4 X N scope cs s3.heap.objs.size fp s3 (upd H2 s2.heap.objs.size (.lst []))) [] σ'' H'' s'/\tn i s'.heap/\(∀b∈fp,H'' b=none)/\W i m σ'' H'' acc:=fun {s' σ' H' acc' m'} I' hm w'=>by
    refine⟨m',hm,i+1,σ',H',acc',I'.unpinned,T.keep _ _ _ st7 fun b hb o e=>(I'.pin (b,o) (List.mem_append_right _ (List.mem_append_right _ (z2G hb e)))).1,fun b hb=>?_,w'⟩
    obtain⟨o,e,d⟩:=T.obj _ _ st7 b hb;exact (I'.pin (b,o) (List.mem_append_right _ (List.mem_append_right _ (z2G hb e)))).2.1
   cases ok with
   | false =>
    rw[if_neg Bool.false_ne_true]at q9;obtain⟨m',hm,w'⟩:=q9;exact again I9 hm w'
   | true =>
    rw[if_pos rfl]at q9
    show wpAny _ _ (eval elt _) _ _ s9
    refine thn (he _ _ _ _ _ _ s9 σ8 H9 _ I9 q9) fun xv s10 ⟨y,H10,I10,r10,hl10,m',hm,w'⟩=>?_
    refine thn (z8T _ s10 σ8 H10 (.ref s2.heap.objs.size) [y] (.ref s2.heap.objs.size) [xv] (fun (_:V) (H':Hp)=>H'=upd H10 s2.heap.objs.size (.lst (acc++[y]))) I10 rfl (.cons r10 .nil) ⟨_,acc,y,rfl,rfl,hl10,hz,rfl⟩) fun _ s11 ⟨_,H11,I11,_,e11⟩=>?_
    have e11':H11=upd H10 s2.heap.objs.size (.lst (acc++[y])):=e11
    subst e11'
    exact again I11 hm w'
 have hx:∀s4:Shared,s4={ s3 with heap:=h4,toks:=s2.toks+([]:List (Str×Value)).length }->tn 0 s4.heap:=by
  rintro s4 rfl
  exact st4
 subst hs3;exact codeAny_compStart_list (loop _ rfl) (T.self X.A 0 _ _ _ (hx _ rfl) (loop _ rfl))
end
inductive D where
 | non
 | bl (b:Bool)
 | int (i:Int)
 | str (x:Str)
 | tup (xs:List D)
 | lst (xs:List D)
 | dct (ks:List Key) (vs:List D)
mutual
noncomputable def Rep(K:PySem.W.Frag)(H:Hp):D->V->Prop
 | .non,v=>v=V.non
 | .bl b,v=>v=V.bl b
 | .int i,v=>v=V.int i
 | .str x,v=>v=V.str x
 | .tup ds,v=>∃a xs,v=V.ref a/\SqT K H a xs/\j5 K H ds xs
 | .lst ds,v=>∃a xs,v=V.ref a/\SqL K H a xs/\j5 K H ds xs
 | .dct ks ds,v=>∃a kvs,v=V.ref a/\H a=some (HO.dK kvs)/\kvs.map (·.1)=ks/\j5 K H ds (kvs.map (·.2))
noncomputable def j5(K:PySem.W.Frag)(H:Hp):List D->List V->Prop
 | [],xs=>xs=[]
 | d::ds,xs=>∃v vs,xs=v::vs/\Rep K H d v/\j5 K H ds vs
end
section
variable{K:PySem.W.Frag}{H H':Hp}
theorem u0{ds:List D}{v:V}:Rep K H (.tup ds) v↔∃a xs,v=V.ref a/\SqT K H a xs/\j5 K H ds xs:=by rw[Rep]
theorem g8{ds:List D}{v:V}:Rep K H (.lst ds) v↔∃a xs,v=V.ref a/\SqL K H a xs/\j5 K H ds xs:=by rw[Rep]
theorem z18{ks:List Key}{ds:List D}{v:V}:Rep K H (.dct ks ds) v↔∃a kvs,v=V.ref a/\H a=some (HO.dK kvs)/\kvs.map (·.1)=ks/\j5 K H ds (kvs.map (·.2)):=by rw[Rep]
theorem v4{i:Int}{v:V}:Rep K H (.int i) v↔v=V.int i:=by rw[Rep]
theorem J8{i:Bool}{v:V}:Rep K H (.bl i) v↔v=V.bl i:=by rw[Rep]
theorem Y5{i:Str}{v:V}:Rep K H (.str i) v↔v=V.str i:=by rw[Rep]
theorem Y7{v:V}:Rep K H .non v↔v=V.non:=by rw[Rep]
theorem J6{xs:List V}:j5 K H [] xs↔xs=[]:=by rw[j5]
theorem u4{d:D}{ds:List D}{xs:List V}:j5 K H (d::ds) xs↔∃v vs,xs=v::vs/\Rep K H d v/\j5 K H ds vs:=by rw[j5]
theorem j9{a:Addr}{xs:List V}(e:K6 H H')(h:SqT K H a xs):SqT K H' a xs:=by
 rcases h with (h|⟨o,h⟩)|h
 ·exact .inl (.inl (e _ _ h))
 ·exact .inl (.inr ⟨o,e _ _ h⟩)
 ·exact .inr h
mutual
theorem Rep.mono(e:K6 H H'):∀{d:D} {v:V},Rep K H d v->Rep K H' d v
 | .non,_,h=>by rw[Y7]at h ⊢;exact h
 | .bl _,_,h=>by rw[J8]at h ⊢;exact h
 | .int _,_,h=>by rw[v4]at h ⊢;exact h
 | .str _,_,h=>by rw[Y5]at h ⊢;exact h
 | .tup ds,_,h=>by
  rw[u0]at h ⊢;obtain⟨a,xs,h1,h2,h3⟩:=h
  exact⟨a,xs,h1,j9 e h2,j5.mono e h3⟩
 | .lst ds,_,h=>by
  rw[g8]at h ⊢;obtain⟨a,xs,h1,h2,h3⟩:=h
  exact⟨a,xs,h1,e.seq h2,j5.mono e h3⟩
 | .dct ks ds,_,h=>by
  rw[z18]at h ⊢;obtain⟨a,kvs,h1,h2,h3,h4⟩:=h
  exact⟨a,kvs,h1,e _ _ h2,h3,j5.mono e h4⟩
theorem j5.mono(e:K6 H H'):∀{ds:List D} {xs:List V},j5 K H ds xs->j5 K H' ds xs
 | [],_,h=>by rw[J6]at h ⊢;exact h
 | d::ds,_,h=>by
  rw[u4]at h ⊢;obtain⟨v,vs,h1,h2,h3⟩:=h
  exact⟨v,vs,h1,Rep.mono e h2,j5.mono e h3⟩
end
theorem j5.length:∀{ds:List D} {xs:List V},j5 K H ds xs->ds.length=xs.length
 | [],_,h=>by rw[J6]at h;subst h;rfl
 | d::ds,_,h=>by
  rw[u4]at h;obtain⟨v,vs,rfl,_,h3⟩:=h;rw[List.length_cons,List.length_cons,j5.length h3]
theorem j5.get:∀{ds:List D} {xs:List V} {i:Nat} {d:D},j5 K H ds xs->ds[i]?=some d->∃v,xs[i]?=some v/\Rep K H d v
 | [],_,_,_,_,e=>by simp at e
 | d::ds,_,i,d',h,e=>by
  rw[u4]at h;obtain⟨v,vs,rfl,h2,h3⟩:=h
  cases i with
  | zero=>simp at e;subst e;exact⟨v,rfl,h2⟩
  | succ i=>simpa using j5.get (i:=i) h3 (by simpa using e)
theorem j5.at:∀{ds:List D} {xs:List V} {i:Nat} {v:V},j5 K H ds xs->xs[i]?=some v->∃d,ds[i]?=some d/\Rep K H d v
 | [],_,_,_,h,e=>by rw[J6]at h;subst h;simp at e
 | d::ds,_,i,v',h,e=>by
  rw[u4]at h;obtain⟨v,vs,rfl,h2,h3⟩:=h
  cases i with
  | zero=>simp at e;subst e;exact⟨d,rfl,h2⟩
  | succ i=>simpa using j5.at (i:=i) h3 (by simpa using e)
theorem j5.append:∀{ds es:List D} {xs ys:List V},j5 K H ds xs->j5 K H es ys->j5 K H (ds++es) (xs++ys)
 | [],_,_,_,h,h'=>by rw[J6]at h;subst h;exact h'
 | d::ds,_,_,_,h,h'=>by
  rw[u4]at h;obtain⟨v,vs,rfl,h2,h3⟩:=h;exact u4.mpr ⟨v,_,rfl,h2,j5.append h3 h'⟩
theorem j5.one{d:D}{v:V}(h:Rep K H d v):j5 K H [d] [v]:=u4.mpr ⟨v,[],rfl,h,J6.mpr rfl⟩
theorem j5.cons{d:D}{v:V}{ds:List D}{xs:List V}(h:Rep K H d v)(t:j5 K H ds xs):j5 K H (d::ds) (v::xs):=u4.mpr ⟨v,xs,rfl,h,t⟩
theorem j5.nil:j5 K H [] []:=J6.mpr rfl
theorem j5.take:∀{ds:List D} {xs:List V} (n:Nat),j5 K H ds xs->j5 K H (ds.take n) (xs.take n)
 | _,_,0,_=>J6.mpr rfl
 | [],_,n+1,h=>by rw[J6]at h;subst h;exact J6.mpr rfl
 | d::ds,_,n+1,h=>by
  rw[u4]at h;obtain⟨v,vs,rfl,h2,h3⟩:=h;exact j5.cons h2 (j5.take n h3)
theorem j5.drop:∀{ds:List D} {xs:List V} (n:Nat),j5 K H ds xs->j5 K H (ds.drop n) (xs.drop n)
 | _,_,0,h=>h
 | [],_,n+1,h=>by rw[J6]at h;subst h;exact J6.mpr rfl
 | d::ds,_,n+1,h=>by
  rw[u4]at h;obtain⟨v,vs,rfl,h2,h3⟩:=h;exact j5.drop n h3
theorem j5.eraseIdx:∀{ds:List D} {xs:List V} (n:Nat),j5 K H ds xs->j5 K H (ds.eraseIdx n) (xs.eraseIdx n)
 | [],_,n,h=>by rw[J6]at h;subst h;exact J6.mpr rfl
 | d::ds,_,0,h=>by
  rw[u4]at h;obtain⟨v,vs,rfl,h2,h3⟩:=h;exact h3
 | d::ds,_,n+1,h=>by
  rw[u4]at h;obtain⟨v,vs,rfl,h2,h3⟩:=h;exact j5.cons h2 (j5.eraseIdx n h3)
theorem j5.rep{ds:List D}{xs:List V}(h:j5 K H ds xs):∀k:Nat,j5 K H (List.replicate k ds).flatten (List.replicate k xs).flatten
 | 0=>J6.mpr rfl
 | k+1=>by
  rw[List.replicate_succ,List.replicate_succ,List.flatten_cons,List.flatten_cons];exact j5.append h (j5.rep h k)
theorem Z9:∀{ns:List Int} {xs:List V},j5 K H (ns.map D.int) xs↔xs=ns.map V.int
 | [],xs=>by rw[List.map_nil,J6,List.map_nil]
 | n::ns,xs=>by
  rw[List.map_cons,u4,List.map_cons];constructor
  ·rintro ⟨v,vs,rfl,h2,h3⟩
   rw[v4]at h2;rw[Z9]at h3;rw[h2,h3]
  ·rintro rfl
   exact⟨_,_,rfl,v4.mpr rfl,Z9.mpr rfl⟩
end
noncomputable def K3(Z:List Addr)(H:Hp):Hp:=fun b=>if b∈Z then none else H b
section
variable{Z B:List Addr}{H H':Hp}{a:Addr}{o:HO}
theorem x97(h:a∈Z):K3 Z H a=none:=if_pos h
theorem K2(h:a∉Z):K3 Z H a=H a:=if_neg h
theorem z0N(h:K3 Z H a=some o):a∉Z/\H a=some o:=by
 by_cases hz:a∈Z
 ·rw[x97 hz]at h;cases h
 ·rw[K2 hz]at h;exact⟨hz,h⟩
theorem w9:K6 (K3 Z H) H:=fun b o h=>(z0N h).2
theorem v0(e:K6 H H'):K6 (K3 Z H) (K3 Z H'):=fun b o h=>by
 obtain⟨h1,h2⟩:=z0N h;rw[K2 h1];exact e b o h2
theorem z1Q(h:∀b∈B,b∈Z):K6 (K3 Z H) (K3 B H):=fun b o q=>by
 obtain⟨h1,h2⟩:=z0N q
 rw[K2 fun z=>h1 (h b z)]
 exact h2
theorem z1P(hn:H a=none)(e:K6 H H'):K6 (K3 Z H) (K3 (a::Z) H'):=fun b u q=>by
 obtain⟨h1,h2⟩:=z0N q
 have ne:b≠a:=fun z=>by rw[z,hn]at h2;cases h2
 rw[K2 (by rw[List.mem_cons];exact fun z=>z.elim ne h1)]
 exact e b u h2
theorem z33(h:a∈Z):K6 (K3 Z H) (K3 Z (upd H a o)):=fun b u q=>by
 obtain⟨h1,h2⟩:=z0N q
 have ne:b≠a:=fun z=>h1 (by rw[z];exact h)
 rw[K2 h1,j8 ne];exact h2
theorem j7(hn:H a=none):K6 H (upd H a o):=fun b u q=>by rw[j8 (Y2 q hn)];exact q
theorem z63{H0:Hp}(hn:H0 a=none)(e:K6 H0 H):K6 H0 (upd H a o):=fun b u q=>by
 have ne:b≠a:=fun z=>by rw[z,hn]at q;cases q
 rw[j8 ne];exact e b u q
end
inductive OC where
 | l (ds:List D)
 | d (ks:List Key) (vs:List D)
inductive Cell where
 | sh (d:D)
 | ow (ds:List D)
 | od (ks:List Key) (vs:List D)
noncomputable def Cell.oc:Cell->Option OC
 | .sh _=>none
 | .ow ds=>some (.l ds)
 | .od ks vs=>some (.d ks vs)
noncomputable def OC.cell:OC->Cell
 | .l ds=>.ow ds
 | .d ks vs=>.od ks vs
noncomputable def OC.dat:OC->D
 | .l ds=>.lst ds
 | .d ks vs=>.dct ks vs
theorem OC.cell_oc(c:OC):c.cell.oc=some c:=by cases c<;>rfl
noncomputable def x2U(K:PySem.W.Frag)(H:Hp):OC->HO->Prop
 | .l ds,o=>∃xs,o=HO.lst xs/\j5 K H ds xs
 | .d ks ds,o=>∃kvs,o=HO.dK kvs/\kvs.map (·.1)=ks/\j5 K H ds (kvs.map (·.2))
theorem x2U.mono{K:PySem.W.Frag}{H H':Hp}(e:K6 H H'):∀{c:OC} {o:HO},x2U K H c o->x2U K H' c o
 | .l ds,o,⟨xs,h1,h2⟩=>⟨xs,h1,h2.mono e⟩
 | .d ks ds,o,⟨kvs,h1,h2,h3⟩=>⟨kvs,h1,h2,h3.mono e⟩
theorem x2U.rep{K:PySem.W.Frag}{H:Hp}{a:Addr}:∀{c:OC} {o:HO},x2U K H c o->H a=some o->Rep K H c.dat (.ref a)
 | .l ds,o,⟨xs,h1,h2⟩,e=>g8.mpr ⟨a,xs,rfl,SqL.of (by rw[e,h1]),h2⟩
 | .d ks ds,o,⟨kvs,h1,h2,h3⟩,e=>z18.mpr ⟨a,kvs,rfl,by rw[e,h1],h2,h3⟩
noncomputable abbrev y0:=List (Option Cell)
noncomputable def y70:List Str:=["ties_over","queue_pages","hardest_tie","as_laid_on"]
noncomputable def z76(vs:Array Value):Bool:=match (vs[1]?:Option Value) with|some (.str q _)=>y70.contains q|_=>false
noncomputable def TB(K:PySem.W.Frag)(H:Hp):Prop:=∀c o vs P,K.lookup c=some o->o.cls = .type "code"->o.data = .fields vs->vs[11]?=some (.ref P)->K.lookup P=none->z76 vs=true ->
 ∃q t,vs[1]?=some (.str q t)/\H P=some (.tbl #[.str q 0])
theorem TB.mono{K:PySem.W.Frag}{H H':Hp}(h:TB K H)(e:K6 H H'):TB K H':=fun c o vs P h1 h2 h3 h4 h5 h6=>let ⟨q,t,e1,e2⟩:=h c o vs P h1 h2 h3 h4 h5 h6;⟨q,t,e1,e _ _ e2⟩
theorem TB.upd{K:PySem.W.Frag}{H:Hp}{a:Addr}{o u:HO}(h:TB K H)(ha:H a=some u)(hu:∀ps,u≠.tbl ps):TB K (upd H a o):=fun c ob vs P h1 h2 h3 h4 h5 h6=>by
 obtain⟨q,t,e1,e2⟩:=h c ob vs P h1 h2 h3 h4 h5 h6
 refine⟨q,t,e1,?_⟩
 rw[j8]
 ·exact e2
 ·rintro rfl
  rw[e2]at ha;exact hu _ (Option.some.inj ha).symm
theorem x2U.notbl{K:PySem.W.Frag}{H:Hp}:∀{c:OC} {o:HO},x2U K H c o->∀ps,o≠.tbl ps
 | .l ds,o,⟨xs,h1,_⟩,ps=>by rw[h1];intro z;cases z
 | .d ks ds,o,⟨kvs,h1,_⟩,ps=>by rw[h1];intro z;cases z
structure SR(K:PySem.W.Frag)(B:List Addr)(H0 V0 H:Hp)(Z:List Addr)(σ:St)(ρ:y0):Prop where
 same:K6 H0 H
 tb:TB K H
 vis:K6 V0 (K3 Z H)
 sub:∀b∈B,b∈Z
 zs:∀z∈Z,∃o,H z=some o
 sh:∀(i:Nat) d,ρ[i]?=some (some (.sh d))->∃v,σ[i]?=some (some v)/\Rep K (K3 Z H) d v
 own:∀(i:Nat) (c:OC),ρ[i]?=some (some c.cell)->∃a o,σ[i]?=some (some (.ref a))/\a∈Z/\a∉B/\H0 a=none/\H a=some o/\x2U K (K3 Z H) c o
 inj:∀(i j:Nat) (c e:OC) a,ρ[i]?=some (some c.cell)->ρ[j]?=some (some e.cell)->σ[i]?=some (some (.ref a))->σ[j]?=some (some (.ref a))->i=j
 len:σ.length=ρ.length
section
variable{K:PySem.W.Frag}{B Z:List Addr}{H0 V0 H H':Hp}{σ:St}{ρ:y0}
theorem SR.ow(r:SR K B H0 V0 H Z σ ρ)(i:Nat)(ds:List D)(h:ρ[i]?=some (some (.ow ds))):∃a xs,σ[i]?=some (some (.ref a))/\a∈Z/\a∉B/\H0 a=none/\H a=some (.lst xs)/\j5 K (K3 Z H) ds xs:=by
 obtain⟨a,o,h1,h2,h3,h4,h5,xs,rfl,h7⟩:=r.own i (.l ds) h
 exact⟨a,xs,h1,h2,h3,h4,h5,h7⟩
theorem SR.od(r:SR K B H0 V0 H Z σ ρ)(i:Nat)(ks:List Key)(ds:List D)(h:ρ[i]?=some (some (.od ks ds))):∃a kvs,σ[i]?=some (some (.ref a))/\a∈Z/\a∉B/\H0 a=none/\H a=some (.dK kvs)/\kvs.map (·.1)=ks/\j5 K (K3 Z H) ds (kvs.map (·.2)):=by
 obtain⟨a,o,h1,h2,h3,h4,h5,kvs,rfl,h7,h8⟩:=r.own i (.d ks ds) h
 exact⟨a,kvs,h1,h2,h3,h4,h5,h7,h8⟩
theorem SR.mono(r:SR K B H0 V0 H Z σ ρ)(e:K6 H H'):SR K B H0 V0 H' Z σ ρ :=
 ⟨r.same.trans e,r.tb.mono e,r.vis.trans (v0 e),r.sub,fun z hz=>let ⟨o,h⟩:=r.zs z hz;⟨o,e _ _ h⟩,
  fun i d h=>let ⟨v,h1,h2⟩:=r.sh i d h;⟨v,h1,h2.mono (v0 e)⟩,
  fun i c h=>let ⟨a,o,h1,h2,hb,h3,h4,h5⟩:=r.own i c h;⟨a,o,h1,h2,hb,h3,e _ _ h4,h5.mono (v0 e)⟩,r.inj,r.len⟩
theorem SR.vis'(r:SR K B H0 V0 H Z σ ρ){V1:Hp}(e:K6 V1 (K3 Z H)):SR K B H0 V1 H Z σ ρ :=
 ⟨r.same,r.tb,e,r.sub,r.zs,r.sh,r.own,r.inj,r.len⟩
theorem SR.newer(r:SR K B H0 V0 H Z σ ρ){a:Addr}(h:H a=none):a∉Z:=fun z=>by
 obtain⟨o,e⟩:=r.zs a z;rw[h]at e;cases e
theorem SR.more(r:SR K B H0 V0 H Z σ ρ){a:Addr}{o:HO}(hn:H a=none)(e:K6 H H')(ha:H' a=some o):SR K B H0 V0 H' (a::Z) σ ρ :=
 ⟨r.same.trans e,r.tb.mono e,r.vis.trans (z1P hn e),fun b hb=>List.mem_cons_of_mem _ (r.sub b hb),fun z hz=>(List.mem_cons.mp hz).elim (fun q=>⟨o,q▸ha⟩) fun q=>let ⟨u,h⟩:=r.zs z q;⟨u,e _ _ h⟩,
  fun i d h=>let ⟨v,h1,h2⟩:=r.sh i d h;⟨v,h1,h2.mono (z1P hn e)⟩,
  fun i c h=>let ⟨b,o,h1,h2,hb,h3,h4,h5⟩:=r.own i c h;⟨b,o,h1,List.mem_cons_of_mem _ h2,hb,h3,e _ _ h4,h5.mono (z1P hn e)⟩,r.inj,r.len⟩
theorem z0L{α:Type}{ρ:List (Option α)}{i j:Nat}{x y:α}(q:(ρ.set i (some x))[j]?=some (some y)):(i=j/\x=y/\i<ρ.length)∨(i≠j/\ρ[j]?=some (some y)):=by
 by_cases hj:i=j
 ·subst hj
  have hl:i<ρ.length:=by
   have:=(List.getElem?_eq_some_iff.mp q).1
   rw[List.length_set]at this;exact this
  rw[List.getElem?_set_self hl]at q;cases q;exact .inl ⟨rfl,rfl,hl⟩
 ·rw[List.getElem?_set_ne hj]at q;exact .inr ⟨hj,q⟩
theorem z9S{d:D}{c:OC}:Cell.sh d=c.cell->False:=fun e=>by cases c<;>cases e
theorem y7D{c e:OC}(h:c.cell=e.cell):c=e:=by
 have:=congrArg Cell.oc h
 rw[c.cell_oc,e.cell_oc]at this;exact Option.some.inj this
theorem SR.set(r:SR K B H0 V0 H Z σ ρ){i:Nat}{d:D}{v:V}(h:Rep K (K3 Z H) d v):SR K B H0 V0 H Z (σ.set i (some v)) (ρ.set i (some (.sh d))):=by
 refine⟨r.same,r.tb,r.vis,r.sub,r.zs,fun j e q=>?_,fun j c q=>?_,fun j k c e a q1 q2 s1 s2=>?_,by rw[List.length_set,List.length_set];exact r.len⟩
 ·rcases z0L q with⟨rfl,z,hl⟩|⟨hj,q⟩
  ·cases z
   exact⟨v,List.getElem?_set_self (by rw[r.len];exact hl),h⟩
  ·obtain⟨u,h1,h2⟩:=r.sh j e q
   exact⟨u,by rw[List.getElem?_set_ne hj];exact h1,h2⟩
 ·rcases z0L q with⟨_,z,_⟩|⟨hj,q⟩
  ·exact (z9S z).elim
  ·obtain⟨a,o,h1,h2⟩:=r.own j c q
   exact⟨a,o,by rw[List.getElem?_set_ne hj];exact h1,h2⟩
 ·rcases z0L q1 with⟨_,z,_⟩|⟨n1,q1⟩
  ·exact (z9S z).elim
  rcases z0L q2 with⟨_,z,_⟩|⟨n2,q2⟩
  ·exact (z9S z).elim
  rw[List.getElem?_set_ne n1]at s1;rw[List.getElem?_set_ne n2]at s2;exact r.inj j k c e a q1 q2 s1 s2
theorem SR.setO(r:SR K B H0 V0 H Z σ ρ){i:Nat}{c:OC}{a:Addr}{o:HO}(hz:a∈Z)(hb:a∉B)(h0:H0 a=none)(hH:H a=some o)(h:x2U K (K3 Z H) c o)(hn:∀(j:Nat) (e:OC),ρ[j]?=some (some e.cell)->σ[j]?≠some (some (.ref a))):SR K B H0 V0 H Z (σ.set i (some (.ref a))) (ρ.set i (some c.cell)):=by
 refine⟨r.same,r.tb,r.vis,r.sub,r.zs,fun j e q=>?_,fun j e q=>?_,fun j k fs gs b q1 q2 s1 s2=>?_,by rw[List.length_set,List.length_set];exact r.len⟩
 ·rcases z0L q with⟨_,z,_⟩|⟨hj,q⟩
  ·exact (z9S z.symm).elim
  ·obtain⟨u,h1,h2⟩:=r.sh j e q
   exact⟨u,by rw[List.getElem?_set_ne hj];exact h1,h2⟩
 ·rcases z0L q with⟨rfl,z,hl⟩|⟨hj,q⟩
  ·have:=y7D z
   subst this
   exact⟨a,o,List.getElem?_set_self (by rw[r.len];exact hl),hz,hb,h0,hH,h⟩
  ·obtain⟨a',o',h1,h2⟩:=r.own j e q
   exact⟨a',o',by rw[List.getElem?_set_ne hj];exact h1,h2⟩
 ·rcases z0L q1 with⟨e1,_,hl⟩|⟨n1,q1⟩
  ·rcases z0L q2 with⟨e2,_,_⟩|⟨n2,q2⟩
   ·rw[←e1,←e2]
   ·subst e1
    rw[List.getElem?_set_self (by rw[r.len];exact hl)]at s1
    cases s1;rw[List.getElem?_set_ne n2]at s2;exact absurd s2 (hn k gs q2)
  ·rw[List.getElem?_set_ne n1]at s1
   rcases z0L q2 with⟨e2,_,hl⟩|⟨n2,q2⟩
   ·subst e2
    rw[List.getElem?_set_self (by rw[r.len];exact hl)]at s2
    cases s2;exact absurd s1 (hn j fs q1)
   ·rw[List.getElem?_set_ne n2]at s2;exact r.inj j k fs gs b q1 q2 s1 s2
theorem SR.updC(r:SR K B H0 V0 H Z σ ρ){i:Nat}{c e:OC}{a:Addr}{o:HO}(hi:ρ[i]?=some (some c.cell))(hs:σ[i]?=some (some (.ref a)))(h:x2U K (K3 Z H) e o) :
  SR K B H0 V0 (upd H a o) Z σ (ρ.set i (some e.cell)):=by
 obtain⟨a',o',s1,hz,hb,h0,hH,hld⟩:=r.own i c hi;rw[hs]at s1;cases s1;have vs:K6 (K3 Z H) (K3 Z (upd H a o)):=z33 hz
 refine⟨z63 h0 r.same,r.tb.upd hH hld.notbl,r.vis.trans vs,r.sub,fun z q=>?_,fun j d q=>?_,fun j f q=>?_,fun j k fs gs b q1 q2 s1 s2=>?_,by rw[List.length_set];exact r.len⟩
 ·by_cases e:z=a
  ·subst e;exact⟨_,v5⟩
  ·obtain⟨o,ho⟩:=r.zs z q
   exact⟨o,by rw[j8 e];exact ho⟩
 ·rcases z0L q with⟨_,z,_⟩|⟨n,q⟩
  ·exact (z9S z.symm).elim
  ·obtain⟨u,h1,h2⟩:=r.sh j d q
   exact⟨u,h1,h2.mono vs⟩
 ·rcases z0L q with⟨rfl,z,_⟩|⟨n,q⟩
  ·have:=y7D z
   subst this
   exact⟨a,o,hs,hz,hb,h0,v5,h.mono vs⟩
  ·obtain⟨b,zs,t1,t2,tb,t3,t4,t5⟩:=r.own j f q
   have ne:b≠a:=fun z=>by
    subst z;exact n (r.inj i j _ _ b hi q hs t1)
   exact⟨b,zs,t1,t2,tb,t3,by rw[j8 ne];exact t4,t5.mono vs⟩
 ·have g:∀{m:Nat} {fs:OC},(ρ.set i (some e.cell))[m]?=some (some fs.cell)->∃fs':OC,ρ[m]?=some (some fs'.cell):=fun {m fs} q=>by
   rcases z0L q with⟨rfl,_,_⟩|⟨_,q⟩
   ·exact⟨c,hi⟩
   ·exact⟨fs,q⟩
  obtain⟨f1,p1⟩:=g q1;obtain⟨f2,p2⟩:=g q2;exact r.inj j k f1 f2 b p1 p2 s1 s2
theorem SR.updO(r:SR K B H0 V0 H Z σ ρ){i:Nat}{ds es:List D}{a:Addr}{ys:List V}(hi:ρ[i]?=some (some (.ow ds)))(hs:σ[i]?=some (some (.ref a)))(h:j5 K (K3 Z H) es ys) :
  SR K B H0 V0 (upd H a (.lst ys)) Z σ (ρ.set i (some (.ow es))):=r.updC (c:=.l ds) (e:=.l es) hi hs ⟨ys,rfl,h⟩
end
noncomputable def tD(K:PySem.W.Frag)(f:y0->Option D):TE:=fun σ H Q=>∃ρ d B H0 V0 Z,f ρ=some d/\SR K B H0 V0 H Z σ ρ/\∀v H',K6 H H'->Rep K (K3 Z H') d v->Q v H'
noncomputable def tQ(K:PySem.W.Frag)(f:y0->Option (List D)):TE:=fun σ H Q=>∃ρ ds B H0 V0 Z,f ρ=some ds/\SR K B H0 V0 H Z σ ρ/\∀a xs H',K6 H H'->(SqL K H' a xs∨SqT K (K3 Z H') a xs)->j5 K (K3 Z H') ds xs->Q (.ref a) H'
noncomputable def tF(K:PySem.W.Frag)(f:y0->Option (List D)):TE:=fun σ H Q=>∃ρ ds B H0 V0 Z,f ρ=some ds/\SR K B H0 V0 H Z σ ρ/\∀a xs H',K6 H H'->H a=none->H' a=some (.lst xs)->j5 K (K3 (a::Z) H') ds xs->Q (.ref a) H'
noncomputable def tT(K:PySem.W.Frag)(f:y0->Option Bool):TT:=fun σ H Q=>∃ρ b B H0 V0 Z,f ρ=some b/\SR K B H0 V0 H Z σ ρ/\∀H',K6 H H'->Q b H'
noncomputable def tL(K:PySem.W.Frag)(f:y0->Option (List D)):TA:=fun σ H Q=>∃ρ ds B H0 V0 Z,f ρ=some ds/\SR K B H0 V0 H Z σ ρ/\∀xs H',K6 H H'->j5 K (K3 Z H') ds xs->Q xs H'
structure Walk(K:PySem.W.Frag)(V:Hp)(J:It)(ds:List D):Prop where
 go:∀H',K6 V H'->∀i,i<ds.length->J.go i H'
 yld:∀H',K6 V H'->∀(i:Nat) x H3,J.yld i H' x H3->K6 H' H3/\∀d,ds[i]?=some d->∀Z:List Addr,(∀z∈Z,∃o,H' z=some o)->K6 V (K3 Z H')->Rep K (K3 Z H3) d x
 stop:∀H',K6 V H'->J.stop ds.length H'
noncomputable def tI(K:PySem.W.Frag)(f:y0->Option (List D)):TI:=fun σ H R=>∃ρ ds B H0 V0 Z,f ρ=some ds/\SR K B H0 V0 H Z σ ρ/\∀J H',K6 H H'->Walk K (K3 Z H') J ds->R J H'
inductive Out where
 | nx (ρ:y0)
 | bk (ρ:y0)
 | ct (ρ:y0)
 | rt (d:D)
noncomputable def w3W(K:PySem.W.Frag)(B:List Addr)(H0 V0:Hp)(E:Ends):Out->Prop
 | .nx ρ=>∀σ H Z,SR K B H0 V0 H Z σ ρ->E.nx σ H
 | .bk ρ=>∀σ H Z,SR K B H0 V0 H Z σ ρ->E.bk σ H
 | .ct ρ=>∀σ H Z,SR K B H0 V0 H Z σ ρ->E.ct σ H
 | .rt d=>∀v H,K6 H0 H->Rep K (K3 B H) d v->E.rt v H
noncomputable def tS(K:PySem.W.Frag)(g:y0->Option Out):TS:=fun E σ H=>∃ρ o B H0 V0 Z,g ρ=some o/\SR K B H0 V0 H Z σ ρ/\w3W K B H0 V0 E o
noncomputable def tG(K:PySem.W.Frag)(h:D->y0->Option y0):TG:=fun v σ H Q=>∃ρ d ρ' B H0 V0 Z,h d ρ=some ρ'/\SR K B H0 V0 H Z σ ρ/\Rep K (K3 Z H) d v/\∀σ',SR K B H0 V0 H Z σ' ρ'->Q σ' H
noncomputable def tGs(K:PySem.W.Frag)(h:List D->y0->Option y0):TGs:=fun vs σ H Q=>∃ρ ds ρ' B H0 V0 Z,h ds ρ=some ρ'/\SR K B H0 V0 H Z σ ρ/\j5 K (K3 Z H) ds vs/\∀σ',SR K B H0 V0 H Z σ' ρ'->Q σ' H
noncomputable abbrev SE(X:Cx)(e:Expr)(f:y0->Option D):Prop:=PE X e (tD X.K f)
noncomputable abbrev SQ(X:Cx)(e:Expr)(f:y0->Option (List D)):Prop:=PE X e (tQ X.K f)
noncomputable abbrev SF(X:Cx)(e:Expr)(f:y0->Option (List D)):Prop:=PE X e (tF X.K f)
noncomputable abbrev STt(X:Cx)(e:Expr)(f:y0->Option Bool):Prop:=PT X e (tT X.K f)
noncomputable abbrev STw(X:Cx)(e:Expr)(f:y0->Option Bool):Prop:=PW X e (tT X.K f)
noncomputable abbrev SA(X:Cx)(es:List Expr)(f:y0->Option (List D)):Prop:=PA X es (tL X.K f)
noncomputable abbrev SI(X:Cx)(tg e:Expr)(f:y0->Option (List D)):Prop:=PI X tg e (tI X.K f)
noncomputable abbrev SS(X:Cx)(st:Stmt)(g:y0->Option Out):Prop:=PS X st (tS X.K g)
noncomputable abbrev SSs(X:Cx)(st:List Stmt)(g:y0->Option Out):Prop:=PSs X st (tS X.K g)
noncomputable abbrev SG(X:Cx)(e:Expr)(h:D->y0->Option y0):Prop:=PG X e (tG X.K h)
noncomputable abbrev SGs(X:Cx)(es:List Expr)(h:List D->y0->Option y0):Prop:=PGs X es (tGs X.K h)
section
variable{X:Cx}{e:Expr}
theorem u5{t t':TE}(h:PE X e t)(w:∀σ H Q,t' σ H Q->t σ H Q):PE X e t':=fun pins s σ H Q I q=>h pins s σ H Q I (w σ H Q q)
theorem z5L{t t':TT}(h:PT X e t)(w:∀σ H Q,t' σ H Q->t σ H Q):PT X e t':=fun pins s σ H Q I q=>h pins s σ H Q I (w σ H Q q)
theorem x02{t t':TT}(h:PW X e t)(w:∀σ H Q,t' σ H Q->t σ H Q):PW X e t':=fun wh pins s σ H Q I q=>h wh pins s σ H Q I (w σ H Q q)
theorem x0F{es:List Expr}{t t':TA}(h:PA X es t)(w:∀σ H Q,t' σ H Q->t σ H Q):PA X es t':=fun pos pins s σ H Q I q=>h pos pins s σ H Q I (w σ H Q q)
theorem z72{tg:Expr}{t t':TI}(h:PI X tg e t)(w:∀σ H Q,t' σ H Q->t σ H Q):PI X tg e t':=fun pins s σ H Q I q=>h pins s σ H Q I (w σ H Q q)
theorem z1H{st:Stmt}{t t':TS}(h:PS X st t)(w:∀E σ H,t' E σ H->t E σ H):PS X st t':=fun pins s σ H E I q=>h pins s σ H E I (w E σ H q)
theorem y6H{st:List Stmt}{t t':TS}(h:PSs X st t)(w:∀E σ H,t' E σ H->t E σ H):PSs X st t':=fun pins s σ H E I q=>h pins s σ H E I (w E σ H q)
theorem x0A{t t':TG}(h:PG X e t)(w:∀v σ H Q,t' v σ H Q->t v σ H Q):PG X e t':=fun pins s σ H v u Q I r q=>h pins s σ H v u Q I r (w v σ H Q q)
theorem y6L{es:List Expr}{t t':TGs}(h:PGs X es t)(w:∀v σ H Q,t' v σ H Q->t v σ H Q):PGs X es t':=fun pins s σ H v u Q I r q=>h pins s σ H v u Q I r (w v σ H Q q)
end
noncomputable def LIM:Nat:=100000
theorem z5A{n:Nat}(h:n≤LIM):n≤sizeLine:=by rw[sizeLine_eq];unfold LIM at h;omega
theorem y6Y{n:Nat}(h:n≤LIM):n<sizeLine:=by rw[sizeLine_eq];unfold LIM at h;omega
noncomputable def z6(i:Nat):y0->Option D:=fun ρ=>match ρ[i]? with|some (some (.sh d))=>some d|_=>none
noncomputable def y1R(i:Nat):y0->Option (List D):=fun ρ=>match ρ[i]? with|some (some (.ow ds))=>some ds|_=>none
noncomputable def dC(d:D):y0->Option D:=fun _=>some d
theorem x21{i:Nat}{ρ:y0}{d:D}(e:z6 i ρ=some d):ρ[i]?=some (some (.sh d)):=by
 unfold z6 at e;split at e
 ·rename_i h;cases e;exact h
 ·cases e
theorem z2M{i:Nat}{ρ:y0}{d:List D}(e:y1R i ρ=some d):ρ[i]?=some (some (.ow d)):=by
 unfold y1R at e;split at e
 ·rename_i h;cases e;exact h
 ·cases e
section
variable{X:Cx}
theorem sv(i:Nat){x:Str}{pos:Pos}(hN:X.N[i]?=some x:=by rfl)(hv:Vis X.env.scope x:=by first|exact Or.inl rfl|exact Or.inr (Or.inl rfl)|exact Or.inr (Or.inr rfl))(hd:(x==("__debug__":Str))=false:=by decide)(hcd:(x==("__classdict__":Str))=false:=by decide):SE X (.Name x pos) (z6 i) :=
 u5 (z64 hN hv hd hcd) fun σ H Q ⟨ρ,d,B,H0,V0,Z,e,r,q⟩=>by
  obtain⟨v,h1,h2⟩:=r.sh i d (x21 e)
  exact⟨v,h1,q v H (K6.refl H) h2⟩
theorem qv(i:Nat){x:Str}{pos:Pos}(hN:X.N[i]?=some x:=by rfl)(hv:Vis X.env.scope x:=by first|exact Or.inl rfl|exact Or.inr (Or.inl rfl)|exact Or.inr (Or.inr rfl))(hd:(x==("__debug__":Str))=false:=by decide)(hcd:(x==("__classdict__":Str))=false:=by decide):SQ X (.Name x pos) (y1R i) :=
 u5 (z64 hN hv hd hcd) fun σ H Q ⟨ρ,ds,B,H0,V0,Z,e,r,q⟩=>by
  obtain⟨a,xs,h1,h2,hb,h3,h4,h5⟩:=r.ow i ds (z2M e)
  exact⟨.ref a,h1,q a xs H (K6.refl H) (.inl (SqL.of h4)) h5⟩
theorem w3Z{e:Expr}{d:D}{v:V}(h:PE X e (tC v))(hr:∀H,Rep X.K H d v):SE X e (dC d) :=
 u5 h fun σ H Q ⟨ρ,d',B,H0,V0,Z,e,r,q⟩=>by
  cases e;exact q v H (K6.refl H) (hr _)
theorem w1L{i j pos}:SE X (.Constant (.int i) j pos) (dC (.int i)):=w3Z w2Q fun _=>v4.mpr rfl
theorem w4O{b j pos}:SE X (.Constant (.bool b) j pos) (dC (.bl b)):=w3Z w50 fun _=>J8.mpr rfl
theorem w1E{j pos}:SE X (.Constant .none j pos) (dC .non):=w3Z x67 fun _=>Y7.mpr rfl
theorem w16{x j pos}:SE X (.Constant (.str x) j pos) (dC (.str x)):=w3Z w2K fun _=>Y5.mpr rfl
end
noncomputable def dSq(f:y0->Option D):y0->Option (List D):=fun ρ=>match f ρ with|some (.lst ds)=>some ds|some (.tup ds)=>some ds|_=>none
noncomputable def dLs(f:y0->Option (List D)):y0->Option D:=fun ρ=>(f ρ).map D.lst
section
variable{X:Cx}{e:Expr}
theorem w6L{f:y0->Option D}(h:SE X e f):SQ X e (dSq f) :=
 u5 h fun σ H Q ⟨ρ,ds,B,H0,V0,Z,e,r,q⟩=>by
  unfold dSq at e;split at e
  ·rename_i es he;cases e
   exact⟨ρ,_,B,H0,V0,Z,he,r,fun v H' s hr=>by
    obtain⟨a,xs,rfl,h2,h3⟩:=g8.mp hr
    exact q a xs H' s (.inl (w9.seq h2)) h3⟩
  ·rename_i es he;cases e
   exact⟨ρ,_,B,H0,V0,Z,he,r,fun v H' s hr=>by
    obtain⟨a,xs,rfl,h2,h3⟩:=u0.mp hr
    exact q a xs H' s (.inr h2) h3⟩
  ·cases e
theorem w6V{f:y0->Option (List D)}(h:SF X e f):SE X e (dLs f) :=
 u5 h fun σ H Q ⟨ρ,d,B,H0,V0,Z,e,r,q⟩=>by
  unfold dLs at e;obtain⟨ds,he,rfl⟩:=Option.map_eq_some_iff.mp e
  refine⟨ρ,ds,B,H0,V0,Z,he,r,fun a xs H' s hn ha hr=>q _ H' s (g8.mpr ⟨a,xs,rfl,SqL.of ?_,hr.mono (z1Q fun b hb=>List.mem_cons_of_mem _ hb)⟩)⟩
  rw[K2 (r.newer hn)];exact ha
theorem f_q{f:y0->Option (List D)}(h:SF X e f):SQ X e f :=
 u5 h fun σ H Q ⟨ρ,ds,B,H0,V0,Z,e,r,q⟩ =>
  ⟨ρ,ds,B,H0,V0,Z,e,r,fun a xs H' s hn ha hr=>q a xs H' s (.inl (SqL.of ha)) (hr.mono (z1Q fun b hb=>List.mem_cons_of_mem _ hb))⟩
end
noncomputable def z5E(K:PySem.W.Frag)(r:R2)(g:D->D->Option D):Prop :=
 ∀x y d,g x y=some d->∀(Z:List Addr) (H:Hp) (u v:V) (Q:VK),(∀z∈Z,∃o,H z=some o)->Rep K (K3 Z H) x u->Rep K (K3 Z H) y v->(∀w' H',K6 H H'->Rep K (K3 Z H') d w'->Q w' H')->r u v H Q
noncomputable def d2(g:D->D->Option D)(fa fb:y0->Option D):y0->Option D:=fun ρ=>match fa ρ with|some x=>(match fb ρ with|some y=>g x y|none=>none)|none=>none
noncomputable def x5(f:y0->Option D):y0->Option Bool:=fun ρ=>match f ρ with|some (.bl b)=>some b|_=>none
theorem x9M{g:D->D->Option D}{fa fb:y0->Option D}{ρ:y0}{d:D}(e:d2 g fa fb ρ=some d):∃x y,fa ρ=some x/\fb ρ=some y/\g x y=some d:=by
 unfold d2 at e;split at e
 ·rename_i x hx;split at e
  ·rename_i y hy
   exact⟨x,y,hx,hy,e⟩
  ·cases e
 ·cases e
section
variable{X:Cx}{a b c:Expr}{fa fb fc:y0->Option D}{pos:Pos}
theorem y5J{K:PySem.W.Frag}{r:R2}{g:D->D->Option D}(hr:z5E K r g):∀σ H Q,tD K (d2 g fa fb) σ H Q->tOp r (tD K fa) (tD K fb) σ H Q :=
 fun σ H Q ⟨ρ,d,B,H0,V0,Z,e,r,q⟩=>by
  obtain⟨x,y,ex,ey,e⟩:=x9M e
  exact⟨ρ,x,B,H0,V0,Z,ex,r,fun u H1 s1 r1=>⟨ρ,y,B,H0,V0,Z,ey,r.mono s1,fun v H2 s2 r2 =>
   hr x y d e Z H2 u v Q ((r.mono s1).mono s2).zs (r1.mono (v0 s2)) r2 fun w' H' s rr=>q w' H' (s1.trans (s2.trans s)) rr⟩⟩
theorem z60{K:PySem.W.Frag}{f:y0->Option D}:∀σ H Q,tT K (x5 f) σ H Q->tD K f σ H (fun x H'=>∃k,x = .bl k/\Q k H') :=
 fun σ H Q ⟨ρ,b,B,H0,V0,Z,e,r,q⟩=>by
  unfold x5 at e;split at e
  ·rename_i b' hb;cases e
   exact⟨ρ,_,B,H0,V0,Z,hb,r,fun v H' s rr=>⟨b,J8.mp rr,q H' s⟩⟩
  ·cases e
theorem y2R{op:Operator}{r:R2}{g:D->D->Option D}(ho:OpR X (binaryOp op) r)(hr:z5E X.K r g)(ha:SE X a fa)(hb:SE X b fb):SE X (.BinOp a op b pos) (d2 g fa fb) :=
 u5 (w2M ho ha hb) (y5J hr)
theorem x5W{op:CmpOp}{r:R2}{g:D->D->Option D}(ho:OpR X (compareOp op) r)(hr:z5E X.K r g)(ha:SE X a fa)(hb:SE X b fb)(hm:behindInMarks op b=false):SE X (.Compare a [op] [b] pos) (d2 g fa fb) :=
 u5 (x8H ho ha hb hm) (y5J hr)
theorem y09{op:CmpOp}{r:R2}{g:D->D->Option D}(ho:OpR X (compareOp op) r)(hr:z5E X.K r g)(ha:SE X a fa)(hb:SE X b fb)(hm:behindInMarks op b=false):STt X (.Compare a [op] [b] pos) (x5 (d2 g fa fb)) :=
 z5L (y4R ho ha hb hm) fun σ H Q h=>y5J hr _ _ _ (z60 σ H Q h)
theorem w0F{f:y0->Option D}(h:SE X a f)(he:∀whole,isTrue a X.env whole=(do let v ←whole;standAt a.pos;holding [v] (truthy v)):=by intro _;rfl):STt X a (x5 f) :=
 z5L (y6G h he) fun σ H Q h=>z60 σ H Q h
noncomputable def z36(g g':D->D->Option D)(fa fb fc:y0->Option D):y0->Option D:=fun ρ=>match fa ρ with
 | some x=>(match fb ρ with
  | some y=>(match g x y with
   | some (.bl true)=>(match fc ρ with|some z=>g' y z|none=>none)
   | some (.bl false)=>some (.bl false)
   | _=>none)
  | none=>none)
 | none=>none
theorem y3Q{K:PySem.W.Frag}{r r':R2}{g g':D->D->Option D}(hr:z5E K r g)(hr':z5E K r' g'):∀σ H Q,tD K (z36 g g' fa fb fc) σ H Q->y9H r r' (tD K fa) (tD K fb) (tD K fc) σ H Q :=
 fun σ H Q ⟨ρ,d,B,H0,V0,Z,e,r,q⟩=>by
  unfold z36 at e;split at e
  ·rename_i x ex;split at e
   ·rename_i y ey
    refine⟨ρ,x,B,H0,V0,Z,ex,r,fun u H1 s1 r1=>⟨ρ,y,B,H0,V0,Z,ey,r.mono s1,fun v H2 s2 r2=>?_⟩⟩
    have R2:=(r.mono s1).mono s2;split at e
    ·rename_i eg;split at e
     ·rename_i z ez
      refine hr x y _ eg Z H2 u v _ R2.zs (r1.mono (v0 s2)) r2 fun k H3 s3 r3=>⟨true,J8.mp r3,x17 ?_⟩
      exact⟨ρ,z,B,H0,V0,Z,ez,R2.mono s3,fun w' H4 s4 r4=>hr' y z d e Z H4 v w' Q ((R2.mono s3).mono s4).zs (r2.mono (v0 (s3.trans s4))) r4 fun k' H5 s5 r5 =>
       q k' H5 (s1.trans (s2.trans (s3.trans (s4.trans s5)))) r5⟩
     ·cases e
    ·rename_i eg;cases e
     exact hr x y _ eg Z H2 u v _ R2.zs (r1.mono (v0 s2)) r2 fun k H3 s3 r3=>⟨false,J8.mp r3,x94 (q _ H3 (s1.trans (s2.trans s3)) (J8.mpr rfl))⟩
    ·cases e
   ·cases e
  ·cases e
theorem x3T{op op':CmpOp}{r r':R2}{g g':D->D->Option D}(ho:OpR X (compareOp op) r)(hr:z5E X.K r g)(ho':OpR X (compareOp op') r')(hr':z5E X.K r' g')(ha:SE X a fa)(hb:SE X b fb)(hc:SE X c fc)(hm:lastMarks [op,op'] [b,c]=false:=by with_unfolding_all rfl):SE X (.Compare a [op,op'] [b,c] pos) (z36 g g' fa fb fc) :=
 u5 (x4A ho ho' ha hb hc hm) (y3Q hr hr')
theorem x3D{op op':CmpOp}{r r':R2}{g g':D->D->Option D}(ho:OpR X (compareOp op) r)(hr:z5E X.K r g)(ho':OpR X (compareOp op') r')(hr':z5E X.K r' g')(ha:SE X a fa)(hb:SE X b fb)(hc:SE X c fc)(hm:lastMarks [op,op'] [b,c]=false:=by with_unfolding_all rfl):STt X (.Compare a [op,op'] [b,c] pos) (x5 (z36 g g' fa fb fc)) :=
 z5L (x40 ho ho' ha hb hc hm) fun σ H Q h=>y3Q hr hr' _ _ _ (z60 σ H Q h)
noncomputable def x5D(fa fb:y0->Option D):y0->Option D:=fun ρ=>match fa ρ with|some (.bl true)=>fb ρ|some (.bl false)=>some (.bl false)|_=>none
noncomputable def w00(fa:y0->Option D):y0->Option D:=fun ρ=>match fa ρ with|some (.bl b)=>some (.bl (!b))|_=>none
noncomputable def z5U(fa fb:y0->Option Bool):y0->Option Bool:=fun ρ=>match fa ρ with|some true=>fb ρ|some false=>some false|none=>none
noncomputable def z80(fa fb:y0->Option Bool):y0->Option Bool:=fun ρ=>match fa ρ with|some true=>some true|some false=>fb ρ|none=>none
noncomputable def z0S(fa:y0->Option Bool):y0->Option Bool:=fun ρ=>(fa ρ).map (!·)
variable{rest:List Expr}
theorem w1C{op}{f:y0->Option D}(h:SE X a f):SE X (.BoolOp op [a] pos) f:=w2N h
theorem w1O(ha:SE X a fa)(hb:SE X (.BoolOp .And (b::rest) pos) fb):SE X (.BoolOp .And (a::b::rest) pos) (x5D fa fb) :=
 u5 (w2R ha hb) fun σ H Q ⟨ρ,d,B,H0,V0,Z,e,r,q⟩=>by
  unfold x5D at e;split at e
  ·rename_i ea
   exact⟨ρ,_,B,H0,V0,Z,ea,r,fun u H1 s1 r1=>⟨true,J8.mp r1,x17 ⟨ρ,d,B,H0,V0,Z,e,r.mono s1,fun v H' s rr=>q v H' (s1.trans s) rr⟩⟩⟩
  ·rename_i ea;cases e
   exact⟨ρ,_,B,H0,V0,Z,ea,r,fun u H1 s1 r1=>⟨false,J8.mp r1,x94 (q _ H1 s1 (J8.mpr rfl))⟩⟩
  ·cases e
theorem w1D(ha:SE X a fa):SE X (.UnaryOp .Not a pos) (w00 fa) :=
 u5 (w2O ha) fun σ H Q ⟨ρ,d,B,H0,V0,Z,e,r,q⟩=>by
  unfold w00 at e;split at e
  ·rename_i b' ea;cases e
   exact⟨ρ,_,B,H0,V0,Z,ea,r,fun u H1 s1 r1=>⟨b',J8.mp r1,q _ H1 s1 (J8.mpr rfl)⟩⟩
  ·cases e
variable{ga gb:y0->Option Bool}
theorem x7C(ha:STt X a ga):STw X (.BoolOp .And [a] pos) ga:=x03 ha
theorem w0D(ha:STt X a ga):STw X (.BoolOp .Or [a] pos) ga:=w28 ha
theorem w0E(ha:STt X a ga)(hb:STw X (.BoolOp .And (b::rest) pos) gb):STw X (.BoolOp .And (a::b::rest) pos) (z5U ga gb) :=
 x02 (x04 ha hb) fun σ H Q ⟨ρ,d,B,H0,V0,Z,e,r,q⟩=>by
  unfold z5U at e;split at e
  ·rename_i ea
   exact⟨ρ,_,B,H0,V0,Z,ea,r,fun H1 s1=>x17 ⟨ρ,d,B,H0,V0,Z,e,r.mono s1,fun H' s=>q H' (s1.trans s)⟩⟩
  ·rename_i ea;cases e
   exact⟨ρ,_,B,H0,V0,Z,ea,r,fun H1 s1=>x94 (q H1 s1)⟩
  ·cases e
theorem w4E(ha:STt X a ga)(hb:STw X (.BoolOp .Or (b::rest) pos) gb):STw X (.BoolOp .Or (a::b::rest) pos) (z80 ga gb) :=
 x02 (w4V ha hb) fun σ H Q ⟨ρ,d,B,H0,V0,Z,e,r,q⟩=>by
  unfold z80 at e;split at e
  ·rename_i ea;cases e
   exact⟨ρ,_,B,H0,V0,Z,ea,r,fun H1 s1=>x17 (q H1 s1)⟩
  ·rename_i ea
   exact⟨ρ,_,B,H0,V0,Z,ea,r,fun H1 s1=>x94 ⟨ρ,d,B,H0,V0,Z,e,r.mono s1,fun H' s=>q H' (s1.trans s)⟩⟩
  ·cases e
theorem w6E(h:STw X a ga):STt X a ga:=PW.pt h
theorem w0G(ha:STt X a ga):STt X (.UnaryOp .Not a pos) (z0S ga) :=
 z5L (x64 ha) fun σ H Q ⟨ρ,d,B,H0,V0,Z,e,r,q⟩=>by
  unfold z0S at e;obtain⟨b',eb,rfl⟩:=Option.map_eq_some_iff.mp e
  exact⟨ρ,b',B,H0,V0,Z,eb,r,fun H1 s1=>q H1 s1⟩
noncomputable def dIf(fc:y0->Option Bool)(fa fb:y0->Option D):y0->Option D:=fun ρ=>match fc ρ with|some true=>fa ρ|some false=>fb ρ|none=>none
theorem w4M(hc:STt X c ga)(ha:SE X a fa)(hb:SE X b fb):SE X (.IfExp c a b pos) (dIf ga fa fb) :=
 u5 (x48 hc ha hb) fun σ H Q ⟨ρ,d,B,H0,V0,Z,e,r,q⟩=>by
  unfold dIf at e;split at e
  ·rename_i ea
   exact⟨ρ,_,B,H0,V0,Z,ea,r,fun H1 s1=>x17 ⟨ρ,d,B,H0,V0,Z,e,r.mono s1,fun v H' s rr=>q v H' (s1.trans s) rr⟩⟩
  ·rename_i ea
   exact⟨ρ,_,B,H0,V0,Z,ea,r,fun H1 s1=>x94 ⟨ρ,d,B,H0,V0,Z,e,r.mono s1,fun v H' s rr=>q v H' (s1.trans s) rr⟩⟩
  ·cases e
end
noncomputable def x66:Expr->Bool
 | .Starred _ _=>false
 | _=>true
theorem y9{e:Expr}{es:List Expr}{env:Env}(h:x66 e=true):starEach (e::es) env=(false,eval e env)::starEach es env:=by
 cases e<;>first|(cases h;done)|(rw[starEach];intro _ _ z;cases z)|rw[starEach]
theorem v7{pos:Pos}{env:Env}:∀{es:List Expr},es.all x66=true->(backTo pos (starEach es env)).any (·.1)=false
 | [],_=>rfl
 | e::es,h=>by
  rw[List.all_cons,Bool.and_eq_true]at h;rw[y9 h.1];have ih:=@v7 pos env es h.2;unfold backTo at ih ⊢;rw[List.map_cons,List.any_cons,ih];rfl
noncomputable def u9:y0->Option (List D):=fun _=>some []
noncomputable def z8(f:y0->Option D)(g:y0->Option (List D)):y0->Option (List D):=fun ρ=>match f ρ with|some d=>(match g ρ with|some ds=>some (d::ds)|none=>none)|none=>none
section
variable{X:Cx}{e:Expr}{es:List Expr}{f:y0->Option D}{g:y0->Option (List D)}{pos:Pos}
theorem y66:SA X [] u9:=x0F z05 fun σ H Q ⟨ρ,ds,B,H0,V0,Z,e,r,q⟩=>by
 cases e;exact q [] H (K6.refl H) j5.nil
theorem z70(ha:SE X e f)(hr:SA X es g)(hs:starEach (e::es) X.env=(false,eval e X.env)::starEach es X.env:=by exact y9 rfl):SA X (e::es) (z8 f g) :=
 x0F (K8 ha hr hs) fun σ H Q ⟨ρ,ds,B,H0,V0,Z,e,r,q⟩=>by
  unfold z8 at e;split at e
  ·rename_i d ed;split at e
   ·rename_i ds' eds;cases e
    exact⟨ρ,d,B,H0,V0,Z,ed,r,fun v H1 s1 r1=>⟨ρ,ds',B,H0,V0,Z,eds,r.mono s1,fun vs H2 s2 r2=>q (v::vs) H2 (s1.trans s2) (j5.cons (r1.mono (v0 s2)) r2)⟩⟩
   ·cases e
  ·cases e
noncomputable def z2V(g:y0->Option (List D)):y0->Option D:=fun ρ=>match g ρ with|some ds=>if ds.length≤LIM then some (.tup ds) else none|none=>none
noncomputable def z5T(g:y0->Option (List D)):y0->Option (List D):=fun ρ=>match g ρ with|some ds=>if ds.length≤LIM then some ds else none|none=>none
theorem w14{x1}(h:SA X es g):SE X (.Tuple es x1 pos) (z2V g) :=
 u5 (w2J h) fun σ H Q ⟨ρ,d,B,H0,V0,Z,e,r,q⟩=>by
  unfold z2V at e;split at e
  ·rename_i ds eds;split at e
   ·rename_i hl;cases e
    refine⟨ρ,ds,B,H0,V0,Z,eds,r,fun xs H1 s1 r1=>⟨z5A (by rw[←r1.length];exact hl),fun p hp=>?_⟩⟩
    have sn:=j7 (o:=HO.tup xs) hp;refine q _ _ (s1.trans sn) (u0.mpr ⟨p,xs,rfl,SqT.of ?_,r1.mono (v0 sn)⟩);rw[K2 ((r.mono s1).newer hp)];exact v5
   ·cases e
  ·cases e
theorem w12(h:SA X es g):SF X (.List es pos) (z5T g) :=
 u5 (w2P h) fun σ H Q ⟨ρ,d,B,H0,V0,Z,e,r,q⟩=>by
  unfold z5T at e;split at e
  ·rename_i ds eds;split at e
   ·rename_i hl;cases e
    refine⟨ρ,_,B,H0,V0,Z,eds,r,fun xs H1 s1 r1=>⟨z5A (by rw[←r1.length];exact hl),fun p hp=>?_⟩⟩
    exact q p xs _ (s1.trans (j7 hp)) (s1.free hp) v5 (r1.mono (z1P hp (j7 hp)))
   ·cases e
  ·cases e
noncomputable def spD(K:PySem.W.Frag)(F:List D->Option D):Sp:=fun vs H Q _=>∃Z ds d,(TB K H/\∀z∈Z,∃o,H z=some o)/\j5 K (K3 Z H) ds vs/\F ds=some d/\∀v H',K6 H H'->Rep K (K3 Z H') d v->Q v H'
noncomputable def v6(F:List D->Option D)(g:y0->Option (List D)):y0->Option D:=fun ρ=>match g ρ with|some ds=>F ds|none=>none
theorem x81{k:Nat}{f':Addr}{fd:FuncData}{ps:List Str}{F:List D->Option D}{x:Str}{p:Pos}(G:FnOk X.prog X.w X.K X.mg X.base CX0 k f' fd ps (spD X.K F))(hr:Room k X.A)(hm:X.mg x=some (.ref f'))(hk:PySem.W.keepIn X.K (.ref f')=true)(hb:y48 X.K fd ps [])(ha:SA X (e::es) g)(hg:Gl X x:=by rfl)(hdb:(x==("__debug__":Str))=false:=by decide)(he:starEach (e::es) X.env=(false,eval e X.env)::starEach es X.env:=by exact y9 rfl)(hpl:(backTo pos (starEach es X.env)).any (·.1)=false:=by exact v7 rfl) :
  SE X (.Call (.Name x p) (e::es) [] pos) (v6 F g) :=
 u5 (x8I G hr hg hm hk hb .nil w51 ha hdb he hpl) fun σ H Q ⟨ρ,d,B,H0,V0,Z,e,r,q⟩=>by
  unfold v6 at e;split at e
  ·rename_i ds eds
   refine⟨ρ,ds,B,H0,V0,Z,eds,r,fun vs H1 s1 r1=>?_⟩
   show spD X.K F (vs++[]) H1 Q E0
   rw[List.append_nil]
   exact⟨Z,ds,d,⟨(r.mono s1).tb,(r.mono s1).zs⟩,r1,e,fun v H' s rr=>q v H' (s1.trans s) rr⟩
  ·cases e
end
noncomputable def J3(g k:y0->Option Out):y0->Option Out:=fun ρ=>match g ρ with|some (.nx ρ')=>k ρ'|o=>o
noncomputable def Y6:y0->Option Out:=fun ρ=>some (.nx ρ)
noncomputable def z08(f:y0->Option D):y0->Option Out:=fun ρ=>match f ρ with|some d=>some (.rt d)|none=>none
noncomputable def z1V(c:y0->Option Bool)(g k:y0->Option Out):y0->Option Out:=fun ρ=>match c ρ with|some true=>g ρ|some false=>k ρ|none=>none
noncomputable def W4(i:Nat)(f:y0->Option D):y0->Option Out:=fun ρ=>match f ρ with|some d=>some (.nx (ρ.set i (some (.sh d))))|none=>none
noncomputable def z99(i:Nat)(f:y0->Option (List D)):y0->Option Out:=fun ρ=>match f ρ with|some d=>some (.nx (ρ.set i (some (.ow d))))|none=>none
noncomputable def dAsg(f:y0->Option D)(h:D->y0->Option y0):y0->Option Out:=fun ρ=>match f ρ with|some d=>(match h d ρ with|some ρ'=>some (.nx ρ')|none=>none)|none=>none
noncomputable def w8(i:Nat):D->y0->Option y0:=fun d ρ=>some (ρ.set i (some (.sh d)))
noncomputable def z2B:List D->y0->Option y0:=fun ds ρ=>match ds with|[]=>some ρ|_=>none
noncomputable def g7(h:D->y0->Option y0)(k:List D->y0->Option y0):List D->y0->Option y0:=fun ds ρ=>match ds with|d::r=>(match h d ρ with|some ρ'=>k r ρ'|none=>none)|[]=>none
noncomputable def z2A(n:Nat)(k:List D->y0->Option y0):D->y0->Option y0:=fun d ρ=>match d with|.tup ds=>if ds.length=n then k ds ρ else none|_=>none
noncomputable def x5B(i:Nat)(f:y0->Option (List Key×List D)):y0->Option Out:=fun ρ=>match f ρ with|some d=>some (.nx (ρ.set i (some (.od d.1 d.2))))|none=>none
noncomputable def frz(i:Nat)(ρ:y0):y0:=match ρ[i]? with|some (some c)=>(match c.oc with|some o=>ρ.set i (some (.sh o.dat))|none=>ρ)|_=>ρ
theorem x8Q{c:Cell}{o:OC}(h:c.oc=some o):c=o.cell:=by cases c<;>cases h<;>rfl
noncomputable def tFD(K:PySem.W.Frag)(f:y0->Option (List Key×List D)):TE:=fun σ H Q=>∃ρ ds B H0 V0 Z,f ρ=some ds/\SR K B H0 V0 H Z σ ρ/\∀a kvs H',K6 H H'->H a=none->H' a=some (.dK kvs)->kvs.map (·.1)=ds.1->j5 K (K3 (a::Z) H') ds.2 (kvs.map (·.2))->Q (.ref a) H'
noncomputable abbrev SFD(X:Cx)(e:Expr)(f:y0->Option (List Key×List D)):Prop:=PE X e (tFD X.K f)
section
variable{X:Cx}{st:Stmt}{rest:List Stmt}{e c:Expr}{pos:Pos}{f:y0->Option D}{g k:y0->Option Out}
theorem w0O:SSs X [] Y6:=y6H x06 fun E σ H ⟨ρ,o,B,H0,V0,Z,e,r,q⟩=>by
 cases e;exact q σ H Z r
theorem x7I(h1:SS X st g)(h2:SSs X rest k):SSs X (st::rest) (J3 g k) :=
 y6H (x41 h1 h2) fun E σ H ⟨ρ,o,B,H0,V0,Z,e,r,q⟩=>by
  unfold J3 at e;split at e
  ·rename_i ρ' eg
   exact⟨ρ,_,B,H0,V0,Z,eg,r,fun σ' H' Z' r'=>⟨ρ',o,B,H0,V0,Z',e,r',q⟩⟩
  ·rename_i hne
   refine⟨ρ,o,B,H0,V0,Z,e,r,?_⟩
   cases o with
   | nx ρ'=>exact absurd e (hne ρ')
   | bk ρ'=>exact q
   | ct ρ'=>exact q
   | rt d=>exact q
theorem x5T(h1:SS X st g):SSs X [st] g:=y4S h1
theorem w0L(h:SE X e f):SS X (.Return (some e) pos) (z08 f):=z1H (x65 h) fun E σ H ⟨ρ,o,B,H0,V0,Z,e,r,q⟩=>by
 unfold z08 at e;split at e
 ·rename_i d ed;cases e
  exact⟨ρ,d,B,H0,V0,Z,ed,r,fun v H' s rr=>q v H' (r.same.trans s) (rr.mono (z1Q r.sub))⟩
 ·cases e
theorem w4K{a b:List Stmt}{fc:y0->Option Bool}(hc:STt X c fc)(ha:SSs X a g)(hb:SSs X b k):SS X (.If c a b pos) (z1V fc g k) :=
 z1H (w29 hc ha hb) fun E σ H ⟨ρ,o,B,H0,V0,Z,e,r,q⟩=>by
  unfold z1V at e;split at e
  ·rename_i ec
   exact⟨ρ,true,B,H0,V0,Z,ec,r,fun H' s=>x17 ⟨ρ,o,B,H0,V0,Z,e,r.mono s,q⟩⟩
  ·rename_i ec
   exact⟨ρ,false,B,H0,V0,Z,ec,r,fun H' s=>x94 ⟨ρ,o,B,H0,V0,Z,e,r.mono s,q⟩⟩
  ·cases e
theorem x5S{i:Nat}{x:Str}{pos':Pos}(he:SE X e f)(hN:X.N.Nodup)(hi:X.N[i]?=some x:=by rfl)(hx:Loc X.env.scope x:=by first|exact Or.inl rfl|exact Or.inr rfl)(hs:swapsWith e (some (.Name x pos')) pos.line X.env=pure false:=by rfl)(hf:X.fn x=true∨X.env.scope.names.lookup x=some .local:=by first|exact .inl rfl|exact .inr rfl):SS X (.Assign [.Name x pos'] e pos) (W4 i f) :=
 z1H (y6I hN hi hx he hs hf) fun E σ H ⟨ρ,o,B,H0,V0,Z,e,r,q⟩=>by
  unfold W4 at e;split at e
  ·rename_i d ed;cases e
   exact⟨ρ,d,B,H0,V0,Z,ed,r,fun v H' s rr=>q _ H' Z ((r.mono s).set rr)⟩
  ·cases e
theorem x7G{i:Nat}{x:Str}{pos':Pos}{fl:y0->Option (List D)}(he:SF X e fl)(hN:X.N.Nodup)(hi:X.N[i]?=some x:=by rfl)(hx:Loc X.env.scope x:=by first|exact Or.inl rfl|exact Or.inr rfl)(hs:swapsWith e (some (.Name x pos')) pos.line X.env=pure false:=by rfl)(hf:X.fn x=true∨X.env.scope.names.lookup x=some .local:=by first|exact .inl rfl|exact .inr rfl):SS X (.Assign [.Name x pos'] e pos) (z99 i fl) :=
 z1H (y6I hN hi hx he hs hf) fun E σ H ⟨ρ,o,B,H0,V0,Z,e,r,q⟩=>by
  unfold z99 at e;split at e
  ·rename_i ds ed;cases e
   refine⟨ρ,ds,B,H0,V0,Z,ed,r,fun a xs H' s hn ha rr=>q _ H' (a::Z) ?_⟩
   refine (r.more hn s ha).setO (c:=.l ds) List.mem_cons_self (fun z=>r.newer hn (r.sub _ z)) ?_ ha ⟨_,rfl,rr⟩ fun j es hj hs'=>?_
   ·exact r.same.free hn
   ·obtain⟨b,ys,t1,t2,_⟩:=r.own j es hj;rw[hs']at t1;cases t1;exact r.newer hn t2
  ·cases e
theorem x7H{i:Nat}{x:Str}{pos':Pos}{fl:y0->Option (List Key×List D)}(he:SFD X e fl)(hN:X.N.Nodup)(hi:X.N[i]?=some x:=by rfl)(hx:Loc X.env.scope x:=by first|exact Or.inl rfl|exact Or.inr rfl)(hs:swapsWith e (some (.Name x pos')) pos.line X.env=pure false:=by rfl)(hf:X.fn x=true∨X.env.scope.names.lookup x=some .local:=by first|exact .inl rfl|exact .inr rfl):SS X (.Assign [.Name x pos'] e pos) (x5B i fl) :=
 z1H (y6I hN hi hx he hs hf) fun E σ H ⟨ρ,o,B,H0,V0,Z,e,r,q⟩=>by
  unfold x5B at e;split at e
  ·rename_i ds ed;cases e
   refine⟨ρ,ds,B,H0,V0,Z,ed,r,fun a xs H' s hn ha rk rr=>q _ H' (a::Z) ?_⟩
   refine (r.more hn s ha).setO (c:=.d ds.1 ds.2) List.mem_cons_self (fun z=>r.newer hn (r.sub _ z)) ?_ ha ⟨_,rfl,rk,rr⟩ fun j es hj hs'=>?_
   ·exact r.same.free hn
   ·obtain⟨b,ys,t1,t2,_⟩:=r.own j es hj;rw[hs']at t1;cases t1;exact r.newer hn t2
  ·cases e
theorem x7R{i:Nat}{x:Str}(hN:X.N.Nodup)(hi:X.N[i]?=some x:=by rfl)(hx:Loc X.env.scope x:=by first|exact Or.inl rfl|exact Or.inr rfl)(hf:X.fn x=true∨X.env.scope.names.lookup x=some .local:=by first|exact .inl rfl|exact .inr rfl):SG X (.Name x pos) (w8 i) :=
 x0A (x8F hN hi hx hf) fun v σ H Q ⟨ρ,d,ρ',B,H0,V0,Z,e,r,rr,q⟩=>by
  cases e;exact q _ (r.set rr)
theorem x7Q:SGs X [] z2B:=y6L x8E fun v σ H Q ⟨ρ,ds,ρ',B,H0,V0,Z,e,r,rr,q⟩=>by
 unfold z2B at e;split at e
 ·cases e
  exact⟨J6.mp rr,q σ r⟩
 ·cases e
theorem x3L{es:List Expr}{h:D->y0->Option y0}{kk:List D->y0->Option y0}(h1:SG X e h)(h2:SGs X es kk)(hs:(assignEach (e::es) X.env).map (·.2)=assign e X.env::(assignEach es X.env).map (·.2):=by rfl):SGs X (e::es) (g7 h kk) :=
 y6L (x47 h1 h2 hs) fun v σ H Q ⟨ρ,ds,ρ',B,H0,V0,Z,e,r,rr,q⟩=>by
  unfold g7 at e;split at e
  ·rename_i d rs;split at e
   ·rename_i ρ1 e1;obtain⟨v',vs',rfl,t1,t2⟩:=u4.mp rr
    exact⟨v',vs',rfl,ρ,d,ρ1,B,H0,V0,Z,e1,r,t1,fun σ' r'=>⟨ρ1,rs,ρ',B,H0,V0,Z,e,r',t2,q⟩⟩
   ·cases e
  ·cases e
theorem w11{es:List Expr}{kt:Nat}{kk:List D->y0->Option y0}{n:Nat}(hc:X.calm=true)(h:SGs X es kk)(hn:(assignEach es X.env).length=n:=by rfl)(hst:(assignEach es X.env).findIdx? (·.1)=none:=by rfl):SG X (.Tuple es kt pos) (z2A n kk) :=
 x0A (w2I hc h hn hst) fun v σ H Q ⟨ρ,d,ρ',B,H0,V0,Z,e,r,rr,q⟩=>by
  unfold z2A at e;split at e
  ·rename_i ds;split at e
   ·rename_i hl;obtain⟨a,xs,rfl,t1,t2⟩:=u0.mp rr
    exact⟨a,xs,rfl,j9 w9 t1,t2.length.symm.trans hl,ρ,ds,ρ',B,H0,V0,Z,e,r,t2,q⟩
   ·cases e
  ·cases e
theorem SR.frz{K:PySem.W.Frag}{B Z:List Addr}{H0 V0 H:Hp}{σ:St}{ρ:y0}(i:Nat)(r:SR K B H0 V0 H Z σ ρ):∃Z',SR K B H0 V0 H Z' σ (frz i ρ)/\(∀b∈Z',b∈Z)/\(∀b∈Z,b∉Z'->∃(c:OC) (o:HO),ρ[i]?=some (some c.cell)/\H b=some o/\x2U K (K3 Z H) c o):=by
 unfold L3.frz;split
 ·rename_i cc hi;split
  ·rename_i c hc;have hcc:=x8Q hc;subst hcc;obtain⟨a,o,h1,h2,hnb,h3,h4,h5⟩:=r.own i c hi
   have hsub:∀b∈Z.filter (fun b=>decide (b≠a)),b∈Z:=fun b hb=>(List.mem_filter.mp hb).1
   have hm:K6 (K3 Z H) (K3 (Z.filter (fun b=>decide (b≠a))) H):=z1Q hsub
   have hl:i<ρ.length:=(List.getElem?_eq_some_iff.mp hi).1
   refine⟨Z.filter (fun b=>decide (b≠a)),⟨r.same,r.tb,r.vis.trans hm,fun b hb=>?_,fun z hz=>r.zs z (hsub z hz),fun j d q=>?_,fun j es q=>?_,fun j k fs gs b q1 q2 s1 s2=>?_,by rw[List.length_set];exact r.len⟩,hsub,fun b hb nb=>?_⟩
   ·exact List.mem_filter.mpr ⟨r.sub b hb,decide_eq_true fun z=>hnb (z▸hb)⟩
   ·rcases z0L q with⟨rfl,z,_⟩|⟨n,q⟩
    ·cases z
     refine⟨_,h1,(h5.mono hm).rep ?_⟩
     rw[K2 (fun z=>absurd rfl (of_decide_eq_true (List.mem_filter.mp z).2))]
     exact h4
    ·obtain⟨v,t1,t2⟩:=r.sh j d q
     exact⟨v,t1,t2.mono hm⟩
   ·rcases z0L q with⟨_,z,_⟩|⟨n,q⟩
    ·exact (z9S z).elim
    ·obtain⟨b,ys,t1,t2,tb,t3,t4,t5⟩:=r.own j es q
     refine⟨b,ys,t1,List.mem_filter.mpr ⟨t2,decide_eq_true fun z=>?_⟩,tb,t3,t4,t5.mono hm⟩
     subst z;exact n (r.inj i j _ _ b hi q h1 t1)
   ·rcases z0L q1 with⟨_,z,_⟩|⟨n1,q1⟩
    ·exact (z9S z).elim
    rcases z0L q2 with⟨_,z,_⟩|⟨n2,q2⟩
    ·exact (z9S z).elim
    exact r.inj j k fs gs b q1 q2 s1 s2
   ·have eb:b=a:=Classical.byContradiction fun z=>nb (List.mem_filter.mpr ⟨hb,decide_eq_true z⟩)
    subst eb
    exact⟨c,o,hi,h4,h5⟩
  ·exact⟨Z,r,fun _ h=>h,fun b hb nb=>absurd hb nb⟩
 ·exact⟨Z,r,fun _ h=>h,fun b hb nb=>absurd hb nb⟩
theorem w0P(i:Nat)(h:SS X st g):SS X st (fun ρ=>g (frz i ρ)):=z1H h fun E σ H ⟨ρ,o,B,H0,V0,Z,e,r,q⟩=>by
 obtain⟨Z',r',_⟩:=r.frz i
 exact⟨frz i ρ,o,B,H0,V0,Z',e,r',q⟩
noncomputable def Q7(h:D->y0->Option y0)(g:y0->Option Out):List D->y0->Option Out
 | [],ρ=>some (.nx ρ)
 | d::ds,ρ=>match h d ρ with
  | none=>none
  | some ρ1=>match g ρ1 with
   | some (.nx ρ2)=>Q7 h g ds ρ2
   | some (.ct ρ2)=>Q7 h g ds ρ2
   | some (.bk ρ2)=>some (.nx ρ2)
   | some (.rt v)=>some (.rt v)
   | none=>none
noncomputable def z7S(fi:y0->Option (List D))(h:D->y0->Option y0)(g:y0->Option Out):y0->Option Out:=fun ρ=>match fi ρ with|some ds=>Q7 h g ds ρ|none=>none
theorem w0Q{tg iter:Expr}{body:List Stmt}{fi:y0->Option (List D)}{h:D->y0->Option y0}(hp:PassesOwn (model X.prog X.w) X.A X.env X.xe)(hc:X.calm=true)(hi:SI X tg iter fi)(hg:SG X tg h)(hb:SSs X body g)(hs:∀x,foldedSetIterable iter X.env x=pure x:=by intro _;rfl):SS X (.For tg iter body [] pos) (z7S fi h g) :=
 z1H (w2A hp hc hi hg hb hs) fun E σ H ⟨ρ,o,B,H0,V0,Z,e,r,q⟩=>by
  unfold z7S at e;split at e
  ·rename_i ds eds
   refine⟨ρ,ds,B,H0,V0,Z,eds,r,fun J H1 s1 wk=>?_⟩
   have R1:=r.mono s1
   have RV:SR X.K B H0 (K3 Z H1) H1 Z σ ρ:=R1.vis' (fun _ _ h=>h)
   have back:∀{σ' H' Z' ρ'},SR X.K B H0 (K3 Z H1) H' Z' σ' ρ'->SR X.K B H0 V0 H' Z' σ' ρ':=fun r'=>r'.vis' (R1.vis.trans r'.vis)
   refine⟨fun i m σ' H'=>m=ds.length-i/\i≤ds.length/\∃ρ' Z',SR X.K B H0 (K3 Z H1) H' Z' σ' ρ'/\Q7 h g (ds.drop i) ρ'=some o,⟨_,rfl,Nat.zero_le _,ρ,Z,RV,e⟩,?_⟩
   rintro i m σ' H' ⟨rfl,hi',ρ',Z',r',e'⟩
   have vis:K6 (K3 Z H1) H':=r'.vis.trans w9;by_cases hlt:i<ds.length
   ·refine .inr ⟨wk.go H' vis i hlt,fun σ2 H2=>∃ρ2 Z2,SR X.K B H0 (K3 Z H1) H2 Z2 σ2 ρ2/\Q7 h g (ds.drop (i+1)) ρ2=some o,fun σ2 H2 ⟨ρ2,Z2,r2,e2⟩=>⟨ds.length-(i+1),by omega,rfl,hlt,ρ2,Z2,r2,e2⟩,fun x H3 hy=>?_⟩
    obtain⟨sH,hx⟩:=wk.yld H' vis i x H3 hy;have hd:=hx ds[i] (List.getElem?_eq_getElem hlt) Z' r'.zs r'.vis;rw[List.drop_eq_getElem_cons hlt]at e';unfold Q7 at e';split at e'
    ·cases e'
    ·rename_i ρ1 e1
     refine⟨ρ',ds[i],ρ1,B,H0,K3 Z H1,Z',e1,r'.mono sH,hd,fun σ4 r4=>?_⟩
     split at e'
     ·rename_i ρ2 e2
      exact⟨ρ1,_,B,H0,K3 Z H1,Z',e2,r4,fun σ5 H5 Z5 r5=>⟨ρ2,Z5,r5,e'⟩⟩
     ·rename_i ρ2 e2
      exact⟨ρ1,_,B,H0,K3 Z H1,Z',e2,r4,fun σ5 H5 Z5 r5=>⟨ρ2,Z5,r5,e'⟩⟩
     ·rename_i ρ2 e2
      cases e'
      exact⟨ρ1,_,B,H0,K3 Z H1,Z',e2,r4,fun σ5 H5 Z5 r5=>q σ5 H5 Z5 (back r5)⟩
     ·rename_i v e2
      cases e'
      exact⟨ρ1,_,B,H0,K3 Z H1,Z',e2,r4,q⟩
     ·cases e'
   ·have ei:i=ds.length:=by omega
    subst ei;rw[List.drop_length]at e';unfold Q7 at e'
    cases e'
    exact .inl ⟨wk.stop H' vis,q σ' H' Z' (back r')⟩
  ·cases e
theorem y96{K:PySem.W.Frag}{W0:Hp}{a:Addr}{xs:List V}{ds:List D}(h1:SqL K W0 a xs)(h2:j5 K W0 ds xs):Walk K W0 (Itl K a) ds where
 go:=fun H' s i hi=>by
  obtain⟨v,hv,_⟩:=h2.get (List.getElem?_eq_getElem hi)
  exact⟨xs,v,s.seq h1,hv⟩
 yld:=fun H' s i x H3 hy=>by
  obtain⟨rfl,hx⟩:=hy
  refine⟨K6.refl _,fun d hd Z hz hs=>?_⟩
  obtain⟨v,hv,rv⟩:=h2.get hd
  have:=hx xs (s.seq h1)
  rw[hv]at this;cases this;exact rv.mono hs
 stop:=fun H' s=>⟨xs,s.seq h1,by rw[h2.length];exact Nat.le_refl _⟩
theorem x35{K:PySem.W.Frag}{W0:Hp}{a:Addr}{xs:List V}{ds:List D}(h1:SqT K W0 a xs)(h2:j5 K W0 ds xs):Walk K W0 (Itt K a) ds where
 go:=fun H' s i hi=>by
  obtain⟨v,hv,_⟩:=h2.get (List.getElem?_eq_getElem hi)
  exact⟨xs,v,j9 s h1,hv⟩
 yld:=fun H' s i x H3 hy=>by
  obtain⟨rfl,hx⟩:=hy
  refine⟨K6.refl _,fun d hd Z hz hs=>?_⟩
  obtain⟨v,hv,rv⟩:=h2.get hd
  have:=hx xs (j9 s h1)
  rw[hv]at this;cases this;exact rv.mono hs
 stop:=fun H' s=>⟨xs,j9 s h1,by rw[h2.length];exact Nat.le_refl _⟩
noncomputable def J0(lo:Int)(n:Nat):List D:=(List.range n).map fun (k:Nat)=>D.int (lo+(k:Int))
theorem x36{K:PySem.W.Frag}{W0:Hp}(lo:Int)(n:Nat):Walk K W0 (Itr lo n) (J0 lo n) where
 go:=fun H' s i hi=>by
  show i<n
  simpa [J0] using hi
 yld:=fun H' s i x H3 hy=>by
  obtain⟨rfl,rfl⟩:=hy
  refine⟨K6.refl _,fun d hd Z hz hs=>?_⟩
  unfold J0 at hd;rw[List.getElem?_map]at hd
  cases hr:(List.range n)[i]? with
  | none=>rw[hr]at hd;cases hd
  | some k =>
   rw[hr]at hd
   have ek:k=i:=by
    have:=List.getElem?_eq_some_iff.mp hr
    obtain⟨h1,h2⟩:=this;simpa using h2.symm
   subst ek;cases hd;exact v4.mpr rfl
 stop:=fun H' s=>by
  show n≤(J0 lo n).length
  simp[J0]
variable{tg:Expr}
noncomputable def z02(f:y0->Option D):y0->Option (List D):=fun ρ=>match f ρ with|some (.lst ds)=>some ds|_=>none
noncomputable def x22(f:y0->Option D):y0->Option (List D):=fun ρ=>match f ρ with|some (.tup ds)=>some ds|_=>none
theorem w10(h:SE X e f):SI X tg e (z02 f):=z72 (x8D h) fun σ H R ⟨ρ,ds,B,H0,V0,Z,e,r,q⟩=>by
 unfold z02 at e;split at e
 ·rename_i es he;cases e
  refine⟨ρ,_,B,H0,V0,Z,he,r,fun v H' s rr=>?_⟩
  obtain⟨a,xs,rfl,h1,h2⟩:=g8.mp rr
  exact⟨a,rfl,⟨xs,w9.seq h1⟩,q _ H' s (y96 h1 h2)⟩
 ·cases e
theorem w0Y(h:SE X e f):SI X tg e (x22 f):=z72 (w2E h) fun σ H R ⟨ρ,ds,B,H0,V0,Z,e,r,q⟩=>by
 unfold x22 at e;split at e
 ·rename_i es he;cases e
  refine⟨ρ,_,B,H0,V0,Z,he,r,fun v H' s rr=>?_⟩
  obtain⟨a,xs,rfl,h1,h2⟩:=u0.mp rr
  exact⟨a,rfl,⟨xs,j9 w9 h1⟩,q _ H' s (x35 h1 h2)⟩
 ·cases e
noncomputable def okR(i:Int):Bool:=decide (-(2 ^ 62)≤i)&&decide (i<2 ^ 62)
theorem x69{i:Int}(h:okR i=true) : -(2 ^ 62)≤i/\i<2 ^ 62:=by
 unfold okR at h;rw[Bool.and_eq_true]at h
 exact⟨of_decide_eq_true h.1,of_decide_eq_true h.2⟩
noncomputable def z2W(f:y0->Option D):y0->Option (List D):=fun ρ=>match f ρ with|some (.int j)=>if okR j=true then some (J0 0 j.toNat) else none|_=>none
theorem x7O{p:Pos}(hm:X.mg "range" = none)(h:SE X e f)(hg:Gl X "range":=by rfl)(hs:starEach [e] X.env=[(false,eval e X.env)]:=by rfl):SI X tg (.Call (.Name "range" p) [e] [] pos) (z2W f) :=
 z72 (x09 hg hm (K8 h z05 (by rw[hs];rfl)) hs) fun σ H R ⟨ρ,ds,B,H0,V0,Z,e,r,q⟩=>by
  unfold z2W at e;split at e
  ·rename_i j he;split at e
   ·rename_i hok;cases e
    refine⟨ρ,_,B,H0,V0,Z,he,r,fun v H' s rr=>?_⟩
    obtain rfl:=v4.mp rr
    exact⟨j,rfl,(x69 hok).1,(x69 hok).2,q _ H' s (x36 0 j.toNat)⟩
   ·cases e
  ·cases e
noncomputable def y1U(cap:List (Option Nat))(ρ:y0):y0:=cap.map fun o=>o.bind fun j=>(ρ[j]?).bind id
noncomputable def z4M(h:D->y0->Option y0)(ft:y0->Option Bool)(fe:y0->Option D):y0->List D->Option (List D)
 | _,[]=>some []
 | ρ,d::ds=>match h d ρ with
  | none=>none
  | some ρ1=>match ft ρ1 with
   | some true=>(match fe ρ1 with
    | some y=>(match z4M h ft fe ρ1 ds with|some ys=>some (y::ys)|none=>none)
    | none=>none)
   | some false=>z4M h ft fe ρ1 ds
   | none=>none
noncomputable def Q0(cap:List (Option Nat))(fi:y0->Option (List D))(h:D->y0->Option y0)(ft:y0->Option Bool)(fe:y0->Option D):y0->Option (List D):=fun ρ=>match fi ρ with
 | some ds=>if ds.length≤LIM then z4M h ft fe (y1U cap ρ) ds else none
 | none=>none
noncomputable def z1U:y0->Option Bool:=fun _=>some true
theorem y17{K:PySem.W.Frag}{B Z:List Addr}{H0 V0 H:Hp}{σ:St}{ρ:y0}{cap:List (Option Nat)}(hinj:∀(i j k:Nat),cap[i]?=some (some k)->cap[j]?=some (some k)->i=j)(r:SR K B H0 V0 H Z σ ρ) :
  SR K B H0 V0 H Z (z9Q cap σ) (y1U cap ρ):=by
 have get:∀{c:Cell} {i:Nat},(y1U cap ρ)[i]?=some (some c)->∃j,cap[i]?=some (some j)/\ρ[j]?=some (some c):=fun {c i} q=>by
  unfold y1U at q;rw[List.getElem?_map]at q
  cases hc:cap[i]? with
  | none=>rw[hc]at q;cases q
  | some o =>
   rw[hc]at q
   cases o with
   | none=>cases q
   | some j =>
    refine⟨j,rfl,?_⟩
    have q':(ρ[j]?).bind id=some c:=Option.some.inj q
    cases hs:ρ[j]? with
    | none=>rw[hs]at q';cases q'
    | some z =>
     rw[hs]at q'
     have:z=some c:=q'
     rw[this]
 have put:∀{v:V} {i j:Nat},cap[i]?=some (some j)->σ[j]?=some (some v)->(z9Q cap σ)[i]?=some (some v):=fun {v i j} h1 h2=>by
  unfold z9Q;rw[List.getElem?_map,h1]
  show some ((σ[j]?).bind id)=_
  rw[h2];rfl
 have get':∀{v:V} {i j:Nat},cap[i]?=some (some j)->(z9Q cap σ)[i]?=some (some v)->σ[j]?=some (some v):=fun {v i j} h1 h2=>by
  unfold z9Q at h2;rw[List.getElem?_map,h1]at h2;have h2':(σ[j]?).bind id=some v:=Option.some.inj h2
  cases hs:σ[j]? with
  | none=>rw[hs]at h2';cases h2'
  | some z =>
   rw[hs]at h2'
   have:z=some v:=h2'
   rw[this]
 refine⟨r.same,r.tb,r.vis,r.sub,r.zs,fun i d q=>?_,fun i ds q=>?_,fun i j ds es a q1 q2 s1 s2=>?_,by unfold z9Q y1U;rw[List.length_map,List.length_map]⟩
 ·obtain⟨j,h1,h2⟩:=get q;obtain⟨v,t1,t2⟩:=r.sh j d h2
  exact⟨v,put h1 t1,t2⟩
 ·obtain⟨j,h1,h2⟩:=get q;obtain⟨a,xs,t1,t2⟩:=r.own j ds h2
  exact⟨a,xs,put h1 t1,t2⟩
 ·obtain⟨i',h1,h2⟩:=get q1;obtain⟨j',h3,h4⟩:=get q2
  have:i'=j':=r.inj i' j' ds es a h2 h4 (get' h1 s1) (get' h3 s2)
  subst this;exact hinj i j i' h1 h3
structure WalkC(K:PySem.W.Frag)(Z:List Addr)(H:Hp)(J:It)(ds:List D):Prop where
 go:∀H',K6 H H'->∀i,i<ds.length->J.go i H'
 yld:∀H',K6 H H'->∀(i:Nat) x H3,J.yld i H' x H3->K6 H' H3/\∀d,ds[i]?=some d->∀Z':List Addr,(∀z∈Z',∃o,H' z=some o)->K6 (K3 Z H) (K3 Z' H')->Rep K (K3 Z' H3) d x
 stop:∀H',K6 H H'->J.stop ds.length H'
noncomputable def tIc(K:PySem.W.Frag)(f:y0->Option (List D)):TI:=fun σ H R=>∃ρ ds B H0 V0 Z,f ρ=some ds/\SR K B H0 V0 H Z σ ρ/\∀J H',K6 H H'->WalkC K Z H' J ds->R J H'
noncomputable abbrev SIc(X:Cx)(tg e:Expr)(f:y0->Option (List D)):Prop:=PI X tg e (tIc X.K f)
theorem w0X{tg e:Expr}{f:y0->Option (List D)}(h:SI X tg e f):SIc X tg e f:=z72 h fun σ H R ⟨ρ,ds,B,H0,V0,Z,e,r,q⟩ =>
 ⟨ρ,ds,B,H0,V0,Z,e,r,fun J H' s wk=>q J H' s ⟨fun H2 s2=>wk.go H2 (w9.trans s2),fun H2 s2=>wk.yld H2 (w9.trans s2),fun H2 s2=>wk.stop H2 (w9.trans s2)⟩⟩
theorem y7C{cap:List (Option Nat)}{fi:y0->Option (List D)}{h:D->y0->Option y0}{ft:y0->Option Bool}{fe:y0->Option D}(hinj:∀(i j k:Nat),cap[i]?=some (some k)->cap[j]?=some (some k)->i=j) :
  ∀σ H Q,tF X.K (Q0 cap fi h ft fe) σ H Q->x7B cap (tIc X.K fi) (tG X.K h) (tT X.K ft) (tD X.K fe) σ H Q:=fun σ H Q ⟨ρ,zs,B,H0,V0,Z,e,r,q⟩=>by
  unfold Q0 at e;split at e
  ·rename_i ds eds;split at e
   ·rename_i hl
    refine⟨ρ,ds,B,H0,V0,Z,eds,r,fun J H1 s1 wk l hl1=>?_⟩
    have R1:=r.mono s1;have sl:K6 H1 (upd H1 l (.lst [])):=j7 hl1
    have RV:SR X.K B H0 (K3 Z H1) H1 Z σ ρ:=R1.vis' (fun _ _ h=>h)
    have R2':=RV.more hl1 sl v5
    have R2:SR X.K (l::B) H0 (K3 Z H1) (upd H1 l (.lst [])) (l::Z) (z9Q cap σ) (y1U cap ρ):=y17 hinj ⟨R2'.same,R2'.tb,R2'.vis,fun b hb=>(List.mem_cons.mp hb).elim (fun z=>z▸List.mem_cons_self) fun z=>R2'.sub b z,R2'.zs,R2'.sh,fun j es hj=>by
     obtain⟨a,xs,t1,t2,tb,t3,t4,t5⟩:=RV.own j es hj;obtain⟨a',xs',t1',t2',tb',t3',t4',t5'⟩:=R2'.own j es hj;rw[t1]at t1'
     cases t1'
     refine⟨a,xs',t1,t2',fun z=>?_,t3',t4',t5'⟩
     rcases List.mem_cons.mp z with z|z
     ·rw[z,hl1]at t4;cases t4
     ·exact tb z,R2'.inj,R2'.len⟩
    refine⟨fun i m σ' H' acc=>m=ds.length-i/\i≤ds.length/\H' l=some (.lst acc)/\K6 H1 H'/\acc.length≤i/\∃ρ' ys ws,SR X.K (l::B) H0 (K3 Z H1) H' (l::Z) σ' ρ'/\j5 X.K (K3 (l::Z) H') ys acc/\z4M h ft fe ρ' (ds.drop i)=some ws/\zs=ys++ws,
     ⟨_,rfl,Nat.zero_le _,v5,sl,Nat.le_refl _,y1U cap ρ,[],zs,R2,j5.nil,e,rfl⟩,?_⟩
    rintro i m σ' H' acc ⟨rfl,hi',hacc,hS,hal,ρ',ys,ws,r',ry,e',ez⟩
    have vis:K6 (K3 Z H1) H':=r'.vis.trans w9;by_cases hlt:i<ds.length
    ·refine .inr ⟨wk.go H' hS i hlt,y6Y (Nat.le_trans hal (Nat.le_trans hi' hl)),fun x H3 hy=>?_⟩
     obtain⟨sH,hx⟩:=wk.yld H' hS i x H3 hy;have hd:=hx ds[i] (List.getElem?_eq_getElem hlt) (l::Z) r'.zs r'.vis;have hacc:=sH _ _ hacc;have hS:=hS.trans sH;have ry:=ry.mono (v0 sH);rw[List.drop_eq_getElem_cons hlt]at e';unfold z4M at e';split at e'
     ·cases e'
     ·rename_i ρ1 e1
      refine⟨ρ',ds[i],ρ1,l::B,H0,K3 Z H1,l::Z,e1,r'.mono sH,hd,fun σ4 r4=>?_⟩
      split at e'
      ·rename_i et
       refine⟨ρ1,true,l::B,H0,K3 Z H1,l::Z,et,r4,fun H5 s5=>x17 ?_⟩
       split at e'
       ·rename_i y ey;split at e'
        ·rename_i yy eyy
         cases e'
         refine⟨ρ1,y,l::B,H0,K3 Z H1,l::Z,ey,r4.mono s5,fun v H6 s6 r6=>⟨s6 _ _ (s5 _ _ hacc),ds.length-(i+1),by omega,rfl,hlt,v5,z63 hl1 (hS.trans (s5.trans s6)),?_,ρ1,ys++[y],yy,?_,?_,eyy,by rw[ez];simp⟩⟩
         ·rw[List.length_append];simpa using hal
         ·have R6:=(r4.mono s5).mono s6;have vs:K6 (K3 (l::Z) H6) (K3 (l::Z) (upd H6 l (.lst (acc++[v])))):=z33 List.mem_cons_self;have nl:H0 l=none:=(r.same.trans s1).free hl1
          refine⟨z63 nl R6.same,R6.tb.upd (s6 _ _ (s5 _ _ hacc)) (fun _ z=>by cases z),R6.vis.trans vs,R6.sub,fun z hz=>?_,fun j d hj=>let ⟨u,t1,t2⟩:=R6.sh j d hj;⟨u,t1,t2.mono vs⟩,fun j es hj=>?_,R6.inj,R6.len⟩
          ·by_cases ez':z=l
           ·subst ez';exact⟨_,v5⟩
           ·obtain⟨o',ho'⟩:=R6.zs z hz
            exact⟨o',by rw[j8 ez'];exact ho'⟩
          ·obtain⟨a,xs,t1,t2,tb,t3,t4,t5⟩:=R6.own j es hj
           have na:a≠l:=fun z=>tb (z▸List.mem_cons_self)
           exact⟨a,xs,t1,t2,tb,t3,by rw[j8 na];exact t4,t5.mono vs⟩
         ·exact j5.append (ry.mono ((v0 (s5.trans s6)).trans (z33 List.mem_cons_self))) (j5.one (r6.mono (z33 List.mem_cons_self)))
        ·cases e'
       ·cases e'
      ·rename_i et
       exact⟨ρ1,false,l::B,H0,K3 Z H1,l::Z,et,r4,fun H5 s5=>x94 ⟨ds.length-(i+1),by omega,rfl,hlt,s5 _ _ hacc,hS.trans s5,by omega,ρ1,ys,ws,r4.mono s5,ry.mono (v0 s5),e',ez⟩⟩
      ·cases e'
    ·have ei:i=ds.length:=by omega
     subst ei;rw[List.drop_length]at e';unfold z4M at e'
     cases e'
     rw[List.append_nil]at ez;subst ez;exact .inl ⟨wk.stop H' hS,q l acc H' (s1.trans hS) (s1.free hl1) hacc ry⟩
   ·cases e
  ·cases e
theorem x7U{elt target iter:Expr}{ifs:List Expr}{scope:Scope}{N:List Str}{cap:List (Option Nat)}{fi:y0->Option (List D)}{h:D->y0->Option y0}{ft:y0->Option Bool}{fe:y0->Option D}(hc:X.calm=true)(hi:SIc X target iter fi)(hg:∀cl C fp s H,SG (J4 X N scope cl C fp s H) target h)(ht:∀cl C fp s H,x2S (J4 X N scope cl C fp s H) ifs (tT X.K ft))(he:∀cl C fp s H,SE (J4 X N scope cl C fp s H) elt fe)(hk:scope.kind = .function)(hcell:∀y∈scope.names,y.2 = .cell->scope.names.lookup y.1=some .cell)(hnames:∀x∈scope.names,x.2 = .local->scope.names.lookup x.1=some .local)(hfr:∀x∈scope.names,x.2 = .free->scope.names.lookup x.1=some .free)(hout:∀x∈scope.names,x.2 = .free->X.env.scope.names.lookup x.1=some .cell∨X.env.scope.names.lookup x.1=some .free)(hcap:∀(i j:Nat),cap[i]?=some (some j)->∃x,N[i]?=some x/\X.N[j]?=some x/\scope.names.lookup x=some .free)(hlen:cap.length=N.length)(hinj:∀(i j k:Nat),cap[i]?=some (some k)->cap[j]?=some (some k)->i=j)(hs:∀x,foldedSetIterable iter X.env x=pure x:=by intro _;rfl) :
  SF X (.ListComp elt [⟨target,iter,ifs,0⟩] scope pos) (Q0 cap fi h ft fe) :=
 u5 (x0C (g:=tG X.K h) (te:=tD X.K fe) hc hi hg ht he hk hcell hnames hfr hout hcap hlen hs) (y7C hinj)
end
noncomputable def gI(g:Int->Int->Int):D->D->Option D:=fun x y=>match x,y with|.int i,.int j=>some (.int (g i j))|_,_=>none
noncomputable def gB(g:Int->Int->Bool):D->D->Option D:=fun x y=>match x,y with|.int i,.int j=>some (.bl (g i j))|_,_=>none
noncomputable def gIC(C:Int->Int->Bool)(g:Int->Int->Int):D->D->Option D:=fun x y=>match x,y with|.int i,.int j=>if C i j=true then some (.int (g i j)) else none|_,_=>none
section
variable{K:PySem.W.Frag}
theorem y9Z{g:Int->Int->Int}:z5E K (rI0 fun i j=>.int (g i j)) (gI g):=by
 intro x y d e Z H u v Q zs hx hy q;unfold gI at e;split at e
 ·rename_i i j;cases e
  obtain rfl:=v4.mp hx
  obtain rfl:=v4.mp hy
  exact⟨i,j,rfl,rfl,q _ H (K6.refl H) (v4.mpr rfl)⟩
 ·cases e
theorem z7N{g:Int->Int->Bool}:z5E K (rI0 fun i j=>.bl (g i j)) (gB g):=by
 intro x y d e Z H u v Q zs hx hy q;unfold gB at e;split at e
 ·rename_i i j;cases e
  obtain rfl:=v4.mp hx
  obtain rfl:=v4.mp hy
  exact⟨i,j,rfl,rfl,q _ H (K6.refl H) (J8.mpr rfl)⟩
 ·cases e
theorem y4P{C':Int->Int->Prop}{C:Int->Int->Bool}{g:Int->Int->Int}(hC:∀i j,C i j=true->C' i j):z5E K (rI C' fun i j=>.int (g i j)) (gIC C g):=by
 intro x y d e Z H u v Q zs hx hy q;unfold gIC at e;split at e
 ·rename_i i j;split at e
  ·rename_i hc;cases e
   obtain rfl:=v4.mp hx
   obtain rfl:=v4.mp hy
   exact⟨i,j,rfl,rfl,hC i j hc,q _ H (K6.refl H) (v4.mpr rfl)⟩
  ·cases e
 ·cases e
theorem z5E.or{r r':R2}{g g':D->D->Option D}(h:z5E K r g)(h':z5E K r' g'):z5E K (fun x y H Q=>r x y H Q∨r' x y H Q) (fun x y=>match g x y with|some d=>some d|none=>g' x y):=by
 intro x y d e Z H u v Q zs hx hy q;dsimp only at e;split at e
 ·rename_i d' hd;cases e;exact .inl (h x y d hd Z H u v Q zs hx hy q)
 ·exact .inr (h' x y d e Z H u v Q zs hx hy q)
end
noncomputable def w5L:=gI (fun i j=>i+j)
noncomputable def y02:=gI (fun i j=>i-j)
noncomputable def z5K(i:Int):Bool:=decide (-(2 ^ 64)<i)&&decide (i<2 ^ 64)
noncomputable def x5C:=gIC (fun i j=>z5K i||z5K j) (fun i j=>i*j)
noncomputable def z9A:=gIC (fun _ j=>decide (0<j)) (fun i j=>i % j)
noncomputable def x23:=gIC (fun _ j=>decide (0<j)&&decide (j<1073741824)) (fun i j=>i / j)
noncomputable def y8R:=gB (fun i j=>decide (i<j))
noncomputable def w6X:=gB (fun i j=>decide (i≤j))
noncomputable def w3P:=gB (fun i j=>decide (j<i))
section
variable{X:Cx}{a b c:Expr}{fa fb fc:y0->Option D}{pos:Pos}
theorem w15(ha:SE X a fa)(hb:SE X b fb):SE X (.BinOp a .Sub b pos) (d2 y02 fa fb):=y2R w2S y9Z ha hb
theorem w1W{K:PySem.W.Frag}:z5E K (rI w3X fun i j=>.int (i*j)) x5C:=y4P (C':=w3X) fun i j h=>by
  rw[Bool.or_eq_true]at h
  rcases h with h|h
  ·unfold z5K at h;rw[Bool.and_eq_true]at h;exact .inl ⟨of_decide_eq_true h.1,of_decide_eq_true h.2⟩
  ·unfold z5K at h;rw[Bool.and_eq_true]at h;exact .inr ⟨of_decide_eq_true h.1,of_decide_eq_true h.2⟩
theorem w1H(ha:SE X a fa)(hb:SE X b fb):SE X (.BinOp a .Mod b pos) (d2 z9A fa fb):=y2R w2V (y4P fun i j h=>of_decide_eq_true h) ha hb
theorem w1N(ha:SE X a fa)(hb:SE X b fb):SE X (.BinOp a .FloorDiv b pos) (d2 x23 fa fb):=y2R x8L (y4P (C':=w63) fun i j h=>by
  rw[Bool.and_eq_true]at h
  exact⟨of_decide_eq_true h.1,of_decide_eq_true h.2⟩) ha hb
theorem w0J(ha:SE X a fa)(hb:SE X b fb):STt X (.Compare a [.Gt] [b] pos) (x5 (d2 w3P fa fb)):=y09 w53 z7N ha hb (z7O _)
end
noncomputable def w5K:D->D->Option D:=fun x y=>match x,y with
 | .tup xs,.tup ys=>if xs.length+ys.length≤LIM then some (.tup (xs++ys)) else none
 | .lst xs,.lst ys=>if xs.length+ys.length≤LIM then some (.lst (xs++ys)) else none
 | _,_=>none
noncomputable def w26(K:PySem.W.Frag):R2:=fun x y H Q=>∃a b xs ys,x = .ref a/\y = .ref b/\SqT K H a xs/\SqT K H b ys/\xs.length+ys.length≤sizeLine /\
 (xs=[]->Q (.ref b) H)/\(xs≠[]->ys=[]->Q (.ref a) H)/\(xs≠[]->ys≠[]->∀p,H p=none->Q (.ref p) (upd H p (.tup (xs++ys))))
noncomputable def w27(K:PySem.W.Frag):R2:=fun x y H Q=>∃a b xs ys,x = .ref a/\y = .ref b/\SqL K H a xs/\SqL K H b ys/\xs.length+ys.length≤sizeLine/\∀p,H p=none->Q (.ref p) (upd H p (.lst (xs++ys)))
section
variable{X:Cx}
theorem x8N:OpR X (binaryOp .Add) (w26 X.K):=by
 intro pins s σ H x y v u Q I rx ry h;obtain⟨a,b,xs,ys,rfl,rfl,ha,hb,hz,q0,q1,q2⟩:=h;by_cases hx:xs=[]
 ·cases rx;cases ry;obtain⟨its,r1,p1,_⟩:=I.tuple ha;obtain⟨its2,r2,p2,_⟩:=I.tuple hb;obtain⟨⟨cls,dd,data,sl⟩,ho,hc,n,hd⟩:=id p1;obtain⟨⟨cls2,dd2,data2,sl2⟩,ho2,hc2,n2,hd2⟩:=id p2;simp only at hc hd hc2 hd2
  subst hc hd hc2 hd2
  have hv:its=[]:=r1.nil_iff.mpr hx
  exact concat_meets ⟨_,ho,rfl⟩ ⟨_,ho2,rfl⟩ noFill_tuple_add seq_tuple_add PySem.F.slot_tuple_add PySem.F.entry_tuple_add (PySem.F.args_tuple_add_2 _ _)
   (tuple_addW0 a b its.toArray its2.toArray n n2 dd dd2 sl sl2 (by simp[hv])) ⟨ho,ho2,⟨.ref b,H,I,rfl,q0 hx⟩⟩
 ·exact x8M pins s σ H _ _ v u Q I rx ry ⟨a,b,xs,ys,rfl,rfl,ha,hb,hx,hz,q1 hx,q2 hx⟩
theorem x0H:OpR X (binaryOp .Add) (w27 X.K):=by
 intro pins s σ H x y v u Q I rx ry h;obtain⟨l,b,xs,zs,rfl,rfl,hH,hB,hz,q⟩:=h;cases rx;cases ry;obtain⟨its,r,pl,z⟩:=I.list hH;obtain⟨its2,r2,pl2,z2⟩:=I.list hB;have hl:=r.length;have hl2:=r2.length
 have ea:its.toArray++its2.toArray=(its++its2).toArray:=by simp
 obtain⟨⟨cls,dd,data,sl⟩,n,ho,hc,hdd,hd⟩:=id pl;obtain⟨⟨cls2,dd2,data2,sl2⟩,n2,ho2,hc2,hdd2,hd2⟩:=id pl2;simp only at hc hd hc2 hd2 hdd hdd2
 subst hc hd hc2 hd2 hdd hdd2
 refine concat_meets ⟨_,ho,rfl⟩ ⟨_,ho2,rfl⟩ noFill_list_add seq_list_add PySem.F.slot_list_add PySem.F.entry_list_add (PySem.F.args_list_add_2 _ _) (list_addW l b its.toArray its2.toArray n n2 none none sl sl2 (by rw[List.size_toArray,List.size_toArray];omega)) ⟨ho,ho2,?_⟩
 rw[ea]
 exact⟨.ref _,_,I.lnew (t':=s.toks) (r.append r2) (by rw[List.length_append];omega),rfl,q _ I.fresh⟩
theorem w21{K:PySem.W.Frag}:z5E K (fun x y H Q=>w26 K x y H Q∨w27 K x y H Q) w5K:=by
 intro x y d e Z H u v Q zs hx hy q
 have newer:∀{p:Addr},H p=none->p∉Z:=fun hp z=>by
  obtain⟨o,ho⟩:=zs _ z;rw[hp]at ho;cases ho
 unfold w5K at e;split at e
 ·rename_i xs ys;split at e
  ·rename_i hl;cases e;obtain⟨a,us,rfl,h1,h2⟩:=u0.mp hx;obtain⟨b,ws,rfl,h3,h4⟩:=u0.mp hy
   refine .inl ⟨a,b,us,ws,rfl,rfl,j9 w9 h1,j9 w9 h3,by rw[←h2.length,←h4.length];exact z5A hl,fun z=>?_,fun z1 z2=>?_,fun z1 z2 p hp=>?_⟩
   ·have:xs=[]:=List.eq_nil_of_length_eq_zero (by rw[h2.length,z];rfl)
    subst this;exact q _ H (K6.refl H) hy
   ·have:ys=[]:=List.eq_nil_of_length_eq_zero (by rw[h4.length,z2];rfl)
    subst this;rw[List.append_nil]at q;exact q _ H (K6.refl H) hx
   ·have sn:=j7 (o:=HO.tup (us++ws)) hp;refine q _ _ sn (u0.mpr ⟨p,_,rfl,SqT.of ?_,(j5.append h2 h4).mono (v0 sn)⟩);rw[K2 (newer hp)];exact v5
  ·cases e
 ·rename_i xs ys;split at e
  ·rename_i hl;cases e;obtain⟨a,us,rfl,h1,h2⟩:=g8.mp hx;obtain⟨b,ws,rfl,h3,h4⟩:=g8.mp hy
   refine .inr ⟨a,b,us,ws,rfl,rfl,w9.seq h1,w9.seq h3,by rw[←h2.length,←h4.length];exact z5A hl,fun p hp=>?_⟩
   have sn:=j7 (o:=HO.lst (us++ws)) hp;refine q _ _ sn (g8.mpr ⟨p,_,rfl,SqL.of ?_,(j5.append h2 h4).mono (v0 sn)⟩);rw[K2 (newer hp)];exact v5
  ·cases e
 ·cases e
variable{a b c:Expr}{fa fb fc:y0->Option D}{pos:Pos}
noncomputable def z0K:D->D->Option D:=fun x y=>match w5L x y with|some d=>some d|none=>w5K x y
theorem w1Q(ha:SE X a fa)(hb:SE X b fb):SE X (.BinOp a .Add b pos) (d2 z0K fa fb):=y2R (w2Z.or (x8N.or x0H)) (z5E.or y9Z w21) ha hb
noncomputable def y1T(fa fb:y0->Option (List D)):y0->Option (List D):=fun ρ=>match fa ρ with|some xs=>(match fb ρ with|some ys=>if xs.length+ys.length≤LIM then some (xs++ys) else none|none=>none)|none=>none
noncomputable def Z4:List D->Option (List Int)
 | []=>some []
 | .int i::r=>(Z4 r).map (i::·)
 | _::_=>none
theorem Z1:∀{ds:List D} {ns:List Int},Z4 ds=some ns->ds=ns.map D.int
 | [],ns,e=>by cases e;rfl
 | .int i::r,ns,e=>by
  unfold Z4 at e;obtain⟨ms,h1,rfl⟩:=Option.map_eq_some_iff.mp e;rw[Z1 h1];rfl
 | .non::r,ns,e=>by unfold Z4 at e;cases e
 | .bl _::r,ns,e=>by unfold Z4 at e;cases e
 | .str _::r,ns,e=>by unfold Z4 at e;cases e
 | .tup _::r,ns,e=>by unfold Z4 at e;cases e
 | .lst _::r,ns,e=>by unfold Z4 at e;cases e
 | .dct _ _::r,ns,e=>by unfold Z4 at e;cases e
theorem y8E(ns:List Int):Z4 (ns.map D.int)=some ns:=by
 induction ns with
 | nil=>rfl
 | cons n r ih=>rw[List.map_cons,Z4,ih];rfl
noncomputable def w5J:D->D->Option D:=fun x y=>match x,y with
 | .tup xs,.tup ys=>(match Z4 xs,Z4 ys with|some ns,some ms=>some (.bl (HT.lexLt ns ms))|_,_=>none)
 | _,_=>none
theorem w1Z{K:PySem.W.Frag}:z5E K (w5U K) w5J:=by
 intro x y d e Z H u v Q zs hx hy q;unfold w5J at e;split at e
 ·rename_i xs ys;split at e
  ·rename_i ns ms h1 h2;cases e;obtain⟨a,us,rfl,h3,h4⟩:=u0.mp hx;obtain⟨b,ws,rfl,h5,h6⟩:=u0.mp hy;rw[Z1 h1,Z9]at h4;rw[Z1 h2,Z9]at h6
   subst h4 h6
   exact⟨a,b,ns,ms,rfl,rfl,j9 w9 h3,j9 w9 h5,q _ H (K6.refl H) (J8.mpr rfl)⟩
  ·cases e
 ·cases e
noncomputable def dLt:D->D->Option D:=fun x y=>match y8R x y with|some d=>some d|none=>w5J x y
noncomputable def x1M:V->Bool
 | .non=>true
 | .bl _=>true
 | _=>false
theorem w2X:OpR X (compareOp .Is) (fun x y H Q=>x1M y=true/\Q (.bl (decide (x=y))) H):=by
 intro pins s σ H x y v u Q I rx ry h;obtain⟨hf,q⟩:=h
 have go:plainIs v u=true/\(v==u)=decide (x=y):=by
  cases y with
  | non=>cases ry;cases x<;>first|(cases rx;exact⟨rfl,rfl⟩)|(obtain⟨t,rfl⟩:=rx;exact⟨rfl,rfl⟩)
  | bl k =>
   cases ry
   cases x with
   | bl k'=>cases rx;refine⟨rfl,?_⟩;cases k<;>cases k'<;>rfl
   | non=>cases rx;exact⟨rfl,rfl⟩
   | ref _=>cases rx;exact⟨rfl,rfl⟩
   | ty _=>cases rx;exact⟨rfl,rfl⟩
   | int _=>obtain⟨t,rfl⟩:=rx;exact⟨rfl,rfl⟩
   | str _=>obtain⟨t,rfl⟩:=rx;exact⟨rfl,rfl⟩
   | byt _=>obtain⟨t,rfl⟩:=rx;exact⟨rfl,rfl⟩
   | flt _=>obtain⟨t,rfl⟩:=rx;exact⟨rfl,rfl⟩
  | _=>cases hf
 exact wpAny_is_plain go.1 ⟨.bl _,H,I,by rw[go.2];rfl,q⟩
theorem y2Z:OpR X (compareOp .IsNot) (fun x y H Q=>x1M y=true/\Q (.bl (!decide (x=y))) H):=by
 intro pins s σ H x y v u Q I rx ry h;obtain⟨hf,q⟩:=h
 have go:plainIs v u=true/\(v==u)=decide (x=y):=by
  cases y with
  | non=>cases ry;cases x<;>first|(cases rx;exact⟨rfl,rfl⟩)|(obtain⟨t,rfl⟩:=rx;exact⟨rfl,rfl⟩)
  | bl k =>
   cases ry
   cases x with
   | bl k'=>cases rx;refine⟨rfl,?_⟩;cases k<;>cases k'<;>rfl
   | non=>cases rx;exact⟨rfl,rfl⟩
   | ref _=>cases rx;exact⟨rfl,rfl⟩
   | ty _=>cases rx;exact⟨rfl,rfl⟩
   | int _=>obtain⟨t,rfl⟩:=rx;exact⟨rfl,rfl⟩
   | str _=>obtain⟨t,rfl⟩:=rx;exact⟨rfl,rfl⟩
   | byt _=>obtain⟨t,rfl⟩:=rx;exact⟨rfl,rfl⟩
   | flt _=>obtain⟨t,rfl⟩:=rx;exact⟨rfl,rfl⟩
  | _=>cases hf
 exact wpAny_isNot_plain go.1 ⟨.bl _,H,I,by rw[go.2];rfl,q⟩
noncomputable def isD:D->D->Option Bool:=fun x y=>match y with
 | .non=>(match x with|.non=>some true|_=>some false)
 | .bl b=>(match x with|.bl b'=>some (b'==b)|_=>some false)
 | _=>none
noncomputable def dIs:D->D->Option D:=fun x y=>(isD x y).map D.bl
noncomputable def x2Z:D->D->Option D:=fun x y=>(isD x y).map fun b=>D.bl (!b)
theorem x6K{K:PySem.W.Frag}{H:Hp}{x y:D}{u v:V}{b:Bool}(e:isD x y=some b)(hx:Rep K H x u)(hy:Rep K H y v):x1M v=true/\decide (u=v)=b:=by
 have ref:∀{x:D} {u:V},Rep K H x u->(match x with|.tup _=>∃a,u = .ref a|.lst _=>∃a,u = .ref a|.dct _ _=>∃a,u = .ref a|_=>True):=fun {x u} h=>by
  cases x with
  | tup _=>obtain⟨a,_,e,_⟩:=u0.mp h;exact⟨a,e⟩
  | lst _=>obtain⟨a,_,e,_⟩:=g8.mp h;exact⟨a,e⟩
  | dct _ _=>obtain⟨a,_,e,_⟩:=z18.mp h;exact⟨a,e⟩
  | _=>trivial
 unfold isD at e
 cases y with
 | non =>
  obtain rfl:=Y7.mp hy
  refine⟨rfl,?_⟩
  cases x with
  | non=>obtain rfl:=Y7.mp hx;cases e;rfl
  | bl _=>obtain rfl:=J8.mp hx;cases e;rfl
  | int _=>obtain rfl:=v4.mp hx;cases e;rfl
  | str _=>obtain rfl:=Y5.mp hx;cases e;rfl
  | tup _=>obtain⟨a,rfl⟩:=ref hx;cases e;rfl
  | lst _=>obtain⟨a,rfl⟩:=ref hx;cases e;rfl
  | dct _ _=>obtain⟨a,rfl⟩:=ref hx;cases e;rfl
 | bl k =>
  obtain rfl:=J8.mp hy
  refine⟨rfl,?_⟩
  cases x with
  | non=>obtain rfl:=Y7.mp hx;cases e;rfl
  | bl k'=>obtain rfl:=J8.mp hx;cases e;cases k<;>cases k'<;>rfl
  | int _=>obtain rfl:=v4.mp hx;cases e;rfl
  | str _=>obtain rfl:=Y5.mp hx;cases e;rfl
  | tup _=>obtain⟨a,rfl⟩:=ref hx;cases e;rfl
  | lst _=>obtain⟨a,rfl⟩:=ref hx;cases e;rfl
  | dct _ _=>obtain⟨a,rfl⟩:=ref hx;cases e;rfl
 | _=>cases e
theorem w4Q{K:PySem.W.Frag}:z5E K (fun x y H Q=>x1M y=true/\Q (.bl (decide (x=y))) H) dIs:=by
 intro x y d e Z H u v Q zs hx hy q;unfold dIs at e;obtain⟨b,hb,rfl⟩:=Option.map_eq_some_iff.mp e;obtain⟨h1,h2⟩:=x6K hb hx hy
 refine⟨h1,?_⟩
 rw[h2];exact q _ H (K6.refl H) (J8.mpr rfl)
theorem x61{K:PySem.W.Frag}:z5E K (fun x y H Q=>x1M y=true/\Q (.bl (!decide (x=y))) H) x2Z:=by
 intro x y d e Z H u v Q zs hx hy q;unfold x2Z at e;obtain⟨b,hb,rfl⟩:=Option.map_eq_some_iff.mp e;obtain⟨h1,h2⟩:=x6K hb hx hy
 refine⟨h1,?_⟩
 rw[h2];exact q _ H (K6.refl H) (J8.mpr rfl)
theorem w1K(ha:SE X a fa)(hb:SE X b fb):SE X (.Compare a [.IsNot] [b] pos) (d2 x2Z fa fb):=x5W y2Z x61 ha hb (z7O _)
theorem w4H(ha:SE X a fa)(hb:SE X b fb):STt X (.Compare a [.Is] [b] pos) (x5 (d2 dIs fa fb)):=y09 w2X w4Q ha hb (z7O _)
theorem w0I(ha:SE X a fa)(hb:SE X b fb):STt X (.Compare a [.IsNot] [b] pos) (x5 (d2 x2Z fa fb)):=y09 y2Z x61 ha hb (z7O _)
end
end L3
namespace L3
open PySem PySem.Spec PyProof.Rows L2 PySem.SeqAt
mutual
noncomputable def beq:D->D->Bool
 | .non,e=>(match e with|.non=>true|_=>false)
 | .bl a,e=>(match e with|.bl b=>a==b|.int j=>(if a then (1:Int) else 0)==j|_=>false)
 | .int i,e=>(match e with|.int j=>i==j|.bl b=>i==(if b then (1:Int) else 0)|_=>false)
 | .str x,e=>(match e with|.str y=>x==y|_=>false)
 | .tup xs,e=>(match e with|.tup ys=>y28 xs ys|_=>false)
 | .lst xs,e=>(match e with|.lst ys=>y28 xs ys|_=>false)
 | .dct ks xs,e=>(match e with|.dct js ys=>decide (ks=js)&&y28 xs ys|_=>false)
noncomputable def y28:List D->List D->Bool
 | [],e=>(match e with|[]=>true|_=>false)
 | x::xs,e=>(match e with|y::ys=>beq x y&&y28 xs ys|[]=>false)
end
mutual
noncomputable def depth:D->Nat
 | .tup xs=>z0J xs+1
 | .lst xs=>z0J xs+1
 | .dct _ xs=>z0J xs+1000
 | _=>0
noncomputable def z0J:List D->Nat
 | []=>0
 | x::xs=>max (depth x) (z0J xs)
end
theorem z3Q:∀{ds:List D} {i:Nat} {d:D},ds[i]?=some d->depth d≤z0J ds
 | [],_,_,e=>by simp at e
 | x::xs,0,d,e=>by simp at e;subst e;rw[z0J];omega
 | x::xs,i+1,d,e=>by
  have:=z3Q (ds:=xs) (i:=i) (d:=d) (by simpa using e)
  rw[z0J];omega
mutual
theorem z8G:∀d:D,beq d d=true
 | .non=>by rw[beq]
 | .bl b=>by rw[beq];exact beq_self_eq_true b
 | .int i=>by rw[beq];exact beq_self_eq_true i
 | .str x=>by rw[beq];exact beq_self_eq_true x
 | .tup xs=>by rw[beq];exact z6N xs
 | .lst xs=>by rw[beq];exact z6N xs
 | .dct ks xs=>by rw[beq,z6N xs];simp
theorem z6N:∀ds:List D,y28 ds ds=true
 | []=>by rw[y28]
 | d::ds=>by rw[y28,z8G d,z6N ds];rfl
end
theorem z55:∀(xs ys:List D),y28 xs ys=((List.range (min xs.length ys.length)).all (fun j=>beq (xs.getD j .non) (ys.getD j .non))&&xs.length==ys.length)
 | [],[]=>by rw[y28];rfl
 | [],y::ys=>by simp[y28]
 | x::xs,[]=>by simp[y28]
 | x::xs,y::ys=>by
  rw[y28,z55 xs ys]
  have e:min (x::xs).length (y::ys).length=min xs.length ys.length+1:=by simp only[List.length_cons];omega
  rw[e,List.range_succ_eq_map,List.all_cons,List.all_map]
  have e2:((x::xs).length==(y::ys).length)=(xs.length==ys.length):=by simp
  rw[e2,Bool.and_assoc];rfl
section
variable{X:Cx}{pins:List (Addr×Obj)}{σ:St}{H:Hp}{s:Shared}
theorem y4O{K:PySem.W.Frag}{d:D}{a:Addr}(h:Rep K H d (.ref a)):(∃ds,d = .tup ds)∨(∃ds,d = .lst ds)∨∃ks ds,d = .dct ks ds:=by
 cases d with
 | non=>cases Y7.mp h
 | bl _=>cases J8.mp h
 | int _=>cases v4.mp h
 | str _=>cases Y5.mp h
 | tup ds=>exact .inl ⟨ds,rfl⟩
 | lst ds=>exact .inr (.inl ⟨ds,rfl⟩)
 | dct ks ds=>exact .inr (.inr ⟨ks,ds,rfl⟩)
theorem y5C(I:Inv X pins σ H s){a:Addr}{kvs:List (Key×V)}(h:H a=some (.dK kvs)):∃o,s.heap.get? a=some o/\o.cls = .type "dict":=by
 obtain⟨_,_,vs,_,p⟩:=(show z03 X.prog X.w H s.heap a (.dK kvs) from I.hok a _ h)
 obtain⟨o,es,ep,h1,h2,_⟩:=p
 exact⟨o,h1,h2.1⟩
theorem w31(I:Inv X pins σ H s){a:Addr}{kvs:List (Key×V)}{xs:List V}(h:H a=some (.dK kvs))(h':SqT X.K H a xs):False:=by
 obtain⟨o,e,c⟩:=y5C I h;obtain⟨its,_,p,_⟩:=I.tuple h';obtain⟨o',h1,h2,_⟩:=p;rw[e]at h1;cases h1;rw[c]at h2
 revert h2
 simp
theorem w32(I:Inv X pins σ H s){a:Addr}{kvs:List (Key×V)}{xs:List V}(h:H a=some (.dK kvs))(h':SqL X.K H a xs):False:=by
 obtain⟨o,e,c⟩:=y5C I h;obtain⟨its,_,p,_⟩:=I.list h';obtain⟨o',n,h1,h2,_⟩:=p;rw[e]at h1;cases h1;rw[c]at h2
 revert h2
 simp
theorem x0K(I:Inv X pins σ H s){a:Addr}{xs ys:List V}(h:SqT X.K H a xs)(h':SqL X.K H a ys):False:=by
 obtain⟨its,_,p,_⟩:=I.tuple h;obtain⟨its2,_,q,_⟩:=I.list h';exact ne_of_list_tuple q.isList p rfl
mutual
theorem y19(I:Inv X pins σ H s):∀{d e:D} {v:V},Rep X.K H d v->Rep X.K H e v->d=e
 | .non,e,v,h,h'=>by
  obtain rfl:=Y7.mp h
  cases e with
  | non=>rfl
  | bl _=>cases J8.mp h'
  | int _=>cases v4.mp h'
  | str _=>cases Y5.mp h'
  | tup _=>obtain⟨_,_,z,_⟩:=u0.mp h';cases z
  | lst _=>obtain⟨_,_,z,_⟩:=g8.mp h';cases z
  | dct _ _=>obtain⟨_,_,z,_⟩:=z18.mp h';cases z
 | .bl b,e,v,h,h'=>by
  obtain rfl:=J8.mp h
  cases e with
  | non=>cases Y7.mp h'
  | bl _=>cases J8.mp h';rfl
  | int _=>cases v4.mp h'
  | str _=>cases Y5.mp h'
  | tup _=>obtain⟨_,_,z,_⟩:=u0.mp h';cases z
  | lst _=>obtain⟨_,_,z,_⟩:=g8.mp h';cases z
  | dct _ _=>obtain⟨_,_,z,_⟩:=z18.mp h';cases z
 | .int b,e,v,h,h'=>by
  obtain rfl:=v4.mp h
  cases e with
  | non=>cases Y7.mp h'
  | bl _=>cases J8.mp h'
  | int _=>cases v4.mp h';rfl
  | str _=>cases Y5.mp h'
  | tup _=>obtain⟨_,_,z,_⟩:=u0.mp h';cases z
  | lst _=>obtain⟨_,_,z,_⟩:=g8.mp h';cases z
  | dct _ _=>obtain⟨_,_,z,_⟩:=z18.mp h';cases z
 | .str b,e,v,h,h'=>by
  obtain rfl:=Y5.mp h
  cases e with
  | non=>cases Y7.mp h'
  | bl _=>cases J8.mp h'
  | int _=>cases v4.mp h'
  | str _=>cases Y5.mp h';rfl
  | tup _=>obtain⟨_,_,z,_⟩:=u0.mp h';cases z
  | lst _=>obtain⟨_,_,z,_⟩:=g8.mp h';cases z
  | dct _ _=>obtain⟨_,_,z,_⟩:=z18.mp h';cases z
 | .tup ds,e,v,h,h'=>by
  obtain⟨a,xs,rfl,h1,h2⟩:=u0.mp h
  rcases y4O h' with⟨es,rfl⟩|⟨es,rfl⟩|⟨ks,es,rfl⟩
  ·obtain⟨b,ys,z,h3,h4⟩:=u0.mp h';cases z
   have:=I.tuple_inj h1 h3
   subst this;rw[z8A I h2 h4]
  ·obtain⟨b,ys,z,h3,h4⟩:=g8.mp h';cases z;exact (x0K I h1 h3).elim
  ·obtain⟨b,ys,z,h3,h4⟩:=z18.mp h';cases z;exact (w31 I h3 h1).elim
 | .lst ds,e,v,h,h'=>by
  obtain⟨a,xs,rfl,h1,h2⟩:=g8.mp h
  rcases y4O h' with⟨es,rfl⟩|⟨es,rfl⟩|⟨ks,es,rfl⟩
  ·obtain⟨b,ys,z,h3,h4⟩:=u0.mp h';cases z;exact (x0K I h3 h1).elim
  ·obtain⟨b,ys,z,h3,h4⟩:=g8.mp h';cases z
   have:=I.list_inj h1 h3
   subst this;rw[z8A I h2 h4]
  ·obtain⟨b,ys,z,h3,h4⟩:=z18.mp h';cases z;exact (w32 I h3 h1).elim
 | .dct ks ds,e,v,h,h'=>by
  obtain⟨a,kvs,rfl,h1,h2,h2'⟩:=z18.mp h
  rcases y4O h' with⟨es,rfl⟩|⟨es,rfl⟩|⟨js,es,rfl⟩
  ·obtain⟨b,ys,z,h3,h4⟩:=u0.mp h';cases z;exact (w31 I h1 h3).elim
  ·obtain⟨b,ys,z,h3,h4⟩:=g8.mp h';cases z;exact (w32 I h1 h3).elim
  ·obtain⟨b,ys,z,h3,h4,h5⟩:=z18.mp h';cases z;rw[h1]at h3;cases h3;rw[←h2,←h4,z8A I h2' h5]
theorem z8A(I:Inv X pins σ H s):∀{ds es:List D} {xs:List V},j5 X.K H ds xs->j5 X.K H es xs->ds=es
 | [],es,xs,h,h'=>by
  obtain rfl:=J6.mp h
  cases es with
  | nil=>rfl
  | cons e es=>obtain⟨_,_,z,_⟩:=u4.mp h';cases z
 | d::ds,es,xs,h,h'=>by
  obtain⟨v,vs,rfl,h1,h2⟩:=u4.mp h
  cases es with
  | nil=>cases J6.mp h'
  | cons e es =>
   obtain⟨v',vs',z,h3,h4⟩:=u4.mp h';cases z;rw[y19 I h1 h3,z8A I h2 h4]
end
theorem Q6{α:Type}{xs:List α}{j:Nat}{d x:α}(h:xs[j]?=some x):xs.getD j d=x:=by
 rw[List.getD_eq_getElem?_getD,h];rfl
theorem x1U(I:Inv X pins σ H s){A:Around}(h0:A.units<cLine){d e:D}{x y:V}{u v:Value}(hd:depth d=0)(he:depth e<1000)(hx:Rep X.K H d x)(hy:Rep X.K H e y)(rx:z1D x u)(ry:z1D y v) :
  EqAt A s u v (beq d e)/\RcAt A s u v (beq d e)/\RcNeAt A s u v (!beq d e):=by
 cases d with
 | tup xs=>rw[depth]at hd;omega
 | lst xs=>rw[depth]at hd;omega
 | dct _ xs=>rw[depth]at hd;omega
 | non =>
  obtain rfl:=Y7.mp hx
  cases rx
  cases e with
  | non=>obtain rfl:=Y7.mp hy;cases ry;exact⟨EqAt.same _,RcAt.none_none,RcNeAt.none_none⟩
  | bl b=>obtain rfl:=J8.mp hy;cases ry;exact⟨EqAt.none_bool b,RcAt.none_bool b,RcNeAt.none_bool b⟩
  | int j=>obtain rfl:=v4.mp hy;obtain⟨t,rfl⟩:=ry;exact⟨EqAt.none_int j t,RcAt.none_int j t,RcNeAt.none_int j t⟩
  | str z=>obtain rfl:=Y5.mp hy;obtain⟨t,rfl⟩:=ry;exact⟨EqAt.none_str z t,RcAt.none_str z t,RcNeAt.none_str z t⟩
  | tup ys=>obtain⟨b,zs,rfl,h1,_⟩:=u0.mp hy;cases ry;obtain⟨its,_,p,_⟩:=I.tuple h1;exact⟨EqAt.none_tuple p h0,RcAt.none_tuple p h0,RcNeAt.none_tuple p h0⟩
  | lst ys=>obtain⟨b,zs,rfl,h1,_⟩:=g8.mp hy;cases ry;obtain⟨its,_,p,_⟩:=I.list h1;exact⟨EqAt.none_list p.isList h0,RcAt.none_list p.isList h0,RcNeAt.none_list p.isList h0⟩
  | dct _ ys=>rw[depth]at he;omega
 | bl a =>
  obtain rfl:=J8.mp hx
  cases rx
  cases e with
  | non=>obtain rfl:=Y7.mp hy;cases ry;exact⟨EqAt.bool_none a,RcAt.bool_none a,RcNeAt.bool_none a⟩
  | bl b=>obtain rfl:=J8.mp hy;cases ry;exact⟨EqAt.bool_bool a b,RcAt.bool_bool a b,RcNeAt.bool_bool a b⟩
  | int j=>obtain rfl:=v4.mp hy;obtain⟨t,rfl⟩:=ry;exact⟨EqAt.bool_int a j t,RcAt.bool_int a j t,RcNeAt.bool_int a j t⟩
  | str z=>obtain rfl:=Y5.mp hy;obtain⟨t,rfl⟩:=ry;exact⟨EqAt.bool_str a z t,RcAt.bool_str a z t,RcNeAt.bool_str a z t⟩
  | tup ys=>obtain⟨b,zs,rfl,h1,_⟩:=u0.mp hy;cases ry;obtain⟨its,_,p,_⟩:=I.tuple h1;exact⟨EqAt.bool_tuple a p h0,RcAt.bool_tuple a p h0,RcNeAt.bool_tuple a p h0⟩
  | lst ys=>obtain⟨b,zs,rfl,h1,_⟩:=g8.mp hy;cases ry;obtain⟨its,_,p,_⟩:=I.list h1;exact⟨EqAt.bool_list a p.isList h0,RcAt.bool_list a p.isList h0,RcNeAt.bool_list a p.isList h0⟩
  | dct _ ys=>rw[depth]at he;omega
 | int i =>
  obtain rfl:=v4.mp hx
  obtain⟨t0,rfl⟩:=rx
  cases e with
  | non=>obtain rfl:=Y7.mp hy;cases ry;exact⟨EqAt.int_none i t0,RcAt.int_none i t0,RcNeAt.int_none i t0⟩
  | bl b=>obtain rfl:=J8.mp hy;cases ry;exact⟨EqAt.int_bool i t0 b,RcAt.int_bool i t0 b,RcNeAt.int_bool i t0 b⟩
  | int j=>obtain rfl:=v4.mp hy;obtain⟨t,rfl⟩:=ry;exact⟨EqAt.int_int i t0 j t,RcAt.int_int i t0 j t,RcNeAt.int_int i t0 j t⟩
  | str z=>obtain rfl:=Y5.mp hy;obtain⟨t,rfl⟩:=ry;exact⟨EqAt.int_str i t0 z t,RcAt.int_str i t0 z t,RcNeAt.int_str i t0 z t⟩
  | tup ys=>obtain⟨b,zs,rfl,h1,_⟩:=u0.mp hy;cases ry;obtain⟨its,_,p,_⟩:=I.tuple h1;exact⟨EqAt.int_tuple i t0 p h0,RcAt.int_tuple i t0 p h0,RcNeAt.int_tuple i t0 p h0⟩
  | lst ys=>obtain⟨b,zs,rfl,h1,_⟩:=g8.mp hy;cases ry;obtain⟨its,_,p,_⟩:=I.list h1;exact⟨EqAt.int_list i t0 p.isList h0,RcAt.int_list i t0 p.isList h0,RcNeAt.int_list i t0 p.isList h0⟩
  | dct _ ys=>rw[depth]at he;omega
 | str w' =>
  obtain rfl:=Y5.mp hx
  obtain⟨t0,rfl⟩:=rx
  cases e with
  | non=>obtain rfl:=Y7.mp hy;cases ry;exact⟨EqAt.str_none w' t0,RcAt.str_none w' t0,RcNeAt.str_none w' t0⟩
  | bl b=>obtain rfl:=J8.mp hy;cases ry;exact⟨EqAt.str_bool w' t0 b,RcAt.str_bool w' t0 b,RcNeAt.str_bool w' t0 b⟩
  | int j=>obtain rfl:=v4.mp hy;obtain⟨t,rfl⟩:=ry;exact⟨EqAt.str_int w' t0 j t,RcAt.str_int w' t0 j t,RcNeAt.str_int w' t0 j t⟩
  | str z=>obtain rfl:=Y5.mp hy;obtain⟨t,rfl⟩:=ry;exact⟨EqAt.str_str w' t0 z t,RcAt.str_str w' t0 z t,RcNeAt.str_str w' t0 z t⟩
  | tup ys=>obtain⟨b,zs,rfl,h1,_⟩:=u0.mp hy;cases ry;obtain⟨its,_,p,_⟩:=I.tuple h1;exact⟨EqAt.str_tuple w' t0 p h0,RcAt.str_tuple w' t0 p h0,RcNeAt.str_tuple w' t0 p h0⟩
  | lst ys=>obtain⟨b,zs,rfl,h1,_⟩:=g8.mp hy;cases ry;obtain⟨its,_,p,_⟩:=I.list h1;exact⟨EqAt.str_list w' t0 p.isList h0,RcAt.str_list w' t0 p.isList h0,RcNeAt.str_list w' t0 p.isList h0⟩
  | dct _ ys=>rw[depth]at he;omega
theorem y57(I:Inv X pins σ H s):∀(n:Nat) (A:Around),A.units+n<cLine->n<1000->∀{d e:D} {x y:V} {u v:Value},depth d≤n->depth e<1000->Rep X.K H d x->Rep X.K H e y->z1D x u->z1D y v ->
  EqAt A s u v (beq d e)/\RcAt A s u v (beq d e)/\RcNeAt A s u v (!beq d e):=by
 intro n
 induction n with
 | zero =>
  intro A hu hn d e x y u v hd he hx hy rx ry
  exact x1U I (by omega) (by omega) he hx hy rx ry
 | succ n ih =>
  intro A hu hn d e x y u v hd he hx hy rx ry
  have h0:A.units<cLine:=by omega
  have h1':A.in1.units+n<cLine:=by show A.units+1+n<cLine;omega
  by_cases hd0:depth d=0
  ·exact x1U I h0 hd0 he hx hy rx ry
  ·cases d with
   | non=>exact absurd (by simp[depth]) hd0
   | bl _=>exact absurd (by simp[depth]) hd0
   | int _=>exact absurd (by simp[depth]) hd0
   | str _=>exact absurd (by simp[depth]) hd0
   | dct _ xs=>rw[depth]at hd;omega
   | tup xs =>
    obtain⟨a,us,rfl,h1,h2⟩:=u0.mp hx;cases rx;obtain⟨its,rv,p,_⟩:=I.tuple h1;rw[depth]at hd
    cases e with
    | dct _ ys=>rw[depth]at he;omega
    | non=>obtain rfl:=Y7.mp hy;cases ry;exact⟨EqAt.tuple_none p h0,RcAt.tuple_none p h0,RcNeAt.tuple_none p h0⟩
    | bl b=>obtain rfl:=J8.mp hy;cases ry;exact⟨EqAt.tuple_bool b p h0,RcAt.tuple_bool b p h0,RcNeAt.tuple_bool b p h0⟩
    | int j=>obtain rfl:=v4.mp hy;obtain⟨t,rfl⟩:=ry;exact⟨EqAt.tuple_int j t p h0,RcAt.tuple_int j t p h0,RcNeAt.tuple_int j t p h0⟩
    | str z=>obtain rfl:=Y5.mp hy;obtain⟨t,rfl⟩:=ry;exact⟨EqAt.tuple_str z t p h0,RcAt.tuple_str z t p h0,RcNeAt.tuple_str z t p h0⟩
    | lst ys =>
     obtain⟨b,zs,rfl,g1,_⟩:=g8.mp hy;cases ry;obtain⟨its2,_,p2,_⟩:=I.list g1
     exact⟨EqAt.tuple_list p p2.isList h0,RcAt.tuple_list p p2.isList h0,RcNeAt.tuple_list p p2.isList h0⟩
    | tup ys =>
     obtain⟨b,zs,rfl,g1,g2⟩:=u0.mp hy;cases ry;obtain⟨its2,rv2,p2,_⟩:=I.tuple g1
     have l1:its.toArray.size=xs.length:=by rw[List.size_toArray,←rv.length,←h2.length]
     have l2:its2.toArray.size=ys.length:=by rw[List.size_toArray,←rv2.length,←g2.length]
     have items:∀j (k1:j<its.toArray.size) (k2:j<its2.toArray.size),EqAt A.in1 s its.toArray[j] its2.toArray[j] (beq (xs.getD j .non) (ys.getD j .non)):=fun j k1 k2=>by
      have k1':j<xs.length:=by omega
      have k2':j<ys.length:=by omega
      obtain⟨vj,e1,r1⟩:=h2.get (List.getElem?_eq_getElem k1');obtain⟨wj,e2,r2⟩:=g2.get (List.getElem?_eq_getElem k2');obtain⟨uj,f1,s1⟩:=rv.get e1;obtain⟨tj,f2,s2⟩:=rv2.get e2
      have z1:its.toArray[j]=uj:=by
       rw[List.getElem?_eq_getElem (by rw[List.size_toArray]at k1;exact k1)]at f1
       simpa using f1
      have z2:its2.toArray[j]=tj:=by
       rw[List.getElem?_eq_getElem (by rw[List.size_toArray]at k2;exact k2)]at f2
       simpa using f2
      rw[z1,z2,Q6 (List.getElem?_eq_getElem k1'),Q6 (List.getElem?_eq_getElem k2')];have dd:=z3Q (List.getElem?_eq_getElem k1');have de:=z3Q (List.getElem?_eq_getElem k2');rw[depth]at he
      exact (ih A.in1 h1' (by omega) (by omega) (by omega) r1 r2 s1 s2).1
     have eb:beq (.tup xs) (.tup ys)=((List.range (min its.toArray.size its2.toArray.size)).all (fun j=>beq (xs.getD j .non) (ys.getD j .non))&&its.toArray.size==its2.toArray.size):=by
      rw[beq,z55,l1,l2]
     have rc:RcAt A s (.ref a) (.ref b) (beq (.tup xs) (.tup ys)):=by
      rw[eb];exact RcAt.tuples p p2 h0 items
     have rn:RcNeAt A s (.ref a) (.ref b) (!beq (.tup xs) (.tup ys)):=by
      rw[eb];exact RcNeAt.tuples p p2 h0 items
     refine⟨?_,rc,rn⟩
     by_cases hab:a=b
     ·subst hab;rw[y19 I hx hy,z8G];exact EqAt.same _
     ·exact EqAt.of_refs hab rc
   | lst xs =>
    obtain⟨a,us,rfl,h1,h2⟩:=g8.mp hx;cases rx;obtain⟨its,rv,p,_⟩:=I.list h1;rw[depth]at hd
    cases e with
    | dct _ ys=>rw[depth]at he;omega
    | non=>obtain rfl:=Y7.mp hy;cases ry;exact⟨EqAt.list_none p.isList h0,RcAt.list_none p.isList h0,RcNeAt.list_none p.isList h0⟩
    | bl b=>obtain rfl:=J8.mp hy;cases ry;exact⟨EqAt.list_bool b p.isList h0,RcAt.list_bool b p.isList h0,RcNeAt.list_bool b p.isList h0⟩
    | int j=>obtain rfl:=v4.mp hy;obtain⟨t,rfl⟩:=ry;exact⟨EqAt.list_int j t p.isList h0,RcAt.list_int j t p.isList h0,RcNeAt.list_int j t p.isList h0⟩
    | str z=>obtain rfl:=Y5.mp hy;obtain⟨t,rfl⟩:=ry;exact⟨EqAt.list_str z t p.isList h0,RcAt.list_str z t p.isList h0,RcNeAt.list_str z t p.isList h0⟩
    | tup ys =>
     obtain⟨b,zs,rfl,g1,_⟩:=u0.mp hy;cases ry;obtain⟨its2,_,p2,_⟩:=I.tuple g1
     exact⟨EqAt.list_tuple p.isList p2 h0,RcAt.list_tuple p.isList p2 h0,RcNeAt.list_tuple p.isList p2 h0⟩
    | lst ys =>
     obtain⟨b,zs,rfl,g1,g2⟩:=g8.mp hy;cases ry;obtain⟨its2,rv2,p2,_⟩:=I.list g1
     have l1:its.toArray.size=xs.length:=by rw[List.size_toArray,←rv.length,←h2.length]
     have l2:its2.toArray.size=ys.length:=by rw[List.size_toArray,←rv2.length,←g2.length]
     have items:∀j (k1:j<its.toArray.size) (k2:j<its2.toArray.size),EqAt A.in1 s its.toArray[j] its2.toArray[j] (beq (xs.getD j .non) (ys.getD j .non)):=fun j k1 k2=>by
      have k1':j<xs.length:=by omega
      have k2':j<ys.length:=by omega
      obtain⟨vj,e1,r1⟩:=h2.get (List.getElem?_eq_getElem k1');obtain⟨wj,e2,r2⟩:=g2.get (List.getElem?_eq_getElem k2');obtain⟨uj,f1,s1⟩:=rv.get e1;obtain⟨tj,f2,s2⟩:=rv2.get e2
      have z1:its.toArray[j]=uj:=by
       rw[List.getElem?_eq_getElem (by rw[List.size_toArray]at k1;exact k1)]at f1
       simpa using f1
      have z2:its2.toArray[j]=tj:=by
       rw[List.getElem?_eq_getElem (by rw[List.size_toArray]at k2;exact k2)]at f2
       simpa using f2
      rw[z1,z2,Q6 (List.getElem?_eq_getElem k1'),Q6 (List.getElem?_eq_getElem k2')];have dd:=z3Q (List.getElem?_eq_getElem k1');have de:=z3Q (List.getElem?_eq_getElem k2');rw[depth]at he
      exact (ih A.in1 h1' (by omega) (by omega) (by omega) r1 r2 s1 s2).1
     have both:RcAt A s (.ref a) (.ref b) (beq (.lst xs) (.lst ys))/\RcNeAt A s (.ref a) (.ref b) (!beq (.lst xs) (.lst ys)):=by
      by_cases hl:its.toArray.size=its2.toArray.size
      ·have eb:beq (.lst xs) (.lst ys)=((List.range its.toArray.size).all (fun j=>beq (xs.getD j .non) (ys.getD j .non))):=by
        rw[beq,z55]
        have:xs.length=ys.length:=by omega
        rw[l1,this,Nat.min_self];simp
       rw[eb]
       exact⟨RcAt.lists p.isList p2.isList hl h0 items,RcNeAt.lists p.isList p2.isList hl h0 items⟩
      ·have eb:beq (.lst xs) (.lst ys)=false:=by
        rw[beq,z55]
        have:(xs.length==ys.length)=false:=by simp;omega
        rw[this,Bool.and_false]
       rw[eb]
       exact⟨RcAt.lists_lengths p.isList p2.isList (by simpa using hl) h0,RcNeAt.lists_lengths p.isList p2.isList (by simpa using hl) h0⟩
     refine⟨?_,both⟩
     by_cases hab:a=b
     ·subst hab;rw[y19 I hx hy,z8G];exact EqAt.same _
     ·exact EqAt.of_refs hab both.1
end
noncomputable def z2P:Nat:=60
noncomputable def w5Y(K:PySem.W.Frag):R2:=fun x y H Q=>∃d e,depth d≤z2P/\depth e≤z2P/\Rep K H d x/\Rep K H e y/\Q (.bl (beq d e)) H
noncomputable def w5T(K:PySem.W.Frag):R2:=fun x y H Q=>∃d e,depth d≤z2P/\depth e≤z2P/\Rep K H d x/\Rep K H e y/\Q (.bl (!beq d e)) H
noncomputable def dEq:D->D->Option D:=fun x y=>if depth x≤z2P/\depth y≤z2P then some (.bl (beq x y)) else none
noncomputable def dNe:D->D->Option D:=fun x y=>if depth x≤z2P/\depth y≤z2P then some (.bl (!beq x y)) else none
section
variable{X:Cx}{a b c:Expr}{fa fb fc:y0->Option D}{pos:Pos}
theorem x68(hu:X.A.units+64<cLine):OpR X (compareOp .Eq) (w5Y X.K):=by
 intro pins s σ H x y v u Q I rx ry h;obtain⟨d,e,hd,he,hx,hy,q⟩:=h
 have he':depth e<1000:=Nat.lt_of_le_of_lt he (by unfold z2P;decide)
 exact (y57 I z2P X.A (by unfold z2P;omega) (by unfold z2P;decide) hd he' hx hy rx ry).2.1 X.prog X.w X.xe _ ⟨.bl _,H,I,rfl,q⟩
theorem w2T(hu:X.A.units+64<cLine):OpR X (compareOp .NotEq) (w5T X.K):=by
 intro pins s σ H x y v u Q I rx ry h;obtain⟨d,e,hd,he,hx,hy,q⟩:=h
 have he':depth e<1000:=Nat.lt_of_le_of_lt he (by unfold z2P;decide)
 exact (y57 I z2P X.A (by unfold z2P;omega) (by unfold z2P;decide) hd he' hx hy rx ry).2.2 X.prog X.w X.xe _ ⟨.bl _,H,I,rfl,q⟩
theorem x62{K:PySem.W.Frag}:z5E K (w5Y K) dEq:=by
 intro x y d e Z H u v Q zs hx hy q;unfold dEq at e;split at e
 ·rename_i h;cases e
  exact⟨x,y,h.1,h.2,hx.mono w9,hy.mono w9,q _ H (K6.refl H) (J8.mpr rfl)⟩
 ·cases e
theorem w1V{K:PySem.W.Frag}:z5E K (w5T K) dNe:=by
 intro x y d e Z H u v Q zs hx hy q;unfold dNe at e;split at e
 ·rename_i h;cases e
  exact⟨x,y,h.1,h.2,hx.mono w9,hy.mono w9,q _ H (K6.refl H) (J8.mpr rfl)⟩
 ·cases e
theorem w4N(hu:X.A.units+64<cLine)(ha:SE X a fa)(hb:SE X b fb):SE X (.Compare a [.Eq] [b] pos) (d2 dEq fa fb):=x5W (x68 hu) x62 ha hb (z7O _)
theorem w4J(hu:X.A.units+64<cLine)(ha:SE X a fa)(hb:SE X b fb):STt X (.Compare a [.Eq] [b] pos) (x5 (d2 dEq fa fb)):=y09 (x68 hu) x62 ha hb (z7O _)
theorem w4F(hu:X.A.units+64<cLine)(ha:SE X a fa)(hb:SE X b fb):STt X (.Compare a [.NotEq] [b] pos) (x5 (d2 dNe fa fb)):=y09 (w2T hu) w1V ha hb (z7O _)
noncomputable def inD(x:D)(ds:List D):Bool:=ds.any fun y=>beq y x
noncomputable def w4R(K:PySem.W.Frag)(neg:Bool):R2:=fun x y H Q=>∃d ds p xs,z0J ds≤z2P/\depth d≤z2P/\Rep K H d x/\y = .ref p/\(SqL K H p xs∨SqT K H p xs)/\j5 K H ds xs/\Q (.bl (if neg then !inD d ds else inD d ds)) H
open Classical in
noncomputable def inE (ds:List D) (its:List Value) (x:D) (u:Value):Bool:=if ∃(j:Nat) (d:D),its[j]?=some u/\ds[j]?=some d/\beq d x=true then true else false
theorem y76{pins:List (Addr×Obj)}{σ:St}{H:Hp}{s:Shared}(I:Inv X pins σ H s){ds:List D}{xs:List V}{its:List Value}{x d:D}{u:Value}{j:Nat}(hr:j5 X.K H ds xs)(rv:Z3 xs its)(h1:its[j]?=some u)(h2:ds[j]?=some d):inE ds its x u=beq d x:=by
 unfold inE
 have uniq:∀(i:Nat) (e:D),its[i]?=some u->ds[i]?=some e->e=d:=fun i e g1 g2=>by
  obtain⟨v,e1,r1⟩:=hr.get g2;obtain⟨w',e2,r2⟩:=hr.get h2;obtain⟨u1,f1,s1⟩:=rv.get e1;obtain⟨u2,f2,s2⟩:=rv.get e2;rw[g1]at f1;cases f1;rw[h1]at f2;cases f2
  have:v=w':=s1.inj s2
  subst this;exact y19 I r1 r2
 by_cases hb:beq d x=true
 ·rw[if_pos ⟨j,d,h1,h2,hb⟩,hb]
 ·rw[if_neg ?_]
  ·exact (Bool.eq_false_iff.mpr hb).symm
  ·rintro ⟨i,e,g1,g2,g3⟩
   rw[uniq i e g1 g2]at g3;exact hb g3
theorem y22{pins:List (Addr×Obj)}{σ:St}{H:Hp}{s:Shared}(I:Inv X pins σ H s){ds:List D}{xs:List V}{its:List Value}{x:D}(hr:j5 X.K H ds xs)(rv:Z3 xs its):its.any (inE ds its x)=inD x ds:=by
 have hl1:=hr.length;have hl2:=rv.length;rw[Bool.eq_iff_iff];unfold inD;rw[List.any_eq_true,List.any_eq_true];constructor
 ·rintro ⟨u,hu,e⟩
  obtain⟨j,hj,rfl⟩:=List.mem_iff_getElem.mp hu
  have h2:ds[j]?=some ds[j]:=List.getElem?_eq_getElem (by omega)
  rw[y76 I hr rv (List.getElem?_eq_getElem hj) h2]at e
  exact⟨ds[j],List.getElem_mem _,e⟩
 ·rintro ⟨d,hd,e⟩
  obtain⟨j,hj,rfl⟩:=List.mem_iff_getElem.mp hd
  have h1:its[j]?=some its[j]:=List.getElem?_eq_getElem (by omega)
  refine⟨its[j],List.getElem_mem _,?_⟩
  rw[y76 I hr rv h1 (List.getElem?_eq_getElem hj)];exact e
theorem z8U{pins:List (Addr×Obj)}{σ:St}{H:Hp}{s:Shared}(I:Inv X pins σ H s)(hu:X.A.units+64<cLine){ds:List D}{xs:List V}{its:List Value}{x:D}{xv:V}{v:Value}(hr:j5 X.K H ds xs)(rv:Z3 xs its)(hd:z0J ds≤z2P)(hd':depth x≤z2P)(hx:Rep X.K H x xv)(rx:z1D xv v):∀w'∈its.toArray,EqAt X.A.in1 s w' v (inE ds its x w'):=fun w' hw=>by
 have hl1:=hr.length;have hl2:=rv.length
 have hw':w'∈its:=by simpa using hw
 obtain⟨j,hj,rfl⟩:=List.mem_iff_getElem.mp hw'
 have h2:ds[j]?=some ds[j]:=List.getElem?_eq_getElem (by omega)
 have h1:its[j]?=some its[j]:=List.getElem?_eq_getElem hj;rw[y76 I hr rv h1 h2];obtain⟨z,e1,r1⟩:=hr.get h2;obtain⟨u1,f1,s1⟩:=rv.get e1;rw[h1]at f1;cases f1;have dd:=z3Q h2
 exact (y57 I z2P X.A.in1 (by show X.A.units+1+z2P<cLine;unfold z2P;omega) (by unfold z2P;decide) (by omega) (Nat.lt_of_le_of_lt hd' (by unfold z2P;decide)) r1 hx s1 rx).1
theorem w2Y(hu:X.A.units+64<cLine):OpR X (compareOp .In) (w4R X.K false):=by
 intro pins s σ H x y v u Q I rx ry h;obtain⟨d,ds,p,xs,hd,hd',hx,rfl,hq,hr,q⟩:=h;cases ry
 rcases hq with hq|hq
 ·obtain⟨its,rv,pl,_⟩:=I.list hq;refine SeqAt.in_listAt (inE ds its d) pl.isList (z8U I hu hr rv hd hd' hx rx) ⟨.bl _,H,I,rfl,?_⟩
  rw[show its.toArray.any (inE ds its d)=its.any (inE ds its d) by simp,y22 I hr rv]
  exact q
 ·obtain⟨its,rv,pl,_⟩:=I.tuple hq;refine SeqAt.in_tupleAt (inE ds its d) pl (z8U I hu hr rv hd hd' hx rx) ⟨.bl _,H,I,rfl,?_⟩
  rw[show its.toArray.any (inE ds its d)=its.any (inE ds its d) by simp,y22 I hr rv]
  exact q
theorem x0G(hu:X.A.units+64<cLine):OpR X (compareOp .NotIn) (w4R X.K true):=by
 intro pins s σ H x y v u Q I rx ry h;obtain⟨d,ds,p,xs,hd,hd',hx,rfl,hq,hr,q⟩:=h;cases ry
 rcases hq with hq|hq
 ·obtain⟨its,rv,pl,_⟩:=I.list hq;refine SeqAt.notIn_listAt (inE ds its d) pl.isList (z8U I hu hr rv hd hd' hx rx) ⟨.bl _,H,I,rfl,?_⟩
  rw[show its.toArray.any (inE ds its d)=its.any (inE ds its d) by simp,y22 I hr rv]
  exact q
 ·obtain⟨its,rv,pl,_⟩:=I.tuple hq;refine SeqAt.notIn_tupleAt (inE ds its d) pl (z8U I hu hr rv hd hd' hx rx) ⟨.bl _,H,I,rfl,?_⟩
  rw[show its.toArray.any (inE ds its d)=its.any (inE ds its d) by simp,y22 I hr rv]
  exact q
noncomputable def dIn(neg:Bool)(fa:y0->Option D)(fb:y0->Option (List D)):y0->Option D:=fun ρ=>match fa ρ with
 | some x=>(match fb ρ with|some ds=>if z0J ds≤z2P/\depth x≤z2P then some (.bl (if neg then !inD x ds else inD x ds)) else none|none=>none)
 | none=>none
theorem x6L{K:PySem.W.Frag}{neg:Bool}{fb:y0->Option (List D)}:∀σ H Q,tD K (dIn neg fa fb) σ H Q->tOp (w4R K neg) (tD K fa) (tQ K fb) σ H Q :=
 fun σ H Q ⟨ρ,d,B,H0,V0,Z,e,r,q⟩=>by
  unfold dIn at e;split at e
  ·rename_i x ex;split at e
   ·rename_i ds ey;split at e
    ·rename_i hd;cases e
     exact⟨ρ,x,B,H0,V0,Z,ex,r,fun u H1 s1 r1=>⟨ρ,ds,B,H0,V0,Z,ey,r.mono s1,fun p xs H2 s2 hq r2 =>
      ⟨x,ds,p,xs,hd.1,hd.2,(r1.mono (v0 s2)).mono w9,rfl,hq.imp id (j9 w9),r2.mono w9,q _ H2 (s1.trans s2) (J8.mpr rfl)⟩⟩⟩
    ·cases e
   ·cases e
  ·cases e
theorem w4I{fb:y0->Option (List D)}(hu:X.A.units+64<cLine)(ha:SE X a fa)(hb:SQ X b fb)(hm:behindInMarks .In b=false:=by with_unfolding_all rfl):STt X (.Compare a [.In] [b] pos) (x5 (dIn false fa fb)) :=
 z5L (y4R (w2Y hu) ha hb hm) fun σ H Q h=>x6L _ _ _ (z60 σ H Q h)
theorem w0H{fb:y0->Option (List D)}(hu:X.A.units+64<cLine)(ha:SE X a fa)(hb:SQ X b fb)(hm:behindInMarks .NotIn b=false:=by with_unfolding_all rfl):STt X (.Compare a [.NotIn] [b] pos) (x5 (dIn true fa fb)) :=
 z5L (y4R (x0G hu) ha hb hm) fun σ H Q h=>x6L _ _ _ (z60 σ H Q h)
theorem x3V{K:PySem.W.Frag}{H:Hp}{ds:List D}{xs:List V}{i:Int}{d:D}(h:j5 K H ds xs)(e:atI ds i=some d):∃v,atI xs i=some v/\Rep K H d v:=by
 unfold atI at e ⊢;rw[←h.length]
 cases hi:ixN ds.length i with
 | none=>rw[hi]at e;cases e
 | some j =>
  rw[hi]at e;exact h.get e
noncomputable def dIx(fa:y0->Option (List D))(fb:y0->Option D):y0->Option D:=fun ρ=>match fa ρ with|some ds=>(match fb ρ with|some (.int i)=>atI ds i|_=>none)|none=>none
theorem w4L{fa:y0->Option (List D)}(ha:SQ X a fa)(hb:SE X b fb)(hs:y5O b:=by exact fun _ _=>rfl):SE X (.Subscript a b pos) (dIx fa fb) :=
 u5 (w4Z w3C ha hb hs) fun σ H Q ⟨ρ,d,B,H0,V0,Z,e,r,q⟩=>by
  unfold dIx at e;split at e
  ·rename_i ds eds;split at e
   ·rename_i i ei
    refine⟨ρ,ds,B,H0,V0,Z,eds,r,fun p xs H1 s1 hq r1=>⟨ρ,_,B,H0,V0,Z,ei,r.mono s1,fun u H2 s2 r2=>?_⟩⟩
    obtain rfl:=v4.mp r2
    obtain⟨v,hv,rv⟩:=x3V (r1.mono (v0 s2)) e;have fin:=q v H2 (s1.trans s2) rv
    rcases hq with hq|hq
    ·exact .inl ⟨p,xs,i,v,rfl,rfl,s2.seq hq,hv,fin⟩
    ·exact .inr (.inl ⟨p,xs,i,v,rfl,rfl,j9 s2 (j9 w9 hq),hv,fin⟩)
   ·cases e
  ·cases e
noncomputable def tO(K:PySem.W.Frag)(f:y0->Option (Option Int)):TO:=fun σ H Q=>∃ρ o B H0 V0 Z,f ρ=some o/\SR K B H0 V0 H Z σ ρ/\∀H',K6 H H'->Q o H'
noncomputable abbrev SO(X:Cx)(e:Option Expr)(f:y0->Option (Option Int)):Prop:=PO X e (tO X.K f)
noncomputable def z0O:y0->Option (Option Int):=fun _=>some none
noncomputable def u8(f:y0->Option D):y0->Option (Option Int):=fun ρ=>match f ρ with|some (.int i)=>some (some i)|_=>none
theorem x7L:SO X none z0O:=fun pins s σ H Q I ⟨ρ,o,B,H0,V0,Z,e,r,q⟩=>by
 cases e;exact x8A pins s σ H Q I (q H (K6.refl H))
theorem x7K{f:y0->Option D}(h:SE X a f):SO X (some a) (u8 f):=fun pins s σ H Q I ⟨ρ,o,B,H0,V0,Z,e,r,q⟩=>by
 refine x89 h pins s σ H Q I ?_;unfold u8 at e;split at e
 ·rename_i i ei;cases e
  exact⟨ρ,_,B,H0,V0,Z,ei,r,fun v H' s rr=>⟨i,v4.mp rr,q H' s⟩⟩
 ·cases e
noncomputable def cut{α:Type}(xs:List α)(lo hi:Option Int):List α:=(xs.drop (HT.sIx xs.length 0 lo)).take (HT.sIx xs.length xs.length hi-HT.sIx xs.length 0 lo)
theorem y6D{K:PySem.W.Frag}{H:Hp}{ds:List D}{xs:List V}(lo hi:Option Int)(h:j5 K H ds xs):j5 K H (cut ds lo hi) (x30 xs lo hi):=by
 unfold cut x30;rw[h.length];exact (h.drop _).take _
noncomputable def dSl:D->Option Int->Option Int->Option D:=fun x lo hi=>match x with
 | .tup ds=>if HT.sIx ds.length 0 lo=0/\HT.sIx ds.length ds.length hi=ds.length then none else some (.tup (cut ds lo hi))
 | .lst ds=>some (.lst (cut ds lo hi))
 | _=>none
noncomputable def z29(f:y0->Option D)(fl fh:y0->Option (Option Int)):y0->Option D:=fun ρ=>match f ρ with
 | some x=>(match fl ρ with|some lo=>(match fh ρ with|some hi=>dSl x lo hi|none=>none)|none=>none)
 | none=>none
theorem w19{lo hi:Option Expr}{p2:Pos}{fl fh:y0->Option (Option Int)}(he:SE X a fa)(hl:SO X lo fl)(hh:SO X hi fh):SE X (.Subscript a (.Slice lo hi none p2) pos) (z29 fa fl fh) :=
 u5 (y6O (sl_tup.or x7M) he hl hh) fun σ H Q ⟨ρ,d,B,H0,V0,Z,e,r,q⟩=>by
  unfold z29 at e;split at e
  ·rename_i x ex;split at e
   ·rename_i l el;split at e
    ·rename_i h eh
     refine⟨ρ,x,B,H0,V0,Z,ex,r,fun u H1 s1 r1=>⟨ρ,l,B,H0,V0,Z,el,r.mono s1,fun H2 s2=>⟨ρ,h,B,H0,V0,Z,eh,(r.mono s1).mono s2,fun H3 s3=>?_⟩⟩⟩
     have R3:=((r.mono s1).mono s2).mono s3;have rx:=r1.mono (v0 (s2.trans s3));unfold dSl at e;split at e
     ·rename_i ds;split at e
      ·cases e
      ·rename_i hw;cases e;obtain⟨p,xs,rfl,h1,h2⟩:=u0.mp rx
       refine .inl ⟨p,xs,rfl,j9 w9 h1,by rw[←h2.length];exact hw,fun n hn=>?_⟩
       have sn:=j7 (o:=HO.tup (x30 xs l h)) hn;refine q _ _ (s1.trans (s2.trans (s3.trans sn))) (u0.mpr ⟨n,_,rfl,SqT.of ?_,(y6D l h h2).mono (v0 sn)⟩);rw[K2 (R3.newer hn)];exact v5
     ·rename_i ds;cases e;obtain⟨p,xs,rfl,h1,h2⟩:=g8.mp rx
      refine .inr ⟨p,xs,rfl,w9.seq h1,fun n hn=>?_⟩
      have sn:=j7 (o:=HO.lst (x30 xs l h)) hn;refine q _ _ (s1.trans (s2.trans (s3.trans sn))) (g8.mpr ⟨n,_,rfl,SqL.of ?_,(y6D l h h2).mono (v0 sn)⟩);rw[K2 (R3.newer hn)];exact v5
     ·cases e
    ·cases e
   ·cases e
  ·cases e
noncomputable def z09(f:y0->Option (List D)):y0->Option D:=fun ρ=>(f ρ).map fun ds=>D.int ds.length
theorem w1I{p:Pos}{f:y0->Option (List D)}(hm:X.mg "len" = none)(h:SQ X a f)(hg:Gl X "len":=by rfl)(he:starEach [a] X.env=(false,eval a X.env)::starEach [] X.env:=by exact y9 rfl)(hpl:(backTo pos (starEach [] X.env)).any (·.1)=false:=by exact v7 rfl):SE X (.Call (.Name "len" p) [a] [] pos) (z09 f) :=
 u5 (z1N y3S hg hm PySem.boot_len (K8 h z05 he) (by decide) (by decide) he hpl) fun σ H Q ⟨ρ,d,B,H0,V0,Z,e,r,q⟩=>by
  unfold z09 at e;obtain⟨ds,eds,rfl⟩:=Option.map_eq_some_iff.mp e
  exact⟨ρ,ds,B,H0,V0,Z,eds,r,fun p xs H' s hq rr=>⟨p,xs,rfl,hq.imp id (j9 w9),q _ H' s (by rw[←rr.length];exact v4.mpr rfl)⟩⟩
noncomputable def z58(f:y0->Option (List D)):y0->Option D:=fun ρ=>(f ρ).map D.tup
theorem x3P{p:Pos}{f:y0->Option (List D)}(hm:X.mg "tuple" = none)(h:SQ X a f)(hg:Gl X "tuple":=by rfl)(he:starEach [a] X.env=(false,eval a X.env)::starEach [] X.env:=by exact y9 rfl)(hpl:(backTo pos (starEach [] X.env)).any (·.1)=false:=by exact v7 rfl)(hv:bootBuiltins "tuple" = some (.type "tuple"):=by decide +kernel):SE X (.Call (.Name "tuple" p) [a] [] pos) (z58 f) :=
 u5 (z3N z6M hg hm hv (K8 h z05 he) (by decide) (by decide) he hpl) fun σ H Q ⟨ρ,d,B,H0,V0,Z,e,r,q⟩=>by
  unfold z58 at e;obtain⟨ds,eds,rfl⟩:=Option.map_eq_some_iff.mp e
  refine⟨ρ,ds,B,H0,V0,Z,eds,r,fun p xs H' s hq rr=>⟨p,xs,rfl,?_⟩⟩
  rcases hq with hq|hq
  ·refine .inl ⟨hq,fun l hl=>?_⟩
   have sn:=j7 (o:=HO.tup xs) hl;refine q _ _ (s.trans sn) (u0.mpr ⟨l,xs,rfl,SqT.of ?_,rr.mono (v0 sn)⟩);rw[K2 ((r.mono s).newer hl)];exact v5
  ·exact .inr ⟨j9 w9 hq,q _ H' s (u0.mpr ⟨p,xs,rfl,hq,rr⟩)⟩
end
end L3
namespace L3
open PySem PySem.W PyProof.Rows
noncomputable def z2H{α:Type}(lt:Nat->Nat->Bool):KasT α->α
 | .ret a=>a
 | .ask i j k=>z2H lt (k (lt i j))
theorem z1A{α β:Type}(lt:Nat->Nat->Bool)(f:α->KasT β):∀t:KasT α,z2H lt (t.bind f)=z2H lt (f (z2H lt t))
 | .ret _=>rfl
 | .ask i j k=>z1A lt f (k (lt i j))
structure KOrd(lt:Nat->Nat->Bool):Prop where
 asym:∀i j,lt i j=true->lt j i=false
 tr:∀i j k,lt j i=false->lt k j=false->lt k i=false
noncomputable def gt(p:Array Nat)(i:Nat):Nat:=p.getD i 0
theorem y8F{p q:Array Nat}{i j:Nat}(h:p[i]?=q[j]?):gt p i=gt q j:=by
 unfold gt;rw[Array.getD_eq_getD_getElem?,Array.getD_eq_getD_getElem?,h]
noncomputable def Up(lt:Nat->Nat->Bool)(p:Array Nat)(b:Nat):Prop:=∀i j,i≤j->j<b->lt (gt p j) (gt p i)=false
noncomputable def Dn(lt:Nat->Nat->Bool)(p:Array Nat)(b:Nat):Prop:=∀i j,i≤j->j<b->lt (gt p i) (gt p j)=false
noncomputable def Al(lt:Nat->Nat->Bool)(p:Array Nat)(a b:Nat):Prop:=∀i j,a≤i->i<b->a≤j->j<b->lt (gt p i) (gt p j)=false
section
variable{lt:Nat->Nat->Bool}(O:KOrd lt)
theorem KOrd.irr{lt:Nat->Nat->Bool}(O:KOrd lt)(i:Nat):lt i i=false:=by
 cases h:lt i i with
 | false=>rfl
 | true=>rw[O.asym i i h]at h;cases h
theorem z7L{p:Array Nat}{i j:Nat}(hj:j≤p.size)(hij:i≤j)(k:Nat):gt (kas_rev p i j) k=if i≤k/\k<j then gt p (i+j-1-k) else gt p k:=by
 unfold kas_rev
 have e:=getElem?_mirror (xs:=p) (i:=i) hj ((j-i) / 2) (by omega) k
 by_cases h:i≤k/\k<j
 ·rw[if_pos h];by_cases h2:(i≤k/\k<i+(j-i) / 2)∨(j-(j-i) / 2≤k/\k<j)
  ·rw[if_pos h2]at e;exact y8F e
  ·rw[if_neg h2]at e
   have:i+j-1-k=k:=by omega
   rw[this];exact y8F e
 ·rw[if_neg h]
  rw[if_neg (by omega)]at e
  exact y8F e
theorem z3X(p:Array Nat)(i j:Nat):(kas_rev p i j).size=p.size:=mirror_size _ _ _ _
theorem z24(p:Array Nat)(i j:Nat):(kas_rev p i j).Perm p:=mirror_perm _ _ _ _
include O
theorem x2O{p:Array Nat}:∀(f n:Nat),1≤n->Up lt p n->n≤z2H lt (kas_asc p f n)/\z2H lt (kas_asc p f n)≤n+f/\Up lt p (z2H lt (kas_asc p f n)) /\
  (z2H lt (kas_asc p f n)<n+f->lt (gt p (z2H lt (kas_asc p f n))) (gt p (z2H lt (kas_asc p f n)-1))=true)
 | 0,n,h1,h=>⟨Nat.le_refl _,Nat.le_refl _,h,fun z=>absurd z (Nat.lt_irrefl _)⟩
 | f+1,n,h1,h=>by
  have e:z2H lt (kas_asc p (f+1) n)=z2H lt (if lt (gt p n) (gt p (n-1))=true then KasT.ret n else kas_asc p f (n+1)):=rfl
  rw[e]
  cases hc:lt (gt p n) (gt p (n-1)) with
  | true =>
   rw[if_pos rfl]
   exact⟨Nat.le_refl _,Nat.le_add_right _ _,h,fun _=>hc⟩
  | false =>
   rw[if_neg Bool.false_ne_true]
   have h':Up lt p (n+1):=fun i j hij hj=>by
    by_cases hjn:j<n
    ·exact h i j hij hjn
    ·have:j=n:=by omega
     subst this;by_cases hi:i=j
     ·subst hi;exact O.irr _
     ·exact O.tr _ _ _ (h i (j-1) (by omega) (by omega)) hc
   obtain⟨a1,a2,a3,a4⟩:=x2O f (n+1) (by omega) h'
   exact⟨by omega,by omega,a3,fun z=>a4 (by omega)⟩
theorem x60{p:Array Nat}{n q:Nat}(hz:n≤p.size)(hq:q+1≤n)(hd:Dn lt p n)(ha:Al lt p (n-(q+1)) n):Dn lt (kas_rev p (n-(q+1)) n) n:=fun i j hij hj=>by
 rw[z7L hz (by omega),z7L hz (by omega)]
 by_cases h1:n-(q+1)≤i/\i<n
 ·have h2:n-(q+1)≤j/\j<n:=by omega
  rw[if_pos h1,if_pos h2]
  exact ha _ _ (by omega) (by omega) (by omega) (by omega)
 ·rw[if_neg h1];by_cases h2:n-(q+1)≤j/\j<n
  ·rw[if_pos h2]
   exact hd _ _ (by omega) (by omega)
  ·rw[if_neg h2];exact hd _ _ hij hj
theorem y1Q:∀(f:Nat) (p:Array Nat) (n q:Nat),n+f≤p.size->q+1≤n->Dn lt p n->Al lt p (n-(q+1)) n ->
  ∃p' m q',z2H lt (kas_desc f p n q)=(p',m,q')/\p'.size=p.size/\p'.Perm p/\n≤m/\m≤n+f/\q'+1≤m/\Dn lt p' m/\Al lt p' (m-(q'+1)) m
 | 0,p,n,q,hz,hq,hd,ha=>⟨p,n,q,rfl,rfl,Array.Perm.refl _,Nat.le_refl _,Nat.le_refl _,hq,hd,ha⟩
 | f+1,p,n,q,hz,hq,hd,ha=>by
  have e:z2H lt (kas_desc (f+1) p n q)=z2H lt (if lt (gt p n) (gt p (n-1))=true then (if q>0 then kas_desc f (kas_rev p (n-(q+1)) n) (n+1) 0 else kas_desc f p (n+1) 0)
   else .ask (p.getD (n-1) 0) (p.getD n 0) fun d=>if d=true then .ret (p,n,q) else kas_desc f p (n+1) (q+1)):=rfl
  rw[e]
  cases hc:lt (gt p n) (gt p (n-1)) with
  | true =>
   rw[if_pos rfl]
   have less:∀i,i<n->lt (gt p i) (gt p n)=false:=fun i hi=>O.tr _ _ _ (O.asym _ _ hc) (hd i (n-1) (by omega) (by omega))
   by_cases h0:q>0
   ·rw[if_pos h0]
    have hd':=x60 O (by omega) hq hd ha
    have hd2:Dn lt (kas_rev p (n-(q+1)) n) (n+1):=fun i j hij hj=>by
     by_cases hjn:j<n
     ·exact hd' i j hij hjn
     ·have:j=n:=by omega
      subst this;by_cases hi:i=j
      ·subst hi;exact O.irr _
      ·rw[z7L (by omega) (by omega),z7L (by omega) (by omega),if_neg (by omega:¬(j-(q+1)≤j/\j<j))]
       split
       ·exact less _ (by omega)
       ·exact less _ (by omega)
    obtain⟨p',m,q',e1,e2,e3,e4,e5,e6,e7,e8⟩:=y1Q f (kas_rev p (n-(q+1)) n) (n+1) 0 (by rw[z3X];omega) (by omega) hd2 (fun i j h1 h2 h3 h4=>by
     have:i=j:=by omega
     subst this;exact O.irr _)
    exact⟨p',m,q',e1,by rw[e2,z3X],e3.trans (z24 _ _ _),by omega,by omega,e6,e7,e8⟩
   ·rw[if_neg h0]
    have hd2:Dn lt p (n+1):=fun i j hij hj=>by
     by_cases hjn:j<n
     ·exact hd i j hij hjn
     ·have:j=n:=by omega
      subst this;by_cases hi:i=j
      ·subst hi;exact O.irr _
      ·exact less i (by omega)
    obtain⟨p',m,q',e1,e2,e3,e4,e5,e6,e7,e8⟩:=y1Q f p (n+1) 0 (by omega) (by omega) hd2 (fun i j h1 h2 h3 h4=>by
     have:i=j:=by omega
     subst this;exact O.irr _)
    exact⟨p',m,q',e1,e2,e3,by omega,by omega,e6,e7,e8⟩
  | false =>
   rw[if_neg Bool.false_ne_true]
   have e':z2H lt (KasT.ask (p.getD (n-1) 0) (p.getD n 0) fun d=>if d=true then .ret (p,n,q) else kas_desc f p (n+1) (q+1))=z2H lt (if lt (gt p (n-1)) (gt p n)=true then .ret (p,n,q) else kas_desc f p (n+1) (q+1)):=rfl
   rw[e']
   cases hc2:lt (gt p (n-1)) (gt p n) with
   | true =>
    rw[if_pos rfl]
    exact⟨p,n,q,rfl,rfl,Array.Perm.refl _,Nat.le_refl _,by omega,hq,hd,ha⟩
   | false =>
    rw[if_neg Bool.false_ne_true]
    have hd2:Dn lt p (n+1):=fun i j hij hj=>by
     by_cases hjn:j<n
     ·exact hd i j hij hjn
     ·have:j=n:=by omega
      subst this;by_cases hi:i=j
      ·subst hi;exact O.irr _
      ·exact O.tr _ _ _ hc2 (hd i (j-1) (by omega) (by omega))
    have ha2:Al lt p (n+1-(q+1+1)) (n+1):=fun i j h1 h2 h3 h4=>by
     have lastL:∀i,n-(q+1)≤i->i<n->lt (gt p i) (gt p n)=false:=fun i g1 g2=>O.tr _ _ _ hc2 (ha i (n-1) g1 g2 (by omega) (by omega))
     have lastR:∀i,n-(q+1)≤i->i<n->lt (gt p n) (gt p i)=false:=fun i g1 g2=>O.tr _ _ _ (ha (n-1) i (by omega) (by omega) g1 g2) hc
     by_cases hi:i<n
     ·by_cases hj:j<n
      ·exact ha i j (by omega) hi (by omega) hj
      ·have:j=n:=by omega
       subst this
       exact lastL i (by omega) hi
     ·have:i=n:=by omega
      subst this;by_cases hj:j<i
      ·exact lastR j (by omega) hj
      ·have:j=i:=by omega
       subst this;exact O.irr _
    obtain⟨p',m,q',e1,e2,e3,e4,e5,e6,e7,e8⟩:=y1Q f p (n+1) (q+1) (by omega) (by omega) hd2 ha2
    exact⟨p',m,q',e1,e2,e3,by omega,by omega,e6,e7,e8⟩
theorem w1S{p:Array Nat}{n:Nat}(hz:n≤p.size)(hd:Dn lt p n):Up lt (kas_rev p 0 n) n:=fun i j hij hj=>by
 rw[z7L hz (by omega),z7L hz (by omega),if_pos (by omega),if_pos (by omega)]
 exact hd _ _ (by omega) (by omega)
theorem y9D{p:Array Nat}{n nrem:Nat}(hn:n≤nrem)(h1:1≤n)(hz:nrem≤p.size)(hd:Dn lt p n) :
  ∃m p',z2H lt (kas_tail3 n nrem p)=(m,p')/\p'.size=p.size/\p'.Perm p/\1≤m/\m≤nrem/\Up lt p' m:=by
 unfold kas_tail3;rw[z1A]
 obtain⟨a1,a2,a3,_⟩:=x2O O (nrem-n) n h1 (w1S O (by omega) hd)
 exact⟨_,_,rfl,z3X _ _ _,z24 _ _ _,by omega,by omega,a3⟩
theorem z98{p:Array Nat}{n nrem:Nat}(hn:n+1≤nrem)(hz:nrem≤p.size)(hd:Dn lt p (n+1)) :
  ∃m p',z2H lt (kas_descPart n nrem p)=(m,p')/\p'.size=p.size/\p'.Perm p/\1≤m/\m≤nrem/\Up lt p' m:=by
 unfold kas_descPart;rw[z1A]
 obtain⟨p',m,q',e1,e2,e3,e4,e5,e6,e7,e8⟩:=y1Q O (nrem-(n+1)) p (n+1) 0 (by omega) (by omega) hd (fun i j h1 h2 h3 h4=>by
  have:i=j:=by omega
  subst this;exact O.irr _)
 rw[e1];dsimp only;by_cases hq:q'>0
 ·rw[if_pos hq]
  obtain⟨m2,p2,t1,t2,t3,t4,t5,t6⟩:=y9D O (p:=kas_rev p' (m-(q'+1)) m) (n:=m) (nrem:=nrem) (by omega) (by omega) (by rw[z3X];omega) (x60 O (by omega) e6 e7 e8)
  exact⟨m2,p2,t1,by rw[t2,z3X,e2],t3.trans ((z24 _ _ _).trans e3),t4,t5,t6⟩
 ·rw[if_neg hq]
  obtain⟨m2,p2,t1,t2,t3,t4,t5,t6⟩:=y9D O (p:=p') (n:=m) (nrem:=nrem) (by omega) (by omega) (by omega) e7
  exact⟨m2,p2,t1,by rw[t2,e2],t3.trans e3,t4,t5,t6⟩
theorem x5G{p:Array Nat}{nrem:Nat}(h1:1≤nrem)(hz:nrem≤p.size) :
  ∃m p',z2H lt (kas_count nrem p)=(m,p')/\p'.size=p.size/\p'.Perm p/\1≤m/\m≤nrem/\Up lt p' m:=by
 unfold kas_count;rw[z1A]
 obtain⟨a1,a2,a3,a4⟩:=x2O O (p:=p) (nrem-1) 1 (Nat.le_refl _) (fun i j hij hj=>by
  have:i=j:=by omega
  subst this;exact O.irr _)
 generalize z2H lt (kas_asc p (nrem-1) 1)=n at a1 a2 a3 a4;by_cases e1:(n==nrem)=true
 ·rw[if_pos e1]
  exact⟨n,p,rfl,rfl,Array.Perm.refl _,a1,by omega,a3⟩
 ·rw[if_neg e1]
  have hne:n≠nrem:=fun q=>e1 (by rw[q];exact beq_self_eq_true _)
  have hlt:=a4 (by omega)
  by_cases e2:n>1
  ·rw[if_pos e2]
   have e':z2H lt (KasT.ask (p.getD 0 0) (p.getD (n-1) 0) fun c=>if c=true then .ret (n,p) else kas_descPart n nrem (kas_rev p 0 n))=z2H lt (if lt (gt p 0) (gt p (n-1))=true then .ret (n,p) else kas_descPart n nrem (kas_rev p 0 n)):=rfl
   rw[e']
   cases hc:lt (gt p 0) (gt p (n-1)) with
   | true =>
    rw[if_pos rfl]
    exact⟨n,p,rfl,rfl,Array.Perm.refl _,a1,by omega,a3⟩
   | false =>
    rw[if_neg Bool.false_ne_true]
    have all:∀i j,i<n->j<n->lt (gt p i) (gt p j)=false:=fun i j hi hj =>
     O.tr _ _ _ (O.tr _ _ _ (a3 j (n-1) (by omega) (by omega)) hc) (a3 0 i (by omega) hi)
    obtain⟨m2,p2,t1,t2,t3,t4,t5,t6⟩:=z98 O (p:=kas_rev p 0 n) (n:=n) (nrem:=nrem) (by omega) (by rw[z3X];exact hz) (fun i j hij hj=>by
     rw[z7L (by omega) (by omega),z7L (by omega) (by omega)]
     by_cases hjn:j<n
     ·rw[if_pos (by omega),if_pos (by omega)]
      exact all _ _ (by omega) (by omega)
     ·have:j=n:=by omega
      subst this
      rw[if_neg (by omega:¬(0≤j/\j<j))]
      by_cases hi:i<j
      ·rw[if_pos (by omega)]
       exact O.tr _ _ _ (O.asym _ _ hlt) (all _ _ (by omega) (by omega))
      ·rw[if_neg (by omega)]
       have:i=j:=by omega
       subst this;exact O.irr _)
    exact⟨m2,p2,t1,by rw[t2,z3X],t3.trans (z24 _ _ _),t4,t5,t6⟩
  ·rw[if_neg e2]
   have:n=1:=by omega
   subst this
   obtain⟨m2,p2,t1,t2,t3,t4,t5,t6⟩:=z98 O (p:=p) (n:=1) (nrem:=nrem) (by omega) hz (fun i j hij hj=>by
    by_cases hij':i=j
    ·subst hij';exact O.irr _
    ·have hi:i=0:=by omega
     have hj':j=1:=by omega
     subst hi hj'
     exact O.asym _ _ hlt)
   exact⟨m2,p2,t1,t2,t3,t4,t5,t6⟩
theorem y1A{p:Array Nat}{k:Nat}(hu:Up lt p k):∀(f l r:Nat),r-l≤f->l≤r->r≤k->(∀i,i<l->lt (gt p k) (gt p i)=false)->(∀i,r≤i->i<k->lt (gt p i) (gt p k)=false) ->
  z2H lt (kas_place p k f l r)≤k/\(∀i,i<z2H lt (kas_place p k f l r)->lt (gt p k) (gt p i)=false)/\(∀i,z2H lt (kas_place p k f l r)≤i->i<k->lt (gt p i) (gt p k)=false)
 | 0,l,r,hf,hlr,hr,h1,h2=>⟨show l≤k by omega,h1,fun i (g1:l≤i) g2=>h2 i (by omega) g2⟩
 | f+1,l,r,hf,hlr,hr,h1,h2=>by
  have e:z2H lt (kas_place p k (f+1) l r)=z2H lt (if l≥r then .ret l else .ask (p.getD k 0) (p.getD ((l+r) / 2) 0) fun c=>if c=true then kas_place p k f l ((l+r) / 2) else kas_place p k f ((l+r) / 2+1) r):=rfl
  rw[e];by_cases hge:l≥r
  ·rw[if_pos hge]
   exact⟨show l≤k by omega,h1,fun i (g1:l≤i) g2=>h2 i (by omega) g2⟩
  ·rw[if_neg hge]
   have e':z2H lt (KasT.ask (p.getD k 0) (p.getD ((l+r) / 2) 0) fun c=>if c=true then kas_place p k f l ((l+r) / 2) else kas_place p k f ((l+r) / 2+1) r) =
    z2H lt (if lt (gt p k) (gt p ((l+r) / 2))=true then kas_place p k f l ((l+r) / 2) else kas_place p k f ((l+r) / 2+1) r):=rfl
   rw[e']
   cases hc:lt (gt p k) (gt p ((l+r) / 2)) with
   | true =>
    rw[if_pos rfl]
    exact y1A hu f l ((l+r) / 2) (by omega) (by omega) (by omega) h1 fun i g1 g2=>O.tr _ _ _ (O.asym _ _ hc) (hu _ i g1 g2)
   | false =>
    rw[if_neg Bool.false_ne_true]
    exact y1A hu f ((l+r) / 2+1) r (by omega) (by omega) hr (fun i g1=>O.tr _ _ _ (hu i _ (by omega) (by omega)) hc) h2
theorem x6R:∀(f:Nat) (p:Array Nat) (k:Nat),k+f≤p.size->Up lt p k->∃p',z2H lt (kas_bin f p k)=p'/\p'.size=p.size/\p'.Perm p/\Up lt p' (k+f)
 | 0,p,k,_,hu=>⟨p,rfl,rfl,Array.Perm.refl _,hu⟩
 | f+1,p,k,hz,hu=>by
  have e:z2H lt (kas_bin (f+1) p k)=z2H lt ((kas_place p k k 0 k).bind fun l=>kas_bin f (bubble p k (k-l)) (k+1)):=rfl
  rw[e,z1A]
  obtain⟨b1,b2,b3⟩:=y1A O hu k 0 k (by omega) (by omega) (Nat.le_refl _) (fun i g=>by omega) (fun i g1 g2=>by omega)
  generalize z2H lt (kas_place p k k 0 k)=l at b1 b2 b3
  have bg:∀x,gt (bubble p k (k-l)) x=if x=l then gt p k else if l<x/\x≤k then gt p (x-1) else gt p x:=fun x=>by
   have e:=getElem?_bubble (xs:=p) (src:=k) (by omega) (k-l) (by omega) x
   have ek:k-(k-l)=l:=by omega
   rw[ek]at e;by_cases g1:x=l
   ·rw[if_pos g1]at e ⊢;exact y8F e
   ·rw[if_neg g1]at e ⊢;by_cases g2:l<x/\x≤k
    ·rw[if_pos g2]at e ⊢;exact y8F e
    ·rw[if_neg g2]at e ⊢;exact y8F e
  have hu':Up lt (bubble p k (k-l)) (k+1):=fun i j hij hj=>by
   by_cases hij':i=j
   ·subst hij';exact O.irr _
   rw[bg,bg];by_cases hj1:j=l
   ·rw[if_pos hj1,if_neg (by omega:¬i=l),if_neg (by omega:¬(l<i/\i≤k))]
    exact b2 i (by omega)
   ·rw[if_neg hj1];by_cases hj2:l<j/\j≤k
    ·rw[if_pos hj2];by_cases hi1:i=l
     ·rw[if_pos hi1]
      exact b3 _ (by omega) (by omega)
     ·rw[if_neg hi1];by_cases hi2:l<i/\i≤k
      ·rw[if_pos hi2]
       exact hu _ _ (by omega) (by omega)
      ·rw[if_neg hi2]
       exact hu _ _ (by omega) (by omega)
    ·rw[if_neg hj2,if_neg (by omega:¬i=l),if_neg (by omega:¬(l<i/\i≤k))]
     exact hu _ _ hij (by omega)
  obtain⟨p',e1,e2,e3,e4⟩:=x6R f (bubble p k (k-l)) (k+1) (by rw[bubble_size];omega) hu'
  exact⟨p',e1,by rw[e2,bubble_size],e3.trans (bubble_perm _ _ _),by rw[show k+(f+1)=k+1+f by omega];exact e4⟩
theorem y9M{n:Nat}(hn:1≤n):∃p,z2H lt (kas_sort n)=p/\p.size=n/\p.Perm (List.toArray (List.range n))/\Up lt p n:=by
 unfold kas_sort;rw[z1A]
 have hz:(List.toArray (List.range n)).size=n:=by simp
 obtain⟨m,p',e1,e2,e3,e4,e5,e6⟩:=x5G O (p:=List.toArray (List.range n)) (nrem:=n) hn (by rw[hz];exact Nat.le_refl _)
 rw[e1];dsimp only;by_cases h:m<n
 ·rw[if_pos h]
  have em:max m 1=m:=by omega
  rw[em]
  obtain⟨p2,t1,t2,t3,t4⟩:=x6R O (n-m) p' m (by omega) e6
  exact⟨p2,t1,by rw[t2,e2,hz],t3.trans e3,by rw[show n=m+(n-m) by omega];exact t4⟩
 ·rw[if_neg h]
  have em:m=n:=by omega
  subst em
  exact⟨p',rfl,by rw[e2,hz],e3,e6⟩
end
noncomputable def y27{α:Type}(lt:Nat->Nat->Bool)(n:Nat):KasT α->Prop
 | .ret _=>True
 | .ask i j k=>i<n/\j<n/\y27 lt n (k (lt i j))
noncomputable def InN(n:Nat)(p:Array Nat):Prop:=0<n/\∀x,x∈p->x<n
section
variable{lt:Nat->Nat->Bool}{n:Nat}
theorem z3S{α β:Type}{f:α->KasT β}:∀{t:KasT α},y27 lt n t->y27 lt n (f (z2H lt t))->y27 lt n (t.bind f)
 | .ret _,_,h=>h
 | .ask i j k,⟨h1,h2,h3⟩,h=>⟨h1,h2,z3S (t:=k (lt i j)) h3 h⟩
theorem InN.gt{p:Array Nat}(h:InN n p)(i:Nat):p.getD i 0<n:=by
 rw[Array.getD_eq_getD_getElem?]
 cases e:p[i]? with
 | none=>exact h.1
 | some x=>exact h.2 x (Array.mem_of_getElem? e)
theorem InN.perm{p q:Array Nat}(h:InN n p)(e:q.Perm p):InN n q:=⟨h.1,fun x hx=>h.2 x (e.mem_iff.mp hx)⟩
theorem z6P{α:Type}{c:Bool}{t u:KasT α}(h1:y27 lt n t)(h2:y27 lt n u):y27 lt n (if c=true then t else u):=by
 cases c with
 | true=>rw[if_pos rfl];exact h1
 | false=>rw[if_neg Bool.false_ne_true];exact h2
theorem z3R{α:Type}{c:Prop}[Decidable c]{t u:KasT α}(h1:y27 lt n t)(h2:y27 lt n u):y27 lt n (if c then t else u):=by
 split
 ·exact h1
 ·exact h2
theorem x2P{p:Array Nat}(h:InN n p):∀f m,y27 lt n (kas_asc p f m)
 | 0,_=>trivial
 | f+1,m=>⟨h.gt _,h.gt _,z6P trivial (x2P h f (m+1))⟩
theorem z5R:∀(f:Nat) (p:Array Nat) (m q:Nat),InN n p->y27 lt n (kas_desc f p m q)/\InN n (z2H lt (kas_desc f p m q)).1
 | 0,p,_,_,h=>⟨trivial,h⟩
 | f+1,p,m,q,h=>by
  have hr:InN n (kas_rev p (m-(q+1)) m):=h.perm (z24 _ _ _)
  have e:z2H lt (kas_desc (f+1) p m q)=z2H lt (if lt (p.getD m 0) (p.getD (m-1) 0)=true then (if q>0 then kas_desc f (kas_rev p (m-(q+1)) m) (m+1) 0 else kas_desc f p (m+1) 0)
   else .ask (p.getD (m-1) 0) (p.getD m 0) fun d=>if d=true then .ret (p,m,q) else kas_desc f p (m+1) (q+1)):=rfl
  refine⟨⟨h.gt _,h.gt _,z6P (z3R (z5R f _ _ _ hr).1 (z5R f _ _ _ h).1) ⟨h.gt _,h.gt _,z6P trivial (z5R f _ _ _ h).1⟩⟩,?_⟩
  rw[e]
  cases lt (p.getD m 0) (p.getD (m-1) 0) with
  | true =>
   rw[if_pos rfl];split
   ·exact (z5R f _ _ _ hr).2
   ·exact (z5R f _ _ _ h).2
  | false =>
   rw[if_neg Bool.false_ne_true]
   have e':z2H lt (KasT.ask (p.getD (m-1) 0) (p.getD m 0) fun d=>if d=true then .ret (p,m,q) else kas_desc f p (m+1) (q+1))=z2H lt (if lt (p.getD (m-1) 0) (p.getD m 0)=true then .ret (p,m,q) else kas_desc f p (m+1) (q+1)):=rfl
   rw[e']
   cases lt (p.getD (m-1) 0) (p.getD m 0) with
   | true=>rw[if_pos rfl];exact h
   | false=>rw[if_neg Bool.false_ne_true];exact (z5R f _ _ _ h).2
theorem y13{p:Array Nat}{a b:Nat}(h:InN n p):y27 lt n (kas_tail3 a b p)/\InN n (z2H lt (kas_tail3 a b p)).2:=by
 have hr:InN n (kas_rev p 0 a):=h.perm (z24 _ _ _)
 refine⟨z3S (x2P hr _ _) trivial,?_⟩
 unfold kas_tail3;rw[z1A];exact hr
theorem z40{p:Array Nat}{a b:Nat}(h:InN n p):y27 lt n (kas_descPart a b p)/\InN n (z2H lt (kas_descPart a b p)).2:=by
 obtain⟨d1,d2⟩:=z5R (lt:=lt) (b-(a+1)) p (a+1) 0 h;unfold kas_descPart;rw[z1A]
 refine⟨z3S d1 ?_,?_⟩
 ·exact z3R (y13 (d2.perm (z24 _ _ _))).1 (y13 d2).1
 ·split
  ·exact (y13 (d2.perm (z24 _ _ _))).2
  ·exact (y13 d2).2
theorem x5H{p:Array Nat}{b:Nat}(h:InN n p):y27 lt n (kas_count b p)/\InN n (z2H lt (kas_count b p)).2:=by
 have hr:∀m,InN n (kas_rev p 0 m):=fun m=>h.perm (z24 _ _ _)
 unfold kas_count;rw[z1A];generalize hm:z2H lt (kas_asc p (b-1) 1)=m
 refine⟨z3S (x2P h _ _) ?_,?_⟩
 ·rw[hm];exact z3R trivial (z3R ⟨h.gt _,h.gt _,z6P trivial (z40 (hr m)).1⟩ (z40 h).1)
 ·split
  ·exact h
  ·split
   ·have e':z2H lt (KasT.ask (p.getD 0 0) (p.getD (m-1) 0) fun c=>if c=true then .ret (m,p) else kas_descPart m b (kas_rev p 0 m))=z2H lt (if lt (p.getD 0 0) (p.getD (m-1) 0)=true then .ret (m,p) else kas_descPart m b (kas_rev p 0 m)):=rfl
    rw[e']
    cases lt (p.getD 0 0) (p.getD (m-1) 0) with
    | true=>rw[if_pos rfl];exact h
    | false=>rw[if_neg Bool.false_ne_true];exact (z40 (hr m)).2
   ·exact (z40 h).2
theorem y1B{p:Array Nat}{k:Nat}(h:InN n p):∀f l r,y27 lt n (kas_place p k f l r)
 | 0,_,_=>trivial
 | f+1,l,r=>z3R (t:=.ret l) trivial ⟨h.gt _,h.gt _,z6P (y1B h f _ _) (y1B h f _ _)⟩
theorem x6S:∀(f:Nat) (p:Array Nat) (k:Nat),InN n p->y27 lt n (kas_bin f p k)
 | 0,_,_,_=>trivial
 | f+1,p,k,h=>z3S (y1B h _ _ _) (x6S f _ _ (h.perm (bubble_perm _ _ _)))
theorem y9N(hn:0<n):y27 lt n (kas_sort n):=by
 have h:InN n (List.toArray (List.range n)):=⟨hn,fun x hx=>by simpa using hx⟩
 obtain⟨c1,c2⟩:=x5H (lt:=lt) (b:=n) h;exact z3S c1 (z3R (x6S _ _ _ c2) trivial)
end
theorem z77{α:Type}{lt:Nat->Nat->Bool}{n:Nat}{cmp:Nat->Nat->(Bool->Shared->Prop)->Shared->Prop}{Ok:Shared->Prop}(hc:∀i j C s,i<n->j<n->Ok s->(∀s',Ok s'->C (lt i j) s')->cmp i j C s){Q:α->Shared->Prop} :
  ∀(t:KasT α) (s:Shared),y27 lt n t->Ok s->(∀s',Ok s'->Q (z2H lt t) s')->t.kasWp cmp Q s
 | .ret a,s,_,ok,q=>q s ok
 | .ask i j k,s,⟨h1,h2,h3⟩,ok,q=>hc i j _ s h1 h2 ok fun s' ok'=>z77 hc (k (lt i j)) s' h3 ok' q
end L3
namespace L3
open PySem PySem.Spec PyProof.Rows L2 PySem.SeqAt PySem.W
theorem y38:∀a:List Int,HT.lexLt a a=false
 | []=>rfl
 | x::xs=>by rw[HT.lexLt_cons,if_pos rfl];exact y38 xs
theorem z4W:∀a b:List Int,HT.lexLt a b=true->HT.lexLt b a=false
 | [],[],h=>by cases h
 | [],_::_,_=>rfl
 | _::_,[],h=>by cases h
 | x::xs,y::ys,h=>by
  rw[HT.lexLt_cons]at h ⊢;by_cases e:x=y
  ·rw[if_pos e]at h;rw[if_pos e.symm];exact z4W xs ys h
  ·rw[if_neg e]at h;rw[if_neg (Ne.symm e)]
   have:=of_decide_eq_true h
   exact decide_eq_false (by omega)
theorem z8C:∀a b c:List Int,HT.lexLt b a=false->HT.lexLt c b=false->HT.lexLt c a=false
 | a,b,[],h1,h2=>by
  cases a with
  | nil=>rfl
  | cons x xs =>
   cases b with
   | nil=>cases h1
   | cons y ys=>cases h2
 | a,[],z::zs,h1,h2=>by
  cases a with
  | nil=>rfl
  | cons x xs=>cases h1
 | [],y::ys,z::zs,h1,h2=>rfl
 | x::xs,y::ys,z::zs,h1,h2=>by
  rw[HT.lexLt_cons]at h1 h2 ⊢;by_cases e1:y=x
  ·rw[if_pos e1]at h1;by_cases e2:z=y
   ·rw[if_pos e2]at h2;rw[if_pos (e2.trans e1)];exact z8C xs ys zs h1 h2
   ·rw[if_neg e2]at h2
    have:=of_decide_eq_false h2
    rw[if_neg (by omega)]
    exact decide_eq_false (by omega)
  ·rw[if_neg e1]at h1;have g1:=of_decide_eq_false h1;by_cases e2:z=y
   ·rw[if_neg (by omega)]
    exact decide_eq_false (by omega)
   ·rw[if_neg e2]at h2;have g2:=of_decide_eq_false h2
    rw[if_neg (by omega)]
    exact decide_eq_false (by omega)
theorem y1I:∀a b:List Int,HT.lexLt a b=false->HT.lexLt b a=false->a=b
 | [],[],_,_=>rfl
 | [],_::_,h,_=>by cases h
 | _::_,[],_,h=>by cases h
 | x::xs,y::ys,h1,h2=>by
  rw[HT.lexLt_cons]at h1 h2;by_cases e:x=y
  ·rw[if_pos e]at h1;rw[if_pos e.symm]at h2;rw[e,y1I xs ys h1 h2]
  ·rw[if_neg e]at h1;rw[if_neg (Ne.symm e)]at h2;have g1:=of_decide_eq_false h1;have g2:=of_decide_eq_false h2;omega
theorem z4U{α:Type}{le:α->α->Prop}(anti:∀a b,le a b->le b a->a=b):∀{xs ys:List α},xs.Perm ys->xs.Pairwise le->ys.Pairwise le->(∀a,le a a)->xs=ys
 | [],ys,p,_,_,_=>(List.nil_perm.mp p).symm
 | x::xs,ys,p,h1,h2,rf=>by
  cases ys with
  | nil=>exact absurd (List.perm_nil.mp p) (by simp)
  | cons y ys =>
   have hx:=List.pairwise_cons.mp h1;have hy:=List.pairwise_cons.mp h2
   have e:x=y:=by
    have m1:x∈y::ys:=p.mem_iff.mp List.mem_cons_self;have m2:y∈x::xs:=p.mem_iff.mpr List.mem_cons_self;refine anti x y ?_ ?_
    ·rcases List.mem_cons.mp m2 with z|z
     ·rw[z];exact rf x
     ·exact hx.1 y z
    ·rcases List.mem_cons.mp m1 with z|z
     ·rw[z];exact rf y
     ·exact hy.1 x z
   subst e;rw[z4U anti (List.perm_cons x |>.mp p) hx.2 hy.2 rf]
noncomputable def leL(a b:List Int):Bool:=!HT.lexLt b a
noncomputable def y2P(nss:List (List Int)):List (List Int):=nss.mergeSort leL
theorem z6W(nss:List (List Int)):(y2P nss).Perm nss:=List.mergeSort_perm nss leL
theorem y61(nss:List (List Int)):(y2P nss).Pairwise fun a b=>HT.lexLt b a=false:=by
 have h:=List.pairwise_mergeSort (le:=leL) (l:=nss) (fun a b c h1 h2=>by
  unfold leL at h1 h2 ⊢;simp only[Bool.not_eq_true']at h1 h2 ⊢
  exact z8C a b c h1 h2) (fun a b=>by
  unfold leL
  cases h:HT.lexLt b a with
  | false=>rfl
  | true=>rw[z4W b a h];rfl)
 exact h.imp fun q=>by
  unfold leL at q;simpa using q
noncomputable def z2R(ns:List Int):List Int:=ns.mergeSort fun a b=>decide (a≤b)
theorem z1G(ns:List Int):(z2R ns).Perm ns:=List.mergeSort_perm ns _
theorem y64(ns:List Int):(z2R ns).Pairwise (·≤·):=by
 have h:=List.pairwise_mergeSort (le:=fun a b:Int=>decide (a≤b)) (l:=ns) (fun a b c h1 h2=>by
  have:=of_decide_eq_true h1
  have:=of_decide_eq_true h2
  exact decide_eq_true (by omega)) (fun a b=>by
  by_cases h:a≤b
  ·simp[h]
  ·simp;omega)
 exact h.imp fun q=>of_decide_eq_true q
section
variable{prog:Program}{w:World}{A:Around}{E:Value->Shared->Prop}{s:Shared}
theorem y0F(vs:List Value):(List.range vs.length).map (fun i=>vs.getD i Value.none)=vs:=by
 apply List.ext_getElem
 ·simp
 ·intro i h1 h2;simp[List.getElem_map,h2]
theorem x3H{a:Addr}{vs:List Value}{n:Nat}{P:PySem.Fin->Shared->Prop}{κ:SortKind}{lt:Nat->Nat->Bool}(O:KOrd lt)(ho:s.heap.get? a=some (seqObj "list" vs.toArray n))(h64:vs.length<64)(hk:2≤vs.length->∀h:Heap,(∀b o,b≠a->s.heap.get? b=some o->h.get? b=some o)->∀Q:SortKind->Shared->Prop,Q κ { s with heap:=h }->wpAny (model prog w) A (keyKind' vs.toArray) Q (fun _ _=>False) { s with heap:=h })
  (hc:∀h:Heap,(∀b o,b≠a->s.heap.get? b=some o->h.get? b=some o)->∀i j,i<vs.length->j<vs.length->∀C:Bool->Shared->Prop,C (lt i j) { s with heap:=h } ->
   wpAny (model prog w) A (keyLt' κ (vs.getD i Value.none) (vs.getD j Value.none)) C (fun _ _=>False) { s with heap:=h })
  (fin:∀p:Array Nat,p.size=vs.length->p.Perm (List.toArray (List.range vs.length))->Up lt p vs.length->P (.done (.ret .none)) { s with heap:=sortedHeap s.heap a vs (List.toArray (p.toList.map fun i=>vs.getD i Value.none)) }) :
  wpAny (model prog w) A (Builtin.«list.sort» ⟨[.ref a],[]⟩) P E s:=by
 rw[list_sort_plain];have hlt:a<s.heap.objs.size:=Heap.lt_size ho
 have hzz:vs.toArray.size≤sizeLine:=by rw[List.size_toArray,sizeLine_eq];omega
 refine wpAny_bind (listItems_at ho rfl (wpAny_bind (listUpdate_at ho rfl ?_ hzz (Nat.zero_le _))))
 obtain⟨e1,ho1⟩:∃e1,(s.heap.update a (Obj.mapSeq fun _=>(#[]:Array Value))).get? a=some (seqObj "list" #[] e1):=⟨_,get?_update_seq ho (fun _=>#[])⟩
 refine wpAny_bind (seqEpoch_at ho1 rfl (wpAny_bind (wpAny_newTuple (wpAny_bind (wpAny_newList (wpAny_holding ?_) (Nat.zero_le _))) (by show vs.length≤_;rw[sizeLine_eq];omega))))
 generalize hS:({ s with heap:=((s.heap.update a (Obj.mapSeq fun _=>(#[]:Array Value))).push (seqObj "tuple" vs.toArray 0)).push (seqObj "list" #[] 0) }:Shared)=S6
 have hh6:S6.heap=((s.heap.update a (Obj.mapSeq fun _=>(#[]:Array Value))).push (seqObj "tuple" vs.toArray 0)).push (seqObj "list" #[] 0):=by rw[←hS]
 have e6:S6={ s with heap:=S6.heap }:=by rw[←hS]
 have ho6:S6.heap.get? a=some (seqObj "list" #[] e1):=by
  rw[hh6,Heap.get?_push_ne _ _ _ (by rw[size_push',Heap.size_update];exact Nat.ne_of_lt (Nat.lt_succ_of_lt hlt)),Heap.get?_push_ne _ _ _ (by rw[Heap.size_update];exact Nat.ne_of_lt hlt)]
  exact ho1
 have kept:∀b o,b≠a->s.heap.get? b=some o->S6.heap.get? b=some o:=fun b o hb e=>by
  rw[hh6];exact Heap.get?_push_of_some _ (Heap.get?_push_of_some _ ((Heap.get?_update_other _ _ (Ne.symm hb)).trans e))
 show wpAny (model prog w) A _ P E S6
 dsimp only
 have last:∀(st':SortSt) (p:Array Nat),p.size=vs.length->p.Perm (List.toArray (List.range vs.length))->Up lt p vs.length->(arrOf st').map (·.2)=List.toArray (p.toList.map fun i=>vs.getD i Value.none)->failedOf st'=none ->
   wpAny (model prog w) A (do
    let touched:=(←seqEpoch a) != e1
    Builtin.List.listUpdate (.ref a) fun _=>(arrOf st').map (·.2)
    if let some e:=failedOf st' then rule "list.sort.comparison-raised";throw e
    if touched then rule "list.sort.modified";raiseError "ValueError" "list modified during sort"
    ret .none) P E S6:=fun st' p h1 h2 h3 h4 h5=>by
  refine wpAny_bind (seqEpoch_at ho6 rfl ?_);refine wpAny_bind (listUpdate_at ho6 rfl ?_ (Nat.zero_le _) ?_)
  ·rw[h5,h4];simp only[bne_self_eq_false,Bool.false_eq_true,if_false];have z:=fin p h1 h2 h3;unfold sortedHeap at z;rw[←hh6]at z;refine wpAny_pure ?_;rw[e6];exact z
  ·rw[h4]
   show (List.toArray (p.toList.map fun i=>vs.getD i Value.none)).size≤sizeLine+1
   rw[List.size_toArray,List.length_map,Array.length_toList,h1,sizeLine_eq];omega
 by_cases h2:vs.toArray.size<2
 ·rw[if_pos h2,if_pos h2];refine wpAny_bind (wpAny_pure ?_);rw[StateT.run_pure];refine wpAny_bind (wpAny_pure ?_);dsimp only
  refine last (SortSt.mk' general' (vs.toArray.zip vs.toArray) #[] 7 none) (List.toArray (List.range vs.length)) (by simp) (Array.Perm.refl _) (fun i j hij hj=>?_) ?_ rfl
  ·have:i=j:=by rw[List.size_toArray]at h2;omega
   subst this;exact O.irr _
  ·rw[show (List.toArray (List.range vs.length)).toList=List.range vs.length from rfl,y0F]
   apply Array.toList_inj.mp
   show ((vs.toArray.zip vs.toArray).map (·.2)).toList=vs
   apply List.ext_getElem
   ·simp
   ·intro i g1 g2;simp
 ·rw[if_neg h2,if_neg h2]
  have h2':2≤vs.length:=by rw[List.size_toArray]at h2;omega
  have zk:=hk h2' S6.heap kept (fun κ' s'=>κ'=κ/\s'=S6) ⟨rfl,e6.symm⟩
  rw[←e6]at zk
  refine wpAny_bind (wpAny_mono zk (fun κ' s' hq=>?_) fun _ _ x=>x.elim)
  obtain⟨hq1,hq2⟩:=hq;rw[hq1,hq2]
  obtain⟨p,ep,p1,p2,p3⟩:=y9M O (n:=vs.length) (by omega)
  refine wpAny_bind (wpAny_mono (kat_run (ks:=vs) (vs:=vs) (Q:=fun st' s'=>∃q,q.size=vs.length/\arrOf st'=q.map (kas_item (vs.toArray.zip vs.toArray))/\failedOf st'=none/\q=p/\s'=S6) rfl h2' h64 (fun q st' s' a1 a2 a3 a4=>⟨q,a1,a2,a3,a4⟩)
   (z77 (lt:=lt) (n:=vs.length) (Ok:=fun s'=>s'=S6) (fun i j C s' hi hj hs hC=>?_) _ S6 (y9N (by omega)) rfl (fun s' hs=>⟨ep,hs⟩))) ?_ fun _ _ e=>e)
  ·rw[hs];unfold kas_ask;have z0:=hC S6 rfl;rw[e6]at z0;have z:=hc S6.heap kept i j hi hj C z0;rw[←e6]at z;exact z
  ·rintro ⟨⟨⟩,st'⟩ s' ⟨q,q1,q2,q3,hqp,hqs⟩
   rw[hqs];rw[hqp]at q2;exact last st' p p1 p2 p3 (kat_snds rfl q2) q3
theorem y0L{l:Addr}{us:List Value}{Q:List Value->Shared->Prop}(ht:IsTup s.heap l us.toArray)(q:Q us { s with heap:=(s.heap.push (seqObj "list" #[] 0)).update s.heap.objs.size (Obj.mapSeq (·++us.toArray)) })(hz:us.length≤sizeLine):wpAny (model prog w) A (collect (.ref l)) Q E s:=by
 obtain⟨ob,hob,hcl,n,hdt⟩:=id ht;have hob2:(s.heap.push (seqObj "list" #[] 0)).get? l=some ob:=Heap.get?_push_of_some _ hob;unfold collect
 refine wpAny_bind (wpAny_runValue (codeAny_builtin entry_proto_collect' (wpAny_bind (wpAny_newList (wpAny_pure ⟨Code.quiet_builtin _ (by decide +kernel),codeAny_builtin entry_list_iadd' ?_⟩)))))
 show wpAny _ _ (Builtin.List.listExtendWith (.ref s.heap.objs.size) (.ref l) (.ref s.heap.objs.size)) _ _ { s with heap:=s.heap.push (seqObj "list" #[] 0) }
 unfold Builtin.List.listExtendWith;refine wpAny_bind (wpAny_typeOf (T:="tuple") ⟨ob,hob2,hcl⟩ ?_)
 rw[if_pos (by rw[show (Value.type "tuple"==Value.type "tuple")=true by rfl];simp)]
 refine wpAny_bind (listItems_at hob2 hdt (wpAny_bind (listItems_at (xs:=#[]) (n:=0) (Heap.get?_push_size _ rfl) rfl ?_)))
 rw[if_neg (by simp)]
 refine wpAny_bind (listUpdate_at (xs:=#[]) (n:=0) (Heap.get?_push_size _ rfl) rfl (wpAny_pure ?_) (Nat.zero_le _) (by show (#[]++us.toArray).size≤sizeLine+1;simp only[Array.size_append,List.size_toArray,List.length_nil];omega))
 refine wpAny_bind (wpAny_load (get?_update_seq (Heap.get?_push_size _ rfl) _) ?_)
 show wpAny _ _ (pure ((#[]:Array Value)++us.toArray).toList) Q E _
 rw[show ((#[]:Array Value)++us.toArray).toList=us by simp]
 exact wpAny_pure q
theorem y0B{l:Addr}{us:List Value}{Q:Value->Shared->Prop}{κ:SortKind}{lt:Nat->Nat->Bool}(O:KOrd lt)(hl:s.heap.IsList l us.toArray∨IsTup s.heap l us.toArray)(h64:us.length<64)(hk:2≤us.length->∀h:Heap,(∀b o,s.heap.get? b=some o->h.get? b=some o)->∀Q':SortKind->Shared->Prop,Q' κ { s with heap:=h }->wpAny (model prog w) A.in1.in1 (keyKind' us.toArray) Q' (fun _ _=>False) { s with heap:=h })
  (hc:∀h:Heap,(∀b o,s.heap.get? b=some o->h.get? b=some o)->∀i j,i<us.length->j<us.length->∀C:Bool->Shared->Prop,C (lt i j) { s with heap:=h } ->
   wpAny (model prog w) A.in1.in1 (keyLt' κ (us.getD i Value.none) (us.getD j Value.none)) C (fun _ _=>False) { s with heap:=h })
  (fin:∀p:Array Nat,p.size=us.length->p.Perm (List.toArray (List.range us.length))->Up lt p us.length->Q (.ref (s.heap.objs.size+1)) { s with heap:=sortedAll s.heap us (List.toArray (p.toList.map fun i=>us.getD i Value.none)) }) :
  wpAny (model prog w) A (call (.builtin "sorted") [.ref l]) Q E s:=by
 have hz:us.length≤sizeLine:=by rw[sizeLine_eq];omega
 have h1:((s.heap.push (seqObj "list" #[] 0)).update s.heap.objs.size (Obj.mapSeq (·++us.toArray))).objs.size=s.heap.objs.size+1:=by rw[Heap.size_update,size_push']
 have h2:(((s.heap.push (seqObj "list" #[] 0)).update s.heap.objs.size (Obj.mapSeq (·++us.toArray))).push (seqObj "list" us.toArray 0)).get? (s.heap.objs.size+1)=some (seqObj "list" us.toArray 0):=by
  have e:=Heap.get?_push_size ((s.heap.push (seqObj "list" #[] 0)).update s.heap.objs.size (Obj.mapSeq (·++us.toArray))) (o:=seqObj "list" us.toArray 0) rfl;rw[h1]at e;exact e
 have h3:∀b o,s.heap.get? b=some o->(((s.heap.push (seqObj "list" #[] 0)).update s.heap.objs.size (Obj.mapSeq (·++us.toArray))).push (seqObj "list" us.toArray 0)).get? b=some o:=fun b o e =>
  Heap.get?_push_of_some _ ((Heap.get?_update_other _ _ (Ne.symm (Nat.ne_of_lt (Heap.lt_size e)))).trans (Heap.get?_push_of_some _ e))
 refine Calls.call_function_entry kind_sorted plain_sorted entry_sorted (args_sorted1 _) ?_;unfold Builtin.«sorted»;refine wpAny_bind (m:=checkCount "sorted" 1 1 _) (wpAny_pure ?_)
 have col:∀{A':Around} {E':Value->Shared->Prop} {Q':List Value->Shared->Prop},Q' us { s with heap:=(s.heap.push (seqObj "list" #[] 0)).update s.heap.objs.size (Obj.mapSeq (·++us.toArray)) }->wpAny (model prog w) A' (collect (.ref l)) Q' E' s:=fun q=>by
  rcases hl with hl|hl
  ·exact collect_list hl q hz
  ·exact y0L hl q hz
 refine wpAny_bind (col (wpAny_bind (wpAny_newList ?_ hz)))
 show wpAny _ _ _ _ _ { s with heap:=((s.heap.push (seqObj "list" #[] 0)).update s.heap.objs.size (Obj.mapSeq (·++us.toArray))).push (seqObj "list" us.toArray 0) }
 rw[h1]
 refine wpAny_bind (wpAny_holding (wpAny_call_entry slot_list_sort ⟨_,h2,rfl⟩ entry_list_sort (x3H (κ:=κ) O h2 h64 (fun g2 h hkp Q' q'=>hk g2 h (fun b o e=>hkp b o (Nat.ne_of_lt (Nat.lt_succ_of_lt (Heap.lt_size e))) (h3 b o e)) Q' q')
  (fun h hkp i j hi hj C hC=>hc h (fun b o e=>hkp b o (Nat.ne_of_lt (Nat.lt_succ_of_lt (Heap.lt_size e))) (h3 b o e)) i j hi hj C hC) (fun p a1 a2 a3=>⟨_,rfl,wpAny_pure ⟨_,rfl,fin p a1 a2 a3⟩⟩)) (args_list_sort _)))
theorem y53{b:Bool}{Q:Bool->Shared->Prop}:∀{us ws:List Value} {ns ms:List Int},IntsAre us ns->IntsAre ws ms->∀(i:Nat) (fin:Bool),fin=decide (ns.length<ms.length)->Q (HT.lexLt ns ms) s ->
  KatLex prog w A b fin Q (us.zip ws) i s
 | _,_,_,_,.nil,.nil,i,fin,e,q=>by
  subst e;exact kat_nil q
 | _,_,_,_,.nil,.cons m t h,i,fin,e,q=>by
  have e':fin=true:=by rw[e];simp
  rw[e'];exact kat_nil q
 | _,_,_,_,.cons n t h,.nil,i,fin,e,q=>by
  have e':fin=false:=by rw[e];simp
  rw[e'];exact kat_nil q
 | _,_,_,_,.cons n t h,.cons m t' h',i,fin,e,q=>by
  rw[List.zip_cons_cons];refine kat_cons (EqAt.int_int n t m t' prog w _ _ ?_);rw[HT.lexLt_cons]at q;by_cases hnm:n=m
  ·rw[show (n==m)=true by simpa using hnm]
   rw[if_pos hnm]at q
   exact kat_yes (y53 h h' (i+1) fin (by rw[e];simp) q)
  ·rw[show (n==m)=false by simpa using hnm]
   rw[if_neg hnm]at q;refine kat_no ?_
   cases (b&&i==0) with
   | true=>exact oneLt_int q
   | false=>exact kat_one _ _ (lt_int q)
end
noncomputable def z3H:List D->Option (List (List Int))
 | []=>some []
 | .tup xs::r=>(match Z4 xs with|some (n::ns)=>(z3H r).map ((n::ns)::·)|_=>none)
 | _::_=>none
theorem z5I:∀{ds:List D} {nss:List (List Int)},z3H ds=some nss->ds=nss.map (fun ns=>D.tup (ns.map D.int))/\∀ns∈nss,ns≠[]
 | [],nss,e=>by cases e;exact⟨rfl,fun _ h=>by simp at h⟩
 | .tup xs::r,nss,e=>by
  unfold z3H at e;split at e
  ·rename_i n ns h1;obtain⟨mss,h2,rfl⟩:=Option.map_eq_some_iff.mp e;obtain⟨h3,h4⟩:=z5I h2
   refine⟨by rw[h3,Z1 h1];rfl,fun ms hm=>?_⟩
   rcases List.mem_cons.mp hm with z|z
   ·rw[z];simp
   ·exact h4 ms z
  ·cases e
 | .non::r,_,e=>by unfold z3H at e;cases e
 | .bl _::r,_,e=>by unfold z3H at e;cases e
 | .str _::r,_,e=>by unfold z3H at e;cases e
 | .int _::r,_,e=>by unfold z3H at e;cases e
 | .lst _::r,_,e=>by unfold z3H at e;cases e
theorem y07:∀{nss:List (List Int)},(∀ns∈nss,ns≠[])->z3H (nss.map fun ns=>D.tup (ns.map D.int))=some nss
 | [],_=>rfl
 | ns::nss,h=>by
  cases ns with
  | nil=>exact absurd rfl (h [] List.mem_cons_self)
  | cons n ns =>
   rw[List.map_cons,z3H,y8E];dsimp only
   rw[y07 fun ms hm=>h ms (List.mem_cons_of_mem _ hm)]
   rfl
noncomputable def z4I(ds:List D):Option (List D):=if ds.length<64 then
  (match Z4 ds with
  | some ns=>some ((z2R ns).map D.int)
  | none=>(match z3H ds with|some nss=>some ((y2P nss).map fun ns=>D.tup (ns.map D.int))|none=>none))
 else none
section
variable{X:Cx}
theorem x8S{α:Type}{p:Array Nat}{us:List α}{d:α}(hp:p.Perm (List.toArray (List.range us.length))):(p.toList.map fun i=>us.getD i d).Perm us:=by
 have h1:p.toList.Perm (List.range us.length):=Array.perm_iff_toList_perm.mp hp
 have h2:=h1.map (fun i=>us.getD i d)
 have h3:(List.range us.length).map (fun i=>us.getD i d)=us:=by
  apply List.ext_getElem
  ·simp
  ·intro i g1 g2;simp[List.getElem_map,g2]
 rw[h3]at h2;exact h2
theorem x8C{K:PySem.W.Frag}{H:Hp}{ds:List D}{xs:List V}(h:j5 K H ds xs):∀is:List Nat,(∀i∈is,i<ds.length)->j5 K H (is.map fun i=>ds.getD i .non) (is.map fun i=>xs.getD i .non)
 | [],_=>j5.nil
 | i::is,hi=>by
  have h1:i<ds.length:=hi i List.mem_cons_self;obtain⟨v,e,r⟩:=h.get (List.getElem?_eq_getElem h1);rw[List.map_cons,List.map_cons]
  refine j5.cons ?_ (x8C h is fun j hj=>hi j (List.mem_cons_of_mem _ hj))
  rw[Q6 (List.getElem?_eq_getElem h1),Q6 e];exact r
theorem x8B{xs:List V}{us:List Value}(h:Z3 xs us):∀is:List Nat,(∀i∈is,i<xs.length)->Z3 (is.map fun i=>xs.getD i .non) (is.map fun i=>us.getD i Value.none)
 | [],_=>.nil
 | i::is,hi=>by
  have h1:i<xs.length:=hi i List.mem_cons_self;obtain⟨v,e,r⟩:=h.get (List.getElem?_eq_getElem h1);rw[List.map_cons,List.map_cons]
  refine .cons ?_ (x8B h is fun j hj=>hi j (List.mem_cons_of_mem _ hj))
  rw[Q6 (List.getElem?_eq_getElem h1),Q6 e];exact r
theorem z73{p:Array Nat}{n:Nat}(hp:p.Perm (List.toArray (List.range n))):∀i∈p.toList,i<n:=fun i hi=>by
 have:=(Array.perm_iff_toList_perm.mp hp).mem_iff.mp hi
 simpa using this
theorem z5H{lt:Nat->Nat->Bool}{p:Array Nat}{n:Nat}(hz:p.size=n)(h:Up lt p n):p.toList.Pairwise fun i j=>lt j i=false:=by
 rw[List.pairwise_iff_getElem];intro i j hi hj hij
 have hi':i<p.size:=by simpa using hi
 have hj':j<p.size:=by simpa using hj
 have e:=h i j (Nat.le_of_lt hij) (by omega)
 unfold gt at e
 have e1:p.getD i 0=p.toList[i]:=by simp[Array.getD,hi']
 have e2:p.getD j 0=p.toList[j]:=by simp[Array.getD,hj']
 rw[e1,e2]at e;exact e
theorem y3C:∀{its:List Value} {ns:List Int},IntsAre its ns->2≤its.length->keyKind' its.toArray=pure oneType'
 | [],_,_,h=>absurd h (by simp)
 | [_],_,_,h=>absurd h (by simp)
 | v1::v2::r,ns,hi,_=>keyKind_ints hi
theorem y21{its:List Value}{ns:List Int}(hi:IntsAre its ns){i:Nat}(h:i<its.length):∃t,its.getD i Value.none = .int (ns.getD i 0) t:=by
 have hl:=hi.length
 have h2:i<ns.length:=by omega
 obtain⟨t,e⟩:=hi.get i ns[i] (List.getElem?_eq_getElem h2)
 exact⟨t,by rw[Q6 e,Q6 (List.getElem?_eq_getElem h2)]⟩
theorem x4F(ns:List Int):KOrd (fun i j=>decide (ns.getD i 0<ns.getD j 0)) :=
 ⟨fun i j h=>by
  have:=of_decide_eq_true h
  exact decide_eq_false (by omega),fun i j k h1 h2=>by
  have:=of_decide_eq_false h1
  have:=of_decide_eq_false h2
  exact decide_eq_false (by omega)⟩
theorem x4E(nss:List (List Int)):KOrd (fun i j=>HT.lexLt (nss.getD i []) (nss.getD j [])) :=
 ⟨fun i j h=>z4W _ _ h,fun i j k h1 h2=>z8C _ _ _ h1 h2⟩
theorem x4D{ns:List Int}{p:Array Nat}(p1:p.size=ns.length)(p2:p.Perm (List.toArray (List.range ns.length)))(p3:Up (fun i j=>decide (ns.getD i 0<ns.getD j 0)) p ns.length) :
  (p.toList.map fun i=>(ns.map D.int).getD i .non)=(z2R ns).map D.int:=by
 have e:(p.toList.map fun i=>(ns.map D.int).getD i .non)=(p.toList.map fun i=>ns.getD i 0).map D.int:=by
  rw[List.map_map];apply List.map_congr_left;intro i hi;have h2:i<ns.length:=z73 p2 i hi
  show (ns.map D.int).getD i .non=D.int (ns.getD i 0)
  rw[Q6 (x:=D.int ns[i]) (by rw[List.getElem?_map,List.getElem?_eq_getElem h2];rfl),Q6 (List.getElem?_eq_getElem h2)]
 rw[e]
 congr 1
 refine z4U (le:=fun a b:Int=>a≤b) (fun a b h1 h2=>by omega) ((x8S p2).trans (z1G ns).symm) ?_ (y64 ns) (fun a=>Int.le_refl a)
 rw[List.pairwise_map]
 exact (z5H p1 p3).imp fun h=>by
  have:=of_decide_eq_false h
  omega
theorem x4C{nss:List (List Int)}{p:Array Nat}(p1:p.size=nss.length)(p2:p.Perm (List.toArray (List.range nss.length)))(p3:Up (fun i j=>HT.lexLt (nss.getD i []) (nss.getD j [])) p nss.length) :
  (p.toList.map fun i=>(nss.map fun ns=>D.tup (ns.map D.int)).getD i .non)=(y2P nss).map fun ns=>D.tup (ns.map D.int):=by
 have e:(p.toList.map fun i=>(nss.map fun ns=>D.tup (ns.map D.int)).getD i .non)=(p.toList.map fun i=>nss.getD i []).map fun ns=>D.tup (ns.map D.int):=by
  rw[List.map_map];apply List.map_congr_left;intro i hi;have h2:i<nss.length:=z73 p2 i hi
  show (nss.map fun ns=>D.tup (ns.map D.int)).getD i .non=D.tup ((nss.getD i []).map D.int)
  rw[Q6 (x:=D.tup (nss[i].map D.int)) (by rw[List.getElem?_map,List.getElem?_eq_getElem h2];rfl),Q6 (List.getElem?_eq_getElem h2)]
 rw[e]
 congr 1
 refine z4U (le:=fun a b:List Int=>HT.lexLt b a=false) (fun a b h1 h2=>y1I a b h2 h1) ((x8S p2).trans (z6W nss).symm) ?_ (y61 nss) (fun a=>y38 a)
 rw[List.pairwise_map]
 exact (z5H p1 p3).imp fun h=>h
theorem y2G{pins:List (Addr×Obj)}{σ:St}{H:Hp}{s:Shared}(I:Inv X pins σ H s){ns:List Int}{x:V}{u:Value}(hr:Rep X.K H (D.tup (ns.map D.int)) x)(rv:z1D x u) :
  ∃a o its n,u = .ref a/\s.heap.get? a=some o/\o.cls = .type "tuple"/\o.data = .seq its n/\IntsAre its.toList ns:=by
 obtain⟨a,xs,rfl,h1,h2⟩:=u0.mp hr;rw[Z9]at h2;subst h2;cases rv;obtain⟨its,r,p,_⟩:=I.tuple h1;obtain⟨o,ho,hc,n,hd⟩:=p
 exact⟨a,o,its.toArray,n,rfl,ho,hc,hd,z0U r⟩
theorem x13{pins:List (Addr×Obj)}{σ:St}{H:Hp}{s:Shared}(I:Inv X pins σ H s){h:Heap}(hk:∀b o,s.heap.get? b=some o->h.get? b=some o):∀{nss:List (List Int)} {us:List V} {its:List Value},(∀ns∈nss,ns≠[]) ->
  j5 X.K H (nss.map fun ns=>D.tup (ns.map D.int)) us->Z3 us its->∃fs,KatTups h its fs/\fs.length=its.length/\∀v∈fs,∃n t,v=Value.int n t
 | [],us,its,_,hr,rv=>by
  rw[List.map_nil,J6]at hr;subst hr;cases rv
  exact⟨[],KatTups.nil,rfl,fun v hv=>by simp at hv⟩
 | ns::nss,us,its,hne,hr,rv=>by
  rw[List.map_cons,u4]at hr;obtain⟨x,xs,rfl,h1,h2⟩:=hr
  cases rv with
  | cons r1 r2 =>
   obtain⟨fs,t1,t2,t3⟩:=x13 I hk (fun ms hm=>hne ms (List.mem_cons_of_mem _ hm)) h2 r2
   obtain⟨a,o,js,n,rfl,ho,hc,hd,hi⟩:=y2G I h1 r1
   cases ns with
   | nil=>exact absurd rfl (hne [] List.mem_cons_self)
   | cons m ms =>
    obtain⟨t,e⟩:=hi.get 0 m rfl
    have e':js[0]?=some (Value.int m t):=by simpa using e
    refine⟨Value.int m t::fs,KatTups.cons (hk _ _ ho) hc hd e' t1,by simp[t2],fun v hv=>?_⟩
    rcases List.mem_cons.mp hv with z|z
    ·exact⟨m,t,z⟩
    ·exact t3 v z
noncomputable def w22(K:PySem.W.Frag):List V->Hp->VK->Prop:=fun xs H Q=>∃a us ds es Hh,xs=[.ref a]/\K6 Hh H/\(SqL K H a us∨SqT K H a us)/\j5 K Hh ds us/\z4I ds=some es/\∀p ys,H p=none->j5 K Hh es ys->Q (.ref p) (upd H p (.lst ys))
theorem y5G:z3E X (.builtin "sorted") (w22 X.K):=by
 intro pins s σ H xs vs Q I r h;obtain⟨a,us,ds,es,Hh,rfl,sH,hq,hr0,hs,q⟩:=h;have hr:=hr0.mono sH;obtain⟨u,rfl,ru⟩:=z5G r;cases ru
 have src:∃its:List Value,Z3 us its/\(s.heap.IsList a its.toArray∨IsTup s.heap a its.toArray):=by
  rcases hq with hq|hq
  ·obtain⟨its,rv,pl,_⟩:=I.list hq
   exact⟨its,rv,.inl pl.isList⟩
  ·obtain⟨its,rv,pl,_⟩:=I.tuple hq
   exact⟨its,rv,.inr pl⟩
 obtain⟨its,rv,hl⟩:=src;have l1:=hr.length;have l2:=rv.length;unfold z4I at hs;split at hs
 ·rename_i h64
  have fin:∀p:Array Nat,p.size=its.length->p.Perm (List.toArray (List.range its.length))->(p.toList.map fun i=>ds.getD i .non)=es ->
    EP X pins σ Q (.ref (s.heap.objs.size+1)) { s with heap:=sortedAll s.heap its (List.toArray (p.toList.map fun i=>its.getD i Value.none)) }:=fun p p1 p2 p3=>by
   have pl:∀i∈p.toList,i<its.length:=z73 p2
   have v1:Z3 (p.toList.map fun i=>us.getD i .non) (p.toList.map fun i=>its.getD i Value.none):=x8B rv _ fun i hi=>by have:=pl i hi;omega
   have v2:j5 X.K Hh es (p.toList.map fun i=>us.getD i .non):=by
    rw[←p3]
    exact x8C hr0 _ fun i hi=>by have:=pl i hi;omega
   obtain⟨e,he⟩:=sortedAll_at s.heap its (List.toArray (p.toList.map fun i=>its.getD i Value.none))
   have hfr:H (s.heap.objs.size+1)=none:=I.hok.fresh (Nat.le_succ _)
   refine⟨.ref (s.heap.objs.size+1),_,I.laid (t':=s.toks) (a:=s.heap.objs.size+1) (o:=.lst (p.toList.map fun i=>us.getD i .non)) (fun b o hb=>sortedAll_old hb) (Nat.le_succ _) ?_,rfl,q _ _ hfr v2⟩
   refine⟨?_,_,e,v1,he⟩
   rw[List.length_map,Array.length_toList,p1,sizeLine_eq];omega
  split at hs
  ·rename_i ns hn;cases hs;have hd:=Z1 hn;subst hd;have hus:=Z9.mp hr;subst hus;have hi:IntsAre its ns:=z0U rv;have hz:its.length=ns.length:=hi.length
   refine y0B (κ:=oneType') (x4F ns) hl (by omega) (fun g2 h hkp Q' q'=>?_) (fun h hkp i j hi' hj' C hC=>?_) (fun p p1 p2 p3=>fin p p1 p2 (x4D (by rw[p1,hz]) (by rw[←hz];exact p2) (by rw[←hz];exact p3)))
   ·rw[y3C hi g2];exact wpAny_pure q'
   ·obtain⟨ti,ei⟩:=y21 hi hi';obtain⟨tj,ej⟩:=y21 hi hj';rw[ei,ej,keyLt'_oneType];exact oneLt_int hC
  ·split at hs
   ·rename_i nss hn;cases hs;obtain⟨hd,hne⟩:=z5I hn;subst hd
    have hz:its.length=nss.length:=by rw[←l2,←l1,List.length_map]
    refine y0B (κ:=tuples' (Value.type "int" != Value.type "tuple")) (x4E nss) hl (by omega) (fun g2 h hkp Q' q'=>?_) (fun h hkp i j hi' hj' C hC=>?_) (fun p p1 p2 p3=>fin p p1 p2 (x4C (by rw[p1,hz]) (by rw[←hz];exact p2) (by rw[←hz];exact p3)))
    ·obtain⟨fs,t1,t2,t3⟩:=x13 I hkp hne hr rv
     refine kat_kind (s:={ s with heap:=h }) t1 (by omega) (fun v hv=>?_) rfl q'
     obtain⟨n,t,rfl⟩:=t3 v hv;exact Looks.of_pure rfl
    ·have gi:i<nss.length:=by omega
     have gj:j<nss.length:=by omega
     obtain⟨xi,e1,r1⟩:=hr.get (i:=i) (d:=D.tup (nss[i].map D.int)) (by rw[List.getElem?_map,List.getElem?_eq_getElem gi];rfl)
     obtain⟨xj,e2,r2⟩:=hr.get (i:=j) (d:=D.tup (nss[j].map D.int)) (by rw[List.getElem?_map,List.getElem?_eq_getElem gj];rfl)
     obtain⟨ui,f1,s1⟩:=rv.get e1;obtain⟨uj,f2,s2⟩:=rv.get e2;obtain⟨ai,oi,ji,ni,rfl,hoi,hci,hdi,ii⟩:=y2G I r1 s1;obtain⟨aj,oj,jj,nj,rfl,hoj,hcj,hdj,ij⟩:=y2G I r2 s2;rw[Q6 f1,Q6 f2];rw[Q6 (List.getElem?_eq_getElem gi),Q6 (List.getElem?_eq_getElem gj)]at hC
     refine kat_lt (s:={ s with heap:=h }) (hkp _ _ hoi) hdi (hkp _ _ hoj) hdj (y53 ii ij 0 _ ?_ hC)
     have a1:=ii.length;have a2:=ij.length;rw[Array.length_toList]at a1 a2;rw[a1,a2]
   ·cases hs
 ·cases hs
end
end L3
namespace L3
open PySem PySem.Spec PyProof.Rows L2 PySem.SeqAt
noncomputable def RdC(K:PySem.W.Frag)(r:List V->Hp->VK->Prop)(F:List D->Option D):Prop :=
 ∀ds d,F ds=some d->∀(Z:List Addr) (H:Hp) (vs:List V) (Q:VK),(∀z∈Z,∃o,H z=some o)->j5 K (K3 Z H) ds vs->(∀w' H',K6 H H'->Rep K (K3 Z H') d w'->Q w' H')->r vs H Q
noncomputable def w3V(K:PySem.W.Frag)(r:List V->Hp->VK->Prop)(F:List D->Option (List D)):Prop :=
 ∀ds es,F ds=some es->∀(Z:List Addr) (H:Hp) (a:Addr) (xs:List V) (Q:VK),(∀z∈Z,∃o,H z=some o)->(SqL K H a xs∨SqT K (K3 Z H) a xs)->j5 K (K3 Z H) ds xs ->
  (∀l ys H',K6 H H'->H l=none->H' l=some (.lst ys)->j5 K (K3 (l::Z) H') es ys->Q (.ref l) H')->r [.ref a] H Q
noncomputable def dQ(F:List D->Option D)(f:y0->Option (List D)):y0->Option D:=fun ρ=>match f ρ with|some ds=>F ds|none=>none
noncomputable def dQF(F:List D->Option (List D))(f:y0->Option (List D)):y0->Option (List D):=fun ρ=>match f ρ with|some ds=>F ds|none=>none
section
variable{X:Cx}{x:Str}{p pos:Pos}{e:Expr}{es:List Expr}{id T:String}{r:List V->Hp->VK->Prop}{F:List D->Option D}{FL:List D->Option (List D)}{g f:y0->Option (List D)}
theorem y3T{K:PySem.W.Frag}(hr:RdC K r F):∀σ H Q,tD K (v6 F g) σ H Q->tCB r (tL K g) σ H Q:=fun σ H Q ⟨ρ,d,B,H0,V0,Z,e,r',q⟩=>by
 unfold v6 at e;split at e
 ·rename_i ds eds
  exact⟨ρ,ds,B,H0,V0,Z,eds,r',fun vs H1 s1 rr=>hr ds d e Z H1 vs Q (r'.mono s1).zs rr fun w' H' s rw'=>q w' H' (s1.trans s) rw'⟩
 ·cases e
theorem y65(hc:z3E X (.builtin id) r)(hr:RdC X.K r F)(hm:X.mg x=none)(hv:bootBuiltins x=some (.builtin id))(ha:SA X (e::es) g)(hg:Gl X x:=by rfl)(hn:x≠"__name__":=by decide)(hdb:(x==("__debug__":Str))=false:=by decide)(he:starEach (e::es) X.env=(false,eval e X.env)::starEach es X.env:=by exact y9 rfl)(hpl:(backTo pos (starEach es X.env)).any (·.1)=false:=by exact v7 rfl):SE X (.Call (.Name x p) (e::es) [] pos) (v6 F g) :=
 u5 (z1N hc hg hm hv ha hn hdb he hpl) (y3T hr)
theorem y9U(hc:z3E X (.type T) r)(hr:RdC X.K r F)(hm:X.mg x=none)(hv:bootBuiltins x=some (.type T))(ha:SA X (e::es) g)(hg:Gl X x:=by rfl)(hn:x≠"__name__":=by decide)(hdb:(x==("__debug__":Str))=false:=by decide)(he:starEach (e::es) X.env=(false,eval e X.env)::starEach es X.env:=by exact y9 rfl)(hpl:(backTo pos (starEach es X.env)).any (·.1)=false:=by exact v7 rfl):SE X (.Call (.Name x p) (e::es) [] pos) (v6 F g) :=
 u5 (z3N hc hg hm hv ha hn hdb he hpl) (y3T hr)
theorem y0R{K:PySem.W.Frag}(hr:w3V K r FL):∀σ H Q,tF K (dQF FL f) σ H Q->tCB r (x7A (tQ K f) w48) σ H Q:=fun σ H Q ⟨ρ,d,B,H0,V0,Z,e,r',q⟩=>by
 unfold dQF at e;split at e
 ·rename_i ds eds
  exact⟨ρ,ds,B,H0,V0,Z,eds,r',fun a xs H1 s1 hq rr=>hr ds d e Z H1 a xs Q (r'.mono s1).zs hq rr fun l ys H' s hn hl rw'=>q l ys H' (s1.trans s) (s1.free hn) hl rw'⟩
 ·cases e
theorem x3O(hc:z3E X (.builtin id) r)(hr:w3V X.K r FL)(hm:X.mg x=none)(hv:bootBuiltins x=some (.builtin id))(h:SQ X e f)(hg:Gl X x:=by rfl)(hn:x≠"__name__":=by decide)(hdb:(x==("__debug__":Str))=false:=by decide)(he:starEach [e] X.env=(false,eval e X.env)::starEach [] X.env:=by exact y9 rfl)(hpl:(backTo pos (starEach [] X.env)).any (·.1)=false:=by exact v7 rfl):SF X (.Call (.Name x p) [e] [] pos) (dQF FL f) :=
 u5 (z1N hc hg hm hv (K8 h z05 he) hn hdb he hpl) (y0R hr)
theorem y7V(hc:z3E X (.type T) r)(hr:w3V X.K r FL)(hm:X.mg x=none)(hv:bootBuiltins x=some (.type T))(h:SQ X e f)(hg:Gl X x:=by rfl)(hn:x≠"__name__":=by decide)(hdb:(x==("__debug__":Str))=false:=by decide)(he:starEach [e] X.env=(false,eval e X.env)::starEach [] X.env:=by exact y9 rfl)(hpl:(backTo pos (starEach [] X.env)).any (·.1)=false:=by exact v7 rfl):SF X (.Call (.Name x p) [e] [] pos) (dQF FL f) :=
 u5 (z3N hc hg hm hv (K8 h z05 he) hn hdb he hpl) (y0R hr)
end
section
variable{X:Cx}{p pos:Pos}{e:Expr}{f:y0->Option (List D)}
theorem y6T{Z:List Addr}{H:Hp}(zs:∀z∈Z,∃o,H z=some o){l:Addr}(hl:H l=none):l∉Z:=fun z=>by
 obtain⟨o,ho⟩:=zs _ z;rw[hl]at ho;cases ho
theorem y9Y{K:PySem.W.Frag}:w3V K (w22 K) z4I:=by
 intro ds es hs Z H a xs Q zs hq rr q
 refine⟨a,xs,ds,es,K3 Z H,rfl,w9,hq.imp id (j9 w9),rr,hs,fun l ys hl ry=>?_⟩
 exact q l ys _ (j7 hl) hl v5 (ry.mono (z1P hl (j7 hl)))
theorem y9S(hm:X.mg "sorted" = none)(h:SQ X e f)(hg:Gl X "sorted":=by rfl)(hv:bootBuiltins "sorted" = some (.builtin "sorted"):=by decide +kernel)(he:starEach [e] X.env=(false,eval e X.env)::starEach [] X.env:=by exact y9 rfl)(hpl:(backTo pos (starEach [] X.env)).any (·.1)=false:=by exact v7 rfl):SF X (.Call (.Name "sorted" p) [e] [] pos) (dQF z4I f) :=
 x3O y5G y9Y hm hv h hg (by decide) (by decide) he hpl
theorem x83{K:PySem.W.Frag}:w3V K (fun xs H Q=>∃p ys,xs=[.ref p]/\(SqL K H p ys∨SqT K H p ys)/\∀l,H l=none->Q (.ref l) (upd H l (.lst ys))) some:=by
 intro ds es hs Z H a xs Q zs hq rr q;cases hs
 refine⟨a,xs,rfl,hq.imp id (j9 w9),fun l hl=>?_⟩
 exact q l xs _ (j7 hl) hl v5 (rr.mono (z1P hl (j7 hl)))
theorem x7T(hm:X.mg "list" = none)(h:SQ X e f)(hg:Gl X "list":=by rfl)(hv:bootBuiltins "list" = some (.type "list"):=by decide +kernel)(he:starEach [e] X.env=(false,eval e X.env)::starEach [] X.env:=by exact y9 rfl)(hpl:(backTo pos (starEach [] X.env)).any (·.1)=false:=by exact v7 rfl):SF X (.Call (.Name "list" p) [e] [] pos) (dQF some f) :=
 y7V y3R x83 hm hv h hg (by decide) (by decide) he hpl
noncomputable def w6J(K:PySem.W.Frag):List V->Hp->VK->Prop:=fun xs H Q=>∃p,∃bs:List Bool,xs=[.ref p]/\SqL K H p (bs.map V.bl)/\Q (.bl (bs.all id)) H
theorem y7G:∀{bs:List Bool} {us:List Value},Z3 (bs.map V.bl) us->LSm.BoolsAre us bs
 | [],_,.nil=>.nil
 | b::bs,_,.cons r t=>by cases r;exact .cons _ (y7G t)
theorem x5K(hc:X.calm=true):z3E X (.builtin "all") (w6J X.K):=by
 intro pins s σ H xs us Q I r h;obtain⟨l,bs,rfl,hq,q⟩:=h;obtain⟨u,rfl,rx⟩:=z5G r;cases rx;obtain⟨vs,rv,pl,hz⟩:=I.list hq;have hl:=pl.isList;have hb:=y7G rv
 have hlt:l<s.heap.objs.size:=by obtain⟨_,e,_⟩:=hl;exact Heap.lt_size e
 refine call_all_walk (wpAny_pyIter_list hl ?_)
 refine⟨s.heap.objs.size,[s.heap.objs.size,l],[s.heap.objs.size],vs.toArray.size,_,_,fun i=>(bs[i]?).getD true,rfl,Walks.list (A:=X.A.in1) (I.ok.hd hc) _ l (Nat.ne_of_lt hlt) vs.toArray,
  ⟨⟨_,Heap.get?_push_size _ rfl,rfl,rfl⟩,hl.push _⟩,fun i v s' Q' E' hP hQ=>?_,fun h' tk hk=>?_⟩
 ·obtain⟨b,e,rfl⟩:=hb.get i v (by simpa using hP)
  simp only[e,Option.getD_some]at hQ;exact wpAny_truthy_bool hQ
 ·have e:((List.range vs.toArray.size).all fun i=>(bs[i]?).getD true)=bs.all id:=by
   rw[List.size_toArray,hb.length];exact LSm.range_all bs
  rw[e]
  exact⟨.bl _,H,I.kept (LSm.kept_iter hk),rfl,q⟩
noncomputable def z7C:List D->Option (List Bool)
 | []=>some []
 | .bl b::r=>(z7C r).map (b::·)
 | _::_=>none
theorem y0T:∀{ds:List D} {bs:List Bool},z7C ds=some bs->ds=bs.map D.bl
 | [],bs,e=>by cases e;rfl
 | .bl b::r,bs,e=>by
  unfold z7C at e;obtain⟨cs,h1,rfl⟩:=Option.map_eq_some_iff.mp e;rw[y0T h1];rfl
 | .int _::r,_,e=>by unfold z7C at e;cases e
 | .non::r,_,e=>by unfold z7C at e;cases e
 | .str _::r,_,e=>by unfold z7C at e;cases e
 | .tup _::r,_,e=>by unfold z7C at e;cases e
 | .lst _::r,_,e=>by unfold z7C at e;cases e
 | .dct _ _::r,_,e=>by unfold z7C at e;cases e
theorem y6E{K:PySem.W.Frag}{H:Hp}:∀{bs:List Bool} {xs:List V},j5 K H (bs.map D.bl) xs->xs=bs.map V.bl
 | [],xs,h=>J6.mp h
 | b::bs,xs,h=>by
  obtain⟨v,vs,rfl,h1,h2⟩:=u4.mp h;rw[J8.mp h1,y6E h2];rfl
noncomputable def x5E(f:y0->Option (List D)):y0->Option D:=fun ρ=>match f ρ with|some ds=>(match z7C ds with|some bs=>some (.bl (bs.all id))|none=>none)|none=>none
theorem w1P(hc:X.calm=true)(hm:X.mg "all" = none)(h:SF X e f)(hg:Gl X "all":=by rfl)(hv:bootBuiltins "all" = some (.builtin "all"):=by decide +kernel)(he:starEach [e] X.env=(false,eval e X.env)::starEach [] X.env:=by exact y9 rfl)(hpl:(backTo pos (starEach [] X.env)).any (·.1)=false:=by exact v7 rfl):SE X (.Call (.Name "all" p) [e] [] pos) (x5E f) :=
 u5 (z1N (x5K hc) hg hm hv (K8 h z05 he) (by decide) (by decide) he hpl) fun σ H Q ⟨ρ,d,B,H0,V0,Z,e,r,q⟩=>by
  unfold x5E at e;split at e
  ·rename_i ds eds;split at e
   ·rename_i bs hb;cases e
    have:=y0T hb
    subst this
    refine⟨ρ,_,B,H0,V0,Z,eds,r,fun a xs H' s hn ha rr=>⟨a,bs,rfl,?_,q _ H' s (J8.mpr rfl)⟩⟩
    rw[←y6E rr];exact SqL.of ha
   ·cases e
  ·cases e
noncomputable def tyN:D->String
 | .non=>"NoneType"
 | .bl _=>"bool"
 | .int _=>"int"
 | .str _=>"str"
 | .tup _=>"tuple"
 | .lst _=>"list"
 | .dct _ _=>"dict"
noncomputable def y1K(T:String)(d:D):Bool:=tyN d==T||(T=="int"&&tyN d=="bool")
noncomputable def w6I(K:PySem.W.Frag)(T:String):List V->Hp->VK->Prop:=fun xs H Q=>∃x d,xs=[x,.ty T]/\Rep K H d x/\Q (.bl (y1K T d)) H
noncomputable def Kit(T:String):Prop:=∀(K:PySem.W.Frag) (d:D),PySem.W.kitOne K (.type (tyN d)) (.type T)=some (y1K T d)
theorem x0X{T:String} (h:∀K:PySem.W.Frag,PySem.W.kitOne K (.type "NoneType") (.type T)=some (y1K T .non)/\PySem.W.kitOne K (.type "bool") (.type T)=some (y1K T (.bl true))/\PySem.W.kitOne K (.type "int") (.type T)=some (y1K T (.int 0))/\PySem.W.kitOne K (.type "str") (.type T)=some (y1K T (.str ⟨#[]⟩)) /\
  PySem.W.kitOne K (.type "tuple") (.type T)=some (y1K T (.tup []))/\PySem.W.kitOne K (.type "list") (.type T)=some (y1K T (.lst []))/\PySem.W.kitOne K (.type "dict") (.type T)=some (y1K T (.dct [] []))):Kit T:=fun K d=>by
 obtain⟨h1,h2,h3,h4,h5,h6,h7⟩:=h K
 cases d with
 | non=>exact h1
 | bl _=>exact h2
 | int _=>exact h3
 | str _=>exact h4
 | tup _=>exact h5
 | lst _=>exact h6
 | dct _ _=>exact h7
theorem x0Y:Kit "int":=x0X fun K=>⟨rfl,rfl,rfl,rfl,rfl,rfl,rfl⟩
theorem y1J:Kit "bool":=x0X fun K=>⟨rfl,rfl,rfl,rfl,rfl,rfl,rfl⟩
theorem z6B:Kit "tuple":=x0X fun K=>⟨rfl,rfl,rfl,rfl,rfl,rfl,rfl⟩
theorem x5J{T:String}(kt:Kit T):z3E X (.builtin "isinstance") (w6I X.K T):=by
 intro pins s σ H xs us Q I r h;obtain⟨x,d,rfl,hx,q⟩:=h;obtain⟨u,w',rfl,ru,rw'⟩:=x75 r
 cases rw'
 have e:=kt X.K d
 have fin:∀tk,EP X pins σ Q (.bool (y1K T d)) { s with toks:=tk }:=fun tk=>⟨.bl _,H,I.tok tk,rfl,q⟩
 cases d with
 | non=>obtain rfl:=Y7.mp hx;cases ru;exact PySem.W.kia_one PySem.W.kitx_none I.kIn True.intro e (fun z=>nomatch z) fin
 | bl b=>obtain rfl:=J8.mp hx;cases ru;exact PySem.W.kia_one PySem.W.kitx_bool I.kIn True.intro e (fun z=>nomatch z) fin
 | int i=>obtain rfl:=v4.mp hx;obtain⟨t,rfl⟩:=ru;exact PySem.W.kia_one PySem.W.kitx_int I.kIn True.intro e (fun z=>nomatch z) fin
 | str i=>obtain rfl:=Y5.mp hx;obtain⟨t,rfl⟩:=ru;exact PySem.W.kia_one PySem.W.kitx_str I.kIn True.intro e (fun z=>nomatch z) fin
 | tup ds =>
  obtain⟨a,ys,rfl,h1,_⟩:=u0.mp hx;cases ru;obtain⟨its,_,⟨o,h1,h2,_⟩,_⟩:=I.tuple h1
  exact PySem.W.kia_one PySem.W.kitx_tuple I.kIn ⟨o,h1,h2⟩ e (fun z=>nomatch z) fin
 | lst ds =>
  obtain⟨a,ys,rfl,h1,_⟩:=g8.mp hx;cases ru;obtain⟨its,_,⟨o,n,h1,h2,_⟩,_⟩:=I.list h1
  exact PySem.W.kia_one PySem.W.kitx_list I.kIn ⟨o,h1,h2⟩ e (fun z=>nomatch z) fin
 | dct ks ds =>
  obtain⟨a,kvs,rfl,h1,_⟩:=z18.mp hx;cases ru;obtain⟨o,h1,h2⟩:=y5C I h1
  exact PySem.W.kia_one PySem.W.kitx_dict I.kIn ⟨o,h1,h2⟩ e (fun z=>nomatch z) fin
noncomputable def z7B(T:String)(f:y0->Option D):y0->Option D:=fun ρ=>match f ρ with|some d=>some (.bl (y1K T d))|none=>none
theorem w1J{T:String}{x:Str}{p1 p2:Pos}{fe:y0->Option D}(kt:Kit T)(hm:X.mg "isinstance" = none)(hmT:X.mg x=none)(h:SE X e fe)(hvT:bootBuiltins x=some (.type T))(hg:Gl X "isinstance":=by rfl)(hgT:Gl X x:=by rfl)(hv:bootBuiltins "isinstance" = some (.builtin "isinstance"):=by decide +kernel)(hn:x≠"__name__":=by decide)(hdb:(x==("__debug__":Str))=false:=by decide)(he:starEach [e,.Name x p1] X.env=(false,eval e X.env)::starEach [.Name x p1] X.env:=by exact y9 rfl)(he2:starEach [.Name x p1] X.env=(false,eval (.Name x p1) X.env)::starEach [] X.env:=by exact y9 rfl)(hpl:(backTo pos (starEach [.Name x p1] X.env)).any (·.1)=false:=by exact v7 rfl) :
  SE X (.Call (.Name "isinstance" p2) [e,.Name x p1] [] pos) (z7B T fe) :=
 u5 (z1N (x5J kt) hg hm hv (K8 h (K8 (x0D hgT hmT hvT (v:=.ty T) rfl hn hdb) z05 he2) he) (by decide) (by decide) he hpl) fun σ H Q ⟨ρ,d,B,H0,V0,Z,e,r,q⟩=>by
  unfold z7B at e;split at e
  ·rename_i d' ed;cases e
   exact⟨ρ,d',B,H0,V0,Z,ed,r,fun v H' s rr=>⟨v,d',rfl,rr.mono w9,q _ H' s (J8.mpr rfl)⟩⟩
  ·cases e
end
section
variable{X:Cx}{p p2 pos pos2:Pos}{a b e:Expr}{f:y0->Option (List D)}{fa fb:y0->Option D}
noncomputable def x84:List V->Hp->VK->Prop:=fun xs H Q=>∃j:Int,xs=[.int j]/\∀p,H p=none->Q (.ref p) (upd H p (.rng 0 j))
theorem y5H:z3E X (.type "range") x84:=by
 intro pins s σ H xs us Q I r h;obtain⟨j,rfl,q⟩:=h;obtain⟨u,rfl,ru⟩:=z5G r;obtain⟨t,rfl⟩:=ru
 exact call_range_1 ⟨.ref s.heap.objs.size,_,I.laid (o:=.rng 0 j) (fun b o e=>Heap.get?_push_of_some _ e) (Nat.le_refl _) ⟨_,_,_,Heap.get?_push_size _ rfl⟩,rfl,q _ I.fresh⟩
noncomputable def iUp(lo:Int)(n:Nat):List Int:=(List.range n).map fun (k:Nat)=>lo+(k:Int)
noncomputable def x3Y:List V->Hp->VK->Prop:=fun xs H Q=>∃p,∃j:Int,xs=[.ref p]/\H p=some (.rng 0 j)/\-(2 ^ 62)≤j/\j≤1000000/\∀l,H l=none->Q (.ref l) (upd H l (.lst ((iUp 0 j.toNat).map V.int)))
theorem y1V(hc:X.calm=true):z3E X (.type "list") x3Y:=by
 intro pins s σ H xs us Q I r h;obtain⟨p,j,rfl,hp,h1,h2,q⟩:=h;obtain⟨u,rfl,ru⟩:=z5G r;cases ru
 obtain⟨t,u,v,ho⟩:=(show z03 X.prog X.w H s.heap p (.rng 0 j) from I.hok p _ hp)
 have hn:Builtin.Range.rangeSize 0 j 1=((j.toNat:Nat):Int):=by rw[rangeSize_one];split<;>omega
 refine call_list_range (I.ok.hd hc) ho (small_one (by omega) (by omega) h1 (by omega)) hn (by omega) fun h' tk acc' c' hk hS' hacc=>?_
 refine⟨.ref s.heap.objs.size,_,I.laid (o:=.lst ((iUp 0 j.toNat).map V.int)) hk (Nat.le_refl _) ⟨?_,acc'.toList,c',?_,?_⟩,rfl,q _ I.fresh⟩
 ·unfold iUp;rw[List.length_map,List.length_map,List.length_range,sizeLine_eq];omega
 ·have hv:∀(n:Nat) (acc:List Value) (lo:Nat),acc.length=n->(∀(i:Nat) v,acc[i]?=some v->∃t,v = .int (0+((lo+i:Nat):Int)*1) t)->Z3 (((List.range n).map fun (k:Nat)=>(0:Int)+((lo+k:Nat):Int)).map V.int) acc:=by
   intro n
   induction n with
   | zero=>intro acc lo hl _;cases acc with|nil=>exact .nil|cons _ _=>cases hl
   | succ n ih =>
    intro acc lo hl hg
    cases acc with
    | nil=>cases hl
    | cons x acc =>
     rw[List.range_succ_eq_map,List.map_cons,List.map_cons];refine .cons ?_ ?_
     ·obtain⟨t,e⟩:=hg 0 x rfl
      exact⟨t,by rw[e];simp⟩
     ·rw[List.map_map,List.map_map]
      have:=ih acc (lo+1) (by simpa using hl) fun i v hv=>by
       obtain⟨t,e⟩:=hg (i+1) v (by simpa using hv)
       refine⟨t,?_⟩
       rw[e]
       congr 3
       omega
      rw[List.map_map]at this
      refine Eq.mp (congrArg (fun l=>Z3 l acc) (List.map_congr_left fun k _=>?_)) this
      simp only[Function.comp]
      congr 2
      omega
  have:=hv j.toNat acc'.toList 0 (by simpa using hacc.1) fun i v e=>by
   obtain⟨t,e'⟩:=hacc.2 i v (by simpa using e)
   exact⟨t,by rw[e'];simp⟩
  unfold iUp
  refine Eq.mp (congrArg (fun l=>Z3 l acc'.toList) ?_) this
  simp
 ·simpa using hS'
noncomputable def z41(f:y0->Option D):y0->Option (List D):=fun ρ=>match f ρ with|some (.int j)=>if -(2 ^ 62)≤j/\j≤100000 then some ((iUp 0 j.toNat).map D.int) else none|_=>none
theorem y7U(hc:X.calm=true)(hm:X.mg "list" = none)(hm2:X.mg "range" = none)(h:SE X a fa)(hg:Gl X "list":=by rfl)(hg2:Gl X "range":=by rfl)(hv:bootBuiltins "list" = some (.type "list"):=by decide +kernel)(hv2:bootBuiltins "range" = some (.type "range"):=by decide +kernel)(he:starEach [a] X.env=(false,eval a X.env)::starEach [] X.env:=by exact y9 rfl)(hpl:(backTo pos2 (starEach [] X.env)).any (·.1)=false:=by exact v7 rfl)(he2:starEach [.Call (.Name "range" p2) [a] [] pos2] X.env=(false,eval (.Call (.Name "range" p2) [a] [] pos2) X.env)::starEach [] X.env:=by exact y9 rfl)(hpl2:(backTo pos (starEach [] X.env)).any (·.1)=false:=by exact v7 rfl) :
  SF X (.Call (.Name "list" p) [.Call (.Name "range" p2) [a] [] pos2] [] pos) (z41 fa) :=
 u5 (z3N (y1V hc) hg hm hv (K8 (z3N y5H hg2 hm2 hv2 (K8 h z05 he) (by decide) (by decide) he hpl) z05 he2) (by decide) (by decide) he2 hpl2) fun σ H Q ⟨ρ,d,B,H0,V0,Z,e,r,q⟩=>by
  unfold z41 at e;split at e
  ·rename_i j ej;split at e
   ·rename_i hj;cases e
    refine⟨ρ,_,B,H0,V0,Z,ej,r,fun v H' s rr=>?_⟩
    obtain rfl:=v4.mp rr
    refine⟨j,rfl,fun p1 hp1=>⟨p1,j,rfl,v5,hj.1,by omega,fun l hl=>?_⟩⟩
    have s1:=j7 (o:=HO.rng 0 j) hp1;have s2:=j7 (o:=HO.lst ((iUp 0 j.toNat).map V.int)) hl;exact q l _ _ (s.trans (s1.trans s2)) ((s.trans s1).free hl) v5 (Z9.mpr rfl)
   ·cases e
  ·cases e
noncomputable def x6N:List D->Option D:=fun ds=>match ds with|[.int i,.int j]=>some (.int (if j<i then j else i))|_=>none
noncomputable def x6O:List D->Option D:=fun ds=>match ds with|[.int i,.int j]=>some (.int (if j>i then j else i))|_=>none
theorem y6A{K:PySem.W.Frag}{H:Hp}{d e:D}{xs:List V}(h:j5 K H [d,e] xs):∃u v,xs=[u,v]/\Rep K H d u/\Rep K H e v:=by
 obtain⟨u,vs,rfl,h1,h2⟩:=u4.mp h;obtain⟨v,ws,rfl,h3,h4⟩:=u4.mp h2
 obtain rfl:=J6.mp h4
 exact⟨u,v,rfl,h1,h3⟩
theorem y6C{K:PySem.W.Frag}{H:Hp}{d:D}{xs:List V}(h:j5 K H [d] xs):∃u,xs=[u]/\Rep K H d u:=by
 obtain⟨u,vs,rfl,h1,h2⟩:=u4.mp h
 obtain rfl:=J6.mp h2
 exact⟨u,rfl,h1⟩
theorem w1X{K:PySem.W.Frag}:RdC K (fun xs H Q=>∃i j,xs=[.int i,.int j]/\Q (.int (if j<i then j else i)) H) x6N:=by
 intro ds d e Z H vs Q zs rr q;unfold x6N at e;split at e
 ·rename_i i j;cases e;obtain⟨u,v,rfl,h1,h2⟩:=y6A rr
  obtain rfl:=v4.mp h1
  obtain rfl:=v4.mp h2
  exact⟨i,j,rfl,q _ H (K6.refl H) (v4.mpr rfl)⟩
 ·cases e
theorem w1Y{K:PySem.W.Frag}:RdC K (fun xs H Q=>∃i j,xs=[.int i,.int j]/\Q (.int (if j>i then j else i)) H) x6O:=by
 intro ds d e Z H vs Q zs rr q;unfold x6O at e;split at e
 ·rename_i i j;cases e;obtain⟨u,v,rfl,h1,h2⟩:=y6A rr
  obtain rfl:=v4.mp h1
  obtain rfl:=v4.mp h2
  exact⟨i,j,rfl,q _ H (K6.refl H) (v4.mpr rfl)⟩
 ·cases e
theorem x7W(hc:X.calm=true)(hm:X.mg "min" = none)(ha:SE X a fa)(hb:SE X b fb)(hg:Gl X "min":=by rfl)(hv:bootBuiltins "min" = some (.builtin "min"):=by decide +kernel)(he:starEach [a,b] X.env=(false,eval a X.env)::starEach [b] X.env:=by exact y9 rfl)(he2:starEach [b] X.env=(false,eval b X.env)::starEach [] X.env:=by exact y9 rfl)(hpl:(backTo pos (starEach [b] X.env)).any (·.1)=false:=by exact v7 rfl):SE X (.Call (.Name "min" p) [a,b] [] pos) (v6 x6N (z8 fa (z8 fb u9))) :=
 y65 (x2A hc) w1X hm hv (z70 ha (z70 hb y66 he2) he) hg (by decide) (by decide) he hpl
theorem x7Y(hc:X.calm=true)(hm:X.mg "max" = none)(ha:SE X a fa)(hb:SE X b fb)(hg:Gl X "max":=by rfl)(hv:bootBuiltins "max" = some (.builtin "max"):=by decide +kernel)(he:starEach [a,b] X.env=(false,eval a X.env)::starEach [b] X.env:=by exact y9 rfl)(he2:starEach [b] X.env=(false,eval b X.env)::starEach [] X.env:=by exact y9 rfl)(hpl:(backTo pos (starEach [b] X.env)).any (·.1)=false:=by exact v7 rfl):SE X (.Call (.Name "max" p) [a,b] [] pos) (v6 x6O (z8 fa (z8 fb u9))) :=
 y65 (x2C hc) w1Y hm hv (z70 ha (z70 hb y66 he2) he) hg (by decide) (by decide) he hpl
noncomputable def fBool:List D->Option D:=fun ds=>match ds with|[.int i]=>some (.bl (i != 0))|[.bl b]=>some (.bl b)|_=>none
noncomputable def x2W:List D->Option D:=fun ds=>match ds with|[.int i]=>some (.int i)|[.bl b]=>some (.int (if b then 1 else 0))|_=>none
theorem w20{K:PySem.W.Frag}:RdC K (fun xs H Q=>(∃i,xs=[.int i]/\Q (.int i) H)∨∃k,xs=[.bl k]/\Q (.int (if k then 1 else 0)) H) x2W:=by
 intro ds d e Z H vs Q zs rr q;unfold x2W at e;split at e
 ·cases e;obtain⟨u,rfl,h1⟩:=y6C rr
  obtain rfl:=v4.mp h1
  exact .inl ⟨_,rfl,q _ H (K6.refl H) (v4.mpr rfl)⟩
 ·cases e;obtain⟨u,rfl,h1⟩:=y6C rr
  obtain rfl:=J8.mp h1
  exact .inr ⟨_,rfl,q _ H (K6.refl H) (v4.mpr rfl)⟩
 ·cases e
theorem x3Q(hm:X.mg "int" = none)(ha:SE X a fa)(hg:Gl X "int":=by rfl)(hv:bootBuiltins "int" = some (.type "int"):=by decide +kernel)(he:starEach [a] X.env=(false,eval a X.env)::starEach [] X.env:=by exact y9 rfl)(hpl:(backTo pos (starEach [] X.env)).any (·.1)=false:=by exact v7 rfl):SE X (.Call (.Name "int" p) [a] [] pos) (v6 x2W (z8 fa u9)) :=
 y9U x2E w20 hm hv (z70 ha y66 he) hg (by decide) (by decide) he hpl
noncomputable def y5D(f:y0->Option D):y0->Option D:=fun ρ=>match f ρ with|some (.int i)=>some (.int (-i))|_=>none
theorem w1F(h:SE X a fa):SE X (.UnaryOp .USub a pos) (y5D fa) :=
 u5 (w4Y w05 h) fun σ H Q ⟨ρ,d,B,H0,V0,Z,e,r,q⟩=>by
  unfold y5D at e;split at e
  ·rename_i i ei;cases e
   exact⟨ρ,_,B,H0,V0,Z,ei,r,fun v H' s rr=>⟨i,v4.mp rr,q _ H' s (v4.mpr rfl)⟩⟩
  ·cases e
noncomputable def x24(i:Nat)(f:y0->Option D):y0->Option Out:=fun ρ=>match y1R i ρ with
 | some ds=>(match f ρ with|some d=>if ds.length<LIM then some (.nx (ρ.set i (some (.ow (ds++[d]))))) else none|none=>none)
 | none=>none
noncomputable def x9L(i:Nat)(f:y0->Option (List D)):y0->Option Out:=fun ρ=>match y1R i ρ with
 | some ds=>(match f ρ with|some es=>if ds.length+es.length≤LIM then some (.nx (ρ.set i (some (.ow (ds++es))))) else none|none=>none)
 | none=>none
theorem w0S{i:Nat}{x:Str}{p1 p2 p3:Pos}(h:SE X a fa)(hN:X.N[i]?=some x:=by rfl)(hv:Vis X.env.scope x:=by first|exact Or.inl rfl|exact Or.inr (Or.inl rfl)|exact Or.inr (Or.inr rfl))(hd:(x==("__debug__":Str))=false:=by decide)(hcd:(x==("__classdict__":Str))=false:=by decide)(hbase:attributeBase (.Name x p1) "append" X.env (eval (.Name x p1) X.env)=eval (.Name x p1) X.env:=by rfl)
  (hfew:((backTo p3 (starEach [a] X.env)).all (fun x=>!x.1)&&(backToKw p3 (keywordEach [] X.env)).all (fun x=>x.1.isSome)
   && decide (([a]:List Expr).length+([]:List Keyword).length+(if ([]:List Keyword).isEmpty then 0 else 1)<30))=true:=by rfl)
  (hline:(p2.endLine==p3.line)=true:=by rfl) (hs:starEach [a] X.env=(false,eval a X.env)::starEach [] X.env:=by exact y9 rfl) (hplain:(backTo p3 (starEach [] X.env)).any (·.1)=false:=by exact v7 rfl)
  (hsw:swapsWith (.Call (.Attribute (.Name x p1) "append" p2) [a] [] p3) none pos.line X.env=pure false:=by rfl) :
  SS X (.Expr (.Call (.Attribute (.Name x p1) "append" p2) [a] [] p3) pos) (x24 i fa) :=
 z1H (x07 (x4B PySem.F.plainAttrs_list PySem.F.slot_list_append PySem.F.type_list_append z8T (z64 hN hv hd hcd) (K8 h z05 hs) hbase hfew hline hs hplain) hsw) fun E σ H ⟨ρ,o,B,H0,V0,Z,e,r,q⟩=>by
  unfold x24 at e;split at e
  ·rename_i ds eds;split at e
   ·rename_i d ed;split at e
    ·rename_i hl;cases e;obtain⟨n,xs,h1,h2,hb,h3,h4,h5⟩:=r.ow i ds (z2M eds)
     refine⟨.ref n,h1,.inl ⟨rfl,xs,SqL.of h4⟩,ρ,_,B,H0,V0,Z,ed,r,fun v H1 s1 r1=>?_⟩
     have g5:=h5.mono (v0 s1)
     refine⟨n,xs,v,rfl,rfl,s1 _ _ h4,by rw[←h5.length];exact y6Y (Nat.le_of_lt hl),?_⟩
     exact q σ _ Z ((r.mono s1).updO (z2M eds) h1 (j5.append g5 (j5.one r1)))
    ·cases e
   ·cases e
  ·cases e
theorem w0R{i:Nat}{x:Str}{p1 p2 p3:Pos}(h:SF X a f)(hN:X.N[i]?=some x:=by rfl)(hv:Vis X.env.scope x:=by first|exact Or.inl rfl|exact Or.inr (Or.inl rfl)|exact Or.inr (Or.inr rfl))(hd:(x==("__debug__":Str))=false:=by decide)(hcd:(x==("__classdict__":Str))=false:=by decide)(hbase:attributeBase (.Name x p1) "extend" X.env (eval (.Name x p1) X.env)=eval (.Name x p1) X.env:=by rfl)
  (hfew:((backTo p3 (starEach [a] X.env)).all (fun x=>!x.1)&&(backToKw p3 (keywordEach [] X.env)).all (fun x=>x.1.isSome)
   && decide (([a]:List Expr).length+([]:List Keyword).length+(if ([]:List Keyword).isEmpty then 0 else 1)<30))=true:=by rfl)
  (hline:(p2.endLine==p3.line)=true:=by rfl) (hs:starEach [a] X.env=(false,eval a X.env)::starEach [] X.env:=by exact y9 rfl) (hplain:(backTo p3 (starEach [] X.env)).any (·.1)=false:=by exact v7 rfl)
  (hsw:swapsWith (.Call (.Attribute (.Name x p1) "extend" p2) [a] [] p3) none pos.line X.env=pure false:=by rfl) :
  SS X (.Expr (.Call (.Attribute (.Name x p1) "extend" p2) [a] [] p3) pos) (x9L i f) :=
 z1H (x07 (x4B PySem.F.plainAttrs_list PySem.F.slot_list_extend PySem.F.type_list_extend x0O (z64 hN hv hd hcd) (K8 h z05 hs) hbase hfew hline hs hplain) hsw) fun E σ H ⟨ρ,o,B,H0,V0,Z,e,r,q⟩=>by
  unfold x9L at e;split at e
  ·rename_i ds eds;split at e
   ·rename_i es ee;split at e
    ·rename_i hl;cases e;obtain⟨n,xs,h1,h2,hb,h3,h4,h5⟩:=r.ow i ds (z2M eds)
     refine⟨.ref n,h1,.inl ⟨rfl,xs,SqL.of h4⟩,ρ,_,B,H0,V0,Z,ee,r,fun l ys H1 s1 hn hl1 r1=>?_⟩
     have g5:=h5.mono (v0 s1)
     refine⟨n,l,xs,ys,rfl,rfl,s1 _ _ h4,hl1,by rw[←h5.length,←r1.length];exact z5A hl,?_⟩
     exact q σ _ Z ((r.mono s1).updO (z2M eds) h1 (j5.append g5 (r1.mono (z1Q fun b hb=>List.mem_cons_of_mem _ hb))))
    ·cases e
   ·cases e
  ·cases e
end
theorem z7Z:fillsNumberSlot (.type "tuple") "mul" = pure false :=
 PySem.fillsNumberSlot_seq (id:="tuple.__mul__") (r:=some (.builtin "tuple.__rmul__")) F.slot_tuple_mul.lookup (by decide +kernel) F.slot_tuple_rmul.lookup (by decide +kernel)
theorem y2W:seqRepeat? (.type "tuple")=pure (some (.builtin "tuple.__mul__")):=by
 unfold seqRepeat?
 rw[PySem.seqSlot_of (T:="tuple") (name:="__mul__") (id:="tuple.__mul__") F.slot_tuple_mul.lookup (by decide +kernel),PySem.seqSlot_of (T:="tuple") (name:="__rmul__") (id:="tuple.__rmul__") F.slot_tuple_rmul.lookup (by decide +kernel)]
 rfl
theorem y7Q(l:Addr)(items:Array Value)(n:Nat)(dd:Option Addr)(sl:Array (Option Value))(x:Int)(t:Tok)(h1:(decide (x < -(2 ^ 63))||decide (x≥2 ^ 63))=false)(h2:(items.isEmpty||x==1)=false)(h3:(decide (x≤0)||items.isEmpty)=true)(hz:¬(#[]:Array Value).size>sizeLine) :
  Meets (Builtin.«tuple.__mul__» ⟨[.ref l,.int x t],[]⟩) (fun _ R s=>s.heap.get? l=some { cls:=.type "tuple",dict:=dd,data:=.seq items n,slots:=sl }/\R (.ok (.ret (.ref s.heap.objs.size))) { s with heap:=s.heap.push { cls:=Value.type "tuple",data:=Data.seq #[] } }) :=
 .of_wp fun prog w A R s h=>by obtain⟨hp,g,d,tk,os⟩:=s;obtain⟨hl,h⟩:=h;wp_walk;refine wpAny_ite_false (decide_eq_false (by rw[h1];exact Bool.false_ne_true)) ?_;wp_walk;exact⟨_,rfl,h⟩
theorem y7O(l:Addr)(items:Array Value)(n:Nat)(dd:Option Addr)(sl:Array (Option Value))(x:Int)(t:Tok)(h1:(decide (x < -(2 ^ 63))||decide (x≥2 ^ 63))=false)(h2:(items.isEmpty||x==1)=false)(h3:(decide (x≤0)||items.isEmpty)=false)(h4:¬(items.size:Int)*x>(2 ^ 63-1) / 8)(h5:Builtin.Tuple.tupleTooMany ((items.size:Int)*x)=false)(h6:¬(List.foldl (fun x1 x2=>x1++x2) #[] (List.replicate x.toNat items)).size>sizeLine) :
  Meets (Builtin.«tuple.__mul__» ⟨[.ref l,.int x t],[]⟩) (fun _ R s=>s.heap.get? l=some { cls:=.type "tuple",dict:=dd,data:=.seq items n,slots:=sl }/\R (.ok (.ret (.ref s.heap.objs.size))) { s with heap:=s.heap.push { cls:=Value.type "tuple",data:=Data.seq (List.foldl (fun x1 x2=>x1++x2) #[] (List.replicate x.toNat items)) } }) :=
 .of_wp fun prog w A R s h=>by obtain⟨hp,g,d,tk,os⟩:=s;obtain⟨hl,h⟩:=h;wp_walk;refine wpAny_ite_false (decide_eq_false (by rw[h1];exact Bool.false_ne_true)) ?_;wp_walk;refine wpAny_ite_false (decide_eq_false h4) ?_;wp_walk;exact⟨_,rfl,h⟩
theorem y00(a:Int)(t:Tok)(l:Addr)(items:Array Value)(n:Nat)(dd:Option Addr)(sl:Array (Option Value)) :
  Meets (Builtin.«int.__rmul__» ⟨[.int a t,.ref l],[]⟩) (fun _ R s=>s.heap.get? l=some { cls:=.type "tuple",dict:=dd,data:=.seq items n,slots:=sl }/\R (.ok (.ret Value.notImplemented)) s) :=
 .of_wp fun prog w A R s h=>by obtain⟨hp,g,d,tk,os⟩:=s;obtain⟨hl,h⟩:=h;wp_walk;exact⟨_,rfl,h⟩
theorem y7P(l:Addr)(items:Array Value)(n:Nat)(dd:Option Addr)(sl:Array (Option Value))(t:Tok) :
  Meets (Builtin.«tuple.__mul__» ⟨[.ref l,.int 1 t],[]⟩) (fun _ R s=>s.heap.get? l=some { cls:=.type "tuple",dict:=dd,data:=.seq items n,slots:=sl }/\R (.ok (.ret (.ref l))) s) :=
 .of_wp fun prog w A R s h=>by obtain⟨hp,g,d,tk,os⟩:=s;obtain⟨hl,h⟩:=h;wp_walk;exact⟨_,rfl,h⟩
noncomputable def w23(K:PySem.W.Frag):R2:=fun x y H Q=>∃a k xs,x = .ref a/\y = .int k/\SqT K H a xs/\xs≠[]/\-(2 ^ 63)≤k/\k<2 ^ 63/\xs.length*k.toNat≤1000000 /\
 (k=1->Q (.ref a) H)/\(k≠1->∀p,H p=none->Q (.ref p) (upd H p (.tup (List.replicate k.toNat xs).flatten)))
section
variable{X:Cx}
theorem x8K:OpR X (binaryOp .Mult) (w23 X.K):=by
 intro pins s σ H x y v u Q I rx ry h;obtain⟨a,k,xs,rfl,rfl,ha,hne,h1,h2,hz,q1,q2⟩:=h;cases rx;obtain⟨t,rfl⟩:=ry;obtain⟨its,r,p,_⟩:=I.tuple ha;have hl:=r.length;obtain⟨⟨cls,dd,data,sl⟩,ho,hc,n,hd⟩:=id p;simp only at hc hd
 subst hc hd
 have hne':its≠[]:=fun z=>hne (r.nil_iff.mp z)
 have he:its.toArray.isEmpty=false:=by
  cases its with
  | nil=>exact absurd rfl hne'
  | cons _ _=>rfl
 have b1:(decide (k < -(2 ^ 63))||decide (k≥2 ^ 63))=false:=by
  rw[decide_eq_false (by omega),decide_eq_false (by omega)];rfl
 refine wpAny_binaryOp_repeat_ref (T:="tuple") (U:="int") (by decide) ⟨_,ho,rfl⟩ (fun s'=>typeIs_int s' k t) z7Z F.fills_int_mul F.slot_int_rmul y2W F.slot_int_index.lookup
  (call_meets F.slot_int_rmul (typeIs_int s k t) F.entry_int_rmul (F.args_int_rmul_2 _ _) (y00 k t a its.toArray n dd sl) ⟨ho,rfl,⟨_,ho,rfl⟩,?_⟩)
 by_cases hk:k=1
 ·subst hk;exact call_meets F.slot_tuple_mul ⟨_,ho,rfl⟩ F.entry_tuple_mul (F.args_tuple_mul_2 _ _) (y7P a its.toArray n dd sl t) ⟨ho,⟨.ref a,H,I,rfl,q1 rfl⟩⟩
 ·have b2:(its.toArray.isEmpty||k==1)=false:=by rw[he,Bool.false_or];exact beq_eq_false_iff_ne.mpr hk
  by_cases h0:k≤0
  ·refine call_meets F.slot_tuple_mul ⟨_,ho,rfl⟩ F.entry_tuple_mul (F.args_tuple_mul_2 _ _) (y7Q a its.toArray n dd sl k t b1 b2 (by rw[decide_eq_true h0];rfl) (by simp)) ⟨ho,?_⟩
   have e0:k.toNat=0:=by omega
   have:=q2 hk s.heap.objs.size I.fresh
   rw[e0]at this
   exact⟨.ref _,_,I.laid (o:=.tup []) (t':=s.toks) (fun b o e=>Heap.get?_push_of_some _ e) (Nat.le_refl _) ⟨Nat.zero_le _,[],.nil,x2R.new _ _⟩,rfl,this⟩
  ·have hsz:((its.toArray.size:Nat):Int)*k≤1000000:=by
    rw[List.size_toArray,←hl]
    have e1:k=((k.toNat:Nat):Int):=by omega
    rw[e1]
    have:((xs.length*k.toNat:Nat):Int)≤1000000:=Int.ofNat_le.mpr hz
    rw[Int.natCast_mul]at this;exact this
   have f0:List.foldl (fun x1 x2=>x1++x2) #[] (List.replicate k.toNat its.toArray)=(List.replicate k.toNat its).flatten.toArray:=by
    have:=y3H its k.toNat []
    rw[List.nil_append]at this;exact this
   have hlen:(List.replicate k.toNat xs).flatten.length≤sizeLine:=by
    rw[x8X,Nat.mul_comm,sizeLine_eq];omega
   refine call_meets F.slot_tuple_mul ⟨_,ho,rfl⟩ F.entry_tuple_mul (F.args_tuple_mul_2 _ _) (y7O a its.toArray n dd sl k t b1 b2 (by rw[decide_eq_false h0,he];rfl) (by omega) (by unfold Builtin.Tuple.tupleTooMany;rw[sizeLine_eq];exact decide_eq_false (by omega)) ?_) ⟨ho,?_⟩
   ·rw[f0,List.size_toArray,←(r.rep k.toNat).length];omega
   ·rw[f0]
    exact⟨.ref _,_,I.laid (o:=.tup (List.replicate k.toNat xs).flatten) (t':=s.toks) (fun b o e=>Heap.get?_push_of_some _ e) (Nat.le_refl _) ⟨hlen,_,r.rep k.toNat,x2R.new _ _⟩,rfl,q2 hk _ I.fresh⟩
noncomputable def x9H:D->D->Option D:=fun x y=>match x,y with
 | .tup ds,.int k=>if ds≠[]/\-(2 ^ 63)≤k/\k<2 ^ 63/\ds.length*k.toNat≤LIM then some (.tup (List.replicate k.toNat ds).flatten) else none
 | _,_=>none
theorem x82{K:PySem.W.Frag}:z5E K (w23 K) x9H:=by
 intro x y d e Z H u v Q zs hx hy q;unfold x9H at e;split at e
 ·rename_i ds k;split at e
  ·rename_i hh;obtain⟨hne,h1,h2,hl⟩:=hh;cases e;obtain⟨a,us,rfl,g1,g2⟩:=u0.mp hx
   obtain rfl:=v4.mp hy
   have hlen:=g2.length
   refine⟨a,k,us,rfl,rfl,j9 w9 g1,fun z=>hne (List.eq_nil_of_length_eq_zero (by rw[hlen,z];rfl)),h1,h2,by rw[←hlen];unfold LIM at hl;omega,fun e1=>?_,fun e1 p hp=>?_⟩
   ·subst e1
    have:(List.replicate (1:Int).toNat ds).flatten=ds:=by simp
    rw[this]at q;exact q _ H (K6.refl H) hx
   ·have sn:=j7 (o:=HO.tup (List.replicate k.toNat us).flatten) hp;refine q _ _ sn (u0.mpr ⟨p,_,rfl,SqT.of ?_,(g2.rep k.toNat).mono (v0 sn)⟩);rw[K2 (y6T zs hp)];exact v5
  ·cases e
 ·cases e
noncomputable def y3N:D->D->Option D:=fun x y=>match x5C x y with|some d=>some d|none=>x9H x y
variable{a b:Expr}{fa fb:y0->Option D}{pos:Pos}
theorem w1G(ha:SE X a fa)(hb:SE X b fb):SE X (.BinOp a .Mult b pos) (d2 y3N fa fb):=y2R (w2U.or x8K) (z5E.or w1W x82) ha hb
end
noncomputable def z2Y(N:List Str)(ds:List D):y0:=ds.map (fun d=>some (Cell.sh d))++List.replicate (N.length-ds.length) none
noncomputable def z5M:Option Out->Option D
 | some (.rt d)=>some d
 | some (.nx _)=>some .non
 | _=>none
theorem y16{K:PySem.W.Frag}{Z:List Addr}{H:Hp}{N:List Str}{ds:List D}{vs:List V}(zs:TB K H/\∀z∈Z,∃o,H z=some o)(rr:j5 K (K3 Z H) ds vs):SR K Z H (K3 Z H) H Z (start N vs) (z2Y N ds):=by
 have hl:=rr.length
 have get:∀{i:Nat} {c:Cell},(z2Y N ds)[i]?=some (some c)->∃d,ds[i]?=some d/\c = .sh d:=fun {i c} q=>by
  unfold z2Y at q;by_cases hi:i<ds.length
  ·rw[List.getElem?_append_left (by simpa using hi),List.getElem?_map]at q
   cases e:ds[i]? with
   | none=>rw[e]at q;cases q
   | some d=>rw[e]at q;cases q;exact⟨d,rfl,rfl⟩
  ·rw[List.getElem?_append_right (by simpa using hi),List.getElem?_replicate]at q
   split at q<;>cases q
 refine⟨K6.refl H,zs.1,fun _ _ h=>h,fun b hb=>hb,zs.2,fun i d q=>?_,fun i c q=>?_,fun i j c e a q1 q2=>?_,?_⟩
 ·obtain⟨d',e,z⟩:=get q;cases z;obtain⟨v,e1,r1⟩:=rr.get e
  refine⟨v,?_,r1⟩
  have hi:i<vs.length:=(List.getElem?_eq_some_iff.mp e1).1;unfold L2.start
  rw[List.getElem?_append_left (by simpa using hi),List.getElem?_map,e1]
  rfl
 ·obtain⟨d',e,z⟩:=get q;exact (z9S z.symm).elim
 ·obtain⟨d',e,z⟩:=get q1;exact (z9S z.symm).elim
 ·unfold L2.start z2Y;rw[List.length_append,List.length_append,List.length_map,List.length_map,List.length_replicate,List.length_replicate,hl]
theorem x1L{P:Program}{w:World}{K:PySem.W.Frag}{mg:Str->Option Value}{base:Heap}{x:Str}{st:Stmt}{f:Addr}{fd:FuncData}{N ps:List Str}{k:Nat}{g:y0->Option Out}{F:List D->Option D}(G:Fun K x x st f fd)(S:FnScope N ps (z9 st))(len:∀ds d,F ds=some d->ds.length=ps.length)(hF:∀ds d,F ds=some d->z5M (g (z2Y N ds))=some d)
  (hbody:∀(cdv:Value) (A:Around) (outer:List Env) (s:Shared) (H:Hp) (E:XK),Room k (A.deeper (envOfC x (z9 st) s.heap.objs.size f cdv)) ->
   SSs (z42 CX0 P w K mg base N x (z9 st) f cdv A outer s H E).nox (x6 st) g):FnOk P w K mg base CX0 (k+1) f fd ps (spD K F):=by
 refine G.ok S (fun vs H Q E h=>?_) fun cdv A outer s H vs Q E hr h=>?_
 ·obtain⟨Z,ds,d,zs,rr,e,q⟩:=h;rw[←rr.length];exact len ds d e
 ·obtain⟨Z,ds,d,zs,rr,e,q⟩:=h;have e2:=hF ds d e
  refine⟨_,hbody cdv A outer s H E hr,?_⟩
  cases ho:g (z2Y N ds) with
  | none=>rw[ho]at e2;cases e2
  | some o =>
   refine⟨z2Y N ds,o,Z,H,K3 Z H,Z,ho,y16 zs rr,?_⟩
   rw[ho]at e2
   cases o with
   | rt d'=>cases e2;exact fun v H' s' rv=>q v H' s' rv
   | nx ρ=>cases e2;exact fun σ H' Z' r'=>q .non H' r'.same (Y7.mpr rfl)
   | bk _=>cases e2
   | ct _=>cases e2
noncomputable def z4E(sc outer:Scope)(N:List Str)(cap:List (Option Nat))(M:List Str):Bool :=
 (sc.kind==.function)&&(sc.names.all fun y=>if y.2==.cell then sc.names.lookup y.1==some .cell else true)&&(sc.names.all fun y=>if y.2==.local then sc.names.lookup y.1==some .local else true) &&
 (sc.names.all fun y=>if y.2==.free then sc.names.lookup y.1==some .free&&(outer.names.lookup y.1==some .cell||outer.names.lookup y.1==some .free) else true) &&
 ((List.range cap.length).all fun i=>match cap[i]? with|some (some j)=>(match N[i]? with|some x=>(match M[j]? with|some y=>x==y&&sc.names.lookup x==some .free|none=>false)|none=>false)|_=>true) &&
 (cap.length==N.length)&&((List.range cap.length).all fun i=>(List.range cap.length).all fun j=>match cap[i]? with|some (some k)=>(match cap[j]? with|some (some k')=>if k==k' then i==j else true|_=>true)|_=>true)
noncomputable def x4Q(sc outer:Scope)(N:List Str)(cap:List (Option Nat))(M:List Str):Bool:=z4E sc outer N cap M&&(sc.names.all fun y=>y.2 != .cell)
section
variable{X:Cx}{pos:Pos}
theorem x3N{elt target iter:Expr}{ifs:List Expr}{scope:Scope}{fi:y0->Option (List D)}{h:D->y0->Option y0}{ft:y0->Option Bool}{fe:y0->Option D}(N:List Str)(cap:List (Option Nat))(hc:X.calm=true)(hi:SIc X target iter fi)(hg:∀cl C fp s H,SG (J4 X N scope cl C fp s H) target h)(ht:∀cl C fp s H,x2S (J4 X N scope cl C fp s H) ifs (tT X.K ft))(he:∀cl C fp s H,SE (J4 X N scope cl C fp s H) elt fe)(hok:z4E scope X.env.scope N cap X.N=true:=by rfl)(hs:∀x,foldedSetIterable iter X.env x=pure x:=by intro _;rfl) :
  SF X (.ListComp elt [⟨target,iter,ifs,0⟩] scope pos) (Q0 cap fi h ft fe):=by
 unfold z4E at hok;simp only[Bool.and_eq_true]at hok;obtain⟨⟨⟨⟨⟨⟨h1,h2⟩,h3⟩,h4⟩,h5⟩,h6⟩,h7⟩:=hok;rw[List.all_eq_true]at h2 h3 h4 h5 h7
 refine x7U (N:=N) (cap:=cap) hc hi hg ht he (by simpa using h1) (fun y hy e=>by have z:=h2 y hy;rw[e]at z;simpa using z) (fun y hy e=>?_) (fun y hy e=>?_) (fun y hy e=>?_) (fun i j e=>?_) (by simpa using h6) (fun i j k e1 e2=>?_) hs
 ·have z:=h3 y hy;rw[e]at z;simpa using z
 ·have z:=h4 y hy;rw[e]at z;simp only[beq_self_eq_true,if_true,Bool.and_eq_true]at z;simpa using z.1
 ·have z:=h4 y hy;rw[e]at z;simp only[beq_self_eq_true,if_true,Bool.and_eq_true,Bool.or_eq_true]at z;simpa using z.2
 ·have hi':i<cap.length:=(List.getElem?_eq_some_iff.mp e).1;have z:=h5 i (List.mem_range.mpr hi');rw[e]at z;dsimp only at z;split at z
  ·rename_i x hx;split at z
   ·rename_i y hy;simp only[Bool.and_eq_true,beq_iff_eq]at z;obtain⟨z1,z2⟩:=z;subst z1
    exact⟨x,hx,hy,z2⟩
   ·cases z
  ·cases z
 ·have hi':i<cap.length:=(List.getElem?_eq_some_iff.mp e1).1;have hj':j<cap.length:=(List.getElem?_eq_some_iff.mp e2).1;have z:=h7 i (List.mem_range.mpr hi');rw[List.all_eq_true]at z;have z2:=z j (List.mem_range.mpr hj');rw[e1,e2]at z2;simpa using z2
theorem w4X:x2S X [] (tT X.K z1U):=fun pins s σ H Q I ⟨ρ,b,B,H0,V0,Z,e,r,q⟩=>by
 cases e;exact y6K pins s σ H Q I (q H (K6.refl H))
theorem w4W{c:Expr}{f:y0->Option Bool}(h:STt X c f):x2S X [c] (tT X.K f):=x44 h
noncomputable def tQL(K:PySem.W.Frag)(f:y0->Option (List D)):TE:=fun σ H Q=>∃ρ ds B H0 V0 Z,f ρ=some ds/\SR K B H0 V0 H Z σ ρ/\∀a xs H',K6 H H'->SqL K H' a xs->j5 K (K3 Z H') ds xs->Q (.ref a) H'
noncomputable abbrev SQL(X:Cx)(e:Expr)(f:y0->Option (List D)):Prop:=PE X e (tQL X.K f)
theorem w6K{e:Expr}{f:y0->Option (List D)}(h:SF X e f):SQL X e f :=
 u5 h fun σ H Q ⟨ρ,ds,B,H0,V0,Z,e,r,q⟩ =>
  ⟨ρ,ds,B,H0,V0,Z,e,r,fun a xs H' s hn ha hr=>q a xs H' s (SqL.of ha) (hr.mono (z1Q fun b hb=>List.mem_cons_of_mem _ hb))⟩
theorem w4U{e:Expr}{f:y0->Option D}(h:SE X e f):SQL X e (z02 f) :=
 u5 h fun σ H Q ⟨ρ,ds,B,H0,V0,Z,e,r,q⟩=>by
  unfold z02 at e;split at e
  ·rename_i es he;cases e
   refine⟨ρ,_,B,H0,V0,Z,he,r,fun v H' s rr=>?_⟩
   obtain⟨a,xs,rfl,h1,h2⟩:=g8.mp rr;exact q a xs H' s (w9.seq h1) h2
  ·cases e
theorem w13{a b:Expr}{fa fb:y0->Option (List D)}(ha:SQL X a fa)(hb:SQL X b fb):SF X (.BinOp a .Add b pos) (y1T fa fb) :=
 u5 (w2M x0H ha hb) fun σ H Q ⟨ρ,ds,B,H0,V0,Z,e,r,q⟩=>by
  unfold y1T at e;split at e
  ·rename_i xs ex;split at e
   ·rename_i ys ey;split at e
    ·rename_i hl;cases e
     refine⟨ρ,xs,B,H0,V0,Z,ex,r,fun n us H1 s1 hq1 r1=>⟨ρ,ys,B,H0,V0,Z,ey,r.mono s1,fun m ws H2 s2 hq2 r2=>⟨n,m,us,ws,rfl,rfl,s2.seq hq1,hq2,by rw[←r1.length,←r2.length];exact z5A hl,fun l hl'=>?_⟩⟩⟩
     exact q l _ _ (s1.trans (s2.trans (j7 hl'))) ((s1.trans s2).free hl') v5 ((j5.append (r1.mono (v0 s2)) r2).mono (z1P hl' (j7 hl')))
    ·cases e
   ·cases e
  ·cases e
end
structure FnD(P:Program)(w:World)(K:PySem.W.Frag)(mg:Str->Option Value)(base:Heap)(k:Nat)(x:Str)(ps:List Str)(F:List D->Option D):Prop where
 ex:∃f fd,FnOk P w K mg base CX0 k f fd ps (spD K F)/\mg x=some (.ref f)/\PySem.W.keepIn K (.ref f)=true/\y48 K fd ps []
theorem w1M{X:Cx}{j k:Nat}{ps:List Str}{F:List D->Option D}{x:Str}{p pos:Pos}{e:Expr}{es:List Expr}{g:y0->Option (List D)}(G:FnD X.prog X.w X.K X.mg X.base j x ps F)(hr:Room k X.A)(ha:SA X (e::es) g)(hjk:j≤k:=by decide)(hg:Gl X x:=by rfl)(hdb:(x==("__debug__":Str))=false:=by decide)(he:starEach (e::es) X.env=(false,eval e X.env)::starEach es X.env:=by exact y9 rfl)(hpl:(backTo pos (starEach es X.env)).any (·.1)=false:=by exact v7 rfl) :
  SE X (.Call (.Name x p) (e::es) [] pos) (v6 F g):=by
 obtain⟨f,fd,h1,h2,h3,h4⟩:=G.ex;exact x81 h1 (hr.mono hjk) h2 h3 h4 ha hg hdb he hpl
structure Stands(K:PySem.W.Frag)(mg:Str->Option Value)(x:Str)(st:Stmt):Prop where
 ex:∃f fd,Fun K x x st f fd/\mg x=some (.ref f)
theorem x1K{P:Program}{w:World}{K:PySem.W.Frag}{mg:Str->Option Value}{base:Heap}{x:Str}{st:Stmt}{N ps:List Str}{k:Nat}{g:y0->Option Out}{F:List D->Option D}(G:Stands K mg x st)(S:FnScope N ps (z9 st))(len:∀ds d,F ds=some d->ds.length=ps.length)(hF:∀ds d,F ds=some d->z5M (g (z2Y N ds))=some d)(hb:∀(kV doc pm:Value) (an:Option Addr) (cdv ct:Value) (us:List Value),us.length=ps.length->bindArgs (PySem.W.fnOf x x (g9 st) (x6 st) (z9 st) .none kV doc pm an cdv ct) ⟨us,[]⟩=pure (ps.zip us))
  (hbody:∀(f:Addr) (cdv:Value) (A:Around) (outer:List Env) (s:Shared) (H:Hp) (E:XK),Room k (A.deeper (envOfC x (z9 st) s.heap.objs.size f cdv)) ->
   SSs (z42 CX0 P w K mg base N x (z9 st) f cdv A outer s H E).nox (x6 st) g):FnD P w K mg base (k+1) x ps F:=by
 obtain⟨f,fd,G1,G2⟩:=G.ex
 exact⟨f,fd,x1L G1 S len hF (hbody f),G2,G1.kp,G1.binds hb⟩
noncomputable def tX(K:PySem.W.Frag)(f:y0->Option (D×y0)):TE:=fun σ H Q=>∃ρ d ρ' B H0 V0 Z,f ρ=some (d,ρ')/\SR K B H0 V0 H Z σ ρ/\∀v H',SR K B H0 V0 H' Z σ ρ'->Rep K (K3 Z H') d v->Q v H'
noncomputable abbrev SX(X:Cx)(e:Expr)(f:y0->Option (D×y0)):Prop:=PE X e (tX X.K f)
noncomputable def x9J(i:Nat)(f:y0->Option D):y0->Option (D×y0):=fun ρ=>match y1R i ρ with
 | some ds=>(match f ρ with
  | some (.int j)=>(match ixN ds.length j with
   | some k=>(match ds[k]? with|some d=>if ds.length≤LIM then some (d,ρ.set i (some (.ow (ds.eraseIdx k)))) else none|none=>none)
   | none=>none)
  | _=>none)
 | none=>none
noncomputable def tR(K:PySem.W.Frag)(f:y0->Option (List D)):TE:=fun σ H Q=>∃ρ ds B H0 V0 Z,f ρ=some ds/\SR K B H0 V0 H Z σ ρ/\∀a xs H',K6 H0 H'->SqL K H' a xs->j5 K (K3 B H') ds xs->(∀b∈B,∃o,H' b=some o)->Q (.ref a) H'
noncomputable abbrev SL(X:Cx)(e:Expr)(f:y0->Option (List D)):Prop:=PE X e (tR X.K f)
section
variable{X:Cx}{pos:Pos}
theorem w0C{i:Nat}{call:Expr}{f:y0->Option D}(h:PE X call (tBM X.K "list" x63 (w5R i) (x7A (tD X.K f) w48))):SX X call (x9J i f) :=
 u5 h fun σ H Q ⟨ρ,d,ρ',B,H0,V0,Z,e,r,q⟩=>by
  unfold x9J at e;split at e
  ·rename_i ds eds;split at e
   ·rename_i j ej;split at e
    ·rename_i k ek;split at e
     ·rename_i d' ed;split at e
      ·rename_i hz;cases e;obtain⟨n,xs,h1,h2,hb,h3,h4,h5⟩:=r.ow i ds (z2M eds)
       refine⟨.ref n,h1,.inl ⟨rfl,xs,SqL.of h4⟩,ρ,_,B,H0,V0,Z,ej,r,fun v H1 s1 r1=>?_⟩
       obtain rfl:=v4.mp r1
       have R1:=r.mono s1;have g5:=h5.mono (v0 s1);obtain⟨y,hy,ry⟩:=g5.get ed;have hl:=h5.length;obtain⟨q1,q2,q3,q4⟩:=x16 ek
       have big:(ds.length:Int)<2 ^ 63:=by
        have:ds.length≤100000:=hz
        omega
       refine⟨n,xs,j,k,y,rfl,rfl,s1 _ _ h4,by omega,by omega,by rw[←hl];exact q1,hy,?_⟩
       have vs:K6 (K3 Z H1) (K3 Z (upd H1 n (.lst (xs.eraseIdx k)))):=z33 h2;exact q y _ (R1.updO (z2M eds) h1 (g5.eraseIdx k)) (ry.mono vs)
      ·cases e
     ·cases e
    ·cases e
   ·cases e
  ·cases e
noncomputable def z43(h:D->y0->Option y0)(fe:y0->Option (D×y0)):y0->List D->Option (List D)
 | _,[]=>some []
 | ρ,d::ds=>match h d ρ with
  | none=>none
  | some ρ1=>match fe ρ1 with
   | some (y,ρ2)=>(match z43 h fe ρ2 ds with|some ys=>some (y::ys)|none=>none)
   | none=>none
noncomputable def y0Q(cap:List (Option Nat))(fi:y0->Option (List D))(h:D->y0->Option y0)(fe:y0->Option (D×y0)):y0->Option (List D):=fun ρ=>match fi ρ with
 | some ds=>if ds.length≤LIM then z43 h fe (y1U cap ρ) ds else none
 | none=>none
theorem SR.base{K:PySem.W.Frag}{B Z:List Addr}{H0 V0 H:Hp}{σ:St}{ρ:y0}(r:SR K B H0 V0 H Z σ ρ){l:Addr}{o:HO}(hl:H l=some o)(hn:H0 l=none)(hno:∀(j:Nat) (es:OC) a,ρ[j]?=some (some es.cell)->σ[j]?=some (some (.ref a))->a≠l):SR K B (upd H0 l o) V0 H Z σ ρ :=
 ⟨fun b u e=>by
   by_cases z:b=l
   ·subst z;rw[v5]at e;cases e;exact hl
   ·rw[j8 z]at e;exact r.same b u e,
  r.tb,r.vis,r.sub,r.zs,r.sh,fun j es hj=>by
   obtain⟨a,xs,t1,t2,tb,t3,t4,t5⟩:=r.own j es hj
   exact⟨a,xs,t1,t2,tb,by rw[j8 (hno j es a hj t1)];exact t3,t4,t5⟩,r.inj,r.len⟩
theorem SR.unbase{K:PySem.W.Frag}{B Z:List Addr}{H0 V0 H:Hp}{σ:St}{ρ:y0}{l:Addr}{o:HO}(r:SR K B (upd H0 l o) V0 H Z σ ρ)(hn:H0 l=none):SR K B H0 V0 H Z σ ρ :=
 ⟨fun b u e=>r.same b u (by rw[j8 (fun z=>by rw[z,hn]at e;cases e)];exact e),r.tb,r.vis,r.sub,r.zs,r.sh,fun j es hj=>by
   obtain⟨a,xs,t1,t2,tb,t3,t4,t5⟩:=r.own j es hj
   have na:a≠l:=fun z=>by rw[z,v5]at t3;cases t3
   exact⟨a,xs,t1,t2,tb,by rw[j8 na]at t3;exact t3,t4,t5⟩,r.inj,r.len⟩
theorem x3K{elt target iter:Expr}{scope:Scope}{fi:y0->Option (List D)}{h:D->y0->Option y0}{fe:y0->Option (D×y0)}(N:List Str)(cap:List (Option Nat))(hc:X.calm=true)(hi:SI X target iter fi)(hg:∀cl C fp s H,SG (J4 X N scope cl C fp s H) target h)(he:∀cl C fp s H,SX (J4 X N scope cl C fp s H) elt fe)(hok:z4E scope X.env.scope N cap X.N=true:=by rfl)(hs:∀x,foldedSetIterable iter X.env x=pure x:=by intro _;rfl) :
  SL X (.ListComp elt [⟨target,iter,[],0⟩] scope pos) (y0Q cap fi h fe):=by
 unfold z4E at hok;simp only[Bool.and_eq_true]at hok;obtain⟨⟨⟨⟨⟨⟨h1,h2⟩,h3⟩,h4⟩,h5⟩,h6⟩,h7⟩:=hok;rw[List.all_eq_true]at h2 h3 h4 h5 h7
 have hinj:∀(i j k:Nat),cap[i]?=some (some k)->cap[j]?=some (some k)->i=j:=fun i j k e1 e2=>by
  have hi':i<cap.length:=(List.getElem?_eq_some_iff.mp e1).1;have hj':j<cap.length:=(List.getElem?_eq_some_iff.mp e2).1;have z:=h7 i (List.mem_range.mpr hi');rw[List.all_eq_true]at z;have z2:=z j (List.mem_range.mpr hj');rw[e1,e2]at z2;simpa using z2
 refine u5 (x0C (N:=N) (cap:=cap) (g:=tG X.K h) (te:=tX X.K fe) hc hi hg (fun cl C fp s H=>y6K) he (by simpa using h1) (fun y hy e=>by have z:=h2 y hy;rw[e]at z;simpa using z) (fun y hy e=>?_) (fun y hy e=>?_) (fun y hy e=>?_) (fun i j e=>?_) (by simpa using h6) hs) fun σ H Q ⟨ρ,zs,B,H0,V0,Z,e,r,q⟩=>?_
 ·have z:=h3 y hy;rw[e]at z;simpa using z
 ·have z:=h4 y hy;rw[e]at z;simp only[beq_self_eq_true,if_true,Bool.and_eq_true]at z;simpa using z.1
 ·have z:=h4 y hy;rw[e]at z;simp only[beq_self_eq_true,if_true,Bool.and_eq_true,Bool.or_eq_true]at z;simpa using z.2
 ·have hi':i<cap.length:=(List.getElem?_eq_some_iff.mp e).1;have z:=h5 i (List.mem_range.mpr hi');rw[e]at z;dsimp only at z;split at z
  ·rename_i x hx;split at z
   ·rename_i y hy;simp only[Bool.and_eq_true,beq_iff_eq]at z;obtain⟨z1,z2⟩:=z;subst z1
    exact⟨x,hx,hy,z2⟩
   ·cases z
  ·cases z
 ·unfold y0Q at e;split at e
  ·rename_i ds eds;split at e
   ·rename_i hl
    refine⟨ρ,ds,B,H0,V0,Z,eds,r,fun J H1 s1 wk l hl1=>?_⟩
    have R1:=r.mono s1;have n0:H0 l=none:=R1.same.free hl1;have sl:K6 H1 (upd H1 l (.lst [])):=j7 hl1
    have R2:SR X.K B H0 (K3 Z H1) (upd H1 l (.lst [])) (l::Z) (z9Q cap σ) (y1U cap ρ):=y17 hinj ((R1.vis' (fun _ _ h=>h)).more hl1 sl v5)
    have noL:∀{H':Hp} {σ':St} {ρ':y0} {o:HO},SR X.K B (upd H0 l o) (K3 Z H1) H' (l::Z) σ' ρ'->∀(j:Nat) (es:OC) a,ρ'[j]?=some (some es.cell)->σ'[j]?=some (some (.ref a))->a≠l:=fun r' j es a hj hs' z=>by
     obtain⟨a',xs,t1,_,_,t3,_⟩:=r'.own j es hj;rw[hs']at t1;cases t1;rw[z,v5]at t3;cases t3
    have R3:SR X.K B (upd H0 l (.lst [])) (K3 Z H1) (upd H1 l (.lst [])) (l::Z) (z9Q cap σ) (y1U cap ρ):=by
     refine R2.base v5 n0 fun j es a hj hs' z=>?_
     have rc:=y17 hinj R1;obtain⟨a',xs,t1,_,_,_,t4,_⟩:=rc.own j es hj;rw[hs']at t1;cases t1;rw[z,hl1]at t4;cases t4
    refine⟨fun i m σ' H' acc=>m=ds.length-i/\i≤ds.length/\acc.length≤i/\∃ρ' ys ws,SR X.K B (upd H0 l (.lst acc)) (K3 Z H1) H' (l::Z) σ' ρ'/\j5 X.K (K3 (l::Z) H') ys acc/\z43 h fe ρ' (ds.drop i)=some ws/\zs=ys++ws/\j5 X.K (K3 Z H1) [] [],
     ⟨_,rfl,Nat.zero_le _,Nat.le_refl _,y1U cap ρ,[],zs,R3,j5.nil,e,rfl,j5.nil⟩,?_⟩
    rintro i m σ' H' acc ⟨rfl,hi',hal,ρ',ys,ws,r',ry,e',ez,_⟩
    have vis:K6 (K3 Z H1) H':=r'.vis.trans w9;have hacc:H' l=some (.lst acc):=r'.same l _ v5;by_cases hlt:i<ds.length
    ·refine .inr ⟨wk.go H' vis i hlt,y6Y (Nat.le_trans hal (Nat.le_trans hi' hl)),fun x H3 hy=>?_⟩
     obtain⟨sH,hx⟩:=wk.yld H' vis i x H3 hy;have hd:=hx ds[i] (List.getElem?_eq_getElem hlt) (l::Z) r'.zs r'.vis;have r':=r'.mono sH;have ry:=ry.mono (v0 sH);rw[List.drop_eq_getElem_cons hlt]at e';unfold z43 at e';split at e'
     ·cases e'
     ·rename_i ρ1 e1
      refine⟨ρ',ds[i],ρ1,B,upd H0 l (.lst acc),K3 (l::Z) H3,l::Z,e1,r'.vis' (fun _ _ h=>h),hd,fun σ4 r4=>x17 ?_⟩
      split at e'
      ·rename_i y ρ2 ey;split at e'
       ·rename_i yy eyy
        cases e'
        refine⟨ρ1,y,ρ2,B,upd H0 l (.lst acc),K3 (l::Z) H3,l::Z,ey,r4,fun v H6 r6 rv=>⟨r6.same l _ v5,ds.length-(i+1),by omega,rfl,hlt,?_,ρ2,ys++[y],yy,?_,?_,eyy,by rw[ez];simp,j5.nil⟩⟩
        ·rw[List.length_append];simpa using hal
        ·have R6:=(r6.vis' (r'.vis.trans r6.vis)).unbase n0;have vs:K6 (K3 (l::Z) H6) (K3 (l::Z) (upd H6 l (.lst (acc++[v])))):=z33 List.mem_cons_self;have na:=noL (r6.vis' (V1:=K3 Z H1) (r'.vis.trans r6.vis))
         have R7:SR X.K B H0 (K3 Z H1) (upd H6 l (.lst (acc++[v]))) (l::Z) σ4 ρ2:=by
          refine⟨z63 n0 R6.same,R6.tb.upd (r6.same l _ v5) (fun _ z=>by cases z),R6.vis.trans vs,R6.sub,fun z hz=>?_,fun j d hj=>let ⟨u,t1,t2⟩:=R6.sh j d hj;⟨u,t1,t2.mono vs⟩,fun j es hj=>?_,R6.inj,R6.len⟩
          ·by_cases ez':z=l
           ·subst ez';exact⟨_,v5⟩
           ·obtain⟨o',ho'⟩:=R6.zs z hz
            exact⟨o',by rw[j8 ez'];exact ho'⟩
          ·obtain⟨a,xs,t1,t2,tb,t3,t4,t5⟩:=R6.own j es hj
           exact⟨a,xs,t1,t2,tb,t3,by rw[j8 (na j es a hj t1)];exact t4,t5.mono vs⟩
         exact R7.base v5 n0 na
        ·exact j5.append ((ry.mono r6.vis).mono (z33 List.mem_cons_self)) (j5.one (rv.mono (z33 List.mem_cons_self)))
       ·cases e'
      ·cases e'
    ·have ei:i=ds.length:=by omega
     subst ei;rw[List.drop_length]at e';unfold z43 at e'
     cases e'
     rw[List.append_nil]at ez;subst ez;have r0:=r'.unbase n0
     exact .inl ⟨wk.stop H' vis,q l acc H' r0.same (SqL.of hacc) (ry.mono (z1Q fun b hb=>List.mem_cons_of_mem _ (r.sub b hb))) fun b hb=>r0.zs b (r0.sub b hb)⟩
   ·cases e
  ·cases e
theorem y4K{a:Expr}{p pos2:Pos}{f:y0->Option (List D)}(hm:X.mg "tuple" = none)(h:SL X a f)(hg:Gl X "tuple":=by rfl)(he:starEach [a] X.env=(false,eval a X.env)::starEach [] X.env:=by exact y9 rfl)(hpl:(backTo pos2 (starEach [] X.env)).any (·.1)=false:=by exact v7 rfl)(hv:bootBuiltins "tuple" = some (.type "tuple"):=by decide +kernel) :
  SS X (.Return (some (.Call (.Name "tuple" p) [a] [] pos2)) pos) (z08 (z58 f)) :=
 z1H (x65 (z3N z6M hg hm hv (K8 h z05 he) (by decide) (by decide) he hpl)) fun E σ H ⟨ρ,o,B,H0,V0,Z,e,r,q⟩=>by
  unfold z08 z58 at e
  cases ef:f ρ with
  | none=>rw[ef]at e;cases e
  | some ds =>
   rw[ef]at e;cases e
   refine⟨ρ,ds,B,H0,V0,Z,ef,r,fun n xs H1 s1 hq rr hB=>⟨n,xs,rfl,.inl ⟨hq,fun l hl=>?_⟩⟩⟩
   have sn:=j7 (o:=HO.tup xs) hl;refine q _ _ (s1.trans sn) (u0.mpr ⟨l,xs,rfl,SqT.of ?_,rr.mono (v0 sn)⟩)
   rw[K2 (fun z=>by obtain⟨u,hu⟩:=hB l z;rw[hl]at hu;cases hu)]
   exact v5
end
section
variable{X:Cx}{pos p p2 pos2:Pos}{a b c e tg:Expr}{fa fb fc f:y0->Option D}
theorem w2F{w1 w2:TI}(h1:PI X tg e w1)(h2:PI X tg e w2):PI X tg e (fun σ H R=>w1 σ H R∨w2 σ H R):=fun pins s σ H R I h=>by
 rcases h with h|h
 ·exact h1 pins s σ H R I h
 ·exact h2 pins s σ H R I h
theorem w0Z(h:SE X e f):SI X tg e (dSq f):=z72 (w2F (w10 h) (w0Y h)) fun σ H R ⟨ρ,ds,B,H0,V0,Z,e,r,q⟩=>by
 unfold dSq at e;split at e
 ·rename_i es he;cases e
  exact .inl ⟨ρ,_,B,H0,V0,Z,by unfold z02;rw[he],r,q⟩
 ·rename_i es he;cases e
  exact .inr ⟨ρ,_,B,H0,V0,Z,by unfold x22;rw[he],r,q⟩
 ·cases e
theorem w4G(hu:X.A.units<cLine)(ha:SE X a fa)(hb:SE X b fb):STt X (.Compare a [.Lt] [b] pos) (x5 (d2 dLt fa fb)):=y09 (y82.or (w2W hu)) (z5E.or z7N w1Z) ha hb (z7O _)
theorem x3R{i:Nat}{x:Str}{p1 p2 p3:Pos}(h:SE X a fa)(hN:X.N[i]?=some x:=by rfl)(hv:Vis X.env.scope x:=by first|exact Or.inl rfl|exact Or.inr (Or.inl rfl)|exact Or.inr (Or.inr rfl))(hd:(x==("__debug__":Str))=false:=by decide)(hcd:(x==("__classdict__":Str))=false:=by decide)(hbase:attributeBase (.Name x p1) "pop" X.env (eval (.Name x p1) X.env)=eval (.Name x p1) X.env:=by rfl)
  (hfew:((backTo p3 (starEach [a] X.env)).all (fun x=>!x.1)&&(backToKw p3 (keywordEach [] X.env)).all (fun x=>x.1.isSome)
   && decide (([a]:List Expr).length+([]:List Keyword).length+(if ([]:List Keyword).isEmpty then 0 else 1)<30))=true:=by rfl)
  (hline:(p2.endLine==p3.line)=true:=by rfl) (hs:starEach [a] X.env=(false,eval a X.env)::starEach [] X.env:=by exact y9 rfl) (hplain:(backTo p3 (starEach [] X.env)).any (·.1)=false:=by exact v7 rfl) :
  SX X (.Call (.Attribute (.Name x p1) "pop" p2) [a] [] p3) (x9J i fa) :=
 w0C (x4B PySem.F.plainAttrs_list PySem.F.slot_list_pop PySem.F.type_list_pop x4H (z64 hN hv hd hcd) (K8 h z05 hs) hbase hfew hline hs hplain)
end
theorem x4U{H:Hp}:K3 [] H=H:=by
 funext b
 unfold K3
 rw[if_neg (by simp)]
noncomputable def dFn(n:Nat)(N:List Str)(g:y0->Option Out):List D->Option D:=fun ds=>if ds.length=n then z5M (g (z2Y N ds)) else none
theorem w6T{P:Program}{w:World}{K:PySem.W.Frag}{mg:Str->Option Value}{base:Heap}{x:Str}{st:Stmt}{N ps:List Str}{k n:Nat}{g:y0->Option Out}(G:Stands K mg x st)(S:FnScope N ps (z9 st))(hb:∀(kV doc pm:Value) (an:Option Addr) (cdv ct:Value) (us:List Value),us.length=ps.length->bindArgs (PySem.W.fnOf x x (g9 st) (x6 st) (z9 st) .none kV doc pm an cdv ct) ⟨us,[]⟩=pure (ps.zip us))(hn:ps.length=n)
  (hbody:∀(f:Addr) (cdv:Value) (A:Around) (outer:List Env) (s:Shared) (H:Hp) (E:XK),Room k (A.deeper (envOfC x (z9 st) s.heap.objs.size f cdv)) ->
   SSs (z42 CX0 P w K mg base N x (z9 st) f cdv A outer s H E).nox (x6 st) g):FnD P w K mg base (k+1) x ps (dFn n N g) :=
 x1K G S (fun ds d e=>by
  unfold dFn at e;split at e
  ·rename_i h;rw[h,hn]
  ·cases e) (fun ds d e=>by
  unfold dFn at e;split at e
  ·exact e
  ·cases e) hb hbody
section
variable{prog:Program}{w:World}{A:Around}{E:Value->Shared->Prop}{s:Shared}
theorem y2H{it t:Addr}{i:Nat}{items:Array Value}{x:Value}{Q:Value->Shared->Prop}(hit:s.heap.IsTupleIter it t i)(ht:s.heap.IsTuple t items)(hx:items[i]?=some x)(hQ:∀h',h'.IsTupleIter it t (i+1)->Heap.SameBut it s.heap h'->Q x { s with heap:=h' }):wpAny (model prog w) A (Builtin.SmallTypes.nextOf (.ref it)) Q E s:=by
 rcases id hit with⟨ob,eo,ec,ed⟩
 rcases ht with⟨ot,et,_,nt,edt⟩
 unfold Builtin.SmallTypes.nextOf;refine wpAny_bind (wpAny_callSpecial?_slot (name:=Str.ofString "__next__") hit.typeIs F.slot_tuple_iterator_next (wpAny_call_entry F.slot_tuple_iterator_next hit.typeIs F.entry_tuple_iterator_next ?_ (F.args_tuple_iterator_next_1 _)))
 show wpAny _ _ (field (.ref it) 0 >>= _) _ _ s;refine wpAny_bind (wpAny_field eo ed (x:=.ref t) rfl ?_)
 show wpAny _ _ (if (Value.ref t==Value.none)=true then _ else _) _ _ s;rw[if_neg (show ¬((Value.ref t==Value.none)=true) from Bool.false_ne_true)]
 show wpAny _ _ (field (.ref it) 1 >>= _) _ _ s;refine wpAny_bind (wpAny_field eo ed (x:=.int i 0) rfl ?_)
 show wpAny _ _ (seqItems? (.ref t) >>= _) _ _ s;refine wpAny_bind (wpAny_seqItems et edt ?_)
 simp only[Int.toNat_natCast,hx]
 refine wpAny_bind (wpAny_setField eo ed (by simp) (wpAny_pure ⟨x,rfl,wpAny_pure (hQ _ ?_ (Heap.SameBut.update ..))⟩))
 exact⟨_,Heap.get?_update_self _ eo (Obj.isFreed_of_fields (Obj.data_mapFields ed _)),(Obj.cls_mapFields ..).trans ec,by rw[Obj.data_mapFields ed];simp[rawInt]⟩
theorem y4J{it t:Addr}{i:Nat}{items:Array Value}{Q:Value->Shared->Prop}(hh:A.handled=none)(hit:s.heap.IsTupleIter it t i)(ht:s.heap.IsTuple t items)(hx:items[i]?=none)(hE:∀h' e,Heap.ExtBut it s.heap h'->(∃o,h'.get? e=some o/\o.cls = .type "StopIteration")->E (.ref e) { s with heap:=h' }):wpAny (model prog w) A (Builtin.SmallTypes.nextOf (.ref it)) Q E s:=by
 rcases id hit with⟨ob,eo,ec,ed⟩
 rcases ht with⟨ot,et,_,nt,edt⟩
 unfold Builtin.SmallTypes.nextOf;refine wpAny_bind (wpAny_callSpecial?_slot (name:=Str.ofString "__next__") hit.typeIs F.slot_tuple_iterator_next (wpAny_call_entry F.slot_tuple_iterator_next hit.typeIs F.entry_tuple_iterator_next ?_ (F.args_tuple_iterator_next_1 _)))
 show wpAny _ _ (field (.ref it) 0 >>= _) _ _ s;refine wpAny_bind (wpAny_field eo ed (x:=.ref t) rfl ?_)
 show wpAny _ _ (if (Value.ref t==Value.none)=true then _ else _) _ _ s;rw[if_neg (show ¬((Value.ref t==Value.none)=true) from Bool.false_ne_true)]
 show wpAny _ _ (field (.ref it) 1 >>= _) _ _ s;refine wpAny_bind (wpAny_field eo ed (x:=.int i 0) rfl ?_)
 show wpAny _ _ (seqItems? (.ref t) >>= _) _ _ s;refine wpAny_bind (wpAny_seqItems et edt ?_)
 simp only[Int.toNat_natCast,hx]
 refine wpAny_bind (wpAny_rule (wpAny_bind (wpAny_setField eo ed (by simp) ?_)))
 show wpAny _ _ (newExc (.type "StopIteration") [] >>= _) _ _ _;refine wpAny_bind ?_
 simp only[newExc,newTuple];refine wpAny_bind (wpAny_newObj_type ?_ (by size_fits))
 refine wpAny_bind (m:=firstArgMember _ _) (wpAny_of_eq (a:=Value.none) (by first|rfl|(simp only[firstArgMember];rfl)) (wpAny_newObj_type ?_ (by size_fits)))
 simp only[raiseNew];refine wpAny_bind (wpAny_handled ?_)
 first|rw[show A.in1.handled=none from hh]|rw[hh]
 refine wpAny_bind (wpAny_pure (wpAny_throw ?_));exact hE _ _ (((Heap.SameBut.update ..).extBut.push _).push _) ⟨_,Heap.get?_push_size _ rfl,rfl⟩
theorem y5A(hh:A.handled=none)(it t:Addr)(hne:t≠it)(items:Array Value) :
  Draws prog w A it [it,t] items.size (fun i v=>items[i]?=some v) (fun i h=>h.IsTupleIter it t i/\h.IsTuple t items) where
 live:=fun _ _ st=>by obtain⟨⟨o,ho,_⟩,_⟩:=st;exact⟨o,ho⟩
 frame:=fun _ _ _ st hk=>by
  obtain⟨⟨o,ho,z⟩,⟨o2,ho2,z2⟩⟩:=st
  exact⟨⟨o,hk it (by simp) o ho,z⟩,⟨o2,hk t (by simp) o2 ho2,z2⟩⟩
 item:=fun i s Q E hi st hQ=>y2H st.1 st.2 (x:=items[i]) (by simp[hi]) fun h' a b=>hQ _ h' s.toks (by simp[hi]) ⟨a,st.2.extBut b.extBut hne⟩ b
 done:=fun s Q E st hE=>y4J hh st.1 st.2 (by simp) hE
theorem y58(l:Addr)(items:Array Value)(n:Nat)(dct:Option Addr)(sl:Array (Option Value)) :
  Meets (Builtin.«enumerate.__new__» ⟨[.type "enumerate",.ref l],[]⟩) (fun _ R s=>s.heap.get? l=some { cls:=.type "tuple",dict:=dct,data:=.seq items n,slots:=sl } /\
   R (.ok (.ret (.ref (s.heap.push { cls:=.type "tuple_iterator",data:=.fields #[.ref l,.int 0 0] }).objs.size)))
    { s with heap:=(s.heap.push { cls:=.type "tuple_iterator",data:=.fields #[.ref l,.int 0 0] }).push { cls:=.type "enumerate",data:=.fields #[.none,.bool false,.ref s.heap.objs.size,rawInt 0,.none,.none] } }) :=
 .of_wp fun prog w A R s h=>by
  obtain⟨hp,g,d,tk,os⟩:=s;obtain⟨hl,h⟩:=h;have hsub:=sub_enumerate;have hL:Heap.IsTuple (Shared.heap ⟨hp,g,d,tk,os⟩) l items:=⟨_,hl,rfl,n,rfl⟩
  wp_walk using AutoSeq1.wpAny_loadPart' hl;refine wpAny_stack_any fun st=>wpAny_pure ?_
  split
  ·rename_i c _ _ _ _ _
   cases (c==Value.type "enumerate")<;>(wp_walk using AutoSeq1.wpAny_loadPart' hl,wpAny_pyIter_tuple hL;exact⟨_,rfl,h⟩)
  ·wp_walk using AutoSeq1.wpAny_loadPart' hl,wpAny_pyIter_tuple hL;exact⟨_,rfl,h⟩
theorem y1W{l:Addr}{items:Array Value}{Q:Value->Shared->Prop}(hL:s.heap.IsTuple l items)(h:∀h',IsEnum h' (s.heap.objs.size+1) s.heap.objs.size 0 .none->h'.IsTupleIter s.heap.objs.size l 0->(∀b o,s.heap.get? b=some o->h'.get? b=some o)->Q (.ref (s.heap.objs.size+1)) { s with heap:=h' }) :
  wpAny (model prog w) A (call (.type "enumerate") [.ref l]) Q E s:=by
 rcases hL with⟨⟨c,dct,dt,sl⟩,hl,hc,n,hd⟩
 have hc':c = .type "tuple":=hc;have hd':dt = .seq items n:=hd
 subst hc' hd'
 refine callType_new F.called_enumerate (by decide) (F.typeCall_enumerate_1 _) (F.newCall_enumerate_1 _) (fun obj=>F.args_object_init_2 obj _) F.entry_enumerate_new (y58 l items n dct sl) ⟨hl,?_⟩
 have hz:(s.heap.push { cls:=.type "tuple_iterator",data:=.fields #[.ref l,.int 0 0] }).objs.size=s.heap.objs.size+1:=Heap.size_push ..
 have he:IsEnum ((s.heap.push { cls:=.type "tuple_iterator",data:=.fields #[.ref l,.int 0 0] }).push { cls:=.type "enumerate",data:=.fields #[.none,.bool false,.ref s.heap.objs.size,rawInt 0,.none,.none] }) (s.heap.objs.size+1) s.heap.objs.size 0 .none:=by
  have z:=Heap.get?_push_size (s.heap.push { cls:=.type "tuple_iterator",data:=.fields #[.ref l,.int 0 0] }) (o:={ cls:=.type "enumerate",data:=.fields #[.none,.bool false,.ref s.heap.objs.size,rawInt 0,.none,.none] }) rfl
  rwa [hz]at z
 show _/\_
 rw[hz]
 exact⟨⟨_,he,rfl⟩,h _ he ⟨_,Heap.get?_push_of_some _ (Heap.get?_push_size _ rfl),rfl,rfl⟩ fun b o x=>Heap.get?_push_of_some _ (Heap.get?_push_of_some _ x)⟩
end
theorem y8D{X:Cx}{pins:List (Addr×Obj)}{σ:St}{H:Hp}{s:Shared}{h':Heap}{t':Nat}{ch:List Addr}{a:Addr}{o:HO}(I:Inv X pins σ H s)(k:∀b ob,b∉ch->s.heap.get? b=some ob->h'.get? b=some ob)(hf:∀b∈ch,y8T X pins H b)(ha:s.heap.objs.size≤a)(new:z03 X.prog X.w (upd H a o) h' a o):Inv X pins σ (upd H a o) { s with heap:=h',toks:=t' }:=by
 have hn:H a=none:=I.hok.fresh ha
 have lt:∀b ob,s.heap.get? b=some ob->b≠a:=fun b ob e=>Nat.ne_of_lt (Nat.lt_of_lt_of_le (Heap.lt_size e) ha)
 have nch:∀b u,H b=some u->b∉ch:=fun b u e z=>by
  have:=(hf b z).1
  rw[e]at this;cases this
 refine I.call (g':=s.gens) (d':=s.drawn) (ch:=ch) ⟨fun b ob e n _ hx=>k b ob hx e,fun b ob e n _ hx=>⟨ob.slots,k b ob hx e⟩,fun b ob e n _=>by rw[j8 (lt b ob e)];exact n,fun b ob e hx=>⟨ob,k b ob hx e⟩,
  fun b xs e=>by rw[j8 (Y2 e hn)];exact e,fun b ob u e=>by rw[j8 (Y2 e hn)];exact e,fun b ps e=>⟨#[],by rw[j8 (Y2 e hn),e];simp⟩⟩ (fun b u e=>?_) I.bare fun b hb=>?_
 ·by_cases hb:b=a
  ·subst hb;rw[v5]at e;cases e;exact new
  ·rw[j8 hb]at e
   refine (I.hok b u e).stay (fun c v hc q=>k c v ?_ q) (fun c q=>by rw[j8 (Y2 q hn)];exact q) (fun c xs q=>by rw[j8 (Y2 q hn)];exact q) fun c ob xs q=>by rw[j8 (Y2 q hn)];exact q
   rcases hc with z|z
   ·rw[z];exact nch b u e
   ·exact nch c _ z
 ·obtain⟨_,f1,_,f3,f5,f6⟩:=hf b hb
  exact⟨f3,f1,f5,f6⟩
noncomputable def Ite(Sq:Hp->List V->Prop):It :=
 ⟨fun i H=>∃xs x,Sq H xs/\xs[i]?=some x,fun i H x H'=>∃p y,H p=none/\x = .ref p/\H'=upd H p (.tup [.int (i:Nat),y])/\∀xs,Sq H xs->xs[i]?=some y,fun i H=>∃xs,Sq H xs/\xs.length=i⟩
structure ESrc(P:Program)(w:World)(K:PySem.W.Frag)(a it:Addr)(Sq:Hp->List V->Prop)(Sr:Heap->Array Value->Prop)(It0:Nat->Heap->Prop):Prop where
 src:∀(X:Cx) pins σ H s,X.K=K->Inv X pins σ H s->∀xs,Sq H xs->∃its:List Value,Z3 xs its/\Sr s.heap its.toArray
 inj:∀(X:Cx) pins σ H s,X.K=K->Inv X pins σ H s->∀xs ys,Sq H xs->Sq H ys->xs=ys
 draw:∀(A:Around) (items:Array Value),A.handled=none->Draws P w A it [it,a] items.size (fun i v=>items[i]?=some v) (fun i h=>It0 i h/\Sr h items)
 obj:∀i h,It0 i h->∃o,h.get? it=some o/\∀v,o.data≠.cell v
 keep:∀i h h',It0 i h->(∀o,h.get? it=some o->h'.get? it=some o)->It0 i h'
 cls:∀h items,Sr h items->∃o,h.get? a=some o/\o.cls≠.type "enumerate"
theorem y2F{P:Program}{w:World}{K:PySem.W.Frag}{elts:List Expr}{x1:Nat}{tpos:Pos}{a it e:Addr}{Sq:Hp->List V->Prop}{Sr:Heap->Array Value->Prop}{It0:Nat->Heap->Prop}(D:ESrc P w K a it Sq Sr It0)(hei:e≠it) :
  Turn P w K (.Tuple elts x1 tpos) (Ite Sq) [e,it] e (fun i h=>(∃old,IsEnum h e it ((i:Nat):Int) old)/\It0 i h) where
 mem:=by simp
 obj:=fun i h st b hb=>by
  obtain⟨⟨old,he⟩,hi⟩:=st
  rcases List.mem_cons.mp hb with z|z
  ·subst z;exact⟨_,he,fun v q=>by cases q⟩
  ·rw[List.mem_singleton.mp z];exact D.obj i h hi
 keep:=fun i h h' st k=>by
  obtain⟨⟨old,he⟩,hi⟩:=st
  exact⟨⟨old,k e (by simp) _ he⟩,D.keep i h h' hi fun o q=>k it (by simp) o q⟩
 item:=by
  intro X hP hw hK hc i pins s σ H E I hf st hg
  subst hP hw
  obtain⟨xs,x,hq,hx⟩:=hg;obtain⟨⟨old,he⟩,hi⟩:=st;obtain⟨its,rv,sr⟩:=D.src X pins σ H s hK I xs hq;obtain⟨u,hu,ru⟩:=rv.get hx
  have hlt:i<its.toArray.size:=by rw[List.size_toArray];exact (List.getElem?_eq_some_iff.mp hu).1
  have hea:e≠a:=fun z=>by
   obtain⟨o,h1,h2⟩:=D.cls _ _ sr;rw[←z,he]at h1;cases h1;exact h2 rfl
  have hef:e∉[it,a]:=by simp[hei,hea]
  have heL:e<s.heap.objs.size:=Heap.lt_size he;obtain⟨oi,hoi,_⟩:=D.obj i _ hi;have hiL:it<s.heap.objs.size:=Heap.lt_size hoi
  refine wpAny_pyNext_enum_itemD (D.draw X.A.in1 its.toArray (I.ok.hd hc)) he ⟨hi,sr⟩ hlt hei hef fun v h1 tk hv ho hs hT hz hk=>?_
  have ev:v=u:=by
   have:its.toArray[i]?=some v:=hv
   rw[show its.toArray[i]?=its[i]? by simp,hu]at this
   exact (Option.some.inj this).symm
  subst ev
  refine⟨_,rfl,wpAny_letOwnedTupleGo_enum ho fun h2 he2 hs2=>?_⟩
  have kk:∀b ob,b∉[e,it]->s.heap.get? b=some ob->h2.get? b=some ob:=fun b ob hb q=>by
   have n1:b≠e:=fun z=>hb (by simp[z])
   have n2:b≠it:=fun z=>hb (by simp[z])
   exact (hs2.2 b n1).trans (hk b ob n1 n2 q)
  have hT2:h2.get? s.heap.objs.size=some { cls:=.type "tuple",data:=.seq #[.int i tk,v] }:=(hs2.2 _ (Nat.ne_of_gt heL)).trans hT
  refine⟨.ref s.heap.objs.size,upd H s.heap.objs.size (.tup [.int (i:Nat),x]),y8D (s:=s) (t':=tk+1) I kk hf (Nat.le_refl _) ⟨by rw[sizeLine_eq];simp,[.int i tk,v],.cons ⟨tk,rfl⟩ (.cons ru .nil),⟨_,hT2,rfl,⟨_,rfl⟩,rfl⟩⟩,rfl,⟨_,x,I.fresh,rfl,rfl,fun ys hy=>by rw[D.inj X pins σ H s hK I ys xs hy hq];exact hx⟩,⟨⟨v,?_⟩,?_⟩,fun b hb=>?_⟩
  ·have:(((i+1:Nat):Nat):Int)=(i:Int)+1:=by omega
   rw[this];exact he2
  ·exact D.keep _ _ _ hs.1 fun o q=>(hs2.2 it (Ne.symm hei)).trans q
  ·have hb':b<s.heap.objs.size:=by
    rcases List.mem_cons.mp hb with z|z
    ·rw[z];exact heL
    ·rw[List.mem_singleton.mp z];exact hiL
   rw[j8 (Nat.ne_of_lt hb')];exact (hf b hb).1
 done:=by
  intro X hP hw hK hc i pins s σ H E I hf st hg
  subst hP hw
  obtain⟨xs,hq,hx⟩:=hg;obtain⟨⟨old,he⟩,hi⟩:=st;obtain⟨its,rv,sr⟩:=D.src X pins σ H s hK I xs hq
  have hn:i=its.toArray.size:=by rw[List.size_toArray,←rv.length,hx]
  obtain⟨f0,f1,f2,f3,f4,f5⟩:=hf it (by simp)
  refine wpAny_pyNext_enum_endD (D.draw X.A.in1 its.toArray (I.ok.hd hc)) he ⟨hn▸hi,sr⟩ fun h' eb=>⟨rfl,I.turned (t':=s.toks) (fun b o hb q=>eb b o hb q) f0 f1 f3 f4 f5⟩
 self:=fun _ _ _ _ _ st h=>by
  obtain⟨⟨old,he⟩,_⟩:=st;exact wpAny_pyIter_enum he h
theorem x1S{P:Program}{w:World}{K:PySem.W.Frag}{a it:Addr}(hne:a≠it):ESrc P w K a it (fun H xs=>SqL K H a xs) (fun h items=>h.IsList a items) (fun i h=>h.IsListIter it a i) where
 src:=fun X pins σ H s hK I xs hq=>by
  subst hK;obtain⟨its,rv,p,_⟩:=I.list hq
  exact⟨its,rv,p.isList⟩
 inj:=fun X pins σ H s hK I xs ys h1 h2=>by subst hK;exact I.list_inj h1 h2
 draw:=fun A items hh=>Draws.list hh it a hne items
 obj:=fun i h st=>by
  obtain⟨o,e,c,d⟩:=st
  exact⟨o,e,fun v z=>by rw[d]at z;cases z⟩
 keep:=fun i h h' st k=>by
  obtain⟨o,e,z⟩:=st
  exact⟨o,k o e,z⟩
 cls:=fun h items st=>by
  obtain⟨o,e,c,_⟩:=st
  exact⟨o,e,by rw[c];decide⟩
theorem x56{P:Program}{w:World}{K:PySem.W.Frag}{a it:Addr}(hne:a≠it):ESrc P w K a it (fun H xs=>SqT K H a xs) (fun h items=>h.IsTuple a items) (fun i h=>h.IsTupleIter it a i) where
 src:=fun X pins σ H s hK I xs hq=>by
  subst hK;obtain⟨its,rv,p,_⟩:=I.tuple hq
  exact⟨its,rv,p⟩
 inj:=fun X pins σ H s hK I xs ys h1 h2=>by subst hK;exact I.tuple_inj h1 h2
 draw:=fun A items hh=>y5A hh it a hne items
 obj:=fun i h st=>by
  obtain⟨o,e,c,d⟩:=st
  exact⟨o,e,fun v z=>by rw[d]at z;cases z⟩
 keep:=fun i h h' st k=>by
  obtain⟨o,e,z⟩:=st
  exact⟨o,k o e,z⟩
 cls:=fun h items st=>by
  obtain⟨o,e,c,_⟩:=st
  exact⟨o,e,by rw[c];decide⟩
section
variable{X:Cx}{elts:List Expr}{x1:Nat}{tpos pos p:Pos}{a:Expr}{f:y0->Option D}
noncomputable def w6Q(K:PySem.W.Frag)(ta:TA):TI:=fun σ H R=>ta σ H fun vs H1=>∃a,vs=[.ref a]/\(∃xs,SqL K H1 a xs)/\R (Ite fun H xs=>SqL K H a xs) H1
noncomputable def w6P(K:PySem.W.Frag)(ta:TA):TI:=fun σ H R=>ta σ H fun vs H1=>∃a,vs=[.ref a]/\(∃xs,SqT K H1 a xs)/\R (Ite fun H xs=>SqT K H a xs) H1
theorem w2H{ta:TA}(hg:Gl X "enumerate")(hm:X.mg "enumerate" = none)(ha:PA X [a] ta)(hv:bootBuiltins "enumerate" = some (.type "enumerate"))(he:starEach [a] X.env=(false,eval a X.env)::starEach [] X.env)(hpl:(backTo pos (starEach [] X.env)).any (·.1)=false):PI X (.Tuple elts x1 tpos) (.Call (.Name "enumerate" p) [a] [] pos) (w6Q X.K ta):=by
 intro pins s σ H R I h
 refine Call_ (z8X I hg hm hv (PyProof.Rows.callWith_type1 (thn (ha pos pins s σ H _ I h) fun us s1 ⟨vs,H1,I1,r1,l,ev,⟨xs,hq⟩,q1⟩=>?_) he hpl))
 subst ev;obtain⟨u,rfl,ru⟩:=z5G r1;cases ru;obtain⟨its,rv,pl,_⟩:=I1.list hq
 refine call_enumerate_list pl.isList fun h' e1 e2 hz kk=>wpAny_pyIter_enum e1 ?_
 have I2:Inv X pins σ H1 { s1 with heap:=h' }:=I1.kept (t':=s1.toks) kk
 have hll:l<s1.heap.objs.size:=by obtain⟨o,e,_⟩:=pl.isList;exact Heap.lt_size e
 refine⟨s1.heap.objs.size+1,[s1.heap.objs.size+1,s1.heap.objs.size],_,_,H1,rfl,I2,y2F (x1S (Nat.ne_of_lt hll)) (Nat.succ_ne_self _),⟨⟨_,e1⟩,e2⟩,fun b hb=>?_,q1⟩
 have hb':s1.heap.objs.size≤b:=by
  rcases List.mem_cons.mp hb with z|z
  ·rw[z];exact Nat.le_succ _
  ·rw[List.mem_singleton.mp z];exact Nat.le_refl _
 exact I1.fpOk hb' (I1.hok.fresh hb')
theorem w2G{ta:TA}(hg:Gl X "enumerate")(hm:X.mg "enumerate" = none)(ha:PA X [a] ta)(hv:bootBuiltins "enumerate" = some (.type "enumerate"))(he:starEach [a] X.env=(false,eval a X.env)::starEach [] X.env)(hpl:(backTo pos (starEach [] X.env)).any (·.1)=false):PI X (.Tuple elts x1 tpos) (.Call (.Name "enumerate" p) [a] [] pos) (w6P X.K ta):=by
 intro pins s σ H R I h
 refine Call_ (z8X I hg hm hv (PyProof.Rows.callWith_type1 (thn (ha pos pins s σ H _ I h) fun us s1 ⟨vs,H1,I1,r1,l,ev,⟨xs,hq⟩,q1⟩=>?_) he hpl))
 subst ev;obtain⟨u,rfl,ru⟩:=z5G r1;cases ru;obtain⟨its,rv,pl,_⟩:=I1.tuple hq
 refine y1W (show s1.heap.IsTuple l its.toArray from pl) fun h' e1 e2 kk=>wpAny_pyIter_enum e1 ?_
 have I2:Inv X pins σ H1 { s1 with heap:=h' }:=I1.kept (t':=s1.toks) kk
 have hll:l<s1.heap.objs.size:=by obtain⟨o,e,_⟩:=id pl;exact Heap.lt_size e
 refine⟨s1.heap.objs.size+1,[s1.heap.objs.size+1,s1.heap.objs.size],_,_,H1,rfl,I2,y2F (x56 (Nat.ne_of_lt hll)) (Nat.succ_ne_self _),⟨⟨_,e1⟩,e2⟩,fun b hb=>?_,q1⟩
 have hb':s1.heap.objs.size≤b:=by
  rcases List.mem_cons.mp hb with z|z
  ·rw[z];exact Nat.le_succ _
  ·rw[List.mem_singleton.mp z];exact Nat.le_refl _
 exact I1.fpOk hb' (I1.hok.fresh hb')
noncomputable def z0C:Nat->List D->List D
 | _,[]=>[]
 | k,d::ds=>.tup [.int (k:Int),d]::z0C (k+1) ds
theorem y3K:∀(ds:List D) (k i:Nat),(z0C k ds)[i]?=(ds[i]?).map fun d=>.tup [.int ((k+i:Nat):Int),d]
 | [],k,i=>by simp[z0C]
 | d::ds,k,0=>by simp[z0C]
 | d::ds,k,i+1=>by
  rw[z0C,List.getElem?_cons_succ,y3K ds (k+1) i,List.getElem?_cons_succ,show k+1+i=k+(i+1) by omega]
theorem z97:∀(ds:List D) (k:Nat),(z0C k ds).length=ds.length
 | [],_=>rfl
 | d::ds,k=>by rw[z0C,List.length_cons,List.length_cons,z97 ds]
theorem y2D{K:PySem.W.Frag}{W0:Hp}{Sq:Hp->List V->Prop}{xs:List V}{ds:List D}(h1:∀H',K6 W0 H'->Sq H' xs)(h2:j5 K W0 ds xs):Walk K W0 (Ite Sq) (z0C 0 ds) where
 go:=fun H' s i hi=>by
  rw[z97]at hi;obtain⟨v,hv,_⟩:=h2.get (List.getElem?_eq_getElem hi)
  exact⟨xs,v,h1 H' s,hv⟩
 yld:=fun H' s i x H3 hy=>by
  obtain⟨p,y,hp,rfl,rfl,hx⟩:=hy
  refine⟨j7 hp,fun d hd Z hz hs=>?_⟩
  rw[y3K]at hd
  cases e:ds[i]? with
  | none=>rw[e]at hd;cases hd
  | some d0 =>
   rw[e]at hd;cases hd;obtain⟨v,hv,rv⟩:=h2.get e
   have:=hx xs (h1 H' s)
   rw[hv]at this
   obtain rfl:=Option.some.inj this
   have sn:=j7 (o:=HO.tup [.int (i:Nat),v]) hp
   refine u0.mpr ⟨p,[.int (i:Nat),v],rfl,SqT.of ?_,j5.cons (v4.mpr (by simp)) (j5.one ((rv.mono hs).mono (v0 sn)))⟩
   rw[K2 (y6T hz hp)];exact v5
 stop:=fun H' s=>⟨xs,h1 H' s,by rw[z97,h2.length]⟩
noncomputable def y04(f:y0->Option D):y0->Option (List D):=fun ρ=>match f ρ with|some (.lst ds)=>some (z0C 0 ds)|some (.tup ds)=>some (z0C 0 ds)|_=>none
theorem x7P(hm:X.mg "enumerate" = none)(h:SE X a f)(hg:Gl X "enumerate":=by rfl)(hv:bootBuiltins "enumerate" = some (.type "enumerate"):=by decide +kernel)(he:starEach [a] X.env=(false,eval a X.env)::starEach [] X.env:=by exact y9 rfl)(hpl:(backTo pos (starEach [] X.env)).any (·.1)=false:=by exact v7 rfl) :
  SI X (.Tuple elts x1 tpos) (.Call (.Name "enumerate" p) [a] [] pos) (y04 f) :=
 z72 (w2F (w2H hg hm (K8 h z05 he) hv he hpl) (w2G hg hm (K8 h z05 he) hv he hpl)) fun σ H R ⟨ρ,ds,B,H0,V0,Z,e,r,q⟩=>by
  unfold y04 at e;split at e
  ·rename_i es he;cases e
   refine .inl ⟨ρ,_,B,H0,V0,Z,he,r,fun v H' s rr=>?_⟩
   obtain⟨l,xs,rfl,h1,h2⟩:=g8.mp rr
   exact⟨l,rfl,⟨xs,w9.seq h1⟩,q _ H' s (y2D (fun H'' s''=>s''.seq h1) h2)⟩
  ·rename_i es he;cases e
   refine .inr ⟨ρ,_,B,H0,V0,Z,he,r,fun v H' s rr=>?_⟩
   obtain⟨l,xs,rfl,h1,h2⟩:=u0.mp rr
   exact⟨l,rfl,⟨xs,j9 w9 h1⟩,q _ H' s (y2D (fun H'' s''=>j9 s'' h1) h2)⟩
  ·cases e
end
end L3
namespace L2
open PySem PySem.Spec PyProof.Rows
section
variable{κ:Type}[DecidableEq κ]
noncomputable def y7L(kvs:List (κ×V))(k:κ):Option V:=(kvs.find? fun kv=>decide (kv.1=k)).map (·.2)
noncomputable def y4Q(kvs:List (κ×V))(k:κ)(v:V):List (κ×V) :=
 if (kvs.any fun kv=>decide (kv.1=k))=true then kvs.map (fun kv=>if kv.1=k then (kv.1,v) else kv) else kvs++[(k,v)]
theorem z87{p:κ×V}{r:List (κ×V)}{k:κ}(e:p.1=k):y7L (p::r) k=some p.2:=by simp[y7L,List.find?_cons,e]
theorem z88{p:κ×V}{r:List (κ×V)}{k:κ}(e:¬p.1=k):y7L (p::r) k=y7L r k:=by simp[y7L,List.find?_cons,e]
theorem y5W(k:κ):∀kvs:List (κ×V),(kvs.any fun kv=>decide (kv.1=k))=(y7L kvs k).isSome
 | []=>rfl
 | p::r=>by
  rw[List.any_cons];by_cases e:p.1=k
  ·simp only[z87 e,decide_eq_true e,Bool.true_or,Option.isSome_some]
  ·rw[z88 e,decide_eq_false e,Bool.false_or];exact y5W k r
theorem z8V(kvs:List (κ×V))(k:κ)(v:V):(y4Q kvs k v).length≤kvs.length+1:=by
 unfold y4Q;split
 ·rw[List.length_map];omega
 ·rw[List.length_append,List.length_cons,List.length_nil];omega
theorem y8S.isSome_eq{o:Option V}{u:Option Value}(r:y8S o u):o.isSome=u.isSome:=by
 cases o with
 | none=>cases u with
  | none=>rfl
  | some _=>exact (show False from r).elim
 | some _=>cases u with
  | none=>exact (show False from r).elim
  | some _=>rfl
theorem y8S.getD{o:Option V}{u:Option Value}{d:V}{d':Value}(r:y8S o u)(rd:z1D d d'):z1D (o.getD d) (u.getD d'):=by
 cases o with
 | none=>cases u with
  | none=>exact rd
  | some _=>exact (show False from r).elim
 | some _=>cases u with
  | none=>exact (show False from r).elim
  | some _=>exact r
theorem KV.val{kvs:List (κ×V)}{vs:List (κ×Value)}(r:KV kvs vs)(k:κ):y8S (y7L kvs k) (valueAt vs k):=by
 unfold KV at r
 induction r with
 | nil=>exact True.intro
 | @cons p q ps qs h t ih =>
  obtain⟨h1,h2⟩:=h;by_cases e:p.1=k
  ·have e':q.1=k:=h1.symm.trans e
   have b:valueAt (q::qs) k=some q.2:=by simp[valueAt,List.find?_cons,e']
   rw[z87 e,b];exact h2
  ·have e':¬q.1=k:=fun z=>e (h1.trans z)
   have b:valueAt (q::qs) k=valueAt qs k:=by simp[valueAt,List.find?_cons,e']
   rw[z88 e,b];exact ih
theorem KV.any{kvs:List (κ×V)}{vs:List (κ×Value)}(r:KV kvs vs)(k:κ):(kvs.any fun kv=>decide (kv.1=k))=vs.any fun kv=>decide (kv.1=k):=by
 unfold KV at r
 induction r with
 | nil=>rfl
 | cons h t ih=>rw[List.any_cons,List.any_cons,ih,h.1]
theorem KV.repl{kvs:List (κ×V)}{vs:List (κ×Value)}(r:KV kvs vs)(k:κ){y:V}{u:Value}(ry:z1D y u) :
  KV (kvs.map fun kv=>if kv.1=k then (kv.1,y) else kv) (vs.map fun kv=>if kv.1=k then (kv.1,u) else kv):=by
 unfold KV at r ⊢
 induction r with
 | nil=>exact .nil
 | @cons p q ps qs h t ih =>
  rw[List.map_cons,List.map_cons];refine .cons ?_ ih;obtain⟨h1,h2⟩:=h;by_cases e:p.1=k
  ·rw[if_pos e,if_pos (h1.symm.trans e)];exact⟨h1,ry⟩
  ·rw[if_neg e,if_neg (fun z=>e (h1.trans z))];exact⟨h1,h2⟩
theorem KV.put{kvs:List (κ×V)}{vs:List (κ×Value)}(r:KV kvs vs)(k:κ){y:V}{u:Value}(ry:z1D y u):KV (y4Q kvs k y) (stored vs k u):=by
 unfold y4Q stored;rw[r.any k]
 by_cases e:(vs.any fun kv=>decide (kv.1=k))=true
 ·rw[if_pos e,if_pos e];exact r.repl k ry
 ·rw[if_neg e,if_neg e];exact Paired.snoc r ⟨rfl,ry⟩
theorem KV.length{kvs:List (κ×V)}{vs:List (κ×Value)}(r:KV kvs vs):kvs.length=vs.length:=Paired.length r
end
theorem x91{P:Program}{w:World}{k:Key}{u:Value}(r:z1D (kV k) u):(z19 P w).is k u=true:=by
 cases k with
 | inl i=>obtain⟨t,e⟩:=(show ∃t,u=Value.int i t from r);subst e;exact y51 P w i t
 | inr x=>obtain⟨t,e⟩:=(show ∃t,u=Value.str x t from r);subst e;exact y50 P w x t
theorem y3D{P:Program}{w:World}:∀{ks:List Key} {us:List Value},Z3 (ks.map kV) us->ItemsAre (z19 P w) ks us
 | [],_,r=>by rw[List.map_nil]at r;cases r;exact .nil
 | k::ks,_,r=>by
  rw[List.map_cons]at r
  cases r with
  | cons h t=>exact .cons (x91 h) (y3D t)
noncomputable abbrev KT(H:Hp):List (List Key×V)->List (List Key×Addr×Value)->Prop:=Paired fun p q=>p.1=q.1/\H q.2.1=some (.tup (p.1.map kV))/\z1D p.2 q.2.2
theorem KT.val{H:Hp}{kvs:List (List Key×V)}{xs:List (List Key×Addr×Value)}(r:KT H kvs xs)(k:List Key):y8S (y7L kvs k) ((atKey xs k).map (·.2)):=by
 induction r with
 | nil=>exact True.intro
 | @cons p q ps qs h t ih =>
  obtain⟨h1,_,h2⟩:=h;by_cases e:p.1=k
  ·have e':q.1=k:=h1.symm.trans e
   have b:atKey (q::qs) k=some q.2:=by simp[atKey,List.find?_cons,e']
   rw[z87 e,b];exact h2
  ·have e':¬q.1=k:=fun z=>e (h1.trans z)
   have b:atKey (q::qs) k=atKey qs k:=by simp[atKey,List.find?_cons,e']
   rw[z88 e,b];exact ih
theorem KT.repl{H:Hp}{kvs:List (List Key×V)}{xs:List (List Key×Addr×Value)}(r:KT H kvs xs)(k:List Key){y:V}{u:Value}(ry:z1D y u) :
  KT H (kvs.map fun kv=>if kv.1=k then (kv.1,y) else kv) (xs.map (putAt k u)):=by
 induction r with
 | nil=>exact .nil
 | @cons p q ps qs h t ih =>
  rw[List.map_cons,List.map_cons];refine .cons ?_ ih;obtain⟨h1,h2,h3⟩:=h;unfold putAt;by_cases e:p.1=k
  ·rw[if_pos e,if_pos (h1.symm.trans e)];exact⟨h1,h2,ry⟩
  ·rw[if_neg e,if_neg (fun z=>e (h1.trans z))];exact⟨h1,h2,h3⟩
theorem KT.put{H:Hp}{kvs:List (List Key×V)}{xs:List (List Key×Addr×Value)}(r:KT H kvs xs)(k:List Key){b:Addr}{y:V}{u:Value}(hb:H b=some (.tup (k.map kV)))(ry:z1D y u) :
  KT H (y4Q kvs k y) (storedH xs k b u):=by
 have e:(kvs.any fun kv=>decide (kv.1=k))=(atKey xs k).isSome:=by
  rw[y5W,(r.val k).isSome_eq,Option.isSome_map]
 unfold y4Q storedH;rw[e];by_cases q:(atKey xs k).isSome=true
 ·rw[if_pos q,if_pos q];exact r.repl k ry
 ·rw[if_neg q,if_neg q];exact Paired.snoc r ⟨rfl,hb,ry⟩
theorem KT.keeps{H H':Hp}{kvs:List (List Key×V)}{xs:List (List Key×Addr×Value)}(r:KT H kvs xs)(ht:∀b ys,H b=some (.tup ys)->H' b=some (.tup ys)):KT H' kvs xs :=
 Paired.mapP r fun _ _ z=>⟨z.1,ht _ _ z.2.1,z.2.2⟩
section
variable{P:Program}{w:World}{H:Hp}{h:Heap}{a:Addr}
theorem w1U{u:HO}(ok:HOk P w H h)(e:Rd H a u):z03 P w H h a u:=e.ok ok
theorem x9G{kvs:List (Key×V)}(ok:HOk P w H h)(e:Rd H a (.dK kvs)):kvs.length≤sizeLine/\(a==sysModules)=false/\∃vs,KV kvs vs/\h.DictOf (z19 P w) a vs :=
 show z03 P w H h a (.dK kvs) from w1U ok e
theorem w5I{kvs:List (Key×V)}(ok:HOk P w H h)(e:H a=some (.dK kvs)):kvs.length≤sizeLine/\(a==sysModules)=false/\∃vs,KV kvs vs/\h.DictOf (z19 P w) a vs:=x9G ok (.inl e)
theorem x10{ks:List Key}(ok:HOk P w H h)(e:H a=some (.tup (ks.map kV))):(tupleKind (z19 P w)).is h ks a:=by
 obtain⟨_,its,r,o,h1,h2,⟨n,h3⟩,_⟩:=(show z03 P w H h a (.tup (ks.map kV)) from ok a _ e)
 exact⟨o,its.toArray,n,h1,h2,h3,by simpa using y3D r⟩
theorem x9F{kvs:List (List Key×V)}(ok:HOk P w H h)(e:Rd H a (.dT kvs)):kvs.length≤sizeLine/\(a==sysModules)=false /\
  ∃xs,KT H kvs xs/\h.DictOfH (tupleKind (z19 P w)) a xs:=by
 obtain⟨z,y,xs,r,o,es,ep,h1,h2,h3,h4,h5⟩:=(show z03 P w H h a (.dT kvs) from w1U ok e)
 refine⟨z,y,xs,r,o,es,ep,h1,h2,h3,h4,fun x hx=>?_,h5⟩
 have all:∀{l:List (List Key×V)} {m:List (List Key×Addr×Value)},KT H l m->∀x∈m,(tupleKind (z19 P w)).is h x.1 x.2.1:=by
  intro l m q
  induction q with
  | nil=>intro x hx;exact nomatch hx
  | @cons p q ps qs hq t ih =>
   intro x hx
   rcases List.mem_cons.mp hx with e|hx
   ·subst e
    exact x10 ok (by rw[←hq.1];exact hq.2.1)
   ·exact ih x hx
 exact all r x hx
theorem w5H{kvs:List (List Key×V)}(ok:HOk P w H h)(e:H a=some (.dT kvs)):kvs.length≤sizeLine/\(a==sysModules)=false /\
  ∃xs,KT H kvs xs/\h.DictOfH (tupleKind (z19 P w)) a xs:=x9F ok (.inl e)
end
noncomputable def x6U(H:Hp)(a:Addr)(y:V)(r:Option V):Prop :=
 (∃kvs k,Rd H a (.dK kvs)/\y=kV k/\r=y7L kvs k)∨∃kvs k b,Rd H a (.dT kvs)/\y = .ref b/\H b=some (.tup (k.map kV))/\r=y7L kvs k
noncomputable def x9W(H:Hp)(a:Addr)(y v:V)(H':Hp):Prop :=
 (∃kvs k,H a=some (.dK kvs)/\y=kV k/\kvs.length<sizeLine/\H'=upd H a (.dK (y4Q kvs k v))) ∨
 ∃kvs k b,H a=some (.dT kvs)/\y = .ref b/\H b=some (.tup (k.map kV))/\kvs.length<sizeLine/\H'=upd H a (.dT (y4Q kvs k v))
theorem x6U.k{H:Hp}{a:Addr}{kvs:List (Key×V)}{k:Key}(e:H a=some (.dK kvs)):x6U H a (kV k) (y7L kvs k):=.inl ⟨kvs,k,.inl e,rfl,rfl⟩
theorem x6U.t{H:Hp}{a b:Addr}{kvs:List (List Key×V)}{k:List Key}(e:H a=some (.dT kvs))(eb:H b=some (.tup (k.map kV))):x6U H a (.ref b) (y7L kvs k):=.inr ⟨kvs,k,b,.inl e,rfl,eb,rfl⟩
theorem x9W.k{H:Hp}{a:Addr}{kvs:List (Key×V)}{k:Key}{v:V}(e:H a=some (.dK kvs))(hl:kvs.length<sizeLine):x9W H a (kV k) v (upd H a (.dK (y4Q kvs k v))):=.inl ⟨kvs,k,e,rfl,hl,rfl⟩
theorem x9W.t{H:Hp}{a b:Addr}{kvs:List (List Key×V)}{k:List Key}{v:V}(e:H a=some (.dT kvs))(eb:H b=some (.tup (k.map kV)))(hl:kvs.length<sizeLine) :
  x9W H a (.ref b) v (upd H a (.dT (y4Q kvs k v))):=.inr ⟨kvs,k,b,e,rfl,eb,hl,rfl⟩
section
variable{X:Cx}{pins:List (Addr×Obj)}{σ:St}{H:Hp}{s:Shared}{a:Addr}{y v:V}{u r:Value}{o:Option V}{A:Around}{E:Value->Shared->Prop}
theorem Inv.big(I:Inv X pins σ H s):sysModules<s.heap.objs.size:=by
 have h:mainGlobals<s.heap.objs.size:=(I.mod.glob.keeps I.bk).lt
 exact Nat.lt_trans (by decide) h
theorem x20{Q:Value->Shared->Prop}(hu:A.units+1<cLine)(I:Inv X pins σ H s)(g:x6U H a y (some v))(ry:z1D y u)(h:∀w' s',Inv X pins σ H s'->z1D v w'->Q w' s') :
  wpAny (model X.prog X.w) A (getItem (.ref a) u) Q E s:=by
 rcases g with⟨kvs,k,e,ey,l⟩|⟨kvs,k,b,e,ey,eb,l⟩
 ·subst ey;obtain⟨z,hd,vs,rel,dd⟩:=x9G I.hok e
  obtain⟨w',hw,rw'⟩:=y8S.some_of (v:=v) (o:=valueAt vs k) (by rw[l];exact rel.val k)
  exact wpAny_getItem_of (x91 ry) dd.mapOf hw (h w' _ (I.tok _) rw')
 ·subst ey
  cases (show u=Value.ref b from ry)
  obtain⟨z,hd,xs,rel,dd⟩:=x9F I.hok e
  obtain⟨w',hw,rw'⟩:=y8S.some_of (v:=v) (o:=(atKey xs k).map (·.2)) (by rw[l];exact rel.val k)
  obtain⟨p,hp,hp2⟩:=Option.map_eq_some_iff.mp hw;refine wpAny_getItem_heap (tupleKind_room_in1 hu) (x10 I.hok eb) dd hp ?_;rw[hp2];exact h w' _ (I.tok _) rw'
theorem x1Y{h':Heap}{t':Nat}{ob:HO}(I:Inv X pins σ H s)(mu:Mut (H a))(hs:Heap.SameBut a s.heap h')(he:∃q,h'.get? a=some q)(new:z03 X.prog X.w (upd H a ob) h' a ob) :
  Inv X pins σ (upd H a ob) { s with heap:=h',toks:=t' } :=
 I.write (x:=a) (e:=a) mu (.inl rfl) (fun b q hb z=>(hs.2 b hb).trans z) he new
theorem w3O{P:Program}{w:World}{H':Hp}{h':Heap}{kvs:List (Key×V)}{vs:List (Key×Value)}(z:kvs.length≤sizeLine)(hd:(a==sysModules)=false)(rel:KV kvs vs)(dd:h'.DictOf (z19 P w) a vs) :
  z03 P w H' h' a (.dK kvs):=⟨z,hd,vs,rel,dd⟩
theorem x1Z{H':Hp}{Q:Unit->Shared->Prop}(hu:A.units+1<cLine)(I:Inv X pins σ H s)(g:x9W H a y v H')(ry:z1D y u)(rv:z1D v r)(h:∀s',Inv X pins σ H' s'->Q () s') :
  wpAny (model X.prog X.w) A (setItem (.ref a) u r) Q E s:=by
 rcases g with⟨kvs,k,e,ey,l,eH⟩|⟨kvs,k,b,e,ey,eb,l,eH⟩
 ·subst ey eH
  obtain⟨z,hd,vs,rel,dd⟩:=w5I I.hok e
  have hz:vs.length≤sizeLine:=by rw[←rel.length];exact z
  have hl:(y4Q kvs k v).length≤sizeLine:=by have:=z8V kvs k v;omega
  refine wpAny_setItem_pairs (hsz:=hz) (x91 ry) dd fun h' dd' hs=>h _ ?_
  have he:∃q,h'.get? a=some q:=let ⟨q,_,_,hq,_⟩:=dd';⟨q,hq⟩
  exact x1Y I (by rw[e];exact True.intro) hs he (w3O hl hd (rel.put k rv) dd')
 ·subst ey eH
  cases (show u=Value.ref b from ry)
  obtain⟨z,hd,xs,rel,dd⟩:=w5H I.hok e
  have hz:xs.length≤sizeLine:=by rw[←Paired.length rel];exact z
  have hl:(y4Q kvs k v).length≤sizeLine:=by have:=z8V kvs k v;omega
  refine wpAny_setItem_heap (hsz:=hz) (tupleKind_room_in1 hu) (x10 I.hok eb) dd fun h' dd' hs=>h _ ?_
  obtain⟨q,es,ep,hq,h2,h3,h4,_,h5⟩:=dd'
  refine x1Y I (by rw[e];exact True.intro) hs ⟨q,hq⟩ ⟨hl,hd,_,(rel.put k eb rv).keeps fun c ys ec=>?_,q,es,ep,hq,h2,h3,h4,h5⟩
  rw[j8 (w55 ec e (fun z=>nomatch z))]
  exact ec
end
noncomputable def w43(i:Expr):Prop:=∀ov iv,subscripted i false ov iv=operate [ov,iv] (getItem ov iv)
theorem x7D{prog:Program}{w:World}{A:Around}{E:Value->Shared->Prop}{s:Shared}{env:Env}{value slice:Expr}{pos:Pos}{T id:String}{Q:Value->Shared->Prop}(hl:typeLookup (.type T) "__getitem__" = pure (some (.builtin id)))(hs:w43 slice)(h:wpAny (model prog w) A (eval value env) (fun o s₁=>wpAny (model prog w) A (eval slice env) (fun i s₂=>s₂.TypeIs o T/\wpAny (model prog w) A (getItem o i) Q E s₂) E s₁) E s) :
  wpAny (model prog w) A (eval (.Subscript value slice pos) env) Q E s:=by
 refine Subscript_ (wpAny_mono h (fun o s₁ h₁=>wpAny_mono h₁ (fun i s₂ h₂=>?_) fun _ _ x=>x) fun _ _ x=>x)
 obtain⟨hT,h₂⟩:=h₂;unfold subscriptTail;refine wpAny_bind ?_;rw[getitemInPython_of_ne hT.not_modules];refine wpAny_bind (wpAny_specialOf hT hl ?_)
 have fin:wpAny (model prog w) A (subscripted slice false o i) (fun r s₃=>wpAny (model prog w) A (letTemporaryGo value o r >>= fun _=>pure r) Q E s₃) E s₂:=by
  rw[hs o i]
  exact wpAny_operating (wpAny_mono h₂ (fun r s₃ h₃=>wpAny_bind (wpAny_letTemporaryGo (wpAny_pure h₃))) fun _ _ x=>x)
 first
  | exact wpAny_pure (wpAny_bind fin)
  | exact wpAny_bind (wpAny_pure (wpAny_bind fin))
  | exact wpAny_bind fin
theorem y5B{X:Cx}{pins:List (Addr×Obj)}{σ:St}{H:Hp}{s:Shared}{a:Addr}{y:V}{o:Option V}(I:Inv X pins σ H s)(g:x6U H a y o):s.TypeIs (.ref a) "dict":=by
 rcases g with⟨kvs,k,e,_,_⟩|⟨kvs,k,b,e,_,_,_⟩
 ·obtain⟨_,_,vs,_,dd⟩:=x9G I.hok e;exact dd.typeIs
 ·obtain⟨_,_,xs,_,dd⟩:=x9F I.hok e;exact dd.typeIs
noncomputable def w4B(td ty:TE):TE:=fun σ H Q=>td σ H fun x H1=>ty σ H1 fun y H2=>∃a v,x = .ref a/\x6U H2 a y (some v)/\Q v H2
noncomputable def w4P(td ty tv:TE):TS:=fun D σ H=>tv σ H fun v H1=>td σ H1 fun x H2=>ty σ H2 fun y H3=>∃a H4,x = .ref a/\x9W H3 a y v H4/\D.nx σ H4
section
variable{X:Cx}{o i e value:Expr}{pos pos' tpos:Pos}{td ty tv:TE}
theorem x8G(hu:X.A.units+1<cLine)(ho:PE X o td)(hi:PE X i ty)(hs:w43 i):PE X (.Subscript o i pos) (w4B td ty):=by
 intro pins s σ H Q I h
 refine x7D PySem.F.slot_dict_getitem.lookup hs (thn (ho pins s σ H _ I h) fun u s1 ⟨x,H1,I1,rx,q1⟩=>thn (hi pins s1 σ H1 _ I1 q1) fun iv s2 ⟨y,H2,I2,ry,a,v,ex,g,q2⟩=>?_)
 subst ex
 obtain rfl:u=Value.ref a:=rx
 exact⟨y5B I2 g,x20 hu I2 g ry fun w' s3 I3 rw'=>⟨v,H2,I3,rw',q2⟩⟩
theorem x87(hu:X.A.units+1<cLine)(ho:PE X o td)(hi:PE X i ty)(hv:PE X value tv)(hs:swapsWith value (some (.Subscript o i pos')) pos.line X.env=pure false) :
  PS X (.Assign [.Subscript o i pos'] value pos) (w4P td ty tv):=by
 intro pins s σ H D I h
 refine wpAny_Assign_Subscript (thn (hv pins s σ H _ I h) fun r s1 ⟨v,H1,I1,rv,q1⟩=>thn (ho pins s1 σ H1 _ I1 q1) fun u s2 ⟨x,H2,I2,rx,q2⟩=>thn (hi pins s2 σ H2 _ I2 q2) fun iv s3 ⟨y,H3,I3,ry,a,H4,ex,g,q3⟩=>?_) hs
 subst ex
 obtain rfl:u=Value.ref a:=rx
 exact x1Z hu I3 g ry rv fun s4 I4=>⟨σ,H4,I4,q3⟩
end
theorem x5A{P:Program}{w:World}{H:Hp}(h:Heap)(hb:sysModules<h.objs.size):z03 P w H (h.push { cls:=.type "dict",data:=.dict #[] }) h.objs.size (.dK []) :=
 ⟨Nat.zero_le _,beq_eq_false_iff_ne.mpr (Ne.symm (Nat.ne_of_lt hb)),[],.nil,Heap.DictOf.new h⟩
noncomputable def w0B:TE:=fun _ H Q=>∀p,H p=none->Q (.ref p) (upd H p (.dK []))
section
variable{X:Cx}{pos:Pos}
theorem x49:PE X (.Dict [] [] pos) w0B:=fun pins s σ H Q I h =>
 wpAny_Dict_empty ⟨.ref s.heap.objs.size,_,I.laid (a:=s.heap.objs.size) (o:=.dK []) (t':=s.toks) (fun _ _ q=>Heap.get?_push_of_some _ q) (Nat.le_refl _) (x5A s.heap I.big),rfl,h _ (I.hok.fresh (Nat.le_refl _))⟩
end
end L2
namespace L3
open PySem PySem.Spec PyProof.Rows L2 PySem.SeqAt
noncomputable def w5A:D->Option Key
 | .int i=>some (.inl i)
 | .str x=>some (.inr x)
 | _=>none
noncomputable def y52:List Key->List D->Key->Option D
 | k::ks,v::vs,j=>if k=j then some v else y52 ks vs j
 | _,_,_=>none
noncomputable def y7Y:List Key->List D->Key->D->List Key×List D
 | k::ks,v::vs,j,d=>if k=j then (k::ks,d::vs) else (k::(y7Y ks vs j d).1,v::(y7Y ks vs j d).2)
 | _,_,j,d=>([j],[d])
noncomputable def x9Y:List (Key×V)->Key->V->List (Key×V)
 | [],j,d=>[(j,d)]
 | p::r,j,d=>if p.1=j then (p.1,d)::r else p::x9Y r j d
theorem y2X(j:Key)(d:V):∀kvs:List (Key×V),(kvs.map (·.1)).Nodup->y4Q kvs j d=x9Y kvs j d
 | [],_=>rfl
 | p::r,hn=>by
  rw[List.map_cons,List.nodup_cons]at hn;have ih:=y2X j d r hn.2;unfold x9Y;by_cases e:p.1=j
  ·rw[if_pos e];unfold y4Q
   have ha:((p::r).any fun kv=>decide (kv.1=j))=true:=by rw[List.any_cons,decide_eq_true e,Bool.true_or]
   rw[if_pos ha,List.map_cons,if_pos e]
   congr 1
   have:∀kv∈r,(if kv.1=j then (kv.1,d) else kv)=kv:=fun kv hkv=>if_neg fun z=>hn.1 (by rw[e,←z];exact List.mem_map_of_mem hkv)
   exact (List.map_congr_left this).trans (List.map_id _)
  ·rw[if_neg e,←ih];unfold y4Q;rw[List.any_cons,decide_eq_false e,Bool.false_or]
   by_cases h:(r.any fun kv=>decide (kv.1=j))=true
   ·rw[if_pos h,if_pos h,List.map_cons,if_neg e]
   ·rw[if_neg h,if_neg h];rfl
section
variable{K:PySem.W.Frag}{H:Hp}
theorem y6X:∀{kvs:List (Key×V)} {vs:List D} {j:Key} {d:D},j5 K H vs (kvs.map (·.2))->y52 (kvs.map (·.1)) vs j=some d->∃v,y7L kvs j=some v/\Rep K H d v
 | [],vs,j,d,_,e=>by cases vs<;>cases e
 | p::r,vs,j,d,h,e=>by
  cases vs with
  | nil=>cases e
  | cons x xs =>
   obtain⟨v,ws,e1,h1,h2⟩:=u4.mp h;rw[List.map_cons]at e1;cases e1;rw[List.map_cons]at e;unfold y52 at e;by_cases z:p.1=j
   ·rw[if_pos z]at e;cases e
    exact⟨_,z87 z,h1⟩
   ·rw[if_neg z]at e;obtain⟨v,q1,q2⟩:=y6X h2 e
    exact⟨v,by rw[z88 z];exact q1,q2⟩
theorem x05:∀{kvs:List (Key×V)} {vs:List D} {j:Key} {d:D} {v:V},j5 K H vs (kvs.map (·.2))->Rep K H d v->(x9Y kvs j v).map (·.1)=(y7Y (kvs.map (·.1)) vs j d).1/\j5 K H (y7Y (kvs.map (·.1)) vs j d).2 ((x9Y kvs j v).map (·.2))
 | [],vs,j,d,v,h,hd=>by
  obtain rfl:vs=[]:=by cases vs with|nil=>rfl|cons _ _=>obtain⟨_,_,e,_⟩:=u4.mp h;cases e
  exact⟨rfl,j5.one hd⟩
 | p::r,vs,j,d,v,h,hd=>by
  cases vs with
  | nil=>cases J6.mp h
  | cons x xs =>
   obtain⟨y,ws,e1,h1,h2⟩:=u4.mp h;rw[List.map_cons]at e1;cases e1;rw[List.map_cons];unfold x9Y y7Y;by_cases z:p.1=j
   ·rw[if_pos z,if_pos z]
    exact⟨rfl,j5.cons hd h2⟩
   ·rw[if_neg z,if_neg z];obtain⟨q1,q2⟩:=x05 (j:=j) (d:=d) (v:=v) h2 hd
    exact⟨by rw[List.map_cons,q1],j5.cons h1 q2⟩
end
theorem y72{K:PySem.W.Frag}{H:Hp}{d:D}{k:Key}{v:V}(e:w5A d=some k)(h:Rep K H d v):v=kV k:=by
 cases d with
 | int i=>cases e;exact v4.mp h
 | str x=>cases e;exact Y5.mp h
 | _=>cases e
section
variable{X:Cx}{a b e o:Expr}{pos pos' p:Pos}{f fa fb:y0->Option D}
theorem pe_or{t1 t2:TE}(h1:PE X e t1)(h2:PE X e t2):PE X e (fun σ H Q=>t1 σ H Q∨t2 σ H Q):=fun pins s σ H Q I h=>by
 rcases h with h|h
 ·exact h1 pins s σ H Q I h
 ·exact h2 pins s σ H Q I h
noncomputable def z54{α:Type}(f g:y0->Option α):y0->Option α:=fun ρ=>match f ρ with|some d=>some d|none=>g ρ
theorem w1B(h1:SE X e fa)(h2:SE X e fb):SE X e (z54 fa fb):=u5 (pe_or h1 h2) fun σ H Q ⟨ρ,d,B,H0,V0,Z,e,r,q⟩=>by
 unfold z54 at e;split at e
 ·rename_i d' h;cases e;exact .inl ⟨ρ,_,B,H0,V0,Z,h,r,q⟩
 ·exact .inr ⟨ρ,_,B,H0,V0,Z,e,r,q⟩
theorem x7S:SFD X (.Dict [] [] pos) (fun _=>some ([],[])):=u5 x49 fun σ H Q ⟨ρ,ds,B,H0,V0,Z,e,r,q⟩ p hp=>by
 cases e;exact q p [] _ (j7 hp) hp v5 rfl j5.nil
noncomputable def y5E(fa fb:y0->Option D):y0->Option D:=fun ρ=>match fa ρ with
 | some (.dct ks vs)=>(match fb ρ with|some kd=>(match w5A kd with|some k=>y52 ks vs k|none=>none)|none=>none)
 | _=>none
theorem x80(hu:X.A.units+64<cLine)(ho:SE X o fa)(hi:SE X a fb)(hs:w43 a:=by exact fun _ _=>rfl):SE X (.Subscript o a pos) (y5E fa fb) :=
 u5 (x8G (by omega) ho hi hs) fun σ H Q ⟨ρ,d,B,H0,V0,Z,e,r,q⟩=>by
  unfold y5E at e;split at e
  ·rename_i ks vs ed;split at e
   ·rename_i kd ek;split at e
    ·rename_i k hk
     refine⟨ρ,_,B,H0,V0,Z,ed,r,fun x H1 s1 r1=>⟨ρ,kd,B,H0,V0,Z,ek,r.mono s1,fun y H2 s2 r2=>?_⟩⟩
     obtain⟨n,kvs,rfl,h1,h2,h3⟩:=z18.mp (r1.mono (v0 s2));subst h2;obtain⟨v,q1,q2⟩:=y6X h3 e
     obtain rfl:=y72 hk r2
     refine⟨n,v,rfl,?_,q v H2 (s1.trans s2) q2⟩
     rw[←q1];exact x6U.k (z0N h1).2
    ·cases e
   ·cases e
  ·cases e
noncomputable def x9K(i:Nat):y0->Option (List Key×List D):=fun ρ=>match ρ[i]? with|some (some (.od ks vs))=>some (ks,vs)|_=>none
theorem y0P{i:Nat}{ρ:y0}{d:List Key×List D}(e:x9K i ρ=some d):ρ[i]?=some (some (.od d.1 d.2)):=by
 unfold x9K at e;split at e
 ·rename_i h;cases e;exact h
 ·cases e
noncomputable def x9I(i:Nat)(fk fv:y0->Option D):y0->Option Out:=fun ρ=>match fv ρ with
 | some v=>(match x9K i ρ with
  | some d=>(match fk ρ with
   | some kd=>(match w5A kd with|some k=>if d.1.Nodup/\d.1.length<LIM then some (.nx (ρ.set i (some (.od (y7Y d.1 d.2 k v).1 (y7Y d.1 d.2 k v).2)))) else none|none=>none)
   | none=>none)
  | none=>none)
 | none=>none
theorem w0M{i:Nat}{x:Str}(hu:X.A.units+64<cLine)(hi:SE X a fb)(hv':SE X b fa)(hN:X.N[i]?=some x:=by rfl)(hv:Vis X.env.scope x:=by first|exact Or.inl rfl|exact Or.inr (Or.inl rfl)|exact Or.inr (Or.inr rfl))(hd:(x==("__debug__":Str))=false:=by decide)(hcd:(x==("__classdict__":Str))=false:=by decide)(hs:swapsWith b (some (.Subscript (.Name x p) a pos')) pos.line X.env=pure false:=by rfl):SS X (.Assign [.Subscript (.Name x p) a pos'] b pos) (x9I i fb fa) :=
 z1H (x87 (by omega) (z64 hN hv hd hcd) hi hv' hs) fun E σ H ⟨ρ,o,B,H0,V0,Z,e,r,q⟩=>by
  unfold x9I at e;split at e
  ·rename_i v ev;split at e
   ·rename_i dd ed;split at e
    ·rename_i kd ek;split at e
     ·rename_i k hk;split at e
      ·rename_i hz;cases e;obtain⟨n,kvs,h1,h2,hb,h3,h4,h5,h6⟩:=r.od i dd.1 dd.2 (y0P ed)
       refine⟨ρ,v,B,H0,V0,Z,ev,r,fun y H1 s1 r1=>⟨.ref n,h1,ρ,kd,B,H0,V0,Z,ek,r.mono s1,fun z H2 s2 r2=>?_⟩⟩
       obtain rfl:=y72 hk r2
       have hlen:kvs.length<sizeLine:=by
        have:kvs.length=dd.1.length:=by rw[←h5,List.length_map]
        rw[this];exact y6Y (Nat.le_of_lt hz.2)
       refine⟨n,_,rfl,x9W.k (s2 _ _ (s1 _ _ h4)) hlen,?_⟩
       rw[y2X k y kvs (by rw[h5];exact hz.1)]
       have R2:=(r.mono s1).mono s2;obtain⟨p1,p2⟩:=x05 (j:=k) (h6.mono (v0 (s1.trans s2))) (r1.mono (v0 s2));rw[h5]at p1 p2;exact q σ _ Z (R2.updC (c:=.d dd.1 dd.2) (e:=.d (y7Y dd.1 dd.2 k v).1 (y7Y dd.1 dd.2 k v).2) (y0P ed) h1 ⟨_,rfl,p1,p2⟩)
      ·cases e
     ·cases e
    ·cases e
   ·cases e
  ·cases e
end
section
variable{prog:Program}{w:World}{A:Around}{E:Value->Shared->Prop}{s:Shared}{R:Result->Shared->Prop}
noncomputable def Kp(it S:Addr)(h h':Heap):Prop:=∀b o,b≠it->b≠S->h.get? b=some o->h'.get? b=some o
theorem Kp.trans{it S:Addr}{h h1 h2:Heap}(a:Kp it S h h1)(b:Kp it S h1 h2):Kp it S h h2:=fun c o n1 n2 e=>b c o n1 n2 (a c o n1 n2 e)
end
section
open HT
open PySem.SeqAt
open PySem.AutoSeq1 (wpAny_loadPart')
open PySem.MeetsSeq PySem.MeetsSeq2 PySem.MeetsSeq3
end
section
variable{X:Cx}{a b:Expr}{fa fb:y0->Option D}{p pos:Pos}
noncomputable def w24(K:PySem.W.Frag)(nm:Bool):List V->Hp->VK->Prop:=fun xs H Q=>∃a n ns,xs=[.ref a]/\SqL K H a ((n::ns).map V.int)/\∀m,m∈(n::ns)->(∀x∈(n::ns),if nm=true then x≤m else m≤x)->Q (.int m) H
theorem x2B(hc:X.calm=true):z3E X (.builtin "max") (w24 X.K true):=by
 intro pins s σ H xs us Q I r h;obtain⟨a,n,ns,rfl,ha,q⟩:=h;obtain⟨u,rfl,ru⟩:=z5G r;cases ru;obtain⟨its,r1,p1,_⟩:=I.list ha;have i1:IntsAre its (n::ns):=z0U r1;obtain⟨zs,e⟩:=i1.allInts.items
 have hns:(n::ns)=zs.toList.map (·.1):=by rw[←i1.numsOf,←nums_intItems,←e]
 have hsz:0<zs.size:=by
  have:=congrArg List.length hns
  rw[List.length_map,Array.length_toList]at this;simp at this;omega
 have hl:=p1.isList;rw[e]at hl
 refine max_intList (I.ok.hd hc) hl hsz fun v h' tk hv hk=>?_
 obtain⟨t,rfl⟩:=intItems_at hv;obtain⟨h1,h2⟩:=argBest_gt (numAt zs) (zs.size-1)
 refine⟨.int _,H,I.kept hk,⟨t,rfl⟩,q _ ?_ fun x hx=>?_⟩
 ·rw[hns,numAt_eq];exact getD_mem (by rw[List.length_map,Array.length_toList];omega)
 ·rw[hns]at hx;obtain⟨j,hj,rfl⟩:=mem_getD hx;rw[List.length_map,Array.length_toList]at hj
  rw[if_pos rfl,←numAt_eq];exact h2 j (by omega)
theorem x29(hc:X.calm=true):z3E X (.builtin "min") (w24 X.K false):=by
 intro pins s σ H xs us Q I r h;obtain⟨a,n,ns,rfl,ha,q⟩:=h;obtain⟨u,rfl,ru⟩:=z5G r;cases ru;obtain⟨its,r1,p1,_⟩:=I.list ha;have i1:IntsAre its (n::ns):=z0U r1;obtain⟨zs,e⟩:=i1.allInts.items
 have hns:(n::ns)=zs.toList.map (·.1):=by rw[←i1.numsOf,←nums_intItems,←e]
 have hsz:0<zs.size:=by
  have:=congrArg List.length hns
  rw[List.length_map,Array.length_toList]at this;simp at this;omega
 have hl:=p1.isList;rw[e]at hl
 refine min_intList (I.ok.hd hc) hl hsz fun v h' tk hv hk=>?_
 obtain⟨t,rfl⟩:=intItems_at hv;obtain⟨h1,h2⟩:=argBest_lt (numAt zs) (zs.size-1)
 refine⟨.int _,H,I.kept hk,⟨t,rfl⟩,q _ ?_ fun x hx=>?_⟩
 ·rw[hns,numAt_eq];exact getD_mem (by rw[List.length_map,Array.length_toList];omega)
 ·rw[hns]at hx;obtain⟨j,hj,rfl⟩:=mem_getD hx;rw[List.length_map,Array.length_toList]at hj
  rw[if_neg Bool.false_ne_true,←numAt_eq];exact h2 j (by omega)
end
theorem y12(l:Addr)(items:Array Value)(n:Nat)(dd:Option Addr)(sl:Array (Option Value))(x:Value)(e:Value->Bool)(j:Nat)(hj:j<items.size)(hit:e items[j]=true)(hno:∀m (hm:m<items.size),m<j->e items[m]=false) :
  Meets (Builtin.«tuple.index» ⟨[.ref l,x],[]⟩)
   (fun A R s=>s.heap.get? l=some { cls:=.type "tuple",dict:=dd,data:=.seq items n,slots:=sl }/\(∀y,y∈items->EqAt A.in1 s y x (e y))/\R (.ok (.ret (.int j s.toks))) { s with toks:=s.toks+1 }) :=
 .of_wp fun prog w A R s h=>by
  obtain⟨hp,g,d,tk,os⟩:=s;obtain⟨hl,he,h⟩:=h
  wp_walk using AutoSeq1.wpAny_loadPart' hl
  change wpAny _ _ (forIn [:min items.size items.size] (none,()) (fun (i:Nat) __s=>match items[i]? with
    | some y=>do
     let __do_lift ←eqBool y x
     if __do_lift=true then do
       let __do_lift ←retInt (i:Int)
       pure (ForInStep.done (some __do_lift,()))
      else pure (ForInStep.yield (none,()))
    | x=>pure (ForInStep.yield (none,())))) _ _ _
  rw[Std.Legacy.Range.forIn_eq_forIn_range']
  refine wpAny_forIn_list _ (fun rest b s'=>s'=⟨hp,g,d,tk,os⟩/\∃i,i≤j/\rest=List.range' i (items.size-i)) _ ?turn ?fin _ _ ⟨rfl,0,Nat.zero_le _,by simp[Std.Legacy.Range.size]⟩
  case turn =>
   rintro i0 rest b s' ⟨rfl,i,hij,hr⟩
   have hlt:i<items.size:=by omega
   have e0:items.size-i=(items.size-(i+1))+1:=by omega
   rw[e0,List.range'_succ]at hr;cases hr;rw[Array.getElem?_eq_getElem hlt];refine wpAny_bind (he _ (Array.getElem_mem hlt) prog w _ _ ?_);by_cases hj':i0=j
   ·subst hj'
    rw[hit]
    wp_walk
    exact⟨_,rfl,h⟩
   ·rw[hno i0 hlt (by omega)]
    wp_walk
    exact⟨rfl,i0+1,by omega,rfl⟩
  case fin =>
   rintro ⟨b1,b2⟩ s' ⟨rfl,i,hij,hr⟩
   have:=congrArg List.length hr
   simp at this;omega
noncomputable def x9Z(d:D)(ds:List D):Option Nat:=ds.findIdx? fun y=>beq y d
noncomputable def w4S(K:PySem.W.Frag):V->List V->Hp->VK->Prop:=fun x vs H Q=>∃a xs ds d y j,x = .ref a/\vs=[y]/\SqT K H a xs/\j5 K H ds xs/\Rep K H d y/\z0J ds≤z2P/\depth d≤z2P/\x9Z d ds=some j/\Q (.int (j:Nat)) H
section
variable{X:Cx}{a b:Expr}{fa fb:y0->Option D}{p pos apos:Pos}
theorem x0N(hu:X.A.units+64<cLine):MtR X "tuple.index" (w4S X.K):=by
 intro pins s σ H x vs v us Q I rx rv h;obtain⟨a,xs,ds,d,y,j,rfl,rfl,hq,hr,hd,h1,h2,hj,q⟩:=h;cases rx;obtain⟨u,rfl,ru⟩:=z5G rv;obtain⟨its,r1,p1,_⟩:=I.tuple hq;obtain⟨⟨cls,dd,data,sl⟩,ho,hc,n,hdt⟩:=id p1;simp only at hc hdt
 subst hc hdt
 have l1:=hr.length;have l2:=r1.length;unfold x9Z at hj;rw[List.findIdx?_eq_some_iff_getElem]at hj;obtain⟨hlt,hjt,hjn⟩:=hj
 have hlt':j<its.toArray.size:=by rw[List.size_toArray];omega
 have at_:∀m (hm:m<its.toArray.size),inE ds its d its.toArray[m]=beq (ds[m]'(by rw[List.size_toArray]at hm;omega)) d:=fun m hm=>by
  have hm':m<its.length:=by rw[List.size_toArray]at hm;exact hm
  have e1:its[m]?=some its.toArray[m]:=by rw[List.getElem?_eq_getElem hm'];simp
  exact y76 I hr r1 e1 (List.getElem?_eq_getElem (by omega))
 refine call_meets F.slot_tuple_index ⟨_,ho,rfl⟩ F.entry_tuple_index (F.args_tuple_index_2 _ _) (y12 a its.toArray n dd sl u (inE ds its d) j hlt' ?_ ?_) ⟨ho,?_,?_⟩
 ·rw[at_ j hlt'];exact hjt
 ·intro m hm hmj;rw[at_ m hm];exact Bool.eq_false_iff.mpr (hjn m hmj)
 ·exact z8U I hu hr r1 h1 h2 hd ru
 ·exact⟨.int _,H,I.tok _,⟨_,rfl⟩,q⟩
noncomputable def z22(fa fb:y0->Option D):y0->Option D:=fun ρ=>match fa ρ with
 | some (.tup ds)=>(match fb ρ with|some d=>if z0J ds≤z2P/\depth d≤z2P then (match x9Z d ds with|some j=>some (.int (j:Nat))|none=>none) else none|none=>none)
 | _=>none
theorem x3S(hu:X.A.units+64<cLine)(ha:SE X a fa)(hb:SE X b fb)(hbase:attributeBase a "index" X.env (eval a X.env)=eval a X.env:=by rfl)
  (hfew:((backTo pos (starEach [b] X.env)).all (fun x=>!x.1)&&(backToKw pos (keywordEach [] X.env)).all (fun x=>x.1.isSome)
   && decide (([b]:List Expr).length+([]:List Keyword).length+(if ([]:List Keyword).isEmpty then 0 else 1)<30))=true:=by rfl)
  (hline:(apos.endLine==pos.line)=true:=by rfl) (hs:starEach [b] X.env=(false,eval b X.env)::starEach [] X.env:=by exact y9 rfl) (hplain:(backTo pos (starEach [] X.env)).any (·.1)=false:=by exact v7 rfl) :
  SE X (.Call (.Attribute a "index" apos) [b] [] pos) (z22 fa fb) :=
 u5 (x4B PySem.F.plainAttrs_tuple PySem.F.slot_tuple_index PySem.F.type_tuple_index (x0N hu) ha (K8 hb z05 hs) hbase hfew hline hs hplain) fun σ H Q ⟨ρ,d,B,H0,V0,Z,e,r,q⟩=>by
  unfold z22 at e;split at e
  ·rename_i ds ea;split at e
   ·rename_i d' eb;split at e
    ·rename_i hz;split at e
     ·rename_i j hj;cases e
      refine⟨ρ,_,B,H0,V0,Z,ea,r,fun x H1 s1 r1=>?_⟩
      obtain⟨n,xs,rfl,h1,h2⟩:=u0.mp r1
      refine⟨.inr (.inl ⟨rfl,xs,j9 w9 h1⟩),ρ,d',B,H0,V0,Z,eb,r.mono s1,fun y H2 s2 r2=>?_⟩
      exact⟨n,xs,ds,d',y,j,rfl,rfl,j9 (w9.trans s2) h1,h2.mono (w9.trans s2),r2.mono w9,hz.1,hz.2,hj,q _ H2 (s1.trans s2) (v4.mpr rfl)⟩
     ·cases e
    ·cases e
   ·cases e
  ·cases e
noncomputable def z69:Int->List Int->Int
 | n,[]=>n
 | n,m::r=>z69 (min n m) r
noncomputable def y1E:Int->List Int->Int
 | n,[]=>n
 | n,m::r=>y1E (max n m) r
theorem y3A:∀(ns:List Int) (n:Int),z69 n ns∈n::ns/\∀x∈n::ns,z69 n ns≤x
 | [],n=>by simp[z69]
 | m::r,n=>by
  obtain⟨h1,h2⟩:=y3A r (min n m)
  show z69 (min n m) r∈_/\∀x∈_,z69 (min n m) r≤x
  have hm:=h2 (min n m) List.mem_cons_self;constructor
  ·rcases List.mem_cons.mp h1 with z|z
   ·rw[z]
    rcases Int.le_total n m with q|q
    ·rw[Int.min_eq_left q];exact List.mem_cons_self
    ·rw[Int.min_eq_right q];exact List.mem_cons_of_mem _ List.mem_cons_self
   ·exact List.mem_cons_of_mem _ (List.mem_cons_of_mem _ z)
  ·intro x hx
   rcases List.mem_cons.mp hx with z|z
   ·omega
   ·rcases List.mem_cons.mp z with z|z
    ·omega
    ·exact h2 x (List.mem_cons_of_mem _ z)
theorem y6U:∀(ns:List Int) (n:Int),y1E n ns∈n::ns/\∀x∈n::ns,x≤y1E n ns
 | [],n=>by simp[y1E]
 | m::r,n=>by
  obtain⟨h1,h2⟩:=y6U r (max n m)
  show y1E (max n m) r∈_/\∀x∈_,x≤y1E (max n m) r
  have hm:=h2 (max n m) List.mem_cons_self;constructor
  ·rcases List.mem_cons.mp h1 with z|z
   ·rw[z]
    rcases Int.le_total n m with q|q
    ·rw[Int.max_eq_right q];exact List.mem_cons_of_mem _ List.mem_cons_self
    ·rw[Int.max_eq_left q];exact List.mem_cons_self
   ·exact List.mem_cons_of_mem _ (List.mem_cons_of_mem _ z)
  ·intro x hx
   rcases List.mem_cons.mp hx with z|z
   ·omega
   ·rcases List.mem_cons.mp z with z|z
    ·omega
    ·exact h2 x (List.mem_cons_of_mem _ z)
noncomputable def z81(f:y0->Option (List D)):y0->Option D:=fun ρ=>match f ρ with|some ds=>(match Z4 ds with|some (n::ns)=>some (.int (z69 n ns))|_=>none)|none=>none
noncomputable def y03(f:y0->Option (List D)):y0->Option D:=fun ρ=>match f ρ with|some ds=>(match Z4 ds with|some (n::ns)=>some (.int (y1E n ns))|_=>none)|none=>none
theorem x7V{f:y0->Option (List D)}(hc:X.calm=true)(hm:X.mg "min" = none)(h:SQL X a f)(hg:Gl X "min":=by rfl)(hv:bootBuiltins "min" = some (.builtin "min"):=by decide +kernel)(he:starEach [a] X.env=(false,eval a X.env)::starEach [] X.env:=by exact y9 rfl)(hpl:(backTo pos (starEach [] X.env)).any (·.1)=false:=by exact v7 rfl):SE X (.Call (.Name "min" p) [a] [] pos) (z81 f) :=
 u5 (z1N (x29 hc) hg hm hv (K8 h z05 he) (by decide) (by decide) he hpl) fun σ H Q ⟨ρ,d,B,H0,V0,Z,e,r,q⟩=>by
  unfold z81 at e;split at e
  ·rename_i ds eds;split at e
   ·rename_i n ns hn;cases e
    refine⟨ρ,ds,B,H0,V0,Z,eds,r,fun l xs H' s hq rr=>⟨l,n,ns,rfl,?_,fun m hm hb=>?_⟩⟩
    ·rw[Z1 hn,Z9]at rr;rw[←rr];exact hq
    ·obtain⟨h1,h2⟩:=y3A ns n;have e1:=hb _ h1;have e2:=h2 _ hm;rw[if_neg Bool.false_ne_true]at e1
     have:m=z69 n ns:=by omega
     rw[this];exact q _ H' s (v4.mpr rfl)
   ·cases e
  ·cases e
theorem x7X{f:y0->Option (List D)}(hc:X.calm=true)(hm:X.mg "max" = none)(h:SQL X a f)(hg:Gl X "max":=by rfl)(hv:bootBuiltins "max" = some (.builtin "max"):=by decide +kernel)(he:starEach [a] X.env=(false,eval a X.env)::starEach [] X.env:=by exact y9 rfl)(hpl:(backTo pos (starEach [] X.env)).any (·.1)=false:=by exact v7 rfl):SE X (.Call (.Name "max" p) [a] [] pos) (y03 f) :=
 u5 (z1N (x2B hc) hg hm hv (K8 h z05 he) (by decide) (by decide) he hpl) fun σ H Q ⟨ρ,d,B,H0,V0,Z,e,r,q⟩=>by
  unfold y03 at e;split at e
  ·rename_i ds eds;split at e
   ·rename_i n ns hn;cases e
    refine⟨ρ,ds,B,H0,V0,Z,eds,r,fun l xs H' s hq rr=>⟨l,n,ns,rfl,?_,fun m hm hb=>?_⟩⟩
    ·rw[Z1 hn,Z9]at rr;rw[←rr];exact hq
    ·obtain⟨h1,h2⟩:=y6U ns n;have e1:=hb _ h1;have e2:=h2 _ hm;rw[if_pos rfl]at e1
     have:m=y1E n ns:=by omega
     rw[this];exact q _ H' s (v4.mpr rfl)
   ·cases e
  ·cases e
noncomputable def z79(f:y0->Option (List D)):y0->Option Bool:=fun ρ=>match f ρ with|some ds=>some (!ds.isEmpty)|none=>none
theorem x7F{f:y0->Option (List D)}(h:SQL X a f)(he:∀whole,isTrue a X.env whole=(do let v ←whole;standAt a.pos;holding [v] (truthy v)):=by intro _;rfl):STt X a (z79 f) :=
 z5L (x3Z h he) fun σ H Q ⟨ρ,d,B,H0,V0,Z,e,r,q⟩=>by
  unfold z79 at e;split at e
  ·rename_i ds eds;cases e
   refine⟨ρ,ds,B,H0,V0,Z,eds,r,fun l xs H' s hq rr=>?_⟩
   refine⟨!xs.isEmpty,.inl ⟨xs,hq,rfl⟩,?_⟩
   have hl:=rr.length
   have:ds.isEmpty=xs.isEmpty:=by
    cases ds<;>cases xs<;>first|rfl|cases hl
   rw[←this];exact q H' s
  ·cases e
end
end L3
namespace L3
open PySem PySem.Spec PyProof.Rows L2 PySem.SeqAt PySem.W
end L3
namespace L3
open PySem PySem.Spec PyProof.Rows L2 PySem.SeqAt
end L3
namespace L3
open PySem PySem.Spec PyProof.Rows L2
section
variable{X:Cx}
theorem x88{i:Nat}{y:Str}{py spos:Pos}{elt target iter:Expr}{ifs:List Expr}{scope:Scope}{pos:Pos}{N:List Str}{cap:List (Option Nat)}{wi:TI}{g:TG}{tt:TT}{te:TE}(hc:X.calm=true)(hi:PI X target iter wi)(hg:∀cl C fp s H,PG (J4 X N scope cl C fp s H) target g)(ht:∀cl C fp s H,x2S (J4 X N scope cl C fp s H) ifs tt)(he:∀cl C fp s H,PE (J4 X N scope cl C fp s H) elt te)(hk:scope.kind = .function)(hcell:∀y∈scope.names,y.2 = .cell->scope.names.lookup y.1=some .cell)(hnames:∀x∈scope.names,x.2 = .local->scope.names.lookup x.1=some .local)(hfr:∀x∈scope.names,x.2 = .free->scope.names.lookup x.1=some .free)(hout:∀x∈scope.names,x.2 = .free->X.env.scope.names.lookup x.1=some .cell∨X.env.scope.names.lookup x.1=some .free)(hcap:∀(i j:Nat),cap[i]?=some (some j)->∃x,N[i]?=some x/\X.N[j]?=some x/\scope.names.lookup x=some .free)(hlen:cap.length=N.length)(hN:X.N.Nodup)(hiy:X.N[i]?=some y)(hy:Loc X.env.scope y)(hf:X.fn y=true∨X.env.scope.names.lookup y=some .local)(hsw:swapsWith (.ListComp elt [⟨target,iter,ifs,0⟩] scope pos) (some (.Name y py)) spos.line X.env=pure true)(hs:∀x,foldedSetIterable iter X.env x=pure x:=by intro _;rfl) :
  PS X (.Assign [.Name y py] (.ListComp elt [⟨target,iter,ifs,0⟩] scope pos) spos) (w5S (x7B cap wi g tt te) (x99 i)):=by
 intro pins s σ H D I h
 obtain⟨cl,hclos,hcl,hcf⟩:=x25 (env:=X.env) (scope:=scope) fun x hx hf=>I.ok.has x.1 (hout x hx hf)
 rw[exec_Assign_Name_used _ _ _ _ hsw];refine wpAny_bind (wpAny_standAt (wpAny_bind ?_))
 show wpAny _ X.A (do let _ ←comprehension (.ListComp elt [⟨target,iter,ifs,0⟩] scope pos) scope X.env _ (newList []) false (eval iter X.env) (some (assign (.Name y py) X.env))) _ _ s
 refine wpAny_bind (wpAny_mono (wpAny_comprehension_free (use:=some (assign (.Name y py) X.env)) (Q:=fun _ s'=>SP X pins D .next s') rfl hs hclos hk hnames ?_) (fun _ s' hq=>wpAny_pure (wpAny_pure hq)) fun _ _ e=>e)
 show wpAny _ _ (eval iter X.env) _ _ s
 refine thn (hi pins s σ H _ I h) fun v s1 h1=>thn h1 fun itv s2 h2=>?_
 obtain⟨it,fp,tn,J,H2,rfl,I2,T,st2,f2,hW⟩:=h2;obtain⟨W,⟨m0,w0⟩,turn⟩:=hW s2.heap.objs.size I2.fresh
 refine wpAny_newObj_type (z5Y (X:=X) (E:=X.xe) hcl hcf (fun x c e=>by
  obtain⟨v,o,ho,_⟩:=I2.cell x c e
  show c<(Heap.push _ _).objs.size
  rw[Heap.size_push]
  exact Nat.lt_succ_of_lt (Heap.lt_size ho)) (fun cs h4 m4 hns keep0 hcs=>?_))
 dsimp only at hns keep0 ⊢
 have I3:Inv X pins σ (upd H2 s2.heap.objs.size (.lst [])) { s2 with heap:=s2.heap.push { cls:=.type "list",dict:=none,data:=.seq ([]:List Value).toArray } }:=I2.lnew (its:=[]) (t':=s2.toks) .nil (Nat.zero_le _)
 generalize hs3:({ s2 with heap:=s2.heap.push { cls:=.type "list",dict:=none,data:=.seq ([]:List Value).toArray } }:Shared)=s3 at I3
 have hh3:s2.heap.push { cls:=.type "list",dict:=none,data:=.seq ([]:List Value).toArray }=s3.heap:=by rw[←hs3]
 have hsz3:s3.heap.objs.size=s2.heap.objs.size+1:=by rw[←hh3,Heap.size_push]
 rw[hh3]at hns keep0;have keep4:∀b o,s3.heap.get? b=some o->h4.get? b=some o:=keep0
 have hcs':CellsC X scope s3 h4 cs:=⟨fun x c e=>by rw[←hh3];exact hcs.old x c e,hcs.has,fun x y c e1 e2 hc=>hcs.inj x y c e1 e2 (by rw[←hh3]at hc;exact hc)⟩
 have fpn:∀b∈fp,(upd H2 s2.heap.objs.size (.lst [])) b=none/\y8T X pins (upd H2 s2.heap.objs.size (.lst [])) b:=fun b hb=>by
  obtain⟨o,e,_⟩:=T.obj 0 _ st2 b hb;have ne:b≠s2.heap.objs.size:=Nat.ne_of_lt (Heap.lt_size e)
  have z:(upd H2 s2.heap.objs.size (.lst [])) b=none:=by rw[j8 ne];exact (f2 b hb).1
  exact⟨z,z,(f2 b hb).2⟩
 have hfo:∀b∈fp,∃o,s3.heap.get? b=some o:=fun b hb=>by
  obtain⟨o,e,_⟩:=T.obj 0 _ st2 b hb
  exact⟨o,by rw[←hh3];exact Heap.get?_push_of_some _ e⟩
 have I4:∀tk,Inv (J4 X N scope cs s3.heap.objs.size fp s3 (upd H2 s2.heap.objs.size (.lst []))) [] (z9Q cap σ) (upd H2 s2.heap.objs.size (.lst [])) { s3 with heap:=h4,toks:=tk }:=fun tk =>
  y75 I3 hk hcell hcs' hfr (fun i j e=>by
   obtain⟨x,n1,n2,n3⟩:=hcap i j e
   exact⟨x,n1,n2,n3,hout _ (PySem.mem_of_lookup n3) rfl⟩) hlen (fun b hb=>(fpn b hb).2) hfo hns keep4
 have st4:tn 0 h4:=T.keep _ _ _ st2 fun b _ o e=>keep4 b o (by rw[←hh3];exact Heap.get?_push_of_some _ e)
 have stat:∀{H':Hp},(∀b∈fp,H' b=none)->∀b∈fp,y8T (J4 X N scope cs s3.heap.objs.size fp s3 (upd H2 s2.heap.objs.size (.lst []))) [] H' b:=fun {H'} hn b hb=>by
  obtain⟨o,e⟩:=hfo b hb;obtain⟨_,f1,f3,_,f5,_⟩:=f2 b hb
  refine⟨hn b hb,Nat.ne_of_lt (Heap.lt_size e),fun z=>?_,.inl hb,fun x c e=>(hcs'.old x c e).elim (fun z=>f5 x c z.1) (fun z q=>absurd (Heap.lt_size (q▸‹s3.heap.get? b=some o›)) (Nat.not_lt.mpr (Nat.le_of_lt z.1))),fun p hp=>absurd (show p∈([]:List (Addr×Obj)) from hp) (by simp)⟩
  rcases List.mem_cons.mp (I3.stkSub b z) with e'|e'
  ·exact f1 e'
  ·exact f3 e'
 have loop:∀s4:Shared,s4={ s3 with heap:=h4,toks:=s2.toks+([]:List (Str×Value)).length } ->
   codeAny (model X.prog X.w) X.A (.compLoop (.ListComp elt [⟨target,iter,ifs,0⟩] scope pos) 0 (.ref it) (.ref s2.heap.objs.size) (compEnvC scope cs s3.heap.objs.size X.env))
    (compPost (model X.prog X.w) X.A X.xe (some (assign (.Name y py) X.env)) (fun _ s'=>SP X pins D .next s') (.ref s2.heap.objs.size) s3.heap.objs.size) s4:=by
  rintro s4 rfl
  refine z7T (fun n s'=>∃i σ' H' acc,Inv (J4 X N scope cs s3.heap.objs.size fp s3 (upd H2 s2.heap.objs.size (.lst []))) [] σ' H' s'/\tn i s'.heap/\(∀b∈fp,H' b=none)/\W i n σ' H' acc) ?_ m0 ⟨0,_,_,[],I4 _,st4,fun b hb=>(fpn b hb).1,w0⟩
  rintro n s5 ⟨i,σ5,H5,acc,I5,st5,fr5,w5⟩
  rcases turn i n σ5 H5 acc w5 with⟨stop,q⟩|⟨go,hz,step⟩
  ·refine thn (T.done (J4 X N scope cs s3.heap.objs.size fp s3 (upd H2 s2.heap.objs.size (.lst []))) rfl rfl rfl hc i [] s5 σ5 H5 _ I5 (stat fr5) st5 stop) fun r s6 ⟨hr,I6⟩=>?_
   subst hr;obtain⟨m6,hn6,_⟩:=I6.loc
   have IX:Inv X pins σ H5 s6:=by
    refine I3.call' (s':=s6) (ch:=fp) I6.os ?_ (fun b u e=>I6.hok b u e) I6.bare (fun b hb=>?_)
    ·have u6:Un (frs X.stack) fp (upd H2 s2.heap.objs.size (.lst [])) H5 s3.heap s6.heap:=I6.base;exact u6
    ·obtain⟨_,f1,_,f3,f5,f6⟩:=f2 b hb
     exact⟨f3,f1,f5,f6⟩
   have ltL:X.env.locals<s3.heap.objs.size:=by
    obtain⟨m3,hn3,_⟩:=I3.loc;obtain⟨o,_,_,ho,_⟩:=hn3;exact Heap.lt_size ho
   have ltC:∀x c,X.env.cells.lookup x=some c->c<s3.heap.objs.size:=fun x c e=>by
    obtain⟨v,o,ho,_⟩:=I3.cell x c e;exact Heap.lt_size ho
   show wpAny _ X.A (assign (.Name y py) X.env (.ref s2.heap.objs.size)) _ _ s6
   refine wpAny_assign_Name (y2N IX hN hiy hy (v:=.ref s2.heap.objs.size) rfl (fun s7 I7 hsb7=>?_) hf)
   obtain⟨a7,sb7,ha7⟩:=hsb7
   have neA:s3.heap.objs.size≠a7:=by
    rcases ha7 with rfl|ha7
    ·exact Ne.symm (Nat.ne_of_lt ltL)
    ·exact Ne.symm (Nat.ne_of_lt (ltC _ _ ha7))
   refine⟨m6,hn6.sameBut sb7 neA,fun h' sb=>?_⟩
   have neC:∀b u,H5 b=some u->b≠s3.heap.objs.size:=fun b u e z=>by
    subst z
    have:=I6.free
    rw[show H5 s3.heap.objs.size=none from this]at e
    cases e
   refine⟨_,H5,?_,q⟩
   refine I7.call' (s':={ s7 with heap:=h' }) (ch:=[s3.heap.objs.size]) rfl ?_ (fun b u e=>?_) I7.bare (fun b hb=>?_)
   ·have ex:∀b,b∉[s3.heap.objs.size]->∀o,s7.heap.get? b=some o->h'.get? b=some o:=fun b hb o e=>(sb.2 b fun z=>hb (by rw[z];exact List.mem_singleton.mpr rfl)).trans e
    exact⟨fun b o e n hb hx=>ex b hx o e,fun b o e n hb hx=>⟨o.slots,ex b hx o e⟩,fun b o e n hx=>n,fun b o e hx=>⟨o,ex b hx o e⟩,fun _ _ e=>e,fun _ _ _ e=>e,fun b ps e=>⟨#[],by simpa using e⟩⟩
   ·refine (I7.hok b u e).stay (fun c v hc' q'=>(sb.2 c ?_).trans q') (fun _ q'=>q') (fun _ _ q'=>q') fun _ _ _ q'=>q'
    rcases hc' with rfl|hc'
    ·exact neC _ _ e
    ·exact neC _ _ hc'
   ·obtain rfl:=List.mem_singleton.mp hb
    refine⟨.inr ?_,Ne.symm (Nat.ne_of_lt ltL),fun x c e=>Nat.ne_of_lt (ltC x c e),fun p hp=>?_⟩
    ·exact I3.sz
    ·exact Nat.ne_of_lt (Heap.lt_size (I3.pin p hp).1)
  ·refine thn (T.item (J4 X N scope cs s3.heap.objs.size fp s3 (upd H2 s2.heap.objs.size (.lst []))) rfl rfl rfl hc i [] s5 σ5 H5 _ I5 (stat fr5) st5 go) fun r s6 ⟨u,hr,h6⟩=>?_
   subst hr
   refine thn h6 fun _ s7 ⟨x,H7,I7,r7,y7,st7,fr7⟩=>?_
   have I7':=I7.pinned (stat fr7) (T.obj _ _ st7)
   refine thn (hg _ _ _ _ _ _ s7 σ5 H7 x u _ I7' r7 (step x H7 y7)) fun _ s8 ⟨σ8,H8,I8,q8⟩=>?_
   refine thn (ht _ _ _ _ _ _ s8 σ8 H8 _ I8 q8) fun ok s9 ⟨H9,I9,q9⟩=>?_
   have again:∀{s':Shared} {σ':St} {H':Hp} {acc':List V} {m':Nat},Inv (J4 X N scope cs s3.heap.objs.size fp s3 (upd H2 s2.heap.objs.size (.lst []))) ([]++y0G fp s7.heap) σ' H' s'->m'<n->W (i+1) m' σ' H' acc' ->
     ∃m,m<n/\∃i σ'' H'' acc,Inv (J4 X N scope cs s3.heap.objs.size fp s3 (upd H2 s2.heap.objs.size (.lst []))) [] σ'' H'' s'/\tn i s'.heap/\(∀b∈fp,H'' b=none)/\W i m σ'' H'' acc:=fun {s' σ' H' acc' m'} I' hm w'=>by
    refine⟨m',hm,i+1,σ',H',acc',I'.unpinned,T.keep _ _ _ st7 fun b hb o e=>(I'.pin (b,o) (List.mem_append_right _ (List.mem_append_right _ (z2G hb e)))).1,fun b hb=>?_,w'⟩
    obtain⟨o,e,d⟩:=T.obj _ _ st7 b hb;exact (I'.pin (b,o) (List.mem_append_right _ (List.mem_append_right _ (z2G hb e)))).2.1
   cases ok with
   | false =>
    rw[if_neg Bool.false_ne_true]at q9;obtain⟨m',hm,w'⟩:=q9;exact again I9 hm w'
   | true =>
    rw[if_pos rfl]at q9
    show wpAny _ _ (eval elt _) _ _ s9
    refine thn (he _ _ _ _ _ _ s9 σ8 H9 _ I9 q9) fun xv s10 ⟨y,H10,I10,r10,hl10,m',hm,w'⟩=>?_
    refine thn (z8T _ s10 σ8 H10 (.ref s2.heap.objs.size) [y] (.ref s2.heap.objs.size) [xv] (fun (_:V) (H':Hp)=>H'=upd H10 s2.heap.objs.size (.lst (acc++[y]))) I10 rfl (.cons r10 .nil) ⟨_,acc,y,rfl,rfl,hl10,hz,rfl⟩) fun _ s11 ⟨_,H11,I11,_,e11⟩=>?_
    have e11':H11=upd H10 s2.heap.objs.size (.lst (acc++[y])):=e11
    subst e11'
    exact again I11 hm w'
 have hx:∀s4:Shared,s4={ s3 with heap:=h4,toks:=s2.toks+([]:List (Str×Value)).length }->tn 0 s4.heap:=by
  rintro s4 rfl
  exact st4
 subst hs3;exact codeAny_compStart_list (loop _ rfl) (T.self X.A 0 _ _ _ (hx _ rfl) (loop _ rfl))
theorem x3G{i:Nat}{y:Str}{py spos pos:Pos}{elt target iter:Expr}{ifs:List Expr}{scope:Scope}{fi:y0->Option (List D)}{h:D->y0->Option y0}{ft:y0->Option Bool}{fe:y0->Option D}{go:y0->Option Out}(N:List Str)(cap:List (Option Nat))(hc:X.calm=true)(hi:SIc X target iter fi)(hg:∀cl C fp s H,SG (J4 X N scope cl C fp s H) target h)(ht:∀cl C fp s H,x2S (J4 X N scope cl C fp s H) ifs (tT X.K ft))(he:∀cl C fp s H,SE (J4 X N scope cl C fp s H) elt fe)(hN:X.N.Nodup)(hiy:X.N[i]?=some y)(hy:Loc X.env.scope y)(hf:X.fn y=true∨X.env.scope.names.lookup y=some .local)(hsw:swapsWith (.ListComp elt [⟨target,iter,ifs,0⟩] scope pos) (some (.Name y py)) spos.line X.env=pure true)(hok:z4E scope X.env.scope N cap X.N=true)(hs:∀x,foldedSetIterable iter X.env x=pure x)(himp:∀E σ H,tS X.K go E σ H->tF X.K (Q0 cap fi h ft fe) σ H (fun v H1=>E.nx (σ.set i (some v)) H1)) :
  SS X (.Assign [.Name y py] (.ListComp elt [⟨target,iter,ifs,0⟩] scope pos) spos) go:=by
 unfold z4E at hok;simp only[Bool.and_eq_true]at hok;obtain⟨⟨⟨⟨⟨⟨h1,h2⟩,h3⟩,h4⟩,h5⟩,h6⟩,h7⟩:=hok;rw[List.all_eq_true]at h2 h3 h4 h5 h7
 refine z1H (x88 (N:=N) (cap:=cap) (wi:=tIc X.K fi) (g:=tG X.K h) (tt:=tT X.K ft) (te:=tD X.K fe) hc hi hg ht he (by simpa using h1) (fun y hy e=>by have z:=h2 y hy;rw[e]at z;simpa using z) (fun y hy e=>?_) (fun y hy e=>?_) (fun y hy e=>?_) (fun i j e=>?_) (by simpa using h6) hN hiy hy hf hsw hs)
  fun E σ H z=>y7C (X:=X) (fun i j k e1 e2=>?_) σ H _ (himp E σ H z)
 ·have z:=h3 y hy;rw[e]at z;simpa using z
 ·have z:=h4 y hy;rw[e]at z;simp only[beq_self_eq_true,if_true,Bool.and_eq_true]at z;simpa using z.1
 ·have z:=h4 y hy;rw[e]at z;simp only[beq_self_eq_true,if_true,Bool.and_eq_true,Bool.or_eq_true]at z;simpa using z.2
 ·have hi':i<cap.length:=(List.getElem?_eq_some_iff.mp e).1;have z:=h5 i (List.mem_range.mpr hi');rw[e]at z;dsimp only at z;split at z
  ·rename_i x hx;split at z
   ·rename_i y hy;simp only[Bool.and_eq_true,beq_iff_eq]at z;obtain⟨z1,z2⟩:=z;subst z1
    exact⟨x,hx,hy,z2⟩
   ·cases z
  ·cases z
 ·have hi':i<cap.length:=(List.getElem?_eq_some_iff.mp e1).1;have hj':j<cap.length:=(List.getElem?_eq_some_iff.mp e2).1;have z:=h7 i (List.mem_range.mpr hi');rw[List.all_eq_true]at z;have z2:=z j (List.mem_range.mpr hj');rw[e1,e2]at z2;simpa using z2
theorem x3F{i:Nat}{y:Str}{py spos pos:Pos}{elt target iter:Expr}{ifs:List Expr}{scope:Scope}{fi:y0->Option (List D)}{h:D->y0->Option y0}{ft:y0->Option Bool}{fe:y0->Option D}(N:List Str)(cap:List (Option Nat))(hc:X.calm=true)(hi:SIc X target iter fi)(hg:∀cl C fp s H,SG (J4 X N scope cl C fp s H) target h)(ht:∀cl C fp s H,x2S (J4 X N scope cl C fp s H) ifs (tT X.K ft))(he:∀cl C fp s H,SE (J4 X N scope cl C fp s H) elt fe)(hN:X.N.Nodup)(hiy:X.N[i]?=some y:=by rfl)(hy:Loc X.env.scope y:=by first|exact Or.inl rfl|exact Or.inr rfl)(hf:X.fn y=true∨X.env.scope.names.lookup y=some .local:=by first|exact .inl rfl|exact .inr rfl)(hsw:swapsWith (.ListComp elt [⟨target,iter,ifs,0⟩] scope pos) (some (.Name y py)) spos.line X.env=pure true:=by rfl)(hok:z4E scope X.env.scope N cap X.N=true:=by rfl)(hs:∀x,foldedSetIterable iter X.env x=pure x:=by intro _;rfl) :
  SS X (.Assign [.Name y py] (.ListComp elt [⟨target,iter,ifs,0⟩] scope pos) spos) (W4 i (dLs (Q0 cap fi h ft fe))) :=
 x3G N cap hc hi hg ht he hN hiy hy hf hsw hok hs fun E σ H ⟨ρ,o,B,H0,V0,Z,e,r,q⟩=>by
  unfold W4 at e;split at e
  ·rename_i d ed;cases e;unfold dLs at ed;obtain⟨ds,he,rfl⟩:=Option.map_eq_some_iff.mp ed
   refine⟨ρ,ds,B,H0,V0,Z,he,r,fun a xs H' s hn ha hr=>q _ H' Z ((r.mono s).set (g8.mpr ⟨a,xs,rfl,SqL.of ?_,hr.mono (z1Q fun b hb=>List.mem_cons_of_mem _ hb)⟩))⟩
   rw[K2 (r.newer hn)];exact ha
  ·cases e
end
end L3
namespace HT
open PySem PyProof.Rows
section
variable{prog:Program}{w:World}{A:Around}{E:Value->Shared->Prop}{s:Shared}
theorem getItem_tuple_all{t sl:Addr}{items:Array Value}{vl vu:Value}{lo hi:Option Int}{Q:Value->Shared->Prop}(ht:IsTup s.heap t items)(hs:s.heap.IsSliceOf sl vl vu .none)(pl:IsPart vl lo)(pu:IsPart vu hi)(hw:sIx items.size 0 lo=0/\sIx items.size items.size hi=items.size)(h:Q (.ref t) s)(hsz:items.size≤sizeLine):wpAny (model prog w) A (getItem (.ref t) (.ref sl)) Q E s:=by
 have hj:sIx items.size items.size hi≤items.size:=x5X _ _ (Nat.le_refl _) hi;obtain⟨os,hos,hcs,hds⟩:=id hs;have hTs:s.TypeIs (.ref sl) "slice":=⟨os,hos,hcs⟩;unfold getItem
 try with_reducible refine wpAny_holding ?_
 first|refine wpAny_bind (wpAny_pure ?_)|skip
 refine wpAny_bind (wpAny_sequenceKey ht.typeIs (by decide) ?_)
 refine wpAny_bind (wpAny_callSpecial?_slot (name:=Str.ofString "__getitem__") ht.typeIs PyProof.Rows.slot_tuple_getitem
  (wpAny_call_entry PyProof.Rows.slot_tuple_getitem ht.typeIs entry_tuple_getitem ?_ (args_tuple_getitem _ _)))
 show wpAny _ _ (Builtin.Tuple.tupleItemsOf (.ref t) >>= _) _ _ s
 refine wpAny_bind (tupleItemsOf_ ht ?_);refine wpAny_bind (wpAny_typeOf hTs ?_)
 rw[if_pos (by decide)]
 refine wpAny_bind (z4C hs pl pu ?_)
 have hyes:(((sIx items.size 0 lo:Nat):Int)==0&&(1:Int)==1&&(sIx items.size items.size hi-sIx items.size 0 lo)==items.size)=true:=by
  rw[hw.1,hw.2];simp
 show wpAny _ _ (if (((sIx items.size 0 lo:Nat):Int)==0&&(1:Int)==1&&(sIx items.size items.size hi-sIx items.size 0 lo)==items.size)=true then _ else _) _ _ s
 rw[if_pos hyes];refine wpAny_bind ?_;unfold Builtin.Tuple.tupleIsExact;refine wpAny_bind (wpAny_typeOf ht.typeIs (wpAny_pure ?_))
 rw[if_pos (by decide)]
 first
  | exact wpAny_bind (wpAny_rule (wpAny_pure ⟨_,rfl,wpAny_pure h⟩))
  | exact wpAny_rule (wpAny_pure ⟨_,rfl,wpAny_pure h⟩)
  | exact wpAny_bind (wpAny_rule (wpAny_bind (wpAny_pure (wpAny_pure ⟨_,rfl,wpAny_pure h⟩))))
end
end HT
namespace L3
open PySem PySem.Spec PyProof.Rows L2 PySem.SeqAt
section
variable{X:Cx}{a:Expr}{fa:y0->Option D}{pos:Pos}
noncomputable def w6F(K:PySem.W.Frag):V->Option Int->Option Int->Hp->VK->Prop:=fun x lo hi H Q=>∃a xs,x = .ref a/\SqT K H a xs /\
 (HT.sIx xs.length 0 lo=0/\HT.sIx xs.length xs.length hi=xs.length)/\Q (.ref a) H
theorem w0V:SlR X (w6F X.K):=by
 intro pins s σ H x v vl vu lo hi sl Q I rx hs pl pu h;obtain⟨a,xs,rfl,hx,hw,q⟩:=h;cases rx;obtain⟨its,r,ht,hz⟩:=I.tuple hx
 have hlen:its.toArray.size=xs.length:=by rw[List.size_toArray];exact r.length.symm
 refine⟨"tuple",_,PyProof.Rows.slot_tuple_getitem.lookup,ht.typeIs,?_⟩
 exact HT.getItem_tuple_all ht hs pl pu (by rw[hlen];exact hw) ⟨.ref a,H,I,rfl,q⟩ (by rw[hlen];exact hz)
noncomputable def z53(f:y0->Option D)(fl fh:y0->Option (Option Int)):y0->Option D:=fun ρ=>match f ρ with
 | some (.tup ds)=>(match fl ρ with|some lo=>(match fh ρ with|some hi=>if HT.sIx ds.length 0 lo=0/\HT.sIx ds.length ds.length hi=ds.length then some (.tup ds) else none|none=>none)|none=>none)
 | _=>none
theorem w17{lo hi:Option Expr}{p2:Pos}{fl fh:y0->Option (Option Int)}(he:SE X a fa)(hl:SO X lo fl)(hh:SO X hi fh):SE X (.Subscript a (.Slice lo hi none p2) pos) (z53 fa fl fh) :=
 u5 (y6O w0V he hl hh) fun σ H Q ⟨ρ,d,B,H0,V0,Z,e,r,q⟩=>by
  unfold z53 at e;split at e
  ·rename_i ds ex;split at e
   ·rename_i l el;split at e
    ·rename_i h eh;split at e
     ·rename_i hw;cases e
      refine⟨ρ,_,B,H0,V0,Z,ex,r,fun u H1 s1 r1=>⟨ρ,l,B,H0,V0,Z,el,r.mono s1,fun H2 s2=>⟨ρ,h,B,H0,V0,Z,eh,(r.mono s1).mono s2,fun H3 s3=>?_⟩⟩⟩
      have rx:=r1.mono (v0 (s2.trans s3));obtain⟨p,xs,rfl,h1,h2⟩:=u0.mp rx
      exact⟨p,xs,rfl,j9 w9 h1,by rw[←h2.length];exact hw,q _ H3 (s1.trans (s2.trans s3)) rx⟩
     ·cases e
    ·cases e
   ·cases e
  ·cases e
theorem w18{lo hi:Option Expr}{p2:Pos}{fl fh:y0->Option (Option Int)}(he:SE X a fa)(hl:SO X lo fl)(hh:SO X hi fh):SE X (.Subscript a (.Slice lo hi none p2) pos) (z54 (z29 fa fl fh) (z53 fa fl fh)):=w1B (w19 he hl hh) (w17 he hl hh)
end
end L3
namespace L3
open PySem PySem.Spec PyProof.Rows L2
noncomputable def z9Z(K:PySem.W.Frag)(cd:Value)(x:Str):Bool:=match cd with
 | .ref c=>(match K.lookup c with
  | some ⟨.type "code",_,.fields vs,_⟩=>(match (vs[11]?:Option Value) with|some (.ref P)=>PySem.W.codeHdIn K c P&&(K.lookup P).isNone|_=>false)&&(match (vs[1]?:Option Value) with|some (.str q _)=>q==x&&y70.contains q|_=>false)
  | _=>false)
 | _=>false
theorem y8A{K:PySem.W.Frag}{cd:Value}{x:Str}(h:z9Z K cd x=true):∃c o vs P t,cd = .ref c/\K.lookup c=some o/\o.cls = .type "code"/\o.data = .fields vs/\vs[11]?=some (.ref P)/\vs[1]?=some (.str x t) /\
  PySem.W.codeHdIn K c P=true/\K.lookup P=none/\z76 vs=true:=by
 unfold z9Z at h;split at h
 ·rename_i c;split at h
  ·rename_i od vs osl hk;rw[Bool.and_eq_true]at h;obtain⟨h1,h2⟩:=h;split at h1
   ·rename_i P hP;rw[Bool.and_eq_true]at h1;split at h2
    ·rename_i q t hq;rw[Bool.and_eq_true]at h2
     have e:q=x:=by simpa using h2.1
     subst e
     exact⟨c,_,vs,P,t,rfl,hk,rfl,rfl,hP,hq,h1.1,by simpa using h1.2,by unfold z76;rw[hq];exact h2.2⟩
    ·cases h2
   ·cases h1
  ·cases h
 ·cases h
structure BmAt(K:PySem.W.Frag)(mg:Str->Option Value):Prop where
 ex:True
theorem y8O{p:Pos}{a b:Int}{c v:Value}(l:List Value)(h:TriplesOk l)(e:codeAmong p (l++[rawInt a,rawInt b,c])=some v):codeAmong p l=some v∨v=c:=by
 fun_induction TriplesOk l with
 | case1 =>
  simp only[List.nil_append,codeAmong,rawInt]at e;split at e
  ·exact .inr (Option.some.inj e).symm
  ·cases e
 | case2 i t j u y r ih =>
  simp only[List.cons_append,codeAmong]at e ⊢;split at e
  ·rename_i hc;rw[if_pos hc];exact .inl e
  ·rename_i hc;rw[if_neg hc];exact ih h e
 | case3 l h1 h2=>exact h.elim
noncomputable abbrev y6Z(qual:Str)(params:Arguments)(body:Expr)(scope:Scope)(cl:List (Str×Addr))(doc pm:Value)(c:Addr)(ct:Value):Obj:=PySem.W.kdv_obj "<lambda>" qual params (.expr body) scope cl .none doc pm c ct
section
variable{X:Cx}{pins:List (Addr×Obj)}{σ:St}{H:Hp}{s:Shared}
theorem Inv.pin1{f:Addr}{o:Obj}(I:Inv X pins σ H s)(ho:s.heap.get? f=some o)(hn:H f=none)(hl:f≠X.env.locals)(hf:f∉X.fs)(hd:∀v,o.data≠.cell v):Inv X ((f,o)::pins) σ H s :=
 I.pins_of fun p hp=>by
  rcases List.mem_cons.mp hp with z|z
  ·subst z;exact⟨ho,hn,hl,hf,hd⟩
  ·exact I.pin p (List.mem_append_right _ z)
theorem w34{A:Around}{E:Value->Shared->Prop}{params:Arguments}{body:Expr}{scope:Scope}{pos:Pos}{cl:List (Str×Addr)}{x:Str}{Q:Value->Shared->Prop}(I:Inv X pins σ H s)(tb:TB X.K H)(bm:BmAt X.K X.mg)(hl:z9Z X.K X.env.code x=true)(hq:X.env.qual=x++".<locals>.")(hcl:closureFor scope X.env=pure cl)(hdef:defaultsOf params X.env=([],[]))(h:∀f c oc vs t doc pm ct s' H',K6 H H'->Inv X ((f,y6Z (X.env.qual++"<lambda>") params body scope cl doc pm c ct)::pins) σ H' s'->(∃u,H' c=some (.frz oc u))->oc.data = .fields vs->vs[1]?=some (.str (X.env.qual++"<lambda>") t)->Q (.ref f) s') :
  wpAny (model X.prog X.w) A (eval (.Lambda params body scope pos) X.env) Q E s:=by
 refine PySem.W.kla_eval hdef ?_;rw[makeFunction_eq];simp only[List.zip_nil_right,List.filterMap_nil,List.isEmpty_nil,if_true,pure_bind];obtain⟨c,o,vs,P,t0,hc,k1,k2,k3,k4,k5,k6,k7,k8⟩:=y8A hl;obtain⟨q,t,e1,hP⟩:=tb c o vs P k1 k2 k3 k4 k7 k8;rw[k5]at e1;cases e1;obtain⟨qs,hp,ht,hent⟩:=I.hok P _ hP;have CH:PySem.W.CodeHd s.heap c P:=PySem.W.codeHd_of_K I.kIn k6;have hg:s.heap.Ns mainGlobals X.mg:=I.ok.mod.glob.keeps I.bk
 have hgP:mainGlobals≠P:=fun z=>by
  obtain⟨og,es,ep,e,_⟩:=I.ok.mod.glob
  have:=(I.bs _ _ e).2
  rw[z,hP]at this;cases this
 obtain⟨bm,ob,b1,b6,b2,b3,b4,b5⟩:=I.ok.mod.bm
 have b7:bm≠mainGlobals:=fun z=>by
  obtain⟨og,es,ep,e,hd,_⟩:=I.ok.mod.glob;rw[←z,b2]at e;cases e;rw[b5]at hd;cases hd
 have hB:s.heap.BuiltinsAt X.mg P:=⟨bm,ob,b1,b6,b7,(fun z=>by
  have:=(I.bs _ _ b2).2
  rw[z,hP]at this
  cases this),I.bk _ _ b2,b3,b4,b5⟩
 have tq:y9G #[Value.str x 0]=X.env.qual++"<lambda>":=by rw[hq];rfl
 cases hca:codeAmong pos qs.toList with
 | none =>
  refine PySem.W.kdv_makeTail hcl I.ok.glob hg hc CH hp ht hca hgP hB fun c' ct doc h' tk hx hge hlt hrec htb=>?_
  obtain⟨c2,oc,ws,t2,e2,hoc,hd,hv⟩:=hrec;cases e2;have hcn:H c'=none:=I.hok.fresh hge
  have cne:∀b u,H b=some u->b≠c':=fun b u e z=>by rw[z,hcn]at e;cases e
  have sm:K6 H (upd H c' (.frz oc (.own P))):=j7 hcn;have hsz:s.heap.objs.size≤h'.objs.size:=Nat.le_trans hge (Nat.le_of_lt hlt);generalize hfo:PySem.W.kdv_obj "<lambda>" (X.env.qual++"<lambda>") params (.expr body) scope cl .none doc ((X.mg "__name__").getD .none) c' ct=fo
  have hok:HOk X.prog X.w (upd H c' (.frz oc (.own P))) (h'.push fo):=fun b u e=>by
   by_cases hb:b=c'
   ·subst hb;rw[v5]at e;cases e
    exact⟨Heap.get?_push_of_some _ hoc,oc,Heap.get?_push_of_some _ hoc⟩
   ·rw[j8 hb]at e;by_cases hbP:b=P
    ·subst hbP;rw[hP]at e;cases e
     refine⟨qs++#[rawInt pos.line,rawInt pos.col,.ref c'],Heap.get?_push_of_some _ htb,?_,fun p v hv'=>?_⟩
     ·have:=TriplesOk_snoc pos.line pos.col (.ref c') qs.toList ht
      simpa using this
     ·have hv2:codeAmong p (qs.toList++[rawInt pos.line,rawInt pos.col,.ref c'])=some v:=by simpa using hv'
      rcases y8O qs.toList ht hv2 with z|z
      ·obtain⟨c3,oc3,vs3,t3,z1,z2,z3,z4⟩:=hent p v z
       exact⟨c3,oc3,vs3,t3,z1,sm _ _ z2,z3,z4⟩
      ·exact⟨c',oc,ws,t2,z,v5,hd,by rw[tq];exact hv⟩
    ·refine (I.hok b u e).stay (fun d v hd' r=>Heap.get?_push_of_some _ (hx d v ?_ r)) (fun d r=>sm _ _ r) (fun d ys r=>sm _ _ r) fun d ob' ys r=>sm _ _ r
     rcases hd' with z|z
     ·rw[z];exact hbP
     ·intro z2;rw[z2,hP]at z;cases z
  have un:Un X.fs [] H (upd H c' (.frz oc (.own P))) s.heap (h'.push fo):=by
   have kp:∀b ob',s.heap.get? b=some ob'->H b=none->(h'.push fo).get? b=some ob':=fun b ob' e n=>Heap.get?_push_of_some _ (hx b ob' (fun z=>by rw[z,hP]at n;cases n) e)
   refine⟨fun b ob' e n _ _=>kp b ob' e n,fun b ob' e n _ _=>⟨ob'.slots,kp b ob' e n⟩,fun b ob' e n _=>?_,fun b ob' e _=>?_,fun b ys e=>sm _ _ e,fun b ob' u e=>sm _ _ e,fun b ps e=>⟨#[],by rw[sm _ _ e];simp⟩⟩
   ·rw[j8]
    ·exact n
    ·intro z
     have:=Heap.lt_size e
     rw[z]at this;exact absurd (Nat.lt_of_lt_of_le this hge) (Nat.lt_irrefl _)
   ·by_cases hb:b=P
    ·rw[hb];exact⟨_,Heap.get?_push_of_some _ htb⟩
    ·exact⟨ob',Heap.get?_push_of_some _ (hx b ob' hb e)⟩
  have I2:=I.un (h':=h'.push fo) (t':=tk) un hok;refine h h'.objs.size c' oc ws t2 doc ((X.mg "__name__").getD .none) ct _ _ sm ?_ ⟨_,v5⟩ hd hv
  have hf:(h'.push fo).get? h'.objs.size=some fo:=Heap.get?_push_size _ (by rw[←hfo];rfl)
  rw[←hfo]at hf I2 ⊢;refine Inv.pin1 I2 hf ?_ ?_ ?_ ?_
  ·rw[j8 (Nat.ne_of_gt hlt)];exact I.hok.fresh hsz
  ·exact Nat.ne_of_gt (Nat.lt_of_lt_of_le I.lt hsz)
  ·exact I.nofs hsz
  ·intro v z;cases z
 | some v =>
  obtain⟨c',oc,ws,t2,rfl,z2,z3,z4⟩:=hent pos v hca
  refine PySem.W.kdv_makeTailHit hcl I.ok.glob hg hc CH hp ht hca hB fun ct doc h' tk hx hsz=>?_
  rw[tq]at z4
  have I2:=I.kept (h':=h'.push (y6Z (X.env.qual++"<lambda>") params body scope cl doc ((X.mg "__name__").getD .none) c' ct)) (t':=tk) fun b u e=>Heap.get?_push_of_some _ (hx b u e)
  refine h h'.objs.size c' oc ws t2 doc ((X.mg "__name__").getD .none) ct _ H (K6.refl H) ?_ ⟨_,z2⟩ z3 z4;refine Inv.pin1 I2 (Heap.get?_push_size _ rfl) (I.hok.fresh hsz) (Nat.ne_of_gt (Nat.lt_of_lt_of_le I.lt hsz)) (I.nofs hsz) ?_;intro v z;cases z
end
noncomputable abbrev y3B(X:Cx)(A:Around)(N:List Str)(qual:Str)(scope:Scope)(cl:List (Str×Addr))(f:Addr)(cd:Value)(s:Shared)(H:Hp):Cx where
 prog:=X.prog
 w:=X.w
 K:=X.K
 mg:=X.mg
 base:=X.base
 A:=A.deeper (PySem.W.envX qual scope s.heap.objs.size f cd cl)
 N:=N
 s₀:=s
 H₀:=H
 env:=PySem.W.envX qual scope s.heap.objs.size f cd cl
 outer:=X.stack
 stack:=PySem.W.envX qual scope s.heap.objs.size f cd cl::X.stack
 ex:=[]
 fn:=fun x=>match scope.names.lookup x with|some .local=>true|_=>false
 calm:=true
 pn:=[]
 xe:=fun _ _=>False
section
variable{X:Cx}{pins:List (Addr×Obj)}{σ:St}{H:Hp}{s:Shared}{scope:Scope}{cl:List (Str×Addr)}{N:List Str}{cap:List (Option Nat)}{A:Around}{qual p:Str}{f:Addr}{cd u:Value}{v:V}
theorem x95{h1:Heap}{tk:Nat}(I:Inv X pins σ H s)(hAf:A.frames=some X.stack)(hAh:A.handled=none)(hk:scope.kind = .function)(hcell:∀y∈scope.names,y.2≠.cell)(hcl:∀x c,cl.lookup x=some c->X.env.cells.lookup x=some c/\(x,NameKind.free)∈scope.names)(hcf:∀x,(x,NameKind.free)∈scope.names->∃c,cl.lookup x=some c)(hfr:∀x∈scope.names,x.2 = .free->scope.names.lookup x.1=some .free)(hcap:∀(i j:Nat),cap[i]?=some (some j)->∃x,N[i]?=some x/\X.N[j]?=some x/\scope.names.lookup x=some .free/\(X.env.scope.names.lookup x=some .cell∨X.env.scope.names.lookup x=some .free))(hlen:cap.length=N.length)(h0:cap[0]?=some none)(hp:N[0]?=some p)(hpl:scope.names.lookup p=some .local)(rv:z1D v u)(hns:h1.Ns s.heap.objs.size (fun y=>([(p,u)]:List (Str×Value)).reverse.lookup y))(keep:∀b o,s.heap.get? b=some o->h1.get? b=some o) :
  Inv (y3B X A N qual scope cl f cd s H) [] ((z9Q cap σ).set 0 (some v)) H { s with heap:=h1,toks:=tk }:=by
 have e0:=I.env0
 have noA:∀b:Addr,b∉(y3B X A N qual scope cl f cd s H).ex:=fun b z=>absurd (show b∈([]:List Addr) from z) (by simp)
 refine⟨⟨e0.mod,hk,rfl,rfl,Nat.le_refl _,fun x y c e1 e2=>I.ok.inj x y c (hcl x c e1).1 (hcl y c e2).1,fun x hx=>?_,fun x c hx e=>?_,fun _=>hAh,Around.frames_deeper hAf,.inr ⟨rfl,rfl⟩,fun b z=>absurd z (noA b),e0.bs,e0.bsz,fun b _ _=>noA b,fun b z=>absurd z (noA b),e0.funs,e0.frf⟩,
  rfl,e0.bare,Un.kept keep,⟨_,hns,fun i y w e1 e2 e3=>?_⟩,fun x c e=>?_,e0.hok.fresh (Nat.le_refl _),fun x c e=>I.freeC x c (hcl x c e).1,fun q hq=>absurd (show q∈([]:List (Addr×Obj)) from hq) (by simp),e0.hok.kept keep,?_⟩
 ·have hx:scope.names.lookup x=some .cell∨scope.names.lookup x=some .free:=hx
  rcases hx with z|z
  ·exact absurd rfl (hcell _ (PySem.mem_of_lookup z))
  ·exact hcf x (PySem.mem_of_lookup z)
 ·have hx':(match scope.names.lookup x with|some .local=>true|_=>false)=true:=hx
  have:=hfr _ (hcl x c e).2 rfl
  rw[this]at hx'
  cases hx'
 ·cases i with
  | zero =>
   have e1':N[0]?=some y:=e1;rw[hp]at e1'
   cases e1'
   have hl0:0<(z9Q cap σ).length:=by
    unfold z9Q;rw[List.length_map];exact (List.getElem?_eq_some_iff.mp h0).1
   rw[List.getElem?_set_self hl0]at e2;cases e2
   refine⟨u,rv,.inl ⟨hpl,?_⟩⟩
   simp[List.lookup_cons]
  | succ i =>
   rw[List.getElem?_set_ne (by omega)]at e2
   have hc:∃j,cap[i+1]?=some (some j)/\σ[j]?=some (some w):=by
    unfold z9Q at e2;rw[List.getElem?_map]at e2
    cases hci:cap[i+1]? with
    | none=>rw[hci]at e2;cases e2
    | some o =>
     rw[hci]at e2
     cases o with
     | none=>cases e2
     | some j =>
      refine⟨j,rfl,?_⟩
      have e2':(σ[j]?).bind id=some w:=Option.some.inj e2
      cases hs:σ[j]? with
      | none=>rw[hs]at e2';cases e2'
      | some q =>
       rw[hs]at e2'
       have:q=some w:=e2'
       rw[this]
   obtain⟨j,hj,hv⟩:=hc;obtain⟨x,n1,n2,n3,n4⟩:=hcap (i+1) j hj
   have exy:x=y:=by
    have:N[i+1]?=some y:=e1
    rw[n1]at this;exact Option.some.inj this
   subst exy;obtain⟨mm,hm,hl⟩:=I.loc;obtain⟨u',r,look⟩:=hl j x w n2 hv (.inr n4)
   refine⟨u',r,.inr ⟨.inr n3,?_⟩⟩
   rcases look with⟨k,_⟩|⟨k,c,e,z⟩
   ·have k':X.env.scope.names.lookup x=some .local:=k;rw[k']at n4
    rcases n4 with q|q<;>cases q
   ·obtain⟨c',hc'⟩:=hcf x (PySem.mem_of_lookup n3)
    have:=(hcl x c' hc').1
    rw[e]at this;cases this;obtain⟨o,ho,hd⟩:=z
    exact⟨c,hc',o,keep _ _ ho,hd⟩
 ·obtain⟨v',o,ho,hd⟩:=I.cell x c (hcl x c e).1
  exact⟨v',o,keep _ _ ho,hd⟩
 ·rw[List.length_set];unfold z9Q;rw[List.length_map];exact hlen
theorem x4P{params:Arguments}{body:Expr}{doc pm ct:Value}{c:Addr}{oc:Obj}{vs:Array Value}{t:Tok}{te:TE}{Q:VK}{E:Value->Shared->Prop}(I:Inv X pins σ H s)(hAf:A.frames=some X.stack)(hr:Room 0 A)(hf:s.heap.get? f=some (y6Z qual params body scope cl doc pm c ct))(hc:∃u,H c=some (.frz oc u))(hd:oc.data = .fields vs)(hv:vs[1]?=some (.str qual t))(hk:scope.kind = .function)(hcell:∀y∈scope.names,y.2≠.cell)(hco:scope.isCoroutine=false)(hgen:scope.isGenerator=false)(hcl:∀x c,cl.lookup x=some c->X.env.cells.lookup x=some c/\(x,NameKind.free)∈scope.names)(hcf:∀x,(x,NameKind.free)∈scope.names->∃c,cl.lookup x=some c)(hfr:∀x∈scope.names,x.2 = .free->scope.names.lookup x.1=some .free)(hcap:∀(i j:Nat),cap[i]?=some (some j)->∃x,N[i]?=some x/\X.N[j]?=some x/\scope.names.lookup x=some .free/\(X.env.scope.names.lookup x=some .cell∨X.env.scope.names.lookup x=some .free))(hlen:cap.length=N.length)(h0:cap[0]?=some none)(hp:N[0]?=some p)(hpl:scope.names.lookup p=some .local)(rv:z1D v u)(hb:bindArgs (PySem.W.kdv_fn "<lambda>" qual params (.expr body) scope cl .none doc pm (.ref c) ct) ⟨[u],[]⟩=pure [(p,u)])(he:PE (y3B X A N qual scope cl f (.ref c) s H) body te)(h:te ((z9Q cap σ).set 0 (some v)) H Q) :
  wpAny (model X.prog X.w) A (call (.ref f) [u]) (EP X pins σ Q) E s:=by
 obtain⟨uu,hc⟩:=hc;have hoc:s.heap.get? c=some oc:=(I.hok c _ hc).1;refine wpAny_call (PySem.W.kla_callFunE hr.depth hf rfl hco hgen rfl ⟨c,oc,vs,t,rfl,hoc,hd,hv⟩ ?_);rw[hb]
 refine wpAny_pure (wpAny_newFunctionEnv hcell (fun y hy=>?_) (fun h₁ hns hsb=>⟨I.nolimit.fresh _ hsb,?_⟩) hk)
 ·rw[List.mem_singleton.mp hy];exact hpl
 have keep:∀b o,s.heap.get? b=some o->h₁.get? b=some o:=fun b o e=>hsb.extBut b o (Nat.ne_of_lt (Heap.lt_size e)) (Heap.get?_push_of_some _ e)
 show codeAny _ _ (.expr body (PySem.W.envX qual scope s.heap.objs.size f (.ref c) cl)) _ _
 have I2:Inv (y3B X A N qual scope cl f (.ref c) s H) [] ((z9Q cap σ).set 0 (some v)) H { s with heap:=h₁,toks:=s.toks+([(p,u)]:List (Str×Value)).length } :=
  x95 I hAf hr.hd hk hcell hcl hcf hfr hcap hlen h0 hp hpl rv hns keep
 refine PySem.W.kla_codeExpr (wpAny_mono (he [] _ _ H Q I2 h) (fun x s' hs=>?_) fun _ _ z=>z.elim)
 obtain⟨w,H',J,r,q⟩:=hs;exact I.after ⟨w,H',J.os,J.bare,J.base,J.hok,r,q⟩
end
end L3
namespace L3
open PySem PySem.Spec PyProof.Rows L2 PySem.SeqAt PySem.W
section
variable{X:Cx}{pins:List (Addr×Obj)}{σ:St}{H:Hp}{s:Shared}
theorem Inv.repin{b:Addr}{o o':Obj}{h':Heap}{t':Nat}(J:Inv X ((b,o)::pins) σ H s)(hk:Heap.SameBut b s.heap h')(ho:h'.get? b=some o')(h0:X.s₀.heap.objs.size≤b)(hc:∀x c,X.env.cells.lookup x=some c->c≠b)(hp:∀p∈X.pn++pins,p.1≠b)(hd:∀v,o'.data≠.cell v):Inv X ((b,o')::pins) σ H { s with heap:=h',toks:=t' }:=by
 obtain⟨_,p2,p3,p4,_⟩:=J.pin (b,o) (List.mem_append_right _ List.mem_cons_self)
 have J1:Inv X pins σ H s:=J.pins_of fun p z=>J.pin p (List.mem_append_right _ (List.mem_cons_of_mem _ z))
 exact Inv.pin1 (J1.turned (h':=h') (t':=t') (fun c u ne e=>(hk.2 c ne).trans e) p2 p3 (.inr h0) hc hp) ho p2 p3 p4 hd
theorem Inv.tail{p:Addr×Obj}(J:Inv X (p::pins) σ H s):Inv X pins σ H s:=J.pins_of fun q z=>J.pin q (List.mem_append_right _ (List.mem_cons_of_mem _ z))
theorem Inv.told{a b:Addr}{oa ob:Obj}{ys:List V}{h':Heap}{t':Nat}(J:Inv X ((b,ob)::(a,oa)::pins) σ H s)(hk:∀c u,c≠a->c≠b->s.heap.get? c=some u->h'.get? c=some u)(hb:∃u,h'.get? b=some u)(ha:z03 X.prog X.w (upd H a (.lst ys)) h' a (.lst ys))(h0:X.s₀.heap.objs.size≤a)(h1:X.s₀.heap.objs.size≤b)(hc:∀x c,X.env.cells.lookup x=some c->c≠a/\c≠b)(hp:∀p∈X.pn++pins,p.1≠a/\p.1≠b):Inv X pins σ (upd H a (.lst ys)) { s with heap:=h',toks:=t' }:=by
 obtain⟨q1,q2,q3,q4,_⟩:=J.pin (b,ob) (List.mem_append_right _ List.mem_cons_self);obtain⟨p1,p2,p3,p4,_⟩:=J.pin (a,oa) (List.mem_append_right _ (List.mem_cons_of_mem _ List.mem_cons_self));have sm:K6 H (upd H a (.lst ys)):=j7 p2;have J1:Inv X pins σ H s:=Inv.tail (Inv.tail J)
 have nt:∀c u,H c=some u->c≠a/\c≠b:=fun c u e=>⟨(fun z=>by rw[z,p2]at e;cases e),(fun z=>by rw[z,q2]at e;cases e)⟩
 refine J1.step (g':=s.gens) (d':=s.drawn) (ch:=[a,b]) (fun c hc'=>?_) (fun c u _ _ hn e _=>hk c u (fun z=>hn (by simp[z])) (fun z=>hn (by simp[z])) e) (fun c u _ _ hn e _=>⟨u.slots,hk c u (fun z=>hn (by simp[z])) (fun z=>hn (by simp[z])) e⟩)
  (fun c u hn e n=>by rw[j8 (fun z=>hn (by simp[z]))];exact n) (fun c u hn e=>⟨u,hk c u (fun z=>hn (by simp[z])) (fun z=>hn (by simp[z])) e⟩) (fun c xs e=>sm _ _ e) (fun c o' u e=>sm _ _ e) (fun c ps e=>⟨#[],by rw[sm _ _ e];simp⟩)
  (fun m hm=>?_) (fun c u e=>?_) J1.bare
 ·rcases List.mem_cons.mp hc' with z|z
  ·subst z
   exact⟨.inr h0,p3,fun x c e=>(hc x c e).1,fun p z=>(hp p z).1⟩
  ·rw[List.mem_singleton.mp z]
   exact⟨.inr h1,q3,fun x c e=>(hc x c e).2,fun p z=>(hp p z).2⟩
 ·obtain⟨o',es',ep',ho',r'⟩:=hm
  exact⟨o',es',ep',hk _ _ (Ne.symm p3) (Ne.symm q3) ho',r'⟩
 ·by_cases hb':c=a
  ·subst hb'
   rw[v5]at e;cases e;exact ha
  ·rw[j8 hb']at e
   refine (J1.hok c u e).stay (fun d v hd r=>?_) (fun d r=>sm _ _ r) (fun d xs r=>sm _ _ r) fun d o' u r=>sm _ _ r
   rcases hd with z|z
   ·rw[z]at r ⊢;exact hk _ _ (nt c u e).1 (nt c u e).2 r
   ·exact hk _ _ (nt _ _ z).1 (nt _ _ z).2 r
variable{A:Around}{E:Value->Shared->Prop}
theorem y60{a:Addr}{f:Value}{vs:List Value}{us:List V}{n:Nat}{P:PySem.Fin->Shared->Prop}{Z:List Addr}{kds:List D}{κ:SortKind}{lt:Nat->Nat->Bool}(O:KOrd lt)(I:Inv X ((a,seqObj "list" vs.toArray n)::pins) σ H s)(h64:vs.length<64)(hkl:kds.length=vs.length)(rv:Z3 us vs)(h0:X.s₀.heap.objs.size≤a)(hc:∀x c,X.env.cells.lookup x=some c->c<a)(hp:∀p∈X.pn++pins,p.1<a)
  (turn:∀(i:Nat) (u:Value) (d:D),vs[i]?=some u->kds[i]?=some d->∀(more:List (Addr×Obj)) (H1:Hp) (s1:Shared),K6 H H1->Inv X (more++pins) σ H1 s1 ->
   wpAny (model X.prog X.w) A (call f [u]) (EP X (more++pins) σ fun k H2=>K6 H1 H2/\Rep X.K (K3 Z H2) d k) (fun _ _=>False) s1)
  (hkind:∀(more:List (Addr×Obj)) (H1:Hp) (s1:Shared) (ks:List V) (kvs:List Value),K6 H H1->Inv X (more++pins) σ H1 s1->Z3 ks kvs->j5 X.K (K3 Z H1) kds ks->2≤kvs.length->∀Q:SortKind->Shared->Prop,Q κ s1->wpAny (model X.prog X.w) A (keyKind' kvs.toArray) Q (fun _ _=>False) s1)
  (hlt:∀(more:List (Addr×Obj)) (H1:Hp) (s1:Shared) (ks:List V) (kvs:List Value),K6 H H1->Inv X (more++pins) σ H1 s1->Z3 ks kvs->j5 X.K (K3 Z H1) kds ks->∀i j,i<kvs.length->j<kvs.length->∀C:Bool->Shared->Prop,C (lt i j) s1 ->
   wpAny (model X.prog X.w) A (keyLt' κ (kvs.getD i Value.none) (kvs.getD j Value.none)) C (fun _ _=>False) s1)
  (fin:∀(p:Array Nat) (H1:Hp) (s1:Shared),p.size=vs.length->p.Perm (List.toArray (List.range vs.length))->Up lt p vs.length->K6 H H1->H1 a=none->Inv X pins σ (upd H1 a (.lst (p.toList.map fun i=>us.getD i .non))) s1->P (.done (.ret .none)) s1) :
  wpAny (model X.prog X.w) A (ksk_tree a f false) P E s:=by
 have ho:s.heap.get? a=some (seqObj "list" vs.toArray n):=(I.pin _ (List.mem_append_right _ List.mem_cons_self)).1;have ha:a<s.heap.objs.size:=Heap.lt_size ho
 have hzz:vs.toArray.size≤sizeLine:=by rw[List.size_toArray,sizeLine_eq];omega
 obtain⟨e1,ho1⟩:∃e1,(s.heap.update a (Obj.mapSeq fun _=>(#[]:Array Value))).get? a=some (seqObj "list" #[] e1):=⟨_,get?_update_seq ho fun _=>#[]⟩
 have I1:Inv X ((a,seqObj "list" #[] e1)::pins) σ H { s with heap:=s.heap.update a (Obj.mapSeq fun _=>(#[]:Array Value)),toks:=s.toks } :=
  Inv.repin I (Heap.SameBut.update _ _ _) ho1 h0 (fun x c e=>Nat.ne_of_lt (hc x c e)) (fun p z=>Nat.ne_of_lt (hp p z)) (fun v z=>by cases z)
 unfold ksk_tree;refine wpAny_bind (listItems_at ho rfl (wpAny_bind (listUpdate_at ho rfl ?_ hzz (Nat.zero_le _))))
 refine wpAny_bind (seqEpoch_at ho1 rfl (wpAny_bind (wpAny_newTuple (wpAny_bind (wpAny_newList (wpAny_holding ?_) (Nat.zero_le _))) (by show vs.length≤_;rw[sizeLine_eq];omega))))
 generalize hh1:s.heap.update a (Obj.mapSeq fun _=>(#[]:Array Value))=h1 at I1 ho1 ⊢
 have hs1:s.heap.objs.size=h1.objs.size:=by rw[←hh1,Heap.size_update]
 generalize hkS:(h1.push (seqObj "tuple" vs.toArray 0)).objs.size=kS
 have kS1:kS=h1.objs.size+1:=by rw[←hkS,size_push']
 have akS:a<kS:=by rw[kS1,←hs1];exact Nat.lt_succ_of_lt ha
 have ckS:∀x c,X.env.cells.lookup x=some c->c≠kS:=fun x c e=>Nat.ne_of_lt (Nat.lt_trans (hc x c e) akS)
 have I2:Inv X ((kS,seqObj "list" #[] 0)::(a,seqObj "list" #[] e1)::pins) σ H { s with heap:=(h1.push (seqObj "tuple" vs.toArray 0)).push (seqObj "list" #[] 0),toks:=s.toks }:=by
  have J:=I1.kept (h':=(h1.push (seqObj "tuple" vs.toArray 0)).push (seqObj "list" #[] 0)) (t':=s.toks) fun b u e=>Heap.get?_push_of_some _ (Heap.get?_push_of_some _ e)
  refine Inv.pin1 J (by rw[←hkS];exact Heap.get?_push_size _ rfl) (I1.hok.fresh (by rw[kS1];exact Nat.le_succ _)) (Nat.ne_of_gt (by rw[kS1];exact Nat.lt_succ_of_lt I1.lt)) (I1.nofs (by rw[kS1];exact Nat.le_succ _)) (fun v z=>by cases z)
 have pkS:∀p∈X.pn++(a,seqObj "list" #[] e1)::pins,p.1≠kS:=fun p z=>by
  rcases List.mem_append.mp z with z|z
  ·exact Nat.ne_of_lt (Nat.lt_trans (hp p (List.mem_append_left _ z)) akS)
  ·rcases List.mem_cons.mp z with z|z
   ·rw[z];exact Nat.ne_of_lt akS
   ·exact Nat.ne_of_lt (Nat.lt_trans (hp p (List.mem_append_right _ z)) akS)
 have h0k:X.s₀.heap.objs.size≤kS:=Nat.le_trans h0 (Nat.le_of_lt akS)
 show wpAny _ _ (ksk_rest a f false vs.toArray e1 (.ref kS)) P E { s with heap:=(h1.push (seqObj "tuple" vs.toArray 0)).push (seqObj "list" #[] 0) }
 unfold ksk_rest;refine wpAny_bind (wpAny_rule ?_);rw[List.forIn_toArray]
 refine wpAny_bind (ksk_fold (fun i s'=>∃(H1:Hp) (kA:Array Value) (ks:List V) (e:Nat),Inv X ((kS,seqObj "list" kA e)::(a,seqObj "list" #[] e1)::pins) σ H1 s'/\K6 H H1/\Z3 ks kA.toList/\j5 X.K (K3 Z H1) (kds.take i) ks) vs 0 _
  ⟨H,#[],[],0,I2,K6.refl H,.nil,by rw[List.take_zero];exact j5.nil⟩ ?step ?done)
 case step =>
  rintro j x s' hx ⟨H1,kA,ks,e,J,sm,rk,rr⟩
  simp only[Nat.zero_add]at rr ⊢;have hj:j<vs.length:=(List.getElem?_eq_some_iff.mp hx).1
  have hkj:kds[j]?=some kds[j]:=List.getElem?_eq_getElem (by omega)
  have hz:kA.size≤vs.length:=by
   have l1:=rk.length;have l2:=rr.length;have l3:kA.toList.length=kA.size:=Array.length_toList;rw[List.length_take]at l2;omega
  refine wpAny_bind (wpAny_attempt (wpAny_mono (turn j x _ hx hkj [(kS,seqObj "list" kA e),(a,seqObj "list" #[] e1)] H1 s' sm J) (fun k s'' he=>?_) fun _ _ z=>z.elim))
  obtain⟨kv,H2,J2,rkv,sm2,rd⟩:=he;have J2':Inv X ((kS,seqObj "list" kA e)::(a,seqObj "list" #[] e1)::pins) σ H2 s'':=J2;have hok:s''.heap.get? kS=some (seqObj "list" kA e):=(J2'.pin _ (List.mem_append_right _ List.mem_cons_self)).1;obtain⟨e2,hk2⟩:∃e2,(s''.heap.update kS (Obj.mapSeq (·.push k))).get? kS=some (seqObj "list" (kA.push k) e2):=⟨_,get?_update_seq hok (·.push k)⟩
  try dsimp only
  refine wpAny_bind (listUpdate_at hok rfl ?_ (by rw[sizeLine_eq];omega) (Nat.le_trans (Nat.le_of_eq (Array.size_push ..)) (by rw[sizeLine_eq];omega)))
  refine wpAny_pure ⟨rfl,H2,kA.push k,ks++[kv],e2,?_,sm.trans sm2,?_,?_⟩
  ·exact Inv.repin (t':=s''.toks) J2' (Heap.SameBut.update _ _ _) hk2 h0k ckS pkS (fun v z=>by cases z)
  ·rw[Array.toList_push];exact rk.append (.cons rkv .nil)
  ·rw[List.take_add_one,hkj];exact j5.append (rr.mono (v0 sm2)) (j5.one rd)
 case done =>
  rintro s' ⟨H1,kA,ks,e,J,sm,rk,rr⟩
  have rr':j5 X.K (K3 Z H1) kds ks:=by
   rw[List.take_of_length_le (by omega)]at rr
   exact rr
  have lk:kA.size=vs.length:=by
   have l1:=rk.length;have l2:=rr'.length;have l3:kA.toList.length=kA.size:=Array.length_toList;omega
  have hok:s'.heap.get? kS=some (seqObj "list" kA e):=(J.pin _ (List.mem_append_right _ List.mem_cons_self)).1;have hoa:s'.heap.get? a=some (seqObj "list" #[] e1):=(J.pin _ (List.mem_append_right _ (List.mem_cons_of_mem _ List.mem_cons_self))).1
  try dsimp only
  refine wpAny_bind (listItems_at hok rfl ?_);have eK:kA.toList.toArray=kA:=Array.toArray_toList
  have last:∀(st':SortSt) (p:Array Nat),p.size=vs.length->p.Perm (List.toArray (List.range vs.length))->Up lt p vs.length->(arrOf st').map (·.2)=List.toArray (p.toList.map fun i=>vs.getD i Value.none)->failedOf st'=none ->
    wpAny (model X.prog X.w) A (ksk_tail a false e1 (.ref kS) st') P E s':=fun st' p h1 h2 h3 h4 h5=>by
   have s1:=Heap.SameBut.update s'.heap kS (Obj.mapSeq fun _=>(#[]:Array Value))
   have na1:(s'.heap.update kS (Obj.mapSeq fun _=>(#[]:Array Value))).get? a=some (seqObj "list" #[] e1):=(s1.2 a (Nat.ne_of_lt akS)).trans hoa
   unfold ksk_tail
   try dsimp only
   refine wpAny_bind (listUpdate_at hok rfl ?_ (by rw[lk,sizeLine_eq];omega) (Nat.zero_le _))
   refine wpAny_bind (wpAny_letGo ?_);refine wpAny_bind (seqEpoch_at na1 rfl ?_);rw[h4,h5]
   refine wpAny_bind (listUpdate_at na1 rfl ?_ (Nat.zero_le _) (by
    show (if false=true then _ else List.toArray (p.toList.map fun i=>vs.getD i Value.none)).size≤sizeLine+1
    rw[if_neg Bool.false_ne_true,List.size_toArray,List.length_map,Array.length_toList,h1,sizeLine_eq]
    omega))
   simp only[bne_self_eq_false,Bool.false_eq_true,if_false];refine wpAny_pure (fin p H1 _ h1 h2 h3 sm ?_ ?_)
   ·exact (J.pin _ (List.mem_append_right _ (List.mem_cons_of_mem _ List.mem_cons_self))).2.1
   ·have pl:∀i∈p.toList,i<vs.length:=z73 h2
    have s2:=Heap.SameBut.update (s'.heap.update kS (Obj.mapSeq fun _=>(#[]:Array Value))) a (Obj.mapSeq fun _=>List.toArray (p.toList.map fun i=>vs.getD i Value.none))
    refine Inv.told (t':=s'.toks) J (fun c u n1 n2 e=>(s2.2 c n1).trans ((s1.2 c n2).trans e)) ?_ ?_ h0 h0k (fun x c e=>⟨Nat.ne_of_lt (hc x c e),ckS x c e⟩) (fun q z=>⟨Nat.ne_of_lt (hp q z),pkS q ?_⟩)
    ·have:(s'.heap.update kS (Obj.mapSeq fun _=>(#[]:Array Value))).get? kS=some _:=get?_update_seq hok fun _=>#[]
     exact⟨_,(s2.2 kS (Nat.ne_of_gt akS)).trans this⟩
    ·refine⟨?_,p.toList.map fun i=>vs.getD i Value.none,_,x8B rv _ fun i hi=>by have:=pl i hi;have:=rv.length;omega,get?_update_seq na1 _⟩
     rw[List.length_map,Array.length_toList,h1,sizeLine_eq];omega
    ·rcases List.mem_append.mp z with z|z
     ·exact List.mem_append_left _ z
     ·exact List.mem_append_right _ (List.mem_cons_of_mem _ z)
  unfold ksk_end
  try dsimp only
  simp only[Bool.false_eq_true,if_false]
  have lks:kA.toList.length=vs.length:=by rw[Array.length_toList];exact lk
  by_cases h2:vs.toArray.size<2
  ·rw[if_pos h2,if_pos h2];refine wpAny_bind (wpAny_pure ?_);rw[StateT.run_pure];refine wpAny_bind (wpAny_pure ?_);dsimp only
   refine last (SortSt.mk' general' (kA.zip vs.toArray) #[] 7 none) (List.toArray (List.range vs.length)) (by simp) (Array.Perm.refl _) (fun i j hij hj=>?_) ?_ rfl
   ·have:i=j:=by rw[List.size_toArray]at h2;omega
    subst this;exact O.irr _
   ·rw[show (List.toArray (List.range vs.length)).toList=List.range vs.length from rfl,y0F]
    apply Array.toList_inj.mp
    show ((kA.zip vs.toArray).map (·.2)).toList=vs
    apply List.ext_getElem
    ·simp[lk]
    ·intro i g1 g2;simp
  ·rw[if_neg h2,if_neg h2]
   have h2':2≤vs.length:=by rw[List.size_toArray]at h2;omega
   have zk:=hkind [(kS,seqObj "list" kA e),(a,seqObj "list" #[] e1)] H1 s' ks kA.toList sm J rk rr' (by omega) (fun κ' s''=>κ'=κ/\s''=s') ⟨rfl,rfl⟩
   rw[eK]at zk
   refine wpAny_bind (wpAny_mono zk (fun κ' s'' hq=>?_) fun _ _ x=>x.elim)
   obtain⟨hq1,hq2⟩:=hq;rw[hq1,hq2]
   obtain⟨p,ep,p1,p2,p3⟩:=y9M O (n:=vs.length) (by omega)
   have kr:=kat_run (prog:=X.prog) (w:=X.w) (A:=A) (s:=s') (E:=fun _ _=>False) (κ:=κ) (ks:=kA.toList) (vs:=vs) (Q:=fun st' s''=>∃q,q.size=vs.length/\arrOf st'=q.map (kas_item (kA.toList.toArray.zip vs.toArray))/\failedOf st'=none/\q=p/\s''=s') lks h2' h64 (fun q st' s'' a1 a2 a3 a4=>⟨q,a1,a2,a3,a4⟩)
    (z77 (lt:=lt) (n:=vs.length) (Ok:=fun s''=>s''=s') (fun i j C s'' hi hj hs hC=>by
     rw[hs];unfold kas_ask;have z0:=hC s' rfl
     exact hlt [(kS,seqObj "list" kA e),(a,seqObj "list" #[] e1)] H1 s' ks kA.toList sm J rk rr' i j (by omega) (by omega) C z0) _ s' (y9N (by omega)) rfl (fun s'' hs=>⟨ep,hs⟩))
   rw[eK]at kr
   refine wpAny_bind (wpAny_mono kr ?_ fun _ _ e=>e.elim)
   rintro ⟨⟨⟩,st'⟩ s'' ⟨q,q1,q2,q3,hqp,hqs⟩
   rw[hqs];rw[hqp]at q2;rw[←eK]at q2;exact last st' p p1 p2 p3 (kat_snds lks q2) q3
end
structure CapOk(sc outer:Scope)(N:List Str)(cap:List (Option Nat))(M:List Str):Prop where
 kind:sc.kind = .function
 cell:∀y∈sc.names,y.2≠.cell
 loc:∀y∈sc.names,y.2 = .local->sc.names.lookup y.1=some .local
 fre:∀y∈sc.names,y.2 = .free->sc.names.lookup y.1=some .free
 out:∀y∈sc.names,y.2 = .free->outer.names.lookup y.1=some .cell∨outer.names.lookup y.1=some .free
 sel:∀(i j:Nat),cap[i]?=some (some j)->∃x,N[i]?=some x/\M[j]?=some x/\sc.names.lookup x=some .free
 len:cap.length=N.length
 inj:∀(i j k:Nat),cap[i]?=some (some k)->cap[j]?=some (some k)->i=j
theorem x5I{sc outer:Scope}{N:List Str}{cap:List (Option Nat)}{M:List Str}(hok:x4Q sc outer N cap M=true):CapOk sc outer N cap M:=by
 unfold x4Q z4E at hok;simp only[Bool.and_eq_true]at hok;obtain⟨⟨⟨⟨⟨⟨⟨h1,_⟩,h3⟩,h4⟩,h5⟩,h6⟩,h7⟩,h2⟩:=hok;rw[List.all_eq_true]at h2 h3 h4 h5 h7
 refine⟨by simpa using h1,fun y hy=>by simpa using h2 y hy,fun y hy e=>?_,fun y hy e=>?_,fun y hy e=>?_,fun i j e=>?_,by simpa using h6,fun i j k e1 e2=>?_⟩
 ·have z:=h3 y hy;rw[e]at z;simpa using z
 ·have z:=h4 y hy;rw[e]at z;simp only[beq_self_eq_true,if_true,Bool.and_eq_true]at z;simpa using z.1
 ·have z:=h4 y hy;rw[e]at z;simp only[beq_self_eq_true,if_true,Bool.and_eq_true,Bool.or_eq_true]at z;simpa using z.2
 ·have hi':i<cap.length:=(List.getElem?_eq_some_iff.mp e).1;have z:=h5 i (List.mem_range.mpr hi');rw[e]at z;dsimp only at z
  cases hn:N[i]? with
  | none=>rw[hn]at z;cases z
  | some x =>
   rw[hn]at z;dsimp only at z
   cases hm:M[j]? with
   | none=>rw[hm]at z;cases z
   | some y =>
    rw[hm]at z;simp only[Bool.and_eq_true,beq_iff_eq]at z;obtain⟨rfl,z2⟩:=z
    exact⟨x,rfl,rfl,z2⟩
 ·have hi':i<cap.length:=(List.getElem?_eq_some_iff.mp e1).1;have hj':j<cap.length:=(List.getElem?_eq_some_iff.mp e2).1;have z:=h7 i (List.mem_range.mpr hi');rw[List.all_eq_true]at z;have z2:=z j (List.mem_range.mpr hj');rw[e1,e2]at z2;simpa using z2
noncomputable def x6E(fb:y0->Option D)(ρ:y0):List D->Option (List D)
 | []=>some []
 | d::ds=>match fb (ρ.set 0 (some (.sh d))) with|some k=>(match x6E fb ρ ds with|some ks=>some (k::ks)|none=>none)|none=>none
theorem y6V{fb:y0->Option D}{ρ:y0}:∀{ds ks:List D},x6E fb ρ ds=some ks->ks.length=ds.length
 | [],ks,e=>by cases e;rfl
 | d::ds,ks,e=>by
  unfold x6E at e;split at e
  ·split at e
   ·rename_i ks' h;cases e;rw[List.length_cons,List.length_cons,y6V h]
   ·cases e
  ·cases e
theorem x0P{fb:y0->Option D}{ρ:y0}:∀{ds ks:List D} {i:Nat} {d k:D},x6E fb ρ ds=some ks->ds[i]?=some d->ks[i]?=some k->fb (ρ.set 0 (some (.sh d)))=some k
 | [],ks,i,d,k,_,h,_=>by simp at h
 | d'::ds,ks,i,d,k,e,h1,h2=>by
  unfold x6E at e;split at e
  ·rename_i k' hk';split at e
   ·rename_i ks' h;cases e
    cases i with
    | zero=>simp at h1 h2;subst h1;subst h2;exact hk'
    | succ i=>exact x0P (i:=i) h (by simpa using h1) (by simpa using h2)
   ·cases e
  ·cases e
noncomputable def y0S{α:Type}(le:α->α->Bool)(kk:List α)(ds:List D):List D:=((kk.zip ds).mergeSort fun a b=>le a.1 b.1).map (·.2)
noncomputable def leI(a b:Int):Bool:=decide (a≤b)
noncomputable def x7J(ks ds:List D):Option (List D):=if ds.length<64 then
  (match Z4 ks with
  | some ns=>if ns.Nodup then some (y0S leI ns ds) else none
  | none=>(match z3H ks with|some nss=>if nss.Nodup then some (y0S leL nss ds) else none|none=>none))
 else none
noncomputable def y0N(cap:List (Option Nat))(fa:y0->Option (List D))(fb:y0->Option D):y0->Option (List D):=fun ρ=>match fa ρ with
 | some ds=>(match x6E fb (y1U cap ρ) ds with|some ks=>x7J ks ds|none=>none)
 | none=>none
theorem z8Q{α:Type}{le:α->α->Prop}:∀{xs ys:List α},(∀a∈xs,∀b∈xs,le a b->le b a->a=b)->xs.Perm ys->xs.Pairwise le->ys.Pairwise le->(∀a,le a a)->xs=ys
 | [],ys,_,p,_,_,_=>(List.nil_perm.mp p).symm
 | x::xs,ys,anti,p,h1,h2,rf=>by
  cases ys with
  | nil=>exact absurd (List.perm_nil.mp p) (by simp)
  | cons y ys =>
   have hx:=List.pairwise_cons.mp h1;have hy:=List.pairwise_cons.mp h2
   have e:x=y:=by
    have m1:x∈y::ys:=p.mem_iff.mp List.mem_cons_self;have m2:y∈x::xs:=p.mem_iff.mpr List.mem_cons_self;refine anti x List.mem_cons_self y m2 ?_ ?_
    ·rcases List.mem_cons.mp m2 with z|z
     ·rw[z];exact rf x
     ·exact hx.1 y z
    ·rcases List.mem_cons.mp m1 with z|z
     ·rw[z];exact rf y
     ·exact hy.1 x z
   subst e
   rw[z8Q (fun a ha b hb=>anti a (List.mem_cons_of_mem _ ha) b (List.mem_cons_of_mem _ hb)) (List.perm_cons x |>.mp p) hx.2 hy.2 rf]
theorem y95{α β:Type}:∀{kk:List α} {ds:List β},kk.Nodup->∀a∈kk.zip ds,∀b∈kk.zip ds,a.1=b.1->a=b
 | [],_,_,a,ha,_,_,_=>by simp at ha
 | _::_,[],_,a,ha,_,_,_=>by simp at ha
 | k::kk,d::ds,nd,a,ha,b,hb,e=>by
  rw[List.zip_cons_cons]at ha hb;have nd':=List.nodup_cons.mp nd
  rcases List.mem_cons.mp ha with z|z
  ·rcases List.mem_cons.mp hb with y|y
   ·rw[z,y]
   ·exfalso
    have:=(List.of_mem_zip y).1
    rw[←e,z]at this;exact nd'.1 this
  ·rcases List.mem_cons.mp hb with y|y
   ·exfalso
    have:=(List.of_mem_zip z).1
    rw[e,y]at this;exact nd'.1 this
   ·exact y95 nd'.2 a z b y e
theorem x34{α β:Type}(dk:α)(dd:β):∀{kk:List α} {ds:List β},kk.length=ds.length->∀is:List Nat,(∀i∈is,i<kk.length)->(is.map fun i=>(kk.getD i dk,ds.getD i dd))=is.map fun i=>(kk.zip ds).getD i (dk,dd):=fun {kk ds} hl is hi=>by
 apply List.map_congr_left;intro i h;have h1:=hi i h
 have h2:i<ds.length:=by omega
 have e1:(kk.zip ds)[i]?=some (kk[i],ds[i]):=by
  rw[List.getElem?_eq_getElem (by rw[List.length_zip];omega),List.getElem_zip]
 rw[Q6 (List.getElem?_eq_getElem h1),Q6 (List.getElem?_eq_getElem h2),Q6 e1]
theorem y6P{α:Type}{le:α->α->Bool}(tr:∀a b c,le a b=true->le b c=true->le a c=true)(tot:∀a b,(le a b||le b a)=true)(anti:∀a b,le a b=true->le b a=true->a=b){kk:List α}{ds:List D}{dk:α}(hl:kk.length=ds.length)(nd:kk.Nodup){p:Array Nat}(p1:p.size=kk.length)(p2:p.Perm (List.toArray (List.range kk.length)))(p3:Up (fun i j=>!le (kk.getD j dk) (kk.getD i dk)) p kk.length):(p.toList.map fun i=>ds.getD i .non)=y0S le kk ds:=by
 have pl:=z73 p2
 have e:(p.toList.map fun i=>ds.getD i .non)=(p.toList.map fun i=>(kk.getD i dk,ds.getD i .non)).map (·.2):=by rw[List.map_map];rfl
 rw[e];unfold y0S
 congr 1
 have hz:(kk.zip ds).length=kk.length:=by rw[List.length_zip];omega
 have pm:(p.toList.map fun i=>(kk.getD i dk,ds.getD i .non)).Perm (kk.zip ds):=by
  rw[x34 dk D.non hl _ pl]
  exact x8S (us:=kk.zip ds) (by rw[hz];exact p2)
 have up:((kk.zip ds).mergeSort fun a b=>le a.1 b.1).Pairwise fun a b=>le a.1 b.1=true:=List.pairwise_mergeSort (le:=fun a b:α×D=>le a.1 b.1) (fun a b c=>tr _ _ _) (fun a b=>tot _ _) _
 refine z8Q (le:=fun a b:α×D=>le a.1 b.1=true) (fun a ha b hb h1 h2=>y95 nd a (pm.mem_iff.mp ha) b (pm.mem_iff.mp hb) (anti _ _ h1 h2)) (pm.trans (List.mergeSort_perm _ _).symm) ?_ up (fun a=>by
  have:=tot a.1 a.1
  simpa using this)
 rw[List.pairwise_map]
 exact (z5H p1 p3).imp fun h=>by simpa using h
theorem x6I(a b c:Int)(h1:leI a b=true)(h2:leI b c=true):leI a c=true:=by
 have:=of_decide_eq_true h1
 have:=of_decide_eq_true h2
 exact decide_eq_true (by omega)
theorem x0T(a b:Int):(leI a b||leI b a)=true:=by
 unfold leI;by_cases h:a≤b
 ·simp[h]
 ·simp;omega
theorem x4N(a b:Int)(h1:leI a b=true)(h2:leI b a=true):a=b:=by
 have:=of_decide_eq_true h1
 have:=of_decide_eq_true h2
 omega
theorem x6H(a b c:List Int)(h1:leL a b=true)(h2:leL b c=true):leL a c=true:=by
 unfold leL at h1 h2 ⊢;simp only[Bool.not_eq_true']at h1 h2 ⊢;exact z8C a b c h1 h2
theorem x0S(a b:List Int):(leL a b||leL b a)=true:=by
 unfold leL
 cases h:HT.lexLt b a with
 | false=>rfl
 | true=>rw[z4W b a h];rfl
theorem x4M(a b:List Int)(h1:leL a b=true)(h2:leL b a=true):a=b:=by
 unfold leL at h1 h2;simp only[Bool.not_eq_true']at h1 h2;exact y1I a b h2 h1
theorem y6Q{α:Type}{le:α->α->Bool}(tr:∀a b c,le a b=true->le b c=true->le a c=true)(tot:∀a b,(le a b||le b a)=true)(kk:List α)(dk:α):KOrd (fun i j=>!le (kk.getD j dk) (kk.getD i dk)):=by
 refine⟨fun i j h=>?_,fun i j k h1 h2=>?_⟩
 ·simp only[Bool.not_eq_true',Bool.not_eq_false']at h ⊢
  have:=tot (kk.getD i dk) (kk.getD j dk)
  rw[h,Bool.or_false]at this;exact this
 ·simp only[Bool.not_eq_false']at h1 h2 ⊢;exact tr _ _ _ h1 h2
section
variable{X:Cx}{e body:Expr}{params:Arguments}{scope:Scope}{lp kp p pos:Pos}{fa:y0->Option (List D)}{fb:y0->Option D}
theorem x3M{x pn:Str}{k:Nat}(N:List Str)(cap:List (Option Nat))(hm:X.mg "sorted" = none)(bm:BmAt X.K X.mg)(hl:z9Z X.K X.env.code x=true)(hr:Room (k+3) X.A)(ha:SQ X e fa)(he:∀A' cl f cd s H,Room k (y3B X A' N (X.env.qual++"<lambda>") scope cl f cd s H).A->SE (y3B X A' N (X.env.qual++"<lambda>") scope cl f cd s H) body fb)(hok:x4Q scope X.env.scope N cap X.N=true:=by rfl)(h0:cap[0]?=some none:=by rfl)(hp:N[0]?=some pn:=by rfl)(hpl:scope.names.lookup pn=some .local:=by rfl)(hco:scope.isCoroutine=false:=by rfl)(hgen:scope.isGenerator=false:=by rfl)(hq:X.env.qual=x++".<locals>.":=by rfl)(hdef:defaultsOf params X.env=([],[]):=by rfl)(hb:∀(cl:List (Str×Addr)) (doc pm:Value) (c:Addr) (ct u:Value),bindArgs (PySem.W.kdv_fn "<lambda>" (X.env.qual++"<lambda>") params (.expr body) scope cl .none doc pm (.ref c) ct) ⟨[u],[]⟩=pure [(pn,u)]:=by intros;rfl)(hg:Gl X "sorted":=by rfl)(hv:bootBuiltins "sorted" = some (.builtin "sorted"):=by decide +kernel)(hs:starEach [e] X.env=(false,eval e X.env)::starEach [] X.env:=by exact y9 rfl) :
  SF X (.Call (.Name "sorted" p) [e] [⟨some "key",.Lambda params body scope lp,kp⟩] pos) (y0N cap fa fb):=by
 intro pins s σ H Q I h;have C:=x5I hok;obtain⟨ρ,es,B,H0,V0,Z,e1,r,q⟩:=h;unfold y0N at e1;split at e1
 ·rename_i ds eds;split at e1
  ·rename_i ks eks
   refine wpAny_Call_Name_kw (z8X I hg hm hv ?_ (by decide) (by decide))
   have hst:backTo pos (starEach [e] X.env)=(false,eval e X.env)::backTo pos (starEach [] X.env):=by
    rw[hs];rfl
   refine PyProof.Rows.callWith_kw ?_ hst (by rw[hst];rfl)
   refine thn (K8 ha z05 hs pos pins s σ H (fun vs H1=>∃a xs,vs=[.ref a]/\K6 H H1/\(SqL X.K H1 a xs∨SqT X.K (K3 Z H1) a xs)/\j5 X.K (K3 Z H1) ds xs) I ⟨ρ,ds,B,H0,V0,Z,eds,r,fun a xs H1 s1 hq rr=>⟨a,xs,rfl,s1,hq,rr⟩⟩) fun us s1 ⟨vs,H1,I1,rvs,a,xs,hvs,sm1,hsq,rr⟩=>?_
   subst hvs;obtain⟨u,rfl,ru⟩:=z5G rvs;cases ru;have R1:=r.mono sm1
   obtain⟨cl,hcl,hc1,hc2⟩:=x25 (env:=X.env) (scope:=scope) fun y hy hf=>I1.ok.has y.1 (C.out y hy hf)
   show wpAny _ _ (evalAll ((do let v ←eval (.Lambda params body scope lp) X.env;standAt pos;pure v)::[])) _ _ s1
   refine wpAny_evalAll_cons (wpAny_bind (w34 I1 R1.tb bm hl hq hcl hdef fun f c oc ws t doc pm ct s2 H2 sm2 I2 hfc hd hws=>wpAny_bind (wpAny_standAt (wpAny_pure (wpAny_evalAll_nil ?_)))))
   show wpAny _ _ (call (.builtin "sorted") [.ref a] [(Str.ofString "key",.ref f)]) _ _ s2
   have src:∃its:List Value,Z3 xs its/\(s2.heap.IsList a its.toArray∨IsTup s2.heap a its.toArray):=by
    rcases hsq with z|z
    ·obtain⟨its,rv,pl,_⟩:=I2.list (sm2.seq z)
     exact⟨its,rv,.inl pl.isList⟩
    ·obtain⟨its,rv,pl,_⟩:=I2.tuple (j9 (w9.trans sm2) z)
     exact⟨its,rv,.inr pl⟩
   obtain⟨its,rv,hlt⟩:=src;have l1:=rr.length;have l2:=rv.length;have l3:=y6V eks;unfold x7J at e1;split at e1
   ·rename_i h64
    have hz:its.length≤sizeLine:=by rw[sizeLine_eq];omega
    generalize hfo:y6Z (X.env.qual++"<lambda>") params body scope cl doc pm c ct=fo at I2
    have g1:((s2.heap.push (seqObj "list" #[] 0)).update s2.heap.objs.size (Obj.mapSeq (·++its.toArray))).objs.size=s2.heap.objs.size+1:=by rw[Heap.size_update,size_push']
    have g2:(((s2.heap.push (seqObj "list" #[] 0)).update s2.heap.objs.size (Obj.mapSeq (·++its.toArray))).push (seqObj "list" its.toArray 0)).get? (s2.heap.objs.size+1)=some (seqObj "list" its.toArray 0):=by
     have z:=Heap.get?_push_size ((s2.heap.push (seqObj "list" #[] 0)).update s2.heap.objs.size (Obj.mapSeq (·++its.toArray))) (o:=seqObj "list" its.toArray 0) rfl;rw[g1]at z;exact z
    have g3:∀b o,s2.heap.get? b=some o->(((s2.heap.push (seqObj "list" #[] 0)).update s2.heap.objs.size (Obj.mapSeq (·++its.toArray))).push (seqObj "list" its.toArray 0)).get? b=some o:=fun b o z =>
     Heap.get?_push_of_some _ ((Heap.get?_update_other _ _ (Ne.symm (Nat.ne_of_lt (Heap.lt_size z)))).trans (Heap.get?_push_of_some _ z))
    have I3:Inv X ((s2.heap.objs.size+1,seqObj "list" its.toArray 0)::(f,fo)::pins) σ H2 { s2 with heap:=((s2.heap.push (seqObj "list" #[] 0)).update s2.heap.objs.size (Obj.mapSeq (·++its.toArray))).push (seqObj "list" its.toArray 0),toks:=s2.toks } :=
     Inv.pin1 (I2.kept (t':=s2.toks) g3) g2 (I2.hok.fresh (Nat.le_succ _)) (Nat.ne_of_gt (Nat.lt_succ_of_lt I2.lt)) (I2.nofs (Nat.le_succ _)) (fun v z=>by cases z)
    have cln:∀y c',X.env.cells.lookup y=some c'->c'<s2.heap.objs.size+1:=fun y c' z=>by
     obtain⟨v,o,ho,_⟩:=I2.cell y c' z;exact Nat.lt_succ_of_lt (Heap.lt_size ho)
    have pln:∀w∈X.pn++(f,fo)::pins,w.1<s2.heap.objs.size+1:=fun w z=>Nat.lt_succ_of_lt (Heap.lt_size (I2.pin w z).1)
    have turn:∀(i:Nat) (u:Value) (d:D),its[i]?=some u->ks[i]?=some d->∀(more:List (Addr×Obj)) (H3:Hp) (s3:Shared),K6 H2 H3->Inv X (more++(f,fo)::pins) σ H3 s3 ->
      wpAny (model X.prog X.w) X.A.in1.in1 (call (.ref f) [u]) (EP X (more++(f,fo)::pins) σ fun k' H4=>K6 H3 H4/\Rep X.K (K3 Z H4) d k') (fun _ _=>False) s3:=fun i u d hu hkd more H3 s3 sm3 I4=>by
     have hi:i<its.length:=(List.getElem?_eq_some_iff.mp hu).1
     have hd0:ds[i]?=some ds[i]:=List.getElem?_eq_getElem (by omega)
     obtain⟨v,hv',rv0⟩:=(rr.mono (v0 (sm2.trans sm3))).get hd0;obtain⟨u',hu',ru⟩:=rv.get hv';rw[hu]at hu'
     cases hu'
     have hf0:s3.heap.get? f=some fo:=(I4.pin (f,fo) (List.mem_append_right _ (List.mem_append_right _ List.mem_cons_self))).1;rw[←hfo]at hf0;obtain⟨uu,hfc'⟩:=hfc;have hr2:Room (k+1) X.A.in1.in1:=(Room.in1 (Room.in1 hr))
     exact x4P (te:=tD X.K fb) I4 I.ok.frames (hr2.mono (Nat.zero_le _)) hf0 ⟨uu,sm3 _ _ hfc'⟩ hd hws C.kind C.cell hco hgen hc1 hc2 C.fre
      (fun i j z=>let ⟨y,n1,n2,n3⟩:=C.sel i j z;⟨y,n1,n2,n3,C.out _ (PySem.mem_of_lookup n3) rfl⟩) C.len h0 hp hpl ru (hb cl doc pm c ct u) (he _ _ _ _ _ _ (hr2.deeper _))
      ⟨(y1U cap ρ).set 0 (some (.sh ds[i])),d,B,H0,V0,Z,x0P eks hd0 hkd,((y17 C.inj (r.mono (sm1.trans (sm2.trans sm3)))).set rv0),fun w H4 sm4 rw'=>⟨sm4,rw'⟩⟩
    have fin:∀{es':List D},es'=es->∀(pp:Array Nat) (H3:Hp) (s3:Shared),pp.size=its.length->pp.Perm (List.toArray (List.range its.length))->(pp.toList.map fun i=>ds.getD i .non)=es'->K6 H2 H3->H3 (s2.heap.objs.size+1)=none ->
      Inv X ((f,fo)::pins) σ (upd H3 (s2.heap.objs.size+1) (.lst (pp.toList.map fun i=>xs.getD i .non))) s3->EP X pins σ Q (.ref (s2.heap.objs.size+1)) s3:=fun {es'} ee pp H3 s3 z1 z2 z3 sm3 hn I4=>by
     have pl:=z73 z2;have sm4:=sm1.trans (sm2.trans sm3);have hn0:H (s2.heap.objs.size+1)=none:=sm4.free hn
     refine⟨.ref (s2.heap.objs.size+1),_,Inv.tail I4,rfl,q _ _ _ (sm4.trans (j7 hn)) hn0 v5 ?_⟩
     rw[←ee,←z3]
     exact (x8C (rr.mono (v0 (sm2.trans sm3))) _ fun i hi=>by have:=pl i hi;omega).mono (z1P hn (j7 hn))
    refine PyProof.Rows.call_function_entry_kw kind_sorted plain_sorted entry_sorted (ksk_s1 _ _) ?_;unfold Builtin.«sorted»;refine wpAny_bind (m:=checkCount "sorted" 1 1 _) (wpAny_pure ?_)
    have col:∀{A':Around} {E':Value->Shared->Prop} {Q':List Value->Shared->Prop},Q' its { s2 with heap:=(s2.heap.push (seqObj "list" #[] 0)).update s2.heap.objs.size (Obj.mapSeq (·++its.toArray)) }->wpAny (model X.prog X.w) A' (collect (.ref a)) Q' E' s2:=fun z=>by
     rcases hlt with y|y
     ·exact collect_list y z hz
     ·exact y0L y z hz
    refine wpAny_bind (col (wpAny_bind (wpAny_newList ?_ hz)))
    show wpAny _ _ _ _ _ { s2 with heap:=((s2.heap.push (seqObj "list" #[] 0)).update s2.heap.objs.size (Obj.mapSeq (·++its.toArray))).push (seqObj "list" its.toArray 0) }
    rw[g1];refine wpAny_bind (wpAny_holding (wpAny_call_entry_kw slot_list_sort ⟨_,g2,rfl⟩ entry_list_sort ?body (ksk_l1 _ _)))
    case body =>
     show wpAny (model X.prog X.w) X.A.in1.in1 (Builtin.«list.sort» ⟨[.ref (s2.heap.objs.size+1)],[(Str.ofString "key",.ref f)]⟩) _ _ _
     rw[ksk_t1];have h0':X.s₀.heap.objs.size≤s2.heap.objs.size+1:=Nat.le_succ_of_le I2.sz;split at e1
     ·rename_i ns hn;split at e1
      ·rename_i nd;cases e1;have hks:=Z1 hn
       have lns:ns.length=its.length:=by rw[hks,List.length_map]at l3;omega
       refine y60 (κ:=oneType') (y6Q x6I x0T ns 0) I3 (by omega) (by omega) rv h0' cln pln turn (fun more H3 s3 kx kvs sm3 I4 rk rkk g Q' q'=>?_) (fun more H3 s3 kx kvs sm3 I4 rk rkk i j hi hj C' hC=>?_)
        (fun pp H3 s3 z1 z2 z3 sm3 hn' I4=>⟨_,rfl,wpAny_pure ⟨_,rfl,fin rfl pp H3 s3 z1 z2 (y6P x6I x0T x4N (by omega) nd (by omega) (by rw[lns];exact z2) (by rw[lns];exact z3)) sm3 hn' I4⟩⟩)
       ·rw[hks,Z9]at rkk;subst rkk;have hi:IntsAre kvs ns:=z0U rk;rw[y3C hi g];exact wpAny_pure q'
       ·rw[hks,Z9]at rkk;subst rkk;have hI:IntsAre kvs ns:=z0U rk;obtain⟨ti,ei⟩:=y21 hI hi;obtain⟨tj,ej⟩:=y21 hI hj;rw[ei,ej,keyLt'_oneType];refine oneLt_int ?_
        have:(!leI (ns.getD j 0) (ns.getD i 0))=decide (ns.getD i 0<ns.getD j 0):=by
         unfold leI;by_cases z:ns.getD i 0<ns.getD j 0
         ·rw[decide_eq_true z,decide_eq_false (by omega)];rfl
         ·rw[decide_eq_false z,decide_eq_true (by omega)];rfl
        rw[this]at hC;exact hC
      ·cases e1
     ·split at e1
      ·rename_i nss hn;split at e1
       ·rename_i nd;cases e1;obtain⟨hks,hne⟩:=z5I hn
        have lns:nss.length=its.length:=by rw[hks,List.length_map]at l3;omega
        refine y60 (κ:=tuples' (Value.type "int" != Value.type "tuple")) (y6Q x6H x0S nss []) I3 (by omega) (by omega) rv h0' cln pln turn (fun more H3 s3 kx kvs sm3 I4 rk rkk g Q' q'=>?_) (fun more H3 s3 kx kvs sm3 I4 rk rkk i j hi hj C' hC=>?_)
         (fun pp H3 s3 z1 z2 z3 sm3 hn' I4=>⟨_,rfl,wpAny_pure ⟨_,rfl,fin rfl pp H3 s3 z1 z2 (y6P x6H x0S x4M (by omega) nd (by omega) (by rw[lns];exact z2) (by rw[lns];exact z3)) sm3 hn' I4⟩⟩)
        ·rw[hks]at rkk
         obtain⟨fs,t1,t2,t3⟩:=x13 I4 (fun _ _ z=>z) hne (rkk.mono w9) rk
         refine kat_kind t1 (by omega) (fun v hv=>?_) rfl q'
         obtain⟨n,t,rfl⟩:=t3 v hv;exact Looks.of_pure rfl
        ·rw[hks]at rkk;have rkk':=rkk.mono (w9 (Z:=Z));have lk1:=rkk.length;have lk2:=rk.length;rw[List.length_map]at lk1
         have gi:i<nss.length:=by omega
         have gj:j<nss.length:=by omega
         obtain⟨xi,f1,r1⟩:=rkk'.get (i:=i) (d:=D.tup (nss[i].map D.int)) (by rw[List.getElem?_map,List.getElem?_eq_getElem gi];rfl)
         obtain⟨xj,f2,r2⟩:=rkk'.get (i:=j) (d:=D.tup (nss[j].map D.int)) (by rw[List.getElem?_map,List.getElem?_eq_getElem gj];rfl)
         obtain⟨ui,k1,s1'⟩:=rk.get f1;obtain⟨uj,k2,s2'⟩:=rk.get f2;obtain⟨ai,oi,ji,ni,rfl,hoi,hci,hdi,ii⟩:=y2G I4 r1 s1';obtain⟨aj,oj,jj,nj,rfl,hoj,hcj,hdj,ij⟩:=y2G I4 r2 s2';rw[Q6 k1,Q6 k2];rw[Q6 (List.getElem?_eq_getElem gi),Q6 (List.getElem?_eq_getElem gj)]at hC
         have:(!leL nss[j] nss[i])=HT.lexLt nss[i] nss[j]:=by unfold leL;rw[Bool.not_not]
         rw[this]at hC;refine kat_lt hoi hdi hoj hdj (y53 ii ij 0 _ ?_ hC);have a1:=ii.length;have a2:=ij.length;rw[Array.length_toList]at a1 a2;rw[a1,a2]
       ·cases e1
      ·cases e1
   ·cases e1
  ·cases e1
 ·cases e1
end
end L3
namespace L3
open PySem PySem.Spec PyProof.Rows L2
theorem erase_perm{α:Type}:∀(l:List α) (i:Nat) (h:i<l.length),l.Perm (l[i]::l.eraseIdx i)
 | [],i,h=>absurd h (Nat.not_lt_zero _)
 | x::l,0,_=>List.Perm.refl _
 | x::l,i+1,h=>by
  have hi:i<l.length:=by simpa using h
  have ih:=erase_perm l i hi
  show (x::l).Perm (l[i]::x::l.eraseIdx i)
  exact (ih.cons x).trans (List.Perm.swap _ _ _)
end L3
namespace L3
open PySem PySem.Spec PyProof.Rows L2 PySem.SeqAt
theorem y6N{α:Type}:∀{xs ys:List α},xs.Nodup->ys.Nodup->(∀a,a∈xs↔a∈ys)->xs.Perm ys
 | [],ys,_,_,h=>by
  cases ys with
  | nil=>exact List.Perm.refl _
  | cons y ys=>exact absurd ((h y).mpr List.mem_cons_self) (by simp)
 | x::xs,ys,hx,hy,h=>by
  have hm:x∈ys:=(h x).mp List.mem_cons_self;obtain⟨k,hk,e⟩:=List.getElem_of_mem hm;have p:=erase_perm ys k hk;rw[e]at p;have hy':=List.nodup_cons.mp (p.nodup_iff.mp hy);have hx':=List.nodup_cons.mp hx
  refine (List.Perm.cons x (y6N hx'.2 hy'.2 fun a=>?_)).trans p.symm
  constructor
  ·intro ha
   have:=p.mem_iff.mp ((h a).mp (List.mem_cons_of_mem _ ha))
   rcases List.mem_cons.mp this with z|z
   ·rw[z]at ha;exact absurd ha hx'.1
   ·exact z
  ·intro ha
   have:=(h a).mpr (p.mem_iff.mpr (List.mem_cons_of_mem _ ha))
   rcases List.mem_cons.mp this with z|z
   ·rw[z]at ha;exact absurd ha hy'.1
   ·exact z
end L3
namespace L3
open PySem PySem.Spec PyProof.Rows L2
structure StandsL(K:PySem.W.Frag)(mg:Str->Option Value)(x:Str)(st:Stmt):Prop where
 ex:∃f fd,Fun K x x st f fd/\mg x=some (.ref f)/\z9Z K fd.code x=true
theorem w5F{P:Program}{w:World}{K:PySem.W.Frag}{mg:Str->Option Value}{base:Heap}{x:Str}{st:Stmt}{N ps:List Str}{k n:Nat}{g:y0->Option Out}(G:StandsL K mg x st)(S:FnScope N ps (z9 st))(hb:∀(kV doc pm:Value) (an:Option Addr) (cdv ct:Value) (us:List Value),us.length=ps.length->bindArgs (PySem.W.fnOf x x (g9 st) (x6 st) (z9 st) .none kV doc pm an cdv ct) ⟨us,[]⟩=pure (ps.zip us))(hn:ps.length=n)
  (hbody:∀(f:Addr) (cdv:Value) (A:Around) (outer:List Env) (s:Shared) (H:Hp) (E:XK),z9Z K cdv x=true->Room k (A.deeper (envOfC x (z9 st) s.heap.objs.size f cdv)) ->
   SSs (z42 CX0 P w K mg base N x (z9 st) f cdv A outer s H E).nox (x6 st) g):FnD P w K mg base (k+1) x ps (dFn n N g):=by
 obtain⟨f,fd,G1,G2,G3⟩:=G.ex
 refine⟨f,fd,?_,G2,G1.kp,G1.binds hb⟩
 obtain⟨oc,od,kV,doc,pm,an,cdv,ct,osl,rfl,lk,hcd⟩:=G1.ex
 refine x9D lk hcd S (fun vs H Q E h=>?_) fun A outer s H vs Q E hr h=>?_
 ·obtain⟨Z,ds,d,zs,rr,e,q⟩:=h;rw[←rr.length];unfold dFn at e;split at e
  ·rename_i hl;rw[hl,hn]
  ·cases e
 ·obtain⟨Z,ds,d,zs,rr,e,q⟩:=h
  have e2:z5M (g (z2Y N ds))=some d:=by
   unfold dFn at e;split at e
   ·exact e
   ·cases e
  refine⟨_,(hbody f cdv A outer s H E G3 hr).nox,?_⟩
  cases ho:g (z2Y N ds) with
  | none=>rw[ho]at e2;cases e2
  | some o =>
   refine⟨z2Y N ds,o,Z,H,K3 Z H,Z,ho,y16 zs rr,?_⟩
   rw[ho]at e2
   cases o with
   | rt d'=>cases e2;exact fun v H' s' rv=>q v H' s' rv
   | nx ρ=>cases e2;exact fun σ H' Z' r'=>q .non H' r'.same (Y7.mpr rfl)
   | bk _=>cases e2
   | ct _=>cases e2
theorem mem_look{α:Type}{a:Addr}{b:α}:∀{l:List (Addr×α)},l.lookup a=some b->(a,b)∈l
 | [],h=>by cases h
 | (k,v)::l,h=>by
  rw[List.lookup_cons]at h
  cases hk:a==k with
  | true =>
   rw[hk]at h
   have e:a=k:=by simpa using hk
   cases h;rw[e];exact List.mem_cons_self
  | false =>
   rw[hk]at h;exact List.mem_cons_of_mem _ (mem_look h)
noncomputable def z8P(K:PySem.W.Frag)(ts:List (Addr×Str)):Bool :=
 (K.all fun co=>match co.2 with
  | ⟨.type "code",_,.fields vs,_⟩=>(match (vs[11]?:Option Value) with
   | some (.ref P)=>(K.lookup P).isSome||!z76 vs||(match (vs[1]?:Option Value) with|some (.str q _)=>(match ts.lookup P with|some q'=>q==q'|none=>false)|_=>false)
   | _=>true)
  | _=>true)&&(ts.all fun pq=>(K.lookup pq.1).isNone&&K.any fun co=>PySem.W.codeHdIn K co.1 pq.1)
theorem y9F{K:PySem.W.Frag}{ts:List (Addr×Str)}(h:z8P K ts=true){H:Hp}(hH:∀P q,ts.lookup P=some q->H P=some (.tbl #[.str q 0])):TB K H:=fun c o vs P h1 h2 h3 h4 h5 h5'=>by
 unfold z8P at h;rw[Bool.and_eq_true]at h;have h6:=List.all_eq_true.mp h.1 (c,o) (mem_look h1);obtain⟨cls,dict,data,sl⟩:=o;simp only at h2 h3;subst h2;subst h3
 have h6:(match (vs[11]?:Option Value) with
   | some (.ref P)=>(K.lookup P).isSome||!z76 vs||(match (vs[1]?:Option Value) with|some (.str q _)=>(match ts.lookup P with|some q'=>q==q'|none=>false)|_=>false)
   | _=>true)=true:=h6
 rw[h4]at h6;dsimp only at h6;rw[h5,h5']at h6;simp only[Option.isSome_none,Bool.false_or,Bool.not_true]at h6;split at h6
 ·rename_i q t hq;split at h6
  ·rename_i q' hq'
   have e:q=q':=by simpa using h6
   subst e
   exact⟨q,t,hq,hH P q hq'⟩
  ·cases h6
 ·cases h6
theorem y2M{K:PySem.W.Frag}{ts:List (Addr×Str)}(h:z8P K ts=true){P:Addr}{q:Str}(e:ts.lookup P=some q):K.lookup P=none/\∃c,PySem.W.codeHdIn K c P=true:=by
 unfold z8P at h;rw[Bool.and_eq_true]at h;have h6:=List.all_eq_true.mp h.2 (P,q) (mem_look e);rw[Bool.and_eq_true]at h6;obtain⟨co,_,hc⟩:=List.any_eq_true.mp h6.2
 exact⟨by simpa using h6.1,co.1,hc⟩
theorem x0W{P:Program}{w:World}{K:PySem.W.Frag}{mg mb:Str->Option Value}{k:Nat}{fa a:Addr}{fd:FuncData}{x:Str}{sp:Sp}{s₁:Shared}{vs:List Value}{ns:List Int}{ts:List (Addr×Str)}(KX:K.In s₁.heap)(hns:s₁.heap.Ns mainGlobals mg)(hb:s₁.heap.Ns builtinsNs mb)(hbb:∀x:Str,x≠"__name__"->mb x=bootBuiltins x)(hlim:s₁.heap.NoLimit)(hbm:∃bm ob,mg "__builtins__" = some (.ref bm)/\bm≠builtinsNs/\s₁.heap.get? bm=some ob/\ob.cls = .type "module"/\ob.dict=some builtinsNs/\ob.data = .plain)(hg:s₁.gens = #[])(ha:s₁.heap.get? a=some { cls:=.type "list",data:=.seq vs.toArray })(hi:IntsAre vs ns)(hl:ns.length≤sizeLine)(hr:Room k callerA)(hts:z8P K ts=true)(htt:∀P q,ts.lookup P=some q->s₁.heap.get? P=some { cls:=.none,data:=.fields #[] })(F:∀base:Heap,K.In base->base.Ns mainGlobals mg->FnOk P w K mg base CX0 k fa fd [x] sp)(hbind:∀(s:Shared) (u:Value),BindsTo s fd ⟨[u],[]⟩ [(x,u)])(hsp:∀H:Hp,TB K H->SqL K H a (ns.map V.int)->sp [.ref a] H (fun v _=>v = .bl true) fun _ _ _=>False) :
  codeAny (model P w) callerA (.call (.ref fa) ⟨[.ref a],[]⟩) (fun r s'=>r = .ok (.ret (.bool true))/\OldK s₁.heap s'.heap/\s'.os=s₁.os/\AllBare s'.gens) s₁:=by
 have rv:=y2E hi;have lenV:=hi.length
 have nota:∀q,ts.lookup a≠some q:=fun q z=>by
  have:=htt a q z
  rw[ha]at this;cases this
 have core:∀H:Hp,(∀b,(∃q,ts.lookup b=some q/\H b=some (.tbl #[.str q 0]))∨(ts.lookup b=none/\(H b=none∨(b=a/\K.lookup a=none/\H a=some (.frz { cls:=.type "list",data:=.seq vs.toArray } (.lst (ns.map V.int)))))))->SqL K H a (ns.map V.int) ->
   codeAny (model P w) callerA (.call (.ref fa) ⟨[.ref a],[]⟩) (fun r s'=>r = .ok (.ret (.bool true))/\OldK s₁.heap s'.heap/\s'.os=s₁.os/\AllBare s'.gens) s₁:=fun H hH hS=>by
  have hok:HOk P w H s₁.heap:=fun b u z=>by
   rcases hH b with⟨q,e1,e2⟩|⟨e1,e2|⟨rfl,_,e2⟩⟩
   ·rw[e2]at z;cases z
    exact⟨#[],htt b q e1,trivial,fun p v c=>by cases c⟩
   ·rw[e2]at z;cases z
   ·rw[e2]at z;cases z
    exact⟨ha,by rw[List.length_map];exact hl,vs,_,rv,ha⟩
  have base_of:∀{b:Addr} {o:Obj},s₁.heap.get? b=some o->H b=none->(x4W s₁.heap H).get? b=some o:=fun e n=>x4V e n
  have noA:∀{b:Addr} {o:Obj} {es:Array DictEntry} {ep:Nat},s₁.heap.get? b=some o->o.data = .dict es ep->H b=none:=fun {b o es ep} e d=>by
   rcases hH b with⟨q,e1,e2⟩|⟨e1,e2|⟨rfl,_,e2⟩⟩
   ·have:=htt b q e1
    rw[e]at this;cases this;cases d
   ·exact e2
   ·rw[ha]at e;cases e;cases d
  have noM:∀{b:Addr} {o:Obj},s₁.heap.get? b=some o->o.data = .plain->H b=none:=fun {b o} e d=>by
   rcases hH b with⟨q,e1,e2⟩|⟨e1,e2|⟨rfl,_,e2⟩⟩
   ·have:=htt b q e1
    rw[e]at this;cases this;cases d
   ·exact e2
   ·rw[ha]at e;cases e;cases d
  have nsK:∀{b:Addr} {m:Str->Option Value},s₁.heap.Ns b m->(x4W s₁.heap H).Ns b m:=fun {b m} ⟨o,es,ep,e,d,r⟩=>⟨o,es,ep,base_of e (noA e d),d,r⟩
  have hKb:K.In (x4W s₁.heap H):=fun b o e=>base_of (KX b o e) (by
   rcases hH b with⟨q,e1,e2⟩|⟨e1,e2|⟨rfl,e3,e2⟩⟩
   ·rw[(y2M hts e1).1]at e;cases e
   ·exact e2
   ·rw[e3]at e;cases e)
  have hM:Mod K mg (x4W s₁.heap H):=⟨hKb,nsK hns,⟨mb,nsK hb,hbb⟩,(let ⟨mc,h1,h2⟩:=hlim;⟨mc,nsK h1,h2⟩),let ⟨bm,ob,m1,m2,m3,m4,m5,m6⟩:=hbm;⟨bm,ob,m1,m2,base_of m3 (noM m3 m6),m4,m5,m6⟩⟩
  have e0:Env0 P w K mg (x4W s₁.heap H) callerA [] s₁ H:=⟨rfl,hM,fun b o e=>x8P e,Nat.le_of_eq (x1F _ _),trivial,fun b hb=>absurd (show b∈([]:List Addr) from hb) (by simp),hok,.of_eq hg⟩
  have tb:TB K H:=y9F hts fun Q q e=>by
   rcases hH Q with⟨q',e1,e2⟩|⟨e1,_⟩
   ·rw[e]at e1;cases e1;exact e2
   ·rw[e]at e1;cases e1
  refine codeAny_mono ((F _ hKb (nsK hns)).run callerA [] s₁ H ⟨[.ref a],[]⟩ [.ref a] [.ref a] _ _ hr e0 (hbind s₁ (.ref a)) (.cons rfl .nil) (hsp H tb hS)) fun r s' h=>?_
  cases r with
  | error e=>exact False.elim h
  | ok fl =>
   cases fl with
   | next=>exact False.elim h
   | brk=>exact False.elim h
   | cont=>exact False.elim h
   | ret u =>
    obtain⟨v,H',os,bare,un,hok',r',q⟩:=h;have q':v = .bl true:=q
    subst q'
    obtain rfl:u=Value.bool true:=r'
    refine⟨rfl,⟨fun b o e=>?_,fun b o e=>un.there b o e (by simp)⟩,os,bare⟩
    rcases hH b with⟨q,e1,e2⟩|⟨e1,e2|⟨rfl,_,e2⟩⟩
    ·obtain⟨more,z2⟩:=un.tbls b _ e2;obtain⟨qs,z3,_⟩:=hok' b _ z2;have e3:=htt b q e1;rw[e]at e3;cases e3;obtain⟨c,hc⟩:=(y2M hts e1).2;have ct:=(PySem.W.CodeHd.tab (PySem.W.codeHd_of_K KX hc) e).isCodeTable
     exact .inr (.inl ⟨ct,rfl,#[],qs,rfl,by rw[z3];simp⟩)
    ·exact .inl (un.keep b o e e2 (by intro z;exact absurd (show b∈([]:List Addr) from z) (by simp)) (by simp))
    ·have z2:=un.frzs b _ _ e2;obtain⟨z3,_⟩:=hok' b _ z2;rw[ha]at e;cases e;exact .inl z3
 cases hk:K.lookup a with
 | some o =>
  have e:=KX a o hk;rw[ha]at e;cases e
  refine core (fun b=>(ts.lookup b).map fun q=>.tbl #[.str q 0]) (fun b=>?_) (.inr ⟨_,vs.toArray,_,hk,rfl,rfl,rfl,by rw[List.size_toArray,lenV];exact hl,by simpa using rv⟩)
  cases hb':ts.lookup b with
  | none=>exact .inr ⟨rfl,.inl rfl⟩
  | some q=>exact .inl ⟨q,rfl,rfl⟩
 | none =>
  refine core (fun b=>if b=a then some (.frz { cls:=.type "list",data:=.seq vs.toArray } (.lst (ns.map V.int))) else (ts.lookup b).map fun q=>.tbl #[.str q 0]) (fun b=>?_) (.inl (.inr ⟨{ cls:=.type "list",data:=.seq vs.toArray },if_pos rfl⟩))
  by_cases hba:b=a
  ·subst hba;refine .inr ⟨?_,.inr ⟨rfl,hk,if_pos rfl⟩⟩
   cases hb':ts.lookup b with
   | none=>rfl
   | some q=>exact absurd hb' (nota q)
  ·cases hb':ts.lookup b with
   | none=>exact .inr ⟨rfl,.inl (if_neg hba)⟩
   | some q=>exact .inl ⟨q,rfl,if_neg hba⟩
theorem x37{l:PySem.W.OpenLaw}{n k:Nat}{q:Program}{loose:List Str}{XP:(Str->Option Value)->Heap->Prop}{YP:World->Heap->Prop}{d:DefRec}{K:Params->PySem.W.Frag}{sp:World->Sp}{x:Str}(ts:List (Addr×Str))(hn:l.most=some n)(hn2:n≤sizeLine)(hdf:d.params.defaults=[])(hr:Room k callerA)(hY:∀(w:World) (h:Heap),YP w h->(K w.params).In h)(hT:∀(w:World) (h:Heap),YP w h->∀P q,ts.lookup P=some q->h.get? P=some { cls:=.none,data:=.fields #[] })(hK:∀w:World,z8P (K w.params) ts=true)
  (F:∀(w:World) (mg:Str->Option Value) (fa:Addr) (h:Heap),(K w.params).In h->h.Ns mainGlobals mg->mg d.name=some (.ref fa) ->
   ∃fd:FuncData,(∀(s:Shared) (u:Value),BindsTo s fd ⟨[u],[]⟩ [(x,u)]) /\
    ∀base:Heap,(K w.params).In base->base.Ns mainGlobals mg->FnOk l.prog w (K w.params) mg base CX0 k fa fd [x] (sp w))
  (hsp:∀(w:World) (H:Hp) (a:Addr) (ns:List Int),ns.length≤n->TB (K w.params) H->SqL (K w.params) H a (ns.map V.int)->sp w [.ref a] H (fun v _=>v = .bl true) fun _ _ _=>False) :
  PySem.W.WalkO q loose XP YP l.row.toRowW d [] (fun f vs=>PySem.call f vs):=by
 refine Att.attach_call hn hdf fun w s₀ s₁ mg mb fa o pm cd doc a vs ns G Y ho hd hcd hmg hobj hints hlen hg=>?_
 have KX:=hY w _ Y;obtain⟨fd,hb,hF⟩:=F w mg fa _ KX G.T.g hmg
 exact x0W KX G.T.g G.T.b G.T.builtins G.T.nolimit G.T.bmain hg hobj hints (Nat.le_trans hlen hn2) hr (hK w) (fun P q e=>hT w _ Y P q e) hF hb (fun H hO hS=>hsp w H a ns hlen hO hS)
noncomputable def dAddS:D->D->Option D:=fun x y=>match x,y with|.str a,.str b=>if a.length+b.length≤LIM then some (.str (a++b)) else none|_,_=>none
section
variable{X:Cx}{a b:Expr}{fa fb:y0->Option D}{pos:Pos}
noncomputable def dLenS(f:y0->Option D):y0->Option D:=fun ρ=>match f ρ with|some (.str z)=>if z.length≤LIM then some (.int z.length) else none|_=>none
noncomputable def y9R(i:Int):Bool:=decide (i.natAbs<2 ^ 64)
theorem y9Q{i:Int}(h:y9R i=true):i.natAbs.log2<1920:=by
 have h':i.natAbs<2 ^ 64:=of_decide_eq_true h;by_cases z:i.natAbs=0
 ·rw[z];decide
 ·exact Nat.lt_trans ((Nat.log2_lt z).mpr h') (by decide)
end
noncomputable abbrev TJ:=St->Hp->Str->VK->Prop
noncomputable def PJ(X:Cx)(es:List Expr)(t:TJ):Prop :=
 ∀(pins:List (Addr×Obj)) (s:Shared) (σ:St) (H:Hp) (acc:Str) (Q:VK),Inv X pins σ H s->t σ H acc Q->wpAny (model X.prog X.w) X.A (joinParts acc (evalEach es X.env)) (EP X pins σ Q) X.xe s
noncomputable def tJ(K:PySem.W.Frag)(f:y0->Str->Option D):TJ:=fun σ H acc Q=>∃ρ d B H0 V0 Z,f ρ acc=some d/\SR K B H0 V0 H Z σ ρ/\∀v H',K6 H H'->Rep K (K3 Z H') d v->Q v H'
noncomputable abbrev SJ(X:Cx)(es:List Expr)(f:y0->Str->Option D):Prop:=PJ X es (tJ X.K f)
noncomputable def y3O:y0->Str->Option D:=fun _ acc=>if acc.length≤LIM then some (.str acc) else none
noncomputable def z5D(f:y0->Option D)(k:y0->Str->Option D):y0->Str->Option D:=fun ρ acc=>match f ρ with|some (.str y)=>if (acc++y).length≤LIM then k ρ (acc++y) else none|_=>none
noncomputable def z7A(k:y0->Str->Option D):y0->Option D:=fun ρ=>k ρ Str.empty
section
variable{X:Cx}{e a b:Expr}{es:List Expr}{f:y0->Option D}{k:y0->Str->Option D}{pos:Pos}
theorem w0W:SJ X [] y3O:=fun pins s σ H acc Q I ⟨ρ,d,B,H0,V0,Z,e,r,q⟩=>by
 unfold y3O at e;split at e
 ·rename_i hl;cases e;exact joinParts_nil ⟨.str _,H,I.tok _,⟨_,rfl⟩,q _ H (K6.refl H) (Y5.mpr rfl)⟩ (z5A hl)
 ·cases e
theorem x7N(he:SE X e f)(hr:SJ X es k):SJ X (e::es) (z5D f k):=fun pins s σ H acc Q I ⟨ρ,d,B,H0,V0,Z,e,r,q⟩=>by
 unfold z5D at e;split at e
 ·rename_i y ey;split at e
  ·rename_i hl
   refine joinParts_cons (thn (he pins s σ H (fun v H1=>v = .str y/\K6 H H1) I ⟨ρ,_,B,H0,V0,Z,ey,r,fun v H1 s1 r1=>⟨Y5.mp r1,s1⟩⟩) fun u s1 ⟨v,H1,I1,rv,ev,sm⟩=>?_)
   subst ev;obtain⟨t,rfl⟩:=rv
   exact⟨z5A hl,hr pins s1 σ H1 (acc++y) Q I1 ⟨ρ,d,B,H0,V0,Z,e,r.mono sm,fun v H' s' rr=>q v H' (sm.trans s') rr⟩⟩
  ·cases e
 ·cases e
theorem y9T(h:SJ X (a::b::es) k):SE X (.JoinedStr (a::b::es) pos) (z7A k):=fun pins s σ H Q I hq =>
 JoinedStr_many (h pins s σ H Str.empty Q I hq)
end
noncomputable def z0I(ns:List Int):List Str:=ns.map fun n=>Str.ofString (toString n)
noncomputable def y1S(f:y0->Option D):y0->Option D:=fun ρ=>match f ρ with
 | some (.tup ds)=>(match Z4 ds with|some ns=>if ns.all y9R=true/\(tupleText (z0I ns)).length≤LIM then some (.str (tupleText (z0I ns))) else none|none=>none)
 | _=>none
theorem y69{prog:Program}{w:World}:∀{ns:List Int} {us:List Value},ns.all y9R=true->Z3 (ns.map V.int) us->ReprAll prog w us (z0I ns)
 | [],us,_,r=>by rw[List.map_nil]at r;cases r;exact .nil
 | n::ns,us,h,r=>by
  rw[List.all_cons,Bool.and_eq_true]at h;rw[List.map_cons]at r
  cases r with
  | cons r1 r2 =>
   obtain⟨t,rfl⟩:=r1;exact .cons (ReprIs.int t (y9Q h.1)) (y69 h.2 r2)
section
variable{X:Cx}{e:Expr}{f:y0->Option D}{pos:Pos}
theorem x7Z{k:Nat}(hr:Room k X.A)(h:SE X e f):SE X (.FormattedValue e 114 none pos) (y1S f):=fun pins s σ H Q I ⟨ρ,d,B,H0,V0,Z,e,r,q⟩=>by
 unfold y1S at e;split at e
 ·rename_i ds ed;split at e
  ·rename_i ns en;split at e
   ·rename_i hc;cases e
    have:=Z1 en
    subst this
    refine wpAny_FormattedValue_repr (thn (h pins s σ H (fun v H1=>K6 H H1/\Rep X.K (K3 Z H1) (.tup (ns.map D.int)) v) I ⟨ρ,_,B,H0,V0,Z,ed,r,fun v H1 s1 r1=>⟨s1,r1⟩⟩) fun u s1 ⟨v,H1,I1,rv,sm,rr⟩=>?_)
    obtain⟨a,xs,rfl,h1,h2⟩:=u0.mp rr;cases rv;rw[Z9]at h2;subst h2;obtain⟨its,rv,ht,hz⟩:=I1.tuple (j9 w9 h1);obtain⟨o,ho,hcl,n,hd⟩:=id ht
    refine wpAny_pyReprObj_tuple (g:=[]) ht.typeIs hr.gd (fun c hc=>absurd hc (by simp)) (hr.units0) ho hd (ts:=z0I ns) (y69 hc.1 (by simpa using rv)) (fun u tk=>?_) (z5A hc.2)
    exact formatField_str (fun t' tk=>⟨.str _,H1,I1.tok _,⟨_,rfl⟩,q _ H1 sm (Y5.mpr rfl)⟩) (z5A hc.2)
   ·cases e
  ·cases e
 ·cases e
end
end L3
namespace HT
open PySem PyProof.Rows
section
variable{prog:Program}{w:World}{A:Around}{E:Value->Shared->Prop}{s:Shared}
theorem y80(n:Nat):Builtin.Slice.slicePlaces ((n:Int)-1) (-1) (-1)=n:=by
 unfold Builtin.Slice.slicePlaces
 have h1:¬(-1:Int)>0:=by omega
 simp only[h1,if_false,Int.neg_neg,Int.ediv_one]
 split<;>omega
theorem y5N{sl:Addr}{vk:Value}{n:Nat}{Q:Int×Int×Nat->Shared->Prop}(hs:s.heap.IsSliceOf sl .none .none vk)(pk:IsPart vk (some (-1)))(h:Q ((n:Int)-1,-1,n) s) :
  wpAny (model prog w) A (Builtin.Slice.sliceApplied (.ref sl) (pure (n:Int))) Q E s:=by
 obtain⟨os,hos,hcs,hds⟩:=id hs;unfold Builtin.Slice.sliceApplied Builtin.Slice.sliceFields;refine wpAny_bind (wpAny_bind (wpAny_field hos hds (x:=.none) rfl (wpAny_bind (wpAny_field hos hds (x:=.none) rfl (wpAny_bind (wpAny_field hos hds (x:=vk) rfl (wpAny_pure ?_)))))));refine wpAny_bind (z3K pk ?_)
 show wpAny _ _ (if ((-1:Int)==0)=true then _ else _) _ _ s
 rw[if_neg (by decide)]
 refine wpAny_bind (z3K .none (wpAny_bind (z3K .none (wpAny_bind (wpAny_pure ?_)))))
 show wpAny _ _ (pure ((n:Int)-1,(-1:Int),Builtin.Slice.slicePlaces ((n:Int)-1) (-1) (-1))) _ _ s
 rw[y80];exact wpAny_pure h
theorem x45(xs:Array Value):((List.range xs.size).filterMap fun (m:Nat)=>xs[(((xs.size:Int)-1)+(m:Int)*(-1)).toNat]?).toArray=xs.toList.reverse.toArray:=by
 have e:(fun (m:Nat)=>xs[(((xs.size:Int)-1)+(m:Int)*(-1)).toNat]?)=((fun x=>xs[x]?)∘fun m=>xs.size-1-m):=by
  funext m
  have:(((xs.size:Int)-1)+(m:Int)*(-1)).toNat=xs.size-1-m:=by omega
  show xs[_]?=xs[_]?
  rw[this]
 rw[e,←List.filterMap_map,PySem.W.krv_range,List.filterMap_reverse,PySem.W.krv_all]
theorem getItem_tuple_rev{t sl:Addr}{items:Array Value}{vk:Value}{Q:Value->Shared->Prop}(ht:IsTup s.heap t items)(hs:s.heap.IsSliceOf sl .none .none vk)(pk:IsPart vk (some (-1)))(h:Q (.ref s.heap.objs.size) { s with heap:=s.heap.push { cls:=.type "tuple",data:=.seq items.toList.reverse.toArray } })(hsz:items.size≤sizeLine):wpAny (model prog w) A (getItem (.ref t) (.ref sl)) Q E s:=by
 have hk:sizeOk (.seq items.toList.reverse.toArray):=by
  show items.toList.reverse.toArray.size≤sizeLine
  simpa using hsz
 obtain⟨os,hos,hcs,hds⟩:=id hs;have hTs:s.TypeIs (.ref sl) "slice":=⟨os,hos,hcs⟩;unfold getItem
 try with_reducible refine wpAny_holding ?_
 first|refine wpAny_bind (wpAny_pure ?_)|skip
 refine wpAny_bind (wpAny_sequenceKey ht.typeIs (by decide) ?_)
 refine wpAny_bind (wpAny_callSpecial?_slot (name:=Str.ofString "__getitem__") ht.typeIs PyProof.Rows.slot_tuple_getitem
  (wpAny_call_entry PyProof.Rows.slot_tuple_getitem ht.typeIs entry_tuple_getitem ?_ (args_tuple_getitem _ _)))
 show wpAny _ _ (Builtin.Tuple.tupleItemsOf (.ref t) >>= _) _ _ s
 refine wpAny_bind (tupleItemsOf_ ht ?_);refine wpAny_bind (wpAny_typeOf hTs ?_)
 rw[if_pos (by decide)]
 refine wpAny_bind (y5N hs pk ?_)
 have hno:¬((((items.size:Int)-1)==0&&(-1:Int)==1&&items.size==items.size)=true):=by
  intro q;rw[Bool.and_eq_true,Bool.and_eq_true]at q
  exact absurd (eq_of_beq q.1.2) (by decide)
 show wpAny _ _ (if (((items.size:Int)-1)==0&&(-1:Int)==1&&items.size==items.size)=true then _ else _) _ _ s
 rw[if_neg hno,x45]
 first
  | exact wpAny_bind (m:=Builtin.Tuple.tupleExact _) (wpAny_newObj_type (wpAny_pure ⟨_,rfl,wpAny_pure h⟩) hk)
  | exact wpAny_bind (m:=Builtin.Tuple.tupleExact _) (wpAny_newObj_type (wpAny_bind (wpAny_pure (wpAny_pure ⟨_,rfl,wpAny_pure h⟩))) hk)
  | exact wpAny_bind (wpAny_bind (m:=Builtin.Tuple.tupleExact _) (wpAny_newObj_type (wpAny_pure (wpAny_pure ⟨_,rfl,wpAny_pure h⟩)) hk))
  | exact wpAny_bind (wpAny_bind (m:=Builtin.Tuple.tupleExact _) (wpAny_newObj_type (wpAny_pure ⟨_,rfl,wpAny_pure h⟩) hk))
end
end HT
namespace L3
open PySem PySem.Spec PyProof.Rows L2
theorem y5V:∀{xs:List V} {us:List Value},Z3 xs us->Z3 xs.reverse us.reverse
 | _,_,.nil=>.nil
 | _,_,.cons (a:=a) (b:=b) r t=>by
  rw[List.reverse_cons,List.reverse_cons];exact (y5V t).append (.cons r .nil)
theorem y6B{K:PySem.W.Frag}{H:Hp}:∀{ds:List D} {xs:List V},j5 K H ds xs->j5 K H ds.reverse xs.reverse
 | [],_,h=>by rw[J6]at h;subst h;exact j5.nil
 | d::ds,_,h=>by
  obtain⟨v,vs,rfl,h2,h3⟩:=u4.mp h;rw[List.reverse_cons,List.reverse_cons];exact (y6B h3).append (j5.one h2)
section
variable{X:Cx}{e k:Expr}{pos p2:Pos}
noncomputable def x2Y(fa fk:y0->Option D):y0->Option D:=fun ρ=>match fa ρ with
 | some (.tup ds)=>(match fk ρ with|some (.int i)=>if i = -1 then some (.tup ds.reverse) else none|_=>none)
 | _=>none
theorem w2L{te tk:TE}(he:PE X e te)(hk:PE X k tk):PE X (.Subscript e (.Slice none none (some k) p2) pos)
  (fun σ H Q=>te σ H fun x H1=>tk σ H1 fun y H2=>y = .int (-1)/\∃a xs,x = .ref a/\SqT X.K H2 a xs/\∀p,H2 p=none->Q (.ref p) (upd H2 p (.tup xs.reverse))):=by
 intro pins s σ H Q I h
 refine Subscript_ (thn (he pins s σ H _ I h) fun v s1 ⟨x,H1,I1,r1,q1⟩=>?_)
 refine wpAny_Slice ?_;rw[evalPart_none];refine wpAny_pure ?_;refine wpAny_pure ?_;rw[evalPart_some]
 refine thn (hk pins s1 σ H1 _ I1 q1) fun vk s3 ⟨y,H3,I3,r3,hy,a,xs,hx,sq,q⟩=>?_
 subst hy hx
 obtain⟨t,rfl⟩:=r3;cases r1
 have I4:Inv X pins σ H3 { s3 with heap:=s3.heap.push { cls:=.type "slice",data:=.fields #[.none,.none,.int (-1) t] } }:=I3.kept (t':=s3.toks) fun b ob q=>Heap.get?_push_of_some _ q
 obtain⟨its,r,ht,hz⟩:=I4.tuple sq;have hv:=Z3.length r
 show wpAny (model X.prog X.w) X.A (subscriptTail e (.Slice none none (some k) p2) (.ref a) (.ref s3.heap.objs.size)) (EP X pins σ Q) X.xe { s3 with heap:=s3.heap.push { cls:=.type "slice",data:=.fields #[.none,.none,.int (-1) t] } }
 refine tail_any (T:="tuple") (ops:=[.ref a,.ref s3.heap.objs.size]) ht.typeIs PyProof.Rows.slot_tuple_getitem.lookup ?_ (by with_unfolding_all rfl)
 refine HT.getItem_tuple_rev ht (Heap.IsSliceOf.new ..) (.int _ _) ?_ (by rw[List.size_toArray,←hv];exact hz)
 refine⟨.ref _,_,I4.laid (t':=s3.toks) (o:=.tup xs.reverse) (fun b ob q=>Heap.get?_push_of_some _ q) (Nat.le_refl _) ?_,rfl,q _ (I4.hok.fresh (Nat.le_refl _))⟩
 exact⟨by rw[List.length_reverse];exact hz,_,y5V r,x2R.new _ _⟩
theorem w1A{fa fk:y0->Option D}(ha:SE X e fa)(hk:SE X k fk):SE X (.Subscript e (.Slice none none (some k) p2) pos) (x2Y fa fk) :=
 u5 (w2L ha hk) fun σ H Q ⟨ρ,d,B,H0,V0,Z,e,r,q⟩=>by
  unfold x2Y at e;split at e
  ·rename_i ds ed;split at e
   ·rename_i i ei;split at e
    ·rename_i hi;cases e
     refine⟨ρ,_,B,H0,V0,Z,ed,r,fun v H1 s1 r1=>⟨ρ,_,B,H0,V0,Z,ei,r.mono s1,fun u H2 s2 r2=>?_⟩⟩
     rw[v4]at r2
     subst r2 hi
     obtain⟨a,xs,rfl,h1,h2⟩:=u0.mp (r1.mono (v0 s2))
     refine⟨rfl,a,xs,rfl,j9 w9 h1,fun p hp=>?_⟩
     have sn:=j7 (o:=HO.tup xs.reverse) hp;refine q _ _ (s1.trans (s2.trans sn)) (u0.mpr ⟨p,xs.reverse,rfl,SqT.of ?_,y6B (h2.mono (v0 sn))⟩);rw[K2 (((r.mono s1).mono s2).newer hp)];exact v5
    ·cases e
   ·cases e
  ·cases e
end
noncomputable def x6T(C:Value)(fr:Addr->Prop)(n:Bool)(H:Hp)(h:Heap)(e:Addr):Prop :=
 fr e/\H e=none/\∃oe vs tb,h.get? e=some oe/\oe.cls=C/\oe.dict=none/\oe.data = .fields vs/\vs[1]?=some tb /\
  ((n=false/\tb = .none)∨∃T oT ts,tb = .ref T/\T≠e/\fr T/\H T=none/\h.get? T=some oT/\oT.data = .fields ts/\3<ts.size)
theorem x6T.mono{C:Value}{fr fr':Addr->Prop}{n:Bool}{H:Hp}{h:Heap}{e:Addr}(x:x6T C fr n H h e)(k:∀b,fr b->fr' b):x6T C fr' n H h e:=by
 obtain⟨x1,x2,oe,vs,tb,h1,h2,h3,h4,h5,h6⟩:=x
 refine⟨k _ x1,x2,oe,vs,tb,h1,h2,h3,h4,h5,?_⟩
 rcases h6 with h6|⟨T,oT,ts,y1,y2,y3,y4⟩
 ·exact .inl h6
 ·exact .inr ⟨T,oT,ts,y1,y2,k _ y3,y4⟩
noncomputable def Nw(X:Cx)(pins:List (Addr×Obj))(b:Addr):Prop:=(b∈X.ex∨X.s₀.heap.get? b=none)/\∀p∈X.pn++pins,p.1≠b
structure FlyI(X:Cx)(pins:List (Addr×Obj))(σ:St)(H:Hp)(C:Value)(n:Bool)(a:Addr)(s:Shared):Prop where
 inv:Inv X pins σ H s
 fly:x6T C (Nw X pins) n H s.heap a
noncomputable def xeF(X:Cx)(C:Value)(n:Bool)(e:Value)(s:Shared):Prop:=∃a σ H,e = .ref a/\TB X.K H/\FlyI X [] σ H C n a s
theorem y06{h:Heap}{a:Addr}{o:Obj}{vs:Array Value}{i:Nat}{x:Value}(ho:h.get? a=some o)(hd:o.data = .fields vs) :
  ∃o',(h.update a (Obj.mapFields (·.setIfInBounds i x))).get? a=some o'/\o'.cls=o.cls/\o'.dict=o.dict/\o'.data = .fields (vs.setIfInBounds i x):=by
 have hd':=Obj.data_mapFields hd (·.setIfInBounds i x)
 refine⟨_,Heap.get?_update_self _ ho (Obj.isFreed_of_fields hd'),Obj.cls_mapFields _ _,?_,hd'⟩
 obtain⟨c,d,dt,sl⟩:=o;dsimp only at hd;subst hd;rfl
theorem z0Y{h:Heap}{a b:Addr}{f:Obj->Obj}(ne:b≠a):(h.update a f).get? b=h.get? b:=Heap.get?_update_other _ _ (Ne.symm ne)
section
variable{X:Cx}{pins:List (Addr×Obj)}{σ:St}{H:Hp}{s:Shared}{h':Heap}
theorem z91{ch:List Addr}(I:Inv X pins σ H s)(hch:∀b∈ch,Nw X pins b/\H b=none/\∃o vs,s.heap.get? b=some o/\o.data = .fields vs)(mv:∀b o,s.heap.get? b=some o->b∉ch->b∉frs X.stack->h'.get? b=some o)(mf:∀b o,s.heap.get? b=some o->b∈frs X.stack->∃sl,h'.get? b=some { o with slots:=sl }) :
  Inv X pins σ H { s with heap:=h' }:=by
 have nf:∀b∈ch,b∉frs X.stack:=fun b hb z=>by
  obtain⟨_,_,o,vs,e,d⟩:=hch b hb;obtain⟨_,o',e',d'⟩:=I.stack.mem z;rw[e]at e';cases e'
  exact d' vs d
 have any:∀b o,s.heap.get? b=some o->b∉ch->∃sl,h'.get? b=some { o with slots:=sl }:=fun b o e n=>by
  by_cases z:b∈frs X.stack
  ·exact mf b o e z
  ·exact⟨o.slots,mv b o e n z⟩
 have hL:X.env.locals∉ch:=fun z=>by
  obtain⟨_,_,o,vs,e,d⟩:=hch _ z;obtain⟨m,⟨o',es,ep,e',d',_⟩,_⟩:=I.loc;rw[e]at e';cases e'
  rw[d]at d';cases d'
 refine I.stepN (g':=s.gens) (d':=s.drawn) (t':=s.toks) (ch:=ch) (fun b hb=>⟨(hch b hb).1.1,fun z=>hL (by rw[←z];exact hb),fun x c e z=>?_,(hch b hb).1.2⟩)
  (fun b o n1 n2 n3 e _=>?_) (fun b o _ _ n e _=>any b o e n) (fun _ _ _ _ n=>n) (fun b o n e=>let ⟨_,q⟩:=any b o e n;⟨_,q⟩) (fun _ _ e=>e) (fun _ _ _ e=>e) (fun b ps e=>⟨#[],by rw[e];simp⟩) (fun m hm=>?_) (fun b u e=>?_) I.bare
 ·obtain⟨_,_,o,vs,e1,d⟩:=hch b hb;obtain⟨v,o',e',d'⟩:=I.cell x c e;rw[z,e1]at e';cases e'
  rw[d]at d';cases d'
 ·exact mv b o e n3 fun z=>by
   rcases List.mem_cons.mp (I.stkSub b z) with q|q
   ·exact n1 q
   ·exact n2 q
 ·obtain⟨o,es,ep,ho,r⟩:=hm;obtain⟨sl,q⟩:=any _ o ho hL
  exact⟨_,es,ep,q,r⟩
 ·refine (I.hok b u e).stay (fun c v hc q=>?_) (fun _ q=>q) (fun _ _ q=>q) fun _ _ _ q=>q
  have hs:∃w,H c=some w:=by
   rcases hc with rfl|hc
   ·exact⟨_,e⟩
   ·exact⟨_,hc⟩
  obtain⟨w,hw⟩:=hs
  refine mv c v q (fun z=>?_) fun z=>?_
  ·rw[(hch c z).2.1]at hw;cases hw
  ·rw[I.stkFree c z]at hw;cases hw
end
section
variable{M:Model}{A:Around}{E:Value->Shared->Prop}{s:Shared}
theorem x53{base:Heap}{env env0:Env}{outer:List Env}{L:Addr}{Q:Value->Shared->Prop}(hfr:A.frames=some (env0::outer))(hl:s.heap.FunFrames base (env0::outer))(hf0:env0.frame=some L)(hf:env.frame=some L)(h:∀h',Heap.SlotsOnly (frs (env0::outer)) s.heap h'->Q (.ref L) { s with heap:=h' }):wpAny M A (PySem.frameOf env) Q E s:=by
 unfold PySem.frameOf;refine wpAny_bind (wpAny_frameEnvs hfr ?_)
 rw[show ((env0::outer).dropWhile fun x=>x.frame != env.frame)=env0::outer by simp[List.dropWhile,hf0,hf]]
 unfold frameObject
 refine wpAny_bind (wpAny_bind (wpAny_readyFrames_fun hl fun h1 hs1=>wpAny_pure ?_))
 rw[hf0];exact wpAny_pure (h h1 hs1)
theorem x58{base:Heap}{env env0:Env}{outer:List Env}{L e:Addr}{oe:Obj}{vs:Array Value}{head:Value}{hn:Bool}{Q:Unit->Shared->Prop}(hfr:A.frames=some (env0::outer))(hl:s.heap.FunFrames base (env0::outer))(hf0:env0.frame=some L)(hf:env.frame=some L)(he:s.heap.get? e=some oe)(hd:oe.data = .fields vs)(hsz:1<vs.size)
  (h:∀(h':Heap) (T:Addr) (oT:Obj) (ts:Array Value),(∀b o,s.heap.get? b=some o->b≠e->b∉frs (env0::outer)->h'.get? b=some o)->(∀b o,s.heap.get? b=some o->b∈frs (env0::outer)->∃sl,h'.get? b=some { o with slots:=sl }) ->
   s.heap.objs.size≤T->T≠e->h'.get? T=some oT->oT.data = .fields ts->3<ts.size->(∃o',h'.get? e=some o'/\o'.cls=oe.cls/\o'.dict=oe.dict/\o'.data = .fields (vs.setIfInBounds 1 (.ref T)))->Q () { s with heap:=h' }) :
  wpAny M A (do let a ←PySem.frameOf env;let pl ←entryPlaceOf L hn;let b ←EntryCells.newEntry head a .none (rawInt L) .none pl;setField (.ref e) 1 b) Q E s:=by
 have nfr:e∉frs (env0::outer):=fun z=>by
  obtain⟨_,o,ho,nd⟩:=hl.mem z;rw[he]at ho;cases ho;exact nd vs hd
 refine wpAny_bind (x53 hfr hl hf0 hf fun h1 hs1=>?_)
 refine wpAny_bind (wpAny_entryPlaceOf fun pl hpl=>?_)
 unfold EntryCells.newEntry newFields;refine wpAny_bind (wpAny_newObj_type ?_ (hpl.sizeOk5 _ _ _ _ _));have e1:h1.get? e=some oe:=(hs1.2.1 e nfr).trans he
 have e2:(h1.push _).get? e=some oe:=Heap.get?_push_of_some { cls:=.type "traceback",dict:=none,data:=.fields ([head,.ref L,.none,rawInt L,.none]++(if pl.isEmpty then List.replicate 6 Value.none else pl)).toArray } e1
 refine wpAny_setField e2 hd hsz ?_;have ne:h1.objs.size≠e:=Nat.ne_of_gt (Heap.lt_size e1)
 have nfrS:h1.objs.size∉frs (env0::outer):=fun z=>by
  obtain⟨_,o,ho,_⟩:=hl.mem z;obtain⟨sl,ho'⟩:=hs1.2.2 _ o ho;exact absurd (Heap.lt_size ho') (Nat.lt_irrefl _)
 refine h _ h1.objs.size _ _ (fun b o hb nb nf=>?_) (fun b o hb mf=>?_) (Nat.le_of_eq hs1.1.symm) ne ((z0Y ne).trans (Heap.get?_push_size h1 rfl)) rfl
  (by simp only[List.size_toArray,List.length_append,List.length_cons,List.length_nil]<;>omega) (y06 e2 hd)
 ·rw[z0Y nb];exact Heap.get?_push_of_some _ ((hs1.2.1 b nf).trans hb)
 ·obtain⟨sl,hb'⟩:=hs1.2.2 b o hb
  refine⟨sl,?_⟩
  rw[z0Y fun z=>nfr (by rw[←z];exact mf)]
  exact Heap.get?_push_of_some _ hb'
end
section
variable{X:Cx}{pins:List (Addr×Obj)}{σ:St}{H:Hp}{s:Shared}{C:Value}{n:Bool}{a:Addr}{M:Model}{E:Value->Shared->Prop}{Q:Unit->Shared->Prop}{env env0:Env}{outer:List Env}{L:Addr}
theorem FlyI.note(F:FlyI X pins σ H C n a s)(hst:X.stack=env0::outer)(hf0:env0.frame=some L)(hf:env.frame=some L)(A':Around)(hA:A'.frames=some X.stack)(q:∀s',FlyI X pins σ H C true a s'->Q () s'):wpAny M A' (noteFrame (.ref a) env) Q E s:=by
 obtain⟨I,f1,f2,oe,vs,tb,h1,h2,h3,h4,h5,h6⟩:=F;have sz:1<vs.size:=(Array.getElem?_eq_some_iff.mp h5).1
 have fr0:A'.frames=some (env0::outer):=by rw[hA,hst]
 unfold noteFrame;simp only[hf];refine wpAny_bind (wpAny_field h1 h4 h5 ?_)
 have fin:∀(s1:Shared) (I1:Inv X pins σ H s1) (oe1:Obj) (hd:Value) (b:Bool),s1.heap.get? a=some oe1->oe1.cls=C->oe1.dict=none->oe1.data = .fields vs ->
   wpAny M A' (do let x ←PySem.frameOf env;let pl ←entryPlaceOf L b;let y ←EntryCells.newEntry hd x .none (rawInt L) .none pl;setField (.ref a) 1 y) Q E s1:=fun s1 I1 oe1 hd b g1 g2 g3 g4=>by
  refine x58 (base:=X.base) fr0 (by rw[←hst];exact I1.stack) hf0 hf g1 g4 sz fun h' T oT ts k1 k2 k3 k4 k5 k6 k7 ⟨o',k8,k9,k10,k11⟩=>q _ ?_
  have nT:H T=none:=I1.hok.fresh k3
  have wT:Nw X pins T:=⟨.inr (Heap.get?_none_of_le (Nat.le_trans I1.sz k3)),fun p hp z=>by
   have:=(I1.pin p hp).1
   rw[z,Heap.get?_none_of_le k3]at this;cases this⟩
  refine⟨z91 I1 (ch:=[a]) (fun b hb=>?_) (fun b o hb nb nf=>k1 b o hb (fun z=>nb (by simp[z])) (by rw[←hst];exact nf)) (fun b o hb mf=>k2 b o hb (by rw[←hst];exact mf)),f1,f2,o',_,.ref T,k8,k9.trans g2,k10.trans g3,k11,by simp[sz],.inr ⟨T,oT,ts,rfl,k4,wT,nT,k5,k6,k7⟩⟩
  have z:b=a:=by simpa using hb
  subst z
  exact⟨f1,f2,oe1,vs,g1,g4⟩
 rcases h6 with⟨_,rfl⟩|⟨T,oT,ts,rfl,t1,t2,t3,t4,t5,t6⟩
 ·rw[if_neg (by decide)]
  exact fin s I oe .none _ h1 h2 h3 h4
 ·rw[if_pos (show (Value.ref T != Value.none)=true from by simp)]
  obtain⟨v3,e3⟩:∃v3,ts[3]?=some v3:=⟨ts[3],Array.getElem?_eq_some_iff.mpr ⟨t6,rfl⟩⟩;refine wpAny_bind (wpAny_field t4 t5 e3 ?_);by_cases hv:(v3==rawInt L)=true
  ·rw[if_pos hv];exact wpAny_pure (q s ⟨I,f1,f2,oe,vs,.ref T,h1,h2,h3,h4,h5,.inr ⟨T,oT,ts,rfl,t1,t2,t3,t4,t5,t6⟩⟩)
  ·rw[if_neg hv];refine wpAny_bind (wpAny_setField t4 t5 t6 ?_)
   have I1:Inv X pins σ H { s with heap:=s.heap.update T (Obj.mapFields (·.setIfInBounds 3 .none)) }:=by
    refine z91 I (ch:=[T]) (fun b hb=>?_) (fun b o hb nb _=>(z0Y fun z=>nb (by simp[z])).trans hb) (fun b o hb mf=>⟨o.slots,(z0Y fun z=>?_).trans hb⟩)
    ·have z:b=T:=by simpa using hb
     subst z
     exact⟨t2,t3,oT,ts,t4,t5⟩
    ·subst z;obtain⟨_,o',e',d'⟩:=I.stack.mem mf;rw[t4]at e';cases e'
     exact d' ts t5
   exact fin _ I1 oe _ _ ((z0Y (Ne.symm t1)).trans h1) h2 h3 h4
theorem FlyI.flight(F:FlyI X pins σ H C true a s)(A':Around)(f:Option Addr)(q:∀s',FlyI X pins σ H C true a s'->Q () s'):wpAny M A' (setFlight (.ref a) f) Q E s:=by
 obtain⟨I,f1,f2,oe,vs,tb,h1,h2,h3,h4,h5,h6⟩:=F
 rcases h6 with⟨z,_⟩|⟨T,oT,ts,rfl,t1,t2,t3,t4,t5,t6⟩
 ·cases z
 unfold setFlight;refine wpAny_bind (wpAny_field h1 h4 h5 ?_)
 rw[if_pos (show (Value.ref T != Value.none)=true from by simp)]
 refine wpAny_setField t4 t5 t6 (q _ ?_)
 obtain⟨o',k1,k2,k3,k4⟩:=y06 (i:=3) (x:=f.elim .none fun f=>rawInt f) t4 t5
 refine⟨z91 I (ch:=[T]) (fun b hb=>?_) (fun b o hb nb _=>(z0Y fun z=>nb (by simp[z])).trans hb) (fun b o hb mf=>⟨o.slots,(z0Y fun z=>?_).trans hb⟩),f1,f2,oe,vs,.ref T,(z0Y (Ne.symm t1)).trans h1,h2,h3,h4,h5,.inr ⟨T,o',_,rfl,t1,t2,t3,k1,k4,by simpa using t6⟩⟩
 ·have z:b=T:=by simpa using hb
  subst z
  exact⟨t2,t3,oT,ts,t4,t5⟩
 ·subst z;obtain⟨_,o',e',d'⟩:=I.stack.mem mf;rw[t4]at e';cases e'
  exact d' ts t5
theorem FlyI.leave(F:FlyI X pins σ H C n a s)(hst:X.stack=env0::outer)(hf0:env0.frame=some L)(hf:env.frame=some L)(A':Around)(hA:A'.frames=some X.stack)(q:∀s',FlyI X pins σ H C true a s'->Q () s'):wpAny M A' (leaving env (.ref a)) Q E s:=by
 unfold leaving
 exact wpAny_bind (F.note hst hf0 hf A' hA fun s1 F1=>F1.flight A' _ q)
end
noncomputable def CXN(P:Program)(w:World)(K:PySem.W.Frag)(C:Value):CXT:=fun outer H s _ e s' =>
 ∃a H',e = .ref a/\s'.os=s.os/\AllBare s'.gens/\Un (frs outer) [] H H' s.heap s'.heap/\HOk P w H' s'.heap/\TB K H'/\x6T C (fun b=>s.heap.get? b=none) true H' s'.heap a
section
variable{X:Cx}{C:Value}{E:XK}
theorem Nw.of{pins:List (Addr×Obj)}{σ:St}{H:Hp}{s:Shared}(I:Inv X pins σ H s){b:Addr}(h:s.heap.get? b=none):Nw X pins b:=by
 refine⟨?_,fun p hp z=>?_⟩
 ·by_cases hx:b∈X.ex
  ·exact .inl hx
  ·refine .inr ?_
   cases e:X.s₀.heap.get? b with
   | none=>rfl
   | some o =>
    obtain⟨o',q⟩:=I.base.there b o e hx;rw[h]at q;cases q
 ·have:=(I.pin p hp).1
  rw[z,h]at this;cases this
theorem x4L{P:Program}{w:World}{K:PySem.W.Frag}{mg:Str->Option Value}{base:Heap}{N:List Str}{qual:Str}{scope:Scope}{f:Addr}{cd:Value}{A:Around}{outer:List Env}{s:Shared}{H:Hp}{E:XK}{n:Bool}{e:Value}{s':Shared}(h:xeF (z42 (CXN P w K C) P w K mg base N qual scope f cd A outer s H E) C n e s'):(z42 (CXN P w K C) P w K mg base N qual scope f cd A outer s H E).xe e s':=by
 obtain⟨a,σ,H1,rfl,tb,F⟩:=h
 refine F.leave (env0:=envOfC qual scope s.heap.objs.size f cd) (outer:=outer) (L:=s.heap.objs.size) rfl rfl rfl _ F.inv.ok.frames fun s2 F2=>?_
 obtain⟨I2,f2⟩:=F2
 exact⟨a,H1,rfl,I2.os,I2.bare,I2.base,I2.hok,tb,f2.mono fun b hb=>hb.1.elim (fun z=>absurd (show b∈([]:List Addr) from z) (by simp)) id⟩
end
noncomputable def bad:D:=.dct [Sum.inl 0] []
mutual
noncomputable def z5O:D->Bool
 | .dct ks vs=>ks.length != vs.length||z90 vs
 | .tup ds=>z90 ds
 | .lst ds=>z90 ds
 | _=>false
noncomputable def z90:List D->Bool
 | []=>false
 | d::ds=>z5O d||z90 ds
end
mutual
theorem x0J{K:PySem.W.Frag}{H:Hp}:∀{d:D} {v:V},z5O d=true->Rep K H d v->False
 | .non,_,e,_=>by rw[z5O]at e<;>first|cases e|(intros;intro z;cases z)
 | .bl _,_,e,_=>by rw[z5O]at e<;>first|cases e|(intros;intro z;cases z)
 | .int _,_,e,_=>by rw[z5O]at e<;>first|cases e|(intros;intro z;cases z)
 | .str _,_,e,_=>by rw[z5O]at e<;>first|cases e|(intros;intro z;cases z)
 | .tup ds,_,e,h=>by
  rw[z5O]at e;obtain⟨a,xs,_,_,r⟩:=u0.mp h;exact z8B e r
 | .lst ds,_,e,h=>by
  rw[z5O]at e;obtain⟨a,xs,_,_,r⟩:=g8.mp h;exact z8B e r
 | .dct ks ds,_,e,h=>by
  rw[z5O,Bool.or_eq_true]at e;obtain⟨a,kvs,_,_,r1,r2⟩:=z18.mp h
  rcases e with e|e
  ·have l:=r2.length;rw[List.length_map]at l;have l2:=congrArg List.length r1;rw[List.length_map]at l2;rw[bne_iff_ne]at e;exact e (l2.symm.trans l.symm)
  ·exact z8B e r2
theorem z8B{K:PySem.W.Frag}{H:Hp}:∀{ds:List D} {vs:List V},z90 ds=true->j5 K H ds vs->False
 | [],_,e,_=>by rw[z90]at e;cases e
 | d::ds,_,e,h=>by
  rw[z90,Bool.or_eq_true]at e;obtain⟨v,vs,_,r1,r2⟩:=u4.mp h
  rcases e with e|e
  ·exact x0J e r1
  ·exact z8B e r2
end
noncomputable abbrev VE:List Value:=[.type "ValueError",.type "Exception",.type "BaseException",.type "object"]
theorem x9E{K:PySem.W.Frag}{h:Heap}{C:Addr}{bmB:List Value}{newId:String}(X:K.In h)(q:PySem.W.excIn K C bmB newId=true) :
  ∃bm N nm q bs hdct sn sub ab col dd k0 k1 k2 k3 k5,∃mN:Str->Option Value,h.get? C=some (excClassObj nm q C N bs bm hdct sn sub ab col dd k0 k1 k2 k3 k5 newId)/\h.Ns N mN/\mN "__init__" = none/\OwnTail h bmB bm:=by
 unfold PySem.W.excIn at q;split at q
 ·rename_i dd0 cd0 sl0 e0;split at q
  ·rename_i C1 tl s0 s1 s2 s3 nw s5 e1 e2;simp only[Bool.and_eq_true,beq_iff_eq,Bool.not_eq_true']at q;obtain⟨⟨⟨⟨⟨q1,q2⟩,q3⟩,q4⟩,q5⟩,q6⟩:=q
   subst q1 q2
   obtain⟨a1,a2,a3,a4,a5,a6,a7,a8,a9,a10,a11⟩:=cd0;dsimp only at e1 q3 q5 q6
   subst e1 q3
   obtain⟨sl⟩:=sl0;dsimp only at e2;subst e2
   exact⟨tl,a4,a1,a5,a2,a6,a7,a8,a9,a10,dd0,s0,s1,s2,s3,s5,_,X _ _ e0,.of_isNs (PySem.W.isNs_of_in X q5),PySem.W.nsMap_none_of_in X q5 q6,PySem.W.tail_of_in X q4⟩
  ·cases q
 ·cases q
theorem z30{P:Program}{w:World}{H:Hp}{h:Heap}{a:Addr}:∀{o:HO},z03 P w H h a o->∃ob,h.get? a=some ob:=by
 intro o
 induction o with
 | lst xs=>rintro ⟨_,_,_,_,e⟩;exact⟨_,e⟩
 | tup xs=>rintro ⟨_,_,_,ob,e,_⟩;exact⟨_,e⟩
 | dK kvs=>rintro ⟨_,_,_,_,o,_,_,e,_⟩;exact⟨_,e⟩
 | dT kvs=>rintro ⟨_,_,_,_,o,_,_,e,_⟩;exact⟨_,e⟩
 | set S n=>rintro ⟨o,_,_,_,e,_⟩;exact⟨_,e⟩
 | ins C dx fs=>rintro ⟨_,_,_,e,_⟩;exact⟨_,e⟩
 | own y=>rintro ⟨_,e⟩;exact⟨_,e⟩
 | xd fs=>rintro ⟨_,⟨_,_,_,e,_⟩,_⟩;exact⟨_,e⟩
 | rng lo hi=>rintro ⟨_,_,_,e⟩;exact⟨_,e⟩
 | frz ob u _=>rintro ⟨e,_⟩;exact⟨_,e⟩
 | tbl ps=>rintro ⟨_,e,_⟩;exact⟨_,e⟩
 | met f y=>intro x;exact⟨_,(show h.get? a=some _ from x)⟩
 | ext φ=>rintro ⟨_,⟨_,e⟩,_⟩;exact⟨_,e⟩
theorem x4T{P:Program}{w:World}{H:Hp}{h:Heap}{a:Addr}(x:HOk P w H h)(e:h.get? a=none):H a=none:=by
 cases q:H a with
 | none=>rfl
 | some o =>
  obtain⟨ob,e'⟩:=z30 (x a o q);rw[e]at e';cases e'
section
variable{X:Cx}
theorem x42{x:Str}{C:Addr}{np cpos pos:Pos}{arg:Expr}{te:TE}(hC:PySem.W.excIn X.K C VE "ValueError.__new__" = true)(hg:Gl X x)(hm:X.mg x=some (.ref C))(hc:X.calm=true)(ha:PE X arg te)(hx:∀e s',xeF X (.ref C) false e s'->X.xe e s')(hd:(x==("__debug__":Str))=false:=by decide)(he:starEach [arg] X.env=(false,eval arg X.env)::starEach [] X.env:=by exact y9 rfl) :
  PS X (.Raise (some (.Call (.Name x np) [arg] [] cpos)) none pos) (fun _ σ H=>te σ H fun y H'=>[y].length≤1/\TB X.K H'):=by
 intro pins s σ H D I h;obtain⟨bm,N,nm,q,bs,hdct,sn,sub,ab,col,dd,k0,k1,k2,k3,k5,mN,oC,oN,oi,oT⟩:=x9E I.mod.kin hC
 refine wpAny_Raise_call_subU (C:=C) (nm:=nm) (q:=q) (N:=N) (bs:=bs) (bm:=bm) (hdct:=hdct) (sn:=sn) (sub:=sub) (ab:=ab) (col:=col) (dd:=dd) (k0:=k0) (k1:=k1) (k2:=k2) (k3:=k3) (k5:=k5)
  PySem.F.excBase_ValueError (by rfl) PySem.F.excBase_ValueError (mN:=mN) (oT.hasType PySem.F.excBase_ValueError.hasBase) (I.ok.hd hc) (by rw[he];rfl) oi (z8W I hg hm ⟨rfl,?_⟩ hd)
 have hp:=(K8 ha z05 he) cpos pins s σ H (fun vs H'=>vs.length≤1/\TB X.K H') I h
 rw[he]at hp ⊢
 refine Calls.evalArgs_plain (thn hp fun us s2 ⟨vs,H1,I1,r,ql,tb⟩=>⟨rfl,?_,I1.bk _ _ oC,oN.keeps I1.bk,oT.keeps I1.bk,fun h' e hmk=>?_⟩)
 ·show us.length≤sizeLine
  rw[←r.length]
  exact Nat.le_trans ql (by rw[sizeLine_eq];decide)
 ·obtain⟨t,e1,_,_⟩:=hmk.there
  exact hx _ _ ⟨e,σ,H1,rfl,tb,(I1.kept (t':=s2.toks) hmk.keeps).pins_of (fun p hp=>absurd hp (by simp)),(Nw.of (I1.pins_of (pins':=[]) fun p hp=>absurd hp (by simp)) hmk.new),x4T I1.hok hmk.new,
   _,_,.none,e1,rfl,rfl,rfl,rfl,.inl ⟨rfl,rfl⟩⟩
noncomputable def y0O(f:y0->Option D):y0->Option Out:=fun ρ=>match f ρ with|some _=>some (.rt bad)|none=>none
theorem x3E{x:Str}{C:Addr}{np cpos pos:Pos}{arg:Expr}{f:y0->Option D}(hC:PySem.W.excIn X.K C VE "ValueError.__new__" = true)(hm:X.mg x=some (.ref C))(hc:X.calm=true)(ha:SE X arg f)(hx:∀e s',xeF X (.ref C) false e s'->X.xe e s')(hg:Gl X x:=by rfl)(hd:(x==("__debug__":Str))=false:=by decide)(he:starEach [arg] X.env=(false,eval arg X.env)::starEach [] X.env:=by exact y9 rfl) :
  SS X (.Raise (some (.Call (.Name x np) [arg] [] cpos)) none pos) (y0O f) :=
 z1H (x42 hC hg hm hc ha hx hd he) fun E σ H ⟨ρ,o,B,H0,V0,Z,e,r,q⟩=>by
  unfold y0O at e;split at e
  ·rename_i d ed
   exact⟨ρ,d,B,H0,V0,Z,ed,r,fun v H' s rr=>⟨Nat.le_refl _,(r.mono s).tb⟩⟩
  ·cases e
theorem w0N{st:Stmt}:SS X st (fun _=>none):=fun pins s σ H D I ⟨ρ,o,B,H0,V0,Z,e,r,q⟩=>by cases e
end
noncomputable def spB(K:PySem.W.Frag)(FX:List D->Option D):Sp:=fun vs H _ _=>TB K H/\∃Z ds d,(∀z∈Z,∃o,H z=some o)/\j5 K (K3 Z H) ds vs/\FX ds=some d/\z5O d=true
noncomputable def y8J(FX:List D->Option D):List D->Option D:=fun ds=>match FX ds with|some d=>if z5O d=true then some d else none|none=>none
theorem y8I{FX:List D->Option D}{ds:List D}{d:D}(h:y8J FX ds=some d):z5O d=true/\FX ds=some d:=by
 unfold y8J at h;split at h
 ·rename_i d' e;split at h
  ·rename_i hb;cases h
   exact⟨hb,e⟩
  ·cases h
 ·cases h
structure FnB(P:Program)(w:World)(K:PySem.W.Frag)(mg:Str->Option Value)(base:Heap)(C:Value)(k:Nat)(x:Str)(ps:List Str)(FX:List D->Option D):Prop where
 ex:∃f fd,FnOk P w K mg base (CXN P w K C) k f fd ps (spB K FX)/\mg x=some (.ref f)/\PySem.W.keepIn K (.ref f)=true/\y48 K fd ps []
theorem w6U{P:Program}{w:World}{K:PySem.W.Frag}{mg:Str->Option Value}{base:Heap}{C:Value}{x:Str}{st:Stmt}{N ps:List Str}{k n:Nat}{g:y0->Option Out}(G:Stands K mg x st)(S:FnScope N ps (z9 st))(hb:∀(kV doc pm:Value) (an:Option Addr) (cdv ct:Value) (us:List Value),us.length=ps.length->bindArgs (PySem.W.fnOf x x (g9 st) (x6 st) (z9 st) .none kV doc pm an cdv ct) ⟨us,[]⟩=pure (ps.zip us))(hn:ps.length=n)
  (hbody:∀(f:Addr) (cdv:Value) (A:Around) (outer:List Env) (s:Shared) (H:Hp) (E:XK),Room k (A.deeper (envOfC x (z9 st) s.heap.objs.size f cdv)) ->
   SSs (z42 (CXN P w K C) P w K mg base N x (z9 st) f cdv A outer s H E) (x6 st) g):FnB P w K mg base C (k+1) x ps (dFn n N g):=by
 obtain⟨f,fd,G1,G2⟩:=G.ex
 refine⟨f,fd,?_,G2,G1.kp,G1.binds hb⟩
 obtain⟨oc,od,kV,doc,pm,an,cdv,ct,osl,rfl,lk,hcd⟩:=G1.ex
 refine x9D lk hcd S (fun vs H Q E ⟨_,Z,ds,d,_,rr,e,_⟩=>?_) fun A outer s H vs Q E hr ⟨tb,Z,ds,d,zs,rr,e,hbd⟩=>⟨_,hbody f cdv A outer s H E hr,?_⟩
 ·unfold dFn at e;split at e
  ·rename_i hl;rw[←rr.length,hl,hn]
  ·cases e
 ·unfold dFn at e;split at e
  ·cases ho:g (z2Y N ds) with
   | none=>rw[ho]at e;cases e
   | some o =>
    refine⟨z2Y N ds,o,Z,H,K3 Z H,Z,ho,y16 ⟨tb,zs⟩ rr,?_⟩
    rw[ho]at e
    cases o with
    | rt d'=>cases e;exact fun v H' s' rv=>(x0J hbd rv).elim
    | nx ρ=>cases e;rw[z5O]at hbd<;>first|cases hbd|(intros;intro z;cases z)
    | bk _=>cases e
    | ct _=>cases e
  ·cases e
noncomputable def z21(K:PySem.W.Frag)(b:Addr):Prop:=∃c o vs,K.lookup c=some o/\o.cls = .type "code"/\o.data = .fields vs/\vs[11]?=some (.ref b)/\K.lookup b=none/\z76 vs=true
theorem z4J{K:PySem.W.Frag}{H:Hp}{b:Addr}(tb:TB K H)(h:z21 K b):∃q,H b=some (.tbl #[.str q 0])/\∀H',TB K H'->H' b=some (.tbl #[.str q 0]):=by
 obtain⟨c,o,vs,h1,h2,h3,h4,h5,h6⟩:=h;obtain⟨q,t,e1,e2⟩:=tb c o vs b h1 h2 h3 h4 h5 h6
 refine⟨q,e2,fun H' tb'=>?_⟩
 obtain⟨q',t',e1',e2'⟩:=tb' c o vs b h1 h2 h3 h4 h5 h6;rw[e1]at e1'
 cases e1'
 exact e2'
noncomputable def w01(b:Addr)(o:Obj):HO->HO
 | .tup xs=>.tup xs
 | .lst xs=>.frz o (.lst xs)
 | .frz _ (.lst xs)=>.frz o (.lst xs)
 | .frz _ (.tup xs)=>.frz o (.tup xs)
 | .frz _ (.own p)=>.frz o (.own p)
 | _=>.frz o (.own b)
open Classical in
noncomputable def frzH (K:PySem.W.Frag) (h:Heap) (H:Hp):Hp:=fun b=>match H b with
 | none=>none
 | some u=>if z21 K b then some u else (match h.get? b with|some o=>some (w01 b o u)|none=>none)
section
variable{P:Program}{w:World}{K:PySem.W.Frag}{H H':Hp}{h h':Heap}{fs:List Addr}
theorem z51{b:Addr}(n:H b=none):frzH K h H b=none:=by unfold frzH;rw[n]
theorem z4K{b:Addr}(l:z21 K b):frzH K h H b=H b:=by
 unfold frzH
 cases e:H b with
 | none=>rfl
 | some u=>dsimp only;rw[if_pos l]
theorem z1C{b:Addr}{u:HO}{o:Obj}(l:¬z21 K b)(e:H b=some u)(q:h.get? b=some o):frzH K h H b=some (w01 b o u):=by unfold frzH;rw[e];dsimp only;rw[if_neg l,q]
theorem x9N{b:Addr}{o:Obj}{u:HO}{G:Hp}(q:h.get? b=some o)(x:z03 P w H h b u):z03 P w G h b (w01 b o u):=by
 unfold w01;split
 ·exact x
 ·exact⟨q,x⟩
 ·exact⟨q,x.2⟩
 ·exact⟨q,x.2⟩
 ·exact⟨q,o,q⟩
 ·exact⟨q,o,q⟩
theorem w3H(tb:TB K H):TB K (frzH K h H):=fun c o vs b h1 h2 h3 h4 h5 h6=>by
 obtain⟨q,t,e1,e2⟩:=tb c o vs b h1 h2 h3 h4 h5 h6
 exact⟨q,t,e1,by rw[z4K ⟨c,o,vs,h1,h2,h3,h4,h5,h6⟩];exact e2⟩
theorem w3I(hok:HOk P w H h)(tb:TB K H):HOk P w (frzH K h H) h:=fun b u e=>by
 cases q:H b with
 | none=>rw[z51 q]at e;cases e
 | some v =>
  by_cases l:z21 K b
  ·rw[z4K l]at e;obtain⟨x,e2,_⟩:=z4J tb l;rw[e2]at e;cases e
   obtain⟨qs,g1,g2,g3⟩:=(show z03 P w H h b (.tbl #[.str x 0]) from hok b _ e2)
   refine⟨qs,g1,g2,fun p v z=>?_⟩
   obtain⟨c,oc,vs,t,k1,k2,k3⟩:=g3 p v z
   refine⟨c,oc,vs,t,k1,?_,k3⟩
   by_cases lc:z21 K c
   ·rw[z4K lc];exact k2
   ·have k4:=(show z03 P w H h c (.frz oc (.own b)) from hok c _ k2).1
    rw[z1C lc k2 k4];rfl
  ·obtain⟨o,ho⟩:=z30 (hok b v q);rw[z1C l q ho]at e;cases e;exact x9N ho (hok b v q)
theorem x9A{a:Addr}{xs:List V}{Z:List Addr}(hok:HOk P w H h)(x:SqT K (K3 Z H) a xs):SqT K (K3 Z (frzH K h H)) a xs:=by
 rcases x with (x|⟨o,x⟩)|x
 ·obtain⟨n,x⟩:=z0N x;refine .inl (.inl ?_);rw[K2 n];by_cases l:z21 K a
  ·rw[z4K l];exact x
  ·obtain⟨ob,ho⟩:=z30 (hok a _ x);rw[z1C l x ho];rfl
 ·obtain⟨n,x⟩:=z0N x;refine .inl (.inr ⟨o,?_⟩);rw[K2 n];by_cases l:z21 K a
  ·rw[z4K l];exact x
  ·have ho:=(show z03 P w H h a (.frz o (.tup xs)) from hok a _ x).1
   rw[z1C l x ho];rfl
 ·exact .inr x
theorem x9B{a:Addr}{xs:List V}{Z:List Addr}(hok:HOk P w H h)(x:SqL K (K3 Z H) a xs):SqL K (K3 Z (frzH K h H)) a xs:=by
 rcases x with (x|⟨o,x⟩)|x
 ·obtain⟨n,x⟩:=z0N x;by_cases l:z21 K a
  ·refine .inl (.inl ?_);rw[K2 n,z4K l];exact x
  ·obtain⟨ob,ho⟩:=z30 (hok a _ x);refine .inl (.inr ⟨ob,?_⟩);rw[K2 n,z1C l x ho];rfl
 ·obtain⟨n,x⟩:=z0N x;refine .inl (.inr ⟨o,?_⟩);rw[K2 n];by_cases l:z21 K a
  ·rw[z4K l];exact x
  ·have ho:=(show z03 P w H h a (.frz o (.lst xs)) from hok a _ x).1
   rw[z1C l x ho];rfl
 ·exact .inr x
end
mutual
noncomputable def y4X:D->Bool
 | .dct _ _=>false
 | .tup ds=>z2L ds
 | .lst ds=>z2L ds
 | _=>true
noncomputable def z2L:List D->Bool
 | []=>true
 | d::ds=>y4X d&&z2L ds
end
mutual
theorem x9C{P:Program}{w:World}{K:PySem.W.Frag}{H:Hp}{h:Heap}{Z:List Addr}(hok:HOk P w H h):∀{d:D} {v:V},y4X d=true->Rep K (K3 Z H) d v->Rep K (K3 Z (frzH K h H)) d v
 | .non,_,_,x=>by rw[Y7]at x ⊢;exact x
 | .bl _,_,_,x=>by rw[J8]at x ⊢;exact x
 | .int _,_,_,x=>by rw[v4]at x ⊢;exact x
 | .str _,_,_,x=>by rw[Y5]at x ⊢;exact x
 | .tup ds,_,e,x=>by
  rw[y4X]at e;rw[u0]at x ⊢;obtain⟨a,xs,h1,h2,h3⟩:=x
  exact⟨a,xs,h1,x9A hok h2,z8F hok e h3⟩
 | .lst ds,_,e,x=>by
  rw[y4X]at e;rw[g8]at x ⊢;obtain⟨a,xs,h1,h2,h3⟩:=x
  exact⟨a,xs,h1,x9B hok h2,z8F hok e h3⟩
 | .dct ks ds,_,e,x=>by rw[y4X]at e;cases e
theorem z8F{P:Program}{w:World}{K:PySem.W.Frag}{H:Hp}{h:Heap}{Z:List Addr}(hok:HOk P w H h):∀{ds:List D} {vs:List V},z2L ds=true->j5 K (K3 Z H) ds vs->j5 K (K3 Z (frzH K h H)) ds vs
 | [],_,_,x=>by rw[J6]at x ⊢;exact x
 | d::ds,_,e,x=>by
  rw[z2L,Bool.and_eq_true]at e;rw[u4]at x ⊢;obtain⟨v,vs,h1,h2,h3⟩:=x
  exact⟨v,vs,h1,x9C hok e.1 h2,z8F hok e.2 h3⟩
end
noncomputable def z8O(H H':Hp):Hp:=fun b=>match H b with|some u=>some u|none=>(match H' b with|some (.frz o (.own p))=>some (.frz o (.own p))|_=>none)
section
variable{P:Program}{w:World}{K:PySem.W.Frag}{H H':Hp}{h h':Heap}{fs:List Addr}
theorem z0Z:K6 H (z8O H H'):=fun b u e=>by unfold z8O;rw[e]
theorem y2K{b:Addr}(e:H b=none)(e':H' b=none):z8O H H' b=none:=by unfold z8O;rw[e,e']
theorem y2L(hok:HOk P w H h)(un:Un fs [] (frzH K h H) H' h h')(hok':HOk P w H' h'){b:Addr}{u:HO}{o:Obj}(l:¬z21 K b)(nt:∀xs,u≠.tup xs)(e:H b=some u)(q:h.get? b=some o):h'.get? b=some o:=by
 have z:=z1C l e q
 have fin:∀v,frzH K h H b=some (.frz o v)->h'.get? b=some o:=fun v y=>(show z03 P w H' h' b (.frz o v) from hok' b _ (un.frzs b o v y)).1
 unfold w01 at z;split at z
 ·exact absurd rfl (nt _)
 ·exact fin _ z
 ·exact fin _ z
 ·exact fin _ z
 ·exact fin _ z
 ·exact fin _ z
theorem y9B(hok:HOk P w H h)(tb:TB K H)(tb':TB K H')(un:Un fs [] (frzH K h H) H' h h'){b:Addr}{u:HO}(e:H b=some u):∃v,H' b=some v:=by
 by_cases l:z21 K b
 ·obtain⟨q,_,g⟩:=z4J tb l
  exact⟨_,g H' tb'⟩
 ·obtain⟨o,q⟩:=z30 (hok b u e);have z:=z1C l e q;unfold w01 at z;split at z
  ·exact⟨_,un.tups _ _ z⟩
  ·exact⟨_,un.frzs _ _ _ z⟩
  ·exact⟨_,un.frzs _ _ _ z⟩
  ·exact⟨_,un.frzs _ _ _ z⟩
  ·exact⟨_,un.frzs _ _ _ z⟩
  ·exact⟨_,un.frzs _ _ _ z⟩
theorem x3A(hok:HOk P w H h)(tb:TB K H)(tb':TB K H')(un:Un fs [] (frzH K h H) H' h h'){b:Addr}(n:H' b=none):H b=none:=by
 cases e:H b with
 | none=>rfl
 | some u =>
  obtain⟨v,z⟩:=y9B hok tb tb' un e;rw[n]at z;cases z
theorem x76(un:Un fs [] (frzH K h H) H' h h'):Un fs [] H (z8O H H') h h' :=
 ⟨fun b o e n hb hx=>un.keep b o e (z51 n) hb hx,fun b o e n hb hx=>un.slot b o e (z51 n) hb hx,fun b o e n hx=>y2K n (un.free b o e (z51 n) hx),fun b o e hx=>un.there b o e hx,
  fun b xs e=>z0Z _ _ e,fun b o u e=>z0Z _ _ e,fun b ps e=>⟨#[],by rw[z0Z _ _ e];simp⟩⟩
theorem x77(hok:HOk P w H h)(tb:TB K H)(tb':TB K H')(un:Un fs [] (frzH K h H) H' h h')(hok':HOk P w H' h'):HOk P w (z8O H H') h':=fun b u e=>by
 cases q:H b with
 | none =>
  unfold z8O at e;rw[q]at e;dsimp only at e;split at e
  ·rename_i o p y;cases e
   exact⟨(show z03 P w H' h' b (.frz o (.own p)) from hok' b _ y).1,o,(show z03 P w H' h' b (.frz o (.own p)) from hok' b _ y).1⟩
  ·cases e
 | some v =>
  rw[z0Z _ _ q]at e;cases e;by_cases l:z21 K b
  ·obtain⟨x,e2,g⟩:=z4J tb l;rw[e2]at q;cases q;have eb:=g H' tb'
   obtain⟨qs,g1,g2,g3⟩:=(show z03 P w H' h' b (.tbl #[.str x 0]) from hok' b _ eb)
   refine⟨qs,g1,g2,fun p v z=>?_⟩
   obtain⟨c,oc,vs,t,k1,k2,k3⟩:=g3 p v z
   refine⟨c,oc,vs,t,k1,?_,k3⟩
   have ne:c≠b:=fun y=>by rw[y,eb]at k2;cases k2
   cases hc:H c with
   | none=>unfold z8O;rw[hc];dsimp only;rw[k2]
   | some u =>
    rw[z0Z _ _ hc];by_cases lc:z21 K c
    ·obtain⟨x',_,g'⟩:=z4J tb lc;rw[g' H' tb']at k2;cases k2
    ·obtain⟨o,ho⟩:=z30 (hok c u hc);have z:=z1C lc hc ho
     cases u with
     | tup xs=>have y:=un.tups _ _ z;rw[k2]at y;cases y
     | lst xs=>have y:=un.frzs _ _ _ z;rw[k2]at y;cases y
     | frz o' u' =>
      have ho':=(show z03 P w H h c (.frz o' u') from hok c _ hc).1
      rw[ho]at ho'
      cases ho'
      cases u' with
      | own p'=>have y:=un.frzs _ _ _ z;rw[k2]at y;cases y;rfl
      | lst xs=>have y:=un.frzs _ _ _ z;rw[k2]at y;cases y
      | tup xs=>have y:=un.frzs _ _ _ z;rw[k2]at y;cases y
      | _=>have y:=un.frzs _ _ _ z;rw[k2]at y;cases y;exact absurd rfl ne
     | _=>have y:=un.frzs _ _ _ z;rw[k2]at y;cases y;exact absurd rfl ne
  ·by_cases nt:∃xs,u = .tup xs
   ·obtain⟨xs,rfl⟩:=nt;obtain⟨o,ho⟩:=z30 (hok b _ q);have z:=z1C l q ho
    exact (show z03 P w H' h' b (.tup xs) from hok' b _ (un.tups _ _ z))
   ·refine (hok b u q).stay (fun c y hc q'=>?_) (fun c y=>z0Z _ _ y) (fun c xs y=>z0Z _ _ y) fun c o u y=>z0Z _ _ y
    rcases hc with rfl|hc
    ·exact y2L hok un hok' l (fun xs y=>nt ⟨xs,y⟩) q q'
    ·have lc:¬z21 K c:=fun lc=>by
      obtain⟨x,e2,_⟩:=z4J tb lc;rw[hc]at e2;cases e2
     exact y2L hok un hok' lc (fun xs y=>by cases y) hc q'
end
theorem x6T.tracked{C:Value}{fr:Addr->Prop}{n:Bool}{H H':Hp}{h:Heap}{e:Addr}(x:x6T C fr n H' h e)(k:∀b,H' b=none->H b=none):x6T C fr n H h e:=by
 obtain⟨x1,x2,oe,vs,tb,h1,h2,h3,h4,h5,h6⟩:=x
 refine⟨x1,k _ x2,oe,vs,tb,h1,h2,h3,h4,h5,?_⟩
 rcases h6 with h6|⟨T,oT,ts,y1,y2,y3,y4,y5⟩
 ·exact .inl h6
 ·exact .inr ⟨T,oT,ts,y1,y2,y3,k _ y4,y5⟩
theorem SR.slot{K:PySem.W.Frag}{B Z:List Addr}{H0 V0 H:Hp}{σ:St}{ρ:y0}(r:SR K B H0 V0 H Z σ ρ){i:Nat}(hi:ρ[i]?=some none)(v:Option V):SR K B H0 V0 H Z (σ.set i v) ρ:=by
 have ne:∀{j:Nat} {c:Cell},ρ[j]?=some (some c)->i≠j:=fun {j c} e z=>by
  subst z;rw[hi]at e;cases e
 refine⟨r.same,r.tb,r.vis,r.sub,r.zs,fun j d e=>?_,fun j c e=>?_,fun j k c e' a q1 q2 s1 s2=>?_,by rw[List.length_set];exact r.len⟩
 ·rw[List.getElem?_set_ne (ne e)];exact r.sh j d e
 ·rw[List.getElem?_set_ne (ne e)];exact r.own j c e
 ·rw[List.getElem?_set_ne (ne q1)]at s1;rw[List.getElem?_set_ne (ne q2)]at s2;exact r.inj j k c e' a q1 q2 s1 s2
theorem x0L{X:Cx}{pins:List (Addr×Obj)}{σ:St}{H:Hp}{s:Shared}{M:Model}{A:Around}{E:Value->Shared->Prop}{i:Nat}{x:Str}{pos:Pos}{Q:Unit->Shared->Prop}(I:Inv X pins σ H s)(hN:X.N.Nodup)(hi:X.N[i]?=some x)(hx:X.env.scope.names.lookup x=some .local)(h:∀s',Inv X pins (σ.set i none) H s'->Q () s'):wpAny M A (do bindName X.env x .none;unbindBehindTheSuite X.env x pos) Q E s:=by
 obtain⟨m,hn,hl⟩:=id I.loc
 refine wpAny_nameGoes_keeps hx hn (by rw[I.ok.kind];rfl) fun h' v hn' hs=>h _ ?_
 have ab:∀b o,X.s₀.heap.get? b=some o->b≠X.env.locals:=fun b o e=>Nat.ne_of_lt (Nat.lt_of_lt_of_le (Heap.lt_size e) I.ok.above)
 refine⟨I.ok,I.os,I.bare,⟨fun b o e n hb hx'=>(hs.2 b (ab b o e)).trans (I.base.keep b o e n hb hx'),fun b o e n hb hx'=>let ⟨sl,z⟩:=I.base.slot b o e n hb hx';⟨sl,(hs.2 b (ab b o e)).trans z⟩,I.base.free,fun b o e hx'=>let ⟨o',z⟩:=I.base.there b o e hx';⟨o',(hs.2 b (ab b o e)).trans z⟩,I.base.tups,I.base.frzs,I.base.tbls⟩,
  ⟨_,hn',fun j y w e1 e2 e3=>?_⟩,fun y c e=>?_,I.free,I.freeC,fun p hp=>?_,fun b u e=>?_,by rw[List.length_set];exact I.len⟩
 ·by_cases hj:i=j
  ·subst hj
   have hlt:i<σ.length:=by rw[I.len];exact (List.getElem?_eq_some_iff.mp hi).1
   rw[List.getElem?_set_self hlt]at e2;cases e2
  ·rw[List.getElem?_set_ne hj]at e2;obtain⟨u,r,l⟩:=hl j y w e1 e2 e3
   refine⟨u,r,?_⟩
   rcases l with⟨k,e⟩|⟨k,c,e,z⟩
   ·refine .inl ⟨k,?_⟩
    have ny:y≠x:=fun z=>hj (y1D hN hi (z▸e1))
    show (if y=x then v else m y)=some u
    rw[if_neg ny];exact e
   ·exact .inr ⟨k,c,e,z.sameBut hs (I.cne y c e)⟩
 ·obtain⟨w',z⟩:=I.cell y c e
  exact⟨w',z.sameBut hs (I.cne y c e)⟩
 ·obtain⟨e,n,ne,nf,d⟩:=I.pin p hp
  exact⟨(hs.2 p.1 ne).trans e,n,ne,nf,d⟩
 ·refine (I.hok b u e).stay (fun c v' hc q=>(hs.2 c ?_).trans q) (fun _ q=>q) (fun _ _ q=>q) fun _ _ _ q=>q
  rintro rfl
  rcases hc with rfl|hc
  ·rw[I.free]at e;cases e
  ·rw[I.free]at hc;cases hc
structure ExcCls(K:PySem.W.Frag)(C:Addr):Prop where
 hg:PySem.W.findIn K (.ref C) "__getattribute__" = some (some (.builtin "BaseException.__getattribute__"))
 ht0:PySem.W.findIn K (.ref C) "__getattr__" = some none
 hs:PySem.W.subIn K (.ref C) (.type "BaseException")=some true
 hc:(PySem.W.clsIn K C).isSome=true
 ha:PySem.W.findIn K (.ref C) "__class__" = some (some (.builtin "object.__class__"))
 hn:PySem.W.specialIn K (.builtin "object.__class__") "__get__" = some (some (.builtin "getset_descriptor.__get__"))
 ht:PySem.W.takesIn K (.builtin "object.__class__")=some true
 hm:PySem.W.mroIn K C (.type "object")=some true
theorem x1O{K:PySem.W.Frag}{x C:Addr}{ox:Obj}(Z:ExcCls K C){prog:Program}{w:World}{A:Around}{E:Value->Shared->Prop}{Q:Option Value->Shared->Prop}{s:Shared}(X:K.In s.heap)(I:PySem.W.InstAt s.heap x ox C none)(h:Q (some (.ref C)) { s with toks:=s.toks+1 }):wpAny (model prog w) A (getAttr? (.ref x) "__class__") Q E s:=by
 have hf:PySem.W.findObj K C none "__class__" = some (.bind (.builtin "getset_descriptor.__get__") (.builtin "object.__class__")):=by
  obtain⟨cd,hc⟩:=Option.isSome_iff_exists.mp Z.hc;unfold PySem.W.findObj;rw[hc,Option.bind_some,Z.ha,Option.bind_some];simp[Z.hn,Z.ht]
 obtain⟨hh,g,d,t,os⟩:=s;have L0:=I.type (M:=model prog w);have L1:=PySem.W.looks_findIn (M:=model prog w) X Z.hg;have L2:=PySem.W.looks_findIn (M:=model prog w) X Z.ht0;have L3:=PySem.W.looks_find (M:=model prog w) X I hf;have LS:=PySem.W.looks_subIn (M:=model prog w) X Z.hs;have fb:=PySem.F.attrBase_ValueError.ga.bind (.ref x)
 have n2:(Value.builtin "BaseException.__getattribute__"==Value.builtin "object.__getattribute__")=false:=by decide +kernel
 unfold getAttr? getAttrBy? getAttrBy;refine wpAny_bind (wpAny_mkText (wpAny_bind (wpAny_attempt (wpAny_holding (wpAny_bind (L0.at (wpAny_bind (L1.at ?_))))))));dsimp only;rw[n2,Bool.and_false,if_neg Bool.false_ne_true];unfold getAttrByItsOwn hookBefore
 rw[if_pos (show onTheHeap (Value.ref C)=true from rfl)]
 refine wpAny_bind (L2.at (wpAny_bind (wpAny_attempt (wpAny_holding ?_))));unfold callGetattribute;rw[Bool.false_and,if_neg Bool.false_ne_true];unfold boundAndCalled;refine wpAny_bind (wpAny_of_eq fb ?_)
 have hk:builtinKind "BaseException.__getattribute__" = some .slot:=by decide +kernel
 have hsp:splitId "BaseException.__getattribute__" = some ("BaseException","__getattribute__"):=by decide +kernel
 refine wpAny_call (codeAny_call_builtin PySem.F.attrBase_ValueError.ga.plain PySem.F.entry_bexc_ga ?_);have hA:=PySem.F.args_bexc_ga (.ref x) (.str "__class__" t)
 refine (show ∀{Q':Unit->Shared->Prop} {E':Value->Shared->Prop} {A':Around},Q' () ⟨hh,g,d,t+1,os⟩->wpAny (model prog w) A' (checkBuiltinCall "BaseException.__getattribute__" ⟨[.ref x]++[.str "__class__" t],[]⟩) Q' E' ⟨hh,g,d,t+1,os⟩ from fun {Q' E' A'} q=>?_) ?_
 ·show wpAny _ _ (checkBuiltinCall "BaseException.__getattribute__" ⟨[.ref x,.str "__class__" t],[]⟩) _ _ _
  simp only[checkBuiltinCall,hk,hsp];refine wpAny_bind ?_;unfold isInstance;refine wpAny_bind (L0.at (LS.at ?_))
  rw[if_neg (show ¬(!true)=true by decide)]
  exact wpAny_of_eq hA q
 ·show wpAny _ _ (Builtin.«object.__getattribute__» ⟨[.ref x,.str "__class__" t],[]⟩) _ _ _
  unfold Builtin.«object.__getattribute__»
  repeat (first|(with_reducible refine wpAny_call (PySem.W.class_get (s:=⟨hh,g,d,t+1,os⟩) (ox:=ox) (od:=none) X I Z.hm ?_))|lk)
  exact h
theorem x4R{K:PySem.W.Frag}{x C:Addr}{ox:Obj}(E:ExcCls K C):PySem.W.KitX K (.ref x) (.ref C) (fun h=>PySem.W.InstAt h x ox C none) where
 ty:=fun _ _ _ I=>I.type
 it:=fun _ _ X _=>by
  obtain⟨cd,hc⟩:=Option.isSome_iff_exists.mp E.hc;unfold PySem.W.clsIn at hc;split at hc
  ·rename_i ho;intro A' Q' E' s' k q;unfold isType loadHead;exact wpAny_bind (wpAny_loadPart (k _ _ (X _ _ ho)) (wpAny_pure q))
  ·cases hc
 ne:=fun h tp dd its n sl X htp=>by
  obtain⟨cd,hc⟩:=Option.isSome_iff_exists.mp E.hc
  refine Bool.eq_false_iff.mpr fun q=>?_
  have e:C=tp:=Value.ref.inj (beq_iff_eq.mp q);subst e;unfold PySem.W.clsIn at hc;split at hc
  ·rename_i ho;have z:=(X _ _ ho).symm.trans htp;cases z
  ·cases hc
 ca:=fun {prog w A E' Q s} X I k=>x1O E X I k
noncomputable def w5Q:V->Value
 | .ref a=>.ref a
 | .ty n=>.type n
 | _=>.none
noncomputable def w25(K:PySem.W.Frag)(C a:Addr):List V->Hp->VK->Prop:=fun xs H Q=>∃c b,xs=[.ref a,c]/\(∃z,c = .ref z∨∃n,c = .ty n)/\PySem.W.kitOne K (.ref C) (w5Q c)=some b/\Q (.bl b) H
theorem x2D{X:Cx}{a C:Addr}{oe:Obj}(E:ExcCls X.K C)(hp:(a,oe)∈X.pn)(h1:oe.cls = .ref C)(h2:oe.dict=none)(h3:PySem.W.notCls oe=true):z3E X (.builtin "isinstance") (w25 X.K C a):=by
 rintro pins s σ H xs us Q I r ⟨c,b,rfl,hc,e,q⟩
 cases r with
 | cons r1 r =>
  cases r with
  | cons r2 r =>
   cases r
   obtain rfl:_=Value.ref a:=r1
   have e2:∀u,z1D c u->u=w5Q c:=fun u ru=>by
    obtain⟨z,hc|⟨n,hc⟩⟩:=hc
    ·subst hc;exact ru
    ·subst hc;exact ru
   have:=e2 _ r2
   subst this
   have J:PySem.W.InstAt s.heap a oe C none:=⟨(I.pin _ (List.mem_append_left _ hp)).1,h1,h3,by rw[h2];trivial⟩
   exact PySem.W.kia_one (x4R E) I.kIn J e (fun z=>nomatch z) fun tk=>⟨.bl b,H,I.tok tk,rfl,q⟩
structure TryC(K:PySem.W.Frag)(mg:Str->Option Value)(C:Addr)(xp xa xb:Str):Prop where
 cls:ExcCls K C
 p:∃c,mg xp=some (.ref c)/\PySem.W.exmOne K (.ref C) (.ref c)=some true
 a:∃c,mg xa=some (.ref c)/\PySem.W.kitOne K (.ref C) (.ref c)=some true
 b:∃c,mg xb=some (.ref c)/\PySem.W.kitOne K (.ref C) (.ref c)=some false
 v:PySem.W.kitOne K (.ref C) (.type "ValueError")=some true
noncomputable def w42(i ie:Nat)(F1 FX:List D->Option D)(g:y0->Option (List D)):y0->Option Out:=fun ρ=>match ρ[ie]? with
 | some none=>(match g ρ with
  | some ds=>(match F1 ds with
   | some d=>some (.nx (ρ.set i (some (.sh d))))
   | none=>(match y8J FX ds with|some _=>if z2L ds=true then some (.nx (ρ.set i (some (.sh .non)))) else none|none=>none))
  | none=>none)
 | _=>none
noncomputable abbrev z61(X:Cx)(a:Addr)(oe:Obj):Cx:={ X with A:=X.A.mark (some (.ref a)),calm:=false,pn:=(a,oe)::X.pn,xe:=fun _ _=>False }
section
variable{X:Cx}{pins:List (Addr×Obj)}{σ:St}{H:Hp}{s:Shared}{C:Value}{a:Addr}
theorem y9I{oe:Obj}{vs:Array Value}(I:Inv X pins σ H s)(h1:s.heap.get? a=some oe)(h2:H a=none)(h3:oe.data = .fields vs):Inv (z61 X a oe) pins σ H s:=by
 have nL:a≠X.env.locals:=fun z=>by
  obtain⟨m,⟨o',es,ep,e',d',_⟩,_⟩:=I.loc;rw[←z,h1]at e';cases e'
  rw[h3]at d';cases d'
 have nf:a∉X.fs:=fun z=>by
  obtain⟨_,o',e',d'⟩:=I.funs.mem z;rw[h1]at e';cases e'
  exact d' vs h3
 have ok:=I.ok
 refine⟨⟨ok.mod,ok.kind,ok.glob,ok.blt,ok.above,ok.inj,ok.has,ok.cab,fun z=>Bool.noConfusion z,ok.frames,ok.stk,ok.exf,ok.bs,ok.bsz,ok.noex,ok.exfs,ok.funs,ok.frf⟩,I.os,I.bare,I.base,I.loc,I.cell,I.free,I.freeC,fun p hp=>?_,I.hok,I.len⟩
 rcases List.mem_cons.mp hp with rfl|hp
 ·exact⟨h1,h2,nL,nf,fun v z=>by rw[h3]at z;cases z⟩
 ·exact I.pin p hp
theorem x3C{oe:Obj}(I:Inv (z61 X a oe) pins σ H s)(ok:X.Ok):Inv X pins σ H s :=
 ⟨ok,I.os,I.bare,I.base,I.loc,I.cell,I.free,I.freeC,fun p hp=>I.pin p (List.mem_cons_of_mem _ hp),I.hok,I.len⟩
end
section
variable{X:Cx}
theorem w0K{i ie:Nat}{y fx xp xa xb:Str}{C:Addr}{j1 j2 k:Nat}{ps:List Str}{F1 FX:List D->Option D}{g:y0->Option (List D)}{e:Expr}{es:List Expr}{p1 p2 p3 p4 p5 p6 q1 q2 q3 q4 q5 q6 q7 q8 q9 r1 r2 r3 r4 r5 r6 r7 r8 r9 pos:Pos}{kc:Nat}(G1:FnD X.prog X.w X.K X.mg X.base j1 fx ps F1)(G2:FnB X.prog X.w X.K X.mg X.base (.ref C) j2 fx ps FX)(TC:TryC X.K X.mg C xp xa xb)(hmI:X.mg "isinstance" = none)(hmV:X.mg "ValueError" = none)(hr:Room k X.A)(ha:SA X (e::es) g)(hN:X.N.Nodup)(hne:i≠ie:=by decide)(hj1:j1≤k:=by decide)(hj2:j2≤k:=by decide)(hi:X.N[i]?=some y:=by rfl)(hie:X.N[ie]?=some "e":=by rfl)(hy:X.env.scope.names.lookup y=some .local:=by rfl)(hye:X.env.scope.names.lookup ("e":Str)=some .local:=by rfl)(hxe:X.xe=fun _ _=>False:=by rfl)(hst:X.stack=X.env::X.outer:=by rfl)(hfm:X.env.frame=some X.env.locals:=by rfl)(hgf:Gl X fx:=by rfl)(hgp:Gl X xp:=by rfl)(hga:Gl X xa:=by rfl)(hgb:Gl X xb:=by rfl)(hgV:Gl X "ValueError":=by rfl)(hgI:Gl X "isinstance":=by rfl)(hdf:(fx==("__debug__":Str))=false:=by decide)(hdp:(xp==("__debug__":Str))=false:=by decide)(hda:(xa==("__debug__":Str))=false:=by decide)(hdb:(xb==("__debug__":Str))=false:=by decide)(he:starEach (e::es) X.env=(false,eval e X.env)::starEach es X.env:=by exact y9 rfl)(hpl:(backTo p3 (starEach es X.env)).any (·.1)=false:=by exact v7 rfl)(hs:swapsWith (.Call (.Name fx p2) (e::es) [] p3) (some (.Name y p1)) p4.line X.env=pure false:=by rfl) :
  SS X (.Try [.Assign [.Name y p1] (.Call (.Name fx p2) (e::es) [] p3) p4]
   [.ExceptHandler (some (.Name xp p5)) (some "e") [.If (.BoolOp .And [.Call (.Name "isinstance" q1) [.Name "e" q2,.Name xa q3] [] q4,.UnaryOp .Not (.Call (.Name "isinstance" q5) [.Name "e" q6,.Name xb q7] [] q8) q9,.Call (.Name "isinstance" r1) [.Name "e" r2,.Name "ValueError" r3] [] r4] r5)
    [.Assign [.Name y r6] (.Constant .none kc r7) r8] [] r9] p6] [] [] pos) (w42 i ie F1 FX g):=by
 intro pins s σ H D I ⟨ρ,o,B,H0,V0,Z,e0,r,q⟩;unfold w42 at e0;split at e0
 ·rename_i eie;split at e0
  ·rename_i ds eds;split at e0
   ·rename_i d ed;cases e0
    refine wpAny_Try_except (wpAny_mono ((x5T (x5S (i:=i) (w1M G1 hr ha hj1 hgf hdf he hpl) hN hi (Or.inl hy) hs (.inr hy))) pins s σ H D I ⟨ρ,_,B,H0,V0,Z,by unfold W4 v6;rw[eds];dsimp only;rw[ed],r,q⟩) (fun f s1 hf=>?_) fun e' s' z=>by rw[hxe]at z;exact z.elim)
    cases f with
    | next=>exact wpAny_execs_nil hf
    | ret u=>exact hf
    | brk=>exact hf
    | cont=>exact hf
   ·split at e0
    ·rename_i ed d hb;split at e0
     rotate_left
     ·cases e0
     rename_i nd;cases e0;obtain⟨hbd,eX⟩:=y8I hb;obtain⟨f,fd,g1,g2,g3,g4⟩:=G2.ex;refine wpAny_Try_except (wpAny_execs_cons (wpAny_Assign_Name (wpAny_Call_Name_kw (z8W I hgf g2 ?_ hdf)) hs))
     refine PySem.W.callWith_K (h₀:=X.base) I.ok.mod.kin g3 (wpAny_mono (ha p3 pins s σ H (fun vs H1=>K6 H H1/\j5 X.K (K3 Z H1) ds vs) I ⟨ρ,ds,B,H0,V0,Z,eds,r,fun vs H1 s1 r1=>⟨s1,r1⟩⟩) (fun us s1 ⟨vs,H1,I1,rv,sm,rr⟩=>⟨I1.kIn,?_⟩) fun e' s' z=>by rw[hxe]at z;exact z.elim) he hpl
     ·have R1:=r.mono sm
      have sp:spB X.K FX vs (frzH X.K s1.heap H1) (fun _ _=>False) E0:=⟨w3H R1.tb,Z,ds,d,fun z hz=>by
       obtain⟨o,ho⟩:=R1.zs z hz;by_cases l:z21 X.K z
       ·exact⟨o,by rw[z4K l];exact ho⟩
       ·obtain⟨ob,q'⟩:=z30 (I1.hok z o ho)
        exact⟨_,z1C l ho q'⟩,z8F I1.hok nd rr,eX,hbd⟩
      have hl:us.length=ps.length:=by rw[←rv.length];exact g1.len _ _ _ _ sp
      have z0:=I1.env0
      have env0:Env0 X.prog X.w X.K X.mg X.base X.A X.stack s1 (frzH X.K s1.heap H1):=⟨z0.frames,z0.mod,fun b o e=>⟨(z0.bs b o e).1,z51 (z0.bs b o e).2⟩,z0.bsz,z0.funs,fun b hb=>z51 (z0.frf b hb),w3I I1.hok R1.tb,z0.bare⟩
      have bd:=g4 s1 us I1.kIn (by rw[List.append_nil];exact hl)
      rw[List.append_nil]at bd
      refine wpAny_call (codeAny_mono (g1.run X.A X.stack s1 (frzH X.K s1.heap H1) ⟨us,[]⟩ us vs (fun _ _=>False) E0 (hr.mono hj2) env0 bd rv sp) fun r0 s' hq=>?_)
      cases r0 with
      | ok fl =>
       cases fl with
       | ret u=>obtain⟨v,H',_,_,_,_,_,z⟩:=hq;exact z.elim
       | next=>exact hq.elim
       | brk=>exact hq.elim
       | cont=>exact hq.elim
      | error e' =>
       obtain⟨a,Hf,rfl,os,bare,un,hok,tbf,fl⟩:=hq;have hsm2:K6 H (z8O H1 Hf):=sm.trans z0Z
       have F:FlyI X pins σ (z8O H1 Hf) (.ref C) true a s':=⟨I1.call' (ch:=[]) os (x76 un) (x77 I1.hok R1.tb tbf un hok) bare (fun b z=>absurd z (by simp)),(fl.tracked fun b n=>y2K (x3A I1.hok R1.tb tbf un n) n).mono fun b hb=>Nw.of I1 hb⟩
       generalize hH2:z8O H1 Hf=H2 at F hsm2
       refine F.note (env0:=X.env) (outer:=X.outer) (L:=X.env.locals) hst hfm hfm X.A F.inv.ok.frames fun s2 F2=>?_
       refine F2.flight X.A none fun s3 F3=>?_
       obtain⟨I3,f1,f2,oe,vs',tb,k1,k2,k3,k4,k5,k6⟩:=id F3;have IS:=y9I I3 k1 f2 k4;obtain⟨cp,mp,xp1⟩:=TC.p
       have nc:∀{ob:Obj} {ws:Array Value},ob.data = .fields ws->PySem.W.notCls ob=true:=fun {ob ws} h=>by unfold PySem.W.notCls;rw[h]
       have J:PySem.W.InstAt s3.heap a oe C none:=⟨k1,k2,nc k4,by rw[k3];trivial⟩
       refine wpAny_handleBy_cons (codeAny_handlers_test (z8W (X:=z61 X a oe) IS hgp mp ?_ hdp)) (by intro q;cases q)
       refine (PySem.W.exm_one (K:=X.K) I3.kIn J.type xp1) _ _ _ s3 (fun _ _ z=>z) ?_
       refine codeAny_handlers_suite_as (F3.flight _ none fun s4 F4=>?_)
       obtain⟨I4,f1',f2',oe4,vs4,tb4,k1',k2',k3',k4',k5',k6'⟩:=id F4;have IS4:=y9I I4 k1' f2' k4'
       refine y14 (X:=z61 X a oe4) (v:=.ref a) IS4 hN hie (Or.inl hye) rfl (fun s5 I5=>?_) (.inr hye)
       obtain⟨ca,ma,ka⟩:=TC.a;obtain⟨cb,mb,kb⟩:=TC.b;have CI:z3E (z61 X a oe4) (.builtin "isinstance") (w25 X.K C a):=x2D (X:=z61 X a oe4) TC.cls (.head _) k2' k3' (nc k4')
       have hiσ:ie<σ.length:=by rw[I4.len];exact (List.getElem?_eq_some_iff.mp hie).1
       have σe:(σ.set ie (some (V.ref a)))[ie]?=some (some (.ref a)):=List.getElem?_set_self hiσ
       have suite:=y4S (w29 (X:=z61 X a oe4) (pos:=r9) (PW.pt (x04 (pos:=r5) (y6G (z1N (p:=q1) (pos:=q4) CI hgI hmI (by decide +kernel) (K8 (z64 (X:=z61 X a oe4) (pos:=q2) hie (Or.inl hye) (by decide) (by decide)) (K8 (x0B (X:=z61 X a oe4) (v:=.ref ca) (pos:=q3) hga ma rfl hda) z05 (y9 rfl)) (y9 rfl)) (by decide) (by decide) (y9 rfl) (v7 rfl)))
        (x04 (x64 (pos:=q9) (y6G (z1N (p:=q5) (pos:=q8) CI hgI hmI (by decide +kernel) (K8 (z64 (X:=z61 X a oe4) (pos:=q6) hie (Or.inl hye) (by decide) (by decide)) (K8 (x0B (X:=z61 X a oe4) (v:=.ref cb) (pos:=q7) hgb mb rfl hdb) z05 (y9 rfl)) (y9 rfl)) (by decide) (by decide) (y9 rfl) (v7 rfl))))
         (x03 (y6G (z1N (p:=r1) (pos:=r4) CI hgI hmI (by decide +kernel) (K8 (z64 (X:=z61 X a oe4) (pos:=r2) hie (Or.inl hye) (by decide) (by decide)) (K8 (x0D (X:=z61 X a oe4) (v:=.ty "ValueError") (pos:=r3) hgV hmV PyProof.Rows.Boot.«ValueError» rfl (by decide) (by decide)) z05 (y9 rfl)) (y9 rfl)) (by decide) (by decide) (y9 rfl) (v7 rfl)))))))
        (y4S (y6I (X:=z61 X a oe4) (pos:=r8) (pos':=r6) hN hi (Or.inl hy) (x67 (j:=kc) (pos:=r7)) rfl (.inr hy))) x06)
       refine wpAny_mono (suite pins s5 (σ.set ie (some (.ref a))) H2 { nx:=fun σ' H'=>σ'=(σ.set ie (some (.ref a))).set i (some .non)/\H'=H2,rt:=fun _ _=>False } I5 ?_) (fun f6 s6 hf=>?_) (fun _ _ z=>z.elim)
       ·refine⟨.ref a,σe,.ref ca,true,rfl,⟨ca,.inl rfl⟩,ka,true,rfl,x17 ?_⟩
        refine⟨.ref a,σe,.ref cb,false,rfl,⟨cb,.inl rfl⟩,kb,false,rfl,x17 ?_⟩
        refine⟨.ref a,σe,.ty "ValueError",true,rfl,⟨0,.inr ⟨_,rfl⟩⟩,TC.v,true,rfl,x17 ?_⟩
        exact⟨rfl,rfl⟩
       ·cases f6 with
        | next =>
         obtain⟨σ6,H6,I6,hσ,hH⟩:=hf
         subst hσ hH
         refine x0L (X:=X) (x3C I6 I.ok) hN hie hye fun s7 I7=>⟨_,_,I7,?_⟩
         refine q _ _ Z ?_
         have eie2:(ρ.set i (some (Cell.sh .non)))[ie]?=some none:=by rw[List.getElem?_set_ne hne];exact eie
         exact (((r.mono hsm2).slot eie (some (.ref a))).set (i:=i) (d:=.non) (v:=.non) (Y7.mpr rfl)).slot eie2 none
        | ret u=>obtain⟨_,_,_,_,_,z⟩:=hf;exact z.elim
        | brk=>obtain⟨_,_,_,z⟩:=hf;exact z.elim
        | cont=>obtain⟨_,_,_,z⟩:=hf;exact z.elim
    ·cases e0
  ·cases e0
 ·cases e0
end
end L3
namespace L3
open PySem PySem.Spec PyProof.Rows L2 PySem.SeqAt
structure ZE(X:Cx)(e:Expr)(f:y0->Option D):Prop where
 h:SE X e f
structure ZQ(X:Cx)(e:Expr)(f:y0->Option (List D)):Prop where
 h:SQ X e f
structure ZF(X:Cx)(e:Expr)(f:y0->Option (List D)):Prop where
 h:SF X e f
structure ZT(X:Cx)(e:Expr)(f:y0->Option Bool):Prop where
 h:STt X e f
structure ZW(X:Cx)(e:Expr)(f:y0->Option Bool):Prop where
 h:STw X e f
structure ZA(X:Cx)(e:List Expr)(f:y0->Option (List D)):Prop where
 h:SA X e f
structure ZS(X:Cx)(e:Stmt)(f:y0->Option Out):Prop where
 h:SS X e f
structure ZB(X:Cx)(e:List Stmt)(f:y0->Option Out):Prop where
 h:SSs X e f
structure ZG(X:Cx)(e:Expr)(f:D->y0->Option y0):Prop where
 h:SG X e f
structure ZGs(X:Cx)(e:List Expr)(f:List D->y0->Option y0):Prop where
 h:SGs X e f
structure ZX(X:Cx)(e:Expr)(f:y0->Option (D×y0)):Prop where
 h:SX X e f
structure ZL(X:Cx)(e:Expr)(f:y0->Option (List D)):Prop where
 h:SL X e f
structure ZQL(X:Cx)(e:Expr)(f:y0->Option (List D)):Prop where
 h:SQL X e f
structure ZO(X:Cx)(e:Option Expr)(f:y0->Option (Option Int)):Prop where
 h:SO X e f
structure ZFD(X:Cx)(e:Expr)(f:y0->Option (List Key×List D)):Prop where
 h:SFD X e f
structure ZJ(X:Cx)(e:List Expr)(f:y0->Str->Option D):Prop where
 h:SJ X e f
structure ZI(X:Cx)(tg e:Expr)(f:y0->Option (List D)):Prop where
 h:SI X tg e f
structure ZIc(X:Cx)(tg e:Expr)(f:y0->Option (List D)):Prop where
 h:SIc X tg e f
structure ZP(X:Cx)(ifs:List Expr)(f:y0->Option Bool):Prop where
 h:x2S X ifs (tT X.K f)
section
variable{X:Cx}
theorem zsv(i:Nat){x:Str}{pos:Pos}(hN:X.N[i]?=some x:=by rfl)(hv:Vis X.env.scope x:=by first|exact Or.inl rfl|exact Or.inr (Or.inl rfl)|exact Or.inr (Or.inr rfl))(hd:(x==("__debug__":Str))=false:=by decide)(hcd:(x==("__classdict__":Str))=false:=by decide):ZE X (.Name x pos) (z6 i) :=
 ⟨sv (i:=i) (hN:=hN) (hv:=hv) (hd:=hd) (hcd:=hcd)⟩
theorem zqv(i:Nat){x:Str}{pos:Pos}(hN:X.N[i]?=some x:=by rfl)(hv:Vis X.env.scope x:=by first|exact Or.inl rfl|exact Or.inr (Or.inl rfl)|exact Or.inr (Or.inr rfl))(hd:(x==("__debug__":Str))=false:=by decide)(hcd:(x==("__classdict__":Str))=false:=by decide):ZQ X (.Name x pos) (y1R i) :=
 ⟨qv (i:=i) (hN:=hN) (hv:=hv) (hd:=hd) (hcd:=hcd)⟩
theorem x8{i j pos}:ZE X (.Constant (.int i) j pos) (dC (.int i)) :=
 ⟨w1L ⟩
theorem z20{b j pos}:ZE X (.Constant (.bool b) j pos) (dC (.bl b)) :=
 ⟨w4O ⟩
theorem z4H{j pos}:ZE X (.Constant .none j pos) (dC .non) :=
 ⟨w1E ⟩
theorem z0Q{x j pos}:ZE X (.Constant (.str x) j pos) (dC (.str x)) :=
 ⟨w16 ⟩
end
section
variable{X:Cx}{e:Expr}
theorem J7{f:y0->Option D}(h:ZE X e f):ZQ X e (dSq f) :=
 ⟨w6L (h:=h.h)⟩
theorem z2Q{f:y0->Option (List D)}(h:ZF X e f):ZE X e (dLs f) :=
 ⟨w6V (h:=h.h)⟩
theorem w04{f:y0->Option (List D)}(h:ZF X e f):ZQ X e f :=
 ⟨f_q (h:=h.h)⟩
end
section
variable{X:Cx}{a b c:Expr}{fa fb fc:y0->Option D}{pos:Pos}
theorem z37{f:y0->Option D}(h:ZE X a f)(he:∀whole,isTrue a X.env whole=(do let v ←whole;standAt a.pos;holding [v] (truthy v)):=by intro _;rfl):ZT X a (x5 f) :=
 ⟨w0F (h:=h.h) (he:=he)⟩
theorem y93{op op':CmpOp}{r r':R2}{g g':D->D->Option D}(ho:OpR X (compareOp op) r)(hr:z5E X.K r g)(ho':OpR X (compareOp op') r')(hr':z5E X.K r' g')(ha:ZE X a fa)(hb:ZE X b fb)(hc:ZE X c fc)(hm:lastMarks [op,op'] [b,c]=false:=by with_unfolding_all rfl):ZE X (.Compare a [op,op'] [b,c] pos) (z36 g g' fa fb fc) :=
 ⟨x3T (ho:=ho) (hr:=hr) (ho':=ho') (hr':=hr') (ha:=ha.h) (hb:=hb.h) (hc:=hc.h) (hm:=hm)⟩
theorem y29{op op':CmpOp}{r r':R2}{g g':D->D->Option D}(ho:OpR X (compareOp op) r)(hr:z5E X.K r g)(ho':OpR X (compareOp op') r')(hr':z5E X.K r' g')(ha:ZE X a fa)(hb:ZE X b fb)(hc:ZE X c fc)(hm:lastMarks [op,op'] [b,c]=false:=by with_unfolding_all rfl):ZT X (.Compare a [op,op'] [b,c] pos) (x5 (z36 g g' fa fb fc)) :=
 ⟨x3D (ho:=ho) (hr:=hr) (ho':=ho') (hr':=hr') (ha:=ha.h) (hb:=hb.h) (hc:=hc.h) (hm:=hm)⟩
end
section
variable{X:Cx}{a b c:Expr}{fa fb fc:y0->Option D}{pos:Pos}
variable{rest:List Expr}
theorem y0Y{op}{f:y0->Option D}(h:ZE X a f):ZE X (.BoolOp op [a] pos) f :=
 ⟨w1C (h:=h.h)⟩
end
section
variable{X:Cx}{a b c:Expr}{fa fb fc:y0->Option D}{pos:Pos}
variable{rest:List Expr}
theorem y10(ha:ZE X a fa)(hb:ZE X (.BoolOp .And (b::rest) pos) fb):ZE X (.BoolOp .And (a::b::rest) pos) (x5D fa fb) :=
 ⟨w1O (ha:=ha.h) (hb:=hb.h)⟩
end
section
variable{X:Cx}{a b c:Expr}{fa fb fc:y0->Option D}{pos:Pos}
variable{rest:List Expr}
theorem x73(ha:ZE X a fa):ZE X (.UnaryOp .Not a pos) (w00 fa) :=
 ⟨w1D (ha:=ha.h)⟩
end
section
variable{X:Cx}{a b c:Expr}{fa fb fc:y0->Option D}{pos:Pos}
variable{rest:List Expr}
variable{ga gb:y0->Option Bool}
theorem y0U(ha:ZT X a ga):ZW X (.BoolOp .And [a] pos) ga :=
 ⟨x7C (ha:=ha.h)⟩
end
section
variable{X:Cx}{a b c:Expr}{fa fb fc:y0->Option D}{pos:Pos}
variable{rest:List Expr}
variable{ga gb:y0->Option Bool}
theorem z5F(ha:ZT X a ga):ZW X (.BoolOp .Or [a] pos) ga :=
 ⟨w0D (ha:=ha.h)⟩
end
section
variable{X:Cx}{a b c:Expr}{fa fb fc:y0->Option D}{pos:Pos}
variable{rest:List Expr}
variable{ga gb:y0->Option Bool}
theorem y4A(ha:ZT X a ga)(hb:ZW X (.BoolOp .And (b::rest) pos) gb):ZW X (.BoolOp .And (a::b::rest) pos) (z5U ga gb) :=
 ⟨w0E (ha:=ha.h) (hb:=hb.h)⟩
end
section
variable{X:Cx}{a b c:Expr}{fa fb fc:y0->Option D}{pos:Pos}
variable{rest:List Expr}
variable{ga gb:y0->Option Bool}
theorem z8H(ha:ZT X a ga)(hb:ZW X (.BoolOp .Or (b::rest) pos) gb):ZW X (.BoolOp .Or (a::b::rest) pos) (z80 ga gb) :=
 ⟨w4E (ha:=ha.h) (hb:=hb.h)⟩
end
section
variable{X:Cx}{a b c:Expr}{fa fb fc:y0->Option D}{pos:Pos}
variable{rest:List Expr}
variable{ga gb:y0->Option Bool}
theorem z9R(h:ZW X a ga):ZT X a ga :=
 ⟨w6E (h:=h.h)⟩
end
section
variable{X:Cx}{a b c:Expr}{fa fb fc:y0->Option D}{pos:Pos}
variable{rest:List Expr}
variable{ga gb:y0->Option Bool}
theorem z3U(ha:ZT X a ga):ZT X (.UnaryOp .Not a pos) (z0S ga) :=
 ⟨w0G (ha:=ha.h)⟩
end
section
variable{X:Cx}{a b c:Expr}{fa fb fc:y0->Option D}{pos:Pos}
variable{rest:List Expr}
variable{ga gb:y0->Option Bool}
theorem x5R(hc:ZT X c ga)(ha:ZE X a fa)(hb:ZE X b fb):ZE X (.IfExp c a b pos) (dIf ga fa fb) :=
 ⟨w4M (hc:=hc.h) (ha:=ha.h) (hb:=hb.h)⟩
end
section
variable{X:Cx}{e:Expr}{es:List Expr}{f:y0->Option D}{g:y0->Option (List D)}{pos:Pos}
theorem y8 :ZA X [] u9 :=
 ⟨y66 ⟩
theorem z7(ha:ZE X e f)(hr:ZA X es g)(hs:starEach (e::es) X.env=(false,eval e X.env)::starEach es X.env:=by exact y9 rfl):ZA X (e::es) (z8 f g) :=
 ⟨z70 (ha:=ha.h) (hr:=hr.h) (hs:=hs)⟩
theorem Z8{x1}(h:ZA X es g):ZE X (.Tuple es x1 pos) (z2V g) :=
 ⟨w14 (h:=h.h)⟩
theorem z1F(h:ZA X es g):ZF X (.List es pos) (z5T g) :=
 ⟨w12 (h:=h.h)⟩
end
section
variable{X:Cx}{st:Stmt}{rest:List Stmt}{e c:Expr}{pos:Pos}{f:y0->Option D}{g k:y0->Option Out}
theorem W9 :ZB X [] Y6 :=
 ⟨w0O ⟩
theorem y6(h1:ZS X st g)(h2:ZB X rest k):ZB X (st::rest) (J3 g k) :=
 ⟨x7I (h1:=h1.h) (h2:=h2.h)⟩
theorem w6(h1:ZS X st g):ZB X [st] g :=
 ⟨x5T (h1:=h1.h)⟩
theorem j0(h:ZE X e f):ZS X (.Return (some e) pos) (z08 f) :=
 ⟨w0L (h:=h.h)⟩
theorem z0A{a b:List Stmt}{fc:y0->Option Bool}(hc:ZT X c fc)(ha:ZB X a g)(hb:ZB X b k):ZS X (.If c a b pos) (z1V fc g k) :=
 ⟨w4K (hc:=hc.h) (ha:=ha.h) (hb:=hb.h)⟩
theorem v9{i:Nat}{x:Str}{pos':Pos}(he:ZE X e f)(hN:X.N.Nodup)(hi:X.N[i]?=some x:=by rfl)(hx:Loc X.env.scope x:=by first|exact Or.inl rfl|exact Or.inr rfl)(hs:swapsWith e (some (.Name x pos')) pos.line X.env=pure false:=by rfl)(hf:X.fn x=true∨X.env.scope.names.lookup x=some .local:=by first|exact .inl rfl|exact .inr rfl):ZS X (.Assign [.Name x pos'] e pos) (W4 i f) :=
 ⟨x5S (he:=he.h) (hN:=hN) (hi:=hi) (hx:=hx) (hs:=hs) (hf:=hf)⟩
theorem z5V{i:Nat}{x:Str}{pos':Pos}{fl:y0->Option (List D)}(he:ZF X e fl)(hN:X.N.Nodup)(hi:X.N[i]?=some x:=by rfl)(hx:Loc X.env.scope x:=by first|exact Or.inl rfl|exact Or.inr rfl)(hs:swapsWith e (some (.Name x pos')) pos.line X.env=pure false:=by rfl)(hf:X.fn x=true∨X.env.scope.names.lookup x=some .local:=by first|exact .inl rfl|exact .inr rfl):ZS X (.Assign [.Name x pos'] e pos) (z99 i fl) :=
 ⟨x7G (he:=he.h) (hN:=hN) (hi:=hi) (hx:=hx) (hs:=hs) (hf:=hf)⟩
theorem x31{i:Nat}{x:Str}{pos':Pos}{fl:y0->Option (List Key×List D)}(he:ZFD X e fl)(hN:X.N.Nodup)(hi:X.N[i]?=some x:=by rfl)(hx:Loc X.env.scope x:=by first|exact Or.inl rfl|exact Or.inr rfl)(hs:swapsWith e (some (.Name x pos')) pos.line X.env=pure false:=by rfl)(hf:X.fn x=true∨X.env.scope.names.lookup x=some .local:=by first|exact .inl rfl|exact .inr rfl):ZS X (.Assign [.Name x pos'] e pos) (x5B i fl) :=
 ⟨x7H (he:=he.h) (hN:=hN) (hi:=hi) (hx:=hx) (hs:=hs) (hf:=hf)⟩
theorem u3{i:Nat}{x:Str}(hN:X.N.Nodup)(hi:X.N[i]?=some x:=by rfl)(hx:Loc X.env.scope x:=by first|exact Or.inl rfl|exact Or.inr rfl)(hf:X.fn x=true∨X.env.scope.names.lookup x=some .local:=by first|exact .inl rfl|exact .inr rfl):ZG X (.Name x pos) (w8 i) :=
 ⟨x7R (hN:=hN) (hi:=hi) (hx:=hx) (hf:=hf)⟩
theorem y0X :ZGs X [] z2B :=
 ⟨x7Q ⟩
theorem z3F{es:List Expr}{h:D->y0->Option y0}{kk:List D->y0->Option y0}(h1:ZG X e h)(h2:ZGs X es kk)(hs:(assignEach (e::es) X.env).map (·.2)=assign e X.env::(assignEach es X.env).map (·.2):=by rfl):ZGs X (e::es) (g7 h kk) :=
 ⟨x3L (h1:=h1.h) (h2:=h2.h) (hs:=hs)⟩
theorem y4C{es:List Expr}{kt:Nat}{kk:List D->y0->Option y0}{n:Nat}(hc:X.calm=true)(h:ZGs X es kk)(hn:(assignEach es X.env).length=n:=by rfl)(hst:(assignEach es X.env).findIdx? (·.1)=none:=by rfl):ZG X (.Tuple es kt pos) (z2A n kk) :=
 ⟨w11 (hc:=hc) (h:=h.h) (hn:=hn) (hst:=hst)⟩
theorem x70(i:Nat)(h:ZS X st g):ZS X st (fun ρ=>g (frz i ρ)) :=
 ⟨w0P (i:=i) (h:=h.h)⟩
theorem z1W{tg iter:Expr}{body:List Stmt}{fi:y0->Option (List D)}{h:D->y0->Option y0}(hp:PassesOwn (model X.prog X.w) X.A X.env X.xe)(hc:X.calm=true)(hi:ZI X tg iter fi)(hg:ZG X tg h)(hb:ZB X body g)(hs:∀x,foldedSetIterable iter X.env x=pure x:=by intro _;rfl):ZS X (.For tg iter body [] pos) (z7S fi h g) :=
 ⟨w0Q (hp:=hp) (hc:=hc) (hi:=hi.h) (hg:=hg.h) (hb:=hb.h) (hs:=hs)⟩
end
section
variable{X:Cx}{st:Stmt}{rest:List Stmt}{e c:Expr}{pos:Pos}{f:y0->Option D}{g k:y0->Option Out}
variable{tg:Expr}
theorem z2X{p:Pos}(hm:X.mg "range" = none)(h:ZE X e f)(hg:Gl X "range":=by rfl)(hs:starEach [e] X.env=[(false,eval e X.env)]:=by rfl):ZI X tg (.Call (.Name "range" p) [e] [] pos) (z2W f) :=
 ⟨x7O (hm:=hm) (h:=h.h) (hg:=hg) (hs:=hs)⟩
end
section
variable{X:Cx}{st:Stmt}{rest:List Stmt}{e c:Expr}{pos:Pos}{f:y0->Option D}{g k:y0->Option Out}
variable{tg:Expr}
theorem z04{tg e:Expr}{f:y0->Option (List D)}(h:ZI X tg e f):ZIc X tg e f :=
 ⟨w0X (h:=h.h)⟩
end
section
variable{X:Cx}{a b c:Expr}{fa fb fc:y0->Option D}{pos:Pos}
theorem y4F(ha:ZE X a fa)(hb:ZE X b fb):ZE X (.BinOp a .Sub b pos) (d2 y02 fa fb) :=
 ⟨w15 (ha:=ha.h) (hb:=hb.h)⟩
theorem z8M(ha:ZE X a fa)(hb:ZE X b fb):ZE X (.BinOp a .Mod b pos) (d2 z9A fa fb) :=
 ⟨w1H (ha:=ha.h) (hb:=hb.h)⟩
theorem y92(ha:ZE X a fa)(hb:ZE X b fb):ZE X (.BinOp a .FloorDiv b pos) (d2 x23 fa fb) :=
 ⟨w1N (ha:=ha.h) (hb:=hb.h)⟩
theorem x6W(ha:ZE X a fa)(hb:ZE X b fb):ZT X (.Compare a [.Gt] [b] pos) (x5 (d2 w3P fa fb)) :=
 ⟨w0J (ha:=ha.h) (hb:=hb.h)⟩
end
section
variable{X:Cx}
variable{a b c:Expr}{fa fb fc:y0->Option D}{pos:Pos}
theorem K0(ha:ZE X a fa)(hb:ZE X b fb):ZE X (.BinOp a .Add b pos) (d2 z0K fa fb) :=
 ⟨w1Q (ha:=ha.h) (hb:=hb.h)⟩
end
section
variable{X:Cx}
variable{a b c:Expr}{fa fb fc:y0->Option D}{pos:Pos}
theorem x74(ha:ZE X a fa)(hb:ZE X b fb):ZE X (.Compare a [.IsNot] [b] pos) (d2 x2Z fa fb) :=
 ⟨w1K (ha:=ha.h) (hb:=hb.h)⟩
end
section
variable{X:Cx}
variable{a b c:Expr}{fa fb fc:y0->Option D}{pos:Pos}
theorem y8W(ha:ZE X a fa)(hb:ZE X b fb):ZT X (.Compare a [.Is] [b] pos) (x5 (d2 dIs fa fb)) :=
 ⟨w4H (ha:=ha.h) (hb:=hb.h)⟩
end
section
variable{X:Cx}
variable{a b c:Expr}{fa fb fc:y0->Option D}{pos:Pos}
theorem x6V(ha:ZE X a fa)(hb:ZE X b fb):ZT X (.Compare a [.IsNot] [b] pos) (x5 (d2 x2Z fa fb)) :=
 ⟨w0I (ha:=ha.h) (hb:=hb.h)⟩
end
section
variable{X:Cx}{a b c:Expr}{fa fb fc:y0->Option D}{pos:Pos}
theorem y05(hu:X.A.units+64<cLine)(ha:ZE X a fa)(hb:ZE X b fb):ZE X (.Compare a [.Eq] [b] pos) (d2 dEq fa fb) :=
 ⟨w4N (hu:=hu) (ha:=ha.h) (hb:=hb.h)⟩
theorem z4B(hu:X.A.units+64<cLine)(ha:ZE X a fa)(hb:ZE X b fb):ZT X (.Compare a [.Eq] [b] pos) (x5 (d2 dEq fa fb)) :=
 ⟨w4J (hu:=hu) (ha:=ha.h) (hb:=hb.h)⟩
theorem z8I(hu:X.A.units+64<cLine)(ha:ZE X a fa)(hb:ZE X b fb):ZT X (.Compare a [.NotEq] [b] pos) (x5 (d2 dNe fa fb)) :=
 ⟨w4F (hu:=hu) (ha:=ha.h) (hb:=hb.h)⟩
theorem y8X{fb:y0->Option (List D)}(hu:X.A.units+64<cLine)(ha:ZE X a fa)(hb:ZQ X b fb)(hm:behindInMarks .In b=false:=by with_unfolding_all rfl):ZT X (.Compare a [.In] [b] pos) (x5 (dIn false fa fb)) :=
 ⟨w4I (hu:=hu) (ha:=ha.h) (hb:=hb.h) (hm:=hm)⟩
theorem y8V{fb:y0->Option (List D)}(hu:X.A.units+64<cLine)(ha:ZE X a fa)(hb:ZQ X b fb)(hm:behindInMarks .NotIn b=false:=by with_unfolding_all rfl):ZT X (.Compare a [.NotIn] [b] pos) (x5 (dIn true fa fb)) :=
 ⟨w0H (hu:=hu) (ha:=ha.h) (hb:=hb.h) (hm:=hm)⟩
theorem Y8{fa:y0->Option (List D)}(ha:ZQ X a fa)(hb:ZE X b fb)(hs:y5O b:=by exact fun _ _=>rfl):ZE X (.Subscript a b pos) (dIx fa fb) :=
 ⟨w4L (ha:=ha.h) (hb:=hb.h) (hs:=hs)⟩
theorem J9 :ZO X none z0O :=
 ⟨x7L ⟩
theorem j6{f:y0->Option D}(h:ZE X a f):ZO X (some a) (u8 f) :=
 ⟨x7K (h:=h.h)⟩
theorem y2C{lo hi:Option Expr}{p2:Pos}{fl fh:y0->Option (Option Int)}(he:ZE X a fa)(hl:ZO X lo fl)(hh:ZO X hi fh):ZE X (.Subscript a (.Slice lo hi none p2) pos) (z29 fa fl fh) :=
 ⟨w19 (he:=he.h) (hl:=hl.h) (hh:=hh.h)⟩
theorem Y4{p:Pos}{f:y0->Option (List D)}(hm:X.mg "len" = none)(h:ZQ X a f)(hg:Gl X "len":=by rfl)(he:starEach [a] X.env=(false,eval a X.env)::starEach [] X.env:=by exact y9 rfl)(hpl:(backTo pos (starEach [] X.env)).any (·.1)=false:=by exact v7 rfl):ZE X (.Call (.Name "len" p) [a] [] pos) (z09 f) :=
 ⟨w1I (hm:=hm) (h:=h.h) (hg:=hg) (he:=he) (hpl:=hpl)⟩
theorem z4G{p:Pos}{f:y0->Option (List D)}(hm:X.mg "tuple" = none)(h:ZQ X a f)(hg:Gl X "tuple":=by rfl)(he:starEach [a] X.env=(false,eval a X.env)::starEach [] X.env:=by exact y9 rfl)(hpl:(backTo pos (starEach [] X.env)).any (·.1)=false:=by exact v7 rfl)(hv:bootBuiltins "tuple" = some (.type "tuple"):=by decide +kernel):ZE X (.Call (.Name "tuple" p) [a] [] pos) (z58 f) :=
 ⟨x3P (hm:=hm) (h:=h.h) (hg:=hg) (he:=he) (hpl:=hpl) (hv:=hv)⟩
end
section
variable{X:Cx}{p pos:Pos}{e:Expr}{f:y0->Option (List D)}
theorem z3G(hm:X.mg "sorted" = none)(h:ZQ X e f)(hg:Gl X "sorted":=by rfl)(hv:bootBuiltins "sorted" = some (.builtin "sorted"):=by decide +kernel)(he:starEach [e] X.env=(false,eval e X.env)::starEach [] X.env:=by exact y9 rfl)(hpl:(backTo pos (starEach [] X.env)).any (·.1)=false:=by exact v7 rfl):ZF X (.Call (.Name "sorted" p) [e] [] pos) (dQF z4I f) :=
 ⟨y9S (hm:=hm) (h:=h.h) (hg:=hg) (hv:=hv) (he:=he) (hpl:=hpl)⟩
theorem z85(hm:X.mg "list" = none)(h:ZQ X e f)(hg:Gl X "list":=by rfl)(hv:bootBuiltins "list" = some (.type "list"):=by decide +kernel)(he:starEach [e] X.env=(false,eval e X.env)::starEach [] X.env:=by exact y9 rfl)(hpl:(backTo pos (starEach [] X.env)).any (·.1)=false:=by exact v7 rfl):ZF X (.Call (.Name "list" p) [e] [] pos) (dQF some f) :=
 ⟨x7T (hm:=hm) (h:=h.h) (hg:=hg) (hv:=hv) (he:=he) (hpl:=hpl)⟩
theorem y94(hc:X.calm=true)(hm:X.mg "all" = none)(h:ZF X e f)(hg:Gl X "all":=by rfl)(hv:bootBuiltins "all" = some (.builtin "all"):=by decide +kernel)(he:starEach [e] X.env=(false,eval e X.env)::starEach [] X.env:=by exact y9 rfl)(hpl:(backTo pos (starEach [] X.env)).any (·.1)=false:=by exact v7 rfl):ZE X (.Call (.Name "all" p) [e] [] pos) (x5E f) :=
 ⟨w1P (hc:=hc) (hm:=hm) (h:=h.h) (hg:=hg) (hv:=hv) (he:=he) (hpl:=hpl)⟩
theorem z3V{T:String}{x:Str}{p1 p2:Pos}{fe:y0->Option D}(kt:Kit T)(hm:X.mg "isinstance" = none)(hmT:X.mg x=none)(h:ZE X e fe)(hvT:bootBuiltins x=some (.type T))(hg:Gl X "isinstance":=by rfl)(hgT:Gl X x:=by rfl)(hv:bootBuiltins "isinstance" = some (.builtin "isinstance"):=by decide +kernel)(hn:x≠"__name__":=by decide)(hdb:(x==("__debug__":Str))=false:=by decide)(he:starEach [e,.Name x p1] X.env=(false,eval e X.env)::starEach [.Name x p1] X.env:=by exact y9 rfl)(he2:starEach [.Name x p1] X.env=(false,eval (.Name x p1) X.env)::starEach [] X.env:=by exact y9 rfl)(hpl:(backTo pos (starEach [.Name x p1] X.env)).any (·.1)=false:=by exact v7 rfl):ZE X (.Call (.Name "isinstance" p2) [e,.Name x p1] [] pos) (z7B T fe) :=
 ⟨w1J (kt:=kt) (hm:=hm) (hmT:=hmT) (h:=h.h) (hvT:=hvT) (hg:=hg) (hgT:=hgT) (hv:=hv) (hn:=hn) (hdb:=hdb) (he:=he) (he2:=he2) (hpl:=hpl)⟩
end
section
variable{X:Cx}{p p2 pos pos2:Pos}{a b e:Expr}{f:y0->Option (List D)}{fa fb:y0->Option D}
theorem y4D(hc:X.calm=true)(hm:X.mg "list" = none)(hm2:X.mg "range" = none)(h:ZE X a fa)(hg:Gl X "list":=by rfl)(hg2:Gl X "range":=by rfl)(hv:bootBuiltins "list" = some (.type "list"):=by decide +kernel)(hv2:bootBuiltins "range" = some (.type "range"):=by decide +kernel)(he:starEach [a] X.env=(false,eval a X.env)::starEach [] X.env:=by exact y9 rfl)(hpl:(backTo pos2 (starEach [] X.env)).any (·.1)=false:=by exact v7 rfl)(he2:starEach [.Call (.Name "range" p2) [a] [] pos2] X.env=(false,eval (.Call (.Name "range" p2) [a] [] pos2) X.env)::starEach [] X.env:=by exact y9 rfl)(hpl2:(backTo pos (starEach [] X.env)).any (·.1)=false:=by exact v7 rfl):ZF X (.Call (.Name "list" p) [.Call (.Name "range" p2) [a] [] pos2] [] pos) (z41 fa) :=
 ⟨y7U (hc:=hc) (hm:=hm) (hm2:=hm2) (h:=h.h) (hg:=hg) (hg2:=hg2) (hv:=hv) (hv2:=hv2) (he:=he) (hpl:=hpl) (he2:=he2) (hpl2:=hpl2)⟩
theorem y5R(hc:X.calm=true)(hm:X.mg "min" = none)(ha:ZE X a fa)(hb:ZE X b fb)(hg:Gl X "min":=by rfl)(hv:bootBuiltins "min" = some (.builtin "min"):=by decide +kernel)(he:starEach [a,b] X.env=(false,eval a X.env)::starEach [b] X.env:=by exact y9 rfl)(he2:starEach [b] X.env=(false,eval b X.env)::starEach [] X.env:=by exact y9 rfl)(hpl:(backTo pos (starEach [b] X.env)).any (·.1)=false:=by exact v7 rfl):ZE X (.Call (.Name "min" p) [a,b] [] pos) (v6 x6N (z8 fa (z8 fb u9))) :=
 ⟨x7W (hc:=hc) (hm:=hm) (ha:=ha.h) (hb:=hb.h) (hg:=hg) (hv:=hv) (he:=he) (he2:=he2) (hpl:=hpl)⟩
theorem y5S(hc:X.calm=true)(hm:X.mg "max" = none)(ha:ZE X a fa)(hb:ZE X b fb)(hg:Gl X "max":=by rfl)(hv:bootBuiltins "max" = some (.builtin "max"):=by decide +kernel)(he:starEach [a,b] X.env=(false,eval a X.env)::starEach [b] X.env:=by exact y9 rfl)(he2:starEach [b] X.env=(false,eval b X.env)::starEach [] X.env:=by exact y9 rfl)(hpl:(backTo pos (starEach [b] X.env)).any (·.1)=false:=by exact v7 rfl):ZE X (.Call (.Name "max" p) [a,b] [] pos) (v6 x6O (z8 fa (z8 fb u9))) :=
 ⟨x7Y (hc:=hc) (hm:=hm) (ha:=ha.h) (hb:=hb.h) (hg:=hg) (hv:=hv) (he:=he) (he2:=he2) (hpl:=hpl)⟩
theorem y2B(hm:X.mg "int" = none)(ha:ZE X a fa)(hg:Gl X "int":=by rfl)(hv:bootBuiltins "int" = some (.type "int"):=by decide +kernel)(he:starEach [a] X.env=(false,eval a X.env)::starEach [] X.env:=by exact y9 rfl)(hpl:(backTo pos (starEach [] X.env)).any (·.1)=false:=by exact v7 rfl):ZE X (.Call (.Name "int" p) [a] [] pos) (v6 x2W (z8 fa u9)) :=
 ⟨x3Q (hm:=hm) (ha:=ha.h) (hg:=hg) (hv:=hv) (he:=he) (hpl:=hpl)⟩
theorem z8K(h:ZE X a fa):ZE X (.UnaryOp .USub a pos) (y5D fa) :=
 ⟨w1F (h:=h.h)⟩
theorem y4B{i:Nat}{x:Str}{p1 p2 p3:Pos}(h:ZE X a fa)(hN:X.N[i]?=some x:=by rfl)(hv:Vis X.env.scope x:=by first|exact Or.inl rfl|exact Or.inr (Or.inl rfl)|exact Or.inr (Or.inr rfl))(hd:(x==("__debug__":Str))=false:=by decide)(hcd:(x==("__classdict__":Str))=false:=by decide)(hbase:attributeBase (.Name x p1) "append" X.env (eval (.Name x p1) X.env)=eval (.Name x p1) X.env:=by rfl) (hfew:((backTo p3 (starEach [a] X.env)).all (fun x=>!x.1)&&(backToKw p3 (keywordEach [] X.env)).all (fun x=>x.1.isSome)
   && decide (([a]:List Expr).length+([]:List Keyword).length+(if ([]:List Keyword).isEmpty then 0 else 1)<30))=true:=by rfl) (hline:(p2.endLine==p3.line)=true:=by rfl) (hs:starEach [a] X.env=(false,eval a X.env)::starEach [] X.env:=by exact y9 rfl) (hplain:(backTo p3 (starEach [] X.env)).any (·.1)=false:=by exact v7 rfl) (hsw:swapsWith (.Call (.Attribute (.Name x p1) "append" p2) [a] [] p3) none pos.line X.env=pure false:=by rfl):ZS X (.Expr (.Call (.Attribute (.Name x p1) "append" p2) [a] [] p3) pos) (x24 i fa) :=
 ⟨w0S (h:=h.h) (hN:=hN) (hv:=hv) (hd:=hd) (hcd:=hcd) (hbase:=hbase) (hfew:=hfew) (hline:=hline) (hs:=hs) (hplain:=hplain) (hsw:=hsw)⟩
theorem x71{i:Nat}{x:Str}{p1 p2 p3:Pos}(h:ZF X a f)(hN:X.N[i]?=some x:=by rfl)(hv:Vis X.env.scope x:=by first|exact Or.inl rfl|exact Or.inr (Or.inl rfl)|exact Or.inr (Or.inr rfl))(hd:(x==("__debug__":Str))=false:=by decide)(hcd:(x==("__classdict__":Str))=false:=by decide)(hbase:attributeBase (.Name x p1) "extend" X.env (eval (.Name x p1) X.env)=eval (.Name x p1) X.env:=by rfl) (hfew:((backTo p3 (starEach [a] X.env)).all (fun x=>!x.1)&&(backToKw p3 (keywordEach [] X.env)).all (fun x=>x.1.isSome)
   && decide (([a]:List Expr).length+([]:List Keyword).length+(if ([]:List Keyword).isEmpty then 0 else 1)<30))=true:=by rfl) (hline:(p2.endLine==p3.line)=true:=by rfl) (hs:starEach [a] X.env=(false,eval a X.env)::starEach [] X.env:=by exact y9 rfl) (hplain:(backTo p3 (starEach [] X.env)).any (·.1)=false:=by exact v7 rfl) (hsw:swapsWith (.Call (.Attribute (.Name x p1) "extend" p2) [a] [] p3) none pos.line X.env=pure false:=by rfl):ZS X (.Expr (.Call (.Attribute (.Name x p1) "extend" p2) [a] [] p3) pos) (x9L i f) :=
 ⟨w0R (h:=h.h) (hN:=hN) (hv:=hv) (hd:=hd) (hcd:=hcd) (hbase:=hbase) (hfew:=hfew) (hline:=hline) (hs:=hs) (hplain:=hplain) (hsw:=hsw)⟩
end
section
variable{X:Cx}
variable{a b:Expr}{fa fb:y0->Option D}{pos:Pos}
theorem z8L(ha:ZE X a fa)(hb:ZE X b fb):ZE X (.BinOp a .Mult b pos) (d2 y3N fa fb) :=
 ⟨w1G (ha:=ha.h) (hb:=hb.h)⟩
end
section
variable{X:Cx}{pos:Pos}
theorem Y3{elt target iter:Expr}{ifs:List Expr}{scope:Scope}{fi:y0->Option (List D)}{h:D->y0->Option y0}{ft:y0->Option Bool}{fe:y0->Option D}(N:List Str)(cap:List (Option Nat))(hc:X.calm=true)(hi:ZIc X target iter fi)(hg:∀cl C fp s H,ZG (J4 X N scope cl C fp s H) target h)(ht:∀cl C fp s H,ZP (J4 X N scope cl C fp s H) ifs ft)(he:∀cl C fp s H,ZE (J4 X N scope cl C fp s H) elt fe)(hok:z4E scope X.env.scope N cap X.N=true:=by rfl)(hs:∀x,foldedSetIterable iter X.env x=pure x:=by intro _;rfl):ZF X (.ListComp elt [⟨target,iter,ifs,0⟩] scope pos) (Q0 cap fi h ft fe) :=
 ⟨x3N (N:=N) (cap:=cap) (hc:=hc) (hi:=hi.h) (hg:=fun cl C fp s H=>(hg cl C fp s H).h) (ht:=fun cl C fp s H=>(ht cl C fp s H).h) (he:=fun cl C fp s H=>(he cl C fp s H).h) (hok:=hok) (hs:=hs)⟩
theorem z7J :ZP X [] z1U :=
 ⟨w4X ⟩
theorem z59{c:Expr}{f:y0->Option Bool}(h:ZT X c f):ZP X [c] f :=
 ⟨w4W (h:=h.h)⟩
theorem y4H{e:Expr}{f:y0->Option (List D)}(h:ZF X e f):ZQL X e f :=
 ⟨w6K (h:=h.h)⟩
theorem z5X{e:Expr}{f:y0->Option D}(h:ZE X e f):ZQL X e (z02 f) :=
 ⟨w4U (h:=h.h)⟩
theorem y4E{a b:Expr}{fa fb:y0->Option (List D)}(ha:ZQL X a fa)(hb:ZQL X b fb):ZF X (.BinOp a .Add b pos) (y1T fa fb) :=
 ⟨w13 (ha:=ha.h) (hb:=hb.h)⟩
end
section
theorem K9{X:Cx}{j k:Nat}{ps:List Str}{F:List D->Option D}{x:Str}{p pos:Pos}{e:Expr}{es:List Expr}{g:y0->Option (List D)}(G:FnD X.prog X.w X.K X.mg X.base j x ps F)(hr:Room k X.A)(ha:ZA X (e::es) g)(hjk:j≤k:=by decide)(hg:Gl X x:=by rfl)(hdb:(x==("__debug__":Str))=false:=by decide)(he:starEach (e::es) X.env=(false,eval e X.env)::starEach es X.env:=by exact y9 rfl)(hpl:(backTo pos (starEach es X.env)).any (·.1)=false:=by exact v7 rfl):ZE X (.Call (.Name x p) (e::es) [] pos) (v6 F g) :=
 ⟨w1M (G:=G) (hr:=hr) (ha:=ha.h) (hjk:=hjk) (hg:=hg) (hdb:=hdb) (he:=he) (hpl:=hpl)⟩
end
section
variable{X:Cx}{pos:Pos}
theorem y8Z{elt target iter:Expr}{scope:Scope}{fi:y0->Option (List D)}{h:D->y0->Option y0}{fe:y0->Option (D×y0)}(N:List Str)(cap:List (Option Nat))(hc:X.calm=true)(hi:ZI X target iter fi)(hg:∀cl C fp s H,ZG (J4 X N scope cl C fp s H) target h)(he:∀cl C fp s H,ZX (J4 X N scope cl C fp s H) elt fe)(hok:z4E scope X.env.scope N cap X.N=true:=by rfl)(hs:∀x,foldedSetIterable iter X.env x=pure x:=by intro _;rfl):ZL X (.ListComp elt [⟨target,iter,[],0⟩] scope pos) (y0Q cap fi h fe) :=
 ⟨x3K (N:=N) (cap:=cap) (hc:=hc) (hi:=hi.h) (hg:=fun cl C fp s H=>(hg cl C fp s H).h) (he:=fun cl C fp s H=>(he cl C fp s H).h) (hok:=hok) (hs:=hs)⟩
theorem y2A{a:Expr}{p pos2:Pos}{f:y0->Option (List D)}(hm:X.mg "tuple" = none)(h:ZL X a f)(hg:Gl X "tuple":=by rfl)(he:starEach [a] X.env=(false,eval a X.env)::starEach [] X.env:=by exact y9 rfl)(hpl:(backTo pos2 (starEach [] X.env)).any (·.1)=false:=by exact v7 rfl)(hv:bootBuiltins "tuple" = some (.type "tuple"):=by decide +kernel):ZS X (.Return (some (.Call (.Name "tuple" p) [a] [] pos2)) pos) (z08 (z58 f)) :=
 ⟨y4K (hm:=hm) (h:=h.h) (hg:=hg) (he:=he) (hpl:=hpl) (hv:=hv)⟩
end
section
variable{X:Cx}{pos p p2 pos2:Pos}{a b c e tg:Expr}{fa fb fc f:y0->Option D}
theorem Z7(h:ZE X e f):ZI X tg e (dSq f) :=
 ⟨w0Z (h:=h.h)⟩
theorem w02(hu:X.A.units<cLine)(ha:ZE X a fa)(hb:ZE X b fb):ZT X (.Compare a [.Lt] [b] pos) (x5 (d2 dLt fa fb)) :=
 ⟨w4G (hu:=hu) (ha:=ha.h) (hb:=hb.h)⟩
theorem y91{i:Nat}{x:Str}{p1 p2 p3:Pos}(h:ZE X a fa)(hN:X.N[i]?=some x:=by rfl)(hv:Vis X.env.scope x:=by first|exact Or.inl rfl|exact Or.inr (Or.inl rfl)|exact Or.inr (Or.inr rfl))(hd:(x==("__debug__":Str))=false:=by decide)(hcd:(x==("__classdict__":Str))=false:=by decide)(hbase:attributeBase (.Name x p1) "pop" X.env (eval (.Name x p1) X.env)=eval (.Name x p1) X.env:=by rfl) (hfew:((backTo p3 (starEach [a] X.env)).all (fun x=>!x.1)&&(backToKw p3 (keywordEach [] X.env)).all (fun x=>x.1.isSome)
   && decide (([a]:List Expr).length+([]:List Keyword).length+(if ([]:List Keyword).isEmpty then 0 else 1)<30))=true:=by rfl) (hline:(p2.endLine==p3.line)=true:=by rfl) (hs:starEach [a] X.env=(false,eval a X.env)::starEach [] X.env:=by exact y9 rfl) (hplain:(backTo p3 (starEach [] X.env)).any (·.1)=false:=by exact v7 rfl):ZX X (.Call (.Attribute (.Name x p1) "pop" p2) [a] [] p3) (x9J i fa) :=
 ⟨x3R (h:=h.h) (hN:=hN) (hv:=hv) (hd:=hd) (hcd:=hcd) (hbase:=hbase) (hfew:=hfew) (hline:=hline) (hs:=hs) (hplain:=hplain)⟩
end
section
theorem z38{P:Program}{w:World}{K:PySem.W.Frag}{mg:Str->Option Value}{base:Heap}{x:Str}{st:Stmt}{N ps:List Str}{k n:Nat}{g:y0->Option Out}(G:Stands K mg x st)(S:FnScope N ps (z9 st))(hb:∀(kV doc pm:Value) (an:Option Addr) (cdv ct:Value) (us:List Value),us.length=ps.length->bindArgs (PySem.W.fnOf x x (g9 st) (x6 st) (z9 st) .none kV doc pm an cdv ct) ⟨us,[]⟩=pure (ps.zip us))(hn:ps.length=n) (hbody:∀(f:Addr) (cdv:Value) (A:Around) (outer:List Env) (s:Shared) (H:Hp) (E:XK),Room k (A.deeper (envOfC x (z9 st) s.heap.objs.size f cdv)) ->
   ZB (z42 CX0 P w K mg base N x (z9 st) f cdv A outer s H E).nox (x6 st) g):FnD P w K mg base (k+1) x ps (dFn n N g) :=
 w6T (G:=G) (S:=S) (hb:=hb) (hn:=hn) (hbody:=fun f cdv A outer s H E hr=>(hbody f cdv A outer s H E hr).h)
end
section
variable{X:Cx}{elts:List Expr}{x1:Nat}{tpos pos p:Pos}{a:Expr}{f:y0->Option D}
theorem y0W(hm:X.mg "enumerate" = none)(h:ZE X a f)(hg:Gl X "enumerate":=by rfl)(hv:bootBuiltins "enumerate" = some (.type "enumerate"):=by decide +kernel)(he:starEach [a] X.env=(false,eval a X.env)::starEach [] X.env:=by exact y9 rfl)(hpl:(backTo pos (starEach [] X.env)).any (·.1)=false:=by exact v7 rfl):ZI X (.Tuple elts x1 tpos) (.Call (.Name "enumerate" p) [a] [] pos) (y04 f) :=
 ⟨x7P (hm:=hm) (h:=h.h) (hg:=hg) (hv:=hv) (he:=he) (hpl:=hpl)⟩
end
section
variable{X:Cx}{a b e o:Expr}{pos pos' p:Pos}{f fa fb:y0->Option D}
theorem x32 :ZFD X (.Dict [] [] pos) (fun _=>some ([],[])) :=
 ⟨x7S ⟩
theorem y5T(hu:X.A.units+64<cLine)(ho:ZE X o fa)(hi:ZE X a fb)(hs:w43 a:=by exact fun _ _=>rfl):ZE X (.Subscript o a pos) (y5E fa fb) :=
 ⟨x80 (hu:=hu) (ho:=ho.h) (hi:=hi.h) (hs:=hs)⟩
theorem x6Y{i:Nat}{x:Str}(hu:X.A.units+64<cLine)(hi:ZE X a fb)(hv':ZE X b fa)(hN:X.N[i]?=some x:=by rfl)(hv:Vis X.env.scope x:=by first|exact Or.inl rfl|exact Or.inr (Or.inl rfl)|exact Or.inr (Or.inr rfl))(hd:(x==("__debug__":Str))=false:=by decide)(hcd:(x==("__classdict__":Str))=false:=by decide)(hs:swapsWith b (some (.Subscript (.Name x p) a pos')) pos.line X.env=pure false:=by rfl):ZS X (.Assign [.Subscript (.Name x p) a pos'] b pos) (x9I i fb fa) :=
 ⟨w0M (hu:=hu) (hi:=hi.h) (hv':=hv'.h) (hN:=hN) (hv:=hv) (hd:=hd) (hcd:=hcd) (hs:=hs)⟩
end
section
variable{X:Cx}{a b:Expr}{fa fb:y0->Option D}{p pos apos:Pos}
theorem z5W(hu:X.A.units+64<cLine)(ha:ZE X a fa)(hb:ZE X b fb)(hbase:attributeBase a "index" X.env (eval a X.env)=eval a X.env:=by rfl) (hfew:((backTo pos (starEach [b] X.env)).all (fun x=>!x.1)&&(backToKw pos (keywordEach [] X.env)).all (fun x=>x.1.isSome)
   && decide (([b]:List Expr).length+([]:List Keyword).length+(if ([]:List Keyword).isEmpty then 0 else 1)<30))=true:=by rfl) (hline:(apos.endLine==pos.line)=true:=by rfl) (hs:starEach [b] X.env=(false,eval b X.env)::starEach [] X.env:=by exact y9 rfl) (hplain:(backTo pos (starEach [] X.env)).any (·.1)=false:=by exact v7 rfl):ZE X (.Call (.Attribute a "index" apos) [b] [] pos) (z22 fa fb) :=
 ⟨x3S (hu:=hu) (ha:=ha.h) (hb:=hb.h) (hbase:=hbase) (hfew:=hfew) (hline:=hline) (hs:=hs) (hplain:=hplain)⟩
theorem z86{f:y0->Option (List D)}(hc:X.calm=true)(hm:X.mg "min" = none)(h:ZQL X a f)(hg:Gl X "min":=by rfl)(hv:bootBuiltins "min" = some (.builtin "min"):=by decide +kernel)(he:starEach [a] X.env=(false,eval a X.env)::starEach [] X.env:=by exact y9 rfl)(hpl:(backTo pos (starEach [] X.env)).any (·.1)=false:=by exact v7 rfl):ZE X (.Call (.Name "min" p) [a] [] pos) (z81 f) :=
 ⟨x7V (hc:=hc) (hm:=hm) (h:=h.h) (hg:=hg) (hv:=hv) (he:=he) (hpl:=hpl)⟩
theorem y0Z{f:y0->Option (List D)}(hc:X.calm=true)(hm:X.mg "max" = none)(h:ZQL X a f)(hg:Gl X "max":=by rfl)(hv:bootBuiltins "max" = some (.builtin "max"):=by decide +kernel)(he:starEach [a] X.env=(false,eval a X.env)::starEach [] X.env:=by exact y9 rfl)(hpl:(backTo pos (starEach [] X.env)).any (·.1)=false:=by exact v7 rfl):ZE X (.Call (.Name "max" p) [a] [] pos) (y03 f) :=
 ⟨x7X (hc:=hc) (hm:=hm) (h:=h.h) (hg:=hg) (hv:=hv) (he:=he) (hpl:=hpl)⟩
theorem y0V{f:y0->Option (List D)}(h:ZQL X a f)(he:∀whole,isTrue a X.env whole=(do let v ←whole;standAt a.pos;holding [v] (truthy v)):=by intro _;rfl):ZT X a (z79 f) :=
 ⟨x7F (h:=h.h) (he:=he)⟩
end
section
variable{X:Cx}
theorem z8J{i:Nat}{y:Str}{py spos pos:Pos}{elt target iter:Expr}{ifs:List Expr}{scope:Scope}{fi:y0->Option (List D)}{h:D->y0->Option y0}{ft:y0->Option Bool}{fe:y0->Option D}(N:List Str)(cap:List (Option Nat))(hc:X.calm=true)(hi:ZIc X target iter fi)(hg:∀cl C fp s H,ZG (J4 X N scope cl C fp s H) target h)(ht:∀cl C fp s H,ZP (J4 X N scope cl C fp s H) ifs ft)(he:∀cl C fp s H,ZE (J4 X N scope cl C fp s H) elt fe)(hN:X.N.Nodup)(hiy:X.N[i]?=some y:=by rfl)(hy:Loc X.env.scope y:=by first|exact Or.inl rfl|exact Or.inr rfl)(hf:X.fn y=true∨X.env.scope.names.lookup y=some .local:=by first|exact .inl rfl|exact .inr rfl)(hsw:swapsWith (.ListComp elt [⟨target,iter,ifs,0⟩] scope pos) (some (.Name y py)) spos.line X.env=pure true:=by rfl)(hok:z4E scope X.env.scope N cap X.N=true:=by rfl)(hs:∀x,foldedSetIterable iter X.env x=pure x:=by intro _;rfl):ZS X (.Assign [.Name y py] (.ListComp elt [⟨target,iter,ifs,0⟩] scope pos) spos) (W4 i (dLs (Q0 cap fi h ft fe))) :=
 ⟨x3F (N:=N) (cap:=cap) (hc:=hc) (hi:=hi.h) (hg:=fun cl C fp s H=>(hg cl C fp s H).h) (ht:=fun cl C fp s H=>(ht cl C fp s H).h) (he:=fun cl C fp s H=>(he cl C fp s H).h) (hN:=hN) (hiy:=hiy) (hy:=hy) (hf:=hf) (hsw:=hsw) (hok:=hok) (hs:=hs)⟩
end
section
variable{X:Cx}{a:Expr}{fa:y0->Option D}{pos:Pos}
theorem Z0{lo hi:Option Expr}{p2:Pos}{fl fh:y0->Option (Option Int)}(he:ZE X a fa)(hl:ZO X lo fl)(hh:ZO X hi fh):ZE X (.Subscript a (.Slice lo hi none p2) pos) (z54 (z29 fa fl fh) (z53 fa fl fh)) :=
 ⟨w18 (he:=he.h) (hl:=hl.h) (hh:=hh.h)⟩
end
section
variable{X:Cx}{e body:Expr}{params:Arguments}{scope:Scope}{lp kp p pos:Pos}{fa:y0->Option (List D)}{fb:y0->Option D}
theorem y90{x pn:Str}{k:Nat}(N:List Str)(cap:List (Option Nat))(hm:X.mg "sorted" = none)(bm:BmAt X.K X.mg)(hl:z9Z X.K X.env.code x=true)(hr:Room (k+3) X.A)(ha:ZQ X e fa)(he:∀A' cl f cd s H,Room k (y3B X A' N (X.env.qual++"<lambda>") scope cl f cd s H).A->ZE (y3B X A' N (X.env.qual++"<lambda>") scope cl f cd s H) body fb)(hok:x4Q scope X.env.scope N cap X.N=true:=by rfl)(h0:cap[0]?=some none:=by rfl)(hp:N[0]?=some pn:=by rfl)(hpl:scope.names.lookup pn=some .local:=by rfl)(hco:scope.isCoroutine=false:=by rfl)(hgen:scope.isGenerator=false:=by rfl)(hq:X.env.qual=x++".<locals>.":=by rfl)(hdef:defaultsOf params X.env=([],[]):=by rfl)(hb:∀(cl:List (Str×Addr)) (doc pm:Value) (c:Addr) (ct u:Value),bindArgs (PySem.W.kdv_fn "<lambda>" (X.env.qual++"<lambda>") params (.expr body) scope cl .none doc pm (.ref c) ct) ⟨[u],[]⟩=pure [(pn,u)]:=by intros;rfl)(hg:Gl X "sorted":=by rfl)(hv:bootBuiltins "sorted" = some (.builtin "sorted"):=by decide +kernel)(hs:starEach [e] X.env=(false,eval e X.env)::starEach [] X.env:=by exact y9 rfl):ZF X (.Call (.Name "sorted" p) [e] [⟨some "key",.Lambda params body scope lp,kp⟩] pos) (y0N cap fa fb) :=
 ⟨x3M (N:=N) (cap:=cap) (hm:=hm) (bm:=bm) (hl:=hl) (hr:=hr) (ha:=ha.h) (he:=fun A' cl f cd s H hr=>(he A' cl f cd s H hr).h) (hok:=hok) (h0:=h0) (hp:=hp) (hpl:=hpl) (hco:=hco) (hgen:=hgen) (hq:=hq) (hdef:=hdef) (hb:=hb) (hg:=hg) (hv:=hv) (hs:=hs)⟩
end
section
theorem w03{P:Program}{w:World}{K:PySem.W.Frag}{mg:Str->Option Value}{base:Heap}{x:Str}{st:Stmt}{N ps:List Str}{k n:Nat}{g:y0->Option Out}(G:StandsL K mg x st)(S:FnScope N ps (z9 st))(hb:∀(kV doc pm:Value) (an:Option Addr) (cdv ct:Value) (us:List Value),us.length=ps.length->bindArgs (PySem.W.fnOf x x (g9 st) (x6 st) (z9 st) .none kV doc pm an cdv ct) ⟨us,[]⟩=pure (ps.zip us))(hn:ps.length=n) (hbody:∀(f:Addr) (cdv:Value) (A:Around) (outer:List Env) (s:Shared) (H:Hp) (E:XK),z9Z K cdv x=true->Room k (A.deeper (envOfC x (z9 st) s.heap.objs.size f cdv)) ->
   ZB (z42 CX0 P w K mg base N x (z9 st) f cdv A outer s H E).nox (x6 st) g):FnD P w K mg base (k+1) x ps (dFn n N g) :=
 w5F (G:=G) (S:=S) (hb:=hb) (hn:=hn) (hbody:=fun f cdv A outer s H E hl hr=>(hbody f cdv A outer s H E hl hr).h)
end
section
variable{X:Cx}{e a b:Expr}{es:List Expr}{f:y0->Option D}{k:y0->Str->Option D}{pos:Pos}
theorem x72 :ZJ X [] y3O :=
 ⟨w0W ⟩
theorem y5Q(he:ZE X e f)(hr:ZJ X es k):ZJ X (e::es) (z5D f k) :=
 ⟨x7N (he:=he.h) (hr:=hr.h)⟩
theorem y7J(h:ZJ X (a::b::es) k):ZE X (.JoinedStr (a::b::es) pos) (z7A k) :=
 ⟨y9T (h:=h.h)⟩
end
section
variable{X:Cx}{e:Expr}{f:y0->Option D}{pos:Pos}
theorem x33{k:Nat}(hr:Room k X.A)(h:ZE X e f):ZE X (.FormattedValue e 114 none pos) (y1S f) :=
 ⟨x7Z (hr:=hr) (h:=h.h)⟩
end
section
variable{X:Cx}{e k:Expr}{pos p2:Pos}
theorem y4G{fa fk:y0->Option D}(ha:ZE X e fa)(hk:ZE X k fk):ZE X (.Subscript e (.Slice none none (some k) p2) pos) (x2Y fa fk) :=
 ⟨w1A (ha:=ha.h) (hk:=hk.h)⟩
end
section
variable{X:Cx}
theorem y8Y{x:Str}{C:Addr}{np cpos pos:Pos}{arg:Expr}{f:y0->Option D}(hC:PySem.W.excIn X.K C VE "ValueError.__new__" = true)(hm:X.mg x=some (.ref C))(hc:X.calm=true)(ha:ZE X arg f)(hx:∀e s',xeF X (.ref C) false e s'->X.xe e s')(hg:Gl X x:=by rfl)(hd:(x==("__debug__":Str))=false:=by decide)(he:starEach [arg] X.env=(false,eval arg X.env)::starEach [] X.env:=by exact y9 rfl):ZS X (.Raise (some (.Call (.Name x np) [arg] [] cpos)) none pos) (y0O f) :=
 ⟨x3E (hC:=hC) (hm:=hm) (hc:=hc) (ha:=ha.h) (hx:=hx) (hg:=hg) (hd:=hd) (he:=he)⟩
theorem x6Z{st:Stmt}:ZS X st (fun _=>none) :=
 ⟨w0N ⟩
theorem x6X{i ie:Nat}{y fx xp xa xb:Str}{C:Addr}{j1 j2 k:Nat}{ps:List Str}{F1 FX:List D->Option D}{g:y0->Option (List D)}{e:Expr}{es:List Expr}{p1 p2 p3 p4 p5 p6 q1 q2 q3 q4 q5 q6 q7 q8 q9 r1 r2 r3 r4 r5 r6 r7 r8 r9 pos:Pos}{kc:Nat}(G1:FnD X.prog X.w X.K X.mg X.base j1 fx ps F1)(G2:FnB X.prog X.w X.K X.mg X.base (.ref C) j2 fx ps FX)(TC:TryC X.K X.mg C xp xa xb)(hmI:X.mg "isinstance" = none)(hmV:X.mg "ValueError" = none)(hr:Room k X.A)(ha:ZA X (e::es) g)(hN:X.N.Nodup)(hne:i≠ie:=by decide)(hj1:j1≤k:=by decide)(hj2:j2≤k:=by decide)(hi:X.N[i]?=some y:=by rfl)(hie:X.N[ie]?=some "e":=by rfl)(hy:X.env.scope.names.lookup y=some .local:=by rfl)(hye:X.env.scope.names.lookup ("e":Str)=some .local:=by rfl)(hxe:X.xe=fun _ _=>False:=by rfl)(hst:X.stack=X.env::X.outer:=by rfl)(hfm:X.env.frame=some X.env.locals:=by rfl)(hgf:Gl X fx:=by rfl)(hgp:Gl X xp:=by rfl)(hga:Gl X xa:=by rfl)(hgb:Gl X xb:=by rfl)(hgV:Gl X "ValueError":=by rfl)(hgI:Gl X "isinstance":=by rfl)(hdf:(fx==("__debug__":Str))=false:=by decide)(hdp:(xp==("__debug__":Str))=false:=by decide)(hda:(xa==("__debug__":Str))=false:=by decide)(hdb:(xb==("__debug__":Str))=false:=by decide)(he:starEach (e::es) X.env=(false,eval e X.env)::starEach es X.env:=by exact y9 rfl)(hpl:(backTo p3 (starEach es X.env)).any (·.1)=false:=by exact v7 rfl)(hs:swapsWith (.Call (.Name fx p2) (e::es) [] p3) (some (.Name y p1)) p4.line X.env=pure false:=by rfl):ZS X (.Try [.Assign [.Name y p1] (.Call (.Name fx p2) (e::es) [] p3) p4]
   [.ExceptHandler (some (.Name xp p5)) (some "e") [.If (.BoolOp .And [.Call (.Name "isinstance" q1) [.Name "e" q2,.Name xa q3] [] q4,.UnaryOp .Not (.Call (.Name "isinstance" q5) [.Name "e" q6,.Name xb q7] [] q8) q9,.Call (.Name "isinstance" r1) [.Name "e" r2,.Name "ValueError" r3] [] r4] r5)
    [.Assign [.Name y r6] (.Constant .none kc r7) r8] [] r9] p6] [] [] pos) (w42 i ie F1 FX g) :=
 ⟨w0K (G1:=G1) (G2:=G2) (TC:=TC) (hmI:=hmI) (hmV:=hmV) (hr:=hr) (ha:=ha.h) (hN:=hN) (hne:=hne) (hj1:=hj1) (hj2:=hj2) (hi:=hi) (hie:=hie) (hy:=hy) (hye:=hye) (hxe:=hxe) (hst:=hst) (hfm:=hfm) (hgf:=hgf) (hgp:=hgp) (hga:=hga) (hgb:=hgb) (hgV:=hgV) (hgI:=hgI) (hdf:=hdf) (hdp:=hdp) (hda:=hda) (hdb:=hdb) (he:=he) (hpl:=hpl) (hs:=hs)⟩
end
end L3
namespace P
open PySem L2 L3
noncomputable def top(i:Nat):Stmt:=PySem.Challenge.pw_pageties_k08_whole_runs.main.body.getD i (.Pass ⟨0,0,0,0⟩)
noncomputable abbrev z15:Stmt:=top 23
noncomputable abbrev z12:Stmt:=top 24
noncomputable abbrev z14:Stmt:=top 25
noncomputable abbrev z16:Stmt:=top 26
noncomputable abbrev Y0:Stmt:=top 27
noncomputable abbrev z0E:Stmt:=top 8
noncomputable abbrev Q9:Stmt:=top 6
noncomputable abbrev z10:Stmt:=top 9
noncomputable abbrev z0F:Stmt:=top 10
noncomputable abbrev Q8:Stmt:=top 14
noncomputable abbrev z11:Stmt:=top 15
noncomputable abbrev J5:Stmt:=top 13
noncomputable abbrev W3:Stmt:=top 16
noncomputable abbrev z7X:Stmt:=top 17
noncomputable abbrev z13:Stmt:=top 28
noncomputable abbrev W2:Stmt:=top 29
noncomputable abbrev z0G:Stmt:=top 5
noncomputable abbrev K1:Stmt:=top 11
noncomputable abbrev z0H:Stmt:=top 18
noncomputable abbrev z17:Stmt:=top 19
noncomputable abbrev z23:Stmt:=top 20
noncomputable abbrev W1:Stmt:=top 30
noncomputable abbrev z8S:Stmt:=top 31
theorem w61{α:Type}(p:List α->Prop)(f:∀x0,p [x0]):∀us:List α,us.length=1->p us:=fun us h=>match us,h with|[x0],_=>f x0
theorem x8Z{α:Type}(p:List α->Prop)(f:∀x0 x1,p [x0,x1]):∀us:List α,us.length=2->p us:=fun us h=>match us,h with|[x0,x1],_=>f x0 x1
theorem x8Y{α:Type}(p:List α->Prop)(f:∀x0 x1 x2,p [x0,x1,x2]):∀us:List α,us.length=3->p us:=fun us h=>match us,h with|[x0,x1,x2],_=>f x0 x1 x2
theorem w41{α:Type}(p:List α->Prop)(f:∀x0 x1 x2 x3,p [x0,x1,x2,x3]):∀us:List α,us.length=4->p us:=fun us h=>match us,h with|[x0,x1,x2,x3],_=>f x0 x1 x2 x3
theorem w58{α:Type}(p:List α->Prop)(f:∀x0 x1 x2 x3 x4,p [x0,x1,x2,x3,x4]):∀us:List α,us.length=5->p us:=fun us h=>match us,h with|[x0,x1,x2,x3,x4],_=>f x0 x1 x2 x3 x4
noncomputable def z9I:List Str:=["_law_cell_here","_law_prime","_law_many"]
noncomputable def y3G:y0->Option Out :=
 z08 (d2 z9A (d2 z9A (d2 y3N (z6 0) (dC (.int 48271))) (z6 1)) (z6 2))
noncomputable def Q4:List D->Option D:=dFn 3 z9I y3G
noncomputable def z9F:List Str:=["_law_cell_here","_law_most","_law_ties","_law_many","_law_found","_law_k","_law_one","_law_other","_law_tie"]
noncomputable def z6F:y0->Option Out :=
 J3 (W4 3 (d2 z0K (dC (.int 1)) (v6 Q4 (z8 (z6 0) (z8 (dC (.int 9973)) (z8 (z6 1) (u9)))))))
 (J3 (z1V (z5U (x5 (d2 dLt (z6 3) (dC (.int 4)))) (x5 (d2 w3P (d2 z9A (z6 0) (dC (.int 4))) (dC (.int 0)))))
 (W4 3 (z6 1))
 (Y6))
 (J3 (z99 4 (z5T (u9)))
 (J3 (z7S (z2W (v6 Q4 (z8 (z6 0) (z8 (dC (.int 9967)) (z8 (d2 z0K (z6 2) (dC (.int 1))) (u9)))))) (w8 5)
 (J3 (W4 6 (v6 Q4 (z8 (d2 z0K (z6 0) (d2 y3N (dC (.int 11)) (z6 5))) (z8 (dC (.int 9949)) (z8 (z6 3) (u9))))))
 (J3 (W4 7 (v6 Q4 (z8 (d2 z0K (d2 z0K (z6 0) (d2 y3N (dC (.int 13)) (z6 5))) (dC (.int 1))) (z8 (dC (.int 9941)) (z8 (z6 3) (u9))))))
 (J3 (W4 8 (z2V (z8 (v6 x6N (z8 (z6 6) (z8 (z6 7) u9))) (z8 (v6 x6O (z8 (z6 6) (z8 (z6 7) u9))) (u9)))))
 (z1V (z5U (x5 (d2 dNe (z6 6) (z6 7))) (x5 (dIn true (z6 8) (y1R 4))))
 (x24 4 (z6 8))
 (Y6))))))
 (z08 (z2V (z8 (z6 3) (z8 (z58 (dQF z4I (y1R 4))) (u9))))))))
noncomputable def z6R:List D->Option D:=dFn 3 z9F z6F
noncomputable def z9H:List Str:=["_law_cell_here","_law_many","_law_left"]
noncomputable def z6H:y0->Option Out :=
 J3 (z99 2 (z41 (z6 1)))
 (z08 (z58 (y0Q [none,some 2,some 0,some 1] (z2W (z6 1)) (w8 0) (x9J 1 (v6 Q4 (z8 (d2 z0K (z6 2) (d2 y3N (dC (.int 5)) (z6 0))) (z8 (dC (.int 9931)) (z8 (d2 y02 (z6 3) (z6 0)) (u9)))))))))
noncomputable def z6T:List D->Option D:=dFn 2 z9H z6H
noncomputable def z9J:List Str:=["_law_web_here","_law_row_here","_law_one","_law_other","_law_first","_law_second","_law_between"]
noncomputable def z6I:y0->Option Out :=
 J3 (W4 4 (dLs (Q0 [none,some 1] (dSq (dIx (dSq (dIx (dSq (z6 0)) (dC (.int 1)))) (z6 2))) (w8 0) (z1U) (z22 (z6 1) (z6 0)))))
 (J3 (W4 5 (dLs (Q0 [none,some 1] (dSq (dIx (dSq (dIx (dSq (z6 0)) (dC (.int 1)))) (z6 3))) (w8 0) (z1U) (z22 (z6 1) (z6 0)))))
 (J3 (z1V (z79 (Q0 [none,some 5] (dSq (z6 4)) (w8 0) (x5 (dIn false (z6 0) (dSq (z6 1)))) (z6 0)))
 (z08 (dC (.str "meet")))
 (Y6))
 (J3 (W4 6 (dLs (Q0 [none,some 4] (dSq (z6 5)) (w8 0) (x5 (z36 y8R y8R (z81 (z02 (z6 1))) (z6 0) (y03 (z02 (z6 1))))) (z6 0))))
 (J3 (z1V (x5 (d2 dEq (z09 (dSq (z6 6))) (dC (.int 1))))
 (z08 (dC (.str "cross")))
 (Y6))
 (J3 (z1V (z80 (x5 (d2 dEq (z09 (dSq (z6 6))) (dC (.int 2)))) (x5 (z36 y8R y8R (z81 (z02 (z6 5))) (z81 (z02 (z6 4))) (y03 (z02 (z6 5))))))
 (z08 (dC (.str "within")))
 (Y6))
 (z08 (dC (.str "apart"))))))))
noncomputable def z4S:List D->Option D:=dFn 4 z9J z6I
noncomputable def z49:List Str:=["_law_web_here","_law_row_here","_law_kind","_law_word","_law_found","_law_other"]
noncomputable def z28:y0->Option Out :=
 J3 (W4 3 (dIx (z5T (z8 (dC (.str "cross")) (z8 (dC (.str "within")) (u9)))) (v6 x2W (z8 (d2 dEq (z6 2) (dC (.str "queue"))) u9))))
 (J3 (z99 4 (z5T (u9)))
 (J3 (z7S (z2W (z09 (dSq (dIx (dSq (z6 0)) (dC (.int 1)))))) (w8 5)
 (x9L 4 (Q0 [none,some 5,some 0,some 1,some 3] (z2W (z6 5)) (w8 0) (x5 (d2 dEq (v6 z4S (z8 (z6 2) (z8 (z6 3) (z8 (z6 0) (z8 (z6 1) (u9)))))) (z6 4))) (z2V (z8 (z6 0) (z8 (z6 1) (u9)))))))
 (z08 (dLs (dQF z4I (y1R 4))))))
noncomputable def z2D:List D->Option D:=dFn 3 z49 z28
noncomputable def z7E:List Str:=["row","spots","spot","place"]
noncomputable def z4X:y0->Option Out :=
 J3 (x5B 1 (fun _=>some ([],[])))
 (J3 (z7S (y04 (z6 0)) (z2A 2 (g7 (w8 2) (g7 (w8 3) (z2B))))
 (x9I 1 (z6 3) (z6 2)))
 (fun ρ=>z08 (z6 1) (frz 1 ρ)))
noncomputable def z7I:List D->Option D:=dFn 1 z7E z4X
noncomputable def z48:List Str:=["one","other"]
noncomputable def z27:y0->Option Out :=
 z08 (z2V (z8 (v6 x6N (z8 (z6 0) (z8 (z6 1) u9))) (z8 (v6 x6O (z8 (z6 0) (z8 (z6 1) u9))) (u9))))
noncomputable def z4A:List D->Option D:=dFn 2 z48 z27
noncomputable def z9D:List Str:=["spots","tie"]
noncomputable def z6D:y0->Option Out :=
 z08 (v6 z4A (z8 (y5E (z6 0) (dIx (dSq (z6 1)) (dC (.int 0)))) (z8 (y5E (z6 0) (dIx (dSq (z6 1)) (dC (.int 1)))) (u9))))
noncomputable def z9M:List D->Option D:=dFn 2 z9D z6D
noncomputable def z7F:List Str:=["web","row","spots"]
noncomputable def z4Y:y0->Option Out :=
 J3 (W4 2 (v6 z7I (z8 (z6 1) (u9))))
 (z08 (dLs (Q0 [none,some 2] (dSq (dIx (dSq (z6 0)) (dC (.int 1)))) (w8 0) (z1U) (v6 z9M (z8 (z6 1) (z8 (z6 0) (u9)))))))
noncomputable def z1L:List D->Option D:=dFn 2 z7F z4Y
noncomputable def z47:List Str:=["spans","some","spot"]
noncomputable def z26:y0->Option Out :=
 z08 (dLs (Q0 [none,some 0,some 2] (dSq (z6 1)) (w8 0) (x5 (d2 dEq (dIx (dSq (dIx (dSq (z6 1)) (z6 0))) (dC (.int 1))) (z6 2))) (z6 0)))
noncomputable def W5:List D->Option D:=dFn 3 z47 z26
noncomputable def z9E:List Str:=["kind","held","ending","taken","left"]
noncomputable def z6E:y0->Option Out :=
 J3 (z1V (x5 (d2 dEq (z6 0) (dC (.str "queue"))))
 (J3 (W4 3 (z54 (z29 (z6 1) (z0O) (u8 (z09 (dSq (z6 2))))) (z53 (z6 1) (z0O) (u8 (z09 (dSq (z6 2)))))))
 (W4 4 (z54 (z29 (z6 1) (u8 (z09 (dSq (z6 2)))) (z0O)) (z53 (z6 1) (u8 (z09 (dSq (z6 2)))) (z0O)))))
 (J3 (W4 3 (z54 (z29 (z6 1) (u8 (d2 y02 (z09 (dSq (z6 1))) (z09 (dSq (z6 2))))) (z0O)) (z53 (z6 1) (u8 (d2 y02 (z09 (dSq (z6 1))) (z09 (dSq (z6 2))))) (z0O))))
 (W4 4 (z54 (z29 (z6 1) (z0O) (u8 (d2 y02 (z09 (dSq (z6 1))) (z09 (dSq (z6 2)))))) (z53 (z6 1) (z0O) (u8 (d2 y02 (z09 (dSq (z6 1))) (z09 (dSq (z6 2))))))))))
 (z08 (dIf (x5 (d2 dEq (dLs (dQF z4I (dSq (z6 3)))) (z6 2))) (z6 4) (dC .non)))
noncomputable def z3T:List D->Option D:=dFn 3 z9E z6E
noncomputable def z1Y:List Str:=["spans","some","spot"]
noncomputable def z0P:y0->Option Out :=
 z08 (dLs (Q0 [none,some 0,some 2] (dSq (z6 1)) (w8 0) (x5 (d2 dEq (dIx (dSq (dIx (dSq (z6 1)) (z6 0))) (dC (.int 0))) (z6 2))) (z6 0)))
noncomputable def K7:List D->Option D:=dFn 3 z1Y z0P
noncomputable def z4Q:List Str:=["spans","kind","beginning","sooner_first"]
noncomputable def z35:y0->Option Out :=
 J3 (W4 3 (z58 (y0N [none,some 0] (dSq (z6 2)) (dIx (dSq (dIx (dSq (z6 1)) (z6 0))) (dC (.int 1))))))
 (z08 (dIf (x5 (d2 dEq (z6 1) (dC (.str "queue")))) (z6 3) (x2Y (z6 3) (y5D (dC (.int 1))))))
noncomputable def z0X:List D->Option D:=dFn 3 z4Q z35
noncomputable def x2T:List Str:=["web","row","kind","some","spans","told","held","spot","left"]
noncomputable def w3G:y0->Option Out :=
 J3 (W4 4 (v6 z1L (z8 (z6 0) (z8 (z6 1) (u9)))))
 (J3 (z99 5 (z5T (u9)))
 (J3 (W4 6 (z2V (u9)))
 (J3 (z7S (z2W (z09 (dSq (z6 1)))) (w8 7)
 (J3 (W4 8 (v6 z3T (z8 (z6 2) (z8 (z6 6) (z8 (v6 W5 (z8 (z6 4) (z8 (z6 3) (z8 (z6 7) (u9))))) (u9))))))
 (J3 (z1V (x5 (d2 dIs (z6 8) (dC .non)))
 ((fun _=>none))
 (Y6))
 (J3 (W4 6 (d2 z0K (z6 8) (v6 z0X (z8 (z6 4) (z8 (z6 2) (z8 (v6 K7 (z8 (z6 4) (z8 (z6 3) (z8 (z6 7) (u9))))) (u9)))))))
 (x24 5 (z6 6))))))
 (z08 (z58 (y1R 5))))))
noncomputable def x5Q:List D->Option D:=dFn 4 x2T w3G
noncomputable def x6M:y0->Option Out :=
 J3 (W4 4 (v6 z1L (z8 (z6 0) (z8 (z6 1) (u9)))))
 (J3 (z99 5 (z5T (u9)))
 (J3 (W4 6 (z2V (u9)))
 (J3 (z7S (z2W (z09 (dSq (z6 1)))) (w8 7)
 (J3 (W4 8 (v6 z3T (z8 (z6 2) (z8 (z6 6) (z8 (v6 W5 (z8 (z6 4) (z8 (z6 3) (z8 (z6 7) (u9))))) (u9))))))
 (J3 (z1V (x5 (d2 dIs (z6 8) (dC .non)))
 (y0O (z7A (z5D (dC (.str "some of these ties clash: ")) (z5D (y1S (z6 3)) (y3O)))))
 (Y6))
 (J3 (W4 6 (d2 z0K (z6 8) (v6 z0X (z8 (z6 4) (z8 (z6 2) (z8 (v6 K7 (z8 (z6 4) (z8 (z6 3) (z8 (z6 7) (u9))))) (u9)))))))
 (x24 5 (z6 6))))))
 (z08 (z58 (y1R 5))))))
noncomputable def y47:List D->Option D:=dFn 4 x2T x6M
noncomputable def z9G:List Str:=["_law_web_here","_law_row_here","_law_kind","_law_some","_law_found","e"]
noncomputable def z6G:y0->Option Out :=
 J3 (W4 4 (dC (.str "other")))
 (J3 (w42 4 5 x5Q y47 (z8 (z6 0) (z8 (z6 1) (z8 (z6 2) (z8 (z6 3) (u9))))))
 (z08 (z6 4)))
noncomputable def z6S:List D->Option D:=dFn 4 z9G z6G
noncomputable def z4P:List Str:=["_law_web_here","_law_row_here","_law_kind","_law_some","_law_thing","_law_held","_law_at","_law_after","_law_ends","_law_begins","_law_turn"]
noncomputable def z7Q:y0->Option Out :=
 J3 (z1V (z80 (z0S (x5 (z7B "tuple" (z6 4)))) (x5 (d2 dNe (z09 (dSq (z6 4))) (z09 (dSq (z6 1))))))
 (z08 (dC (.bl false)))
 (Y6))
 (J3 (W4 5 (dLs (z5T (u9))))
 (J3 (z7S (y04 (z6 4)) (z2A 2 (g7 (w8 6) (g7 (w8 7) (z2B))))
 (J3 (z1V (z0S (x5 (z7B "tuple" (z6 7))))
 (z08 (dC (.bl false)))
 (Y6))
 (J3 (z1V (z79 (Q0 [none] (dSq (z6 7)) (w8 0) (z80 (z0S (x5 (z7B "int" (z6 0)))) (x5 (z7B "bool" (z6 0)))) (z6 0)))
 (z08 (dC (.bl false)))
 (Y6))
 (J3 (W4 8 (dLs (Q0 [none,some 0,some 1,some 6] (dSq (z6 3)) (w8 0) (x5 (d2 dEq (y03 (Q0 [none,some 2] (dSq (dIx (dSq (dIx (dSq (z6 1)) (dC (.int 1)))) (z6 0))) (w8 0) (z1U) (z22 (z6 1) (z6 0)))) (z6 3))) (z6 0))))
 (J3 (W4 9 (dLs (Q0 [none,some 0,some 1,some 6] (dSq (z6 3)) (w8 0) (x5 (d2 dEq (z81 (Q0 [none,some 2] (dSq (dIx (dSq (dIx (dSq (z6 1)) (dC (.int 1)))) (z6 0))) (w8 0) (z1U) (z22 (z6 1) (z6 0)))) (z6 3))) (z6 0))))
 (J3 (z7S (z2W (z09 (dSq (z6 8)))) (w8 10)
 (J3 (z1V (z80 (z0S (z79 (z02 (z6 5)))) (x5 (dIn true (dIx (dSq (z6 5)) (dIx (z5T (z8 (dC (.int 0)) (z8 (y5D (dC (.int 1))) (u9)))) (v6 x2W (z8 (d2 dEq (z6 2) (dC (.str "pile"))) u9)))) (dSq (z6 8)))))
 (z08 (dC (.bl false)))
 (Y6))
 (z1V (x5 (d2 dEq (z6 2) (dC (.str "pile"))))
 (W4 5 (z29 (z6 5) (z0O) (u8 (y5D (dC (.int 1))))))
 (W4 5 (z29 (z6 5) (u8 (dC (.int 1))) (z0O))))))
 (J3 (z1V (z80 (x5 (d2 dNe (dLs (dQF some (dSq (z54 (z29 (z6 7) (z0O) (u8 (z09 (dSq (z6 5))))) (z53 (z6 7) (z0O) (u8 (z09 (dSq (z6 5))))))))) (z6 5))) (x5 (d2 dNe (dLs (dQF z4I (dSq (z54 (z29 (z6 7) (u8 (z09 (dSq (z6 5)))) (z0O)) (z53 (z6 7) (u8 (z09 (dSq (z6 5)))) (z0O)))))) (z6 9))))
 (z08 (dC (.bl false)))
 (Y6))
 (W4 5 (dLs (dQF some (dSq (z6 7))))))))))))
 (z08 (d2 dEq (z6 5) (dLs (z5T (u9)))))))
noncomputable def W7:List D->Option D:=dFn 5 z4P z7Q
noncomputable def z7G:List Str:=["thing"]
noncomputable def z4Z:y0->Option Out :=
 z08 (x5D (z7B "int" (z6 0)) (w00 (z7B "bool" (z6 0))))
noncomputable def z56:List D->Option D:=dFn 1 z7G z4Z
noncomputable def z2N:List Str:=["web","thing"]
noncomputable def z1B:y0->Option Out :=
 z08 (x5D (v6 z56 (z8 (z6 1) (u9))) (z36 w6X y8R (dC (.int 0)) (z6 1) (z09 (dSq (dIx (dSq (z6 0)) (dC (.int 1)))))))
noncomputable def z1E:List D->Option D:=dFn 2 z2N z1B
noncomputable def z7H:List Str:=["web","thing"]
noncomputable def z50:y0->Option Out :=
 z08 (x5D (z7B "tuple" (z6 1)) (x5E (Q0 [none,some 0] (dSq (z6 1)) (w8 0) (z1U) (v6 z1E (z8 (z6 1) (z8 (z6 0) (u9)))))))
noncomputable def z2I:List D->Option D:=dFn 2 z7H z50
noncomputable def z9K:List Str:=["kind","held","ending","beginning","then","left"]
noncomputable def z6J:y0->Option Out :=
 J3 (W4 5 (v6 z3T (z8 (z6 0) (z8 (z6 1) (z8 (z6 2) (u9))))))
 (J3 (z1V (x5 (d2 dIs (z6 5) (dC .non)))
 (z08 (dC (.bl false)))
 (Y6))
 (z08 (x5D (d2 dEq (z54 (z29 (z6 4) (z0O) (u8 (z09 (dSq (z6 5))))) (z53 (z6 4) (z0O) (u8 (z09 (dSq (z6 5)))))) (z6 5)) (d2 dEq (dLs (dQF z4I (dSq (z54 (z29 (z6 4) (u8 (z09 (dSq (z6 5)))) (z0O)) (z53 (z6 4) (u8 (z09 (dSq (z6 5)))) (z0O)))))) (z6 3)))))
noncomputable def z4T:List D->Option D:=dFn 5 z9K z6J
noncomputable def y23:List Str:=["web","row","kind","some","thing","spans","held","spot","then"]
noncomputable def y79:y0->Option Out :=
 J3 (z1V (z80 (z0S (x5 (z7B "tuple" (z6 4)))) (x5 (d2 dNe (z09 (dSq (z6 4))) (z09 (dSq (z6 1))))))
 (z08 (dC (.bl false)))
 (Y6))
 (J3 (z1V (z0S (x5 (x5E (Q0 [none,some 0] (dSq (z6 4)) (w8 0) (z1U) (v6 z2I (z8 (z6 1) (z8 (z6 0) (u9))))))))
 (z08 (dC (.bl false)))
 (Y6))
 (J3 (W4 5 (v6 z1L (z8 (z6 0) (z8 (z6 1) (u9)))))
 (J3 (W4 6 (z2V (u9)))
 (J3 (z7S (y04 (z6 4)) (z2A 2 (g7 (w8 7) (g7 (w8 8) (z2B))))
 (J3 (z1V (z0S (x5 (v6 z4T (z8 (z6 2) (z8 (z6 6) (z8 (v6 W5 (z8 (z6 5) (z8 (z6 3) (z8 (z6 7) (u9))))) (z8 (v6 K7 (z8 (z6 5) (z8 (z6 3) (z8 (z6 7) (u9))))) (z8 (z6 8) (u9)))))))))
 (z08 (dC (.bl false)))
 (Y6))
 (W4 6 (z6 8))))
 (z08 (dC (.bl true)))))))
noncomputable def z2E:List D->Option D:=dFn 5 y23 y79
noncomputable def z4O:List Str:=["_law_found","_law_cell_here","_law_at","_law_part","_law_some"]
noncomputable def z34:y0->Option Out :=
 J3 (W4 2 (d2 z9A (z6 1) (z09 (dSq (z6 0)))))
 (J3 (W4 3 (dIx (dSq (z6 0)) (z6 2)))
 (J3 (W4 4 (dLs (z5T (z8 (d2 z0K (d2 z0K (z54 (z29 (z6 0) (z0O) (u8 (z6 2))) (z53 (z6 0) (z0O) (u8 (z6 2)))) (z2V (z8 (x2Y (z6 3) (y5D (dC (.int 1)))) (u9)))) (z54 (z29 (z6 0) (u8 (d2 z0K (z6 2) (dC (.int 1)))) (z0O)) (z53 (z6 0) (u8 (d2 z0K (z6 2) (dC (.int 1)))) (z0O)))) (z8 (d2 z0K (z54 (z29 (z6 0) (z0O) (u8 (z6 2))) (z53 (z6 0) (z0O) (u8 (z6 2)))) (z54 (z29 (z6 0) (u8 (d2 z0K (z6 2) (dC (.int 1)))) (z0O)) (z53 (z6 0) (u8 (d2 z0K (z6 2) (dC (.int 1)))) (z0O)))) (z8 (d2 z0K (z6 0) (z2V (z8 (z2V (u9)) (u9)))) (z8 (dLs (dQF some (dSq (z6 0)))) (z8 (dC .non) (u9)))))))))
 (J3 (W4 4 (dLs (y1T (z02 (z6 4)) (z5T (z8 (d2 z0K (d2 z0K (z54 (z29 (z6 0) (z0O) (u8 (z6 2))) (z53 (z6 0) (z0O) (u8 (z6 2)))) (z2V (z8 (z54 (z29 (z6 3) (u8 (dC (.int 1))) (z0O)) (z53 (z6 3) (u8 (dC (.int 1))) (z0O))) (u9)))) (z54 (z29 (z6 0) (u8 (d2 z0K (z6 2) (dC (.int 1)))) (z0O)) (z53 (z6 0) (u8 (d2 z0K (z6 2) (dC (.int 1)))) (z0O)))) (z8 (d2 z0K (d2 z0K (z54 (z29 (z6 0) (z0O) (u8 (z6 2))) (z53 (z6 0) (z0O) (u8 (z6 2)))) (z2V (z8 (d2 z0K (z6 3) (z2V (z8 (dC (.int 0)) (u9)))) (u9)))) (z54 (z29 (z6 0) (u8 (d2 z0K (z6 2) (dC (.int 1)))) (z0O)) (z53 (z6 0) (u8 (d2 z0K (z6 2) (dC (.int 1)))) (z0O)))) (z8 (x2Y (z6 0) (y5D (dC (.int 1)))) (u9))))))))
 (J3 (W4 4 (dLs (y1T (z02 (z6 4)) (z5T (z8 (d2 z0K (d2 z0K (z54 (z29 (z6 0) (z0O) (u8 (z6 2))) (z53 (z6 0) (z0O) (u8 (z6 2)))) (z2V (z8 (dLs (dQF some (dSq (z6 3)))) (u9)))) (z54 (z29 (z6 0) (u8 (d2 z0K (z6 2) (dC (.int 1)))) (z0O)) (z53 (z6 0) (u8 (d2 z0K (z6 2) (dC (.int 1)))) (z0O)))) (z8 (d2 z0K (d2 z0K (z54 (z29 (z6 0) (z0O) (u8 (z6 2))) (z53 (z6 0) (z0O) (u8 (z6 2)))) (z2V (z8 (d2 z0K (z6 3) (z2V (z8 (dC .non) (u9)))) (u9)))) (z54 (z29 (z6 0) (u8 (d2 z0K (z6 2) (dC (.int 1)))) (z0O)) (z53 (z6 0) (u8 (d2 z0K (z6 2) (dC (.int 1)))) (z0O)))) (u9)))))))
 (z08 (dIx (dSq (z6 4)) (d2 z9A (d2 x23 (z6 1) (dC (.int 8))) (dC (.int 10)))))))))
noncomputable def W6:List D->Option D:=dFn 2 z4O z34
noncomputable def x9V:List Str:=["_law_script","_law_cell_here","_law_web_here","_law_row_here","_law_more","_law_some","_law_kind","_law_pairs","_law_found","_law_good","_law_things","_law_thing","_law_told","_law_due"]
noncomputable def x52:y0->Option Out :=
 J3 (z7S (dSq (z29 (z6 0) (z0O) (u8 (dC (.int 3))))) (w8 1)
 (J3 (W4 2 (v6 z6R (z8 (z6 1) (z8 (dC (.int 6)) (z8 (dC (.int 10)) (u9))))))
 (J3 (W4 3 (v6 z6T (z8 (d2 x23 (z6 1) (dC (.int 3))) (z8 (dIx (dSq (z6 2)) (dC (.int 0))) (u9)))))
 (z7S (dSq (z29 (z6 0) (u8 (dC (.int 3))) (u8 (dC (.int 6))))) (w8 4)
 (J3 (W4 5 (z58 (Q0 [none,some 4] (z2W (z09 (dSq (dIx (dSq (z6 2)) (dC (.int 1)))))) (w8 0) (x5 (d2 dEq (v6 Q4 (z8 (d2 z0K (z6 1) (z6 0)) (z8 (dC (.int 9929)) (z8 (dC (.int 2)) (u9))))) (dC (.int 0)))) (z6 0))))
 (z7S (dSq (z2V (z8 (dC (.str "pile")) (z8 (dC (.str "queue")) (u9))))) (w8 6)
 (J3 (W4 7 (v6 z2D (z8 (z6 2) (z8 (z6 3) (z8 (z6 6) (u9))))))
 (J3 (W4 8 (v6 z6S (z8 (z6 2) (z8 (z6 3) (z8 (z6 6) (z8 (z6 5) (u9)))))))
 (J3 (W4 9 (d2 dEq (dLs (Q0 [none,some 5] (dSq (z6 7)) (w8 0) (z5U (x5 (dIn false (dIx (dSq (z6 0)) (dC (.int 0))) (dSq (z6 1)))) (x5 (dIn false (dIx (dSq (z6 0)) (dC (.int 1))) (dSq (z6 1))))) (z6 0))) (dLs (z5T (u9)))))
 (J3 (z1V (x5 (d2 dNe (d2 x2Z (z6 8) (dC .non)) (z6 9)))
 (z08 (dC (.bl false)))
 (Y6))
 (J3 (W4 10 (dLs (z5T (z8 (dC .non) (z8 (z2V (u9)) (z8 (d2 y3N (z2V (z8 (z2V (u9)) (u9))) (dIx (dSq (z6 2)) (dC (.int 0)))) (u9)))))))
 (J3 (z1V (x5 (z6 9))
 (J3 (z1V (z0S (x5 (v6 W7 (z8 (z6 2) (z8 (z6 3) (z8 (z6 6) (z8 (z6 5) (z8 (z6 8) (u9)))))))))
 (z08 (dC (.bl false)))
 (Y6))
 (J3 (z1V (x5 (d2 x2Z (v6 z2E (z8 (z6 2) (z8 (z6 3) (z8 (z6 6) (z8 (z6 5) (z8 (z6 8) (u9))))))) (dC (.bl true))))
 (z08 (dC (.bl false)))
 (Y6))
 (W4 10 (dLs (y1T (z02 (z6 10)) (Q0 [none,some 8] (dSq (z29 (z6 0) (u8 (dC (.int 6))) (u8 (dC (.int 10))))) (w8 0) (z1U) (v6 W6 (z8 (z6 1) (z8 (z6 0) (u9))))))))))
 (Y6))
 (z7S (dSq (z6 10)) (w8 11)
 (J3 (W4 12 (v6 z2E (z8 (z6 2) (z8 (z6 3) (z8 (z6 6) (z8 (z6 5) (z8 (z6 11) (u9))))))))
 (J3 (W4 13 (v6 W7 (z8 (z6 2) (z8 (z6 3) (z8 (z6 6) (z8 (z6 5) (z8 (z6 11) (u9))))))))
 (z1V (z80 (z0S (x5 (z7B "bool" (z6 12)))) (x5 (d2 dNe (z6 12) (z6 13))))
 (z08 (dC (.bl false)))
 (Y6)))))))))))))))))
 (z08 (dC (.bl true)))
noncomputable def y45:List D->Option D:=dFn 1 x9V x52
structure ExcTop(K:PySem.W.Frag)(mg:Str->Option Value)(C:Addr):Prop where
 mN:mg "NoRun" = some (.ref C)
 ex:PySem.W.excIn K C VE "ValueError.__new__" = true
 tr:TryC K mg C "PageError" "NoRun" "NoText"
structure Top(K:PySem.W.Frag)(w:World)(mg:Str->Option Value)(C:Addr):Prop where
 tx:ExcTop K mg C
 d_law_mix:Stands K mg "_law_mix" z15
 d_law_web:Stands K mg "_law_web" z12
 d_law_row:Stands K mg "_law_row" z14
 d_law_how:Stands K mg "_law_how" z16
 d_law_clashes:Stands K mg "_law_clashes" Y0
 d_spots_of:Stands K mg "spots_of" z0E
 d_rising_pair:Stands K mg "rising_pair" Q9
 d_span_of:Stands K mg "span_of" z10
 d_spans_of:Stands K mg "spans_of" z0F
 d_ties_ending:Stands K mg "ties_ending" Q8
 d_left_of:Stands K mg "left_of" z11
 d_ties_beginning:Stands K mg "ties_beginning" J5
 d_as_laid_on:StandsL K mg "as_laid_on" W3
 d_run:Stands K mg "run" z7X
 d_law_run:Stands K mg "_law_run" z13
 d_law_is_run:Stands K mg "_law_is_run" W2
 d_is_whole:Stands K mg "is_whole" z0G
 d_is_tie_number:Stands K mg "is_tie_number" K1
 d_are_held:Stands K mg "are_held" z0H
 d_is_step:Stands K mg "is_step" z17
 d_is_run:Stands K mg "is_run" z23
 d_law_spoilt:Stands K mg "_law_spoilt" W1
 d_law:Stands K mg "law" z8S
 x_bm:BmAt K mg
 b_ValueError:mg "ValueError" = none
 b_all:mg "all" = none
 b_bool:mg "bool" = none
 b_enumerate:mg "enumerate" = none
 b_int:mg "int" = none
 b_isinstance:mg "isinstance" = none
 b_len:mg "len" = none
 b_list:mg "list" = none
 b_max:mg "max" = none
 b_min:mg "min" = none
 b_range:mg "range" = none
 b_sorted:mg "sorted" = none
 b_tuple:mg "tuple" = none
section
variable{P:Program}{w:World}{K:PySem.W.Frag}{mg:Str->Option Value}{base:Heap}{C:Addr}
theorem y7X:FnScope z9I ["_law_cell_here","_law_prime","_law_many"] (z9 z15):=⟨rfl,rfl,rfl,by decide +kernel,rfl,by decide +kernel,by decide +kernel⟩
theorem x2L(T:Top K w mg C)(f:Addr)(cdv:Value)(A:Around)(outer:List Env)(s:Shared)(H:Hp)(E:XK)(hr:Room 0 (A.deeper (PyProof.Rows.envOfC "_law_mix" (z9 z15) s.heap.objs.size f cdv))) :
  ZB (z42 CX0 P w K mg base z9I "_law_mix" (z9 z15) f cdv A outer s H E).nox (x6 z15) y3G:=by
 have hu:=hr.units;have hu0:=hr.units0;exact w6 (j0 (z8M (z8M (z8L (zsv 0) (x8)) (zsv 1)) (zsv 2)))
theorem z2F(T:Top K w mg C):FnD P w K mg base 1 "_law_mix" ["_law_cell_here","_law_prime","_law_many"] Q4 :=
 z38 T.d_law_mix y7X (fun _ _ _ _ _ _=>x8Y _ fun _ _ _=>rfl) rfl (x2L T)
theorem z0T:FnScope z9F ["_law_cell_here","_law_most","_law_ties"] (z9 z12):=⟨rfl,rfl,rfl,by decide +kernel,rfl,by decide +kernel,by decide +kernel⟩
theorem x2I(T:Top K w mg C)(f:Addr)(cdv:Value)(A:Around)(outer:List Env)(s:Shared)(H:Hp)(E:XK)(hr:Room 1 (A.deeper (PyProof.Rows.envOfC "_law_web" (z9 z12) s.heap.objs.size f cdv))) :
  ZB (z42 CX0 P w K mg base z9F "_law_web" (z9 z12) f cdv A outer s H E).nox (x6 z12) z6F:=by
 have hu:=hr.units;have hu0:=hr.units0
 exact y6 (v9 (i:=3) (K0 (x8) (K9 (z2F T) hr (z7 (zsv 0) (z7 (x8) (z7 (zsv 1) (y8)))))) z0T.nd)
   (y6 (z0A (z9R (y4A (w02 hu0 (zsv 3) (x8)) (y0U (x6W (z8M (zsv 0) (x8)) (x8)))))
   (w6 (v9 (i:=3) (zsv 1) z0T.nd))
   (W9))
   (y6 (z5V (i:=4) (z1F (y8)) z0T.nd)
   (y6 (z1W PassesOwn.never rfl (z2X T.b_range (K9 (z2F T) hr (z7 (zsv 0) (z7 (x8) (z7 (K0 (zsv 2) (x8)) (y8)))))) (u3 (i:=5) z0T.nd)
   (y6 (v9 (i:=6) (K9 (z2F T) hr (z7 (K0 (zsv 0) (z8L (x8) (zsv 5))) (z7 (x8) (z7 (zsv 3) (y8))))) z0T.nd)
   (y6 (v9 (i:=7) (K9 (z2F T) hr (z7 (K0 (K0 (zsv 0) (z8L (x8) (zsv 5))) (x8)) (z7 (x8) (z7 (zsv 3) (y8))))) z0T.nd)
   (y6 (v9 (i:=8) (Z8 (z7 (y5R rfl T.b_min (zsv 6) (zsv 7)) (z7 (y5S rfl T.b_max (zsv 6) (zsv 7)) (y8)))) z0T.nd)
   (w6 (z0A (z9R (y4A (z8I hu (zsv 6) (zsv 7)) (y0U (y8V hu (zsv 8) (zqv 4)))))
   (w6 (y4B (i:=4) (zsv 8)))
   (W9)))))))
   (w6 (j0 (Z8 (z7 (zsv 3) (z7 (z4G T.b_tuple (w04 (z3G T.b_sorted (zqv 4)))) (y8)))))))))
theorem y84(T:Top K w mg C):FnD P w K mg base 2 "_law_web" ["_law_cell_here","_law_most","_law_ties"] z6R :=
 z38 T.d_law_web z0T (fun _ _ _ _ _ _=>x8Y _ fun _ _ _=>rfl) rfl (x2I T)
theorem y0D:FnScope z9H ["_law_cell_here","_law_many"] (z9 z14):=⟨rfl,rfl,rfl,by decide +kernel,rfl,by decide +kernel,by decide +kernel⟩
theorem x2K(T:Top K w mg C)(f:Addr)(cdv:Value)(A:Around)(outer:List Env)(s:Shared)(H:Hp)(E:XK)(hr:Room 1 (A.deeper (PyProof.Rows.envOfC "_law_row" (z9 z14) s.heap.objs.size f cdv))) :
  ZB (z42 CX0 P w K mg base z9H "_law_row" (z9 z14) f cdv A outer s H E).nox (x6 z14) z6H:=by
 have hu:=hr.units;have hu0:=hr.units0
 exact y6 (z5V (i:=2) (y4D rfl T.b_list T.b_range (zsv 1)) y0D.nd)
   (w6 (y2A T.b_tuple (y8Z ["_law_k","_law_left","_law_cell_here","_law_many"] [none,some 2,some 0,some 1] rfl (z2X T.b_range (zsv 1)) (fun _ _ _ _ _=>u3 (i:=0) (show List.Nodup (["_law_k","_law_left","_law_cell_here","_law_many"]:List Str) by decide +kernel)) (fun _ _ _ _ _=>y91 (i:=1) (K9 (z2F T) hr (z7 (K0 (zsv 2) (z8L (x8) (zsv 0))) (z7 (x8) (z7 (y4F (zsv 3) (zsv 0)) (y8)))))))))
theorem y86(T:Top K w mg C):FnD P w K mg base 2 "_law_row" ["_law_cell_here","_law_many"] z6T :=
 z38 T.d_law_row y0D (fun _ _ _ _ _ _=>x8Z _ fun _ _=>rfl) rfl (x2K T)
theorem z4V:FnScope z9J ["_law_web_here","_law_row_here","_law_one","_law_other"] (z9 z16):=⟨rfl,rfl,rfl,by decide +kernel,rfl,by decide +kernel,by decide +kernel⟩
theorem x2M(T:Top K w mg C)(f:Addr)(cdv:Value)(A:Around)(outer:List Env)(s:Shared)(H:Hp)(E:XK)(hr:Room 0 (A.deeper (PyProof.Rows.envOfC "_law_how" (z9 z16) s.heap.objs.size f cdv))) :
  ZB (z42 CX0 P w K mg base z9J "_law_how" (z9 z16) f cdv A outer s H E).nox (x6 z16) z6I:=by
 have hu:=hr.units;have hu0:=hr.units0
 exact y6 (v9 (i:=4) (z2Q (Y3 ["_law_place","_law_row_here"] [none,some 1] rfl (z04 (Z7 (Y8 (J7 (Y8 (J7 (zsv 0)) (x8))) (zsv 2)))) (fun _ _ _ _ _=>u3 (i:=0) (show List.Nodup (["_law_place","_law_row_here"]:List Str) by decide +kernel)) (fun _ _ _ _ _=>z7J) (fun _ _ _ _ _=>z5W hu (zsv 1) (zsv 0)))) z4V.nd)
   (y6 (v9 (i:=5) (z2Q (Y3 ["_law_place","_law_row_here"] [none,some 1] rfl (z04 (Z7 (Y8 (J7 (Y8 (J7 (zsv 0)) (x8))) (zsv 3)))) (fun _ _ _ _ _=>u3 (i:=0) (show List.Nodup (["_law_place","_law_row_here"]:List Str) by decide +kernel)) (fun _ _ _ _ _=>z7J) (fun _ _ _ _ _=>z5W hu (zsv 1) (zsv 0)))) z4V.nd)
   (y6 (z0A (y0V (y4H (Y3 ["_law_spot","_law_second"] [none,some 5] rfl (z04 (Z7 (zsv 4))) (fun _ _ _ _ _=>u3 (i:=0) (show List.Nodup (["_law_spot","_law_second"]:List Str) by decide +kernel)) (fun _ _ _ _ _=>z59 (y8X hu (zsv 0) (J7 (zsv 1)))) (fun _ _ _ _ _=>zsv 0))))
   (w6 (j0 (z0Q)))
   (W9))
   (y6 (z8J (i:=6) ["_law_spot","_law_first"] [none,some 4] rfl (z04 (Z7 (zsv 5))) (fun _ _ _ _ _=>u3 (i:=0) (show List.Nodup (["_law_spot","_law_first"]:List Str) by decide +kernel)) (fun _ _ _ _ _=>z59 (y29 y82 z7N y82 z7N (z86 rfl T.b_min (z5X (zsv 1))) (zsv 0) (y0Z rfl T.b_max (z5X (zsv 1))))) (fun _ _ _ _ _=>zsv 0) z4V.nd)
   (y6 (z0A (z4B hu (Y4 T.b_len (J7 (zsv 6))) (x8))
   (w6 (j0 (z0Q)))
   (W9))
   (y6 (z0A (z9R (z8H (z4B hu (Y4 T.b_len (J7 (zsv 6))) (x8)) (z5F (y29 y82 z7N y82 z7N (z86 rfl T.b_min (z5X (zsv 5))) (z86 rfl T.b_min (z5X (zsv 4))) (y0Z rfl T.b_max (z5X (zsv 5)))))))
   (w6 (j0 (z0Q)))
   (W9))
   (w6 (j0 (z0Q))))))))
theorem y87(T:Top K w mg C):FnD P w K mg base 1 "_law_how" ["_law_web_here","_law_row_here","_law_one","_law_other"] z4S :=
 z38 T.d_law_how z4V (fun _ _ _ _ _ _=>w41 _ fun _ _ _ _=>rfl) rfl (x2M T)
theorem z1M:FnScope z49 ["_law_web_here","_law_row_here","_law_kind"] (z9 Y0):=⟨rfl,rfl,rfl,by decide +kernel,rfl,by decide +kernel,by decide +kernel⟩
theorem y20(T:Top K w mg C)(f:Addr)(cdv:Value)(A:Around)(outer:List Env)(s:Shared)(H:Hp)(E:XK)(hr:Room 1 (A.deeper (PyProof.Rows.envOfC "_law_clashes" (z9 Y0) s.heap.objs.size f cdv))) :
  ZB (z42 CX0 P w K mg base z49 "_law_clashes" (z9 Y0) f cdv A outer s H E).nox (x6 Y0) z28:=by
 have hu:=hr.units;have hu0:=hr.units0
 exact y6 (v9 (i:=3) (Y8 (w04 (z1F (z7 (z0Q) (z7 (z0Q) (y8))))) (y2B T.b_int (y05 hu (zsv 2) (z0Q)))) z1M.nd)
   (y6 (z5V (i:=4) (z1F (y8)) z1M.nd)
   (y6 (z1W PassesOwn.never rfl (z2X T.b_range (Y4 T.b_len (J7 (Y8 (J7 (zsv 0)) (x8))))) (u3 (i:=5) z1M.nd)
   (w6 (x71 (i:=4) (Y3 ["_law_one","_law_other","_law_web_here","_law_row_here","_law_word"] [none,some 5,some 0,some 1,some 3] rfl (z04 (z2X T.b_range (zsv 5))) (fun _ _ _ _ _=>u3 (i:=0) (show List.Nodup (["_law_one","_law_other","_law_web_here","_law_row_here","_law_word"]:List Str) by decide +kernel)) (fun _ _ _ _ _=>z59 (z4B hu (K9 (y87 T) hr (z7 (zsv 2) (z7 (zsv 3) (z7 (zsv 0) (z7 (zsv 1) (y8)))))) (zsv 4))) (fun _ _ _ _ _=>Z8 (z7 (zsv 0) (z7 (zsv 1) (y8))))))))
   (w6 (j0 (z2Q (z3G T.b_sorted (zqv 4)))))))
theorem z9W(T:Top K w mg C):FnD P w K mg base 2 "_law_clashes" ["_law_web_here","_law_row_here","_law_kind"] z2D :=
 z38 T.d_law_clashes z1M (fun _ _ _ _ _ _=>x8Y _ fun _ _ _=>rfl) rfl (y20 T)
theorem z3W:FnScope z7E ["row"] (z9 z0E):=⟨rfl,rfl,rfl,by decide +kernel,rfl,by decide +kernel,by decide +kernel⟩
theorem y8K(T:Top K w mg C)(f:Addr)(cdv:Value)(A:Around)(outer:List Env)(s:Shared)(H:Hp)(E:XK)(hr:Room 0 (A.deeper (PyProof.Rows.envOfC "spots_of" (z9 z0E) s.heap.objs.size f cdv))) :
  ZB (z42 CX0 P w K mg base z7E "spots_of" (z9 z0E) f cdv A outer s H E).nox (x6 z0E) z4X:=by
 have hu:=hr.units;have hu0:=hr.units0
 exact y6 (x31 (i:=1) x32 z3W.nd)
   (y6 (z1W PassesOwn.never rfl (y0W T.b_enumerate (zsv 0)) (y4C rfl (z3F (u3 (i:=2) z3W.nd) (z3F (u3 (i:=3) z3W.nd) (y0X))))
   (w6 (x6Y (i:=1) hu (zsv 3) (zsv 2))))
   (w6 (x70 1 (j0 (zsv 1)))))
theorem y4U(T:Top K w mg C):FnD P w K mg base 1 "spots_of" ["row"] z7I :=
 z38 T.d_spots_of z3W (fun _ _ _ _ _ _=>w61 _ fun _=>rfl) rfl (y8K T)
theorem z9U:FnScope z48 ["one","other"] (z9 Q9):=⟨rfl,rfl,rfl,by decide +kernel,rfl,by decide +kernel,by decide +kernel⟩
theorem y1Z(T:Top K w mg C)(f:Addr)(cdv:Value)(A:Around)(outer:List Env)(s:Shared)(H:Hp)(E:XK)(hr:Room 0 (A.deeper (PyProof.Rows.envOfC "rising_pair" (z9 Q9) s.heap.objs.size f cdv))) :
  ZB (z42 CX0 P w K mg base z48 "rising_pair" (z9 Q9) f cdv A outer s H E).nox (x6 Q9) z27:=by
 have hu:=hr.units;have hu0:=hr.units0;exact w6 (j0 (Z8 (z7 (y5R rfl T.b_min (zsv 0) (zsv 1)) (z7 (y5S rfl T.b_max (zsv 0) (zsv 1)) (y8)))))
theorem z9V(T:Top K w mg C):FnD P w K mg base 1 "rising_pair" ["one","other"] z4A :=
 z38 T.d_rising_pair z9U (fun _ _ _ _ _ _=>x8Z _ fun _ _=>rfl) rfl (y1Z T)
theorem y7W:FnScope z9D ["spots","tie"] (z9 z10):=⟨rfl,rfl,rfl,by decide +kernel,rfl,by decide +kernel,by decide +kernel⟩
theorem x2G(T:Top K w mg C)(f:Addr)(cdv:Value)(A:Around)(outer:List Env)(s:Shared)(H:Hp)(E:XK)(hr:Room 1 (A.deeper (PyProof.Rows.envOfC "span_of" (z9 z10) s.heap.objs.size f cdv))) :
  ZB (z42 CX0 P w K mg base z9D "span_of" (z9 z10) f cdv A outer s H E).nox (x6 z10) z6D:=by
 have hu:=hr.units;have hu0:=hr.units0;exact w6 (j0 (K9 (z9V T) hr (z7 (y5T hu (zsv 0) (Y8 (J7 (zsv 1)) (x8))) (z7 (y5T hu (zsv 0) (Y8 (J7 (zsv 1)) (x8))) (y8)))))
theorem y83(T:Top K w mg C):FnD P w K mg base 2 "span_of" ["spots","tie"] z9M :=
 z38 T.d_span_of y7W (fun _ _ _ _ _ _=>x8Z _ fun _ _=>rfl) rfl (x2G T)
theorem z8R:FnScope z7F ["web","row"] (z9 z0F):=⟨rfl,rfl,rfl,by decide +kernel,rfl,by decide +kernel,by decide +kernel⟩
theorem y8L(T:Top K w mg C)(f:Addr)(cdv:Value)(A:Around)(outer:List Env)(s:Shared)(H:Hp)(E:XK)(hr:Room 2 (A.deeper (PyProof.Rows.envOfC "spans_of" (z9 z0F) s.heap.objs.size f cdv))) :
  ZB (z42 CX0 P w K mg base z7F "spans_of" (z9 z0F) f cdv A outer s H E).nox (x6 z0F) z4Y:=by
 have hu:=hr.units;have hu0:=hr.units0
 exact y6 (v9 (i:=2) (K9 (y4U T) hr (z7 (zsv 1) (y8))) z8R.nd)
   (w6 (j0 (z2Q (Y3 ["tie","spots"] [none,some 2] rfl (z04 (Z7 (Y8 (J7 (zsv 0)) (x8)))) (fun _ _ _ _ _=>u3 (i:=0) (show List.Nodup (["tie","spots"]:List Str) by decide +kernel)) (fun _ _ _ _ _=>z7J) (fun _ _ _ _ _=>K9 (y83 T) hr (z7 (zsv 1) (z7 (zsv 0) (y8))))))))
theorem z5N(T:Top K w mg C):FnD P w K mg base 3 "spans_of" ["web","row"] z1L :=
 z38 T.d_spans_of z8R (fun _ _ _ _ _ _=>x8Z _ fun _ _=>rfl) rfl (y8L T)
theorem z9T:FnScope z47 ["spans","some","spot"] (z9 Q8):=⟨rfl,rfl,rfl,by decide +kernel,rfl,by decide +kernel,by decide +kernel⟩
theorem y1Y(T:Top K w mg C)(f:Addr)(cdv:Value)(A:Around)(outer:List Env)(s:Shared)(H:Hp)(E:XK)(hr:Room 0 (A.deeper (PyProof.Rows.envOfC "ties_ending" (z9 Q8) s.heap.objs.size f cdv))) :
  ZB (z42 CX0 P w K mg base z47 "ties_ending" (z9 Q8) f cdv A outer s H E).nox (x6 Q8) z26:=by
 have hu:=hr.units;have hu0:=hr.units0
 exact w6 (j0 (z2Q (Y3 ["tie","spans","spot"] [none,some 0,some 2] rfl (z04 (Z7 (zsv 1))) (fun _ _ _ _ _=>u3 (i:=0) (show List.Nodup (["tie","spans","spot"]:List Str) by decide +kernel)) (fun _ _ _ _ _=>z59 (z4B hu (Y8 (J7 (Y8 (J7 (zsv 1)) (zsv 0))) (x8)) (zsv 2))) (fun _ _ _ _ _=>zsv 0))))
theorem z3B(T:Top K w mg C):FnD P w K mg base 1 "ties_ending" ["spans","some","spot"] W5 :=
 z38 T.d_ties_ending z9T (fun _ _ _ _ _ _=>x8Y _ fun _ _ _=>rfl) rfl (y1Y T)
theorem z3L:FnScope z9E ["kind","held","ending"] (z9 z11):=⟨rfl,rfl,rfl,by decide +kernel,rfl,by decide +kernel,by decide +kernel⟩
theorem x2H(T:Top K w mg C)(f:Addr)(cdv:Value)(A:Around)(outer:List Env)(s:Shared)(H:Hp)(E:XK)(hr:Room 0 (A.deeper (PyProof.Rows.envOfC "left_of" (z9 z11) s.heap.objs.size f cdv))) :
  ZB (z42 CX0 P w K mg base z9E "left_of" (z9 z11) f cdv A outer s H E).nox (x6 z11) z6E:=by
 have hu:=hr.units;have hu0:=hr.units0
 exact y6 (z0A (z4B hu (zsv 0) (z0Q))
   (y6 (v9 (i:=3) (Z0 (zsv 1) (J9) (j6 (Y4 T.b_len (J7 (zsv 2))))) z3L.nd)
   (w6 (v9 (i:=4) (Z0 (zsv 1) (j6 (Y4 T.b_len (J7 (zsv 2)))) (J9)) z3L.nd)))
   (y6 (v9 (i:=3) (Z0 (zsv 1) (j6 (y4F (Y4 T.b_len (J7 (zsv 1))) (Y4 T.b_len (J7 (zsv 2))))) (J9)) z3L.nd)
   (w6 (v9 (i:=4) (Z0 (zsv 1) (J9) (j6 (y4F (Y4 T.b_len (J7 (zsv 1))) (Y4 T.b_len (J7 (zsv 2)))))) z3L.nd))))
   (w6 (j0 (x5R (z4B hu (z2Q (z3G T.b_sorted (J7 (zsv 3)))) (zsv 2)) (zsv 4) (z4H))))
theorem z74(T:Top K w mg C):FnD P w K mg base 1 "left_of" ["kind","held","ending"] z3T :=
 z38 T.d_left_of z3L (fun _ _ _ _ _ _=>x8Y _ fun _ _ _=>rfl) rfl (x2H T)
theorem z6Y:FnScope z1Y ["spans","some","spot"] (z9 J5):=⟨rfl,rfl,rfl,by decide +kernel,rfl,by decide +kernel,by decide +kernel⟩
theorem z82(T:Top K w mg C)(f:Addr)(cdv:Value)(A:Around)(outer:List Env)(s:Shared)(H:Hp)(E:XK)(hr:Room 0 (A.deeper (PyProof.Rows.envOfC "ties_beginning" (z9 J5) s.heap.objs.size f cdv))) :
  ZB (z42 CX0 P w K mg base z1Y "ties_beginning" (z9 J5) f cdv A outer s H E).nox (x6 J5) z0P:=by
 have hu:=hr.units;have hu0:=hr.units0
 exact w6 (j0 (z2Q (Y3 ["tie","spans","spot"] [none,some 0,some 2] rfl (z04 (Z7 (zsv 1))) (fun _ _ _ _ _=>u3 (i:=0) (show List.Nodup (["tie","spans","spot"]:List Str) by decide +kernel)) (fun _ _ _ _ _=>z59 (z4B hu (Y8 (J7 (Y8 (J7 (zsv 1)) (zsv 0))) (x8)) (zsv 2))) (fun _ _ _ _ _=>zsv 0))))
theorem z1I(T:Top K w mg C):FnD P w K mg base 1 "ties_beginning" ["spans","some","spot"] K7 :=
 z38 T.d_ties_beginning z6Y (fun _ _ _ _ _ _=>x8Y _ fun _ _ _=>rfl) rfl (z82 T)
theorem z62:FnScope z4Q ["spans","kind","beginning"] (z9 W3):=⟨rfl,rfl,rfl,by decide +kernel,rfl,by decide +kernel,by decide +kernel⟩
theorem y40(T:Top K w mg C)(f:Addr)(cdv:Value)(A:Around)(outer:List Env)(s:Shared)(H:Hp)(E:XK)(hl:z9Z K cdv "as_laid_on" = true)(hr:Room 3 (A.deeper (PyProof.Rows.envOfC "as_laid_on" (z9 W3) s.heap.objs.size f cdv))) :
  ZB (z42 CX0 P w K mg base z4Q "as_laid_on" (z9 W3) f cdv A outer s H E).nox (x6 W3) z35:=by
 have hu:=hr.units;have hu0:=hr.units0
 exact y6 (v9 (i:=3) (z4G T.b_tuple (w04 (y90 (k:=0) ["tie","spans"] [none,some 0] T.b_sorted T.x_bm hl (hr.mono (by decide)) (J7 (zsv 2)) (fun _ _ _ _ _ _ hr=>have hu:=hr.units;have hu0:=hr.units0;Y8 (J7 (Y8 (J7 (zsv 1)) (zsv 0))) (x8))))) z62.nd)
   (w6 (j0 (x5R (z4B hu (zsv 1) (z0Q)) (zsv 3) (y4G (zsv 3) (z8K (x8))))))
theorem z67(T:Top K w mg C):FnD P w K mg base 4 "as_laid_on" ["spans","kind","beginning"] z0X :=
 w03 T.d_as_laid_on z62 (fun _ _ _ _ _ _=>x8Y _ fun _ _ _=>rfl) rfl (y40 T)
theorem z2Z:FnScope x2T ["web","row","kind","some"] (z9 z7X):=⟨rfl,rfl,rfl,by decide +kernel,rfl,by decide +kernel,by decide +kernel⟩
theorem w5N(T:Top K w mg C)(f:Addr)(cdv:Value)(A:Around)(outer:List Env)(s:Shared)(H:Hp)(E:XK)(hr:Room 4 (A.deeper (PyProof.Rows.envOfC "run" (z9 z7X) s.heap.objs.size f cdv))) :
  ZB (z42 CX0 P w K mg base x2T "run" (z9 z7X) f cdv A outer s H E).nox (x6 z7X) w3G:=by
 have hu:=hr.units;have hu0:=hr.units0
 exact y6 (v9 (i:=4) (K9 (z5N T) hr (z7 (zsv 0) (z7 (zsv 1) (y8)))) z2Z.nd)
   (y6 (z5V (i:=5) (z1F (y8)) z2Z.nd)
   (y6 (v9 (i:=6) (Z8 (y8)) z2Z.nd)
   (y6 (z1W PassesOwn.never rfl (z2X T.b_range (Y4 T.b_len (J7 (zsv 1)))) (u3 (i:=7) z2Z.nd)
   (y6 (v9 (i:=8) (K9 (z74 T) hr (z7 (zsv 2) (z7 (zsv 6) (z7 (K9 (z3B T) hr (z7 (zsv 4) (z7 (zsv 3) (z7 (zsv 7) (y8))))) (y8))))) z2Z.nd)
   (y6 (z0A (y8W (zsv 8) (z4H))
   (w6 (x6Z))
   (W9))
   (y6 (v9 (i:=6) (K0 (zsv 8) (K9 (z67 T) hr (z7 (zsv 4) (z7 (zsv 2) (z7 (K9 (z1I T) hr (z7 (zsv 4) (z7 (zsv 3) (z7 (zsv 7) (y8))))) (y8)))))) z2Z.nd)
   (w6 (y4B (i:=5) (zsv 6)))))))
   (w6 (j0 (z4G T.b_tuple (zqv 5)))))))
theorem w30(T:Top K w mg C):FnD P w K mg base 5 "run" ["web","row","kind","some"] x5Q :=
 z38 T.d_run z2Z (fun _ _ _ _ _ _=>w41 _ fun _ _ _ _=>rfl) rfl (w5N T)
theorem w3R(T:Top K w mg C)(f:Addr)(cdv:Value)(A:Around)(outer:List Env)(s:Shared)(H:Hp)(E:XK)(hr:Room 4 (A.deeper (PyProof.Rows.envOfC "run" (z9 z7X) s.heap.objs.size f cdv))) :
  ZB (z42 (CXN P w K (.ref C)) P w K mg base x2T "run" (z9 z7X) f cdv A outer s H E) (x6 z7X) x6M:=by
 have hu:=hr.units;have hu0:=hr.units0
 exact y6 (v9 (i:=4) (K9 (z5N T) hr (z7 (zsv 0) (z7 (zsv 1) (y8)))) z2Z.nd)
   (y6 (z5V (i:=5) (z1F (y8)) z2Z.nd)
   (y6 (v9 (i:=6) (Z8 (y8)) z2Z.nd)
   (y6 (z1W PassesOwn.leaving rfl (z2X T.b_range (Y4 T.b_len (J7 (zsv 1)))) (u3 (i:=7) z2Z.nd)
   (y6 (v9 (i:=8) (K9 (z74 T) hr (z7 (zsv 2) (z7 (zsv 6) (z7 (K9 (z3B T) hr (z7 (zsv 4) (z7 (zsv 3) (z7 (zsv 7) (y8))))) (y8))))) z2Z.nd)
   (y6 (z0A (y8W (zsv 8) (z4H))
   (w6 (y8Y T.tx.ex T.tx.mN rfl (y7J (y5Q (z0Q) (y5Q (x33 hr (zsv 3)) (x72)))) (fun _ _ h=>x4L h)))
   (W9))
   (y6 (v9 (i:=6) (K0 (zsv 8) (K9 (z67 T) hr (z7 (zsv 4) (z7 (zsv 2) (z7 (K9 (z1I T) hr (z7 (zsv 4) (z7 (zsv 3) (z7 (zsv 7) (y8))))) (y8)))))) z2Z.nd)
   (w6 (y4B (i:=5) (zsv 6)))))))
   (w6 (j0 (z4G T.b_tuple (zqv 5)))))))
theorem x8O(T:Top K w mg C):FnB P w K mg base (.ref C) 5 "run" ["web","row","kind","some"] y47 :=
 w6U T.d_run z2Z (fun _ _ _ _ _ _=>w41 _ fun _ _ _ _=>rfl) rfl (fun f cdv A outer s H E hr=>(w3R T f cdv A outer s H E hr).h)
theorem z6Z:FnScope z9G ["_law_web_here","_law_row_here","_law_kind","_law_some"] (z9 z13):=⟨rfl,rfl,rfl,by decide +kernel,rfl,by decide +kernel,by decide +kernel⟩
theorem x2J(T:Top K w mg C)(f:Addr)(cdv:Value)(A:Around)(outer:List Env)(s:Shared)(H:Hp)(E:XK)(hr:Room 5 (A.deeper (PyProof.Rows.envOfC "_law_run" (z9 z13) s.heap.objs.size f cdv))) :
  ZB (z42 CX0 P w K mg base z9G "_law_run" (z9 z13) f cdv A outer s H E).nox (x6 z13) z6G:=by
 have hu:=hr.units;have hu0:=hr.units0
 exact y6 (v9 (i:=4) (z0Q) z6Z.nd)
   (y6 (x6X (ie:=5) (i:=4) (w30 T) (x8O T) T.tx.tr T.b_isinstance T.b_ValueError hr (z7 (zsv 0) (z7 (zsv 1) (z7 (zsv 2) (z7 (zsv 3) (y8))))) z6Z.nd)
   (w6 (j0 (zsv 4))))
theorem y85(T:Top K w mg C):FnD P w K mg base 6 "_law_run" ["_law_web_here","_law_row_here","_law_kind","_law_some"] z6S :=
 z38 T.d_law_run z6Z (fun _ _ _ _ _ _=>w41 _ fun _ _ _ _=>rfl) rfl (x2J T)
theorem Q2:FnScope z4P ["_law_web_here","_law_row_here","_law_kind","_law_some","_law_thing"] (z9 W2):=⟨rfl,rfl,rfl,by decide +kernel,rfl,by decide +kernel,by decide +kernel⟩
theorem y3Z(T:Top K w mg C)(f:Addr)(cdv:Value)(A:Around)(outer:List Env)(s:Shared)(H:Hp)(E:XK)(hr:Room 0 (A.deeper (PyProof.Rows.envOfC "_law_is_run" (z9 W2) s.heap.objs.size f cdv))) :
  ZB (z42 CX0 P w K mg base z4P "_law_is_run" (z9 W2) f cdv A outer s H E).nox (x6 W2) z7Q:=by
 have hu:=hr.units;have hu0:=hr.units0
 exact y6 (z0A (z9R (z8H (z3U (z37 (z3V z6B T.b_isinstance T.b_tuple (zsv 4) (by decide +kernel)))) (z5F (z8I hu (Y4 T.b_len (J7 (zsv 4))) (Y4 T.b_len (J7 (zsv 1)))))))
   (w6 (j0 (z20)))
   (W9))
   (y6 (v9 (i:=5) (z2Q (z1F (y8))) Q2.nd)
   (y6 (z1W PassesOwn.never rfl (y0W T.b_enumerate (zsv 4)) (y4C rfl (z3F (u3 (i:=6) Q2.nd) (z3F (u3 (i:=7) Q2.nd) (y0X))))
   (y6 (z0A (z3U (z37 (z3V z6B T.b_isinstance T.b_tuple (zsv 7) (by decide +kernel))))
   (w6 (j0 (z20)))
   (W9))
   (y6 (z0A (y0V (y4H (Y3 ["_law_tie"] [none] rfl (z04 (Z7 (zsv 7))) (fun _ _ _ _ _=>u3 (i:=0) (show List.Nodup (["_law_tie"]:List Str) by decide +kernel)) (fun _ _ _ _ _=>z59 (z9R (z8H (z3U (z37 (z3V x0Y T.b_isinstance T.b_int (zsv 0) (by decide +kernel)))) (z5F (z37 (z3V y1J T.b_isinstance T.b_bool (zsv 0) (by decide +kernel))))))) (fun _ _ _ _ _=>zsv 0))))
   (w6 (j0 (z20)))
   (W9))
   (y6 (z8J (i:=8) ["_law_tie","_law_web_here","_law_row_here","_law_at"] [none,some 0,some 1,some 6] rfl (z04 (Z7 (zsv 3))) (fun _ _ _ _ _=>u3 (i:=0) (show List.Nodup (["_law_tie","_law_web_here","_law_row_here","_law_at"]:List Str) by decide +kernel)) (fun _ _ _ _ _=>z59 (z4B hu (y0Z rfl T.b_max (y4H (Y3 ["_law_place","_law_row_here"] [none,some 2] rfl (z04 (Z7 (Y8 (J7 (Y8 (J7 (zsv 1)) (x8))) (zsv 0)))) (fun _ _ _ _ _=>u3 (i:=0) (show List.Nodup (["_law_place","_law_row_here"]:List Str) by decide +kernel)) (fun _ _ _ _ _=>z7J) (fun _ _ _ _ _=>z5W hu (zsv 1) (zsv 0))))) (zsv 3))) (fun _ _ _ _ _=>zsv 0) Q2.nd)
   (y6 (z8J (i:=9) ["_law_tie","_law_web_here","_law_row_here","_law_at"] [none,some 0,some 1,some 6] rfl (z04 (Z7 (zsv 3))) (fun _ _ _ _ _=>u3 (i:=0) (show List.Nodup (["_law_tie","_law_web_here","_law_row_here","_law_at"]:List Str) by decide +kernel)) (fun _ _ _ _ _=>z59 (z4B hu (z86 rfl T.b_min (y4H (Y3 ["_law_place","_law_row_here"] [none,some 2] rfl (z04 (Z7 (Y8 (J7 (Y8 (J7 (zsv 1)) (x8))) (zsv 0)))) (fun _ _ _ _ _=>u3 (i:=0) (show List.Nodup (["_law_place","_law_row_here"]:List Str) by decide +kernel)) (fun _ _ _ _ _=>z7J) (fun _ _ _ _ _=>z5W hu (zsv 1) (zsv 0))))) (zsv 3))) (fun _ _ _ _ _=>zsv 0) Q2.nd)
   (y6 (z1W PassesOwn.never rfl (z2X T.b_range (Y4 T.b_len (J7 (zsv 8)))) (u3 (i:=10) Q2.nd)
   (y6 (z0A (z9R (z8H (z3U (y0V (z5X (zsv 5)))) (z5F (y8V hu (Y8 (J7 (zsv 5)) (Y8 (w04 (z1F (z7 (x8) (z7 (z8K (x8)) (y8))))) (y2B T.b_int (y05 hu (zsv 2) (z0Q))))) (J7 (zsv 8))))))
   (w6 (j0 (z20)))
   (W9))
   (w6 (z0A (z4B hu (zsv 2) (z0Q))
   (w6 (v9 (i:=5) (y2C (zsv 5) (J9) (j6 (z8K (x8)))) Q2.nd))
   (w6 (v9 (i:=5) (y2C (zsv 5) (j6 (x8)) (J9)) Q2.nd))))))
   (y6 (z0A (z9R (z8H (z8I hu (z2Q (z85 T.b_list (J7 (Z0 (zsv 7) (J9) (j6 (Y4 T.b_len (J7 (zsv 5)))))))) (zsv 5)) (z5F (z8I hu (z2Q (z3G T.b_sorted (J7 (Z0 (zsv 7) (j6 (Y4 T.b_len (J7 (zsv 5)))) (J9))))) (zsv 9)))))
   (w6 (j0 (z20)))
   (W9))
   (w6 (v9 (i:=5) (z2Q (z85 T.b_list (J7 (zsv 7)))) Q2.nd)))))))))
   (w6 (j0 (y05 hu (zsv 5) (z2Q (z1F (y8))))))))
theorem z66(T:Top K w mg C):FnD P w K mg base 1 "_law_is_run" ["_law_web_here","_law_row_here","_law_kind","_law_some","_law_thing"] W7 :=
 z38 T.d_law_is_run Q2 (fun _ _ _ _ _ _=>w58 _ fun _ _ _ _ _=>rfl) rfl (y3Z T)
theorem y4M:FnScope z7G ["thing"] (z9 z0G):=⟨rfl,rfl,rfl,by decide +kernel,rfl,by decide +kernel,by decide +kernel⟩
theorem y8M(T:Top K w mg C)(f:Addr)(cdv:Value)(A:Around)(outer:List Env)(s:Shared)(H:Hp)(E:XK)(hr:Room 0 (A.deeper (PyProof.Rows.envOfC "is_whole" (z9 z0G) s.heap.objs.size f cdv))) :
  ZB (z42 CX0 P w K mg base z7G "is_whole" (z9 z0G) f cdv A outer s H E).nox (x6 z0G) z4Z:=by
 have hu:=hr.units;have hu0:=hr.units0
 exact w6 (j0 (y10 (z3V x0Y T.b_isinstance T.b_int (zsv 0) (by decide +kernel)) (y0Y (x73 (z3V y1J T.b_isinstance T.b_bool (zsv 0) (by decide +kernel))))))
theorem y4V(T:Top K w mg C):FnD P w K mg base 1 "is_whole" ["thing"] z56 :=
 z38 T.d_is_whole y4M (fun _ _ _ _ _ _=>w61 _ fun _=>rfl) rfl (y8M T)
theorem z7W:FnScope z2N ["web","thing"] (z9 K1):=⟨rfl,rfl,rfl,by decide +kernel,rfl,by decide +kernel,by decide +kernel⟩
theorem z9C(T:Top K w mg C)(f:Addr)(cdv:Value)(A:Around)(outer:List Env)(s:Shared)(H:Hp)(E:XK)(hr:Room 1 (A.deeper (PyProof.Rows.envOfC "is_tie_number" (z9 K1) s.heap.objs.size f cdv))) :
  ZB (z42 CX0 P w K mg base z2N "is_tie_number" (z9 K1) f cdv A outer s H E).nox (x6 K1) z1B:=by
 have hu:=hr.units;have hu0:=hr.units0;exact w6 (j0 (y10 (K9 (y4V T) hr (z7 (zsv 1) (y8))) (y0Y (y93 w52 z7N y82 z7N (x8) (zsv 1) (Y4 T.b_len (J7 (Y8 (J7 (zsv 0)) (x8))))))))
theorem z7Y(T:Top K w mg C):FnD P w K mg base 2 "is_tie_number" ["web","thing"] z1E :=
 z38 T.d_is_tie_number z7W (fun _ _ _ _ _ _=>x8Z _ fun _ _=>rfl) rfl (z9C T)
theorem y4N:FnScope z7H ["web","thing"] (z9 z0H):=⟨rfl,rfl,rfl,by decide +kernel,rfl,by decide +kernel,by decide +kernel⟩
theorem y8N(T:Top K w mg C)(f:Addr)(cdv:Value)(A:Around)(outer:List Env)(s:Shared)(H:Hp)(E:XK)(hr:Room 2 (A.deeper (PyProof.Rows.envOfC "are_held" (z9 z0H) s.heap.objs.size f cdv))) :
  ZB (z42 CX0 P w K mg base z7H "are_held" (z9 z0H) f cdv A outer s H E).nox (x6 z0H) z50:=by
 have hu:=hr.units;have hu0:=hr.units0
 exact w6 (j0 (y10 (z3V z6B T.b_isinstance T.b_tuple (zsv 1) (by decide +kernel)) (y0Y (y94 rfl T.b_all (Y3 ["tie","web"] [none,some 0] rfl (z04 (Z7 (zsv 1))) (fun _ _ _ _ _=>u3 (i:=0) (show List.Nodup (["tie","web"]:List Str) by decide +kernel)) (fun _ _ _ _ _=>z7J) (fun _ _ _ _ _=>K9 (z7Y T) hr (z7 (zsv 1) (z7 (zsv 0) (y8)))))))))
theorem y4W(T:Top K w mg C):FnD P w K mg base 3 "are_held" ["web","thing"] z2I :=
 z38 T.d_are_held y4N (fun _ _ _ _ _ _=>x8Z _ fun _ _=>rfl) rfl (y8N T)
theorem y0E:FnScope z9K ["kind","held","ending","beginning","then"] (z9 z17):=⟨rfl,rfl,rfl,by decide +kernel,rfl,by decide +kernel,by decide +kernel⟩
theorem x2N(T:Top K w mg C)(f:Addr)(cdv:Value)(A:Around)(outer:List Env)(s:Shared)(H:Hp)(E:XK)(hr:Room 1 (A.deeper (PyProof.Rows.envOfC "is_step" (z9 z17) s.heap.objs.size f cdv))) :
  ZB (z42 CX0 P w K mg base z9K "is_step" (z9 z17) f cdv A outer s H E).nox (x6 z17) z6J:=by
 have hu:=hr.units;have hu0:=hr.units0
 exact y6 (v9 (i:=5) (K9 (z74 T) hr (z7 (zsv 0) (z7 (zsv 1) (z7 (zsv 2) (y8))))) y0E.nd)
   (y6 (z0A (y8W (zsv 5) (z4H))
   (w6 (j0 (z20)))
   (W9))
   (w6 (j0 (y10 (y05 hu (Z0 (zsv 4) (J9) (j6 (Y4 T.b_len (J7 (zsv 5))))) (zsv 5)) (y0Y (y05 hu (z2Q (z3G T.b_sorted (J7 (Z0 (zsv 4) (j6 (Y4 T.b_len (J7 (zsv 5)))) (J9))))) (zsv 3)))))))
theorem y88(T:Top K w mg C):FnD P w K mg base 2 "is_step" ["kind","held","ending","beginning","then"] z4T :=
 z38 T.d_is_step y0E (fun _ _ _ _ _ _=>w58 _ fun _ _ _ _ _=>rfl) rfl (x2N T)
theorem z3M:FnScope y23 ["web","row","kind","some","thing"] (z9 z23):=⟨rfl,rfl,rfl,by decide +kernel,rfl,by decide +kernel,by decide +kernel⟩
theorem x5M(T:Top K w mg C)(f:Addr)(cdv:Value)(A:Around)(outer:List Env)(s:Shared)(H:Hp)(E:XK)(hr:Room 3 (A.deeper (PyProof.Rows.envOfC "is_run" (z9 z23) s.heap.objs.size f cdv))) :
  ZB (z42 CX0 P w K mg base y23 "is_run" (z9 z23) f cdv A outer s H E).nox (x6 z23) y79:=by
 have hu:=hr.units;have hu0:=hr.units0
 exact y6 (z0A (z9R (z8H (z3U (z37 (z3V z6B T.b_isinstance T.b_tuple (zsv 4) (by decide +kernel)))) (z5F (z8I hu (Y4 T.b_len (J7 (zsv 4))) (Y4 T.b_len (J7 (zsv 1)))))))
   (w6 (j0 (z20)))
   (W9))
   (y6 (z0A (z3U (z37 (y94 rfl T.b_all (Y3 ["then","web"] [none,some 0] rfl (z04 (Z7 (zsv 4))) (fun _ _ _ _ _=>u3 (i:=0) (show List.Nodup (["then","web"]:List Str) by decide +kernel)) (fun _ _ _ _ _=>z7J) (fun _ _ _ _ _=>K9 (y4W T) hr (z7 (zsv 1) (z7 (zsv 0) (y8))))))))
   (w6 (j0 (z20)))
   (W9))
   (y6 (v9 (i:=5) (K9 (z5N T) hr (z7 (zsv 0) (z7 (zsv 1) (y8)))) z3M.nd)
   (y6 (v9 (i:=6) (Z8 (y8)) z3M.nd)
   (y6 (z1W PassesOwn.never rfl (y0W T.b_enumerate (zsv 4)) (y4C rfl (z3F (u3 (i:=7) z3M.nd) (z3F (u3 (i:=8) z3M.nd) (y0X))))
   (y6 (z0A (z3U (z37 (K9 (y88 T) hr (z7 (zsv 2) (z7 (zsv 6) (z7 (K9 (z3B T) hr (z7 (zsv 5) (z7 (zsv 3) (z7 (zsv 7) (y8))))) (z7 (K9 (z1I T) hr (z7 (zsv 5) (z7 (zsv 3) (z7 (zsv 7) (y8))))) (z7 (zsv 8) (y8)))))))))
   (w6 (j0 (z20)))
   (W9))
   (w6 (v9 (i:=6) (zsv 8) z3M.nd))))
   (w6 (j0 (z20)))))))
theorem y30(T:Top K w mg C):FnD P w K mg base 4 "is_run" ["web","row","kind","some","thing"] z2E :=
 z38 T.d_is_run z3M (fun _ _ _ _ _ _=>w58 _ fun _ _ _ _ _=>rfl) rfl (x5M T)
theorem z0D:FnScope z4O ["_law_found","_law_cell_here"] (z9 W1):=⟨rfl,rfl,rfl,by decide +kernel,rfl,by decide +kernel,by decide +kernel⟩
theorem y3Y(T:Top K w mg C)(f:Addr)(cdv:Value)(A:Around)(outer:List Env)(s:Shared)(H:Hp)(E:XK)(hr:Room 0 (A.deeper (PyProof.Rows.envOfC "_law_spoilt" (z9 W1) s.heap.objs.size f cdv))) :
  ZB (z42 CX0 P w K mg base z4O "_law_spoilt" (z9 W1) f cdv A outer s H E).nox (x6 W1) z34:=by
 have hu:=hr.units;have hu0:=hr.units0
 exact y6 (v9 (i:=2) (z8M (zsv 1) (Y4 T.b_len (J7 (zsv 0)))) z0D.nd)
   (y6 (v9 (i:=3) (Y8 (J7 (zsv 0)) (zsv 2)) z0D.nd)
   (y6 (v9 (i:=4) (z2Q (z1F (z7 (K0 (K0 (Z0 (zsv 0) (J9) (j6 (zsv 2))) (Z8 (z7 (y4G (zsv 3) (z8K (x8))) (y8)))) (Z0 (zsv 0) (j6 (K0 (zsv 2) (x8))) (J9))) (z7 (K0 (Z0 (zsv 0) (J9) (j6 (zsv 2))) (Z0 (zsv 0) (j6 (K0 (zsv 2) (x8))) (J9))) (z7 (K0 (zsv 0) (Z8 (z7 (Z8 (y8)) (y8)))) (z7 (z2Q (z85 T.b_list (J7 (zsv 0)))) (z7 (z4H) (y8)))))))) z0D.nd)
   (y6 (v9 (i:=4) (z2Q (y4E (z5X (zsv 4)) (y4H (z1F (z7 (K0 (K0 (Z0 (zsv 0) (J9) (j6 (zsv 2))) (Z8 (z7 (Z0 (zsv 3) (j6 (x8)) (J9)) (y8)))) (Z0 (zsv 0) (j6 (K0 (zsv 2) (x8))) (J9))) (z7 (K0 (K0 (Z0 (zsv 0) (J9) (j6 (zsv 2))) (Z8 (z7 (K0 (zsv 3) (Z8 (z7 (x8) (y8)))) (y8)))) (Z0 (zsv 0) (j6 (K0 (zsv 2) (x8))) (J9))) (z7 (y4G (zsv 0) (z8K (x8))) (y8)))))))) z0D.nd)
   (y6 (v9 (i:=4) (z2Q (y4E (z5X (zsv 4)) (y4H (z1F (z7 (K0 (K0 (Z0 (zsv 0) (J9) (j6 (zsv 2))) (Z8 (z7 (z2Q (z85 T.b_list (J7 (zsv 3)))) (y8)))) (Z0 (zsv 0) (j6 (K0 (zsv 2) (x8))) (J9))) (z7 (K0 (K0 (Z0 (zsv 0) (J9) (j6 (zsv 2))) (Z8 (z7 (K0 (zsv 3) (Z8 (z7 (z4H) (y8)))) (y8)))) (Z0 (zsv 0) (j6 (K0 (zsv 2) (x8))) (J9))) (y8))))))) z0D.nd)
   (w6 (j0 (Y8 (J7 (zsv 4)) (z8M (y92 (zsv 1) (x8)) (x8)))))))))
theorem y1C(T:Top K w mg C):FnD P w K mg base 1 "_law_spoilt" ["_law_found","_law_cell_here"] W6 :=
 z38 T.d_law_spoilt z0D (fun _ _ _ _ _ _=>x8Z _ fun _ _=>rfl) rfl (y3Y T)
theorem z2J:FnScope x9V ["_law_script"] (z9 z8S):=⟨rfl,rfl,rfl,by decide +kernel,rfl,by decide +kernel,by decide +kernel⟩
theorem w5O(T:Top K w mg C)(f:Addr)(cdv:Value)(A:Around)(outer:List Env)(s:Shared)(H:Hp)(E:XK)(hr:Room 6 (A.deeper (PyProof.Rows.envOfC "law" (z9 z8S) s.heap.objs.size f cdv))) :
  ZB (z42 CX0 P w K mg base x9V "law" (z9 z8S) f cdv A outer s H E).nox (x6 z8S) x52:=by
 have hu:=hr.units;have hu0:=hr.units0
 exact y6 (z1W PassesOwn.never rfl (Z7 (y2C (zsv 0) (J9) (j6 (x8)))) (u3 (i:=1) z2J.nd)
   (y6 (v9 (i:=2) (K9 (y84 T) hr (z7 (zsv 1) (z7 (x8) (z7 (x8) (y8))))) z2J.nd)
   (y6 (v9 (i:=3) (K9 (y86 T) hr (z7 (y92 (zsv 1) (x8)) (z7 (Y8 (J7 (zsv 2)) (x8)) (y8)))) z2J.nd)
   (w6 (z1W PassesOwn.never rfl (Z7 (y2C (zsv 0) (j6 (x8)) (j6 (x8)))) (u3 (i:=4) z2J.nd)
   (y6 (v9 (i:=5) (z4G T.b_tuple (w04 (Y3 ["_law_tie","_law_more"] [none,some 4] rfl (z04 (z2X T.b_range (Y4 T.b_len (J7 (Y8 (J7 (zsv 2)) (x8)))))) (fun _ _ _ _ _=>u3 (i:=0) (show List.Nodup (["_law_tie","_law_more"]:List Str) by decide +kernel)) (fun _ _ _ _ _=>z59 (z4B hu (K9 (z2F T) hr (z7 (K0 (zsv 1) (zsv 0)) (z7 (x8) (z7 (x8) (y8))))) (x8))) (fun _ _ _ _ _=>zsv 0)))) z2J.nd)
   (w6 (z1W PassesOwn.never rfl (Z7 (Z8 (z7 (z0Q) (z7 (z0Q) (y8))))) (u3 (i:=6) z2J.nd)
   (y6 (v9 (i:=7) (K9 (z9W T) hr (z7 (zsv 2) (z7 (zsv 3) (z7 (zsv 6) (y8))))) z2J.nd)
   (y6 (v9 (i:=8) (K9 (y85 T) hr (z7 (zsv 2) (z7 (zsv 3) (z7 (zsv 6) (z7 (zsv 5) (y8)))))) z2J.nd)
   (y6 (v9 (i:=9) (y05 hu (z2Q (Y3 ["_law_pair","_law_some"] [none,some 5] rfl (z04 (Z7 (zsv 7))) (fun _ _ _ _ _=>u3 (i:=0) (show List.Nodup (["_law_pair","_law_some"]:List Str) by decide +kernel)) (fun _ _ _ _ _=>z59 (z9R (y4A (y8X hu (Y8 (J7 (zsv 0)) (x8)) (J7 (zsv 1))) (y0U (y8X hu (Y8 (J7 (zsv 0)) (x8)) (J7 (zsv 1))))))) (fun _ _ _ _ _=>zsv 0))) (z2Q (z1F (y8)))) z2J.nd)
   (y6 (z0A (z8I hu (x74 (zsv 8) (z4H)) (zsv 9))
   (w6 (j0 (z20)))
   (W9))
   (y6 (v9 (i:=10) (z2Q (z1F (z7 (z4H) (z7 (Z8 (y8)) (z7 (z8L (Z8 (z7 (Z8 (y8)) (y8))) (Y8 (J7 (zsv 2)) (x8))) (y8)))))) z2J.nd)
   (y6 (z0A (z37 (zsv 9))
   (y6 (z0A (z3U (z37 (K9 (z66 T) hr (z7 (zsv 2) (z7 (zsv 3) (z7 (zsv 6) (z7 (zsv 5) (z7 (zsv 8) (y8)))))))))
   (w6 (j0 (z20)))
   (W9))
   (y6 (z0A (x6V (K9 (y30 T) hr (z7 (zsv 2) (z7 (zsv 3) (z7 (zsv 6) (z7 (zsv 5) (z7 (zsv 8) (y8))))))) (z20))
   (w6 (j0 (z20)))
   (W9))
   (w6 (v9 (i:=10) (z2Q (y4E (z5X (zsv 10)) (y4H (Y3 ["_law_one","_law_found"] [none,some 8] rfl (z04 (Z7 (y2C (zsv 0) (j6 (x8)) (j6 (x8))))) (fun _ _ _ _ _=>u3 (i:=0) (show List.Nodup (["_law_one","_law_found"]:List Str) by decide +kernel)) (fun _ _ _ _ _=>z7J) (fun _ _ _ _ _=>K9 (y1C T) hr (z7 (zsv 1) (z7 (zsv 0) (y8)))))))) z2J.nd))))
   (W9))
   (w6 (z1W PassesOwn.never rfl (Z7 (zsv 10)) (u3 (i:=11) z2J.nd)
   (y6 (v9 (i:=12) (K9 (y30 T) hr (z7 (zsv 2) (z7 (zsv 3) (z7 (zsv 6) (z7 (zsv 5) (z7 (zsv 11) (y8))))))) z2J.nd)
   (y6 (v9 (i:=13) (K9 (z66 T) hr (z7 (zsv 2) (z7 (zsv 3) (z7 (zsv 6) (z7 (zsv 5) (z7 (zsv 11) (y8))))))) z2J.nd)
   (w6 (z0A (z9R (z8H (z3U (z37 (z3V y1J T.b_isinstance T.b_bool (zsv 12) (by decide +kernel)))) (z5F (z8I hu (zsv 12) (zsv 13)))))
   (w6 (j0 (z20)))
   (W9)))))))))))))))))))))
   (w6 (j0 (z20)))
theorem w35(T:Top K w mg C){f:Addr}{fd:FuncData}(G:Fun K "law" "law" z8S f fd):FnOk P w K mg base CX0 7 f fd ["_law_script"] (spD K y45) :=
 x1L G z2J (fun ds d e=>by
  unfold y45 dFn at e;split at e
  ·rename_i h;exact h
  ·cases e) (fun ds d e=>by
  unfold y45 dFn at e;split at e
  ·exact e
  ·cases e) fun cdv A outer s H E hr=>(w5O T f cdv A outer s H E hr).h
end
theorem all_mk{l:PySem.W.OpenLaw}{w:World}{K:PySem.W.Frag}{h:Heap}{mg:Str->Option Value}{fa:Addr}(X:K.In h)(G:h.Ns mainGlobals mg)(hfa:mg "law" = some (.ref fa)){f0:Addr}{od0 an0:Option Addr}{sl0:Array (Option Value)}{oc0 kV0 dc0 pm0 cd0 ct0:Value}{f1:Addr}{od1 an1:Option Addr}{sl1:Array (Option Value)}{oc1 kV1 dc1 pm1 cd1 ct1:Value}{f2:Addr}{od2 an2:Option Addr}{sl2:Array (Option Value)}{oc2 kV2 dc2 pm2 cd2 ct2:Value}{f3:Addr}{od3 an3:Option Addr}{sl3:Array (Option Value)}{oc3 kV3 dc3 pm3 cd3 ct3:Value}{f4:Addr}{od4 an4:Option Addr}{sl4:Array (Option Value)}{oc4 kV4 dc4 pm4 cd4 ct4:Value}{f5:Addr}{od5 an5:Option Addr}{sl5:Array (Option Value)}{oc5 kV5 dc5 pm5 cd5 ct5:Value}{f6:Addr}{od6 an6:Option Addr}{sl6:Array (Option Value)}{oc6 kV6 dc6 pm6 cd6 ct6:Value}{f7:Addr}{od7 an7:Option Addr}{sl7:Array (Option Value)}{oc7 kV7 dc7 pm7 cd7 ct7:Value}{f8:Addr}{od8 an8:Option Addr}{sl8:Array (Option Value)}{oc8 kV8 dc8 pm8 cd8 ct8:Value}{f9:Addr}{od9 an9:Option Addr}{sl9:Array (Option Value)}{oc9 kV9 dc9 pm9 cd9 ct9:Value}{f10:Addr}{od10 an10:Option Addr}{sl10:Array (Option Value)}{oc10 kV10 dc10 pm10 cd10 ct10:Value}{f11:Addr}{od11 an11:Option Addr}{sl11:Array (Option Value)}{oc11 kV11 dc11 pm11 cd11 ct11:Value}{f12:Addr}{od12 an12:Option Addr}{sl12:Array (Option Value)}{oc12 kV12 dc12 pm12 cd12 ct12:Value}{f13:Addr}{od13 an13:Option Addr}{sl13:Array (Option Value)}{oc13 kV13 dc13 pm13 cd13 ct13:Value}{f14:Addr}{od14 an14:Option Addr}{sl14:Array (Option Value)}{oc14 kV14 dc14 pm14 cd14 ct14:Value}{f15:Addr}{od15 an15:Option Addr}{sl15:Array (Option Value)}{oc15 kV15 dc15 pm15 cd15 ct15:Value}{f16:Addr}{od16 an16:Option Addr}{sl16:Array (Option Value)}{oc16 kV16 dc16 pm16 cd16 ct16:Value}{f17:Addr}{od17 an17:Option Addr}{sl17:Array (Option Value)}{oc17 kV17 dc17 pm17 cd17 ct17:Value}{f18:Addr}{od18 an18:Option Addr}{sl18:Array (Option Value)}{oc18 kV18 dc18 pm18 cd18 ct18:Value}{f19:Addr}{od19 an19:Option Addr}{sl19:Array (Option Value)}{oc19 kV19 dc19 pm19 cd19 ct19:Value}{f20:Addr}{od20 an20:Option Addr}{sl20:Array (Option Value)}{oc20 kV20 dc20 pm20 cd20 ct20:Value}{f21:Addr}{od21 an21:Option Addr}{sl21:Array (Option Value)}{oc21 kV21 dc21 pm21 cd21 ct21:Value}{f22:Addr}{od22 an22:Option Addr}{sl22:Array (Option Value)}{oc22 kV22 dc22 pm22 cd22 ct22:Value}{C CP CO:Addr}(a0:PySem.W.nsIn K mainGlobals "_law_mix" = some (some (.ref f0)))(l0:K.lookup f0=some ⟨oc0,od0,.func (PySem.W.fnOf "_law_mix" "_law_mix" (g9 z15) (x6 z15) (z9 z15) .none kV0 dc0 pm0 an0 cd0 ct0),sl0⟩)(c0:PySem.W.codeIn K cd0 "_law_mix" = true)(k0:PySem.W.keepIn K (.ref f0)=true)(a1:PySem.W.nsIn K mainGlobals "_law_web" = some (some (.ref f1)))(l1:K.lookup f1=some ⟨oc1,od1,.func (PySem.W.fnOf "_law_web" "_law_web" (g9 z12) (x6 z12) (z9 z12) .none kV1 dc1 pm1 an1 cd1 ct1),sl1⟩)(c1:PySem.W.codeIn K cd1 "_law_web" = true)(k1:PySem.W.keepIn K (.ref f1)=true)(a2:PySem.W.nsIn K mainGlobals "_law_row" = some (some (.ref f2)))(l2:K.lookup f2=some ⟨oc2,od2,.func (PySem.W.fnOf "_law_row" "_law_row" (g9 z14) (x6 z14) (z9 z14) .none kV2 dc2 pm2 an2 cd2 ct2),sl2⟩)(c2:PySem.W.codeIn K cd2 "_law_row" = true)(k2:PySem.W.keepIn K (.ref f2)=true)(a3:PySem.W.nsIn K mainGlobals "_law_how" = some (some (.ref f3)))(l3:K.lookup f3=some ⟨oc3,od3,.func (PySem.W.fnOf "_law_how" "_law_how" (g9 z16) (x6 z16) (z9 z16) .none kV3 dc3 pm3 an3 cd3 ct3),sl3⟩)(c3:PySem.W.codeIn K cd3 "_law_how" = true)(k3:PySem.W.keepIn K (.ref f3)=true)(a4:PySem.W.nsIn K mainGlobals "_law_clashes" = some (some (.ref f4)))(l4:K.lookup f4=some ⟨oc4,od4,.func (PySem.W.fnOf "_law_clashes" "_law_clashes" (g9 Y0) (x6 Y0) (z9 Y0) .none kV4 dc4 pm4 an4 cd4 ct4),sl4⟩)(c4:PySem.W.codeIn K cd4 "_law_clashes" = true)(k4:PySem.W.keepIn K (.ref f4)=true)(a5:PySem.W.nsIn K mainGlobals "spots_of" = some (some (.ref f5)))(l5:K.lookup f5=some ⟨oc5,od5,.func (PySem.W.fnOf "spots_of" "spots_of" (g9 z0E) (x6 z0E) (z9 z0E) .none kV5 dc5 pm5 an5 cd5 ct5),sl5⟩)(c5:PySem.W.codeIn K cd5 "spots_of" = true)(k5:PySem.W.keepIn K (.ref f5)=true)(a6:PySem.W.nsIn K mainGlobals "rising_pair" = some (some (.ref f6)))(l6:K.lookup f6=some ⟨oc6,od6,.func (PySem.W.fnOf "rising_pair" "rising_pair" (g9 Q9) (x6 Q9) (z9 Q9) .none kV6 dc6 pm6 an6 cd6 ct6),sl6⟩)(c6:PySem.W.codeIn K cd6 "rising_pair" = true)(k6:PySem.W.keepIn K (.ref f6)=true)(a7:PySem.W.nsIn K mainGlobals "span_of" = some (some (.ref f7)))(l7:K.lookup f7=some ⟨oc7,od7,.func (PySem.W.fnOf "span_of" "span_of" (g9 z10) (x6 z10) (z9 z10) .none kV7 dc7 pm7 an7 cd7 ct7),sl7⟩)(c7:PySem.W.codeIn K cd7 "span_of" = true)(k7:PySem.W.keepIn K (.ref f7)=true)(a8:PySem.W.nsIn K mainGlobals "spans_of" = some (some (.ref f8)))(l8:K.lookup f8=some ⟨oc8,od8,.func (PySem.W.fnOf "spans_of" "spans_of" (g9 z0F) (x6 z0F) (z9 z0F) .none kV8 dc8 pm8 an8 cd8 ct8),sl8⟩)(c8:PySem.W.codeIn K cd8 "spans_of" = true)(k8:PySem.W.keepIn K (.ref f8)=true)(a9:PySem.W.nsIn K mainGlobals "ties_ending" = some (some (.ref f9)))(l9:K.lookup f9=some ⟨oc9,od9,.func (PySem.W.fnOf "ties_ending" "ties_ending" (g9 Q8) (x6 Q8) (z9 Q8) .none kV9 dc9 pm9 an9 cd9 ct9),sl9⟩)(c9:PySem.W.codeIn K cd9 "ties_ending" = true)(k9:PySem.W.keepIn K (.ref f9)=true)(a10:PySem.W.nsIn K mainGlobals "left_of" = some (some (.ref f10)))(l10:K.lookup f10=some ⟨oc10,od10,.func (PySem.W.fnOf "left_of" "left_of" (g9 z11) (x6 z11) (z9 z11) .none kV10 dc10 pm10 an10 cd10 ct10),sl10⟩)(c10:PySem.W.codeIn K cd10 "left_of" = true)(k10:PySem.W.keepIn K (.ref f10)=true)(a11:PySem.W.nsIn K mainGlobals "ties_beginning" = some (some (.ref f11)))(l11:K.lookup f11=some ⟨oc11,od11,.func (PySem.W.fnOf "ties_beginning" "ties_beginning" (g9 J5) (x6 J5) (z9 J5) .none kV11 dc11 pm11 an11 cd11 ct11),sl11⟩)(c11:PySem.W.codeIn K cd11 "ties_beginning" = true)(k11:PySem.W.keepIn K (.ref f11)=true)(a12:PySem.W.nsIn K mainGlobals "as_laid_on" = some (some (.ref f12)))(l12:K.lookup f12=some ⟨oc12,od12,.func (PySem.W.fnOf "as_laid_on" "as_laid_on" (g9 W3) (x6 W3) (z9 W3) .none kV12 dc12 pm12 an12 cd12 ct12),sl12⟩)(c12:PySem.W.codeIn K cd12 "as_laid_on" = true)(k12:PySem.W.keepIn K (.ref f12)=true)(m12:z9Z K cd12 "as_laid_on" = true)(a13:PySem.W.nsIn K mainGlobals "run" = some (some (.ref f13)))(l13:K.lookup f13=some ⟨oc13,od13,.func (PySem.W.fnOf "run" "run" (g9 z7X) (x6 z7X) (z9 z7X) .none kV13 dc13 pm13 an13 cd13 ct13),sl13⟩)(c13:PySem.W.codeIn K cd13 "run" = true)(k13:PySem.W.keepIn K (.ref f13)=true)(a14:PySem.W.nsIn K mainGlobals "_law_run" = some (some (.ref f14)))(l14:K.lookup f14=some ⟨oc14,od14,.func (PySem.W.fnOf "_law_run" "_law_run" (g9 z13) (x6 z13) (z9 z13) .none kV14 dc14 pm14 an14 cd14 ct14),sl14⟩)(c14:PySem.W.codeIn K cd14 "_law_run" = true)(k14:PySem.W.keepIn K (.ref f14)=true)(a15:PySem.W.nsIn K mainGlobals "_law_is_run" = some (some (.ref f15)))(l15:K.lookup f15=some ⟨oc15,od15,.func (PySem.W.fnOf "_law_is_run" "_law_is_run" (g9 W2) (x6 W2) (z9 W2) .none kV15 dc15 pm15 an15 cd15 ct15),sl15⟩)(c15:PySem.W.codeIn K cd15 "_law_is_run" = true)(k15:PySem.W.keepIn K (.ref f15)=true)(a16:PySem.W.nsIn K mainGlobals "is_whole" = some (some (.ref f16)))(l16:K.lookup f16=some ⟨oc16,od16,.func (PySem.W.fnOf "is_whole" "is_whole" (g9 z0G) (x6 z0G) (z9 z0G) .none kV16 dc16 pm16 an16 cd16 ct16),sl16⟩)(c16:PySem.W.codeIn K cd16 "is_whole" = true)(k16:PySem.W.keepIn K (.ref f16)=true)(a17:PySem.W.nsIn K mainGlobals "is_tie_number" = some (some (.ref f17)))(l17:K.lookup f17=some ⟨oc17,od17,.func (PySem.W.fnOf "is_tie_number" "is_tie_number" (g9 K1) (x6 K1) (z9 K1) .none kV17 dc17 pm17 an17 cd17 ct17),sl17⟩)(c17:PySem.W.codeIn K cd17 "is_tie_number" = true)(k17:PySem.W.keepIn K (.ref f17)=true)(a18:PySem.W.nsIn K mainGlobals "are_held" = some (some (.ref f18)))(l18:K.lookup f18=some ⟨oc18,od18,.func (PySem.W.fnOf "are_held" "are_held" (g9 z0H) (x6 z0H) (z9 z0H) .none kV18 dc18 pm18 an18 cd18 ct18),sl18⟩)(c18:PySem.W.codeIn K cd18 "are_held" = true)(k18:PySem.W.keepIn K (.ref f18)=true)(a19:PySem.W.nsIn K mainGlobals "is_step" = some (some (.ref f19)))(l19:K.lookup f19=some ⟨oc19,od19,.func (PySem.W.fnOf "is_step" "is_step" (g9 z17) (x6 z17) (z9 z17) .none kV19 dc19 pm19 an19 cd19 ct19),sl19⟩)(c19:PySem.W.codeIn K cd19 "is_step" = true)(k19:PySem.W.keepIn K (.ref f19)=true)(a20:PySem.W.nsIn K mainGlobals "is_run" = some (some (.ref f20)))(l20:K.lookup f20=some ⟨oc20,od20,.func (PySem.W.fnOf "is_run" "is_run" (g9 z23) (x6 z23) (z9 z23) .none kV20 dc20 pm20 an20 cd20 ct20),sl20⟩)(c20:PySem.W.codeIn K cd20 "is_run" = true)(k20:PySem.W.keepIn K (.ref f20)=true)(a21:PySem.W.nsIn K mainGlobals "_law_spoilt" = some (some (.ref f21)))(l21:K.lookup f21=some ⟨oc21,od21,.func (PySem.W.fnOf "_law_spoilt" "_law_spoilt" (g9 W1) (x6 W1) (z9 W1) .none kV21 dc21 pm21 an21 cd21 ct21),sl21⟩)(c21:PySem.W.codeIn K cd21 "_law_spoilt" = true)(k21:PySem.W.keepIn K (.ref f21)=true)(a22:PySem.W.nsIn K mainGlobals "law" = some (some (.ref f22)))(l22:K.lookup f22=some ⟨oc22,od22,.func (PySem.W.fnOf "law" "law" (g9 z8S) (x6 z8S) (z9 z8S) .none kV22 dc22 pm22 an22 cd22 ct22),sl22⟩)(c22:PySem.W.codeIn K cd22 "law" = true)(k22:PySem.W.keepIn K (.ref f22)=true)(z_ValueError:PySem.W.nsIn K mainGlobals "ValueError" = some none)(z_all:PySem.W.nsIn K mainGlobals "all" = some none)(z_bool:PySem.W.nsIn K mainGlobals "bool" = some none)(z_enumerate:PySem.W.nsIn K mainGlobals "enumerate" = some none)(z_int:PySem.W.nsIn K mainGlobals "int" = some none)(z_isinstance:PySem.W.nsIn K mainGlobals "isinstance" = some none)(z_len:PySem.W.nsIn K mainGlobals "len" = some none)(z_list:PySem.W.nsIn K mainGlobals "list" = some none)(z_max:PySem.W.nsIn K mainGlobals "max" = some none)(z_min:PySem.W.nsIn K mainGlobals "min" = some none)(z_range:PySem.W.nsIn K mainGlobals "range" = some none)(z_sorted:PySem.W.nsIn K mainGlobals "sorted" = some none)(z_tuple:PySem.W.nsIn K mainGlobals "tuple" = some none)(uN:PySem.W.nsIn K mainGlobals "NoRun" = some (some (.ref C)))(uP:PySem.W.nsIn K mainGlobals "PageError" = some (some (.ref CP)))(uO:PySem.W.nsIn K mainGlobals "NoText" = some (some (.ref CO)))(e0:PySem.W.excIn K C VE "ValueError.__new__" = true)(e1:PySem.W.exmOne K (.ref C) (.ref CP)=some true)(e2:PySem.W.kitOne K (.ref C) (.ref C)=some true)(e3:PySem.W.kitOne K (.ref C) (.ref CO)=some false)(e4:PySem.W.kitOne K (.ref C) (.type "ValueError")=some true)(h1:PySem.W.findIn K (.ref C) "__getattribute__" = some (some (.builtin "BaseException.__getattribute__")))(h8:PySem.W.findIn K (.ref C) "__getattr__" = some none)(h9:PySem.W.subIn K (.ref C) (.type "BaseException")=some true)(h2:(PySem.W.clsIn K C).isSome=true)(h3:PySem.W.findIn K (.ref C) "__class__" = some (some (.builtin "object.__class__")))(h4:PySem.W.specialIn K (.builtin "object.__class__") "__get__" = some (some (.builtin "getset_descriptor.__get__")))(h5:PySem.W.takesIn K (.builtin "object.__class__")=some true)(h6:PySem.W.mroIn K C (.type "object")=some true) :
    ∃fd:FuncData,(∀(s:Shared) (v:Value),BindsTo s fd ⟨[v],[]⟩ [("_law_script",v)])/\∀base:Heap,K.In base->base.Ns mainGlobals mg->FnOk l.prog w K mg base CX0 7 fa fd ["_law_script"] (spD K y45):=by
  have e:=hfa.symm.trans (PySem.W.mg_of X G a22)
  cases e
  have T:Top K w mg C :=
    { d_law_mix:=⟨_,_,z07 (st:=z15) l0 c0 k0,PySem.W.mg_of X G a0⟩
      d_law_web:=⟨_,_,z07 (st:=z12) l1 c1 k1,PySem.W.mg_of X G a1⟩
      d_law_row:=⟨_,_,z07 (st:=z14) l2 c2 k2,PySem.W.mg_of X G a2⟩
      d_law_how:=⟨_,_,z07 (st:=z16) l3 c3 k3,PySem.W.mg_of X G a3⟩
      d_law_clashes:=⟨_,_,z07 (st:=Y0) l4 c4 k4,PySem.W.mg_of X G a4⟩
      d_spots_of:=⟨_,_,z07 (st:=z0E) l5 c5 k5,PySem.W.mg_of X G a5⟩
      d_rising_pair:=⟨_,_,z07 (st:=Q9) l6 c6 k6,PySem.W.mg_of X G a6⟩
      d_span_of:=⟨_,_,z07 (st:=z10) l7 c7 k7,PySem.W.mg_of X G a7⟩
      d_spans_of:=⟨_,_,z07 (st:=z0F) l8 c8 k8,PySem.W.mg_of X G a8⟩
      d_ties_ending:=⟨_,_,z07 (st:=Q8) l9 c9 k9,PySem.W.mg_of X G a9⟩
      d_left_of:=⟨_,_,z07 (st:=z11) l10 c10 k10,PySem.W.mg_of X G a10⟩
      d_ties_beginning:=⟨_,_,z07 (st:=J5) l11 c11 k11,PySem.W.mg_of X G a11⟩
      d_as_laid_on:=⟨_,_,z07 (st:=W3) l12 c12 k12,PySem.W.mg_of X G a12,m12⟩
      d_run:=⟨_,_,z07 (st:=z7X) l13 c13 k13,PySem.W.mg_of X G a13⟩
      d_law_run:=⟨_,_,z07 (st:=z13) l14 c14 k14,PySem.W.mg_of X G a14⟩
      d_law_is_run:=⟨_,_,z07 (st:=W2) l15 c15 k15,PySem.W.mg_of X G a15⟩
      d_is_whole:=⟨_,_,z07 (st:=z0G) l16 c16 k16,PySem.W.mg_of X G a16⟩
      d_is_tie_number:=⟨_,_,z07 (st:=K1) l17 c17 k17,PySem.W.mg_of X G a17⟩
      d_are_held:=⟨_,_,z07 (st:=z0H) l18 c18 k18,PySem.W.mg_of X G a18⟩
      d_is_step:=⟨_,_,z07 (st:=z17) l19 c19 k19,PySem.W.mg_of X G a19⟩
      d_is_run:=⟨_,_,z07 (st:=z23) l20 c20 k20,PySem.W.mg_of X G a20⟩
      d_law_spoilt:=⟨_,_,z07 (st:=W1) l21 c21 k21,PySem.W.mg_of X G a21⟩
      d_law:=⟨_,_,z07 (st:=z8S) l22 c22 k22,PySem.W.mg_of X G a22⟩
      b_ValueError:=PySem.W.mg_none_of X G z_ValueError
      b_all:=PySem.W.mg_none_of X G z_all
      b_bool:=PySem.W.mg_none_of X G z_bool
      b_enumerate:=PySem.W.mg_none_of X G z_enumerate
      b_int:=PySem.W.mg_none_of X G z_int
      b_isinstance:=PySem.W.mg_none_of X G z_isinstance
      b_len:=PySem.W.mg_none_of X G z_len
      b_list:=PySem.W.mg_none_of X G z_list
      b_max:=PySem.W.mg_none_of X G z_max
      b_min:=PySem.W.mg_none_of X G z_min
      b_range:=PySem.W.mg_none_of X G z_range
      b_sorted:=PySem.W.mg_none_of X G z_sorted
      b_tuple:=PySem.W.mg_none_of X G z_tuple
      tx:=⟨PySem.W.mg_of X G uN,e0,⟨⟨h1,h8,h9,h2,h3,h4,h5,h6⟩,⟨CP,PySem.W.mg_of X G uP,e1⟩,⟨C,PySem.W.mg_of X G uN,e2⟩,⟨CO,PySem.W.mg_of X G uO,e3⟩,e4⟩⟩
      x_bm:=⟨trivial⟩ }
  exact⟨_,fun s v=>.of_eq rfl,fun base _ _=>w35 T (z07 (st:=z8S) l22 c22 k22)⟩
theorem walk{l:PySem.W.OpenLaw}{q:Program}{loose:List Str}{XP:(Str->Option Value)->Heap->Prop}{YP:World->Heap->Prop}{d:DefRec}{K:Params->PySem.W.Frag}(hn:l.most=some 63)(hdf:d.params.defaults=[])(hY:∀(w:World) (h:Heap),YP w h->(K w.params).In h)(hT:∀(w:World) (h:Heap),YP w h->∀P q,([(110,"as_laid_on")]:List (Addr×Str)).lookup P=some q->h.get? P=some { cls:=.none,data:=.fields #[] })(hK:∀w:World,z8P (K w.params) [(110,"as_laid_on")]=true)(hlaw:∀ns:List Int,ns.length≤63->y45 [.lst (ns.map D.int)]=some (.bl true))
  (F:∀(w:World) (mg:Str->Option Value) (fa:Addr) (h:Heap),(K w.params).In h->h.Ns mainGlobals mg->mg d.name=some (.ref fa) ->
   ∃fd:FuncData,(∀(s:Shared) (u:Value),BindsTo s fd ⟨[u],[]⟩ [("_law_script",u)])/\∀base:Heap,(K w.params).In base->base.Ns mainGlobals mg->FnOk l.prog w (K w.params) mg base CX0 7 fa fd ["_law_script"] (spD (K w.params) y45)) :
  PySem.W.WalkO q loose XP YP l.row.toRowW d [] (fun f vs=>PySem.call f vs) :=
 x37 (n:=63) (k:=7) (x:="_law_script") (sp:=fun w=>spD (K w.params) y45) [(110,"as_laid_on")] hn (by decide) hdf ⟨rfl,by decide,by decide,rfl⟩ hY hT hK F (fun w H a ns hl tb hS =>
  ⟨[],[.lst (ns.map D.int)],.bl true,⟨tb,fun z hz=>absurd hz (by simp)⟩,j5.one (g8.mpr ⟨a,ns.map V.int,rfl,by rw[x4U];exact hS,Z9.mpr rfl⟩),hlaw ns hl,fun v H' _ hv=>J8.mp hv⟩)
end P
namespace L3
open PySem L2
section
variable{ρ ρ':y0}{d e:D}{a b:Bool}{fa fb fc:y0->Option D}{ga gb:y0->Option Bool}{g k:y0->Option Out}{fl gl:y0->Option (List D)}{i:Nat}{o:Option Out}
theorem x9{r:Out}(h:g ρ=some (.nx ρ'))(h2:k ρ'=o):J3 g k ρ=o:=by unfold J3;rw[h];exact h2
theorem z00(h:g ρ=some (.rt d)):J3 g k ρ=some (.rt d):=by unfold J3;rw[h]
theorem z0V(h:fa ρ=some d):z08 fa ρ=some (.rt d):=by unfold z08;rw[h]
theorem j4(h:fa ρ=some d):W4 i fa ρ=some (.nx (ρ.set i (some (.sh d)))):=by unfold W4;rw[h]
theorem y1N{ds:List D}(h:fl ρ=some ds):z99 i fl ρ=some (.nx (ρ.set i (some (.ow ds)))):=by unfold z99;rw[h]
theorem K5(h:ga ρ=some a):z1V ga g k ρ=if a=true then g ρ else k ρ:=by unfold z1V;rw[h];cases a<;>rfl
theorem y0M(h:fa ρ=some (.bl a))(h2:a=true->fb ρ=some (.bl b)):x5D fa fb ρ=some (.bl (a&&b)):=by
 unfold x5D;rw[h];cases a with
 | true=>exact h2 rfl
 | false=>rfl
theorem w3J(h:fa ρ=some (.bl a)):w00 fa ρ=some (.bl (!a)):=by unfold w00;rw[h]
theorem v8(h:fa ρ=some (.bl a)):x5 fa ρ=some a:=by unfold x5;rw[h]
theorem y56(h:ga ρ=some a)(h2:a=true->gb ρ=some b):z5U ga gb ρ=some (a&&b):=by
 unfold z5U;rw[h];cases a with
 | true=>exact h2 rfl
 | false=>rfl
theorem z5C(h:ga ρ=some a)(h2:a=false->gb ρ=some b):z80 ga gb ρ=some (a||b):=by
 unfold z80;rw[h];cases a with
 | true=>rfl
 | false=>exact h2 rfl
theorem z1J(h:ga ρ=some a):z0S ga ρ=some (!a):=by unfold z0S;rw[h];rfl
theorem w3K(h:ga ρ=some a):dIf ga fa fb ρ=if a=true then fa ρ else fb ρ:=by unfold dIf;rw[h];cases a<;>rfl
theorem z2U{f:D->D->Option D}{x y:D}(h:fa ρ=some x)(h2:fb ρ=some y):d2 f fa fb ρ=f x y:=by unfold d2;rw[h,h2]
theorem y1O{f f':D->D->Option D}{x y z:D}(h:fa ρ=some x)(h2:fb ρ=some y)(h3:f x y=some (.bl a))(h4:a=true->fc ρ=some z)(h5:a=true->f' y z=some (.bl b)):z36 f f' fa fb fc ρ=some (.bl (a&&b)):=by
 unfold z36;rw[h,h2];dsimp only;rw[h3];cases a with
 | true=>dsimp only;rw[h4 rfl];exact h5 rfl
 | false=>rfl
theorem j3{ds:List D}(h:fa ρ=some d)(h2:fl ρ=some ds):z8 fa fl ρ=some (d::ds):=by unfold z8;rw[h,h2]
theorem u7{F:List D->Option D}{ds:List D}(h:fl ρ=some ds):v6 F fl ρ=F ds:=by unfold v6;rw[h]
theorem z7R{ds:List D}(h:fl ρ=some ds)(h2:ds.length≤LIM):z2V fl ρ=some (.tup ds):=by unfold z2V;rw[h];dsimp only;rw[if_pos h2]
theorem z4D{ds:List D}(h:fl ρ=some ds)(h2:ds.length≤LIM):z5T fl ρ=some ds:=by unfold z5T;rw[h];dsimp only;rw[if_pos h2]
theorem z1S{ds:List D}(h:fl ρ=some ds):dLs fl ρ=some (.lst ds):=by unfold dLs;rw[h];rfl
theorem z4L{ds:List D}(h:fl ρ=some ds):z09 fl ρ=some (.int ds.length):=by unfold z09;rw[h];rfl
theorem z95{ds:List D}(h:fl ρ=some ds):z58 fl ρ=some (.tup ds):=by unfold z58;rw[h];rfl
theorem z96{T:String}(h:fa ρ=some d):z7B T fa ρ=some (.bl (y1K T d)):=by unfold z7B;rw[h]
theorem x6Q{ds:List D}{bs:List Bool}(h:fl ρ=some ds)(h2:z7C ds=some bs):x5E fl ρ=some (.bl (bs.all id)):=by unfold x5E;rw[h];dsimp only;rw[h2]
theorem z1R{ds:List D}(h:fa ρ=some (.tup ds)):dSq fa ρ=some ds:=by unfold dSq;rw[h]
theorem x1P{ds:List D}(h:fa ρ=some (.lst ds)):dSq fa ρ=some ds:=by unfold dSq;rw[h]
theorem z57{ds:List D}{j:Int}(h:fl ρ=some ds)(h2:fa ρ=some (.int j)):dIx fl fa ρ=atI ds j:=by unfold dIx;rw[h,h2]
theorem y1P{F:List D->Option (List D)}{ds:List D}(h:fl ρ=some ds):dQF F fl ρ=F ds:=by unfold dQF;rw[h]
theorem x1R{neg:Bool}{ds:List D}(h:fa ρ=some d)(h2:fl ρ=some ds)(h3:z0J ds≤z2P)(h4:depth d≤z2P):dIn neg fa fl ρ=some (.bl (if neg=true then !inD d ds else inD d ds)):=by unfold dIn;rw[h,h2];dsimp only;rw[if_pos ⟨h3,h4⟩]
theorem x6P{ds:List D}(h:y1R i ρ=some ds)(h2:fa ρ=some d)(h3:ds.length<LIM):x24 i fa ρ=some (.nx (ρ.set i (some (.ow (ds++[d]))))):=by unfold x24;rw[h,h2];dsimp only;rw[if_pos h3]
theorem w3L{ds es:List D}(h:y1R i ρ=some ds)(h2:fl ρ=some es)(h3:ds.length+es.length≤LIM):x9L i fl ρ=some (.nx (ρ.set i (some (.ow (ds++es))))):=by unfold x9L;rw[h,h2];dsimp only;rw[if_pos h3]
theorem z1T{ds:List D}{h:D->y0->Option y0}(e:fl ρ=some ds):z7S fl h g ρ=Q7 h g ds ρ:=by unfold z7S;rw[e]
theorem z0M{ds:List D}{cap:List (Option Nat)}{h:D->y0->Option y0}(e:fl ρ=some ds)(hl:ds.length≤LIM):Q0 cap fl h ga fa ρ=z4M h ga fa (y1U cap ρ) ds:=by unfold Q0;rw[e];dsimp only;rw[if_pos hl]
theorem x55{ds:List D}{cap:List (Option Nat)}{h:D->y0->Option y0}{fe:y0->Option (D×y0)}(e:fl ρ=some ds)(hl:ds.length≤LIM):y0Q cap fl h fe ρ=z43 h fe (y1U cap ρ) ds:=by unfold y0Q;rw[e];dsimp only;rw[if_pos hl]
theorem y3I{x:D}{lo hi:Option Int}{fo fh:y0->Option (Option Int)}(h:fa ρ=some x)(h1:fo ρ=some lo)(h2:fh ρ=some hi):z29 fa fo fh ρ=dSl x lo hi:=by unfold z29;rw[h,h1,h2]
theorem z3D{j:Int}(h:fa ρ=some (.int j)):u8 fa ρ=some (some j):=by unfold u8;rw[h]
theorem z5Q{j:Int}(h:fa ρ=some (.int j))(h2:okR j=true):z2W fa ρ=some (J0 0 j.toNat):=by unfold z2W;rw[h];dsimp only;rw[if_pos h2]
theorem y8G{j:Int}(h:fa ρ=some (.int j))(h1 : -(2 ^ 62)≤j)(h2:j≤100000):z41 fa ρ=some ((iUp 0 j.toNat).map D.int):=by unfold z41;rw[h];dsimp only;rw[if_pos ⟨h1,h2⟩]
end
theorem z1K{h:D->y0->Option y0}{fe:y0->Option D}(I:y0->Prop)(y:D->D):∀(ds:List D) (ρ:y0),I ρ->(∀d∈ds,∀ρ,I ρ->∃ρ1,h d ρ=some ρ1/\I ρ1/\fe ρ1=some (y d))->z4M h z1U fe ρ ds=some (ds.map y)
 | [],_,_,_=>rfl
 | d::ds,ρ,hI,hs=>by
  obtain⟨ρ1,e1,I1,e2⟩:=hs d List.mem_cons_self ρ hI;unfold z4M;rw[e1];dsimp only[z1U];rw[e2];dsimp only
  rw[z1K I y ds ρ1 I1 fun d hd=>hs d (List.mem_cons_of_mem _ hd)]
  rfl
theorem K4{h:D->y0->Option y0}{ft:y0->Option Bool}{fe:y0->Option D}(I:y0->Prop)(t:D->Bool)(y:D->D):∀(ds:List D) (ρ:y0),I ρ->(∀d∈ds,∀ρ,I ρ->∃ρ1,h d ρ=some ρ1/\I ρ1/\ft ρ1=some (t d)/\(t d=true->fe ρ1=some (y d)))->z4M h ft fe ρ ds=some ((ds.filter t).map y)
 | [],_,_,_=>rfl
 | d::ds,ρ,hI,hs=>by
  obtain⟨ρ1,e1,I1,e2,e3⟩:=hs d List.mem_cons_self ρ hI
  have ih:=K4 I t y ds ρ1 I1 fun d hd=>hs d (List.mem_cons_of_mem _ hd)
  unfold z4M;rw[e1];dsimp only;rw[e2]
  cases ht:t d with
  | true =>
   dsimp only;rw[e3 ht,List.filter_cons_of_pos ht];dsimp only;rw[ih];rfl
  | false =>
   dsimp only
   rw[List.filter_cons_of_neg (by rw[ht];simp)]
   exact ih
theorem x0Q{h:D->y0->Option y0}{g:y0->Option Out}(I:List D->y0->Prop){all:List D}(hs:∀pre d post ρ,pre++d::post=all->I pre ρ->∃ρ1 ρ2,h d ρ=some ρ1/\(g ρ1=some (.nx ρ2)∨g ρ1=some (.ct ρ2))/\I (pre++[d]) ρ2) :
  ∀(ds pre:List D) (ρ:y0),pre++ds=all->I pre ρ->∃ρ',Q7 h g ds ρ=some (.nx ρ')/\I all ρ'
 | [],pre,ρ,e,hI=>⟨ρ,rfl,by rw[←e,List.append_nil];exact hI⟩
 | d::ds,pre,ρ,e,hI=>by
  obtain⟨ρ1,ρ2,e1,e2,I2⟩:=hs pre d ds ρ e hI
  obtain⟨ρ',e3,I3⟩:=x0Q I hs ds (pre++[d]) ρ2 (by rw[←e];simp) I2
  refine⟨ρ',?_,I3⟩
  unfold Q7;rw[e1];dsimp only
  rcases e2 with e2|e2<;>(rw[e2];exact e3)
theorem y1G{h:D->y0->Option y0}{g:y0->Option Out}(I:List D->y0->Prop){ds:List D}{ρ:y0}(h0:I [] ρ)(hs:∀pre d post ρ,pre++d::post=ds->I pre ρ->∃ρ1 ρ2,h d ρ=some ρ1/\(g ρ1=some (.nx ρ2)∨g ρ1=some (.ct ρ2))/\I (pre++[d]) ρ2) :
  ∃ρ',Q7 h g ds ρ=some (.nx ρ')/\I ds ρ':=x0Q I hs ds [] ρ rfl h0
theorem y1H{h:D->y0->Option y0}{g:y0->Option Out}(I:y0->Prop){ds:List D}{ρ:y0}(h0:I ρ)(hs:∀d∈ds,∀ρ,I ρ->∃ρ1 ρ2,h d ρ=some ρ1/\(g ρ1=some (.nx ρ2)∨g ρ1=some (.ct ρ2))/\I ρ2) :
  ∃ρ',Q7 h g ds ρ=some (.nx ρ')/\I ρ':=y1G (fun _ ρ=>I ρ) h0 fun pre d post ρ e hI=>hs d (by rw[←e];simp) ρ hI
end L3
namespace P
open PySem L2 L3
theorem x1X{n k:Nat}(h:k<n):(J0 0 n)[k]?=some (.int (k:Int)):=by
 unfold J0;rw[List.getElem?_map,List.getElem?_range h];simp
theorem z3P(lo:Int)(n:Nat):(J0 lo n).length=n:=by unfold J0;simp
theorem x1W{n:Nat}{d:D}(h:d∈J0 0 n):∃k:Nat,k<n/\d = .int (k:Int):=by
 unfold J0 at h;obtain⟨k,hk,rfl⟩:=List.mem_map.mp h
 exact⟨k,List.mem_range.mp hk,by simp⟩
noncomputable def mix(c p m:Int):Int:=c*48271 % p % m
theorem w33(c:Int){k:Int}(h:z5K k=true):y3N (.int c) (.int k)=some (.int (c*k)):=by
 unfold y3N x5C gIC;dsimp only
 rw[if_pos (by rw[h,Bool.or_true])]
theorem x0M(c:Int){k:Int}(h:z5K k=true):y3N (.int k) (.int c)=some (.int (k*c)):=by
 unfold y3N x5C gIC;dsimp only
 rw[if_pos (by rw[h,Bool.true_or])]
theorem y31(c:Int){k:Int}(h:0<k):z9A (.int c) (.int k)=some (.int (c % k)):=by
 unfold z9A gIC;dsimp only;rw[if_pos (decide_eq_true h)]
theorem z0W(c:Int){p m:Int}(hp:0<p)(hm:0<m):Q4 [.int c,.int p,.int m]=some (.int (mix c p m)):=by
 show z5M (z08 _ _)=_
 rw[z0V (d:=.int (mix c p m))]
 ·rfl
 ·exact (z2U (x:=.int (c*48271 % p)) (y:=.int m) ((z2U (x:=.int (c*48271)) (y:=.int p) ((z2U (x:=.int c) (y:=.int 48271) rfl rfl).trans (w33 c (by decide))) rfl).trans (y31 _ hp)) rfl).trans (y31 _ hm)
theorem y32(c p:Int){m:Int}(h:0<m):0≤mix c p m:=Int.emod_nonneg _ (by omega)
theorem y33(c p:Int){m:Int}(h:0<m):mix c p m<m:=Int.emod_lt_of_pos _ h
noncomputable abbrev Tie:=Int×Int
noncomputable def W8(t:Tie):D:=.tup [.int t.1,.int t.2]
theorem x9R(s t:Tie):beq (W8 s) (W8 t)=decide (s=t):=by
 show (s.1==t.1&&(s.2==t.2&&true))=_
 rw[Bool.and_true];obtain⟨a,b⟩:=s;obtain⟨c,d⟩:=t;by_cases h1:a=c
 ·by_cases h2:b=d
  ·subst h1 h2;simp
  ·have:¬((a,b)=(c,d)):=fun z=>h2 (Prod.mk.inj z).2
   rw[decide_eq_false this];simp[h2]
 ·have:¬((a,b)=(c,d)):=fun z=>h1 (Prod.mk.inj z).1
  rw[decide_eq_false this];simp[h1]
theorem x1B(t:Tie):∀ts:List Tie,inD (W8 t) (ts.map W8)=decide (t∈ts)
 | []=>by simp[inD]
 | s::ts=>by
  have ih:=x1B t ts;unfold inD at ih ⊢;rw[List.map_cons,List.any_cons,ih,x9R];by_cases h:s=t
  ·subst h;simp
  ·have h':¬t=s:=fun z=>h z.symm
   simp[h,h']
theorem y3M(t:Tie):depth (W8 t)=1:=by
 unfold W8;simp[depth,z0J]
theorem z5S:∀ts:List Tie,z0J (ts.map W8)≤1
 | []=>by rw[List.map_nil,z0J];omega
 | t::ts=>by
  have:=z5S ts
  have h2:=y3M t;rw[List.map_cons,z0J];omega
noncomputable def tlt(s t:Tie):Prop:=s.1<t.1∨(s.1=t.1/\s.2<t.2)
instance (s t:Tie):Decidable (tlt s t):=inferInstanceAs (Decidable (_∨_))
theorem x8W(s t:Tie):HT.lexLt [s.1,s.2] [t.1,t.2]=decide (tlt s t):=by
 have key:HT.lexLt [s.1,s.2] [t.1,t.2]=true↔tlt s t:=by
  rw[HT.lexLt_cons];unfold tlt;by_cases h1:s.1=t.1
  ·rw[if_pos h1,HT.lexLt_cons];by_cases h2:s.2=t.2
   ·rw[if_pos h2,HT.lexLt_nil_nil]
    exact⟨fun z=>absurd z (by decide),fun z=>absurd z (by omega)⟩
   ·rw[if_neg h2,decide_eq_true_iff];omega
  ·rw[if_neg h1,decide_eq_true_iff];omega
 by_cases h:tlt s t
 ·rw[decide_eq_true h];exact key.mpr h
 ·rw[decide_eq_false h];exact Bool.eq_false_iff.mpr fun z=>h (key.mp z)
theorem z5J(s:Tie):¬tlt s s:=by unfold tlt;omega
theorem y9A{s t u:Tie}(h:tlt s t)(h':tlt t u):tlt s u:=by unfold tlt at *;omega
theorem z8N(s t:Tie):tlt s t∨s=t∨tlt t s:=by
 obtain⟨a,b⟩:=s;obtain⟨c,d⟩:=t;unfold tlt;dsimp only;by_cases h:a=c
 ·by_cases h2:b=d
  ·subst h h2;exact .inr (.inl rfl)
  ·omega
 ·omega
noncomputable def y7R(t:Tie):List Int:=[t.1,t.2]
noncomputable def y97(ns:List Int):Tie:=(ns.getD 0 0,ns.getD 1 0)
noncomputable def z7V(ts:List Tie):List Tie:=(y2P (ts.map y7R)).map y97
theorem y63(ts:List Tie):y2P (ts.map y7R)=(z7V ts).map y7R:=by
 unfold z7V;rw[List.map_map]
 have:∀ns∈y2P (ts.map y7R),(y7R∘y97) ns=ns:=fun ns h=>by
  have h':=(z6W (ts.map y7R)).mem_iff.mp h;obtain⟨t,_,rfl⟩:=List.mem_map.mp h';rfl
 exact ((List.map_congr_left this).trans (List.map_id _)).symm
theorem z3J(ts:List Tie):(z7V ts).Perm ts:=by
 have h:=(z6W (ts.map y7R)).map y97
 have e:(ts.map y7R).map y97=ts:=by
  rw[List.map_map]
  exact (List.map_congr_left (fun t _=>rfl:∀t∈ts,(y97∘y7R) t=t)).trans (List.map_id _)
 rw[e]at h;exact h
theorem y62(ts:List Tie)(hn:ts.Nodup):(z7V ts).Pairwise tlt:=by
 have h:=y61 (ts.map y7R);rw[y63,List.pairwise_map]at h;have hn':(z7V ts).Nodup:=(z3J ts).nodup_iff.mpr hn
 have:=h.and hn'
 refine this.imp fun {s t} q=>?_
 obtain⟨q1,q2⟩:=q
 have:decide (tlt t s)=false:=(x8W t s).symm.trans q1
 have n1:=of_decide_eq_false this
 rcases z8N s t with z|z|z
 ·exact z
 ·exact absurd z q2
 ·exact absurd z n1
theorem y0C{ts:List Tie}(h:ts.length<64):z4I (ts.map W8)=some ((z7V ts).map W8):=by
 unfold z4I
 rw[if_pos (by rw[List.length_map];exact h)]
 cases ts with
 | nil =>
  show some ((z2R []).map D.int)=some ((z7V []).map W8)
  unfold z7V z2R y2P;simp
 | cons t ts =>
  have e1:Z4 ((t::ts).map W8)=none:=rfl
  have e2:z3H ((t::ts).map W8)=some ((t::ts).map y7R):=by
   have:=y07 (nss:=(t::ts).map y7R) (fun ns h=>by
    obtain⟨u,_,rfl⟩:=List.mem_map.mp h
    simp[y7R])
   rw[List.map_map]at this;exact this
  rw[e1];dsimp only;rw[e2];dsimp only;rw[y63,List.map_map];rfl
structure IsWeb(n:Int)(ts:List Tie):Prop where
 lo:1≤n
 hi:n≤6
 up:ts.Pairwise tlt
 ok:∀t∈ts,0≤t.1/\t.1<t.2/\t.2<n
noncomputable def Q1(n:Int)(ts:List Tie):D:=.tup [.int n,.tup (ts.map W8)]
theorem x6B(a b:Int):dNe (.int a) (.int b)=some (.bl (!(a==b))):=rfl
theorem x6C(a b:Int):x6N [.int a,.int b]=some (.int (min a b)):=by
 show some (D.int (if b<a then b else a))=_
 by_cases h:b<a
 ·rw[if_pos h,Int.min_eq_right (by omega)]
 ·rw[if_neg h,Int.min_eq_left (by omega)]
theorem x6D(a b:Int):x6O [.int a,.int b]=some (.int (max a b)):=by
 show some (D.int (if b>a then b else a))=_
 by_cases h:b>a
 ·rw[if_pos h,Int.max_eq_right (by omega)]
 ·rw[if_neg h,Int.max_eq_left (by omega)]
noncomputable def y4I:y0->Option Out :=
 J3 (W4 6 (v6 Q4 (z8 (d2 z0K (z6 0) (d2 y3N (dC (.int 11)) (z6 5))) (z8 (dC (.int 9949)) (z8 (z6 3) (u9))))))
 (J3 (W4 7 (v6 Q4 (z8 (d2 z0K (d2 z0K (z6 0) (d2 y3N (dC (.int 13)) (z6 5))) (dC (.int 1))) (z8 (dC (.int 9941)) (z8 (z6 3) (u9))))))
 (J3 (W4 8 (z2V (z8 (v6 x6N (z8 (z6 6) (z8 (z6 7) u9))) (z8 (v6 x6O (z8 (z6 6) (z8 (z6 7) u9))) (u9)))))
 (z1V (z5U (x5 (d2 dNe (z6 6) (z6 7))) (x5 (dIn true (z6 8) (y1R 4))))
 (x24 4 (z6 8))
 (Y6))))
theorem y7K{c m t:D}{cc n k:Int}{ts:List Tie}{c6 c7 c8:Option Cell}(hn:0<n)(hok:∀t∈ts,0≤t.1/\t.1<t.2/\t.2<n)(hnd:ts.Nodup)(hl:ts.length≤1000) :
  ∃(ts':List Tie) (c6' c7' c8':Option Cell),y4I [some (.sh (.int cc)),some (.sh m),some (.sh t),some (.sh (.int n)),some (.ow (ts.map W8)),some (.sh (.int k)),c6,c7,c8] =
   some (.nx [some (.sh (.int cc)),some (.sh m),some (.sh t),some (.sh (.int n)),some (.ow (ts'.map W8)),some (.sh (.int k)),c6',c7',c8'])/\(∀t∈ts',0≤t.1/\t.1<t.2/\t.2<n)/\ts'.Nodup/\ts'.length≤ts.length+1:=by
 have a1:=y32 (cc+11*k) 9949 hn;have a2:=y33 (cc+11*k) 9949 hn;have b1:=y32 (cc+13*k+1) 9941 hn;have b2:=y33 (cc+13*k+1) 9941 hn;generalize e1:mix (cc+11*k) 9949 n=a at a1 a2;generalize e2:mix (cc+13*k+1) 9941 n=b at b1 b2
 have f1:Q4 [.int (cc+11*k),.int 9949,.int n]=some (.int a):=by rw[z0W _ (by decide) hn,e1]
 have f2:Q4 [.int (cc+13*k+1),.int 9941,.int n]=some (.int b):=by rw[z0W _ (by decide) hn,e2]
 have g0:∀ρ:y0,ρ[0]?=some (some (.sh (.int cc)))->ρ[5]?=some (some (.sh (.int k)))->∀j:Int,z5K j=true->d2 z0K (z6 0) (d2 y3N (dC (.int j)) (z6 5)) ρ=some (.int (cc+j*k)):=fun ρ h0 h5 j hj=>by
  have z0:z6 0 ρ=some (.int cc):=by unfold z6;rw[h0]
  have z5:z6 5 ρ=some (.int k):=by unfold z6;rw[h5]
  exact (z2U z0 ((z2U (x:=.int j) (y:=.int k) rfl z5).trans (x0M k hj))).trans rfl
 let tie:Tie:=(min a b,max a b)
 have step:y4I [some (.sh (.int cc)),some (.sh m),some (.sh t),some (.sh (.int n)),some (.ow (ts.map W8)),some (.sh (.int k)),c6,c7,c8] =
   z1V (z5U (x5 (d2 dNe (z6 6) (z6 7))) (x5 (dIn true (z6 8) (y1R 4)))) (x24 4 (z6 8)) Y6
    [some (.sh (.int cc)),some (.sh m),some (.sh t),some (.sh (.int n)),some (.ow (ts.map W8)),some (.sh (.int k)),some (.sh (.int a)),some (.sh (.int b)),some (.sh (W8 tie))]:=by
  refine x9 (r:=.rt .non) (j4 (d:=.int a) ((u7 (ds:=[.int (cc+11*k),.int 9949,.int n]) (j3 (g0 _ rfl rfl 11 (by decide)) rfl)).trans f1)) ?_
  refine x9 (r:=.rt .non) (j4 (d:=.int b) ((u7 (ds:=[.int (cc+13*k+1),.int 9941,.int n]) (j3 ((z2U (g0 _ rfl rfl 13 (by decide)) rfl).trans rfl) rfl)).trans f2)) ?_
  exact x9 (r:=.rt .non) (j4 (d:=W8 tie) (z7R (ds:=[.int tie.1,.int tie.2]) (j3 ((u7 (ds:=[.int a,.int b]) rfl).trans (x6C a b)) (j3 ((u7 (ds:=[.int a,.int b]) rfl).trans (x6D a b)) rfl)) (show 2≤LIM by decide))) rfl
 rw[step]
 have et:z5U (x5 (d2 dNe (z6 6) (z6 7))) (x5 (dIn true (z6 8) (y1R 4))) [some (.sh (.int cc)),some (.sh m),some (.sh t),some (.sh (.int n)),some (.ow (ts.map W8)),some (.sh (.int k)),some (.sh (.int a)),some (.sh (.int b)),some (.sh (W8 tie))]=some (!(a==b)&&!decide (tie∈ts)):=by
  refine y56 (v8 rfl) fun _=>v8 ((x1R (d:=W8 tie) (ds:=ts.map W8) rfl rfl (Nat.le_trans (z5S ts) (by decide)) (by rw[y3M];decide)).trans ?_)
  rw[x1B];rfl
 rw[K5 et]
 cases hc:(!(a==b)&&!decide (tie∈ts)) with
 | false =>
  exact⟨ts,_,_,_,rfl,hok,hnd,Nat.le_succ _⟩
 | true =>
  rw[Bool.and_eq_true]at hc
  have hne:a≠b:=by simpa using hc.1
  have hni:tie∉ts:=by simpa using hc.2
  refine⟨ts++[tie],some (.sh (.int a)),some (.sh (.int b)),some (.sh (W8 tie)),?_,fun u hu=>?_,?_,by simp⟩
  ·rw[if_pos rfl]
   refine (x6P (ds:=ts.map W8) (d:=W8 tie) rfl rfl (by rw[List.length_map];unfold LIM;omega)).trans ?_
   rw[List.map_append];rfl
  ·rcases List.mem_append.mp hu with z|z
   ·exact hok u z
   ·have:u=tie:=by simpa using z
    subst this
    show 0≤min a b/\min a b<max a b/\max a b<n
    omega
  ·rw[List.nodup_append]
   refine⟨hnd,by simp,fun x hx y hy=>?_⟩
   have:y=tie:=by simpa using hy
   subst this
   exact fun z=>hni (z▸hx)
theorem y42(c:Int){most ties:Int}(h1:1≤most)(h6:most≤6)(t0:0≤ties)(t12:ties≤12) :
  ∃(n:Int) (ts:List Tie),z6R [.int c,.int most,.int ties]=some (Q1 n ts)/\IsWeb n ts/\n≤most/\(ts.length:Int)≤ties:=by
 have a1:=y32 c 9973 (show 0<most by omega)
 have a2:=y33 c 9973 (show 0<most by omega)
 have b1:=y32 c 9967 (show 0<ties+1 by omega)
 have b2:=y33 c 9967 (show 0<ties+1 by omega)
 obtain⟨n,hn1,hn2,e1⟩:∃n:Int,1≤n/\n≤most/\∀k:y0->Option Out,J3 (W4 3 (d2 z0K (dC (.int 1)) (v6 Q4 (z8 (z6 0) (z8 (dC (.int 9973)) (z8 (z6 1) (u9)))))))
   (J3 (z1V (z5U (x5 (d2 dLt (z6 3) (dC (.int 4)))) (x5 (d2 w3P (d2 z9A (z6 0) (dC (.int 4))) (dC (.int 0))))) (W4 3 (z6 1)) (Y6)) k) [some (.sh (.int c)),some (.sh (.int most)),some (.sh (.int ties)),none,none,none,none,none,none] =
   k [some (.sh (.int c)),some (.sh (.int most)),some (.sh (.int ties)),some (.sh (.int n)),none,none,none,none,none]:=by
  have s1:∀k,J3 (W4 3 (d2 z0K (dC (.int 1)) (v6 Q4 (z8 (z6 0) (z8 (dC (.int 9973)) (z8 (z6 1) (u9))))))) k [some (.sh (.int c)),some (.sh (.int most)),some (.sh (.int ties)),none,none,none,none,none,none] =
    k [some (.sh (.int c)),some (.sh (.int most)),some (.sh (.int ties)),some (.sh (.int (1+mix c 9973 most))),none,none,none,none,none]:=fun k =>
   x9 (r:=.rt .non) (j4 (d:=.int (1+mix c 9973 most)) ((z2U (x:=.int 1) (y:=.int (mix c 9973 most)) rfl ((u7 (ds:=[.int c,.int 9973,.int most]) rfl).trans (z0W c (by decide) (by omega)))).trans rfl)) rfl
  have s2:z5U (x5 (d2 dLt (z6 3) (dC (.int 4)))) (x5 (d2 w3P (d2 z9A (z6 0) (dC (.int 4))) (dC (.int 0)))) [some (.sh (.int c)),some (.sh (.int most)),some (.sh (.int ties)),some (.sh (.int (1+mix c 9973 most))),none,none,none,none,none]=some (decide (1+mix c 9973 most<4)&&decide (0<c % 4)) :=
   y56 (v8 rfl) fun _=>v8 ((z2U (x:=.int (c % 4)) (y:=.int 0) ((z2U (x:=.int c) (y:=.int 4) rfl rfl).trans (y31 c (by decide))) rfl).trans rfl)
  cases hc:(decide (1+mix c 9973 most<4)&&decide (0<c % 4)) with
  | true =>
   refine⟨most,h1,Int.le_refl _,fun k=>(s1 _).trans (x9 (r:=.rt .non) ((K5 s2).trans ?_) rfl)⟩
   rw[hc];rfl
  | false =>
   refine⟨1+mix c 9973 most,by omega,by omega,fun k=>(s1 _).trans (x9 (r:=.rt .non) ((K5 s2).trans ?_) rfl)⟩
   rw[hc];rfl
 have hok:okR (mix c 9967 (ties+1))=true:=by unfold okR;rw[decide_eq_true (by omega),decide_eq_true (by omega)];rfl
 obtain⟨ρ',l1,ts,c5,c6,c7,c8,rfl,q1,q2,q3⟩:=y1G (h:=w8 5) (g:=y4I) (fun pre ρ=>∃(ts:List Tie) (c5 c6 c7 c8:Option Cell),ρ=[some (.sh (.int c)),some (.sh (.int most)),some (.sh (.int ties)),some (.sh (.int n)),some (.ow (ts.map W8)),c5,c6,c7,c8]/\(∀t∈ts,0≤t.1/\t.1<t.2/\t.2<n)/\ts.Nodup/\ts.length≤pre.length)
  (ds:=J0 0 (mix c 9967 (ties+1)).toNat) (ρ:=[some (.sh (.int c)),some (.sh (.int most)),some (.sh (.int ties)),some (.sh (.int n)),some (.ow []),none,none,none,none]) ⟨[],none,none,none,none,rfl,fun t h=>absurd h (by simp),List.nodup_nil,Nat.le_refl _⟩ (fun pre d post ρ he hI=>by
   obtain⟨ts,c5,c6,c7,c8,rfl,q1,q2,q3⟩:=hI
   obtain⟨k,hk,rfl⟩:=x1W (show d∈J0 0 _ by rw[←he];simp)
   have hlen:=congrArg List.length he;rw[z3P,List.length_append]at hlen
   obtain⟨ts',c6',c7',c8',w1,w2,w3,w4⟩:=y7K (c:=.non) (cc:=c) (m:=.int most) (t:=.int ties) (k:=(k:Int)) (c6:=c6) (c7:=c7) (c8:=c8) (show 0<n by omega) q1 q2 (by omega)
   refine⟨_,_,rfl,.inl w1,ts',_,c6',c7',c8',rfl,w2,w3,?_⟩
   rw[List.length_append]
   exact Nat.le_trans w4 (Nat.succ_le_succ q3))
 have hts:(ts.length:Int)≤ties:=by
  rw[z3P]at q3;omega
 refine⟨n,z7V ts,?_,⟨hn1,by omega,y62 ts q2,fun t ht=>q1 t ((z3J ts).mem_iff.mp ht)⟩,hn2,by rw[(z3J ts).length_eq];exact hts⟩
 show z5M (z6F [some (.sh (.int c)),some (.sh (.int most)),some (.sh (.int ties)),none,none,none,none,none,none])=_
 have fin:z6F [some (.sh (.int c)),some (.sh (.int most)),some (.sh (.int ties)),none,none,none,none,none,none]=some (.rt (Q1 n (z7V ts))):=by
  refine (e1 _).trans (x9 (r:=.rt .non) (y1N (ds:=[]) (z4D (ds:=[]) rfl (by decide))) ?_)
  refine x9 (r:=.rt .non) ((z1T (ds:=J0 0 (mix c 9967 (ties+1)).toNat) ?_).trans l1) ?_
  ·exact z5Q ((u7 (ds:=[.int c,.int 9967,.int (ties+1)]) rfl).trans (z0W c (by decide) (by omega))) hok
  ·refine z0V (z7R (ds:=[.int n,.tup ((z7V ts).map W8)]) (j3 rfl (j3 (z95 ((y1P (ds:=ts.map W8) rfl).trans (y0C (by omega)))) rfl)) (show 2≤LIM by decide))
 rw[fin];rfl
theorem z52(lo:Int)(m:Nat):J0 lo (m+1) = .int lo::J0 (lo+1) m:=by
 unfold J0;rw[List.range_succ_eq_map,List.map_cons,List.map_map]
 congr 1
 ·simp
 ·refine List.map_congr_left fun k _=>?_
  simp only[Function.comp]
  congr 1
  omega
theorem z78{n j:Nat}(h:j<n):ixN n (j:Int)=some j:=by
 unfold ixN
 rw[if_pos (by omega),if_pos (by omega),Int.toNat_natCast]
theorem y34{α β:Type}(f:α->β):∀(l:List α) (j:Nat),(l.map f).eraseIdx j=(l.eraseIdx j).map f
 | [],_=>rfl
 | _::_,0=>rfl
 | a::l,j+1=>by
  show f a::(l.map f).eraseIdx j=f a::(l.eraseIdx j).map f
  rw[y34 f l j]
theorem erase_perm{α:Type}:∀(l:List α) (j:Nat) (h:j<l.length),(l[j]::l.eraseIdx j).Perm l
 | a::l,0,_=>List.Perm.refl _
 | a::l,j+1,h=>by
  have ih:=erase_perm l j (by simpa using h)
  have hj:j<l.length:=by simpa using h
  show (l[j]::a::l.eraseIdx j).Perm (a::l)
  exact (List.Perm.swap _ _ _).trans (ih.cons a)
noncomputable def y2V:y0->Option (D×y0):=x9J 1 (v6 Q4 (z8 (d2 z0K (z6 2) (d2 y3N (dC (.int 5)) (z6 0))) (z8 (dC (.int 9931)) (z8 (d2 y02 (z6 3) (z6 0)) (u9)))))
theorem y9X{c:Int}{n k:Nat}{ls:List Int}(hl:ls.length+k=n)(hk:k<n)(hn:n≤1000) :
  ∃(j:Nat) (h:j<ls.length),y2V [some (.sh (.int (k:Int))),some (.ow (ls.map D.int)),some (.sh (.int c)),some (.sh (.int (n:Int)))]=some (.int ls[j],[some (.sh (.int (k:Int))),some (.ow ((ls.eraseIdx j).map D.int)),some (.sh (.int c)),some (.sh (.int (n:Int)))]):=by
 have hm:(0:Int)<(n:Int)-(k:Int):=by omega
 have a1:=y32 (c+5*(k:Int)) 9931 hm;have a2:=y33 (c+5*(k:Int)) 9931 hm;obtain⟨j,hj⟩:=Int.eq_ofNat_of_zero_le a1
 have hj':j<ls.length:=by omega
 refine⟨j,hj',?_⟩
 have ef:v6 Q4 (z8 (d2 z0K (z6 2) (d2 y3N (dC (.int 5)) (z6 0))) (z8 (dC (.int 9931)) (z8 (d2 y02 (z6 3) (z6 0)) (u9)))) [some (.sh (.int (k:Int))),some (.ow (ls.map D.int)),some (.sh (.int c)),some (.sh (.int (n:Int)))]=some (.int (j:Int)):=by
  refine (u7 (ds:=[.int (c+5*(k:Int)),.int 9931,.int ((n:Int)-(k:Int))]) (j3 ((z2U (x:=.int c) (y:=.int (5*(k:Int))) rfl ((z2U (x:=.int 5) (y:=.int (k:Int)) rfl rfl).trans (x0M _ (by decide)))).trans rfl) rfl)).trans ?_
  rw[z0W _ (by decide) hm,hj]
 have eo:y1R 1 [some (.sh (.int (k:Int))),some (.ow (ls.map D.int)),some (.sh (.int c)),some (.sh (.int (n:Int)))]=some (ls.map D.int):=rfl;unfold y2V x9J;rw[eo,ef];dsimp only;rw[List.length_map,z78 hj'];dsimp only;rw[List.getElem?_map,List.getElem?_eq_getElem hj'];dsimp only[Option.map_some]
 rw[if_pos (by unfold LIM;omega),y34]
 rfl
theorem x5Z{c:Int}{n:Nat}(hn:n≤1000):∀(m k:Nat) (ls:List Int) (c0:Option Cell),ls.length=m->m+k=n ->
  ∃r:List Int,z43 (w8 0) y2V [c0,some (.ow (ls.map D.int)),some (.sh (.int c)),some (.sh (.int (n:Int)))] (J0 (k:Int) m)=some (r.map D.int)/\r.Perm ls
 | 0,k,ls,c0,hl,hk=>by
  have:ls=[]:=List.eq_nil_of_length_eq_zero hl
  subst this
  exact⟨[],rfl,List.Perm.refl _⟩
 | m+1,k,ls,c0,hl,hk=>by
  obtain⟨j,hj,e⟩:=y9X (c:=c) (n:=n) (k:=k) (ls:=ls) (by omega) (by omega) hn
  obtain⟨r,e2,hp⟩:=x5Z hn m (k+1) (ls.eraseIdx j) (some (.sh (.int (k:Int)))) (by rw[List.length_eraseIdx,if_pos hj];omega) (by omega)
  refine⟨ls[j]::r,?_,(hp.cons _).trans (erase_perm ls j hj)⟩
  rw[z52];unfold z43
  show (match y2V [some (.sh (.int (k:Int))),some (.ow (ls.map D.int)),some (.sh (.int c)),some (.sh (.int (n:Int)))] with
   | some (y,ρ2)=>(match z43 (w8 0) y2V ρ2 (J0 ((k:Int)+1) m) with|some ys=>some (y::ys)|none=>none)
   | none=>none)=_
  rw[e];dsimp only
  have ek:((k:Int)+1)=((k+1:Nat):Int):=by omega
  rw[ek,e2];rfl
theorem y44(c:Int){n:Int}(h0:0≤n)(h1:n≤1000):∃r:List Int,z6T [.int c,.int n]=some (.tup (r.map D.int))/\r.Perm (iUp 0 n.toNat):=by
 obtain⟨m,rfl⟩:=Int.eq_ofNat_of_zero_le h0
 have hlen:(iUp 0 m).length=m:=by unfold iUp;rw[List.length_map,List.length_range]
 obtain⟨r,e,hp⟩:=x5Z (c:=c) (n:=m) (by omega) m 0 (iUp 0 m) none hlen (by omega)
 have e0:((0:Nat):Int)=0:=rfl;rw[e0]at e
 refine⟨r,?_,by rw[Int.toNat_natCast];exact hp⟩
 have fin:z6H [some (.sh (.int c)),some (.sh (.int (m:Int))),none]=some (.rt (.tup (r.map D.int))):=by
  have el:z41 (z6 1) [some (.sh (.int c)),some (.sh (.int (m:Int))),none]=some ((iUp 0 m).map D.int):=by
   rw[y8G (j:=(m:Int)) rfl (by omega) (by omega),Int.toNat_natCast]
  refine x9 (r:=.rt .non) (y1N (ds:=(iUp 0 m).map D.int) el) ?_
  have er:z2W (z6 1) [some (.sh (.int c)),some (.sh (.int (m:Int))),some (.ow ((iUp 0 m).map D.int))]=some (J0 0 m):=by
   rw[z5Q (j:=(m:Int)) rfl (by unfold okR;rw[decide_eq_true (by omega),decide_eq_true (by omega)];rfl),Int.toNat_natCast]
  exact z0V (z95 ((x55 er (by rw[z3P];unfold LIM;omega)).trans e))
 show z5M (z6H [some (.sh (.int c)),some (.sh (.int (m:Int))),none])=_
 rw[fin];rfl
theorem x39(n:Nat):(iUp 0 n).length=n:=by unfold iUp;simp
noncomputable def ixI(r:List Int)(p:Int):Int:=(r.idxOf p:Nat)
noncomputable def Y1(r:List Int):List Key:=r.map Sum.inl
theorem y7T(r:List Int)(p:Int):Y1 (r++[p])=Y1 r++[Sum.inl p]:=by unfold Y1;rw[List.map_append];rfl
theorem y7S{r:List Int}{p:Int}:(Sum.inl p:Key)∈Y1 r↔p∈r:=by
 unfold Y1;constructor
 ·intro h;obtain⟨q,hq,e⟩:=List.mem_map.mp h;cases e;exact hq
 ·exact fun h=>List.mem_map_of_mem h
theorem y2O{r:List Int}(h:r.Nodup):(Y1 r).Nodup:=by
 unfold Y1
 exact List.pairwise_map.mpr (h.imp fun {a b} hab z=>hab (Sum.inl.inj z))
theorem y6F:∀(ks:List Key) (vs:List D) (j:Key) (d:D),ks.length=vs.length->j∉ks->y7Y ks vs j d=(ks++[j],vs++[d])
 | [],[],_,_,_,_=>rfl
 | [],_::_,_,_,h,_=>by cases h
 | _::_,[],_,_,h,_=>by cases h
 | k::ks,v::vs,j,d,hl,hn=>by
  have hne:k≠j:=fun z=>hn (z▸List.mem_cons_self)
  unfold y7Y
  rw[if_neg hne,y6F ks vs j d (by simpa using hl) fun z=>hn (List.mem_cons_of_mem _ z)]
  rfl
theorem y8H(n:Nat):J0 0 (n+1)=J0 0 n++[.int (n:Int)]:=by
 unfold J0;rw[List.range_succ,List.map_append];simp
theorem y0I:∀(r:List Int) (k:Nat) (p:Int),p∈r->y52 (Y1 r) (J0 (k:Int) r.length) (Sum.inl p)=some (.int ((k+r.idxOf p:Nat):Int))
 | [],_,_,h=>by cases h
 | q::r,k,p,h=>by
  have e:J0 (k:Int) (q::r).length = .int (k:Int)::J0 ((k+1:Nat):Int) r.length:=by
   rw[List.length_cons,z52];rfl
  rw[e]
  show (if (Sum.inl q:Key)=Sum.inl p then some (D.int (k:Int)) else y52 (Y1 r) (J0 ((k+1:Nat):Int) r.length) (Sum.inl p))=_
  by_cases hq:q=p
  ·subst hq;rw[if_pos rfl,List.idxOf_cons_self];rfl
  ·have hp:p∈r:=by
    rcases List.mem_cons.mp h with z|z
    ·exact absurd z.symm hq
    ·exact z
   have hi:(q::r).idxOf p=r.idxOf p+1:=by
    rw[List.idxOf_cons,beq_false_of_ne hq];rfl
   rw[if_neg fun z=>hq (Sum.inl.inj z),y0I r (k+1) p hp,hi]
   congr 2
   omega
theorem y6W{r:List Int}{p:Int}(h:p∈r):y52 (Y1 r) (J0 0 r.length) (Sum.inl p)=some (.int (ixI r p)):=by
 have:=y0I r 0 p h
 rw[Nat.zero_add]at this;exact this
theorem x1N{rw':D}:∀(r done:List Int) (c3 c4:Option Cell),(done++r).Nodup->(done++r).length≤1000 ->
  ∃c3' c4',Q7 (z2A 2 (g7 (w8 2) (g7 (w8 3) (z2B)))) (x9I 1 (z6 3) (z6 2)) (z0C done.length (r.map D.int)) [some (.sh rw'),some (.od (Y1 done) (J0 0 done.length)),c3,c4] =
   some (.nx [some (.sh rw'),some (.od (Y1 (done++r)) (J0 0 (done++r).length)),c3',c4'])
 | [],done,c3,c4,_,_=>⟨c3,c4,by rw[List.append_nil];rfl⟩
 | p::r,done,c3,c4,hn,hl=>by
  have hn':((done++[p])++r).Nodup:=by rw[List.append_assoc];exact hn
  have hl':((done++[p])++r).length≤1000:=by rw[List.append_assoc];exact hl
  obtain⟨c3',c4',ih⟩:=x1N r (done++[p]) (some (.sh (.int (done.length:Int)))) (some (.sh (.int p))) hn' hl'
  refine⟨c3',c4',?_⟩
  have hp:p∉done:=fun z=>by
   have:=(List.nodup_append.mp hn).2.2
   exact this p z p List.mem_cons_self rfl
  have hd:done.Nodup:=(List.nodup_append.mp hn).1
  have hlen:done.length<1000:=by rw[List.length_append,List.length_cons]at hl;omega
  have step:x9I 1 (z6 3) (z6 2) [some (.sh rw'),some (.od (Y1 done) (J0 0 done.length)),some (.sh (.int (done.length:Int))),some (.sh (.int p))] =
    some (.nx [some (.sh rw'),some (.od (Y1 (done++[p])) (J0 0 (done++[p]).length)),some (.sh (.int (done.length:Int))),some (.sh (.int p))]):=by
   show (if (Y1 done).Nodup/\(Y1 done).length<LIM then some (Out.nx [some (.sh rw'),some (.od (y7Y (Y1 done) (J0 0 done.length) (Sum.inl p) (.int (done.length:Int))).1 (y7Y (Y1 done) (J0 0 done.length) (Sum.inl p) (.int (done.length:Int))).2),some (.sh (.int (done.length:Int))),some (.sh (.int p))]) else none)=_
   rw[if_pos ⟨y2O hd,by unfold Y1;rw[List.length_map];unfold LIM;omega⟩,y6F _ _ _ _ (by unfold Y1;rw[List.length_map,z3P]) (fun z=>hp (y7S.mp z)),←y7T,List.length_append,List.length_singleton,y8H]
  rw[List.map_cons]
  show Q7 _ _ (.tup [.int (done.length:Int),.int p]::z0C (done.length+1) (r.map D.int)) _=_
  unfold Q7
  show (match x9I 1 (z6 3) (z6 2) [some (.sh rw'),some (.od (Y1 done) (J0 0 done.length)),some (.sh (.int (done.length:Int))),some (.sh (.int p))] with
   | some (.nx ρ2)=>Q7 _ _ (z0C (done.length+1) (r.map D.int)) ρ2
   | some (.ct ρ2)=>Q7 _ _ (z0C (done.length+1) (r.map D.int)) ρ2
   | some (.bk ρ2)=>some (.nx ρ2)
   | some (.rt v)=>some (.rt v)
   | none=>none)=_
  rw[step];dsimp only;rw[List.length_append,List.length_singleton]at ih ⊢;rw[ih,List.append_assoc];rfl
theorem y24{r:List Int}(hn:r.Nodup)(hr:r.length≤1000):z7I [.tup (r.map D.int)]=some (.dct (Y1 r) (J0 0 r.length)):=by
 show z5M (z4X [some (.sh (.tup (r.map D.int))),none,none,none])=_
 obtain⟨c3,c4,hl⟩:=x1N (rw':=.tup (r.map D.int)) r [] none none (by simpa using hn) (by simpa using hr)
 have fin:z4X [some (.sh (.tup (r.map D.int))),none,none,none]=some (.rt (.dct (Y1 r) (J0 0 r.length))):=by
  refine x9 (r:=.rt .non) rfl ?_;refine x9 (r:=.rt .non) ((z1T (ds:=z0C 0 (r.map D.int)) rfl).trans hl) ?_;rfl
 rw[fin];rfl
noncomputable def z39(r:List Int)(t:Tie):Tie:=(min (ixI r t.1) (ixI r t.2),max (ixI r t.1) (ixI r t.2))
theorem z83(a b:Int):z4A [.int a,.int b]=some (.tup [.int (min a b),.int (max a b)]):=by
 show z5M (z27 [some (.sh (.int a)),some (.sh (.int b))])=_
 have fin:z27 [some (.sh (.int a)),some (.sh (.int b))]=some (.rt (.tup [.int (min a b),.int (max a b)])):=by
  refine z0V (z7R (ds:=[.int (min a b),.int (max a b)]) (j3 ?_ (j3 ?_ rfl)) (show 2≤LIM by decide))
  ·exact x6C a b
  ·exact x6D a b
 rw[fin];rfl
theorem y41{r:List Int}{t:Tie}(h1:t.1∈r)(h2:t.2∈r):z9M [.dct (Y1 r) (J0 0 r.length),W8 t]=some (W8 (z39 r t)):=by
 show z5M (z6D [some (.sh (.dct (Y1 r) (J0 0 r.length))),some (.sh (W8 t))])=_
 have e1:y5E (z6 0) (dIx (dSq (z6 1)) (dC (.int 0))) [some (.sh (.dct (Y1 r) (J0 0 r.length))),some (.sh (W8 t))]=some (.int (ixI r t.1)):=y6W h1;have e2:y5E (z6 0) (dIx (dSq (z6 1)) (dC (.int 1))) [some (.sh (.dct (Y1 r) (J0 0 r.length))),some (.sh (W8 t))]=some (.int (ixI r t.2)):=y6W h2
 have fin:z6D [some (.sh (.dct (Y1 r) (J0 0 r.length))),some (.sh (W8 t))]=some (.rt (W8 (z39 r t))):=by
  refine z0V ?_;exact (u7 (ds:=[.int (ixI r t.1),.int (ixI r t.2)]) (j3 e1 (j3 e2 rfl))).trans (z83 _ _)
 rw[fin];rfl
theorem z6Q{n:Int}{ts:List Tie}{r:List Int}(hn:r.Nodup)(hr:r.length≤1000)(ht:ts.length≤1000)(hm:∀t∈ts,t.1∈r/\t.2∈r) :
  z1L [Q1 n ts,.tup (r.map D.int)]=some (.lst (ts.map fun t=>W8 (z39 r t))):=by
 show z5M (z4Y [some (.sh (Q1 n ts)),some (.sh (.tup (r.map D.int))),none])=_
 have fin:z4Y [some (.sh (Q1 n ts)),some (.sh (.tup (r.map D.int))),none]=some (.rt (.lst (ts.map fun t=>W8 (z39 r t)))):=by
  refine x9 (r:=.rt .non) (j4 (d:=.dct (Y1 r) (J0 0 r.length)) ((u7 (ds:=[.tup (r.map D.int)]) rfl).trans (y24 hn hr))) ?_
  show z08 (dLs (Q0 _ _ _ _ _)) [some (.sh (Q1 n ts)),some (.sh (.tup (r.map D.int))),some (.sh (.dct (Y1 r) (J0 0 r.length)))]=_
  refine z0V (z1S ?_)
  refine (z0M (ds:=ts.map W8) rfl (by rw[List.length_map];unfold LIM;omega)).trans ?_
  refine (z1K (fun ρ=>∃c,ρ=[c,some (.sh (.dct (Y1 r) (J0 0 r.length)))]) (fun d=>match d with|.tup [.int a,.int b]=>W8 (z39 r (a,b))|_=>.non) _ _ ⟨none,rfl⟩ ?_).trans ?_
  ·rintro d hd ρ ⟨c,rfl⟩
   obtain⟨t,ht',rfl⟩:=List.mem_map.mp hd
   refine⟨_,rfl,⟨_,rfl⟩,?_⟩
   exact (u7 (ds:=[.dct (Y1 r) (J0 0 r.length),W8 t]) rfl).trans (y41 (hm t ht').1 (hm t ht').2)
  ·rw[List.map_map];rfl
 rw[fin];rfl
noncomputable def lie(s t:Tie):Str:=if s.1=t.1∨s.1=t.2∨s.2=t.1∨s.2=t.2 then "meet" else
 if (if tlt t s then t else s).2<(if tlt s t then t else s).1 then "apart" else if (if tlt t s then t else s).2<(if tlt s t then t else s).2 then "cross" else "within"
theorem in2(a c d:Int):inD (.int a) [.int c,.int d]=(decide (a=c)||decide (a=d)):=by
 show ((c==a)||((d==a)||false))=_
 rw[Bool.or_false]
 congr 1
 ·rw[show (c==a)=decide (c=a) from rfl];exact decide_eq_decide.mpr eq_comm
 ·rw[show (d==a)=decide (d=a) from rfl];exact decide_eq_decide.mpr eq_comm
noncomputable def btw(a b c:Int):Bool:=decide (min a b<c)&&decide (c<max a b)
noncomputable def z8Y(a b c d:Int):Str:=if a=c∨a=d∨b=c∨b=d then "meet" else
 if (btw a b c&&!btw a b d)||(!btw a b c&&btw a b d) then "cross" else if (btw a b c&&btw a b d)||(decide (min c d<min a b)&&decide (min a b<max c d)) then "within" else "apart"
noncomputable def w57(s t:Tie):Nat:=if s.1=t.1∨s.1=t.2∨s.2=t.1∨s.2=t.2 then 0 else
 if (if tlt t s then t else s).2<(if tlt s t then t else s).1 then 1 else if (if tlt t s then t else s).2<(if tlt s t then t else s).2 then 2 else 3
noncomputable def w59(a b c d:Int):Nat:=if a=c∨a=d∨b=c∨b=d then 0 else
 if (btw a b c&&!btw a b d)||(!btw a b c&&btw a b d) then 2 else if (btw a b c&&btw a b d)||(decide (min c d<min a b)&&decide (min a b<max c d)) then 3 else 1
noncomputable def y3P:Nat->Str
 | 0=>"meet"
 | 1=>"apart"
 | 2=>"cross"
 | _=>"within"
theorem x4J(s t:Tie):lie s t=y3P (w57 s t):=by
 unfold w57;rw[apply_ite y3P,apply_ite y3P,apply_ite y3P];rfl
theorem x4O(a b c d:Int):z8Y a b c d=y3P (w59 a b c d):=by
 unfold w59;rw[apply_ite y3P,apply_ite y3P,apply_ite y3P];rfl
theorem x8V:∀a b c d:Fin 6,a≠b->c≠d->w57 (min (a.val:Int) b.val,max (a.val:Int) b.val) (min (c.val:Int) d.val,max (c.val:Int) d.val)=w59 a.val b.val c.val d.val:=by decide +kernel
theorem x8U{a b c d:Int}(h1:a≠b)(h2:c≠d)(ha:0≤a/\a<6)(hb:0≤b/\b<6)(hc:0≤c/\c<6)(hd:0≤d/\d<6):lie (min a b,max a b) (min c d,max c d)=z8Y a b c d:=by
 obtain⟨a,rfl⟩:=Int.eq_ofNat_of_zero_le ha.1;obtain⟨b,rfl⟩:=Int.eq_ofNat_of_zero_le hb.1;obtain⟨c,rfl⟩:=Int.eq_ofNat_of_zero_le hc.1;obtain⟨d,rfl⟩:=Int.eq_ofNat_of_zero_le hd.1;rw[x4J,x4O]
 have:=x8V ⟨a,by omega⟩ ⟨b,by omega⟩ ⟨c,by omega⟩ ⟨d,by omega⟩ (fun z=>h1 (by rw[Fin.mk.injEq]at z;rw[z])) (fun z=>h2 (by rw[Fin.mk.injEq]at z;rw[z]))
 rw[this]
theorem x1C:∀(r:List Int) (p:Int),p∈r->x9Z (.int p) (r.map D.int)=some (r.idxOf p)
 | [],_,h=>by cases h
 | q::r,p,h=>by
  unfold x9Z;rw[List.map_cons,List.findIdx?_cons]
  show (if (q==p)=true then some 0 else ((r.map D.int).findIdx? fun y=>beq y (.int p)).map (·+1))=_
  by_cases hq:q=p
  ·subst hq
   rw[if_pos (by simp),List.idxOf_cons_self]
  ·have hp:p∈r:=by
    rcases List.mem_cons.mp h with z|z
    ·exact absurd z.symm hq
    ·exact z
   have ih:=x1C r p hp;unfold x9Z at ih
   have hi:(q::r).idxOf p=r.idxOf p+1:=by rw[List.idxOf_cons,beq_false_of_ne hq];rfl
   rw[if_neg (by simpa using hq),ih,hi]
   rfl
theorem z0R:∀r:List Int,z0J (r.map D.int)=0
 | []=>by rw[List.map_nil,z0J]
 | p::r=>by
  have e:depth (.int p)=0:=by simp[depth]
  rw[List.map_cons,z0J,z0R r,e];rfl
theorem z8D{r:List Int}{p:Int}{fa fb:y0->Option D}{ρ:y0}(h:p∈r)(ha:fa ρ=some (.tup (r.map D.int)))(hb:fb ρ=some (.int p)):z22 fa fb ρ=some (.int (ixI r p)):=by
 unfold z22;rw[ha,hb];dsimp only
 rw[if_pos ⟨by rw[z0R];decide,by simp[depth,z2P]⟩,x1C r p h]
 rfl
theorem y5L{ts:List Tie}{i:Nat}{s:Tie}(h:ts[i]?=some s):atI (ts.map W8) (i:Int)=some (W8 s):=by
 have hlt:i<ts.length:=(List.getElem?_eq_some_iff.mp h).1;unfold atI;rw[List.length_map,z78 hlt]
 show (ts.map W8)[i]?=_
 rw[List.getElem?_map,h];rfl
theorem y0A{r:List Int}{s:Tie}{fi:y0->Option (List D)}{ρ:y0}(h0:fi ρ=some [.int s.1,.int s.2])(hc:y1U [none,some 1] ρ=[none,some (.sh (.tup (r.map D.int)))])(h1:s.1∈r)(h2:s.2∈r) :
  Q0 [none,some 1] fi (w8 0) z1U (z22 (z6 1) (z6 0)) ρ=some [.int (ixI r s.1),.int (ixI r s.2)]:=by
 refine (z0M h0 (show 2≤LIM by decide)).trans ?_
 rw[hc]
 refine (z1K (fun ρ=>∃c,ρ=[c,some (.sh (.tup (r.map D.int)))]) (fun d=>match d with|.int p=>.int (ixI r p)|_=>.non) _ _ ⟨none,rfl⟩ ?_).trans rfl
 rintro d hd ρ ⟨c,rfl⟩
 refine⟨_,rfl,⟨_,rfl⟩,?_⟩
 rcases List.mem_cons.mp hd with rfl|hd
 ·exact z8D h1 rfl rfl
 ·obtain rfl:=List.mem_singleton.mp hd
  exact z8D h2 rfl rfl
theorem w5G(p:D->Bool)(x y:D):[x,y].filter p=if p x=true then (if p y=true then [x,y] else [x]) else (if p y=true then [y] else []):=by
 rw[List.filter_cons,List.filter_cons,List.filter_nil];by_cases h:p x=true
 ·rw[if_pos h,if_pos h];by_cases h':p y=true
  ·rw[if_pos h',if_pos h']
  ·rw[if_neg h',if_neg h']
 ·rw[if_neg h,if_neg h]
theorem y89{n:Int}{ts:List Tie}{r:List Int}{i j:Nat}{s t:Tie}(hi:ts[i]?=some s)(hj:ts[j]?=some t)(hs:s.1∈r/\s.2∈r)(ht:t.1∈r/\t.2∈r) :
  z4S [Q1 n ts,.tup (r.map D.int),.int (i:Int),.int (j:Int)]=some (.str (z8Y (ixI r s.1) (ixI r s.2) (ixI r t.1) (ixI r t.2))):=by
 show z5M (z6I [some (.sh (Q1 n ts)),some (.sh (.tup (r.map D.int))),some (.sh (.int (i:Int))),some (.sh (.int (j:Int))),none,none,none])=_
 generalize ea:ixI r s.1=a;generalize eb:ixI r s.2=b;generalize ec:ixI r t.1=c;generalize ed:ixI r t.2=d
 have c1:=fun ρ h0 hc=>y0A (r:=r) (s:=s) (fi:=dSq (dIx (dSq (dIx (dSq (z6 0)) (dC (.int 1)))) (z6 2))) (ρ:=ρ) h0 hc hs.1 hs.2
 have c2:=fun ρ h0 hc=>y0A (r:=r) (s:=t) (fi:=dSq (dIx (dSq (dIx (dSq (z6 0)) (dC (.int 1)))) (z6 3))) (ρ:=ρ) h0 hc ht.1 ht.2
 rw[ea,eb]at c1;rw[ec,ed]at c2
 let W:D:=Q1 n ts
 let R:D:=.tup (r.map D.int)
 have fin:z6I [some (.sh W),some (.sh R),some (.sh (.int (i:Int))),some (.sh (.int (j:Int))),none,none,none]=some (.rt (.str (z8Y a b c d))):=by
  refine x9 (r:=.rt .non) (j4 (d:=.lst [.int a,.int b]) (z1S (c1 _ (z1R (ds:=[.int s.1,.int s.2]) ((z57 (ds:=ts.map W8) rfl rfl).trans (y5L hi))) rfl))) ?_;refine x9 (r:=.rt .non) (j4 (d:=.lst [.int c,.int d]) (z1S (c2 _ (z1R (ds:=[.int t.1,.int t.2]) ((z57 (ds:=ts.map W8) rfl rfl).trans (y5L hj))) rfl))) ?_
  have e3:z79 (Q0 [none,some 5] (dSq (z6 4)) (w8 0) (x5 (dIn false (z6 0) (dSq (z6 1)))) (z6 0)) [some (.sh W),some (.sh R),some (.sh (.int (i:Int))),some (.sh (.int (j:Int))),some (.sh (.lst [.int a,.int b])),some (.sh (.lst [.int c,.int d])),none] =
    some ((decide (a=c)||decide (a=d))||(decide (b=c)||decide (b=d))):=by
   have:Q0 [none,some 5] (dSq (z6 4)) (w8 0) (x5 (dIn false (z6 0) (dSq (z6 1)))) (z6 0) [some (.sh W),some (.sh R),some (.sh (.int (i:Int))),some (.sh (.int (j:Int))),some (.sh (.lst [.int a,.int b])),some (.sh (.lst [.int c,.int d])),none] =
     some (([.int a,.int b].filter fun x=>inD x [.int c,.int d]).map id):=by
    refine (z0M (ds:=[.int a,.int b]) rfl (show 2≤LIM by decide)).trans ?_
    refine K4 (fun ρ=>∃c0,ρ=[c0,some (.sh (.lst [.int c,.int d]))]) (fun x=>inD x [.int c,.int d]) id _ _ ⟨none,rfl⟩ ?_
    rintro x hx ρ ⟨c0,rfl⟩
    refine⟨_,rfl,⟨_,rfl⟩,v8 ((x1R (d:=x) (ds:=[.int c,.int d]) rfl rfl (by simp[z0J,depth,z2P]) ?_).trans rfl),fun _=>rfl⟩
    rcases List.mem_cons.mp hx with rfl|hx
    ·simp[depth,z2P]
    ·obtain rfl:=List.mem_singleton.mp hx;simp[depth,z2P]
   unfold z79;rw[this];dsimp only;rw[List.map_id,List.filter_cons,List.filter_cons,List.filter_nil,in2,in2]
   cases (decide (a=c)||decide (a=d))<;>cases (decide (b=c)||decide (b=d))<;>rfl
  unfold z8Y;by_cases hm:a=c∨a=d∨b=c∨b=d
  ·rw[if_pos hm];refine z00 ((K5 e3).trans ?_)
   have:((decide (a=c)||decide (a=d))||(decide (b=c)||decide (b=d)))=true:=by simp only[Bool.or_eq_true,decide_eq_true_eq];omega
   rw[this];rfl
  ·rw[if_neg hm];refine x9 (r:=.rt .non) (ρ':=[some (.sh W),some (.sh R),some (.sh (.int (i:Int))),some (.sh (.int (j:Int))),some (.sh (.lst [.int a,.int b])),some (.sh (.lst [.int c,.int d])),none]) ((K5 e3).trans ?_) ?_
   ·have:((decide (a=c)||decide (a=d))||(decide (b=c)||decide (b=d)))=false:=by simp only[Bool.or_eq_false_iff,decide_eq_false_iff_not];omega
    rw[this];rfl
   ·have e4:Q0 [none,some 4] (dSq (z6 5)) (w8 0) (x5 (z36 y8R y8R (z81 (z02 (z6 1))) (z6 0) (y03 (z02 (z6 1))))) (z6 0) [some (.sh W),some (.sh R),some (.sh (.int (i:Int))),some (.sh (.int (j:Int))),some (.sh (.lst [.int a,.int b])),some (.sh (.lst [.int c,.int d])),none] =
      some (([.int c,.int d].filter fun x=>match x with|.int y=>btw a b y|_=>false).map id):=by
     refine (z0M (ds:=[.int c,.int d]) rfl (show 2≤LIM by decide)).trans ?_
     refine K4 (fun ρ=>∃c0,ρ=[c0,some (.sh (.lst [.int a,.int b]))]) (fun x=>match x with|.int y=>btw a b y|_=>false) id _ _ ⟨none,rfl⟩ ?_
     rintro x hx ρ ⟨c0,rfl⟩
     have key:∀y:Int,x5 (z36 y8R y8R (z81 (z02 (z6 1))) (z6 0) (y03 (z02 (z6 1)))) [some (.sh (.int y)),some (.sh (.lst [.int a,.int b]))]=some (btw a b y):=fun y =>
      v8 (y1O (x:=.int (min a b)) (y:=.int y) (z:=.int (max a b)) rfl rfl rfl (fun _=>rfl) fun _=>rfl)
     refine⟨_,rfl,⟨_,rfl⟩,?_,fun _=>rfl⟩
     rcases List.mem_cons.mp hx with rfl|hx
     ·exact key c
     ·obtain rfl:=List.mem_singleton.mp hx;exact key d
    rw[List.map_id]at e4
    generalize el:([.int c,.int d].filter fun x=>match x with|.int y=>btw a b y|_=>false:List D)=L at e4
    have eL:L=(if btw a b c=true then (if btw a b d=true then [.int c,.int d] else [.int c]) else (if btw a b d=true then [.int d] else [])):=by
     rw[←el,w5G]
    refine x9 (r:=.rt .non) (j4 (z1S e4)) ?_
    have e5:∀k:Int,x5 (d2 dEq (z09 (dSq (z6 6))) (dC (.int k))) [some (.sh W),some (.sh R),some (.sh (.int (i:Int))),some (.sh (.int (j:Int))),some (.sh (.lst [.int a,.int b])),some (.sh (.lst [.int c,.int d])),some (.sh (.lst L))]=some ((L.length:Int)==k):=fun k=>rfl
    have e6:x5 (z36 y8R y8R (z81 (z02 (z6 5))) (z81 (z02 (z6 4))) (y03 (z02 (z6 5)))) [some (.sh W),some (.sh R),some (.sh (.int (i:Int))),some (.sh (.int (j:Int))),some (.sh (.lst [.int a,.int b])),some (.sh (.lst [.int c,.int d])),some (.sh (.lst L))]=some (decide (min c d<min a b)&&decide (min a b<max c d)) :=
     v8 (y1O (x:=.int (min c d)) (y:=.int (min a b)) (z:=.int (max c d)) rfl rfl rfl (fun _=>rfl) fun _=>rfl)
    have k1:((L.length:Int)==1)=((btw a b c&&!btw a b d)||(!btw a b c&&btw a b d)):=by rw[eL];cases btw a b c<;>cases btw a b d<;>rfl
    have k2:((L.length:Int)==2)=(btw a b c&&btw a b d):=by rw[eL];cases btw a b c<;>cases btw a b d<;>rfl
    have e51:=e5 1;have e52:=e5 2;rw[k1]at e51;rw[k2]at e52
    cases h1:((btw a b c&&!btw a b d)||(!btw a b c&&btw a b d)) with
    | true =>
     rw[h1]at e51;rw[if_pos rfl];exact z00 (K5 e51)
    | false =>
     rw[h1]at e51;rw[if_neg Bool.false_ne_true];refine x9 (r:=.rt .non) (K5 e51) ?_
     have e7:=z5C e52 (fun _=>e6)
     cases h2:((btw a b c&&btw a b d)||(decide (min c d<min a b)&&decide (min a b<max c d))) with
     | true =>
      rw[h2]at e7;rw[if_pos rfl];exact z00 (K5 e7)
     | false =>
      rw[h2]at e7;rw[if_neg Bool.false_ne_true];exact x9 (r:=.rt .non) (K5 e7) rfl
 rw[fin];rfl
theorem z89{s t:Tie}(h:tlt s t)(h':tlt t s):False:=z5J s (y9A h h')
theorem y08:∀{xs ys:List Tie},xs.Pairwise tlt->ys.Pairwise tlt->(∀t,t∈xs↔t∈ys)->xs=ys
 | [],[],_,_,_=>rfl
 | [],y::ys,_,_,h=>absurd ((h y).mpr List.mem_cons_self) (by simp)
 | x::xs,[],_,_,h=>absurd ((h x).mp List.mem_cons_self) (by simp)
 | x::xs,y::ys,hx,hy,h=>by
  rw[List.pairwise_cons]at hx hy
  have e:x=y:=by
   rcases List.mem_cons.mp ((h x).mp List.mem_cons_self) with z|z
   ·exact z
   ·rcases List.mem_cons.mp ((h y).mpr List.mem_cons_self) with q|q
    ·exact q.symm
    ·exact absurd (hx.1 y q) fun w=>z89 w (hy.1 x z)
  subst e
  congr 1
  refine y08 hx.2 hy.2 fun t=>?_
  constructor
  ·intro ht
   rcases List.mem_cons.mp ((h t).mp (List.mem_cons_of_mem _ ht)) with z|z
   ·subst z;exact absurd (hx.1 _ ht) (z5J _)
   ·exact z
  ·intro ht
   rcases List.mem_cons.mp ((h t).mpr (List.mem_cons_of_mem _ ht)) with z|z
   ·subst z;exact absurd (hy.1 _ ht) (z5J _)
   ·exact z
theorem z68{α:Type}[DecidableEq α]:∀(xs ys:List α),xs.Nodup->(∀x∈xs,x∈ys)->xs.length≤ys.length
 | [],_,_,_=>Nat.zero_le _
 | x::xs,ys,hn,h=>by
  rw[List.nodup_cons]at hn;have hx:=h x List.mem_cons_self
  have ih:=z68 xs (ys.erase x) hn.2 fun y hy=>(List.mem_erase_of_ne (fun e:y=x=>hn.1 (e▸hy))).mpr (h y (List.mem_cons_of_mem _ hy))
  rw[List.length_erase_of_mem hx]at ih
  have:0<ys.length:=List.length_pos_of_mem hx
  rw[List.length_cons];omega
noncomputable def z0B(m:Nat)(cl:Nat->Nat->Bool)(k:Nat):List Tie:=(List.range k).flatMap fun i=>(((List.range (m-(i+1))).map fun q=>i+1+q).filter (cl i)).map fun (j:Nat)=>((i:Int),(j:Int))
noncomputable def Z6(cl:Nat->Nat->Bool)(k:Nat):List Tie:=(List.range k).flatMap fun j=>((List.range j).filter fun i=>cl i j).map fun (i:Nat)=>((i:Int),(j:Int))
theorem z25{m k:Nat}{cl:Nat->Nat->Bool}{t:Tie}:t∈z0B m cl k↔∃i j:Nat,t=((i:Int),(j:Int))/\i<k/\i<j/\j<m/\cl i j=true:=by
 unfold z0B;rw[List.mem_flatMap];constructor
 ·rintro ⟨i,hi,h⟩
  obtain⟨j,hj,rfl⟩:=List.mem_map.mp h;obtain⟨hj1,hj2⟩:=List.mem_filter.mp hj;obtain⟨q,hq,rfl⟩:=List.mem_map.mp hj1
  have:=List.mem_range.mp hi
  have:=List.mem_range.mp hq
  exact⟨i,i+1+q,rfl,by omega,by omega,by omega,hj2⟩
 ·rintro ⟨i,j,rfl,h1,h2,h3,h4⟩
  refine⟨i,List.mem_range.mpr h1,List.mem_map.mpr ⟨j,List.mem_filter.mpr ⟨List.mem_map.mpr ⟨j-(i+1),List.mem_range.mpr (by omega),by omega⟩,h4⟩,rfl⟩⟩
theorem z31{k:Nat}{cl:Nat->Nat->Bool}{t:Tie}:t∈Z6 cl k↔∃i j:Nat,t=((i:Int),(j:Int))/\i<j/\j<k/\cl i j=true:=by
 unfold Z6;rw[List.mem_flatMap];constructor
 ·rintro ⟨j,hj,h⟩
  obtain⟨i,hi,rfl⟩:=List.mem_map.mp h;obtain⟨hi1,hi2⟩:=List.mem_filter.mp hi
  exact⟨i,j,rfl,List.mem_range.mp hi1,List.mem_range.mp hj,hi2⟩
 ·rintro ⟨i,j,rfl,h1,h2,h3⟩
  exact⟨j,List.mem_range.mpr h2,List.mem_map.mpr ⟨i,List.mem_filter.mpr ⟨List.mem_range.mpr h1,h3⟩,rfl⟩⟩
theorem y2Y(m k:Nat)(cl:Nat->Nat->Bool):(z0B m cl k).Pairwise tlt:=by
 unfold z0B;rw[List.pairwise_flatMap]
 refine⟨fun i _=>?_,?_⟩
 ·rw[List.pairwise_map];refine List.Pairwise.filter _ ?_;rw[List.pairwise_map]
  exact List.pairwise_lt_range.imp fun {a b} h=>by unfold tlt;dsimp only;omega
 ·refine List.pairwise_lt_range.imp fun {a b} h x hx y hy=>?_
  obtain⟨p,_,rfl⟩:=List.mem_map.mp hx;obtain⟨q,_,rfl⟩:=List.mem_map.mp hy;unfold tlt;dsimp only;omega
theorem z5B(k:Nat)(cl:Nat->Nat->Bool):(Z6 cl k).Nodup:=by
 unfold Z6 List.Nodup;rw[List.pairwise_flatMap]
 refine⟨fun j _=>?_,?_⟩
 ·rw[List.pairwise_map];refine List.Pairwise.filter _ ?_
  exact List.pairwise_lt_range.imp fun {a b} h z=>by have:=(Prod.mk.inj z).1;omega
 ·refine List.pairwise_lt_range.imp fun {a b} h x hx y hy z=>?_
  obtain⟨p,_,rfl⟩:=List.mem_map.mp hx;obtain⟨q,_,rfl⟩:=List.mem_map.mp hy
  have:=(Prod.mk.inj z).2
  omega
theorem y5Z(m:Nat)(cl:Nat->Nat->Bool):z7V (Z6 cl m)=z0B m cl m:=by
 refine y08 (y62 _ (z5B m cl)) (y2Y m m cl) fun t=>?_
 rw[(z3J _).mem_iff,z31,z25];constructor
 ·rintro ⟨i,j,h1,h2,h3,h4⟩;exact⟨i,j,h1,by omega,h2,h3,h4⟩
 ·rintro ⟨i,j,h1,h2,h3,h4,h5⟩;exact⟨i,j,h1,h3,h4,h5⟩
noncomputable def k15:List Tie:=[(0,1),(0,2),(0,3),(0,4),(0,5),(1,2),(1,3),(1,4),(1,5),(2,3),(2,4),(2,5),(3,4),(3,5),(4,5)]
theorem x14{t:Tie}(h:0≤t.1/\t.1<t.2/\t.2<6):t∈k15:=by
 obtain⟨a,b⟩:=t;dsimp only at h
 have ha:a=0∨a=1∨a=2∨a=3∨a=4:=by omega
 have hb:b=1∨b=2∨b=3∨b=4∨b=5:=by omega
 rcases ha with rfl|rfl|rfl|rfl|rfl<;>rcases hb with rfl|rfl|rfl|rfl|rfl<;>first|(exfalso;omega)|decide
noncomputable def dis(s t:Tie):Bool:=decide (tlt s t)&&!((decide (s.1=t.1)||decide (s.1=t.2))||(decide (s.2=t.1)||decide (s.2=t.2)))
noncomputable def k45:List (Tie×Tie):=k15.flatMap fun s=>(k15.filter (dis s)).map fun t=>(s,t)
theorem x92:k45.length=45:=by decide +kernel
noncomputable def z7K(r:List Int)(ts:List Tie)(i:Nat):Tie:=z39 r (ts.getD i (0,0))
noncomputable def clP(r:List Int)(ts:List Tie)(w:Str)(i j:Nat):Bool:=lie (z7K r ts i) (z7K r ts j)==w
theorem z6V{r:List Int}{ts:List Tie}{i:Nat}{s:Tie}(h:ts[i]?=some s):z7K r ts i=z39 r s:=by
 unfold z7K;rw[List.getD_eq_getElem?_getD,h];rfl
theorem x5N{r:List Int}{ts:List Tie}{j:Nat}(h:j<ts.length):atI (ts.map fun t=>W8 (z39 r t)) (j:Int)=some (W8 (z7K r ts j)):=by
 unfold atI;rw[List.length_map,z78 h]
 show (ts.map fun t=>W8 (z39 r t))[j]?=_
 rw[List.getElem?_map,List.getElem?_eq_getElem h,z6V (List.getElem?_eq_getElem h)];rfl
theorem y77{r:List Int}{p q:Int}(hp:p∈r)(hq:q∈r)(h:p≠q):ixI r p≠ixI r q:=fun e=>by
 have e':r.idxOf p=r.idxOf q:=by unfold ixI at e;omega
 have l1:r.idxOf p<r.length:=List.idxOf_lt_length_of_mem hp;have l2:r.idxOf q<r.length:=List.idxOf_lt_length_of_mem hq
 have g1:r[r.idxOf p]?=some p:=by rw[List.getElem?_eq_getElem l1,List.getElem_idxOf]
 have g2:r[r.idxOf q]?=some q:=by rw[List.getElem?_eq_getElem l2,List.getElem_idxOf]
 rw[e',g2]at g1;exact h (Option.some.inj g1).symm
theorem y73{r:List Int}{p:Int}(hr:r.length≤6)(h:p∈r):0≤ixI r p/\ixI r p<6:=by
 unfold ixI
 have:=List.idxOf_lt_length_of_mem h
 omega
theorem x0V{r:List Int}{s t:Tie}(hr:r.length≤6)(hs:s.1∈r/\s.2∈r)(ht:t.1∈r/\t.2∈r)(h1:s.1≠s.2)(h2:t.1≠t.2):z8Y (ixI r s.1) (ixI r s.2) (ixI r t.1) (ixI r t.2)=lie (z39 r s) (z39 r t) :=
 (x8U (y77 hs.1 hs.2 h1) (y77 ht.1 ht.2 h2) (y73 hr hs.1) (y73 hr hs.2) (y73 hr ht.1) (y73 hr ht.2)).symm
noncomputable def KW(k w:Str):Prop:=(k = "pile"/\w = "cross")∨(k = "queue"/\w = "within")
theorem KW.meet{k w:Str}(h:KW k w):(("meet":Str)==w)=false:=by
 rcases h with⟨rfl,rfl⟩|⟨rfl,rfl⟩<;>decide +kernel
theorem z6A(cl:Nat->Nat->Bool)(k:Nat):Z6 cl (k+1)=Z6 cl k++((List.range k).filter fun i=>cl i k).map fun (i:Nat)=>((i:Int),(k:Int)):=by
 unfold Z6;rw[List.range_succ,List.flatMap_append,List.flatMap_singleton]
theorem z7P(cl:Nat->Nat->Bool):∀k,k≤12->(Z6 cl k).length≤k*12
 | 0,_=>by unfold Z6;simp
 | k+1,h=>by
  have ih:=z7P cl k (by omega)
  rw[z6A,List.length_append,List.length_map]
  have:=List.length_filter_le (fun i=>cl i k) (List.range k)
  rw[List.length_range]at this;omega
theorem few{ts:List Tie}{r:List Int}{k w:Str}(hr:r.length≤6)(hmem:∀t∈ts,t.1∈r/\t.2∈r)(hkw:KW k w)(hup:ts.Pairwise tlt)(hok:∀t∈ts,0≤t.1/\t.1<t.2/\t.2<6):(Z6 (clP r ts w) ts.length).length≤45:=by
 let f:Tie->Tie×Tie:=fun p=>(ts.getD p.1.toNat (0,0),ts.getD p.2.toNat (0,0))
 have at_:∀{i:Nat} (h:i<ts.length),ts.getD i (0,0)=ts[i]:=fun {i} h=>by rw[List.getD_eq_getElem?_getD,List.getElem?_eq_getElem h];rfl
 have hlt:∀{i j:Nat} (hj:j<ts.length) (h:i<j),tlt (ts[i]'(by omega)) ts[j]:=fun {i j} hj h=>List.pairwise_iff_getElem.mp hup i j (by omega) hj h
 have inj:∀{i j:Nat} (hi:i<ts.length) (hj:j<ts.length),ts[i]=ts[j]->i=j:=fun {i j} hi hj e=>by
  rcases Nat.lt_trichotomy i j with h|h|h
  ·have:=hlt hj h;rw[e]at this;exact absurd this (z5J _)
  ·exact h
  ·have:=hlt hi h;rw[e]at this;exact absurd this (z5J _)
 have hn:((Z6 (clP r ts w) ts.length).map f).Nodup:=by
  rw[List.Nodup,List.pairwise_map]
  refine (z5B ts.length (clP r ts w)).imp_of_mem fun {p q} hp hq hne e=>hne ?_
  obtain⟨i,j,rfl,h1,h2,_⟩:=z31.mp hp;obtain⟨i',j',rfl,h1',h2',_⟩:=z31.mp hq;have e1:ts.getD i (0,0)=ts.getD i' (0,0):=(Prod.mk.inj e).1;have e2:ts.getD j (0,0)=ts.getD j' (0,0):=(Prod.mk.inj e).2
  rw[at_ (by omega),at_ (by omega)]at e1
  rw[at_ h2,at_ h2']at e2;rw[inj _ _ e1,inj _ _ e2]
 have hm:∀x∈(Z6 (clP r ts w) ts.length).map f,x∈k45:=fun x hx=>by
  obtain⟨p,hp,rfl⟩:=List.mem_map.mp hx;obtain⟨i,j,rfl,h1,h2,hc⟩:=z31.mp hp
  show (ts.getD i (0,0),ts.getD j (0,0))∈k45
  have hs:=hok _ (List.getElem_mem (show i<ts.length by omega))
  have ht:=hok _ (List.getElem_mem h2)
  have hd:dis (ts.getD i (0,0)) (ts.getD j (0,0))=true:=by
   unfold dis
   rw[at_ (by omega),at_ h2,decide_eq_true (hlt h2 h1),Bool.true_and]
   cases hh:((decide ((ts[i]'(by omega)).1=ts[j].1)||decide ((ts[i]'(by omega)).1=ts[j].2))||(decide ((ts[i]'(by omega)).2=ts[j].1)||decide ((ts[i]'(by omega)).2=ts[j].2))) with
   | false=>rfl
   | true =>
    exfalso;simp only[Bool.or_eq_true,decide_eq_true_eq]at hh;unfold clP at hc
    rw[z6V (List.getElem?_eq_getElem (show i<ts.length by omega)),z6V (List.getElem?_eq_getElem h2)]at hc
    have hmeet:lie (z39 r (ts[i]'(by omega))) (z39 r ts[j]) = "meet":=by
     rw[←x0V hr (hmem _ (List.getElem_mem _)) (hmem _ (List.getElem_mem _)) (fun z=>by omega) (fun z=>by omega)]
     unfold z8Y;rw[if_pos]
     rcases hh with (z|z)|(z|z)
     ·exact .inl (by rw[z])
     ·exact .inr (.inl (by rw[z]))
     ·exact .inr (.inr (.inl (by rw[z])))
     ·exact .inr (.inr (.inr (by rw[z])))
    rw[hmeet,hkw.meet]at hc;cases hc
  unfold k45;rw[List.mem_flatMap]
  refine⟨_,x14 (by rw[at_ (by omega)];exact hs),List.mem_map.mpr ⟨_,List.mem_filter.mpr ⟨x14 (by rw[at_ h2];exact ht),hd⟩,rfl⟩⟩
 have:=z68 _ _ hn hm
 rw[List.length_map,x92]at this;exact this
noncomputable def x6J:y0->Option Out:=x9L 4 (Q0 [none,some 5,some 0,some 1,some 3] (z2W (z6 5)) (w8 0) (x5 (d2 dEq (v6 z4S (z8 (z6 2) (z8 (z6 3) (z8 (z6 0) (z8 (z6 1) (u9)))))) (z6 4))) (z2V (z8 (z6 0) (z8 (z6 1) (u9)))))
theorem x0U{n:Int}{ts:List Tie}{r:List Int}{k w:Str}{j:Nat}{found:List Tie}(hr:r.length≤6)(hj:j<ts.length)(hm:ts.length≤12)(hf:found.length≤1000)(hmem:∀t∈ts,t.1∈r/\t.2∈r)(hne:∀t∈ts,t.1≠t.2) :
  x6J [some (.sh (Q1 n ts)),some (.sh (.tup (r.map D.int))),some (.sh (.str k)),some (.sh (.str w)),some (.ow (found.map W8)),some (.sh (.int (j:Int)))] =
   some (.nx [some (.sh (Q1 n ts)),some (.sh (.tup (r.map D.int))),some (.sh (.str k)),some (.sh (.str w)),some (.ow ((found++((List.range j).filter fun i=>clP r ts w i j).map fun (i:Nat)=>((i:Int),(j:Int))).map W8)),some (.sh (.int (j:Int)))]):=by
 have e1:Q0 [none,some 5,some 0,some 1,some 3] (z2W (z6 5)) (w8 0) (x5 (d2 dEq (v6 z4S (z8 (z6 2) (z8 (z6 3) (z8 (z6 0) (z8 (z6 1) (u9)))))) (z6 4))) (z2V (z8 (z6 0) (z8 (z6 1) (u9))))
   [some (.sh (Q1 n ts)),some (.sh (.tup (r.map D.int))),some (.sh (.str k)),some (.sh (.str w)),some (.ow (found.map W8)),some (.sh (.int (j:Int)))]=some ((((List.range j).filter fun i=>clP r ts w i j).map fun (i:Nat)=>((i:Int),(j:Int))).map W8):=by
  have e0:z2W (z6 5) [some (.sh (Q1 n ts)),some (.sh (.tup (r.map D.int))),some (.sh (.str k)),some (.sh (.str w)),some (.ow (found.map W8)),some (.sh (.int (j:Int)))]=some ((List.range j).map fun (i:Nat)=>D.int (i:Int)):=by
   rw[z5Q (j:=(j:Int)) rfl (by unfold okR;rw[decide_eq_true (by omega),decide_eq_true (by omega)];rfl),Int.toNat_natCast]
   unfold J0
   congr 1
   refine List.map_congr_left fun q _=>?_
   rw[Int.zero_add]
  refine (z0M e0 (by rw[List.length_map,List.length_range];unfold LIM;omega)).trans ?_
  refine (K4 (fun ρ=>∃c0,ρ=[c0,some (.sh (.int (j:Int))),some (.sh (Q1 n ts)),some (.sh (.tup (r.map D.int))),some (.sh (.str w))]) (fun d=>match d with|.int i=>clP r ts w i.toNat j|_=>false) (fun d=>.tup [d,.int (j:Int)]) _ _ ⟨none,rfl⟩ ?_).trans ?_
  ·rintro d hd ρ ⟨c0,rfl⟩
   obtain⟨i,hi,rfl⟩:=List.mem_map.mp hd
   have hi':i<ts.length:=by have:=List.mem_range.mp hi;omega
   refine⟨_,rfl,⟨_,rfl⟩,v8 ?_,fun _=>z7R (ds:=[.int (i:Int),.int (j:Int)]) rfl (show 2≤LIM by decide)⟩
   have gi:=List.getElem?_eq_getElem hi';have gj:=List.getElem?_eq_getElem hj;have mi:=List.getElem_mem hi';have mj:=List.getElem_mem hj;have hF:=y89 (n:=n) (r:=r) gi gj (hmem _ mi) (hmem _ mj);rw[x0V hr (hmem _ mi) (hmem _ mj) (hne _ mi) (hne _ mj),←z6V (r:=r) gi,←z6V (r:=r) gj]at hF;refine (z2U (x:=.str (lie (z7K r ts i) (z7K r ts j))) (y:=.str w) ((u7 (ds:=[Q1 n ts,.tup (r.map D.int),.int (i:Int),.int (j:Int)]) rfl).trans hF) rfl).trans ?_
   show some (D.bl (clP r ts w i j))=some (D.bl (clP r ts w (i:Int).toNat j))
   rw[Int.toNat_natCast]
  ·rw[List.filter_map,List.map_map,List.map_map];rfl
 refine (w3L (ds:=found.map W8) rfl e1 ?_).trans ?_
 ·rw[List.length_map,List.length_map,List.length_map]
  have:=List.length_filter_le (fun i=>clP r ts w i j) (List.range j)
  rw[List.length_range]at this;unfold LIM;omega
 ·rw[List.map_append];rfl
theorem z84{n:Int}{ts:List Tie}{r:List Int}{k w:Str}(hr:r.length≤6)(hkw:KW k w)(hm:ts.length≤12)(hup:ts.Pairwise tlt)(hok:∀t∈ts,0≤t.1/\t.1<t.2/\t.2<6)(hmem:∀t∈ts,t.1∈r/\t.2∈r) :
  z2D [Q1 n ts,.tup (r.map D.int),.str k]=some (.lst ((z0B ts.length (clP r ts w) ts.length).map W8)):=by
 have hne:∀t∈ts,t.1≠t.2:=fun t ht=>by have:=hok t ht;omega
 obtain⟨ρ',l1,c5,rfl⟩:=y1G (h:=w8 5) (g:=x6J) (fun pre ρ=>∃c5,ρ=[some (.sh (Q1 n ts)),some (.sh (.tup (r.map D.int))),some (.sh (.str k)),some (.sh (.str w)),some (.ow ((Z6 (clP r ts w) pre.length).map W8)),c5])
  (ds:=J0 0 ts.length) (ρ:=[some (.sh (Q1 n ts)),some (.sh (.tup (r.map D.int))),some (.sh (.str k)),some (.sh (.str w)),some (.ow []),none]) ⟨none,rfl⟩ (fun pre d post ρ he hI=>by
   obtain⟨c5,rfl⟩:=hI;have hlen:=congrArg List.length he;rw[z3P,List.length_append,List.length_cons]at hlen
   have hd:d = .int (pre.length:Int):=by
    have h1:(J0 0 ts.length)[pre.length]?=some d:=by rw[←he];simp
    rw[x1X (by omega)]at h1
    exact (Option.some.inj h1).symm
   subst hd
   refine⟨_,_,rfl,.inl (x0U (found:=Z6 (clP r ts w) pre.length) hr (by omega) hm ?_ hmem hne),⟨some (.sh (.int (pre.length:Int))),?_⟩⟩
   ·have:=z7P (clP r ts w) pre.length (by omega)
    omega
   ·rw[List.length_append,List.length_singleton,z6A])
 rw[z3P]at l1
 have e3:dIx (z5T (z8 (dC (.str "cross")) (z8 (dC (.str "within")) (u9)))) (v6 x2W (z8 (d2 dEq (z6 2) (dC (.str "queue"))) u9)) [some (.sh (Q1 n ts)),some (.sh (.tup (r.map D.int))),some (.sh (.str k)),none,none,none]=some (.str w):=by
  refine (z57 (ds:=[.str "cross",.str "within"]) (j:=if k=="queue" then 1 else 0) (z4D rfl (show 2≤LIM by decide)) ?_).trans ?_
  ·refine (u7 (ds:=[.bl (k=="queue")]) rfl).trans ?_
   rcases hkw with⟨rfl,rfl⟩|⟨rfl,rfl⟩
   ·rw[show (("pile":Str)=="queue")=false by decide +kernel];rfl
   ·rw[show (("queue":Str)=="queue")=true by decide +kernel];rfl
  ·rcases hkw with⟨rfl,rfl⟩|⟨rfl,rfl⟩
   ·rw[show (("pile":Str)=="queue")=false by decide +kernel];rfl
   ·rw[show (("queue":Str)=="queue")=true by decide +kernel];rfl
 have fin:z28 [some (.sh (Q1 n ts)),some (.sh (.tup (r.map D.int))),some (.sh (.str k)),none,none,none]=some (.rt (.lst ((z0B ts.length (clP r ts w) ts.length).map W8))):=by
  refine x9 (r:=.rt .non) (j4 e3) ?_
  refine x9 (r:=.rt .non) (y1N (ds:=[]) (z4D (ds:=[]) rfl (by decide))) ?_
  refine x9 (r:=.rt .non) ((z1T (ds:=J0 0 ts.length) ?_).trans l1) ?_
  ·have e4:=z5Q (fa:=z09 (dSq (dIx (dSq (z6 0)) (dC (.int 1))))) (ρ:=[some (.sh (Q1 n ts)),some (.sh (.tup (r.map D.int))),some (.sh (.str k)),some (.sh (.str w)),some (.ow []),none]) (j:=((ts.map W8).length:Int)) rfl (by rw[List.length_map];unfold okR;rw[decide_eq_true (by omega),decide_eq_true (by omega)];rfl)
   rw[List.length_map,Int.toNat_natCast]at e4;exact e4
  ·refine z0V (z1S ((y1P (ds:=(Z6 (clP r ts w) ts.length).map W8) rfl).trans ?_))
   rw[y0C (by have:=few (r:=r) hr hmem hkw hup hok;omega),y5Z]
 show z5M (z28 [some (.sh (Q1 n ts)),some (.sh (.tup (r.map D.int))),some (.sh (.str k)),none,none,none])=_
 rw[fin];rfl
theorem x4I(s t:Tie):lie s t=lie t s:=by
 unfold lie;by_cases h:s.1=t.1∨s.1=t.2∨s.2=t.1∨s.2=t.2
 ·rw[if_pos h,if_pos (by omega)]
 ·have h':¬(t.1=s.1∨t.1=s.2∨t.2=s.1∨t.2=s.2):=by omega
  rw[if_neg h,if_neg h']
  rcases z8N s t with z|z|z
  ·have z':¬tlt t s:=fun q=>z89 z q
   rw[if_neg z',if_pos z,if_pos z,if_neg z']
  ·subst z;exact absurd (.inl rfl) h
  ·have z':¬tlt s t:=fun q=>z89 z q
   rw[if_pos z,if_neg z',if_neg z',if_pos z]
theorem x6F{s t:Tie}(h:tlt s t):lie s t=(if s.1=t.1∨s.1=t.2∨s.2=t.1∨s.2=t.2 then ("meet":Str) else if s.2<t.1 then ("apart":Str) else if s.2<t.2 then ("cross":Str) else ("within":Str):Str):=by
 unfold lie
 rw[if_neg (fun q=>z89 h q),if_pos h]
theorem y5X{s t:Tie}(h:tlt s t):s.1≤t.1:=by unfold tlt at h;omega
theorem y37{s t:Tie}(h:tlt s t)(hs:s.1<s.2)(ht:t.1<t.2):lie s t = "cross"↔(s.1<t.1/\t.1<s.2/\s.2<t.2):=by
 have hl:=y5X h;rw[x6F h];by_cases h1:s.1=t.1∨s.1=t.2∨s.2=t.1∨s.2=t.2
 ·rw[if_pos h1]
  exact⟨fun e=>absurd e (by decide),fun e=>by omega⟩
 ·rw[if_neg h1];by_cases h2:s.2<t.1
  ·rw[if_pos h2]
   exact⟨fun e=>absurd e (by decide),fun e=>by omega⟩
  ·rw[if_neg h2];by_cases h3:s.2<t.2
   ·rw[if_pos h3]
    exact⟨fun _=>by omega,fun _=>rfl⟩
   ·rw[if_neg h3]
    exact⟨fun e=>absurd e (by decide),fun e=>by omega⟩
theorem y0J{s t:Tie}(h:tlt s t)(hs:s.1<s.2)(ht:t.1<t.2):lie s t = "within"↔(s.1<t.1/\t.2<s.2):=by
 have hl:=y5X h;rw[x6F h];by_cases h1:s.1=t.1∨s.1=t.2∨s.2=t.1∨s.2=t.2
 ·rw[if_pos h1]
  exact⟨fun e=>absurd e (by decide),fun e=>by omega⟩
 ·rw[if_neg h1];by_cases h2:s.2<t.1
  ·rw[if_pos h2]
   exact⟨fun e=>absurd e (by decide),fun e=>by omega⟩
  ·rw[if_neg h2];by_cases h3:s.2<t.2
   ·rw[if_pos h3]
    exact⟨fun e=>absurd e (by decide),fun e=>by omega⟩
   ·rw[if_neg h3]
    exact⟨fun _=>by omega,fun _=>rfl⟩
structure Lay(n:Int)(ts:List Tie)(r:List Int):Prop where
 up:ts.Pairwise tlt
 ok:∀t∈ts,0≤t.1/\t.1<t.2/\t.2<n
 nd:r.Nodup
 len:(r.length:Int)=n
 mem:∀t∈ts,t.1∈r/\t.2∈r
 n6:n≤6
 m12:ts.length≤12
section
variable{n:Int}{ts:List Tie}{r:List Int}{k w:Str}
theorem Lay.rl(h:Lay n ts r):r.length≤1000:=by have:=h.len;have:=h.n6;omega
theorem Lay.hm'(h:Lay n ts r):ts.length≤1000:=by have:=h.m12;omega
theorem w3D(r:List Int)(p:Int):0≤ixI r p:=by unfold ixI;omega
theorem w3E{r:List Int}{p:Int}(h:p∈r):ixI r p<(r.length:Int):=by
 unfold ixI
 have:=List.idxOf_lt_length_of_mem h
 omega
theorem Lay.sp(h:Lay n ts r){i:Nat}(hi:i<ts.length):∃t∈ts,ts[i]?=some t/\z7K r ts i=z39 r t :=
 ⟨ts[i],List.getElem_mem hi,List.getElem?_eq_getElem hi,z6V (List.getElem?_eq_getElem hi)⟩
theorem Lay.sp_ok(h:Lay n ts r){i:Nat}(hi:i<ts.length):0≤(z7K r ts i).1/\(z7K r ts i).1<(z7K r ts i).2/\(z7K r ts i).2<n:=by
 obtain⟨t,ht,_,e⟩:=h.sp hi;rw[e];unfold z39;dsimp only;have hm:=h.mem t ht
 have hne:=y77 hm.1 hm.2 (by have:=h.ok t ht;omega)
 have a1:=w3D r t.1;have a2:=w3D r t.2;have b1:=w3E hm.1;have b2:=w3E hm.2
 have:=h.len
 omega
theorem y74{r:List Int}{p q:Int}(hp:p∈r)(hq:q∈r)(e:ixI r p=ixI r q):p=q:=by
 by_cases h:p=q
 ·exact h
 ·exact absurd e (y77 hp hq h)
theorem w56{a b c d:Int}(h1:min a b=min c d)(h2:max a b=max c d):(a=c/\b=d)∨(a=d/\b=c):=by
 rcases Int.le_total a b with x|x<;>rcases Int.le_total c d with y|y
 ·rw[Int.min_eq_left x,Int.min_eq_left y]at h1;rw[Int.max_eq_right x,Int.max_eq_right y]at h2;exact .inl ⟨h1,h2⟩
 ·rw[Int.min_eq_left x,Int.min_eq_right y]at h1;rw[Int.max_eq_right x,Int.max_eq_left y]at h2;exact .inr ⟨h1,h2⟩
 ·rw[Int.min_eq_right x,Int.min_eq_left y]at h1;rw[Int.max_eq_left x,Int.max_eq_right y]at h2;exact .inr ⟨h2,h1⟩
 ·rw[Int.min_eq_right x,Int.min_eq_right y]at h1;rw[Int.max_eq_left x,Int.max_eq_left y]at h2;exact .inl ⟨h2,h1⟩
theorem Lay.sp_inj(h:Lay n ts r){i j:Nat}(hi:i<ts.length)(hj:j<ts.length)(e:z7K r ts i=z7K r ts j):i=j:=by
 obtain⟨s,hs,gs,es⟩:=h.sp hi;obtain⟨t,ht,gt,et⟩:=h.sp hj;rw[es,et]at e;unfold z39 at e;have e1:=congrArg Prod.fst e;have e2:=congrArg Prod.snd e;dsimp only at e1 e2;have ms:=h.mem s hs;have mt:=h.mem t ht;have os:=h.ok s hs;have ot:=h.ok t ht;have hc:(ixI r s.1=ixI r t.1/\ixI r s.2=ixI r t.2)∨(ixI r s.1=ixI r t.2/\ixI r s.2=ixI r t.1):=w56 e1 e2
 have est:s=t:=by
  rcases hc with⟨c1,c2⟩|⟨c1,c2⟩
  ·exact Prod.ext (y74 ms.1 mt.1 c1) (y74 ms.2 mt.2 c2)
  ·have q1:=y74 ms.1 mt.2 c1;have q2:=y74 ms.2 mt.1 c2;omega
 subst est;have gi:=(List.getElem?_eq_some_iff.mp gs).2;have gj:=(List.getElem?_eq_some_iff.mp gt).2;have pw:=List.pairwise_iff_getElem.mp h.up
 rcases Nat.lt_trichotomy i j with q|q|q
 ·have:=pw i j hi hj q
  rw[gi,gj]at this;exact absurd this (z5J _)
 ·exact q
 ·have:=pw j i hj hi q
  rw[gi,gj]at this;exact absurd this (z5J _)
theorem x9P{i j:Nat}:clP r ts w i j=true↔lie (z7K r ts i) (z7K r ts j)=w:=by unfold clP;exact beq_iff_eq
end
noncomputable def tk(q:Bool)(k:Nat)(l:List Int):List Int:=if q=true then l.take k else l.drop (l.length-k)
noncomputable def lf(q:Bool)(k:Nat)(l:List Int):List Int:=if q=true then l.drop k else l.take (l.length-k)
theorem w44(q:Bool)(k:Nat)(l:List Int):(lf q k l++tk q k l).Perm l:=by
 unfold lf tk
 cases q with
 | true =>
  rw[if_pos rfl,if_pos rfl];refine List.perm_append_comm.trans ?_;rw[List.take_append_drop]
 | false =>
  rw[if_neg (by decide),if_neg (by decide),List.take_append_drop]
theorem x6G(q:Bool)(k:Nat)(l:List Int):(lf q k l).Sublist l:=by
 unfold lf
 cases q with
 | true=>rw[if_pos rfl];exact List.drop_sublist _ _
 | false=>rw[if_neg (by decide)];exact List.take_sublist _ _
theorem w08(q:Bool)(k:Nat)(l:List Int):(tk q k l).Sublist l:=by
 unfold tk
 cases q with
 | true=>rw[if_pos rfl];exact List.take_sublist _ _
 | false=>rw[if_neg (by decide)];exact List.drop_sublist _ _
theorem w09{q:Bool}{k:Nat}{l:List Int}(h:k≤l.length):(tk q k l).length=k:=by
 unfold tk
 cases q with
 | true=>rw[if_pos rfl,List.length_take];omega
 | false=>rw[if_neg (by decide),List.length_drop];omega
noncomputable def z2S(q:Bool)(held E:List Int):Option (List Int):=if E.length≤held.length/\z2R (tk q E.length held)=E then some (lf q E.length held) else none
theorem z75{q:Bool}{held E left:List Int}(h:z2S q held E=some left):(tk q E.length held).Perm E/\left=lf q E.length held/\E.length≤held.length:=by
 unfold z2S at h;split at h
 ·rename_i c
  refine⟨?_,(Option.some.inj h).symm,c.1⟩
  have:=(z1G (tk q E.length held)).symm
  rw[c.2]at this;exact this
 ·cases h
theorem y4L{xs E:List Int}(hp:xs.Perm E)(hE:E.Pairwise (· < ·)):z2R xs=E :=
 z4U (le:=fun a b:Int=>a≤b) (fun a b h1 h2=>by omega) ((z1G xs).trans hp) (y64 xs) (hE.imp fun {a b} h=>by omega) fun a=>Int.le_refl a
theorem x4K{q:Bool}{held E:List Int}(hp:(tk q E.length held).Perm E)(hE:E.Pairwise (· < ·))(hl:E.length≤held.length):z2S q held E=some (lf q E.length held):=by
 unfold z2S;rw[if_pos ⟨hl,y4L hp hE⟩]
section
variable(S:List Int)(lo hi:Int->Int)
noncomputable def Q3(s:Int):List Int:=S.filter fun x=>hi x==s
noncomputable def Q5(s:Int):List Int:=S.filter fun x=>lo x==s
noncomputable def z2T(q:Bool)(B:List Int):List Int:=if q=true then B.mergeSort (fun a b=>decide (hi a≤hi b)) else (B.mergeSort (fun a b=>decide (hi a≤hi b))).reverse
noncomputable def z3I(q:Bool)(held E B t:List Int):Bool:=match z2S q held E with
 | none=>false
 | some left=>(t.take left.length==left)&&(z2R (t.drop left.length)==B)
noncomputable def chk(q:Bool):Int->List Int->List (List Int)->Bool
 | _,_,[]=>true
 | s,held,t::tl=>z3I q held (Q3 S hi s) (Q5 S lo s) t&&chk q (s+1) t tl
noncomputable def z71(q:Bool):Int->List Int->Nat->Option (List (List Int))
 | _,_,0=>some []
 | s,held,k+1=>match z2S q held (Q3 S hi s) with
  | none=>none
  | some left=>match z71 q (s+1) (left++z2T hi q (Q5 S lo s)) k with
   | none=>none
   | some L=>some ((left++z2T hi q (Q5 S lo s))::L)
structure Web(n:Int):Prop where
 up:S.Pairwise (· < ·)
 lt:∀x∈S,lo x<hi x
 lo0:∀x∈S,0≤lo x
 hin:∀x∈S,hi x<n
 inj:∀x∈S,∀y∈S,lo x=lo y->hi x=hi y->x=y
structure Inv8(s:Int)(held:List Int):Prop where
 nd:held.Nodup
 mem:∀x,x∈held↔x∈S/\lo x<s/\s≤hi x
end
section
variable{S:List Int}{lo hi:Int->Int}{n s:Int}{q:Bool}{held left:List Int}
theorem y59(W:Web S lo hi n)(s:Int):(Q3 S hi s).Pairwise (· < ·):=W.up.sublist List.filter_sublist
theorem y5K(W:Web S lo hi n)(s:Int):(Q5 S lo s).Pairwise (· < ·):=W.up.sublist List.filter_sublist
theorem x38{l:List Int}(h:l.Pairwise (· < ·)):l.Nodup:=h.imp fun {a b} h=>by omega
theorem z3Z{x:Int}:x∈Q3 S hi s↔x∈S/\hi x=s:=by unfold Q3;rw[List.mem_filter,beq_iff_eq]
theorem z2C{x:Int}:x∈Q5 S lo s↔x∈S/\lo x=s:=by unfold Q5;rw[List.mem_filter,beq_iff_eq]
theorem z1O(q:Bool)(B:List Int):(z2T hi q B).Perm B:=by
 unfold z2T;split
 ·exact List.mergeSort_perm _ _
 ·exact (List.reverse_perm _).trans (List.mergeSort_perm _ _)
theorem z32(W:Web S lo hi n):Inv8 S lo hi 0 []:=⟨List.nodup_nil,fun x=>⟨fun h=>by simp at h,fun h=>by have:=W.lo0 x h.1;omega⟩⟩
theorem y1L(W:Web S lo hi n)(I:Inv8 S lo hi s held)(h:z2S q held (Q3 S hi s)=some left):left.Nodup/\(∀x,x∈left↔x∈S/\lo x<s/\s<hi x)/\left.Sublist held:=by
 obtain⟨hp,rfl,hl⟩:=z75 h;have pm:=w44 q (Q3 S hi s).length held;have nd:=List.nodup_append.mp (pm.nodup_iff.mpr I.nd)
 refine⟨nd.1,fun x=>?_,x6G _ _ _⟩
 constructor
 ·intro hx;have h1:=(I.mem x).mp (pm.mem_iff.mp (List.mem_append_left _ hx))
  refine⟨h1.1,h1.2.1,?_⟩
  have:hi x≠s:=fun e=>by
   have:x∈tk q (Q3 S hi s).length held:=hp.mem_iff.mpr (z3Z.mpr ⟨h1.1,e⟩)
   exact nd.2.2 x hx x this rfl
  omega
 ·intro hx
  have h1:=pm.mem_iff.mpr ((I.mem x).mpr ⟨hx.1,hx.2.1,by omega⟩)
  rcases List.mem_append.mp h1 with z|z
  ·exact z
  ·have:=(z3Z.mp (hp.mem_iff.mp z)).2
   omega
theorem z6C(W:Web S lo hi n)(I:Inv8 S lo hi s held)(h:z2S q held (Q3 S hi s)=some left){rest:List Int}(hr:rest.Perm (Q5 S lo s)):Inv8 S lo hi (s+1) (left++rest):=by
 obtain⟨l1,l2,_⟩:=y1L W I h;constructor
 ·rw[List.nodup_append]
  refine⟨l1,hr.nodup_iff.mpr (x38 (y5K W s)),fun a ha b hb e=>?_⟩
  have h1:=(l2 a).mp ha;have h2:=z2C.mp (hr.mem_iff.mp hb);subst e;omega
 ·intro x;rw[List.mem_append,l2,hr.mem_iff,z2C];constructor
  ·rintro (⟨h1,h2,h3⟩|⟨h1,h2⟩)
   ·exact⟨h1,by omega,by omega⟩
   ·have:=W.lt x h1
    exact⟨h1,by omega,by omega⟩
  ·rintro ⟨h1,h2,h3⟩
   by_cases c:lo x=s
   ·exact .inr ⟨h1,c⟩
   ·exact .inl ⟨h1,by omega,by omega⟩
theorem y9J{t:List Int}(h:z3I q held (Q3 S hi s) (Q5 S lo s) t=true):∃left rest,z2S q held (Q3 S hi s)=some left/\t=left++rest/\rest.Perm (Q5 S lo s):=by
 unfold z3I at h;split at h
 ·cases h
 ·rename_i left e;rw[Bool.and_eq_true,beq_iff_eq,beq_iff_eq]at h
  refine⟨left,t.drop left.length,e,?_,?_⟩
  ·have:=List.take_append_drop left.length t
   rw[h.1]at this;exact this.symm
  ·have:=(z1G (t.drop left.length)).symm
   rw[h.2]at this;exact this
theorem x7E(W:Web S lo hi n){rest:List Int}(e:z2S q held (Q3 S hi s)=some left)(hr:rest.Perm (Q5 S lo s)):z3I q held (Q3 S hi s) (Q5 S lo s) (left++rest)=true:=by
 unfold z3I;rw[e];dsimp only;rw[List.take_left,List.drop_left,y4L hr (y5K W s)];simp
theorem y15(W:Web S lo hi n)(I:Inv8 S lo hi s held){t:List Int}(h:z3I q held (Q3 S hi s) (Q5 S lo s) t=true):Inv8 S lo hi (s+1) t:=by
 obtain⟨left,rest,e,rfl,hr⟩:=y9J h;exact z6C W I e hr
theorem x96(W:Web S lo hi n)(I:Inv8 S lo hi n held):held=[]:=by
 cases held with
 | nil=>rfl
 | cons x l =>
  have:=(I.mem x).mp List.mem_cons_self
  have:=W.hin x this.1
  omega
theorem y9W(W:Web S lo hi n):∀(k:Nat) (s:Int) (held:List Int) {L:List (List Int)},Inv8 S lo hi s held->z71 S lo hi q s held k=some L->chk S lo hi q s held L=true/\L.length=k/\∀t∈L,∀x∈t,x∈S
 | 0,s,held,L,I,h=>by
  cases h
  exact⟨rfl,rfl,fun t ht=>by simp at ht⟩
 | k+1,s,held,L,I,h=>by
  unfold z71 at h;split at h
  ·cases h
  ·rename_i left e;split at h
   ·cases h
   ·rename_i L' e';cases h;have I':=z6C W I e (z1O (hi:=hi) q (Q5 S lo s));obtain⟨h1,h2,h3⟩:=y9W W k (s+1) _ I' e'
    refine⟨?_,by rw[List.length_cons,h2],fun t ht x hx=>?_⟩
    ·show (z3I q held _ _ _&&chk S lo hi q (s+1) _ L')=true
     rw[x7E W e (z1O q _),h1];rfl
    ·rcases List.mem_cons.mp ht with z|z
     ·subst z;exact ((I'.mem x).mp hx).1
     ·exact h3 t z x hx
noncomputable def XX(lo hi:Int->Int)(q:Bool)(i j:Int):Prop:=lo i<lo j/\(if q=true then hi j<hi i else lo j<hi i/\hi i<hi j)
noncomputable def w3U(hi:Int->Int)(q:Bool)(i j:Int):Int:=if q=true then hi j else hi i
theorem y9C{f:Int->Int}:∀{l:List Int} {k:Nat} {i j:Int},l.Pairwise (fun x y=>f x≤f y)->i∈l->j∈l.take k->f i<f j->i∈l.take k
 | [],k,i,j,_,h,_,_=>by simp at h
 | a::l,0,i,j,_,_,h,_=>by simp at h
 | a::l,k+1,i,j,hp,hi,hj,hlt=>by
  rw[List.take_succ_cons]at hj ⊢;have hp':=List.pairwise_cons.mp hp
  rcases List.mem_cons.mp hi with z|z
  ·exact z▸List.mem_cons_self
  ·rcases List.mem_cons.mp hj with y|y
   ·subst y
    have:=hp'.1 i z
    omega
   ·exact List.mem_cons_of_mem _ (y9C hp'.2 z y hlt)
theorem x1V{f:Int->Int}:∀{l:List Int} {k:Nat} {i j:Int},l.Pairwise (fun x y=>f x≤f y)->i∈l.drop k->j∈l->f i<f j->j∈l.drop k
 | l,0,i,j,_,_,h,_=>by rw[List.drop_zero];exact h
 | [],k+1,i,j,_,h,_,_=>by simp at h
 | a::l,k+1,i,j,hp,hi,hj,hlt=>by
  rw[List.drop_succ_cons]at hi ⊢;have hp':=List.pairwise_cons.mp hp
  rcases List.mem_cons.mp hj with z|z
  ·subst z
   have:=hp'.1 i (List.mem_of_mem_drop hi)
   omega
  ·exact x1V hp'.2 hi z hlt
theorem y2S(W:Web S lo hi n):∀(k:Nat) (s:Int) (held:List Int) {L:List (List Int)},Inv8 S lo hi s held->held.Pairwise (fun x y=>lo x≤lo y)->s+k=n->z71 S lo hi q s held k=some L->∀i∈S,∀j∈S,XX lo hi q i j->s≤w3U hi q i j->False
 | 0,s,held,L,I,P0,e,h,i,hi',j,hj,X,hs=>by
  have h1:=W.hin i hi';have h2:=W.hin j hj;unfold w3U at hs
  split at hs<;>omega
 | k+1,s,held,L,I,P0,e,h,i,hi',j,hj,X,hs=>by
  unfold z71 at h;split at h
  ·cases h
  ·rename_i left e1;split at h
   ·cases h
   ·rename_i L' e';by_cases c:w3U hi q i j=s
    ·obtain⟨hp,_,hl⟩:=z75 e1;have lj:=W.lt j hj;have li:=W.lt i hi';unfold XX at X;unfold w3U at c
     cases q with
     | true =>
      rw[if_pos rfl]at X c
      have mi:i∈held:=(I.mem i).mpr ⟨hi',by omega,by omega⟩
      have mj:j∈tk true (Q3 S hi s).length held:=hp.mem_iff.mpr (z3Z.mpr ⟨hj,c⟩)
      have:=y9C (f:=lo) P0 mi mj X.1
      have:=(z3Z.mp (hp.mem_iff.mp this)).2
      omega
     | false =>
      rw[if_neg (by decide)]at X c
      have mj:j∈held:=(I.mem j).mpr ⟨hj,by omega,by omega⟩
      have mi:i∈tk false (Q3 S hi s).length held:=hp.mem_iff.mpr (z3Z.mpr ⟨hi',c⟩)
      have:=x1V (f:=lo) P0 mi mj X.1
      have:=(z3Z.mp (hp.mem_iff.mp this)).2
      omega
    ·have I':=z6C W I e1 (z1O (hi:=hi) q (Q5 S lo s));obtain⟨l1,l2,l3⟩:=y1L W I e1
     refine y2S W k (s+1) _ I' ?_ (by omega) e' i hi' j hj X (by omega)
     rw[List.pairwise_append]
     have hb:∀x∈z2T hi q (Q5 S lo s),lo x=s:=fun x hx=>(z2C.mp ((z1O q _).mem_iff.mp hx)).2
     refine⟨P0.sublist l3,?_,fun a ha b hb'=>by have:=(l2 a).mp ha;have:=hb b hb';omega⟩
     exact List.pairwise_of_forall_mem_list fun a ha b hb'=>by rw[hb a ha,hb b hb'];exact Int.le_refl _
noncomputable def RR(hi:Int->Int)(q:Bool)(x y:Int):Prop:=if q=true then hi x≤hi y else hi y≤hi x
theorem y9K{s:Int}:∀{l:List Int},l.Pairwise (fun x y=>hi x≤hi y)->(∀x∈l,s≤hi x)->l=l.filter (fun x=>hi x==s)++l.filter (fun x=>!(hi x==s))
 | [],_,_=>rfl
 | a::l,hp,hs=>by
  have hp':=List.pairwise_cons.mp hp;by_cases c:hi a=s
  ·have ih:=y9K hp'.2 fun x hx=>hs x (List.mem_cons_of_mem _ hx)
   rw[List.filter_cons_of_pos (by simp[c]),List.filter_cons_of_neg (by simp[c]),List.cons_append,←ih]
  ·have h1:(a::l).filter (fun x=>hi x==s)=[]:=by
    rw[List.filter_eq_nil_iff];intro x hx;have ha:=hs a List.mem_cons_self
    rcases List.mem_cons.mp hx with z|z
    ·subst z;simpa using c
    ·have:=hp'.1 x z
     simp;omega
   have h2:(a::l).filter (fun x=>!(hi x==s))=a::l:=by
    rw[List.filter_eq_self];intro x hx
    have:=(List.filter_eq_nil_iff.mp h1) x hx
    simpa using this
   rw[h1,h2];rfl
theorem y9L{s:Int}:∀{l:List Int},l.Pairwise (fun x y=>hi y≤hi x)->(∀x∈l,s≤hi x)->l=l.filter (fun x=>!(hi x==s))++l.filter (fun x=>hi x==s)
 | [],_,_=>rfl
 | a::l,hp,hs=>by
  have hp':=List.pairwise_cons.mp hp;by_cases c:hi a=s
  ·have h1:(a::l).filter (fun x=>!(hi x==s))=[]:=by
    rw[List.filter_eq_nil_iff];intro x hx
    rcases List.mem_cons.mp hx with z|z
    ·subst z;simp[c]
    ·have:=hp'.1 x z
     have:=hs x hx
     simp;omega
   have h2:(a::l).filter (fun x=>hi x==s)=a::l:=by
    rw[List.filter_eq_self];intro x hx
    have:=(List.filter_eq_nil_iff.mp h1) x hx
    simpa using this
   rw[h1,h2];rfl
  ·have ih:=y9L hp'.2 fun x hx=>hs x (List.mem_cons_of_mem _ hx)
   rw[List.filter_cons_of_pos (by simp[c]),List.filter_cons_of_neg (by simp[c]),List.cons_append,←ih]
theorem x0R(W:Web S lo hi n)(I:Inv8 S lo hi s held)(P0:held.Pairwise (RR hi q)):z2S q held (Q3 S hi s)=some (held.filter fun x=>!(hi x==s)):=by
 have hE:(held.filter fun x=>hi x==s).Perm (Q3 S hi s):=y6N (I.nd.sublist List.filter_sublist) (x38 (y59 W s)) fun x=>by
  rw[List.mem_filter,z3Z,beq_iff_eq,I.mem];constructor
  ·rintro ⟨⟨h1,_,_⟩,h2⟩;exact⟨h1,h2⟩
  ·rintro ⟨h1,h2⟩
   have:=W.lt x h1
   exact⟨⟨h1,by omega,by omega⟩,h2⟩
 have hs:∀x∈held,s≤hi x:=fun x hx=>((I.mem x).mp hx).2.2
 have hl:=hE.length_eq
 have key:tk q (Q3 S hi s).length held=held.filter (fun x=>hi x==s)/\lf q (Q3 S hi s).length held=held.filter (fun x=>!(hi x==s)):=by
  rw[←hl];unfold RR at P0;unfold tk lf
  cases q with
  | true =>
   have e:=y9K (hi:=hi) (s:=s) (l:=held) (P0.imp fun {a b} h=>by rw[if_pos rfl]at h;exact h) hs
   rw[if_pos rfl,if_pos rfl]
   generalize held.filter (fun x=>hi x==s)=A at e ⊢
   generalize held.filter (fun x=>!(hi x==s))=B at e ⊢
   subst e
   exact⟨List.take_left,List.drop_left⟩
  | false =>
   have e:=y9L (hi:=hi) (s:=s) (l:=held) (P0.imp fun {a b} h=>by rw[if_neg (by decide)]at h;exact h) hs
   rw[if_neg (by decide),if_neg (by decide)]
   generalize held.filter (fun x=>hi x==s)=A at e ⊢
   generalize held.filter (fun x=>!(hi x==s))=B at e ⊢
   subst e
   have:(B++A).length-A.length=B.length:=by rw[List.length_append];omega
   rw[this]
   exact⟨List.drop_left,List.take_left⟩
 have hle:(Q3 S hi s).length≤held.length:=by rw[←hl];exact List.length_filter_le _ _
 rw[x4K (by rw[key.1];exact hE) (y59 W s) hle,key.2]
theorem x90(q:Bool)(B:List Int):(z2T hi q B).Pairwise (RR hi q):=by
 have h:=List.pairwise_mergeSort (le:=fun a b:Int=>decide (hi a≤hi b)) (l:=B) (fun a b c h1 h2=>by
  have:=of_decide_eq_true h1
  have:=of_decide_eq_true h2
  exact decide_eq_true (by omega)) (fun a b=>by
  by_cases h:hi a≤hi b
  ·simp[h]
  ·simp;omega)
 unfold z2T RR
 cases q with
 | true=>rw[if_pos rfl];exact h.imp fun {a b} z=>by rw[if_pos rfl];exact of_decide_eq_true z
 | false =>
  rw[if_neg (by decide),List.pairwise_reverse]
  exact h.imp fun {a b} z=>by rw[if_neg (by decide)];exact of_decide_eq_true z
theorem y68(W:Web S lo hi n)(hno:∀i∈S,∀j∈S,¬XX lo hi q i j):∀(k:Nat) (s:Int) (held:List Int),Inv8 S lo hi s held->held.Pairwise (RR hi q)->∃L,z71 S lo hi q s held k=some L
 | 0,s,held,I,P0=>⟨[],rfl⟩
 | k+1,s,held,I,P0=>by
  have e:=x0R W I P0;have I':=z6C W I e (z1O (hi:=hi) q (Q5 S lo s))
  obtain⟨L,hL⟩:=y68 W hno k (s+1) _ I' (by
   rw[List.pairwise_append]
   refine⟨P0.sublist List.filter_sublist,x90 q _,fun a ha b hb=>?_⟩
   obtain⟨l1,l2,_⟩:=y1L W I e;have ha':=(l2 a).mp ha;have hb':=z2C.mp ((z1O q _).mem_iff.mp hb)
   have:=hno a ha'.1 b hb'.1
   unfold XX at this;unfold RR
   cases q with
   | true =>
    rw[if_pos rfl]at this ⊢;omega
   | false =>
    rw[if_neg (by decide)]at this ⊢
    omega)
  refine⟨(held.filter (fun x=>!(hi x==s))++z2T hi q (Q5 S lo s))::L,?_⟩
  unfold z71;rw[e];dsimp only;rw[hL]
theorem w5B{α:Type}{p q:Prop}[Decidable p][Decidable q](h:p↔q){a b:α}:(if p then a else b)=if q then a else b:=by
 by_cases c:p
 ·rw[if_pos c,if_pos (h.mp c)]
 ·rw[if_neg c,if_neg fun z=>c (h.mpr z)]
theorem w3Y(k:Nat)(l:List Int):tk false k l=l.drop (l.length-k):=rfl
theorem w40(k:Nat)(l:List Int):lf false k l=l.take (l.length-k):=rfl
theorem w64(k:Nat)(l:List Int):tk true k l=l.take k:=rfl
theorem w6M(k:Nat)(l:List Int):lf true k l=l.drop k:=rfl
noncomputable def y4T(q:Bool)(E:List Int):Nat->List Int->Option (List Int)
 | 0,held=>some held
 | k+1,held=>match (if q=true then held.head? else held.getLast?) with
  | none=>none
  | some a=>if a∈E then y4T q E k (if q=true then held.drop 1 else held.dropLast) else none
theorem w2B{E:List Int}:∀(k:Nat) (held:List Int),y4T true E k held=if k≤held.length/\∀x∈tk true k held,x∈E then some (lf true k held) else none
 | 0,held=>by
  unfold y4T tk lf
  rw[if_pos rfl,if_pos rfl,if_pos ⟨Nat.zero_le _,fun x hx=>by simp at hx⟩]
  rfl
 | k+1,[]=>by
  show none=_
  rw[if_neg (fun z=>by have:=z.1;rw[List.length_nil]at this;omega)]
 | k+1,a::l=>by
  have ih:=w2B (E:=E) k l;unfold y4T
  show (if a∈E then y4T true E k l else none)=_
  rw[ih];unfold tk lf;simp only[if_true,List.take_succ_cons,List.drop_succ_cons,List.length_cons,List.mem_cons,forall_eq_or_imp];by_cases c:a∈E
  ·rw[if_pos c];refine w5B ?_;constructor
   ·rintro ⟨h1,h2⟩;exact⟨by omega,c,h2⟩
   ·rintro ⟨h1,_,h2⟩;exact⟨by omega,h2⟩
  ·rw[if_neg c,if_neg (fun z=>c z.2.1)]
theorem w2C{E:List Int}:∀(k:Nat) (held:List Int),y4T false E k held=if k≤held.length/\∀x∈tk false k held,x∈E then some (lf false k held) else none
 | 0,held=>by
  unfold y4T
  rw[w3Y,w40,if_pos ⟨Nat.zero_le _,fun x hx=>by rw[Nat.sub_zero,List.drop_length]at hx;simp at hx⟩,Nat.sub_zero,List.take_length]
 | k+1,held=>by
  rcases List.eq_nil_or_concat held with rfl|⟨l,a,rfl⟩
  ·show none=_
   rw[if_neg (fun z=>by have:=z.1;rw[List.length_nil]at this;omega)]
  ·have ih:=w2C (E:=E) k l;rw[List.concat_eq_append];unfold y4T
   show (match (l++[a]).getLast? with|none=>none|some a'=>if a'∈E then y4T false E k (l++[a]).dropLast else none)=_
   rw[List.getLast?_concat,List.dropLast_concat];dsimp only;rw[ih,w3Y,w3Y,w40,w40,List.length_append,List.length_singleton];by_cases hk:k≤l.length
   ·have e1:(l++[a]).drop (l.length+1-(k+1))=l.drop (l.length-k)++[a]:=by
     rw[show l.length+1-(k+1)=l.length-k by omega,List.drop_append_of_le_length (by omega)]
    have e2:(l++[a]).take (l.length+1-(k+1))=l.take (l.length-k):=by
     rw[show l.length+1-(k+1)=l.length-k by omega,List.take_append_of_le_length (by omega)]
    rw[e1,e2];by_cases c:a∈E
    ·rw[if_pos c];refine w5B ?_;constructor
     ·rintro ⟨h1,h2⟩
      refine⟨by omega,fun x hx=>?_⟩
      rcases List.mem_append.mp hx with z|z
      ·exact h2 x z
      ·rw[List.mem_singleton.mp z];exact c
     ·rintro ⟨h1,h2⟩;exact⟨by omega,fun x hx=>h2 x (List.mem_append_left _ hx)⟩
    ·rw[if_neg c,if_neg (fun z=>c (z.2 a (List.mem_append_right _ (List.mem_singleton.mpr rfl))))]
   ·have e3:∀c:Prop,¬(k≤l.length/\c):=fun c z=>hk z.1
    have e4:∀c:Prop,¬(k+1≤l.length+1/\c):=fun c z=>hk (by have:=z.1;omega)
    rw[if_neg (e4 _),if_neg (e3 _)]
    split<;>rfl
theorem y6M:∀{xs ys:List Int},xs.Nodup->(∀x∈xs,x∈ys)->xs.length=ys.length->xs.Perm ys
 | [],ys,_,_,h=>by
  have:ys=[]:=List.eq_nil_of_length_eq_zero h.symm
  subst this;exact List.Perm.refl _
 | x::xs,ys,hx,hm,hl=>by
  have hx':=List.nodup_cons.mp hx;have p:=List.perm_cons_erase (hm x List.mem_cons_self)
  refine (List.Perm.cons x (y6M hx'.2 (fun y hy=>?_) ?_)).trans p.symm
  ·have:y≠x:=fun e=>hx'.1 (e▸hy)
   exact (List.mem_erase_of_ne this).mpr (hm y (List.mem_cons_of_mem _ hy))
  ·have:=p.length_eq
   rw[List.length_cons]at this hl;omega
theorem x43{E:List Int}(q:Bool)(hn:held.Nodup)(hE:E.Pairwise (· < ·)):y4T q E E.length held=z2S q held E:=by
 have e:y4T q E E.length held=if E.length≤held.length/\∀x∈tk q E.length held,x∈E then some (lf q E.length held) else none:=by
  cases q with
  | true=>exact w2B _ _
  | false=>exact w2C _ _
 rw[e];unfold z2S;refine w5B ?_;constructor
 ·rintro ⟨h1,h2⟩
  exact⟨h1,y4L (y6M (hn.sublist (w08 _ _ _)) h2 (w09 h1)) hE⟩
 ·rintro ⟨h1,h2⟩
  refine⟨h1,fun x hx=>?_⟩
  have:=(z1G (tk q E.length held)).mem_iff.mpr hx
  rw[h2]at this;exact this
end
noncomputable def loS(r:List Int)(ts:List Tie)(x:Int):Int:=(z7K r ts x.toNat).1
noncomputable def hiS(r:List Int)(ts:List Tie)(x:Int):Int:=(z7K r ts x.toNat).2
noncomputable def g6(r:List Int)(ts:List Tie):D:=.lst (ts.map fun t=>W8 (z39 r t))
noncomputable def KQ(k:Str)(q:Bool):Prop:=(k = "pile"/\q=false)∨(k = "queue"/\q=true)
theorem KQ.eq{k:Str}{q:Bool}(h:KQ k q):(k=="queue")=q:=by
 rcases h with⟨rfl,rfl⟩|⟨rfl,rfl⟩<;>decide +kernel
theorem KQ.pile{k:Str}{q:Bool}(h:KQ k q):(k=="pile") = !q:=by
 rcases h with⟨rfl,rfl⟩|⟨rfl,rfl⟩<;>decide +kernel
theorem w5P{r:List Int}{ts:List Tie}{x:Int}(h0:0≤x)(h:x<ts.length):atI (ts.map fun t=>W8 (z39 r t)) x=some (W8 (loS r ts x,hiS r ts x)):=by
 have:=x5N (r:=r) (ts:=ts) (j:=x.toNat) (by omega)
 rw[Int.toNat_of_nonneg h0]at this;exact this
theorem z6O:∀xs ys:List Int,y28 (xs.map D.int) (ys.map D.int)=decide (xs=ys)
 | [],[]=>by simp[y28]
 | [],y::ys=>by simp[y28]
 | x::xs,[]=>by simp[y28]
 | x::xs,y::ys=>by
  have ih:=z6O xs ys;rw[List.map_cons,List.map_cons,y28,ih]
  show ((x==y)&&decide (xs=ys))=_
  by_cases h:x=y
  ·subst h;simp
  ·simp[h]
theorem z6K(xs:List Int):depth (.lst (xs.map D.int))=1:=by rw[depth,z0R]
theorem y3L(xs:List Int):depth (.tup (xs.map D.int))=1:=by rw[depth,z0R]
theorem x1T(xs ys:List Int):dEq (.lst (xs.map D.int)) (.lst (ys.map D.int))=some (.bl (decide (xs=ys))):=by
 unfold dEq
 rw[if_pos ⟨by rw[z6K];decide,by rw[z6K];decide⟩,beq,z6O]
theorem w3M(xs ys:List Int):dEq (.tup (xs.map D.int)) (.tup (ys.map D.int))=some (.bl (decide (xs=ys))):=by
 unfold dEq
 rw[if_pos ⟨by rw[y3L];decide,by rw[y3L];decide⟩,beq,z6O]
theorem x6A(xs ys:List Int):dNe (.lst (xs.map D.int)) (.lst (ys.map D.int))=some (.bl (!decide (xs=ys))):=by
 unfold dNe
 rw[if_pos ⟨by rw[z6K];decide,by rw[z6K];decide⟩,beq,z6O]
theorem y3J(a b:Int):dEq (.int a) (.int b)=some (.bl (a==b)):=by
 unfold dEq
 rw[if_pos (by simp[depth,z2P])]
 rfl
theorem y1X(a b:List Int):(a==b)=decide (a=b):=by
 rw[Bool.eq_iff_iff,beq_iff_eq,decide_eq_true_iff]
theorem z93:∀xs:List Int,Z4 (xs.map D.int)=some xs
 | []=>rfl
 | x::xs=>by rw[List.map_cons,Z4,z93 xs];rfl
theorem z6X{xs:List Int}(h:xs.length<64):z4I (xs.map D.int)=some ((z2R xs).map D.int):=by
 unfold z4I
 rw[if_pos (by rw[List.length_map];exact h),z93]
theorem sl_tup{f:y0->Option D}{fl fh:y0->Option (Option Int)}{ρ:y0}{ds:List D}{lo hi:Option Int}(h:f ρ=some (.tup ds))(h1:fl ρ=some lo)(h2:fh ρ=some hi):z54 (z29 f fl fh) (z53 f fl fh) ρ=some (.tup (cut ds lo hi)):=by
 unfold z54;rw[y3I h h1 h2];unfold dSl;dsimp only;by_cases c:HT.sIx ds.length 0 lo=0/\HT.sIx ds.length ds.length hi=ds.length
 ·rw[if_pos c];dsimp only;unfold z53;rw[h];dsimp only;rw[h1];dsimp only;rw[h2];dsimp only;rw[if_pos c];unfold cut;rw[c.1,c.2,List.drop_zero,Nat.sub_zero,List.take_length]
 ·rw[if_neg c]
theorem y7A{α:Type}(l:List α)(k:Nat):cut l none (some (k:Int))=l.take k:=by
 unfold cut;rw[HT.sIx_none,HT.sIx_nat,List.drop_zero,Nat.sub_zero];rw[List.take_eq_take_iff];omega
theorem z6L{α:Type}(l:List α)(k:Nat):cut l (some (k:Int)) none=l.drop k:=by
 unfold cut;rw[HT.sIx_none,HT.sIx_nat];by_cases h:k≤l.length
 ·rw[Nat.min_eq_left h]
  exact List.take_of_length_le (by rw[List.length_drop];omega)
 ·rw[Nat.min_eq_right (by omega),List.drop_length,List.drop_of_length_le (by omega)]
  simp
theorem z1X{α:Type}(l:List α)(lo hi:Option Int):(cut l lo hi).Sublist l:=(List.take_sublist _ _).trans (List.drop_sublist _ _)
section
variable{r:List Int}{ts:List Tie}{S:List Int}{s:Int}
theorem z1Z(hS:∀x∈S,0≤x/\x<(ts.length:Int))(hl:S.length≤1000):W5 [g6 r ts,.tup (S.map D.int),.int s]=some (.lst ((Q3 S (hiS r ts) s).map D.int)):=by
 show z5M (z26 [some (.sh (g6 r ts)),some (.sh (.tup (S.map D.int))),some (.sh (.int s))])=_
 have fin:z26 [some (.sh (g6 r ts)),some (.sh (.tup (S.map D.int))),some (.sh (.int s))]=some (.rt (.lst ((Q3 S (hiS r ts) s).map D.int))):=by
  refine z0V (z1S ((z0M (ds:=S.map D.int) rfl (by rw[List.length_map];unfold LIM;omega)).trans ?_))
  refine (K4 (fun ρ=>∃c,ρ=[c,some (.sh (g6 r ts)),some (.sh (.int s))]) (fun d=>match d with|.int x=>hiS r ts x==s|_=>false) (fun d=>d) _ _ ⟨none,rfl⟩ ?_).trans ?_
  ·rintro d hd ρ ⟨c,rfl⟩
   obtain⟨x,hx,rfl⟩:=List.mem_map.mp hd
   refine⟨_,rfl,⟨_,rfl⟩,v8 ?_,fun _=>rfl⟩
   refine (z2U (x:=.int (hiS r ts x)) (y:=.int s) ?_ rfl).trans (y3J _ _)
   have e1:dIx (dSq (z6 1)) (z6 0) [some (.sh (.int x)),some (.sh (g6 r ts)),some (.sh (.int s))]=some (W8 (loS r ts x,hiS r ts x)):=(z57 (ds:=ts.map fun t=>W8 (z39 r t)) (j:=x) rfl rfl).trans (w5P (hS x hx).1 (hS x hx).2)
   exact (z57 (ds:=[.int (loS r ts x),.int (hiS r ts x)]) (j:=1) (z1R e1) rfl).trans rfl
  ·rw[List.map_id',List.filter_map];rfl
 rw[fin];rfl
theorem z2O(hS:∀x∈S,0≤x/\x<(ts.length:Int))(hl:S.length≤1000):K7 [g6 r ts,.tup (S.map D.int),.int s]=some (.lst ((Q5 S (loS r ts) s).map D.int)):=by
 show z5M (z0P [some (.sh (g6 r ts)),some (.sh (.tup (S.map D.int))),some (.sh (.int s))])=_
 have fin:z0P [some (.sh (g6 r ts)),some (.sh (.tup (S.map D.int))),some (.sh (.int s))]=some (.rt (.lst ((Q5 S (loS r ts) s).map D.int))):=by
  refine z0V (z1S ((z0M (ds:=S.map D.int) rfl (by rw[List.length_map];unfold LIM;omega)).trans ?_))
  refine (K4 (fun ρ=>∃c,ρ=[c,some (.sh (g6 r ts)),some (.sh (.int s))]) (fun d=>match d with|.int x=>loS r ts x==s|_=>false) (fun d=>d) _ _ ⟨none,rfl⟩ ?_).trans ?_
  ·rintro d hd ρ ⟨c,rfl⟩
   obtain⟨x,hx,rfl⟩:=List.mem_map.mp hd
   refine⟨_,rfl,⟨_,rfl⟩,v8 ?_,fun _=>rfl⟩
   refine (z2U (x:=.int (loS r ts x)) (y:=.int s) ?_ rfl).trans (y3J _ _)
   have e1:dIx (dSq (z6 1)) (z6 0) [some (.sh (.int x)),some (.sh (g6 r ts)),some (.sh (.int s))]=some (W8 (loS r ts x,hiS r ts x)):=(z57 (ds:=ts.map fun t=>W8 (z39 r t)) (j:=x) rfl rfl).trans (w5P (hS x hx).1 (hS x hx).2)
   exact (z57 (ds:=[.int (loS r ts x),.int (hiS r ts x)]) (j:=0) (z1R e1) rfl).trans rfl
  ·rw[List.map_id',List.filter_map];rfl
 rw[fin];rfl
end
noncomputable def w5Z:Option (List Int)->D
 | none=>.non
 | some l=>.tup (l.map D.int)
theorem z4R{k:Str}{q:Bool}(hk:KQ k q){held E:List Int}(hl:held.length≤50):z3T [.str k,.tup (held.map D.int),.lst (E.map D.int)]=some (w5Z (z2S q held E)):=by
 show z5M (z6E [some (.sh (.str k)),some (.sh (.tup (held.map D.int))),some (.sh (.lst (E.map D.int))),none,none])=_
 have lenE:∀ρ:y0,z6 2 ρ=some (.lst (E.map D.int))->z09 (dSq (z6 2)) ρ=some (.int (E.length:Int)):=fun ρ h=>(z4L (x1P h)).trans (by rw[List.length_map])
 have lenH:∀ρ:y0,z6 1 ρ=some (.tup (held.map D.int))->z09 (dSq (z6 1)) ρ=some (.int (held.length:Int)):=fun ρ h=>(z4L (z1R h)).trans (by rw[List.length_map])
 have last:∀(taken left:List Int),taken.length≤50->z08 (dIf (x5 (d2 dEq (dLs (dQF z4I (dSq (z6 3)))) (z6 2))) (z6 4) (dC .non)) [some (.sh (.str k)),some (.sh (.tup (held.map D.int))),some (.sh (.lst (E.map D.int))),some (.sh (.tup (taken.map D.int))),some (.sh (.tup (left.map D.int)))]=some (.rt (if z2R taken=E then .tup (left.map D.int) else .non)):=fun taken left ht=>by
  refine z0V ?_
  rw[w3K (v8 ((z2U (x:=.lst ((z2R taken).map D.int)) (y:=.lst (E.map D.int)) (z1S ((y1P (ds:=taken.map D.int) rfl).trans (z6X (by omega)))) rfl).trans (x1T _ _)))]
  by_cases c:z2R taken=E
  ·rw[if_pos (decide_eq_true c),if_pos c];rfl
  ·rw[if_neg (by rw[decide_eq_false c];decide),if_neg c];rfl
 have fin:z6E [some (.sh (.str k)),some (.sh (.tup (held.map D.int))),some (.sh (.lst (E.map D.int))),none,none]=some (.rt (w5Z (z2S q held E))):=by
  have t0:x5 (d2 dEq (z6 0) (dC (.str "queue"))) [some (.sh (.str k)),some (.sh (.tup (held.map D.int))),some (.sh (.lst (E.map D.int))),none,none]=some q:=v8 ((show _=some (D.bl (k=="queue")) from rfl).trans (by rw[hk.eq]))
  cases q with
  | true =>
   refine x9 (r:=.rt .non) (ρ':=[some (.sh (.str k)),some (.sh (.tup (held.map D.int))),some (.sh (.lst (E.map D.int))),some (.sh (.tup ((held.take E.length).map D.int))),some (.sh (.tup ((held.drop E.length).map D.int)))]) ((K5 t0).trans ?_) ?_
   ·rw[if_pos rfl]
    refine x9 (r:=.rt .non) (j4 (d:=.tup ((held.take E.length).map D.int)) ((sl_tup (ds:=held.map D.int) rfl rfl (z3D (lenE _ rfl))).trans (by rw[y7A,List.map_take]))) ?_
    exact (j4 (d:=.tup ((held.drop E.length).map D.int)) ((sl_tup (ds:=held.map D.int) rfl (z3D (lenE _ rfl)) rfl).trans (by rw[z6L,List.map_drop]))).trans rfl
   ·rw[last _ _ (by rw[List.length_take];omega)]
    congr 2
    unfold z2S;rw[w64,w6M];by_cases c:z2R (held.take E.length)=E
    ·have hle:E.length≤held.length:=by
      have:=(z1G (held.take E.length)).length_eq
      rw[c,List.length_take]at this;omega
     rw[if_pos c,if_pos ⟨hle,c⟩];rfl
    ·rw[if_neg c,if_neg fun z=>c z.2]
     rfl
  | false =>
   have sub:∀ρ:y0,z6 1 ρ=some (.tup (held.map D.int))->z6 2 ρ=some (.lst (E.map D.int))->d2 y02 (z09 (dSq (z6 1))) (z09 (dSq (z6 2))) ρ=some (.int ((held.length:Int)-(E.length:Int))):=fun ρ h1 h2=>(z2U (lenH ρ h1) (lenE ρ h2)).trans rfl
   refine x9 (r:=.rt .non) (ρ':=[some (.sh (.str k)),some (.sh (.tup (held.map D.int))),some (.sh (.lst (E.map D.int))),some (.sh (.tup ((cut held (some ((held.length:Int)-(E.length:Int))) none).map D.int))),some (.sh (.tup ((cut held none (some ((held.length:Int)-(E.length:Int)))).map D.int)))]) ((K5 t0).trans ?_) ?_
   ·rw[if_neg (by decide)]
    have cm:∀lo hi,cut (held.map D.int) lo hi=(cut held lo hi).map D.int:=fun lo hi=>by unfold cut;rw[List.length_map,List.map_take,List.map_drop]
    refine x9 (r:=.rt .non) (j4 (d:=.tup ((cut held (some ((held.length:Int)-(E.length:Int))) none).map D.int)) ((sl_tup (ds:=held.map D.int) rfl (z3D (sub _ rfl rfl)) rfl).trans (by rw[cm]))) ?_
    exact (j4 (d:=.tup ((cut held none (some ((held.length:Int)-(E.length:Int)))).map D.int)) ((sl_tup (ds:=held.map D.int) rfl rfl (z3D (sub _ rfl rfl))).trans (by rw[cm]))).trans rfl
   ·have hs:=(z1X held (some ((held.length:Int)-(E.length:Int))) none).length_le
    rw[last _ _ (by omega)]
    congr 2
    unfold z2S;by_cases hle:E.length≤held.length
    ·have e:(held.length:Int)-(E.length:Int)=((held.length-E.length:Nat):Int):=by omega
     rw[e,z6L,y7A,w3Y,w40];by_cases c:z2R (held.drop (held.length-E.length))=E
     ·rw[if_pos c,if_pos ⟨hle,c⟩];rfl
     ·rw[if_neg c,if_neg fun z=>c z.2]
      rfl
    ·have c:¬z2R (cut held (some ((held.length:Int)-(E.length:Int))) none)=E:=fun c=>by
      have:=(z1G (cut held (some ((held.length:Int)-(E.length:Int))) none)).length_eq
      rw[c]at this;omega
     have e3:∀c:Prop,¬(E.length≤held.length/\c):=fun c z=>hle z.1
     rw[if_neg c,if_neg (e3 _)];rfl
 rw[fin];rfl
theorem y46{k:Str}{q:Bool}(hk:KQ k q){held E B t:List Int}(hl:held.length≤50)(ht:t.length≤50):z4T [.str k,.tup (held.map D.int),.lst (E.map D.int),.lst (B.map D.int),.tup (t.map D.int)]=some (.bl (z3I q held E B t)):=by
 show z5M (z6J [some (.sh (.str k)),some (.sh (.tup (held.map D.int))),some (.sh (.lst (E.map D.int))),some (.sh (.lst (B.map D.int))),some (.sh (.tup (t.map D.int))),none])=_
 have fin:z6J [some (.sh (.str k)),some (.sh (.tup (held.map D.int))),some (.sh (.lst (E.map D.int))),some (.sh (.lst (B.map D.int))),some (.sh (.tup (t.map D.int))),none]=some (.rt (.bl (z3I q held E B t))):=by
  have e1:=z4R (E:=E) hk hl;unfold z3I
  cases e:z2S q held E with
  | none =>
   rw[e]at e1;refine x9 (r:=.rt .non) (j4 (d:=.non) ((u7 (ds:=[.str k,.tup (held.map D.int),.lst (E.map D.int)]) rfl).trans e1)) ?_;exact z00 ((K5 (a:=true) (v8 rfl)).trans rfl)
  | some left =>
   rw[e]at e1;refine x9 (r:=.rt .non) (j4 (d:=.tup (left.map D.int)) ((u7 (ds:=[.str k,.tup (held.map D.int),.lst (E.map D.int)]) rfl).trans e1)) ?_;refine x9 (r:=.rt .non) ((K5 (a:=false) (v8 rfl)).trans rfl) ?_;refine z0V ?_;dsimp only
   have lenL:∀ρ:y0,z6 5 ρ=some (.tup (left.map D.int))->z09 (dSq (z6 5)) ρ=some (.int (left.length:Int)):=fun ρ h=>(z4L (z1R h)).trans (by rw[List.length_map])
   refine (y0M (a:=decide (t.take left.length=left)) (b:=decide (z2R (t.drop left.length)=B)) ?_ fun _=>?_).trans ?_
   ·exact (z2U (x:=.tup ((t.take left.length).map D.int)) (y:=.tup (left.map D.int)) ((sl_tup (ds:=t.map D.int) rfl rfl (z3D (lenL _ rfl))).trans (by rw[y7A,List.map_take])) rfl).trans (w3M _ _)
   ·exact (z2U (x:=.lst ((z2R (t.drop left.length)).map D.int)) (y:=.lst (B.map D.int)) (z1S ((y1P (ds:=(t.drop left.length).map D.int) (z1R ((sl_tup (ds:=t.map D.int) rfl (z3D (lenL _ rfl)) rfl).trans (by rw[z6L,List.map_drop])))).trans (z6X (by rw[List.length_drop];omega)))) rfl).trans (x1T _ _)
   ·rw[y1X,y1X]
 rw[fin];rfl
theorem y5U{α β γ:Type}(f:α->β)(g:α->γ):∀l:List α,(l.map f).zip (l.map g)=l.map fun x=>(f x,g x)
 | []=>rfl
 | a::l=>by rw[List.map_cons,List.map_cons,List.zip_cons_cons,y5U f g l];rfl
theorem x0Z{r:List Int}{ts:List Tie}:∀B:List Int,(∀x∈B,0≤x/\x<(ts.length:Int))->x6E (dIx (dSq (dIx (dSq (z6 1)) (z6 0))) (dC (.int 1))) [none,some (.sh (g6 r ts))] (B.map D.int)=some ((B.map (hiS r ts)).map D.int)
 | [],_=>rfl
 | x::B,h=>by
  have ih:=x0Z (r:=r) B fun y hy=>h y (List.mem_cons_of_mem _ hy)
  have hx:=h x List.mem_cons_self
  have e1:dIx (dSq (z6 1)) (z6 0) [some (.sh (.int x)),some (.sh (g6 r ts))]=some (W8 (loS r ts x,hiS r ts x)):=(z57 (ds:=ts.map fun t=>W8 (z39 r t)) (j:=x) rfl rfl).trans (w5P hx.1 hx.2)
  have e2:dIx (dSq (dIx (dSq (z6 1)) (z6 0))) (dC (.int 1)) ([none,some (.sh (g6 r ts))].set 0 (some (.sh (.int x))))=some (.int (hiS r ts x)):=(z57 (ds:=[.int (loS r ts x),.int (hiS r ts x)]) (j:=1) (z1R e1) rfl).trans rfl;rw[List.map_cons,x6E,e2];dsimp only;rw[ih];rfl
theorem x9Q(hi:Int->Int)(B:List Int):y0S leI (B.map hi) (B.map D.int)=(B.mergeSort fun a b=>decide (hi a≤hi b)).map D.int:=by
 unfold y0S
 rw[y5U,←List.map_mergeSort (r:=fun a b=>decide (hi a≤hi b)) (f:=fun x=>(hi x,D.int x)) (fun a _ b _=>rfl),List.map_map]
 rfl
theorem z9P{r:List Int}{ts:List Tie}{k:Str}{q:Bool}(hk:KQ k q){B:List Int}(hB:∀x∈B,0≤x/\x<(ts.length:Int))(hn:(B.map (hiS r ts)).Nodup)(hl:B.length<64):z0X [g6 r ts,.str k,.lst (B.map D.int)]=some (.tup ((z2T (hiS r ts) q B).map D.int)):=by
 show z5M (z35 [some (.sh (g6 r ts)),some (.sh (.str k)),some (.sh (.lst (B.map D.int))),none])=_
 have fin:z35 [some (.sh (g6 r ts)),some (.sh (.str k)),some (.sh (.lst (B.map D.int))),none]=some (.rt (.tup ((z2T (hiS r ts) q B).map D.int))):=by
  have e1:y0N [none,some 0] (dSq (z6 2)) (dIx (dSq (dIx (dSq (z6 1)) (z6 0))) (dC (.int 1))) [some (.sh (g6 r ts)),some (.sh (.str k)),some (.sh (.lst (B.map D.int))),none]=some ((B.mergeSort fun a b=>decide (hiS r ts a≤hiS r ts b)).map D.int):=by
   unfold y0N;have e0:dSq (z6 2) [some (.sh (g6 r ts)),some (.sh (.str k)),some (.sh (.lst (B.map D.int))),none]=some (B.map D.int):=rfl;rw[e0];dsimp only;have ec:y1U [none,some 0] [some (.sh (g6 r ts)),some (.sh (.str k)),some (.sh (.lst (B.map D.int))),none]=[none,some (.sh (g6 r ts))]:=rfl;rw[ec,x0Z B hB];dsimp only;unfold x7J
   rw[if_pos (by rw[List.length_map];exact hl),z93]
   dsimp only;rw[if_pos hn,x9Q]
  refine x9 (r:=.rt .non) (j4 (z95 e1)) ?_;refine z0V ?_
  have t0:x5 (d2 dEq (z6 1) (dC (.str "queue"))) [some (.sh (g6 r ts)),some (.sh (.str k)),some (.sh (.lst (B.map D.int))),some (.sh (.tup ((B.mergeSort fun a b=>decide (hiS r ts a≤hiS r ts b)).map D.int)))]=some q:=v8 ((show _=some (D.bl (k=="queue")) from rfl).trans (by rw[hk.eq]))
  refine (w3K t0).trans ?_;unfold z2T
  cases q with
  | true=>rfl
  | false =>
   rw[if_neg (by decide),if_neg (by decide),List.map_reverse]
   rfl
 rw[fin];rfl
theorem x9X(a b:Str):(a++b).length=a.length+b.length:=strLen_append a b
theorem x15(y:Str):∀ps:List Str,(∀p∈ps,p.length≤2)->(Str.join y ps).length≤ps.length*(2+y.length)
 | [],_=>by show 0≤_;exact Nat.zero_le _
 | [p],h=>by
  have:=h p List.mem_cons_self
  show p.length≤1*_
  omega
 | p::p'::r,h=>by
  have ih:=x15 y (p'::r) fun q hq=>h q (List.mem_cons_of_mem _ hq)
  have hp:=h p List.mem_cons_self;have e:Str.join y (p::p'::r)=p++y++Str.join y (p'::r):=rfl;rw[e,x9X,x9X,List.length_cons,Nat.succ_mul];omega
theorem w6W:∀k:Nat,k<13->(Str.ofString (toString (k:Int))).length≤2:=by decide +kernel
theorem x78{S:List Int}(hS:∀x∈S,0≤x/\x<12)(hl:S.length≤12):(tupleText (z0I S)).length≤60:=by
 unfold tupleText;rw[x9X,x9X]
 have h1:=x15 ", " (z0I S) fun p hp=>by
  unfold z0I at hp;obtain⟨x,hx,rfl⟩:=List.mem_map.mp hp;have h:=hS x hx
  have:=w6W x.toNat (by omega)
  rw[Int.toNat_of_nonneg h.1]at this;exact this
 have h2:(Str.ofString ", ").length=2:=by decide +kernel
 have h3:(Str.ofString "(").length=1:=by decide +kernel
 have h4:(Str.ofString (if ((z0I S).length==1)=true then ",)" else ")")).length≤2:=by
  split<;>decide +kernel
 have h5:(z0I S).length=S.length:=by unfold z0I;rw[List.length_map]
 rw[h2,h5]at h1;rw[h3];omega
noncomputable def x01:y0->Option Out:=y0O (z7A (z5D (dC (.str "some of these ties clash: ")) (z5D (y1S (z6 3)) (y3O))))
theorem x00{S:List Int}{ρ:y0}(h:z6 3 ρ=some (.tup (S.map D.int)))(hS:∀x∈S,0≤x/\x<12)(hl:S.length≤12):x01 ρ=some (.rt bad):=by
 have ht:=x78 hS hl
 have hm:(Str.ofString "some of these ties clash: ").length≤40:=by decide +kernel
 have e0:(Str.empty++Str.ofString "some of these ties clash: ").length≤40:=by rw[x9X];show 0+_≤_;omega
 have e1:y1S (z6 3) ρ=some (.str (tupleText (z0I S))):=by
  unfold y1S;rw[h];dsimp only;rw[z93];dsimp only;rw[if_pos]
  refine⟨List.all_eq_true.mpr fun x hx=>?_,by unfold LIM;omega⟩
  have:=hS x hx
  exact decide_eq_true (by omega)
 unfold x01 y0O
 have e2:z7A (z5D (dC (.str "some of these ties clash: ")) (z5D (y1S (z6 3)) (y3O))) ρ=some (.str (Str.empty++Str.ofString "some of these ties clash: "++tupleText (z0I S))):=by
  unfold z7A z5D
  show (if (Str.empty++Str.ofString "some of these ties clash: ").length≤LIM then (match y1S (z6 3) ρ with
   | some (.str y)=>if ((Str.empty++Str.ofString "some of these ties clash: ")++y).length≤LIM then y3O ρ ((Str.empty++Str.ofString "some of these ties clash: ")++y) else none
   | _=>none) else none)=_
  rw[if_pos (by unfold LIM;omega),e1]
  dsimp only
  have e3:((Str.empty++Str.ofString "some of these ties clash: ")++tupleText (z0I S)).length≤LIM:=by rw[x9X];unfold LIM;omega
  unfold y3O;rw[if_pos e3,if_pos e3]
 rw[e2]
theorem x1Q{g k:y0->Option Out}{ρ:y0}(h:g ρ=none):J3 g k ρ=none:=by unfold J3;rw[h]
noncomputable def z2K(x:y0->Option Out):y0->Option Out :=
 (J3 (W4 8 (v6 z3T (z8 (z6 2) (z8 (z6 6) (z8 (v6 W5 (z8 (z6 4) (z8 (z6 3) (z8 (z6 7) (u9))))) (u9))))))
 (J3 (z1V (x5 (d2 dIs (z6 8) (dC .non)))
 x
 (Y6))
 (J3 (W4 6 (d2 z0K (z6 8) (v6 z0X (z8 (z6 4) (z8 (z6 2) (z8 (v6 K7 (z8 (z6 4) (z8 (z6 3) (z8 (z6 7) (u9))))) (u9)))))))
 (x24 5 (z6 6)))))
noncomputable def Y9(l:List Int):D:=.tup (l.map D.int)
structure Some8(n:Int)(ts:List Tie)(r S:List Int):Prop where
 lay:Lay n ts r
 up:S.Pairwise (· < ·)
 rng:∀x∈S,0≤x/\x<(ts.length:Int)
section
variable{n:Int}{ts:List Tie}{r S:List Int}{k:Str}{q:Bool}
theorem Some8.web(h:Some8 n ts r S):Web S (loS r ts) (hiS r ts) n where
 up:=h.up
 lt:=fun x hx=>(h.lay.sp_ok (i:=x.toNat) (by have:=h.rng x hx;omega)).2.1
 lo0:=fun x hx=>(h.lay.sp_ok (i:=x.toNat) (by have:=h.rng x hx;omega)).1
 hin:=fun x hx=>(h.lay.sp_ok (i:=x.toNat) (by have:=h.rng x hx;omega)).2.2
 inj:=fun x hx y hy e1 e2=>by
  have a:=h.rng x hx;have b:=h.rng y hy
  have:=h.lay.sp_inj (i:=x.toNat) (j:=y.toNat) (by omega) (by omega) (Prod.ext e1 e2)
  omega
theorem Some8.len(h:Some8 n ts r S):S.length≤12:=by
 have:=z68 S ((List.range ts.length).map fun (i:Nat)=>(i:Int)) (x38 h.up) fun x hx=>by
  have:=h.rng x hx
  exact List.mem_map.mpr ⟨x.toNat,List.mem_range.mpr (by omega),by omega⟩
 rw[List.length_map,List.length_range]at this
 have:=h.lay.m12
 omega
theorem Some8.held(h:Some8 n ts r S){s:Int}{held:List Int}(I:Inv8 S (loS r ts) (hiS r ts) s held):held.length≤12:=by
 have:=z68 held S I.nd fun x hx=>((I.mem x).mp hx).1
 have:=h.len
 omega
theorem Some8.laid(h:Some8 n ts r S)(hk:KQ k q)(s:Int):z0X [g6 r ts,.str k,.lst ((Q5 S (loS r ts) s).map D.int)]=some (.tup ((z2T (hiS r ts) q (Q5 S (loS r ts) s)).map D.int)):=by
 refine z9P hk (fun x hx=>h.rng x (z2C.mp hx).1) ?_ ?_
 ·exact List.pairwise_map.mpr ((x38 (y5K h.web s)).imp_of_mem fun {a b} ha hb hne e=>hne (h.web.inj a (z2C.mp ha).1 b (z2C.mp hb).1 (by rw[(z2C.mp ha).2,(z2C.mp hb).2]) e))
 ·have:(Q5 S (loS r ts) s).length≤S.length:=List.length_filter_le _ _
  have:=h.len
  omega
theorem y2U(h:Some8 n ts r S)(hk:KQ k q){x:y0->Option Out}{s:Int}{held:List Int}(hl:held.length≤12)(e:z2S q held (Q3 S (hiS r ts) s)=none){told:List D}{c8:Option Cell}{o:Option Out}(hx:x [some (.sh (Q1 n ts)),some (.sh (.tup (r.map D.int))),some (.sh (.str k)),some (.sh (.tup (S.map D.int))),some (.sh (g6 r ts)),some (.ow told),some (.sh (.tup (held.map D.int))),some (.sh (.int s)),some (.sh .non)]=o)(ho:o=none∨∃v,o=some (.rt v)) :
  z2K x [some (.sh (Q1 n ts)),some (.sh (.tup (r.map D.int))),some (.sh (.str k)),some (.sh (.tup (S.map D.int))),some (.sh (g6 r ts)),some (.ow told),some (.sh (.tup (held.map D.int))),some (.sh (.int s)),c8]=o:=by
 have e1:=z4R (E:=Q3 S (hiS r ts) s) hk (held:=held) (by omega)
 rw[e]at e1
 have e2:=z1Z (r:=r) (s:=s) h.rng (by have:=h.len;omega)
 refine x9 (r:=.rt .non) (j4 (d:=.non) ((u7 (ds:=[.str k,.tup (held.map D.int),.lst ((Q3 S (hiS r ts) s).map D.int)]) (j3 rfl (j3 rfl (j3 ((u7 (ds:=[g6 r ts,.tup (S.map D.int),.int s]) rfl).trans e2) rfl)))).trans e1)) ?_;have e3:z1V (x5 (d2 dIs (z6 8) (dC .non))) x Y6 [some (.sh (Q1 n ts)),some (.sh (.tup (r.map D.int))),some (.sh (.str k)),some (.sh (.tup (S.map D.int))),some (.sh (g6 r ts)),some (.ow told),some (.sh (.tup (held.map D.int))),some (.sh (.int s)),some (.sh .non)]=o:=(K5 (a:=true) (v8 rfl)).trans hx
 rcases ho with rfl|⟨v,rfl⟩
 ·exact x1Q e3
 ·exact z00 e3
theorem y2T(h:Some8 n ts r S)(hk:KQ k q){x:y0->Option Out}{s:Int}{held left:List Int}(hl:held.length≤12)(e:z2S q held (Q3 S (hiS r ts) s)=some left){told:List D}(htl:told.length≤1000){c8:Option Cell} :
  z2K x [some (.sh (Q1 n ts)),some (.sh (.tup (r.map D.int))),some (.sh (.str k)),some (.sh (.tup (S.map D.int))),some (.sh (g6 r ts)),some (.ow told),some (.sh (.tup (held.map D.int))),some (.sh (.int s)),c8] =
   some (.nx [some (.sh (Q1 n ts)),some (.sh (.tup (r.map D.int))),some (.sh (.str k)),some (.sh (.tup (S.map D.int))),some (.sh (g6 r ts)),some (.ow (told++[Y9 (left++z2T (hiS r ts) q (Q5 S (loS r ts) s))])),some (.sh (Y9 (left++z2T (hiS r ts) q (Q5 S (loS r ts) s)))),some (.sh (.int s)),some (.sh (.tup (left.map D.int)))]):=by
 have e1:=z4R (E:=Q3 S (hiS r ts) s) hk (held:=held) (by omega)
 rw[e]at e1
 have e2:=z1Z (r:=r) (s:=s) h.rng (by have:=h.len;omega)
 have e3:=z2O (r:=r) (s:=s) h.rng (by have:=h.len;omega)
 have e4:=h.laid hk s;refine x9 (r:=.rt .non) (j4 (d:=.tup (left.map D.int)) ((u7 (ds:=[.str k,.tup (held.map D.int),.lst ((Q3 S (hiS r ts) s).map D.int)]) (j3 rfl (j3 rfl (j3 ((u7 (ds:=[g6 r ts,.tup (S.map D.int),.int s]) rfl).trans e2) rfl)))).trans e1)) ?_;refine x9 (r:=.rt .non) ((K5 (a:=false) (v8 rfl)).trans rfl) ?_;refine x9 (r:=.rt .non) (j4 (d:=Y9 (left++z2T (hiS r ts) q (Q5 S (loS r ts) s))) ((z2U (x:=.tup (left.map D.int)) (y:=.tup ((z2T (hiS r ts) q (Q5 S (loS r ts) s)).map D.int)) rfl ((u7 (ds:=[g6 r ts,.str k,.lst ((Q5 S (loS r ts) s).map D.int)]) (j3 rfl (j3 rfl (j3 ((u7 (ds:=[g6 r ts,.tup (S.map D.int),.int s]) rfl).trans e3) rfl)))).trans e4)).trans ?_)) ?_
 ·show (if (left.map D.int).length+((z2T (hiS r ts) q (Q5 S (loS r ts) s)).map D.int).length≤LIM then some (D.tup (left.map D.int++(z2T (hiS r ts) q (Q5 S (loS r ts) s)).map D.int)) else none)=_
  have l1:left.length≤held.length:=by obtain⟨_,rfl,_⟩:=z75 e;exact (x6G _ _ _).length_le
  have l2:(z2T (hiS r ts) q (Q5 S (loS r ts) s)).length≤S.length:=by rw[(z1O q _).length_eq];exact List.length_filter_le _ _
  have:=h.len
  rw[if_pos (by rw[List.length_map,List.length_map];unfold LIM;omega)]
  unfold Y9;rw[List.map_append]
 ·exact (x6P (ds:=told) rfl rfl (by unfold LIM;omega)).trans rfl
theorem y67(h:Some8 n ts r S)(hk:KQ k q){x:y0->Option Out}{o:Option Out}(ho:o=none∨∃v,o=some (.rt v))(hx:∀(told:List D) (held:List Int) (s:Int),x [some (.sh (Q1 n ts)),some (.sh (.tup (r.map D.int))),some (.sh (.str k)),some (.sh (.tup (S.map D.int))),some (.sh (g6 r ts)),some (.ow told),some (.sh (.tup (held.map D.int))),some (.sh (.int s)),some (.sh .non)]=o) :
  ∀(m:Nat) (s:Int) (held:List Int) (told:List D) (c7 c8:Option Cell),Inv8 S (loS r ts) (hiS r ts) s held->told.length+m≤1000 ->
   (z71 S (loS r ts) (hiS r ts) q s held m=none->Q7 (w8 7) (z2K x) (J0 s m) [some (.sh (Q1 n ts)),some (.sh (.tup (r.map D.int))),some (.sh (.str k)),some (.sh (.tup (S.map D.int))),some (.sh (g6 r ts)),some (.ow told),some (.sh (.tup (held.map D.int))),c7,c8]=o) /\
   (∀L,z71 S (loS r ts) (hiS r ts) q s held m=some L->∃c6' c7' c8',Q7 (w8 7) (z2K x) (J0 s m) [some (.sh (Q1 n ts)),some (.sh (.tup (r.map D.int))),some (.sh (.str k)),some (.sh (.tup (S.map D.int))),some (.sh (g6 r ts)),some (.ow told),some (.sh (.tup (held.map D.int))),c7,c8] =
    some (.nx [some (.sh (Q1 n ts)),some (.sh (.tup (r.map D.int))),some (.sh (.str k)),some (.sh (.tup (S.map D.int))),some (.sh (g6 r ts)),some (.ow (told++L.map Y9)),c6',c7',c8']))
 | 0,s,held,told,c7,c8,I,ht=>⟨fun z=>by simp[z71]at z,fun L z=>by
   cases z
   refine⟨some (.sh (.tup (held.map D.int))),c7,c8,?_⟩
   rw[List.map_nil,List.append_nil]
   rfl⟩
 | m+1,s,held,told,c7,c8,I,ht=>by
  rw[z52];unfold Q7
  show (z71 S (loS r ts) (hiS r ts) q s held (m+1)=none->(match z2K x [some (.sh (Q1 n ts)),some (.sh (.tup (r.map D.int))),some (.sh (.str k)),some (.sh (.tup (S.map D.int))),some (.sh (g6 r ts)),some (.ow told),some (.sh (.tup (held.map D.int))),some (.sh (.int s)),c8] with
   | some (.nx ρ2)=>Q7 (w8 7) (z2K x) (J0 (s+1) m) ρ2
   | some (.ct ρ2)=>Q7 (w8 7) (z2K x) (J0 (s+1) m) ρ2
   | some (.bk ρ2)=>some (.nx ρ2)
   | some (.rt v)=>some (.rt v)
   | none=>none)=o)/\(∀L,z71 S (loS r ts) (hiS r ts) q s held (m+1)=some L->∃c6' c7' c8',(match z2K x [some (.sh (Q1 n ts)),some (.sh (.tup (r.map D.int))),some (.sh (.str k)),some (.sh (.tup (S.map D.int))),some (.sh (g6 r ts)),some (.ow told),some (.sh (.tup (held.map D.int))),some (.sh (.int s)),c8] with
   | some (.nx ρ2)=>Q7 (w8 7) (z2K x) (J0 (s+1) m) ρ2
   | some (.ct ρ2)=>Q7 (w8 7) (z2K x) (J0 (s+1) m) ρ2
   | some (.bk ρ2)=>some (.nx ρ2)
   | some (.rt v)=>some (.rt v)
   | none=>none)=some (.nx [some (.sh (Q1 n ts)),some (.sh (.tup (r.map D.int))),some (.sh (.str k)),some (.sh (.tup (S.map D.int))),some (.sh (g6 r ts)),some (.ow (told++L.map Y9)),c6',c7',c8']))
  unfold z71
  cases e:z2S q held (Q3 S (hiS r ts) s) with
  | none =>
   rw[y2U h hk (h.held I) e (hx told held s) ho];dsimp only
   refine⟨fun _=>?_,fun L z=>by cases z⟩
   rcases ho with rfl|⟨v,rfl⟩<;>rfl
  | some left =>
   rw[y2T h hk (h.held I) e (by omega)]
   dsimp only
   obtain⟨i1,i2⟩:=y67 h hk ho hx m (s+1) (left++z2T (hiS r ts) q (Q5 S (loS r ts) s)) (told++[Y9 (left++z2T (hiS r ts) q (Q5 S (loS r ts) s))]) (some (.sh (.int s))) (some (.sh (.tup (left.map D.int)))) (z6C h.web I e (z1O q _)) (by rw[List.length_append,List.length_singleton];omega)
   cases e':z71 S (loS r ts) (hiS r ts) q (s+1) (left++z2T (hiS r ts) q (Q5 S (loS r ts) s)) m with
   | none=>exact⟨fun _=>i1 e',fun L z=>by cases z⟩
   | some L' =>
    refine⟨fun z=>(by cases z),fun L z=>?_⟩
    cases z;obtain⟨c6',c7',c8',i3⟩:=i2 L' e'
    refine⟨c6',c7',c8',i3.trans ?_⟩
    rw[List.map_cons,List.append_assoc];rfl
noncomputable def y54(x:y0->Option Out):y0->Option Out :=
 J3 (W4 4 (v6 z1L (z8 (z6 0) (z8 (z6 1) (u9)))))
 (J3 (z99 5 (z5T (u9)))
 (J3 (W4 6 (z2V (u9)))
 (J3 (z7S (z2W (z09 (dSq (z6 1)))) (w8 7) (z2K x))
 (z08 (z58 (y1R 5))))))
theorem x5Y(h:Some8 n ts r S)(hk:KQ k q){x:y0->Option Out}{o:Option Out}(ho:o=none∨∃v,o=some (.rt v))(hx:∀(told:List D) (held:List Int) (s:Int),x [some (.sh (Q1 n ts)),some (.sh (.tup (r.map D.int))),some (.sh (.str k)),some (.sh (.tup (S.map D.int))),some (.sh (g6 r ts)),some (.ow told),some (.sh (.tup (held.map D.int))),some (.sh (.int s)),some (.sh .non)]=o) :
  y54 x [some (.sh (Q1 n ts)),some (.sh (.tup (r.map D.int))),some (.sh (.str k)),some (.sh (.tup (S.map D.int))),none,none,none,none,none]=match z71 S (loS r ts) (hiS r ts) q 0 [] r.length with|none=>o|some L=>some (.rt (.tup (L.map Y9))):=by
 have rl:=h.lay.rl;have e0:=z6Q (n:=n) h.lay.nd h.lay.rl h.lay.hm' h.lay.mem
 obtain⟨i1,i2⟩:=y67 h hk ho hx r.length 0 [] [] none none (z32 h.web) (by rw[List.length_nil];omega)
 refine x9 (r:=.rt .non) (j4 (d:=g6 r ts) ((u7 (ds:=[Q1 n ts,.tup (r.map D.int)]) rfl).trans e0)) ?_
 refine x9 (r:=.rt .non) (y1N (ds:=[]) (z4D (ds:=[]) rfl (by decide))) ?_
 refine x9 (r:=.rt .non) (j4 (d:=.tup []) (z7R rfl (by decide))) ?_
 have e4:=z5Q (fa:=z09 (dSq (z6 1))) (ρ:=[some (.sh (Q1 n ts)),some (.sh (.tup (r.map D.int))),some (.sh (.str k)),some (.sh (.tup (S.map D.int))),some (.sh (g6 r ts)),some (.ow []),some (.sh (.tup [])),none,none]) (j:=((r.map D.int).length:Int)) rfl (by rw[List.length_map];unfold okR;rw[decide_eq_true (by omega),decide_eq_true (by omega)];rfl)
 rw[List.length_map,Int.toNat_natCast]at e4
 cases e:z71 S (loS r ts) (hiS r ts) q 0 [] r.length with
 | some L =>
  obtain⟨c6,c7,c8,i3⟩:=i2 L e;refine x9 (r:=.rt .non) ((z1T e4).trans i3) ?_;exact z0V (z95 (ds:=L.map Y9) rfl)
 | none =>
  have i3:=(z1T e4).trans (i1 e);dsimp only
  rcases ho with rfl|⟨v,rfl⟩
  ·exact x1Q i3
  ·exact z00 i3
theorem x5P(h:Some8 n ts r S)(hk:KQ k q):x5Q [Q1 n ts,.tup (r.map D.int),.str k,.tup (S.map D.int)]=(z71 S (loS r ts) (hiS r ts) q 0 [] r.length).map fun L=>.tup (L.map Y9):=by
 show z5M (y54 (fun _=>none) [some (.sh (Q1 n ts)),some (.sh (.tup (r.map D.int))),some (.sh (.str k)),some (.sh (.tup (S.map D.int))),none,none,none,none,none])=_
 rw[x5Y h hk (.inl rfl) (fun _ _ _=>rfl)]
 cases z71 S (loS r ts) (hiS r ts) q 0 [] r.length<;>rfl
theorem x2V(h:Some8 n ts r S)(hk:KQ k q)(e:z71 S (loS r ts) (hiS r ts) q 0 [] r.length=none):y47 [Q1 n ts,.tup (r.map D.int),.str k,.tup (S.map D.int)]=some bad:=by
 show z5M (y54 x01 [some (.sh (Q1 n ts)),some (.sh (.tup (r.map D.int))),some (.sh (.str k)),some (.sh (.tup (S.map D.int))),none,none,none,none,none])=_
 rw[x5Y h hk (o:=some (.rt bad)) (.inr ⟨_,rfl⟩) (fun _ _ _=>x00 rfl (fun x hx=>by have:=h.rng x hx;have:=h.lay.m12;omega) h.len),e]
 rfl
theorem y6S:∀l:List Int,z2L (l.map D.int)=true
 | []=>by simp[z2L]
 | x::l=>by rw[List.map_cons,z2L,y6S l];rfl
theorem y6R:∀l:List Tie,z2L (l.map W8)=true
 | []=>by simp[z2L]
 | x::l=>by
  rw[List.map_cons,z2L,y6R l];simp[W8,y4X,z2L]
theorem x9S:z5O bad=true:=by
 unfold bad;rw[z5O];rfl
theorem y43(h:Some8 n ts r S)(hk:KQ k q):z6S [Q1 n ts,.tup (r.map D.int),.str k,.tup (S.map D.int)]=some (match z71 S (loS r ts) (hiS r ts) q 0 [] r.length with|none=>.non|some L=>.tup (L.map Y9)):=by
 show z5M (z6G [some (.sh (Q1 n ts)),some (.sh (.tup (r.map D.int))),some (.sh (.str k)),some (.sh (.tup (S.map D.int))),none,none])=_
 have e1:=x5P h hk
 have fin:z6G [some (.sh (Q1 n ts)),some (.sh (.tup (r.map D.int))),some (.sh (.str k)),some (.sh (.tup (S.map D.int))),none,none]=some (.rt (match z71 S (loS r ts) (hiS r ts) q 0 [] r.length with|none=>.non|some L=>.tup (L.map Y9))):=by
  refine x9 (r:=.rt .non) (j4 (d:=.str "other") rfl) ?_
  refine x9 (r:=.rt .non) (ρ':=[some (.sh (Q1 n ts)),some (.sh (.tup (r.map D.int))),some (.sh (.str k)),some (.sh (.tup (S.map D.int))),some (.sh (match z71 S (loS r ts) (hiS r ts) q 0 [] r.length with|none=>.non|some L=>.tup (L.map Y9))),none]) ?_ (z0V rfl)
  show (match x5Q [Q1 n ts,.tup (r.map D.int),.str k,.tup (S.map D.int)] with
   | some d=>some (Out.nx [some (.sh (Q1 n ts)),some (.sh (.tup (r.map D.int))),some (.sh (.str k)),some (.sh (.tup (S.map D.int))),some (.sh d),none])
   | none=>(match y8J y47 [Q1 n ts,.tup (r.map D.int),.str k,.tup (S.map D.int)] with|some _=>if z2L [Q1 n ts,.tup (r.map D.int),.str k,.tup (S.map D.int)]=true then some (Out.nx [some (.sh (Q1 n ts)),some (.sh (.tup (r.map D.int))),some (.sh (.str k)),some (.sh (.tup (S.map D.int))),some (.sh .non),none]) else none|none=>none))=_
  rw[e1]
  cases e:z71 S (loS r ts) (hiS r ts) q 0 [] r.length with
  | some L=>rfl
  | none =>
   dsimp only[Option.map_none]
   have eb:y8J y47 [Q1 n ts,.tup (r.map D.int),.str k,.tup (S.map D.int)]=some bad:=by
    unfold y8J;rw[x2V h hk e];dsimp only;rw[if_pos x9S]
   rw[eb];dsimp only;rw[if_pos];simp only[z2L,y4X,Q1,y6S,y6R,Bool.and_true,Bool.and_self]
 rw[fin];rfl
end
noncomputable def hO:D->Option (List Int)
 | .tup es=>Z4 es
 | _=>none
noncomputable def y8U:D->Prop
 | .tup es=>es.length≤40
 | _=>True
noncomputable def x4S:D->Bool
 | .int _=>true
 | _=>false
noncomputable def tnB(m:Nat):D->Bool
 | .int i=>decide (0≤i)&&decide (i<(m:Int))
 | _=>false
noncomputable def z5P(m:Nat):D->Bool
 | .tup es=>es.all (tnB m)
 | _=>false
theorem y3E:∀es:List D,(Z4 es).isSome=es.all x4S
 | []=>rfl
 | e::es=>by
  have ih:=y3E es;rw[List.all_cons]
  cases e with
  | int i =>
   rw[Z4,Option.isSome_map,ih];rfl
  | _=>rfl
theorem y25(d:D):z56 [d]=some (.bl (x4S d)):=by
 show z5M (z4Z [some (.sh d)])=_
 have fin:z4Z [some (.sh d)]=some (.rt (.bl (x4S d))):=by
  refine z0V ((y0M (a:=y1K "int" d) (b:=!y1K "bool" d) (z96 rfl) fun _=>w3J (z96 rfl)).trans ?_)
  cases d<;>rfl
 rw[fin];rfl
section
variable{n:Int}{ts:List Tie}{r S:List Int}{k:Str}{q:Bool}
theorem z6U(d:D):z1E [Q1 n ts,d]=some (.bl (tnB ts.length d)):=by
 show z5M (z1B [some (.sh (Q1 n ts)),some (.sh d)])=_
 have hl:z09 (dSq (dIx (dSq (z6 0)) (dC (.int 1)))) [some (.sh (Q1 n ts)),some (.sh d)]=some (.int (ts.length:Int)):=(z4L (ds:=ts.map W8) rfl).trans (by rw[List.length_map])
 have fin:z1B [some (.sh (Q1 n ts)),some (.sh d)]=some (.rt (.bl (tnB ts.length d))):=by
  refine z0V ?_;have e1:v6 z56 (z8 (z6 1) u9) [some (.sh (Q1 n ts)),some (.sh d)]=some (.bl (x4S d)):=(u7 (ds:=[d]) rfl).trans (y25 d)
  cases d with
  | int i=>exact y0M (a:=true) (b:=tnB ts.length (.int i)) e1 fun _=>(y1O (x:=.int 0) (y:=.int i) (z:=.int (ts.length:Int)) (a:=decide (0≤i)) (b:=decide (i<(ts.length:Int))) rfl rfl rfl (fun _=>hl) (fun _=>rfl))
  | _=>exact y0M (a:=false) (b:=false) e1 fun z=>by cases z
 rw[fin];rfl
theorem y5I:∀bs:List Bool,z7C (bs.map D.bl)=some bs
 | []=>rfl
 | b::bs=>by rw[List.map_cons,z7C,y5I bs];rfl
theorem y26{d:D}(hd:y8U d):z2I [Q1 n ts,d]=some (.bl (z5P ts.length d)):=by
 show z5M (z50 [some (.sh (Q1 n ts)),some (.sh d)])=_
 have fin:z50 [some (.sh (Q1 n ts)),some (.sh d)]=some (.rt (.bl (z5P ts.length d))):=by
  refine z0V ?_
  cases d with
  | tup es =>
   refine y0M (a:=true) (b:=z5P ts.length (.tup es)) rfl fun _=>?_
   have e1:Q0 [none,some 0] (dSq (z6 1)) (w8 0) (z1U) (v6 z1E (z8 (z6 1) (z8 (z6 0) (u9)))) [some (.sh (Q1 n ts)),some (.sh (.tup es))]=some ((es.map (tnB ts.length)).map D.bl):=by
    refine (z0M (ds:=es) rfl (by have:es.length≤40:=hd;unfold LIM;omega)).trans ?_
    refine (z1K (fun ρ=>∃c0,ρ=[c0,some (.sh (Q1 n ts))]) (fun d=>.bl (tnB ts.length d)) _ _ ⟨none,rfl⟩ ?_).trans ?_
    ·rintro e he ρ ⟨c0,rfl⟩
     exact⟨_,rfl,⟨_,rfl⟩,(u7 (ds:=[Q1 n ts,e]) rfl).trans (z6U e)⟩
    ·rw[List.map_map];rfl
   refine (x6Q e1 (y5I _)).trans ?_;rw[List.all_map];rfl
  | _=>exact y0M (a:=false) (b:=false) rfl fun z=>by cases z
 rw[fin];rfl
theorem z94{m:Nat}:∀{es:List D},es.all (tnB m)=true->∃t:List Int,es=t.map D.int/\∀x∈t,0≤x/\x<(m:Int)
 | [],_=>⟨[],rfl,fun x hx=>by simp at hx⟩
 | e::es,h=>by
  rw[List.all_cons,Bool.and_eq_true]at h;obtain⟨t,rfl,ht⟩:=z94 h.2
  cases e with
  | int i =>
   refine⟨i::t,rfl,fun x hx=>?_⟩
   rcases List.mem_cons.mp hx with z|z
   ·subst z
    have:=h.1
    unfold tnB at this;rw[Bool.and_eq_true,decide_eq_true_iff,decide_eq_true_iff]at this;exact this
   ·exact ht x z
  | _=>exact absurd h.1 (by simp[tnB])
theorem x1G{m:Nat}{t:List Int}(ht:∀x∈t,0≤x/\x<(m:Int)):z5P m (.tup (t.map D.int))=true:=by
 show (t.map D.int).all (tnB m)=true
 rw[List.all_map,List.all_eq_true];intro x hx
 have:=ht x hx
 show (decide (0≤x)&&decide (x<(m:Int)))=true
 rw[decide_eq_true this.1,decide_eq_true this.2];rfl
noncomputable def y8Q(d:D):List Int:=(hO d).getD []
theorem x1I(t:List Int):hO (.tup (t.map D.int))=some t:=z93 t
theorem x1J{d:D}{t:List Int}(h:hO d=some t):d = .tup (t.map D.int):=by
 cases d with
 | tup es=>rw[Z1 h]
 | _=>cases h
noncomputable def y01(S:List Int)(lo hi:Int->Int)(q:Bool):Int->List Int->List D->Bool
 | _,_,[]=>true
 | s,held,d::ds=>match hO d with
  | none=>false
  | some t=>z3I q held (Q3 S hi s) (Q5 S lo s) t&&y01 S lo hi q (s+1) t ds
theorem y1M(h:Some8 n ts r S):∀(ds:List D) (s:Int) (held:List Int),Inv8 S (loS r ts) (hiS r ts) s held->y01 S (loS r ts) (hiS r ts) q s held ds=(ds.all (z5P ts.length)&&chk S (loS r ts) (hiS r ts) q s held (ds.map y8Q))
 | [],s,held,I=>rfl
 | d::ds,s,held,I=>by
  rw[List.all_cons,List.map_cons];unfold y01 chk
  cases e:hO d with
  | none =>
   have:z5P ts.length d=false:=by
    cases d with
    | tup es =>
     cases hb:z5P ts.length (.tup es) with
     | false=>rfl
     | true =>
      obtain⟨t,rfl,_⟩:=z94 hb;rw[x1I]at e;cases e
    | _=>rfl
   rw[this];rfl
  | some t =>
   have el:y8Q d=t:=by unfold y8Q;rw[e];rfl
   rw[el];dsimp only
   cases es:z3I q held (Q3 S (hiS r ts) s) (Q5 S (loS r ts) s) t with
   | false=>rw[Bool.false_and,Bool.false_and,Bool.and_false]
   | true =>
    have I':=y15 h.web I es
    have hb:z5P ts.length d=true:=by
     rw[x1J e]
     exact x1G fun x hx=>h.rng x ((I'.mem x).mp hx).1
    rw[hb,y1M h ds (s+1) t I',Bool.true_and,Bool.true_and,Bool.true_and]
noncomputable def z3O:y0->Option Out :=
 (J3 (z1V (z0S (x5 (v6 z4T (z8 (z6 2) (z8 (z6 6) (z8 (v6 W5 (z8 (z6 5) (z8 (z6 3) (z8 (z6 7) (u9))))) (z8 (v6 K7 (z8 (z6 5) (z8 (z6 3) (z8 (z6 7) (u9))))) (z8 (z6 8) (u9)))))))))
 (z08 (dC (.bl false)))
 (Y6))
 (W4 6 (z6 8)))
noncomputable def x2X(n:Int)(ts:List Tie)(r:List Int)(k:Str)(S:List Int)(th:D)(held:D)(c7 c8:Option Cell):y0 :=
 [some (.sh (Q1 n ts)),some (.sh (.tup (r.map D.int))),some (.sh (.str k)),some (.sh (.tup (S.map D.int))),some (.sh th),some (.sh (g6 r ts)),some (.sh held),c7,c8]
theorem x19(h:Some8 n ts r S)(hk:KQ k q){th:D}{held t:List Int}(hl:held.length≤40)(ht:t.length≤40)(s:Int):z3O (x2X n ts r k S th (Y9 held) (some (.sh (.int s))) (some (.sh (Y9 t)))) =
  if z3I q held (Q3 S (hiS r ts) s) (Q5 S (loS r ts) s) t=true then some (.nx (x2X n ts r k S th (Y9 t) (some (.sh (.int s))) (some (.sh (Y9 t))))) else some (.rt (.bl false)):=by
 have e1:=y46 (E:=Q3 S (hiS r ts) s) (B:=Q5 S (loS r ts) s) hk (held:=held) (t:=t) (by omega) (by omega)
 have e2:=z1Z (r:=r) (s:=s) h.rng (by have:=h.len;omega)
 have e3:=z2O (r:=r) (s:=s) h.rng (by have:=h.len;omega)
 have e4:z1V (z0S (x5 (v6 z4T (z8 (z6 2) (z8 (z6 6) (z8 (v6 W5 (z8 (z6 5) (z8 (z6 3) (z8 (z6 7) (u9))))) (z8 (v6 K7 (z8 (z6 5) (z8 (z6 3) (z8 (z6 7) (u9))))) (z8 (z6 8) (u9))))))))) (z08 (dC (.bl false))) Y6 (x2X n ts r k S th (Y9 held) (some (.sh (.int s))) (some (.sh (Y9 t))))=_:=K5 (a:=!z3I q held (Q3 S (hiS r ts) s) (Q5 S (loS r ts) s) t) (z1J (v8 ((u7 (ds:=[.str k,Y9 held,.lst ((Q3 S (hiS r ts) s).map D.int),.lst ((Q5 S (loS r ts) s).map D.int),Y9 t]) (j3 rfl (j3 rfl (j3 ((u7 (ds:=[g6 r ts,.tup (S.map D.int),.int s]) rfl).trans e2) (j3 ((u7 (ds:=[g6 r ts,.tup (S.map D.int),.int s]) rfl).trans e3) rfl))))).trans e1)))
 cases es:z3I q held (Q3 S (hiS r ts) s) (Q5 S (loS r ts) s) t with
 | false =>
  rw[es]at e4;exact z00 (e4.trans rfl)
 | true =>
  rw[es]at e4;rw[if_pos rfl];exact x9 (r:=.rt .non) (e4.trans rfl) ((j4 (d:=Y9 t) rfl).trans rfl)
theorem x18(h:Some8 n ts r S)(hk:KQ k q){th:D}:∀(L:List (List Int)) (s:Nat) (held:List Int) (c7 c8:Option Cell),held.length≤40->(∀t∈L,t.length≤40) ->
  (chk S (loS r ts) (hiS r ts) q s held L=true->∃ρ',Q7 (z2A 2 (g7 (w8 7) (g7 (w8 8) (z2B)))) z3O (z0C s (L.map Y9)) (x2X n ts r k S th (Y9 held) c7 c8)=some (.nx ρ')) /\
  (chk S (loS r ts) (hiS r ts) q s held L=false->Q7 (z2A 2 (g7 (w8 7) (g7 (w8 8) (z2B)))) z3O (z0C s (L.map Y9)) (x2X n ts r k S th (Y9 held) c7 c8)=some (.rt (.bl false)))
 | [],s,held,c7,c8,hl,hL=>⟨fun _=>⟨_,rfl⟩,fun z=>by cases z⟩
 | t::L,s,held,c7,c8,hl,hL=>by
  have e:=x19 h hk (th:=th) hl (hL t List.mem_cons_self) (s:Int)
  obtain⟨i1,i2⟩:=x18 h hk (th:=th) L (s+1) t (some (.sh (.int (s:Int)))) (some (.sh (Y9 t))) (hL t List.mem_cons_self) fun t' h'=>hL t' (List.mem_cons_of_mem _ h')
  unfold chk
  have e0:((s:Int)+1)=((s+1:Nat):Int):=by omega
  rw[e0]
  cases es:z3I q held (Q3 S (hiS r ts) (s:Int)) (Q5 S (loS r ts) (s:Int)) t with
  | false =>
   rw[es,if_neg (by decide)]at e
   rw[Bool.false_and]
   refine⟨fun z=>(by cases z),fun _=>?_⟩
   rw[List.map_cons,z0C];unfold Q7
   show (match z3O (x2X n ts r k S th (Y9 held) (some (.sh (.int (s:Int)))) (some (.sh (Y9 t)))) with
    | some (.nx ρ2)=>Q7 (z2A 2 (g7 (w8 7) (g7 (w8 8) (z2B)))) z3O (z0C (s+1) (L.map Y9)) ρ2
    | some (.ct ρ2)=>Q7 (z2A 2 (g7 (w8 7) (g7 (w8 8) (z2B)))) z3O (z0C (s+1) (L.map Y9)) ρ2
    | some (.bk ρ2)=>some (.nx ρ2)
    | some (.rt v)=>some (.rt v)
    | none=>none)=_
   rw[e]
  | true =>
   rw[es,if_pos rfl]at e;rw[Bool.true_and]
   have st:Q7 (z2A 2 (g7 (w8 7) (g7 (w8 8) (z2B)))) z3O (z0C s ((t::L).map Y9)) (x2X n ts r k S th (Y9 held) c7 c8)=Q7 (z2A 2 (g7 (w8 7) (g7 (w8 8) (z2B)))) z3O (z0C (s+1) (L.map Y9)) (x2X n ts r k S th (Y9 t) (some (.sh (.int (s:Int)))) (some (.sh (Y9 t)))):=by
    rw[List.map_cons,z0C]
    conv=>lhs;unfold Q7
    show (match z3O (x2X n ts r k S th (Y9 held) (some (.sh (.int (s:Int)))) (some (.sh (Y9 t)))) with
     | some (.nx ρ2)=>Q7 (z2A 2 (g7 (w8 7) (g7 (w8 8) (z2B)))) z3O (z0C (s+1) (L.map Y9)) ρ2
     | some (.ct ρ2)=>Q7 (z2A 2 (g7 (w8 7) (g7 (w8 8) (z2B)))) z3O (z0C (s+1) (L.map Y9)) ρ2
     | some (.bk ρ2)=>some (.nx ρ2)
     | some (.rt v)=>some (.rt v)
     | none=>none)=_
    rw[e]
   rw[st]
   exact⟨i1,i2⟩
noncomputable def y9E:y0->Option Out :=
 (J3 (z1V (z0S (x5 (x5E (Q0 [none,some 0] (dSq (z6 4)) (w8 0) (z1U) (v6 z2I (z8 (z6 1) (z8 (z6 0) (u9))))))))
 (z08 (dC (.bl false)))
 (Y6))
 (J3 (W4 5 (v6 z1L (z8 (z6 0) (z8 (z6 1) (u9)))))
 (J3 (W4 6 (z2V (u9)))
 (J3 (z7S (y04 (z6 4)) (z2A 2 (g7 (w8 7) (g7 (w8 8) (z2B)))) z3O)
 (z08 (dC (.bl true)))))))
theorem y7I{m:Nat}:∀{ds:List D},ds.all (z5P m)=true->ds=(ds.map y8Q).map Y9
 | [],_=>rfl
 | d::ds,h=>by
  rw[List.all_cons,Bool.and_eq_true]at h;have ih:=y7I h.2
  have hd:d=Y9 (y8Q d):=by
   cases d with
   | tup es =>
    obtain⟨t,rfl,_⟩:=z94 h.1;unfold y8Q;rw[x1I];rfl
   | _=>exact absurd h.1 (by simp[z5P])
  rw[List.map_cons,List.map_cons,←hd,←ih]
theorem x3B(h:Some8 n ts r S)(hk:KQ k q){ds:List D}(hl:ds.length≤1000)(hf:∀d∈ds,y8U d):z5M (y9E [some (.sh (Q1 n ts)),some (.sh (.tup (r.map D.int))),some (.sh (.str k)),some (.sh (.tup (S.map D.int))),some (.sh (.tup ds)),none,none,none,none])=some (.bl (ds.all (z5P ts.length)&&chk S (loS r ts) (hiS r ts) q 0 [] (ds.map y8Q))):=by
 have e1:Q0 [none,some 0] (dSq (z6 4)) (w8 0) (z1U) (v6 z2I (z8 (z6 1) (z8 (z6 0) (u9)))) [some (.sh (Q1 n ts)),some (.sh (.tup (r.map D.int))),some (.sh (.str k)),some (.sh (.tup (S.map D.int))),some (.sh (.tup ds)),none,none,none,none]=some ((ds.map (z5P ts.length)).map D.bl):=by
  refine (z0M (ds:=ds) rfl (by unfold LIM;omega)).trans ?_
  refine (z1K (fun ρ=>∃c0,ρ=[c0,some (.sh (Q1 n ts))]) (fun d=>.bl (z5P ts.length d)) _ _ ⟨none,rfl⟩ ?_).trans ?_
  ·rintro e he ρ ⟨c0,rfl⟩
   exact⟨_,rfl,⟨_,rfl⟩,(u7 (ds:=[Q1 n ts,e]) rfl).trans (y26 (hf e he))⟩
  ·rw[List.map_map];rfl
 have e2:z1V (z0S (x5 (x5E (Q0 [none,some 0] (dSq (z6 4)) (w8 0) (z1U) (v6 z2I (z8 (z6 1) (z8 (z6 0) (u9)))))))) (z08 (dC (.bl false))) Y6 [some (.sh (Q1 n ts)),some (.sh (.tup (r.map D.int))),some (.sh (.str k)),some (.sh (.tup (S.map D.int))),some (.sh (.tup ds)),none,none,none,none]=_:=K5 (a:=!ds.all (z5P ts.length)) (z1J (v8 ((x6Q e1 (y5I _)).trans (by rw[List.all_map];rfl))))
 cases ha:ds.all (z5P ts.length) with
 | false =>
  rw[ha]at e2
  rw[show y9E _=some (.rt (.bl false)) from z00 (e2.trans rfl)]
  rfl
 | true =>
  rw[ha]at e2;rw[Bool.true_and];have hd:=y7I ha;have e3:=z6Q (n:=n) h.lay.nd h.lay.rl h.lay.hm' h.lay.mem
  have hL:∀t∈ds.map y8Q,t.length≤40:=fun t ht=>by
   have:Y9 t∈ds:=by rw[hd];exact List.mem_map_of_mem ht
   have:=hf _ this
   have h2:(t.map D.int).length≤40:=this;rw[List.length_map]at h2;exact h2
  obtain⟨i1,i2⟩:=x18 h hk (th:=.tup ds) (ds.map y8Q) 0 [] none none (by simp) hL
  rw[←hd]at i1 i2
  have pre:∀o,J3 (z7S (y04 (z6 4)) (z2A 2 (g7 (w8 7) (g7 (w8 8) (z2B)))) z3O) (z08 (dC (.bl true))) (x2X n ts r k S (.tup ds) (Y9 []) none none)=o->y9E [some (.sh (Q1 n ts)),some (.sh (.tup (r.map D.int))),some (.sh (.str k)),some (.sh (.tup (S.map D.int))),some (.sh (.tup ds)),none,none,none,none]=o:=fun o ho=>by
   refine x9 (r:=.rt .non) (e2.trans rfl) ?_;refine x9 (r:=.rt .non) (j4 (d:=g6 r ts) ((u7 (ds:=[Q1 n ts,.tup (r.map D.int)]) rfl).trans e3)) ?_
   exact x9 (r:=.rt .non) (j4 (d:=.tup []) (z7R rfl (by decide))) ho
  cases hc:chk S (loS r ts) (hiS r ts) q 0 [] (ds.map y8Q) with
  | true =>
   obtain⟨ρ',e⟩:=i1 hc;rw[pre (some (.rt (.bl true))) (x9 (r:=.rt .non) ((z1T (ds:=z0C 0 ds) rfl).trans e) (z0V rfl))];rfl
  | false =>
   rw[pre (some (.rt (.bl false))) (z00 ((z1T (ds:=z0C 0 ds) rfl).trans (i2 hc)))];rfl
theorem z7U(h:Some8 n ts r S)(hk:KQ k q){ds:List D}(hl:ds.length≤1000)(hf:∀d∈ds,y8U d):z2E [Q1 n ts,.tup (r.map D.int),.str k,.tup (S.map D.int),.tup ds]=some (.bl (decide (ds.length=r.length)&&y01 S (loS r ts) (hiS r ts) q 0 [] ds)):=by
 show z5M (J3 (z1V (z80 (z0S (x5 (z7B "tuple" (z6 4)))) (x5 (d2 dNe (z09 (dSq (z6 4))) (z09 (dSq (z6 1)))))) (z08 (dC (.bl false))) (Y6)) y9E [some (.sh (Q1 n ts)),some (.sh (.tup (r.map D.int))),some (.sh (.str k)),some (.sh (.tup (S.map D.int))),some (.sh (.tup ds)),none,none,none,none])=_
 have e2:z1V (z80 (z0S (x5 (z7B "tuple" (z6 4)))) (x5 (d2 dNe (z09 (dSq (z6 4))) (z09 (dSq (z6 1)))))) (z08 (dC (.bl false))) Y6 [some (.sh (Q1 n ts)),some (.sh (.tup (r.map D.int))),some (.sh (.str k)),some (.sh (.tup (S.map D.int))),some (.sh (.tup ds)),none,none,none,none]=_:=K5 (a:=!true||!((ds.length:Int)==(r.length:Int))) (z5C (z1J (v8 rfl)) fun _=>v8 ((z2U (x:=.int (ds.length:Int)) (y:=.int (r.length:Int)) (z4L rfl) ((z4L (ds:=r.map D.int) rfl).trans (by rw[List.length_map]))).trans (x6B _ _)))
 rw[y1M h ds 0 [] (z32 h.web)];by_cases c:ds.length=r.length
 ·rw[show (!true||!((ds.length:Int)==(r.length:Int)))=false by rw[c];simp]at e2
  rw[decide_eq_true c,Bool.true_and,←x3B h hk hl hf]
  congr 1
  exact x9 (r:=.rt .non) (e2.trans rfl) rfl
 ·have hne:((ds.length:Int)==(r.length:Int))=false:=by
   rw[beq_eq_false_iff_ne];omega
  rw[hne]at e2;rw[decide_eq_false c,Bool.false_and,z00 (e2.trans rfl)];rfl
theorem y5P{d:D}(hd:y1K "tuple" d=false):z2E [Q1 n ts,.tup (r.map D.int),.str k,.tup (S.map D.int),d]=some (.bl false):=by
 show z5M (J3 (z1V (z80 (z0S (x5 (z7B "tuple" (z6 4)))) (x5 (d2 dNe (z09 (dSq (z6 4))) (z09 (dSq (z6 1)))))) (z08 (dC (.bl false))) (Y6)) y9E [some (.sh (Q1 n ts)),some (.sh (.tup (r.map D.int))),some (.sh (.str k)),some (.sh (.tup (S.map D.int))),some (.sh d),none,none,none,none])=_
 rw[z00 (d:=.bl false) ((K5 (a:=!false||false) (z5C (z1J (v8 ((z96 (d:=d) rfl).trans (by rw[hd])))) fun z=>by cases z)).trans rfl)]
 rfl
end
theorem z8E(a:Int):∀E:List Int,inD (.int a) (E.map D.int)=decide (a∈E)
 | []=>by simp[inD]
 | b::E=>by
  have ih:=z8E a E;unfold inD at ih ⊢;rw[List.map_cons,List.any_cons,ih]
  show ((b==a)||decide (a∈E))=_
  by_cases h:b=a
  ·subst h;simp
  ·have h':¬a=b:=fun z=>h z.symm
   simp[h,h']
section
variable{n:Int}{ts:List Tie}{r S:List Int}{k:Str}{q:Bool}
noncomputable def z3Y(n:Int)(ts:List Tie)(r:List Int)(k:Str)(S:List Int)(th:D)(held:List Int)(c6 c7 c8 c9 c10:Option Cell):y0 :=
 [some (.sh (Q1 n ts)),some (.sh (.tup (r.map D.int))),some (.sh (.str k)),some (.sh (.tup (S.map D.int))),some (.sh th),some (.sh (.lst (held.map D.int))),c6,c7,c8,c9,c10]
noncomputable def z3A:y0->Option Out :=
 (J3 (z1V (z80 (z0S (z79 (z02 (z6 5)))) (x5 (dIn true (dIx (dSq (z6 5)) (dIx (z5T (z8 (dC (.int 0)) (z8 (y5D (dC (.int 1))) (u9)))) (v6 x2W (z8 (d2 dEq (z6 2) (dC (.str "pile"))) u9)))) (dSq (z6 8)))))
 (z08 (dC (.bl false)))
 (Y6))
 (z1V (x5 (d2 dEq (z6 2) (dC (.str "pile"))))
 (W4 5 (z29 (z6 5) (z0O) (u8 (y5D (dC (.int 1))))))
 (W4 5 (z29 (z6 5) (u8 (dC (.int 1))) (z0O)))))
theorem x5O(a:Int)(l:List Int):atI ((a::l).map D.int) 0=some (.int a):=by
 unfold atI
 rw[show (0:Int)=((0:Nat):Int) from rfl,z78 (by simp)]
 rfl
theorem x9T(l:List Int)(a:Int):atI ((l++[a]).map D.int) (-1)=some (.int a):=by
 unfold atI ixN
 rw[List.length_map,List.length_append,List.length_singleton,if_neg (by decide),if_pos (by omega)]
 show ((l++[a]).map D.int)[(-1+((l.length+1:Nat):Int)).toNat]?=_
 rw[show (-1+((l.length+1:Nat):Int)).toNat=l.length by omega,List.getElem?_map,List.getElem?_concat_length]
 rfl
theorem x5F{α:Type}(l:List α)(a:α):cut (l++[a]) none (some (-1))=l:=by
 unfold cut;rw[HT.sIx_none,List.drop_zero,Nat.sub_zero]
 show (l++[a]).take (if (-1:Int)<0 then (-1+((l++[a]).length:Int)).toNat else min (-1:Int).toNat (l++[a]).length)=l
 rw[if_pos (by decide),List.length_append,List.length_singleton,show (-1+((l.length+1:Nat):Int)).toNat=l.length by omega,List.take_left]
theorem w2D(hk:KQ k q){th:D}{held E:List Int}{c6 c7 c9 c10:Option Cell}:dIx (z5T (z8 (dC (.int 0)) (z8 (y5D (dC (.int 1))) (u9)))) (v6 x2W (z8 (d2 dEq (z6 2) (dC (.str "pile"))) u9)) (z3Y n ts r k S th held c6 c7 (some (.sh (.lst (E.map D.int)))) c9 c10)=some (.int (if q=true then 0 else -1)):=by
 refine (z57 (ds:=[.int 0,.int (-1)]) (j:=if q=true then 0 else 1) (z4D rfl (show 2≤LIM by decide)) ?_).trans ?_
 ·refine (u7 (ds:=[.bl (k=="pile")]) rfl).trans ?_;rw[hk.pile]
  cases q<;>rfl
 ·cases q<;>rfl
theorem y7Z(hk:KQ k q){th:D}{held E:List Int}{c6 c7 c9 c10:Option Cell}:z3A (z3Y n ts r k S th held c6 c7 (some (.sh (.lst (E.map D.int)))) c9 c10) =
  match (if q=true then held.head? else held.getLast?) with
  | none=>some (.rt (.bl false))
  | some a=>if a∈E then some (.nx (z3Y n ts r k S th (if q=true then held.drop 1 else held.dropLast) c6 c7 (some (.sh (.lst (E.map D.int)))) c9 c10)) else some (.rt (.bl false)):=by
 have key:∀(a:Int),held≠[]->atI (held.map D.int) (if q=true then 0 else -1)=some (.int a)->z80 (z0S (z79 (z02 (z6 5)))) (x5 (dIn true (dIx (dSq (z6 5)) (dIx (z5T (z8 (dC (.int 0)) (z8 (y5D (dC (.int 1))) (u9)))) (v6 x2W (z8 (d2 dEq (z6 2) (dC (.str "pile"))) u9)))) (dSq (z6 8)))) (z3Y n ts r k S th held c6 c7 (some (.sh (.lst (E.map D.int)))) c9 c10)=some (!decide (a∈E)):=fun a hne ha=>by
  refine (z5C (a:=!true) (b:=!decide (a∈E)) (z1J ?_) fun _=>v8 ?_).trans rfl
  ·show some (!(held.map D.int).isEmpty)=some true
   cases held with
   | nil=>exact absurd rfl hne
   | cons _ _=>rfl
  ·refine (x1R (neg:=true) (d:=.int a) (ds:=E.map D.int) ((z57 (ds:=held.map D.int) rfl (w2D hk)).trans ha) rfl (by rw[z0R];decide) (by simp[depth,z2P])).trans ?_
   rw[z8E];rfl
 have hp:x5 (d2 dEq (z6 2) (dC (.str "pile"))) (z3Y n ts r k S th held c6 c7 (some (.sh (.lst (E.map D.int)))) c9 c10)=some (!q):=v8 ((show _=some (D.bl (k=="pile")) from rfl).trans (by rw[hk.pile]))
 have go:∀(a:Int) (l:List Int),held≠[]->atI (held.map D.int) (if q=true then 0 else -1)=some (.int a)->(if (!q)=true then W4 5 (z29 (z6 5) (z0O) (u8 (y5D (dC (.int 1))))) (z3Y n ts r k S th held c6 c7 (some (.sh (.lst (E.map D.int)))) c9 c10) else W4 5 (z29 (z6 5) (u8 (dC (.int 1))) (z0O)) (z3Y n ts r k S th held c6 c7 (some (.sh (.lst (E.map D.int)))) c9 c10))=some (.nx (z3Y n ts r k S th l c6 c7 (some (.sh (.lst (E.map D.int)))) c9 c10)) ->
   z3A (z3Y n ts r k S th held c6 c7 (some (.sh (.lst (E.map D.int)))) c9 c10)=if a∈E then some (.nx (z3Y n ts r k S th l c6 c7 (some (.sh (.lst (E.map D.int)))) c9 c10)) else some (.rt (.bl false)):=fun a l hne ha hs=>by
  have e1:=key a hne ha;by_cases c:a∈E
  ·rw[decide_eq_true c]at e1;rw[if_pos c];exact x9 (r:=.rt .non) ((K5 e1).trans rfl) ((K5 hp).trans hs)
  ·rw[decide_eq_false c]at e1;rw[if_neg c];exact z00 ((K5 e1).trans rfl)
 cases held with
 | nil =>
  have e0:z3A (z3Y n ts r k S th [] c6 c7 (some (.sh (.lst (E.map D.int)))) c9 c10)=some (.rt (.bl false)):=z00 ((K5 (a:=true||false) (z5C rfl fun z=>by cases z)).trans rfl)
  rw[e0]
  cases q<;>rfl
 | cons b l =>
  cases q with
  | true =>
   refine go b l (by simp) (x5O b l) ?_
   rw[if_neg (by decide)]
   exact (j4 (d:=.lst (l.map D.int)) ((y3I (x:=.lst ((b::l).map D.int)) (lo:=some ((1:Nat):Int)) (hi:=none) rfl rfl rfl).trans (by unfold dSl;dsimp only;rw[z6L];rfl))).trans rfl
  | false =>
   rcases List.eq_nil_or_concat (b::l) with z|⟨l',a,z⟩
   ·cases z
   ·rw[List.concat_eq_append]at z;rw[z]at go ⊢
    show _=(match (l'++[a]).getLast? with|none=>some (Out.rt (.bl false))|some a'=>if a'∈E then some (Out.nx (z3Y n ts r k S th (l'++[a]).dropLast c6 c7 (some (.sh (.lst (E.map D.int)))) c9 c10)) else some (Out.rt (.bl false)))
    rw[List.getLast?_concat,List.dropLast_concat];dsimp only
    refine go a l' (by simp) (x9T l' a) ?_
    rw[if_pos (by decide)]
    exact (j4 (d:=.lst (l'.map D.int)) ((y3I (x:=.lst ((l'++[a]).map D.int)) (lo:=none) (hi:=some (-1)) rfl rfl rfl).trans (by unfold dSl;dsimp only;rw[List.map_append,List.map_singleton,x5F]))).trans rfl
theorem y6J(hk:KQ k q){th:D}{E:List Int}{c6 c7 c9:Option Cell}:∀(m:Nat) (s:Int) (held:List Int) (c10:Option Cell),
  (y4T q E m held=none->Q7 (w8 10) z3A (J0 s m) (z3Y n ts r k S th held c6 c7 (some (.sh (.lst (E.map D.int)))) c9 c10)=some (.rt (.bl false))) /\
  (∀l,y4T q E m held=some l->∃c10',Q7 (w8 10) z3A (J0 s m) (z3Y n ts r k S th held c6 c7 (some (.sh (.lst (E.map D.int)))) c9 c10)=some (.nx (z3Y n ts r k S th l c6 c7 (some (.sh (.lst (E.map D.int)))) c9 c10')))
 | 0,s,held,c10=>⟨fun z=>by simp[y4T]at z,fun l z=>by cases z;exact⟨c10,rfl⟩⟩
 | m+1,s,held,c10=>by
  have e:=y7Z (n:=n) (ts:=ts) (r:=r) (S:=S) hk (th:=th) (held:=held) (E:=E) (c6:=c6) (c7:=c7) (c9:=c9) (c10:=some (.sh (.int s)));rw[z52]
  have st:Q7 (w8 10) z3A (.int s::J0 (s+1) m) (z3Y n ts r k S th held c6 c7 (some (.sh (.lst (E.map D.int)))) c9 c10)=(match z3A (z3Y n ts r k S th held c6 c7 (some (.sh (.lst (E.map D.int)))) c9 (some (.sh (.int s)))) with
   | some (.nx ρ2)=>Q7 (w8 10) z3A (J0 (s+1) m) ρ2
   | some (.ct ρ2)=>Q7 (w8 10) z3A (J0 (s+1) m) ρ2
   | some (.bk ρ2)=>some (.nx ρ2)
   | some (.rt v)=>some (.rt v)
   | none=>none):=by
   conv=>lhs;unfold Q7
   rfl
  rw[st,e];unfold y4T
  cases (if q=true then held.head? else held.getLast?) with
  | none=>exact⟨fun _=>rfl,fun l z=>by cases z⟩
  | some a =>
   dsimp only;by_cases c:a∈E
   ·rw[if_pos c,if_pos c];exact y6J hk m (s+1) _ (some (.sh (.int s)))
   ·rw[if_neg c,if_neg c]
    exact⟨fun _=>rfl,fun l z=>by cases z⟩
theorem w0T{r:List Int}{s:Tie}{fi:y0->Option (List D)}{ρ:y0}(h0:fi ρ=some [.int s.1,.int s.2])(hc:y1U [none,some 2] ρ=[none,some (.sh (.tup (r.map D.int)))])(h1:s.1∈r)(h2:s.2∈r) :
  Q0 [none,some 2] fi (w8 0) z1U (z22 (z6 1) (z6 0)) ρ=some [.int (ixI r s.1),.int (ixI r s.2)]:=by
 refine (z0M h0 (show 2≤LIM by decide)).trans ?_
 rw[hc]
 refine (z1K (fun ρ=>∃c,ρ=[c,some (.sh (.tup (r.map D.int)))]) (fun d=>match d with|.int p=>.int (ixI r p)|_=>.non) _ _ ⟨none,rfl⟩ ?_).trans rfl
 rintro d hd ρ ⟨c,rfl⟩
 refine⟨_,rfl,⟨_,rfl⟩,?_⟩
 simp only[List.mem_cons,List.not_mem_nil,or_false]at hd
 rcases hd with rfl|rfl
 ·exact z8D h1 rfl rfl
 ·exact z8D h2 rfl rfl
theorem y5Y(h:Some8 n ts r S){x:Int}(hx:x∈S)(s:Int):∃a b:Int,Q0 [none,some 2] (dSq (dIx (dSq (dIx (dSq (z6 1)) (dC (.int 1)))) (z6 0))) (w8 0) z1U (z22 (z6 1) (z6 0)) [some (.sh (.int x)),some (.sh (Q1 n ts)),some (.sh (.tup (r.map D.int))),some (.sh (.int s))]=some [.int a,.int b]/\loS r ts x=min a b/\hiS r ts x=max a b:=by
 have hr:=h.rng x hx
 obtain⟨t,ht,ht',e⟩:=h.lay.sp (i:=x.toNat) (by omega)
 have hm:=h.lay.mem t ht
 refine⟨ixI r t.1,ixI r t.2,?_,?_,?_⟩
 ·refine w0T (s:=t) ?_ rfl hm.1 hm.2;refine z1R ((z57 (ds:=ts.map W8) (j:=x) rfl rfl).trans ?_)
  have:=y5L ht'
  rw[Int.toNat_of_nonneg hr.1]at this;exact this
 ·unfold loS;rw[e];rfl
 ·unfold hiS;rw[e];rfl
noncomputable def w3N:y0->Option (List D):=Q0 [none,some 0,some 1,some 6] (dSq (z6 3)) (w8 0) (x5 (d2 dEq (y03 (Q0 [none,some 2] (dSq (dIx (dSq (dIx (dSq (z6 1)) (dC (.int 1)))) (z6 0))) (w8 0) (z1U) (z22 (z6 1) (z6 0)))) (z6 3))) (z6 0)
noncomputable def w3S:y0->Option (List D):=Q0 [none,some 0,some 1,some 6] (dSq (z6 3)) (w8 0) (x5 (d2 dEq (z81 (Q0 [none,some 2] (dSq (dIx (dSq (dIx (dSq (z6 1)) (dC (.int 1)))) (z6 0))) (w8 0) (z1U) (z22 (z6 1) (z6 0)))) (z6 3))) (z6 0)
theorem x59(h:Some8 n ts r S){th:D}{held:List Int}{s:Int}{c7 c8 c9 c10:Option Cell}:w3N (z3Y n ts r k S th held (some (.sh (.int s))) c7 c8 c9 c10)=some ((Q3 S (hiS r ts) s).map D.int):=by
 refine (z0M (ds:=S.map D.int) rfl (by have:=h.len;rw[List.length_map];unfold LIM;omega)).trans ?_
 refine (K4 (fun ρ=>∃c,ρ=[c,some (.sh (Q1 n ts)),some (.sh (.tup (r.map D.int))),some (.sh (.int s))]) (fun d=>match d with|.int x=>hiS r ts x==s|_=>false) (fun d=>d) _ _ ⟨none,rfl⟩ ?_).trans ?_
 ·rintro d hd ρ ⟨c,rfl⟩
  obtain⟨x,hx,rfl⟩:=List.mem_map.mp hd;obtain⟨a,b,e,_,e2⟩:=y5Y h hx s
  refine⟨_,rfl,⟨_,rfl⟩,v8 ?_,fun _=>rfl⟩
  refine (z2U (x:=.int (hiS r ts x)) (y:=.int s) ?_ rfl).trans (y3J _ _);rw[e2]
  show (match Q0 [none,some 2] (dSq (dIx (dSq (dIx (dSq (z6 1)) (dC (.int 1)))) (z6 0))) (w8 0) z1U (z22 (z6 1) (z6 0)) [some (.sh (.int x)),some (.sh (Q1 n ts)),some (.sh (.tup (r.map D.int))),some (.sh (.int s))] with|some ds=>(match Z4 ds with|some (n::ns)=>some (D.int (y1E n ns))|_=>none)|none=>none)=_
  rw[e];rfl
 ·rw[List.map_id',List.filter_map];rfl
theorem x5L(h:Some8 n ts r S){th:D}{held:List Int}{s:Int}{c7 c8 c9 c10:Option Cell}:w3S (z3Y n ts r k S th held (some (.sh (.int s))) c7 c8 c9 c10)=some ((Q5 S (loS r ts) s).map D.int):=by
 refine (z0M (ds:=S.map D.int) rfl (by have:=h.len;rw[List.length_map];unfold LIM;omega)).trans ?_
 refine (K4 (fun ρ=>∃c,ρ=[c,some (.sh (Q1 n ts)),some (.sh (.tup (r.map D.int))),some (.sh (.int s))]) (fun d=>match d with|.int x=>loS r ts x==s|_=>false) (fun d=>d) _ _ ⟨none,rfl⟩ ?_).trans ?_
 ·rintro d hd ρ ⟨c,rfl⟩
  obtain⟨x,hx,rfl⟩:=List.mem_map.mp hd;obtain⟨a,b,e,e1,_⟩:=y5Y h hx s
  refine⟨_,rfl,⟨_,rfl⟩,v8 ?_,fun _=>rfl⟩
  refine (z2U (x:=.int (loS r ts x)) (y:=.int s) ?_ rfl).trans (y3J _ _);rw[e1]
  show (match Q0 [none,some 2] (dSq (dIx (dSq (dIx (dSq (z6 1)) (dC (.int 1)))) (z6 0))) (w8 0) z1U (z22 (z6 1) (z6 0)) [some (.sh (.int x)),some (.sh (Q1 n ts)),some (.sh (.tup (r.map D.int))),some (.sh (.int s))] with|some ds=>(match Z4 ds with|some (n::ns)=>some (D.int (z69 n ns))|_=>none)|none=>none)=_
  rw[e];rfl
 ·rw[List.map_id',List.filter_map];rfl
noncomputable def w1T:y0->Option Out :=
 (J3 (z7S (z2W (z09 (dSq (z6 8)))) (w8 10) z3A)
 (J3 (z1V (z80 (x5 (d2 dNe (dLs (dQF some (dSq (z54 (z29 (z6 7) (z0O) (u8 (z09 (dSq (z6 5))))) (z53 (z6 7) (z0O) (u8 (z09 (dSq (z6 5))))))))) (z6 5))) (x5 (d2 dNe (dLs (dQF z4I (dSq (z54 (z29 (z6 7) (u8 (z09 (dSq (z6 5)))) (z0O)) (z53 (z6 7) (u8 (z09 (dSq (z6 5)))) (z0O)))))) (z6 9))))
 (z08 (dC (.bl false)))
 (Y6))
 (W4 5 (dLs (dQF some (dSq (z6 7)))))))
noncomputable def z06:y0->Option Out :=
 (J3 (z1V (z0S (x5 (z7B "tuple" (z6 7))))
 (z08 (dC (.bl false)))
 (Y6))
 (J3 (z1V (z79 (Q0 [none] (dSq (z6 7)) (w8 0) (z80 (z0S (x5 (z7B "int" (z6 0)))) (x5 (z7B "bool" (z6 0)))) (z6 0)))
 (z08 (dC (.bl false)))
 (Y6))
 (J3 (W4 8 (dLs w3N))
 (J3 (W4 9 (dLs w3S))
 w1T))))
theorem w3Q{th:D}{left t B:List Int}(ht:t.length≤40){c6 c8 c10:Option Cell}:z80 (x5 (d2 dNe (dLs (dQF some (dSq (z54 (z29 (z6 7) (z0O) (u8 (z09 (dSq (z6 5))))) (z53 (z6 7) (z0O) (u8 (z09 (dSq (z6 5))))))))) (z6 5))) (x5 (d2 dNe (dLs (dQF z4I (dSq (z54 (z29 (z6 7) (u8 (z09 (dSq (z6 5)))) (z0O)) (z53 (z6 7) (u8 (z09 (dSq (z6 5)))) (z0O)))))) (z6 9))) (z3Y n ts r k S th left c6 (some (.sh (Y9 t))) c8 (some (.sh (.lst (B.map D.int)))) c10)=some (!((t.take left.length==left)&&(z2R (t.drop left.length)==B))):=by
 have lenL:z09 (dSq (z6 5)) (z3Y n ts r k S th left c6 (some (.sh (Y9 t))) c8 (some (.sh (.lst (B.map D.int)))) c10)=some (.int (left.length:Int)):=(z4L (ds:=left.map D.int) rfl).trans (by rw[List.length_map])
 refine (z5C (a:=!decide (t.take left.length=left)) (b:=!decide (z2R (t.drop left.length)=B)) (v8 ?_) fun _=>v8 ?_).trans ?_
 ·exact (z2U (x:=.lst ((t.take left.length).map D.int)) (y:=.lst (left.map D.int)) (z1S ((y1P (ds:=(t.take left.length).map D.int) (z1R ((sl_tup (ds:=t.map D.int) rfl rfl (z3D lenL)).trans (by rw[y7A,List.map_take])))).trans rfl)) rfl).trans (x6A _ _)
 ·exact (z2U (x:=.lst ((z2R (t.drop left.length)).map D.int)) (y:=.lst (B.map D.int)) (z1S ((y1P (ds:=(t.drop left.length).map D.int) (z1R ((sl_tup (ds:=t.map D.int) rfl (z3D lenL) rfl).trans (by rw[z6L,List.map_drop])))).trans (z6X (by rw[List.length_drop];omega)))) rfl).trans (x6A _ _)
 ·rw[y1X,y1X,Bool.not_and]
theorem x4Z{th d:D}(hd:y1K "tuple" d=false){held:List Int}{c6 c8 c9 c10:Option Cell}:z06 (z3Y n ts r k S th held c6 (some (.sh d)) c8 c9 c10)=some (.rt (.bl false)) :=
 z00 ((K5 (a:=!false) (z1J (v8 ((z96 (d:=d) rfl).trans (by rw[hd]))))).trans rfl)
theorem x2F{th:D}{es:List D}(hl:es.length≤40){held:List Int}{c6 c8 c9 c10:Option Cell}:z79 (Q0 [none] (dSq (z6 7)) (w8 0) (z80 (z0S (x5 (z7B "int" (z6 0)))) (x5 (z7B "bool" (z6 0)))) (z6 0)) (z3Y n ts r k S th held c6 (some (.sh (.tup es))) c8 c9 c10)=some (!es.all x4S):=by
 have e1:Q0 [none] (dSq (z6 7)) (w8 0) (z80 (z0S (x5 (z7B "int" (z6 0)))) (x5 (z7B "bool" (z6 0)))) (z6 0) (z3Y n ts r k S th held c6 (some (.sh (.tup es))) c8 c9 c10)=some (es.filter fun d=>!x4S d):=by
  refine (z0M (ds:=es) rfl (by unfold LIM;omega)).trans ?_
  refine (K4 (fun ρ=>∃c,ρ=[c]) (fun d=>!x4S d) (fun d=>d) _ _ ⟨none,rfl⟩ ?_).trans (by rw[List.map_id'])
  rintro d hd ρ ⟨c,rfl⟩
  refine⟨_,rfl,⟨_,rfl⟩,?_,fun _=>rfl⟩
  refine (z5C (a:=!y1K "int" d) (b:=y1K "bool" d) (z1J (v8 (z96 rfl))) fun _=>v8 (z96 rfl)).trans ?_
  cases d<;>rfl
 unfold z79;rw[e1];dsimp only
 congr 2
 rw[Bool.eq_iff_iff,List.isEmpty_iff,List.filter_eq_nil_iff,List.all_eq_true];constructor
 ·intro z x hx
  have:=z x hx
  simpa using this
 ·intro z x hx;rw[z x hx];decide
theorem x4Y{th:D}{es:List D}(hl:es.length≤40)(hd:hO (.tup es)=none){held:List Int}{c6 c8 c9 c10:Option Cell}:z06 (z3Y n ts r k S th held c6 (some (.sh (.tup es))) c8 c9 c10)=some (.rt (.bl false)):=by
 have hb:es.all x4S=false:=by
  have:=y3E es
  rw[show Z4 es=none from hd]at this
  exact this.symm
 refine x9 (r:=.rt .non) ((K5 (a:=!true) (z1J (v8 rfl))).trans rfl) ?_
 exact z00 ((K5 (a:=!false) ((x2F hl).trans (by rw[hb]))).trans rfl)
theorem x4X(h:Some8 n ts r S)(hk:KQ k q){th:D}{t held:List Int}(ht:t.length≤40){s:Int}(I:Inv8 S (loS r ts) (hiS r ts) s held){c8 c9 c10:Option Cell} :
  (z3I q held (Q3 S (hiS r ts) s) (Q5 S (loS r ts) s) t=false->z06 (z3Y n ts r k S th held (some (.sh (.int s))) (some (.sh (Y9 t))) c8 c9 c10)=some (.rt (.bl false))) /\
  (z3I q held (Q3 S (hiS r ts) s) (Q5 S (loS r ts) s) t=true->∃c8' c9' c10',z06 (z3Y n ts r k S th held (some (.sh (.int s))) (some (.sh (Y9 t))) c8 c9 c10)=some (.nx (z3Y n ts r k S th t (some (.sh (.int s))) (some (.sh (Y9 t))) c8' c9' c10'))):=by
 have hb:(t.map D.int).all x4S=true:=by rw[List.all_map,List.all_eq_true];exact fun _ _=>rfl
 obtain⟨p1,p2⟩:=y6J (n:=n) (ts:=ts) (r:=r) (S:=S) hk (th:=th) (E:=Q3 S (hiS r ts) s) (c6:=some (.sh (.int s))) (c7:=some (.sh (Y9 t))) (c9:=some (.sh (.lst ((Q5 S (loS r ts) s).map D.int)))) (Q3 S (hiS r ts) s).length 0 held c10;rw[x43 q I.nd (y59 h.web s)]at p1 p2
 have er:z2W (z09 (dSq (z6 8))) (z3Y n ts r k S th held (some (.sh (.int s))) (some (.sh (Y9 t))) (some (.sh (.lst ((Q3 S (hiS r ts) s).map D.int)))) (some (.sh (.lst ((Q5 S (loS r ts) s).map D.int)))) c10)=some (J0 0 (Q3 S (hiS r ts) s).length):=by
  have hl:(Q3 S (hiS r ts) s).length≤S.length:=List.length_filter_le _ _
  have:=h.len
  have e4:=z5Q (fa:=z09 (dSq (z6 8))) (ρ:=z3Y n ts r k S th held (some (.sh (.int s))) (some (.sh (Y9 t))) (some (.sh (.lst ((Q3 S (hiS r ts) s).map D.int)))) (some (.sh (.lst ((Q5 S (loS r ts) s).map D.int)))) c10) (j:=(((Q3 S (hiS r ts) s).map D.int).length:Int)) rfl (by rw[List.length_map];unfold okR;rw[decide_eq_true (by omega),decide_eq_true (by omega)];rfl)
  rw[List.length_map,Int.toNat_natCast]at e4;exact e4
 have pre:∀o,w1T (z3Y n ts r k S th held (some (.sh (.int s))) (some (.sh (Y9 t))) (some (.sh (.lst ((Q3 S (hiS r ts) s).map D.int)))) (some (.sh (.lst ((Q5 S (loS r ts) s).map D.int)))) c10)=o->z06 (z3Y n ts r k S th held (some (.sh (.int s))) (some (.sh (Y9 t))) c8 c9 c10)=o:=fun o ho=>by
  refine x9 (r:=.rt .non) ((K5 (a:=!true) (z1J (v8 rfl))).trans rfl) ?_
  refine x9 (r:=.rt .non) ((K5 (a:=!true) ((x2F (es:=t.map D.int) (by rw[List.length_map];exact ht)).trans (by rw[hb]))).trans rfl) ?_
  refine x9 (r:=.rt .non) (j4 (z1S (x59 h))) ?_;exact x9 (r:=.rt .non) (j4 (z1S (x5L (held:=held) (k:=k) (th:=th) h))) ho
 unfold z3I
 cases e:z2S q held (Q3 S (hiS r ts) s) with
 | none =>
  refine⟨fun _=>?_,fun z=>by cases z⟩
  exact pre _ (z00 ((z1T er).trans (p1 e)))
 | some left =>
  dsimp only;obtain⟨c10',p3⟩:=p2 left e;have ec:=K5 (g:=z08 (dC (.bl false))) (k:=Y6) (w3Q (n:=n) (ts:=ts) (r:=r) (k:=k) (S:=S) (th:=th) (left:=left) (B:=Q5 S (loS r ts) s) ht (c6:=some (.sh (.int s))) (c8:=some (.sh (.lst ((Q3 S (hiS r ts) s).map D.int)))) (c10:=c10'))
  cases hc:(t.take left.length==left)&&(z2R (t.drop left.length)==Q5 S (loS r ts) s) with
  | false =>
   rw[hc]at ec
   refine⟨fun _=>?_,fun z=>by cases z⟩
   exact pre _ (x9 (r:=.rt .non) ((z1T er).trans p3) (z00 (ec.trans rfl)))
  | true =>
   rw[hc]at ec
   refine⟨fun z=>(by cases z),fun _=>⟨some (.sh (.lst ((Q3 S (hiS r ts) s).map D.int))),some (.sh (.lst ((Q5 S (loS r ts) s).map D.int))),c10',pre _ (x9 (r:=.rt .non) ((z1T er).trans p3) (x9 (r:=.rt .non) (ec.trans rfl) ?_))⟩⟩
   exact (j4 (d:=.lst (t.map D.int)) (z1S ((y1P (ds:=t.map D.int) rfl).trans rfl))).trans rfl
theorem x54{t:List Int}(h:y8U (.tup (t.map D.int))):t.length≤40:=by
 have:(t.map D.int).length≤40:=h
 rw[List.length_map]at this;exact this
theorem y3F(h:Some8 n ts r S)(hk:KQ k q){th:D}:∀(ds:List D) (s:Nat) (held:List Int) (c6 c7 c8 c9 c10:Option Cell),Inv8 S (loS r ts) (hiS r ts) s held->(∀d∈ds,y8U d)->(s:Int)+ds.length=n ->
  (y01 S (loS r ts) (hiS r ts) q s held ds=false->Q7 (z2A 2 (g7 (w8 6) (g7 (w8 7) (z2B)))) z06 (z0C s ds) (z3Y n ts r k S th held c6 c7 c8 c9 c10)=some (.rt (.bl false))) /\
  (y01 S (loS r ts) (hiS r ts) q s held ds=true->∃c6' c7' c8' c9' c10',Q7 (z2A 2 (g7 (w8 6) (g7 (w8 7) (z2B)))) z06 (z0C s ds) (z3Y n ts r k S th held c6 c7 c8 c9 c10)=some (.nx (z3Y n ts r k S th [] c6' c7' c8' c9' c10')))
 | [],s,held,c6,c7,c8,c9,c10,I,hf,hn=>by
  have:held=[]:=x96 h.web (by rw[List.length_nil]at hn;rw[show n=(s:Int) by omega];exact I)
  subst this
  exact⟨fun z=>(by cases z),fun _=>⟨c6,c7,c8,c9,c10,rfl⟩⟩
 | d::ds,s,held,c6,c7,c8,c9,c10,I,hf,hn=>by
  have hd:=hf d List.mem_cons_self
  have st:Q7 (z2A 2 (g7 (w8 6) (g7 (w8 7) (z2B)))) z06 (z0C s (d::ds)) (z3Y n ts r k S th held c6 c7 c8 c9 c10)=(match z06 (z3Y n ts r k S th held (some (.sh (.int (s:Int)))) (some (.sh d)) c8 c9 c10) with
   | some (.nx ρ2)=>Q7 (z2A 2 (g7 (w8 6) (g7 (w8 7) (z2B)))) z06 (z0C (s+1) ds) ρ2
   | some (.ct ρ2)=>Q7 (z2A 2 (g7 (w8 6) (g7 (w8 7) (z2B)))) z06 (z0C (s+1) ds) ρ2
   | some (.bk ρ2)=>some (.nx ρ2)
   | some (.rt v)=>some (.rt v)
   | none=>none):=by
   rw[z0C]
   conv=>lhs;unfold Q7
   rfl
  rw[st];unfold y01
  cases e:hO d with
  | none =>
   have en:z06 (z3Y n ts r k S th held (some (.sh (.int (s:Int)))) (some (.sh d)) c8 c9 c10)=some (.rt (.bl false)):=by
    cases d with
    | tup es=>exact x4Y hd e
    | _=>exact x4Z rfl
   rw[en]
   exact⟨fun _=>rfl,fun z=>by cases z⟩
  | some t =>
   have hdt:=x1J e;subst hdt;obtain⟨y1,y2⟩:=x4X h hk (th:=th) (t:=t) (x54 hd) I (c8:=c8) (c9:=c9) (c10:=c10);dsimp only
   cases es:z3I q held (Q3 S (hiS r ts) (s:Int)) (Q5 S (loS r ts) (s:Int)) t with
   | false =>
    have en:=y1 es;unfold Y9 at en;rw[en,Bool.false_and]
    exact⟨fun _=>rfl,fun z=>by cases z⟩
   | true =>
    obtain⟨c8',c9',c10',en⟩:=y2 es;unfold Y9 at en;rw[en,Bool.true_and]
    have e0:((s:Int)+1)=((s+1:Nat):Int):=by omega
    have I':=y15 h.web I es;rw[e0]at I' ⊢
    exact y3F h hk ds (s+1) t _ _ c8' c9' c10' I' (fun d' h'=>hf d' (List.mem_cons_of_mem _ h')) (by rw[List.length_cons]at hn;omega)
noncomputable def w45:y0->Option Out :=
 (J3 (W4 5 (dLs (z5T (u9))))
 (J3 (z7S (y04 (z6 4)) (z2A 2 (g7 (w8 6) (g7 (w8 7) (z2B)))) z06)
 (z08 (d2 dEq (z6 5) (dLs (z5T (u9)))))))
noncomputable def x1H:y0->Option Out:=J3 (z1V (z80 (z0S (x5 (z7B "tuple" (z6 4)))) (x5 (d2 dNe (z09 (dSq (z6 4))) (z09 (dSq (z6 1)))))) (z08 (dC (.bl false))) (Y6)) w45
theorem z4F(h:Some8 n ts r S)(hk:KQ k q){ds:List D}(hf:∀d∈ds,y8U d):W7 [Q1 n ts,.tup (r.map D.int),.str k,.tup (S.map D.int),.tup ds]=some (.bl (decide (ds.length=r.length)&&y01 S (loS r ts) (hiS r ts) q 0 [] ds)):=by
 show z5M (x1H [some (.sh (Q1 n ts)),some (.sh (.tup (r.map D.int))),some (.sh (.str k)),some (.sh (.tup (S.map D.int))),some (.sh (.tup ds)),none,none,none,none,none,none])=_
 have e2:z1V (z80 (z0S (x5 (z7B "tuple" (z6 4)))) (x5 (d2 dNe (z09 (dSq (z6 4))) (z09 (dSq (z6 1)))))) (z08 (dC (.bl false))) Y6 [some (.sh (Q1 n ts)),some (.sh (.tup (r.map D.int))),some (.sh (.str k)),some (.sh (.tup (S.map D.int))),some (.sh (.tup ds)),none,none,none,none,none,none]=_:=K5 (a:=!true||!((ds.length:Int)==(r.length:Int))) (z5C (z1J (v8 rfl)) fun _=>v8 ((z2U (x:=.int (ds.length:Int)) (y:=.int (r.length:Int)) (z4L rfl) ((z4L (ds:=r.map D.int) rfl).trans (by rw[List.length_map]))).trans (x6B _ _)))
 by_cases c:ds.length=r.length
 ·rw[show (!true||!((ds.length:Int)==(r.length:Int)))=false by rw[c];simp]at e2
  rw[decide_eq_true c,Bool.true_and]
  obtain⟨i1,i2⟩:=y3F h hk (th:=.tup ds) ds 0 [] none none none none none (z32 h.web) hf (by have:=h.lay.len;omega)
  have pre:∀o,J3 (z7S (y04 (z6 4)) (z2A 2 (g7 (w8 6) (g7 (w8 7) (z2B)))) z06) (z08 (d2 dEq (z6 5) (dLs (z5T (u9))))) (z3Y n ts r k S (.tup ds) [] none none none none none)=o->x1H [some (.sh (Q1 n ts)),some (.sh (.tup (r.map D.int))),some (.sh (.str k)),some (.sh (.tup (S.map D.int))),some (.sh (.tup ds)),none,none,none,none,none,none]=o:=fun o ho =>
   x9 (r:=.rt .non) (e2.trans rfl) (x9 (r:=.rt .non) (j4 (z1S (ds:=[]) (z4D rfl (by decide)))) ho)
  cases hc:y01 S (loS r ts) (hiS r ts) q 0 [] ds with
  | false =>
   rw[pre _ (z00 ((z1T (ds:=z0C 0 ds) rfl).trans (i1 hc)))];rfl
  | true =>
   obtain⟨c6,c7,c8,c9,c10,e⟩:=i2 hc
   rw[pre (some (.rt (.bl true))) (x9 (r:=.rt .non) ((z1T (ds:=z0C 0 ds) rfl).trans e) (z0V ((z2U (x:=.lst []) (y:=.lst []) rfl (z1S (z4D rfl (by decide)))).trans (x1T [] []))))]
   rfl
 ·have hne:((ds.length:Int)==(r.length:Int))=false:=by
   rw[beq_eq_false_iff_ne];omega
  rw[hne]at e2
  rw[decide_eq_false c,Bool.false_and,show x1H _=some (.rt (.bl false)) from z00 (e2.trans rfl)]
  rfl
theorem z9O{d:D}(hd:y1K "tuple" d=false):W7 [Q1 n ts,.tup (r.map D.int),.str k,.tup (S.map D.int),d]=some (.bl false):=by
 show z5M (x1H [some (.sh (Q1 n ts)),some (.sh (.tup (r.map D.int))),some (.sh (.str k)),some (.sh (.tup (S.map D.int))),some (.sh d),none,none,none,none,none,none])=_
 rw[show x1H _=some (.rt (.bl false)) from z00 (d:=.bl false) ((K5 (a:=!false||false) (z5C (z1J (v8 ((z96 (d:=d) rfl).trans (by rw[hd])))) fun z=>by cases z)).trans rfl)]
 rfl
end
noncomputable def z9L:D->Prop
 | .tup ds=>ds.length≤1000/\∀d∈ds,y8U d
 | _=>True
section
variable{n:Int}{ts:List Tie}{r S:List Int}{k w:Str}{q:Bool}
theorem y99(h:Some8 n ts r S)(hk:KQ k q){d:D}(hd:z9L d):∃b:Bool,z2E [Q1 n ts,.tup (r.map D.int),.str k,.tup (S.map D.int),d]=some (.bl b)/\W7 [Q1 n ts,.tup (r.map D.int),.str k,.tup (S.map D.int),d]=some (.bl b):=by
 cases d with
 | tup ds=>exact⟨_,z7U h hk hd.1 hd.2,z4F h hk hd.2⟩
 | _=>exact⟨false,y5P rfl,z9O rfl⟩
theorem x8T(L:List (List Int)):(L.map Y9).map y8Q=L:=by
 rw[List.map_map]
 refine (List.map_congr_left (fun t _=>?_:∀t∈L,(y8Q∘Y9) t=t)).trans (List.map_id _)
 show (hO (.tup (t.map D.int))).getD []=t
 rw[x1I];rfl
theorem x28(h:Some8 n ts r S):∀(L:List (List Int)) (s:Int) (held:List Int),Inv8 S (loS r ts) (hiS r ts) s held->chk S (loS r ts) (hiS r ts) q s held L=true->∀t∈L,t.length≤12
 | [],_,_,_,_,t,ht=>by simp at ht
 | t0::L,s,held,I,hc,t,ht=>by
  unfold chk at hc;rw[Bool.and_eq_true]at hc;have I':=y15 h.web I hc.1
  rcases List.mem_cons.mp ht with z|z
  ·subst z;exact h.held I'
  ·exact x28 h L (s+1) t0 I' hc.2 t z
theorem x3U(h:Some8 n ts r S)(hk:KQ k q){L:List (List Int)}(e:z71 S (loS r ts) (hiS r ts) q 0 [] r.length=some L) :
  (z2E [Q1 n ts,.tup (r.map D.int),.str k,.tup (S.map D.int),.tup (L.map Y9)]=some (.bl true)/\W7 [Q1 n ts,.tup (r.map D.int),.str k,.tup (S.map D.int),.tup (L.map Y9)]=some (.bl true))/\L.length=r.length/\∀t∈L,t.length≤12:=by
 obtain⟨c1,c2,c3⟩:=y9W h.web r.length 0 [] (z32 h.web) e;have hl:=x28 h L 0 [] (z32 h.web) c1;have rl:=h.lay.rl
 have hf:∀d∈L.map Y9,y8U d:=fun d hd=>by
  obtain⟨t,ht,rfl⟩:=List.mem_map.mp hd
  show (t.map D.int).length≤40
  rw[List.length_map]
  have:=hl t ht
  omega
 have hh:(decide ((L.map Y9).length=r.length)&&y01 S (loS r ts) (hiS r ts) q 0 [] (L.map Y9))=true:=by
  rw[y1M h _ 0 [] (z32 h.web),x8T,c1,decide_eq_true (by rw[List.length_map];exact c2),Bool.and_true,Bool.true_and,List.all_map,List.all_eq_true]
  exact fun t ht=>x1G fun x hx=>h.rng x (c3 t ht x hx)
 refine⟨⟨?_,?_⟩,c2,hl⟩
 ·rw[z7U h hk (by rw[List.length_map];omega) hf,hh]
 ·rw[z4F h hk hf,hh]
theorem x9O(h:Lay n ts r)(hk:KQ k q)(hw:KW k w){i j:Nat}(hi:i<ts.length)(hj:j<ts.length)(hne:i≠j):clP r ts w i j=true↔(XX (loS r ts) (hiS r ts) q (i:Int) (j:Int)∨XX (loS r ts) (hiS r ts) q (j:Int) (i:Int)):=by
 have si:=h.sp_ok hi;have sj:=h.sp_ok hj
 have li:loS r ts (i:Int)=(z7K r ts i).1:=by unfold loS;rw[Int.toNat_natCast]
 have hi':hiS r ts (i:Int)=(z7K r ts i).2:=by unfold hiS;rw[Int.toNat_natCast]
 have lj:loS r ts (j:Int)=(z7K r ts j).1:=by unfold loS;rw[Int.toNat_natCast]
 have hj':hiS r ts (j:Int)=(z7K r ts j).2:=by unfold hiS;rw[Int.toNat_natCast]
 rw[x9P];unfold XX;rw[li,hi',lj,hj']
 have hsp:z7K r ts i≠z7K r ts j:=fun e=>hne (h.sp_inj hi hj e)
 have kq:(w = "cross"/\q=false)∨(w = "within"/\q=true):=by
  rcases hk with⟨rfl,rfl⟩|⟨rfl,rfl⟩
  ·rcases hw with⟨_,rfl⟩|⟨e,_⟩
   ·exact .inl ⟨rfl,rfl⟩
   ·exact absurd e (by decide +kernel)
  ·rcases hw with⟨e,_⟩|⟨_,rfl⟩
   ·exact absurd e (by decide +kernel)
   ·exact .inr ⟨rfl,rfl⟩
 rcases z8N (z7K r ts i) (z7K r ts j) with z|z|z
 ·have tl:=y5X z
  rcases kq with⟨rfl,rfl⟩|⟨rfl,rfl⟩
  ·rw[y37 z si.2.1 sj.2.1,if_neg (by decide),if_neg (by decide)]
   omega
  ·rw[y0J z si.2.1 sj.2.1,if_pos rfl,if_pos rfl];omega
 ·exact absurd z hsp
 ·have tl:=y5X z;rw[x4I]
  rcases kq with⟨rfl,rfl⟩|⟨rfl,rfl⟩
  ·rw[y37 z sj.2.1 si.2.1,if_neg (by decide),if_neg (by decide)]
   omega
  ·rw[y0J z sj.2.1 si.2.1,if_pos rfl,if_pos rfl];omega
noncomputable def z4N(S:List Int)(t:Tie):Bool:=decide (t.1∈S)&&decide (t.2∈S)
noncomputable def y55(ts:List Tie)(r S:List Int)(w:Str):Bool:=((z0B ts.length (clP r ts w) ts.length).filter (z4N S)).isEmpty
theorem x51(h:Some8 n ts r S)(hk:KQ k q)(hw:KW k w):y55 ts r S w=true↔∀i∈S,∀j∈S,¬XX (loS r ts) (hiS r ts) q i j:=by
 unfold y55;rw[List.isEmpty_iff,List.filter_eq_nil_iff];constructor
 ·intro z i hi j hj X;have ri:=h.rng i hi;have rj:=h.rng j hj;obtain⟨a,rfl⟩:=Int.eq_ofNat_of_zero_le ri.1;obtain⟨b,rfl⟩:=Int.eq_ofNat_of_zero_le rj.1
  have hne:a≠b:=fun e=>by subst e;have:=X.1;omega
  rcases Nat.lt_or_gt_of_ne hne with c|c
  ·have hc:=(x9O h.lay hk hw (i:=a) (j:=b) (by omega) (by omega) hne).mpr (.inl X)
   exact z ((a:Int),(b:Int)) (z25.mpr ⟨a,b,rfl,by omega,c,by omega,hc⟩) (by unfold z4N;rw[decide_eq_true hi,decide_eq_true hj];rfl)
  ·have hc:=(x9O h.lay hk hw (i:=b) (j:=a) (by omega) (by omega) (Ne.symm hne)).mpr (.inr X)
   exact z ((b:Int),(a:Int)) (z25.mpr ⟨b,a,rfl,by omega,c,by omega,hc⟩) (by unfold z4N;rw[decide_eq_true hi,decide_eq_true hj];rfl)
 ·intro z t ht hb;obtain⟨i,j,rfl,_,h1,h2,hc⟩:=z25.mp ht;unfold z4N at hb;rw[Bool.and_eq_true,decide_eq_true_iff,decide_eq_true_iff]at hb
  rcases (x9O h.lay hk hw (i:=i) (j:=j) (by omega) h2 (by omega)).mp hc with X|X
  ·exact z _ hb.1 _ hb.2 X
  ·exact z _ hb.2 _ hb.1 X
theorem x50(h:Some8 n ts r S)(hk:KQ k q)(hw:KW k w):(∃L,z71 S (loS r ts) (hiS r ts) q 0 [] r.length=some L)↔y55 ts r S w=true:=by
 rw[x51 h hk hw];constructor
 ·rintro ⟨L,e⟩ i hi j hj X
  refine y2S h.web r.length 0 [] (z32 h.web) List.Pairwise.nil (by have:=h.lay.len;omega) e i hi j hj X ?_
  unfold w3U
  have:=h.web.lo0 i hi
  have:=h.web.lo0 j hj
  have:=h.web.lt i hi
  have:=h.web.lt j hj
  split<;>omega
 ·intro z;exact y68 h.web z r.length 0 [] (z32 h.web) List.Pairwise.nil
noncomputable def slA:y0->Option D:=z54 (z29 (z6 0) (z0O) (u8 (z6 2))) (z53 (z6 0) (z0O) (u8 (z6 2)))
noncomputable def slB:y0->Option D:=z54 (z29 (z6 0) (u8 (d2 z0K (z6 2) (dC (.int 1)))) (z0O)) (z53 (z6 0) (u8 (d2 z0K (z6 2) (dC (.int 1)))) (z0O))
noncomputable def z65(ds:List D)(a:Int)(x:D):D:=.tup ((cut ds none (some a)++[x])++cut ds (some (a+1)) none)
theorem x5V{ρ:y0}{ds:List D}{a:Int}(h0:z6 0 ρ=some (.tup ds))(h2:z6 2 ρ=some (.int a)):slA ρ=some (.tup (cut ds none (some a))):=sl_tup h0 rfl (z3D h2)
theorem x5U{ρ:y0}{ds:List D}{a:Int}(h0:z6 0 ρ=some (.tup ds))(h2:z6 2 ρ=some (.int a)):slB ρ=some (.tup (cut ds (some (a+1)) none)):=sl_tup h0 (z3D ((z2U h2 rfl).trans rfl)) rfl
theorem z7D{xs ys:List D}(h:xs.length+ys.length≤LIM):z0K (.tup xs) (.tup ys)=some (.tup (xs++ys)):=by
 show (if xs.length+ys.length≤LIM then some (D.tup (xs++ys)) else none)=_
 rw[if_pos h]
theorem x8J{ρ:y0}{ds:List D}{a:Int}{X:y0->Option D}{x:D}(h0:z6 0 ρ=some (.tup ds))(h2:z6 2 ρ=some (.int a))(hl:ds.length≤100)(hX:X ρ=some x):d2 z0K (d2 z0K slA (z2V (z8 X (u9)))) slB ρ=some (z65 ds a x):=by
 have l1:=(z1X ds none (some a)).length_le;have l2:=(z1X ds (some (a+1)) none).length_le
 refine (z2U (x:=.tup (cut ds none (some a)++[x])) (y:=.tup (cut ds (some (a+1)) none)) ((z2U (x:=.tup (cut ds none (some a))) (y:=.tup [x]) (x5V h0 h2) (z7R (j3 hX rfl) (show 1≤LIM by decide))).trans (z7D ?_)) (x5U h0 h2)).trans (z7D ?_)
 ·rw[List.length_singleton];unfold LIM;omega
 ·rw[List.length_append,List.length_singleton];unfold LIM;omega
theorem x0E{ds:List D}{a:Int}{x:D}(hl:ds.length≤100)(hf:∀d∈ds,y8U d)(hx:y8U x):z9L (z65 ds a x):=by
 have l1:=(z1X ds none (some a)).length_le;have l2:=(z1X ds (some (a+1)) none).length_le
 refine⟨by rw[List.length_append,List.length_append,List.length_singleton];omega,fun d hd=>?_⟩
 rcases List.mem_append.mp hd with z|z
 ·rcases List.mem_append.mp z with z|z
  ·exact hf d ((z1X _ _ _).mem z)
  ·rw[List.mem_singleton.mp z];exact hx
 ·exact hf d ((z1X _ _ _).mem z)
theorem z9N{L:List (List Int)}(h0:0<L.length)(hl:L.length≤100)(ht:∀t∈L,t.length≤12)(c:Int):∃d,W6 [.tup (L.map Y9),.int c]=some d/\z9L d:=by
 have hf:∀d∈L.map Y9,y8U d:=fun d hd=>by
  obtain⟨t,h,rfl⟩:=List.mem_map.mp hd
  show (t.map D.int).length≤40
  rw[List.length_map]
  have:=ht t h
  omega
 have hlm:(L.map Y9).length≤100:=by rw[List.length_map];exact hl
 have a1:0≤c % (L.length:Int):=Int.emod_nonneg _ (by omega)
 have a2:c % (L.length:Int)<(L.length:Int):=Int.emod_lt_of_pos _ (by omega)
 generalize ea:c % (L.length:Int)=a at a1 a2;obtain⟨j,rfl⟩:=Int.eq_ofNat_of_zero_le a1
 have hj:j<L.length:=by omega
 have htl:=ht _ (List.getElem_mem hj);generalize et:L[j]=t at htl
 have tl:(t.map D.int).length≤12:=by rw[List.length_map];exact htl
 have eat:atI (L.map Y9) (j:Int)=some (Y9 t):=by
  unfold atI;rw[List.length_map,z78 hj]
  show (L.map Y9)[j]?=_
  rw[List.getElem?_map,List.getElem?_eq_getElem hj,et];rfl
 generalize eds:L.map Y9=ds at hf hlm eat
 have lds:ds.length=L.length:=by rw[←eds,List.length_map]
 have hP:∀{x:D},y8U x->z9L (z65 ds (j:Int) x):=fun hx=>x0E hlm hf hx
 have l1:=(z1X ds none (some (j:Int))).length_le;have l2:=(z1X ds (some ((j:Int)+1)) none).length_le
 let tens:List D:=([z65 ds (j:Int) (.tup (t.map D.int).reverse),.tup (cut ds none (some (j:Int))++cut ds (some ((j:Int)+1)) none),.tup (ds++[.tup []]),.lst ds,.non]++[z65 ds (j:Int) (.tup (cut (t.map D.int) (some 1) none)),z65 ds (j:Int) (.tup (t.map D.int++[.int 0])),.tup ds.reverse])++[z65 ds (j:Int) (.lst (t.map D.int)),z65 ds (j:Int) (.tup (t.map D.int++[.non]))]
 have fines:∀d∈tens,z9L d:=fun d hd=>by
  simp only[tens,List.cons_append,List.nil_append,List.mem_cons,List.not_mem_nil,or_false]at hd
  rcases hd with rfl|rfl|rfl|rfl|rfl|rfl|rfl|rfl|rfl|rfl
  ·exact hP (show (t.map D.int).reverse.length≤40 by rw[List.length_reverse];omega)
  ·refine⟨by rw[List.length_append];omega,fun d hd=>?_⟩
   rcases List.mem_append.mp hd with z|z
   ·exact hf d ((z1X _ _ _).mem z)
   ·exact hf d ((z1X _ _ _).mem z)
  ·refine⟨by rw[List.length_append,List.length_singleton];omega,fun d hd=>?_⟩
   rcases List.mem_append.mp hd with z|z
   ·exact hf d z
   ·rw[List.mem_singleton.mp z];exact Nat.zero_le _
  ·trivial
  ·trivial
  ·exact hP (show (cut (t.map D.int) (some 1) none).length≤40 by have:=(z1X (t.map D.int) (some 1) none).length_le;omega)
  ·exact hP (show (t.map D.int++[D.int 0]).length≤40 by rw[List.length_append,List.length_singleton];omega)
  ·exact⟨by rw[List.length_reverse];omega,fun d hd=>hf d (List.mem_reverse.mp hd)⟩
  ·exact hP trivial
  ·exact hP (show (t.map D.int++[D.non]).length≤40 by rw[List.length_append,List.length_singleton];omega)
 have i1:0≤c / 8 % 10:=Int.emod_nonneg _ (by decide)
 have i2:c / 8 % 10<10:=Int.emod_lt_of_pos _ (by decide)
 generalize ei:c / 8 % 10=i at i1 i2;obtain⟨m,rfl⟩:=Int.eq_ofNat_of_zero_le i1
 have hm:m<tens.length:=by
  show m<10
  omega
 have em:atI tens (m:Int)=some tens[m]:=by
  unfold atI;rw[z78 hm];exact List.getElem?_eq_getElem hm
 refine⟨tens[m],?_,fines _ (List.getElem_mem hm)⟩
 have part:∀{ρ:y0} {X:y0->Option D} {x:D},z6 0 ρ=some (.tup ds)->z6 2 ρ=some (.int (j:Int))->X ρ=some x->d2 z0K (d2 z0K slA (z2V (z8 X (u9)))) slB ρ=some (z65 ds (j:Int) x):=fun h0 h2 hX=>x8J h0 h2 hlm hX
 have s1:∀{ρ:y0},z6 0 ρ=some (.tup ds)->z6 2 ρ=some (.int (j:Int))->z6 3 ρ=some (Y9 t)->z5T (z8 (d2 z0K (d2 z0K slA (z2V (z8 (x2Y (z6 3) (y5D (dC (.int 1)))) (u9)))) slB) (z8 (d2 z0K slA slB) (z8 (d2 z0K (z6 0) (z2V (z8 (z2V (u9)) (u9)))) (z8 (dLs (dQF some (dSq (z6 0)))) (z8 (dC .non) (u9)))))) ρ=some [z65 ds (j:Int) (.tup (t.map D.int).reverse),.tup (cut ds none (some (j:Int))++cut ds (some ((j:Int)+1)) none),.tup (ds++[.tup []]),.lst ds,.non]:=fun {ρ} h0 h2 h3=>by
  refine z4D (j3 (part h0 h2 ?_) (j3 ((z2U (x5V h0 h2) (x5U h0 h2)).trans (z7D (by unfold LIM;omega))) (j3 ((z2U (x:=.tup ds) (y:=.tup [.tup []]) h0 rfl).trans (z7D (by rw[List.length_singleton];unfold LIM;omega))) (j3 (z1S ((y1P (ds:=ds) (z1R h0)).trans rfl)) rfl)))) (show 5≤LIM by decide)
  unfold x2Y;rw[h3];rfl
 have s2:∀{ρ:y0},z6 0 ρ=some (.tup ds)->z6 2 ρ=some (.int (j:Int))->z6 3 ρ=some (Y9 t)->z5T (z8 (d2 z0K (d2 z0K slA (z2V (z8 (z54 (z29 (z6 3) (u8 (dC (.int 1))) (z0O)) (z53 (z6 3) (u8 (dC (.int 1))) (z0O))) (u9)))) slB) (z8 (d2 z0K (d2 z0K slA (z2V (z8 (d2 z0K (z6 3) (z2V (z8 (dC (.int 0)) (u9)))) (u9)))) slB) (z8 (x2Y (z6 0) (y5D (dC (.int 1)))) (u9)))) ρ=some [z65 ds (j:Int) (.tup (cut (t.map D.int) (some 1) none)),z65 ds (j:Int) (.tup (t.map D.int++[.int 0])),.tup ds.reverse]:=fun {ρ} h0 h2 h3=>by
  refine z4D (j3 (part h0 h2 (sl_tup (ds:=t.map D.int) h3 rfl rfl)) (j3 (part h0 h2 ((z2U (x:=.tup (t.map D.int)) (y:=.tup [.int 0]) h3 rfl).trans (z7D (by rw[List.length_singleton];unfold LIM;omega)))) (j3 ?_ rfl))) (show 3≤LIM by decide)
  unfold x2Y;rw[h0];rfl
 have s3:∀{ρ:y0},z6 0 ρ=some (.tup ds)->z6 2 ρ=some (.int (j:Int))->z6 3 ρ=some (Y9 t)->z5T (z8 (d2 z0K (d2 z0K slA (z2V (z8 (dLs (dQF some (dSq (z6 3)))) (u9)))) slB) (z8 (d2 z0K (d2 z0K slA (z2V (z8 (d2 z0K (z6 3) (z2V (z8 (dC .non) (u9)))) (u9)))) slB) (u9))) ρ=some [z65 ds (j:Int) (.lst (t.map D.int)),z65 ds (j:Int) (.tup (t.map D.int++[.non]))]:=fun {ρ} h0 h2 h3 =>
  z4D (j3 (part h0 h2 (z1S ((y1P (ds:=t.map D.int) (z1R h3)).trans rfl))) (j3 (part h0 h2 ((z2U (x:=.tup (t.map D.int)) (y:=.tup [.non]) h3 rfl).trans (z7D (by rw[List.length_singleton];unfold LIM;omega)))) rfl)) (show 2≤LIM by decide)
 have cat:∀{ρ:y0} {fa fb:y0->Option (List D)} {xs ys:List D},fa ρ=some xs->fb ρ=some ys->xs.length+ys.length≤LIM->y1T fa fb ρ=some (xs++ys):=fun {ρ fa fb xs ys} h1 h2 h3=>by
  unfold y1T;rw[h1];dsimp only;rw[h2];dsimp only;rw[if_pos h3]
 have fin:z34 [some (.sh (.tup ds)),some (.sh (.int c)),none,none,none]=some (.rt tens[m]):=by
  refine x9 (r:=.rt .non) (j4 (d:=.int (j:Int)) ((z2U (x:=.int c) (y:=.int (L.length:Int)) rfl ((z4L (ds:=ds) rfl).trans (by rw[lds]))).trans ((y31 c (by omega)).trans (by rw[ea])))) ?_
  refine x9 (r:=.rt .non) (j4 (d:=Y9 t) ((z57 (ds:=ds) (j:=(j:Int)) rfl rfl).trans eat)) ?_;refine x9 (r:=.rt .non) (j4 (z1S (s1 rfl rfl rfl))) ?_
  refine x9 (r:=.rt .non) (j4 (z1S (cat rfl (s2 rfl rfl rfl) (show 8≤LIM by decide)))) ?_
  refine x9 (r:=.rt .non) (j4 (z1S (cat rfl (s3 rfl rfl rfl) (show 10≤LIM by decide)))) ?_
  refine z0V ((z57 (ds:=tens) (j:=(m:Int)) rfl ?_).trans em)
  exact (z2U (x:=.int (c / 8)) (y:=.int 10) ((z2U (x:=.int c) (y:=.int 8) rfl rfl).trans rfl) rfl).trans ((y31 _ (by decide)).trans (by rw[ei]))
 show z5M (z34 [some (.sh (.tup ds)),some (.sh (.int c)),none,none,none])=_
 rw[fin];rfl
end
theorem y4Y{d:D}(h:depth d≤z2P):dNe d d=some (.bl false):=by
 unfold dNe;rw[if_pos ⟨h,h⟩,z8G];rfl
theorem x1E{n:Nat}{p:Int}:p∈iUp 0 n↔0≤p/\p<(n:Int):=by
 unfold iUp;constructor
 ·intro h;obtain⟨k,hk,rfl⟩:=List.mem_map.mp h
  have:=List.mem_range.mp hk
  omega
 ·intro h
  exact List.mem_map.mpr ⟨p.toNat,List.mem_range.mpr (by omega),by omega⟩
theorem x1D(n:Nat):(iUp 0 n).Nodup:=by
 unfold iUp
 exact List.pairwise_map.mpr (List.nodup_range.imp fun {a b} h z=>h (by omega))
theorem y35{h:D->y0->Option y0}{g:y0->Option Out}{d:D}{ds:List D}{ρ ρ1 ρ2:y0}(h1:h d ρ=some ρ1)(h2:g ρ1=some (.nx ρ2)):Q7 h g (d::ds) ρ=Q7 h g ds ρ2:=by
 conv=>lhs;unfold Q7
 rw[h1];dsimp only;rw[h2]
section
variable{n:Int}{ts:List Tie}{r S:List Int}{k w:Str}{q:Bool}
noncomputable def y49(ns:List Int)(c1:Option Cell)(n:Int)(ts:List Tie)(r:List Int)(c4:Option Cell)(S:List Int)(k:Str)(c7 c8 c9 c10 c11 c12 c13:Option Cell):y0 :=
 [some (.sh (.lst (ns.map D.int))),c1,some (.sh (Q1 n ts)),some (.sh (.tup (r.map D.int))),c4,some (.sh (.tup (S.map D.int))),some (.sh (.str k)),c7,c8,c9,c10,c11,c12,c13]
noncomputable def z5Z:y0->Option Out :=
 (J3 (W4 12 (v6 z2E (z8 (z6 2) (z8 (z6 3) (z8 (z6 6) (z8 (z6 5) (z8 (z6 11) (u9))))))))
 (J3 (W4 13 (v6 W7 (z8 (z6 2) (z8 (z6 3) (z8 (z6 6) (z8 (z6 5) (z8 (z6 11) (u9))))))))
 (z1V (z80 (z0S (x5 (z7B "bool" (z6 12)))) (x5 (d2 dNe (z6 12) (z6 13))))
 (z08 (dC (.bl false)))
 (Y6))))
theorem y2J(h:Some8 n ts r S)(hk:KQ k q){ns:List Int}{d:D}(hd:z9L d){c1 c4 c7 c8 c9 c10 c12 c13:Option Cell}:∃c12' c13',z5Z (y49 ns c1 n ts r c4 S k c7 c8 c9 c10 (some (.sh d)) c12 c13)=some (.nx (y49 ns c1 n ts r c4 S k c7 c8 c9 c10 (some (.sh d)) c12' c13')):=by
 obtain⟨b,e1,e2⟩:=y99 h hk hd
 refine⟨some (.sh (.bl b)),some (.sh (.bl b)),?_⟩
 refine x9 (r:=.rt .non) (j4 (d:=.bl b) ((u7 (ds:=[Q1 n ts,.tup (r.map D.int),.str k,.tup (S.map D.int),d]) rfl).trans e1)) ?_;refine x9 (r:=.rt .non) (j4 (d:=.bl b) ((u7 (ds:=[Q1 n ts,.tup (r.map D.int),.str k,.tup (S.map D.int),d]) rfl).trans e2)) ?_
 exact (K5 (a:=!true||false) (z5C (z1J (v8 rfl)) fun _=>v8 ((z2U (x:=.bl b) (y:=.bl b) rfl rfl).trans (y4Y (by simp[depth,z2P]))))).trans rfl
theorem y2I(h:Some8 n ts r S)(hk:KQ k q){ns:List Int}{c1 c4 c7 c8 c9 c10 c11 c12 c13:Option Cell}{T:List D}(hT:∀d∈T,z9L d):∃c11' c12' c13',Q7 (w8 11) z5Z T (y49 ns c1 n ts r c4 S k c7 c8 c9 c10 c11 c12 c13)=some (.nx (y49 ns c1 n ts r c4 S k c7 c8 c9 c10 c11' c12' c13')):=by
 obtain⟨ρ',e,d11,d12,d13,rfl⟩:=y1H (h:=w8 11) (g:=z5Z) (fun ρ=>∃d11 d12 d13:Option Cell,ρ=y49 ns c1 n ts r c4 S k c7 c8 c9 c10 d11 d12 d13) (ds:=T) (ρ:=y49 ns c1 n ts r c4 S k c7 c8 c9 c10 c11 c12 c13) ⟨_,_,_,rfl⟩ (fun d hd ρ hI=>by
  obtain⟨d11,d12,d13,rfl⟩:=hI;obtain⟨e12,e13,e⟩:=y2J h hk (ns:=ns) (hT d hd) (c1:=c1) (c4:=c4) (c7:=c7) (c8:=c8) (c9:=c9) (c10:=c10) (c12:=d12) (c13:=d13)
  exact⟨_,_,rfl,.inl e,⟨_,_,_,rfl⟩⟩)
 exact⟨_,_,_,e⟩
noncomputable def y0H:y0->Option Out :=
 (J3 (z1V (z0S (x5 (v6 W7 (z8 (z6 2) (z8 (z6 3) (z8 (z6 6) (z8 (z6 5) (z8 (z6 8) (u9)))))))))
 (z08 (dC (.bl false)))
 (Y6))
 (J3 (z1V (x5 (d2 x2Z (v6 z2E (z8 (z6 2) (z8 (z6 3) (z8 (z6 6) (z8 (z6 5) (z8 (z6 8) (u9))))))) (dC (.bl true))))
 (z08 (dC (.bl false)))
 (Y6))
 (W4 10 (dLs (y1T (z02 (z6 10)) (Q0 [none,some 8] (dSq (z29 (z6 0) (u8 (dC (.int 6))) (u8 (dC (.int 10))))) (w8 0) (z1U) (v6 W6 (z8 (z6 1) (z8 (z6 0) (u9))))))))))
noncomputable def w3F:y0->Option D:=d2 dEq (dLs (Q0 [none,some 5] (dSq (z6 7)) (w8 0) (z5U (x5 (dIn false (dIx (dSq (z6 0)) (dC (.int 0))) (dSq (z6 1)))) (x5 (dIn false (dIx (dSq (z6 0)) (dC (.int 1))) (dSq (z6 1))))) (z6 0))) (dLs (z5T (u9)))
noncomputable def w3T:y0->Option (List D):=z5T (z8 (dC .non) (z8 (z2V (u9)) (z8 (d2 y3N (z2V (z8 (z2V (u9)) (u9))) (dIx (dSq (z6 2)) (dC (.int 0)))) (u9))))
noncomputable def y71:y0->Option Out :=
 (J3 (W4 7 (v6 z2D (z8 (z6 2) (z8 (z6 3) (z8 (z6 6) (u9))))))
 (J3 (W4 8 (v6 z6S (z8 (z6 2) (z8 (z6 3) (z8 (z6 6) (z8 (z6 5) (u9)))))))
 (J3 (W4 9 w3F)
 (J3 (z1V (x5 (d2 dNe (d2 x2Z (z6 8) (dC .non)) (z6 9)))
 (z08 (dC (.bl false)))
 (Y6))
 (J3 (W4 10 (dLs w3T))
 (J3 (z1V (x5 (z6 9))
 y0H
 (Y6))
 (z7S (dSq (z6 10)) (w8 11)
 z5Z)))))))
theorem y78(h:Some8 n ts r S){ns:List Int}{pairs:List Tie}(hp:pairs.length≤1000){c1 c4 c8 c9 c10 c11 c12 c13:Option Cell}:w3F (y49 ns c1 n ts r c4 S k (some (.sh (.lst (pairs.map W8)))) c8 c9 c10 c11 c12 c13)=some (.bl (pairs.filter (z4N S)).isEmpty):=by
 have e1:Q0 [none,some 5] (dSq (z6 7)) (w8 0) (z5U (x5 (dIn false (dIx (dSq (z6 0)) (dC (.int 0))) (dSq (z6 1)))) (x5 (dIn false (dIx (dSq (z6 0)) (dC (.int 1))) (dSq (z6 1))))) (z6 0) (y49 ns c1 n ts r c4 S k (some (.sh (.lst (pairs.map W8)))) c8 c9 c10 c11 c12 c13)=some ((pairs.filter (z4N S)).map W8):=by
  refine (z0M (ds:=pairs.map W8) rfl (by rw[List.length_map];unfold LIM;omega)).trans ?_
  refine (K4 (fun ρ=>∃c0,ρ=[c0,some (.sh (.tup (S.map D.int)))]) (fun d=>match d with|.tup [.int a,.int b]=>z4N S (a,b)|_=>false) (fun d=>d) _ _ ⟨none,rfl⟩ ?_).trans ?_
  ·rintro d hd ρ ⟨c0,rfl⟩
   obtain⟨t,ht,rfl⟩:=List.mem_map.mp hd
   refine⟨_,rfl,⟨_,rfl⟩,?_,fun _=>rfl⟩
   refine (y56 (a:=decide (t.1∈S)) (b:=decide (t.2∈S)) (v8 ((x1R (neg:=false) (d:=.int t.1) (ds:=S.map D.int) rfl rfl (by rw[z0R];decide) (by simp[depth,z2P])).trans (by rw[z8E];rfl))) fun _=>v8 ((x1R (neg:=false) (d:=.int t.2) (ds:=S.map D.int) rfl rfl (by rw[z0R];decide) (by simp[depth,z2P])).trans (by rw[z8E];rfl))).trans rfl
  ·rw[List.map_id',List.filter_map];rfl
 refine (z2U (x:=.lst ((pairs.filter (z4N S)).map W8)) (y:=.lst []) (z1S e1) (z1S (z4D rfl (by decide)))).trans ?_
 unfold dEq;have hd:=z5S (pairs.filter (z4N S))
 rw[if_pos ⟨by rw[depth];unfold z2P;omega,by simp[depth,z0J,z2P]⟩,beq]
 cases pairs.filter (z4N S)<;>simp[y28]
theorem y7H(h:Some8 n ts r S)(h0:0≤n){ρ:y0}(hw:z6 2 ρ=some (Q1 n ts)):∃X:List D,w3T ρ=some [.non,.tup [],.tup X]/\∀d∈[D.non,.tup [],.tup X],z9L d:=by
 have hn:=h.lay.n6
 refine⟨(List.replicate n.toNat [D.tup []]).flatten,?_,fun d hd=>?_⟩
 ·refine z4D (j3 rfl (j3 rfl (j3 ?_ rfl))) (show 3≤LIM by decide)
  refine (z2U (x:=.tup [.tup []]) (y:=.int n) rfl ((z57 (ds:=[.int n,.tup (ts.map W8)]) (j:=0) (z1R hw) rfl).trans rfl)).trans ?_
  show (if [D.tup []]≠[]/\-(2 ^ 63)≤n/\n<2 ^ 63/\[D.tup []].length*n.toNat≤LIM then some (D.tup (List.replicate n.toNat [D.tup []]).flatten) else none)=_
  rw[if_pos ⟨by simp,by omega,by omega,by rw[List.length_singleton];unfold LIM;omega⟩]
 ·simp only[List.mem_cons,List.not_mem_nil,or_false]at hd
  rcases hd with rfl|rfl|rfl
  ·trivial
  ·exact⟨Nat.zero_le _,fun d hd=>by simp at hd⟩
  ·refine⟨?_,fun d hd=>?_⟩
   ·rw[List.length_flatten,List.map_replicate,List.sum_replicate_nat,List.length_singleton];omega
   ·obtain⟨l,hl,hd⟩:=List.mem_flatten.mp hd;rw[(List.mem_replicate.mp hl).2]at hd;rw[List.mem_singleton.mp hd];exact Nat.zero_le _
theorem y7B(ns:List Int)(lo hi:Option Int):∃ms:List Int,cut (ns.map D.int) lo hi=ms.map D.int/\ms.length≤ns.length:=by
 unfold cut
 refine⟨(ns.drop (HT.sIx (ns.map D.int).length 0 lo)).take (HT.sIx (ns.map D.int).length (ns.map D.int).length hi-HT.sIx (ns.map D.int).length 0 lo),?_,?_⟩
 ·rw[←List.map_drop,←List.map_take]
 ·rw[List.length_take,List.length_drop];omega
theorem x8R(h:Some8 n ts r S)(h1:1≤n)(hk:KQ k q){ns:List Int}(hns:ns.length≤63){L:List (List Int)}(e:z71 S (loS r ts) (hiS r ts) q 0 [] r.length=some L){T:List D}(hT:∀d∈T,z9L d)(hTl:T.length≤3){c1 c4 c7 c9 c11 c12 c13:Option Cell} :
  ∃T':List D,y0H (y49 ns c1 n ts r c4 S k c7 (some (.sh (.tup (L.map Y9)))) c9 (some (.sh (.lst T))) c11 c12 c13)=some (.nx (y49 ns c1 n ts r c4 S k c7 (some (.sh (.tup (L.map Y9)))) c9 (some (.sh (.lst T'))) c11 c12 c13))/\∀d∈T',z9L d:=by
 obtain⟨⟨t1,t2⟩,l1,l2⟩:=x3U h hk e;have hlen:=h.lay.len;have hn:=h.lay.n6;obtain⟨ms,em,hml⟩:=y7B ns (some 6) (some 10)
 have sp:=z9N (L:=L) (by omega) (by omega) l2
 let y:D->D:=fun d=>(W6 [.tup (L.map Y9),d]).getD .non
 have hy:∀c:Int,W6 [.tup (L.map Y9),.int c]=some (y (.int c))/\z9L (y (.int c)):=fun c=>by
  obtain⟨d,e1,e2⟩:=sp c
  have:y (.int c)=d:=by show (W6 [.tup (L.map Y9),.int c]).getD .non=d;rw[e1];rfl
  rw[this]
  exact⟨e1,e2⟩
 refine⟨T++(ms.map D.int).map y,?_,fun d hd=>?_⟩
 ·refine x9 (r:=.rt .non) ((K5 (a:=!true) (z1J (v8 ((u7 (ds:=[Q1 n ts,.tup (r.map D.int),.str k,.tup (S.map D.int),.tup (L.map Y9)]) rfl).trans t2)))).trans rfl) ?_;refine x9 (r:=.rt .non) ((K5 (a:=false) (v8 ((z2U (x:=.bl true) (y:=.bl true) ((u7 (ds:=[Q1 n ts,.tup (r.map D.int),.str k,.tup (S.map D.int),.tup (L.map Y9)]) rfl).trans t1) rfl).trans rfl))).trans rfl) ?_;refine (j4 (d:=.lst (T++(ms.map D.int).map y)) (z1S ?_)).trans rfl
  have e1:Q0 [none,some 8] (dSq (z29 (z6 0) (u8 (dC (.int 6))) (u8 (dC (.int 10))))) (w8 0) (z1U) (v6 W6 (z8 (z6 1) (z8 (z6 0) (u9)))) (y49 ns c1 n ts r c4 S k c7 (some (.sh (.tup (L.map Y9)))) c9 (some (.sh (.lst T))) c11 c12 c13)=some ((ms.map D.int).map y):=by
   refine (z0M (ds:=ms.map D.int) (x1P ((y3I (x:=.lst (ns.map D.int)) (lo:=some 6) (hi:=some 10) rfl rfl rfl).trans (by rw[←em];rfl))) (by rw[List.length_map];unfold LIM;omega)).trans ?_
   refine z1K (fun ρ=>∃c0,ρ=[c0,some (.sh (.tup (L.map Y9)))]) y _ _ ⟨none,rfl⟩ ?_
   rintro d hd ρ ⟨c0,rfl⟩
   obtain⟨c,hc,rfl⟩:=List.mem_map.mp hd
   exact⟨_,rfl,⟨_,rfl⟩,(u7 (ds:=[.tup (L.map Y9),.int c]) rfl).trans (hy c).1⟩
  show (match Q0 [none,some 8] (dSq (z29 (z6 0) (u8 (dC (.int 6))) (u8 (dC (.int 10))))) (w8 0) (z1U) (v6 W6 (z8 (z6 1) (z8 (z6 0) (u9)))) (y49 ns c1 n ts r c4 S k c7 (some (.sh (.tup (L.map Y9)))) c9 (some (.sh (.lst T))) c11 c12 c13) with|some ys=>if T.length+ys.length≤LIM then some (T++ys) else none|none=>none)=_
  rw[e1];dsimp only
  rw[if_pos (by rw[List.length_map,List.length_map];unfold LIM;omega)]
 ·rcases List.mem_append.mp hd with z|z
  ·exact hT d z
  ·obtain⟨d',h',rfl⟩:=List.mem_map.mp z;obtain⟨c,_,rfl⟩:=List.mem_map.mp h';exact (hy c).2
theorem z8Z(h:Some8 n ts r S)(h1:1≤n)(hk:KQ k q)(hw:KW k w){ns:List Int}(hns:ns.length≤63){c1 c4 c7 c8 c9 c10 c11 c12 c13:Option Cell} :
  ∃c7' c8' c9' c10' c11' c12' c13',y71 (y49 ns c1 n ts r c4 S k c7 c8 c9 c10 c11 c12 c13)=some (.nx (y49 ns c1 n ts r c4 S k c7' c8' c9' c10' c11' c12' c13')):=by
 have hn6:=h.lay.n6
 have ok6:∀t∈ts,0≤t.1/\t.1<t.2/\t.2<6:=fun t ht=>by have:=h.lay.ok t ht;omega
 have hr6:r.length≤6:=by have:=h.lay.len;omega
 have eP:=z84 (n:=n) (r:=r) hr6 hw h.lay.m12 h.lay.up ok6 h.lay.mem;have eR:=y43 h hk;have gr:=x50 h hk hw
 have hpl:(z0B ts.length (clP r ts w) ts.length).length≤1000:=by
  rw[←y5Z,(z3J _).length_eq]
  have:=few (r:=r) hr6 h.lay.mem hw h.lay.up ok6
  omega
 have eg:((z0B ts.length (clP r ts w) ts.length).filter (z4N S)).isEmpty=y55 ts r S w:=rfl;generalize z0B ts.length (clP r ts w) ts.length=pairs at eP hpl eg
 cases e:z71 S (loS r ts) (hiS r ts) q 0 [] r.length with
 | none =>
  have hb:y55 ts r S w=false:=by
   cases hg:y55 ts r S w with
   | false=>rfl
   | true =>
    obtain⟨L,e'⟩:=gr.mpr hg;rw[e]at e'
    cases e'
  obtain⟨X,e3,f3⟩:=y7H h (by omega) (ρ:=y49 ns c1 n ts r c4 S k (some (.sh (.lst (pairs.map W8)))) (some (.sh .non)) (some (.sh (.bl false))) c10 c11 c12 c13) rfl
  obtain⟨d11,d12,d13,el⟩:=y2I h hk (ns:=ns) (c1:=c1) (c4:=c4) (c7:=some (.sh (.lst (pairs.map W8)))) (c8:=some (.sh .non)) (c9:=some (.sh (.bl false))) (c10:=some (.sh (.lst [.non,.tup [],.tup X]))) (c11:=c11) (c12:=c12) (c13:=c13) f3;have eR':=eR;rw[e]at eR'
  refine⟨some (.sh (.lst (pairs.map W8))),some (.sh .non),some (.sh (.bl false)),some (.sh (.lst [.non,.tup [],.tup X])),d11,d12,d13,?_⟩
  refine x9 (r:=.rt .non) (j4 ((u7 (ds:=[Q1 n ts,.tup (r.map D.int),.str k]) rfl).trans eP)) ?_;refine x9 (r:=.rt .non) (j4 (d:=.non) ((u7 (ds:=[Q1 n ts,.tup (r.map D.int),.str k,.tup (S.map D.int)]) rfl).trans eR')) ?_
  refine x9 (r:=.rt .non) (j4 (d:=.bl false) ((y78 h hpl).trans (by rw[eg,hb]))) ?_
  refine x9 (r:=.rt .non) ((K5 (a:=false) (v8 ((z2U (x:=.bl false) (y:=.bl false) rfl rfl).trans (y4Y (by simp[depth,z2P]))))).trans rfl) ?_
  refine x9 (r:=.rt .non) (j4 (z1S e3)) ?_;refine x9 (r:=.rt .non) ((K5 (a:=false) (v8 rfl)).trans rfl) ?_;exact (z1T (ds:=[.non,.tup [],.tup X]) rfl).trans el
 | some L =>
  have hb:y55 ts r S w=true:=gr.mp ⟨L,e⟩
  obtain⟨X,e3,f3⟩:=y7H h (by omega) (ρ:=y49 ns c1 n ts r c4 S k (some (.sh (.lst (pairs.map W8)))) (some (.sh (.tup (L.map Y9)))) (some (.sh (.bl true))) c10 c11 c12 c13) rfl
  obtain⟨T',em,fT⟩:=x8R h h1 hk hns e f3 (Nat.le_refl 3) (c1:=c1) (c4:=c4) (c7:=some (.sh (.lst (pairs.map W8)))) (c9:=some (.sh (.bl true))) (c11:=c11) (c12:=c12) (c13:=c13);obtain⟨d11,d12,d13,el⟩:=y2I h hk (ns:=ns) (c1:=c1) (c4:=c4) (c7:=some (.sh (.lst (pairs.map W8)))) (c8:=some (.sh (.tup (L.map Y9)))) (c9:=some (.sh (.bl true))) (c10:=some (.sh (.lst T'))) (c11:=c11) (c12:=c12) (c13:=c13) fT
  have eR':=eR;rw[e]at eR'
  refine⟨some (.sh (.lst (pairs.map W8))),some (.sh (.tup (L.map Y9))),some (.sh (.bl true)),some (.sh (.lst T')),d11,d12,d13,?_⟩
  refine x9 (r:=.rt .non) (j4 ((u7 (ds:=[Q1 n ts,.tup (r.map D.int),.str k]) rfl).trans eP)) ?_;refine x9 (r:=.rt .non) (j4 (d:=.tup (L.map Y9)) ((u7 (ds:=[Q1 n ts,.tup (r.map D.int),.str k,.tup (S.map D.int)]) rfl).trans eR')) ?_
  refine x9 (r:=.rt .non) (j4 (d:=.bl true) ((y78 h hpl).trans (by rw[eg,hb]))) ?_
  refine x9 (r:=.rt .non) ((K5 (a:=false) (v8 ((z2U (x:=.bl true) (y:=.bl true) rfl rfl).trans (y4Y (by simp[depth,z2P]))))).trans rfl) ?_
  refine x9 (r:=.rt .non) (j4 (z1S e3)) ?_;refine x9 (r:=.rt .non) ((K5 (a:=true) (v8 rfl)).trans em) ?_;exact (z1T (ds:=T') rfl).trans el
end
noncomputable def y9P(m:Nat)(c:Int):List Int:=((List.range m).map fun (i:Nat)=>(i:Int)).filter fun x=>mix (c+x) 9929 2==0
theorem x3I(m:Nat)(c:Int):(y9P m c).Pairwise (· < ·):=by
 refine List.Pairwise.sublist List.filter_sublist ?_
 exact List.pairwise_map.mpr (List.pairwise_lt_range.imp fun {a b} h=>by omega)
theorem y9O{m:Nat}{c:Int}:∀x∈y9P m c,0≤x/\x<(m:Int):=fun x hx=>by
 obtain⟨i,hi,rfl⟩:=List.mem_map.mp (List.mem_filter.mp hx).1
 have:=List.mem_range.mp hi
 omega
noncomputable def w0U:y0->Option D:=z58 (Q0 [none,some 4] (z2W (z09 (dSq (dIx (dSq (z6 2)) (dC (.int 1)))))) (w8 0) (x5 (d2 dEq (v6 Q4 (z8 (d2 z0K (z6 1) (z6 0)) (z8 (dC (.int 9929)) (z8 (dC (.int 2)) (u9))))) (dC (.int 0)))) (z6 0))
theorem x3J{n:Int}{ts:List Tie}{c:Int}{ρ:y0}(hm:ts.length≤1000)(h2:z6 2 ρ=some (Q1 n ts))(hc:y1U [none,some 4] ρ=[none,some (.sh (.int c))]):w0U ρ=some (.tup ((y9P ts.length c).map D.int)):=by
 refine z95 ?_
 have e0:z2W (z09 (dSq (dIx (dSq (z6 2)) (dC (.int 1))))) ρ=some (((List.range ts.length).map fun (i:Nat)=>(i:Int)).map D.int):=by
  have e4:=z5Q (fa:=z09 (dSq (dIx (dSq (z6 2)) (dC (.int 1))))) (ρ:=ρ) (j:=((ts.map W8).length:Int)) (z4L (z1R ((z57 (ds:=[.int n,.tup (ts.map W8)]) (j:=1) (z1R h2) rfl).trans rfl))) (by rw[List.length_map];unfold okR;rw[decide_eq_true (by omega),decide_eq_true (by omega)];rfl)
  rw[List.length_map,Int.toNat_natCast]at e4;rw[e4,List.map_map];unfold J0
  refine congrArg some (List.map_congr_left fun i _=>?_)
  show D.int (0+(i:Int))=D.int (i:Int)
  rw[Int.zero_add]
 refine (z0M e0 (by rw[List.length_map,List.length_map,List.length_range];unfold LIM;omega)).trans ?_
 rw[hc]
 refine (K4 (fun ρ=>∃c0,ρ=[c0,some (.sh (.int c))]) (fun d=>match d with|.int x=>mix (c+x) 9929 2==0|_=>false) (fun d=>d) _ _ ⟨none,rfl⟩ ?_).trans ?_
 ·rintro d hd ρ ⟨c0,rfl⟩
  obtain⟨x,hx,rfl⟩:=List.mem_map.mp hd
  refine⟨_,rfl,⟨_,rfl⟩,v8 ?_,fun _=>rfl⟩
  refine (z2U (x:=.int (mix (c+x) 9929 2)) (y:=.int 0) ?_ rfl).trans (y3J _ _)
  exact (u7 (ds:=[.int (c+x),.int 9929,.int 2]) (j3 ((z2U (x:=.int c) (y:=.int x) rfl rfl).trans rfl) rfl)).trans (z0W _ (by decide) (by decide))
 ·rw[List.map_id',List.filter_map];rfl
noncomputable def y1F:y0->Option Out :=
 (J3 (W4 5 w0U)
 (z7S (dSq (z2V (z8 (dC (.str "pile")) (z8 (dC (.str "queue")) (u9))))) (w8 6) y71))
theorem y4Z{n:Int}{ts:List Tie}{r:List Int}(h:Lay n ts r)(h1:1≤n){ns:List Int}(hns:ns.length≤63){c:Int}{c1 c5 c6 c7 c8 c9 c10 c11 c12 c13:Option Cell} :
  ∃c5' c6' c7' c8' c9' c10' c11' c12' c13',y1F [some (.sh (.lst (ns.map D.int))),c1,some (.sh (Q1 n ts)),some (.sh (.tup (r.map D.int))),some (.sh (.int c)),c5,c6,c7,c8,c9,c10,c11,c12,c13] =
   some (.nx [some (.sh (.lst (ns.map D.int))),c1,some (.sh (Q1 n ts)),some (.sh (.tup (r.map D.int))),some (.sh (.int c)),c5',c6',c7',c8',c9',c10',c11',c12',c13']):=by
 have hS:Some8 n ts r (y9P ts.length c):=⟨h,x3I _ _,y9O⟩;obtain⟨a7,a8,a9,a10,a11,a12,a13,ea⟩:=z8Z hS h1 (.inl ⟨rfl,rfl⟩) (.inl ⟨rfl,rfl⟩) hns (c1:=c1) (c4:=some (.sh (.int c))) (c7:=c7) (c8:=c8) (c9:=c9) (c10:=c10) (c11:=c11) (c12:=c12) (c13:=c13);obtain⟨b7,b8,b9,b10,b11,b12,b13,eb⟩:=z8Z hS h1 (.inr ⟨rfl,rfl⟩) (.inr ⟨rfl,rfl⟩) hns (c1:=c1) (c4:=some (.sh (.int c))) (c7:=a7) (c8:=a8) (c9:=a9) (c10:=a10) (c11:=a11) (c12:=a12) (c13:=a13)
 refine⟨some (.sh (.tup ((y9P ts.length c).map D.int))),some (.sh (.str "queue")),b7,b8,b9,b10,b11,b12,b13,?_⟩
 refine x9 (r:=.rt .non) (j4 (x3J h.hm' rfl rfl)) ?_
 refine (z1T (ds:=[.str "pile",.str "queue"]) (z1R (z7R (ds:=[.str "pile",.str "queue"]) rfl (show 2≤LIM by decide)))).trans ?_
 exact (y35 rfl ea).trans ((y35 rfl eb).trans rfl)
noncomputable def y7F:y0->Option Out :=
 (J3 (W4 2 (v6 z6R (z8 (z6 1) (z8 (dC (.int 6)) (z8 (dC (.int 10)) (u9))))))
 (J3 (W4 3 (v6 z6T (z8 (d2 x23 (z6 1) (dC (.int 3))) (z8 (dIx (dSq (z6 2)) (dC (.int 0))) (u9)))))
 (z7S (dSq (z29 (z6 0) (u8 (dC (.int 3))) (u8 (dC (.int 6))))) (w8 4) y1F)))
theorem y5F{ns:List Int}(hns:ns.length≤63){c:Int}{c2 c3 c4 c5 c6 c7 c8 c9 c10 c11 c12 c13:Option Cell}:∃c2' c3' c4' c5' c6' c7' c8' c9' c10' c11' c12' c13',y7F [some (.sh (.lst (ns.map D.int))),some (.sh (.int c)),c2,c3,c4,c5,c6,c7,c8,c9,c10,c11,c12,c13] =
  some (.nx [some (.sh (.lst (ns.map D.int))),some (.sh (.int c)),c2',c3',c4',c5',c6',c7',c8',c9',c10',c11',c12',c13']):=by
 obtain⟨n',ts,w1,w2,w3,w4⟩:=y42 c (most:=6) (ties:=10) (by decide) (by decide) (by decide) (by decide)
 have hlo:=w2.lo
 obtain⟨n,rfl⟩:=Int.eq_ofNat_of_zero_le (show 0≤n' by omega)
 obtain⟨r,r1,r2⟩:=y44 (c / 3) (n:=(n:Int)) (by omega) (by omega)
 rw[Int.toNat_natCast]at r2;have hr:r.Nodup:=r2.nodup_iff.mpr (x1D n)
 have hmem:∀t∈ts,t.1∈r/\t.2∈r:=fun t ht=>by
  have:=w2.ok t ht
  exact⟨r2.mem_iff.mpr (x1E.mpr (by omega)),r2.mem_iff.mpr (x1E.mpr (by omega))⟩
 have hL:Lay (n:Int) ts r:=⟨w2.up,w2.ok,hr,by rw[r2.length_eq,x39],hmem,w2.hi,by omega⟩
 obtain⟨ms,em,hml⟩:=y7B ns (some 3) (some 6)
 obtain⟨ρ',e,d4,d5,d6,d7,d8,d9,d10,d11,d12,d13,rfl⟩:=y1H (h:=w8 4) (g:=y1F) (fun ρ=>∃d4 d5 d6 d7 d8 d9 d10 d11 d12 d13:Option Cell,ρ=[some (.sh (.lst (ns.map D.int))),some (.sh (.int c)),some (.sh (Q1 (n:Int) ts)),some (.sh (.tup (r.map D.int))),d4,d5,d6,d7,d8,d9,d10,d11,d12,d13]) (ds:=ms.map D.int)
  (ρ:=[some (.sh (.lst (ns.map D.int))),some (.sh (.int c)),some (.sh (Q1 (n:Int) ts)),some (.sh (.tup (r.map D.int))),c4,c5,c6,c7,c8,c9,c10,c11,c12,c13]) ⟨_,_,_,_,_,_,_,_,_,_,rfl⟩ (fun d hd ρ hI=>by
   obtain⟨d4,d5,d6,d7,d8,d9,d10,d11,d12,d13,rfl⟩:=hI;obtain⟨i,_,rfl⟩:=List.mem_map.mp hd
   obtain⟨e5,e6,e7,e8,e9,e10,e11,e12,e13,e⟩:=y4Z hL (by omega) hns (c:=i) (c1:=some (.sh (.int c))) (c5:=d5) (c6:=d6) (c7:=d7) (c8:=d8) (c9:=d9) (c10:=d10) (c11:=d11) (c12:=d12) (c13:=d13)
   exact⟨_,_,rfl,.inl e,⟨_,_,_,_,_,_,_,_,_,_,rfl⟩⟩)
 refine⟨some (.sh (Q1 (n:Int) ts)),some (.sh (.tup (r.map D.int))),d4,d5,d6,d7,d8,d9,d10,d11,d12,d13,?_⟩
 refine x9 (r:=.rt .non) (j4 (d:=Q1 (n:Int) ts) ((u7 (ds:=[.int c,.int 6,.int 10]) rfl).trans w1)) ?_;refine x9 (r:=.rt .non) (j4 (d:=.tup (r.map D.int)) ((u7 (ds:=[.int (c / 3),.int (n:Int)]) (j3 ((z2U (x:=.int c) (y:=.int 3) rfl rfl).trans rfl) rfl)).trans r1)) ?_
 exact (z1T (ds:=ms.map D.int) (x1P ((y3I (x:=.lst (ns.map D.int)) (lo:=some 3) (hi:=some 6) rfl rfl rfl).trans (by rw[←em];rfl)))).trans e
theorem law_true:∀ns:List Int,ns.length≤63->y45 [.lst (ns.map D.int)]=some (.bl true):=by
 intro ns hl
 have fin:x52 [some (.sh (.lst (ns.map D.int))),none,none,none,none,none,none,none,none,none,none,none,none,none]=some (.rt (.bl true)):=by
  obtain⟨ρ',e,c1,c2,c3,c4,c5,c6,c7,c8,c9,c10,c11,c12,c13,rfl⟩:=y1H (h:=w8 1) (g:=y7F) (fun ρ=>∃c1 c2 c3 c4 c5 c6 c7 c8 c9 c10 c11 c12 c13:Option Cell,ρ=[some (.sh (.lst (ns.map D.int))),c1,c2,c3,c4,c5,c6,c7,c8,c9,c10,c11,c12,c13]) (ds:=cut (ns.map D.int) none (some 3))
   (ρ:=[some (.sh (.lst (ns.map D.int))),none,none,none,none,none,none,none,none,none,none,none,none,none]) ⟨none,none,none,none,none,none,none,none,none,none,none,none,none,rfl⟩ (fun d hd ρ hI=>by
    obtain⟨c1,c2,c3,c4,c5,c6,c7,c8,c9,c10,c11,c12,c13,rfl⟩:=hI;obtain⟨i,_,rfl⟩:=List.mem_map.mp (List.mem_of_mem_drop (List.mem_of_mem_take hd));obtain⟨c2',c3',c4',c5',c6',c7',c8',c9',c10',c11',c12',c13',e⟩:=y5F hl (c:=i) (c2:=c2) (c3:=c3) (c4:=c4) (c5:=c5) (c6:=c6) (c7:=c7) (c8:=c8) (c9:=c9) (c10:=c10) (c11:=c11) (c12:=c12) (c13:=c13)
    exact⟨_,_,rfl,.inl e,⟨_,_,_,_,_,_,_,_,_,_,_,_,_,rfl⟩⟩)
  exact x9 (r:=.rt .non) ((z1T (ds:=cut (ns.map D.int) none (some 3)) rfl).trans e) rfl
 show z5M (x52 [some (.sh (.lst (ns.map D.int))),none,none,none,none,none,none,none,none,none,none,none,none,none])=_
 rw[fin];rfl
end P
open PySem PySem.W PyProof.Rows
set_option maxRecDepth 100000 in
set_option maxHeartbeats 0 in
theorem PySem.Challenge.cw_pageties_k08_whole_runs_holds : PySem.Challenge.rw_pageties_k08_whole_runs.Holds := by
 w_on;o_law;k_head;(case hw=>w_witness2)
 k_fill
 refine P.walk (l:=PySem.Challenge.rw_pageties_k08_whole_runs) rfl rfl (fun w h Y=>PySem.W.km_in_of Y) (fun w h Y P q e=>PySem.W.km_tabs_of Y P (List.mem_map_of_mem (f:=Prod.fst) (L3.mem_look e))) (fun w=>by kernel_rfl) P.law_true ?F
 case F =>
  intro w mg fa h KX G hmg
  refine' P.all_mk KX G hmg ?a0 ?l0 ?c0 ?k0 ?a1 ?l1 ?c1 ?k1 ?a2 ?l2 ?c2 ?k2 ?a3 ?l3 ?c3 ?k3 ?a4 ?l4 ?c4 ?k4 ?a5 ?l5 ?c5 ?k5 ?a6 ?l6 ?c6 ?k6 ?a7 ?l7 ?c7 ?k7 ?a8 ?l8 ?c8 ?k8 ?a9 ?l9 ?c9 ?k9 ?a10 ?l10 ?c10 ?k10 ?a11 ?l11 ?c11 ?k11 ?a12 ?l12 ?c12 ?k12 ?m12 ?a13 ?l13 ?c13 ?k13 ?a14 ?l14 ?c14 ?k14 ?a15 ?l15 ?c15 ?k15 ?a16 ?l16 ?c16 ?k16 ?a17 ?l17 ?c17 ?k17 ?a18 ?l18 ?c18 ?k18 ?a19 ?l19 ?c19 ?k19 ?a20 ?l20 ?c20 ?k20 ?a21 ?l21 ?c21 ?k21 ?a22 ?l22 ?c22 ?k22 ?z_ValueError ?z_all ?z_bool ?z_enumerate ?z_int ?z_isinstance ?z_len ?z_list ?z_max ?z_min ?z_range ?z_sorted ?z_tuple ?uN ?uP ?uO ?e0 ?e1 ?e2 ?e3 ?e4 ?h1 ?h8 ?h9 ?h2 ?h3 ?h4 ?h5 ?h6
  (case a0=>k_is)
  (case l0=>k_is)
  (case c0=>k_is)
  (case k0=>k_is)
  (case a1=>k_is)
  (case l1=>k_is)
  (case c1=>k_is)
  (case k1=>k_is)
  (case a2=>k_is)
  (case l2=>k_is)
  (case c2=>k_is)
  (case k2=>k_is)
  (case a3=>k_is)
  (case l3=>k_is)
  (case c3=>k_is)
  (case k3=>k_is)
  (case a4=>k_is)
  (case l4=>k_is)
  (case c4=>k_is)
  (case k4=>k_is)
  (case a5=>k_is)
  (case l5=>k_is)
  (case c5=>k_is)
  (case k5=>k_is)
  (case a6=>k_is)
  (case l6=>k_is)
  (case c6=>k_is)
  (case k6=>k_is)
  (case a7=>k_is)
  (case l7=>k_is)
  (case c7=>k_is)
  (case k7=>k_is)
  (case a8=>k_is)
  (case l8=>k_is)
  (case c8=>k_is)
  (case k8=>k_is)
  (case a9=>k_is)
  (case l9=>k_is)
  (case c9=>k_is)
  (case k9=>k_is)
  (case a10=>k_is)
  (case l10=>k_is)
  (case c10=>k_is)
  (case k10=>k_is)
  (case a11=>k_is)
  (case l11=>k_is)
  (case c11=>k_is)
  (case k11=>k_is)
  (case a12=>k_is)
  (case l12=>k_is)
  (case c12=>k_is)
  (case k12=>k_is)
  (case m12=>kernel_rfl)
  (case a13=>k_is)
  (case l13=>k_is)
  (case c13=>k_is)
  (case k13=>k_is)
  (case a14=>k_is)
  (case l14=>k_is)
  (case c14=>k_is)
  (case k14=>k_is)
  (case a15=>k_is)
  (case l15=>k_is)
  (case c15=>k_is)
  (case k15=>k_is)
  (case a16=>k_is)
  (case l16=>k_is)
  (case c16=>k_is)
  (case k16=>k_is)
  (case a17=>k_is)
  (case l17=>k_is)
  (case c17=>k_is)
  (case k17=>k_is)
  (case a18=>k_is)
  (case l18=>k_is)
  (case c18=>k_is)
  (case k18=>k_is)
  (case a19=>k_is)
  (case l19=>k_is)
  (case c19=>k_is)
  (case k19=>k_is)
  (case a20=>k_is)
  (case l20=>k_is)
  (case c20=>k_is)
  (case k20=>k_is)
  (case a21=>k_is)
  (case l21=>k_is)
  (case c21=>k_is)
  (case k21=>k_is)
  (case a22=>k_is)
  (case l22=>k_is)
  (case c22=>k_is)
  (case k22=>k_is)
  (case z_ValueError=>k_is)
  (case z_all=>k_is)
  (case z_bool=>k_is)
  (case z_enumerate=>k_is)
  (case z_int=>k_is)
  (case z_isinstance=>k_is)
  (case z_len=>k_is)
  (case z_list=>k_is)
  (case z_max=>k_is)
  (case z_min=>k_is)
  (case z_range=>k_is)
  (case z_sorted=>k_is)
  (case z_tuple=>k_is)
  (case uN=>k_is)
  (case uP=>k_is)
  (case uO=>k_is)
  (case e0=>first|k_is|kernel_rfl)
  (case e1=>first|k_is|kernel_rfl)
  (case e2=>first|k_is|kernel_rfl)
  (case e3=>first|k_is|kernel_rfl)
  (case e4=>first|k_is|kernel_rfl)
  (case h1=>first|k_is|kernel_rfl)
  (case h8=>first|k_is|kernel_rfl)
  (case h9=>first|k_is|kernel_rfl)
  (case h2=>first|k_is|kernel_rfl)
  (case h3=>first|k_is|kernel_rfl)
  (case h4=>first|k_is|kernel_rfl)
  (case h5=>first|k_is|kernel_rfl)
  (case h6=>first|k_is|kernel_rfl)
