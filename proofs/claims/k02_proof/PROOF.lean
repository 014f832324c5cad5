import PyProof.Rows.All
import Wide.All
import OpenK.AllK
import Wide.FinOn
import Lean
import PyProof.EqAt
import PyProof.EqKinds
import PyProof.TupleCall
import PyProof.Rows.TupAdd
import PyProof.NeKinds
import KE.LcSums
import PyProof.ListRange
import PyProof.ListMulRoad
import PyProof.Draws
import PyProof.EnumMake
import PyProof.MinMaxWalk
import PyProof.WalkInts
import PyProof.Rows.SortStr
import PyProof.Rows.SortKeyStr
import PyProof.WalksMore
import PySem.Challenge.RW_pageties_k02_whole_texts
set_option Elab.async false
set_option linter.all false
set_option maxRecDepth 100000
namespace L2
open PySem PySem.Spec PyProof.Rows
abbrev Key := Sum Int Str
def keyIs : Key → Value → Bool
  | .inl k, v => Value.isInt k v
  | .inr x, v => Value.isStrOf x v
def keyH (w : World) : Key → Int
  | .inl k => hashInt k
  | .inr x => hashStr w x
theorem keyIs_shape : ∀ {k : Key} {v : Value}, keyIs k v = true → (∃ i t, k = Sum.inl i ∧ v = Value.int i t) ∨ (∃ x t, k = Sum.inr x ∧ v = Value.str x t)
  | .inl i, v, h => by
    obtain ⟨t, e⟩ := Value.isInt_shape (k := i) (v := v) h
    exact .inl ⟨i, t, rfl, e⟩
  | .inr x, v, h => by
    obtain ⟨t, e⟩ := Value.isStrOf_shape (x := x) (v := v) h
    exact .inr ⟨x, t, rfl, e⟩
theorem key_ll (a b : Int) : decide ((Sum.inl a : Key) = Sum.inl b) = (a == b) := by
  by_cases e : a = b
  · subst e; simp
  · have h : ¬ (Sum.inl a : Key) = Sum.inl b := fun q => e (Sum.inl.inj q)
    rw [decide_eq_false h]
    exact (beq_eq_false_iff_ne.mpr e).symm
theorem key_rr (a b : Str) : decide ((Sum.inr a : Key) = Sum.inr b) = decide (a = b) := by
  by_cases e : a = b
  · subst e; simp
  · have h : ¬ (Sum.inr a : Key) = Sum.inr b := fun q => e (Sum.inr.inj q)
    rw [decide_eq_false h, decide_eq_false e]
theorem key_lr (a : Int) (b : Str) : decide ((Sum.inl a : Key) = Sum.inr b) = false := decide_eq_false (fun q => nomatch q)
theorem key_rl (a : Str) (b : Int) : decide ((Sum.inr a : Key) = Sum.inl b) = false := decide_eq_false (fun q => nomatch q)
def mixKind (prog : Program) (w : World) : PySem.KeyKind prog w Key where
  is := keyIs
  hash := keyH w
  inj := fun v a b ha hb => by
    rcases keyIs_shape ha with ⟨i, t, rfl, rfl⟩ | ⟨x, t, rfl, rfl⟩
    · rcases keyIs_shape hb with ⟨j, u, rfl, e⟩ | ⟨y, u, rfl, e⟩
      · injection e with e1 _; rw [e1]
      · exact nomatch e
    · rcases keyIs_shape hb with ⟨j, u, rfl, e⟩ | ⟨y, u, rfl, e⟩
      · exact nomatch e
      · injection e with e1 _; rw [e1]
  byValue := fun k v h => by
    rcases keyIs_shape h with ⟨i, t, rfl, rfl⟩ | ⟨x, t, rfl, rfl⟩ <;> rfl
  pyHash := fun hv h => by
    rcases keyIs_shape hv with ⟨i, t, rfl, rfl⟩ | ⟨x, t, rfl, rfl⟩
    · exact wpAny_pyHash_int h
    · exact wpAny_pyHash_str h
  eqBool := fun hu hv h => by
    rcases keyIs_shape hu with ⟨i, t, rfl, rfl⟩ | ⟨x, t, rfl, rfl⟩
    · rcases keyIs_shape hv with ⟨j, u, rfl, rfl⟩ | ⟨y, u, rfl, rfl⟩
      · rw [key_ll] at h; exact wpAny_eqBool_int h
      · rw [key_lr] at h; exact SeqAt.EqAt.int_str i t y u _ _ _ _ h
    · rcases keyIs_shape hv with ⟨j, u, rfl, rfl⟩ | ⟨y, u, rfl, rfl⟩
      · rw [key_rl] at h; exact SeqAt.EqAt.str_int x t j u _ _ _ _ h
      · rw [key_rr] at h; exact wpAny_eqBool_str h
  «strs» := fun k x t v h => by
    rcases keyIs_shape h with ⟨i, u, rfl, e⟩ | ⟨y, u, rfl, e⟩
    · exact nomatch e
    · injection e with e1 _
      subst e1
      cases v <;> rfl
end L2
namespace L2
open PySem PySem.Spec PyProof.Rows
inductive V where
  | non | bl (b : Bool) | int (i : Int) | str (x : Str) | byt (b : Array UInt8) | flt (b : UInt64) | ref (a : Addr) | ty (n : String)
  deriving DecidableEq
def RelV : V → Value → Prop
  | .non, u => u = Value.none
  | .bl b, u => u = Value.bool b
  | .int i, u => ∃ t, u = Value.int i t
  | .str x, u => ∃ t, u = Value.str x t
  | .byt b, u => ∃ t, u = Value.bytes b t
  | .flt b, u => ∃ t, u = Value.float b t
  | .ref a, u => u = Value.ref a
  | .ty n, u => u = Value.type n
abbrev Vals : List V → List Value → Prop := Paired RelV
theorem Vals.length {xs : List V} {us : List Value} (r : Vals xs us) : xs.length = us.length := Paired.length r
theorem Vals.get : ∀ {xs : List V} {us : List Value} {i : Nat} {x : V}, Vals xs us → xs[i]? = some x → ∃ u, us[i]? = some u ∧ RelV x u
  | _, _, _, _, .nil, e => by simp at e
  | _, _, 0, _, .cons r _, e => by simp at e; subst e; exact ⟨_, rfl, r⟩
  | _, _, i + 1, x, .cons _ t, e => by
    obtain ⟨u, h1, h2⟩ := Vals.get (i := i) (x := x) t (by simpa using e)
    exact ⟨u, by simpa using h1, h2⟩
theorem Vals.append : ∀ {xs ys : List V} {us ws : List Value}, Vals xs us → Vals ys ws → Vals (xs ++ ys) (us ++ ws)
  | _, _, _, _, .nil, s => s
  | _, _, _, _, .cons r t, s => .cons r (Vals.append t s)
theorem Vals.take : ∀ {xs : List V} {us : List Value} (n : Nat), Vals xs us → Vals (xs.take n) (us.take n)
  | _, _, 0, _ => .nil
  | _, _, _ + 1, .nil => .nil
  | _, _, n + 1, .cons r t => .cons r (Vals.take n t)
theorem Vals.drop : ∀ {xs : List V} {us : List Value} (n : Nat), Vals xs us → Vals (xs.drop n) (us.drop n)
  | _, _, 0, r => r
  | _, _, _ + 1, .nil => .nil
  | _, _, n + 1, .cons _ t => Vals.drop n t
def RelO : Option V → Option Value → Prop
  | some v, some u => RelV v u
  | none, none => True
  | _, _ => False
def KV {κ : Type} : List (κ × V) → List (κ × Value) → Prop := Paired fun (p : κ × V) (q : κ × Value) => p.1 = q.1 ∧ RelV p.2 q.2
def kV : Key → V
  | .inl i => .int i
  | .inr x => .str x
inductive HO where
  /-- a list -/
  | lst (xs : List V)
  /-- a tuple (never changes) -/
  | tup (xs : List V)
  /-- a dict whose keys are ints and texts; one whose keys are tuples of ints and texts (the empty one is both) -/
  | dK (kvs : List (Key × V)) | dT (kvs : List (List Key × V))
  /-- a set of ints: its members, its size -/
  | set (S : Int → Bool) (n : Nat)
  /-- an instance of the class at C, its dict at dx, its attributes -/
  | ins (C dx : Addr) (fs : List (Str × V))
  /-- the dict of the instance at x -/
  | own (x : Addr)
  /-- the dict of an exception -/
  | xd (fs : List (Str × V))
  /-- a bound method, f of x -/
  | met (f x : Addr)
  /-- a range object lo, lo + 1, .. below hi -/
  | rng (lo hi : Int)
  /-- a thing that is known to the object (the script; a dict while a loop walks it): read, never written while it is so -/
  | frz (o : Obj) (u : HO)
  /-- a code object's table -/
  | tbl (ps : Array Value)
  /-- any other thing, by what is true of its one object (a def of one's own: SetO a S n := HO.ext fun h => ..) -/
  | ext (φ : Heap → Prop)
abbrev Hp := Addr → Option HO
def upd (H : Hp) (a : Addr) (o : HO) : Hp := fun b => if b = a then some o else H b
theorem upd_same {H : Hp} {a : Addr} {o : HO} : upd H a o a = some o := by unfold upd; rw [if_pos rfl]
theorem upd_ne {H : Hp} {a b : Addr} {o : HO} (h : b ≠ a) : upd H a o b = H b := by unfold upd; rw [if_neg h]
theorem ne_of_none {H : Hp} {a b : Addr} {o : HO} (h : H a = some o) (h' : H b = none) : a ≠ b := by
  intro e; subst e; rw [h] at h'; cases h'
def tabQual (ps : Array Value) : Str := match (ps[0]? : Option Value) with | some (Value.str q _) => q ++ ".<locals>." ++ "<lambda>" | _ => "<lambda>"
def PTup (h : Heap) (a : Addr) (items : Array Value) : Prop := ∃ o, h.get? a = some o ∧ o.cls = .type "tuple" ∧ (∃ n, o.data = .seq items n) ∧ o.dict = none
theorem PTup.isTup {h : Heap} {a : Addr} {items : Array Value} (x : PTup h a items) : IsTup h a items := let ⟨o, e, c, d, _⟩ := x; ⟨o, e, c, d⟩
theorem PTup.new (h : Heap) (items : Array Value) : PTup (h.push { cls := .type "tuple", data := .seq items }) h.objs.size items := ⟨_, Heap.get?_push_size _ rfl, rfl, ⟨_, rfl⟩, rfl⟩
section
variable (P : Program) (w : World)
def ObjOk (H : Hp) (h : Heap) (a : Addr) : HO → Prop
  | .lst xs => xs.length ≤ sizeLine ∧ ∃ (its : List Value) (n : Nat), Vals xs its ∧ h.get? a = some { cls := .type "list", data := .seq its.toArray n }
  | .tup xs => xs.length ≤ sizeLine ∧ ∃ its : List Value, Vals xs its ∧ PTup h a its.toArray
  | .dK kvs => kvs.length ≤ sizeLine ∧ (a == sysModules) = false ∧ ∃ vs, KV kvs vs ∧ h.DictOf (mixKind P w) a vs
  | .dT kvs => kvs.length ≤ sizeLine ∧ (a == sysModules) = false ∧ ∃ xs : List (List Key × Addr × Value),
      Paired (fun (p : List Key × V) (q : List Key × Addr × Value) => p.1 = q.1 ∧ H q.2.1 = some (.tup (p.1.map kV)) ∧ RelV p.2 q.2.2) kvs xs ∧
      ∃ o es ep, h.get? a = some o ∧ o.ExactDict ∧ o.data = .dict es ep ∧ es.toList = xs.map (entryOfKey (tupleKind (mixKind P w))) ∧ (xs.map (·.1)).Nodup
  | .set S n => h.SetOf (intKind P w) a S n
  | .ins C dx fs => H dx = some (.own a) ∧ fs.length ≤ 1000 ∧ dx ≠ a ∧ h.get? a = some (PySem.W.instObj C dx) ∧
      ∃ mA, h.Ns1 dx mA ∧ (∀ f, RelO (fs.lookup f) (mA f)) ∧ PySem.Within mA (fs.map (·.1))
  | .own _ => ∃ o, h.get? a = some o
  | .xd fs => ∃ mA, h.Ns1 a mA ∧ ∀ f, RelO (fs.lookup f) (mA f)
  | .rng lo hi => ∃ t u v, h.get? a = some { cls := .type "range", data := .fields #[.int lo t, .int hi u, .int 1 v] }
  | .frz o u => h.get? a = some o ∧ ObjOk H h a u
  | .tbl ps => ∃ qs : Array Value, h.get? a = some { cls := .none, data := .fields qs } ∧ TriplesOk qs.toList ∧ ∀ (p : Pos) (v : Value), codeAmong p qs.toList = some v → ∃ (c : Addr) (oc : Obj) (vs : Array Value) (t : Tok), v = .ref c ∧ H c = some (.frz oc (.own a)) ∧ oc.data = .fields vs ∧ vs[1]? = some (.str (tabQual ps) t)
  | .met f x => h.get? a = some (PySem.W.methodObj (.ref f) (.ref x))
  | .ext φ => φ h ∧ (∃ o, h.get? a = some o) ∧ ∀ h1 h2 : Heap, φ h1 → (∀ o, h1.get? a = some o → h2.get? a = some o) → φ h2
def HOk (H : Hp) (h : Heap) : Prop := ∀ a o, H a = some o → ObjOk P w H h a o
end
section
variable {P : Program} {w : World} {H H' : Hp} {h h' : Heap} {a : Addr} {o : HO}
theorem ObjOk.lt (x : ObjOk P w H h a o) : a < h.objs.size := by
  cases o with
  | lst xs => obtain ⟨_, _, _, _, e⟩ := x; exact Heap.lt_size e
  | tup xs => obtain ⟨_, _, _, p⟩ := x; exact p.isTup.lt
  | dK kvs => obtain ⟨_, _, _, _, o, _, _, e, _⟩ := x; exact Heap.lt_size e
  | dT kvs => obtain ⟨_, _, _, _, o, _, _, e, _⟩ := x; exact Heap.lt_size e
  | set S n => obtain ⟨o, _, _, _, e, _⟩ := x; exact Heap.lt_size e
  | ins C dx fs => obtain ⟨_, _, _, e, _⟩ := x; exact Heap.lt_size e
  | own y => obtain ⟨_, e⟩ := x; exact Heap.lt_size e
  | xd fs => obtain ⟨_, ⟨_, _, _, e, _⟩, _⟩ := x; exact Heap.lt_size e
  | rng lo hi => obtain ⟨_, _, _, e⟩ := x; exact Heap.lt_size e
  | frz ob u => obtain ⟨e, _⟩ := x; exact Heap.lt_size e
  | tbl ps => obtain ⟨_, e, _⟩ := x; exact Heap.lt_size e
  | met f y => exact Heap.lt_size (show h.get? a = some _ from x)
  | ext φ => obtain ⟨_, ⟨_, e⟩, _⟩ := x; exact Heap.lt_size e
theorem Paired.mapP {α β : Type} {F G : α → β → Prop} : ∀ {l₁ : List α} {l₂ : List β}, Paired F l₁ l₂ → (∀ a b, F a b → G a b) → Paired G l₁ l₂
  | _, _, .nil, _ => .nil
  | _, _, .cons r t, f => .cons (f _ _ r) (Paired.mapP t f)
theorem ObjOk.stay (x : ObjOk P w H h a o) (k : ∀ b u, (b = a ∨ H b = some (.own a)) → h.get? b = some u → h'.get? b = some u)
    (ho : ∀ b, H b = some (.own a) → H' b = some (.own a)) (ht : ∀ b xs, H b = some (.tup xs) → H' b = some (.tup xs)) (hz : ∀ b ob u, H b = some (.frz ob u) → H' b = some (.frz ob u)) : ObjOk P w H' h' a o := by
  induction o with
  | lst xs => obtain ⟨z, its, n, r, e⟩ := x; exact ⟨z, its, n, r, k _ _ (.inl rfl) e⟩
  | tup xs => obtain ⟨z, its, r, ob, e, c⟩ := x; exact ⟨z, its, r, ob, k _ _ (.inl rfl) e, c⟩
  | dK kvs => obtain ⟨z, y, vs, r, ob, es, ep, e, c⟩ := x; exact ⟨z, y, vs, r, ob, es, ep, k _ _ (.inl rfl) e, c⟩
  | dT kvs =>
    obtain ⟨z, y, xs, r, ob, es, ep, e, c⟩ := x
    exact ⟨z, y, xs, Paired.mapP r fun p q z => ⟨z.1, ht _ _ z.2.1, z.2.2⟩, ob, es, ep, k _ _ (.inl rfl) e, c⟩
  | set S n => obtain ⟨ob, es, ep, t, e, c⟩ := x; exact ⟨ob, es, ep, t, k _ _ (.inl rfl) e, c⟩
  | ins C dx fs =>
    obtain ⟨d, z, ne, e, mA, ⟨od, es, ep, e2, c⟩, r⟩ := x
    exact ⟨ho _ d, z, ne, k _ _ (.inl rfl) e, mA, ⟨od, es, ep, k _ _ (.inr d) e2, c⟩, r⟩
  | own y => obtain ⟨ob, e⟩ := x; exact ⟨ob, k _ _ (.inl rfl) e⟩
  | xd fs => obtain ⟨mA, ⟨od, es, ep, e, c⟩, r⟩ := x; exact ⟨mA, ⟨od, es, ep, k _ _ (.inl rfl) e, c⟩, r⟩
  | rng lo hi => obtain ⟨t, u, v, e⟩ := x; exact ⟨t, u, v, k _ _ (.inl rfl) e⟩
  | frz ob u ih => obtain ⟨e, q⟩ := x; exact ⟨k _ _ (.inl rfl) e, ih q⟩
  | tbl ps =>
    obtain ⟨qs, e, t, c⟩ := x
    exact ⟨qs, k a _ (.inl rfl) e, t, fun p v q => let ⟨c', oc, vs, tk, z1, z2, z3⟩ := c p v q; ⟨c', oc, vs, tk, z1, hz _ _ _ z2, z3⟩⟩
  | met f y =>
    have e : h.get? a = some (PySem.W.methodObj (.ref f) (.ref y)) := x
    show h'.get? a = some (PySem.W.methodObj (.ref f) (.ref y))
    exact k a _ (.inl rfl) e
  | ext φ => obtain ⟨p, ⟨o, e⟩, st⟩ := x; exact ⟨st _ _ p fun o q => k _ _ (.inl rfl) q, ⟨o, k _ _ (.inl rfl) e⟩, st⟩
theorem HOk.lt (x : HOk P w H h) (e : H a = some o) : a < h.objs.size := (x a o e).lt
theorem HOk.fresh (x : HOk P w H h) (e : h.objs.size ≤ a) : H a = none := by
  cases q : H a with
  | none => rfl
  | some u => exact absurd (Nat.lt_of_lt_of_le (x.lt q) e) (Nat.lt_irrefl _)
theorem HOk.kept (x : HOk P w H h) (k : ∀ b u, h.get? b = some u → h'.get? b = some u) : HOk P w H h' := fun a o e =>
  (x a o e).stay (fun b u _ q => k b u q) (fun _ q => q) (fun _ _ q => q) fun _ _ _ q => q
theorem HOk.laid (x : HOk P w H h) (k : ∀ b u, h.get? b = some u → h'.get? b = some u) (hp : h.objs.size ≤ a) (new : ObjOk P w (upd H a o) h' a o) : HOk P w (upd H a o) h' := fun b u e => by
  have hn := x.fresh hp
  by_cases hb : b = a
  · subst hb; rw [upd_same] at e; cases e; exact new
  · rw [upd_ne hb] at e
    exact (x b u e).stay (fun c v _ q => k c v q) (fun c q => by rw [upd_ne (ne_of_none q hn)]; exact q) (fun c xs q => by rw [upd_ne (ne_of_none q hn)]; exact q) fun c ob xs q => by rw [upd_ne (ne_of_none q hn)]; exact q
end
def Rd (H : Hp) (a : Addr) (u : HO) : Prop := H a = some u ∨ ∃ o, H a = some (.frz o u)
theorem Rd.of {H : Hp} {a : Addr} {u : HO} (h : H a = some u) : Rd H a u := .inl h
theorem Rd.ok {P : Program} {w : World} {H : Hp} {h : Heap} {a : Addr} {u : HO} (r : Rd H a u) (x : HOk P w H h) : ObjOk P w H h a u := by
  rcases r with r | ⟨o, r⟩
  · exact x a u r
  · obtain ⟨_, q⟩ := x a _ r
    exact q
def Mut : Option HO → Prop
  | some (.lst _) => True
  | some (.dK _) => True
  | some (.dT _) => True
  | some (.set _ _) => True
  | some (.ins _ _ _) => True
  | some (.ext _) => True
  | _ => False
section
variable {P : Program} {w : World} {H : Hp} {h h' : Heap} {x e : Addr} {o' : HO}
theorem HOk.write (ok : HOk P w H h) (mu : Mut (H x)) (he : e = x ∨ H e = some (.own x)) (k : ∀ b u, b ≠ e → h.get? b = some u → h'.get? b = some u) (heo : ∃ u, h'.get? e = some u)
    (new : ObjOk P w (upd H x o') h' x o') : HOk P w (upd H x o') h' := fun b u q => by
  have nown : ∀ c y, H c = some (.own y) → c ≠ x := fun c y r z => by subst z; rw [r] at mu; exact mu
  have ntup : ∀ c xs, H c = some (.tup xs) → c ≠ x := fun c xs r z => by subst z; rw [r] at mu; exact mu
  have nfrz : ∀ c ob u, H c = some (.frz ob u) → c ≠ x := fun c ob u r z => by subst z; rw [r] at mu; exact mu
  by_cases hb : b = x
  · subst hb; rw [upd_same] at q; cases q; exact new
  · rw [upd_ne hb] at q
    by_cases hbe : b = e
    · have q' : H b = some (.own x) := by
        rcases he with z | z
        · exact absurd (hbe.trans z) hb
        · rw [hbe]; exact z
      rw [q] at q'; cases q'
      obtain ⟨v, hv⟩ := heo
      exact ⟨v, by rw [hbe]; exact hv⟩
    · refine (ok b u q).stay (fun c v hc r => k c v ?_ r) (fun c r => by rw [upd_ne (nown c b r)]; exact r) (fun c xs r => by rw [upd_ne (ntup c xs r)]; exact r) fun c ob xs r => by rw [upd_ne (nfrz c ob xs r)]; exact r
      rcases hc with rfl | hc
      · exact hbe
      · rintro rfl
        rcases he with z | z
        · exact nown c b hc z
        · rw [hc] at z; cases z; exact hb rfl
end
structure Un (fs ex : List Addr) (H H' : Hp) (h h' : Heap) : Prop where
  keep : ∀ b o, h.get? b = some o → H b = none → b ∉ fs → b ∉ ex → h'.get? b = some o
  slot : ∀ b o, h.get? b = some o → H b = none → b ∈ fs → b ∉ ex → ∃ sl, h'.get? b = some { o with slots := sl }
  free : ∀ b o, h.get? b = some o → H b = none → b ∉ ex → H' b = none
  there : ∀ b o, h.get? b = some o → b ∉ ex → ∃ o', h'.get? b = some o'
  tups : ∀ b xs, H b = some (.tup xs) → H' b = some (.tup xs)
  frzs : ∀ b o u, H b = some (.frz o u) → H' b = some (.frz o u)
  tbls : ∀ b ps, H b = some (.tbl ps) → ∃ more, H' b = some (.tbl (ps ++ more))
section
variable {fs fs' ex ex' : List Addr} {H H1 H2 : Hp} {h h1 h2 h' : Heap} {a x e : Addr} {o : HO}
theorem Un.any (u : Un fs ex H H1 h h1) {b : Addr} {ob : Obj} (q : h.get? b = some ob) (n : H b = none) (hx : b ∉ ex) : ∃ sl, h1.get? b = some { ob with slots := sl } := by
  by_cases hb : b ∈ fs
  · exact u.slot b ob q n hb hx
  · exact ⟨ob.slots, u.keep b ob q n hb hx⟩
theorem Un.trans (a : Un fs ex H H1 h h1) (b : Un fs ex H1 H2 h1 h2) : Un fs ex H H2 h h2 where
  keep := fun c ob q n hc hx => b.keep c ob (a.keep c ob q n hc hx) (a.free c ob q n hx) hc hx
  slot := fun c ob q n hc hx => by
    obtain ⟨sl, e1⟩ := a.slot c ob q n hc hx
    obtain ⟨sl', e2⟩ := b.slot c _ e1 (a.free c ob q n hx) hc hx
    exact ⟨sl', e2⟩
  free := fun c ob q n hx => by
    obtain ⟨o', e1⟩ := a.there c ob q hx
    exact b.free c o' e1 (a.free c ob q n hx) hx
  there := fun c ob q hx => by
    obtain ⟨o', e1⟩ := a.there c ob q hx
    exact b.there c o' e1 hx
  tups := fun c xs q => b.tups c xs (a.tups c xs q)
  frzs := fun c ob xs q => b.frzs c ob xs (a.frzs c ob xs q)
  tbls := fun c ps q => by
    obtain ⟨m1, e1⟩ := a.tbls c ps q
    obtain ⟨m2, e2⟩ := b.tbls c _ e1
    exact ⟨m1 ++ m2, by rw [e2, Array.append_assoc]⟩
theorem Un.kept (k : ∀ b u, h.get? b = some u → h'.get? b = some u) : Un fs ex H H h h' :=
  ⟨fun b ob q _ _ _ => k b ob q, fun b ob q _ _ _ => ⟨ob.slots, k b ob q⟩, fun _ _ _ n _ => n, fun b ob q _ => ⟨ob, k b ob q⟩, fun _ _ q => q, fun _ _ _ q => q, fun _ ps q => ⟨#[], by rw [q]; simp⟩⟩
theorem Un.refl : Un fs ex H H h h := Un.kept fun _ _ q => q
theorem Un.laid (k : ∀ b u, h.get? b = some u → h'.get? b = some u) (hp : h.objs.size ≤ a) (hn : H a = none) : Un fs ex H (upd H a o) h h' where
  keep := fun b u q _ _ _ => k b u q
  slot := fun b u q _ _ _ => ⟨u.slots, k b u q⟩
  free := fun b u q n _ => by rw [upd_ne (Nat.ne_of_lt (Nat.lt_of_lt_of_le (Heap.lt_size q) hp))]; exact n
  there := fun b u q _ => ⟨u, k b u q⟩
  tups := fun b xs q => by rw [upd_ne (ne_of_none q hn)]; exact q
  frzs := fun b u xs q => by rw [upd_ne (ne_of_none q hn)]; exact q
  tbls := fun b ps q => ⟨#[], by rw [upd_ne (ne_of_none q hn), q]; simp⟩
theorem Un.write (mu : Mut (H x)) (he : e = x ∨ H e = some (.own x)) (k : ∀ b u, b ≠ e → h.get? b = some u → h'.get? b = some u) (heo : ∃ u, h'.get? e = some u) : Un fs ex H (upd H x o) h h' := by
  have hx : ∀ b, H b = none → b ≠ x := fun b n z => by subst z; rw [n] at mu; exact mu
  have hb : ∀ b, H b = none → b ≠ e := fun b n z => by
    subst z
    rcases he with r | r
    · exact hx b n r
    · rw [n] at r; cases r
  have hm : ∀ b u, H b = some u → ¬ Mut (some u) → b ≠ x := fun b u q nm z => by subst z; rw [q] at mu; exact nm mu
  refine ⟨fun b u q n _ _ => k b u (hb b n) q, fun b u q n _ _ => ⟨u.slots, k b u (hb b n) q⟩, fun b u q n _ => by rw [upd_ne (hx b n)]; exact n, fun b u q _ => ?_,
    fun b xs q => by rw [upd_ne (hm b _ q fun z => z)]; exact q, fun b u xs q => by rw [upd_ne (hm b _ q fun z => z)]; exact q, fun b ps q => ⟨#[], by rw [upd_ne (hm b _ q fun z => z), q]; simp⟩⟩
  by_cases hbe : b = e
  · subst hbe; exact heo
  · exact ⟨u, k b u hbe q⟩
theorem Un.mono (u : Un fs ex H H1 h h1) (hs : ∀ b ∈ fs, b ∈ fs') (hx : ∀ b ∈ ex, b ∈ ex') : Un fs' ex' H H1 h h1 :=
  ⟨fun b ob q n hb he => u.keep b ob q n (fun z => hb (hs b z)) fun z => he (hx b z), fun _ _ q n _ he => u.any q n fun z => he (hx _ z), fun b ob q n he => u.free b ob q n fun z => he (hx b z), fun b ob q he => u.there b ob q fun z => he (hx b z), u.tups, u.frzs, u.tbls⟩
end
def trk (h : Heap) (H : Hp) : List Addr := (List.range h.objs.size).filter fun a => (H a).isSome
def hidT (h : Heap) (H : Hp) : Heap := PySem.W.hideAll h (trk h H)
theorem hidT_size (h : Heap) (H : Hp) : (hidT h H).objs.size = h.objs.size := PySem.W.hideAll_size _ _
theorem hidT_get {h : Heap} {H : Hp} {b : Addr} {o : Obj} (e : h.get? b = some o) (n : H b = none) : (hidT h H).get? b = some o :=
  PySem.W.hideAll_get _ e fun hm => by
    have q : (H b).isSome = true := (List.mem_filter.mp hm).2
    rw [n] at q; simp at q
theorem of_hidT {h : Heap} {H : Hp} {b : Addr} {o : Obj} (e : (hidT h H).get? b = some o) : h.get? b = some o ∧ H b = none := by
  have e' : h.get? b = some o := PySem.W.of_hideAll (trk h H) e
  refine ⟨e', ?_⟩
  cases q : H b with
  | none => rfl
  | some x =>
    have hm : b ∈ trk h H := List.mem_filter.mpr ⟨List.mem_range.mpr (Heap.lt_size e'), by simp [q]⟩
    have z : (hidT h H).get? b = none := PySem.W.hideAll_none (trk h H) hm
    rw [z] at e; cases e
def allNews (g h : Heap) (L : Addr) : List (Addr × Obj) := (List.range h.objs.size).filterMap fun a => if a = L ∨ (g.get? a).isSome = true then none else (h.get? a).map fun o => (a, o)
def rest (g h : Heap) (L d : Addr) : List (Addr × Obj) := (allNews g h L).filter fun p => decide (p.1 ≠ d)
end L2
namespace L2
open PySem PySem.Spec PyProof.Rows
structure Mod (K : PySem.W.Frag) (mg : Str → Option Value) (base : Heap) : Prop where
  kin : K.In base
  glob : base.Ns mainGlobals mg
  blt : ∃ mb, base.Ns builtinsNs mb ∧ ∀ x : Str, x ≠ "__name__" → mb x = bootBuiltins x
  nolimit : base.NoLimit
  bm : ∃ bm ob, mg "__builtins__" = some (.ref bm) ∧ bm ≠ builtinsNs ∧ base.get? bm = some ob ∧ ob.cls = .type "module" ∧ ob.dict = some builtinsNs ∧ ob.data = .plain
structure Cx where
  prog : Program
  w : World
  K : PySem.W.Frag
  mg : Str → Option Value
  base : Heap
  A : Around
  N : List Str
  s₀ : Shared
  H₀ : Hp
  env : Env
  outer : List Env
  stack : List Env
  ex : List Addr
  fn : Str → Bool
  calm : Bool
  pn : List (Addr × Obj)
  xe : Value → Shared → Prop
def frs (l : List Env) : List Addr := l.filterMap (·.frame)
abbrev Cx.fs (X : Cx) : List Addr := frs X.outer
def Vis (sc : Scope) (x : Str) : Prop := sc.names.lookup x = some .local ∨ sc.names.lookup x = some .cell ∨ sc.names.lookup x = some .free
def Loc (sc : Scope) (x : Str) : Prop := sc.names.lookup x = some .local ∨ sc.names.lookup x = some .cell
def Look (env : Env) (h : Heap) (m : Str → Option Value) (x : Str) (u : Value) : Prop :=
  (env.kindOf x = some .local ∧ m x = some u) ∨ ((env.kindOf x = some .cell ∨ env.kindOf x = some .free) ∧ ∃ c, env.cells.lookup x = some c ∧ h.IsCell c (some u))
structure Cx.Ok (X : Cx) : Prop where
  mod : Mod X.K X.mg X.base
  kind : X.env.scope.kind = .function
  glob : X.env.globals = mainGlobals
  blt : X.env.builtins = builtinsNs
  above : X.s₀.heap.objs.size ≤ X.env.locals
  inj : ∀ x y c, X.env.cells.lookup x = some c → X.env.cells.lookup y = some c → x = y
  has : ∀ x, (X.env.kindOf x = some .cell ∨ X.env.kindOf x = some .free) → ∃ c, X.env.cells.lookup x = some c
  cab : ∀ x c, X.fn x = true → X.env.cells.lookup x = some c → X.s₀.heap.objs.size ≤ c
  hd : X.calm = true → X.A.handled = none
  frames : X.A.frames = some X.stack
  stk : X.stack = X.outer ∨ (X.stack = X.env :: X.outer ∧ X.env.frame = some X.env.locals)
  exf : ∀ b ∈ X.ex, b ≠ X.env.locals ∧ ∀ x c, X.env.cells.lookup x = some c → c ≠ b
  bs : ∀ b o, X.base.get? b = some o → X.s₀.heap.get? b = some o ∧ X.H₀ b = none
  bsz : X.base.objs.size ≤ X.s₀.heap.objs.size
  noex : ∀ b o, X.base.get? b = some o → b ∉ X.ex
  exfs : ∀ b ∈ X.ex, b ∉ X.fs
  funs : X.s₀.heap.FunFrames X.base X.outer
  frf : ∀ b ∈ X.fs, X.H₀ b = none
structure Inv (X : Cx) (pins : List (Addr × Obj)) (σ : List (Option V)) (H : Hp) (s : Shared) : Prop where
  ok : X.Ok
  os : s.os = X.s₀.os
  bare : AllBare s.gens
  base : Un X.fs X.ex X.H₀ H X.s₀.heap s.heap
  loc : ∃ m, s.heap.Ns X.env.locals m ∧ ∀ (i : Nat) (x : Str) (v : V), X.N[i]? = some x → σ[i]? = some (some v) → Vis X.env.scope x → ∃ u, RelV v u ∧ Look X.env s.heap m x u
  cell : ∀ x c, X.env.cells.lookup x = some c → ∃ v, s.heap.IsCell c v
  free : H X.env.locals = none
  freeC : ∀ x c, X.env.cells.lookup x = some c → H c = none
  pin : ∀ p ∈ X.pn ++ pins, s.heap.get? p.1 = some p.2 ∧ H p.1 = none ∧ p.1 ≠ X.env.locals ∧ p.1 ∉ X.fs ∧ ∀ v, p.2.data ≠ .cell v
  hok : HOk X.prog X.w H s.heap
  len : σ.length = X.N.length
section
variable {X : Cx} {pins : List (Addr × Obj)} {σ : List (Option V)} {H H' : Hp} {s : Shared} {h' : Heap}
theorem Cx.Ok.nofr (ok : X.Ok) {b : Addr} {o : Obj} (e : X.base.get? b = some o) : b ∉ X.fs := fun hb => by
  have := (ok.funs.mem hb).1
  rw [e] at this; cases this
theorem Inv.bs (I : Inv X pins σ H s) : ∀ b o, X.base.get? b = some o → s.heap.get? b = some o ∧ H b = none := fun b o e =>
  ⟨I.base.keep b o (I.ok.bs b o e).1 (I.ok.bs b o e).2 (I.ok.nofr e) (I.ok.noex b o e), I.base.free b o (I.ok.bs b o e).1 (I.ok.bs b o e).2 (I.ok.noex b o e)⟩
theorem Inv.bk (I : Inv X pins σ H s) : ∀ b o, X.base.get? b = some o → s.heap.get? b = some o := fun b o e => (I.bs b o e).1
theorem Inv.mod (I : Inv X pins σ H s) : Mod X.K X.mg X.base := I.ok.mod
theorem Inv.kIn (I : Inv X pins σ H s) : X.K.In s.heap := I.ok.mod.kin.keeps I.bk
theorem Inv.lt (I : Inv X pins σ H s) : X.env.locals < s.heap.objs.size := let ⟨_, hn, _⟩ := I.loc; hn.lt
theorem Inv.sz (I : Inv X pins σ H s) : X.s₀.heap.objs.size ≤ s.heap.objs.size := Nat.le_trans I.ok.above (Nat.le_of_lt I.lt)
theorem Inv.nofs (I : Inv X pins σ H s) {a : Addr} (h : s.heap.objs.size ≤ a) : a ∉ X.fs := fun hb => by
  obtain ⟨_, o, ho, _⟩ := I.ok.funs.mem hb
  exact absurd (Nat.lt_of_lt_of_le (Heap.lt_size ho) (Nat.le_trans I.sz h)) (Nat.lt_irrefl _)
theorem Inv.cne (I : Inv X pins σ H s) : ∀ x c, X.env.cells.lookup x = some c → c ≠ X.env.locals := fun x c e z => by
  obtain ⟨v, o, ho, hd⟩ := I.cell x c e
  obtain ⟨m, ⟨o', es, ep, ho', hd', _⟩, _⟩ := I.loc
  rw [z, ho'] at ho; cases ho; rw [hd'] at hd; cases hd
theorem Inv.funs (I : Inv X pins σ H s) : s.heap.FunFrames X.base X.outer := by
  have all : ∀ (l : List Env), (∀ b ∈ frs l, b ∈ X.fs) → X.s₀.heap.FunFrames X.base l → s.heap.FunFrames X.base l := by
    intro l
    induction l with
    | nil => intro _ _; trivial
    | cons env r ih =>
      intro hs hl
      obtain ⟨hk, ⟨L, o, hf, hn, ho, hd⟩, hr⟩ := hl
      have hL : L ∈ X.fs := hs L (by unfold frs; rw [List.filterMap_cons, hf]; exact List.mem_cons_self)
      obtain ⟨sl, e⟩ := I.base.slot L o ho (I.ok.frf L hL) hL fun z => I.ok.exfs L z hL
      exact ⟨hk, ⟨L, _, hf, hn, e, hd⟩, ih (fun b hb => hs b (by unfold frs; rw [List.filterMap_cons, hf]; exact List.mem_cons_of_mem _ hb)) hr⟩
  exact all X.outer (fun _ hb => hb) I.ok.funs
theorem Inv.stack (I : Inv X pins σ H s) : s.heap.FunFrames X.base X.stack := by
  rcases I.ok.stk with e | ⟨e, hf⟩
  · rw [e]; exact I.funs
  · rw [e]
    obtain ⟨m, hn, _⟩ := I.loc
    refine .cons (by rw [I.ok.kind]; decide) hf hn ?_ I.funs
    exact Heap.get?_none_of_le (Nat.le_trans I.ok.bsz I.ok.above)
theorem Inv.stkSub (I : Inv X pins σ H s) : ∀ b ∈ frs X.stack, b ∈ X.env.locals :: X.fs := fun b hb => by
  rcases I.ok.stk with e | ⟨e, hf⟩
  · rw [e] at hb; exact List.mem_cons_of_mem _ hb
  · rw [e] at hb
    unfold frs at hb
    rw [List.filterMap_cons, hf] at hb
    exact hb
theorem Inv.stkFree (I : Inv X pins σ H s) : ∀ b ∈ frs X.stack, H b = none := fun b hb => by
  rcases List.mem_cons.mp (I.stkSub b hb) with e | hb
  · rw [e]; exact I.free
  · obtain ⟨_, o, ho, _⟩ := I.ok.funs.mem hb
    exact I.base.free b o ho (I.ok.frf b hb) fun z => I.ok.exfs b z hb
theorem Inv.stepN {g' : Array GenState} {t' : Nat} {d' : Drawn} {ch : List Addr} (I : Inv X pins σ H s)
    (hch : ∀ b ∈ ch, (b ∈ X.ex ∨ X.s₀.heap.get? b = none) ∧ b ≠ X.env.locals ∧ (∀ x c, X.env.cells.lookup x = some c → c ≠ b) ∧ ∀ p ∈ X.pn ++ pins, p.1 ≠ b)
    (keep : ∀ b o, b ≠ X.env.locals → b ∉ X.fs → b ∉ ch → s.heap.get? b = some o → H b = none → h'.get? b = some o)
    (slot : ∀ b o, b ≠ X.env.locals → b ∈ X.fs → b ∉ ch → s.heap.get? b = some o → H b = none → ∃ sl, h'.get? b = some { o with slots := sl }) (free : ∀ b o, b ∉ ch → s.heap.get? b = some o → H b = none → H' b = none)
    (there : ∀ b o, b ∉ ch → s.heap.get? b = some o → ∃ o', h'.get? b = some o')
    (tups : ∀ b xs, H b = some (.tup xs) → H' b = some (.tup xs)) (frzs : ∀ b o u, H b = some (.frz o u) → H' b = some (.frz o u)) (tbls : ∀ b ps, H b = some (.tbl ps) → ∃ more, H' b = some (.tbl (ps ++ more)))
    (ns : ∀ m, s.heap.Ns X.env.locals m → h'.Ns X.env.locals m) (hok : HOk X.prog X.w H' h') (hg : AllBare g') :
    Inv X pins σ H' { s with heap := h', gens := g', drawn := d', toks := t' } := by
  have neL : ∀ b o, X.s₀.heap.get? b = some o → b ≠ X.env.locals := fun b o e => Nat.ne_of_lt (Nat.lt_of_lt_of_le (Heap.lt_size e) I.ok.above)
  have neC : ∀ b o, X.s₀.heap.get? b = some o → b ∉ X.ex → b ∉ ch := fun b o e hx hb => by
    rcases (hch b hb).1 with z | z
    · exact hx z
    · rw [z] at e; cases e
  have cellK : ∀ x c, X.env.cells.lookup x = some c → ∀ v, s.heap.IsCell c v → h'.IsCell c v := fun x c e v ⟨o, ho, hd⟩ => by
    have nch : c ∉ ch := fun z => (hch c z).2.2.1 x c e rfl
    by_cases hc : c ∈ X.fs
    · obtain ⟨sl, q⟩ := slot c o (I.cne x c e) hc nch ho (I.freeC x c e)
      exact ⟨_, q, hd⟩
    · exact ⟨o, keep c o (I.cne x c e) hc nch ho (I.freeC x c e), hd⟩
  refine ⟨I.ok, I.os, hg, ⟨fun b o e n hb hx => ?_, fun b o e n hb hx => ?_, fun b o e n hx => ?_, fun b o e hx => ?_, fun b xs e => tups b xs (I.base.tups b xs e), fun b o xs e => frzs b o xs (I.base.frzs b o xs e), fun b ps e => ?_⟩, ?_, fun x c e => ?_, ?_, fun x c e => ?_, fun p hp => ?_, hok, I.len⟩
  · exact keep b o (neL b o e) hb (neC b o e hx) (I.base.keep b o e n hb hx) (I.base.free b o e n hx)
  · obtain ⟨sl, e1⟩ := I.base.slot b o e n hb hx
    obtain ⟨sl', e2⟩ := slot b _ (neL b o e) hb (neC b o e hx) e1 (I.base.free b o e n hx)
    exact ⟨sl', e2⟩
  · obtain ⟨o', e1⟩ := I.base.there b o e hx
    exact free b o' (neC b o e hx) e1 (I.base.free b o e n hx)
  · obtain ⟨o', e1⟩ := I.base.there b o e hx
    exact there b o' (neC b o e hx) e1
  · obtain ⟨m1, e1⟩ := I.base.tbls b ps e
    obtain ⟨m2, e2⟩ := tbls b _ e1
    exact ⟨m1 ++ m2, by rw [e2, Array.append_assoc]⟩
  · obtain ⟨m, hn, hl⟩ := I.loc
    refine ⟨m, ns m hn, fun i x v e1 e2 e3 => ?_⟩
    obtain ⟨u, r, l⟩ := hl i x v e1 e2 e3
    refine ⟨u, r, ?_⟩
    rcases l with l | ⟨k, c, e, z⟩
    · exact .inl l
    · exact .inr ⟨k, c, e, cellK x c e _ z⟩
  · obtain ⟨v, z⟩ := I.cell x c e
    exact ⟨v, cellK x c e v z⟩
  · obtain ⟨m, ⟨o, _, _, ho, _⟩, _⟩ := I.loc
    exact free _ o (fun z => (hch _ z).2.1 rfl) ho I.free
  · obtain ⟨v, o, ho, hd⟩ := I.cell x c e
    exact free c o (fun z => (hch c z).2.2.1 x c e rfl) ho (I.freeC x c e)
  · obtain ⟨e, n, ne, nf, d⟩ := I.pin p hp
    have nch : p.1 ∉ ch := fun z => (hch p.1 z).2.2.2 p hp rfl
    exact ⟨keep p.1 p.2 ne nf nch e n, free p.1 p.2 nch e n, ne, nf, d⟩
theorem Inv.step {g' : Array GenState} {t' : Nat} {d' : Drawn} {ch : List Addr} (I : Inv X pins σ H s)
    (hch : ∀ b ∈ ch, (b ∈ X.ex ∨ X.s₀.heap.objs.size ≤ b) ∧ b ≠ X.env.locals ∧ (∀ x c, X.env.cells.lookup x = some c → c ≠ b) ∧ ∀ p ∈ X.pn ++ pins, p.1 ≠ b)
    (keep : ∀ b o, b ≠ X.env.locals → b ∉ X.fs → b ∉ ch → s.heap.get? b = some o → H b = none → h'.get? b = some o)
    (slot : ∀ b o, b ≠ X.env.locals → b ∈ X.fs → b ∉ ch → s.heap.get? b = some o → H b = none → ∃ sl, h'.get? b = some { o with slots := sl }) (free : ∀ b o, b ∉ ch → s.heap.get? b = some o → H b = none → H' b = none)
    (there : ∀ b o, b ∉ ch → s.heap.get? b = some o → ∃ o', h'.get? b = some o')
    (tups : ∀ b xs, H b = some (.tup xs) → H' b = some (.tup xs)) (frzs : ∀ b o u, H b = some (.frz o u) → H' b = some (.frz o u)) (tbls : ∀ b ps, H b = some (.tbl ps) → ∃ more, H' b = some (.tbl (ps ++ more)))
    (ns : ∀ m, s.heap.Ns X.env.locals m → h'.Ns X.env.locals m) (hok : HOk X.prog X.w H' h') (hg : AllBare g') :
    Inv X pins σ H' { s with heap := h', gens := g', drawn := d', toks := t' } :=
  I.stepN (fun b hb => ⟨(hch b hb).1.imp id fun z => Heap.get?_none_of_le z, (hch b hb).2⟩) keep slot free there tups frzs tbls ns hok hg
theorem Inv.un {t' : Nat} (I : Inv X pins σ H s) (u : Un X.fs [] H H' s.heap h') (hok : HOk X.prog X.w H' h') : Inv X pins σ H' { s with heap := h', toks := t' } := by
  obtain ⟨m, ⟨o, es, ep, ho, r⟩, _⟩ := id I.loc
  obtain ⟨sl, hL⟩ := u.any ho I.free (by simp)
  exact I.step (g' := s.gens) (d' := s.drawn) (ch := []) (fun _ z => nomatch z) (fun b o _ hb _ e n => u.keep b o e n hb (by simp)) (fun b o _ hb _ e n => u.slot b o e n hb (by simp)) (fun b o _ e n => u.free b o e n (by simp)) (fun b o _ e => u.there b o e (by simp)) u.tups u.frzs u.tbls (fun m' hm => by
    obtain ⟨o', es', ep', ho', r'⟩ := hm
    rw [ho] at ho'; cases ho'
    exact ⟨_, es', ep', hL, r'⟩) hok I.bare
theorem Inv.call {g' : Array GenState} {t' : Nat} {d' : Drawn} {ch : List Addr} (I : Inv X pins σ H s) (u : Un (frs X.stack) ch H H' s.heap h') (hok : HOk X.prog X.w H' h') (hg : AllBare g')
    (hch : ∀ b ∈ ch, (b ∈ X.ex ∨ X.s₀.heap.objs.size ≤ b) ∧ b ≠ X.env.locals ∧ (∀ x c, X.env.cells.lookup x = some c → c ≠ b) ∧ ∀ p ∈ X.pn ++ pins, p.1 ≠ b) :
    Inv X pins σ H' { s with heap := h', gens := g', drawn := d', toks := t' } := by
  obtain ⟨m, ⟨o, es, ep, ho, r⟩, _⟩ := id I.loc
  obtain ⟨sl, hL⟩ := u.any ho I.free fun z => (hch _ z).2.1 rfl
  exact I.step (ch := ch) hch (fun b o hL hb hc e n => u.keep b o e n (fun z => (List.mem_cons.mp (I.stkSub b z)).elim hL hb) hc) (fun b o _ _ hc e n => u.any e n hc) (fun b o hc e n => u.free b o e n hc) (fun b o hc e => u.there b o e hc) u.tups u.frzs u.tbls (fun m' hm => by
    obtain ⟨o', es', ep', ho', r'⟩ := hm
    rw [ho] at ho'; cases ho'
    exact ⟨_, es', ep', hL, r'⟩) hok hg
theorem Inv.turned {t' : Nat} {it : Addr} (I : Inv X pins σ H s) (k : ∀ b o, b ≠ it → s.heap.get? b = some o → h'.get? b = some o) (hn : H it = none) (hL : it ≠ X.env.locals)
    (h1 : it ∈ X.ex ∨ X.s₀.heap.objs.size ≤ it) (h2 : ∀ x c, X.env.cells.lookup x = some c → c ≠ it) (h3 : ∀ p ∈ X.pn ++ pins, p.1 ≠ it) : Inv X pins σ H { s with heap := h', toks := t' } := by
  have nit : ∀ b u, H b = some u → b ≠ it := fun b u e z => by rw [z, hn] at e; cases e
  refine I.step (g' := s.gens) (d' := s.drawn) (ch := [it]) (fun b hb => ?_) (fun b o _ _ hc e _ => k b o (fun z => hc (by simp [z])) e) (fun b o _ _ hc e _ => ⟨o.slots, k b o (fun z => hc (by simp [z])) e⟩) (fun _ _ _ _ n => n)
    (fun b o hc e => ⟨o, k b o (fun z => hc (by simp [z])) e⟩) (fun _ _ e => e) (fun _ _ _ e => e) (fun b ps e => ⟨#[], by rw [e]; simp⟩) (fun m hm => ?_) (fun b u e => ?_) I.bare
  · have e : b = it := by simpa using hb
    subst e
    exact ⟨h1, hL, h2, h3⟩
  · obtain ⟨o, es, ep, ho, r⟩ := hm
    exact ⟨o, es, ep, k _ o (Ne.symm hL) ho, r⟩
  · refine (I.hok b u e).stay (fun c v hc q => k c v ?_ q) (fun _ q => q) (fun _ _ q => q) fun _ _ _ q => q
    rcases hc with z | z
    · rw [z]; exact nit b u e
    · exact nit c _ z
theorem Inv.tok (I : Inv X pins σ H s) (t : Nat) : Inv X pins σ H { s with toks := t } := I.un (h' := s.heap) (t' := t) Un.refl I.hok
theorem Inv.kept {t' : Nat} (I : Inv X pins σ H s) (k : ∀ b u, s.heap.get? b = some u → h'.get? b = some u) : Inv X pins σ H { s with heap := h', toks := t' } := I.un (Un.kept k) (I.hok.kept k)
theorem Inv.laid {a : Addr} {o : HO} {t' : Nat} (I : Inv X pins σ H s) (k : ∀ b u, s.heap.get? b = some u → h'.get? b = some u) (hp : s.heap.objs.size ≤ a) (new : ObjOk X.prog X.w (upd H a o) h' a o) :
    Inv X pins σ (upd H a o) { s with heap := h', toks := t' } := I.un (Un.laid k hp (I.hok.fresh hp)) (I.hok.laid k hp new)
theorem Inv.write {x e : Addr} {o : HO} {t' : Nat} (I : Inv X pins σ H s) (mu : Mut (H x)) (he : e = x ∨ H e = some (.own x)) (k : ∀ b u, b ≠ e → s.heap.get? b = some u → h'.get? b = some u) (heo : ∃ u, h'.get? e = some u)
    (new : ObjOk X.prog X.w (upd H x o) h' x o) : Inv X pins σ (upd H x o) { s with heap := h', toks := t' } := I.un (Un.write mu he k heo) (I.hok.write mu he k heo new)
theorem Inv.pins_of {pins' : List (Addr × Obj)} (I : Inv X pins σ H s) (h : ∀ p ∈ pins', s.heap.get? p.1 = some p.2 ∧ H p.1 = none ∧ p.1 ≠ X.env.locals ∧ p.1 ∉ X.fs ∧ ∀ v, p.2.data ≠ .cell v) : Inv X pins' σ H s :=
  ⟨I.ok, I.os, I.bare, I.base, I.loc, I.cell, I.free, I.freeC, fun p hp => (List.mem_append.mp hp).elim (fun z => I.pin p (List.mem_append_left _ z)) (h p), I.hok, I.len⟩
theorem nodup_ix {N : List Str} (hN : N.Nodup) {i j : Nat} {x : Str} (a : N[i]? = some x) (b : N[j]? = some x) : i = j := by
  obtain ⟨h1, e1⟩ := List.getElem?_eq_some_iff.mp a
  obtain ⟨h2, e2⟩ := List.getElem?_eq_some_iff.mp b
  exact (List.getElem_inj hN).mp (e1.trans e2.symm)
theorem store_ok2 {M : Model} {A : Around} {E : Value → Shared → Prop} {i : Nat} {x : Str} {v : V} {u : Value} {Q : Unit → Shared → Prop} (I : Inv X pins σ H s) (hN : X.N.Nodup) (hi : X.N[i]? = some x) (hx : Loc X.env.scope x) (r : RelV v u)
    (h : ∀ s', Inv X pins (σ.set i (some v)) H s' → (∃ a, Heap.SameBut a s.heap s'.heap ∧ (a = X.env.locals ∨ X.env.cells.lookup x = some a)) → Q () s') (hf : X.fn x = true ∨ X.env.scope.names.lookup x = some .local := by first | exact .inl rfl | exact .inr rfl | assumption) : wpAny M A (storeName X.env x u) Q E s := by
  obtain ⟨m, hn, hl⟩ := id I.loc
  have hcls : (X.env.scope.kind == .class || (X.env.scope.kind == .module && X.env.locals != X.env.globals)) = false := by rw [I.ok.kind]; rfl
  have hiσ : i < σ.length := by rw [I.len]; exact (List.getElem?_eq_some_iff.mp hi).1
  have cne := I.cne
  have tracked : ∀ {a : Addr} {h' : Heap}, (∃ o, s.heap.get? a = some o ∧ H a = none) → Heap.SameBut a s.heap h' → HOk X.prog X.w H h' := fun {a h'} ha hs b ob e => by
    obtain ⟨_, _, hfree⟩ := ha
    refine (I.hok b ob e).stay (fun c w' hc q => (hs.2 c ?_).trans q) (fun _ q => q) (fun _ _ q => q) fun _ _ _ q => q
    rintro rfl
    rcases hc with rfl | hc
    · rw [hfree] at e; cases e
    · rw [hfree] at hc; cases hc
  rcases hx with hk | hk
  · refine wpAny_storeName_local hk hn (fun h' hn' hs => ?_) hcls
    obtain ⟨oL, _, _, hoL, _⟩ := id hn
    refine h _ ⟨I.ok, I.os, I.bare, ⟨fun b o e n hb hx => ?_, fun b o e n hb hx => ?_, I.base.free, fun b o e hx => ?_, I.base.tups, I.base.frzs, I.base.tbls⟩, ⟨_, hn', fun j y v' e1 e2 e3 => ?_⟩, fun y c e => ?_, I.free, I.freeC, fun p hp => ?_, tracked ⟨oL, hoL, I.free⟩ hs, by simpa using I.len⟩ ⟨_, hs, .inl rfl⟩
    · exact (hs.2 b (Nat.ne_of_lt (Nat.lt_of_lt_of_le (Heap.lt_size e) I.ok.above))).trans (I.base.keep b o e n hb hx)
    · obtain ⟨sl, e1⟩ := I.base.slot b o e n hb hx
      exact ⟨sl, (hs.2 b (Nat.ne_of_lt (Nat.lt_of_lt_of_le (Heap.lt_size e) I.ok.above))).trans e1⟩
    · obtain ⟨o', e1⟩ := I.base.there b o e hx
      exact ⟨o', (hs.2 b (Nat.ne_of_lt (Nat.lt_of_lt_of_le (Heap.lt_size e) I.ok.above))).trans e1⟩
    · by_cases hj : j = i
      · subst hj
        rw [hi] at e1; cases e1
        rw [List.getElem?_set_self hiσ] at e2
        cases e2
        exact ⟨u, r, .inl ⟨hk, by simp⟩⟩
      · rw [List.getElem?_set_ne (Ne.symm hj)] at e2
        obtain ⟨u', r', q⟩ := hl j y v' e1 e2 e3
        refine ⟨u', r', ?_⟩
        rcases q with ⟨k, e⟩ | ⟨k, c, e, z⟩
        · refine .inl ⟨k, ?_⟩
          have : y ≠ x := fun e => hj (nodup_ix hN e1 (e ▸ hi))
          simp [this, e]
        · exact .inr ⟨k, c, e, z.sameBut hs (cne y c e)⟩
    · obtain ⟨w', z⟩ := I.cell y c e
      exact ⟨w', z.sameBut hs (cne y c e)⟩
    · obtain ⟨e, n, ne, nf, d⟩ := I.pin p hp
      exact ⟨(hs.2 p.1 ne).trans e, n, ne, nf, d⟩
  · have hfn : X.fn x = true := by
      rcases hf with z | z
      · exact z
      · rw [z] at hk; cases hk
    obtain ⟨c, hc⟩ := I.ok.has x (.inl hk)
    obtain ⟨w', z⟩ := I.cell x c hc
    refine wpAny_storeName_cell I.ok.kind hk hc z (fun h' hc' hs => ?_)
    obtain ⟨oc, hoc, hocd⟩ := id z
    refine h { s with heap := h' } ⟨I.ok, I.os, I.bare, ⟨fun b o e n hb hx => ?_, fun b o e n hb hx => ?_, I.base.free, fun b o e hx => ?_, I.base.tups, I.base.frzs, I.base.tbls⟩, ⟨m, hn.sameBut hs (Ne.symm (cne x c hc)), fun j y v' e1 e2 e3 => ?_⟩, fun y c' e => ?_, I.free, I.freeC, fun p hp => ?_, tracked ⟨oc, hoc, I.freeC x c hc⟩ hs, by simpa using I.len⟩ ⟨c, hs, .inr hc⟩
    · exact (hs.2 b (Nat.ne_of_lt (Nat.lt_of_lt_of_le (Heap.lt_size e) (I.ok.cab x c hfn hc)))).trans (I.base.keep b o e n hb hx)
    · obtain ⟨sl, e1⟩ := I.base.slot b o e n hb hx
      exact ⟨sl, (hs.2 b (Nat.ne_of_lt (Nat.lt_of_lt_of_le (Heap.lt_size e) (I.ok.cab x c hfn hc)))).trans e1⟩
    · obtain ⟨o', e1⟩ := I.base.there b o e hx
      exact ⟨o', (hs.2 b (Nat.ne_of_lt (Nat.lt_of_lt_of_le (Heap.lt_size e) (I.ok.cab x c hfn hc)))).trans e1⟩
    · by_cases hj : j = i
      · subst hj
        rw [hi] at e1; cases e1
        rw [List.getElem?_set_self hiσ] at e2
        cases e2
        exact ⟨u, r, .inr ⟨.inl hk, c, hc, hc'⟩⟩
      · rw [List.getElem?_set_ne (Ne.symm hj)] at e2
        obtain ⟨u', r', q⟩ := hl j y v' e1 e2 e3
        refine ⟨u', r', ?_⟩
        rcases q with q | ⟨k, c', e, z'⟩
        · exact .inl q
        · refine .inr ⟨k, c', e, z'.sameBut hs ?_⟩
          rintro rfl
          exact hj (nodup_ix hN e1 (I.ok.inj _ _ _ e hc ▸ hi))
    · by_cases hcc : c' = c
      · subst hcc; exact ⟨_, hc'⟩
      · obtain ⟨w2, z2⟩ := I.cell y c' e
        exact ⟨w2, z2.sameBut hs hcc⟩
    · obtain ⟨e, n, ne, nf, d⟩ := I.pin p hp
      refine ⟨(hs.2 p.1 ?_).trans e, n, ne, nf, d⟩
      intro q
      rw [q, hoc] at e
      have q' : oc = p.2 := Option.some.inj e
      exact d w' (by rw [← q']; exact hocd)
theorem store_ok {M : Model} {A : Around} {E : Value → Shared → Prop} {i : Nat} {x : Str} {v : V} {u : Value} {Q : Unit → Shared → Prop} (I : Inv X pins σ H s) (hN : X.N.Nodup) (hi : X.N[i]? = some x) (hx : Loc X.env.scope x) (r : RelV v u)
    (h : ∀ s', Inv X pins (σ.set i (some v)) H s' → Q () s') (hf : X.fn x = true ∨ X.env.scope.names.lookup x = some .local := by first | exact .inl rfl | exact .inr rfl | assumption) : wpAny M A (storeName X.env x u) Q E s :=
  store_ok2 I hN hi hx r (fun s' I' _ => h s' I') hf
theorem Inv.call' {s' : Shared} {ch : List Addr} (I : Inv X pins σ H s) (ho : s'.os = s.os) (u : Un (frs X.stack) ch H H' s.heap s'.heap) (hok : HOk X.prog X.w H' s'.heap) (hg : AllBare s'.gens)
    (hch : ∀ b ∈ ch, (b ∈ X.ex ∨ X.s₀.heap.objs.size ≤ b) ∧ b ≠ X.env.locals ∧ (∀ x c, X.env.cells.lookup x = some c → c ≠ b) ∧ ∀ p ∈ X.pn ++ pins, p.1 ≠ b) : Inv X pins σ H' s' := by
  obtain ⟨h', g', d', t', o'⟩ := s'
  have e : o' = s.os := ho
  subst e
  exact I.call (g' := g') (t' := t') (d' := d') u hok hg hch
end
abbrev XK := Value → Option Addr → Hp → Prop
abbrev St := List (Option V)
abbrev VK := V → Hp → Prop
abbrev TE := St → Hp → VK → Prop
abbrev TT := St → Hp → (Bool → Hp → Prop) → Prop
abbrev TA := St → Hp → (List V → Hp → Prop) → Prop
structure Ends where
  nx : St → Hp → Prop
  rt : VK
  bk : St → Hp → Prop := fun _ _ => False
  ct : St → Hp → Prop := fun _ _ => False
abbrev TS := Ends → St → Hp → Prop
def EP (X : Cx) (pins : List (Addr × Obj)) (σ : St) (Q : VK) (u : Value) (s' : Shared) : Prop := ∃ v H', Inv X pins σ H' s' ∧ RelV v u ∧ Q v H'
def TP (X : Cx) (pins : List (Addr × Obj)) (σ : St) (Q : Bool → Hp → Prop) (b : Bool) (s' : Shared) : Prop := ∃ H', Inv X pins σ H' s' ∧ Q b H'
def AP (X : Cx) (pins : List (Addr × Obj)) (σ : St) (Q : List V → Hp → Prop) (us : List Value) (s' : Shared) : Prop := ∃ vs H', Inv X pins σ H' s' ∧ Vals vs us ∧ Q vs H'
def SP (X : Cx) (pins : List (Addr × Obj)) (D : Ends) (f : Flow) (s' : Shared) : Prop :=
  match f with
  | .next => ∃ σ' H', Inv X pins σ' H' s' ∧ D.nx σ' H'
  | .brk => ∃ σ' H', Inv X pins σ' H' s' ∧ D.bk σ' H'
  | .cont => ∃ σ' H', Inv X pins σ' H' s' ∧ D.ct σ' H'
  | .ret u => ∃ v σ' H', Inv X pins σ' H' s' ∧ RelV v u ∧ D.rt v H'
def PE (X : Cx) (e : Expr) (t : TE) : Prop :=
  ∀ (pins : List (Addr × Obj)) (s : Shared) (σ : St) (H : Hp) (Q : VK), Inv X pins σ H s → t σ H Q → wpAny (model X.prog X.w) X.A (eval e X.env) (EP X pins σ Q) X.xe s
def PT (X : Cx) (e : Expr) (t : TT) : Prop :=
  ∀ (pins : List (Addr × Obj)) (s : Shared) (σ : St) (H : Hp) (Q : Bool → Hp → Prop), Inv X pins σ H s → t σ H Q → wpAny (model X.prog X.w) X.A (isTrue e X.env (eval e X.env)) (TP X pins σ Q) X.xe s
def PW (X : Cx) (e : Expr) (t : TT) : Prop :=
  ∀ (whole : Sem Value) (pins : List (Addr × Obj)) (s : Shared) (σ : St) (H : Hp) (Q : Bool → Hp → Prop), Inv X pins σ H s → t σ H Q → wpAny (model X.prog X.w) X.A (isTrue e X.env whole) (TP X pins σ Q) X.xe s
theorem PW.pt {X : Cx} {e : Expr} {t : TT} (h : PW X e t) : PT X e t := h _
def PA (X : Cx) (es : List Expr) (t : TA) : Prop :=
  ∀ (pos : Pos) (pins : List (Addr × Obj)) (s : Shared) (σ : St) (H : Hp) (Q : List V → Hp → Prop), Inv X pins σ H s → t σ H Q → wpAny (model X.prog X.w) X.A (spliced (backTo pos (starEach es X.env))) (AP X pins σ Q) X.xe s
def PS (X : Cx) (st : Stmt) (t : TS) : Prop :=
  ∀ (pins : List (Addr × Obj)) (s : Shared) (σ : St) (H : Hp) (D : Ends), Inv X pins σ H s → t D σ H → wpAny (model X.prog X.w) X.A (exec st X.env) (SP X pins D) X.xe s
def PSs (X : Cx) (st : List Stmt) (t : TS) : Prop :=
  ∀ (pins : List (Addr × Obj)) (s : Shared) (σ : St) (H : Hp) (D : Ends), Inv X pins σ H s → t D σ H → wpAny (model X.prog X.w) X.A (execs st X.env) (SP X pins D) X.xe s
theorem thn {α : Type} {t : Sem α} {Q Q' : α → Shared → Prop} {M : Model} {A : Around} {E : Value → Shared → Prop} {s : Shared} (h : wpAny M A t Q E s) (hQ : ∀ a s, Q a s → Q' a s) : wpAny M A t Q' E s := wpAny_mono h hQ fun _ _ x => x
end L2
namespace L2
open PySem PySem.Spec PyProof.Rows
section
variable {X : Cx}
def tVar (i : Nat) : TE := fun σ H Q => ∃ v, σ[i]? = some (some v) ∧ Q v H
def tC (v : V) : TE := fun _ H Q => Q v H
theorem pe_var {i : Nat} {x : Str} {pos : Pos} (hN : X.N[i]? = some x) (hv : Vis X.env.scope x) (hd : (x == ("__debug__" : Str)) = false := by decide) (hcd : (x == ("__classdict__" : Str)) = false := by decide) : PE X (.Name x pos) (tVar i) := by
  intro pins s σ H Q I h
  obtain ⟨v, e, h⟩ := h
  obtain ⟨m, hn, hl⟩ := I.loc
  obtain ⟨u, r, l⟩ := hl i x v hN e hv
  have fin : EP X pins σ Q u s := ⟨v, H, I, r, h⟩
  rcases l with ⟨hk, hm⟩ | ⟨hk, c, hc, hcell⟩
  · exact wpAny_Name (wpAny_loadName_local I.ok.kind hk hn hm fin) hd
  · rcases hk with hk | hk
    · exact wpAny_Name (wpAny_loadName_cell I.ok.kind hk hc hcell fin) hd
    · exact wpAny_Name (wpAny_loadName_free I.ok.kind hk hc hcell fin hcd) hd
theorem pe_int {i j pos} : PE X (.Constant (.int i) j pos) (tC (.int i)) := fun _ _ _ H _ I h => wpAny_Constant_int ⟨.int i, H, I.tok _, ⟨_, rfl⟩, h⟩
theorem pe_bl {b j pos} : PE X (.Constant (.bool b) j pos) (tC (.bl b)) := fun _ _ _ H _ I h => Constant_bool ⟨.bl b, H, I, rfl, h⟩
theorem pe_non {j pos} : PE X (.Constant .none j pos) (tC .non) := fun _ _ _ H _ I h => Constant_none ⟨.non, H, I, rfl, h⟩
theorem pe_str {x j pos} : PE X (.Constant (.str x) j pos) (tC (.str x)) := fun _ _ _ H _ I h => Calls.Constant_str ⟨.str x, H, I.tok _, ⟨_, rfl⟩, h⟩
def Gl (X : Cx) (x : Str) : Prop := X.env.kindOf x = some .globalImplicit
theorem ld_glob {E : Value → Shared → Prop} {pins : List (Addr × Obj)} {s : Shared} {σ : St} {H : Hp} {x : Str} {u : Value} {pos : Pos} {Q : Value → Shared → Prop} (I : Inv X pins σ H s) (hg : Gl X x) (hm : X.mg x = some u) (h : Q u s)
    (hd : (x == ("__debug__" : Str)) = false := by decide) : wpAny (model X.prog X.w) X.A (eval (.Name x pos) X.env) Q E s :=
  Calls.Name_function_global I.ok.kind hg (Calls.loadGlobal_global (by rw [I.ok.glob]; exact I.mod.glob.keeps I.bk) hm h) hd
theorem ld_blt {E : Value → Shared → Prop} {pins : List (Addr × Obj)} {s : Shared} {σ : St} {H : Hp} {x : Str} {u : Value} {pos : Pos} {Q : Value → Shared → Prop} (I : Inv X pins σ H s) (hg : Gl X x) (hm : X.mg x = none) (hv : bootBuiltins x = some u) (h : Q u s)
    (hn : x ≠ "__name__" := by decide) (hd : (x == ("__debug__" : Str)) = false := by decide) : wpAny (model X.prog X.w) X.A (eval (.Name x pos) X.env) Q E s := by
  obtain ⟨mb, h1, h2⟩ := I.mod.blt
  exact Calls.Name_function_global I.ok.kind hg (Calls.loadGlobal_builtin (by rw [I.ok.glob]; exact I.mod.glob.keeps I.bk) hm (by rw [I.ok.blt]; exact h1.keeps I.bk) ((h2 x hn).trans hv) h) hd
theorem pe_glob {x : Str} {v : V} {u : Value} {pos : Pos} (hg : Gl X x) (hm : X.mg x = some u) (r : RelV v u) (hd : (x == ("__debug__" : Str)) = false := by decide) : PE X (.Name x pos) (tC v) :=
  fun _ _ _ H _ I h => ld_glob I hg hm ⟨v, H, I, r, h⟩ hd
theorem pe_bltn {x : Str} {v : V} {u : Value} {pos : Pos} (hg : Gl X x) (hm : X.mg x = none) (hv : bootBuiltins x = some u) (r : RelV v u) (hn : x ≠ "__name__" := by decide) (hd : (x == ("__debug__" : Str)) = false := by decide) : PE X (.Name x pos) (tC v) :=
  fun _ _ _ H _ I h => ld_blt I hg hm hv ⟨v, H, I, r, h⟩ hn hd
variable {a b : Expr} {ta tb : TE} {pos : Pos}
def tB (t : TE) : TT := fun σ H Q => t σ H fun x H1 => ∃ c, x = .bl c ∧ Q c H1
theorem pt_val {e : Expr} {t : TE} (h : PE X e t) (he : ∀ whole, isTrue e X.env whole = (do let v ← whole; standAt e.pos; holding [v] (truthy v)) := by intro _; rfl) : PT X e (tB t) := by
  intro pins s σ H Q I hw
  refine isTrue_plain (thn (h pins s σ H _ I hw) fun v s1 ⟨x, H1, I1, r1, q1⟩ => ?_) (he _)
  obtain ⟨d, rfl, q⟩ := q1
  cases r1
  exact wpAny_truthy_bool ⟨H1, I1, q⟩
variable {tA tB' : TT} {rest : List Expr}
def tAnd (t u : TT) : TT := fun σ H Q => t σ H fun c H1 => if c = true then u σ H1 Q else Q false H1
def tOr (t u : TT) : TT := fun σ H Q => t σ H fun c H1 => if c = true then Q true H1 else u σ H1 Q
def tNot (t : TT) : TT := fun σ H Q => t σ H fun c H1 => Q (!c) H1
theorem pw_and1 (ha : PT X a tA) : PW X (.BoolOp .And [a] pos) tA := by
  intro wh pins s σ H Q I h
  refine isTrue_and (thn (ha pins s σ H Q I h) fun c s1 e => ?_)
  cases c with
  | true => exact isTrue_and_nil e
  | false => exact e
theorem pw_or1 (ha : PT X a tA) : PW X (.BoolOp .Or [a] pos) tA := by
  intro wh pins s σ H Q I h
  refine isTrue_or (thn (ha pins s σ H Q I h) fun c s1 e => ?_)
  cases c with
  | false => exact isTrue_or_nil e
  | true => exact e
theorem pw_and (ha : PT X a tA) (hb : PW X (.BoolOp .And (b :: rest) pos) tB') : PW X (.BoolOp .And (a :: b :: rest) pos) (tAnd tA tB') := by
  intro wh pins s σ H Q I h
  refine isTrue_and (thn (ha pins s σ H _ I h) fun c s1 ⟨H1, I1, q1⟩ => ?_)
  cases c with
  | true => exact hb wh pins s1 σ H1 Q I1 q1
  | false => exact ⟨H1, I1, q1⟩
theorem pw_or (ha : PT X a tA) (hb : PW X (.BoolOp .Or (b :: rest) pos) tB') : PW X (.BoolOp .Or (a :: b :: rest) pos) (tOr tA tB') := by
  intro wh pins s σ H Q I h
  refine isTrue_or (thn (ha pins s σ H _ I h) fun c s1 ⟨H1, I1, q1⟩ => ?_)
  cases c with
  | true => exact ⟨H1, I1, q1⟩
  | false => exact hb wh pins s1 σ H1 Q I1 q1
theorem pt_not (ha : PT X a tA) : PT X (.UnaryOp .Not a pos) (tNot tA) := by
  intro pins s σ H Q I h
  exact isTrue_not (ha pins s σ H (fun c H1 => Q (!c) H1) I h)
def tAndV (ta tb : TE) : TE := fun σ H Q => ta σ H fun x H1 => ∃ c, x = .bl c ∧ if c = true then tb σ H1 Q else Q (.bl false) H1
def tNotV (ta : TE) : TE := fun σ H Q => ta σ H fun x H1 => ∃ c, x = .bl c ∧ Q (.bl (!c)) H1
theorem pe_one {op} {t : TE} (h : PE X a t) : PE X (.BoolOp op [a] pos) t := fun pins s σ H Q I hw => BoolOp_one (h pins s σ H Q I hw)
theorem pe_and (ha : PE X a ta) (hb : PE X (.BoolOp .And (b :: rest) pos) tb) : PE X (.BoolOp .And (a :: b :: rest) pos) (tAndV ta tb) := by
  intro pins s σ H Q I h
  refine BoolOp_and (thn (ha pins s σ H _ I h) fun v s1 ⟨x, H1, I1, r1, q1⟩ => ?_)
  obtain ⟨c, rfl, q1⟩ := q1
  cases r1
  refine wpAny_truthy_bool ?_
  cases c with
  | true => exact hb pins s1 σ H1 Q I1 q1
  | false => exact ⟨.bl false, H1, I1, rfl, q1⟩
theorem pe_not (ha : PE X a ta) : PE X (.UnaryOp .Not a pos) (tNotV ta) := by
  intro pins s σ H Q I h
  refine UnaryOp_ (thn (ha pins s σ H _ I h) fun v s1 ⟨x, H1, I1, r1, q1⟩ => ?_)
  obtain ⟨c, rfl, q1⟩ := q1
  cases r1
  exact not_of (wpAny_truthy_bool ⟨.bl (!c), H1, I1, rfl, q1⟩)
end
end L2
namespace L2
open PySem PySem.Spec PyProof.Rows
def SqL (K : PySem.W.Frag) (H : Hp) (a : Addr) (xs : List V) : Prop :=
  Rd H a (.lst xs) ∨
    ∃ (o : Obj) (its : Array Value) (n : Nat), K.lookup a = some o ∧ o.cls = .type "list" ∧ o.dict = none ∧ o.data = .seq its n ∧ its.size ≤ sizeLine ∧ Vals xs its.toList
def SqT (K : PySem.W.Frag) (H : Hp) (a : Addr) (xs : List V) : Prop :=
  Rd H a (.tup xs) ∨
    ∃ (o : Obj) (its : Array Value) (n : Nat), K.lookup a = some o ∧ o.cls = .type "tuple" ∧ o.data = .seq its n ∧ its.size ≤ sizeLine ∧ Vals xs its.toList ∧ o.dict = none
def absV : Value → Option V
  | .none => some .non
  | .bool b => some (.bl b)
  | .int i _ => some (.int i)
  | .str x _ => some (.str x)
  | .bytes b _ => some (.byt b)
  | .float b _ => some (.flt b)
  | .ref a => some (.ref a)
  | .type n => some (.ty n)
  | _ => none
theorem RelV.abs {x : V} {u : Value} (r : RelV x u) : absV u = some x := by
  cases x with
  | non => cases r; rfl
  | bl _ => cases r; rfl
  | int _ => obtain ⟨t, rfl⟩ := r; rfl
  | str _ => obtain ⟨t, rfl⟩ := r; rfl
  | byt _ => obtain ⟨t, rfl⟩ := r; rfl
  | flt _ => obtain ⟨t, rfl⟩ := r; rfl
  | ref _ => cases r; rfl
  | ty _ => cases r; rfl
theorem RelV.inj {x y : V} {u : Value} (r : RelV x u) (q : RelV y u) : x = y := Option.some.inj (r.abs.symm.trans q.abs)
theorem Vals.inj : ∀ {xs ys : List V} {us : List Value}, Vals xs us → Vals ys us → xs = ys
  | _, _, _, .nil, .nil => rfl
  | _, _, _, .cons r t, .cons r' t' => by rw [r.inj r', Vals.inj t t']
section
variable {X : Cx} {pins : List (Addr × Obj)} {σ : St} {H : Hp} {s : Shared} {a : Addr} {xs ys : List V}
theorem SqL.of {K : PySem.W.Frag} (h : H a = some (.lst xs)) : SqL K H a xs := .inl (.inl h)
theorem SqT.of {K : PySem.W.Frag} (h : H a = some (.tup xs)) : SqT K H a xs := .inl (.inl h)
theorem Inv.list (I : Inv X pins σ H s) (h : SqL X.K H a xs) : ∃ its : List Value, Vals xs its ∧ PlainL s.heap a its.toArray ∧ xs.length ≤ sizeLine := by
  rcases h with h | ⟨o, its, n, hk, hc, hd, hs, hz, r⟩
  · obtain ⟨z, its, n, r, e⟩ := h.ok I.hok
    exact ⟨its, r, ⟨_, n, e, rfl, rfl, rfl⟩, z⟩
  · refine ⟨its.toList, r, ⟨o, n, I.kIn a o hk, hc, hd, by simpa using hs⟩, ?_⟩
    have e := r.length
    simp only [Array.length_toList] at e
    omega
theorem Inv.tuple (I : Inv X pins σ H s) (h : SqT X.K H a xs) : ∃ its : List Value, Vals xs its ∧ IsTup s.heap a its.toArray ∧ xs.length ≤ sizeLine := by
  rcases h with h | ⟨o, its, n, hk, hc, hs, hz, r, _⟩
  · obtain ⟨z, its, r, p⟩ := h.ok I.hok
    exact ⟨its, r, p.isTup, z⟩
  · refine ⟨its.toList, r, ⟨o, I.kIn a o hk, hc, n, by simpa using hs⟩, ?_⟩
    have e := r.length
    simp only [Array.length_toList] at e
    omega
theorem Inv.tupleP (I : Inv X pins σ H s) (h : SqT X.K H a xs) : ∃ o, s.heap.get? a = some o ∧ o.cls = .type "tuple" ∧ o.dict = none := by
  rcases h with h | ⟨o, its, n, hk, hc, hs, hz, r, d⟩
  · obtain ⟨z, its, r, o, e, c, _, d⟩ := h.ok I.hok
    exact ⟨o, e, c, d⟩
  · exact ⟨o, I.kIn a o hk, hc, d⟩
theorem Inv.list_inj (I : Inv X pins σ H s) (h : SqL X.K H a xs) (h' : SqL X.K H a ys) : xs = ys := by
  obtain ⟨its, r, ⟨o, n, e, _, _, d⟩, _⟩ := I.list h
  obtain ⟨its', r', ⟨o', n', e', _, _, d'⟩, _⟩ := I.list h'
  rw [e] at e'; cases e'
  rw [d] at d'
  injection d' with d1 _
  have : its = its' := by simpa using congrArg Array.toList d1
  subst this
  exact r.inj r'
theorem Inv.tuple_inj (I : Inv X pins σ H s) (h : SqT X.K H a xs) (h' : SqT X.K H a ys) : xs = ys := by
  obtain ⟨its, r, ⟨o, e, _, n, d⟩, _⟩ := I.tuple h
  obtain ⟨its', r', ⟨o', e', _, n', d'⟩, _⟩ := I.tuple h'
  rw [e] at e'; cases e'
  rw [d] at d'
  injection d' with d1 _
  have : its = its' := by simpa using congrArg Array.toList d1
  subst this
  exact r.inj r'
end
abbrev Cx.wish (X : Cx) (E : Value → Shared → Prop) : Cx := { X with xe := E }
abbrev Cx.nox (X : Cx) : Cx := X.wish fun _ _ => False
theorem Cx.Ok.wish {X : Cx} (ok : X.Ok) (E : Value → Shared → Prop) : (X.wish E).Ok :=
  ⟨ok.mod, ok.kind, ok.glob, ok.blt, ok.above, ok.inj, ok.has, ok.cab, ok.hd, ok.frames, ok.stk, ok.exf, ok.bs, ok.bsz, ok.noex, ok.exfs, ok.funs, ok.frf⟩
theorem Cx.Ok.unwish {X : Cx} {E : Value → Shared → Prop} (ok : (X.wish E).Ok) : X.Ok :=
  ⟨ok.mod, ok.kind, ok.glob, ok.blt, ok.above, ok.inj, ok.has, ok.cab, ok.hd, ok.frames, ok.stk, ok.exf, ok.bs, ok.bsz, ok.noex, ok.exfs, ok.funs, ok.frf⟩
section
variable {X : Cx} {pins : List (Addr × Obj)} {σ : St} {H : Hp} {s : Shared} {E : Value → Shared → Prop}
theorem Inv.wish (I : Inv X pins σ H s) (E : Value → Shared → Prop) : Inv (X.wish E) pins σ H s := ⟨I.ok.wish E, I.os, I.bare, I.base, I.loc, I.cell, I.free, I.freeC, I.pin, I.hok, I.len⟩
theorem Inv.unwish (I : Inv (X.wish E) pins σ H s) : Inv X pins σ H s := ⟨I.ok.unwish, I.os, I.bare, I.base, I.loc, I.cell, I.free, I.freeC, I.pin, I.hok, I.len⟩
theorem SP.unwish {D : Ends} {f : Flow} {s' : Shared} (h : SP (X.wish E) pins D f s') : SP X pins D f s' := by
  cases f with
  | next => obtain ⟨σ', H', I, q⟩ := h; exact ⟨σ', H', I.unwish, q⟩
  | brk => obtain ⟨σ', H', I, q⟩ := h; exact ⟨σ', H', I.unwish, q⟩
  | cont => obtain ⟨σ', H', I, q⟩ := h; exact ⟨σ', H', I.unwish, q⟩
  | ret u => obtain ⟨v, σ', H', I, r, q⟩ := h; exact ⟨v, σ', H', I.unwish, r, q⟩
theorem PSs.nox {st : List Stmt} {t : TS} (h : PSs X.nox st t) : PSs X st t := fun pins s σ H D I hw =>
  wpAny_mono (h pins s σ H D (I.wish _) hw) (fun _ _ q => q.unwish) fun _ _ z => False.elim z
end
section
variable {X : Cx} {st : Stmt} {rest : List Stmt} {t u : TS} {e : Expr} {te : TE} {pos : Pos}
def tNext : TS := fun D σ H => D.nx σ H
def tSeq (t u : TS) : TS := fun D σ H => t { D with nx := u D } σ H
theorem pss_nil : PSs X [] tNext := fun _ _ σ H _ I h => wpAny_execs_nil ⟨σ, H, I, h⟩
theorem pss_cons (h1 : PS X st t) (h2 : PSs X rest u) : PSs X (st :: rest) (tSeq t u) := by
  intro pins s σ H D I h
  refine wpAny_execs_cons (thn (h1 pins s σ H { D with nx := u D } I h) fun f s1 q => ?_)
  cases f with
  | next =>
    obtain ⟨σ', H', I', q⟩ := q
    exact h2 pins s1 σ' H' D I' q
  | ret v => exact q
  | brk => exact q
  | cont => exact q
theorem pss_one (h1 : PS X st t) : PSs X [st] t := by
  intro pins s σ H D I h
  refine wpAny_execs_cons (thn (h1 pins s σ H D I h) fun f s1 q => ?_)
  cases f with
  | next => exact wpAny_execs_nil q
  | ret v => exact q
  | brk => exact q
  | cont => exact q
theorem Inv.quiet {pins : List (Addr × Obj)} {σ : St} {H : Hp} {s : Shared} (I : Inv X pins σ H s) : interactive X.env = false := by simp [interactive, I.ok.kind]
def tDrop (te : TE) : TS := fun D σ H => te σ H fun _ H1 => D.nx σ H1
theorem ps_expr (he : PE X e te) (hs : swapsWith e none pos.line X.env = pure false := by rfl) : PS X (.Expr e pos) (tDrop te) := by
  intro pins s σ H D I h
  exact wpAny_Expr_any (thn (he pins s σ H _ I h) fun v s1 ⟨x, H1, I1, r1, q1⟩ => ⟨σ, H1, I1, q1⟩) I.quiet hs
def tRet (te : TE) : TS := fun D σ H => te σ H D.rt
theorem ps_ret (he : PE X e te) : PS X (.Return (some e) pos) (tRet te) := by
  intro pins s σ H D I h
  exact wpAny_Return_some (thn (he pins s σ H _ I h) fun v s1 ⟨x, H1, I1, r1, q1⟩ => ⟨x, σ, H1, I1, r1, q1⟩)
def tIfS (c : TT) (t u : TS) : TS := fun D σ H => c σ H fun b H1 => if b = true then t D σ H1 else u D σ H1
theorem ps_if {c : Expr} {a b : List Stmt} {tc : TT} (hc : PT X c tc) (ha : PSs X a t) (hb : PSs X b u) : PS X (.If c a b pos) (tIfS tc t u) := by
  intro pins s σ H D I h
  refine wpAny_If (thn (hc pins s σ H _ I h) fun d s1 ⟨H1, I1, q1⟩ => ?_)
  cases d with
  | true => exact ha pins s1 σ H1 D I1 q1
  | false => exact hb pins s1 σ H1 D I1 q1
end
abbrev TG := V → St → Hp → (St → Hp → Prop) → Prop
abbrev TGs := List V → St → Hp → (St → Hp → Prop) → Prop
def PG (X : Cx) (target : Expr) (t : TG) : Prop :=
  ∀ (pins : List (Addr × Obj)) (s : Shared) (σ : St) (H : Hp) (v : V) (u : Value) (Q : St → Hp → Prop), Inv X pins σ H s → RelV v u → t v σ H Q →
    wpAny (model X.prog X.w) X.A (assign target X.env u) (fun _ s' => ∃ σ' H', Inv X pins σ' H' s' ∧ Q σ' H') X.xe s
def PGs (X : Cx) (ts : List Expr) (t : TGs) : Prop :=
  ∀ (pins : List (Addr × Obj)) (s : Shared) (σ : St) (H : Hp) (vs : List V) (us : List Value) (Q : St → Hp → Prop), Inv X pins σ H s → Vals vs us → t vs σ H Q →
    wpAny (model X.prog X.w) X.A (assignInOrder ((assignEach ts X.env).map (·.2)) us) (fun _ s' => ∃ σ' H', Inv X pins σ' H' s' ∧ Q σ' H') X.xe s
section
variable {X : Cx} {pos : Pos}
def gName (i : Nat) : TG := fun v σ H Q => Q (σ.set i (some v)) H
theorem pg_name {i : Nat} {x : Str} (hN : X.N.Nodup) (hi : X.N[i]? = some x) (hx : Loc X.env.scope x) (hf : X.fn x = true ∨ X.env.scope.names.lookup x = some .local := by first | exact .inl rfl | exact .inr rfl | assumption) : PG X (.Name x pos) (gName i) := by
  intro pins s σ H v u Q I r h
  exact wpAny_assign_Name (store_ok I hN hi hx r (fun s' I' => ⟨_, H, I', h⟩) hf)
def gNil : TGs := fun vs σ H Q => vs = [] ∧ Q σ H
def gCons (t : TG) (u : TGs) : TGs := fun vs σ H Q => ∃ v r, vs = v :: r ∧ t v σ H fun σ' H' => u r σ' H' Q
theorem pgs_nil : PGs X [] gNil := by
  intro pins s σ H vs us Q I r h
  obtain ⟨e, h⟩ := h
  subst e
  cases r
  exact assignInOrder_nil ⟨σ, H, I, h⟩
theorem pgs_cons {e : Expr} {es : List Expr} {t : TG} {u : TGs} (h1 : PG X e t) (h2 : PGs X es u)
    (hs : (assignEach (e :: es) X.env).map (·.2) = assign e X.env :: (assignEach es X.env).map (·.2) := by rfl) : PGs X (e :: es) (gCons t u) := by
  intro pins s σ H vs us Q I r h
  obtain ⟨v, vr, e1, h⟩ := h
  subst e1
  cases r with
  | cons r rr =>
    rw [hs]
    refine assignInOrder_cons (thn (h1 pins s σ H _ _ _ I r h) fun _ s1 ⟨σ1, H1, I1, q1⟩ => ?_)
    exact h2 pins s1 σ1 H1 _ _ Q I1 rr q1
def gTup (K : PySem.W.Frag) (n : Nat) (t : TGs) : TG := fun v σ H Q => ∃ a xs, v = .ref a ∧ SqT K H a xs ∧ xs.length = n ∧ t xs σ H Q
theorem pg_tup {es : List Expr} {k : Nat} {t : TGs} {n : Nat} (hc : X.calm = true) (h : PGs X es t)
    (hn : (assignEach es X.env).length = n := by rfl) (hst : (assignEach es X.env).findIdx? (·.1) = none := by rfl) : PG X (.Tuple es k pos) (gTup X.K n t) := by
  intro pins s σ H v u Q I r hw
  obtain ⟨a, xs, e1, hq, hl, hw⟩ := hw
  subst e1
  cases r
  obtain ⟨its, rv, ht, hz⟩ := I.tuple hq
  refine assign_Tuple_tuple (I.ok.hd hc) ht (by simp [hn, ← hl, rv.length]) hst fun h' hx => ?_
  have I1 : Inv X pins σ H { s with heap := h' } := I.kept (t' := s.toks) fun b o e => hx b o (Nat.ne_of_lt (Heap.lt_size e)) e
  exact h pins _ σ H xs _ Q I1 (by simpa using rv) hw
def tAsg (te : TE) (g : TG) : TS := fun D σ H => te σ H fun x H1 => g x σ H1 D.nx
theorem ps_set {i : Nat} {x : Str} {e : Expr} {te : TE} {pos' : Pos} (hN : X.N.Nodup) (hi : X.N[i]? = some x) (hx : Loc X.env.scope x) (he : PE X e te) (hs : swapsWith e (some (.Name x pos')) pos.line X.env = pure false := by rfl) (hf : X.fn x = true ∨ X.env.scope.names.lookup x = some .local := by first | exact .inl rfl | exact .inr rfl | assumption) :
    PS X (.Assign [.Name x pos'] e pos) (tAsg te (gName i)) := by
  intro pins s σ H D I h
  refine wpAny_Assign_Name (thn (he pins s σ H _ I h) fun v s1 ⟨y, H1, I1, r1, q1⟩ => ?_) hs
  exact store_ok I1 hN hi hx r1 (fun s2 I2 => ⟨_, H1, I2, q1⟩) hf
end
structure It where
  go : Nat → Hp → Prop
  yld : Nat → Hp → V → Hp → Prop
  stop : Nat → Hp → Prop
def FpOk (X : Cx) (pins : List (Addr × Obj)) (H : Hp) (b : Addr) : Prop :=
  H b = none ∧ b ≠ X.env.locals ∧ b ∉ X.fs ∧ (b ∈ X.ex ∨ X.s₀.heap.objs.size ≤ b) ∧ (∀ x c, X.env.cells.lookup x = some c → c ≠ b) ∧ ∀ p ∈ X.pn ++ pins, p.1 ≠ b
theorem Inv.fpOk {X : Cx} {pins : List (Addr × Obj)} {σ : St} {H H' : Hp} {s : Shared} {b : Addr} (I : Inv X pins σ H s) (hb : s.heap.objs.size ≤ b) (hn : H' b = none) : FpOk X pins H' b := by
  refine ⟨hn, Nat.ne_of_gt (Nat.lt_of_lt_of_le I.lt hb), I.nofs hb, .inr (Nat.le_trans I.sz hb), fun x c e z => ?_, fun p hp z => ?_⟩
  · obtain ⟨v, q⟩ := I.cell x c e
    exact absurd (Nat.lt_of_lt_of_le q.lt (by rw [z]; exact hb)) (Nat.lt_irrefl _)
  · exact absurd (Nat.lt_of_lt_of_le (Heap.lt_size (I.pin p hp).1) (by rw [z]; exact hb)) (Nat.lt_irrefl _)
structure Turn (P : Program) (w : World) (K : PySem.W.Frag) (tg : Expr) (J : It) (fp : List Addr) (it : Addr) (tn : Nat → Heap → Prop) : Prop where
  mem : it ∈ fp
  obj : ∀ i h, tn i h → ∀ b ∈ fp, ∃ o, h.get? b = some o ∧ ∀ v, o.data ≠ .cell v
  keep : ∀ i h h', tn i h → (∀ b ∈ fp, ∀ o, h.get? b = some o → h'.get? b = some o) → tn i h'
  item : ∀ (X : Cx), X.prog = P → X.w = w → X.K = K → X.calm = true → ∀ (i : Nat) (pins : List (Addr × Obj)) (s : Shared) (σ : St) (H : Hp) (E : Value → Shared → Prop), Inv X pins σ H s → (∀ b ∈ fp, FpOk X pins H b) → tn i s.heap → J.go i H →
    wpAny (model P w) X.A (pyNext (.ref it)) (fun r s1 => ∃ u, r = some u ∧
      wpAny (model P w) X.A (letOwnedTupleGo tg (.ref it) u) (fun _ s2 => ∃ x H', Inv X pins σ H' s2 ∧ RelV x u ∧ J.yld i H x H' ∧ tn (i + 1) s2.heap ∧ ∀ b ∈ fp, H' b = none) E s1) E s
  done : ∀ (X : Cx), X.prog = P → X.w = w → X.K = K → X.calm = true → ∀ (i : Nat) (pins : List (Addr × Obj)) (s : Shared) (σ : St) (H : Hp) (E : Value → Shared → Prop), Inv X pins σ H s → (∀ b ∈ fp, FpOk X pins H b) → tn i s.heap → J.stop i H →
    wpAny (model P w) X.A (pyNext (.ref it)) (fun r s1 => r = none ∧ Inv X pins σ H s1) E s
  self : ∀ (A : Around) (i : Nat) (s : Shared) (Q : Value → Shared → Prop) (E : Value → Shared → Prop), tn i s.heap → Q (.ref it) s → wpAny (model P w) A (pyIter (.ref it)) Q E s
abbrev TI := St → Hp → (It → Hp → Prop) → Prop
def PIE (X : Cx) (pins : List (Addr × Obj)) (σ : St) (tg : Expr) (R : It → Hp → Prop) (itv : Value) (s2 : Shared) : Prop :=
  ∃ (it : Addr) (fp : List Addr) (tn : Nat → Heap → Prop) (J : It) (H' : Hp), itv = .ref it ∧ Inv X pins σ H' s2 ∧ Turn X.prog X.w X.K tg J fp it tn ∧ tn 0 s2.heap ∧ (∀ b ∈ fp, FpOk X pins H' b) ∧ R J H'
def PI (X : Cx) (tg iter : Expr) (wi : TI) : Prop :=
  ∀ (pins : List (Addr × Obj)) (s : Shared) (σ : St) (H : Hp) (R : It → Hp → Prop), Inv X pins σ H s → wi σ H R →
    wpAny (model X.prog X.w) X.A (eval iter X.env) (fun v s1 => wpAny (model X.prog X.w) X.A (pyIter v) (PIE X pins σ tg R) X.xe s1) X.xe s
theorem go_of {M : Model} {A : Around} {E : Value → Shared → Prop} {s : Shared} {tg : Expr} {it : Addr} {u : Value} {o : Obj} {n : String} {vs : Array Value} {Q : Unit → Shared → Prop} (ho : s.heap.get? it = some o) (hc : o.cls = .type n) (hd : o.data = .fields vs)
    (hn : ["enumerate", "zip", "dict_itemiterator", "dict_reverseitemiterator", "odict_iterator", "itertools.zip_longest", "itertools.pairwise"].contains n = false) (hQ : Q () s) : wpAny M A (letOwnedTupleGo tg (.ref it) u) Q E s := by
  unfold letOwnedTupleGo
  cases tg <;> first
    | exact wpAny_pure hQ
    | (cases u <;> first
        | exact wpAny_pure hQ
        | (refine wpAny_bind (wpAny_load ho ?_)
           rw [hc, hd]
           show wpAny M A (if (["enumerate", "zip", "dict_itemiterator", "dict_reverseitemiterator", "odict_iterator", "itertools.zip_longest", "itertools.pairwise"].contains n && vs[0]? == some (rawInt _)) = true then _ else _) Q E s
           rw [if_neg (by intro h; rw [hn, Bool.false_and] at h; cases h)]
           exact wpAny_pure hQ))
def Itl (K : PySem.W.Frag) (a : Addr) : It :=
  ⟨fun i H => ∃ xs x, SqL K H a xs ∧ xs[i]? = some x, fun i H x H' => H' = H ∧ ∀ xs, SqL K H a xs → xs[i]? = some x, fun i H => ∃ xs, SqL K H a xs ∧ xs.length ≤ i⟩
def Itt (K : PySem.W.Frag) (a : Addr) : It :=
  ⟨fun i H => ∃ xs x, SqT K H a xs ∧ xs[i]? = some x, fun i H x H' => H' = H ∧ ∀ xs, SqT K H a xs → xs[i]? = some x, fun i H => ∃ xs, SqT K H a xs ∧ xs.length ≤ i⟩
def Itr (lo : Int) (n : Nat) : It := ⟨fun i _ => i < n, fun i H x H' => H' = H ∧ x = .int (lo + i), fun i _ => n ≤ i⟩
theorem turn_list {P : Program} {w : World} {K : PySem.W.Frag} {tg : Expr} (a it : Addr) : Turn P w K tg (Itl K a) [it] it (fun i h => h.IsListIter it a i) where
  mem := by simp
  obj := fun i h st b hb => by
    have e : b = it := by simpa using hb
    subst e
    obtain ⟨o, e, c, d⟩ := st
    exact ⟨o, e, fun v z => by rw [d] at z; cases z⟩
  keep := fun i h h' st k => st.at fun o e => k it (by simp) o e
  item := by
    intro X hP hw hK hc i pins s σ H E I hf st hg
    subst hP hw hK
    obtain ⟨xs, x, hq, hx⟩ := hg
    obtain ⟨its, rv, p, hz⟩ := I.list hq
    obtain ⟨u, hu, ru⟩ := rv.get hx
    obtain ⟨f0, f1, f2, f3, f4, f5⟩ := hf it (by simp)
    refine wpAny_pyNext_list_item st p.isList (x := u) (by simpa using hu) fun h' st' sb => ?_
    have I1 : Inv X pins σ H { s with heap := h' } := I.turned (t' := s.toks) (fun b o hb e => (sb.2 b hb).trans e) f0 f1 f3 f4 f5
    obtain ⟨o, e, c, d⟩ := id st'
    exact ⟨u, rfl, go_of (s := { s with heap := h' }) e c d (by decide) ⟨x, H, I1, ru, ⟨rfl, fun ys hy => by rw [I.list_inj hy hq]; exact hx⟩, st', fun b hb => (hf b hb).1⟩⟩
  done := by
    intro X hP hw hK hc i pins s σ H E I hf st hg
    subst hP hw hK
    obtain ⟨xs, hq, hx⟩ := hg
    obtain ⟨its, rv, p, hz⟩ := I.list hq
    obtain ⟨f0, f1, f2, f3, f4, f5⟩ := hf it (by simp)
    have hl := rv.length
    exact wpAny_pyNext_list_end (I.ok.hd hc) st p.isList (by simp; omega) fun h' eb => ⟨rfl, I.turned (t' := s.toks) (fun b o hb e => eb b o hb e) f0 f1 f3 f4 f5⟩
  self := fun _ _ _ _ _ st h => wpAny_pyIter_listiter st h
theorem turn_tuple {P : Program} {w : World} {K : PySem.W.Frag} {tg : Expr} (a it : Addr) : Turn P w K tg (Itt K a) [it] it (fun i h => h.IsTupleIter it a i) where
  mem := by simp
  obj := fun i h st b hb => by
    have e : b = it := by simpa using hb
    subst e
    obtain ⟨o, e, c, d⟩ := st
    exact ⟨o, e, fun v z => by rw [d] at z; cases z⟩
  keep := fun i h h' st k => st.at fun o e => k it (by simp) o e
  item := by
    intro X hP hw hK hc i pins s σ H E I hf st hg
    subst hP hw hK
    obtain ⟨xs, x, hq, hx⟩ := hg
    obtain ⟨its, rv, p, hz⟩ := I.tuple hq
    obtain ⟨u, hu, ru⟩ := rv.get hx
    obtain ⟨f0, f1, f2, f3, f4, f5⟩ := hf it (by simp)
    refine wpAny_pyNext_tuple_item st (show s.heap.IsTuple a its.toArray from p) (x := u) (by simpa using hu) fun h' st' sb => ?_
    have I1 : Inv X pins σ H { s with heap := h' } := I.turned (t' := s.toks) (fun b o hb e => (sb.2 b hb).trans e) f0 f1 f3 f4 f5
    obtain ⟨o, e, c, d⟩ := id st'
    exact ⟨u, rfl, go_of (s := { s with heap := h' }) e c d (by decide) ⟨x, H, I1, ru, ⟨rfl, fun ys hy => by rw [I.tuple_inj hy hq]; exact hx⟩, st', fun b hb => (hf b hb).1⟩⟩
  done := by
    intro X hP hw hK hc i pins s σ H E I hf st hg
    subst hP hw hK
    obtain ⟨xs, hq, hx⟩ := hg
    obtain ⟨its, rv, p, hz⟩ := I.tuple hq
    obtain ⟨f0, f1, f2, f3, f4, f5⟩ := hf it (by simp)
    have hl := rv.length
    exact wpAny_pyNext_tuple_end (I.ok.hd hc) st (show s.heap.IsTuple a its.toArray from p) (by simp; omega) fun h' eb => ⟨rfl, I.turned (t' := s.toks) (fun b o hb e => eb b o hb e) f0 f1 f3 f4 f5⟩
  self := fun _ _ _ _ _ st h => wpAny_pyIter_tupleiter st h
theorem turn_range {P : Program} {w : World} {K : PySem.W.Frag} {tg : Expr} (it : Addr) (lo : Int) (n : Nat) : Turn P w K tg (Itr lo n) [it] it (fun i h => IsRangeIter h it (lo + (i : Nat) * 1) ((n : Int) - (i : Nat)) 1) where
  mem := by simp
  obj := fun i h st b hb => by
    have e : b = it := by simpa using hb
    subst e
    exact ⟨_, st, fun v z => by
      have z' : Data.fields _ = Data.cell v := z
      cases z'⟩
  keep := fun i h h' st k => k it (by simp) _ st
  item := by
    intro X hP hw hK hc i pins s σ H E I hf st hg
    subst hP hw hK
    obtain ⟨f0, f1, f2, f3, f4, f5⟩ := hf it (by simp)
    have W := Walks.range (prog := X.prog) (w := X.w) (I.ok.hd hc) it lo 1 n
    refine W.item i s _ _ hg st fun v h' tk hv st' kk => ?_
    obtain ⟨t, rfl⟩ := hv
    have I1 : Inv X pins σ H { s with heap := h', toks := tk } := I.turned (fun b o hb e => kk b o (by simpa using hb) e) f0 f1 f3 f4 f5
    refine ⟨_, rfl, go_of (s := { s with heap := h', toks := tk }) (n := "range_iterator") st' rfl rfl (by decide) ⟨.int (lo + i), H, I1, ⟨t, ?_⟩, ⟨rfl, rfl⟩, st', fun b hb => (hf b hb).1⟩⟩
    rw [Int.mul_one]
  done := by
    intro X hP hw hK hc i pins s σ H E I hf st hg
    subst hP hw hK
    obtain ⟨f0, f1, f2, f3, f4, f5⟩ := hf it (by simp)
    exact wpAny_pyNext_range_end (I.ok.hd hc) st (by have : n ≤ i := hg; omega) fun h' eb => ⟨rfl, I.turned (t' := s.toks) (fun b o hb e => eb b o hb e) f0 f1 f3 f4 f5⟩
  self := fun _ _ _ _ _ st h => wpAny_pyIter_rangeiter st h
end L2
namespace L2
open PySem PySem.Spec PyProof.Rows
section
variable {X : Cx} {tg : Expr}
def iList (K : PySem.W.Frag) (tl : TE) : TI := fun σ H R => tl σ H fun x H1 => ∃ a, x = .ref a ∧ (∃ xs, SqL K H1 a xs) ∧ R (Itl K a) H1
def iTup (K : PySem.W.Frag) (tl : TE) : TI := fun σ H R => tl σ H fun x H1 => ∃ a, x = .ref a ∧ (∃ xs, SqT K H1 a xs) ∧ R (Itt K a) H1
theorem pi_list {l : Expr} {tl : TE} (hl : PE X l tl) : PI X tg l (iList X.K tl) := by
  intro pins s σ H R I h
  refine thn (hl pins s σ H _ I h) fun v s1 ⟨x, H1, I1, r1, q1⟩ => ?_
  obtain ⟨a, e, ⟨xs, hq⟩, q⟩ := q1
  subst e
  cases r1
  obtain ⟨its, rv, p, hz⟩ := I1.list hq
  refine wpAny_pyIter_list p.isList ?_
  refine ⟨s1.heap.objs.size, [s1.heap.objs.size], _, _, H1, rfl, I1.kept (t' := s1.toks) fun b o e => Heap.get?_push_of_some _ e, turn_list a _, ⟨_, Heap.get?_push_size _ rfl, rfl, rfl⟩, fun b hb => ?_, q⟩
  have e : b = s1.heap.objs.size := by simpa using hb
  subst e
  exact I1.fpOk (Nat.le_refl _) (I1.hok.fresh (Nat.le_refl _))
theorem pi_tup {l : Expr} {tl : TE} (hl : PE X l tl) : PI X tg l (iTup X.K tl) := by
  intro pins s σ H R I h
  refine thn (hl pins s σ H _ I h) fun v s1 ⟨x, H1, I1, r1, q1⟩ => ?_
  obtain ⟨a, e, ⟨xs, hq⟩, q⟩ := q1
  subst e
  cases r1
  obtain ⟨its, rv, p, hz⟩ := I1.tuple hq
  refine wpAny_pyIter_tuple (show s1.heap.IsTuple a its.toArray from p) ?_
  refine ⟨s1.heap.objs.size, [s1.heap.objs.size], _, _, H1, rfl, I1.kept (t' := s1.toks) fun b o e => Heap.get?_push_of_some _ e, turn_tuple a _, ⟨_, Heap.get?_push_size _ rfl, rfl, rfl⟩, fun b hb => ?_, q⟩
  have e : b = s1.heap.objs.size := by simpa using hb
  subst e
  exact I1.fpOk (Nat.le_refl _) (I1.hok.fresh (Nat.le_refl _))
theorem range_it {pins : List (Addr × Obj)} {σ : St} {H : Hp} {s : Shared} {R : It → Hp → Prop} {E : Value → Shared → Prop} {lo hi : Int} {t u v : Tok} {tk : Nat} (I : Inv X pins σ H s) (h1 : -(2 ^ 62) ≤ lo) (h2 : lo < 2 ^ 62) (h3 : -(2 ^ 62) ≤ hi) (h4 : hi < 2 ^ 62)
    (q : R (Itr lo (hi - lo).toNat) H) : wpAny (model X.prog X.w) X.A (pyIter (.ref s.heap.objs.size)) (PIE X pins σ tg R) E { s with heap := s.heap.push { cls := .type "range", data := .fields #[.int lo t, .int hi u, .int 1 v] }, toks := tk } := by
  refine wpAny_pyIter_range (IsRange.new ..) (small_one h1 h2 h3 h4) ?_
  have I1 : Inv X pins σ H { s with heap := s.heap.push { cls := .type "range", data := .fields #[.int lo t, .int hi u, .int 1 v] }, toks := tk } := I.kept fun b o e => Heap.get?_push_of_some _ e
  refine ⟨(s.heap.push { cls := .type "range", data := .fields #[.int lo t, .int hi u, .int 1 v] }).objs.size, [(s.heap.push { cls := .type "range", data := .fields #[.int lo t, .int hi u, .int 1 v] }).objs.size], _, _, H, rfl,
    I1.kept (t' := tk) fun b o e => Heap.get?_push_of_some _ e, turn_range _ lo (hi - lo).toNat, ?_, fun b hb => ?_, q⟩
  · have e1 : lo + ((0 : Nat) : Int) * 1 = lo := by simp
    have e2 : (((hi - lo).toNat : Nat) : Int) - ((0 : Nat) : Int) = Builtin.Range.rangeSize lo hi 1 := by rw [rangeSize_one]; split <;> omega
    show IsRangeIter _ _ (lo + ((0 : Nat) : Int) * 1) ((((hi - lo).toNat : Nat) : Int) - ((0 : Nat) : Int)) 1
    rw [e1, e2]
    exact Heap.get?_push_size _ rfl
  · have e : b = (s.heap.push { cls := .type "range", data := .fields #[.int lo t, .int hi u, .int 1 v] }).objs.size := by simpa using hb
    subst e
    exact I1.fpOk (Nat.le_refl _) (I1.hok.fresh (Nat.le_refl _))
def iRng1 (ta : TA) : TI := fun σ H R => ta σ H fun vs H1 => ∃ j : Int, vs = [.int j] ∧ -(2 ^ 62) ≤ j ∧ j < 2 ^ 62 ∧ R (Itr 0 j.toNat) H1
theorem pi_range1 {a : Expr} {ta : TA} {p pos : Pos} (hg : Gl X "range") (hm : X.mg "range" = none) (ha : PA X [a] ta) (hs : starEach [a] X.env = [(false, eval a X.env)] := by rfl) : PI X tg (.Call (.Name "range" p) [a] [] pos) (iRng1 ta) := by
  intro pins s σ H R I h
  refine Call_ (ld_blt I hg hm boot_range (PyProof.Rows.callWith_type1 (thn (ha pos pins s σ H _ I h) fun us s1 ⟨vs, H1, I1, r1, q1⟩ => ?_) hs rfl))
  obtain ⟨j, e, q1, q2, q⟩ := q1
  subst e
  cases r1 with
  | cons r rr =>
    cases rr
    obtain ⟨t, rfl⟩ := r
    exact call_range_1 (range_it I1 (by omega) (by omega) q1 q2 (by simpa using q))
def tFor (wi : TI) (g : TG) (tb : TS) : TS := fun D σ H => wi σ H fun J H1 => ∃ W : Nat → Nat → St → Hp → Prop, (∃ m, W 0 m σ H1) ∧ ∀ i m σ H, W i m σ H →
  (J.stop i H ∧ D.nx σ H) ∨ (J.go i H ∧ ∃ N : St → Hp → Prop, (∀ σ' H', N σ' H' → ∃ m', m' < m ∧ W (i + 1) m' σ' H') ∧ ∀ x H', J.yld i H x H' → g x σ H' fun σ2 H2 => tb { D with nx := N, ct := N, bk := D.nx } σ2 H2)
def pinsAt (fp : List Addr) (h : Heap) : List (Addr × Obj) := fp.filterMap fun b => (h.get? b).map fun o => (b, o)
theorem mem_pinsAt {fp : List Addr} {h : Heap} {b : Addr} {o : Obj} (hb : b ∈ fp) (e : h.get? b = some o) : (b, o) ∈ pinsAt fp h := List.mem_filterMap.mpr ⟨b, hb, by rw [e]; rfl⟩
theorem of_pinsAt {fp : List Addr} {h : Heap} {p : Addr × Obj} (hp : p ∈ pinsAt fp h) : p.1 ∈ fp ∧ h.get? p.1 = some p.2 := by
  obtain ⟨b, hb, e⟩ := List.mem_filterMap.mp hp
  cases q : h.get? b with
  | none => rw [q] at e; cases e
  | some o =>
    rw [q] at e
    have e' : (b, o) = p := Option.some.inj e
    subst e'
    exact ⟨hb, q⟩
theorem Inv.pinned {pins : List (Addr × Obj)} {σ : St} {H : Hp} {s : Shared} {fp : List Addr} (I : Inv X pins σ H s) (hf : ∀ b ∈ fp, FpOk X pins H b) (ho : ∀ b ∈ fp, ∃ o, s.heap.get? b = some o ∧ ∀ v, o.data ≠ .cell v) : Inv X (pins ++ pinsAt fp s.heap) σ H s :=
  I.pins_of fun p hp => (List.mem_append.mp hp).elim (fun z => I.pin p (List.mem_append_right _ z)) fun z => by
    obtain ⟨hb, e⟩ := of_pinsAt z
    obtain ⟨f0, f1, f2, _⟩ := hf p.1 hb
    obtain ⟨o, e', d⟩ := ho p.1 hb
    rw [e] at e'; cases e'
    exact ⟨e, f0, f1, f2, d⟩
theorem Inv.unpinned {pins pl : List (Addr × Obj)} {σ : St} {H : Hp} {s : Shared} (I : Inv X (pins ++ pl) σ H s) : Inv X pins σ H s := I.pins_of fun p hp => I.pin p (List.mem_append_right _ (List.mem_append_left _ hp))
theorem ps_for {iter : Expr} {body : List Stmt} {wi : TI} {g : TG} {tb : TS} {pos : Pos} (hp : PassesOwn (model X.prog X.w) X.A X.env X.xe) (hc : X.calm = true) (hi : PI X tg iter wi) (hg : PG X tg g) (hb : PSs X body tb)
    (hs : ∀ x, foldedSetIterable iter X.env x = pure x := by intro _; rfl) : PS X (.For tg iter body [] pos) (tFor wi g tb) := by
  intro pins s σ H D I h
  refine wpAny_For (thn (hi pins s σ H _ I h) fun v s1 h1 => thn h1 fun itv s2 h2 => ?_) hs
  obtain ⟨it, fp, tn, J, H2, e, I2, T, st2, f2, W, ⟨m0, w0⟩, turn⟩ := h2
  subst e
  have stat : ∀ {H' : Hp}, (∀ b ∈ fp, H' b = none) → ∀ b ∈ fp, FpOk X pins H' b := fun hn b hb => ⟨hn b hb, (f2 b hb).2⟩
  refine codeAny_forLoop_any (fun n s' => ∃ i σ' H', Inv X pins σ' H' s' ∧ tn i s'.heap ∧ (∀ b ∈ fp, H' b = none) ∧ W i n σ' H') ?_ m0 ⟨0, σ, H2, I2, st2, fun b hb => (f2 b hb).1, w0⟩
  rintro n s3 ⟨i, σ3, H3, I3, st3, fr3, w3⟩
  rcases turn i n σ3 H3 w3 with ⟨stop, qn⟩ | ⟨go, N, hN, step⟩
  · refine wpAny_passesOwn hp (thn (T.done X rfl rfl rfl hc i pins s3 σ3 H3 X.xe I3 (stat fr3) st3 stop) fun r s4 ⟨hr, I4⟩ => ?_)
    subst hr
    exact wpAny_execs_nil ⟨σ3, H3, I4, qn⟩
  · refine wpAny_passesOwn hp (thn (T.item X rfl rfl rfl hc i pins s3 σ3 H3 X.xe I3 (stat fr3) st3 go) fun r s4 ⟨u, hr, h4⟩ => ?_)
    subst hr
    refine wpAny_passesOwn hp (thn h4 fun _ s5 ⟨x, H5, I5, r5, y5, st5, fr5⟩ => ?_)
    have I5' := I5.pinned (stat fr5) (T.obj _ _ st5)
    refine wpAny_passesOwn hp (thn (hg _ s5 σ3 H5 x u _ I5' r5 (step x H5 y5)) fun _ s6 ⟨σ6, H6, I6, q6⟩ => ?_)
    refine wpAny_passesOwn hp (thn (hb _ s6 σ6 H6 _ I6 q6) fun f s7 q7 => ?_)
    have again : ∀ {σ7 : St} {H7 : Hp}, Inv X (pins ++ pinsAt fp s5.heap) σ7 H7 s7 → N σ7 H7 → ∃ m, m < n ∧ ∃ i σ' H', Inv X pins σ' H' s7 ∧ tn i s7.heap ∧ (∀ b ∈ fp, H' b = none) ∧ W i m σ' H' := fun {σ7 H7} I7 n7 => by
      obtain ⟨m', hm, w7⟩ := hN σ7 H7 n7
      refine ⟨m', hm, i + 1, σ7, H7, I7.unpinned, T.keep _ _ _ st5 fun b hb o e => (I7.pin (b, o) (List.mem_append_right _ (List.mem_append_right _ (mem_pinsAt hb e)))).1, fun b hb => ?_, w7⟩
      obtain ⟨o, e, d⟩ := T.obj _ _ st5 b hb
      exact (I7.pin (b, o) (List.mem_append_right _ (List.mem_append_right _ (mem_pinsAt hb e)))).2.1
    cases f with
    | next => obtain ⟨σ7, H7, I7, n7⟩ := q7; exact again I7 n7
    | cont => obtain ⟨σ7, H7, I7, n7⟩ := q7; exact again I7 n7
    | brk => obtain ⟨σ7, H7, I7, q7⟩ := q7; exact ⟨σ7, H7, I7.unpinned, q7⟩
    | ret v => obtain ⟨x7, σ7, H7, I7, r7, q7⟩ := q7; exact ⟨x7, σ7, H7, I7.unpinned, r7, q7⟩
end
end L2
namespace L2
open PySem PySem.Spec PyProof.Rows
abbrev R2 := V → V → Hp → VK → Prop
def OpR (X : Cx) (f : Value → Value → Sem Value) (r : R2) : Prop :=
  ∀ (pins : List (Addr × Obj)) (s : Shared) (σ : St) (H : Hp) (x y : V) (v u : Value) (Q : VK), Inv X pins σ H s → RelV x v → RelV y u → r x y H Q →
    wpAny (model X.prog X.w) X.A (f v u) (EP X pins σ Q) X.xe s
def CallR (X : Cx) (f : Value) (r : List V → Hp → VK → Prop) : Prop :=
  ∀ (pins : List (Addr × Obj)) (s : Shared) (σ : St) (H : Hp) (xs : List V) (us : List Value) (Q : VK), Inv X pins σ H s → Vals xs us → r xs H Q →
    wpAny (model X.prog X.w) X.A (call f us) (EP X pins σ Q) X.xe s
def tOp (r : R2) (ta tb : TE) : TE := fun σ H Q => ta σ H fun x H1 => tb σ H1 fun y H2 => r x y H2 Q
def rI (C : Int → Int → Prop) (g : Int → Int → V) : R2 := fun x y H Q => ∃ i j, x = .int i ∧ y = .int j ∧ C i j ∧ Q (g i j) H
def rI0 (g : Int → Int → V) : R2 := fun x y H Q => ∃ i j, x = .int i ∧ y = .int j ∧ Q (g i j) H
section
variable {X : Cx} {a b c : Expr} {ta tb tc : TE} {pos : Pos}
theorem binT (ha : PE X a ta) (hb : PE X b tb) {pins : List (Addr × Obj)} {s : Shared} {σ : St} {H : Hp} {R : V → V → Hp → Prop} (I : Inv X pins σ H s)
    (h : ta σ H fun x H1 => tb σ H1 fun y H2 => R x y H2) {Q : Value → Shared → Prop} {f : Value → Value → Sem Value}
    (hf : ∀ v u s2 x y H2, Inv X pins σ H2 s2 → RelV x v → RelV y u → R x y H2 → wpAny (model X.prog X.w) X.A (f v u) Q X.xe s2) :
    wpAny (model X.prog X.w) X.A (eval a X.env) (fun v s₁ => wpAny (model X.prog X.w) X.A (eval b X.env) (fun u s₂ => wpAny (model X.prog X.w) X.A (f v u) Q X.xe s₂) X.xe s₁) X.xe s := by
  refine thn (ha pins s σ H _ I h) fun v s1 ⟨x, H1, I1, r1, q1⟩ => ?_
  refine thn (hb pins s1 σ H1 _ I1 q1) fun u s2 ⟨y, H2, I2, r2, q2⟩ => ?_
  exact hf v u s2 x y H2 I2 r1 r2 q2
theorem pe_op {op : Operator} {r : R2} (ho : OpR X (binaryOp op) r) (ha : PE X a ta) (hb : PE X b tb) : PE X (.BinOp a op b pos) (tOp r ta tb) := by
  intro pins s σ H Q I h
  exact wpAny_BinOp (binT ha hb I h fun v u s2 x y H2 I2 rx ry q => ho pins s2 σ H2 x y v u Q I2 rx ry q)
theorem opI {f : Value → Value → Sem Value} {C : Int → Int → Prop} {g : Int → Int → Int}
    (rule : ∀ (i j : Int) (t u : Tok) (s : Shared) (Q : Value → Shared → Prop) (E : Value → Shared → Prop), C i j → Q (.int (g i j) s.toks) { s with toks := s.toks + 1 } → wpAny (model X.prog X.w) X.A (f (.int i t) (.int j u)) Q E s) :
    OpR X f (rI C fun i j => .int (g i j)) := by
  intro pins s σ H x y v u Q I rx ry h
  obtain ⟨i, j, rfl, rfl, hc, q⟩ := h
  obtain ⟨t, rfl⟩ := rx
  obtain ⟨t', rfl⟩ := ry
  exact rule i j t t' s _ _ hc ⟨.int (g i j), H, I.tok _, ⟨_, rfl⟩, q⟩
theorem opI0 {f : Value → Value → Sem Value} {g : Int → Int → Int}
    (rule : ∀ (i j : Int) (t u : Tok) (s : Shared) (Q : Value → Shared → Prop) (E : Value → Shared → Prop), Q (.int (g i j) s.toks) { s with toks := s.toks + 1 } → wpAny (model X.prog X.w) X.A (f (.int i t) (.int j u)) Q E s) :
    OpR X f (rI0 fun i j => .int (g i j)) := by
  intro pins s σ H x y v u Q I rx ry h
  obtain ⟨i, j, rfl, rfl, q⟩ := h
  obtain ⟨t, rfl⟩ := rx
  obtain ⟨t', rfl⟩ := ry
  exact rule i j t t' s _ _ ⟨.int (g i j), H, I.tok _, ⟨_, rfl⟩, q⟩
theorem opB0 {f : Value → Value → Sem Value} {g : Int → Int → Bool}
    (rule : ∀ (i j : Int) (t u : Tok) (s : Shared) (Q : Value → Shared → Prop) (E : Value → Shared → Prop), Q (.bool (g i j)) s → wpAny (model X.prog X.w) X.A (f (.int i t) (.int j u)) Q E s) :
    OpR X f (rI0 fun i j => .bl (g i j)) := by
  intro pins s σ H x y v u Q I rx ry h
  obtain ⟨i, j, rfl, rfl, q⟩ := h
  obtain ⟨t, rfl⟩ := rx
  obtain ⟨t', rfl⟩ := ry
  exact rule i j t t' s _ _ ⟨.bl (g i j), H, I, rfl, q⟩
def CDiv (i j : Int) : Prop := 0 < j ∧ j < 1073741824
def CMul (i j : Int) : Prop := (-(2 ^ 64) < i ∧ i < 2 ^ 64) ∨ (-(2 ^ 64) < j ∧ j < 2 ^ 64)
theorem CMul.ok {i j : Int} (h : CMul i j) : IntMulOk i j := by
  rcases h with ⟨h1, h2⟩ | ⟨h1, h2⟩
  · exact .of_left (intBits_le_64 h1 h2)
  · exact .of_right (intBits_le_64 h1 h2)
theorem op_add : OpR X (binaryOp .Add) (rI0 fun i j => .int (i + j)) := opI0 fun _ _ _ _ _ _ _ q => add_int q
theorem op_sub : OpR X (binaryOp .Sub) (rI0 fun i j => .int (i - j)) := opI0 fun _ _ _ _ _ _ _ q => sub_int q
theorem op_mul : OpR X (binaryOp .Mult) (rI CMul fun i j => .int (i * j)) := opI fun _ _ _ _ _ _ _ hc q => mul_int q hc.ok
theorem op_fdiv : OpR X (binaryOp .FloorDiv) (rI CDiv fun i j => .int (i / j)) := opI fun i j _ _ _ _ _ hc q => by
  have h1 : (0 : Int) < j := hc.1
  have h2 : j < 1073741824 := hc.2
  exact floordiv_int (by omega) (by rw [Int.fdiv_eq_ediv_of_nonneg i (by omega)]; exact q) (.inl (PyProof.noPylong_small (by omega)))
theorem op_mod : OpR X (binaryOp .Mod) (rI (fun _ j => 0 < j) fun i j => .int (i % j)) := opI fun i j _ _ _ _ _ hc q => by
  have h1 : (0 : Int) < j := hc
  exact mod_int' (by omega) (by rw [Int.fmod_eq_emod_of_nonneg i (by omega)]; exact q)
end
section
variable {X : Cx} {a b c : Expr} {ta tb tc : TE} {pos : Pos}
theorem fin_bl {pins : List (Addr × Obj)} {σ : St} {H : Hp} {s : Shared} {Q : VK} {k k' : Bool} (I : Inv X pins σ H s) (q : Q (.bl k) H) (e : k = k') : EP X pins σ Q (.bool k') s := by
  subst e
  exact ⟨.bl k, H, I, rfl, q⟩
theorem op_lt : OpR X (compareOp .Lt) (rI0 fun i j => .bl (decide (i < j))) := opB0 fun _ _ _ _ _ _ _ q => lt_int q
theorem op_le : OpR X (compareOp .LtE) (rI0 fun i j => .bl (decide (i ≤ j))) := opB0 fun _ _ _ _ _ _ _ q => le_int q
theorem op_gt : OpR X (compareOp .Gt) (rI0 fun i j => .bl (decide (j < i))) := opB0 fun _ _ _ _ _ _ _ q => gt_int q
theorem op_notin_str : OpR X (compareOp .NotIn) (fun x y H Q => ∃ i j, x = .str i ∧ y = .str j ∧ Q (.bl (!(!(Builtin.Str.occurrences j i 0 j.length 1).isEmpty))) H) := by
  intro pins s σ H x y v u Q I rx ry h
  obtain ⟨i, j, rfl, rfl, q⟩ := h
  obtain ⟨t, rfl⟩ := rx
  obtain ⟨t', rfl⟩ := ry
  exact notIn_str (fin_bl I q rfl)
theorem OpR.or {f : Value → Value → Sem Value} {r r' : R2} (h : OpR X f r) (h' : OpR X f r') : OpR X f (fun x y H Q => r x y H Q ∨ r' x y H Q) := by
  intro pins s σ H x y v u Q I rx ry q
  rcases q with q | q
  · exact h pins s σ H x y v u Q I rx ry q
  · exact h' pins s σ H x y v u Q I rx ry q
theorem nomark (b : Expr) {op : CmpOp} (h : op ≠ .In := by decide) (h2 : op ≠ .NotIn := by decide) : behindInMarks op b = false := by
  have e1 : (op == CmpOp.In) = false := by cases op <;> first | rfl | exact absurd rfl h
  have e2 : (op == CmpOp.NotIn) = false := by cases op <;> first | rfl | exact absurd rfl h2
  cases b <;> simp [behindInMarks, e1, e2]
theorem pe_cmpR {op : CmpOp} {r : R2} (ho : OpR X (compareOp op) r) (ha : PE X a ta) (hb : PE X b tb) (hm : behindInMarks op b = false) : PE X (.Compare a [op] [b] pos) (tOp r ta tb) := by
  intro pins s σ H Q I h
  exact wpAny_Compare1 (binT ha hb I h fun v u s2 x y H2 I2 rx ry q => ho pins s2 σ H2 x y v u Q I2 rx ry q) hm
def tTest (t : TE) : TT := fun σ H Q => t σ H fun x H' => ∃ k, x = .bl k ∧ Q k H'
theorem pt_cmpR {op : CmpOp} {r : R2} (ho : OpR X (compareOp op) r) (ha : PE X a ta) (hb : PE X b tb) (hm : behindInMarks op b = false) : PT X (.Compare a [op] [b] pos) (tTest (tOp r ta tb)) := by
  intro pins s σ H Q I h
  refine wpAny_isTrue_Compare1 (thn (ha pins s σ H _ I h) fun v s1 ⟨x, H1, I1, r1, q1⟩ => thn (hb pins s1 σ H1 _ I1 q1) fun u s2 ⟨y, H2, I2, r2, q2⟩ =>
    thn (ho pins s2 σ H2 x y v u _ I2 r1 r2 q2) fun c s3 ⟨z, H3, I3, r3, k, e, q3⟩ => ?_) hm
  subst e
  cases r3
  exact wpAny_truthy_bool ⟨H3, I3, q3⟩
def tChain (r r' : R2) (ta tb tc : TE) : TE := fun σ H Q => ta σ H fun x H1 => tb σ H1 fun y H2 => r x y H2 fun z H3 => ∃ k, z = .bl k ∧
  (if k = true then tc σ H3 fun w' H4 => r' y w' H4 Q else Q (.bl false) H3)
theorem pe_chain {op op' : CmpOp} {r r' : R2} (ho : OpR X (compareOp op) r) (ho' : OpR X (compareOp op') r') (ha : PE X a ta) (hb : PE X b tb) (hc : PE X c tc)
    (hm : lastMarks [op, op'] [b, c] = false := by with_unfolding_all rfl) : PE X (.Compare a [op, op'] [b, c] pos) (tChain r r' ta tb tc) := by
  intro pins s σ H Q I h
  refine Compare_chain (thn (ha pins s σ H _ I h) fun v s1 ⟨x, H1, I1, r1, q1⟩ => chain_link (thn (hb pins s1 σ H1 _ I1 q1) fun u s2 ⟨y, H2, I2, r2, q2⟩ =>
    thn (ho pins s2 σ H2 x y v u _ I2 r1 r2 q2) fun d s3 ⟨z, H3, I3, r3, k, e, q3⟩ => ?_)) hm
  subst e
  cases r3
  refine wpAny_truthy_bool ?_
  cases k with
  | false => exact ite_ff ⟨.bl false, H3, I3, rfl, q3⟩
  | true => exact ite_tt (chain_last (thn (hc pins s3 σ H3 _ I3 q3) fun w' s4 ⟨z', H4, I4, r4, q4⟩ => ho' pins s4 σ H4 y z' u w' Q I4 r2 r4 q4))
theorem line63 : (sizeLine : Nat) < 2 ^ 63 := by rw [sizeLine_eq]; decide
theorem op_add_str : OpR X (binaryOp .Add) (fun x y H Q => ∃ i j, x = .str i ∧ y = .str j ∧ i.length + j.length ≤ sizeLine ∧ Q (.str (i ++ j)) H) := by
  intro pins s σ H x y v u Q I rx ry h
  obtain ⟨i, j, rfl, rfl, hz, q⟩ := h
  obtain ⟨t, rfl⟩ := rx
  obtain ⟨t', rfl⟩ := ry
  exact add_str (fun t' tk => ⟨.str (i ++ j), H, I.tok _, ⟨_, rfl⟩, q⟩) hz
theorem vals1 {x : V} {us : List Value} (r : Vals [x] us) : ∃ u, us = [u] ∧ RelV x u := by
  cases r with
  | cons r1 r2 => cases r2; exact ⟨_, rfl, r1⟩
theorem vals2 {x y : V} {us : List Value} (r : Vals [x, y] us) : ∃ u w', us = [u, w'] ∧ RelV x u ∧ RelV y w' := by
  cases r with
  | cons r1 r2 =>
    cases r2 with
    | cons r3 r4 => cases r4; exact ⟨_, _, rfl, r1, r3⟩
theorem call_max2 (hc : X.calm = true) : CallR X (.builtin "max") (fun xs H Q => ∃ i j, xs = [.int i, .int j] ∧ Q (.int (if j > i then j else i)) H) := by
  intro pins s σ H xs us Q I r h
  obtain ⟨i, j, rfl, q⟩ := h
  obtain ⟨u, w', rfl, ⟨t, rfl⟩, ⟨t', rfl⟩⟩ := vals2 r
  refine max_two_ints (I.ok.hd hc) fun h' tk k => ⟨_, H, I.kept k, ?_, q⟩
  by_cases hj : j > i
  · rw [if_pos hj, if_pos hj]; exact ⟨_, rfl⟩
  · rw [if_neg hj, if_neg hj]; exact ⟨_, rfl⟩
theorem call_min2 (hc : X.calm = true) : CallR X (.builtin "min") (fun xs H Q => ∃ i j, xs = [.int i, .int j] ∧ Q (.int (if j < i then j else i)) H) := by
  intro pins s σ H xs us Q I r h
  obtain ⟨i, j, rfl, q⟩ := h
  obtain ⟨u, w', rfl, ⟨t, rfl⟩, ⟨t', rfl⟩⟩ := vals2 r
  refine min_two_ints (I.ok.hd hc) fun h' tk k => ⟨_, H, I.kept k, ?_, q⟩
  by_cases hj : j < i
  · rw [if_pos hj, if_pos hj]; exact ⟨_, rfl⟩
  · rw [if_neg hj, if_neg hj]; exact ⟨_, rfl⟩
theorem call_str_int : CallR X (.type "str") (fun xs H Q => ∃ i, xs = [.int i] ∧ i.natAbs.log2 < 1920 ∧ Q (.str (toString i)) H) := by
  intro pins s σ H xs us Q I r h
  obtain ⟨i, rfl, hz, q⟩ := h
  obtain ⟨u, rfl, t, rfl⟩ := vals1 r
  exact PySem.P.str_of_int hz ⟨.str _, H, I.tok _, ⟨_, rfl⟩, q⟩
end
end L2
namespace L2
open PySem PySem.Spec PyProof.Rows
end L2
namespace L2
open PySem PySem.Spec PyProof.Rows
structure Room (k : Nat) (A : Around) : Prop where
  hd : A.handled = none
  dp : A.depth + 3 * k + 5 < recursionLimit
  un : A.units + 16 * k + 200 < cLine
theorem Room.mono {j k : Nat} {A : Around} (r : Room k A) (h : j ≤ k) : Room j A := ⟨r.hd, by have := r.dp; omega, by have := r.un; omega⟩
theorem Room.deeper {k : Nat} {A : Around} (r : Room (k + 1) A) (env : Env) : Room k (A.deeper env) :=
  ⟨r.hd, by have := r.dp; show A.depth + 1 + 3 * k + 5 < _; omega, by have := r.un; show A.units + 3 + 16 * k + 200 < _; omega⟩
theorem Room.depth {k : Nat} {A : Around} (r : Room k A) : A.depth < recursionLimit := by have := r.dp; omega
theorem Room.units {k : Nat} {A : Around} (r : Room k A) : A.units + 64 < cLine := by have := r.un; omega
theorem Room.units0 {k : Nat} {A : Around} (r : Room k A) : A.units < cLine := by have := r.un; omega
def tNil : TA := fun _ H Q => Q [] H
def tCons (ta : TE) (tr : TA) : TA := fun σ H Q => ta σ H fun x H1 => tr σ H1 fun xs H2 => Q (x :: xs) H2
section
variable {X : Cx} {e : Expr} {es : List Expr} {te : TE} {t : TA} {pos : Pos}
theorem pa_nil : PA X [] tNil := fun _ _ _ _ H Q I h => Calls.spliced_nil ⟨[], H, I, .nil, h⟩
theorem pa_cons (ha : PE X e te) (hr : PA X es t) (hs : starEach (e :: es) X.env = (false, eval e X.env) :: starEach es X.env := by rfl) : PA X (e :: es) (tCons te t) := by
  intro pos pins s σ H Q I h
  rw [hs]
  show wpAny _ _ (spliced ((false, eval e X.env) :: backTo pos (starEach es X.env))) _ _ s
  refine Calls.spliced_cons (thn (ha pins s σ H _ I h) fun u s1 ⟨x, H1, I1, r1, q1⟩ => ?_)
  exact thn (hr pos pins s1 σ H1 _ I1 q1) fun us s2 ⟨xs, H2, I2, r2, q2⟩ => ⟨x :: xs, H2, I2, .cons r1 r2, q2⟩
def tTup (t : TA) : TE := fun σ H Q => t σ H fun xs H1 => xs.length ≤ sizeLine ∧ ∀ p, H1 p = none → Q (.ref p) (upd H1 p (.tup xs))
def tLst (t : TA) : TE := fun σ H Q => t σ H fun xs H1 => xs.length ≤ sizeLine ∧ ∀ p, H1 p = none → Q (.ref p) (upd H1 p (.lst xs))
theorem pe_tup {x1} (h : PA X es t) : PE X (.Tuple es x1 pos) (tTup t) := by
  intro pins s σ H Q I hq
  refine wpAny_Tuple_spliced (thn (h pos pins s σ H _ I hq) fun us s1 ⟨xs, H1, I1, r, z, q⟩ => ⟨by rw [← r.length]; exact z, ?_⟩)
  have hf : H1 s1.heap.objs.size = none := I1.hok.fresh (Nat.le_refl _)
  refine ⟨.ref s1.heap.objs.size, upd H1 s1.heap.objs.size (.tup xs), I1.laid (t' := s1.toks) (fun b u e => Heap.get?_push_of_some _ e) (Nat.le_refl _) ?_, rfl, q _ hf⟩
  exact ⟨z, us, r, ⟨_, Heap.get?_push_size _ rfl, rfl, ⟨_, rfl⟩, rfl⟩⟩
theorem pe_lst (h : PA X es t) : PE X (.List es pos) (tLst t) := by
  intro pins s σ H Q I hq
  refine wpAny_List_spliced (thn (h pos pins s σ H _ I hq) fun us s1 ⟨xs, H1, I1, r, z, q⟩ => ⟨by rw [← r.length]; exact z, ?_⟩)
  have hf : H1 s1.heap.objs.size = none := I1.hok.fresh (Nat.le_refl _)
  refine ⟨.ref s1.heap.objs.size, upd H1 s1.heap.objs.size (.lst xs), I1.laid (t' := s1.toks) (fun b u e => Heap.get?_push_of_some _ e) (Nat.le_refl _) ?_, rfl, q _ hf⟩
  exact ⟨z, us, 0, r, Heap.get?_push_size _ rfl⟩
end
abbrev Sp := List V → Hp → VK → XK → Prop
abbrev CXT := List Env → Hp → Shared → XK → Value → Shared → Prop
structure Env0 (P : Program) (w : World) (K : PySem.W.Frag) (mg : Str → Option Value) (base : Heap) (A : Around) (outer : List Env) (s : Shared) (H : Hp) : Prop where
  frames : A.frames = some outer
  mod : Mod K mg base
  bs : ∀ b o, base.get? b = some o → s.heap.get? b = some o ∧ H b = none
  bsz : base.objs.size ≤ s.heap.objs.size
  funs : s.heap.FunFrames base outer
  frf : ∀ b ∈ frs outer, H b = none
  hok : HOk P w H s.heap
  bare : AllBare s.gens
def CE (outer : List Env) (P : Program) (w : World) (H : Hp) (s : Shared) (Q : VK) (u : Value) (s' : Shared) : Prop :=
  ∃ v H', s'.os = s.os ∧ AllBare s'.gens ∧ Un (frs outer) [] H H' s.heap s'.heap ∧ HOk P w H' s'.heap ∧ RelV v u ∧ Q v H'
def CR (CX : CXT) (outer : List Env) (P : Program) (w : World) (H : Hp) (s : Shared) (Q : VK) (E : XK) (r : Result) (s' : Shared) : Prop :=
  match r with
  | .ok (.ret u) => CE outer P w H s Q u s'
  | .ok _ => False
  | .error e => CX outer H s E e s'
structure FnOk (P : Program) (w : World) (K : PySem.W.Frag) (mg : Str → Option Value) (base : Heap) (CX : CXT) (k : Nat) (f : Addr) (fd : FuncData) (ps : List Str) (sp : Sp) : Prop where
  len : ∀ vs H Q E, sp vs H Q E → vs.length = ps.length
  run : ∀ (A : Around) (outer : List Env) (s : Shared) (H : Hp) (args : Args) (us : List Value) (vs : List V) (Q : VK) (E : XK), Room k A → Env0 P w K mg base A outer s H → BindsTo s fd args (ps.zip us) → Vals vs us → sp vs H Q E →
    codeAny (model P w) A (.call (.ref f) args) (CR CX outer P w H s Q E) s
theorem FnOk.mono {P : Program} {w : World} {K : PySem.W.Frag} {mg : Str → Option Value} {base : Heap} {CX : CXT} {j k : Nat} {f : Addr} {fd : FuncData} {ps : List Str} {sp : Sp} (F : FnOk P w K mg base CX j f fd ps sp) (h : j ≤ k) :
    FnOk P w K mg base CX k f fd ps sp := ⟨F.len, fun A outer s H args us vs Q E hr => F.run A outer s H args us vs Q E (hr.mono h)⟩
section
variable {X : Cx} {pins : List (Addr × Obj)} {σ : St} {H : Hp} {s s' : Shared}
theorem Inv.env0 (I : Inv X pins σ H s) : Env0 X.prog X.w X.K X.mg X.base X.A X.stack s H :=
  ⟨I.ok.frames, I.ok.mod, I.bs, Nat.le_trans I.ok.bsz I.sz, I.stack, I.stkFree, I.hok, I.bare⟩
theorem Inv.after {Q : VK} {u : Value} (I : Inv X pins σ H s) (h : CE X.stack X.prog X.w H s Q u s') : EP X pins σ Q u s' := by
  obtain ⟨v, H', os, bare, un, hok, r, q⟩ := h
  obtain ⟨hh, g, d, t, os'⟩ := s'
  obtain rfl : os' = s.os := os
  exact ⟨v, H', I.call (h' := hh) (g' := g) (d' := d) (t' := t) (ch := []) un hok bare (fun b z => absurd z (by simp)), r, q⟩
end
def tCall (sp : Sp) (dvs : List V) (E : XK) (t : TA) : TE := fun σ H Q => t σ H fun vs H1 => sp (vs ++ dvs) H1 Q E
def Binds (K : PySem.W.Frag) (fd : FuncData) (ps : List Str) (ds : List Value) : Prop :=
  ∀ (s : Shared) (us : List Value), K.In s.heap → (us ++ ds).length = ps.length → BindsTo s fd ⟨us, []⟩ (ps.zip (us ++ ds))
theorem Binds.all {K : PySem.W.Frag} {fd : FuncData} {ps : List Str} (h : ∀ us : List Value, us.length = ps.length → bindArgs fd ⟨us, []⟩ = pure (ps.zip us)) : Binds K fd ps [] := fun s us _ hl => by
  rw [List.append_nil] at hl ⊢
  exact .of_eq (h us hl)
def Passes (CX : CXT) (X : Cx) (E : XK) : Prop := ∀ (pins : List (Addr × Obj)) (σ : St) (H : Hp) (s : Shared) (e : Value) (s' : Shared), Inv X pins σ H s → CX X.stack H s E e s' → X.xe e s'
section
variable {X : Cx} {CX : CXT} {k : Nat} {f C : Addr} {fd : FuncData} {ps : List Str} {sp : Sp} {dvs : List V} {ds : List Value} {E : XK} {x m : Str} {p pos apos : Pos} {e o : Expr} {es : List Expr} {ta : TE} {t : TA}
theorem run_fn {pins : List (Addr × Obj)} {σ : St} {H : Hp} {s : Shared} {Q : VK} {us : List Value} {vs : List V} (F : FnOk X.prog X.w X.K X.mg X.base CX k f fd ps sp) (hr : Room k X.A) (hb : Binds X.K fd ps ds) (hd : Vals dvs ds) (hx : Passes CX X E)
    (I : Inv X pins σ H s) (r : Vals vs us) (h : sp (vs ++ dvs) H Q E) : wpAny (model X.prog X.w) X.A (call (.ref f) us) (EP X pins σ Q) X.xe s := by
  have r2 : Vals (vs ++ dvs) (us ++ ds) := r.append hd
  have hl : (us ++ ds).length = ps.length := by rw [← r2.length]; exact F.len _ _ _ _ h
  refine wpAny_call (codeAny_mono (F.run X.A X.stack s H ⟨us, []⟩ (us ++ ds) (vs ++ dvs) Q E hr I.env0 (hb s us I.kIn hl) r2 h) fun r s' hq => ?_)
  cases r with
  | error e => exact hx pins σ H s e s' I hq
  | ok fl =>
    cases fl with
    | ret u => exact I.after hq
    | next => exact False.elim hq
    | brk => exact False.elim hq
    | cont => exact False.elim hq
theorem pe_call (F : FnOk X.prog X.w X.K X.mg X.base CX k f fd ps sp) (hr : Room k X.A) (hg : Gl X x) (hm : X.mg x = some (.ref f)) (hk : PySem.W.keepIn X.K (.ref f) = true) (hb : Binds X.K fd ps ds) (hd : Vals dvs ds) (hx : Passes CX X E)
    (ha : PA X (e :: es) t) (hdb : (x == ("__debug__" : Str)) = false := by decide) (he : starEach (e :: es) X.env = (false, eval e X.env) :: starEach es X.env := by rfl) (hpl : (backTo pos (starEach es X.env)).any (·.1) = false := by rfl) :
    PE X (.Call (.Name x p) (e :: es) [] pos) (tCall sp dvs E t) := by
  intro pins s σ H Q I h
  refine wpAny_Call_Name_kw (ld_glob I hg hm ?_ hdb)
  refine PySem.W.callWith_K (h₀ := X.base) I.ok.mod.kin hk (thn (ha pos pins s σ H _ I h) fun us s1 ⟨vs, H1, I1, r, q⟩ => ⟨I1.kIn, ?_⟩) he hpl
  exact run_fn F hr hb hd hx I1 r q
end
structure FnScope (N P : List Str) (sc : Scope) : Prop where
  kind : sc.kind = .function
  co : sc.isCoroutine = false
  gen : sc.isGenerator = false
  nd : N.Nodup
  pre : N.take P.length = P
  par : ∀ x ∈ P, sc.names.lookup x = some .local ∨ sc.names.lookup x = some .cell
  nofree : ∀ y ∈ sc.names, y.2 ≠ .free
theorem bindL_out {kindOf : Str → Option NameKind} {x : Str} : ∀ {binds : List (Str × Value)} {m : Str → Option Value}, (∀ v, (x, v) ∉ binds) → bindL kindOf binds m x = m x
  | [], _, _ => rfl
  | (n, v) :: r, m, h => by
    unfold bindL
    rw [bindL_out fun w hw => h w (List.mem_cons_of_mem _ hw)]
    split
    · have : x ≠ n := by rintro rfl; exact h v List.mem_cons_self
      simp [this]
    · rfl
theorem bindC_out {kindOf : Str → Option NameKind} {x : Str} : ∀ {binds : List (Str × Value)} {m : Str → Option Value}, (∀ v, (x, v) ∉ binds) → bindC kindOf binds m x = m x
  | [], _, _ => rfl
  | (n, v) :: r, m, h => by
    unfold bindC
    rw [bindC_out fun w hw => h w (List.mem_cons_of_mem _ hw)]
    split
    · rfl
    · have : x ≠ n := by rintro rfl; exact h v List.mem_cons_self
      simp [this]
theorem bindL_get {kindOf : Str → Option NameKind} {x : Str} {v : Value} : ∀ {P : List Str} {vs : List Value} {i : Nat} {m : Str → Option Value}, P.Nodup → P[i]? = some x → vs[i]? = some v → kindOf x = some .local →
    bindL kindOf (P.zip vs) m x = some v
  | [], _, _, _, _, h, _, _ => by simp at h
  | _ :: _, [], _, _, _, _, h, _ => by simp at h
  | p :: P, w :: vs, 0, m, nd, h1, h2, hk => by
    simp at h1 h2; subst h1; subst h2
    show bindL kindOf ((p, w) :: P.zip vs) m p = _
    unfold bindL
    rw [bindL_out fun v hv => (List.nodup_cons.mp nd).1 (List.of_mem_zip hv).1, if_pos hk]
    simp
  | p :: P, w :: vs, i + 1, m, nd, h1, h2, hk => by
    show bindL kindOf ((p, w) :: P.zip vs) m x = _
    unfold bindL
    exact bindL_get (i := i) (List.nodup_cons.mp nd).2 (by simpa using h1) (by simpa using h2) hk
theorem bindC_get {kindOf : Str → Option NameKind} {x : Str} {v : Value} : ∀ {P : List Str} {vs : List Value} {i : Nat} {m : Str → Option Value}, P.Nodup → P[i]? = some x → vs[i]? = some v → kindOf x ≠ some .local →
    bindC kindOf (P.zip vs) m x = some v
  | [], _, _, _, _, h, _, _ => by simp at h
  | _ :: _, [], _, _, _, _, h, _ => by simp at h
  | p :: P, w :: vs, 0, m, nd, h1, h2, hk => by
    simp at h1 h2; subst h1; subst h2
    show bindC kindOf ((p, w) :: P.zip vs) m p = _
    unfold bindC
    rw [bindC_out fun v hv => (List.nodup_cons.mp nd).1 (List.of_mem_zip hv).1, if_neg hk]
    simp
  | p :: P, w :: vs, i + 1, m, nd, h1, h2, hk => by
    show bindC kindOf ((p, w) :: P.zip vs) m x = _
    unfold bindC
    exact bindC_get (i := i) (List.nodup_cons.mp nd).2 (by simpa using h1) (by simpa using h2) hk
def start (N : List Str) (vs : List V) : St := vs.map some ++ List.replicate (N.length - vs.length) none
def cxOf (CX : CXT) (P : Program) (w : World) (K : PySem.W.Frag) (mg : Str → Option Value) (base : Heap) (N : List Str) (qual : Str) (scope : Scope) (f : Addr) (cd : Value) (A : Around) (outer : List Env) (s : Shared) (H : Hp) (E : XK) : Cx where
  prog := P
  w := w
  K := K
  mg := mg
  base := base
  A := A.deeper (envOfC qual scope s.heap.objs.size f cd)
  N := N
  s₀ := s
  H₀ := H
  env := envOfC qual scope s.heap.objs.size f cd
  outer := outer
  stack := envOfC qual scope s.heap.objs.size f cd :: outer
  ex := []
  calm := true
  fn := fun _ => true
  pn := []
  xe := fun e s' => wpAny (model P w) (A.deeper (envOfC qual scope s.heap.objs.size f cd)) (leaving (envOfC qual scope s.heap.objs.size f cd) e) (fun _ s'' => CX outer H s E e s'') (fun e' s'' => CX outer H s E e' s'') s'
theorem cell_has {sc : Scope} {n : Nat} {x : Str} (h : sc.names.lookup x = some .cell) : ∃ c, (cellsFrom n sc.names []).lookup x = some c := by
  have q := PySem.W.cellsFrom_some sc.names n [] (.inl h)
  exact Option.isSome_iff_exists.mp q
theorem inv_start {CX : CXT} {P : Program} {w : World} {K : PySem.W.Frag} {mg : Str → Option Value} {base : Heap} {N ps : List Str} {qual : Str} {scope : Scope} {f : Addr} {cd : Value} {A : Around} {outer : List Env} {s s1 : Shared} {H : Hp} {E : XK} {us : List Value} {vs : List V}
    (S : FnScope N ps scope) (hd : A.handled = none) (e0 : Env0 P w K mg base A outer s H) (hl : vs.length = ps.length) (r : Vals vs us)
    (x : InCallC s s.heap.objs.size (bindL (envOfC qual scope s.heap.objs.size f cd).kindOf (ps.zip us) fun _ => none) (cellsFrom (s.heap.objs.size + 1) scope.names []) (bindC (envOfC qual scope s.heap.objs.size f cd).kindOf (ps.zip us) fun _ => none) s1) :
    Inv (cxOf CX P w K mg base N qual scope f cd A outer s H E) [] (start N vs) H s1 := by
  have hpl : ps.length ≤ N.length := by have := congrArg List.length S.pre; rw [List.length_take] at this; omega
  obtain ⟨h1, tk, rfl, hk⟩ := x.done
  have noA : ∀ b : Addr, b ∉ (cxOf CX P w K mg base N qual scope f cd A outer s H E).ex := fun b z => absurd (show b ∈ ([] : List Addr) from z) (by simp)
  refine ⟨⟨e0.mod, S.kind, rfl, rfl, Nat.le_refl _, fun y z c h1 h2 => ?_, fun y hy => ?_, fun y c _ h => ?_, fun _ => hd, Around.frames_deeper e0.frames, .inr ⟨rfl, rfl⟩, fun b z => absurd z (noA b), e0.bs, e0.bsz, fun b _ _ => noA b, fun b z => absurd z (noA b), e0.funs, e0.frf⟩,
    rfl, e0.bare, Un.kept hk, ⟨_, x.toInCall.ns, fun i y v h1 h2 h3 => ?_⟩, fun y c h => ⟨_, x.cell y c h⟩, e0.hok.fresh (Nat.le_refl _), fun y c h => ?_, fun p hp => absurd (show p ∈ ([] : List (Addr × Obj)) from hp) (by simp), e0.hok.kept hk, ?_⟩
  · exact name_of_addr x.apart (PySem.mem_of_lookup h1) (PySem.mem_of_lookup h2)
  · have hy : scope.names.lookup y = some .cell ∨ scope.names.lookup y = some .free := hy
    rcases hy with hy | hy
    · exact cell_has hy
    · exact absurd rfl (S.nofree _ (PySem.mem_of_lookup hy))
  · exact Nat.le_of_lt (x.above y c (PySem.mem_of_lookup h))
  · have hi : i < vs.length := by
      unfold start at h2
      by_cases hi : i < vs.length
      · exact hi
      · rw [List.getElem?_append_right (by simpa using hi)] at h2
        rw [List.getElem?_replicate] at h2
        split at h2 <;> cases h2
    have ha : vs[i]? = some v := by
      unfold start at h2
      rw [List.getElem?_append_left (by simpa using hi), List.getElem?_map] at h2
      cases e : vs[i]? with
      | none => rw [e] at h2; cases h2
      | some a => rw [e] at h2; cases h2; rfl
    obtain ⟨u, hu, rv⟩ := r.get ha
    have hp : ps[i]? = some y := by
      rw [← S.pre, List.getElem?_take_of_lt (by omega)]; exact h1
    have ndP : ps.Nodup := by rw [← S.pre]; exact S.nd.sublist (List.take_sublist _ _)
    refine ⟨u, rv, ?_⟩
    rcases S.par y (List.mem_of_getElem? hp) with k | k
    · exact .inl ⟨k, bindL_get ndP hp hu k⟩
    · obtain ⟨c, e⟩ := cell_has (n := s.heap.objs.size + 1) k
      refine .inr ⟨.inl k, c, e, ?_⟩
      have q := x.cell y c e
      rw [bindC_get ndP hp hu (by show scope.names.lookup y ≠ _; rw [k]; decide)] at q
      exact q
  · exact e0.hok.fresh (Nat.le_of_lt (x.above y c (PySem.mem_of_lookup h)))
  · unfold start
    show _ = N.length
    rw [List.length_append, List.length_map, List.length_replicate]
    omega
theorem fn_of {CX : CXT} {P : Program} {w : World} {K : PySem.W.Frag} {mg : Str → Option Value} {base : Heap} {k : Nat} {f : Addr} {name qual : Str} {params : Arguments} {body : List Stmt} {scope : Scope} {dV kV doc pm cdv ct oc : Value} {an od : Option Addr}
    {osl : Array (Option Value)} {N ps : List Str} {sp : Sp} (lk : K.lookup f = some ⟨oc, od, .func (PySem.W.fnOf name qual params body scope dV kV doc pm an cdv ct), osl⟩) (hcd : PySem.W.codeIn K cdv qual = true) (S : FnScope N ps scope)
    (len : ∀ vs H Q E, sp vs H Q E → vs.length = ps.length)
    (hbody : ∀ (A : Around) (outer : List Env) (s : Shared) (H : Hp) (vs : List V) (Q : VK) (E : XK), Room k (A.deeper (envOfC qual scope s.heap.objs.size f cdv)) → sp vs H Q E →
      ∃ t, PSs (cxOf CX P w K mg base N qual scope f cdv A outer s H E) body t ∧ t { nx := fun _ H' => Q .non H', rt := Q } (start N vs) H) :
    FnOk P w K mg base CX (k + 1) f (PySem.W.fnOf name qual params body scope dV kV doc pm an cdv ct) ps sp := by
  refine ⟨len, fun A outer s H args us vs Q E hr e0 hb r hsp => ?_⟩
  have hl := len _ _ _ _ hsp
  have KX : K.In s.heap := e0.mod.kin.keeps fun b o e => (e0.bs b o e).1
  have lim : s.heap.NoLimit := e0.mod.nolimit.keeps fun b o e => (e0.bs b o e).1
  have hkind : ∀ y ∈ ps.zip us, scope.names.lookup y.1 = some .local ∨ (scope.names.lookup y.1 = some .cell ∧ ((cellsFrom (s.heap.objs.size + 1) scope.names []).lookup y.1).isSome = true) := fun ⟨n, v⟩ hy => by
    rcases S.par n (List.of_mem_zip hy).1 with q | q
    · exact .inl q
    · exact .inr ⟨q, PySem.W.cellsFrom_some _ _ _ (.inl q)⟩
  refine codeAny_call_function hr.depth (KX _ _ lk) rfl S.co S.gen rfl (PySem.W.codeRec_of KX hcd) (hb _ _ _ _ ?_)
  refine wpAny_newFunctionEnv_cells S.kind hkind fun env he s1 x => ?_
  subst he
  refine ⟨lim.keeps x.toInCall.keep, codeAny_func ?_⟩
  obtain ⟨t, ht, hq⟩ := hbody A outer s H vs Q E (hr.deeper _) hsp
  have I : Inv (cxOf CX P w K mg base N qual scope f cdv A outer s H E) [] (start N vs) H s1 := inv_start S hr.hd e0 hl r x
  refine wpAny_mono (ht [] s1 (start N vs) H _ I hq) (fun fl s' hs => ?_) fun e s' hs => hs
  have fin : ∀ {σ' : St} {H' : Hp} {v : V} {u : Value}, Inv (cxOf CX P w K mg base N qual scope f cdv A outer s H E) [] σ' H' s' → RelV v u → Q v H' → CE outer P w H s Q u s' :=
    fun {σ' H' v u} J rv q => ⟨v, H', J.os, J.bare, J.base, J.hok, rv, q⟩
  cases fl with
  | ret u =>
    obtain ⟨v, σ', H', J, rv, q⟩ := hs
    exact fin J rv q
  | next =>
    obtain ⟨σ', H', J, q⟩ := hs
    exact fin (v := V.non) (u := Value.none) J rfl q
  | brk =>
    obtain ⟨_, _, _, q⟩ := hs
    exact False.elim q
  | cont =>
    obtain ⟨_, _, _, q⟩ := hs
    exact False.elim q
end L2
namespace L2
open PySem PySem.Spec PyProof.Rows
section
variable {X : Cx} {x : Str} {p pos : Pos} {e : Expr} {es : List Expr} {t : TA} {id T : String} {r : List V → Hp → VK → Prop}
def tCB (r : List V → Hp → VK → Prop) (t : TA) : TE := fun σ H Q => t σ H fun vs H1 => r vs H1 Q
theorem pe_callB (hc : CallR X (.builtin id) r) (hg : Gl X x) (hm : X.mg x = none) (hv : bootBuiltins x = some (.builtin id)) (ha : PA X (e :: es) t) (hn : x ≠ "__name__" := by decide) (hdb : (x == ("__debug__" : Str)) = false := by decide)
    (he : starEach (e :: es) X.env = (false, eval e X.env) :: starEach es X.env := by rfl) (hpl : (backTo pos (starEach es X.env)).any (·.1) = false := by rfl) : PE X (.Call (.Name x p) (e :: es) [] pos) (tCB r t) := by
  intro pins s σ H Q I h
  refine wpAny_Call_Name_kw (ld_blt I hg hm hv ?_ hn hdb)
  exact PyProof.Rows.callWith_builtin1 (thn (ha pos pins s σ H _ I h) fun us s1 ⟨vs, H1, I1, r1, q1⟩ => hc pins s1 σ H1 vs us Q I1 r1 q1) he hpl
theorem pe_callTy (hc : CallR X (.type T) r) (hg : Gl X x) (hm : X.mg x = none) (hv : bootBuiltins x = some (.type T)) (ha : PA X (e :: es) t) (hn : x ≠ "__name__" := by decide) (hdb : (x == ("__debug__" : Str)) = false := by decide)
    (he : starEach (e :: es) X.env = (false, eval e X.env) :: starEach es X.env := by rfl) (hpl : (backTo pos (starEach es X.env)).any (·.1) = false := by rfl) : PE X (.Call (.Name x p) (e :: es) [] pos) (tCB r t) := by
  intro pins s σ H Q I h
  refine wpAny_Call_Name_kw (ld_blt I hg hm hv ?_ hn hdb)
  exact PyProof.Rows.callWith_type1 (thn (ha pos pins s σ H _ I h) fun us s1 ⟨vs, H1, I1, r1, q1⟩ => hc pins s1 σ H1 vs us Q I1 r1 q1) he hpl
end
end L2
namespace HT
open PySem PyProof.Rows
def lexLt : List Int → List Int → Bool
  | [], [] => false
  | [], _ :: _ => true
  | _ :: _, [] => false
  | x :: xs, y :: ys => if x = y then lexLt xs ys else decide (x < y)
theorem lexLt_cons (x y : Int) (xs ys : List Int) : lexLt (x :: xs) (y :: ys) = if x = y then lexLt xs ys else decide (x < y) := rfl
theorem lexLt_nil_nil : lexLt [] [] = false := rfl
theorem lexLt_nil_cons (y : Int) (ys : List Int) : lexLt [] (y :: ys) = true := rfl
theorem lexLt_cons_nil (x : Int) (xs : List Int) : lexLt (x :: xs) [] = false := rfl
theorem eqAt_int (A : Around) (s : Shared) (a : Int) (t : Tok) (c : Int) (u : Tok) : ∃ e, SeqAt.EqAt A s (.int a t) (.int c u) e ∧ (e = true ↔ a = c) :=
  ⟨(a == c), SeqAt.EqAt.int_int a t c u, by simp⟩
theorem rcLt_int (A : Around) (s : Shared) (a : Int) (t : Tok) (c : Int) (u : Tok) (prog : Program) (w : World) (E : Value → Shared → Prop) (Q : Value → Shared → Prop) (h : Q (.bool (decide (a < c))) s) :
    wpAny (model prog w) A (richCompare .Lt (.int a t) (.int c u)) Q E s :=
  (PyProof.Rows.lt_int h : wpAny (model prog w) A (compareOp .Lt (.int a t) (.int c u)) Q E s)
section
open PySem.SeqAt
open PySem.AutoSeq1 (wpAny_loadPart')
open PySem.MeetsSeq PySem.MeetsSeq2 PySem.MeetsSeq3
theorem tuple_lt_ints (l b : Addr) (items items2 : Array Value) (n n2 : Nat) (dd dd2 : Option Addr) (sl sl2 : Array (Option Value)) (ns ms : List Int) (hi : IntsAre items.toList ns) (hj : IntsAre items2.toList ms) :
    Meets (Builtin.«tuple.__lt__» ⟨[.ref l, .ref b], []⟩)
      (fun _ R s => s.heap.get? l = some { cls := .type "tuple", dict := dd, data := .seq items n, slots := sl } ∧ s.heap.get? b = some { cls := .type "tuple", dict := dd2, data := .seq items2 n2, slots := sl2 } ∧
        R (.ok (.ret (.bool (lexLt ns ms)))) s) :=
  .of_wp fun prog w A R s h => by
    obtain ⟨hp, g, d, tk, os⟩ := s; obtain ⟨hl, hb, h⟩ := h
    have f2 := AutoSeq1.sub_tuple_tuple
    have z1 : items.size = ns.length := by rw [← hi.length]; simp
    have z2 : items2.size = ms.length := by rw [← hj.length]; simp
    wp_walk using wpAny_loadPart' hl, wpAny_loadPart' hb, wpAny_forIn_list _ (fun rest b s' => b.1 = none ∧ s' = ⟨hp, g, d, tk, os⟩ ∧ ∃ (vs ws : List Value) (ns' ms' : List Int), rest = vs.zip ws ∧
      IntsAre vs ns' ∧ IntsAre ws ms' ∧ ns'.length + items2.size = ms'.length + items.size ∧ R (.ok (.ret (.bool (lexLt ns' ms')))) ⟨hp, g, d, tk, os⟩) _
    case turn =>
      rintro ⟨y, x⟩ rest b s' ⟨hb', rfl, vs, ws, ns', ms', hz, hvi, hwi, hlen, hR⟩
      cases hvi with
      | nil => rw [List.zip_nil_left] at hz; cases hz
      | cons a t hvi' =>
        cases hwi with
        | nil => rw [List.zip_nil_right] at hz; cases hz
        | cons c u hwi' =>
          rw [List.zip_cons_cons] at hz
          injection hz with hyx hrest
          injection hyx with hy hx
          subst hy hx
          rw [lexLt_cons] at hR
          simp only [List.length_cons] at hlen
          obtain ⟨e, he, hiff⟩ := eqAt_int A.in1 ⟨hp, g, d, tk, os⟩ a t c u
          refine wpAny_bind (he prog w _ _ ?_)
          cases e with
          | true =>
            rw [if_pos (hiff.mp rfl)] at hR
            wp_walk
            exact ⟨rfl, rfl, _, _, _, _, hrest, hvi', hwi', by omega, hR⟩
          | false =>
            rw [if_neg (fun q => absurd (hiff.mpr q) Bool.false_ne_true)] at hR
            have hri := rcLt_int A.in1 ⟨hp, g, d, tk, os⟩ a t c u prog w
            wp_walk using hri
            exact ⟨_, rfl, by simpa using hR⟩
    case fin =>
      rintro ⟨b1, b2⟩ s' ⟨hb', rfl, vs, ws, ns', ms', hz, hvi, hwi, hlen, hR⟩
      simp only at hb'
      subst hb'
      have hv : lexLt ns' ms' = decide (items.size < items2.size) := by
        cases hvi with
        | nil =>
          cases hwi with
          | nil =>
            simp only [List.length_nil] at hlen
            rw [lexLt_nil_nil]
            exact (decide_eq_false (by omega)).symm
          | cons c u hw =>
            simp only [List.length_nil, List.length_cons] at hlen
            rw [lexLt_nil_cons]
            exact (decide_eq_true (by omega)).symm
        | cons a t hv =>
          cases hwi with
          | nil =>
            simp only [List.length_nil, List.length_cons] at hlen
            rw [lexLt_cons_nil]
            exact (decide_eq_false (by omega)).symm
          | cons c u hw =>
            rw [List.zip_cons_cons] at hz
            cases hz
      rw [hv] at hR
      wp_walk
      exact ⟨_, rfl, by simpa [Builtin.Tuple.tupleCompareSizes] using hR⟩
    case h =>
      exact ⟨rfl, rfl, items.toList, items2.toList, ns, ms, rfl, hi, hj, by omega, h⟩
end
section
variable {prog : Program} {w : World} {A : Around} {E : Value → Shared → Prop} {s : Shared}
theorem lt_tupInts {l b : Addr} {items items2 : Array Value} {ns ms : List Int} {Q : Value → Shared → Prop} (hl : IsTup s.heap l items) (hb : IsTup s.heap b items2) (hi : IntsAre items.toList ns) (hj : IntsAre items2.toList ms)
    (hu : A.units < cLine) (h : Q (.bool (lexLt ns ms)) s) : wpAny (model prog w) A (compareOp .Lt (.ref l) (.ref b)) Q E s := by
  obtain ⟨⟨cls, dd, data, sl⟩, ho, hc, n, hd⟩ := id hl
  obtain ⟨⟨cls2, dd2, data2, sl2⟩, ho2, hc2, n2, hd2⟩ := id hb
  simp only at hc hd hc2 hd2
  subst hc hd hc2 hd2
  exact richCompare_meets_room (op := .Lt) ⟨_, ho, rfl⟩ ⟨_, ho2, rfl⟩ PySem.F.slot_tuple_lt PySem.F.entry_tuple_lt (PySem.F.args_tuple_lt_2 _ _) (tuple_lt_ints l b items items2 n n2 dd dd2 sl sl2 ns ms hi hj)
    ⟨ho, ho2, show Value.bool (lexLt ns ms) ≠ Value.notImplemented ∧ Q (.bool (lexLt ns ms)) s from ⟨(fun x => nomatch x), h⟩⟩ hu
theorem cat_tup {t b : Addr} {vs ws : List Value} {Q : Value → Shared → Prop} (ht : IsTup s.heap t vs.toArray) (hb : IsTup s.heap b ws.toArray) (hv : vs ≠ [])
    (h1 : ws = [] → Q (.ref t) s) (h2 : ws ≠ [] → Q (.ref s.heap.objs.size) { s with heap := s.heap.push { cls := .type "tuple", data := .seq (vs ++ ws).toArray } })
    (hsz : vs.length + ws.length ≤ sizeLine) : wpAny (model prog w) A (binaryOp .Add (.ref t) (.ref b)) Q E s := by
  obtain ⟨⟨cls, dd, data, sl⟩, ho, hc, n, hd⟩ := id ht
  obtain ⟨⟨cls2, dd2, data2, sl2⟩, ho2, hc2, n2, hd2⟩ := id hb
  simp only at hc hd hc2 hd2
  subst hc hd hc2 hd2
  have e : vs.toArray ++ ws.toArray = (vs ++ ws).toArray := by simp
  by_cases hw : ws = []
  · exact concat_meets ⟨_, ho, rfl⟩ ⟨_, ho2, rfl⟩ noFill_tuple_add seq_tuple_add PySem.F.slot_tuple_add PySem.F.entry_tuple_add (PySem.F.args_tuple_add_2 _ _)
      (tuple_addW1 t b vs.toArray ws.toArray n n2 dd dd2 sl sl2 (by simpa using hv) (by simp [hw])) ⟨ho, ho2, h1 hw⟩
  · refine concat_meets ⟨_, ho, rfl⟩ ⟨_, ho2, rfl⟩ noFill_tuple_add seq_tuple_add PySem.F.slot_tuple_add PySem.F.entry_tuple_add (PySem.F.args_tuple_add_2 _ _)
      (tuple_addW2 t b vs.toArray ws.toArray n n2 dd dd2 sl sl2 (by simpa using hv) (by simpa using hw) (by rw [List.size_toArray, List.size_toArray]; exact hsz)) ⟨ho, ho2, ?_⟩
    rw [e]
    exact h2 hw
def sIx (n d : Nat) : Option Int → Nat
  | none => d
  | some v => if v < 0 then (v + (n : Int)).toNat else min v.toNat n
theorem sIx_nat (n d k : Nat) : sIx n d (some (k : Int)) = min k n := by
  show (if (k : Int) < 0 then ((k : Int) + (n : Int)).toNat else min (k : Int).toNat n) = min k n
  rw [if_neg (by omega), Int.toNat_natCast]
theorem sIx_le (n d : Nat) (hd : d ≤ n) (o : Option Int) : sIx n d o ≤ n := by
  cases o with
  | none => exact hd
  | some v =>
    show (if v < 0 then (v + (n : Int)).toNat else min v.toNat n) ≤ n
    by_cases hv : v < 0
    · rw [if_pos hv]; omega
    · rw [if_neg hv]; exact Nat.min_le_right _ _
theorem clip_eq (v : Int) (n d : Nat) : (if v < 0 then max (v + (n : Int)) 0 else min v (n : Int)) = ((sIx n d (some v) : Nat) : Int) := by
  show (if v < 0 then max (v + (n : Int)) 0 else min v (n : Int)) = (((if v < 0 then (v + (n : Int)).toNat else min v.toNat n) : Nat) : Int)
  by_cases hv : v < 0
  · simp only [if_pos hv]; omega
  · simp only [if_neg hv]; omega
theorem adjust_gen (lo hi : Option Int) (n : Nat) : Builtin.Slice.sliceAdjust lo hi 1 (n : Int) = (((sIx n 0 lo : Nat) : Int), ((sIx n n hi : Nat) : Int)) := by
  have h1 : ¬ ((1 : Int) < 0) := by omega
  unfold Builtin.Slice.sliceAdjust
  simp only [h1, if_false]
  refine Prod.ext ?_ ?_
  · cases lo with
    | none => rfl
    | some v => exact clip_eq v n 0
  · cases hi with
    | none => rfl
    | some v => exact clip_eq v n n
theorem places_gen (i j : Nat) : Builtin.Slice.slicePlaces (i : Int) (j : Int) 1 = j - i := by
  unfold Builtin.Slice.slicePlaces
  have h1 : (1 : Int) > 0 := by omega
  simp only [h1, if_true, Int.ediv_one]
  split <;> omega
theorem slicePart_ {v : Value} {o : Option Int} {Q : Option Int → Shared → Prop} (p : IsPart v o) (h : Q o s) : wpAny (model prog w) A (Builtin.Slice.slicePartIndex v) Q E s := by
  cases p with
  | none => exact slicePart_none h
  | int i t => exact slicePart_int h
theorem sliceApplied_gen {sl : Addr} {vl vu : Value} {lo hi : Option Int} {n : Nat} {Q : Int × Int × Nat → Shared → Prop} (hs : s.heap.IsSliceOf sl vl vu .none) (pl : IsPart vl lo) (pu : IsPart vu hi)
    (h : Q (((sIx n 0 lo : Nat) : Int), 1, sIx n n hi - sIx n 0 lo) s) : wpAny (model prog w) A (Builtin.Slice.sliceApplied (.ref sl) (pure (n : Int))) Q E s := by
  obtain ⟨os, hos, hcs, hds⟩ := id hs
  unfold Builtin.Slice.sliceApplied Builtin.Slice.sliceFields
  refine wpAny_bind (wpAny_bind (wpAny_field hos hds (x := vl) rfl (wpAny_bind (wpAny_field hos hds (x := vu) rfl (wpAny_bind (wpAny_field hos hds (x := .none) rfl (wpAny_pure ?_)))))))
  refine wpAny_bind (slicePart_none ?_)
  show wpAny _ _ (if ((1 : Int) == 0) = true then _ else _) _ _ s
  rw [if_neg (by decide)]
  refine wpAny_bind (slicePart_ pl (wpAny_bind (slicePart_ pu (wpAny_bind (wpAny_pure ?_)))))
  show wpAny _ _ (match Builtin.Slice.sliceAdjust lo hi 1 (n : Int) with | (lo, hi) => pure (lo, (1 : Int), Builtin.Slice.slicePlaces lo hi 1)) _ _ s
  rw [adjust_gen lo hi n]
  show wpAny _ _ (pure (((sIx n 0 lo : Nat) : Int), (1 : Int), Builtin.Slice.slicePlaces ((sIx n 0 lo : Nat) : Int) ((sIx n n hi : Nat) : Int) 1)) _ _ s
  rw [places_gen]
  exact wpAny_pure h
theorem pick_gen (xs : Array Value) (i k : Nat) : ((List.range k).filterMap fun (m : Nat) => xs[((i : Int) + (m : Int) * 1).toNat]?).toArray = ((xs.toList.drop i).take k).toArray := by
  have e : (fun (m : Nat) => xs[((i : Int) + (m : Int) * 1).toNat]?) = fun m => xs[i + m]? := by
    funext m
    have : ((i : Int) + (m : Int) * 1).toNat = i + m := by omega
    rw [this]
  rw [e]
  have := pick_run xs i k
  rw [List.filterMap_map] at this
  have e2 : ((fun x => xs[x]?) ∘ fun x => i + x) = fun m => xs[i + m]? := rfl
  rw [e2] at this
  rw [this]
theorem getItem_tuple_cut {t sl : Addr} {items : Array Value} {vl vu : Value} {lo hi : Option Int} {Q : Value → Shared → Prop} (ht : IsTup s.heap t items) (hs : s.heap.IsSliceOf sl vl vu .none) (pl : IsPart vl lo) (pu : IsPart vu hi)
    (hw : ¬ (sIx items.size 0 lo = 0 ∧ sIx items.size items.size hi = items.size))
    (h : Q (.ref s.heap.objs.size) { s with heap := s.heap.push { cls := .type "tuple", data := .seq ((items.toList.drop (sIx items.size 0 lo)).take (sIx items.size items.size hi - sIx items.size 0 lo)).toArray } })
    (hsz : items.size ≤ sizeLine) : wpAny (model prog w) A (getItem (.ref t) (.ref sl)) Q E s := by
  have htake : sizeOk (.seq ((items.toList.drop (sIx items.size 0 lo)).take (sIx items.size items.size hi - sIx items.size 0 lo)).toArray) := by
    show ((items.toList.drop (sIx items.size 0 lo)).take (sIx items.size items.size hi - sIx items.size 0 lo)).toArray.size ≤ sizeLine
    rw [List.size_toArray, List.length_take, List.length_drop, Array.length_toList]
    omega
  have hj : sIx items.size items.size hi ≤ items.size := sIx_le _ _ (Nat.le_refl _) hi
  obtain ⟨os, hos, hcs, hds⟩ := id hs
  have hTs : s.TypeIs (.ref sl) "slice" := ⟨os, hos, hcs⟩
  unfold getItem
  try with_reducible refine wpAny_holding ?_
  first | refine wpAny_bind (wpAny_pure ?_) | skip
  refine wpAny_bind (wpAny_sequenceKey ht.typeIs (by decide) ?_)
  refine wpAny_bind (wpAny_callSpecial?_slot (name := Str.ofString "__getitem__") ht.typeIs PyProof.Rows.slot_tuple_getitem
    (wpAny_call_entry PyProof.Rows.slot_tuple_getitem ht.typeIs entry_tuple_getitem ?_ (args_tuple_getitem _ _)))
  show wpAny _ _ (Builtin.Tuple.tupleItemsOf (.ref t) >>= _) _ _ s
  refine wpAny_bind (tupleItemsOf_ ht ?_)
  refine wpAny_bind (wpAny_typeOf hTs ?_)
  rw [if_pos (by decide)]
  refine wpAny_bind (sliceApplied_gen hs pl pu ?_)
  have hno : ¬ ((((sIx items.size 0 lo : Nat) : Int) == 0 && (1 : Int) == 1 && (sIx items.size items.size hi - sIx items.size 0 lo) == items.size) = true) := by
    intro q
    rw [Bool.and_eq_true, Bool.and_eq_true] at q
    have q1 : ((sIx items.size 0 lo : Nat) : Int) = 0 := eq_of_beq q.1.1
    have q2 : sIx items.size items.size hi - sIx items.size 0 lo = items.size := eq_of_beq q.2
    exact hw ⟨by omega, by omega⟩
  show wpAny _ _ (if (((sIx items.size 0 lo : Nat) : Int) == 0 && (1 : Int) == 1 && (sIx items.size items.size hi - sIx items.size 0 lo) == items.size) = true then _ else _) _ _ s
  rw [if_neg hno, pick_gen]
  first
    | exact wpAny_bind (m := Builtin.Tuple.tupleExact _) (wpAny_newObj_type (wpAny_pure ⟨_, rfl, wpAny_pure h⟩) htake)
    | exact wpAny_bind (m := Builtin.Tuple.tupleExact _) (wpAny_newObj_type (wpAny_bind (wpAny_pure (wpAny_pure ⟨_, rfl, wpAny_pure h⟩))) htake)
    | exact wpAny_bind (wpAny_bind (m := Builtin.Tuple.tupleExact _) (wpAny_newObj_type (wpAny_pure (wpAny_pure ⟨_, rfl, wpAny_pure h⟩)) htake))
    | exact wpAny_bind (wpAny_bind (m := Builtin.Tuple.tupleExact _) (wpAny_newObj_type (wpAny_pure ⟨_, rfl, wpAny_pure h⟩) htake))
end
end HT
namespace L2
open PySem PySem.Spec PyProof.Rows
abbrev TO := St → Hp → (Option Int → Hp → Prop) → Prop
def PO (X : Cx) (e : Option Expr) (t : TO) : Prop :=
  ∀ (pins : List (Addr × Obj)) (s : Shared) (σ : St) (H : Hp) (Q : Option Int → Hp → Prop), Inv X pins σ H s → t σ H Q →
    wpAny (model X.prog X.w) X.A (evalPart e X.env) (fun u s' => ∃ o H', Inv X pins σ H' s' ∧ IsPart u o ∧ Q o H') X.xe s
def tNoPart : TO := fun _ H Q => Q none H
def tPart (t : TE) : TO := fun σ H Q => t σ H fun x H1 => ∃ i, x = .int i ∧ Q (some i) H1
theorem intsAre_of {ns : List Int} : ∀ {us : List Value}, Vals (ns.map V.int) us → IntsAre us ns := by
  induction ns with
  | nil => intro us r; rw [List.map_nil] at r; cases r; exact .nil
  | cons n ns ih =>
    intro us r
    rw [List.map_cons] at r
    cases r with
    | cons r1 r2 =>
      obtain ⟨t, e⟩ := r1
      subst e
      exact .cons n t (ih r2)
section
variable {X : Cx} {e : Expr} {te : TE} {lo hi : Option Expr} {tl th : TO} {pos p2 : Pos}
theorem po_none : PO X none tNoPart := by
  intro pins s σ H Q I h
  rw [evalPart_none]
  exact wpAny_pure ⟨none, H, I, .none, h⟩
theorem po_some (h : PE X e te) : PO X (some e) (tPart te) := by
  intro pins s σ H Q I hw
  rw [evalPart_some]
  refine thn (h pins s σ H _ I hw) fun u s1 ⟨x, H1, I1, r1, q1⟩ => ?_
  obtain ⟨i, rfl, q⟩ := q1
  obtain ⟨t, rfl⟩ := r1
  exact ⟨some i, H1, I1, .int i t, q⟩
def SlR (X : Cx) (r : V → Option Int → Option Int → Hp → VK → Prop) : Prop :=
  ∀ (pins : List (Addr × Obj)) (s : Shared) (σ : St) (H : Hp) (x : V) (v vl vu : Value) (lo hi : Option Int) (sl : Addr) (Q : VK), Inv X pins σ H s → RelV x v → s.heap.IsSliceOf sl vl vu .none → IsPart vl lo → IsPart vu hi → r x lo hi H Q →
    ∃ T id, typeLookup (.type T) "__getitem__" = pure (some (.builtin id)) ∧ s.TypeIs v T ∧ wpAny (model X.prog X.w) X.A (getItem v (.ref sl)) (EP X pins σ Q) X.xe s
theorem SlR.or {r r' : V → Option Int → Option Int → Hp → VK → Prop} (h : SlR X r) (h' : SlR X r') : SlR X (fun x lo hi H Q => r x lo hi H Q ∨ r' x lo hi H Q) := by
  intro pins s σ H x v vl vu lo hi sl Q I rx hs pl pu q
  rcases q with q | q
  · exact h pins s σ H x v vl vu lo hi sl Q I rx hs pl pu q
  · exact h' pins s σ H x v vl vu lo hi sl Q I rx hs pl pu q
def tSl (r : V → Option Int → Option Int → Hp → VK → Prop) (te : TE) (tl th : TO) : TE := fun σ H Q => te σ H fun x H1 => tl σ H1 fun l H2 => th σ H2 fun u H3 => r x l u H3 Q
theorem pe_slice {r : V → Option Int → Option Int → Hp → VK → Prop} (hr : SlR X r) (he : PE X e te) (hl : PO X lo tl) (hu : PO X hi th) : PE X (.Subscript e (.Slice lo hi none p2) pos) (tSl r te tl th) := by
  intro pins s σ H Q I h
  refine Subscript_ (thn (he pins s σ H _ I h) fun v s1 ⟨x, H1, I1, r1, q1⟩ => ?_)
  refine wpAny_Slice (thn (hl pins s1 σ H1 _ I1 q1) fun vl s2 ⟨l, H2, I2, pl, q2⟩ => thn (hu pins s2 σ H2 _ I2 q2) fun vu s3 ⟨u, H3, I3, pu, q3⟩ => ?_)
  rw [evalPart_none]
  refine wpAny_pure ?_
  have I4 : Inv X pins σ H3 { s3 with heap := s3.heap.push { cls := .type "slice", data := .fields #[vl, vu, .none] } } := I3.kept (t' := s3.toks) fun b ob q => Heap.get?_push_of_some _ q
  obtain ⟨T, id, hT, ht, hg⟩ := hr pins { s3 with heap := s3.heap.push { cls := .type "slice", data := .fields #[vl, vu, .none] } } σ H3 x v vl vu l u s3.heap.objs.size Q I4 r1 (Heap.IsSliceOf.new ..) pl pu q3
  show wpAny (model X.prog X.w) X.A (subscriptTail e (.Slice lo hi none p2) v (.ref s3.heap.objs.size)) (EP X pins σ Q) X.xe { s3 with heap := s3.heap.push { cls := .type "slice", data := .fields #[vl, vu, .none] } }
  exact tail_any (ops := [.ref s3.heap.objs.size, v]) ht hT hg (by with_unfolding_all rfl)
def cutV (xs : List V) (lo hi : Option Int) : List V := (xs.drop (HT.sIx xs.length 0 lo)).take (HT.sIx xs.length xs.length hi - HT.sIx xs.length 0 lo)
theorem cutV_length (xs : List V) (lo hi : Option Int) : (cutV xs lo hi).length ≤ xs.length := by
  unfold cutV
  rw [List.length_take, List.length_drop]
  omega
def rSlT (K : PySem.W.Frag) : V → Option Int → Option Int → Hp → VK → Prop := fun x lo hi H Q => ∃ a xs, x = .ref a ∧ SqT K H a xs ∧
  ¬ (HT.sIx xs.length 0 lo = 0 ∧ HT.sIx xs.length xs.length hi = xs.length) ∧ ∀ p, H p = none → Q (.ref p) (upd H p (.tup (cutV xs lo hi)))
theorem sl_tup : SlR X (rSlT X.K) := by
  intro pins s σ H x v vl vu lo hi sl Q I rx hs pl pu h
  obtain ⟨a, xs, rfl, hx, hw, q⟩ := h
  cases rx
  obtain ⟨its, r, ht, hz⟩ := I.tuple hx
  have hlen : its.toArray.size = xs.length := by rw [List.size_toArray]; exact r.length.symm
  refine ⟨"tuple", _, PyProof.Rows.slot_tuple_getitem.lookup, ht.typeIs, ?_⟩
  refine HT.getItem_tuple_cut ht hs pl pu (by rw [hlen]; exact hw) ?_ (by rw [hlen]; exact hz)
  rw [hlen]
  refine ⟨.ref s.heap.objs.size, _, I.laid (t' := s.toks) (o := .tup (cutV xs lo hi)) (fun b ob q => Heap.get?_push_of_some _ q) (Nat.le_refl _) ?_, rfl, q _ (I.hok.fresh (Nat.le_refl _))⟩
  exact ⟨Nat.le_trans (cutV_length xs lo hi) hz, _, (r.drop (HT.sIx xs.length 0 lo)).take (HT.sIx xs.length xs.length hi - HT.sIx xs.length 0 lo), PTup.new _ _⟩
def rLtT (K : PySem.W.Frag) : R2 := fun x y H Q => ∃ a b ns ms, x = .ref a ∧ y = .ref b ∧ SqT K H a (ns.map V.int) ∧ SqT K H b (ms.map V.int) ∧ Q (.bl (HT.lexLt ns ms)) H
theorem op_ltT (hu : X.A.units < cLine) : OpR X (compareOp .Lt) (rLtT X.K) := by
  intro pins s σ H x y v u Q I rx ry h
  obtain ⟨a, b, ns, ms, rfl, rfl, ha, hb, q⟩ := h
  cases rx
  cases ry
  obtain ⟨its, r1, p1, _⟩ := I.tuple ha
  obtain ⟨its2, r2, p2, _⟩ := I.tuple hb
  have i1 : IntsAre its.toArray.toList ns := intsAre_of r1
  have i2 : IntsAre its2.toArray.toList ms := intsAre_of r2
  exact HT.lt_tupInts p1 p2 i1 i2 hu ⟨.bl (HT.lexLt ns ms), H, I, rfl, q⟩
def rCatT (K : PySem.W.Frag) : R2 := fun x y H Q => ∃ a b xs ys, x = .ref a ∧ y = .ref b ∧ SqT K H a xs ∧ SqT K H b ys ∧ xs ≠ [] ∧ xs.length + ys.length ≤ sizeLine ∧
  (ys = [] → Q (.ref a) H) ∧ (ys ≠ [] → ∀ p, H p = none → Q (.ref p) (upd H p (.tup (xs ++ ys))))
theorem Vals.nil_iff {xs : List V} {us : List Value} (r : Vals xs us) : us = [] ↔ xs = [] := by
  cases r with
  | nil => simp
  | cons _ _ => simp
theorem op_catT : OpR X (binaryOp .Add) (rCatT X.K) := by
  intro pins s σ H x y v u Q I rx ry h
  obtain ⟨a, b, xs, ys, rfl, rfl, ha, hb, hx, hz, q1, q2⟩ := h
  cases rx
  cases ry
  obtain ⟨its, r1, p1, _⟩ := I.tuple ha
  obtain ⟨its2, r2, p2, _⟩ := I.tuple hb
  refine HT.cat_tup p1 p2 (fun z => hx (r1.nil_iff.mp z)) (fun z => ⟨.ref a, H, I, rfl, q1 (r2.nil_iff.mp z)⟩) (fun z => ?_) (by rw [← r1.length, ← r2.length]; exact hz)
  refine ⟨.ref s.heap.objs.size, _, I.laid (t' := s.toks) (o := .tup (xs ++ ys)) (fun b ob q => Heap.get?_push_of_some _ q) (Nat.le_refl _) ?_, rfl, q2 (fun w => z (r2.nil_iff.mpr w)) _ (I.hok.fresh (Nat.le_refl _))⟩
  exact ⟨by rw [List.length_append]; exact hz, _, r1.append r2, PTup.new _ _⟩
end
end L2
namespace L2
open PySem PySem.Spec PyProof.Rows
def ixN (n : Nat) (i : Int) : Option Nat := if 0 ≤ i then (if i < n then some i.toNat else none) else if -(n : Int) ≤ i then some (i + n).toNat else none
def atI {α : Type} (xs : List α) (i : Int) : Option α := (ixN xs.length i).bind fun j => xs[j]?
theorem ixN_seq {n : Nat} {i : Int} {j : Nat} (h : ixN n i = some j) : seqIndex? i n = some j ∧ j < n ∧ -(n : Int) ≤ i ∧ i < n := by
  unfold ixN at h
  by_cases h0 : 0 ≤ i
  · rw [if_pos h0] at h
    by_cases h1 : i < n
    · rw [if_pos h1] at h
      have e : i.toNat = j := Option.some.inj h
      exact ⟨by rw [seqIndex_of h0 h1, e], by omega, by omega, h1⟩
    · rw [if_neg h1] at h; cases h
  · rw [if_neg h0] at h
    by_cases h1 : -(n : Int) ≤ i
    · rw [if_pos h1] at h
      have e : (i + n).toNat = j := Option.some.inj h
      exact ⟨by rw [seqIndex_neg (by omega) h1, e], by omega, h1, by omega⟩
    · rw [if_neg h1] at h; cases h
theorem atI_get {α : Type} {xs : List α} {i : Int} {v : α} (h : atI xs i = some v) : ∃ j, seqIndex? i xs.length = some j ∧ xs[j]? = some v ∧ j < xs.length ∧ -(xs.length : Int) ≤ i ∧ i < xs.length := by
  unfold atI at h
  cases e : ixN xs.length i with
  | none => rw [e] at h; cases h
  | some j =>
    rw [e] at h
    obtain ⟨h1, h2, h3, h4⟩ := ixN_seq e
    exact ⟨j, h1, h, h2, h3, h4⟩
theorem atI_nat {α : Type} {xs : List α} {j : Nat} {v : α} (h : xs[j]? = some v) : atI xs (j : Int) = some v := by
  have hj : j < xs.length := (List.getElem?_eq_some_iff.mp h).1
  have e : ixN xs.length (j : Int) = some j := by
    unfold ixN
    rw [if_pos (by omega), if_pos (by omega)]; simp
  unfold atI; rw [e]; exact h
def PlainIx (b : Expr) : Prop := ∀ o i, subscripted b false o i = operate [o, i] (getItem o i)
def IxR (X : Cx) (r : R2) : Prop :=
  ∀ (value slice : Expr) (pins : List (Addr × Obj)) (s : Shared) (σ : St) (H : Hp) (x y : V) (v u : Value) (Q : VK), Inv X pins σ H s → RelV x v → RelV y u → r x y H Q →
    subscripted slice false v u = operate [v, u] (getItem v u) → wpAny (model X.prog X.w) X.A (subscriptTail value slice v u) (EP X pins σ Q) X.xe s
def MtR (X : Cx) (id : String) (r : V → List V → Hp → VK → Prop) : Prop :=
  ∀ (pins : List (Addr × Obj)) (s : Shared) (σ : St) (H : Hp) (x : V) (xs : List V) (v : Value) (us : List Value) (Q : VK), Inv X pins σ H s → RelV x v → Vals xs us → r x xs H Q →
    wpAny (model X.prog X.w) X.A (call (.builtin id) (v :: us)) (EP X pins σ Q) X.xe s
section
variable {X : Cx} {a b : Expr} {ta tb : TE} {pos : Pos}
theorem IxR.or {r r' : R2} (h : IxR X r) (h' : IxR X r') : IxR X (fun x y H Q => r x y H Q ∨ r' x y H Q) := by
  intro value slice pins s σ H x y v u Q I rx ry q hs
  rcases q with q | q
  · exact h value slice pins s σ H x y v u Q I rx ry q hs
  · exact h' value slice pins s σ H x y v u Q I rx ry q hs
theorem pe_ix {r : R2} (hr : IxR X r) (ha : PE X a ta) (hb : PE X b tb) (hs : PlainIx b) : PE X (.Subscript a b pos) (tOp r ta tb) := by
  intro pins s σ H Q I h
  exact Subscript_ (binT ha hb I h fun v u s2 x y H2 I2 rx ry q => hr a b pins s2 σ H2 x y v u Q I2 rx ry q (hs _ _))
def rIxL (K : PySem.W.Frag) : R2 := fun x y H Q => ∃ p xs i v, x = .ref p ∧ y = .int i ∧ SqL K H p xs ∧ atI xs i = some v ∧ Q v H
def rIxT (K : PySem.W.Frag) : R2 := fun x y H Q => ∃ p xs i v, x = .ref p ∧ y = .int i ∧ SqT K H p xs ∧ atI xs i = some v ∧ Q v H
def rIxS : R2 := fun x y H Q => ∃ z i c, x = .str z ∧ y = .int i ∧ z.length ≤ sizeLine ∧ atI z.cps.toList i = some c ∧ Q (.str ⟨#[c]⟩) H
theorem ix_list : IxR X (rIxL X.K) := by
  intro value slice pins s σ H x y v u Q I rx ry h hs
  obtain ⟨p, xs, i, z, rfl, rfl, hq, he, q⟩ := h
  cases rx
  obtain ⟨t, rfl⟩ := ry
  obtain ⟨its, r, pl, hz⟩ := I.list hq
  obtain ⟨j, h1, h2, h3, h4, h5⟩ := atI_get he
  obtain ⟨w, ew, rw'⟩ := r.get h2
  have hl := r.length
  have hn := line63
  have fin : EP X pins σ Q w s := ⟨z, H, I, rw', q⟩
  by_cases h0 : 0 ≤ i
  · have hj : i.toNat = j := by
      rw [seqIndex_of h0 h5] at h1
      exact Option.some.inj h1
    exact item_listR pl.isList h0 (by omega) (by rw [hj]; simpa using ew) fin hs
  · have hj : (i + (its.toArray.size : Int)).toNat = j := by
      rw [seqIndex_neg (by omega) h4] at h1
      rw [List.size_toArray, ← hl]
      exact Option.some.inj h1
    exact subscriptTail_builtinR (x := w) pl.isList.typeIs slot_list_getitem.lookup
      (wpAny_getItem_list_neg (Q := fun r s' => r = w ∧ EP X pins σ Q r s') pl.isList (by omega) (by rw [List.size_toArray] <;> omega) (by omega) (by rw [hj]; simpa using ew) ⟨rfl, fin⟩) hs
theorem ix_tup : IxR X (rIxT X.K) := by
  intro value slice pins s σ H x y v u Q I rx ry h hs
  obtain ⟨p, xs, i, z, rfl, rfl, hq, he, q⟩ := h
  cases rx
  obtain ⟨t, rfl⟩ := ry
  obtain ⟨its, r, pl, hz⟩ := I.tuple hq
  obtain ⟨j, h1, h2, h3, h4, h5⟩ := atI_get he
  obtain ⟨w, ew, rw'⟩ := r.get h2
  have hl := r.length
  have hn := line63
  have fin : EP X pins σ Q w s := ⟨z, H, I, rw', q⟩
  exact subscriptTail_builtinR (x := w) pl.typeIs slot_tuple_getitem.lookup
    (getItem_tuple (j := j) (Q := fun r s' => r = w ∧ EP X pins σ Q r s') pl (by omega) (by omega) (by rw [List.size_toArray, ← hl]; exact h1) (by simpa using ew) ⟨rfl, fin⟩) hs
theorem ix_str : IxR X rIxS := by
  intro value slice pins s σ H x y v u Q I rx ry h hs
  obtain ⟨z, i, c, rfl, rfl, hz, he, q⟩ := h
  obtain ⟨t, rfl⟩ := rx
  obtain ⟨t', rfl⟩ := ry
  obtain ⟨j, h1, h2, h3, h4, h5⟩ := atI_get he
  have hl : z.cps.toList.length = z.length := by simp [Str.length]
  rw [hl] at h1 h4 h5
  have hn := line63
  exact tail_any (typeIs_str s z t) slot_str_getitem.lookup (getItem_str (c := c) (by
    have e1 : decide (i < -(2 ^ 63 : Int)) = false := decide_eq_false (by omega)
    have e2 : decide (i ≥ 2 ^ 63) = false := decide_eq_false (by omega)
    rw [e1, e2, Bool.or_false]) (by rw [h1]; simpa using h2) ⟨.str ⟨#[c]⟩, H, I.tok _, ⟨_, rfl⟩, q⟩) hs
def rIx (K : PySem.W.Frag) : R2 := fun x y H Q => rIxL K x y H Q ∨ rIxT K x y H Q ∨ rIxS x y H Q
theorem ix_seq : IxR X (rIx X.K) := ix_list.or (ix_tup.or ix_str)
theorem Inv.lst {pins : List (Addr × Obj)} {σ : St} {H : Hp} {s : Shared} {p : Addr} {xs : List V} (I : Inv X pins σ H s) (h : H p = some (.lst xs)) :
    ∃ (its : List Value) (n : Nat), Vals xs its ∧ s.heap.get? p = some { cls := .type "list", data := .seq its.toArray n } ∧ xs.length ≤ sizeLine := by
  obtain ⟨z, its, n, r, e⟩ := I.hok p _ h
  exact ⟨its, n, r, e, z⟩
theorem slice_bounds (lo hi : Option Int) (n : Nat) : (sliceBounds lo hi none n).1 = ((HT.sIx n 0 lo : Nat) : Int) ∧ (sliceBounds lo hi none n).2.1 = ((HT.sIx n n hi : Nat) : Int) ∧ (sliceBounds lo hi none n).2.2 = 1 := by
  refine ⟨?_, ?_, rfl⟩
  · cases lo with
    | none => simp [sliceBounds, HT.sIx]
    | some i =>
      simp only [sliceBounds, HT.sIx, Option.getD_none, show (1 : Int) > 0 by decide, if_true]
      by_cases h : i < 0
      · simp only [h, if_true] <;> omega
      · simp only [h, if_false] <;> omega
  · cases hi with
    | none => simp [sliceBounds, HT.sIx]
    | some i =>
      simp only [sliceBounds, HT.sIx, Option.getD_none, show (1 : Int) > 0 by decide, if_true]
      by_cases h : i < 0
      · simp only [h, if_true] <;> omega
      · simp only [h, if_false] <;> omega
theorem slicePick_cut (its : List Value) (lo hi : Option Int) : slicePick its.toArray lo hi none = ((its.drop (HT.sIx its.length 0 lo)).take (HT.sIx its.length its.length hi - HT.sIx its.length 0 lo)).toArray := by
  obtain ⟨h1, h2, h3⟩ := slice_bounds lo hi its.toArray.size
  unfold slicePick
  rw [h1, h2, h3]
  simp only [sliceRange_one, pick_run, List.size_toArray] <;> rfl
def rSlL (K : PySem.W.Frag) : V → Option Int → Option Int → Hp → VK → Prop := fun x lo hi H Q => ∃ a xs, x = .ref a ∧ SqL K H a xs ∧ ∀ p, H p = none → Q (.ref p) (upd H p (.lst (cutV xs lo hi)))
theorem sl_list : SlR X (rSlL X.K) := by
  intro pins s σ H x v vl vu lo hi sl Q I rx hs pl pu h
  obtain ⟨a, xs, rfl, hx, q⟩ := h
  cases rx
  obtain ⟨its, r, ht, hz⟩ := I.list hx
  have hlen := r.length
  refine ⟨"list", _, slot_list_getitem.lookup, ht.isList.typeIs, ?_⟩
  refine wpAny_getItem_list_slice ht.isList hs pl pu .none (by simp) ?_ (by rw [List.size_toArray] <;> omega)
  rw [slicePick_cut, ← hlen]
  refine ⟨.ref s.heap.objs.size, _, I.laid (t' := s.toks) (o := .lst (cutV xs lo hi)) (fun b ob q => Heap.get?_push_of_some _ q) (Nat.le_refl _) ?_, rfl, q _ (I.hok.fresh (Nat.le_refl _))⟩
  exact ⟨Nat.le_trans (cutV_length xs lo hi) hz, _, 0, (r.drop (HT.sIx xs.length 0 lo)).take (HT.sIx xs.length xs.length hi - HT.sIx xs.length 0 lo), Heap.get?_push_size _ rfl⟩
theorem call_len_seq : CallR X (.builtin "len") (fun xs H Q => ∃ p ys, xs = [.ref p] ∧ (SqL X.K H p ys ∨ SqT X.K H p ys) ∧ Q (.int ys.length) H) := by
  intro pins s σ H xs us Q I r h
  obtain ⟨p, ys, rfl, hq, q⟩ := h
  obtain ⟨u, rfl, rx⟩ := vals1 r
  cases rx
  have hn := line63
  rcases hq with hq | hq
  · obtain ⟨its, r', pl, hz⟩ := I.list hq
    have hlen := r'.length
    exact Calls.call_len_list pl.isList (by simp only [List.size_toArray] <;> omega) ⟨.int ys.length, H, I.tok _, ⟨s.toks + 1, by rw [List.size_toArray, hlen]⟩, q⟩
  · obtain ⟨its, r', pl, hz⟩ := I.tuple hq
    have hlen := r'.length
    exact len_tuple pl (by simp only [List.size_toArray] <;> omega) ⟨.int ys.length, H, I.tok _, ⟨s.toks + 1, by rw [List.size_toArray, hlen]⟩, q⟩
theorem call_len_str : CallR X (.builtin "len") (fun xs H Q => ∃ z, xs = [.str z] ∧ z.length ≤ sizeLine ∧ Q (.int z.length) H) := by
  intro pins s σ H xs us Q I r h
  obtain ⟨z, rfl, hz, q⟩ := h
  obtain ⟨u, rfl, t, rfl⟩ := vals1 r
  have hn := line63
  exact len_str (by omega) ⟨.int z.length, H, I.tok _, ⟨_, rfl⟩, q⟩
theorem call_tuple_of : CallR X (.type "tuple") (fun xs H Q => ∃ p ys, xs = [.ref p] ∧ ((SqL X.K H p ys ∧ ∀ l, H l = none → Q (.ref l) (upd H l (.tup ys))) ∨ (SqT X.K H p ys ∧ Q (.ref p) H))) := by
  intro pins s σ H xs us Q I r h
  obtain ⟨p, ys, rfl, h⟩ := h
  obtain ⟨u, rfl, rx⟩ := vals1 r
  cases rx
  rcases h with ⟨hq, q⟩ | ⟨hq, q⟩
  · obtain ⟨its, r', pl, hz⟩ := I.list hq
    have hlen := r'.length
    refine call_tuple_list pl.isList (fun h' kp => ?_) (by simp only [List.size_toArray] <;> omega)
    have I1 : Inv X pins σ H { s with heap := h' } := I.kept (t' := s.toks) kp
    have I2 : Inv X pins σ (upd H h'.objs.size (.tup ys)) { s with heap := h'.push { cls := .type "tuple", data := .seq its.toArray } } :=
      I1.laid (t' := s.toks) (fun b o e => Heap.get?_push_of_some _ e) (Nat.le_refl _) (show ObjOk X.prog X.w _ _ _ (.tup ys) from ⟨hz, its, r', PTup.new _ _⟩)
    exact ⟨.ref h'.objs.size, _, I2, rfl, q _ (I1.hok.fresh (Nat.le_refl _))⟩
  · obtain ⟨its, r', pl, hz⟩ := I.tuple hq
    exact call_tuple_same pl ⟨.ref p, H, I, rfl, q⟩
def tyV (K : PySem.W.Frag) (T : String) (x : V) (H : Hp) : Prop := match x with
  | .str _ => T = "str"
  | .int _ => T = "int"
  | .ref p => (T = "list" ∧ ∃ xs, SqL K H p xs) ∨ (T = "tuple" ∧ ∃ xs, SqT K H p xs) ∨
      (T = "dict" ∧ ((∃ kvs, H p = some (.dK kvs)) ∨ ∃ kvs, H p = some (.dT kvs))) ∨ (T = "set" ∧ ∃ S n, H p = some (.set S n))
  | _ => False
theorem tyV_is {pins : List (Addr × Obj)} {σ : St} {H : Hp} {s : Shared} {T : String} {x : V} {v : Value} (I : Inv X pins σ H s) (r : RelV x v) (ty : tyV X.K T x H) :
    s.TypeIs v T ∧ ∀ a, v = .ref a → ∃ ob, s.heap.get? a = some ob ∧ ob.dict = none := by
  cases x with
  | str z =>
    obtain ⟨t, rfl⟩ := r
    cases (show T = "str" from ty)
    exact ⟨typeIs_str s z t, fun _ e => nomatch e⟩
  | int i =>
    obtain ⟨t, rfl⟩ := r
    cases (show T = "int" from ty)
    exact ⟨typeIs_int s i t, fun _ e => nomatch e⟩
  | ref p =>
    cases r
    rcases ty with ⟨rfl, xs, hq⟩ | ⟨rfl, xs, hq⟩ | ⟨rfl, hk⟩ | ⟨rfl, S, n, hk⟩
    · obtain ⟨its, _, pl, _⟩ := I.list hq
      refine ⟨pl.isList.typeIs, fun a e => ?_⟩
      cases e
      obtain ⟨o, n, e, c, hd, _⟩ := pl
      exact ⟨o, e, hd⟩
    · obtain ⟨o, e0, hc, hd⟩ := I.tupleP hq
      refine ⟨⟨o, e0, hc⟩, fun a e => ?_⟩
      cases e
      exact ⟨o, e0, hd⟩
    · have z : ∃ o, s.heap.get? p = some o ∧ o.ExactDict := by
        rcases hk with ⟨kvs, hk⟩ | ⟨kvs, hk⟩
        · obtain ⟨_, _, _, _, o, _, _, e, ex, _⟩ := I.hok p _ hk
          exact ⟨o, e, ex⟩
        · obtain ⟨_, _, _, _, o, _, _, e, ex, _⟩ := I.hok p _ hk
          exact ⟨o, e, ex⟩
      obtain ⟨o, e, ex⟩ := z
      refine ⟨⟨o, e, ex.1⟩, fun a e2 => ?_⟩
      cases e2
      exact ⟨o, e, ex.2.1⟩
    · obtain ⟨o, _, _, _, e, ex, _⟩ := I.hok p _ hk
      refine ⟨⟨o, e, ex.1⟩, fun a e2 => ?_⟩
      cases e2
      exact ⟨o, e, ex.2.1⟩
  | _ => exact False.elim ty
def tBM (K : PySem.W.Frag) (T : String) (r : V → List V → Hp → VK → Prop) (to : TE) (t : TA) : TE := fun σ H Q => to σ H fun x H1 => tyV K T x H1 ∧ t σ H1 fun xs H2 => r x xs H2 Q
variable {o e : Expr} {es : List Expr} {to : TE} {t : TA} {name : Str} {apos cpos : Pos} {T id : String} {r : V → List V → Hp → VK → Prop}
theorem pe_bm (pa : PlainAttrs T) (slot : Slot T name id) (hty : typeOf (.builtin id) = pure (.type "method_descriptor")) (hm : MtR X id r) (ho : PE X o to) (ha : PA X (e :: es) t)
    (hbase : attributeBase o name X.env (eval o X.env) = eval o X.env := by rfl)
    (hfew : ((backTo cpos (starEach (e :: es) X.env)).all (fun x => !x.1) && (backToKw cpos (keywordEach [] X.env)).all (fun x => x.1.isSome)
      && decide ((e :: es).length + ([] : List Keyword).length + (if ([] : List Keyword).isEmpty then 0 else 1) < 30)) = true := by rfl)
    (hline : (apos.endLine == cpos.line) = true := by rfl) (hs : starEach (e :: es) X.env = (false, eval e X.env) :: starEach es X.env := by rfl) (hplain : (backTo cpos (starEach es X.env)).any (·.1) = false := by rfl) :
    PE X (.Call (.Attribute o name apos) (e :: es) [] cpos) (tBM X.K T r to t) := by
  intro pins s σ H Q I h
  refine wpAny_Call_method_late hbase hfew hline rfl (thn (ho pins s σ H _ I h) fun v s1 ⟨x, H1, I1, r1, ty, q1⟩ => ?_)
  obtain ⟨h1, h2⟩ := tyV_is I1 r1 ty
  refine ⟨T, id, pa, slot, hty, h1, h2, ?_⟩
  have hA := ha cpos pins s1 σ H1 _ I1 q1
  rw [hs] at hA ⊢
  refine Calls.callWith_builtin (by show (false || (backTo cpos (starEach es X.env)).any (·.1)) = false; rw [hplain] <;> rfl) (Calls.evalArgs_plain ?_)
  exact thn hA fun us s2 ⟨vs, H2, I2, r2, q2⟩ => hm pins s2 σ H2 x vs v us Q I2 r1 r2 q2
/- xs.append(e), list.index on a module's tuple .. are MtR facts of 06m -/
end
end L2
namespace L2
open PySem PySem.Spec PyProof.Rows
def MtM (X : Cx) (id : String) (r : V → List V → Hp → VK → Prop) : Prop :=
  ∀ (pins : List (Addr × Obj)) (s : Shared) (σ : St) (H : Hp) (x : V) (xs : List V) (v : Value) (us : List Value) (Q : VK), Inv X pins σ H s → RelV x v → Vals xs us → r x xs H Q →
    wpAny (model X.prog X.w) X.A (call (.builtin id) (v :: us)) (EP X pins σ Q) X.xe s
theorem Vals.one : ∀ {x : V} {us : List Value}, Vals [x] us → ∃ u, us = [u] ∧ RelV x u
  | _, _, .cons r .nil => ⟨_, rfl, r⟩
theorem Vals.zero : ∀ {us : List Value}, Vals [] us → us = []
  | _, .nil => rfl
theorem Vals.rep {xs : List V} {us : List Value} (h : Vals xs us) : ∀ k : Nat, Vals (List.replicate k xs).flatten (List.replicate k us).flatten
  | 0 => .nil
  | k + 1 => by
    rw [List.replicate_succ, List.replicate_succ, List.flatten_cons, List.flatten_cons]
    exact Vals.append h (Vals.rep h k)
theorem foldl_rep (its : List Value) : ∀ (k : Nat) (acc : List Value),
    List.foldl (fun x1 x2 => x1 ++ x2) acc.toArray (List.replicate k its.toArray) = (acc ++ (List.replicate k its).flatten).toArray
  | 0, acc => by simp
  | k + 1, acc => by
    have e : acc.toArray ++ its.toArray = (acc ++ its).toArray := by simp
    have e2 : (acc ++ its) ++ (List.replicate k its).flatten = acc ++ (List.replicate (k + 1) its).flatten := by
      rw [List.replicate_succ, List.flatten_cons, List.append_assoc]
    rw [← e2, ← foldl_rep its k (acc ++ its), ← e, List.replicate_succ, List.foldl_cons]
section
variable {X : Cx} {pins : List (Addr × Obj)} {σ : St} {H : Hp} {s : Shared} {l b : Addr} {xs ys zs : List V}
theorem Inv.lset {its its' : List Value} {n : Nat} {f : Array Value → Array Value} {t' : Nat} (I : Inv X pins σ H s) (hH : H l = some (.lst xs))
    (e : s.heap.get? l = some { cls := .type "list", data := .seq its.toArray n }) (hf : f its.toArray = its'.toArray) (hv : Vals ys its') (hz : ys.length ≤ sizeLine) :
    Inv X pins σ (upd H l (.lst ys)) { s with heap := s.heap.update l (Obj.mapSeq f), toks := t' } := by
  have q := PySem.IsL.update e f
  rw [hf] at q
  refine I.write (x := l) (e := l) (by rw [hH]; exact trivial) (.inl rfl) (fun b' u hb hu => (Heap.get?_update_other s.heap (Obj.mapSeq f) (Ne.symm hb)).trans hu) ⟨_, q⟩ ?_
  exact ⟨hz, its', _, hv, q⟩
theorem Inv.lnew {its : List Value} {t' : Nat} (I : Inv X pins σ H s) (hv : Vals ys its) (hz : ys.length ≤ sizeLine) :
    Inv X pins σ (upd H s.heap.objs.size (.lst ys)) { s with heap := s.heap.push { cls := .type "list", data := .seq its.toArray }, toks := t' } :=
  I.laid (fun _ _ q => Heap.get?_push_of_some _ q) (Nat.le_refl _) ⟨hz, its, 0, hv, Heap.get?_push_size _ rfl⟩
theorem Inv.fresh (I : Inv X pins σ H s) : H s.heap.objs.size = none := I.hok.fresh (Nat.le_refl _)
theorem Inv.lstM (I : Inv X pins σ H s) (hH : H l = some (.lst xs)) : xs.length ≤ sizeLine ∧ ∃ (its : List Value) (n : Nat), Vals xs its ∧ xs.length = its.length ∧ s.heap.get? l = some { cls := .type "list", data := .seq its.toArray n } := by
  obtain ⟨z, its, n, r, e⟩ := I.hok l _ hH
  exact ⟨z, its, n, r, r.length, e⟩
end
section
variable {X : Cx}
def rAppend : V → List V → Hp → VK → Prop := fun x vs H Q => ∃ l xs y, x = .ref l ∧ vs = [y] ∧ H l = some (.lst xs) ∧ xs.length < sizeLine ∧ Q .non (upd H l (.lst (xs ++ [y])))
theorem mt_append : MtM X "list.append" rAppend := by
  intro pins s σ H x vs v us Q I rx rv h
  obtain ⟨l, xs, y, rfl, rfl, hH, hz, q⟩ := h
  cases rx
  obtain ⟨u, rfl, ru⟩ := rv.one
  obtain ⟨z, its, n, r, hl, e⟩ := I.lstM hH
  refine call_meets F.slot_list_append ⟨_, e, rfl⟩ F.entry_list_append (F.args_list_append_2 _ _) (PySem.list_append l its.toArray n u (by rw [List.size_toArray]; omega)) ⟨e, ?_⟩
  refine ⟨.non, _, I.lset (its' := its ++ [u]) hH e (by simp) (r.append (.cons ru .nil)) ?_, rfl, q⟩
  rw [List.length_append, List.length_singleton]
  omega
theorem len_rep {α : Type} (xs : List α) (k : Nat) : (List.replicate k xs).flatten.length = k * xs.length := by
  induction k with
  | zero => simp
  | succ k ih => rw [List.replicate_succ, List.flatten_cons, List.length_append, ih, Nat.succ_mul, Nat.add_comm]
end
end L2
namespace Att
open PySem PySem.W PySem.Calls PyProof.Rows
theorem ints_of_wellAll {P : Params} {h : Heap} : ∀ (ns : List Int) (vs : List Value), WellAll P h vs (ns.map WData.int) → IntsAre vs ns := by
  intro ns
  induction ns with
  | nil =>
    intro vs w
    rw [List.map_nil] at w
    cases w
    exact .nil
  | cons n ns ih =>
    intro vs w
    rw [List.map_cons] at w
    cases w with
    | cons a b =>
      cases a
      exact .cons _ _ (ih _ b)
theorem script_of {l : OpenLaw} {n : Nat} (hn : l.most = some n) {P : Params} {h : Heap} {args : List WData} {vals : List Value}
    (hpre : l.row.toRowW.claim.pre args = true) (hwl : WellAll P h vals args) :
    ∃ a vs ns, vals = [Value.ref a] ∧ args = [WData.list (ns.map WData.int)] ∧ h.get? a = some { cls := .type "list", data := .seq vs.toArray } ∧ IntsAre vs ns ∧ ns.length ≤ n := by
  have hsh : WShape.hasAll [] args [.list .int] = true := (pre_splitW hpre).1
  have hc : l.pre.holds [] { args := args } = true := (pre_splitW hpre).2
  obtain ⟨d, r, rfl, h1, h2⟩ := hasAllW_cons hsh
  obtain rfl := hasAllW_nil h2
  obtain ⟨xs, rfl, h3⟩ := hasW_list h1
  obtain ⟨ns, rfl⟩ := items_int h3
  have hlen : ns.length ≤ n := by
    unfold OpenLaw.pre at hc
    have h4 : (WTm.not (.lt (.lit (.int (n : Int))) (.len (.arg 0)))).holds [] { args := [.list (ns.map .int)] } = true := by
      have h4 := (holds_andW hc).1
      rw [hn] at h4
      exact h4
    have h5 := condW_of h4 (w_not (w_lt w_lit (w_len_list (w_arg rfl))))
    rw [List.length_map] at h5
    refine Nat.le_of_not_lt fun q => ?_
    have q' : (n : Int) < ((ns.length : Nat) : Int) := by omega
    first
      | (rw [decide_eq_true q'] at h5; exact absurd h5 (by decide))
      | (simp at h5; omega)
  cases hwl with
  | cons w1 w2 =>
    cases w2
    cases w1 with
    | list ho hall => exact ⟨_, _, ns, rfl, rfl, ho, ints_of_wellAll ns _ hall, hlen⟩
theorem post_true (l : OpenLaw) (args : List WData) : l.row.toRowW.claim.post args (.bool true) args = true :=
  postW_of (r := l.row.toRowW) (X := (true == true))
    (show WShape.has [] (.bool true) .bool = true by first | rfl | decide | simp [WShape.has, WShape.arms, WShape.armsAll])
    (show (WTm.eq .res (.lit (.bool true))).value [] { args := args, res := some (.bool true), after := args } = some (.bool (true == true)) from w_eq_bool (w_res rfl) w_lit) rfl
theorem attach_call {l : OpenLaw} {n : Nat} {q : Program} {loose : List Str} {XP : (Str → Option Value) → Heap → Prop} {YP : World → Heap → Prop} {d : DefRec}
    (hn : l.most = some n) (hdf : d.params.defaults = [])
    (call : ∀ (w : World) (s₀ s₁ : Shared) (mg mb : Str → Option Value) (fa : Addr) (o : Obj) (pm cd doc : Value) (a : Addr) (vs : List Value) (ns : List Int),
      Ground q loose [] XP w s₀ mg mb s₁.heap → YP w s₁.heap →
      s₁.heap.get? fa = some o → o.data = .func (docDef d.name d.params d.body d.scope pm cd doc) → s₁.heap.CodeRec cd d.name → mg d.name = some (.ref fa) →
      s₁.heap.get? a = some { cls := .type "list", data := .seq vs.toArray } → IntsAre vs ns → ns.length ≤ n → s₁.gens = #[] →
      codeAny (model l.prog w) callerA (.call (.ref fa) ⟨[.ref a], []⟩) (fun r s' => r = .ok (.ret (.bool true)) ∧ OldK s₁.heap s'.heap ∧ s'.os = s₁.os ∧ AllBare s'.gens) s₁) :
    WalkO q loose XP YP l.row.toRowW d [] (fun f vs => PySem.call f vs) := by
  intro w s₀ s₁ mg mb G Y fa o pm cd doc dV kV ho hd hcd hD hmg hg args vals as hpre hlay hrd hwl hlo
  obtain rfl : dV = .none := Dflts.none hD hdf
  obtain rfl : kV = .none := Dflts.noKw hD
  obtain ⟨a, vs, ns, rfl, rfl, hobj, hints, hlen⟩ := script_of hn hpre hwl
  refine enter_call (codeAny_mono (call w s₀ s₁ mg mb fa o pm cd doc a vs ns G Y ho (fd_plain hd) hcd hmg hobj hints hlen hg) fun r s' hq => ?_)
  obtain ⟨rfl, h2, h3, h4⟩ := hq
  exact ⟨.inl ⟨.bool true, .bool true, [], rfl, fun _ => rfl, .bool true, post_true l _, fun _ => ⟨List.Pairwise.nil, fun _ hm => (nomatch hm)⟩⟩, h2, h3, h4⟩
end Att
namespace L2
open PySem PySem.Spec PyProof.Rows
theorem vals_ints : ∀ {vs : List Value} {ns : List Int}, IntsAre vs ns → Vals (ns.map V.int) vs
  | _, _, .nil => .nil
  | _, _, .cons n t h => .cons ⟨t, rfl⟩ (vals_ints h)
end L2
namespace L2
open PySem PySem.Spec PyProof.Rows
end L2
/- THE LAST THEOREM (shape; LID, My.* are yours):
   My.Adr: a structure of the addresses that your layer names (classes, functions); My.Txt K t: a structure (Prop) of the equations over K;
   My.txt_mk : {K} {implicit addresses ..} (e1 : nsIn K mainGlobals "law" = some (some (.ref f))) (e2 : K.lookup f = some ⟨oc, od, .func (fnOf "law" "law" params body scope dV kV doc pm an cdv ct), sl⟩) (e3 : codeIn K cdv "law" = true) .. : ∃ t, My.Txt K t
(the tactic k_is has no namespace: write k_is) -/
namespace L2
open PySem PySem.Spec PyProof.Rows
def defArgs (s : Stmt) : Arguments := match s with
  | .FunctionDef _ a _ _ _ _ _ _ _ _ => a
  | _ => { posonlyargs := [], args := [], vararg := none, kwonlyargs := [], kw_defaults := [], kwarg := none, defaults := [] }
def defBody (s : Stmt) : List Stmt := match s with
  | .FunctionDef _ _ b _ _ _ _ _ _ _ => b
  | _ => []
def defScope (s : Stmt) : Scope := match s with
  | .FunctionDef _ _ _ _ _ _ sc _ _ _ => sc
  | _ => { kind := .function, names := [], isGenerator := false, isCoroutine := false }
abbrev CX0 : CXT := fun _ _ _ _ _ _ => False
abbrev E0 : XK := fun _ _ _ => False
theorem pass0 {X : Cx} : Passes CX0 X E0 := fun _ _ _ _ _ _ _ h => h.elim
structure Fun (K : PySem.W.Frag) (x qual : Str) (st : Stmt) (f : Addr) (fd : FuncData) : Prop where
  ex : ∃ (oc : Value) (od : Option Addr) (kV doc pm : Value) (an : Option Addr) (cdv ct : Value) (osl : Array (Option Value)),
    fd = PySem.W.fnOf x qual (defArgs st) (defBody st) (defScope st) .none kV doc pm an cdv ct ∧ K.lookup f = some ⟨oc, od, .func fd, osl⟩ ∧ PySem.W.codeIn K cdv qual = true
  kp : PySem.W.keepIn K (.ref f) = true
section
variable {P : Program} {w : World} {K : PySem.W.Frag} {mg : Str → Option Value} {base : Heap}
theorem Fun.ok {x qual : Str} {st : Stmt} {f : Addr} {fd : FuncData} {N ps : List Str} {k : Nat} {sp : Sp} (F : Fun K x qual st f fd) (S : FnScope N ps (defScope st)) (len : ∀ vs H Q E, sp vs H Q E → vs.length = ps.length)
    (hbody : ∀ (cdv : Value) (A : Around) (outer : List Env) (s : Shared) (H : Hp) (vs : List V) (Q : VK) (E : XK), Room k (A.deeper (envOfC qual (defScope st) s.heap.objs.size f cdv)) → sp vs H Q E →
      ∃ t, PSs (cxOf CX0 P w K mg base N qual (defScope st) f cdv A outer s H E).nox (defBody st) t ∧ t { nx := fun _ H' => Q .non H', rt := Q } (start N vs) H) : FnOk P w K mg base CX0 (k + 1) f fd ps sp := by
  obtain ⟨oc, od, kV, doc, pm, an, cdv, ct, osl, rfl, lk, hcd⟩ := F.ex
  refine fn_of lk hcd S len fun A outer s H vs Q E hr hsp => ?_
  obtain ⟨t, h, q⟩ := hbody cdv A outer s H vs Q E hr hsp
  exact ⟨t, h.nox, q⟩
theorem Fun.binds {x qual : Str} {st : Stmt} {f : Addr} {fd : FuncData} {ps : List Str} (F : Fun K x qual st f fd)
    (h : ∀ (kV doc pm : Value) (an : Option Addr) (cdv ct : Value) (us : List Value), us.length = ps.length → bindArgs (PySem.W.fnOf x qual (defArgs st) (defBody st) (defScope st) .none kV doc pm an cdv ct) ⟨us, []⟩ = pure (ps.zip us)) : Binds K fd ps [] := by
  obtain ⟨oc, od, kV, doc, pm, an, cdv, ct, osl, rfl, lk, hcd⟩ := F.ex
  exact .all (h kV doc pm an cdv ct)
theorem fun_mk {x qual : Str} {st : Stmt} {f : Addr} {oc : Value} {od an : Option Addr} {osl : Array (Option Value)} {kV doc pm cdv ct : Value} (l : K.lookup f = some ⟨oc, od, .func (PySem.W.fnOf x qual (defArgs st) (defBody st) (defScope st) .none kV doc pm an cdv ct), osl⟩)
    (c : PySem.W.codeIn K cdv qual = true) (k : PySem.W.keepIn K (.ref f) = true) : Fun K x qual st f (PySem.W.fnOf x qual (defArgs st) (defBody st) (defScope st) .none kV doc pm an cdv ct) := ⟨⟨oc, od, kV, doc, pm, an, cdv, ct, osl, rfl, l, c⟩, k⟩
end
theorem iteF {A B : Prop} (h : B) : if false = true then A else B := by
  rw [if_neg Bool.false_ne_true]
  exact h
theorem iteT {A B : Prop} (h : A) : if true = true then A else B := by
  rw [if_pos rfl]
  exact h
def Same (H H' : Hp) : Prop := ∀ b o, H b = some o → H' b = some o
theorem Same.refl (H : Hp) : Same H H := fun _ _ h => h
theorem Same.trans {H H1 H2 : Hp} (a : Same H H1) (b : Same H1 H2) : Same H H2 := fun c o h => b c o (a c o h)
theorem Same.free {H H' : Hp} (e : Same H H') {l : Addr} (h : H' l = Option.none) : H l = Option.none := by
  cases q : H l with
  | none => rfl
  | some o =>
    rw [e l o q] at h
    cases h
theorem Same.seq {K : PySem.W.Frag} {H H' : Hp} {a : Addr} {xs : List V} (e : Same H H') (h : SqL K H a xs) : SqL K H' a xs := by
  rcases h with (h | ⟨o, h⟩) | h
  · exact .inl (.inl (e _ _ h))
  · exact .inl (.inr ⟨o, e _ _ h⟩)
  · exact .inr h
end L2
set_option Elab.async false
set_option linter.all false
set_option maxRecDepth 100000
set_option maxHeartbeats 4000000
namespace L3
open PySem PySem.Spec PyProof.Rows L2
abbrev St := L2.St
section
variable {env : Env}
theorem clo_go : ∀ (names : List (Str × NameKind)) (cs : List (Str × Addr)), (∀ x ∈ names, x.2 = .free → ∃ c, env.cells.lookup x.1 = some c) →
    ∃ cl : List (Str × Addr), (forIn names cs (fun (x : Str × NameKind) (r : List (Str × Addr)) => (if (x.2 == NameKind.free) = true then do
        let a ← cellOf env x.1
        pure (ForInStep.yield ((x.1, a) :: r))
      else pure (ForInStep.yield r) : Sem (ForInStep (List (Str × Addr))))) : Sem (List (Str × Addr))) = pure cl ∧
      (∀ x c, cl.lookup x = some c → cs.lookup x = some c ∨ (env.cells.lookup x = some c ∧ (x, NameKind.free) ∈ names)) ∧
      (∀ x, ((x, NameKind.free) ∈ names ∨ ∃ c, cs.lookup x = some c) → ∃ c, cl.lookup x = some c)
  | [], cs, _ => ⟨cs, rfl, fun x c h => .inl h, fun x h => by
      rcases h with h | h
      · simp at h
      · exact h⟩
  | (n, k) :: r, cs, hf => by
    by_cases hk : k = .free
    · subst hk
      obtain ⟨c, hc⟩ := hf (n, .free) List.mem_cons_self rfl
      obtain ⟨cl, e, h1, h2⟩ := clo_go r ((n, c) :: cs) (fun x hx => hf x (List.mem_cons_of_mem _ hx))
      refine ⟨cl, ?_, fun x d hd => ?_, fun x hx => ?_⟩
      · rw [List.forIn_cons]
        have e1 : cellOf env n = pure c := by
          unfold cellOf; rw [hc]
        simp only [beq_self_eq_true, if_true, e1]
        exact e
      · rcases h1 x d hd with q | ⟨q1, q2⟩
        · rw [List.lookup_cons] at q
          cases hx : x == n with
          | true =>
            rw [hx] at q
            have ex : x = n := by simpa using hx
            subst ex
            cases q
            exact .inr ⟨hc, List.mem_cons_self⟩
          | false => rw [hx] at q; exact .inl q
        · exact .inr ⟨q1, List.mem_cons_of_mem _ q2⟩
      · refine h2 x ?_
        rcases hx with hx | ⟨d, hd⟩
        · rcases List.mem_cons.mp hx with z | z
          · cases z
            exact .inr ⟨c, by simp [List.lookup_cons]⟩
          · exact .inl z
        · refine .inr ?_
          rw [List.lookup_cons]
          cases hx : x == n with
          | true => exact ⟨c, rfl⟩
          | false => exact ⟨d, hd⟩
    · obtain ⟨cl, e, h1, h2⟩ := clo_go r cs (fun x hx => hf x (List.mem_cons_of_mem _ hx))
      refine ⟨cl, ?_, fun x d hd => ?_, fun x hx => ?_⟩
      · rw [List.forIn_cons]
        have hb : (k == NameKind.free) = false := by simpa using hk
        simp only [hb, Bool.false_eq_true, if_false]
        exact e
      · rcases h1 x d hd with q | ⟨q1, q2⟩
        · exact .inl q
        · exact .inr ⟨q1, List.mem_cons_of_mem _ q2⟩
      · refine h2 x ?_
        rcases hx with hx | hx
        · rcases List.mem_cons.mp hx with z | z
          · cases z; exact absurd rfl hk
          · exact .inl z
        · exact .inr hx
theorem clo_of {scope : Scope} (hf : ∀ x ∈ scope.names, x.2 = .free → ∃ c, env.cells.lookup x.1 = some c) :
    ∃ cl, closureFor scope env = pure cl ∧ (∀ x c, cl.lookup x = some c → env.cells.lookup x = some c ∧ (x, NameKind.free) ∈ scope.names) ∧ (∀ x, (x, NameKind.free) ∈ scope.names → ∃ c, cl.lookup x = some c) := by
  obtain ⟨cl, e, h1, h2⟩ := clo_go (env := env) scope.names [] hf
  refine ⟨cl, ?_, fun x c h => ?_, fun x h => h2 x (.inl h)⟩
  · unfold closureFor
    have e' := e
    first
      | exact (congrArg (fun m => m >>= fun cs => pure cs) e')
      | (simp only [bind_pure] ; exact e')
      | (show (forIn scope.names [] _ >>= fun cs => pure cs) = pure cl; rw [e']; rfl)
  · rcases h1 x c h with q | q
    · simp at q
    · exact q
end
section
variable {prog : Program} {w : World} {A : Around} {R : Result → Shared → Prop} {s : Shared}
theorem compLoop_gen {elt target iter : Expr} {ifs : List Expr} {scope : Scope} {pos : Pos} {it acc : Value} {env : Env} (I : Nat → Shared → Prop)
    (turn : ∀ n s, I n s → wpAny (model prog w) A (pyNext it) (fun r s1 => match r with
      | none => R (.ok .next) s1
      | some v => wpAny (model prog w) A (letOwnedTupleGo target it v) (fun _ s1' => wpAny (model prog w) A (assign target env v) (fun _ s2 =>
          wpAny (model prog w) A (forIn ifs true fun c r => if r = true then do let ok ← isTrue c env (eval c env); pure (ForInStep.yield ok) else pure (ForInStep.yield r)) (fun ok s3 =>
            if ok = true then wpAny (model prog w) A (eval elt env) (fun x s4 =>
              wpAny (model prog w) A (call (.builtin "list.append") [acc, x]) (fun _ s5 => ∃ m, m < n ∧ I m s5) (fun _ _ => False) s4) (fun _ _ => False) s3
            else ∃ m, m < n ∧ I m s3) (fun _ _ => False) s2) (fun _ _ => False) s1') (fun _ _ => False) s1) (fun _ _ => False) s)
    (n : Nat) (h : I n s) :
    codeAny (model prog w) A (.compLoop (.ListComp elt [⟨target, iter, ifs, 0⟩] scope pos) 0 it acc env) R s := by
  refine codeAny_loop rfl I (fun n s hI => ?_) n h
  show wpAny _ A ((compTurn (.ListComp elt [⟨target, iter, ifs, 0⟩] scope pos) 0 it acc env).onRaise (fun x => do noteFrame x env; theTreesLotGoes x)) _ _ s
  refine wpAny_noted ?_
  rw [compTurn_list]
  refine wpAny_bind (wpAny_standAt (wpAny_bind (wpAny_mono (turn n s hI) (fun r s1 h1 => ?_) fun _ _ h' => h'.elim)))
  cases r with
  | none => exact wpAny_pure h1
  | some v =>
    refine wpAny_bind (wpAny_mono h1 (fun _ s1' h1' => ?_) fun _ _ h' => h'.elim)
    refine wpAny_bind (wpAny_mono h1' (fun _ s2 h2 => wpAny_bind (wpAny_mono h2 (fun ok s3 h3 => ?_) fun _ _ h' => h'.elim)) fun _ _ h' => h'.elim)
    cases ok with
    | false => exact wpAny_pure ⟨rfl, h3⟩
    | true =>
      exact wpAny_bind (wpAny_bind (wpAny_mono h3 (fun x s4 h4 => wpAny_bind (wpAny_mono h4 (fun _ s5 h5 => wpAny_pure (wpAny_pure ⟨rfl, h5⟩)) fun _ _ h' => h'.elim)) fun _ _ h' => h'.elim))
end
abbrev compCx (X : Cx) (N : List Str) (scope : Scope) (cl : List (Str × Addr)) (C : Addr) (fp : List Addr) (s : Shared) (H : Hp) : Cx where
  prog := X.prog
  w := X.w
  K := X.K
  mg := X.mg
  base := X.base
  A := X.A
  N := N
  s₀ := s
  H₀ := H
  env := compEnvC scope cl C X.env
  outer := X.stack
  stack := X.stack
  ex := fp
  fn := fun x => match scope.names.lookup x with | some .local => true | some .cell => true | _ => false
  calm := X.calm
  pn := []
  xe := fun _ _ => False
structure CellsC (X : Cx) (scope : Scope) (s : Shared) (h1 : Heap) (cs : List (Str × Addr)) : Prop where
  old : ∀ x c, cs.lookup x = some c → (X.env.cells.lookup x = some c ∧ (x, NameKind.free) ∈ scope.names) ∨ (s.heap.objs.size < c ∧ h1.IsCell c none ∧ (x, NameKind.cell) ∈ scope.names)
  has : ∀ x, ((x, NameKind.free) ∈ scope.names ∨ (x, NameKind.cell) ∈ scope.names) → ∃ c, cs.lookup x = some c
  inj : ∀ x y c, cs.lookup x = some c → cs.lookup y = some c → s.heap.objs.size < c → x = y
theorem cellsFrom_has : ∀ (names : List (Str × NameKind)) (n : Nat) (acc : List (Str × Addr)) (x : Str), ((x, NameKind.cell) ∈ names ∨ ∃ c, acc.lookup x = some c) → ∃ c, (cellsFrom n names acc).lookup x = some c
  | [], _, _, _, h => by
    rcases h with h | h
    · simp at h
    · exact h
  | (m, k) :: r, n, acc, x, h => by
    unfold cellsFrom
    by_cases hk : (k == NameKind.cell) = true
    · rw [if_pos hk]
      refine cellsFrom_has r _ _ x ?_
      rcases h with h | ⟨c, h⟩
      · rcases List.mem_cons.mp h with z | z
        · cases z
          exact .inr ⟨n, by simp [List.lookup_cons]⟩
        · exact .inl z
      · refine .inr ?_
        rw [List.lookup_cons]
        cases hx : x == m with
        | true => exact ⟨n, rfl⟩
        | false => exact ⟨c, h⟩
    · rw [if_neg hk]
      refine cellsFrom_has r _ _ x ?_
      rcases h with h | h
      · rcases List.mem_cons.mp h with z | z
        · cases z
          exact absurd rfl hk
        · exact .inl z
      · exact .inr h
theorem cellsFrom_old : ∀ (names : List (Str × NameKind)) (h : Heap) (acc : List (Str × Addr)) (x : Str) (c : Addr), (cellsFrom h.objs.size names acc).lookup x = some c →
    acc.lookup x = some c ∨ (h.objs.size ≤ c ∧ (pushCells h names).IsCell c none ∧ (x, NameKind.cell) ∈ names)
  | [], _, _, _, _, e => .inl e
  | (m, k) :: r, h, acc, x, c, e => by
    unfold cellsFrom at e
    unfold pushCells
    by_cases hk : (k == NameKind.cell) = true
    · rw [if_pos hk] at e ⊢
      have hk' : k = NameKind.cell := by simpa using hk
      have ih := cellsFrom_old r (h.push { cls := .type "cell", data := .cell none }) ((m, h.objs.size) :: acc) x c (by rw [Heap.size_push]; exact e)
      rcases ih with z | ⟨z1, z2, z3⟩
      · rw [List.lookup_cons] at z
        cases hx : x == m with
        | true =>
          rw [hx] at z
          cases z
          have : x = m := by simpa using hx
          subst this
          subst hk'
          exact .inr ⟨Nat.le_refl _, ⟨_, pushCells_keeps _ _ _ _ (Heap.get?_push_size _ rfl), rfl⟩, List.mem_cons_self⟩
        | false =>
          rw [hx] at z
          exact .inl z
      · rw [Heap.size_push] at z1
        exact .inr ⟨by omega, z2, List.mem_cons_of_mem _ z3⟩
    · rw [if_neg hk] at e ⊢
      rcases cellsFrom_old r h acc x c e with z | ⟨z1, z2, z3⟩
      · exact .inl z
      · exact .inr ⟨z1, z2, List.mem_cons_of_mem _ z3⟩
theorem cellsFrom_inj : ∀ (names : List (Str × NameKind)) (n : Nat) (acc : List (Str × Addr)), (∀ x c, acc.lookup x = some c → c < n) → ∀ lo, (∀ x y c, acc.lookup x = some c → acc.lookup y = some c → lo < c → x = y) →
    ∀ x y c, (cellsFrom n names acc).lookup x = some c → (cellsFrom n names acc).lookup y = some c → lo < c → x = y
  | [], _, _, _, _, hi, x, y, c, e1, e2, hc => hi x y c e1 e2 hc
  | (m, k) :: r, n, acc, hlt, lo, hi, x, y, c, e1, e2, hc => by
    unfold cellsFrom at e1 e2
    by_cases hk : (k == NameKind.cell) = true
    · rw [if_pos hk] at e1 e2
      have look : ∀ z d, ((m, n) :: acc).lookup z = some d → (z = m ∧ d = n) ∨ (acc.lookup z = some d) := fun z d e => by
        rw [List.lookup_cons] at e
        cases hx : z == m with
        | true => rw [hx] at e; cases e; exact .inl ⟨by simpa using hx, rfl⟩
        | false => rw [hx] at e; exact .inr e
      refine cellsFrom_inj r (n + 1) _ (fun z d e => ?_) lo (fun z1 z2 d f1 f2 hd => ?_) x y c e1 e2 hc
      · rcases look z d e with ⟨_, q⟩ | q
        · rw [q]; exact Nat.lt_succ_self n
        · exact Nat.lt_succ_of_lt (hlt z d q)
      · rcases look z1 d f1 with ⟨q1, q2⟩ | q
        · rcases look z2 d f2 with ⟨p1, _⟩ | p
          · rw [q1, p1]
          · exact absurd (hlt z2 d p) (by rw [q2]; exact Nat.lt_irrefl _)
        · rcases look z2 d f2 with ⟨p1, p2⟩ | p
          · exact absurd (hlt z1 d q) (by rw [p2]; exact Nat.lt_irrefl _)
          · exact hi z1 z2 d q p hd
    · rw [if_neg hk] at e1 e2
      exact cellsFrom_inj r n acc hlt lo hi x y c e1 e2 hc
section
variable {M : Model} {A : Around} {E : Value → Shared → Prop}
theorem wpAny_compEnv {X : Cx} {scope : Scope} {cl : List (Str × Addr)} {globals : Addr} {qual : Str} {Q : Env → Shared → Prop} {s : Shared}
    (hcl : ∀ x c, cl.lookup x = some c → X.env.cells.lookup x = some c ∧ (x, NameKind.free) ∈ scope.names) (hcf : ∀ x, (x, NameKind.free) ∈ scope.names → ∃ c, cl.lookup x = some c)
    (hlt : ∀ x c, X.env.cells.lookup x = some c → c < s.heap.objs.size)
    (hQ : ∀ cs h' m, h'.Ns s.heap.objs.size m → (∀ b o, s.heap.get? b = some o → h'.get? b = some o) → CellsC X scope s h' cs →
      Q (newEnv scope s.heap.objs.size globals cs qual none .none (some X.env) builtinsNs) { s with heap := h', toks := s.toks + ([] : List (Str × Value)).length }) :
    wpAny M A (newFunctionEnv scope globals cl [] qual none .none (some X.env)) Q E s := by
  simp only [newFunctionEnv, Option.isSome_some, if_true]
  refine wpAny_bind (wpAny_alloc ?_)
  refine wpAny_bind (wpAny_layCells _ (fun name kind cells => by cases hkc : kind == NameKind.cell <;> simp [hkc]) _ _ _ _ ?_)
  refine wpAny_bind ?_
  rw [List.forIn_nil]
  refine wpAny_pure (wpAny_pure ?_)
  have hn : ∀ b o, s.heap.get? b = some o → (pushCells (s.heap.push { cls := .type "dict", data := .dict #[] }) scope.names).get? b = some o := fun b o e => pushCells_keeps _ _ b o (Heap.get?_push_of_some _ e)
  have sz : (s.heap.push { cls := .type "dict", data := .dict #[] }).objs.size = s.heap.objs.size + 1 := Heap.size_push ..
  refine hQ _ _ (fun _ => none) ((Heap.Ns.new s.heap (.type "dict")).keeps (pushCells_keeps _ _)) hn ⟨fun x c e => ?_, fun x hx => ?_, fun x y c e1 e2 hc => ?_⟩
  · rcases cellsFrom_old scope.names _ cl x c e with z | ⟨z1, z2, z3⟩
    · exact .inl (hcl x c z)
    · rw [sz] at z1
      exact .inr ⟨by omega, z2, z3⟩
  · refine cellsFrom_has _ _ _ x ?_
    rcases hx with hx | hx
    · exact .inr (hcf x hx)
    · exact .inl hx
  · refine cellsFrom_inj scope.names _ cl (fun x c e => ?_) s.heap.objs.size (fun x y c e1 e2 hc => ?_) x y c e1 e2 hc
    · show c < (s.heap.push { cls := .type "dict", data := .dict #[] }).objs.size
      rw [sz]
      exact Nat.lt_succ_of_lt (hlt x c (hcl x c e).1)
    · exact absurd (Nat.lt_trans hc (hlt x c (hcl x c e1).1)) (Nat.lt_irrefl _)
end
theorem lookup_relabel {env : Env} {x : Str} : ∀ {names : List (Str × NameKind)} {k : NameKind}, 
    (names.map fun (n, k) => if (k == NameKind.free && env.scope.kind == .function && env.kindOf n == some .cell) then (n, NameKind.cell) else (n, k)).lookup x = some k →
    (names.lookup x = some k ∨ (k = .cell ∧ names.lookup x = some .free))
  | [], _, h => by simp at h
  | (n, k') :: r, k, h => by
    have ih := @lookup_relabel env x r k
    rw [List.map_cons] at h
    dsimp only at h
    rw [List.lookup_cons]
    cases hx : x == n with
    | true =>
      by_cases hc : (k' == NameKind.free && env.scope.kind == .function && env.kindOf n == some .cell) = true
      · rw [if_pos hc, List.lookup_cons, hx] at h
        cases h
        have : k' = .free := by
          simp only [Bool.and_eq_true, beq_iff_eq] at hc
          exact hc.1.1
        subst this
        exact .inr ⟨rfl, rfl⟩
      · rw [if_neg hc, List.lookup_cons, hx] at h
        exact .inl h
    | false =>
      by_cases hc : (k' == NameKind.free && env.scope.kind == .function && env.kindOf n == some .cell) = true
      · rw [if_pos hc, List.lookup_cons, hx] at h
        exact ih h
      · rw [if_neg hc, List.lookup_cons, hx] at h
        exact ih h
theorem relabel_free {env : Env} {x : Str} : ∀ {names : List (Str × NameKind)}, names.lookup x = some .free →
    ((names.map fun (n, k) => if (k == NameKind.free && env.scope.kind == .function && env.kindOf n == some .cell) then (n, NameKind.cell) else (n, k)).lookup x = some .cell ∨
     (names.map fun (n, k) => if (k == NameKind.free && env.scope.kind == .function && env.kindOf n == some .cell) then (n, NameKind.cell) else (n, k)).lookup x = some .free)
  | [], h => by simp at h
  | (n, k') :: r, h => by
    have ih := @relabel_free env x r
    rw [List.map_cons]
    dsimp only
    rw [List.lookup_cons] at h
    cases hx : x == n with
    | true =>
      rw [hx] at h
      cases h
      by_cases hc : ((NameKind.free == NameKind.free) && env.scope.kind == .function && env.kindOf n == some .cell) = true
      · rw [if_pos hc, List.lookup_cons, hx]; exact .inl rfl
      · rw [if_neg hc, List.lookup_cons, hx]; exact .inr rfl
    | false =>
      rw [hx] at h
      by_cases hc : (k' == NameKind.free && env.scope.kind == .function && env.kindOf n == some .cell) = true
      · rw [if_pos hc, List.lookup_cons, hx]; exact ih h
      · rw [if_neg hc, List.lookup_cons, hx]; exact ih h
def PIfs (X : Cx) (ifs : List Expr) (t : TT) : Prop :=
  ∀ (pins : List (Addr × Obj)) (s : Shared) (σ : St) (H : Hp) (Q : Bool → Hp → Prop), Inv X pins σ H s → t σ H Q →
    wpAny (model X.prog X.w) X.A (forIn ifs true fun c r => if r = true then do let ok ← isTrue c X.env (eval c X.env); pure (ForInStep.yield ok) else pure (ForInStep.yield r)) (TP X pins σ Q) X.xe s
theorem pifs_nil {X : Cx} : PIfs X [] (fun _ H Q => Q true H) := fun _ _ _ H _ I h => wpAny_tests_nil ⟨H, I, h⟩
def capt (cap : List (Option Nat)) (σ : St) : St := cap.map fun o => o.bind fun j => (σ[j]?).bind id
def tComp (cap : List (Option Nat)) (wi : TI) (g : TG) (tt : TT) (te : TE) : TE := fun σ H Q => wi σ H fun J H1 => ∀ l, H1 l = none →
  ∃ W : Nat → Nat → St → Hp → List V → Prop, (∃ m, W 0 m (capt cap σ) (upd H1 l (.lst [])) []) ∧ ∀ i m σ' H' acc, W i m σ' H' acc →
    (J.stop i H' ∧ Q (.ref l) H') ∨
    (J.go i H' ∧ acc.length < sizeLine ∧ ∀ x H2, J.yld i H' x H2 → g x σ' H2 fun σ2 H3 => tt σ2 H3 fun ok H4 =>
      if ok = true then te σ2 H4 fun y H5 => H5 l = some (.lst acc) ∧ ∃ m', m' < m ∧ W (i + 1) m' σ2 (upd H5 l (.lst (acc ++ [y]))) (acc ++ [y])
      else ∃ m', m' < m ∧ W (i + 1) m' σ2 H4 acc)
section
variable {X : Cx}
theorem inv_comp {pins : List (Addr × Obj)} {σ : St} {H : Hp} {s : Shared} {scope : Scope} {cl : List (Str × Addr)} {fp : List Addr} {N : List Str} {cap : List (Option Nat)} {h1 : Heap} {tk : Nat} {m : Str → Option Value}
    (I : Inv X pins σ H s) (hk : scope.kind = .function) (hcell : ∀ y ∈ scope.names, y.2 = .cell → scope.names.lookup y.1 = some .cell)
    (hcl : CellsC X scope s h1 cl)
    (hfr : ∀ x ∈ scope.names, x.2 = .free → scope.names.lookup x.1 = some .free)
    (hcap : ∀ (i j : Nat), cap[i]? = some (some j) → ∃ x, N[i]? = some x ∧ X.N[j]? = some x ∧ scope.names.lookup x = some .free ∧ (X.env.scope.names.lookup x = some .cell ∨ X.env.scope.names.lookup x = some .free))
    (hlen : cap.length = N.length) (hfp : ∀ b ∈ fp, FpOk X pins H b) (hfo : ∀ b ∈ fp, ∃ o, s.heap.get? b = some o)
    (hns : h1.Ns s.heap.objs.size m) (keep : ∀ b o, s.heap.get? b = some o → h1.get? b = some o) :
    Inv (compCx X N scope cl s.heap.objs.size fp s H) [] (capt cap σ) H { s with heap := h1, toks := tk } := by
  have kk : ∀ x, (compEnvC scope cl s.heap.objs.size X.env).kindOf x = (relabel scope X.env).names.lookup x := fun x => rfl
  have nost : ∀ b ∈ fp, b ∉ frs X.stack := fun b hb z => by
    obtain ⟨_, f1, f2, _⟩ := hfp b hb
    rcases List.mem_cons.mp (I.stkSub b z) with e | e
    · exact f1 e
    · exact f2 e
  have ltC : ∀ b ∈ fp, b < s.heap.objs.size := fun b hb => by
    obtain ⟨o, e⟩ := hfo b hb
    exact Heap.lt_size e
  have lts : ∀ x c, X.env.cells.lookup x = some c → c < s.heap.objs.size := fun x c e => by
    obtain ⟨v, o, ho, _⟩ := I.cell x c e
    exact Heap.lt_size ho
  have fro : ∀ x c, (x, NameKind.free) ∈ scope.names → cl.lookup x = some c → X.env.cells.lookup x = some c := fun x c hx e => by
    rcases hcl.old x c e with z | ⟨_, _, z⟩
    · exact z.1
    · have z1 := hfr _ hx rfl
      have z2 := hcell _ z rfl
      rw [z1] at z2
      cases z2
  have free_of : ∀ x, ((relabel scope X.env).names.lookup x = some .cell ∨ (relabel scope X.env).names.lookup x = some .free) → ((x, NameKind.free) ∈ scope.names ∨ (x, NameKind.cell) ∈ scope.names) := fun x hx => by
    have nc : ∀ {k}, scope.names.lookup x = some k → (x, k) ∈ scope.names := fun h => PySem.mem_of_lookup h
    rcases hx with hx | hx
    · rcases lookup_relabel hx with z | ⟨_, z⟩
      · exact .inr (nc z)
      · exact .inl (nc z)
    · rcases lookup_relabel hx with z | ⟨z, _⟩
      · exact .inl (nc z)
      · cases z
  refine ⟨⟨I.ok.mod, hk, I.ok.glob, I.ok.blt, Nat.le_refl _, fun x y c e1 e2 => ?inj, fun x hx => hcl.has x (free_of x hx), fun x c hx e => ?cab, I.ok.hd, I.ok.frames, .inl rfl, fun b hb => ?exf, I.bs, Nat.le_trans I.ok.bsz I.sz, fun b o e hb => ?noex, nost, I.stack, I.stkFree⟩,
    rfl, I.bare, Un.kept keep, ⟨m, hns, fun i x v e1 e2 e3 => ?loc⟩, fun x c e => ?cell, I.hok.fresh (Nat.le_refl _), fun x c e => ?freeC, fun p hp => absurd (show p ∈ ([] : List (Addr × Obj)) from hp) (by simp), I.hok.kept keep, ?len⟩
  case inj =>
    rcases hcl.old x c e1 with ⟨z, _⟩ | ⟨z, _⟩
    · rcases hcl.old y c e2 with ⟨z', _⟩ | ⟨z', _⟩
      · exact I.ok.inj x y c z z'
      · exact absurd (Nat.lt_trans z' (lts x c z)) (Nat.lt_irrefl _)
    · exact hcl.inj x y c e1 e2 z
  case freeC =>
    rcases hcl.old x c e with ⟨z, _⟩ | ⟨z, _⟩
    · exact I.freeC x c z
    · exact I.hok.fresh (Nat.le_of_lt z)
  case cab =>
    have hx' : (match scope.names.lookup x with | some .local => true | some .cell => true | _ => false) = true := hx
    rcases hcl.old x c e with ⟨_, z⟩ | ⟨z, _⟩
    · have := hfr _ z rfl
      rw [this] at hx'
      cases hx'
    · exact Nat.le_of_lt z
  case exf =>
    refine ⟨Nat.ne_of_lt (ltC b hb), fun x c e => ?_⟩
    rcases hcl.old x c e with ⟨z, _⟩ | ⟨z, _⟩
    · exact (hfp b hb).2.2.2.2.1 x c z
    · intro q
      rw [q] at z
      exact absurd (Nat.lt_trans z (ltC b hb)) (Nat.lt_irrefl _)
  case noex =>
    obtain ⟨_, _, _, f3, _⟩ := hfp b hb
    rcases f3 with z | z
    · exact I.ok.noex b o e z
    · exact absurd (Nat.lt_of_lt_of_le (Heap.lt_size (I.ok.bs b o e).1) z) (Nat.lt_irrefl _)
  case loc =>
    have hc : ∃ j, cap[i]? = some (some j) ∧ σ[j]? = some (some v) := by
      unfold capt at e2
      rw [List.getElem?_map] at e2
      cases hci : cap[i]? with
      | none => rw [hci] at e2; cases e2
      | some o =>
        rw [hci] at e2
        cases o with
        | none => cases e2
        | some j =>
          refine ⟨j, rfl, ?_⟩
          have e2' : (σ[j]?).bind id = some v := Option.some.inj e2
          cases hs : σ[j]? with
          | none => rw [hs] at e2'; cases e2'
          | some q =>
            rw [hs] at e2'
            have : q = some v := e2'
            rw [this]
    obtain ⟨j, hj, hv⟩ := hc
    obtain ⟨y, n1, n2, n3, n4⟩ := hcap i j hj
    have exy : y = x := by
      have : N[i]? = some x := e1
      rw [n1] at this
      exact Option.some.inj this
    subst exy
    obtain ⟨mm, hm, hl⟩ := I.loc
    obtain ⟨u, r, look⟩ := hl j y v n2 hv (.inr n4)
    refine ⟨u, r, .inr ⟨relabel_free n3, ?_⟩⟩
    rcases look with ⟨k, _⟩ | ⟨k, c, e, z⟩
    · have k' : X.env.scope.names.lookup y = some .local := k
      rw [k'] at n4
      rcases n4 with q | q <;> cases q
    · obtain ⟨c', hc'⟩ := hcl.has y (.inl (PySem.mem_of_lookup n3))
      have := fro y c' (PySem.mem_of_lookup n3) hc'
      rw [e] at this
      cases this
      obtain ⟨o, ho, hd⟩ := z
      exact ⟨c, hc', o, keep _ _ ho, hd⟩
  case cell =>
    rcases hcl.old x c e with ⟨z, _⟩ | ⟨_, z, _⟩
    · obtain ⟨v, o, ho, hd⟩ := I.cell x c z
      exact ⟨v, o, keep _ _ ho, hd⟩
    · exact ⟨_, z⟩
  case len =>
    unfold capt
    rw [List.length_map]
    exact hlen
theorem pe_comp {elt target iter : Expr} {ifs : List Expr} {scope : Scope} {pos : Pos} {N : List Str} {cap : List (Option Nat)} {wi : TI} {g : TG} {tt : TT} {te : TE}
    (hc : X.calm = true) (hi : PI X target iter wi)
    (hg : ∀ cl C fp s H, PG (compCx X N scope cl C fp s H) target g) (ht : ∀ cl C fp s H, PIfs (compCx X N scope cl C fp s H) ifs tt) (he : ∀ cl C fp s H, PE (compCx X N scope cl C fp s H) elt te)
    (hk : scope.kind = .function) (hcell : ∀ y ∈ scope.names, y.2 = .cell → scope.names.lookup y.1 = some .cell) (hnames : ∀ x ∈ scope.names, x.2 = .local → scope.names.lookup x.1 = some .local)
    (hfr : ∀ x ∈ scope.names, x.2 = .free → scope.names.lookup x.1 = some .free) (hout : ∀ x ∈ scope.names, x.2 = .free → X.env.scope.names.lookup x.1 = some .cell ∨ X.env.scope.names.lookup x.1 = some .free)
    (hcap : ∀ (i j : Nat), cap[i]? = some (some j) → ∃ x, N[i]? = some x ∧ X.N[j]? = some x ∧ scope.names.lookup x = some .free)
    (hlen : cap.length = N.length) (hs : ∀ x, foldedSetIterable iter X.env x = pure x := by intro _; rfl) :
    PE X (.ListComp elt [⟨target, iter, ifs, 0⟩] scope pos) (tComp cap wi g tt te) := by
  intro pins s σ H Q I h
  obtain ⟨cl, hclos, hcl, hcf⟩ := clo_of (env := X.env) (scope := scope) fun x hx hf => I.ok.has x.1 (hout x hx hf)
  rw [eval_ListComp]
  refine wpAny_comprehension_free (use := none) rfl hs hclos hk hnames ?_
  show wpAny _ _ (eval iter X.env) _ _ s
  refine thn (hi pins s σ H _ I h) fun v s1 h1 => thn h1 fun itv s2 h2 => ?_
  obtain ⟨it, fp, tn, J, H2, rfl, I2, T, st2, f2, hW⟩ := h2
  obtain ⟨W, ⟨m0, w0⟩, turn⟩ := hW s2.heap.objs.size I2.fresh
  refine wpAny_newObj_type (wpAny_compEnv (X := X) (E := X.xe) hcl hcf (fun x c e => by
    obtain ⟨v, o, ho, _⟩ := I2.cell x c e
    show c < (Heap.push _ _).objs.size
    rw [Heap.size_push]
    exact Nat.lt_succ_of_lt (Heap.lt_size ho)) (fun cs h4 m4 hns keep0 hcs => ?_))
  dsimp only at hns keep0 ⊢
  have I3 : Inv X pins σ (upd H2 s2.heap.objs.size (.lst [])) { s2 with heap := s2.heap.push { cls := .type "list", dict := none, data := .seq ([] : List Value).toArray } } := I2.lnew (its := []) (t' := s2.toks) .nil (Nat.zero_le _)
  generalize hs3 : ({ s2 with heap := s2.heap.push { cls := .type "list", dict := none, data := .seq ([] : List Value).toArray } } : Shared) = s3 at I3
  have hh3 : s2.heap.push { cls := .type "list", dict := none, data := .seq ([] : List Value).toArray } = s3.heap := by rw [← hs3]
  have hsz3 : s3.heap.objs.size = s2.heap.objs.size + 1 := by rw [← hh3, Heap.size_push]
  rw [hh3] at hns keep0
  have keep4 : ∀ b o, s3.heap.get? b = some o → h4.get? b = some o := keep0
  have hcs' : CellsC X scope s3 h4 cs := ⟨fun x c e => by rw [← hh3]; exact hcs.old x c e, hcs.has, fun x y c e1 e2 hc => hcs.inj x y c e1 e2 (by rw [← hh3] at hc; exact hc)⟩
  have fpn : ∀ b ∈ fp, (upd H2 s2.heap.objs.size (.lst [])) b = none ∧ FpOk X pins (upd H2 s2.heap.objs.size (.lst [])) b := fun b hb => by
    obtain ⟨o, e, _⟩ := T.obj 0 _ st2 b hb
    have ne : b ≠ s2.heap.objs.size := Nat.ne_of_lt (Heap.lt_size e)
    have z : (upd H2 s2.heap.objs.size (.lst [])) b = none := by rw [upd_ne ne]; exact (f2 b hb).1
    exact ⟨z, z, (f2 b hb).2⟩
  have hfo : ∀ b ∈ fp, ∃ o, s3.heap.get? b = some o := fun b hb => by
    obtain ⟨o, e, _⟩ := T.obj 0 _ st2 b hb
    exact ⟨o, by rw [← hh3]; exact Heap.get?_push_of_some _ e⟩
  have I4 : ∀ tk, Inv (compCx X N scope cs s3.heap.objs.size fp s3 (upd H2 s2.heap.objs.size (.lst []))) [] (capt cap σ) (upd H2 s2.heap.objs.size (.lst [])) { s3 with heap := h4, toks := tk } := fun tk =>
    inv_comp I3 hk hcell hcs' hfr (fun i j e => by
      obtain ⟨x, n1, n2, n3⟩ := hcap i j e
      exact ⟨x, n1, n2, n3, hout _ (PySem.mem_of_lookup n3) rfl⟩) hlen (fun b hb => (fpn b hb).2) hfo hns keep4
  have st4 : tn 0 h4 := T.keep _ _ _ st2 fun b _ o e => keep4 b o (by rw [← hh3]; exact Heap.get?_push_of_some _ e)
  have stat : ∀ {H' : Hp}, (∀ b ∈ fp, H' b = none) → ∀ b ∈ fp, FpOk (compCx X N scope cs s3.heap.objs.size fp s3 (upd H2 s2.heap.objs.size (.lst []))) [] H' b := fun {H'} hn b hb => by
    obtain ⟨o, e⟩ := hfo b hb
    obtain ⟨_, f1, f3, _, f5, _⟩ := f2 b hb
    refine ⟨hn b hb, Nat.ne_of_lt (Heap.lt_size e), fun z => ?_, .inl hb, fun x c e => (hcs'.old x c e).elim (fun z => f5 x c z.1) (fun z q => absurd (Heap.lt_size (q ▸ ‹s3.heap.get? b = some o›)) (Nat.not_lt.mpr (Nat.le_of_lt z.1))), fun p hp => absurd (show p ∈ ([] : List (Addr × Obj)) from hp) (by simp)⟩
    rcases List.mem_cons.mp (I3.stkSub b z) with e' | e'
    · exact f1 e'
    · exact f3 e'
  have loop : ∀ s4 : Shared, s4 = { s3 with heap := h4, toks := s2.toks + ([] : List (Str × Value)).length } →
      codeAny (model X.prog X.w) X.A (.compLoop (.ListComp elt [⟨target, iter, ifs, 0⟩] scope pos) 0 (.ref it) (.ref s2.heap.objs.size) (compEnvC scope cs s3.heap.objs.size X.env))
        (compPost (model X.prog X.w) X.A X.xe none (EP X pins σ Q) (.ref s2.heap.objs.size) s3.heap.objs.size) s4 := by
    rintro s4 rfl
    refine compLoop_gen (fun n s' => ∃ i σ' H' acc, Inv (compCx X N scope cs s3.heap.objs.size fp s3 (upd H2 s2.heap.objs.size (.lst []))) [] σ' H' s' ∧ tn i s'.heap ∧ (∀ b ∈ fp, H' b = none) ∧ W i n σ' H' acc) ?_ m0 ⟨0, _, _, [], I4 _, st4, fun b hb => (fpn b hb).1, w0⟩
    rintro n s5 ⟨i, σ5, H5, acc, I5, st5, fr5, w5⟩
    rcases turn i n σ5 H5 acc w5 with ⟨stop, q⟩ | ⟨go, hz, step⟩
    · refine thn (T.done (compCx X N scope cs s3.heap.objs.size fp s3 (upd H2 s2.heap.objs.size (.lst []))) rfl rfl rfl hc i [] s5 σ5 H5 _ I5 (stat fr5) st5 stop) fun r s6 ⟨hr, I6⟩ => ?_
      subst hr
      obtain ⟨m6, hn6, _⟩ := I6.loc
      refine ⟨m6, hn6, fun h' sb => ?_⟩
      have neC : ∀ b u, H5 b = some u → b ≠ s3.heap.objs.size := fun b u e z => by
        subst z
        have := I6.free
        rw [show H5 s3.heap.objs.size = none from this] at e
        cases e
      refine ⟨.ref s2.heap.objs.size, H5, ?_, rfl, q⟩
      refine I3.call' (s' := { s6 with heap := h' }) (ch := fp) I6.os ?_ (fun b u e => ?_) I6.bare (fun b hb => ?_)
      · have u6 : Un (frs X.stack) fp (upd H2 s2.heap.objs.size (.lst [])) H5 s3.heap s6.heap := I6.base
        have ex : ∀ b o, s3.heap.get? b = some o → ∀ o', s6.heap.get? b = some o' → h'.get? b = some o' := fun b o e o' e' => (sb.2 b (Nat.ne_of_lt (Heap.lt_size e))).trans e'
        exact ⟨fun b o e n hb hx => ex b o e _ (u6.keep b o e n hb hx), fun b o e n hb hx => let ⟨sl, z⟩ := u6.slot b o e n hb hx; ⟨sl, ex b o e _ z⟩, u6.free, fun b o e hx => let ⟨o', z⟩ := u6.there b o e hx; ⟨o', ex b o e _ z⟩, u6.tups, u6.frzs, u6.tbls⟩
      · refine (I6.hok b u e).stay (fun c v hc' q' => (sb.2 c ?_).trans q') (fun _ q' => q') (fun _ _ q' => q') fun _ _ _ q' => q'
        rcases hc' with rfl | hc'
        · exact neC _ _ e
        · exact neC _ _ hc'
      · obtain ⟨_, f1, _, f3, f5, f6⟩ := f2 b hb
        exact ⟨f3, f1, f5, f6⟩
    · refine thn (T.item (compCx X N scope cs s3.heap.objs.size fp s3 (upd H2 s2.heap.objs.size (.lst []))) rfl rfl rfl hc i [] s5 σ5 H5 _ I5 (stat fr5) st5 go) fun r s6 ⟨u, hr, h6⟩ => ?_
      subst hr
      refine thn h6 fun _ s7 ⟨x, H7, I7, r7, y7, st7, fr7⟩ => ?_
      have I7' := I7.pinned (stat fr7) (T.obj _ _ st7)
      refine thn (hg _ _ _ _ _ _ s7 σ5 H7 x u _ I7' r7 (step x H7 y7)) fun _ s8 ⟨σ8, H8, I8, q8⟩ => ?_
      refine thn (ht _ _ _ _ _ _ s8 σ8 H8 _ I8 q8) fun ok s9 ⟨H9, I9, q9⟩ => ?_
      have again : ∀ {s' : Shared} {σ' : St} {H' : Hp} {acc' : List V} {m' : Nat}, Inv (compCx X N scope cs s3.heap.objs.size fp s3 (upd H2 s2.heap.objs.size (.lst []))) ([] ++ pinsAt fp s7.heap) σ' H' s' → m' < n → W (i + 1) m' σ' H' acc' →
          ∃ m, m < n ∧ ∃ i σ'' H'' acc, Inv (compCx X N scope cs s3.heap.objs.size fp s3 (upd H2 s2.heap.objs.size (.lst []))) [] σ'' H'' s' ∧ tn i s'.heap ∧ (∀ b ∈ fp, H'' b = none) ∧ W i m σ'' H'' acc := fun {s' σ' H' acc' m'} I' hm w' => by
        refine ⟨m', hm, i + 1, σ', H', acc', I'.unpinned, T.keep _ _ _ st7 fun b hb o e => (I'.pin (b, o) (List.mem_append_right _ (List.mem_append_right _ (mem_pinsAt hb e)))).1, fun b hb => ?_, w'⟩
        obtain ⟨o, e, d⟩ := T.obj _ _ st7 b hb
        exact (I'.pin (b, o) (List.mem_append_right _ (List.mem_append_right _ (mem_pinsAt hb e)))).2.1
      cases ok with
      | false =>
        rw [if_neg Bool.false_ne_true] at q9
        obtain ⟨m', hm, w'⟩ := q9
        exact again I9 hm w'
      | true =>
        rw [if_pos rfl] at q9
        show wpAny _ _ (eval elt _) _ _ s9
        refine thn (he _ _ _ _ _ _ s9 σ8 H9 _ I9 q9) fun xv s10 ⟨y, H10, I10, r10, hl10, m', hm, w'⟩ => ?_
        refine thn (mt_append _ s10 σ8 H10 (.ref s2.heap.objs.size) [y] (.ref s2.heap.objs.size) [xv] (fun (_ : V) (H' : Hp) => H' = upd H10 s2.heap.objs.size (.lst (acc ++ [y]))) I10 rfl (.cons r10 .nil) ⟨_, acc, y, rfl, rfl, hl10, hz, rfl⟩) fun _ s11 ⟨_, H11, I11, _, e11⟩ => ?_
        have e11' : H11 = upd H10 s2.heap.objs.size (.lst (acc ++ [y])) := e11
        subst e11'
        exact again I11 hm w'
  have hx : ∀ s4 : Shared, s4 = { s3 with heap := h4, toks := s2.toks + ([] : List (Str × Value)).length } → tn 0 s4.heap := by
    rintro s4 rfl
    exact st4
  subst hs3
  exact codeAny_compStart_list (loop _ rfl) (T.self X.A 0 _ _ _ (hx _ rfl) (loop _ rfl))
end
end L3
set_option Elab.async false
set_option linter.all false
set_option maxRecDepth 100000
set_option maxHeartbeats 4000000
namespace L3
open PySem PySem.Spec PyProof.Rows L2
inductive D where
  | non
  | bl (b : Bool)
  | int (i : Int)
  | str (x : Str)
  | tup (xs : List D)
  | lst (xs : List D)
  | dct (ks : List Key) (vs : List D)
mutual
def Rep (K : PySem.W.Frag) (H : Hp) : D → V → Prop
  | .non, v => v = V.non
  | .bl b, v => v = V.bl b
  | .int i, v => v = V.int i
  | .str x, v => v = V.str x
  | .tup ds, v => ∃ a xs, v = V.ref a ∧ SqT K H a xs ∧ RepL K H ds xs
  | .lst ds, v => ∃ a xs, v = V.ref a ∧ SqL K H a xs ∧ RepL K H ds xs
  | .dct ks ds, v => ∃ a kvs, v = V.ref a ∧ H a = some (HO.dK kvs) ∧ kvs.map (·.1) = ks ∧ RepL K H ds (kvs.map (·.2))
def RepL (K : PySem.W.Frag) (H : Hp) : List D → List V → Prop
  | [], xs => xs = []
  | d :: ds, xs => ∃ v vs, xs = v :: vs ∧ Rep K H d v ∧ RepL K H ds vs
end
section
variable {K : PySem.W.Frag} {H H' : Hp}
theorem rep_tup {ds : List D} {v : V} : Rep K H (.tup ds) v ↔ ∃ a xs, v = V.ref a ∧ SqT K H a xs ∧ RepL K H ds xs := by rw [Rep]
theorem rep_lst {ds : List D} {v : V} : Rep K H (.lst ds) v ↔ ∃ a xs, v = V.ref a ∧ SqL K H a xs ∧ RepL K H ds xs := by rw [Rep]
theorem rep_dct {ks : List Key} {ds : List D} {v : V} : Rep K H (.dct ks ds) v ↔ ∃ a kvs, v = V.ref a ∧ H a = some (HO.dK kvs) ∧ kvs.map (·.1) = ks ∧ RepL K H ds (kvs.map (·.2)) := by rw [Rep]
theorem rep_int {i : Int} {v : V} : Rep K H (.int i) v ↔ v = V.int i := by rw [Rep]
theorem rep_bl {i : Bool} {v : V} : Rep K H (.bl i) v ↔ v = V.bl i := by rw [Rep]
theorem rep_str {i : Str} {v : V} : Rep K H (.str i) v ↔ v = V.str i := by rw [Rep]
theorem rep_non {v : V} : Rep K H .non v ↔ v = V.non := by rw [Rep]
theorem repl_nil {xs : List V} : RepL K H [] xs ↔ xs = [] := by rw [RepL]
theorem repl_cons {d : D} {ds : List D} {xs : List V} : RepL K H (d :: ds) xs ↔ ∃ v vs, xs = v :: vs ∧ Rep K H d v ∧ RepL K H ds vs := by rw [RepL]
theorem sqt_same {a : Addr} {xs : List V} (e : Same H H') (h : SqT K H a xs) : SqT K H' a xs := by
  rcases h with (h | ⟨o, h⟩) | h
  · exact .inl (.inl (e _ _ h))
  · exact .inl (.inr ⟨o, e _ _ h⟩)
  · exact .inr h
mutual
theorem Rep.mono (e : Same H H') : ∀ {d : D} {v : V}, Rep K H d v → Rep K H' d v
  | .non, _, h => by rw [rep_non] at h ⊢; exact h
  | .bl _, _, h => by rw [rep_bl] at h ⊢; exact h
  | .int _, _, h => by rw [rep_int] at h ⊢; exact h
  | .str _, _, h => by rw [rep_str] at h ⊢; exact h
  | .tup ds, _, h => by
    rw [rep_tup] at h ⊢
    obtain ⟨a, xs, h1, h2, h3⟩ := h
    exact ⟨a, xs, h1, sqt_same e h2, RepL.mono e h3⟩
  | .lst ds, _, h => by
    rw [rep_lst] at h ⊢
    obtain ⟨a, xs, h1, h2, h3⟩ := h
    exact ⟨a, xs, h1, e.seq h2, RepL.mono e h3⟩
  | .dct ks ds, _, h => by
    rw [rep_dct] at h ⊢
    obtain ⟨a, kvs, h1, h2, h3, h4⟩ := h
    exact ⟨a, kvs, h1, e _ _ h2, h3, RepL.mono e h4⟩
theorem RepL.mono (e : Same H H') : ∀ {ds : List D} {xs : List V}, RepL K H ds xs → RepL K H' ds xs
  | [], _, h => by rw [repl_nil] at h ⊢; exact h
  | d :: ds, _, h => by
    rw [repl_cons] at h ⊢
    obtain ⟨v, vs, h1, h2, h3⟩ := h
    exact ⟨v, vs, h1, Rep.mono e h2, RepL.mono e h3⟩
end
theorem RepL.length : ∀ {ds : List D} {xs : List V}, RepL K H ds xs → ds.length = xs.length
  | [], _, h => by rw [repl_nil] at h; subst h; rfl
  | d :: ds, _, h => by
    rw [repl_cons] at h
    obtain ⟨v, vs, rfl, _, h3⟩ := h
    rw [List.length_cons, List.length_cons, RepL.length h3]
theorem RepL.get : ∀ {ds : List D} {xs : List V} {i : Nat} {d : D}, RepL K H ds xs → ds[i]? = some d → ∃ v, xs[i]? = some v ∧ Rep K H d v
  | [], _, _, _, _, e => by simp at e
  | d :: ds, _, i, d', h, e => by
    rw [repl_cons] at h
    obtain ⟨v, vs, rfl, h2, h3⟩ := h
    cases i with
    | zero => simp at e; subst e; exact ⟨v, rfl, h2⟩
    | succ i => simpa using RepL.get (i := i) h3 (by simpa using e)
theorem RepL.at : ∀ {ds : List D} {xs : List V} {i : Nat} {v : V}, RepL K H ds xs → xs[i]? = some v → ∃ d, ds[i]? = some d ∧ Rep K H d v
  | [], _, _, _, h, e => by rw [repl_nil] at h; subst h; simp at e
  | d :: ds, _, i, v', h, e => by
    rw [repl_cons] at h
    obtain ⟨v, vs, rfl, h2, h3⟩ := h
    cases i with
    | zero => simp at e; subst e; exact ⟨d, rfl, h2⟩
    | succ i => simpa using RepL.at (i := i) h3 (by simpa using e)
theorem RepL.append : ∀ {ds es : List D} {xs ys : List V}, RepL K H ds xs → RepL K H es ys → RepL K H (ds ++ es) (xs ++ ys)
  | [], _, _, _, h, h' => by rw [repl_nil] at h; subst h; exact h'
  | d :: ds, _, _, _, h, h' => by
    rw [repl_cons] at h
    obtain ⟨v, vs, rfl, h2, h3⟩ := h
    exact repl_cons.mpr ⟨v, _, rfl, h2, RepL.append h3 h'⟩
theorem RepL.one {d : D} {v : V} (h : Rep K H d v) : RepL K H [d] [v] := repl_cons.mpr ⟨v, [], rfl, h, repl_nil.mpr rfl⟩
theorem RepL.cons {d : D} {v : V} {ds : List D} {xs : List V} (h : Rep K H d v) (t : RepL K H ds xs) : RepL K H (d :: ds) (v :: xs) := repl_cons.mpr ⟨v, xs, rfl, h, t⟩
theorem RepL.nil : RepL K H [] [] := repl_nil.mpr rfl
theorem RepL.take : ∀ {ds : List D} {xs : List V} (n : Nat), RepL K H ds xs → RepL K H (ds.take n) (xs.take n)
  | _, _, 0, _ => repl_nil.mpr rfl
  | [], _, n + 1, h => by rw [repl_nil] at h; subst h; exact repl_nil.mpr rfl
  | d :: ds, _, n + 1, h => by
    rw [repl_cons] at h
    obtain ⟨v, vs, rfl, h2, h3⟩ := h
    exact RepL.cons h2 (RepL.take n h3)
theorem RepL.drop : ∀ {ds : List D} {xs : List V} (n : Nat), RepL K H ds xs → RepL K H (ds.drop n) (xs.drop n)
  | _, _, 0, h => h
  | [], _, n + 1, h => by rw [repl_nil] at h; subst h; exact repl_nil.mpr rfl
  | d :: ds, _, n + 1, h => by
    rw [repl_cons] at h
    obtain ⟨v, vs, rfl, h2, h3⟩ := h
    exact RepL.drop n h3
theorem RepL.rep {ds : List D} {xs : List V} (h : RepL K H ds xs) : ∀ k : Nat, RepL K H (List.replicate k ds).flatten (List.replicate k xs).flatten
  | 0 => repl_nil.mpr rfl
  | k + 1 => by
    rw [List.replicate_succ, List.replicate_succ, List.flatten_cons, List.flatten_cons]
    exact RepL.append h (RepL.rep h k)
theorem repl_ints : ∀ {ns : List Int} {xs : List V}, RepL K H (ns.map D.int) xs ↔ xs = ns.map V.int
  | [], xs => by rw [List.map_nil, repl_nil, List.map_nil]
  | n :: ns, xs => by
    rw [List.map_cons, repl_cons, List.map_cons]
    constructor
    · rintro ⟨v, vs, rfl, h2, h3⟩
      rw [rep_int] at h2
      rw [repl_ints] at h3
      rw [h2, h3]
    · rintro rfl
      exact ⟨_, _, rfl, rep_int.mpr rfl, repl_ints.mpr rfl⟩
end
def hide (Z : List Addr) (H : Hp) : Hp := fun b => if b ∈ Z then none else H b
section
variable {Z B : List Addr} {H H' : Hp} {a : Addr} {o : HO}
theorem hide_in (h : a ∈ Z) : hide Z H a = none := if_pos h
theorem hide_out (h : a ∉ Z) : hide Z H a = H a := if_neg h
theorem hide_some (h : hide Z H a = some o) : a ∉ Z ∧ H a = some o := by
  by_cases hz : a ∈ Z
  · rw [hide_in hz] at h; cases h
  · rw [hide_out hz] at h; exact ⟨hz, h⟩
theorem hide_sub : Same (hide Z H) H := fun b o h => (hide_some h).2
theorem hide_same (e : Same H H') : Same (hide Z H) (hide Z H') := fun b o h => by
  obtain ⟨h1, h2⟩ := hide_some h
  rw [hide_out h1]
  exact e b o h2
theorem hide_anti (h : ∀ b ∈ B, b ∈ Z) : Same (hide Z H) (hide B H) := fun b o q => by
  obtain ⟨h1, h2⟩ := hide_some q
  rw [hide_out fun z => h1 (h b z)]
  exact h2
theorem hide_laid (hn : H a = none) (e : Same H H') : Same (hide Z H) (hide (a :: Z) H') := fun b u q => by
  obtain ⟨h1, h2⟩ := hide_some q
  have ne : b ≠ a := fun z => by rw [z, hn] at h2; cases h2
  rw [hide_out (by rw [List.mem_cons]; exact fun z => z.elim ne h1)]
  exact e b u h2
theorem hide_upd (h : a ∈ Z) : Same (hide Z H) (hide Z (upd H a o)) := fun b u q => by
  obtain ⟨h1, h2⟩ := hide_some q
  have ne : b ≠ a := fun z => h1 (by rw [z]; exact h)
  rw [hide_out h1, upd_ne ne]
  exact h2
theorem same_upd (hn : H a = none) : Same H (upd H a o) := fun b u q => by rw [upd_ne (ne_of_none q hn)]; exact q
theorem same_updI {H0 : Hp} (hn : H0 a = none) (e : Same H0 H) : Same H0 (upd H a o) := fun b u q => by
  have ne : b ≠ a := fun z => by rw [z, hn] at q; cases q
  rw [upd_ne ne]
  exact e b u q
end
inductive OC where
  | l (ds : List D)
  | d (ks : List Key) (vs : List D)
inductive Cell where
  | sh (d : D)
  | ow (ds : List D)
  | od (ks : List Key) (vs : List D)
def Cell.oc : Cell → Option OC
  | .sh _ => none
  | .ow ds => some (.l ds)
  | .od ks vs => some (.d ks vs)
def OC.cell : OC → Cell
  | .l ds => .ow ds
  | .d ks vs => .od ks vs
def OC.dat : OC → D
  | .l ds => .lst ds
  | .d ks vs => .dct ks vs
theorem OC.cell_oc (c : OC) : c.cell.oc = some c := by cases c <;> rfl
def Hold (K : PySem.W.Frag) (H : Hp) : OC → HO → Prop
  | .l ds, o => ∃ xs, o = HO.lst xs ∧ RepL K H ds xs
  | .d ks ds, o => ∃ kvs, o = HO.dK kvs ∧ kvs.map (·.1) = ks ∧ RepL K H ds (kvs.map (·.2))
theorem Hold.mono {K : PySem.W.Frag} {H H' : Hp} (e : Same H H') : ∀ {c : OC} {o : HO}, Hold K H c o → Hold K H' c o
  | .l ds, o, ⟨xs, h1, h2⟩ => ⟨xs, h1, h2.mono e⟩
  | .d ks ds, o, ⟨kvs, h1, h2, h3⟩ => ⟨kvs, h1, h2, h3.mono e⟩
abbrev DEnv := List (Option Cell)
def lamNames : List Str := ["ties_over", "queue_pages", "hardest_tie", "as_laid_on"]
def lamCode (vs : Array Value) : Bool := match (vs[1]? : Option Value) with | some (.str q _) => lamNames.contains q | _ => false
def TB (K : PySem.W.Frag) (H : Hp) : Prop := ∀ c o vs P, K.lookup c = some o → o.cls = .type "code" → o.data = .fields vs → vs[11]? = some (.ref P) → K.lookup P = none → lamCode vs = true →
  ∃ q t, vs[1]? = some (.str q t) ∧ H P = some (.tbl #[.str q 0])
theorem TB.mono {K : PySem.W.Frag} {H H' : Hp} (h : TB K H) (e : Same H H') : TB K H' := fun c o vs P h1 h2 h3 h4 h5 h6 => let ⟨q, t, e1, e2⟩ := h c o vs P h1 h2 h3 h4 h5 h6; ⟨q, t, e1, e _ _ e2⟩
theorem TB.upd {K : PySem.W.Frag} {H : Hp} {a : Addr} {o u : HO} (h : TB K H) (ha : H a = some u) (hu : ∀ ps, u ≠ .tbl ps) : TB K (upd H a o) := fun c ob vs P h1 h2 h3 h4 h5 h6 => by
  obtain ⟨q, t, e1, e2⟩ := h c ob vs P h1 h2 h3 h4 h5 h6
  refine ⟨q, t, e1, ?_⟩
  rw [upd_ne]
  · exact e2
  · rintro rfl
    rw [e2] at ha
    exact hu _ (Option.some.inj ha).symm
theorem Hold.notbl {K : PySem.W.Frag} {H : Hp} : ∀ {c : OC} {o : HO}, Hold K H c o → ∀ ps, o ≠ .tbl ps
  | .l ds, o, ⟨xs, h1, _⟩, ps => by rw [h1]; intro z; cases z
  | .d ks ds, o, ⟨kvs, h1, _⟩, ps => by rw [h1]; intro z; cases z
structure SR (K : PySem.W.Frag) (B : List Addr) (H0 V0 H : Hp) (Z : List Addr) (σ : St) (ρ : DEnv) : Prop where
  same : Same H0 H
  tb : TB K H
  vis : Same V0 (hide Z H)
  sub : ∀ b ∈ B, b ∈ Z
  zs : ∀ z ∈ Z, ∃ o, H z = some o
  sh : ∀ (i : Nat) d, ρ[i]? = some (some (.sh d)) → ∃ v, σ[i]? = some (some v) ∧ Rep K (hide Z H) d v
  own : ∀ (i : Nat) (c : OC), ρ[i]? = some (some c.cell) → ∃ a o, σ[i]? = some (some (.ref a)) ∧ a ∈ Z ∧ a ∉ B ∧ H0 a = none ∧ H a = some o ∧ Hold K (hide Z H) c o
  inj : ∀ (i j : Nat) (c e : OC) a, ρ[i]? = some (some c.cell) → ρ[j]? = some (some e.cell) → σ[i]? = some (some (.ref a)) → σ[j]? = some (some (.ref a)) → i = j
  len : σ.length = ρ.length
section
variable {K : PySem.W.Frag} {B Z : List Addr} {H0 V0 H H' : Hp} {σ : St} {ρ : DEnv}
theorem SR.ow (r : SR K B H0 V0 H Z σ ρ) (i : Nat) (ds : List D) (h : ρ[i]? = some (some (.ow ds))) : ∃ a xs, σ[i]? = some (some (.ref a)) ∧ a ∈ Z ∧ a ∉ B ∧ H0 a = none ∧ H a = some (.lst xs) ∧ RepL K (hide Z H) ds xs := by
  obtain ⟨a, o, h1, h2, h3, h4, h5, xs, rfl, h7⟩ := r.own i (.l ds) h
  exact ⟨a, xs, h1, h2, h3, h4, h5, h7⟩
theorem SR.od (r : SR K B H0 V0 H Z σ ρ) (i : Nat) (ks : List Key) (ds : List D) (h : ρ[i]? = some (some (.od ks ds))) : ∃ a kvs, σ[i]? = some (some (.ref a)) ∧ a ∈ Z ∧ a ∉ B ∧ H0 a = none ∧ H a = some (.dK kvs) ∧ kvs.map (·.1) = ks ∧ RepL K (hide Z H) ds (kvs.map (·.2)) := by
  obtain ⟨a, o, h1, h2, h3, h4, h5, kvs, rfl, h7, h8⟩ := r.own i (.d ks ds) h
  exact ⟨a, kvs, h1, h2, h3, h4, h5, h7, h8⟩
theorem SR.mono (r : SR K B H0 V0 H Z σ ρ) (e : Same H H') : SR K B H0 V0 H' Z σ ρ :=
  ⟨r.same.trans e, r.tb.mono e, r.vis.trans (hide_same e), r.sub, fun z hz => let ⟨o, h⟩ := r.zs z hz; ⟨o, e _ _ h⟩,
    fun i d h => let ⟨v, h1, h2⟩ := r.sh i d h; ⟨v, h1, h2.mono (hide_same e)⟩,
    fun i c h => let ⟨a, o, h1, h2, hb, h3, h4, h5⟩ := r.own i c h; ⟨a, o, h1, h2, hb, h3, e _ _ h4, h5.mono (hide_same e)⟩, r.inj, r.len⟩
theorem SR.vis' (r : SR K B H0 V0 H Z σ ρ) {V1 : Hp} (e : Same V1 (hide Z H)) : SR K B H0 V1 H Z σ ρ :=
  ⟨r.same, r.tb, e, r.sub, r.zs, r.sh, r.own, r.inj, r.len⟩
theorem SR.newer (r : SR K B H0 V0 H Z σ ρ) {a : Addr} (h : H a = none) : a ∉ Z := fun z => by
  obtain ⟨o, e⟩ := r.zs a z
  rw [h] at e; cases e
theorem SR.more (r : SR K B H0 V0 H Z σ ρ) {a : Addr} {o : HO} (hn : H a = none) (e : Same H H') (ha : H' a = some o) : SR K B H0 V0 H' (a :: Z) σ ρ :=
  ⟨r.same.trans e, r.tb.mono e, r.vis.trans (hide_laid hn e), fun b hb => List.mem_cons_of_mem _ (r.sub b hb), fun z hz => (List.mem_cons.mp hz).elim (fun q => ⟨o, q ▸ ha⟩) fun q => let ⟨u, h⟩ := r.zs z q; ⟨u, e _ _ h⟩,
    fun i d h => let ⟨v, h1, h2⟩ := r.sh i d h; ⟨v, h1, h2.mono (hide_laid hn e)⟩,
    fun i c h => let ⟨b, o, h1, h2, hb, h3, h4, h5⟩ := r.own i c h; ⟨b, o, h1, List.mem_cons_of_mem _ h2, hb, h3, e _ _ h4, h5.mono (hide_laid hn e)⟩, r.inj, r.len⟩
theorem set_get {α : Type} {ρ : List (Option α)} {i j : Nat} {x y : α} (q : (ρ.set i (some x))[j]? = some (some y)) : (i = j ∧ x = y ∧ i < ρ.length) ∨ (i ≠ j ∧ ρ[j]? = some (some y)) := by
  by_cases hj : i = j
  · subst hj
    have hl : i < ρ.length := by
      have := (List.getElem?_eq_some_iff.mp q).1
      rw [List.length_set] at this
      exact this
    rw [List.getElem?_set_self hl] at q
    cases q
    exact .inl ⟨rfl, rfl, hl⟩
  · rw [List.getElem?_set_ne hj] at q
    exact .inr ⟨hj, q⟩
theorem sh_oc {d : D} {c : OC} : Cell.sh d = c.cell → False := fun e => by cases c <;> cases e
theorem cell_inj {c e : OC} (h : c.cell = e.cell) : c = e := by
  have := congrArg Cell.oc h
  rw [c.cell_oc, e.cell_oc] at this
  exact Option.some.inj this
theorem SR.set (r : SR K B H0 V0 H Z σ ρ) {i : Nat} {d : D} {v : V} (h : Rep K (hide Z H) d v) : SR K B H0 V0 H Z (σ.set i (some v)) (ρ.set i (some (.sh d))) := by
  refine ⟨r.same, r.tb, r.vis, r.sub, r.zs, fun j e q => ?_, fun j c q => ?_, fun j k c e a q1 q2 s1 s2 => ?_, by rw [List.length_set, List.length_set]; exact r.len⟩
  · rcases set_get q with ⟨rfl, z, hl⟩ | ⟨hj, q⟩
    · cases z
      exact ⟨v, List.getElem?_set_self (by rw [r.len]; exact hl), h⟩
    · obtain ⟨u, h1, h2⟩ := r.sh j e q
      exact ⟨u, by rw [List.getElem?_set_ne hj]; exact h1, h2⟩
  · rcases set_get q with ⟨_, z, _⟩ | ⟨hj, q⟩
    · exact (sh_oc z).elim
    · obtain ⟨a, o, h1, h2⟩ := r.own j c q
      exact ⟨a, o, by rw [List.getElem?_set_ne hj]; exact h1, h2⟩
  · rcases set_get q1 with ⟨_, z, _⟩ | ⟨n1, q1⟩
    · exact (sh_oc z).elim
    rcases set_get q2 with ⟨_, z, _⟩ | ⟨n2, q2⟩
    · exact (sh_oc z).elim
    rw [List.getElem?_set_ne n1] at s1
    rw [List.getElem?_set_ne n2] at s2
    exact r.inj j k c e a q1 q2 s1 s2
theorem SR.setO (r : SR K B H0 V0 H Z σ ρ) {i : Nat} {c : OC} {a : Addr} {o : HO} (hz : a ∈ Z) (hb : a ∉ B) (h0 : H0 a = none) (hH : H a = some o) (h : Hold K (hide Z H) c o)
    (hn : ∀ (j : Nat) (e : OC), ρ[j]? = some (some e.cell) → σ[j]? ≠ some (some (.ref a))) : SR K B H0 V0 H Z (σ.set i (some (.ref a))) (ρ.set i (some c.cell)) := by
  refine ⟨r.same, r.tb, r.vis, r.sub, r.zs, fun j e q => ?_, fun j e q => ?_, fun j k fs gs b q1 q2 s1 s2 => ?_, by rw [List.length_set, List.length_set]; exact r.len⟩
  · rcases set_get q with ⟨_, z, _⟩ | ⟨hj, q⟩
    · exact (sh_oc z.symm).elim
    · obtain ⟨u, h1, h2⟩ := r.sh j e q
      exact ⟨u, by rw [List.getElem?_set_ne hj]; exact h1, h2⟩
  · rcases set_get q with ⟨rfl, z, hl⟩ | ⟨hj, q⟩
    · have := cell_inj z
      subst this
      exact ⟨a, o, List.getElem?_set_self (by rw [r.len]; exact hl), hz, hb, h0, hH, h⟩
    · obtain ⟨a', o', h1, h2⟩ := r.own j e q
      exact ⟨a', o', by rw [List.getElem?_set_ne hj]; exact h1, h2⟩
  · rcases set_get q1 with ⟨e1, _, hl⟩ | ⟨n1, q1⟩
    · rcases set_get q2 with ⟨e2, _, _⟩ | ⟨n2, q2⟩
      · rw [← e1, ← e2]
      · subst e1
        rw [List.getElem?_set_self (by rw [r.len]; exact hl)] at s1
        cases s1
        rw [List.getElem?_set_ne n2] at s2
        exact absurd s2 (hn k gs q2)
    · rw [List.getElem?_set_ne n1] at s1
      rcases set_get q2 with ⟨e2, _, hl⟩ | ⟨n2, q2⟩
      · subst e2
        rw [List.getElem?_set_self (by rw [r.len]; exact hl)] at s2
        cases s2
        exact absurd s1 (hn j fs q1)
      · rw [List.getElem?_set_ne n2] at s2
        exact r.inj j k fs gs b q1 q2 s1 s2
theorem SR.updC (r : SR K B H0 V0 H Z σ ρ) {i : Nat} {c e : OC} {a : Addr} {o : HO} (hi : ρ[i]? = some (some c.cell)) (hs : σ[i]? = some (some (.ref a))) (h : Hold K (hide Z H) e o) :
    SR K B H0 V0 (upd H a o) Z σ (ρ.set i (some e.cell)) := by
  obtain ⟨a', o', s1, hz, hb, h0, hH, hld⟩ := r.own i c hi
  rw [hs] at s1
  cases s1
  have vs : Same (hide Z H) (hide Z (upd H a o)) := hide_upd hz
  refine ⟨same_updI h0 r.same, r.tb.upd hH hld.notbl, r.vis.trans vs, r.sub, fun z q => ?_, fun j d q => ?_, fun j f q => ?_, fun j k fs gs b q1 q2 s1 s2 => ?_, by rw [List.length_set]; exact r.len⟩
  · by_cases e : z = a
    · subst e; exact ⟨_, upd_same⟩
    · obtain ⟨o, ho⟩ := r.zs z q
      exact ⟨o, by rw [upd_ne e]; exact ho⟩
  · rcases set_get q with ⟨_, z, _⟩ | ⟨n, q⟩
    · exact (sh_oc z.symm).elim
    · obtain ⟨u, h1, h2⟩ := r.sh j d q
      exact ⟨u, h1, h2.mono vs⟩
  · rcases set_get q with ⟨rfl, z, _⟩ | ⟨n, q⟩
    · have := cell_inj z
      subst this
      exact ⟨a, o, hs, hz, hb, h0, upd_same, h.mono vs⟩
    · obtain ⟨b, zs, t1, t2, tb, t3, t4, t5⟩ := r.own j f q
      have ne : b ≠ a := fun z => by
        subst z
        exact n (r.inj i j _ _ b hi q hs t1)
      exact ⟨b, zs, t1, t2, tb, t3, by rw [upd_ne ne]; exact t4, t5.mono vs⟩
  · have g : ∀ {m : Nat} {fs : OC}, (ρ.set i (some e.cell))[m]? = some (some fs.cell) → ∃ fs' : OC, ρ[m]? = some (some fs'.cell) := fun {m fs} q => by
      rcases set_get q with ⟨rfl, _, _⟩ | ⟨_, q⟩
      · exact ⟨c, hi⟩
      · exact ⟨fs, q⟩
    obtain ⟨f1, p1⟩ := g q1
    obtain ⟨f2, p2⟩ := g q2
    exact r.inj j k f1 f2 b p1 p2 s1 s2
theorem SR.updO (r : SR K B H0 V0 H Z σ ρ) {i : Nat} {ds es : List D} {a : Addr} {ys : List V} (hi : ρ[i]? = some (some (.ow ds))) (hs : σ[i]? = some (some (.ref a))) (h : RepL K (hide Z H) es ys) :
    SR K B H0 V0 (upd H a (.lst ys)) Z σ (ρ.set i (some (.ow es))) := r.updC (c := .l ds) (e := .l es) hi hs ⟨ys, rfl, h⟩
end
def tD (K : PySem.W.Frag) (f : DEnv → Option D) : TE := fun σ H Q => ∃ ρ d B H0 V0 Z, f ρ = some d ∧ SR K B H0 V0 H Z σ ρ ∧ ∀ v H', Same H H' → Rep K (hide Z H') d v → Q v H'
def tQ (K : PySem.W.Frag) (f : DEnv → Option (List D)) : TE := fun σ H Q => ∃ ρ ds B H0 V0 Z, f ρ = some ds ∧ SR K B H0 V0 H Z σ ρ ∧ ∀ a xs H', Same H H' → (SqL K H' a xs ∨ SqT K (hide Z H') a xs) → RepL K (hide Z H') ds xs → Q (.ref a) H'
def tF (K : PySem.W.Frag) (f : DEnv → Option (List D)) : TE := fun σ H Q => ∃ ρ ds B H0 V0 Z, f ρ = some ds ∧ SR K B H0 V0 H Z σ ρ ∧ ∀ a xs H', Same H H' → H a = none → H' a = some (.lst xs) → RepL K (hide (a :: Z) H') ds xs → Q (.ref a) H'
def tT (K : PySem.W.Frag) (f : DEnv → Option Bool) : TT := fun σ H Q => ∃ ρ b B H0 V0 Z, f ρ = some b ∧ SR K B H0 V0 H Z σ ρ ∧ ∀ H', Same H H' → Q b H'
def tL (K : PySem.W.Frag) (f : DEnv → Option (List D)) : TA := fun σ H Q => ∃ ρ ds B H0 V0 Z, f ρ = some ds ∧ SR K B H0 V0 H Z σ ρ ∧ ∀ xs H', Same H H' → RepL K (hide Z H') ds xs → Q xs H'
structure Walk (K : PySem.W.Frag) (V : Hp) (J : It) (ds : List D) : Prop where
  go : ∀ H', Same V H' → ∀ i, i < ds.length → J.go i H'
  yld : ∀ H', Same V H' → ∀ (i : Nat) x H3, J.yld i H' x H3 → Same H' H3 ∧ ∀ d, ds[i]? = some d → ∀ Z : List Addr, (∀ z ∈ Z, ∃ o, H' z = some o) → Same V (hide Z H') → Rep K (hide Z H3) d x
  stop : ∀ H', Same V H' → J.stop ds.length H'
def tI (K : PySem.W.Frag) (f : DEnv → Option (List D)) : TI := fun σ H R => ∃ ρ ds B H0 V0 Z, f ρ = some ds ∧ SR K B H0 V0 H Z σ ρ ∧ ∀ J H', Same H H' → Walk K (hide Z H') J ds → R J H'
inductive Out where
  | nx (ρ : DEnv)
  | bk (ρ : DEnv)
  | ct (ρ : DEnv)
  | rt (d : D)
def PostOk (K : PySem.W.Frag) (B : List Addr) (H0 V0 : Hp) (E : Ends) : Out → Prop
  | .nx ρ => ∀ σ H Z, SR K B H0 V0 H Z σ ρ → E.nx σ H
  | .bk ρ => ∀ σ H Z, SR K B H0 V0 H Z σ ρ → E.bk σ H
  | .ct ρ => ∀ σ H Z, SR K B H0 V0 H Z σ ρ → E.ct σ H
  | .rt d => ∀ v H, Same H0 H → Rep K (hide B H) d v → E.rt v H
def tS (K : PySem.W.Frag) (g : DEnv → Option Out) : TS := fun E σ H => ∃ ρ o B H0 V0 Z, g ρ = some o ∧ SR K B H0 V0 H Z σ ρ ∧ PostOk K B H0 V0 E o
def tG (K : PySem.W.Frag) (h : D → DEnv → Option DEnv) : TG := fun v σ H Q => ∃ ρ d ρ' B H0 V0 Z, h d ρ = some ρ' ∧ SR K B H0 V0 H Z σ ρ ∧ Rep K (hide Z H) d v ∧ ∀ σ', SR K B H0 V0 H Z σ' ρ' → Q σ' H
def tGs (K : PySem.W.Frag) (h : List D → DEnv → Option DEnv) : TGs := fun vs σ H Q => ∃ ρ ds ρ' B H0 V0 Z, h ds ρ = some ρ' ∧ SR K B H0 V0 H Z σ ρ ∧ RepL K (hide Z H) ds vs ∧ ∀ σ', SR K B H0 V0 H Z σ' ρ' → Q σ' H
abbrev SE (X : Cx) (e : Expr) (f : DEnv → Option D) : Prop := PE X e (tD X.K f)
abbrev SQ (X : Cx) (e : Expr) (f : DEnv → Option (List D)) : Prop := PE X e (tQ X.K f)
abbrev SF (X : Cx) (e : Expr) (f : DEnv → Option (List D)) : Prop := PE X e (tF X.K f)
abbrev STt (X : Cx) (e : Expr) (f : DEnv → Option Bool) : Prop := PT X e (tT X.K f)
abbrev STw (X : Cx) (e : Expr) (f : DEnv → Option Bool) : Prop := PW X e (tT X.K f)
abbrev SA (X : Cx) (es : List Expr) (f : DEnv → Option (List D)) : Prop := PA X es (tL X.K f)
abbrev SI (X : Cx) (tg e : Expr) (f : DEnv → Option (List D)) : Prop := PI X tg e (tI X.K f)
abbrev SS (X : Cx) (st : Stmt) (g : DEnv → Option Out) : Prop := PS X st (tS X.K g)
abbrev SSs (X : Cx) (st : List Stmt) (g : DEnv → Option Out) : Prop := PSs X st (tS X.K g)
abbrev SG (X : Cx) (e : Expr) (h : D → DEnv → Option DEnv) : Prop := PG X e (tG X.K h)
abbrev SGs (X : Cx) (es : List Expr) (h : List D → DEnv → Option DEnv) : Prop := PGs X es (tGs X.K h)
section
variable {X : Cx} {e : Expr}
theorem pe_weak {t t' : TE} (h : PE X e t) (w : ∀ σ H Q, t' σ H Q → t σ H Q) : PE X e t' := fun pins s σ H Q I q => h pins s σ H Q I (w σ H Q q)
theorem pt_weak {t t' : TT} (h : PT X e t) (w : ∀ σ H Q, t' σ H Q → t σ H Q) : PT X e t' := fun pins s σ H Q I q => h pins s σ H Q I (w σ H Q q)
theorem pw_weak {t t' : TT} (h : PW X e t) (w : ∀ σ H Q, t' σ H Q → t σ H Q) : PW X e t' := fun wh pins s σ H Q I q => h wh pins s σ H Q I (w σ H Q q)
theorem pa_weak {es : List Expr} {t t' : TA} (h : PA X es t) (w : ∀ σ H Q, t' σ H Q → t σ H Q) : PA X es t' := fun pos pins s σ H Q I q => h pos pins s σ H Q I (w σ H Q q)
theorem pi_weak {tg : Expr} {t t' : TI} (h : PI X tg e t) (w : ∀ σ H Q, t' σ H Q → t σ H Q) : PI X tg e t' := fun pins s σ H Q I q => h pins s σ H Q I (w σ H Q q)
theorem ps_weak {st : Stmt} {t t' : TS} (h : PS X st t) (w : ∀ E σ H, t' E σ H → t E σ H) : PS X st t' := fun pins s σ H E I q => h pins s σ H E I (w E σ H q)
theorem pss_weak {st : List Stmt} {t t' : TS} (h : PSs X st t) (w : ∀ E σ H, t' E σ H → t E σ H) : PSs X st t' := fun pins s σ H E I q => h pins s σ H E I (w E σ H q)
theorem pg_weak {t t' : TG} (h : PG X e t) (w : ∀ v σ H Q, t' v σ H Q → t v σ H Q) : PG X e t' := fun pins s σ H v u Q I r q => h pins s σ H v u Q I r (w v σ H Q q)
theorem pgs_weak {es : List Expr} {t t' : TGs} (h : PGs X es t) (w : ∀ v σ H Q, t' v σ H Q → t v σ H Q) : PGs X es t' := fun pins s σ H v u Q I r q => h pins s σ H v u Q I r (w v σ H Q q)
end
end L3
set_option Elab.async false
set_option linter.all false
set_option maxRecDepth 100000
set_option maxHeartbeats 4000000
namespace L3
open PySem PySem.Spec PyProof.Rows L2
def LIM : Nat := 100000
theorem lim_le {n : Nat} (h : n ≤ LIM) : n ≤ sizeLine := by rw [sizeLine_eq]; unfold LIM at h; omega
theorem lim_lt {n : Nat} (h : n ≤ LIM) : n < sizeLine := by rw [sizeLine_eq]; unfold LIM at h; omega
def dVar (i : Nat) : DEnv → Option D := fun ρ => match ρ[i]? with | some (some (.sh d)) => some d | _ => none
def dOwn (i : Nat) : DEnv → Option (List D) := fun ρ => match ρ[i]? with | some (some (.ow ds)) => some ds | _ => none
def dC (d : D) : DEnv → Option D := fun _ => some d
theorem dVar_some {i : Nat} {ρ : DEnv} {d : D} (e : dVar i ρ = some d) : ρ[i]? = some (some (.sh d)) := by
  unfold dVar at e
  split at e
  · rename_i h; cases e; exact h
  · cases e
theorem dOwn_some {i : Nat} {ρ : DEnv} {d : List D} (e : dOwn i ρ = some d) : ρ[i]? = some (some (.ow d)) := by
  unfold dOwn at e
  split at e
  · rename_i h; cases e; exact h
  · cases e
section
variable {X : Cx}
theorem sv (i : Nat) {x : Str} {pos : Pos} (hN : X.N[i]? = some x := by rfl) (hv : Vis X.env.scope x := by first | exact Or.inl rfl | exact Or.inr (Or.inl rfl) | exact Or.inr (Or.inr rfl)) (hd : (x == ("__debug__" : Str)) = false := by decide)
    (hcd : (x == ("__classdict__" : Str)) = false := by decide) : SE X (.Name x pos) (dVar i) :=
  pe_weak (pe_var hN hv hd hcd) fun σ H Q ⟨ρ, d, B, H0, V0, Z, e, r, q⟩ => by
    obtain ⟨v, h1, h2⟩ := r.sh i d (dVar_some e)
    exact ⟨v, h1, q v H (Same.refl H) h2⟩
theorem qv (i : Nat) {x : Str} {pos : Pos} (hN : X.N[i]? = some x := by rfl) (hv : Vis X.env.scope x := by first | exact Or.inl rfl | exact Or.inr (Or.inl rfl) | exact Or.inr (Or.inr rfl)) (hd : (x == ("__debug__" : Str)) = false := by decide)
    (hcd : (x == ("__classdict__" : Str)) = false := by decide) : SQ X (.Name x pos) (dOwn i) :=
  pe_weak (pe_var hN hv hd hcd) fun σ H Q ⟨ρ, ds, B, H0, V0, Z, e, r, q⟩ => by
    obtain ⟨a, xs, h1, h2, hb, h3, h4, h5⟩ := r.ow i ds (dOwn_some e)
    exact ⟨.ref a, h1, q a xs H (Same.refl H) (.inl (SqL.of h4)) h5⟩
theorem se_c {e : Expr} {d : D} {v : V} (h : PE X e (tC v)) (hr : ∀ H, Rep X.K H d v) : SE X e (dC d) :=
  pe_weak h fun σ H Q ⟨ρ, d', B, H0, V0, Z, e, r, q⟩ => by
    cases e
    exact q v H (Same.refl H) (hr _)
theorem se_int {i j pos} : SE X (.Constant (.int i) j pos) (dC (.int i)) := se_c pe_int fun _ => rep_int.mpr rfl
theorem se_bl {b j pos} : SE X (.Constant (.bool b) j pos) (dC (.bl b)) := se_c pe_bl fun _ => rep_bl.mpr rfl
theorem se_non {j pos} : SE X (.Constant .none j pos) (dC .non) := se_c pe_non fun _ => rep_non.mpr rfl
theorem se_str {x j pos} : SE X (.Constant (.str x) j pos) (dC (.str x)) := se_c pe_str fun _ => rep_str.mpr rfl
theorem se_gint {x : Str} {i : Int} {t : Tok} {pos : Pos} (hm : X.mg x = some (.int i t)) (hg : Gl X x := by rfl) (hd : (x == ("__debug__" : Str)) = false := by decide) : SE X (.Name x pos) (dC (.int i)) :=
  se_c (pe_glob hg hm (v := .int i) ⟨t, rfl⟩ hd) fun _ => rep_int.mpr rfl
end
def dSq (f : DEnv → Option D) : DEnv → Option (List D) := fun ρ => match f ρ with | some (.lst ds) => some ds | some (.tup ds) => some ds | _ => none
def dLs (f : DEnv → Option (List D)) : DEnv → Option D := fun ρ => (f ρ).map D.lst
section
variable {X : Cx} {e : Expr}
theorem q_of {f : DEnv → Option D} (h : SE X e f) : SQ X e (dSq f) :=
  pe_weak h fun σ H Q ⟨ρ, ds, B, H0, V0, Z, e, r, q⟩ => by
    unfold dSq at e
    split at e
    · rename_i es he
      cases e
      exact ⟨ρ, _, B, H0, V0, Z, he, r, fun v H' s hr => by
        obtain ⟨a, xs, rfl, h2, h3⟩ := rep_lst.mp hr
        exact q a xs H' s (.inl (hide_sub.seq h2)) h3⟩
    · rename_i es he
      cases e
      exact ⟨ρ, _, B, H0, V0, Z, he, r, fun v H' s hr => by
        obtain ⟨a, xs, rfl, h2, h3⟩ := rep_tup.mp hr
        exact q a xs H' s (.inr h2) h3⟩
    · cases e
theorem f_se {f : DEnv → Option (List D)} (h : SF X e f) : SE X e (dLs f) :=
  pe_weak h fun σ H Q ⟨ρ, d, B, H0, V0, Z, e, r, q⟩ => by
    unfold dLs at e
    obtain ⟨ds, he, rfl⟩ := Option.map_eq_some_iff.mp e
    refine ⟨ρ, ds, B, H0, V0, Z, he, r, fun a xs H' s hn ha hr => q _ H' s (rep_lst.mpr ⟨a, xs, rfl, SqL.of ?_, hr.mono (hide_anti fun b hb => List.mem_cons_of_mem _ hb)⟩)⟩
    rw [hide_out (r.newer hn)]
    exact ha
theorem f_q {f : DEnv → Option (List D)} (h : SF X e f) : SQ X e f :=
  pe_weak h fun σ H Q ⟨ρ, ds, B, H0, V0, Z, e, r, q⟩ =>
    ⟨ρ, ds, B, H0, V0, Z, e, r, fun a xs H' s hn ha hr => q a xs H' s (.inl (SqL.of ha)) (hr.mono (hide_anti fun b hb => List.mem_cons_of_mem _ hb))⟩
end
def RdOp (K : PySem.W.Frag) (r : R2) (g : D → D → Option D) : Prop :=
  ∀ x y d, g x y = some d → ∀ (Z : List Addr) (H : Hp) (u v : V) (Q : VK), (∀ z ∈ Z, ∃ o, H z = some o) → Rep K (hide Z H) x u → Rep K (hide Z H) y v → (∀ w' H', Same H H' → Rep K (hide Z H') d w' → Q w' H') → r u v H Q
def d2 (g : D → D → Option D) (fa fb : DEnv → Option D) : DEnv → Option D := fun ρ => match fa ρ with | some x => (match fb ρ with | some y => g x y | none => none) | none => none
def dTest (f : DEnv → Option D) : DEnv → Option Bool := fun ρ => match f ρ with | some (.bl b) => some b | _ => none
theorem d2_some {g : D → D → Option D} {fa fb : DEnv → Option D} {ρ : DEnv} {d : D} (e : d2 g fa fb ρ = some d) : ∃ x y, fa ρ = some x ∧ fb ρ = some y ∧ g x y = some d := by
  unfold d2 at e
  split at e
  · rename_i x hx
    split at e
    · rename_i y hy
      exact ⟨x, y, hx, hy, e⟩
    · cases e
  · cases e
section
variable {X : Cx} {a b c : Expr} {fa fb fc : DEnv → Option D} {pos : Pos}
theorem bin_imp {K : PySem.W.Frag} {r : R2} {g : D → D → Option D} (hr : RdOp K r g) : ∀ σ H Q, tD K (d2 g fa fb) σ H Q → tOp r (tD K fa) (tD K fb) σ H Q :=
  fun σ H Q ⟨ρ, d, B, H0, V0, Z, e, r, q⟩ => by
    obtain ⟨x, y, ex, ey, e⟩ := d2_some e
    exact ⟨ρ, x, B, H0, V0, Z, ex, r, fun u H1 s1 r1 => ⟨ρ, y, B, H0, V0, Z, ey, r.mono s1, fun v H2 s2 r2 =>
      hr x y d e Z H2 u v Q ((r.mono s1).mono s2).zs (r1.mono (hide_same s2)) r2 fun w' H' s rr => q w' H' (s1.trans (s2.trans s)) rr⟩⟩
theorem test_imp {K : PySem.W.Frag} {f : DEnv → Option D} : ∀ σ H Q, tT K (dTest f) σ H Q → tD K f σ H (fun x H' => ∃ k, x = .bl k ∧ Q k H') :=
  fun σ H Q ⟨ρ, b, B, H0, V0, Z, e, r, q⟩ => by
    unfold dTest at e
    split at e
    · rename_i b' hb
      cases e
      exact ⟨ρ, _, B, H0, V0, Z, hb, r, fun v H' s rr => ⟨b, rep_bl.mp rr, q H' s⟩⟩
    · cases e
theorem se_bin {op : Operator} {r : R2} {g : D → D → Option D} (ho : OpR X (binaryOp op) r) (hr : RdOp X.K r g) (ha : SE X a fa) (hb : SE X b fb) : SE X (.BinOp a op b pos) (d2 g fa fb) :=
  pe_weak (pe_op ho ha hb) (bin_imp hr)
theorem se_cmp {op : CmpOp} {r : R2} {g : D → D → Option D} (ho : OpR X (compareOp op) r) (hr : RdOp X.K r g) (ha : SE X a fa) (hb : SE X b fb) (hm : behindInMarks op b = false) : SE X (.Compare a [op] [b] pos) (d2 g fa fb) :=
  pe_weak (pe_cmpR ho ha hb hm) (bin_imp hr)
theorem st_cmp {op : CmpOp} {r : R2} {g : D → D → Option D} (ho : OpR X (compareOp op) r) (hr : RdOp X.K r g) (ha : SE X a fa) (hb : SE X b fb) (hm : behindInMarks op b = false) : STt X (.Compare a [op] [b] pos) (dTest (d2 g fa fb)) :=
  pt_weak (pt_cmpR ho ha hb hm) fun σ H Q h => bin_imp hr _ _ _ (test_imp σ H Q h)
theorem st_val {f : DEnv → Option D} (h : SE X a f) (he : ∀ whole, isTrue a X.env whole = (do let v ← whole; standAt a.pos; holding [v] (truthy v)) := by intro _; rfl) : STt X a (dTest f) :=
  pt_weak (pt_val h he) fun σ H Q h => test_imp σ H Q h
def dChain (g g' : D → D → Option D) (fa fb fc : DEnv → Option D) : DEnv → Option D := fun ρ => match fa ρ with
  | some x => (match fb ρ with
    | some y => (match g x y with
      | some (.bl true) => (match fc ρ with | some z => g' y z | none => none)
      | some (.bl false) => some (.bl false)
      | _ => none)
    | none => none)
  | none => none
theorem chain_imp {K : PySem.W.Frag} {r r' : R2} {g g' : D → D → Option D} (hr : RdOp K r g) (hr' : RdOp K r' g') : ∀ σ H Q, tD K (dChain g g' fa fb fc) σ H Q → tChain r r' (tD K fa) (tD K fb) (tD K fc) σ H Q :=
  fun σ H Q ⟨ρ, d, B, H0, V0, Z, e, r, q⟩ => by
    unfold dChain at e
    split at e
    · rename_i x ex
      split at e
      · rename_i y ey
        refine ⟨ρ, x, B, H0, V0, Z, ex, r, fun u H1 s1 r1 => ⟨ρ, y, B, H0, V0, Z, ey, r.mono s1, fun v H2 s2 r2 => ?_⟩⟩
        have R2 := (r.mono s1).mono s2
        split at e
        · rename_i eg
          split at e
          · rename_i z ez
            refine hr x y _ eg Z H2 u v _ R2.zs (r1.mono (hide_same s2)) r2 fun k H3 s3 r3 => ⟨true, rep_bl.mp r3, iteT ?_⟩
            exact ⟨ρ, z, B, H0, V0, Z, ez, R2.mono s3, fun w' H4 s4 r4 => hr' y z d e Z H4 v w' Q ((R2.mono s3).mono s4).zs (r2.mono (hide_same (s3.trans s4))) r4 fun k' H5 s5 r5 =>
              q k' H5 (s1.trans (s2.trans (s3.trans (s4.trans s5)))) r5⟩
          · cases e
        · rename_i eg
          cases e
          exact hr x y _ eg Z H2 u v _ R2.zs (r1.mono (hide_same s2)) r2 fun k H3 s3 r3 => ⟨false, rep_bl.mp r3, iteF (q _ H3 (s1.trans (s2.trans s3)) (rep_bl.mpr rfl))⟩
        · cases e
      · cases e
    · cases e
theorem se_chain {op op' : CmpOp} {r r' : R2} {g g' : D → D → Option D} (ho : OpR X (compareOp op) r) (hr : RdOp X.K r g) (ho' : OpR X (compareOp op') r') (hr' : RdOp X.K r' g') (ha : SE X a fa) (hb : SE X b fb) (hc : SE X c fc)
    (hm : lastMarks [op, op'] [b, c] = false := by with_unfolding_all rfl) : SE X (.Compare a [op, op'] [b, c] pos) (dChain g g' fa fb fc) :=
  pe_weak (pe_chain ho ho' ha hb hc hm) (chain_imp hr hr')
def dAnd (fa fb : DEnv → Option D) : DEnv → Option D := fun ρ => match fa ρ with | some (.bl true) => fb ρ | some (.bl false) => some (.bl false) | _ => none
def dNot (fa : DEnv → Option D) : DEnv → Option D := fun ρ => match fa ρ with | some (.bl b) => some (.bl (!b)) | _ => none
def dAndT (fa fb : DEnv → Option Bool) : DEnv → Option Bool := fun ρ => match fa ρ with | some true => fb ρ | some false => some false | none => none
def dOrT (fa fb : DEnv → Option Bool) : DEnv → Option Bool := fun ρ => match fa ρ with | some true => some true | some false => fb ρ | none => none
def dNotT (fa : DEnv → Option Bool) : DEnv → Option Bool := fun ρ => (fa ρ).map (!·)
variable {rest : List Expr}
theorem se_one {op} {f : DEnv → Option D} (h : SE X a f) : SE X (.BoolOp op [a] pos) f := pe_one h
theorem se_and (ha : SE X a fa) (hb : SE X (.BoolOp .And (b :: rest) pos) fb) : SE X (.BoolOp .And (a :: b :: rest) pos) (dAnd fa fb) :=
  pe_weak (pe_and ha hb) fun σ H Q ⟨ρ, d, B, H0, V0, Z, e, r, q⟩ => by
    unfold dAnd at e
    split at e
    · rename_i ea
      exact ⟨ρ, _, B, H0, V0, Z, ea, r, fun u H1 s1 r1 => ⟨true, rep_bl.mp r1, iteT ⟨ρ, d, B, H0, V0, Z, e, r.mono s1, fun v H' s rr => q v H' (s1.trans s) rr⟩⟩⟩
    · rename_i ea
      cases e
      exact ⟨ρ, _, B, H0, V0, Z, ea, r, fun u H1 s1 r1 => ⟨false, rep_bl.mp r1, iteF (q _ H1 s1 (rep_bl.mpr rfl))⟩⟩
    · cases e
theorem se_not (ha : SE X a fa) : SE X (.UnaryOp .Not a pos) (dNot fa) :=
  pe_weak (pe_not ha) fun σ H Q ⟨ρ, d, B, H0, V0, Z, e, r, q⟩ => by
    unfold dNot at e
    split at e
    · rename_i b' ea
      cases e
      exact ⟨ρ, _, B, H0, V0, Z, ea, r, fun u H1 s1 r1 => ⟨b', rep_bl.mp r1, q _ H1 s1 (rep_bl.mpr rfl)⟩⟩
    · cases e
variable {ga gb : DEnv → Option Bool}
theorem sw_and1 (ha : STt X a ga) : STw X (.BoolOp .And [a] pos) ga := pw_and1 ha
theorem sw_or1 (ha : STt X a ga) : STw X (.BoolOp .Or [a] pos) ga := pw_or1 ha
theorem sw_and (ha : STt X a ga) (hb : STw X (.BoolOp .And (b :: rest) pos) gb) : STw X (.BoolOp .And (a :: b :: rest) pos) (dAndT ga gb) :=
  pw_weak (pw_and ha hb) fun σ H Q ⟨ρ, d, B, H0, V0, Z, e, r, q⟩ => by
    unfold dAndT at e
    split at e
    · rename_i ea
      exact ⟨ρ, _, B, H0, V0, Z, ea, r, fun H1 s1 => iteT ⟨ρ, d, B, H0, V0, Z, e, r.mono s1, fun H' s => q H' (s1.trans s)⟩⟩
    · rename_i ea
      cases e
      exact ⟨ρ, _, B, H0, V0, Z, ea, r, fun H1 s1 => iteF (q H1 s1)⟩
    · cases e
theorem sw_or (ha : STt X a ga) (hb : STw X (.BoolOp .Or (b :: rest) pos) gb) : STw X (.BoolOp .Or (a :: b :: rest) pos) (dOrT ga gb) :=
  pw_weak (pw_or ha hb) fun σ H Q ⟨ρ, d, B, H0, V0, Z, e, r, q⟩ => by
    unfold dOrT at e
    split at e
    · rename_i ea
      cases e
      exact ⟨ρ, _, B, H0, V0, Z, ea, r, fun H1 s1 => iteT (q H1 s1)⟩
    · rename_i ea
      exact ⟨ρ, _, B, H0, V0, Z, ea, r, fun H1 s1 => iteF ⟨ρ, d, B, H0, V0, Z, e, r.mono s1, fun H' s => q H' (s1.trans s)⟩⟩
    · cases e
theorem st_w (h : STw X a ga) : STt X a ga := PW.pt h
theorem st_not (ha : STt X a ga) : STt X (.UnaryOp .Not a pos) (dNotT ga) :=
  pt_weak (pt_not ha) fun σ H Q ⟨ρ, d, B, H0, V0, Z, e, r, q⟩ => by
    unfold dNotT at e
    obtain ⟨b', eb, rfl⟩ := Option.map_eq_some_iff.mp e
    exact ⟨ρ, b', B, H0, V0, Z, eb, r, fun H1 s1 => q H1 s1⟩
end
def plainE : Expr → Bool
  | .Starred _ _ => false
  | _ => true
theorem star_of {e : Expr} {es : List Expr} {env : Env} (h : plainE e = true) : starEach (e :: es) env = (false, eval e env) :: starEach es env := by
  cases e <;> first | (cases h; done) | (rw [starEach]; intro _ _ z; cases z) | rw [starEach]
theorem back_of {pos : Pos} {env : Env} : ∀ {es : List Expr}, es.all plainE = true → (backTo pos (starEach es env)).any (·.1) = false
  | [], _ => rfl
  | e :: es, h => by
    rw [List.all_cons, Bool.and_eq_true] at h
    rw [star_of h.1]
    have ih := @back_of pos env es h.2
    unfold backTo at ih ⊢
    rw [List.map_cons, List.any_cons, ih]
    rfl
def dNil : DEnv → Option (List D) := fun _ => some []
def dCons (f : DEnv → Option D) (g : DEnv → Option (List D)) : DEnv → Option (List D) := fun ρ => match f ρ with | some d => (match g ρ with | some ds => some (d :: ds) | none => none) | none => none
section
variable {X : Cx} {e : Expr} {es : List Expr} {f : DEnv → Option D} {g : DEnv → Option (List D)} {pos : Pos}
theorem sa_nil : SA X [] dNil := pa_weak pa_nil fun σ H Q ⟨ρ, ds, B, H0, V0, Z, e, r, q⟩ => by
  cases e
  exact q [] H (Same.refl H) RepL.nil
theorem sa_cons (ha : SE X e f) (hr : SA X es g) (hs : starEach (e :: es) X.env = (false, eval e X.env) :: starEach es X.env := by exact star_of rfl) : SA X (e :: es) (dCons f g) :=
  pa_weak (pa_cons ha hr hs) fun σ H Q ⟨ρ, ds, B, H0, V0, Z, e, r, q⟩ => by
    unfold dCons at e
    split at e
    · rename_i d ed
      split at e
      · rename_i ds' eds
        cases e
        exact ⟨ρ, d, B, H0, V0, Z, ed, r, fun v H1 s1 r1 => ⟨ρ, ds', B, H0, V0, Z, eds, r.mono s1, fun vs H2 s2 r2 => q (v :: vs) H2 (s1.trans s2) (RepL.cons (r1.mono (hide_same s2)) r2)⟩⟩
      · cases e
    · cases e
def dTup (g : DEnv → Option (List D)) : DEnv → Option D := fun ρ => match g ρ with | some ds => if ds.length ≤ LIM then some (.tup ds) else none | none => none
def dLim (g : DEnv → Option (List D)) : DEnv → Option (List D) := fun ρ => match g ρ with | some ds => if ds.length ≤ LIM then some ds else none | none => none
theorem se_tup {x1} (h : SA X es g) : SE X (.Tuple es x1 pos) (dTup g) :=
  pe_weak (pe_tup h) fun σ H Q ⟨ρ, d, B, H0, V0, Z, e, r, q⟩ => by
    unfold dTup at e
    split at e
    · rename_i ds eds
      split at e
      · rename_i hl
        cases e
        refine ⟨ρ, ds, B, H0, V0, Z, eds, r, fun xs H1 s1 r1 => ⟨lim_le (by rw [← r1.length]; exact hl), fun p hp => ?_⟩⟩
        have sn := same_upd (o := HO.tup xs) hp
        refine q _ _ (s1.trans sn) (rep_tup.mpr ⟨p, xs, rfl, SqT.of ?_, r1.mono (hide_same sn)⟩)
        rw [hide_out ((r.mono s1).newer hp)]
        exact upd_same
      · cases e
    · cases e
theorem sf_lst (h : SA X es g) : SF X (.List es pos) (dLim g) :=
  pe_weak (pe_lst h) fun σ H Q ⟨ρ, d, B, H0, V0, Z, e, r, q⟩ => by
    unfold dLim at e
    split at e
    · rename_i ds eds
      split at e
      · rename_i hl
        cases e
        refine ⟨ρ, _, B, H0, V0, Z, eds, r, fun xs H1 s1 r1 => ⟨lim_le (by rw [← r1.length]; exact hl), fun p hp => ?_⟩⟩
        exact q p xs _ (s1.trans (same_upd hp)) (s1.free hp) upd_same (r1.mono (hide_laid hp (same_upd hp)))
      · cases e
    · cases e
def spD (K : PySem.W.Frag) (F : List D → Option D) : Sp := fun vs H Q _ => ∃ Z ds d, (TB K H ∧ ∀ z ∈ Z, ∃ o, H z = some o) ∧ RepL K (hide Z H) ds vs ∧ F ds = some d ∧ ∀ v H', Same H H' → Rep K (hide Z H') d v → Q v H'
def dCall (F : List D → Option D) (g : DEnv → Option (List D)) : DEnv → Option D := fun ρ => match g ρ with | some ds => F ds | none => none
theorem se_call {k : Nat} {f' : Addr} {fd : FuncData} {ps : List Str} {F : List D → Option D} {x : Str} {p : Pos} (G : FnOk X.prog X.w X.K X.mg X.base CX0 k f' fd ps (spD X.K F)) (hr : Room k X.A) (hm : X.mg x = some (.ref f')) (hk : PySem.W.keepIn X.K (.ref f') = true) (hb : Binds X.K fd ps [])
    (ha : SA X (e :: es) g) (hg : Gl X x := by rfl) (hdb : (x == ("__debug__" : Str)) = false := by decide) (he : starEach (e :: es) X.env = (false, eval e X.env) :: starEach es X.env := by exact star_of rfl) (hpl : (backTo pos (starEach es X.env)).any (·.1) = false := by exact back_of rfl) :
    SE X (.Call (.Name x p) (e :: es) [] pos) (dCall F g) :=
  pe_weak (pe_call G hr hg hm hk hb .nil pass0 ha hdb he hpl) fun σ H Q ⟨ρ, d, B, H0, V0, Z, e, r, q⟩ => by
    unfold dCall at e
    split at e
    · rename_i ds eds
      refine ⟨ρ, ds, B, H0, V0, Z, eds, r, fun vs H1 s1 r1 => ?_⟩
      show spD X.K F (vs ++ []) H1 Q E0
      rw [List.append_nil]
      exact ⟨Z, ds, d, ⟨(r.mono s1).tb, (r.mono s1).zs⟩, r1, e, fun v H' s rr => q v H' (s1.trans s) rr⟩
    · cases e
end
end L3
set_option Elab.async false
set_option linter.all false
set_option maxRecDepth 100000
set_option maxHeartbeats 4000000
namespace L3
open PySem PySem.Spec PyProof.Rows L2
def dSeq (g k : DEnv → Option Out) : DEnv → Option Out := fun ρ => match g ρ with | some (.nx ρ') => k ρ' | o => o
def dNext : DEnv → Option Out := fun ρ => some (.nx ρ)
def dRet (f : DEnv → Option D) : DEnv → Option Out := fun ρ => match f ρ with | some d => some (.rt d) | none => none
def dIfS (c : DEnv → Option Bool) (g k : DEnv → Option Out) : DEnv → Option Out := fun ρ => match c ρ with | some true => g ρ | some false => k ρ | none => none
def dSet (i : Nat) (f : DEnv → Option D) : DEnv → Option Out := fun ρ => match f ρ with | some d => some (.nx (ρ.set i (some (.sh d)))) | none => none
def dSetF (i : Nat) (f : DEnv → Option (List D)) : DEnv → Option Out := fun ρ => match f ρ with | some d => some (.nx (ρ.set i (some (.ow d)))) | none => none
def dAsg (f : DEnv → Option D) (h : D → DEnv → Option DEnv) : DEnv → Option Out := fun ρ => match f ρ with | some d => (match h d ρ with | some ρ' => some (.nx ρ') | none => none) | none => none
def dName (i : Nat) : D → DEnv → Option DEnv := fun d ρ => some (ρ.set i (some (.sh d)))
def dGNil : List D → DEnv → Option DEnv := fun ds ρ => match ds with | [] => some ρ | _ => none
def dGCons (h : D → DEnv → Option DEnv) (k : List D → DEnv → Option DEnv) : List D → DEnv → Option DEnv := fun ds ρ => match ds with | d :: r => (match h d ρ with | some ρ' => k r ρ' | none => none) | [] => none
def dGTup (n : Nat) (k : List D → DEnv → Option DEnv) : D → DEnv → Option DEnv := fun d ρ => match d with | .tup ds => if ds.length = n then k ds ρ else none | _ => none
def frz (i : Nat) (ρ : DEnv) : DEnv := match ρ[i]? with | some (some c) => (match c.oc with | some o => ρ.set i (some (.sh o.dat)) | none => ρ) | _ => ρ
section
variable {X : Cx} {st : Stmt} {rest : List Stmt} {e c : Expr} {pos : Pos} {f : DEnv → Option D} {g k : DEnv → Option Out}
theorem ss_nil : SSs X [] dNext := pss_weak pss_nil fun E σ H ⟨ρ, o, B, H0, V0, Z, e, r, q⟩ => by
  cases e
  exact q σ H Z r
theorem ss_cons (h1 : SS X st g) (h2 : SSs X rest k) : SSs X (st :: rest) (dSeq g k) :=
  pss_weak (pss_cons h1 h2) fun E σ H ⟨ρ, o, B, H0, V0, Z, e, r, q⟩ => by
    unfold dSeq at e
    split at e
    · rename_i ρ' eg
      exact ⟨ρ, _, B, H0, V0, Z, eg, r, fun σ' H' Z' r' => ⟨ρ', o, B, H0, V0, Z', e, r', q⟩⟩
    · rename_i hne
      refine ⟨ρ, o, B, H0, V0, Z, e, r, ?_⟩
      cases o with
      | nx ρ' => exact absurd e (hne ρ')
      | bk ρ' => exact q
      | ct ρ' => exact q
      | rt d => exact q
theorem ss_one (h1 : SS X st g) : SSs X [st] g := pss_one h1
theorem ss_ret (h : SE X e f) : SS X (.Return (some e) pos) (dRet f) := ps_weak (ps_ret h) fun E σ H ⟨ρ, o, B, H0, V0, Z, e, r, q⟩ => by
  unfold dRet at e
  split at e
  · rename_i d ed
    cases e
    exact ⟨ρ, d, B, H0, V0, Z, ed, r, fun v H' s rr => q v H' (r.same.trans s) (rr.mono (hide_anti r.sub))⟩
  · cases e
theorem ss_if {a b : List Stmt} {fc : DEnv → Option Bool} (hc : STt X c fc) (ha : SSs X a g) (hb : SSs X b k) : SS X (.If c a b pos) (dIfS fc g k) :=
  ps_weak (ps_if hc ha hb) fun E σ H ⟨ρ, o, B, H0, V0, Z, e, r, q⟩ => by
    unfold dIfS at e
    split at e
    · rename_i ec
      exact ⟨ρ, true, B, H0, V0, Z, ec, r, fun H' s => iteT ⟨ρ, o, B, H0, V0, Z, e, r.mono s, q⟩⟩
    · rename_i ec
      exact ⟨ρ, false, B, H0, V0, Z, ec, r, fun H' s => iteF ⟨ρ, o, B, H0, V0, Z, e, r.mono s, q⟩⟩
    · cases e
theorem ss_set {i : Nat} {x : Str} {pos' : Pos} (he : SE X e f) (hN : X.N.Nodup) (hi : X.N[i]? = some x := by rfl) (hx : Loc X.env.scope x := by first | exact Or.inl rfl | exact Or.inr rfl) (hs : swapsWith e (some (.Name x pos')) pos.line X.env = pure false := by rfl)
    (hf : X.fn x = true ∨ X.env.scope.names.lookup x = some .local := by first | exact .inl rfl | exact .inr rfl) : SS X (.Assign [.Name x pos'] e pos) (dSet i f) :=
  ps_weak (ps_set hN hi hx he hs hf) fun E σ H ⟨ρ, o, B, H0, V0, Z, e, r, q⟩ => by
    unfold dSet at e
    split at e
    · rename_i d ed
      cases e
      exact ⟨ρ, d, B, H0, V0, Z, ed, r, fun v H' s rr => q _ H' Z ((r.mono s).set rr)⟩
    · cases e
theorem ss_setF {i : Nat} {x : Str} {pos' : Pos} {fl : DEnv → Option (List D)} (he : SF X e fl) (hN : X.N.Nodup) (hi : X.N[i]? = some x := by rfl) (hx : Loc X.env.scope x := by first | exact Or.inl rfl | exact Or.inr rfl) (hs : swapsWith e (some (.Name x pos')) pos.line X.env = pure false := by rfl)
    (hf : X.fn x = true ∨ X.env.scope.names.lookup x = some .local := by first | exact .inl rfl | exact .inr rfl) : SS X (.Assign [.Name x pos'] e pos) (dSetF i fl) :=
  ps_weak (ps_set hN hi hx he hs hf) fun E σ H ⟨ρ, o, B, H0, V0, Z, e, r, q⟩ => by
    unfold dSetF at e
    split at e
    · rename_i ds ed
      cases e
      refine ⟨ρ, ds, B, H0, V0, Z, ed, r, fun a xs H' s hn ha rr => q _ H' (a :: Z) ?_⟩
      refine (r.more hn s ha).setO (c := .l ds) List.mem_cons_self (fun z => r.newer hn (r.sub _ z)) ?_ ha ⟨_, rfl, rr⟩ fun j es hj hs' => ?_
      · exact r.same.free hn
      · obtain ⟨b, ys, t1, t2, _⟩ := r.own j es hj
        rw [hs'] at t1
        cases t1
        exact r.newer hn t2
    · cases e
theorem sg_name {i : Nat} {x : Str} (hN : X.N.Nodup) (hi : X.N[i]? = some x := by rfl) (hx : Loc X.env.scope x := by first | exact Or.inl rfl | exact Or.inr rfl) (hf : X.fn x = true ∨ X.env.scope.names.lookup x = some .local := by first | exact .inl rfl | exact .inr rfl) : SG X (.Name x pos) (dName i) :=
  pg_weak (pg_name hN hi hx hf) fun v σ H Q ⟨ρ, d, ρ', B, H0, V0, Z, e, r, rr, q⟩ => by
    cases e
    exact q _ (r.set rr)
theorem sgs_nil : SGs X [] dGNil := pgs_weak pgs_nil fun v σ H Q ⟨ρ, ds, ρ', B, H0, V0, Z, e, r, rr, q⟩ => by
  unfold dGNil at e
  split at e
  · cases e
    exact ⟨repl_nil.mp rr, q σ r⟩
  · cases e
theorem sgs_cons {es : List Expr} {h : D → DEnv → Option DEnv} {kk : List D → DEnv → Option DEnv} (h1 : SG X e h) (h2 : SGs X es kk)
    (hs : (assignEach (e :: es) X.env).map (·.2) = assign e X.env :: (assignEach es X.env).map (·.2) := by rfl) : SGs X (e :: es) (dGCons h kk) :=
  pgs_weak (pgs_cons h1 h2 hs) fun v σ H Q ⟨ρ, ds, ρ', B, H0, V0, Z, e, r, rr, q⟩ => by
    unfold dGCons at e
    split at e
    · rename_i d rs
      split at e
      · rename_i ρ1 e1
        obtain ⟨v', vs', rfl, t1, t2⟩ := repl_cons.mp rr
        exact ⟨v', vs', rfl, ρ, d, ρ1, B, H0, V0, Z, e1, r, t1, fun σ' r' => ⟨ρ1, rs, ρ', B, H0, V0, Z, e, r', t2, q⟩⟩
      · cases e
    · cases e
theorem sg_tup {es : List Expr} {kt : Nat} {kk : List D → DEnv → Option DEnv} {n : Nat} (hc : X.calm = true) (h : SGs X es kk)
    (hn : (assignEach es X.env).length = n := by rfl) (hst : (assignEach es X.env).findIdx? (·.1) = none := by rfl) : SG X (.Tuple es kt pos) (dGTup n kk) :=
  pg_weak (pg_tup hc h hn hst) fun v σ H Q ⟨ρ, d, ρ', B, H0, V0, Z, e, r, rr, q⟩ => by
    unfold dGTup at e
    split at e
    · rename_i ds
      split at e
      · rename_i hl
        obtain ⟨a, xs, rfl, t1, t2⟩ := rep_tup.mp rr
        exact ⟨a, xs, rfl, sqt_same hide_sub t1, t2.length.symm.trans hl, ρ, ds, ρ', B, H0, V0, Z, e, r, t2, q⟩
      · cases e
    · cases e
def dLoop (h : D → DEnv → Option DEnv) (g : DEnv → Option Out) : List D → DEnv → Option Out
  | [], ρ => some (.nx ρ)
  | d :: ds, ρ => match h d ρ with
    | none => none
    | some ρ1 => match g ρ1 with
      | some (.nx ρ2) => dLoop h g ds ρ2
      | some (.ct ρ2) => dLoop h g ds ρ2
      | some (.bk ρ2) => some (.nx ρ2)
      | some (.rt v) => some (.rt v)
      | none => none
def dFor (fi : DEnv → Option (List D)) (h : D → DEnv → Option DEnv) (g : DEnv → Option Out) : DEnv → Option Out := fun ρ => match fi ρ with | some ds => dLoop h g ds ρ | none => none
theorem ss_for {tg iter : Expr} {body : List Stmt} {fi : DEnv → Option (List D)} {h : D → DEnv → Option DEnv} (hp : PassesOwn (model X.prog X.w) X.A X.env X.xe) (hc : X.calm = true) (hi : SI X tg iter fi) (hg : SG X tg h) (hb : SSs X body g)
    (hs : ∀ x, foldedSetIterable iter X.env x = pure x := by intro _; rfl) : SS X (.For tg iter body [] pos) (dFor fi h g) :=
  ps_weak (ps_for hp hc hi hg hb hs) fun E σ H ⟨ρ, o, B, H0, V0, Z, e, r, q⟩ => by
    unfold dFor at e
    split at e
    · rename_i ds eds
      refine ⟨ρ, ds, B, H0, V0, Z, eds, r, fun J H1 s1 wk => ?_⟩
      have R1 := r.mono s1
      have RV : SR X.K B H0 (hide Z H1) H1 Z σ ρ := R1.vis' (fun _ _ h => h)
      have back : ∀ {σ' H' Z' ρ'}, SR X.K B H0 (hide Z H1) H' Z' σ' ρ' → SR X.K B H0 V0 H' Z' σ' ρ' := fun r' => r'.vis' (R1.vis.trans r'.vis)
      refine ⟨fun i m σ' H' => m = ds.length - i ∧ i ≤ ds.length ∧ ∃ ρ' Z', SR X.K B H0 (hide Z H1) H' Z' σ' ρ' ∧ dLoop h g (ds.drop i) ρ' = some o, ⟨_, rfl, Nat.zero_le _, ρ, Z, RV, e⟩, ?_⟩
      rintro i m σ' H' ⟨rfl, hi', ρ', Z', r', e'⟩
      have vis : Same (hide Z H1) H' := r'.vis.trans hide_sub
      by_cases hlt : i < ds.length
      · refine .inr ⟨wk.go H' vis i hlt, fun σ2 H2 => ∃ ρ2 Z2, SR X.K B H0 (hide Z H1) H2 Z2 σ2 ρ2 ∧ dLoop h g (ds.drop (i + 1)) ρ2 = some o, fun σ2 H2 ⟨ρ2, Z2, r2, e2⟩ => ⟨ds.length - (i + 1), by omega, rfl, hlt, ρ2, Z2, r2, e2⟩, fun x H3 hy => ?_⟩
        obtain ⟨sH, hx⟩ := wk.yld H' vis i x H3 hy
        have hd := hx ds[i] (List.getElem?_eq_getElem hlt) Z' r'.zs r'.vis
        rw [List.drop_eq_getElem_cons hlt] at e'
        unfold dLoop at e'
        split at e'
        · cases e'
        · rename_i ρ1 e1
          refine ⟨ρ', ds[i], ρ1, B, H0, hide Z H1, Z', e1, r'.mono sH, hd, fun σ4 r4 => ?_⟩
          split at e'
          · rename_i ρ2 e2
            exact ⟨ρ1, _, B, H0, hide Z H1, Z', e2, r4, fun σ5 H5 Z5 r5 => ⟨ρ2, Z5, r5, e'⟩⟩
          · rename_i ρ2 e2
            exact ⟨ρ1, _, B, H0, hide Z H1, Z', e2, r4, fun σ5 H5 Z5 r5 => ⟨ρ2, Z5, r5, e'⟩⟩
          · rename_i ρ2 e2
            cases e'
            exact ⟨ρ1, _, B, H0, hide Z H1, Z', e2, r4, fun σ5 H5 Z5 r5 => q σ5 H5 Z5 (back r5)⟩
          · rename_i v e2
            cases e'
            exact ⟨ρ1, _, B, H0, hide Z H1, Z', e2, r4, q⟩
          · cases e'
      · have ei : i = ds.length := by omega
        subst ei
        rw [List.drop_length] at e'
        unfold dLoop at e'
        cases e'
        exact .inl ⟨wk.stop H' vis, q σ' H' Z' (back r')⟩
    · cases e
theorem walk_list {K : PySem.W.Frag} {W0 : Hp} {a : Addr} {xs : List V} {ds : List D} (h1 : SqL K W0 a xs) (h2 : RepL K W0 ds xs) : Walk K W0 (Itl K a) ds where
  go := fun H' s i hi => by
    obtain ⟨v, hv, _⟩ := h2.get (List.getElem?_eq_getElem hi)
    exact ⟨xs, v, s.seq h1, hv⟩
  yld := fun H' s i x H3 hy => by
    obtain ⟨rfl, hx⟩ := hy
    refine ⟨Same.refl _, fun d hd Z hz hs => ?_⟩
    obtain ⟨v, hv, rv⟩ := h2.get hd
    have := hx xs (s.seq h1)
    rw [hv] at this
    cases this
    exact rv.mono hs
  stop := fun H' s => ⟨xs, s.seq h1, by rw [h2.length]; exact Nat.le_refl _⟩
theorem walk_tup {K : PySem.W.Frag} {W0 : Hp} {a : Addr} {xs : List V} {ds : List D} (h1 : SqT K W0 a xs) (h2 : RepL K W0 ds xs) : Walk K W0 (Itt K a) ds where
  go := fun H' s i hi => by
    obtain ⟨v, hv, _⟩ := h2.get (List.getElem?_eq_getElem hi)
    exact ⟨xs, v, sqt_same s h1, hv⟩
  yld := fun H' s i x H3 hy => by
    obtain ⟨rfl, hx⟩ := hy
    refine ⟨Same.refl _, fun d hd Z hz hs => ?_⟩
    obtain ⟨v, hv, rv⟩ := h2.get hd
    have := hx xs (sqt_same s h1)
    rw [hv] at this
    cases this
    exact rv.mono hs
  stop := fun H' s => ⟨xs, sqt_same s h1, by rw [h2.length]; exact Nat.le_refl _⟩
def dints (lo : Int) (n : Nat) : List D := (List.range n).map fun (k : Nat) => D.int (lo + (k : Int))
theorem walk_rng {K : PySem.W.Frag} {W0 : Hp} (lo : Int) (n : Nat) : Walk K W0 (Itr lo n) (dints lo n) where
  go := fun H' s i hi => by
    show i < n
    simpa [dints] using hi
  yld := fun H' s i x H3 hy => by
    obtain ⟨rfl, rfl⟩ := hy
    refine ⟨Same.refl _, fun d hd Z hz hs => ?_⟩
    unfold dints at hd
    rw [List.getElem?_map] at hd
    cases hr : (List.range n)[i]? with
    | none => rw [hr] at hd; cases hd
    | some k =>
      rw [hr] at hd
      have ek : k = i := by
        have := List.getElem?_eq_some_iff.mp hr
        obtain ⟨h1, h2⟩ := this
        simpa using h2.symm
      subst ek
      cases hd
      exact rep_int.mpr rfl
  stop := fun H' s => by
    show n ≤ (dints lo n).length
    simp [dints]
variable {tg : Expr}
def dLstOf (f : DEnv → Option D) : DEnv → Option (List D) := fun ρ => match f ρ with | some (.lst ds) => some ds | _ => none
def dTupOf (f : DEnv → Option D) : DEnv → Option (List D) := fun ρ => match f ρ with | some (.tup ds) => some ds | _ => none
theorem si_lst (h : SE X e f) : SI X tg e (dLstOf f) := pi_weak (pi_list h) fun σ H R ⟨ρ, ds, B, H0, V0, Z, e, r, q⟩ => by
  unfold dLstOf at e
  split at e
  · rename_i es he
    cases e
    refine ⟨ρ, _, B, H0, V0, Z, he, r, fun v H' s rr => ?_⟩
    obtain ⟨a, xs, rfl, h1, h2⟩ := rep_lst.mp rr
    exact ⟨a, rfl, ⟨xs, hide_sub.seq h1⟩, q _ H' s (walk_list h1 h2)⟩
  · cases e
theorem si_tup (h : SE X e f) : SI X tg e (dTupOf f) := pi_weak (pi_tup h) fun σ H R ⟨ρ, ds, B, H0, V0, Z, e, r, q⟩ => by
  unfold dTupOf at e
  split at e
  · rename_i es he
    cases e
    refine ⟨ρ, _, B, H0, V0, Z, he, r, fun v H' s rr => ?_⟩
    obtain ⟨a, xs, rfl, h1, h2⟩ := rep_tup.mp rr
    exact ⟨a, rfl, ⟨xs, sqt_same hide_sub h1⟩, q _ H' s (walk_tup h1 h2)⟩
  · cases e
def okR (i : Int) : Bool := decide (-(2 ^ 62) ≤ i) && decide (i < 2 ^ 62)
theorem okR_le {i : Int} (h : okR i = true) : -(2 ^ 62) ≤ i ∧ i < 2 ^ 62 := by
  unfold okR at h
  rw [Bool.and_eq_true] at h
  exact ⟨of_decide_eq_true h.1, of_decide_eq_true h.2⟩
def dRng1 (f : DEnv → Option D) : DEnv → Option (List D) := fun ρ => match f ρ with | some (.int j) => if okR j = true then some (dints 0 j.toNat) else none | _ => none
theorem si_rng1 {p : Pos} (hm : X.mg "range" = none) (h : SE X e f) (hg : Gl X "range" := by rfl) (hs : starEach [e] X.env = [(false, eval e X.env)] := by rfl) : SI X tg (.Call (.Name "range" p) [e] [] pos) (dRng1 f) :=
  pi_weak (pi_range1 hg hm (pa_cons h pa_nil (by rw [hs]; rfl)) hs) fun σ H R ⟨ρ, ds, B, H0, V0, Z, e, r, q⟩ => by
    unfold dRng1 at e
    split at e
    · rename_i j he
      split at e
      · rename_i hok
        cases e
        refine ⟨ρ, _, B, H0, V0, Z, he, r, fun v H' s rr => ?_⟩
        obtain rfl := rep_int.mp rr
        exact ⟨j, rfl, (okR_le hok).1, (okR_le hok).2, q _ H' s (walk_rng 0 j.toNat)⟩
      · cases e
    · cases e
def capE (cap : List (Option Nat)) (ρ : DEnv) : DEnv := cap.map fun o => o.bind fun j => (ρ[j]?).bind id
def compGo (h : D → DEnv → Option DEnv) (ft : DEnv → Option Bool) (fe : DEnv → Option D) : DEnv → List D → Option (List D)
  | _, [] => some []
  | ρ, d :: ds => match h d ρ with
    | none => none
    | some ρ1 => match ft ρ1 with
      | some true => (match fe ρ1 with
        | some y => (match compGo h ft fe ρ1 ds with | some ys => some (y :: ys) | none => none)
        | none => none)
      | some false => compGo h ft fe ρ1 ds
      | none => none
def dComp (cap : List (Option Nat)) (fi : DEnv → Option (List D)) (h : D → DEnv → Option DEnv) (ft : DEnv → Option Bool) (fe : DEnv → Option D) : DEnv → Option (List D) := fun ρ => match fi ρ with
  | some ds => if ds.length ≤ LIM then compGo h ft fe (capE cap ρ) ds else none
  | none => none
def dTrue : DEnv → Option Bool := fun _ => some true
theorem sr_capt {K : PySem.W.Frag} {B Z : List Addr} {H0 V0 H : Hp} {σ : St} {ρ : DEnv} {cap : List (Option Nat)} (hinj : ∀ (i j k : Nat), cap[i]? = some (some k) → cap[j]? = some (some k) → i = j) (r : SR K B H0 V0 H Z σ ρ) :
    SR K B H0 V0 H Z (capt cap σ) (capE cap ρ) := by
  have get : ∀ {c : Cell} {i : Nat}, (capE cap ρ)[i]? = some (some c) → ∃ j, cap[i]? = some (some j) ∧ ρ[j]? = some (some c) := fun {c i} q => by
    unfold capE at q
    rw [List.getElem?_map] at q
    cases hc : cap[i]? with
    | none => rw [hc] at q; cases q
    | some o =>
      rw [hc] at q
      cases o with
      | none => cases q
      | some j =>
        refine ⟨j, rfl, ?_⟩
        have q' : (ρ[j]?).bind id = some c := Option.some.inj q
        cases hs : ρ[j]? with
        | none => rw [hs] at q'; cases q'
        | some z =>
          rw [hs] at q'
          have : z = some c := q'
          rw [this]
  have put : ∀ {v : V} {i j : Nat}, cap[i]? = some (some j) → σ[j]? = some (some v) → (capt cap σ)[i]? = some (some v) := fun {v i j} h1 h2 => by
    unfold capt
    rw [List.getElem?_map, h1]
    show some ((σ[j]?).bind id) = _
    rw [h2]
    rfl
  have get' : ∀ {v : V} {i j : Nat}, cap[i]? = some (some j) → (capt cap σ)[i]? = some (some v) → σ[j]? = some (some v) := fun {v i j} h1 h2 => by
    unfold capt at h2
    rw [List.getElem?_map, h1] at h2
    have h2' : (σ[j]?).bind id = some v := Option.some.inj h2
    cases hs : σ[j]? with
    | none => rw [hs] at h2'; cases h2'
    | some z =>
      rw [hs] at h2'
      have : z = some v := h2'
      rw [this]
  refine ⟨r.same, r.tb, r.vis, r.sub, r.zs, fun i d q => ?_, fun i ds q => ?_, fun i j ds es a q1 q2 s1 s2 => ?_, by unfold capt capE; rw [List.length_map, List.length_map]⟩
  · obtain ⟨j, h1, h2⟩ := get q
    obtain ⟨v, t1, t2⟩ := r.sh j d h2
    exact ⟨v, put h1 t1, t2⟩
  · obtain ⟨j, h1, h2⟩ := get q
    obtain ⟨a, xs, t1, t2⟩ := r.own j ds h2
    exact ⟨a, xs, put h1 t1, t2⟩
  · obtain ⟨i', h1, h2⟩ := get q1
    obtain ⟨j', h3, h4⟩ := get q2
    have : i' = j' := r.inj i' j' ds es a h2 h4 (get' h1 s1) (get' h3 s2)
    subst this
    exact hinj i j i' h1 h3
structure WalkC (K : PySem.W.Frag) (Z : List Addr) (H : Hp) (J : It) (ds : List D) : Prop where
  go : ∀ H', Same H H' → ∀ i, i < ds.length → J.go i H'
  yld : ∀ H', Same H H' → ∀ (i : Nat) x H3, J.yld i H' x H3 → Same H' H3 ∧ ∀ d, ds[i]? = some d → ∀ Z' : List Addr, (∀ z ∈ Z', ∃ o, H' z = some o) → Same (hide Z H) (hide Z' H') → Rep K (hide Z' H3) d x
  stop : ∀ H', Same H H' → J.stop ds.length H'
def tIc (K : PySem.W.Frag) (f : DEnv → Option (List D)) : TI := fun σ H R => ∃ ρ ds B H0 V0 Z, f ρ = some ds ∧ SR K B H0 V0 H Z σ ρ ∧ ∀ J H', Same H H' → WalkC K Z H' J ds → R J H'
abbrev SIc (X : Cx) (tg e : Expr) (f : DEnv → Option (List D)) : Prop := PI X tg e (tIc X.K f)
theorem sic_of {tg e : Expr} {f : DEnv → Option (List D)} (h : SI X tg e f) : SIc X tg e f := pi_weak h fun σ H R ⟨ρ, ds, B, H0, V0, Z, e, r, q⟩ =>
  ⟨ρ, ds, B, H0, V0, Z, e, r, fun J H' s wk => q J H' s ⟨fun H2 s2 => wk.go H2 (hide_sub.trans s2), fun H2 s2 => wk.yld H2 (hide_sub.trans s2), fun H2 s2 => wk.stop H2 (hide_sub.trans s2)⟩⟩
theorem comp_imp {cap : List (Option Nat)} {fi : DEnv → Option (List D)} {h : D → DEnv → Option DEnv} {ft : DEnv → Option Bool} {fe : DEnv → Option D} (hinj : ∀ (i j k : Nat), cap[i]? = some (some k) → cap[j]? = some (some k) → i = j) :
    ∀ σ H Q, tF X.K (dComp cap fi h ft fe) σ H Q → tComp cap (tIc X.K fi) (tG X.K h) (tT X.K ft) (tD X.K fe) σ H Q := fun σ H Q ⟨ρ, zs, B, H0, V0, Z, e, r, q⟩ => by
    unfold dComp at e
    split at e
    · rename_i ds eds
      split at e
      · rename_i hl
        refine ⟨ρ, ds, B, H0, V0, Z, eds, r, fun J H1 s1 wk l hl1 => ?_⟩
        have R1 := r.mono s1
        have sl : Same H1 (upd H1 l (.lst [])) := same_upd hl1
        have RV : SR X.K B H0 (hide Z H1) H1 Z σ ρ := R1.vis' (fun _ _ h => h)
        have R2' := RV.more hl1 sl upd_same
        have R2 : SR X.K (l :: B) H0 (hide Z H1) (upd H1 l (.lst [])) (l :: Z) (capt cap σ) (capE cap ρ) := sr_capt hinj ⟨R2'.same, R2'.tb, R2'.vis, fun b hb => (List.mem_cons.mp hb).elim (fun z => z ▸ List.mem_cons_self) fun z => R2'.sub b z, R2'.zs, R2'.sh, fun j es hj => by
          obtain ⟨a, xs, t1, t2, tb, t3, t4, t5⟩ := RV.own j es hj
          obtain ⟨a', xs', t1', t2', tb', t3', t4', t5'⟩ := R2'.own j es hj
          rw [t1] at t1'
          cases t1'
          refine ⟨a, xs', t1, t2', fun z => ?_, t3', t4', t5'⟩
          rcases List.mem_cons.mp z with z | z
          · rw [z, hl1] at t4; cases t4
          · exact tb z, R2'.inj, R2'.len⟩
        refine ⟨fun i m σ' H' acc => m = ds.length - i ∧ i ≤ ds.length ∧ H' l = some (.lst acc) ∧ Same H1 H' ∧ acc.length ≤ i ∧ ∃ ρ' ys ws, SR X.K (l :: B) H0 (hide Z H1) H' (l :: Z) σ' ρ' ∧ RepL X.K (hide (l :: Z) H') ys acc ∧ compGo h ft fe ρ' (ds.drop i) = some ws ∧ zs = ys ++ ws,
          ⟨_, rfl, Nat.zero_le _, upd_same, sl, Nat.le_refl _, capE cap ρ, [], zs, R2, RepL.nil, e, rfl⟩, ?_⟩
        rintro i m σ' H' acc ⟨rfl, hi', hacc, hS, hal, ρ', ys, ws, r', ry, e', ez⟩
        have vis : Same (hide Z H1) H' := r'.vis.trans hide_sub
        by_cases hlt : i < ds.length
        · refine .inr ⟨wk.go H' hS i hlt, lim_lt (Nat.le_trans hal (Nat.le_trans hi' hl)), fun x H3 hy => ?_⟩
          obtain ⟨sH, hx⟩ := wk.yld H' hS i x H3 hy
          have hd := hx ds[i] (List.getElem?_eq_getElem hlt) (l :: Z) r'.zs r'.vis
          have hacc := sH _ _ hacc
          have hS := hS.trans sH
          have ry := ry.mono (hide_same sH)
          rw [List.drop_eq_getElem_cons hlt] at e'
          unfold compGo at e'
          split at e'
          · cases e'
          · rename_i ρ1 e1
            refine ⟨ρ', ds[i], ρ1, l :: B, H0, hide Z H1, l :: Z, e1, r'.mono sH, hd, fun σ4 r4 => ?_⟩
            split at e'
            · rename_i et
              refine ⟨ρ1, true, l :: B, H0, hide Z H1, l :: Z, et, r4, fun H5 s5 => iteT ?_⟩
              split at e'
              · rename_i y ey
                split at e'
                · rename_i yy eyy
                  cases e'
                  refine ⟨ρ1, y, l :: B, H0, hide Z H1, l :: Z, ey, r4.mono s5, fun v H6 s6 r6 => ⟨s6 _ _ (s5 _ _ hacc), ds.length - (i + 1), by omega, rfl, hlt, upd_same, same_updI hl1 (hS.trans (s5.trans s6)), ?_, ρ1, ys ++ [y], yy, ?_, ?_, eyy, by rw [ez]; simp⟩⟩
                  · rw [List.length_append]; simpa using hal
                  · have R6 := (r4.mono s5).mono s6
                    have vs : Same (hide (l :: Z) H6) (hide (l :: Z) (upd H6 l (.lst (acc ++ [v])))) := hide_upd List.mem_cons_self
                    have nl : H0 l = none := (r.same.trans s1).free hl1
                    refine ⟨same_updI nl R6.same, R6.tb.upd (s6 _ _ (s5 _ _ hacc)) (fun _ z => by cases z), R6.vis.trans vs, R6.sub, fun z hz => ?_, fun j d hj => let ⟨u, t1, t2⟩ := R6.sh j d hj; ⟨u, t1, t2.mono vs⟩, fun j es hj => ?_, R6.inj, R6.len⟩
                    · by_cases ez' : z = l
                      · subst ez'; exact ⟨_, upd_same⟩
                      · obtain ⟨o', ho'⟩ := R6.zs z hz
                        exact ⟨o', by rw [upd_ne ez']; exact ho'⟩
                    · obtain ⟨a, xs, t1, t2, tb, t3, t4, t5⟩ := R6.own j es hj
                      have na : a ≠ l := fun z => tb (z ▸ List.mem_cons_self)
                      exact ⟨a, xs, t1, t2, tb, t3, by rw [upd_ne na]; exact t4, t5.mono vs⟩
                  · exact RepL.append (ry.mono ((hide_same (s5.trans s6)).trans (hide_upd List.mem_cons_self))) (RepL.one (r6.mono (hide_upd List.mem_cons_self)))
                · cases e'
              · cases e'
            · rename_i et
              exact ⟨ρ1, false, l :: B, H0, hide Z H1, l :: Z, et, r4, fun H5 s5 => iteF ⟨ds.length - (i + 1), by omega, rfl, hlt, s5 _ _ hacc, hS.trans s5, by omega, ρ1, ys, ws, r4.mono s5, ry.mono (hide_same s5), e', ez⟩⟩
            · cases e'
        · have ei : i = ds.length := by omega
          subst ei
          rw [List.drop_length] at e'
          unfold compGo at e'
          cases e'
          rw [List.append_nil] at ez
          subst ez
          exact .inl ⟨wk.stop H' hS, q l acc H' (s1.trans hS) (s1.free hl1) hacc ry⟩
      · cases e
    · cases e
theorem sf_comp {elt target iter : Expr} {ifs : List Expr} {scope : Scope} {N : List Str} {cap : List (Option Nat)} {fi : DEnv → Option (List D)} {h : D → DEnv → Option DEnv} {ft : DEnv → Option Bool} {fe : DEnv → Option D}
    (hc : X.calm = true) (hi : SIc X target iter fi)
    (hg : ∀ cl C fp s H, SG (compCx X N scope cl C fp s H) target h) (ht : ∀ cl C fp s H, PIfs (compCx X N scope cl C fp s H) ifs (tT X.K ft)) (he : ∀ cl C fp s H, SE (compCx X N scope cl C fp s H) elt fe)
    (hk : scope.kind = .function) (hcell : ∀ y ∈ scope.names, y.2 = .cell → scope.names.lookup y.1 = some .cell) (hnames : ∀ x ∈ scope.names, x.2 = .local → scope.names.lookup x.1 = some .local)
    (hfr : ∀ x ∈ scope.names, x.2 = .free → scope.names.lookup x.1 = some .free) (hout : ∀ x ∈ scope.names, x.2 = .free → X.env.scope.names.lookup x.1 = some .cell ∨ X.env.scope.names.lookup x.1 = some .free)
    (hcap : ∀ (i j : Nat), cap[i]? = some (some j) → ∃ x, N[i]? = some x ∧ X.N[j]? = some x ∧ scope.names.lookup x = some .free)
    (hlen : cap.length = N.length) (hinj : ∀ (i j k : Nat), cap[i]? = some (some k) → cap[j]? = some (some k) → i = j) (hs : ∀ x, foldedSetIterable iter X.env x = pure x := by intro _; rfl) :
    SF X (.ListComp elt [⟨target, iter, ifs, 0⟩] scope pos) (dComp cap fi h ft fe) :=
  pe_weak (pe_comp (g := tG X.K h) (te := tD X.K fe) hc hi hg ht he hk hcell hnames hfr hout hcap hlen hs) (comp_imp hinj)
end
end L3
set_option Elab.async false
set_option linter.all false
set_option maxRecDepth 100000
set_option maxHeartbeats 4000000
namespace L3
open PySem PySem.Spec PyProof.Rows L2
def gI (g : Int → Int → Int) : D → D → Option D := fun x y => match x, y with | .int i, .int j => some (.int (g i j)) | _, _ => none
def gB (g : Int → Int → Bool) : D → D → Option D := fun x y => match x, y with | .int i, .int j => some (.bl (g i j)) | _, _ => none
def gIC (C : Int → Int → Bool) (g : Int → Int → Int) : D → D → Option D := fun x y => match x, y with | .int i, .int j => if C i j = true then some (.int (g i j)) else none | _, _ => none
section
variable {K : PySem.W.Frag}
theorem rd_int0 {g : Int → Int → Int} : RdOp K (rI0 fun i j => .int (g i j)) (gI g) := by
  intro x y d e Z H u v Q zs hx hy q
  unfold gI at e
  split at e
  · rename_i i j
    cases e
    obtain rfl := rep_int.mp hx
    obtain rfl := rep_int.mp hy
    exact ⟨i, j, rfl, rfl, q _ H (Same.refl H) (rep_int.mpr rfl)⟩
  · cases e
theorem rd_bl0 {g : Int → Int → Bool} : RdOp K (rI0 fun i j => .bl (g i j)) (gB g) := by
  intro x y d e Z H u v Q zs hx hy q
  unfold gB at e
  split at e
  · rename_i i j
    cases e
    obtain rfl := rep_int.mp hx
    obtain rfl := rep_int.mp hy
    exact ⟨i, j, rfl, rfl, q _ H (Same.refl H) (rep_bl.mpr rfl)⟩
  · cases e
theorem rd_intC {C' : Int → Int → Prop} {C : Int → Int → Bool} {g : Int → Int → Int} (hC : ∀ i j, C i j = true → C' i j) : RdOp K (rI C' fun i j => .int (g i j)) (gIC C g) := by
  intro x y d e Z H u v Q zs hx hy q
  unfold gIC at e
  split at e
  · rename_i i j
    split at e
    · rename_i hc
      cases e
      obtain rfl := rep_int.mp hx
      obtain rfl := rep_int.mp hy
      exact ⟨i, j, rfl, rfl, hC i j hc, q _ H (Same.refl H) (rep_int.mpr rfl)⟩
    · cases e
  · cases e
theorem RdOp.or {r r' : R2} {g g' : D → D → Option D} (h : RdOp K r g) (h' : RdOp K r' g') : RdOp K (fun x y H Q => r x y H Q ∨ r' x y H Q) (fun x y => match g x y with | some d => some d | none => g' x y) := by
  intro x y d e Z H u v Q zs hx hy q
  dsimp only at e
  split at e
  · rename_i d' hd
    cases e
    exact .inl (h x y d hd Z H u v Q zs hx hy q)
  · exact .inr (h' x y d e Z H u v Q zs hx hy q)
end
def dAddI := gI (fun i j => i + j)
def dSubI := gI (fun i j => i - j)
def small64 (i : Int) : Bool := decide (-(2 ^ 64) < i) && decide (i < 2 ^ 64)
def dMulI := gIC (fun i j => small64 i || small64 j) (fun i j => i * j)
def dModI := gIC (fun _ j => decide (0 < j)) (fun i j => i % j)
def dDivI := gIC (fun _ j => decide (0 < j) && decide (j < 1073741824)) (fun i j => i / j)
def dLtI := gB (fun i j => decide (i < j))
def dLeI := gB (fun i j => decide (i ≤ j))
def dGtI := gB (fun i j => decide (j < i))
section
variable {X : Cx} {a b c : Expr} {fa fb fc : DEnv → Option D} {pos : Pos}
theorem se_sub (ha : SE X a fa) (hb : SE X b fb) : SE X (.BinOp a .Sub b pos) (d2 dSubI fa fb) := se_bin op_sub rd_int0 ha hb
theorem rd_mul {K : PySem.W.Frag} : RdOp K (rI CMul fun i j => .int (i * j)) dMulI := rd_intC (C' := CMul) fun i j h => by
    rw [Bool.or_eq_true] at h
    rcases h with h | h
    · unfold small64 at h
      rw [Bool.and_eq_true] at h
      exact .inl ⟨of_decide_eq_true h.1, of_decide_eq_true h.2⟩
    · unfold small64 at h
      rw [Bool.and_eq_true] at h
      exact .inr ⟨of_decide_eq_true h.1, of_decide_eq_true h.2⟩
theorem se_mod (ha : SE X a fa) (hb : SE X b fb) : SE X (.BinOp a .Mod b pos) (d2 dModI fa fb) := se_bin op_mod (rd_intC fun i j h => of_decide_eq_true h) ha hb
theorem se_div (ha : SE X a fa) (hb : SE X b fb) : SE X (.BinOp a .FloorDiv b pos) (d2 dDivI fa fb) := se_bin op_fdiv (rd_intC (C' := CDiv) fun i j h => by
    rw [Bool.and_eq_true] at h
    exact ⟨of_decide_eq_true h.1, of_decide_eq_true h.2⟩) ha hb
theorem st_gtI (ha : SE X a fa) (hb : SE X b fb) : STt X (.Compare a [.Gt] [b] pos) (dTest (d2 dGtI fa fb)) := st_cmp op_gt rd_bl0 ha hb (nomark _)
end
def dCat : D → D → Option D := fun x y => match x, y with
  | .tup xs, .tup ys => if xs.length + ys.length ≤ LIM then some (.tup (xs ++ ys)) else none
  | .lst xs, .lst ys => if xs.length + ys.length ≤ LIM then some (.lst (xs ++ ys)) else none
  | _, _ => none
def rCatQ (K : PySem.W.Frag) : R2 := fun x y H Q => ∃ a b xs ys, x = .ref a ∧ y = .ref b ∧ SqT K H a xs ∧ SqT K H b ys ∧ xs.length + ys.length ≤ sizeLine ∧
  (xs = [] → Q (.ref b) H) ∧ (xs ≠ [] → ys = [] → Q (.ref a) H) ∧ (xs ≠ [] → ys ≠ [] → ∀ p, H p = none → Q (.ref p) (upd H p (.tup (xs ++ ys))))
def rCatL (K : PySem.W.Frag) : R2 := fun x y H Q => ∃ a b xs ys, x = .ref a ∧ y = .ref b ∧ SqL K H a xs ∧ SqL K H b ys ∧ xs.length + ys.length ≤ sizeLine ∧ ∀ p, H p = none → Q (.ref p) (upd H p (.lst (xs ++ ys)))
section
variable {X : Cx}
theorem op_catQ : OpR X (binaryOp .Add) (rCatQ X.K) := by
  intro pins s σ H x y v u Q I rx ry h
  obtain ⟨a, b, xs, ys, rfl, rfl, ha, hb, hz, q0, q1, q2⟩ := h
  by_cases hx : xs = []
  · cases rx
    cases ry
    obtain ⟨its, r1, p1, _⟩ := I.tuple ha
    obtain ⟨its2, r2, p2, _⟩ := I.tuple hb
    obtain ⟨⟨cls, dd, data, sl⟩, ho, hc, n, hd⟩ := id p1
    obtain ⟨⟨cls2, dd2, data2, sl2⟩, ho2, hc2, n2, hd2⟩ := id p2
    simp only at hc hd hc2 hd2
    subst hc hd hc2 hd2
    have hv : its = [] := r1.nil_iff.mpr hx
    exact concat_meets ⟨_, ho, rfl⟩ ⟨_, ho2, rfl⟩ noFill_tuple_add seq_tuple_add PySem.F.slot_tuple_add PySem.F.entry_tuple_add (PySem.F.args_tuple_add_2 _ _)
      (tuple_addW0 a b its.toArray its2.toArray n n2 dd dd2 sl sl2 (by simp [hv])) ⟨ho, ho2, ⟨.ref b, H, I, rfl, q0 hx⟩⟩
  · exact op_catT pins s σ H _ _ v u Q I rx ry ⟨a, b, xs, ys, rfl, rfl, ha, hb, hx, hz, q1 hx, q2 hx⟩
theorem op_catL : OpR X (binaryOp .Add) (rCatL X.K) := by
  intro pins s σ H x y v u Q I rx ry h
  obtain ⟨l, b, xs, zs, rfl, rfl, hH, hB, hz, q⟩ := h
  cases rx
  cases ry
  obtain ⟨its, r, pl, z⟩ := I.list hH
  obtain ⟨its2, r2, pl2, z2⟩ := I.list hB
  have hl := r.length
  have hl2 := r2.length
  have ea : its.toArray ++ its2.toArray = (its ++ its2).toArray := by simp
  obtain ⟨⟨cls, dd, data, sl⟩, n, ho, hc, hdd, hd⟩ := id pl
  obtain ⟨⟨cls2, dd2, data2, sl2⟩, n2, ho2, hc2, hdd2, hd2⟩ := id pl2
  simp only at hc hd hc2 hd2 hdd hdd2
  subst hc hd hc2 hd2 hdd hdd2
  refine concat_meets ⟨_, ho, rfl⟩ ⟨_, ho2, rfl⟩ noFill_list_add seq_list_add PySem.F.slot_list_add PySem.F.entry_list_add (PySem.F.args_list_add_2 _ _) (list_addW l b its.toArray its2.toArray n n2 none none sl sl2 (by rw [List.size_toArray, List.size_toArray]; omega)) ⟨ho, ho2, ?_⟩
  rw [ea]
  exact ⟨.ref _, _, I.lnew (t' := s.toks) (r.append r2) (by rw [List.length_append]; omega), rfl, q _ I.fresh⟩
theorem rd_cat {K : PySem.W.Frag} : RdOp K (fun x y H Q => rCatQ K x y H Q ∨ rCatL K x y H Q) dCat := by
  intro x y d e Z H u v Q zs hx hy q
  have newer : ∀ {p : Addr}, H p = none → p ∉ Z := fun hp z => by
    obtain ⟨o, ho⟩ := zs _ z
    rw [hp] at ho; cases ho
  unfold dCat at e
  split at e
  · rename_i xs ys
    split at e
    · rename_i hl
      cases e
      obtain ⟨a, us, rfl, h1, h2⟩ := rep_tup.mp hx
      obtain ⟨b, ws, rfl, h3, h4⟩ := rep_tup.mp hy
      refine .inl ⟨a, b, us, ws, rfl, rfl, sqt_same hide_sub h1, sqt_same hide_sub h3, by rw [← h2.length, ← h4.length]; exact lim_le hl, fun z => ?_, fun z1 z2 => ?_, fun z1 z2 p hp => ?_⟩
      · have : xs = [] := List.eq_nil_of_length_eq_zero (by rw [h2.length, z]; rfl)
        subst this
        exact q _ H (Same.refl H) hy
      · have : ys = [] := List.eq_nil_of_length_eq_zero (by rw [h4.length, z2]; rfl)
        subst this
        rw [List.append_nil] at q
        exact q _ H (Same.refl H) hx
      · have sn := same_upd (o := HO.tup (us ++ ws)) hp
        refine q _ _ sn (rep_tup.mpr ⟨p, _, rfl, SqT.of ?_, (RepL.append h2 h4).mono (hide_same sn)⟩)
        rw [hide_out (newer hp)]
        exact upd_same
    · cases e
  · rename_i xs ys
    split at e
    · rename_i hl
      cases e
      obtain ⟨a, us, rfl, h1, h2⟩ := rep_lst.mp hx
      obtain ⟨b, ws, rfl, h3, h4⟩ := rep_lst.mp hy
      refine .inr ⟨a, b, us, ws, rfl, rfl, hide_sub.seq h1, hide_sub.seq h3, by rw [← h2.length, ← h4.length]; exact lim_le hl, fun p hp => ?_⟩
      have sn := same_upd (o := HO.lst (us ++ ws)) hp
      refine q _ _ sn (rep_lst.mpr ⟨p, _, rfl, SqL.of ?_, (RepL.append h2 h4).mono (hide_same sn)⟩)
      rw [hide_out (newer hp)]
      exact upd_same
    · cases e
  · cases e
variable {a b c : Expr} {fa fb fc : DEnv → Option D} {pos : Pos}
def dAdd : D → D → Option D := fun x y => match dAddI x y with | some d => some d | none => dCat x y
theorem se_add (ha : SE X a fa) (hb : SE X b fb) : SE X (.BinOp a .Add b pos) (d2 dAdd fa fb) := se_bin (op_add.or (op_catQ.or op_catL)) (RdOp.or rd_int0 rd_cat) ha hb
def dCatF (fa fb : DEnv → Option (List D)) : DEnv → Option (List D) := fun ρ => match fa ρ with | some xs => (match fb ρ with | some ys => if xs.length + ys.length ≤ LIM then some (xs ++ ys) else none | none => none) | none => none
def intsOf : List D → Option (List Int)
  | [] => some []
  | .int i :: r => (intsOf r).map (i :: ·)
  | _ :: _ => none
theorem intsOf_some : ∀ {ds : List D} {ns : List Int}, intsOf ds = some ns → ds = ns.map D.int
  | [], ns, e => by cases e; rfl
  | .int i :: r, ns, e => by
    unfold intsOf at e
    obtain ⟨ms, h1, rfl⟩ := Option.map_eq_some_iff.mp e
    rw [intsOf_some h1]
    rfl
  | .non :: r, ns, e => by unfold intsOf at e; cases e
  | .bl _ :: r, ns, e => by unfold intsOf at e; cases e
  | .str _ :: r, ns, e => by unfold intsOf at e; cases e
  | .tup _ :: r, ns, e => by unfold intsOf at e; cases e
  | .lst _ :: r, ns, e => by unfold intsOf at e; cases e
  | .dct _ _ :: r, ns, e => by unfold intsOf at e; cases e
theorem intsOf_map (ns : List Int) : intsOf (ns.map D.int) = some ns := by
  induction ns with
  | nil => rfl
  | cons n r ih => rw [List.map_cons, intsOf, ih]; rfl
def dLtT : D → D → Option D := fun x y => match x, y with
  | .tup xs, .tup ys => (match intsOf xs, intsOf ys with | some ns, some ms => some (.bl (HT.lexLt ns ms)) | _, _ => none)
  | _, _ => none
theorem rd_ltT {K : PySem.W.Frag} : RdOp K (rLtT K) dLtT := by
  intro x y d e Z H u v Q zs hx hy q
  unfold dLtT at e
  split at e
  · rename_i xs ys
    split at e
    · rename_i ns ms h1 h2
      cases e
      obtain ⟨a, us, rfl, h3, h4⟩ := rep_tup.mp hx
      obtain ⟨b, ws, rfl, h5, h6⟩ := rep_tup.mp hy
      rw [intsOf_some h1, repl_ints] at h4
      rw [intsOf_some h2, repl_ints] at h6
      subst h4 h6
      exact ⟨a, b, ns, ms, rfl, rfl, sqt_same hide_sub h3, sqt_same hide_sub h5, q _ H (Same.refl H) (rep_bl.mpr rfl)⟩
    · cases e
  · cases e
def dLt : D → D → Option D := fun x y => match dLtI x y with | some d => some d | none => dLtT x y
theorem se_lt (hu : X.A.units < cLine) (ha : SE X a fa) (hb : SE X b fb) : SE X (.Compare a [.Lt] [b] pos) (d2 dLt fa fb) := se_cmp (op_lt.or (op_ltT hu)) (RdOp.or rd_bl0 rd_ltT) ha hb (nomark _)
def flatS : V → Bool
  | .non => true
  | .bl _ => true
  | _ => false
theorem op_isNotS : OpR X (compareOp .IsNot) (fun x y H Q => flatS y = true ∧ Q (.bl (!decide (x = y))) H) := by
  intro pins s σ H x y v u Q I rx ry h
  obtain ⟨hf, q⟩ := h
  have go : plainIs v u = true ∧ (v == u) = decide (x = y) := by
    cases y with
    | non => cases ry; cases x <;> first | (cases rx; exact ⟨rfl, rfl⟩) | (obtain ⟨t, rfl⟩ := rx; exact ⟨rfl, rfl⟩)
    | bl k =>
      cases ry
      cases x with
      | bl k' => cases rx; refine ⟨rfl, ?_⟩; cases k <;> cases k' <;> rfl
      | non => cases rx; exact ⟨rfl, rfl⟩
      | ref _ => cases rx; exact ⟨rfl, rfl⟩
      | ty _ => cases rx; exact ⟨rfl, rfl⟩
      | int _ => obtain ⟨t, rfl⟩ := rx; exact ⟨rfl, rfl⟩
      | str _ => obtain ⟨t, rfl⟩ := rx; exact ⟨rfl, rfl⟩
      | byt _ => obtain ⟨t, rfl⟩ := rx; exact ⟨rfl, rfl⟩
      | flt _ => obtain ⟨t, rfl⟩ := rx; exact ⟨rfl, rfl⟩
    | _ => cases hf
  exact wpAny_isNot_plain go.1 ⟨.bl _, H, I, by rw [go.2]; rfl, q⟩
def isD : D → D → Option Bool := fun x y => match y with
  | .non => (match x with | .non => some true | _ => some false)
  | .bl b => (match x with | .bl b' => some (b' == b) | _ => some false)
  | _ => none
def dIsN : D → D → Option D := fun x y => (isD x y).map fun b => D.bl (!b)
theorem isD_ok {K : PySem.W.Frag} {H : Hp} {x y : D} {u v : V} {b : Bool} (e : isD x y = some b) (hx : Rep K H x u) (hy : Rep K H y v) : flatS v = true ∧ decide (u = v) = b := by
  have ref : ∀ {x : D} {u : V}, Rep K H x u → (match x with | .tup _ => ∃ a, u = .ref a | .lst _ => ∃ a, u = .ref a | .dct _ _ => ∃ a, u = .ref a | _ => True) := fun {x u} h => by
    cases x with
    | tup _ => obtain ⟨a, _, e, _⟩ := rep_tup.mp h; exact ⟨a, e⟩
    | lst _ => obtain ⟨a, _, e, _⟩ := rep_lst.mp h; exact ⟨a, e⟩
    | dct _ _ => obtain ⟨a, _, e, _⟩ := rep_dct.mp h; exact ⟨a, e⟩
    | _ => trivial
  unfold isD at e
  cases y with
  | non =>
    obtain rfl := rep_non.mp hy
    refine ⟨rfl, ?_⟩
    cases x with
    | non => obtain rfl := rep_non.mp hx; cases e; rfl
    | bl _ => obtain rfl := rep_bl.mp hx; cases e; rfl
    | int _ => obtain rfl := rep_int.mp hx; cases e; rfl
    | str _ => obtain rfl := rep_str.mp hx; cases e; rfl
    | tup _ => obtain ⟨a, rfl⟩ := ref hx; cases e; rfl
    | lst _ => obtain ⟨a, rfl⟩ := ref hx; cases e; rfl
    | dct _ _ => obtain ⟨a, rfl⟩ := ref hx; cases e; rfl
  | bl k =>
    obtain rfl := rep_bl.mp hy
    refine ⟨rfl, ?_⟩
    cases x with
    | non => obtain rfl := rep_non.mp hx; cases e; rfl
    | bl k' => obtain rfl := rep_bl.mp hx; cases e; cases k <;> cases k' <;> rfl
    | int _ => obtain rfl := rep_int.mp hx; cases e; rfl
    | str _ => obtain rfl := rep_str.mp hx; cases e; rfl
    | tup _ => obtain ⟨a, rfl⟩ := ref hx; cases e; rfl
    | lst _ => obtain ⟨a, rfl⟩ := ref hx; cases e; rfl
    | dct _ _ => obtain ⟨a, rfl⟩ := ref hx; cases e; rfl
  | _ => cases e
theorem rd_isN {K : PySem.W.Frag} : RdOp K (fun x y H Q => flatS y = true ∧ Q (.bl (!decide (x = y))) H) dIsN := by
  intro x y d e Z H u v Q zs hx hy q
  unfold dIsN at e
  obtain ⟨b, hb, rfl⟩ := Option.map_eq_some_iff.mp e
  obtain ⟨h1, h2⟩ := isD_ok hb hx hy
  refine ⟨h1, ?_⟩
  rw [h2]
  exact q _ H (Same.refl H) (rep_bl.mpr rfl)
theorem st_isN (ha : SE X a fa) (hb : SE X b fb) : STt X (.Compare a [.IsNot] [b] pos) (dTest (d2 dIsN fa fb)) := st_cmp op_isNotS rd_isN ha hb (nomark _)
end
end L3
set_option Elab.async false
set_option linter.all false
set_option maxRecDepth 100000
set_option maxHeartbeats 4000000
namespace L3
open PySem PySem.Spec PyProof.Rows L2 PySem.SeqAt
mutual
def beq : D → D → Bool
  | .non, e => (match e with | .non => true | _ => false)
  | .bl a, e => (match e with | .bl b => a == b | .int j => (if a then (1 : Int) else 0) == j | _ => false)
  | .int i, e => (match e with | .int j => i == j | .bl b => i == (if b then (1 : Int) else 0) | _ => false)
  | .str x, e => (match e with | .str y => x == y | _ => false)
  | .tup xs, e => (match e with | .tup ys => beqL xs ys | _ => false)
  | .lst xs, e => (match e with | .lst ys => beqL xs ys | _ => false)
  | .dct ks xs, e => (match e with | .dct js ys => decide (ks = js) && beqL xs ys | _ => false)
def beqL : List D → List D → Bool
  | [], e => (match e with | [] => true | _ => false)
  | x :: xs, e => (match e with | y :: ys => beq x y && beqL xs ys | [] => false)
end
mutual
def depth : D → Nat
  | .tup xs => depthL xs + 1
  | .lst xs => depthL xs + 1
  | .dct _ xs => depthL xs + 1000
  | _ => 0
def depthL : List D → Nat
  | [] => 0
  | x :: xs => max (depth x) (depthL xs)
end
theorem depth_mem : ∀ {ds : List D} {i : Nat} {d : D}, ds[i]? = some d → depth d ≤ depthL ds
  | [], _, _, e => by simp at e
  | x :: xs, 0, d, e => by simp at e; subst e; rw [depthL]; omega
  | x :: xs, i + 1, d, e => by
    have := depth_mem (ds := xs) (i := i) (d := d) (by simpa using e)
    rw [depthL]; omega
mutual
theorem beq_refl : ∀ d : D, beq d d = true
  | .non => by rw [beq]
  | .bl b => by rw [beq]; exact beq_self_eq_true b
  | .int i => by rw [beq]; exact beq_self_eq_true i
  | .str x => by rw [beq]; exact beq_self_eq_true x
  | .tup xs => by rw [beq]; exact beqL_refl xs
  | .lst xs => by rw [beq]; exact beqL_refl xs
  | .dct ks xs => by rw [beq, beqL_refl xs]; simp
theorem beqL_refl : ∀ ds : List D, beqL ds ds = true
  | [] => by rw [beqL]
  | d :: ds => by rw [beqL, beq_refl d, beqL_refl ds]; rfl
end
theorem beqL_range : ∀ (xs ys : List D), beqL xs ys = ((List.range (min xs.length ys.length)).all (fun j => beq (xs.getD j .non) (ys.getD j .non)) && xs.length == ys.length)
  | [], [] => by rw [beqL]; rfl
  | [], y :: ys => by simp [beqL]
  | x :: xs, [] => by simp [beqL]
  | x :: xs, y :: ys => by
    rw [beqL, beqL_range xs ys]
    have e : min (x :: xs).length (y :: ys).length = min xs.length ys.length + 1 := by simp only [List.length_cons]; omega
    rw [e, List.range_succ_eq_map, List.all_cons, List.all_map]
    have e2 : ((x :: xs).length == (y :: ys).length) = (xs.length == ys.length) := by simp
    rw [e2, Bool.and_assoc]
    rfl
section
variable {X : Cx} {pins : List (Addr × Obj)} {σ : St} {H : Hp} {s : Shared}
theorem rep_not {K : PySem.W.Frag} {d : D} {a : Addr} (h : Rep K H d (.ref a)) : (∃ ds, d = .tup ds) ∨ (∃ ds, d = .lst ds) ∨ ∃ ks ds, d = .dct ks ds := by
  cases d with
  | non => cases rep_non.mp h
  | bl _ => cases rep_bl.mp h
  | int _ => cases rep_int.mp h
  | str _ => cases rep_str.mp h
  | tup ds => exact .inl ⟨ds, rfl⟩
  | lst ds => exact .inr (.inl ⟨ds, rfl⟩)
  | dct ks ds => exact .inr (.inr ⟨ks, ds, rfl⟩)
theorem dct_cls (I : Inv X pins σ H s) {a : Addr} {kvs : List (Key × V)} (h : H a = some (.dK kvs)) : ∃ o, s.heap.get? a = some o ∧ o.cls = .type "dict" := by
  obtain ⟨_, _, vs, _, p⟩ := (show ObjOk X.prog X.w H s.heap a (.dK kvs) from I.hok a _ h)
  obtain ⟨o, es, ep, h1, h2, _⟩ := p
  exact ⟨o, h1, h2.1⟩
theorem no_dt (I : Inv X pins σ H s) {a : Addr} {kvs : List (Key × V)} {xs : List V} (h : H a = some (.dK kvs)) (h' : SqT X.K H a xs) : False := by
  obtain ⟨o, e, c⟩ := dct_cls I h
  obtain ⟨its, _, p, _⟩ := I.tuple h'
  obtain ⟨o', h1, h2, _⟩ := p
  rw [e] at h1
  cases h1
  rw [c] at h2
  revert h2
  simp
theorem no_dl (I : Inv X pins σ H s) {a : Addr} {kvs : List (Key × V)} {xs : List V} (h : H a = some (.dK kvs)) (h' : SqL X.K H a xs) : False := by
  obtain ⟨o, e, c⟩ := dct_cls I h
  obtain ⟨its, _, p, _⟩ := I.list h'
  obtain ⟨o', n, h1, h2, _⟩ := p
  rw [e] at h1
  cases h1
  rw [c] at h2
  revert h2
  simp
theorem no_both (I : Inv X pins σ H s) {a : Addr} {xs ys : List V} (h : SqT X.K H a xs) (h' : SqL X.K H a ys) : False := by
  obtain ⟨its, _, p, _⟩ := I.tuple h
  obtain ⟨its2, _, q, _⟩ := I.list h'
  exact ne_of_list_tuple q.isList p rfl
mutual
theorem rep_inj (I : Inv X pins σ H s) : ∀ {d e : D} {v : V}, Rep X.K H d v → Rep X.K H e v → d = e
  | .non, e, v, h, h' => by
    obtain rfl := rep_non.mp h
    cases e with
    | non => rfl
    | bl _ => cases rep_bl.mp h'
    | int _ => cases rep_int.mp h'
    | str _ => cases rep_str.mp h'
    | tup _ => obtain ⟨_, _, z, _⟩ := rep_tup.mp h'; cases z
    | lst _ => obtain ⟨_, _, z, _⟩ := rep_lst.mp h'; cases z
    | dct _ _ => obtain ⟨_, _, z, _⟩ := rep_dct.mp h'; cases z
  | .bl b, e, v, h, h' => by
    obtain rfl := rep_bl.mp h
    cases e with
    | non => cases rep_non.mp h'
    | bl _ => cases rep_bl.mp h'; rfl
    | int _ => cases rep_int.mp h'
    | str _ => cases rep_str.mp h'
    | tup _ => obtain ⟨_, _, z, _⟩ := rep_tup.mp h'; cases z
    | lst _ => obtain ⟨_, _, z, _⟩ := rep_lst.mp h'; cases z
    | dct _ _ => obtain ⟨_, _, z, _⟩ := rep_dct.mp h'; cases z
  | .int b, e, v, h, h' => by
    obtain rfl := rep_int.mp h
    cases e with
    | non => cases rep_non.mp h'
    | bl _ => cases rep_bl.mp h'
    | int _ => cases rep_int.mp h'; rfl
    | str _ => cases rep_str.mp h'
    | tup _ => obtain ⟨_, _, z, _⟩ := rep_tup.mp h'; cases z
    | lst _ => obtain ⟨_, _, z, _⟩ := rep_lst.mp h'; cases z
    | dct _ _ => obtain ⟨_, _, z, _⟩ := rep_dct.mp h'; cases z
  | .str b, e, v, h, h' => by
    obtain rfl := rep_str.mp h
    cases e with
    | non => cases rep_non.mp h'
    | bl _ => cases rep_bl.mp h'
    | int _ => cases rep_int.mp h'
    | str _ => cases rep_str.mp h'; rfl
    | tup _ => obtain ⟨_, _, z, _⟩ := rep_tup.mp h'; cases z
    | lst _ => obtain ⟨_, _, z, _⟩ := rep_lst.mp h'; cases z
    | dct _ _ => obtain ⟨_, _, z, _⟩ := rep_dct.mp h'; cases z
  | .tup ds, e, v, h, h' => by
    obtain ⟨a, xs, rfl, h1, h2⟩ := rep_tup.mp h
    rcases rep_not h' with ⟨es, rfl⟩ | ⟨es, rfl⟩ | ⟨ks, es, rfl⟩
    · obtain ⟨b, ys, z, h3, h4⟩ := rep_tup.mp h'
      cases z
      have := I.tuple_inj h1 h3
      subst this
      rw [repl_inj I h2 h4]
    · obtain ⟨b, ys, z, h3, h4⟩ := rep_lst.mp h'
      cases z
      exact (no_both I h1 h3).elim
    · obtain ⟨b, ys, z, h3, h4⟩ := rep_dct.mp h'
      cases z
      exact (no_dt I h3 h1).elim
  | .lst ds, e, v, h, h' => by
    obtain ⟨a, xs, rfl, h1, h2⟩ := rep_lst.mp h
    rcases rep_not h' with ⟨es, rfl⟩ | ⟨es, rfl⟩ | ⟨ks, es, rfl⟩
    · obtain ⟨b, ys, z, h3, h4⟩ := rep_tup.mp h'
      cases z
      exact (no_both I h3 h1).elim
    · obtain ⟨b, ys, z, h3, h4⟩ := rep_lst.mp h'
      cases z
      have := I.list_inj h1 h3
      subst this
      rw [repl_inj I h2 h4]
    · obtain ⟨b, ys, z, h3, h4⟩ := rep_dct.mp h'
      cases z
      exact (no_dl I h3 h1).elim
  | .dct ks ds, e, v, h, h' => by
    obtain ⟨a, kvs, rfl, h1, h2, h2'⟩ := rep_dct.mp h
    rcases rep_not h' with ⟨es, rfl⟩ | ⟨es, rfl⟩ | ⟨js, es, rfl⟩
    · obtain ⟨b, ys, z, h3, h4⟩ := rep_tup.mp h'
      cases z
      exact (no_dt I h1 h3).elim
    · obtain ⟨b, ys, z, h3, h4⟩ := rep_lst.mp h'
      cases z
      exact (no_dl I h1 h3).elim
    · obtain ⟨b, ys, z, h3, h4, h5⟩ := rep_dct.mp h'
      cases z
      rw [h1] at h3
      cases h3
      rw [← h2, ← h4, repl_inj I h2' h5]
theorem repl_inj (I : Inv X pins σ H s) : ∀ {ds es : List D} {xs : List V}, RepL X.K H ds xs → RepL X.K H es xs → ds = es
  | [], es, xs, h, h' => by
    obtain rfl := repl_nil.mp h
    cases es with
    | nil => rfl
    | cons e es => obtain ⟨_, _, z, _⟩ := repl_cons.mp h'; cases z
  | d :: ds, es, xs, h, h' => by
    obtain ⟨v, vs, rfl, h1, h2⟩ := repl_cons.mp h
    cases es with
    | nil => cases repl_nil.mp h'
    | cons e es =>
      obtain ⟨v', vs', z, h3, h4⟩ := repl_cons.mp h'
      cases z
      rw [rep_inj I h1 h3, repl_inj I h2 h4]
end
theorem getD_at {α : Type} {xs : List α} {j : Nat} {d x : α} (h : xs[j]? = some x) : xs.getD j d = x := by
  rw [List.getD_eq_getElem?_getD, h]; rfl
theorem eq_flat (I : Inv X pins σ H s) {A : Around} (h0 : A.units < cLine) {d e : D} {x y : V} {u v : Value} (hd : depth d = 0) (he : depth e < 1000) (hx : Rep X.K H d x) (hy : Rep X.K H e y) (rx : RelV x u) (ry : RelV y v) :
    EqAt A s u v (beq d e) ∧ RcAt A s u v (beq d e) ∧ RcNeAt A s u v (!beq d e) := by
  cases d with
  | tup xs => rw [depth] at hd; omega
  | lst xs => rw [depth] at hd; omega
  | dct _ xs => rw [depth] at hd; omega
  | non =>
    obtain rfl := rep_non.mp hx
    cases rx
    cases e with
    | non => obtain rfl := rep_non.mp hy; cases ry; exact ⟨EqAt.same _, RcAt.none_none, RcNeAt.none_none⟩
    | bl b => obtain rfl := rep_bl.mp hy; cases ry; exact ⟨EqAt.none_bool b, RcAt.none_bool b, RcNeAt.none_bool b⟩
    | int j => obtain rfl := rep_int.mp hy; obtain ⟨t, rfl⟩ := ry; exact ⟨EqAt.none_int j t, RcAt.none_int j t, RcNeAt.none_int j t⟩
    | str z => obtain rfl := rep_str.mp hy; obtain ⟨t, rfl⟩ := ry; exact ⟨EqAt.none_str z t, RcAt.none_str z t, RcNeAt.none_str z t⟩
    | tup ys => obtain ⟨b, zs, rfl, h1, _⟩ := rep_tup.mp hy; cases ry; obtain ⟨its, _, p, _⟩ := I.tuple h1; exact ⟨EqAt.none_tuple p h0, RcAt.none_tuple p h0, RcNeAt.none_tuple p h0⟩
    | lst ys => obtain ⟨b, zs, rfl, h1, _⟩ := rep_lst.mp hy; cases ry; obtain ⟨its, _, p, _⟩ := I.list h1; exact ⟨EqAt.none_list p.isList h0, RcAt.none_list p.isList h0, RcNeAt.none_list p.isList h0⟩
    | dct _ ys => rw [depth] at he; omega
  | bl a =>
    obtain rfl := rep_bl.mp hx
    cases rx
    cases e with
    | non => obtain rfl := rep_non.mp hy; cases ry; exact ⟨EqAt.bool_none a, RcAt.bool_none a, RcNeAt.bool_none a⟩
    | bl b => obtain rfl := rep_bl.mp hy; cases ry; exact ⟨EqAt.bool_bool a b, RcAt.bool_bool a b, RcNeAt.bool_bool a b⟩
    | int j => obtain rfl := rep_int.mp hy; obtain ⟨t, rfl⟩ := ry; exact ⟨EqAt.bool_int a j t, RcAt.bool_int a j t, RcNeAt.bool_int a j t⟩
    | str z => obtain rfl := rep_str.mp hy; obtain ⟨t, rfl⟩ := ry; exact ⟨EqAt.bool_str a z t, RcAt.bool_str a z t, RcNeAt.bool_str a z t⟩
    | tup ys => obtain ⟨b, zs, rfl, h1, _⟩ := rep_tup.mp hy; cases ry; obtain ⟨its, _, p, _⟩ := I.tuple h1; exact ⟨EqAt.bool_tuple a p h0, RcAt.bool_tuple a p h0, RcNeAt.bool_tuple a p h0⟩
    | lst ys => obtain ⟨b, zs, rfl, h1, _⟩ := rep_lst.mp hy; cases ry; obtain ⟨its, _, p, _⟩ := I.list h1; exact ⟨EqAt.bool_list a p.isList h0, RcAt.bool_list a p.isList h0, RcNeAt.bool_list a p.isList h0⟩
    | dct _ ys => rw [depth] at he; omega
  | int i =>
    obtain rfl := rep_int.mp hx
    obtain ⟨t0, rfl⟩ := rx
    cases e with
    | non => obtain rfl := rep_non.mp hy; cases ry; exact ⟨EqAt.int_none i t0, RcAt.int_none i t0, RcNeAt.int_none i t0⟩
    | bl b => obtain rfl := rep_bl.mp hy; cases ry; exact ⟨EqAt.int_bool i t0 b, RcAt.int_bool i t0 b, RcNeAt.int_bool i t0 b⟩
    | int j => obtain rfl := rep_int.mp hy; obtain ⟨t, rfl⟩ := ry; exact ⟨EqAt.int_int i t0 j t, RcAt.int_int i t0 j t, RcNeAt.int_int i t0 j t⟩
    | str z => obtain rfl := rep_str.mp hy; obtain ⟨t, rfl⟩ := ry; exact ⟨EqAt.int_str i t0 z t, RcAt.int_str i t0 z t, RcNeAt.int_str i t0 z t⟩
    | tup ys => obtain ⟨b, zs, rfl, h1, _⟩ := rep_tup.mp hy; cases ry; obtain ⟨its, _, p, _⟩ := I.tuple h1; exact ⟨EqAt.int_tuple i t0 p h0, RcAt.int_tuple i t0 p h0, RcNeAt.int_tuple i t0 p h0⟩
    | lst ys => obtain ⟨b, zs, rfl, h1, _⟩ := rep_lst.mp hy; cases ry; obtain ⟨its, _, p, _⟩ := I.list h1; exact ⟨EqAt.int_list i t0 p.isList h0, RcAt.int_list i t0 p.isList h0, RcNeAt.int_list i t0 p.isList h0⟩
    | dct _ ys => rw [depth] at he; omega
  | str w' =>
    obtain rfl := rep_str.mp hx
    obtain ⟨t0, rfl⟩ := rx
    cases e with
    | non => obtain rfl := rep_non.mp hy; cases ry; exact ⟨EqAt.str_none w' t0, RcAt.str_none w' t0, RcNeAt.str_none w' t0⟩
    | bl b => obtain rfl := rep_bl.mp hy; cases ry; exact ⟨EqAt.str_bool w' t0 b, RcAt.str_bool w' t0 b, RcNeAt.str_bool w' t0 b⟩
    | int j => obtain rfl := rep_int.mp hy; obtain ⟨t, rfl⟩ := ry; exact ⟨EqAt.str_int w' t0 j t, RcAt.str_int w' t0 j t, RcNeAt.str_int w' t0 j t⟩
    | str z => obtain rfl := rep_str.mp hy; obtain ⟨t, rfl⟩ := ry; exact ⟨EqAt.str_str w' t0 z t, RcAt.str_str w' t0 z t, RcNeAt.str_str w' t0 z t⟩
    | tup ys => obtain ⟨b, zs, rfl, h1, _⟩ := rep_tup.mp hy; cases ry; obtain ⟨its, _, p, _⟩ := I.tuple h1; exact ⟨EqAt.str_tuple w' t0 p h0, RcAt.str_tuple w' t0 p h0, RcNeAt.str_tuple w' t0 p h0⟩
    | lst ys => obtain ⟨b, zs, rfl, h1, _⟩ := rep_lst.mp hy; cases ry; obtain ⟨its, _, p, _⟩ := I.list h1; exact ⟨EqAt.str_list w' t0 p.isList h0, RcAt.str_list w' t0 p.isList h0, RcNeAt.str_list w' t0 p.isList h0⟩
    | dct _ ys => rw [depth] at he; omega
theorem eq_both (I : Inv X pins σ H s) : ∀ (n : Nat) (A : Around), A.units + n < cLine → n < 1000 → ∀ {d e : D} {x y : V} {u v : Value}, depth d ≤ n → depth e < 1000 → Rep X.K H d x → Rep X.K H e y → RelV x u → RelV y v →
    EqAt A s u v (beq d e) ∧ RcAt A s u v (beq d e) ∧ RcNeAt A s u v (!beq d e) := by
  intro n
  induction n with
  | zero =>
    intro A hu hn d e x y u v hd he hx hy rx ry
    exact eq_flat I (by omega) (by omega) he hx hy rx ry
  | succ n ih =>
    intro A hu hn d e x y u v hd he hx hy rx ry
    have h0 : A.units < cLine := by omega
    have h1' : A.in1.units + n < cLine := by show A.units + 1 + n < cLine; omega
    by_cases hd0 : depth d = 0
    · exact eq_flat I h0 hd0 he hx hy rx ry
    · cases d with
      | non => exact absurd (by simp [depth]) hd0
      | bl _ => exact absurd (by simp [depth]) hd0
      | int _ => exact absurd (by simp [depth]) hd0
      | str _ => exact absurd (by simp [depth]) hd0
      | dct _ xs => rw [depth] at hd; omega
      | tup xs =>
        obtain ⟨a, us, rfl, h1, h2⟩ := rep_tup.mp hx
        cases rx
        obtain ⟨its, rv, p, _⟩ := I.tuple h1
        rw [depth] at hd
        cases e with
        | dct _ ys => rw [depth] at he; omega
        | non => obtain rfl := rep_non.mp hy; cases ry; exact ⟨EqAt.tuple_none p h0, RcAt.tuple_none p h0, RcNeAt.tuple_none p h0⟩
        | bl b => obtain rfl := rep_bl.mp hy; cases ry; exact ⟨EqAt.tuple_bool b p h0, RcAt.tuple_bool b p h0, RcNeAt.tuple_bool b p h0⟩
        | int j => obtain rfl := rep_int.mp hy; obtain ⟨t, rfl⟩ := ry; exact ⟨EqAt.tuple_int j t p h0, RcAt.tuple_int j t p h0, RcNeAt.tuple_int j t p h0⟩
        | str z => obtain rfl := rep_str.mp hy; obtain ⟨t, rfl⟩ := ry; exact ⟨EqAt.tuple_str z t p h0, RcAt.tuple_str z t p h0, RcNeAt.tuple_str z t p h0⟩
        | lst ys =>
          obtain ⟨b, zs, rfl, g1, _⟩ := rep_lst.mp hy
          cases ry
          obtain ⟨its2, _, p2, _⟩ := I.list g1
          exact ⟨EqAt.tuple_list p p2.isList h0, RcAt.tuple_list p p2.isList h0, RcNeAt.tuple_list p p2.isList h0⟩
        | tup ys =>
          obtain ⟨b, zs, rfl, g1, g2⟩ := rep_tup.mp hy
          cases ry
          obtain ⟨its2, rv2, p2, _⟩ := I.tuple g1
          have l1 : its.toArray.size = xs.length := by rw [List.size_toArray, ← rv.length, ← h2.length]
          have l2 : its2.toArray.size = ys.length := by rw [List.size_toArray, ← rv2.length, ← g2.length]
          have items : ∀ j (k1 : j < its.toArray.size) (k2 : j < its2.toArray.size), EqAt A.in1 s its.toArray[j] its2.toArray[j] (beq (xs.getD j .non) (ys.getD j .non)) := fun j k1 k2 => by
            have k1' : j < xs.length := by omega
            have k2' : j < ys.length := by omega
            obtain ⟨vj, e1, r1⟩ := h2.get (List.getElem?_eq_getElem k1')
            obtain ⟨wj, e2, r2⟩ := g2.get (List.getElem?_eq_getElem k2')
            obtain ⟨uj, f1, s1⟩ := rv.get e1
            obtain ⟨tj, f2, s2⟩ := rv2.get e2
            have z1 : its.toArray[j] = uj := by
              rw [List.getElem?_eq_getElem (by rw [List.size_toArray] at k1; exact k1)] at f1
              simpa using f1
            have z2 : its2.toArray[j] = tj := by
              rw [List.getElem?_eq_getElem (by rw [List.size_toArray] at k2; exact k2)] at f2
              simpa using f2
            rw [z1, z2, getD_at (List.getElem?_eq_getElem k1'), getD_at (List.getElem?_eq_getElem k2')]
            have dd := depth_mem (List.getElem?_eq_getElem k1')
            have de := depth_mem (List.getElem?_eq_getElem k2')
            rw [depth] at he
            exact (ih A.in1 h1' (by omega) (by omega) (by omega) r1 r2 s1 s2).1
          have eb : beq (.tup xs) (.tup ys) = ((List.range (min its.toArray.size its2.toArray.size)).all (fun j => beq (xs.getD j .non) (ys.getD j .non)) && its.toArray.size == its2.toArray.size) := by
            rw [beq, beqL_range, l1, l2]
          have rc : RcAt A s (.ref a) (.ref b) (beq (.tup xs) (.tup ys)) := by
            rw [eb]
            exact RcAt.tuples p p2 h0 items
          have rn : RcNeAt A s (.ref a) (.ref b) (!beq (.tup xs) (.tup ys)) := by
            rw [eb]
            exact RcNeAt.tuples p p2 h0 items
          refine ⟨?_, rc, rn⟩
          by_cases hab : a = b
          · subst hab
            rw [rep_inj I hx hy, beq_refl]
            exact EqAt.same _
          · exact EqAt.of_refs hab rc
      | lst xs =>
        obtain ⟨a, us, rfl, h1, h2⟩ := rep_lst.mp hx
        cases rx
        obtain ⟨its, rv, p, _⟩ := I.list h1
        rw [depth] at hd
        cases e with
        | dct _ ys => rw [depth] at he; omega
        | non => obtain rfl := rep_non.mp hy; cases ry; exact ⟨EqAt.list_none p.isList h0, RcAt.list_none p.isList h0, RcNeAt.list_none p.isList h0⟩
        | bl b => obtain rfl := rep_bl.mp hy; cases ry; exact ⟨EqAt.list_bool b p.isList h0, RcAt.list_bool b p.isList h0, RcNeAt.list_bool b p.isList h0⟩
        | int j => obtain rfl := rep_int.mp hy; obtain ⟨t, rfl⟩ := ry; exact ⟨EqAt.list_int j t p.isList h0, RcAt.list_int j t p.isList h0, RcNeAt.list_int j t p.isList h0⟩
        | str z => obtain rfl := rep_str.mp hy; obtain ⟨t, rfl⟩ := ry; exact ⟨EqAt.list_str z t p.isList h0, RcAt.list_str z t p.isList h0, RcNeAt.list_str z t p.isList h0⟩
        | tup ys =>
          obtain ⟨b, zs, rfl, g1, _⟩ := rep_tup.mp hy
          cases ry
          obtain ⟨its2, _, p2, _⟩ := I.tuple g1
          exact ⟨EqAt.list_tuple p.isList p2 h0, RcAt.list_tuple p.isList p2 h0, RcNeAt.list_tuple p.isList p2 h0⟩
        | lst ys =>
          obtain ⟨b, zs, rfl, g1, g2⟩ := rep_lst.mp hy
          cases ry
          obtain ⟨its2, rv2, p2, _⟩ := I.list g1
          have l1 : its.toArray.size = xs.length := by rw [List.size_toArray, ← rv.length, ← h2.length]
          have l2 : its2.toArray.size = ys.length := by rw [List.size_toArray, ← rv2.length, ← g2.length]
          have items : ∀ j (k1 : j < its.toArray.size) (k2 : j < its2.toArray.size), EqAt A.in1 s its.toArray[j] its2.toArray[j] (beq (xs.getD j .non) (ys.getD j .non)) := fun j k1 k2 => by
            have k1' : j < xs.length := by omega
            have k2' : j < ys.length := by omega
            obtain ⟨vj, e1, r1⟩ := h2.get (List.getElem?_eq_getElem k1')
            obtain ⟨wj, e2, r2⟩ := g2.get (List.getElem?_eq_getElem k2')
            obtain ⟨uj, f1, s1⟩ := rv.get e1
            obtain ⟨tj, f2, s2⟩ := rv2.get e2
            have z1 : its.toArray[j] = uj := by
              rw [List.getElem?_eq_getElem (by rw [List.size_toArray] at k1; exact k1)] at f1
              simpa using f1
            have z2 : its2.toArray[j] = tj := by
              rw [List.getElem?_eq_getElem (by rw [List.size_toArray] at k2; exact k2)] at f2
              simpa using f2
            rw [z1, z2, getD_at (List.getElem?_eq_getElem k1'), getD_at (List.getElem?_eq_getElem k2')]
            have dd := depth_mem (List.getElem?_eq_getElem k1')
            have de := depth_mem (List.getElem?_eq_getElem k2')
            rw [depth] at he
            exact (ih A.in1 h1' (by omega) (by omega) (by omega) r1 r2 s1 s2).1
          have both : RcAt A s (.ref a) (.ref b) (beq (.lst xs) (.lst ys)) ∧ RcNeAt A s (.ref a) (.ref b) (!beq (.lst xs) (.lst ys)) := by
            by_cases hl : its.toArray.size = its2.toArray.size
            · have eb : beq (.lst xs) (.lst ys) = ((List.range its.toArray.size).all (fun j => beq (xs.getD j .non) (ys.getD j .non))) := by
                rw [beq, beqL_range]
                have : xs.length = ys.length := by omega
                rw [l1, this, Nat.min_self]
                simp
              rw [eb]
              exact ⟨RcAt.lists p.isList p2.isList hl h0 items, RcNeAt.lists p.isList p2.isList hl h0 items⟩
            · have eb : beq (.lst xs) (.lst ys) = false := by
                rw [beq, beqL_range]
                have : (xs.length == ys.length) = false := by simp; omega
                rw [this, Bool.and_false]
              rw [eb]
              exact ⟨RcAt.lists_lengths p.isList p2.isList (by simpa using hl) h0, RcNeAt.lists_lengths p.isList p2.isList (by simpa using hl) h0⟩
          refine ⟨?_, both⟩
          by_cases hab : a = b
          · subst hab
            rw [rep_inj I hx hy, beq_refl]
            exact EqAt.same _
          · exact EqAt.of_refs hab both.1
end
end L3
set_option Elab.async false
set_option linter.all false
set_option maxRecDepth 100000
set_option maxHeartbeats 4000000
namespace L3
open PySem PySem.Spec PyProof.Rows L2 PySem.SeqAt
def DEEP : Nat := 60
def rEqD (K : PySem.W.Frag) : R2 := fun x y H Q => ∃ d e, depth d ≤ DEEP ∧ depth e ≤ DEEP ∧ Rep K H d x ∧ Rep K H e y ∧ Q (.bl (beq d e)) H
def rNeD (K : PySem.W.Frag) : R2 := fun x y H Q => ∃ d e, depth d ≤ DEEP ∧ depth e ≤ DEEP ∧ Rep K H d x ∧ Rep K H e y ∧ Q (.bl (!beq d e)) H
def dEq : D → D → Option D := fun x y => if depth x ≤ DEEP ∧ depth y ≤ DEEP then some (.bl (beq x y)) else none
def dNe : D → D → Option D := fun x y => if depth x ≤ DEEP ∧ depth y ≤ DEEP then some (.bl (!beq x y)) else none
section
variable {X : Cx} {a b c : Expr} {fa fb fc : DEnv → Option D} {pos : Pos}
theorem op_eqD (hu : X.A.units + 64 < cLine) : OpR X (compareOp .Eq) (rEqD X.K) := by
  intro pins s σ H x y v u Q I rx ry h
  obtain ⟨d, e, hd, he, hx, hy, q⟩ := h
  have he' : depth e < 1000 := Nat.lt_of_le_of_lt he (by unfold DEEP; decide)
  exact (eq_both I DEEP X.A (by unfold DEEP; omega) (by unfold DEEP; decide) hd he' hx hy rx ry).2.1 X.prog X.w X.xe _ ⟨.bl _, H, I, rfl, q⟩
theorem op_neD (hu : X.A.units + 64 < cLine) : OpR X (compareOp .NotEq) (rNeD X.K) := by
  intro pins s σ H x y v u Q I rx ry h
  obtain ⟨d, e, hd, he, hx, hy, q⟩ := h
  have he' : depth e < 1000 := Nat.lt_of_le_of_lt he (by unfold DEEP; decide)
  exact (eq_both I DEEP X.A (by unfold DEEP; omega) (by unfold DEEP; decide) hd he' hx hy rx ry).2.2 X.prog X.w X.xe _ ⟨.bl _, H, I, rfl, q⟩
theorem rd_eqD {K : PySem.W.Frag} : RdOp K (rEqD K) dEq := by
  intro x y d e Z H u v Q zs hx hy q
  unfold dEq at e
  split at e
  · rename_i h
    cases e
    exact ⟨x, y, h.1, h.2, hx.mono hide_sub, hy.mono hide_sub, q _ H (Same.refl H) (rep_bl.mpr rfl)⟩
  · cases e
theorem rd_neD {K : PySem.W.Frag} : RdOp K (rNeD K) dNe := by
  intro x y d e Z H u v Q zs hx hy q
  unfold dNe at e
  split at e
  · rename_i h
    cases e
    exact ⟨x, y, h.1, h.2, hx.mono hide_sub, hy.mono hide_sub, q _ H (Same.refl H) (rep_bl.mpr rfl)⟩
  · cases e
theorem se_eq (hu : X.A.units + 64 < cLine) (ha : SE X a fa) (hb : SE X b fb) : SE X (.Compare a [.Eq] [b] pos) (d2 dEq fa fb) := se_cmp (op_eqD hu) rd_eqD ha hb (nomark _)
theorem st_eq (hu : X.A.units + 64 < cLine) (ha : SE X a fa) (hb : SE X b fb) : STt X (.Compare a [.Eq] [b] pos) (dTest (d2 dEq fa fb)) := st_cmp (op_eqD hu) rd_eqD ha hb (nomark _)
theorem st_ne (hu : X.A.units + 64 < cLine) (ha : SE X a fa) (hb : SE X b fb) : STt X (.Compare a [.NotEq] [b] pos) (dTest (d2 dNe fa fb)) := st_cmp (op_neD hu) rd_neD ha hb (nomark _)
def inD (x : D) (ds : List D) : Bool := ds.any fun y => beq y x
def rInD (K : PySem.W.Frag) (neg : Bool) : R2 := fun x y H Q => ∃ d ds p xs, depthL ds ≤ DEEP ∧ depth d ≤ DEEP ∧ Rep K H d x ∧ y = .ref p ∧ (SqL K H p xs ∨ SqT K H p xs) ∧ RepL K H ds xs ∧ Q (.bl (if neg then !inD d ds else inD d ds)) H
open Classical in
noncomputable def inE (ds : List D) (its : List Value) (x : D) (u : Value) : Bool := if ∃ (j : Nat) (d : D), its[j]? = some u ∧ ds[j]? = some d ∧ beq d x = true then true else false
theorem inE_at {pins : List (Addr × Obj)} {σ : St} {H : Hp} {s : Shared} (I : Inv X pins σ H s) {ds : List D} {xs : List V} {its : List Value} {x d : D} {u : Value} {j : Nat} (hr : RepL X.K H ds xs) (rv : Vals xs its) (h1 : its[j]? = some u) (h2 : ds[j]? = some d) : inE ds its x u = beq d x := by
  unfold inE
  have uniq : ∀ (i : Nat) (e : D), its[i]? = some u → ds[i]? = some e → e = d := fun i e g1 g2 => by
    obtain ⟨v, e1, r1⟩ := hr.get g2
    obtain ⟨w', e2, r2⟩ := hr.get h2
    obtain ⟨u1, f1, s1⟩ := rv.get e1
    obtain ⟨u2, f2, s2⟩ := rv.get e2
    rw [g1] at f1
    cases f1
    rw [h1] at f2
    cases f2
    have : v = w' := s1.inj s2
    subst this
    exact rep_inj I r1 r2
  by_cases hb : beq d x = true
  · rw [if_pos ⟨j, d, h1, h2, hb⟩, hb]
  · rw [if_neg ?_]
    · exact (Bool.eq_false_iff.mpr hb).symm
    · rintro ⟨i, e, g1, g2, g3⟩
      rw [uniq i e g1 g2] at g3
      exact hb g3
theorem any_inE {pins : List (Addr × Obj)} {σ : St} {H : Hp} {s : Shared} (I : Inv X pins σ H s) {ds : List D} {xs : List V} {its : List Value} {x : D} (hr : RepL X.K H ds xs) (rv : Vals xs its) : its.any (inE ds its x) = inD x ds := by
  have hl1 := hr.length
  have hl2 := rv.length
  rw [Bool.eq_iff_iff]
  unfold inD
  rw [List.any_eq_true, List.any_eq_true]
  constructor
  · rintro ⟨u, hu, e⟩
    obtain ⟨j, hj, rfl⟩ := List.mem_iff_getElem.mp hu
    have h2 : ds[j]? = some ds[j] := List.getElem?_eq_getElem (by omega)
    rw [inE_at I hr rv (List.getElem?_eq_getElem hj) h2] at e
    exact ⟨ds[j], List.getElem_mem _, e⟩
  · rintro ⟨d, hd, e⟩
    obtain ⟨j, hj, rfl⟩ := List.mem_iff_getElem.mp hd
    have h1 : its[j]? = some its[j] := List.getElem?_eq_getElem (by omega)
    refine ⟨its[j], List.getElem_mem _, ?_⟩
    rw [inE_at I hr rv h1 (List.getElem?_eq_getElem hj)]
    exact e
theorem mem_inE {pins : List (Addr × Obj)} {σ : St} {H : Hp} {s : Shared} (I : Inv X pins σ H s) (hu : X.A.units + 64 < cLine) {ds : List D} {xs : List V} {its : List Value} {x : D} {xv : V} {v : Value} (hr : RepL X.K H ds xs) (rv : Vals xs its) (hd : depthL ds ≤ DEEP) (hd' : depth x ≤ DEEP)
    (hx : Rep X.K H x xv) (rx : RelV xv v) : ∀ w' ∈ its.toArray, EqAt X.A.in1 s w' v (inE ds its x w') := fun w' hw => by
  have hl1 := hr.length
  have hl2 := rv.length
  have hw' : w' ∈ its := by simpa using hw
  obtain ⟨j, hj, rfl⟩ := List.mem_iff_getElem.mp hw'
  have h2 : ds[j]? = some ds[j] := List.getElem?_eq_getElem (by omega)
  have h1 : its[j]? = some its[j] := List.getElem?_eq_getElem hj
  rw [inE_at I hr rv h1 h2]
  obtain ⟨z, e1, r1⟩ := hr.get h2
  obtain ⟨u1, f1, s1⟩ := rv.get e1
  rw [h1] at f1
  cases f1
  have dd := depth_mem h2
  exact (eq_both I DEEP X.A.in1 (by show X.A.units + 1 + DEEP < cLine; unfold DEEP; omega) (by unfold DEEP; decide) (by omega) (Nat.lt_of_le_of_lt hd' (by unfold DEEP; decide)) r1 hx s1 rx).1
theorem op_notInD (hu : X.A.units + 64 < cLine) : OpR X (compareOp .NotIn) (rInD X.K true) := by
  intro pins s σ H x y v u Q I rx ry h
  obtain ⟨d, ds, p, xs, hd, hd', hx, rfl, hq, hr, q⟩ := h
  cases ry
  rcases hq with hq | hq
  · obtain ⟨its, rv, pl, _⟩ := I.list hq
    refine SeqAt.notIn_listAt (inE ds its d) pl.isList (mem_inE I hu hr rv hd hd' hx rx) ⟨.bl _, H, I, rfl, ?_⟩
    rw [show its.toArray.any (inE ds its d) = its.any (inE ds its d) by simp, any_inE I hr rv]
    exact q
  · obtain ⟨its, rv, pl, _⟩ := I.tuple hq
    refine SeqAt.notIn_tupleAt (inE ds its d) pl (mem_inE I hu hr rv hd hd' hx rx) ⟨.bl _, H, I, rfl, ?_⟩
    rw [show its.toArray.any (inE ds its d) = its.any (inE ds its d) by simp, any_inE I hr rv]
    exact q
def dIn (neg : Bool) (fa : DEnv → Option D) (fb : DEnv → Option (List D)) : DEnv → Option D := fun ρ => match fa ρ with
  | some x => (match fb ρ with | some ds => if depthL ds ≤ DEEP ∧ depth x ≤ DEEP then some (.bl (if neg then !inD x ds else inD x ds)) else none | none => none)
  | none => none
theorem in_imp {K : PySem.W.Frag} {neg : Bool} {fb : DEnv → Option (List D)} : ∀ σ H Q, tD K (dIn neg fa fb) σ H Q → tOp (rInD K neg) (tD K fa) (tQ K fb) σ H Q :=
  fun σ H Q ⟨ρ, d, B, H0, V0, Z, e, r, q⟩ => by
    unfold dIn at e
    split at e
    · rename_i x ex
      split at e
      · rename_i ds ey
        split at e
        · rename_i hd
          cases e
          exact ⟨ρ, x, B, H0, V0, Z, ex, r, fun u H1 s1 r1 => ⟨ρ, ds, B, H0, V0, Z, ey, r.mono s1, fun p xs H2 s2 hq r2 =>
            ⟨x, ds, p, xs, hd.1, hd.2, (r1.mono (hide_same s2)).mono hide_sub, rfl, hq.imp id (sqt_same hide_sub), r2.mono hide_sub, q _ H2 (s1.trans s2) (rep_bl.mpr rfl)⟩⟩⟩
        · cases e
      · cases e
    · cases e
theorem st_nin {fb : DEnv → Option (List D)} (hu : X.A.units + 64 < cLine) (ha : SE X a fa) (hb : SQ X b fb) (hm : behindInMarks .NotIn b = false := by with_unfolding_all rfl) : STt X (.Compare a [.NotIn] [b] pos) (dTest (dIn true fa fb)) :=
  pt_weak (pt_cmpR (op_notInD hu) ha hb hm) fun σ H Q h => in_imp _ _ _ (test_imp σ H Q h)
theorem repl_atI {K : PySem.W.Frag} {H : Hp} {ds : List D} {xs : List V} {i : Int} {d : D} (h : RepL K H ds xs) (e : atI ds i = some d) : ∃ v, atI xs i = some v ∧ Rep K H d v := by
  unfold atI at e ⊢
  rw [← h.length]
  cases hi : ixN ds.length i with
  | none => rw [hi] at e; cases e
  | some j =>
    rw [hi] at e
    exact h.get e
def dIx (fa : DEnv → Option (List D)) (fb : DEnv → Option D) : DEnv → Option D := fun ρ => match fa ρ with | some ds => (match fb ρ with | some (.int i) => atI ds i | _ => none) | none => none
theorem se_ix {fa : DEnv → Option (List D)} (ha : SQ X a fa) (hb : SE X b fb) (hs : PlainIx b := by exact fun _ _ => rfl) : SE X (.Subscript a b pos) (dIx fa fb) :=
  pe_weak (pe_ix ix_seq ha hb hs) fun σ H Q ⟨ρ, d, B, H0, V0, Z, e, r, q⟩ => by
    unfold dIx at e
    split at e
    · rename_i ds eds
      split at e
      · rename_i i ei
        refine ⟨ρ, ds, B, H0, V0, Z, eds, r, fun p xs H1 s1 hq r1 => ⟨ρ, _, B, H0, V0, Z, ei, r.mono s1, fun u H2 s2 r2 => ?_⟩⟩
        obtain rfl := rep_int.mp r2
        obtain ⟨v, hv, rv⟩ := repl_atI (r1.mono (hide_same s2)) e
        have fin := q v H2 (s1.trans s2) rv
        rcases hq with hq | hq
        · exact .inl ⟨p, xs, i, v, rfl, rfl, s2.seq hq, hv, fin⟩
        · exact .inr (.inl ⟨p, xs, i, v, rfl, rfl, sqt_same s2 (sqt_same hide_sub hq), hv, fin⟩)
      · cases e
    · cases e
def tO (K : PySem.W.Frag) (f : DEnv → Option (Option Int)) : TO := fun σ H Q => ∃ ρ o B H0 V0 Z, f ρ = some o ∧ SR K B H0 V0 H Z σ ρ ∧ ∀ H', Same H H' → Q o H'
abbrev SO (X : Cx) (e : Option Expr) (f : DEnv → Option (Option Int)) : Prop := PO X e (tO X.K f)
def dNoP : DEnv → Option (Option Int) := fun _ => some none
def dPart (f : DEnv → Option D) : DEnv → Option (Option Int) := fun ρ => match f ρ with | some (.int i) => some (some i) | _ => none
theorem so_none : SO X none dNoP := fun pins s σ H Q I ⟨ρ, o, B, H0, V0, Z, e, r, q⟩ => by
  cases e
  exact po_none pins s σ H Q I (q H (Same.refl H))
theorem so_some {f : DEnv → Option D} (h : SE X a f) : SO X (some a) (dPart f) := fun pins s σ H Q I ⟨ρ, o, B, H0, V0, Z, e, r, q⟩ => by
  refine po_some h pins s σ H Q I ?_
  unfold dPart at e
  split at e
  · rename_i i ei
    cases e
    exact ⟨ρ, _, B, H0, V0, Z, ei, r, fun v H' s rr => ⟨i, rep_int.mp rr, q H' s⟩⟩
  · cases e
def cut {α : Type} (xs : List α) (lo hi : Option Int) : List α := (xs.drop (HT.sIx xs.length 0 lo)).take (HT.sIx xs.length xs.length hi - HT.sIx xs.length 0 lo)
theorem repl_cut {K : PySem.W.Frag} {H : Hp} {ds : List D} {xs : List V} (lo hi : Option Int) (h : RepL K H ds xs) : RepL K H (cut ds lo hi) (cutV xs lo hi) := by
  unfold cut cutV
  rw [h.length]
  exact (h.drop _).take _
def dSl : D → Option Int → Option Int → Option D := fun x lo hi => match x with
  | .tup ds => if HT.sIx ds.length 0 lo = 0 ∧ HT.sIx ds.length ds.length hi = ds.length then none else some (.tup (cut ds lo hi))
  | .lst ds => some (.lst (cut ds lo hi))
  | _ => none
def dSlc (f : DEnv → Option D) (fl fh : DEnv → Option (Option Int)) : DEnv → Option D := fun ρ => match f ρ with
  | some x => (match fl ρ with | some lo => (match fh ρ with | some hi => dSl x lo hi | none => none) | none => none)
  | none => none
theorem se_sl {lo hi : Option Expr} {p2 : Pos} {fl fh : DEnv → Option (Option Int)} (he : SE X a fa) (hl : SO X lo fl) (hh : SO X hi fh) : SE X (.Subscript a (.Slice lo hi none p2) pos) (dSlc fa fl fh) :=
  pe_weak (pe_slice (sl_tup.or sl_list) he hl hh) fun σ H Q ⟨ρ, d, B, H0, V0, Z, e, r, q⟩ => by
    unfold dSlc at e
    split at e
    · rename_i x ex
      split at e
      · rename_i l el
        split at e
        · rename_i h eh
          refine ⟨ρ, x, B, H0, V0, Z, ex, r, fun u H1 s1 r1 => ⟨ρ, l, B, H0, V0, Z, el, r.mono s1, fun H2 s2 => ⟨ρ, h, B, H0, V0, Z, eh, (r.mono s1).mono s2, fun H3 s3 => ?_⟩⟩⟩
          have R3 := ((r.mono s1).mono s2).mono s3
          have rx := r1.mono (hide_same (s2.trans s3))
          unfold dSl at e
          split at e
          · rename_i ds
            split at e
            · cases e
            · rename_i hw
              cases e
              obtain ⟨p, xs, rfl, h1, h2⟩ := rep_tup.mp rx
              refine .inl ⟨p, xs, rfl, sqt_same hide_sub h1, by rw [← h2.length]; exact hw, fun n hn => ?_⟩
              have sn := same_upd (o := HO.tup (cutV xs l h)) hn
              refine q _ _ (s1.trans (s2.trans (s3.trans sn))) (rep_tup.mpr ⟨n, _, rfl, SqT.of ?_, (repl_cut l h h2).mono (hide_same sn)⟩)
              rw [hide_out (R3.newer hn)]
              exact upd_same
          · rename_i ds
            cases e
            obtain ⟨p, xs, rfl, h1, h2⟩ := rep_lst.mp rx
            refine .inr ⟨p, xs, rfl, hide_sub.seq h1, fun n hn => ?_⟩
            have sn := same_upd (o := HO.lst (cutV xs l h)) hn
            refine q _ _ (s1.trans (s2.trans (s3.trans sn))) (rep_lst.mpr ⟨n, _, rfl, SqL.of ?_, (repl_cut l h h2).mono (hide_same sn)⟩)
            rw [hide_out (R3.newer hn)]
            exact upd_same
          · cases e
        · cases e
      · cases e
    · cases e
def dLen (f : DEnv → Option (List D)) : DEnv → Option D := fun ρ => (f ρ).map fun ds => D.int ds.length
theorem se_len {p : Pos} {f : DEnv → Option (List D)} (hm : X.mg "len" = none) (h : SQ X a f) (hg : Gl X "len" := by rfl) (he : starEach [a] X.env = (false, eval a X.env) :: starEach [] X.env := by exact star_of rfl) (hpl : (backTo pos (starEach [] X.env)).any (·.1) = false := by exact back_of rfl) : SE X (.Call (.Name "len" p) [a] [] pos) (dLen f) :=
  pe_weak (pe_callB call_len_seq hg hm PySem.boot_len (pa_cons h pa_nil he) (by decide) (by decide) he hpl) fun σ H Q ⟨ρ, d, B, H0, V0, Z, e, r, q⟩ => by
    unfold dLen at e
    obtain ⟨ds, eds, rfl⟩ := Option.map_eq_some_iff.mp e
    exact ⟨ρ, ds, B, H0, V0, Z, eds, r, fun p xs H' s hq rr => ⟨p, xs, rfl, hq.imp id (sqt_same hide_sub), q _ H' s (by rw [← rr.length]; exact rep_int.mpr rfl)⟩⟩
def dTupF (f : DEnv → Option (List D)) : DEnv → Option D := fun ρ => (f ρ).map D.tup
theorem se_tuple {p : Pos} {f : DEnv → Option (List D)} (hm : X.mg "tuple" = none) (h : SQ X a f) (hg : Gl X "tuple" := by rfl) (he : starEach [a] X.env = (false, eval a X.env) :: starEach [] X.env := by exact star_of rfl) (hpl : (backTo pos (starEach [] X.env)).any (·.1) = false := by exact back_of rfl) (hv : bootBuiltins "tuple" = some (.type "tuple") := by decide +kernel) : SE X (.Call (.Name "tuple" p) [a] [] pos) (dTupF f) :=
  pe_weak (pe_callTy call_tuple_of hg hm hv (pa_cons h pa_nil he) (by decide) (by decide) he hpl) fun σ H Q ⟨ρ, d, B, H0, V0, Z, e, r, q⟩ => by
    unfold dTupF at e
    obtain ⟨ds, eds, rfl⟩ := Option.map_eq_some_iff.mp e
    refine ⟨ρ, ds, B, H0, V0, Z, eds, r, fun p xs H' s hq rr => ⟨p, xs, rfl, ?_⟩⟩
    rcases hq with hq | hq
    · refine .inl ⟨hq, fun l hl => ?_⟩
      have sn := same_upd (o := HO.tup xs) hl
      refine q _ _ (s.trans sn) (rep_tup.mpr ⟨l, xs, rfl, SqT.of ?_, rr.mono (hide_same sn)⟩)
      rw [hide_out ((r.mono s).newer hl)]
      exact upd_same
    · exact .inr ⟨sqt_same hide_sub hq, q _ H' s (rep_tup.mpr ⟨p, xs, rfl, hq, rr⟩)⟩
end
end L3
set_option linter.all false
namespace L3
open PySem PySem.W PyProof.Rows
def kRun {α : Type} (lt : Nat → Nat → Bool) : KasT α → α
  | .ret a => a
  | .ask i j k => kRun lt (k (lt i j))
theorem kRun_bind {α β : Type} (lt : Nat → Nat → Bool) (f : α → KasT β) : ∀ t : KasT α, kRun lt (t.bind f) = kRun lt (f (kRun lt t))
  | .ret _ => rfl
  | .ask i j k => kRun_bind lt f (k (lt i j))
structure KOrd (lt : Nat → Nat → Bool) : Prop where
  asym : ∀ i j, lt i j = true → lt j i = false
  tr : ∀ i j k, lt j i = false → lt k j = false → lt k i = false
def gt (p : Array Nat) (i : Nat) : Nat := p.getD i 0
theorem gt_of {p q : Array Nat} {i j : Nat} (h : p[i]? = q[j]?) : gt p i = gt q j := by
  unfold gt
  rw [Array.getD_eq_getD_getElem?, Array.getD_eq_getD_getElem?, h]
def Up (lt : Nat → Nat → Bool) (p : Array Nat) (b : Nat) : Prop := ∀ i j, i ≤ j → j < b → lt (gt p j) (gt p i) = false
def Dn (lt : Nat → Nat → Bool) (p : Array Nat) (b : Nat) : Prop := ∀ i j, i ≤ j → j < b → lt (gt p i) (gt p j) = false
def Al (lt : Nat → Nat → Bool) (p : Array Nat) (a b : Nat) : Prop := ∀ i j, a ≤ i → i < b → a ≤ j → j < b → lt (gt p i) (gt p j) = false
section
variable {lt : Nat → Nat → Bool} (O : KOrd lt)
theorem KOrd.irr {lt : Nat → Nat → Bool} (O : KOrd lt) (i : Nat) : lt i i = false := by
  cases h : lt i i with
  | false => rfl
  | true => rw [O.asym i i h] at h; cases h
theorem rev_gt {p : Array Nat} {i j : Nat} (hj : j ≤ p.size) (hij : i ≤ j) (k : Nat) : gt (kas_rev p i j) k = if i ≤ k ∧ k < j then gt p (i + j - 1 - k) else gt p k := by
  unfold kas_rev
  have e := getElem?_mirror (xs := p) (i := i) hj ((j - i) / 2) (by omega) k
  by_cases h : i ≤ k ∧ k < j
  · rw [if_pos h]
    by_cases h2 : (i ≤ k ∧ k < i + (j - i) / 2) ∨ (j - (j - i) / 2 ≤ k ∧ k < j)
    · rw [if_pos h2] at e; exact gt_of e
    · rw [if_neg h2] at e
      have : i + j - 1 - k = k := by omega
      rw [this]; exact gt_of e
  · rw [if_neg h]
    rw [if_neg (by omega)] at e
    exact gt_of e
theorem rev_size (p : Array Nat) (i j : Nat) : (kas_rev p i j).size = p.size := mirror_size _ _ _ _
theorem rev_perm (p : Array Nat) (i j : Nat) : (kas_rev p i j).Perm p := mirror_perm _ _ _ _
include O
theorem asc_ok {p : Array Nat} : ∀ (f n : Nat), 1 ≤ n → Up lt p n → n ≤ kRun lt (kas_asc p f n) ∧ kRun lt (kas_asc p f n) ≤ n + f ∧ Up lt p (kRun lt (kas_asc p f n)) ∧
    (kRun lt (kas_asc p f n) < n + f → lt (gt p (kRun lt (kas_asc p f n))) (gt p (kRun lt (kas_asc p f n) - 1)) = true)
  | 0, n, h1, h => ⟨Nat.le_refl _, Nat.le_refl _, h, fun z => absurd z (Nat.lt_irrefl _)⟩
  | f + 1, n, h1, h => by
    have e : kRun lt (kas_asc p (f + 1) n) = kRun lt (if lt (gt p n) (gt p (n - 1)) = true then KasT.ret n else kas_asc p f (n + 1)) := rfl
    rw [e]
    cases hc : lt (gt p n) (gt p (n - 1)) with
    | true =>
      rw [if_pos rfl]
      exact ⟨Nat.le_refl _, Nat.le_add_right _ _, h, fun _ => hc⟩
    | false =>
      rw [if_neg Bool.false_ne_true]
      have h' : Up lt p (n + 1) := fun i j hij hj => by
        by_cases hjn : j < n
        · exact h i j hij hjn
        · have : j = n := by omega
          subst this
          by_cases hi : i = j
          · subst hi; exact O.irr _
          · exact O.tr _ _ _ (h i (j - 1) (by omega) (by omega)) hc
      obtain ⟨a1, a2, a3, a4⟩ := asc_ok f (n + 1) (by omega) h'
      exact ⟨by omega, by omega, a3, fun z => a4 (by omega)⟩
theorem rev_al {p : Array Nat} {n q : Nat} (hz : n ≤ p.size) (hq : q + 1 ≤ n) (hd : Dn lt p n) (ha : Al lt p (n - (q + 1)) n) : Dn lt (kas_rev p (n - (q + 1)) n) n := fun i j hij hj => by
  rw [rev_gt hz (by omega), rev_gt hz (by omega)]
  by_cases h1 : n - (q + 1) ≤ i ∧ i < n
  · have h2 : n - (q + 1) ≤ j ∧ j < n := by omega
    rw [if_pos h1, if_pos h2]
    exact ha _ _ (by omega) (by omega) (by omega) (by omega)
  · rw [if_neg h1]
    by_cases h2 : n - (q + 1) ≤ j ∧ j < n
    · rw [if_pos h2]
      exact hd _ _ (by omega) (by omega)
    · rw [if_neg h2]
      exact hd _ _ hij hj
theorem desc_ok : ∀ (f : Nat) (p : Array Nat) (n q : Nat), n + f ≤ p.size → q + 1 ≤ n → Dn lt p n → Al lt p (n - (q + 1)) n →
    ∃ p' m q', kRun lt (kas_desc f p n q) = (p', m, q') ∧ p'.size = p.size ∧ p'.Perm p ∧ n ≤ m ∧ m ≤ n + f ∧ q' + 1 ≤ m ∧ Dn lt p' m ∧ Al lt p' (m - (q' + 1)) m
  | 0, p, n, q, hz, hq, hd, ha => ⟨p, n, q, rfl, rfl, Array.Perm.refl _, Nat.le_refl _, Nat.le_refl _, hq, hd, ha⟩
  | f + 1, p, n, q, hz, hq, hd, ha => by
    have e : kRun lt (kas_desc (f + 1) p n q) = kRun lt (if lt (gt p n) (gt p (n - 1)) = true then (if q > 0 then kas_desc f (kas_rev p (n - (q + 1)) n) (n + 1) 0 else kas_desc f p (n + 1) 0)
      else .ask (p.getD (n - 1) 0) (p.getD n 0) fun d => if d = true then .ret (p, n, q) else kas_desc f p (n + 1) (q + 1)) := rfl
    rw [e]
    cases hc : lt (gt p n) (gt p (n - 1)) with
    | true =>
      rw [if_pos rfl]
      have less : ∀ i, i < n → lt (gt p i) (gt p n) = false := fun i hi => O.tr _ _ _ (O.asym _ _ hc) (hd i (n - 1) (by omega) (by omega))
      by_cases h0 : q > 0
      · rw [if_pos h0]
        have hd' := rev_al O (by omega) hq hd ha
        have hd2 : Dn lt (kas_rev p (n - (q + 1)) n) (n + 1) := fun i j hij hj => by
          by_cases hjn : j < n
          · exact hd' i j hij hjn
          · have : j = n := by omega
            subst this
            by_cases hi : i = j
            · subst hi; exact O.irr _
            · rw [rev_gt (by omega) (by omega), rev_gt (by omega) (by omega), if_neg (by omega : ¬ (j - (q + 1) ≤ j ∧ j < j))]
              split
              · exact less _ (by omega)
              · exact less _ (by omega)
        obtain ⟨p', m, q', e1, e2, e3, e4, e5, e6, e7, e8⟩ := desc_ok f (kas_rev p (n - (q + 1)) n) (n + 1) 0 (by rw [rev_size]; omega) (by omega) hd2 (fun i j h1 h2 h3 h4 => by
          have : i = j := by omega
          subst this; exact O.irr _)
        exact ⟨p', m, q', e1, by rw [e2, rev_size], e3.trans (rev_perm _ _ _), by omega, by omega, e6, e7, e8⟩
      · rw [if_neg h0]
        have hd2 : Dn lt p (n + 1) := fun i j hij hj => by
          by_cases hjn : j < n
          · exact hd i j hij hjn
          · have : j = n := by omega
            subst this
            by_cases hi : i = j
            · subst hi; exact O.irr _
            · exact less i (by omega)
        obtain ⟨p', m, q', e1, e2, e3, e4, e5, e6, e7, e8⟩ := desc_ok f p (n + 1) 0 (by omega) (by omega) hd2 (fun i j h1 h2 h3 h4 => by
          have : i = j := by omega
          subst this; exact O.irr _)
        exact ⟨p', m, q', e1, e2, e3, by omega, by omega, e6, e7, e8⟩
    | false =>
      rw [if_neg Bool.false_ne_true]
      have e' : kRun lt (KasT.ask (p.getD (n - 1) 0) (p.getD n 0) fun d => if d = true then .ret (p, n, q) else kas_desc f p (n + 1) (q + 1)) = kRun lt (if lt (gt p (n - 1)) (gt p n) = true then .ret (p, n, q) else kas_desc f p (n + 1) (q + 1)) := rfl
      rw [e']
      cases hc2 : lt (gt p (n - 1)) (gt p n) with
      | true =>
        rw [if_pos rfl]
        exact ⟨p, n, q, rfl, rfl, Array.Perm.refl _, Nat.le_refl _, by omega, hq, hd, ha⟩
      | false =>
        rw [if_neg Bool.false_ne_true]
        have hd2 : Dn lt p (n + 1) := fun i j hij hj => by
          by_cases hjn : j < n
          · exact hd i j hij hjn
          · have : j = n := by omega
            subst this
            by_cases hi : i = j
            · subst hi; exact O.irr _
            · exact O.tr _ _ _ hc2 (hd i (j - 1) (by omega) (by omega))
        have ha2 : Al lt p (n + 1 - (q + 1 + 1)) (n + 1) := fun i j h1 h2 h3 h4 => by
          have lastL : ∀ i, n - (q + 1) ≤ i → i < n → lt (gt p i) (gt p n) = false := fun i g1 g2 => O.tr _ _ _ hc2 (ha i (n - 1) g1 g2 (by omega) (by omega))
          have lastR : ∀ i, n - (q + 1) ≤ i → i < n → lt (gt p n) (gt p i) = false := fun i g1 g2 => O.tr _ _ _ (ha (n - 1) i (by omega) (by omega) g1 g2) hc
          by_cases hi : i < n
          · by_cases hj : j < n
            · exact ha i j (by omega) hi (by omega) hj
            · have : j = n := by omega
              subst this
              exact lastL i (by omega) hi
          · have : i = n := by omega
            subst this
            by_cases hj : j < i
            · exact lastR j (by omega) hj
            · have : j = i := by omega
              subst this; exact O.irr _
        obtain ⟨p', m, q', e1, e2, e3, e4, e5, e6, e7, e8⟩ := desc_ok f p (n + 1) (q + 1) (by omega) (by omega) hd2 ha2
        exact ⟨p', m, q', e1, e2, e3, by omega, by omega, e6, e7, e8⟩
theorem rev_up {p : Array Nat} {n : Nat} (hz : n ≤ p.size) (hd : Dn lt p n) : Up lt (kas_rev p 0 n) n := fun i j hij hj => by
  rw [rev_gt hz (by omega), rev_gt hz (by omega), if_pos (by omega), if_pos (by omega)]
  exact hd _ _ (by omega) (by omega)
theorem tail_ok {p : Array Nat} {n nrem : Nat} (hn : n ≤ nrem) (h1 : 1 ≤ n) (hz : nrem ≤ p.size) (hd : Dn lt p n) :
    ∃ m p', kRun lt (kas_tail3 n nrem p) = (m, p') ∧ p'.size = p.size ∧ p'.Perm p ∧ 1 ≤ m ∧ m ≤ nrem ∧ Up lt p' m := by
  unfold kas_tail3
  rw [kRun_bind]
  obtain ⟨a1, a2, a3, _⟩ := asc_ok O (nrem - n) n h1 (rev_up O (by omega) hd)
  exact ⟨_, _, rfl, rev_size _ _ _, rev_perm _ _ _, by omega, by omega, a3⟩
theorem descPart_ok {p : Array Nat} {n nrem : Nat} (hn : n + 1 ≤ nrem) (hz : nrem ≤ p.size) (hd : Dn lt p (n + 1)) :
    ∃ m p', kRun lt (kas_descPart n nrem p) = (m, p') ∧ p'.size = p.size ∧ p'.Perm p ∧ 1 ≤ m ∧ m ≤ nrem ∧ Up lt p' m := by
  unfold kas_descPart
  rw [kRun_bind]
  obtain ⟨p', m, q', e1, e2, e3, e4, e5, e6, e7, e8⟩ := desc_ok O (nrem - (n + 1)) p (n + 1) 0 (by omega) (by omega) hd (fun i j h1 h2 h3 h4 => by
    have : i = j := by omega
    subst this; exact O.irr _)
  rw [e1]
  dsimp only
  by_cases hq : q' > 0
  · rw [if_pos hq]
    obtain ⟨m2, p2, t1, t2, t3, t4, t5, t6⟩ := tail_ok O (p := kas_rev p' (m - (q' + 1)) m) (n := m) (nrem := nrem) (by omega) (by omega) (by rw [rev_size]; omega) (rev_al O (by omega) e6 e7 e8)
    exact ⟨m2, p2, t1, by rw [t2, rev_size, e2], t3.trans ((rev_perm _ _ _).trans e3), t4, t5, t6⟩
  · rw [if_neg hq]
    obtain ⟨m2, p2, t1, t2, t3, t4, t5, t6⟩ := tail_ok O (p := p') (n := m) (nrem := nrem) (by omega) (by omega) (by omega) e7
    exact ⟨m2, p2, t1, by rw [t2, e2], t3.trans e3, t4, t5, t6⟩
theorem count_ok {p : Array Nat} {nrem : Nat} (h1 : 1 ≤ nrem) (hz : nrem ≤ p.size) :
    ∃ m p', kRun lt (kas_count nrem p) = (m, p') ∧ p'.size = p.size ∧ p'.Perm p ∧ 1 ≤ m ∧ m ≤ nrem ∧ Up lt p' m := by
  unfold kas_count
  rw [kRun_bind]
  obtain ⟨a1, a2, a3, a4⟩ := asc_ok O (p := p) (nrem - 1) 1 (Nat.le_refl _) (fun i j hij hj => by
    have : i = j := by omega
    subst this; exact O.irr _)
  generalize kRun lt (kas_asc p (nrem - 1) 1) = n at a1 a2 a3 a4
  by_cases e1 : (n == nrem) = true
  · rw [if_pos e1]
    exact ⟨n, p, rfl, rfl, Array.Perm.refl _, a1, by omega, a3⟩
  · rw [if_neg e1]
    have hne : n ≠ nrem := fun q => e1 (by rw [q]; exact beq_self_eq_true _)
    have hlt := a4 (by omega)
    by_cases e2 : n > 1
    · rw [if_pos e2]
      have e' : kRun lt (KasT.ask (p.getD 0 0) (p.getD (n - 1) 0) fun c => if c = true then .ret (n, p) else kas_descPart n nrem (kas_rev p 0 n)) = kRun lt (if lt (gt p 0) (gt p (n - 1)) = true then .ret (n, p) else kas_descPart n nrem (kas_rev p 0 n)) := rfl
      rw [e']
      cases hc : lt (gt p 0) (gt p (n - 1)) with
      | true =>
        rw [if_pos rfl]
        exact ⟨n, p, rfl, rfl, Array.Perm.refl _, a1, by omega, a3⟩
      | false =>
        rw [if_neg Bool.false_ne_true]
        have all : ∀ i j, i < n → j < n → lt (gt p i) (gt p j) = false := fun i j hi hj =>
          O.tr _ _ _ (O.tr _ _ _ (a3 j (n - 1) (by omega) (by omega)) hc) (a3 0 i (by omega) hi)
        obtain ⟨m2, p2, t1, t2, t3, t4, t5, t6⟩ := descPart_ok O (p := kas_rev p 0 n) (n := n) (nrem := nrem) (by omega) (by rw [rev_size]; exact hz) (fun i j hij hj => by
          rw [rev_gt (by omega) (by omega), rev_gt (by omega) (by omega)]
          by_cases hjn : j < n
          · rw [if_pos (by omega), if_pos (by omega)]
            exact all _ _ (by omega) (by omega)
          · have : j = n := by omega
            subst this
            rw [if_neg (by omega : ¬ (0 ≤ j ∧ j < j))]
            by_cases hi : i < j
            · rw [if_pos (by omega)]
              exact O.tr _ _ _ (O.asym _ _ hlt) (all _ _ (by omega) (by omega))
            · rw [if_neg (by omega)]
              have : i = j := by omega
              subst this; exact O.irr _)
        exact ⟨m2, p2, t1, by rw [t2, rev_size], t3.trans (rev_perm _ _ _), t4, t5, t6⟩
    · rw [if_neg e2]
      have : n = 1 := by omega
      subst this
      obtain ⟨m2, p2, t1, t2, t3, t4, t5, t6⟩ := descPart_ok O (p := p) (n := 1) (nrem := nrem) (by omega) hz (fun i j hij hj => by
        by_cases hij' : i = j
        · subst hij'; exact O.irr _
        · have hi : i = 0 := by omega
          have hj' : j = 1 := by omega
          subst hi hj'
          exact O.asym _ _ hlt)
      exact ⟨m2, p2, t1, t2, t3, t4, t5, t6⟩
theorem place_ok {p : Array Nat} {k : Nat} (hu : Up lt p k) : ∀ (f l r : Nat), r - l ≤ f → l ≤ r → r ≤ k → (∀ i, i < l → lt (gt p k) (gt p i) = false) → (∀ i, r ≤ i → i < k → lt (gt p i) (gt p k) = false) →
    kRun lt (kas_place p k f l r) ≤ k ∧ (∀ i, i < kRun lt (kas_place p k f l r) → lt (gt p k) (gt p i) = false) ∧ (∀ i, kRun lt (kas_place p k f l r) ≤ i → i < k → lt (gt p i) (gt p k) = false)
  | 0, l, r, hf, hlr, hr, h1, h2 => ⟨show l ≤ k by omega, h1, fun i (g1 : l ≤ i) g2 => h2 i (by omega) g2⟩
  | f + 1, l, r, hf, hlr, hr, h1, h2 => by
    have e : kRun lt (kas_place p k (f + 1) l r) = kRun lt (if l ≥ r then .ret l else .ask (p.getD k 0) (p.getD ((l + r) / 2) 0) fun c => if c = true then kas_place p k f l ((l + r) / 2) else kas_place p k f ((l + r) / 2 + 1) r) := rfl
    rw [e]
    by_cases hge : l ≥ r
    · rw [if_pos hge]
      exact ⟨show l ≤ k by omega, h1, fun i (g1 : l ≤ i) g2 => h2 i (by omega) g2⟩
    · rw [if_neg hge]
      have e' : kRun lt (KasT.ask (p.getD k 0) (p.getD ((l + r) / 2) 0) fun c => if c = true then kas_place p k f l ((l + r) / 2) else kas_place p k f ((l + r) / 2 + 1) r) =
        kRun lt (if lt (gt p k) (gt p ((l + r) / 2)) = true then kas_place p k f l ((l + r) / 2) else kas_place p k f ((l + r) / 2 + 1) r) := rfl
      rw [e']
      cases hc : lt (gt p k) (gt p ((l + r) / 2)) with
      | true =>
        rw [if_pos rfl]
        exact place_ok hu f l ((l + r) / 2) (by omega) (by omega) (by omega) h1 fun i g1 g2 => O.tr _ _ _ (O.asym _ _ hc) (hu _ i g1 g2)
      | false =>
        rw [if_neg Bool.false_ne_true]
        exact place_ok hu f ((l + r) / 2 + 1) r (by omega) (by omega) hr (fun i g1 => O.tr _ _ _ (hu i _ (by omega) (by omega)) hc) h2
theorem bin_ok : ∀ (f : Nat) (p : Array Nat) (k : Nat), k + f ≤ p.size → Up lt p k → ∃ p', kRun lt (kas_bin f p k) = p' ∧ p'.size = p.size ∧ p'.Perm p ∧ Up lt p' (k + f)
  | 0, p, k, _, hu => ⟨p, rfl, rfl, Array.Perm.refl _, hu⟩
  | f + 1, p, k, hz, hu => by
    have e : kRun lt (kas_bin (f + 1) p k) = kRun lt ((kas_place p k k 0 k).bind fun l => kas_bin f (bubble p k (k - l)) (k + 1)) := rfl
    rw [e, kRun_bind]
    obtain ⟨b1, b2, b3⟩ := place_ok O hu k 0 k (by omega) (by omega) (Nat.le_refl _) (fun i g => by omega) (fun i g1 g2 => by omega)
    generalize kRun lt (kas_place p k k 0 k) = l at b1 b2 b3
    have bg : ∀ x, gt (bubble p k (k - l)) x = if x = l then gt p k else if l < x ∧ x ≤ k then gt p (x - 1) else gt p x := fun x => by
      have e := getElem?_bubble (xs := p) (src := k) (by omega) (k - l) (by omega) x
      have ek : k - (k - l) = l := by omega
      rw [ek] at e
      by_cases g1 : x = l
      · rw [if_pos g1] at e ⊢; exact gt_of e
      · rw [if_neg g1] at e ⊢
        by_cases g2 : l < x ∧ x ≤ k
        · rw [if_pos g2] at e ⊢; exact gt_of e
        · rw [if_neg g2] at e ⊢; exact gt_of e
    have hu' : Up lt (bubble p k (k - l)) (k + 1) := fun i j hij hj => by
      by_cases hij' : i = j
      · subst hij'; exact O.irr _
      rw [bg, bg]
      by_cases hj1 : j = l
      · rw [if_pos hj1, if_neg (by omega : ¬ i = l), if_neg (by omega : ¬ (l < i ∧ i ≤ k))]
        exact b2 i (by omega)
      · rw [if_neg hj1]
        by_cases hj2 : l < j ∧ j ≤ k
        · rw [if_pos hj2]
          by_cases hi1 : i = l
          · rw [if_pos hi1]
            exact b3 _ (by omega) (by omega)
          · rw [if_neg hi1]
            by_cases hi2 : l < i ∧ i ≤ k
            · rw [if_pos hi2]
              exact hu _ _ (by omega) (by omega)
            · rw [if_neg hi2]
              exact hu _ _ (by omega) (by omega)
        · rw [if_neg hj2, if_neg (by omega : ¬ i = l), if_neg (by omega : ¬ (l < i ∧ i ≤ k))]
          exact hu _ _ hij (by omega)
    obtain ⟨p', e1, e2, e3, e4⟩ := bin_ok f (bubble p k (k - l)) (k + 1) (by rw [bubble_size]; omega) hu'
    exact ⟨p', e1, by rw [e2, bubble_size], e3.trans (bubble_perm _ _ _), by rw [show k + (f + 1) = k + 1 + f by omega]; exact e4⟩
theorem sort_ok {n : Nat} (hn : 1 ≤ n) : ∃ p, kRun lt (kas_sort n) = p ∧ p.size = n ∧ p.Perm (List.toArray (List.range n)) ∧ Up lt p n := by
  unfold kas_sort
  rw [kRun_bind]
  have hz : (List.toArray (List.range n)).size = n := by simp
  obtain ⟨m, p', e1, e2, e3, e4, e5, e6⟩ := count_ok O (p := List.toArray (List.range n)) (nrem := n) hn (by rw [hz]; exact Nat.le_refl _)
  rw [e1]
  dsimp only
  by_cases h : m < n
  · rw [if_pos h]
    have em : max m 1 = m := by omega
    rw [em]
    obtain ⟨p2, t1, t2, t3, t4⟩ := bin_ok O (n - m) p' m (by omega) e6
    exact ⟨p2, t1, by rw [t2, e2, hz], t3.trans e3, by rw [show n = m + (n - m) by omega]; exact t4⟩
  · rw [if_neg h]
    have em : m = n := by omega
    subst em
    exact ⟨p', rfl, by rw [e2, hz], e3, e6⟩
end
def Asks {α : Type} (lt : Nat → Nat → Bool) (n : Nat) : KasT α → Prop
  | .ret _ => True
  | .ask i j k => i < n ∧ j < n ∧ Asks lt n (k (lt i j))
def InN (n : Nat) (p : Array Nat) : Prop := 0 < n ∧ ∀ x, x ∈ p → x < n
section
variable {lt : Nat → Nat → Bool} {n : Nat}
theorem asks_bind {α β : Type} {f : α → KasT β} : ∀ {t : KasT α}, Asks lt n t → Asks lt n (f (kRun lt t)) → Asks lt n (t.bind f)
  | .ret _, _, h => h
  | .ask i j k, ⟨h1, h2, h3⟩, h => ⟨h1, h2, asks_bind (t := k (lt i j)) h3 h⟩
theorem InN.gt {p : Array Nat} (h : InN n p) (i : Nat) : p.getD i 0 < n := by
  rw [Array.getD_eq_getD_getElem?]
  cases e : p[i]? with
  | none => exact h.1
  | some x => exact h.2 x (Array.mem_of_getElem? e)
theorem InN.perm {p q : Array Nat} (h : InN n p) (e : q.Perm p) : InN n q := ⟨h.1, fun x hx => h.2 x (e.mem_iff.mp hx)⟩
theorem asks_ite {α : Type} {c : Bool} {t u : KasT α} (h1 : Asks lt n t) (h2 : Asks lt n u) : Asks lt n (if c = true then t else u) := by
  cases c with
  | true => rw [if_pos rfl]; exact h1
  | false => rw [if_neg Bool.false_ne_true]; exact h2
theorem asks_ite' {α : Type} {c : Prop} [Decidable c] {t u : KasT α} (h1 : Asks lt n t) (h2 : Asks lt n u) : Asks lt n (if c then t else u) := by
  split
  · exact h1
  · exact h2
theorem asc_in {p : Array Nat} (h : InN n p) : ∀ f m, Asks lt n (kas_asc p f m)
  | 0, _ => trivial
  | f + 1, m => ⟨h.gt _, h.gt _, asks_ite trivial (asc_in h f (m + 1))⟩
theorem desc_in : ∀ (f : Nat) (p : Array Nat) (m q : Nat), InN n p → Asks lt n (kas_desc f p m q) ∧ InN n (kRun lt (kas_desc f p m q)).1
  | 0, p, _, _, h => ⟨trivial, h⟩
  | f + 1, p, m, q, h => by
    have hr : InN n (kas_rev p (m - (q + 1)) m) := h.perm (rev_perm _ _ _)
    have e : kRun lt (kas_desc (f + 1) p m q) = kRun lt (if lt (p.getD m 0) (p.getD (m - 1) 0) = true then (if q > 0 then kas_desc f (kas_rev p (m - (q + 1)) m) (m + 1) 0 else kas_desc f p (m + 1) 0)
      else .ask (p.getD (m - 1) 0) (p.getD m 0) fun d => if d = true then .ret (p, m, q) else kas_desc f p (m + 1) (q + 1)) := rfl
    refine ⟨⟨h.gt _, h.gt _, asks_ite (asks_ite' (desc_in f _ _ _ hr).1 (desc_in f _ _ _ h).1) ⟨h.gt _, h.gt _, asks_ite trivial (desc_in f _ _ _ h).1⟩⟩, ?_⟩
    rw [e]
    cases lt (p.getD m 0) (p.getD (m - 1) 0) with
    | true =>
      rw [if_pos rfl]
      split
      · exact (desc_in f _ _ _ hr).2
      · exact (desc_in f _ _ _ h).2
    | false =>
      rw [if_neg Bool.false_ne_true]
      have e' : kRun lt (KasT.ask (p.getD (m - 1) 0) (p.getD m 0) fun d => if d = true then .ret (p, m, q) else kas_desc f p (m + 1) (q + 1)) = kRun lt (if lt (p.getD (m - 1) 0) (p.getD m 0) = true then .ret (p, m, q) else kas_desc f p (m + 1) (q + 1)) := rfl
      rw [e']
      cases lt (p.getD (m - 1) 0) (p.getD m 0) with
      | true => rw [if_pos rfl]; exact h
      | false => rw [if_neg Bool.false_ne_true]; exact (desc_in f _ _ _ h).2
theorem tail_in {p : Array Nat} {a b : Nat} (h : InN n p) : Asks lt n (kas_tail3 a b p) ∧ InN n (kRun lt (kas_tail3 a b p)).2 := by
  have hr : InN n (kas_rev p 0 a) := h.perm (rev_perm _ _ _)
  refine ⟨asks_bind (asc_in hr _ _) trivial, ?_⟩
  unfold kas_tail3
  rw [kRun_bind]
  exact hr
theorem descPart_in {p : Array Nat} {a b : Nat} (h : InN n p) : Asks lt n (kas_descPart a b p) ∧ InN n (kRun lt (kas_descPart a b p)).2 := by
  obtain ⟨d1, d2⟩ := desc_in (lt := lt) (b - (a + 1)) p (a + 1) 0 h
  unfold kas_descPart
  rw [kRun_bind]
  refine ⟨asks_bind d1 ?_, ?_⟩
  · exact asks_ite' (tail_in (d2.perm (rev_perm _ _ _))).1 (tail_in d2).1
  · split
    · exact (tail_in (d2.perm (rev_perm _ _ _))).2
    · exact (tail_in d2).2
theorem count_in {p : Array Nat} {b : Nat} (h : InN n p) : Asks lt n (kas_count b p) ∧ InN n (kRun lt (kas_count b p)).2 := by
  have hr : ∀ m, InN n (kas_rev p 0 m) := fun m => h.perm (rev_perm _ _ _)
  unfold kas_count
  rw [kRun_bind]
  generalize hm : kRun lt (kas_asc p (b - 1) 1) = m
  refine ⟨asks_bind (asc_in h _ _) ?_, ?_⟩
  · rw [hm]
    exact asks_ite' trivial (asks_ite' ⟨h.gt _, h.gt _, asks_ite trivial (descPart_in (hr m)).1⟩ (descPart_in h).1)
  · split
    · exact h
    · split
      · have e' : kRun lt (KasT.ask (p.getD 0 0) (p.getD (m - 1) 0) fun c => if c = true then .ret (m, p) else kas_descPart m b (kas_rev p 0 m)) = kRun lt (if lt (p.getD 0 0) (p.getD (m - 1) 0) = true then .ret (m, p) else kas_descPart m b (kas_rev p 0 m)) := rfl
        rw [e']
        cases lt (p.getD 0 0) (p.getD (m - 1) 0) with
        | true => rw [if_pos rfl]; exact h
        | false => rw [if_neg Bool.false_ne_true]; exact (descPart_in (hr m)).2
      · exact (descPart_in h).2
theorem place_in {p : Array Nat} {k : Nat} (h : InN n p) : ∀ f l r, Asks lt n (kas_place p k f l r)
  | 0, _, _ => trivial
  | f + 1, l, r => asks_ite' (t := .ret l) trivial ⟨h.gt _, h.gt _, asks_ite (place_in h f _ _) (place_in h f _ _)⟩
theorem bin_in : ∀ (f : Nat) (p : Array Nat) (k : Nat), InN n p → Asks lt n (kas_bin f p k)
  | 0, _, _, _ => trivial
  | f + 1, p, k, h => asks_bind (place_in h _ _ _) (bin_in f _ _ (h.perm (bubble_perm _ _ _)))
theorem sort_in (hn : 0 < n) : Asks lt n (kas_sort n) := by
  have h : InN n (List.toArray (List.range n)) := ⟨hn, fun x hx => by simpa using hx⟩
  obtain ⟨c1, c2⟩ := count_in (lt := lt) (b := n) h
  exact asks_bind c1 (asks_ite' (bin_in _ _ _ c2) trivial)
end
theorem kas_wp_run {α : Type} {lt : Nat → Nat → Bool} {n : Nat} {cmp : Nat → Nat → (Bool → Shared → Prop) → Shared → Prop} {Ok : Shared → Prop} (hc : ∀ i j C s, i < n → j < n → Ok s → (∀ s', Ok s' → C (lt i j) s') → cmp i j C s) {Q : α → Shared → Prop} :
    ∀ (t : KasT α) (s : Shared), Asks lt n t → Ok s → (∀ s', Ok s' → Q (kRun lt t) s') → t.kasWp cmp Q s
  | .ret a, s, _, ok, q => q s ok
  | .ask i j k, s, ⟨h1, h2, h3⟩, ok, q => hc i j _ s h1 h2 ok fun s' ok' => kas_wp_run hc (k (lt i j)) s' h3 ok' q
end L3
set_option Elab.async false
set_option linter.all false
set_option maxRecDepth 100000
set_option maxHeartbeats 4000000
namespace L3
open PySem PySem.Spec PyProof.Rows L2 PySem.SeqAt PySem.W
theorem lexLt_irr : ∀ a : List Int, HT.lexLt a a = false
  | [] => rfl
  | x :: xs => by rw [HT.lexLt_cons, if_pos rfl]; exact lexLt_irr xs
theorem lexLt_asym : ∀ a b : List Int, HT.lexLt a b = true → HT.lexLt b a = false
  | [], [], h => by cases h
  | [], _ :: _, _ => rfl
  | _ :: _, [], h => by cases h
  | x :: xs, y :: ys, h => by
    rw [HT.lexLt_cons] at h ⊢
    by_cases e : x = y
    · rw [if_pos e] at h
      rw [if_pos e.symm]
      exact lexLt_asym xs ys h
    · rw [if_neg e] at h
      rw [if_neg (Ne.symm e)]
      have := of_decide_eq_true h
      exact decide_eq_false (by omega)
theorem lexLt_tr : ∀ a b c : List Int, HT.lexLt b a = false → HT.lexLt c b = false → HT.lexLt c a = false
  | a, b, [], h1, h2 => by
    cases a with
    | nil => rfl
    | cons x xs =>
      cases b with
      | nil => cases h1
      | cons y ys => cases h2
  | a, [], z :: zs, h1, h2 => by
    cases a with
    | nil => rfl
    | cons x xs => cases h1
  | [], y :: ys, z :: zs, h1, h2 => rfl
  | x :: xs, y :: ys, z :: zs, h1, h2 => by
    rw [HT.lexLt_cons] at h1 h2 ⊢
    by_cases e1 : y = x
    · rw [if_pos e1] at h1
      by_cases e2 : z = y
      · rw [if_pos e2] at h2
        rw [if_pos (e2.trans e1)]
        exact lexLt_tr xs ys zs h1 h2
      · rw [if_neg e2] at h2
        have := of_decide_eq_false h2
        rw [if_neg (by omega)]
        exact decide_eq_false (by omega)
    · rw [if_neg e1] at h1
      have g1 := of_decide_eq_false h1
      by_cases e2 : z = y
      · rw [if_neg (by omega)]
        exact decide_eq_false (by omega)
      · rw [if_neg e2] at h2
        have g2 := of_decide_eq_false h2
        rw [if_neg (by omega)]
        exact decide_eq_false (by omega)
theorem lexLt_eq : ∀ a b : List Int, HT.lexLt a b = false → HT.lexLt b a = false → a = b
  | [], [], _, _ => rfl
  | [], _ :: _, h, _ => by cases h
  | _ :: _, [], _, h => by cases h
  | x :: xs, y :: ys, h1, h2 => by
    rw [HT.lexLt_cons] at h1 h2
    by_cases e : x = y
    · rw [if_pos e] at h1
      rw [if_pos e.symm] at h2
      rw [e, lexLt_eq xs ys h1 h2]
    · rw [if_neg e] at h1
      rw [if_neg (Ne.symm e)] at h2
      have g1 := of_decide_eq_false h1
      have g2 := of_decide_eq_false h2
      omega
theorem sorted_one {α : Type} {le : α → α → Prop} (anti : ∀ a b, le a b → le b a → a = b) : ∀ {xs ys : List α}, xs.Perm ys → xs.Pairwise le → ys.Pairwise le → (∀ a, le a a) → xs = ys
  | [], ys, p, _, _, _ => (List.nil_perm.mp p).symm
  | x :: xs, ys, p, h1, h2, rf => by
    cases ys with
    | nil => exact absurd (List.perm_nil.mp p) (by simp)
    | cons y ys =>
      have hx := List.pairwise_cons.mp h1
      have hy := List.pairwise_cons.mp h2
      have e : x = y := by
        have m1 : x ∈ y :: ys := p.mem_iff.mp List.mem_cons_self
        have m2 : y ∈ x :: xs := p.mem_iff.mpr List.mem_cons_self
        refine anti x y ?_ ?_
        · rcases List.mem_cons.mp m2 with z | z
          · rw [z]; exact rf x
          · exact hx.1 y z
        · rcases List.mem_cons.mp m1 with z | z
          · rw [z]; exact rf y
          · exact hy.1 x z
      subst e
      rw [sorted_one anti (List.perm_cons x |>.mp p) hx.2 hy.2 rf]
def leL (a b : List Int) : Bool := !HT.lexLt b a
def sortT (nss : List (List Int)) : List (List Int) := nss.mergeSort leL
theorem sortT_perm (nss : List (List Int)) : (sortT nss).Perm nss := List.mergeSort_perm nss leL
theorem sortT_up (nss : List (List Int)) : (sortT nss).Pairwise fun a b => HT.lexLt b a = false := by
  have h := List.pairwise_mergeSort (le := leL) (l := nss) (fun a b c h1 h2 => by
    unfold leL at h1 h2 ⊢
    simp only [Bool.not_eq_true'] at h1 h2 ⊢
    exact lexLt_tr a b c h1 h2) (fun a b => by
    unfold leL
    cases h : HT.lexLt b a with
    | false => rfl
    | true => rw [lexLt_asym b a h]; rfl)
  exact h.imp fun q => by
    unfold leL at q
    simpa using q
def sortI (ns : List Int) : List Int := ns.mergeSort fun a b => decide (a ≤ b)
theorem sortI_perm (ns : List Int) : (sortI ns).Perm ns := List.mergeSort_perm ns _
theorem sortI_up (ns : List Int) : (sortI ns).Pairwise (· ≤ ·) := by
  have h := List.pairwise_mergeSort (le := fun a b : Int => decide (a ≤ b)) (l := ns) (fun a b c h1 h2 => by
    have := of_decide_eq_true h1
    have := of_decide_eq_true h2
    exact decide_eq_true (by omega)) (fun a b => by
    by_cases h : a ≤ b
    · simp [h]
    · simp; omega)
  exact h.imp fun q => of_decide_eq_true q
section
variable {prog : Program} {w : World} {A : Around} {E : Value → Shared → Prop} {s : Shared}
theorem range_getD (vs : List Value) : (List.range vs.length).map (fun i => vs.getD i Value.none) = vs := by
  apply List.ext_getElem
  · simp
  · intro i h1 h2
    simp [List.getElem_map, h2]
theorem sort_gen {a : Addr} {vs : List Value} {n : Nat} {P : PySem.Fin → Shared → Prop} {κ : SortKind} {lt : Nat → Nat → Bool} (O : KOrd lt) (ho : s.heap.get? a = some (seqObj "list" vs.toArray n)) (h64 : vs.length < 64)
    (hk : 2 ≤ vs.length → ∀ h : Heap, (∀ b o, b ≠ a → s.heap.get? b = some o → h.get? b = some o) → ∀ Q : SortKind → Shared → Prop, Q κ { s with heap := h } → wpAny (model prog w) A (keyKind' vs.toArray) Q (fun _ _ => False) { s with heap := h })
    (hc : ∀ h : Heap, (∀ b o, b ≠ a → s.heap.get? b = some o → h.get? b = some o) → ∀ i j, i < vs.length → j < vs.length → ∀ C : Bool → Shared → Prop, C (lt i j) { s with heap := h } →
      wpAny (model prog w) A (keyLt' κ (vs.getD i Value.none) (vs.getD j Value.none)) C (fun _ _ => False) { s with heap := h })
    (fin : ∀ p : Array Nat, p.size = vs.length → p.Perm (List.toArray (List.range vs.length)) → Up lt p vs.length → P (.done (.ret .none)) { s with heap := sortedHeap s.heap a vs (List.toArray (p.toList.map fun i => vs.getD i Value.none)) }) :
    wpAny (model prog w) A (Builtin.«list.sort» ⟨[.ref a], []⟩) P E s := by
  rw [list_sort_plain]
  have hlt : a < s.heap.objs.size := Heap.lt_size ho
  have hzz : vs.toArray.size ≤ sizeLine := by rw [List.size_toArray, sizeLine_eq]; omega
  refine wpAny_bind (listItems_at ho rfl (wpAny_bind (listUpdate_at ho rfl ?_ hzz (Nat.zero_le _))))
  obtain ⟨e1, ho1⟩ : ∃ e1, (s.heap.update a (Obj.mapSeq fun _ => (#[] : Array Value))).get? a = some (seqObj "list" #[] e1) := ⟨_, get?_update_seq ho (fun _ => #[])⟩
  refine wpAny_bind (seqEpoch_at ho1 rfl (wpAny_bind (wpAny_newTuple (wpAny_bind (wpAny_newList (wpAny_holding ?_) (Nat.zero_le _))) (by show vs.length ≤ _; rw [sizeLine_eq]; omega))))
  generalize hS : ({ s with heap := ((s.heap.update a (Obj.mapSeq fun _ => (#[] : Array Value))).push (seqObj "tuple" vs.toArray 0)).push (seqObj "list" #[] 0) } : Shared) = S6
  have hh6 : S6.heap = ((s.heap.update a (Obj.mapSeq fun _ => (#[] : Array Value))).push (seqObj "tuple" vs.toArray 0)).push (seqObj "list" #[] 0) := by rw [← hS]
  have e6 : S6 = { s with heap := S6.heap } := by rw [← hS]
  have ho6 : S6.heap.get? a = some (seqObj "list" #[] e1) := by
    rw [hh6, Heap.get?_push_ne _ _ _ (by rw [size_push', Heap.size_update]; exact Nat.ne_of_lt (Nat.lt_succ_of_lt hlt)), Heap.get?_push_ne _ _ _ (by rw [Heap.size_update]; exact Nat.ne_of_lt hlt)]
    exact ho1
  have kept : ∀ b o, b ≠ a → s.heap.get? b = some o → S6.heap.get? b = some o := fun b o hb e => by
    rw [hh6]
    exact Heap.get?_push_of_some _ (Heap.get?_push_of_some _ ((Heap.get?_update_other _ _ (Ne.symm hb)).trans e))
  show wpAny (model prog w) A _ P E S6
  dsimp only
  have last : ∀ (st' : SortSt) (p : Array Nat), p.size = vs.length → p.Perm (List.toArray (List.range vs.length)) → Up lt p vs.length → (arrOf st').map (·.2) = List.toArray (p.toList.map fun i => vs.getD i Value.none) → failedOf st' = none →
      wpAny (model prog w) A (do
        let touched := (← seqEpoch a) != e1
        Builtin.List.listUpdate (.ref a) fun _ => (arrOf st').map (·.2)
        if let some e := failedOf st' then rule "list.sort.comparison-raised"; throw e
        if touched then rule "list.sort.modified"; raiseError "ValueError" "list modified during sort"
        ret .none) P E S6 := fun st' p h1 h2 h3 h4 h5 => by
    refine wpAny_bind (seqEpoch_at ho6 rfl ?_)
    refine wpAny_bind (listUpdate_at ho6 rfl ?_ (Nat.zero_le _) ?_)
    · rw [h5, h4]
      simp only [bne_self_eq_false, Bool.false_eq_true, if_false]
      have z := fin p h1 h2 h3
      unfold sortedHeap at z
      rw [← hh6] at z
      refine wpAny_pure ?_
      rw [e6]
      exact z
    · rw [h4]
      show (List.toArray (p.toList.map fun i => vs.getD i Value.none)).size ≤ sizeLine + 1
      rw [List.size_toArray, List.length_map, Array.length_toList, h1, sizeLine_eq]
      omega
  by_cases h2 : vs.toArray.size < 2
  · rw [if_pos h2, if_pos h2]
    refine wpAny_bind (wpAny_pure ?_)
    rw [StateT.run_pure]
    refine wpAny_bind (wpAny_pure ?_)
    dsimp only
    refine last (SortSt.mk' general' (vs.toArray.zip vs.toArray) #[] 7 none) (List.toArray (List.range vs.length)) (by simp) (Array.Perm.refl _) (fun i j hij hj => ?_) ?_ rfl
    · have : i = j := by rw [List.size_toArray] at h2; omega
      subst this
      exact O.irr _
    · rw [show (List.toArray (List.range vs.length)).toList = List.range vs.length from rfl, range_getD]
      apply Array.toList_inj.mp
      show ((vs.toArray.zip vs.toArray).map (·.2)).toList = vs
      apply List.ext_getElem
      · simp
      · intro i g1 g2
        simp
  · rw [if_neg h2, if_neg h2]
    have h2' : 2 ≤ vs.length := by rw [List.size_toArray] at h2; omega
    have zk := hk h2' S6.heap kept (fun κ' s' => κ' = κ ∧ s' = S6) ⟨rfl, e6.symm⟩
    rw [← e6] at zk
    refine wpAny_bind (wpAny_mono zk (fun κ' s' hq => ?_) fun _ _ x => x.elim)
    obtain ⟨hq1, hq2⟩ := hq
    rw [hq1, hq2]
    obtain ⟨p, ep, p1, p2, p3⟩ := sort_ok O (n := vs.length) (by omega)
    refine wpAny_bind (wpAny_mono (kat_run (ks := vs) (vs := vs) (Q := fun st' s' => ∃ q, q.size = vs.length ∧ arrOf st' = q.map (kas_item (vs.toArray.zip vs.toArray)) ∧ failedOf st' = none ∧ q = p ∧ s' = S6) rfl h2' h64 (fun q st' s' a1 a2 a3 a4 => ⟨q, a1, a2, a3, a4⟩)
      (kas_wp_run (lt := lt) (n := vs.length) (Ok := fun s' => s' = S6) (fun i j C s' hi hj hs hC => ?_) _ S6 (sort_in (by omega)) rfl (fun s' hs => ⟨ep, hs⟩))) ?_ fun _ _ e => e)
    · rw [hs]
      unfold kas_ask
      have z0 := hC S6 rfl
      rw [e6] at z0
      have z := hc S6.heap kept i j hi hj C z0
      rw [← e6] at z
      exact z
    · rintro ⟨⟨⟩, st'⟩ s' ⟨q, q1, q2, q3, hqp, hqs⟩
      rw [hqs]
      rw [hqp] at q2
      exact last st' p p1 p2 p3 (kat_snds rfl q2) q3
end
end L3
set_option Elab.async false
set_option linter.all false
set_option maxRecDepth 100000
set_option maxHeartbeats 4000000
namespace L3
open PySem PySem.Spec PyProof.Rows L2 PySem.SeqAt PySem.W
section
variable {prog : Program} {w : World} {A : Around} {E : Value → Shared → Prop} {s : Shared}
theorem gather_tup {l : Addr} {us : List Value} {Q : List Value → Shared → Prop} (ht : IsTup s.heap l us.toArray)
    (q : Q us { s with heap := (s.heap.push (seqObj "list" #[] 0)).update s.heap.objs.size (Obj.mapSeq (· ++ us.toArray)) }) (hz : us.length ≤ sizeLine) : wpAny (model prog w) A (collect (.ref l)) Q E s := by
  obtain ⟨ob, hob, hcl, n, hdt⟩ := id ht
  have hob2 : (s.heap.push (seqObj "list" #[] 0)).get? l = some ob := Heap.get?_push_of_some _ hob
  unfold collect
  refine wpAny_bind (wpAny_runValue (codeAny_builtin entry_proto_collect' (wpAny_bind (wpAny_newList (wpAny_pure ⟨Code.quiet_builtin _ (by decide +kernel), codeAny_builtin entry_list_iadd' ?_⟩)))))
  show wpAny _ _ (Builtin.List.listExtendWith (.ref s.heap.objs.size) (.ref l) (.ref s.heap.objs.size)) _ _ { s with heap := s.heap.push (seqObj "list" #[] 0) }
  unfold Builtin.List.listExtendWith
  refine wpAny_bind (wpAny_typeOf (T := "tuple") ⟨ob, hob2, hcl⟩ ?_)
  rw [if_pos (by rw [show (Value.type "tuple" == Value.type "tuple") = true by rfl]; simp)]
  refine wpAny_bind (listItems_at hob2 hdt (wpAny_bind (listItems_at (xs := #[]) (n := 0) (Heap.get?_push_size _ rfl) rfl ?_)))
  rw [if_neg (by simp)]
  refine wpAny_bind (listUpdate_at (xs := #[]) (n := 0) (Heap.get?_push_size _ rfl) rfl (wpAny_pure ?_) (Nat.zero_le _) (by show (#[] ++ us.toArray).size ≤ sizeLine + 1; simp only [Array.size_append, List.size_toArray, List.length_nil]; omega))
  refine wpAny_bind (wpAny_load (get?_update_seq (Heap.get?_push_size _ rfl) _) ?_)
  show wpAny _ _ (pure ((#[] : Array Value) ++ us.toArray).toList) Q E _
  rw [show ((#[] : Array Value) ++ us.toArray).toList = us by simp]
  exact wpAny_pure q
theorem sorted_gen {l : Addr} {us : List Value} {Q : Value → Shared → Prop} {κ : SortKind} {lt : Nat → Nat → Bool} (O : KOrd lt) (hl : s.heap.IsList l us.toArray ∨ IsTup s.heap l us.toArray) (h64 : us.length < 64)
    (hk : 2 ≤ us.length → ∀ h : Heap, (∀ b o, s.heap.get? b = some o → h.get? b = some o) → ∀ Q' : SortKind → Shared → Prop, Q' κ { s with heap := h } → wpAny (model prog w) A.in1.in1 (keyKind' us.toArray) Q' (fun _ _ => False) { s with heap := h })
    (hc : ∀ h : Heap, (∀ b o, s.heap.get? b = some o → h.get? b = some o) → ∀ i j, i < us.length → j < us.length → ∀ C : Bool → Shared → Prop, C (lt i j) { s with heap := h } →
      wpAny (model prog w) A.in1.in1 (keyLt' κ (us.getD i Value.none) (us.getD j Value.none)) C (fun _ _ => False) { s with heap := h })
    (fin : ∀ p : Array Nat, p.size = us.length → p.Perm (List.toArray (List.range us.length)) → Up lt p us.length → Q (.ref (s.heap.objs.size + 1)) { s with heap := sortedAll s.heap us (List.toArray (p.toList.map fun i => us.getD i Value.none)) }) :
    wpAny (model prog w) A (call (.builtin "sorted") [.ref l]) Q E s := by
  have hz : us.length ≤ sizeLine := by rw [sizeLine_eq]; omega
  have h1 : ((s.heap.push (seqObj "list" #[] 0)).update s.heap.objs.size (Obj.mapSeq (· ++ us.toArray))).objs.size = s.heap.objs.size + 1 := by rw [Heap.size_update, size_push']
  have h2 : (((s.heap.push (seqObj "list" #[] 0)).update s.heap.objs.size (Obj.mapSeq (· ++ us.toArray))).push (seqObj "list" us.toArray 0)).get? (s.heap.objs.size + 1) = some (seqObj "list" us.toArray 0) := by
    have e := Heap.get?_push_size ((s.heap.push (seqObj "list" #[] 0)).update s.heap.objs.size (Obj.mapSeq (· ++ us.toArray))) (o := seqObj "list" us.toArray 0) rfl
    rw [h1] at e
    exact e
  have h3 : ∀ b o, s.heap.get? b = some o → (((s.heap.push (seqObj "list" #[] 0)).update s.heap.objs.size (Obj.mapSeq (· ++ us.toArray))).push (seqObj "list" us.toArray 0)).get? b = some o := fun b o e =>
    Heap.get?_push_of_some _ ((Heap.get?_update_other _ _ (Ne.symm (Nat.ne_of_lt (Heap.lt_size e)))).trans (Heap.get?_push_of_some _ e))
  refine Calls.call_function_entry kind_sorted plain_sorted entry_sorted (args_sorted1 _) ?_
  unfold Builtin.«sorted»
  refine wpAny_bind (m := checkCount "sorted" 1 1 _) (wpAny_pure ?_)
  have col : ∀ {A' : Around} {E' : Value → Shared → Prop} {Q' : List Value → Shared → Prop}, Q' us { s with heap := (s.heap.push (seqObj "list" #[] 0)).update s.heap.objs.size (Obj.mapSeq (· ++ us.toArray)) } → wpAny (model prog w) A' (collect (.ref l)) Q' E' s := fun q => by
    rcases hl with hl | hl
    · exact collect_list hl q hz
    · exact gather_tup hl q hz
  refine wpAny_bind (col (wpAny_bind (wpAny_newList ?_ hz)))
  show wpAny _ _ _ _ _ { s with heap := ((s.heap.push (seqObj "list" #[] 0)).update s.heap.objs.size (Obj.mapSeq (· ++ us.toArray))).push (seqObj "list" us.toArray 0) }
  rw [h1]
  refine wpAny_bind (wpAny_holding (wpAny_call_entry slot_list_sort ⟨_, h2, rfl⟩ entry_list_sort (sort_gen (κ := κ) O h2 h64 (fun g2 h hkp Q' q' => hk g2 h (fun b o e => hkp b o (Nat.ne_of_lt (Nat.lt_succ_of_lt (Heap.lt_size e))) (h3 b o e)) Q' q')
    (fun h hkp i j hi hj C hC => hc h (fun b o e => hkp b o (Nat.ne_of_lt (Nat.lt_succ_of_lt (Heap.lt_size e))) (h3 b o e)) i j hi hj C hC) (fun p a1 a2 a3 => ⟨_, rfl, wpAny_pure ⟨_, rfl, fin p a1 a2 a3⟩⟩)) (args_list_sort _)))
theorem lex_ask {b : Bool} {Q : Bool → Shared → Prop} : ∀ {us ws : List Value} {ns ms : List Int}, IntsAre us ns → IntsAre ws ms → ∀ (i : Nat) (fin : Bool), fin = decide (ns.length < ms.length) → Q (HT.lexLt ns ms) s →
    KatLex prog w A b fin Q (us.zip ws) i s
  | _, _, _, _, .nil, .nil, i, fin, e, q => by
    subst e
    exact kat_nil q
  | _, _, _, _, .nil, .cons m t h, i, fin, e, q => by
    have e' : fin = true := by rw [e]; simp
    rw [e']
    exact kat_nil q
  | _, _, _, _, .cons n t h, .nil, i, fin, e, q => by
    have e' : fin = false := by rw [e]; simp
    rw [e']
    exact kat_nil q
  | _, _, _, _, .cons n t h, .cons m t' h', i, fin, e, q => by
    rw [List.zip_cons_cons]
    refine kat_cons (EqAt.int_int n t m t' prog w _ _ ?_)
    rw [HT.lexLt_cons] at q
    by_cases hnm : n = m
    · rw [show (n == m) = true by simpa using hnm]
      rw [if_pos hnm] at q
      exact kat_yes (lex_ask h h' (i + 1) fin (by rw [e]; simp) q)
    · rw [show (n == m) = false by simpa using hnm]
      rw [if_neg hnm] at q
      refine kat_no ?_
      cases (b && i == 0) with
      | true => exact oneLt_int q
      | false => exact kat_one _ _ (lt_int q)
end
def tupsOf : List D → Option (List (List Int))
  | [] => some []
  | .tup xs :: r => (match intsOf xs with | some (n :: ns) => (tupsOf r).map ((n :: ns) :: ·) | _ => none)
  | _ :: _ => none
theorem tupsOf_some : ∀ {ds : List D} {nss : List (List Int)}, tupsOf ds = some nss → ds = nss.map (fun ns => D.tup (ns.map D.int)) ∧ ∀ ns ∈ nss, ns ≠ []
  | [], nss, e => by cases e; exact ⟨rfl, fun _ h => by simp at h⟩
  | .tup xs :: r, nss, e => by
    unfold tupsOf at e
    split at e
    · rename_i n ns h1
      obtain ⟨mss, h2, rfl⟩ := Option.map_eq_some_iff.mp e
      obtain ⟨h3, h4⟩ := tupsOf_some h2
      refine ⟨by rw [h3, intsOf_some h1]; rfl, fun ms hm => ?_⟩
      rcases List.mem_cons.mp hm with z | z
      · rw [z]; simp
      · exact h4 ms z
    · cases e
  | .non :: r, _, e => by unfold tupsOf at e; cases e
  | .bl _ :: r, _, e => by unfold tupsOf at e; cases e
  | .str _ :: r, _, e => by unfold tupsOf at e; cases e
  | .int _ :: r, _, e => by unfold tupsOf at e; cases e
  | .lst _ :: r, _, e => by unfold tupsOf at e; cases e
theorem tupsOf_map : ∀ {nss : List (List Int)}, (∀ ns ∈ nss, ns ≠ []) → tupsOf (nss.map fun ns => D.tup (ns.map D.int)) = some nss
  | [], _ => rfl
  | ns :: nss, h => by
    cases ns with
    | nil => exact absurd rfl (h [] List.mem_cons_self)
    | cons n ns =>
      rw [List.map_cons, tupsOf, intsOf_map]
      dsimp only
      rw [tupsOf_map fun ms hm => h ms (List.mem_cons_of_mem _ hm)]
      rfl
def sortD (ds : List D) : Option (List D) := if ds.length < 64 then
    (match intsOf ds with
    | some ns => some ((sortI ns).map D.int)
    | none => (match tupsOf ds with | some nss => some ((sortT nss).map fun ns => D.tup (ns.map D.int)) | none => none))
  else none
section
variable {X : Cx}
theorem mapsN {α : Type} {p : Array Nat} {us : List α} {d : α} (hp : p.Perm (List.toArray (List.range us.length))) : (p.toList.map fun i => us.getD i d).Perm us := by
  have h1 : p.toList.Perm (List.range us.length) := Array.perm_iff_toList_perm.mp hp
  have h2 := h1.map (fun i => us.getD i d)
  have h3 : (List.range us.length).map (fun i => us.getD i d) = us := by
    apply List.ext_getElem
    · simp
    · intro i g1 g2
      simp [List.getElem_map, g2]
  rw [h3] at h2
  exact h2
theorem pickR {K : PySem.W.Frag} {H : Hp} {ds : List D} {xs : List V} (h : RepL K H ds xs) : ∀ is : List Nat, (∀ i ∈ is, i < ds.length) → RepL K H (is.map fun i => ds.getD i .non) (is.map fun i => xs.getD i .non)
  | [], _ => RepL.nil
  | i :: is, hi => by
    have h1 : i < ds.length := hi i List.mem_cons_self
    obtain ⟨v, e, r⟩ := h.get (List.getElem?_eq_getElem h1)
    rw [List.map_cons, List.map_cons]
    refine RepL.cons ?_ (pickR h is fun j hj => hi j (List.mem_cons_of_mem _ hj))
    rw [getD_at (List.getElem?_eq_getElem h1), getD_at e]
    exact r
theorem pickV {xs : List V} {us : List Value} (h : Vals xs us) : ∀ is : List Nat, (∀ i ∈ is, i < xs.length) → Vals (is.map fun i => xs.getD i .non) (is.map fun i => us.getD i Value.none)
  | [], _ => .nil
  | i :: is, hi => by
    have h1 : i < xs.length := hi i List.mem_cons_self
    obtain ⟨v, e, r⟩ := h.get (List.getElem?_eq_getElem h1)
    rw [List.map_cons, List.map_cons]
    refine .cons ?_ (pickV h is fun j hj => hi j (List.mem_cons_of_mem _ hj))
    rw [getD_at (List.getElem?_eq_getElem h1), getD_at e]
    exact r
theorem perm_lt {p : Array Nat} {n : Nat} (hp : p.Perm (List.toArray (List.range n))) : ∀ i ∈ p.toList, i < n := fun i hi => by
  have := (Array.perm_iff_toList_perm.mp hp).mem_iff.mp hi
  simpa using this
theorem up_pairwise {lt : Nat → Nat → Bool} {p : Array Nat} {n : Nat} (hz : p.size = n) (h : Up lt p n) : p.toList.Pairwise fun i j => lt j i = false := by
  rw [List.pairwise_iff_getElem]
  intro i j hi hj hij
  have hi' : i < p.size := by simpa using hi
  have hj' : j < p.size := by simpa using hj
  have e := h i j (Nat.le_of_lt hij) (by omega)
  unfold gt at e
  have e1 : p.getD i 0 = p.toList[i] := by simp [Array.getD, hi']
  have e2 : p.getD j 0 = p.toList[j] := by simp [Array.getD, hj']
  rw [e1, e2] at e
  exact e
end
end L3
set_option Elab.async false
set_option linter.all false
set_option maxRecDepth 100000
set_option maxHeartbeats 400000
namespace L3
open PySem PySem.Spec PyProof.Rows L2 PySem.SeqAt PySem.W
section
variable {X : Cx}
theorem kind_ints : ∀ {its : List Value} {ns : List Int}, IntsAre its ns → 2 ≤ its.length → keyKind' its.toArray = pure oneType'
  | [], _, _, h => absurd h (by simp)
  | [_], _, _, h => absurd h (by simp)
  | v1 :: v2 :: r, ns, hi, _ => keyKind_ints hi
theorem at_ints {its : List Value} {ns : List Int} (hi : IntsAre its ns) {i : Nat} (h : i < its.length) : ∃ t, its.getD i Value.none = .int (ns.getD i 0) t := by
  have hl := hi.length
  have h2 : i < ns.length := by omega
  obtain ⟨t, e⟩ := hi.get i ns[i] (List.getElem?_eq_getElem h2)
  exact ⟨t, by rw [getD_at e, getD_at (List.getElem?_eq_getElem h2)]⟩
theorem ord_ints (ns : List Int) : KOrd (fun i j => decide (ns.getD i 0 < ns.getD j 0)) :=
  ⟨fun i j h => by
    have := of_decide_eq_true h
    exact decide_eq_false (by omega), fun i j k h1 h2 => by
    have := of_decide_eq_false h1
    have := of_decide_eq_false h2
    exact decide_eq_false (by omega)⟩
theorem ord_tups (nss : List (List Int)) : KOrd (fun i j => HT.lexLt (nss.getD i []) (nss.getD j [])) :=
  ⟨fun i j h => lexLt_asym _ _ h, fun i j k h1 h2 => lexLt_tr _ _ _ h1 h2⟩
theorem out_ints {ns : List Int} {p : Array Nat} (p1 : p.size = ns.length) (p2 : p.Perm (List.toArray (List.range ns.length))) (p3 : Up (fun i j => decide (ns.getD i 0 < ns.getD j 0)) p ns.length) :
    (p.toList.map fun i => (ns.map D.int).getD i .non) = (sortI ns).map D.int := by
  have e : (p.toList.map fun i => (ns.map D.int).getD i .non) = (p.toList.map fun i => ns.getD i 0).map D.int := by
    rw [List.map_map]
    apply List.map_congr_left
    intro i hi
    have h2 : i < ns.length := perm_lt p2 i hi
    show (ns.map D.int).getD i .non = D.int (ns.getD i 0)
    rw [getD_at (x := D.int ns[i]) (by rw [List.getElem?_map, List.getElem?_eq_getElem h2]; rfl), getD_at (List.getElem?_eq_getElem h2)]
  rw [e]
  congr 1
  refine sorted_one (le := fun a b : Int => a ≤ b) (fun a b h1 h2 => by omega) ((mapsN p2).trans (sortI_perm ns).symm) ?_ (sortI_up ns) (fun a => Int.le_refl a)
  rw [List.pairwise_map]
  exact (up_pairwise p1 p3).imp fun h => by
    have := of_decide_eq_false h
    omega
theorem out_tups {nss : List (List Int)} {p : Array Nat} (p1 : p.size = nss.length) (p2 : p.Perm (List.toArray (List.range nss.length))) (p3 : Up (fun i j => HT.lexLt (nss.getD i []) (nss.getD j [])) p nss.length) :
    (p.toList.map fun i => (nss.map fun ns => D.tup (ns.map D.int)).getD i .non) = (sortT nss).map fun ns => D.tup (ns.map D.int) := by
  have e : (p.toList.map fun i => (nss.map fun ns => D.tup (ns.map D.int)).getD i .non) = (p.toList.map fun i => nss.getD i []).map fun ns => D.tup (ns.map D.int) := by
    rw [List.map_map]
    apply List.map_congr_left
    intro i hi
    have h2 : i < nss.length := perm_lt p2 i hi
    show (nss.map fun ns => D.tup (ns.map D.int)).getD i .non = D.tup ((nss.getD i []).map D.int)
    rw [getD_at (x := D.tup (nss[i].map D.int)) (by rw [List.getElem?_map, List.getElem?_eq_getElem h2]; rfl), getD_at (List.getElem?_eq_getElem h2)]
  rw [e]
  congr 1
  refine sorted_one (le := fun a b : List Int => HT.lexLt b a = false) (fun a b h1 h2 => lexLt_eq a b h2 h1) ((mapsN p2).trans (sortT_perm nss).symm) ?_ (sortT_up nss) (fun a => lexLt_irr a)
  rw [List.pairwise_map]
  exact (up_pairwise p1 p3).imp fun h => h
theorem tup_at {pins : List (Addr × Obj)} {σ : St} {H : Hp} {s : Shared} (I : Inv X pins σ H s) {ns : List Int} {x : V} {u : Value} (hr : Rep X.K H (D.tup (ns.map D.int)) x) (rv : RelV x u) :
    ∃ a o its n, u = .ref a ∧ s.heap.get? a = some o ∧ o.cls = .type "tuple" ∧ o.data = .seq its n ∧ IntsAre its.toList ns := by
  obtain ⟨a, xs, rfl, h1, h2⟩ := rep_tup.mp hr
  rw [repl_ints] at h2
  subst h2
  cases rv
  obtain ⟨its, r, p, _⟩ := I.tuple h1
  obtain ⟨o, ho, hc, n, hd⟩ := p
  exact ⟨a, o, its.toArray, n, rfl, ho, hc, hd, intsAre_of r⟩
theorem kat_of {pins : List (Addr × Obj)} {σ : St} {H : Hp} {s : Shared} (I : Inv X pins σ H s) {h : Heap} (hk : ∀ b o, s.heap.get? b = some o → h.get? b = some o) : ∀ {nss : List (List Int)} {us : List V} {its : List Value}, (∀ ns ∈ nss, ns ≠ []) →
    RepL X.K H (nss.map fun ns => D.tup (ns.map D.int)) us → Vals us its → ∃ fs, KatTups h its fs ∧ fs.length = its.length ∧ ∀ v ∈ fs, ∃ n t, v = Value.int n t
  | [], us, its, _, hr, rv => by
    rw [List.map_nil, repl_nil] at hr
    subst hr
    cases rv
    exact ⟨[], KatTups.nil, rfl, fun v hv => by simp at hv⟩
  | ns :: nss, us, its, hne, hr, rv => by
    rw [List.map_cons, repl_cons] at hr
    obtain ⟨x, xs, rfl, h1, h2⟩ := hr
    cases rv with
    | cons r1 r2 =>
      obtain ⟨fs, t1, t2, t3⟩ := kat_of I hk (fun ms hm => hne ms (List.mem_cons_of_mem _ hm)) h2 r2
      obtain ⟨a, o, js, n, rfl, ho, hc, hd, hi⟩ := tup_at I h1 r1
      cases ns with
      | nil => exact absurd rfl (hne [] List.mem_cons_self)
      | cons m ms =>
        obtain ⟨t, e⟩ := hi.get 0 m rfl
        have e' : js[0]? = some (Value.int m t) := by simpa using e
        refine ⟨Value.int m t :: fs, KatTups.cons (hk _ _ ho) hc hd e' t1, by simp [t2], fun v hv => ?_⟩
        rcases List.mem_cons.mp hv with z | z
        · exact ⟨m, t, z⟩
        · exact t3 v z
def rSort (K : PySem.W.Frag) : List V → Hp → VK → Prop := fun xs H Q => ∃ a us ds es Hh, xs = [.ref a] ∧ Same Hh H ∧ (SqL K H a us ∨ SqT K H a us) ∧ RepL K Hh ds us ∧ sortD ds = some es ∧ ∀ p ys, H p = none → RepL K Hh es ys → Q (.ref p) (upd H p (.lst ys))
theorem call_sorted : CallR X (.builtin "sorted") (rSort X.K) := by
  intro pins s σ H xs vs Q I r h
  obtain ⟨a, us, ds, es, Hh, rfl, sH, hq, hr0, hs, q⟩ := h
  have hr := hr0.mono sH
  obtain ⟨u, rfl, ru⟩ := vals1 r
  cases ru
  have src : ∃ its : List Value, Vals us its ∧ (s.heap.IsList a its.toArray ∨ IsTup s.heap a its.toArray) := by
    rcases hq with hq | hq
    · obtain ⟨its, rv, pl, _⟩ := I.list hq
      exact ⟨its, rv, .inl pl.isList⟩
    · obtain ⟨its, rv, pl, _⟩ := I.tuple hq
      exact ⟨its, rv, .inr pl⟩
  obtain ⟨its, rv, hl⟩ := src
  have l1 := hr.length
  have l2 := rv.length
  unfold sortD at hs
  split at hs
  · rename_i h64
    have fin : ∀ p : Array Nat, p.size = its.length → p.Perm (List.toArray (List.range its.length)) → (p.toList.map fun i => ds.getD i .non) = es →
        EP X pins σ Q (.ref (s.heap.objs.size + 1)) { s with heap := sortedAll s.heap its (List.toArray (p.toList.map fun i => its.getD i Value.none)) } := fun p p1 p2 p3 => by
      have pl : ∀ i ∈ p.toList, i < its.length := perm_lt p2
      have v1 : Vals (p.toList.map fun i => us.getD i .non) (p.toList.map fun i => its.getD i Value.none) := pickV rv _ fun i hi => by have := pl i hi; omega
      have v2 : RepL X.K Hh es (p.toList.map fun i => us.getD i .non) := by
        rw [← p3]
        exact pickR hr0 _ fun i hi => by have := pl i hi; omega
      obtain ⟨e, he⟩ := sortedAll_at s.heap its (List.toArray (p.toList.map fun i => its.getD i Value.none))
      have hfr : H (s.heap.objs.size + 1) = none := I.hok.fresh (Nat.le_succ _)
      refine ⟨.ref (s.heap.objs.size + 1), _, I.laid (t' := s.toks) (a := s.heap.objs.size + 1) (o := .lst (p.toList.map fun i => us.getD i .non)) (fun b o hb => sortedAll_old hb) (Nat.le_succ _) ?_, rfl, q _ _ hfr v2⟩
      refine ⟨?_, _, e, v1, he⟩
      rw [List.length_map, Array.length_toList, p1, sizeLine_eq]
      omega
    split at hs
    · rename_i ns hn
      cases hs
      have hd := intsOf_some hn
      subst hd
      have hus := repl_ints.mp hr
      subst hus
      have hi : IntsAre its ns := intsAre_of rv
      have hz : its.length = ns.length := hi.length
      refine sorted_gen (κ := oneType') (ord_ints ns) hl (by omega) (fun g2 h hkp Q' q' => ?_) (fun h hkp i j hi' hj' C hC => ?_) (fun p p1 p2 p3 => fin p p1 p2 (out_ints (by rw [p1, hz]) (by rw [← hz]; exact p2) (by rw [← hz]; exact p3)))
      · rw [kind_ints hi g2]
        exact wpAny_pure q'
      · obtain ⟨ti, ei⟩ := at_ints hi hi'
        obtain ⟨tj, ej⟩ := at_ints hi hj'
        rw [ei, ej, keyLt'_oneType]
        exact oneLt_int hC
    · split at hs
      · rename_i nss hn
        cases hs
        obtain ⟨hd, hne⟩ := tupsOf_some hn
        subst hd
        have hz : its.length = nss.length := by rw [← l2, ← l1, List.length_map]
        refine sorted_gen (κ := tuples' (Value.type "int" != Value.type "tuple")) (ord_tups nss) hl (by omega) (fun g2 h hkp Q' q' => ?_) (fun h hkp i j hi' hj' C hC => ?_) (fun p p1 p2 p3 => fin p p1 p2 (out_tups (by rw [p1, hz]) (by rw [← hz]; exact p2) (by rw [← hz]; exact p3)))
        · obtain ⟨fs, t1, t2, t3⟩ := kat_of I hkp hne hr rv
          refine kat_kind (s := { s with heap := h }) t1 (by omega) (fun v hv => ?_) rfl q'
          obtain ⟨n, t, rfl⟩ := t3 v hv
          exact Looks.of_pure rfl
        · have gi : i < nss.length := by omega
          have gj : j < nss.length := by omega
          obtain ⟨xi, e1, r1⟩ := hr.get (i := i) (d := D.tup (nss[i].map D.int)) (by rw [List.getElem?_map, List.getElem?_eq_getElem gi]; rfl)
          obtain ⟨xj, e2, r2⟩ := hr.get (i := j) (d := D.tup (nss[j].map D.int)) (by rw [List.getElem?_map, List.getElem?_eq_getElem gj]; rfl)
          obtain ⟨ui, f1, s1⟩ := rv.get e1
          obtain ⟨uj, f2, s2⟩ := rv.get e2
          obtain ⟨ai, oi, ji, ni, rfl, hoi, hci, hdi, ii⟩ := tup_at I r1 s1
          obtain ⟨aj, oj, jj, nj, rfl, hoj, hcj, hdj, ij⟩ := tup_at I r2 s2
          rw [getD_at f1, getD_at f2]
          rw [getD_at (List.getElem?_eq_getElem gi), getD_at (List.getElem?_eq_getElem gj)] at hC
          refine kat_lt (s := { s with heap := h }) (hkp _ _ hoi) hdi (hkp _ _ hoj) hdj (lex_ask ii ij 0 _ ?_ hC)
          have a1 := ii.length
          have a2 := ij.length
          rw [Array.length_toList] at a1 a2
          rw [a1, a2]
      · cases hs
  · cases hs
end
end L3
set_option Elab.async false
set_option linter.all false
set_option maxRecDepth 100000
set_option maxHeartbeats 4000000
namespace L3
open PySem PySem.Spec PyProof.Rows L2 PySem.SeqAt
def RdC (K : PySem.W.Frag) (r : List V → Hp → VK → Prop) (F : List D → Option D) : Prop :=
  ∀ ds d, F ds = some d → ∀ (Z : List Addr) (H : Hp) (vs : List V) (Q : VK), (∀ z ∈ Z, ∃ o, H z = some o) → RepL K (hide Z H) ds vs → (∀ w' H', Same H H' → Rep K (hide Z H') d w' → Q w' H') → r vs H Q
def RdQF (K : PySem.W.Frag) (r : List V → Hp → VK → Prop) (F : List D → Option (List D)) : Prop :=
  ∀ ds es, F ds = some es → ∀ (Z : List Addr) (H : Hp) (a : Addr) (xs : List V) (Q : VK), (∀ z ∈ Z, ∃ o, H z = some o) → (SqL K H a xs ∨ SqT K (hide Z H) a xs) → RepL K (hide Z H) ds xs →
    (∀ l ys H', Same H H' → H l = none → H' l = some (.lst ys) → RepL K (hide (l :: Z) H') es ys → Q (.ref l) H') → r [.ref a] H Q
def dQ (F : List D → Option D) (f : DEnv → Option (List D)) : DEnv → Option D := fun ρ => match f ρ with | some ds => F ds | none => none
def dQF (F : List D → Option (List D)) (f : DEnv → Option (List D)) : DEnv → Option (List D) := fun ρ => match f ρ with | some ds => F ds | none => none
section
variable {X : Cx} {x : Str} {p pos : Pos} {e : Expr} {es : List Expr} {id T : String} {r : List V → Hp → VK → Prop} {F : List D → Option D} {FL : List D → Option (List D)} {g f : DEnv → Option (List D)}
theorem callC_imp {K : PySem.W.Frag} (hr : RdC K r F) : ∀ σ H Q, tD K (dCall F g) σ H Q → tCB r (tL K g) σ H Q := fun σ H Q ⟨ρ, d, B, H0, V0, Z, e, r', q⟩ => by
  unfold dCall at e
  split at e
  · rename_i ds eds
    exact ⟨ρ, ds, B, H0, V0, Z, eds, r', fun vs H1 s1 rr => hr ds d e Z H1 vs Q (r'.mono s1).zs rr fun w' H' s rw' => q w' H' (s1.trans s) rw'⟩
  · cases e
theorem se_callB (hc : CallR X (.builtin id) r) (hr : RdC X.K r F) (hm : X.mg x = none) (hv : bootBuiltins x = some (.builtin id)) (ha : SA X (e :: es) g) (hg : Gl X x := by rfl) (hn : x ≠ "__name__" := by decide) (hdb : (x == ("__debug__" : Str)) = false := by decide)
    (he : starEach (e :: es) X.env = (false, eval e X.env) :: starEach es X.env := by exact star_of rfl) (hpl : (backTo pos (starEach es X.env)).any (·.1) = false := by exact back_of rfl) : SE X (.Call (.Name x p) (e :: es) [] pos) (dCall F g) :=
  pe_weak (pe_callB hc hg hm hv ha hn hdb he hpl) (callC_imp hr)
theorem callQF_imp {K : PySem.W.Frag} (hr : RdQF K r FL) : ∀ σ H Q, tF K (dQF FL f) σ H Q → tCB r (tCons (tQ K f) tNil) σ H Q := fun σ H Q ⟨ρ, d, B, H0, V0, Z, e, r', q⟩ => by
  unfold dQF at e
  split at e
  · rename_i ds eds
    exact ⟨ρ, ds, B, H0, V0, Z, eds, r', fun a xs H1 s1 hq rr => hr ds d e Z H1 a xs Q (r'.mono s1).zs hq rr fun l ys H' s hn hl rw' => q l ys H' (s1.trans s) (s1.free hn) hl rw'⟩
  · cases e
theorem sf_callQ (hc : CallR X (.builtin id) r) (hr : RdQF X.K r FL) (hm : X.mg x = none) (hv : bootBuiltins x = some (.builtin id)) (h : SQ X e f) (hg : Gl X x := by rfl) (hn : x ≠ "__name__" := by decide) (hdb : (x == ("__debug__" : Str)) = false := by decide)
    (he : starEach [e] X.env = (false, eval e X.env) :: starEach [] X.env := by exact star_of rfl) (hpl : (backTo pos (starEach [] X.env)).any (·.1) = false := by exact back_of rfl) : SF X (.Call (.Name x p) [e] [] pos) (dQF FL f) :=
  pe_weak (pe_callB hc hg hm hv (pa_cons h pa_nil he) hn hdb he hpl) (callQF_imp hr)
end
section
variable {X : Cx} {p pos : Pos} {e : Expr} {f : DEnv → Option (List D)}
theorem newer_of {Z : List Addr} {H : Hp} (zs : ∀ z ∈ Z, ∃ o, H z = some o) {l : Addr} (hl : H l = none) : l ∉ Z := fun z => by
  obtain ⟨o, ho⟩ := zs _ z
  rw [hl] at ho; cases ho
theorem rd_sorted {K : PySem.W.Frag} : RdQF K (rSort K) sortD := by
  intro ds es hs Z H a xs Q zs hq rr q
  refine ⟨a, xs, ds, es, hide Z H, rfl, hide_sub, hq.imp id (sqt_same hide_sub), rr, hs, fun l ys hl ry => ?_⟩
  exact q l ys _ (same_upd hl) hl upd_same (ry.mono (hide_laid hl (same_upd hl)))
theorem sf_sorted (hm : X.mg "sorted" = none) (h : SQ X e f) (hg : Gl X "sorted" := by rfl) (hv : bootBuiltins "sorted" = some (.builtin "sorted") := by decide +kernel)
    (he : starEach [e] X.env = (false, eval e X.env) :: starEach [] X.env := by exact star_of rfl) (hpl : (backTo pos (starEach [] X.env)).any (·.1) = false := by exact back_of rfl) : SF X (.Call (.Name "sorted" p) [e] [] pos) (dQF sortD f) :=
  sf_callQ call_sorted rd_sorted hm hv h hg (by decide) (by decide) he hpl
def rAll (K : PySem.W.Frag) : List V → Hp → VK → Prop := fun xs H Q => ∃ p, ∃ bs : List Bool, xs = [.ref p] ∧ SqL K H p (bs.map V.bl) ∧ Q (.bl (bs.all id)) H
theorem bools_of : ∀ {bs : List Bool} {us : List Value}, Vals (bs.map V.bl) us → LSm.BoolsAre us bs
  | [], _, .nil => .nil
  | b :: bs, _, .cons r t => by cases r; exact .cons _ (bools_of t)
theorem call_all (hc : X.calm = true) : CallR X (.builtin "all") (rAll X.K) := by
  intro pins s σ H xs us Q I r h
  obtain ⟨l, bs, rfl, hq, q⟩ := h
  obtain ⟨u, rfl, rx⟩ := vals1 r
  cases rx
  obtain ⟨vs, rv, pl, hz⟩ := I.list hq
  have hl := pl.isList
  have hb := bools_of rv
  have hlt : l < s.heap.objs.size := by obtain ⟨_, e, _⟩ := hl; exact Heap.lt_size e
  refine call_all_walk (wpAny_pyIter_list hl ?_)
  refine ⟨s.heap.objs.size, [s.heap.objs.size, l], [s.heap.objs.size], vs.toArray.size, _, _, fun i => (bs[i]?).getD true, rfl, Walks.list (A := X.A.in1) (I.ok.hd hc) _ l (Nat.ne_of_lt hlt) vs.toArray,
    ⟨⟨_, Heap.get?_push_size _ rfl, rfl, rfl⟩, hl.push _⟩, fun i v s' Q' E' hP hQ => ?_, fun h' tk hk => ?_⟩
  · obtain ⟨b, e, rfl⟩ := hb.get i v (by simpa using hP)
    simp only [e, Option.getD_some] at hQ
    exact wpAny_truthy_bool hQ
  · have e : ((List.range vs.toArray.size).all fun i => (bs[i]?).getD true) = bs.all id := by
      rw [List.size_toArray, hb.length]; exact LSm.range_all bs
    rw [e]
    exact ⟨.bl _, H, I.kept (LSm.kept_iter hk), rfl, q⟩
def blsOf : List D → Option (List Bool)
  | [] => some []
  | .bl b :: r => (blsOf r).map (b :: ·)
  | _ :: _ => none
theorem blsOf_some : ∀ {ds : List D} {bs : List Bool}, blsOf ds = some bs → ds = bs.map D.bl
  | [], bs, e => by cases e; rfl
  | .bl b :: r, bs, e => by
    unfold blsOf at e
    obtain ⟨cs, h1, rfl⟩ := Option.map_eq_some_iff.mp e
    rw [blsOf_some h1]; rfl
  | .int _ :: r, _, e => by unfold blsOf at e; cases e
  | .non :: r, _, e => by unfold blsOf at e; cases e
  | .str _ :: r, _, e => by unfold blsOf at e; cases e
  | .tup _ :: r, _, e => by unfold blsOf at e; cases e
  | .lst _ :: r, _, e => by unfold blsOf at e; cases e
  | .dct _ _ :: r, _, e => by unfold blsOf at e; cases e
theorem repl_bls {K : PySem.W.Frag} {H : Hp} : ∀ {bs : List Bool} {xs : List V}, RepL K H (bs.map D.bl) xs → xs = bs.map V.bl
  | [], xs, h => repl_nil.mp h
  | b :: bs, xs, h => by
    obtain ⟨v, vs, rfl, h1, h2⟩ := repl_cons.mp h
    rw [rep_bl.mp h1, repl_bls h2]; rfl
def dAll (f : DEnv → Option (List D)) : DEnv → Option D := fun ρ => match f ρ with | some ds => (match blsOf ds with | some bs => some (.bl (bs.all id)) | none => none) | none => none
theorem se_all (hc : X.calm = true) (hm : X.mg "all" = none) (h : SF X e f) (hg : Gl X "all" := by rfl) (hv : bootBuiltins "all" = some (.builtin "all") := by decide +kernel)
    (he : starEach [e] X.env = (false, eval e X.env) :: starEach [] X.env := by exact star_of rfl) (hpl : (backTo pos (starEach [] X.env)).any (·.1) = false := by exact back_of rfl) : SE X (.Call (.Name "all" p) [e] [] pos) (dAll f) :=
  pe_weak (pe_callB (call_all hc) hg hm hv (pa_cons h pa_nil he) (by decide) (by decide) he hpl) fun σ H Q ⟨ρ, d, B, H0, V0, Z, e, r, q⟩ => by
    unfold dAll at e
    split at e
    · rename_i ds eds
      split at e
      · rename_i bs hb
        cases e
        have := blsOf_some hb
        subst this
        refine ⟨ρ, _, B, H0, V0, Z, eds, r, fun a xs H' s hn ha rr => ⟨a, bs, rfl, ?_, q _ H' s (rep_bl.mpr rfl)⟩⟩
        rw [← repl_bls rr]
        exact SqL.of ha
      · cases e
    · cases e
def tyN : D → String
  | .non => "NoneType"
  | .bl _ => "bool"
  | .int _ => "int"
  | .str _ => "str"
  | .tup _ => "tuple"
  | .lst _ => "list"
  | .dct _ _ => "dict"
def isTy (T : String) (d : D) : Bool := tyN d == T || (T == "int" && tyN d == "bool")
def rIsi (K : PySem.W.Frag) (T : String) : List V → Hp → VK → Prop := fun xs H Q => ∃ x d, xs = [x, .ty T] ∧ Rep K H d x ∧ Q (.bl (isTy T d)) H
def Kit (T : String) : Prop := ∀ (K : PySem.W.Frag) (d : D), PySem.W.kitOne K (.type (tyN d)) (.type T) = some (isTy T d)
theorem kit_of {T : String} (h : ∀ K : PySem.W.Frag, PySem.W.kitOne K (.type "NoneType") (.type T) = some (isTy T .non) ∧ PySem.W.kitOne K (.type "bool") (.type T) = some (isTy T (.bl true)) ∧ PySem.W.kitOne K (.type "int") (.type T) = some (isTy T (.int 0)) ∧ PySem.W.kitOne K (.type "str") (.type T) = some (isTy T (.str ⟨#[]⟩)) ∧
    PySem.W.kitOne K (.type "tuple") (.type T) = some (isTy T (.tup [])) ∧ PySem.W.kitOne K (.type "list") (.type T) = some (isTy T (.lst [])) ∧ PySem.W.kitOne K (.type "dict") (.type T) = some (isTy T (.dct [] []))) : Kit T := fun K d => by
  obtain ⟨h1, h2, h3, h4, h5, h6, h7⟩ := h K
  cases d with
  | non => exact h1
  | bl _ => exact h2
  | int _ => exact h3
  | str _ => exact h4
  | tup _ => exact h5
  | lst _ => exact h6
  | dct _ _ => exact h7
theorem kit_int : Kit "int" := kit_of fun K => ⟨rfl, rfl, rfl, rfl, rfl, rfl, rfl⟩
theorem kit_bool : Kit "bool" := kit_of fun K => ⟨rfl, rfl, rfl, rfl, rfl, rfl, rfl⟩
theorem kit_tuple : Kit "tuple" := kit_of fun K => ⟨rfl, rfl, rfl, rfl, rfl, rfl, rfl⟩
theorem call_isi {T : String} (kt : Kit T) : CallR X (.builtin "isinstance") (rIsi X.K T) := by
  intro pins s σ H xs us Q I r h
  obtain ⟨x, d, rfl, hx, q⟩ := h
  obtain ⟨u, w', rfl, ru, rw'⟩ := vals2 r
  cases rw'
  have e := kt X.K d
  have fin : ∀ tk, EP X pins σ Q (.bool (isTy T d)) { s with toks := tk } := fun tk => ⟨.bl _, H, I.tok tk, rfl, q⟩
  cases d with
  | non => obtain rfl := rep_non.mp hx; cases ru; exact PySem.W.kia_one PySem.W.kitx_none I.kIn True.intro e (fun z => nomatch z) fin
  | bl b => obtain rfl := rep_bl.mp hx; cases ru; exact PySem.W.kia_one PySem.W.kitx_bool I.kIn True.intro e (fun z => nomatch z) fin
  | int i => obtain rfl := rep_int.mp hx; obtain ⟨t, rfl⟩ := ru; exact PySem.W.kia_one PySem.W.kitx_int I.kIn True.intro e (fun z => nomatch z) fin
  | str i => obtain rfl := rep_str.mp hx; obtain ⟨t, rfl⟩ := ru; exact PySem.W.kia_one PySem.W.kitx_str I.kIn True.intro e (fun z => nomatch z) fin
  | tup ds =>
    obtain ⟨a, ys, rfl, h1, _⟩ := rep_tup.mp hx
    cases ru
    obtain ⟨its, _, ⟨o, h1, h2, _⟩, _⟩ := I.tuple h1
    exact PySem.W.kia_one PySem.W.kitx_tuple I.kIn ⟨o, h1, h2⟩ e (fun z => nomatch z) fin
  | lst ds =>
    obtain ⟨a, ys, rfl, h1, _⟩ := rep_lst.mp hx
    cases ru
    obtain ⟨its, _, ⟨o, n, h1, h2, _⟩, _⟩ := I.list h1
    exact PySem.W.kia_one PySem.W.kitx_list I.kIn ⟨o, h1, h2⟩ e (fun z => nomatch z) fin
  | dct ks ds =>
    obtain ⟨a, kvs, rfl, h1, _⟩ := rep_dct.mp hx
    cases ru
    obtain ⟨o, h1, h2⟩ := dct_cls I h1
    exact PySem.W.kia_one PySem.W.kitx_dict I.kIn ⟨o, h1, h2⟩ e (fun z => nomatch z) fin
def dIsi (T : String) (f : DEnv → Option D) : DEnv → Option D := fun ρ => match f ρ with | some d => some (.bl (isTy T d)) | none => none
theorem se_isi {T : String} {x : Str} {p1 p2 : Pos} {fe : DEnv → Option D} (kt : Kit T) (hm : X.mg "isinstance" = none) (hmT : X.mg x = none) (h : SE X e fe) (hvT : bootBuiltins x = some (.type T)) (hg : Gl X "isinstance" := by rfl) (hgT : Gl X x := by rfl)
    (hv : bootBuiltins "isinstance" = some (.builtin "isinstance") := by decide +kernel) (hn : x ≠ "__name__" := by decide) (hdb : (x == ("__debug__" : Str)) = false := by decide)
    (he : starEach [e, .Name x p1] X.env = (false, eval e X.env) :: starEach [.Name x p1] X.env := by exact star_of rfl) (he2 : starEach [.Name x p1] X.env = (false, eval (.Name x p1) X.env) :: starEach [] X.env := by exact star_of rfl) (hpl : (backTo pos (starEach [.Name x p1] X.env)).any (·.1) = false := by exact back_of rfl) :
    SE X (.Call (.Name "isinstance" p2) [e, .Name x p1] [] pos) (dIsi T fe) :=
  pe_weak (pe_callB (call_isi kt) hg hm hv (pa_cons h (pa_cons (pe_bltn hgT hmT hvT (v := .ty T) rfl hn hdb) pa_nil he2) he) (by decide) (by decide) he hpl) fun σ H Q ⟨ρ, d, B, H0, V0, Z, e, r, q⟩ => by
    unfold dIsi at e
    split at e
    · rename_i d' ed
      cases e
      exact ⟨ρ, d', B, H0, V0, Z, ed, r, fun v H' s rr => ⟨v, d', rfl, rr.mono hide_sub, q _ H' s (rep_bl.mpr rfl)⟩⟩
    · cases e
end
end L3
set_option Elab.async false
set_option linter.all false
set_option maxRecDepth 100000
set_option maxHeartbeats 4000000
namespace L3
open PySem PySem.Spec PyProof.Rows L2 PySem.SeqAt
section
variable {X : Cx} {p p2 pos pos2 : Pos} {a b e : Expr} {f : DEnv → Option (List D)} {fa fb : DEnv → Option D}
def iUp (lo : Int) (n : Nat) : List Int := (List.range n).map fun (k : Nat) => lo + (k : Int)
def dListRng (f : DEnv → Option D) : DEnv → Option (List D) := fun ρ => match f ρ with | some (.int j) => if -(2 ^ 62) ≤ j ∧ j ≤ 100000 then some ((iUp 0 j.toNat).map D.int) else none | _ => none
def fMin : List D → Option D := fun ds => match ds with | [.int i, .int j] => some (.int (if j < i then j else i)) | _ => none
def fMax : List D → Option D := fun ds => match ds with | [.int i, .int j] => some (.int (if j > i then j else i)) | _ => none
theorem repl_two {K : PySem.W.Frag} {H : Hp} {d e : D} {xs : List V} (h : RepL K H [d, e] xs) : ∃ u v, xs = [u, v] ∧ Rep K H d u ∧ Rep K H e v := by
  obtain ⟨u, vs, rfl, h1, h2⟩ := repl_cons.mp h
  obtain ⟨v, ws, rfl, h3, h4⟩ := repl_cons.mp h2
  obtain rfl := repl_nil.mp h4
  exact ⟨u, v, rfl, h1, h3⟩
theorem rd_min {K : PySem.W.Frag} : RdC K (fun xs H Q => ∃ i j, xs = [.int i, .int j] ∧ Q (.int (if j < i then j else i)) H) fMin := by
  intro ds d e Z H vs Q zs rr q
  unfold fMin at e
  split at e
  · rename_i i j
    cases e
    obtain ⟨u, v, rfl, h1, h2⟩ := repl_two rr
    obtain rfl := rep_int.mp h1
    obtain rfl := rep_int.mp h2
    exact ⟨i, j, rfl, q _ H (Same.refl H) (rep_int.mpr rfl)⟩
  · cases e
theorem rd_max {K : PySem.W.Frag} : RdC K (fun xs H Q => ∃ i j, xs = [.int i, .int j] ∧ Q (.int (if j > i then j else i)) H) fMax := by
  intro ds d e Z H vs Q zs rr q
  unfold fMax at e
  split at e
  · rename_i i j
    cases e
    obtain ⟨u, v, rfl, h1, h2⟩ := repl_two rr
    obtain rfl := rep_int.mp h1
    obtain rfl := rep_int.mp h2
    exact ⟨i, j, rfl, q _ H (Same.refl H) (rep_int.mpr rfl)⟩
  · cases e
theorem se_min2 (hc : X.calm = true) (hm : X.mg "min" = none) (ha : SE X a fa) (hb : SE X b fb) (hg : Gl X "min" := by rfl) (hv : bootBuiltins "min" = some (.builtin "min") := by decide +kernel) (he : starEach [a, b] X.env = (false, eval a X.env) :: starEach [b] X.env := by exact star_of rfl) (he2 : starEach [b] X.env = (false, eval b X.env) :: starEach [] X.env := by exact star_of rfl)
    (hpl : (backTo pos (starEach [b] X.env)).any (·.1) = false := by exact back_of rfl) : SE X (.Call (.Name "min" p) [a, b] [] pos) (dCall fMin (dCons fa (dCons fb dNil))) :=
  se_callB (call_min2 hc) rd_min hm hv (sa_cons ha (sa_cons hb sa_nil he2) he) hg (by decide) (by decide) he hpl
theorem se_max2 (hc : X.calm = true) (hm : X.mg "max" = none) (ha : SE X a fa) (hb : SE X b fb) (hg : Gl X "max" := by rfl) (hv : bootBuiltins "max" = some (.builtin "max") := by decide +kernel) (he : starEach [a, b] X.env = (false, eval a X.env) :: starEach [b] X.env := by exact star_of rfl) (he2 : starEach [b] X.env = (false, eval b X.env) :: starEach [] X.env := by exact star_of rfl)
    (hpl : (backTo pos (starEach [b] X.env)).any (·.1) = false := by exact back_of rfl) : SE X (.Call (.Name "max" p) [a, b] [] pos) (dCall fMax (dCons fa (dCons fb dNil))) :=
  se_callB (call_max2 hc) rd_max hm hv (sa_cons ha (sa_cons hb sa_nil he2) he) hg (by decide) (by decide) he hpl
def dApp (i : Nat) (f : DEnv → Option D) : DEnv → Option Out := fun ρ => match dOwn i ρ with
  | some ds => (match f ρ with | some d => if ds.length < LIM then some (.nx (ρ.set i (some (.ow (ds ++ [d]))))) else none | none => none)
  | none => none
theorem ss_app {i : Nat} {x : Str} {p1 p2 p3 : Pos} (h : SE X a fa) (hN : X.N[i]? = some x := by rfl) (hv : Vis X.env.scope x := by first | exact Or.inl rfl | exact Or.inr (Or.inl rfl) | exact Or.inr (Or.inr rfl)) (hd : (x == ("__debug__" : Str)) = false := by decide)
    (hcd : (x == ("__classdict__" : Str)) = false := by decide) (hbase : attributeBase (.Name x p1) "append" X.env (eval (.Name x p1) X.env) = eval (.Name x p1) X.env := by rfl)
    (hfew : ((backTo p3 (starEach [a] X.env)).all (fun x => !x.1) && (backToKw p3 (keywordEach [] X.env)).all (fun x => x.1.isSome)
      && decide (([a] : List Expr).length + ([] : List Keyword).length + (if ([] : List Keyword).isEmpty then 0 else 1) < 30)) = true := by rfl)
    (hline : (p2.endLine == p3.line) = true := by rfl) (hs : starEach [a] X.env = (false, eval a X.env) :: starEach [] X.env := by exact star_of rfl) (hplain : (backTo p3 (starEach [] X.env)).any (·.1) = false := by exact back_of rfl)
    (hsw : swapsWith (.Call (.Attribute (.Name x p1) "append" p2) [a] [] p3) none pos.line X.env = pure false := by rfl) :
    SS X (.Expr (.Call (.Attribute (.Name x p1) "append" p2) [a] [] p3) pos) (dApp i fa) :=
  ps_weak (ps_expr (pe_bm PySem.F.plainAttrs_list PySem.F.slot_list_append PySem.F.type_list_append mt_append (pe_var hN hv hd hcd) (pa_cons h pa_nil hs) hbase hfew hline hs hplain) hsw) fun E σ H ⟨ρ, o, B, H0, V0, Z, e, r, q⟩ => by
    unfold dApp at e
    split at e
    · rename_i ds eds
      split at e
      · rename_i d ed
        split at e
        · rename_i hl
          cases e
          obtain ⟨n, xs, h1, h2, hb, h3, h4, h5⟩ := r.ow i ds (dOwn_some eds)
          refine ⟨.ref n, h1, .inl ⟨rfl, xs, SqL.of h4⟩, ρ, _, B, H0, V0, Z, ed, r, fun v H1 s1 r1 => ?_⟩
          have g5 := h5.mono (hide_same s1)
          refine ⟨n, xs, v, rfl, rfl, s1 _ _ h4, by rw [← h5.length]; exact lim_lt (Nat.le_of_lt hl), ?_⟩
          exact q σ _ Z ((r.mono s1).updO (dOwn_some eds) h1 (RepL.append g5 (RepL.one r1)))
        · cases e
      · cases e
    · cases e
end
end L3
set_option Elab.async false
set_option linter.all false
set_option maxRecDepth 100000
set_option maxHeartbeats 4000000
namespace L3
open PySem PySem.Spec PyProof.Rows L2 PySem.SeqAt
theorem noFill_tuple_mul : fillsNumberSlot (.type "tuple") "mul" = pure false :=
  PySem.fillsNumberSlot_seq (id := "tuple.__mul__") (r := some (.builtin "tuple.__rmul__")) F.slot_tuple_mul.lookup (by decide +kernel) F.slot_tuple_rmul.lookup (by decide +kernel)
theorem repeat_tuple : seqRepeat? (.type "tuple") = pure (some (.builtin "tuple.__mul__")) := by
  unfold seqRepeat?
  rw [PySem.seqSlot_of (T := "tuple") (name := "__mul__") (id := "tuple.__mul__") F.slot_tuple_mul.lookup (by decide +kernel), PySem.seqSlot_of (T := "tuple") (name := "__rmul__") (id := "tuple.__rmul__") F.slot_tuple_rmul.lookup (by decide +kernel)]
  rfl
theorem tuple_mul0 (l : Addr) (items : Array Value) (n : Nat) (dd : Option Addr) (sl : Array (Option Value)) (x : Int) (t : Tok) (h1 : (decide (x < -(2 ^ 63)) || decide (x ≥ 2 ^ 63)) = false) (h2 : (items.isEmpty || x == 1) = false) (h3 : (decide (x ≤ 0) || items.isEmpty) = true) (hz : ¬ (#[] : Array Value).size > sizeLine) :
    Meets (Builtin.«tuple.__mul__» ⟨[.ref l, .int x t], []⟩) (fun _ R s => s.heap.get? l = some { cls := .type "tuple", dict := dd, data := .seq items n, slots := sl } ∧ R (.ok (.ret (.ref s.heap.objs.size))) { s with heap := s.heap.push { cls := Value.type "tuple", data := Data.seq #[] } }) :=
  .of_wp fun prog w A R s h => by obtain ⟨hp, g, d, tk, os⟩ := s; obtain ⟨hl, h⟩ := h; wp_walk; refine wpAny_ite_false (decide_eq_false (by rw [h1]; exact Bool.false_ne_true)) ?_; wp_walk; exact ⟨_, rfl, h⟩
theorem tuple_mulN (l : Addr) (items : Array Value) (n : Nat) (dd : Option Addr) (sl : Array (Option Value)) (x : Int) (t : Tok) (h1 : (decide (x < -(2 ^ 63)) || decide (x ≥ 2 ^ 63)) = false) (h2 : (items.isEmpty || x == 1) = false) (h3 : (decide (x ≤ 0) || items.isEmpty) = false)
    (h4 : ¬ (items.size : Int) * x > (2 ^ 63 - 1) / 8) (h5 : Builtin.Tuple.tupleTooMany ((items.size : Int) * x) = false) (h6 : ¬ (List.foldl (fun x1 x2 => x1 ++ x2) #[] (List.replicate x.toNat items)).size > sizeLine) :
    Meets (Builtin.«tuple.__mul__» ⟨[.ref l, .int x t], []⟩) (fun _ R s => s.heap.get? l = some { cls := .type "tuple", dict := dd, data := .seq items n, slots := sl } ∧ R (.ok (.ret (.ref s.heap.objs.size))) { s with heap := s.heap.push { cls := Value.type "tuple", data := Data.seq (List.foldl (fun x1 x2 => x1 ++ x2) #[] (List.replicate x.toNat items)) } }) :=
  .of_wp fun prog w A R s h => by obtain ⟨hp, g, d, tk, os⟩ := s; obtain ⟨hl, h⟩ := h; wp_walk; refine wpAny_ite_false (decide_eq_false (by rw [h1]; exact Bool.false_ne_true)) ?_; wp_walk; refine wpAny_ite_false (decide_eq_false h4) ?_; wp_walk; exact ⟨_, rfl, h⟩
theorem int_rmul_tuple (a : Int) (t : Tok) (l : Addr) (items : Array Value) (n : Nat) (dd : Option Addr) (sl : Array (Option Value)) :
    Meets (Builtin.«int.__rmul__» ⟨[.int a t, .ref l], []⟩) (fun _ R s => s.heap.get? l = some { cls := .type "tuple", dict := dd, data := .seq items n, slots := sl } ∧ R (.ok (.ret Value.notImplemented)) s) :=
  .of_wp fun prog w A R s h => by obtain ⟨hp, g, d, tk, os⟩ := s; obtain ⟨hl, h⟩ := h; wp_walk; exact ⟨_, rfl, h⟩
theorem tuple_mul1 (l : Addr) (items : Array Value) (n : Nat) (dd : Option Addr) (sl : Array (Option Value)) (t : Tok) :
    Meets (Builtin.«tuple.__mul__» ⟨[.ref l, .int 1 t], []⟩) (fun _ R s => s.heap.get? l = some { cls := .type "tuple", dict := dd, data := .seq items n, slots := sl } ∧ R (.ok (.ret (.ref l))) s) :=
  .of_wp fun prog w A R s h => by obtain ⟨hp, g, d, tk, os⟩ := s; obtain ⟨hl, h⟩ := h; wp_walk; exact ⟨_, rfl, h⟩
def rRepT (K : PySem.W.Frag) : R2 := fun x y H Q => ∃ a k xs, x = .ref a ∧ y = .int k ∧ SqT K H a xs ∧ xs ≠ [] ∧ -(2 ^ 63) ≤ k ∧ k < 2 ^ 63 ∧ xs.length * k.toNat ≤ 1000000 ∧
  (k = 1 → Q (.ref a) H) ∧ (k ≠ 1 → ∀ p, H p = none → Q (.ref p) (upd H p (.tup (List.replicate k.toNat xs).flatten)))
section
variable {X : Cx}
theorem op_repT : OpR X (binaryOp .Mult) (rRepT X.K) := by
  intro pins s σ H x y v u Q I rx ry h
  obtain ⟨a, k, xs, rfl, rfl, ha, hne, h1, h2, hz, q1, q2⟩ := h
  cases rx
  obtain ⟨t, rfl⟩ := ry
  obtain ⟨its, r, p, _⟩ := I.tuple ha
  have hl := r.length
  obtain ⟨⟨cls, dd, data, sl⟩, ho, hc, n, hd⟩ := id p
  simp only at hc hd
  subst hc hd
  have hne' : its ≠ [] := fun z => hne (r.nil_iff.mp z)
  have he : its.toArray.isEmpty = false := by
    cases its with
    | nil => exact absurd rfl hne'
    | cons _ _ => rfl
  have b1 : (decide (k < -(2 ^ 63)) || decide (k ≥ 2 ^ 63)) = false := by
    rw [decide_eq_false (by omega), decide_eq_false (by omega)]; rfl
  refine wpAny_binaryOp_repeat_ref (T := "tuple") (U := "int") (by decide) ⟨_, ho, rfl⟩ (fun s' => typeIs_int s' k t) noFill_tuple_mul F.fills_int_mul F.slot_int_rmul repeat_tuple F.slot_int_index.lookup
    (call_meets F.slot_int_rmul (typeIs_int s k t) F.entry_int_rmul (F.args_int_rmul_2 _ _) (int_rmul_tuple k t a its.toArray n dd sl) ⟨ho, rfl, ⟨_, ho, rfl⟩, ?_⟩)
  by_cases hk : k = 1
  · subst hk
    exact call_meets F.slot_tuple_mul ⟨_, ho, rfl⟩ F.entry_tuple_mul (F.args_tuple_mul_2 _ _) (tuple_mul1 a its.toArray n dd sl t) ⟨ho, ⟨.ref a, H, I, rfl, q1 rfl⟩⟩
  · have b2 : (its.toArray.isEmpty || k == 1) = false := by rw [he, Bool.false_or]; exact beq_eq_false_iff_ne.mpr hk
    by_cases h0 : k ≤ 0
    · refine call_meets F.slot_tuple_mul ⟨_, ho, rfl⟩ F.entry_tuple_mul (F.args_tuple_mul_2 _ _) (tuple_mul0 a its.toArray n dd sl k t b1 b2 (by rw [decide_eq_true h0]; rfl) (by simp)) ⟨ho, ?_⟩
      have e0 : k.toNat = 0 := by omega
      have := q2 hk s.heap.objs.size I.fresh
      rw [e0] at this
      exact ⟨.ref _, _, I.laid (o := .tup []) (t' := s.toks) (fun b o e => Heap.get?_push_of_some _ e) (Nat.le_refl _) ⟨Nat.zero_le _, [], .nil, PTup.new _ _⟩, rfl, this⟩
    · have hsz : ((its.toArray.size : Nat) : Int) * k ≤ 1000000 := by
        rw [List.size_toArray, ← hl]
        have e1 : k = ((k.toNat : Nat) : Int) := by omega
        rw [e1]
        have : ((xs.length * k.toNat : Nat) : Int) ≤ 1000000 := Int.ofNat_le.mpr hz
        rw [Int.natCast_mul] at this
        exact this
      have f0 : List.foldl (fun x1 x2 => x1 ++ x2) #[] (List.replicate k.toNat its.toArray) = (List.replicate k.toNat its).flatten.toArray := by
        have := foldl_rep its k.toNat []
        rw [List.nil_append] at this
        exact this
      have hlen : (List.replicate k.toNat xs).flatten.length ≤ sizeLine := by
        rw [len_rep, Nat.mul_comm, sizeLine_eq]; omega
      refine call_meets F.slot_tuple_mul ⟨_, ho, rfl⟩ F.entry_tuple_mul (F.args_tuple_mul_2 _ _) (tuple_mulN a its.toArray n dd sl k t b1 b2 (by rw [decide_eq_false h0, he]; rfl) (by omega) (by unfold Builtin.Tuple.tupleTooMany; rw [sizeLine_eq]; exact decide_eq_false (by omega)) ?_) ⟨ho, ?_⟩
      · rw [f0, List.size_toArray, ← (r.rep k.toNat).length]
        omega
      · rw [f0]
        exact ⟨.ref _, _, I.laid (o := .tup (List.replicate k.toNat xs).flatten) (t' := s.toks) (fun b o e => Heap.get?_push_of_some _ e) (Nat.le_refl _) ⟨hlen, _, r.rep k.toNat, PTup.new _ _⟩, rfl, q2 hk _ I.fresh⟩
def dRepT : D → D → Option D := fun x y => match x, y with
  | .tup ds, .int k => if ds ≠ [] ∧ -(2 ^ 63) ≤ k ∧ k < 2 ^ 63 ∧ ds.length * k.toNat ≤ LIM then some (.tup (List.replicate k.toNat ds).flatten) else none
  | _, _ => none
theorem rd_repT {K : PySem.W.Frag} : RdOp K (rRepT K) dRepT := by
  intro x y d e Z H u v Q zs hx hy q
  unfold dRepT at e
  split at e
  · rename_i ds k
    split at e
    · rename_i hh
      obtain ⟨hne, h1, h2, hl⟩ := hh
      cases e
      obtain ⟨a, us, rfl, g1, g2⟩ := rep_tup.mp hx
      obtain rfl := rep_int.mp hy
      have hlen := g2.length
      refine ⟨a, k, us, rfl, rfl, sqt_same hide_sub g1, fun z => hne (List.eq_nil_of_length_eq_zero (by rw [hlen, z]; rfl)), h1, h2, by rw [← hlen]; unfold LIM at hl; omega, fun e1 => ?_, fun e1 p hp => ?_⟩
      · subst e1
        have : (List.replicate (1 : Int).toNat ds).flatten = ds := by simp
        rw [this] at q
        exact q _ H (Same.refl H) hx
      · have sn := same_upd (o := HO.tup (List.replicate k.toNat us).flatten) hp
        refine q _ _ sn (rep_tup.mpr ⟨p, _, rfl, SqT.of ?_, (g2.rep k.toNat).mono (hide_same sn)⟩)
        rw [hide_out (newer_of zs hp)]
        exact upd_same
    · cases e
  · cases e
def dMul : D → D → Option D := fun x y => match dMulI x y with | some d => some d | none => dRepT x y
variable {a b : Expr} {fa fb : DEnv → Option D} {pos : Pos}
theorem se_mul (ha : SE X a fa) (hb : SE X b fb) : SE X (.BinOp a .Mult b pos) (d2 dMul fa fb) := se_bin (op_mul.or op_repT) (RdOp.or rd_mul rd_repT) ha hb
end
def startD (N : List Str) (ds : List D) : DEnv := ds.map (fun d => some (Cell.sh d)) ++ List.replicate (N.length - ds.length) none
def outD : Option Out → Option D
  | some (.rt d) => some d
  | some (.nx _) => some .non
  | _ => none
theorem sr_start {K : PySem.W.Frag} {Z : List Addr} {H : Hp} {N : List Str} {ds : List D} {vs : List V} (zs : TB K H ∧ ∀ z ∈ Z, ∃ o, H z = some o) (rr : RepL K (hide Z H) ds vs) : SR K Z H (hide Z H) H Z (start N vs) (startD N ds) := by
  have hl := rr.length
  have get : ∀ {i : Nat} {c : Cell}, (startD N ds)[i]? = some (some c) → ∃ d, ds[i]? = some d ∧ c = .sh d := fun {i c} q => by
    unfold startD at q
    by_cases hi : i < ds.length
    · rw [List.getElem?_append_left (by simpa using hi), List.getElem?_map] at q
      cases e : ds[i]? with
      | none => rw [e] at q; cases q
      | some d => rw [e] at q; cases q; exact ⟨d, rfl, rfl⟩
    · rw [List.getElem?_append_right (by simpa using hi), List.getElem?_replicate] at q
      split at q <;> cases q
  refine ⟨Same.refl H, zs.1, fun _ _ h => h, fun b hb => hb, zs.2, fun i d q => ?_, fun i c q => ?_, fun i j c e a q1 q2 => ?_, ?_⟩
  · obtain ⟨d', e, z⟩ := get q
    cases z
    obtain ⟨v, e1, r1⟩ := rr.get e
    refine ⟨v, ?_, r1⟩
    have hi : i < vs.length := (List.getElem?_eq_some_iff.mp e1).1
    unfold L2.start
    rw [List.getElem?_append_left (by simpa using hi), List.getElem?_map, e1]
    rfl
  · obtain ⟨d', e, z⟩ := get q
    exact (sh_oc z.symm).elim
  · obtain ⟨d', e, z⟩ := get q1
    exact (sh_oc z.symm).elim
  · unfold L2.start startD
    rw [List.length_append, List.length_append, List.length_map, List.length_map, List.length_replicate, List.length_replicate, hl]
theorem fn_data {P : Program} {w : World} {K : PySem.W.Frag} {mg : Str → Option Value} {base : Heap} {x : Str} {st : Stmt} {f : Addr} {fd : FuncData} {N ps : List Str} {k : Nat} {g : DEnv → Option Out} {F : List D → Option D} (G : Fun K x x st f fd) (S : FnScope N ps (defScope st))
    (len : ∀ ds d, F ds = some d → ds.length = ps.length) (hF : ∀ ds d, F ds = some d → outD (g (startD N ds)) = some d)
    (hbody : ∀ (cdv : Value) (A : Around) (outer : List Env) (s : Shared) (H : Hp) (E : XK), Room k (A.deeper (envOfC x (defScope st) s.heap.objs.size f cdv)) →
      SSs (cxOf CX0 P w K mg base N x (defScope st) f cdv A outer s H E).nox (defBody st) g) : FnOk P w K mg base CX0 (k + 1) f fd ps (spD K F) := by
  refine G.ok S (fun vs H Q E h => ?_) fun cdv A outer s H vs Q E hr h => ?_
  · obtain ⟨Z, ds, d, zs, rr, e, q⟩ := h
    rw [← rr.length]
    exact len ds d e
  · obtain ⟨Z, ds, d, zs, rr, e, q⟩ := h
    have e2 := hF ds d e
    refine ⟨_, hbody cdv A outer s H E hr, ?_⟩
    cases ho : g (startD N ds) with
    | none => rw [ho] at e2; cases e2
    | some o =>
      refine ⟨startD N ds, o, Z, H, hide Z H, Z, ho, sr_start zs rr, ?_⟩
      rw [ho] at e2
      cases o with
      | rt d' => cases e2; exact fun v H' s' rv => q v H' s' rv
      | nx ρ => cases e2; exact fun σ H' Z' r' => q .non H' r'.same (rep_non.mpr rfl)
      | bk _ => cases e2
      | ct _ => cases e2
end L3
set_option Elab.async false
set_option linter.all false
set_option maxRecDepth 100000
set_option maxHeartbeats 1000000
namespace L3
open PySem PySem.Spec PyProof.Rows L2 PySem.SeqAt
def compOk (sc outer : Scope) (N : List Str) (cap : List (Option Nat)) (M : List Str) : Bool :=
  (sc.kind == .function) && (sc.names.all fun y => if y.2 == .cell then sc.names.lookup y.1 == some .cell else true) && (sc.names.all fun y => if y.2 == .local then sc.names.lookup y.1 == some .local else true) &&
  (sc.names.all fun y => if y.2 == .free then sc.names.lookup y.1 == some .free && (outer.names.lookup y.1 == some .cell || outer.names.lookup y.1 == some .free) else true) &&
  ((List.range cap.length).all fun i => match cap[i]? with | some (some j) => (match N[i]? with | some x => (match M[j]? with | some y => x == y && sc.names.lookup x == some .free | none => false) | none => false) | _ => true) &&
  (cap.length == N.length) && ((List.range cap.length).all fun i => (List.range cap.length).all fun j => match cap[i]? with | some (some k) => (match cap[j]? with | some (some k') => if k == k' then i == j else true | _ => true) | _ => true)
section
variable {X : Cx} {pos : Pos}
theorem sf_compB {elt target iter : Expr} {ifs : List Expr} {scope : Scope} {fi : DEnv → Option (List D)} {h : D → DEnv → Option DEnv} {ft : DEnv → Option Bool} {fe : DEnv → Option D} (N : List Str) (cap : List (Option Nat))
    (hc : X.calm = true) (hi : SIc X target iter fi)
    (hg : ∀ cl C fp s H, SG (compCx X N scope cl C fp s H) target h) (ht : ∀ cl C fp s H, PIfs (compCx X N scope cl C fp s H) ifs (tT X.K ft)) (he : ∀ cl C fp s H, SE (compCx X N scope cl C fp s H) elt fe)
    (hok : compOk scope X.env.scope N cap X.N = true := by rfl) (hs : ∀ x, foldedSetIterable iter X.env x = pure x := by intro _; rfl) :
    SF X (.ListComp elt [⟨target, iter, ifs, 0⟩] scope pos) (dComp cap fi h ft fe) := by
  unfold compOk at hok
  simp only [Bool.and_eq_true] at hok
  obtain ⟨⟨⟨⟨⟨⟨h1, h2⟩, h3⟩, h4⟩, h5⟩, h6⟩, h7⟩ := hok
  rw [List.all_eq_true] at h2 h3 h4 h5 h7
  refine sf_comp (N := N) (cap := cap) hc hi hg ht he (by simpa using h1) (fun y hy e => by have z := h2 y hy; rw [e] at z; simpa using z) (fun y hy e => ?_) (fun y hy e => ?_) (fun y hy e => ?_) (fun i j e => ?_) (by simpa using h6) (fun i j k e1 e2 => ?_) hs
  · have z := h3 y hy
    rw [e] at z
    simpa using z
  · have z := h4 y hy
    rw [e] at z
    simp only [beq_self_eq_true, if_true, Bool.and_eq_true] at z
    simpa using z.1
  · have z := h4 y hy
    rw [e] at z
    simp only [beq_self_eq_true, if_true, Bool.and_eq_true, Bool.or_eq_true] at z
    simpa using z.2
  · have hi' : i < cap.length := (List.getElem?_eq_some_iff.mp e).1
    have z := h5 i (List.mem_range.mpr hi')
    rw [e] at z
    dsimp only at z
    split at z
    · rename_i x hx
      split at z
      · rename_i y hy
        simp only [Bool.and_eq_true, beq_iff_eq] at z
        obtain ⟨z1, z2⟩ := z
        subst z1
        exact ⟨x, hx, hy, z2⟩
      · cases z
    · cases z
  · have hi' : i < cap.length := (List.getElem?_eq_some_iff.mp e1).1
    have hj' : j < cap.length := (List.getElem?_eq_some_iff.mp e2).1
    have z := h7 i (List.mem_range.mpr hi')
    rw [List.all_eq_true] at z
    have z2 := z j (List.mem_range.mpr hj')
    rw [e1, e2] at z2
    simpa using z2
theorem pifs0 : PIfs X [] (tT X.K dTrue) := fun pins s σ H Q I ⟨ρ, b, B, H0, V0, Z, e, r, q⟩ => by
  cases e
  exact pifs_nil pins s σ H Q I (q H (Same.refl H))
def tQL (K : PySem.W.Frag) (f : DEnv → Option (List D)) : TE := fun σ H Q => ∃ ρ ds B H0 V0 Z, f ρ = some ds ∧ SR K B H0 V0 H Z σ ρ ∧ ∀ a xs H', Same H H' → SqL K H' a xs → RepL K (hide Z H') ds xs → Q (.ref a) H'
abbrev SQL (X : Cx) (e : Expr) (f : DEnv → Option (List D)) : Prop := PE X e (tQL X.K f)
theorem ql_f {e : Expr} {f : DEnv → Option (List D)} (h : SF X e f) : SQL X e f :=
  pe_weak h fun σ H Q ⟨ρ, ds, B, H0, V0, Z, e, r, q⟩ =>
    ⟨ρ, ds, B, H0, V0, Z, e, r, fun a xs H' s hn ha hr => q a xs H' s (SqL.of ha) (hr.mono (hide_anti fun b hb => List.mem_cons_of_mem _ hb))⟩
theorem ql_of {e : Expr} {f : DEnv → Option D} (h : SE X e f) : SQL X e (dLstOf f) :=
  pe_weak h fun σ H Q ⟨ρ, ds, B, H0, V0, Z, e, r, q⟩ => by
    unfold dLstOf at e
    split at e
    · rename_i es he
      cases e
      refine ⟨ρ, _, B, H0, V0, Z, he, r, fun v H' s rr => ?_⟩
      obtain ⟨a, xs, rfl, h1, h2⟩ := rep_lst.mp rr
      exact q a xs H' s (hide_sub.seq h1) h2
    · cases e
theorem sf_cat {a b : Expr} {fa fb : DEnv → Option (List D)} (ha : SQL X a fa) (hb : SQL X b fb) : SF X (.BinOp a .Add b pos) (dCatF fa fb) :=
  pe_weak (pe_op op_catL ha hb) fun σ H Q ⟨ρ, ds, B, H0, V0, Z, e, r, q⟩ => by
    unfold dCatF at e
    split at e
    · rename_i xs ex
      split at e
      · rename_i ys ey
        split at e
        · rename_i hl
          cases e
          refine ⟨ρ, xs, B, H0, V0, Z, ex, r, fun n us H1 s1 hq1 r1 => ⟨ρ, ys, B, H0, V0, Z, ey, r.mono s1, fun m ws H2 s2 hq2 r2 => ⟨n, m, us, ws, rfl, rfl, s2.seq hq1, hq2, by rw [← r1.length, ← r2.length]; exact lim_le hl, fun l hl' => ?_⟩⟩⟩
          exact q l _ _ (s1.trans (s2.trans (same_upd hl'))) ((s1.trans s2).free hl') upd_same ((RepL.append (r1.mono (hide_same s2)) r2).mono (hide_laid hl' (same_upd hl')))
        · cases e
      · cases e
    · cases e
end
structure FnD (P : Program) (w : World) (K : PySem.W.Frag) (mg : Str → Option Value) (base : Heap) (k : Nat) (x : Str) (ps : List Str) (F : List D → Option D) : Prop where
  ex : ∃ f fd, FnOk P w K mg base CX0 k f fd ps (spD K F) ∧ mg x = some (.ref f) ∧ PySem.W.keepIn K (.ref f) = true ∧ Binds K fd ps []
theorem se_fn {X : Cx} {j k : Nat} {ps : List Str} {F : List D → Option D} {x : Str} {p pos : Pos} {e : Expr} {es : List Expr} {g : DEnv → Option (List D)} (G : FnD X.prog X.w X.K X.mg X.base j x ps F) (hr : Room k X.A) (ha : SA X (e :: es) g) (hjk : j ≤ k := by decide)
    (hg : Gl X x := by rfl) (hdb : (x == ("__debug__" : Str)) = false := by decide) (he : starEach (e :: es) X.env = (false, eval e X.env) :: starEach es X.env := by exact star_of rfl) (hpl : (backTo pos (starEach es X.env)).any (·.1) = false := by exact back_of rfl) :
    SE X (.Call (.Name x p) (e :: es) [] pos) (dCall F g) := by
  obtain ⟨f, fd, h1, h2, h3, h4⟩ := G.ex
  exact se_call h1 (hr.mono hjk) h2 h3 h4 ha hg hdb he hpl
structure Stands (K : PySem.W.Frag) (mg : Str → Option Value) (x : Str) (st : Stmt) : Prop where
  ex : ∃ f fd, Fun K x x st f fd ∧ mg x = some (.ref f)
theorem fn_stands {P : Program} {w : World} {K : PySem.W.Frag} {mg : Str → Option Value} {base : Heap} {x : Str} {st : Stmt} {N ps : List Str} {k : Nat} {g : DEnv → Option Out} {F : List D → Option D} (G : Stands K mg x st) (S : FnScope N ps (defScope st)) (len : ∀ ds d, F ds = some d → ds.length = ps.length)
    (hF : ∀ ds d, F ds = some d → outD (g (startD N ds)) = some d)
    (hb : ∀ (kV doc pm : Value) (an : Option Addr) (cdv ct : Value) (us : List Value), us.length = ps.length → bindArgs (PySem.W.fnOf x x (defArgs st) (defBody st) (defScope st) .none kV doc pm an cdv ct) ⟨us, []⟩ = pure (ps.zip us))
    (hbody : ∀ (f : Addr) (cdv : Value) (A : Around) (outer : List Env) (s : Shared) (H : Hp) (E : XK), Room k (A.deeper (envOfC x (defScope st) s.heap.objs.size f cdv)) →
      SSs (cxOf CX0 P w K mg base N x (defScope st) f cdv A outer s H E).nox (defBody st) g) : FnD P w K mg base (k + 1) x ps F := by
  obtain ⟨f, fd, G1, G2⟩ := G.ex
  exact ⟨f, fd, fn_data G1 S len hF (hbody f), G2, G1.kp, G1.binds hb⟩
end L3
set_option Elab.async false
set_option linter.all false
set_option maxRecDepth 100000
set_option maxHeartbeats 1000000
namespace L3
open PySem PySem.Spec PyProof.Rows L2 PySem.SeqAt
section
variable {X : Cx} {pos : Pos}
theorem SR.base {K : PySem.W.Frag} {B Z : List Addr} {H0 V0 H : Hp} {σ : St} {ρ : DEnv} (r : SR K B H0 V0 H Z σ ρ) {l : Addr} {o : HO} (hl : H l = some o) (hn : H0 l = none) (hno : ∀ (j : Nat) (es : OC) a, ρ[j]? = some (some es.cell) → σ[j]? = some (some (.ref a)) → a ≠ l) : SR K B (upd H0 l o) V0 H Z σ ρ :=
  ⟨fun b u e => by
      by_cases z : b = l
      · subst z; rw [upd_same] at e; cases e; exact hl
      · rw [upd_ne z] at e; exact r.same b u e,
    r.tb, r.vis, r.sub, r.zs, r.sh, fun j es hj => by
      obtain ⟨a, xs, t1, t2, tb, t3, t4, t5⟩ := r.own j es hj
      exact ⟨a, xs, t1, t2, tb, by rw [upd_ne (hno j es a hj t1)]; exact t3, t4, t5⟩, r.inj, r.len⟩
end
end L3
set_option Elab.async false
set_option linter.all false
set_option maxRecDepth 100000
set_option maxHeartbeats 1000000
namespace L3
open PySem PySem.Spec PyProof.Rows L2 PySem.SeqAt
section
variable {X : Cx} {pos p p2 pos2 : Pos} {a b c e tg : Expr} {fa fb fc f : DEnv → Option D}
theorem pi_or {w1 w2 : TI} (h1 : PI X tg e w1) (h2 : PI X tg e w2) : PI X tg e (fun σ H R => w1 σ H R ∨ w2 σ H R) := fun pins s σ H R I h => by
  rcases h with h | h
  · exact h1 pins s σ H R I h
  · exact h2 pins s σ H R I h
theorem si_seq (h : SE X e f) : SI X tg e (dSq f) := pi_weak (pi_or (si_lst h) (si_tup h)) fun σ H R ⟨ρ, ds, B, H0, V0, Z, e, r, q⟩ => by
  unfold dSq at e
  split at e
  · rename_i es he
    cases e
    exact .inl ⟨ρ, _, B, H0, V0, Z, by unfold dLstOf; rw [he], r, q⟩
  · rename_i es he
    cases e
    exact .inr ⟨ρ, _, B, H0, V0, Z, by unfold dTupOf; rw [he], r, q⟩
  · cases e
theorem st_lt (hu : X.A.units < cLine) (ha : SE X a fa) (hb : SE X b fb) : STt X (.Compare a [.Lt] [b] pos) (dTest (d2 dLt fa fb)) := st_cmp (op_lt.or (op_ltT hu)) (RdOp.or rd_bl0 rd_ltT) ha hb (nomark _)
end
theorem hide_nil {H : Hp} : hide [] H = H := by
  funext b
  unfold hide
  rw [if_neg (by simp)]
def dFn (n : Nat) (N : List Str) (g : DEnv → Option Out) : List D → Option D := fun ds => if ds.length = n then outD (g (startD N ds)) else none
theorem fn_d {P : Program} {w : World} {K : PySem.W.Frag} {mg : Str → Option Value} {base : Heap} {x : Str} {st : Stmt} {N ps : List Str} {k n : Nat} {g : DEnv → Option Out} (G : Stands K mg x st) (S : FnScope N ps (defScope st))
    (hb : ∀ (kV doc pm : Value) (an : Option Addr) (cdv ct : Value) (us : List Value), us.length = ps.length → bindArgs (PySem.W.fnOf x x (defArgs st) (defBody st) (defScope st) .none kV doc pm an cdv ct) ⟨us, []⟩ = pure (ps.zip us))
    (hn : ps.length = n)
    (hbody : ∀ (f : Addr) (cdv : Value) (A : Around) (outer : List Env) (s : Shared) (H : Hp) (E : XK), Room k (A.deeper (envOfC x (defScope st) s.heap.objs.size f cdv)) →
      SSs (cxOf CX0 P w K mg base N x (defScope st) f cdv A outer s H E).nox (defBody st) g) : FnD P w K mg base (k + 1) x ps (dFn n N g) :=
  fn_stands G S (fun ds d e => by
    unfold dFn at e
    split at e
    · rename_i h; rw [h, hn]
    · cases e) (fun ds d e => by
    unfold dFn at e
    split at e
    · exact e
    · cases e) hb hbody
end L3
set_option Elab.async false
set_option linter.all false
set_option maxRecDepth 100000
set_option maxHeartbeats 4000000
namespace L3
open PySem PySem.Spec PyProof.Rows L2 PySem.SeqAt
end L3
set_option Elab.async false
set_option linter.all false
set_option maxRecDepth 100000
namespace L2
open PySem PySem.Spec PyProof.Rows
section
variable {κ : Type} [DecidableEq κ]
def valV (kvs : List (κ × V)) (k : κ) : Option V := (kvs.find? fun kv => decide (kv.1 = k)).map (·.2)
def putK (kvs : List (κ × V)) (k : κ) (v : V) : List (κ × V) :=
  if (kvs.any fun kv => decide (kv.1 = k)) = true then kvs.map (fun kv => if kv.1 = k then (kv.1, v) else kv) else kvs ++ [(k, v)]
theorem RelO.getD {o : Option V} {u : Option Value} {d : V} {d' : Value} (r : RelO o u) (rd : RelV d d') : RelV (o.getD d) (u.getD d') := by
  cases o with
  | none => cases u with
    | none => exact rd
    | some _ => exact (show False from r).elim
  | some _ => cases u with
    | none => exact (show False from r).elim
    | some _ => exact r
theorem KV.any {kvs : List (κ × V)} {vs : List (κ × Value)} (r : KV kvs vs) (k : κ) : (kvs.any fun kv => decide (kv.1 = k)) = vs.any fun kv => decide (kv.1 = k) := by
  unfold KV at r
  induction r with
  | nil => rfl
  | cons h t ih => rw [List.any_cons, List.any_cons, ih, h.1]
theorem KV.length {kvs : List (κ × V)} {vs : List (κ × Value)} (r : KV kvs vs) : kvs.length = vs.length := Paired.length r
end
def DGet (H : Hp) (a : Addr) (y : V) (r : Option V) : Prop :=
  (∃ kvs k, Rd H a (.dK kvs) ∧ y = kV k ∧ r = valV kvs k) ∨ ∃ kvs k b, Rd H a (.dT kvs) ∧ y = .ref b ∧ H b = some (.tup (k.map kV)) ∧ r = valV kvs k
def DPut (H : Hp) (a : Addr) (y v : V) (H' : Hp) : Prop :=
  (∃ kvs k, H a = some (.dK kvs) ∧ y = kV k ∧ kvs.length < sizeLine ∧ H' = upd H a (.dK (putK kvs k v))) ∨
  ∃ kvs k b, H a = some (.dT kvs) ∧ y = .ref b ∧ H b = some (.tup (k.map kV)) ∧ kvs.length < sizeLine ∧ H' = upd H a (.dT (putK kvs k v))
theorem DGet.k {H : Hp} {a : Addr} {kvs : List (Key × V)} {k : Key} (e : H a = some (.dK kvs)) : DGet H a (kV k) (valV kvs k) := .inl ⟨kvs, k, .inl e, rfl, rfl⟩
theorem DGet.t {H : Hp} {a b : Addr} {kvs : List (List Key × V)} {k : List Key} (e : H a = some (.dT kvs)) (eb : H b = some (.tup (k.map kV))) : DGet H a (.ref b) (valV kvs k) := .inr ⟨kvs, k, b, .inl e, rfl, eb, rfl⟩
theorem DPut.k {H : Hp} {a : Addr} {kvs : List (Key × V)} {k : Key} {v : V} (e : H a = some (.dK kvs)) (hl : kvs.length < sizeLine) : DPut H a (kV k) v (upd H a (.dK (putK kvs k v))) := .inl ⟨kvs, k, e, rfl, hl, rfl⟩
theorem DPut.t {H : Hp} {a b : Addr} {kvs : List (List Key × V)} {k : List Key} {v : V} (e : H a = some (.dT kvs)) (eb : H b = some (.tup (k.map kV))) (hl : kvs.length < sizeLine) :
    DPut H a (.ref b) v (upd H a (.dT (putK kvs k v))) := .inr ⟨kvs, k, b, e, rfl, eb, hl, rfl⟩
end L2
set_option Elab.async false
set_option linter.all false
set_option maxRecDepth 100000
set_option maxHeartbeats 4000000
namespace L3
open PySem PySem.Spec PyProof.Rows L2 PySem.SeqAt
end L3
set_option Elab.async false
set_option linter.all false
set_option maxRecDepth 100000
set_option maxHeartbeats 4000000
namespace L3
open PySem PySem.Spec PyProof.Rows L2 PySem.SeqAt
section
variable {prog : Program} {w : World} {A : Around} {E : Value → Shared → Prop} {s : Shared} {R : Result → Shared → Prop}
def Kp (it S : Addr) (h h' : Heap) : Prop := ∀ b o, b ≠ it → b ≠ S → h.get? b = some o → h'.get? b = some o
theorem Kp.trans {it S : Addr} {h h1 h2 : Heap} (a : Kp it S h h1) (b : Kp it S h1 h2) : Kp it S h h2 := fun c o n1 n2 e => b c o n1 n2 (a c o n1 n2 e)
end
end L3
set_option Elab.async false
set_option linter.all false
set_option maxRecDepth 100000
set_option maxHeartbeats 4000000
namespace L3
open PySem PySem.Spec PyProof.Rows L2 PySem.SeqAt
section
open HT
open PySem.SeqAt
open PySem.AutoSeq1 (wpAny_loadPart')
open PySem.MeetsSeq PySem.MeetsSeq2 PySem.MeetsSeq3
end
end L3
set_option Elab.async false
set_option linter.all false
set_option maxRecDepth 100000
set_option maxHeartbeats 4000000
namespace L3
open PySem PySem.Spec PyProof.Rows L2 PySem.SeqAt
end L3
set_option Elab.async false
set_option linter.all false
set_option maxRecDepth 100000
set_option maxHeartbeats 4000000
namespace L3
open PySem PySem.Spec PyProof.Rows L2 PySem.SeqAt
end L3
set_option Elab.async false
set_option linter.all false
set_option maxRecDepth 100000
set_option maxHeartbeats 200000
namespace L3
open PySem PySem.Spec PyProof.Rows L2 PySem.SeqAt PySem.W
end L3
set_option Elab.async false
set_option linter.all false
set_option maxRecDepth 100000
set_option maxHeartbeats 4000000
namespace L3
open PySem PySem.Spec PyProof.Rows L2 PySem.SeqAt
end L3
set_option Elab.async false
set_option linter.all false
set_option maxRecDepth 100000
set_option maxHeartbeats 4000000
namespace L3
open PySem PySem.Spec PyProof.Rows L2 PySem.SeqAt
end L3
set_option Elab.async false
set_option linter.all false
set_option maxRecDepth 100000
set_option maxHeartbeats 4000000
namespace L3
open PySem PySem.Spec PyProof.Rows L2
end L3
set_option Elab.async false
set_option linter.all false
set_option maxRecDepth 100000
set_option maxHeartbeats 4000000
namespace HT
open PySem PyProof.Rows
end HT
namespace L3
open PySem PySem.Spec PyProof.Rows L2 PySem.SeqAt
end L3
set_option Elab.async false
set_option linter.all false
set_option maxRecDepth 100000
set_option maxHeartbeats 4000000
namespace L3
open PySem PySem.Spec PyProof.Rows L2
end L3
set_option Elab.async false
set_option linter.all false
set_option maxRecDepth 100000
set_option maxHeartbeats 4000000
namespace L3
open PySem PySem.Spec PyProof.Rows L2 PySem.SeqAt PySem.W
end L3
set_option Elab.async false
set_option linter.all false
set_option maxRecDepth 100000
set_option maxHeartbeats 4000000
namespace L3
open PySem PySem.Spec PyProof.Rows L2 PySem.SeqAt PySem.W
end L3
set_option Elab.async false
set_option linter.all false
set_option maxRecDepth 100000
set_option maxHeartbeats 4000000
namespace L3
open PySem PySem.Spec PyProof.Rows L2 PySem.SeqAt PySem.W
end L3
set_option Elab.async false
set_option linter.all false
set_option maxRecDepth 100000
set_option maxHeartbeats 4000000
namespace L3
open PySem PySem.Spec PyProof.Rows L2 PySem.SeqAt PySem.W
end L3
set_option Elab.async false
set_option linter.all false
set_option maxRecDepth 100000
set_option maxHeartbeats 4000000
namespace L3
open PySem PySem.Spec PyProof.Rows L2 PySem.SeqAt PySem.W
end L3
set_option Elab.async false
set_option linter.all false
set_option maxRecDepth 100000
set_option maxHeartbeats 4000000
namespace L3
open PySem PySem.Spec PyProof.Rows L2
end L3
set_option Elab.async false
set_option linter.all false
set_option maxRecDepth 100000
set_option maxHeartbeats 4000000
namespace L3
open PySem PySem.Spec PyProof.Rows L2
end L3
set_option Elab.async false
set_option linter.all false
set_option maxRecDepth 100000
set_option maxHeartbeats 4000000
namespace L3
open PySem PySem.Spec PyProof.Rows L2
end L3
set_option Elab.async false
set_option linter.all false
set_option maxRecDepth 100000
set_option maxHeartbeats 4000000
namespace L3
open PySem PySem.Spec PyProof.Rows L2
end L3
set_option Elab.async false
set_option linter.all false
set_option maxRecDepth 100000
set_option maxHeartbeats 4000000
namespace L3
open PySem PySem.Spec PyProof.Rows L2
end L3
set_option Elab.async false
set_option linter.all false
set_option maxRecDepth 100000
set_option maxHeartbeats 4000000
namespace L3
open PySem PySem.Spec PyProof.Rows L2
end L3
set_option Elab.async false
set_option linter.all false
set_option maxRecDepth 100000
set_option maxHeartbeats 4000000
namespace L3
open PySem PySem.Spec PyProof.Rows L2 PySem.SeqAt
end L3
set_option Elab.async false
set_option linter.all false
set_option maxRecDepth 100000
set_option maxHeartbeats 4000000
namespace L3
open PySem PySem.Spec PyProof.Rows L2
theorem mem_look {α : Type} {a : Addr} {b : α} : ∀ {l : List (Addr × α)}, l.lookup a = some b → (a, b) ∈ l
  | [], h => by cases h
  | (k, v) :: l, h => by
    rw [List.lookup_cons] at h
    cases hk : a == k with
    | true =>
      rw [hk] at h
      have e : a = k := by simpa using hk
      cases h
      rw [e]
      exact List.mem_cons_self
    | false =>
      rw [hk] at h
      exact List.mem_cons_of_mem _ (mem_look h)
def tabsOk (K : PySem.W.Frag) (ts : List (Addr × Str)) : Bool :=
  (K.all fun co => match co.2 with
    | ⟨.type "code", _, .fields vs, _⟩ => (match (vs[11]? : Option Value) with
      | some (.ref P) => (K.lookup P).isSome || !lamCode vs || (match (vs[1]? : Option Value) with | some (.str q _) => (match ts.lookup P with | some q' => q == q' | none => false) | _ => false)
      | _ => true)
    | _ => true) && (ts.all fun pq => (K.lookup pq.1).isNone && K.any fun co => PySem.W.codeHdIn K co.1 pq.1)
theorem tabsOk_tb {K : PySem.W.Frag} {ts : List (Addr × Str)} (h : tabsOk K ts = true) {H : Hp} (hH : ∀ P q, ts.lookup P = some q → H P = some (.tbl #[.str q 0])) : TB K H := fun c o vs P h1 h2 h3 h4 h5 h5' => by
  unfold tabsOk at h
  rw [Bool.and_eq_true] at h
  have h6 := List.all_eq_true.mp h.1 (c, o) (mem_look h1)
  obtain ⟨cls, dict, data, sl⟩ := o
  simp only at h2 h3
  subst h2
  subst h3
  have h6 : (match (vs[11]? : Option Value) with
      | some (.ref P) => (K.lookup P).isSome || !lamCode vs || (match (vs[1]? : Option Value) with | some (.str q _) => (match ts.lookup P with | some q' => q == q' | none => false) | _ => false)
      | _ => true) = true := h6
  rw [h4] at h6
  dsimp only at h6
  rw [h5, h5'] at h6
  simp only [Option.isSome_none, Bool.false_or, Bool.not_true] at h6
  split at h6
  · rename_i q t hq
    split at h6
    · rename_i q' hq'
      have e : q = q' := by simpa using h6
      subst e
      exact ⟨q, t, hq, hH P q hq'⟩
    · cases h6
  · cases h6
theorem tabsOk_at {K : PySem.W.Frag} {ts : List (Addr × Str)} (h : tabsOk K ts = true) {P : Addr} {q : Str} (e : ts.lookup P = some q) : K.lookup P = none ∧ ∃ c, PySem.W.codeHdIn K c P = true := by
  unfold tabsOk at h
  rw [Bool.and_eq_true] at h
  have h6 := List.all_eq_true.mp h.2 (P, q) (mem_look e)
  rw [Bool.and_eq_true] at h6
  obtain ⟨co, _, hc⟩ := List.any_eq_true.mp h6.2
  exact ⟨by simpa using h6.1, co.1, hc⟩
theorem law_callT {P : Program} {w : World} {K : PySem.W.Frag} {mg mb : Str → Option Value} {k : Nat} {fa a : Addr} {fd : FuncData} {x : Str} {sp : Sp} {s₁ : Shared} {vs : List Value} {ns : List Int} {ts : List (Addr × Str)}
    (KX : K.In s₁.heap) (hns : s₁.heap.Ns mainGlobals mg) (hb : s₁.heap.Ns builtinsNs mb) (hbb : ∀ x : Str, x ≠ "__name__" → mb x = bootBuiltins x) (hlim : s₁.heap.NoLimit) (hbm : ∃ bm ob, mg "__builtins__" = some (.ref bm) ∧ bm ≠ builtinsNs ∧ s₁.heap.get? bm = some ob ∧ ob.cls = .type "module" ∧ ob.dict = some builtinsNs ∧ ob.data = .plain) (hg : s₁.gens = #[])
    (ha : s₁.heap.get? a = some { cls := .type "list", data := .seq vs.toArray }) (hi : IntsAre vs ns) (hl : ns.length ≤ sizeLine) (hr : Room k callerA) (hts : tabsOk K ts = true) (htt : ∀ P q, ts.lookup P = some q → s₁.heap.get? P = some { cls := .none, data := .fields #[] })
    (F : ∀ base : Heap, K.In base → base.Ns mainGlobals mg → FnOk P w K mg base CX0 k fa fd [x] sp) (hbind : ∀ (s : Shared) (u : Value), BindsTo s fd ⟨[u], []⟩ [(x, u)])
    (hsp : ∀ H : Hp, TB K H → SqL K H a (ns.map V.int) → sp [.ref a] H (fun v _ => v = .bl true) fun _ _ _ => False) :
    codeAny (model P w) callerA (.call (.ref fa) ⟨[.ref a], []⟩) (fun r s' => r = .ok (.ret (.bool true)) ∧ OldK s₁.heap s'.heap ∧ s'.os = s₁.os ∧ AllBare s'.gens) s₁ := by
  have rv := vals_ints hi
  have lenV := hi.length
  have nota : ∀ q, ts.lookup a ≠ some q := fun q z => by
    have := htt a q z
    rw [ha] at this
    cases this
  have core : ∀ H : Hp, (∀ b, (∃ q, ts.lookup b = some q ∧ H b = some (.tbl #[.str q 0])) ∨ (ts.lookup b = none ∧ (H b = none ∨ (b = a ∧ K.lookup a = none ∧ H a = some (.frz { cls := .type "list", data := .seq vs.toArray } (.lst (ns.map V.int))))))) → SqL K H a (ns.map V.int) →
      codeAny (model P w) callerA (.call (.ref fa) ⟨[.ref a], []⟩) (fun r s' => r = .ok (.ret (.bool true)) ∧ OldK s₁.heap s'.heap ∧ s'.os = s₁.os ∧ AllBare s'.gens) s₁ := fun H hH hS => by
    have hok : HOk P w H s₁.heap := fun b u z => by
      rcases hH b with ⟨q, e1, e2⟩ | ⟨e1, e2 | ⟨rfl, _, e2⟩⟩
      · rw [e2] at z
        cases z
        exact ⟨#[], htt b q e1, trivial, fun p v c => by cases c⟩
      · rw [e2] at z; cases z
      · rw [e2] at z
        cases z
        exact ⟨ha, by rw [List.length_map]; exact hl, vs, _, rv, ha⟩
    have base_of : ∀ {b : Addr} {o : Obj}, s₁.heap.get? b = some o → H b = none → (hidT s₁.heap H).get? b = some o := fun e n => hidT_get e n
    have noA : ∀ {b : Addr} {o : Obj} {es : Array DictEntry} {ep : Nat}, s₁.heap.get? b = some o → o.data = .dict es ep → H b = none := fun {b o es ep} e d => by
      rcases hH b with ⟨q, e1, e2⟩ | ⟨e1, e2 | ⟨rfl, _, e2⟩⟩
      · have := htt b q e1
        rw [e] at this
        cases this
        cases d
      · exact e2
      · rw [ha] at e
        cases e
        cases d
    have noM : ∀ {b : Addr} {o : Obj}, s₁.heap.get? b = some o → o.data = .plain → H b = none := fun {b o} e d => by
      rcases hH b with ⟨q, e1, e2⟩ | ⟨e1, e2 | ⟨rfl, _, e2⟩⟩
      · have := htt b q e1
        rw [e] at this
        cases this
        cases d
      · exact e2
      · rw [ha] at e
        cases e
        cases d
    have nsK : ∀ {b : Addr} {m : Str → Option Value}, s₁.heap.Ns b m → (hidT s₁.heap H).Ns b m := fun {b m} ⟨o, es, ep, e, d, r⟩ => ⟨o, es, ep, base_of e (noA e d), d, r⟩
    have hKb : K.In (hidT s₁.heap H) := fun b o e => base_of (KX b o e) (by
      rcases hH b with ⟨q, e1, e2⟩ | ⟨e1, e2 | ⟨rfl, e3, e2⟩⟩
      · rw [(tabsOk_at hts e1).1] at e; cases e
      · exact e2
      · rw [e3] at e; cases e)
    have hM : Mod K mg (hidT s₁.heap H) := ⟨hKb, nsK hns, ⟨mb, nsK hb, hbb⟩, (let ⟨mc, h1, h2⟩ := hlim; ⟨mc, nsK h1, h2⟩), let ⟨bm, ob, m1, m2, m3, m4, m5, m6⟩ := hbm; ⟨bm, ob, m1, m2, base_of m3 (noM m3 m6), m4, m5, m6⟩⟩
    have e0 : Env0 P w K mg (hidT s₁.heap H) callerA [] s₁ H := ⟨rfl, hM, fun b o e => of_hidT e, Nat.le_of_eq (hidT_size _ _), trivial, fun b hb => absurd (show b ∈ ([] : List Addr) from hb) (by simp), hok, .of_eq hg⟩
    have tb : TB K H := tabsOk_tb hts fun Q q e => by
      rcases hH Q with ⟨q', e1, e2⟩ | ⟨e1, _⟩
      · rw [e] at e1; cases e1; exact e2
      · rw [e] at e1; cases e1
    refine codeAny_mono ((F _ hKb (nsK hns)).run callerA [] s₁ H ⟨[.ref a], []⟩ [.ref a] [.ref a] _ _ hr e0 (hbind s₁ (.ref a)) (.cons rfl .nil) (hsp H tb hS)) fun r s' h => ?_
    cases r with
    | error e => exact False.elim h
    | ok fl =>
      cases fl with
      | next => exact False.elim h
      | brk => exact False.elim h
      | cont => exact False.elim h
      | ret u =>
        obtain ⟨v, H', os, bare, un, hok', r', q⟩ := h
        have q' : v = .bl true := q
        subst q'
        obtain rfl : u = Value.bool true := r'
        refine ⟨rfl, ⟨fun b o e => ?_, fun b o e => un.there b o e (by simp)⟩, os, bare⟩
        rcases hH b with ⟨q, e1, e2⟩ | ⟨e1, e2 | ⟨rfl, _, e2⟩⟩
        · obtain ⟨more, z2⟩ := un.tbls b _ e2
          obtain ⟨qs, z3, _⟩ := hok' b _ z2
          have e3 := htt b q e1
          rw [e] at e3
          cases e3
          obtain ⟨c, hc⟩ := (tabsOk_at hts e1).2
          have ct := (PySem.W.CodeHd.tab (PySem.W.codeHd_of_K KX hc) e).isCodeTable
          exact .inr (.inl ⟨ct, rfl, #[], qs, rfl, by rw [z3]; simp⟩)
        · exact .inl (un.keep b o e e2 (by intro z; exact absurd (show b ∈ ([] : List Addr) from z) (by simp)) (by simp))
        · have z2 := un.frzs b _ _ e2
          obtain ⟨z3, _⟩ := hok' b _ z2
          rw [ha] at e
          cases e
          exact .inl z3
  cases hk : K.lookup a with
  | some o =>
    have e := KX a o hk
    rw [ha] at e
    cases e
    refine core (fun b => (ts.lookup b).map fun q => .tbl #[.str q 0]) (fun b => ?_) (.inr ⟨_, vs.toArray, _, hk, rfl, rfl, rfl, by rw [List.size_toArray, lenV]; exact hl, by simpa using rv⟩)
    cases hb' : ts.lookup b with
    | none => exact .inr ⟨rfl, .inl rfl⟩
    | some q => exact .inl ⟨q, rfl, rfl⟩
  | none =>
    refine core (fun b => if b = a then some (.frz { cls := .type "list", data := .seq vs.toArray } (.lst (ns.map V.int))) else (ts.lookup b).map fun q => .tbl #[.str q 0]) (fun b => ?_) (.inl (.inr ⟨{ cls := .type "list", data := .seq vs.toArray }, if_pos rfl⟩))
    by_cases hba : b = a
    · subst hba
      refine .inr ⟨?_, .inr ⟨rfl, hk, if_pos rfl⟩⟩
      cases hb' : ts.lookup b with
      | none => rfl
      | some q => exact absurd hb' (nota q)
    · cases hb' : ts.lookup b with
      | none => exact .inr ⟨rfl, .inl (if_neg hba)⟩
      | some q => exact .inl ⟨q, rfl, if_neg hba⟩
theorem walk_ofT {l : PySem.W.OpenLaw} {n k : Nat} {q : Program} {loose : List Str} {XP : (Str → Option Value) → Heap → Prop} {YP : World → Heap → Prop} {d : DefRec} {K : Params → PySem.W.Frag} {sp : World → Sp} {x : Str} (ts : List (Addr × Str))
    (hn : l.most = some n) (hn2 : n ≤ sizeLine) (hdf : d.params.defaults = []) (hr : Room k callerA)
    (hY : ∀ (w : World) (h : Heap), YP w h → (K w.params).In h) (hT : ∀ (w : World) (h : Heap), YP w h → ∀ P q, ts.lookup P = some q → h.get? P = some { cls := .none, data := .fields #[] }) (hK : ∀ w : World, tabsOk (K w.params) ts = true)
    (F : ∀ (w : World) (mg : Str → Option Value) (fa : Addr) (h : Heap), (K w.params).In h → h.Ns mainGlobals mg → mg d.name = some (.ref fa) →
      ∃ fd : FuncData, (∀ (s : Shared) (u : Value), BindsTo s fd ⟨[u], []⟩ [(x, u)]) ∧
        ∀ base : Heap, (K w.params).In base → base.Ns mainGlobals mg → FnOk l.prog w (K w.params) mg base CX0 k fa fd [x] (sp w))
    (hsp : ∀ (w : World) (H : Hp) (a : Addr) (ns : List Int), ns.length ≤ n → TB (K w.params) H → SqL (K w.params) H a (ns.map V.int) → sp w [.ref a] H (fun v _ => v = .bl true) fun _ _ _ => False) :
    PySem.W.WalkO q loose XP YP l.row.toRowW d [] (fun f vs => PySem.call f vs) := by
  refine Att.attach_call hn hdf fun w s₀ s₁ mg mb fa o pm cd doc a vs ns G Y ho hd hcd hmg hobj hints hlen hg => ?_
  have KX := hY w _ Y
  obtain ⟨fd, hb, hF⟩ := F w mg fa _ KX G.T.g hmg
  exact law_callT KX G.T.g G.T.b G.T.builtins G.T.nolimit G.T.bmain hg hobj hints (Nat.le_trans hlen hn2) hr (hK w) (fun P q e => hT w _ Y P q e) hF hb (fun H hO hS => hsp w H a ns hlen hO hS)
end L3
set_option Elab.async false
set_option linter.all false
set_option maxRecDepth 100000
set_option maxHeartbeats 4000000
namespace L3
open PySem PySem.Spec PyProof.Rows L2
def dAddS : D → D → Option D := fun x y => match x, y with | .str a, .str b => if a.length + b.length ≤ LIM then some (.str (a ++ b)) else none | _, _ => none
section
variable {X : Cx} {a b : Expr} {fa fb : DEnv → Option D} {pos : Pos}
theorem se_addS (ha : SE X a fa) (hb : SE X b fb) : SE X (.BinOp a .Add b pos) (d2 dAddS fa fb) :=
  se_bin op_add_str (fun x y d e Z H u v Q _ hx hy q => by
    unfold dAddS at e
    split at e
    · rename_i s t
      split at e
      · rename_i hl
        cases e
        rw [rep_str] at hx hy
        subst hx hy
        exact ⟨s, t, rfl, rfl, lim_le hl, q _ H (Same.refl H) (rep_str.mpr rfl)⟩
      · cases e
    · cases e) ha hb
def dLenS (f : DEnv → Option D) : DEnv → Option D := fun ρ => match f ρ with | some (.str z) => if z.length ≤ LIM then some (.int z.length) else none | _ => none
theorem se_lenS {p : Pos} (hm : X.mg "len" = none) (h : SE X a fa) (hg : Gl X "len" := by rfl) (he : starEach [a] X.env = (false, eval a X.env) :: starEach [] X.env := by exact star_of rfl) (hpl : (backTo pos (starEach [] X.env)).any (·.1) = false := by exact back_of rfl) :
    SE X (.Call (.Name "len" p) [a] [] pos) (dLenS fa) :=
  pe_weak (pe_callB call_len_str hg hm PySem.boot_len (pa_cons h pa_nil he) (by decide) (by decide) he hpl) fun σ H Q ⟨ρ, d, B, H0, V0, Z, e, r, q⟩ => by
    unfold dLenS at e
    split at e
    · rename_i z ez
      split at e
      · rename_i hl
        cases e
        refine ⟨ρ, _, B, H0, V0, Z, ez, r, fun v H' s rr => ?_⟩
        rw [rep_str] at rr
        subst rr
        exact ⟨z, rfl, lim_le hl, q _ H' s (rep_int.mpr rfl)⟩
      · cases e
    · cases e
def dInS (neg : Bool) : D → D → Option D := fun x y => match x, y with | .str a, .str b => some (.bl (if neg = true then !(!(Builtin.Str.occurrences b a 0 b.length 1).isEmpty) else !(Builtin.Str.occurrences b a 0 b.length 1).isEmpty)) | _, _ => none
theorem st_ninS (ha : SE X a fa) (hb : SE X b fb) (hm : behindInMarks .NotIn b = false := by rfl) : STt X (.Compare a [.NotIn] [b] pos) (dTest (d2 (dInS true) fa fb)) :=
  st_cmp op_notin_str (fun x y d e Z H u v Q _ hx hy q => by
    unfold dInS at e
    split at e
    · rename_i s t
      cases e
      rw [rep_str] at hx hy
      subst hx hy
      exact ⟨s, t, rfl, rfl, q _ H (Same.refl H) (rep_bl.mpr rfl)⟩
    · cases e) ha hb hm
def dIxS (fa fb : DEnv → Option D) : DEnv → Option D := fun ρ => match fa ρ with
  | some (.str z) => (match fb ρ with | some (.int i) => if z.length ≤ LIM then (match atI z.cps.toList i with | some c => some (.str ⟨#[c]⟩) | none => none) else none | _ => none)
  | _ => none
theorem se_ixS (ha : SE X a fa) (hb : SE X b fb) (hs : PlainIx b := by exact fun _ _ => rfl) : SE X (.Subscript a b pos) (dIxS fa fb) :=
  pe_weak (pe_ix ix_str ha hb hs) fun σ H Q ⟨ρ, d, B, H0, V0, Z, e, r, q⟩ => by
    unfold dIxS at e
    split at e
    · rename_i z ez
      split at e
      · rename_i i ei
        split at e
        · rename_i hl
          split at e
          · rename_i c ec
            cases e
            refine ⟨ρ, _, B, H0, V0, Z, ez, r, fun v H1 s1 r1 => ⟨ρ, _, B, H0, V0, Z, ei, r.mono s1, fun u H2 s2 r2 => ?_⟩⟩
            rw [rep_str] at r1
            rw [rep_int] at r2
            subst r1 r2
            exact ⟨z, i, c, rfl, rfl, lim_le hl, ec, q _ H2 (s1.trans s2) (rep_str.mpr rfl)⟩
          · cases e
        · cases e
      · cases e
    · cases e
def rSlS : V → Option Int → Option Int → Hp → VK → Prop := fun x lo hi H Q => ∃ z, x = .str z ∧ z.length ≤ sizeLine ∧ Q (.str (Txt.slice z lo hi)) H
theorem sl_str : SlR X rSlS := by
  rintro pins s σ H x v vl vu lo hi sl Q I rx hs pl pu ⟨z, rfl, hz, q⟩
  obtain ⟨t, rfl⟩ := rx
  have fin : ∀ l u : Option (Int × Tok), s.heap.IsSlice sl l u none → l.map (·.1) = lo → u.map (·.1) = hi → wpAny (model X.prog X.w) X.A (getItem (.str z t) (.ref sl)) (EP X pins σ Q) X.xe s := fun l u h e1 e2 => by
    refine wpAny_getItem_str_slice (l := l) (u := u) (st := none) h rfl ?_
    subst e1 e2
    exact post_val_or_str ⟨Nat.le_trans (Txt.slice_le z _ _) hz, fun t' k => ⟨.str _, H, I.tok _, ⟨t', rfl⟩, q⟩⟩
  refine ⟨"str", _, PySem.F.slot_str_getitem.lookup, typeIs_str _ _ _, ?_⟩
  obtain ⟨o, h1, h2, h3⟩ := hs
  cases pl with
  | none =>
    cases pu with
    | none => exact fin none none ⟨o, h1, h2, h3⟩ rfl rfl
    | int j u => exact fin none (some (j, u)) ⟨o, h1, h2, h3⟩ rfl rfl
  | int i t' =>
    cases pu with
    | none => exact fin (some (i, t')) none ⟨o, h1, h2, h3⟩ rfl rfl
    | int j u => exact fin (some (i, t')) (some (j, u)) ⟨o, h1, h2, h3⟩ rfl rfl
def dSlS (f : DEnv → Option D) (fl fh : DEnv → Option (Option Int)) : DEnv → Option D := fun ρ => match f ρ with
  | some (.str z) => (match fl ρ with | some lo => (match fh ρ with | some hi => if z.length ≤ LIM then some (.str (Txt.slice z lo hi)) else none | none => none) | none => none)
  | _ => none
theorem se_slS {lo hi : Option Expr} {p2 : Pos} {fl fh : DEnv → Option (Option Int)} (he : SE X a fa) (hl : SO X lo fl) (hh : SO X hi fh) : SE X (.Subscript a (.Slice lo hi none p2) pos) (dSlS fa fl fh) :=
  pe_weak (pe_slice sl_str he hl hh) fun σ H Q ⟨ρ, d, B, H0, V0, Z, e, r, q⟩ => by
    unfold dSlS at e
    split at e
    · rename_i z ez
      split at e
      · rename_i l el
        split at e
        · rename_i u eu
          split at e
          · rename_i hz
            cases e
            refine ⟨ρ, _, B, H0, V0, Z, ez, r, fun v H1 s1 r1 => ⟨ρ, l, B, H0, V0, Z, el, r.mono s1, fun H2 s2 => ⟨ρ, u, B, H0, V0, Z, eu, (r.mono s1).mono s2, fun H3 s3 => ?_⟩⟩⟩
            rw [rep_str] at r1
            subst r1
            exact ⟨z, rfl, lim_le hz, q _ H3 (s1.trans (s2.trans s3)) (rep_str.mpr rfl)⟩
          · cases e
        · cases e
      · cases e
    · cases e
def smallI (i : Int) : Bool := decide (i.natAbs < 2 ^ 64)
theorem small_log {i : Int} (h : smallI i = true) : i.natAbs.log2 < 1920 := by
  have h' : i.natAbs < 2 ^ 64 := of_decide_eq_true h
  by_cases z : i.natAbs = 0
  · rw [z]; decide
  · exact Nat.lt_trans ((Nat.log2_lt z).mpr h') (by decide)
def dStrI (f : DEnv → Option D) : DEnv → Option D := fun ρ => match f ρ with | some (.int i) => if smallI i = true then some (.str (toString i)) else none | _ => none
theorem se_strI {p : Pos} (hm : X.mg "str" = none) (h : SE X a fa) (hg : Gl X "str" := by rfl) (hv : bootBuiltins "str" = some (.type "str") := by decide +kernel) (he : starEach [a] X.env = (false, eval a X.env) :: starEach [] X.env := by exact star_of rfl) (hpl : (backTo pos (starEach [] X.env)).any (·.1) = false := by exact back_of rfl) :
    SE X (.Call (.Name "str" p) [a] [] pos) (dStrI fa) :=
  pe_weak (pe_callTy call_str_int hg hm hv (pa_cons h pa_nil he) (by decide) (by decide) he hpl) fun σ H Q ⟨ρ, d, B, H0, V0, Z, e, r, q⟩ => by
    unfold dStrI at e
    split at e
    · rename_i i ei
      split at e
      · rename_i hs
        cases e
        refine ⟨ρ, _, B, H0, V0, Z, ei, r, fun v H' s rr => ?_⟩
        rw [rep_int] at rr
        subst rr
        exact ⟨i, rfl, small_log hs, q _ H' s (rep_str.mpr rfl)⟩
      · cases e
    · cases e
theorem call_int_text : CallR X (.type "int") (fun xs H Q => ∃ z n, xs = [.str z] ∧ PySem.intText? z = some n ∧ z.length ≤ 640 ∧ Q (.int n) H) := by
  rintro pins s σ H xs us Q I r ⟨z, n, rfl, hn, hz, q⟩
  obtain ⟨u, rfl, t, rfl⟩ := vals1 r
  exact PySem.W.KIN.call_text hn hz ⟨.int n, H, I.tok _, ⟨_, rfl⟩, q⟩
def dIntS (f : DEnv → Option D) : DEnv → Option D := fun ρ => match f ρ with | some (.str z) => if z.length ≤ 640 then (match PySem.intText? z with | some n => some (.int n) | none => none) else none | _ => none
theorem se_intS {p : Pos} (hm : X.mg "int" = none) (h : SE X a fa) (hg : Gl X "int" := by rfl) (hv : bootBuiltins "int" = some (.type "int") := by decide +kernel) (he : starEach [a] X.env = (false, eval a X.env) :: starEach [] X.env := by exact star_of rfl) (hpl : (backTo pos (starEach [] X.env)).any (·.1) = false := by exact back_of rfl) :
    SE X (.Call (.Name "int" p) [a] [] pos) (dIntS fa) :=
  pe_weak (pe_callTy call_int_text hg hm hv (pa_cons h pa_nil he) (by decide) (by decide) he hpl) fun σ H Q ⟨ρ, d, B, H0, V0, Z, e, r, q⟩ => by
    unfold dIntS at e
    split at e
    · rename_i z ez
      split at e
      · rename_i hl
        split at e
        · rename_i n en
          cases e
          refine ⟨ρ, _, B, H0, V0, Z, ez, r, fun v H' s rr => ?_⟩
          rw [rep_str] at rr
          subst rr
          exact ⟨z, n, rfl, en, hl, q _ H' s (rep_int.mpr rfl)⟩
        · cases e
      · cases e
    · cases e
theorem se_gstr {x : Str} {i : Str} {t : Tok} (hm : X.mg x = some (.str i t)) (hg : Gl X x := by rfl) (hd : (x == ("__debug__" : Str)) = false := by decide) : SE X (.Name x pos) (dC (.str i)) :=
  se_c (pe_glob hg hm (v := .str i) ⟨t, rfl⟩ hd) fun _ => rep_str.mpr rfl
end
abbrev TJ := St → Hp → Str → VK → Prop
def PJ (X : Cx) (es : List Expr) (t : TJ) : Prop :=
  ∀ (pins : List (Addr × Obj)) (s : Shared) (σ : St) (H : Hp) (acc : Str) (Q : VK), Inv X pins σ H s → t σ H acc Q → wpAny (model X.prog X.w) X.A (joinParts acc (evalEach es X.env)) (EP X pins σ Q) X.xe s
def tJ (K : PySem.W.Frag) (f : DEnv → Str → Option D) : TJ := fun σ H acc Q => ∃ ρ d B H0 V0 Z, f ρ acc = some d ∧ SR K B H0 V0 H Z σ ρ ∧ ∀ v H', Same H H' → Rep K (hide Z H') d v → Q v H'
abbrev SJ (X : Cx) (es : List Expr) (f : DEnv → Str → Option D) : Prop := PJ X es (tJ X.K f)
def dJNil : DEnv → Str → Option D := fun _ acc => if acc.length ≤ LIM then some (.str acc) else none
def dJCons (f : DEnv → Option D) (k : DEnv → Str → Option D) : DEnv → Str → Option D := fun ρ acc => match f ρ with | some (.str y) => if (acc ++ y).length ≤ LIM then k ρ (acc ++ y) else none | _ => none
def dJoined (k : DEnv → Str → Option D) : DEnv → Option D := fun ρ => k ρ Str.empty
section
variable {X : Cx} {e a b : Expr} {es : List Expr} {f : DEnv → Option D} {k : DEnv → Str → Option D} {pos : Pos}
theorem sj_nil : SJ X [] dJNil := fun pins s σ H acc Q I ⟨ρ, d, B, H0, V0, Z, e, r, q⟩ => by
  unfold dJNil at e
  split at e
  · rename_i hl
    cases e
    exact joinParts_nil ⟨.str _, H, I.tok _, ⟨_, rfl⟩, q _ H (Same.refl H) (rep_str.mpr rfl)⟩ (lim_le hl)
  · cases e
theorem sj_cons (he : SE X e f) (hr : SJ X es k) : SJ X (e :: es) (dJCons f k) := fun pins s σ H acc Q I ⟨ρ, d, B, H0, V0, Z, e, r, q⟩ => by
  unfold dJCons at e
  split at e
  · rename_i y ey
    split at e
    · rename_i hl
      refine joinParts_cons (thn (he pins s σ H (fun v H1 => v = .str y ∧ Same H H1) I ⟨ρ, _, B, H0, V0, Z, ey, r, fun v H1 s1 r1 => ⟨rep_str.mp r1, s1⟩⟩) fun u s1 ⟨v, H1, I1, rv, ev, sm⟩ => ?_)
      subst ev
      obtain ⟨t, rfl⟩ := rv
      exact ⟨lim_le hl, hr pins s1 σ H1 (acc ++ y) Q I1 ⟨ρ, d, B, H0, V0, Z, e, r.mono sm, fun v H' s' rr => q v H' (sm.trans s') rr⟩⟩
    · cases e
  · cases e
theorem se_joined (h : SJ X (a :: b :: es) k) : SE X (.JoinedStr (a :: b :: es) pos) (dJoined k) := fun pins s σ H Q I hq =>
  JoinedStr_many (h pins s σ H Str.empty Q I hq)
def dFmtI (f : DEnv → Option D) : DEnv → Option D := fun ρ => match f ρ with | some (.int i) => if smallI i = true then some (.str (toString i)) else none | _ => none
theorem se_fmtI (h : SE X e f) : SE X (.FormattedValue e (-1) none pos) (dFmtI f) := fun pins s σ H Q I ⟨ρ, d, B, H0, V0, Z, e, r, q⟩ => by
  unfold dFmtI at e
  split at e
  · rename_i i ei
    split at e
    · rename_i hs
      cases e
      refine wpAny_FormattedValue_plain (thn (h pins s σ H (fun v H1 => v = .int i ∧ Same H H1) I ⟨ρ, _, B, H0, V0, Z, ei, r, fun v H1 s1 r1 => ⟨rep_int.mp r1, s1⟩⟩) fun u s1 ⟨v, H1, I1, rv, ev, sm⟩ => ?_)
      subst ev
      obtain ⟨t, rfl⟩ := rv
      exact wpAny_formatField_int (small_log hs) ⟨.str _, H1, I1.tok _, ⟨_, rfl⟩, q _ H1 sm (rep_str.mpr rfl)⟩
    · cases e
  · cases e
def asciiS (z : Str) : Bool := decide (z.length ≤ 1000) && z.cps.toList.all (· < 128)
theorem repr_fits {z : Str} (h : asciiS z = true) : (reprText z).length ≤ sizeLine := by
  unfold asciiS at h
  rw [Bool.and_eq_true, List.all_eq_true] at h
  obtain ⟨h1, h2⟩ := h
  have h1 := of_decide_eq_true h1
  have e := StrLaws.reprText_len z fun c hc => Nat.lt_trans (of_decide_eq_true (h2 c hc)) (by decide)
  exact lim_le (Nat.le_trans e (by unfold LIM; omega))
def dFmtR (f : DEnv → Option D) : DEnv → Option D := fun ρ => match f ρ with | some (.str z) => if asciiS z = true then some (.str (reprText z)) else none | _ => none
theorem se_fmtR (h : SE X e f) : SE X (.FormattedValue e 114 none pos) (dFmtR f) := fun pins s σ H Q I ⟨ρ, d, B, H0, V0, Z, e, r, q⟩ => by
  unfold dFmtR at e
  split at e
  · rename_i z ez
    split at e
    · rename_i hs
      cases e
      refine wpAny_FormattedValue_repr (thn (h pins s σ H (fun v H1 => v = .str z ∧ Same H H1) I ⟨ρ, _, B, H0, V0, Z, ez, r, fun v H1 s1 r1 => ⟨rep_str.mp r1, s1⟩⟩) fun u s1 ⟨v, H1, I1, rv, ev, sm⟩ => ?_)
      subst ev
      obtain ⟨t, rfl⟩ := rv
      exact wpAny_pyReprObj_str (formatField_str (fun t' tk => ⟨.str _, H1, I1.tok _, ⟨_, rfl⟩, q _ H1 sm (rep_str.mpr rfl)⟩) (repr_fits hs)) (repr_fits hs)
    · cases e
  · cases e
end
section
variable {prog : Program} {w : World} {A : Around} {E : Value → Shared → Prop} {s : Shared} {x y : Str} {t u : Tok} {Q : Value → Shared → Prop}
theorem split_push (hy : (y.length == 0) = false) (hsz : x.length + 2 ≤ sizeLine)
    (h : ∀ l k, l.map (·.1) = Txt.split x y → Q (.ref s.heap.objs.size) { s with heap := s.heap.push { cls := .type "list", data := .seq (strValues l).toArray }, toks := k }) :
    wpAny (model prog w) A (call (.builtin "str.split") [.str x t, .str y u]) Q E s := by
  have hn : (Builtin.Str.partsBetween x (Builtin.Str.occurrences x y 0 x.length (x.length + 1)) y.length).length ≤ sizeLine := by
    have e1 := StrLaws.occ_length_le x y 0 x.length (x.length + 1)
    rw [length_partsBetween]; omega
  have sl := PySem.F.slot_str_split
  cases c1 : (decide (x.length < y.length) || decide (Builtin.Str.strKind x < Builtin.Str.strKind y))
  · have n1 := ne_true_of_eq_false c1
    cases c2 : (Builtin.Str.occurrences x y 0 x.length (x.length + 1)).isEmpty
    · have n2 := ne_true_of_eq_false c2
      refine call_meets sl (typeIs_str _ _ _) PySem.F.entry_str_split (PySem.F.args_str_split_2 _ _) (meets_str_split_sep x y t u c1 hy c2 (by omega) hn) ?_
      show wants Q E _ { s with toks := _, heap := s.heap.push { cls := .type "list", data := .seq (strsFrom s.toks _).toArray } }
      rw [strsFrom_eq]
      exact h (numbered s.toks _) _ ((numbered_texts _ _).trans ((if_neg n1).trans (if_neg n2)).symm)
    · exact call_meets sl (typeIs_str _ _ _) PySem.F.entry_str_split (PySem.F.args_str_split_2 _ _) (meets_str_split_not_found x y t u c1 hy c2) (h [(x, t)] s.toks ((if_neg n1).trans (if_pos c2)).symm)
  · exact call_meets sl (typeIs_str _ _ _) PySem.F.entry_str_split (PySem.F.args_str_split_2 _ _) (meets_str_split_cannot_occur x y t u c1) (h [(x, t)] s.toks (if_pos c1).symm)
end
theorem vals_strs : ∀ (l : List (Str × Tok)), Vals (l.map fun p => V.str p.1) (strValues l)
  | [] => .nil
  | p :: r => .cons ⟨p.2, rfl⟩ (vals_strs r)
theorem txs_vals : ∀ {ys : List Str} {us : List Value}, Vals (ys.map V.str) us → ∃ l : List (Str × Tok), us = strValues l ∧ l.map (·.1) = ys
  | [], us, r => by cases r; exact ⟨[], rfl, rfl⟩
  | y :: ys, us, r => by
    rw [List.map_cons] at r
    cases r with
    | cons r1 r2 =>
      obtain ⟨t, rfl⟩ := r1
      obtain ⟨l, rfl, e⟩ := txs_vals r2
      exact ⟨(y, t) :: l, rfl, by rw [List.map_cons, e]⟩
theorem repl_txs {K : PySem.W.Frag} {H : Hp} : ∀ {ns : List Str} {xs : List V}, RepL K H (ns.map D.str) xs ↔ xs = ns.map V.str
  | [], xs => by rw [List.map_nil, repl_nil, List.map_nil]
  | n :: ns, xs => by
    rw [List.map_cons, repl_cons, List.map_cons]
    constructor
    · rintro ⟨v, vs, rfl, h2, h3⟩
      rw [rep_str] at h2
      rw [repl_txs] at h3
      rw [h2, h3]
    · rintro rfl
      exact ⟨_, _, rfl, rep_str.mpr rfl, repl_txs.mpr rfl⟩
section
variable {X : Cx} {a b : Expr} {pos : Pos}
theorem mt_split : MtR X "str.split" (fun x xs H Q => ∃ z y, x = .str z ∧ xs = [.str y] ∧ (y.length == 0) = false ∧ z.length + 2 ≤ sizeLine ∧ (Txt.split z y).length ≤ sizeLine ∧ ∀ p, H p = none → Q (.ref p) (upd H p (.lst ((Txt.split z y).map V.str)))) := by
  rintro pins s σ H x xs v us Q I rx rs ⟨z, y, rfl, rfl, hy, hz, hl, q⟩
  obtain ⟨t, rfl⟩ := rx
  obtain ⟨u, rfl, t2, rfl⟩ := vals1 rs
  refine split_push hy hz fun l k e => ?_
  have hv := vals_strs l
  have e2 : (l.map fun p => V.str p.1) = (Txt.split z y).map V.str := by rw [← e, List.map_map]; rfl
  rw [e2] at hv
  exact ⟨.ref s.heap.objs.size, _, I.lnew (t' := k) hv (by rw [List.length_map]; exact hl), rfl, q _ I.fresh⟩
def dSplit (fa fb : DEnv → Option D) : DEnv → Option (List D) := fun ρ => match fa ρ with
  | some (.str z) => (match fb ρ with | some (.str y) => if (y.length == 0) = false ∧ z.length ≤ 1000 ∧ (Txt.split z y).length ≤ LIM then some ((Txt.split z y).map D.str) else none | _ => none)
  | _ => none
theorem sf_split {apos : Pos} {fa fb : DEnv → Option D} (ha : SE X a fa) (hb : SE X b fb) (hbase : attributeBase a "split" X.env (eval a X.env) = eval a X.env := by rfl)
    (hfew : ((backTo pos (starEach [b] X.env)).all (fun x => !x.1) && (backToKw pos (keywordEach [] X.env)).all (fun x => x.1.isSome)
      && decide ([b].length + ([] : List Keyword).length + (if ([] : List Keyword).isEmpty then 0 else 1) < 30)) = true := by rfl)
    (hline : (apos.endLine == pos.line) = true := by rfl) (hs : starEach [b] X.env = (false, eval b X.env) :: starEach [] X.env := by exact star_of rfl) (hplain : (backTo pos (starEach [] X.env)).any (·.1) = false := by exact back_of rfl) :
    SF X (.Call (.Attribute a "split" apos) [b] [] pos) (dSplit fa fb) :=
  pe_weak (pe_bm PySem.F.plainAttrs_str PySem.F.slot_str_split PySem.F.type_str_split mt_split ha (pa_cons hb pa_nil hs) hbase hfew hline hs hplain) fun σ H Q ⟨ρ, d, B, H0, V0, Z, e, r, q⟩ => by
    unfold dSplit at e
    split at e
    · rename_i z ez
      split at e
      · rename_i y ey
        split at e
        · rename_i hc
          obtain ⟨h1, h2, h3⟩ := hc
          cases e
          refine ⟨ρ, _, B, H0, V0, Z, ez, r, fun v H1 s1 r1 => ?_⟩
          rw [rep_str] at r1
          subst r1
          refine ⟨rfl, ρ, _, B, H0, V0, Z, ey, r.mono s1, fun u H2 s2 r2 => ?_⟩
          rw [rep_str] at r2
          subst r2
          refine ⟨z, y, rfl, rfl, h1, lim_le (by unfold LIM; omega), lim_le h3, fun p hp => ?_⟩
          have sn := same_upd (o := HO.lst ((Txt.split z y).map V.str)) hp
          exact q p _ _ (s1.trans (s2.trans sn)) ((s1.trans s2).free hp) upd_same (repl_txs.mpr rfl)
        · cases e
      · cases e
    · cases e
theorem mt_join : MtR X "str.join" (fun x xs H Q => ∃ z p ys, x = .str z ∧ xs = [.ref p] ∧ SqL X.K H p (ys.map V.str) ∧ JoinOk z ys = true ∧ Q (.str (Str.join z ys)) H) := by
  rintro pins s σ H x xs v us Q I rx rs ⟨z, p, ys, rfl, rfl, hq, hok, q⟩
  obtain ⟨t, rfl⟩ := rx
  obtain ⟨u, rfl, e⟩ := vals1 rs
  obtain rfl : u = Value.ref p := e
  obtain ⟨its, r, pl, hz⟩ := I.list hq
  obtain ⟨l, rfl, e2⟩ := txs_vals r
  refine SC.join pl.isList e2 hok fun t' k => ⟨.str _, H, I.tok _, ⟨t', rfl⟩, ?_⟩
  show Q (.str (Builtin.Str.glued z ys)) H
  rw [StrLaws.glued_eq_join]
  exact q
def txsOf : List D → Option (List Str)
  | [] => some []
  | .str y :: r => (txsOf r).map (y :: ·)
  | _ => none
theorem txsOf_some : ∀ {ds : List D} {ys : List Str}, txsOf ds = some ys → ds = ys.map D.str
  | [], ys, e => by unfold txsOf at e; cases e; rfl
  | d :: r, ys, e => by
    unfold txsOf at e
    split at e
    · rename_i z; cases z
    · rename_i y r' z
      cases z
      obtain ⟨zs, h1, rfl⟩ := Option.map_eq_some_iff.mp e
      rw [txsOf_some h1, List.map_cons]
    · cases e
def dJoin (z : Str) (f : DEnv → Option (List D)) : DEnv → Option D := fun ρ => match f ρ with
  | some ds => (match txsOf ds with | some ys => if JoinOk z ys = true then some (.str (Str.join z ys)) else none | none => none)
  | none => none
theorem se_join {z : Str} {j : Nat} {p1 apos : Pos} {f : DEnv → Option (List D)} (hb : SQL X b f) (hbase : attributeBase (.Constant (.str z) j p1) "join" X.env (eval (.Constant (.str z) j p1) X.env) = eval (.Constant (.str z) j p1) X.env := by rfl)
    (hfew : ((backTo pos (starEach [b] X.env)).all (fun x => !x.1) && (backToKw pos (keywordEach [] X.env)).all (fun x => x.1.isSome)
      && decide ([b].length + ([] : List Keyword).length + (if ([] : List Keyword).isEmpty then 0 else 1) < 30)) = true := by rfl)
    (hline : (apos.endLine == pos.line) = true := by rfl) (hs : starEach [b] X.env = (false, eval b X.env) :: starEach [] X.env := by exact star_of rfl) (hplain : (backTo pos (starEach [] X.env)).any (·.1) = false := by exact back_of rfl) :
    SE X (.Call (.Attribute (.Constant (.str z) j p1) "join" apos) [b] [] pos) (dJoin z f) :=
  pe_weak (pe_bm PySem.F.plainAttrs_str PySem.F.slot_str_join PySem.F.type_str_join mt_join (pe_str (x := z)) (pa_cons hb pa_nil hs) hbase hfew hline hs hplain) fun σ H Q ⟨ρ, d, B, H0, V0, Z, e, r, q⟩ => by
    unfold dJoin at e
    split at e
    · rename_i ds eds
      split at e
      · rename_i ys eys
        split at e
        · rename_i hok
          cases e
          have := txsOf_some eys
          subst this
          refine ⟨rfl, ρ, _, B, H0, V0, Z, eds, r, fun p xs H1 s1 hq r1 => ?_⟩
          rw [repl_txs] at r1
          subst r1
          exact ⟨z, p, ys, rfl, rfl, hq, hok, q _ H1 s1 (rep_str.mpr rfl)⟩
        · cases e
      · cases e
    · cases e
end
end L3
set_option Elab.async false
set_option linter.all false
set_option maxRecDepth 100000
set_option maxHeartbeats 4000000
namespace L3
open PySem PySem.Spec PyProof.Rows L2
def FlyO (C : Value) (fr : Addr → Prop) (n : Bool) (H : Hp) (h : Heap) (e : Addr) : Prop :=
  fr e ∧ H e = none ∧ ∃ oe vs tb, h.get? e = some oe ∧ oe.cls = C ∧ oe.dict = none ∧ oe.data = .fields vs ∧ vs[1]? = some tb ∧
    ((n = false ∧ tb = .none) ∨ ∃ T oT ts, tb = .ref T ∧ T ≠ e ∧ fr T ∧ H T = none ∧ h.get? T = some oT ∧ oT.data = .fields ts ∧ 3 < ts.size)
theorem FlyO.mono {C : Value} {fr fr' : Addr → Prop} {n : Bool} {H : Hp} {h : Heap} {e : Addr} (x : FlyO C fr n H h e) (k : ∀ b, fr b → fr' b) : FlyO C fr' n H h e := by
  obtain ⟨x1, x2, oe, vs, tb, h1, h2, h3, h4, h5, h6⟩ := x
  refine ⟨k _ x1, x2, oe, vs, tb, h1, h2, h3, h4, h5, ?_⟩
  rcases h6 with h6 | ⟨T, oT, ts, y1, y2, y3, y4⟩
  · exact .inl h6
  · exact .inr ⟨T, oT, ts, y1, y2, k _ y3, y4⟩
def Nw (X : Cx) (pins : List (Addr × Obj)) (b : Addr) : Prop := (b ∈ X.ex ∨ X.s₀.heap.get? b = none) ∧ ∀ p ∈ X.pn ++ pins, p.1 ≠ b
structure FlyI (X : Cx) (pins : List (Addr × Obj)) (σ : St) (H : Hp) (C : Value) (n : Bool) (a : Addr) (s : Shared) : Prop where
  inv : Inv X pins σ H s
  fly : FlyO C (Nw X pins) n H s.heap a
def xeF (X : Cx) (C : Value) (n : Bool) (e : Value) (s : Shared) : Prop := ∃ a σ H, e = .ref a ∧ FlyI X [] σ H C n a s
theorem upd_fields {h : Heap} {a : Addr} {o : Obj} {vs : Array Value} {i : Nat} {x : Value} (ho : h.get? a = some o) (hd : o.data = .fields vs) :
    ∃ o', (h.update a (Obj.mapFields (·.setIfInBounds i x))).get? a = some o' ∧ o'.cls = o.cls ∧ o'.dict = o.dict ∧ o'.data = .fields (vs.setIfInBounds i x) := by
  have hd' := Obj.data_mapFields hd (·.setIfInBounds i x)
  refine ⟨_, Heap.get?_update_self _ ho (Obj.isFreed_of_fields hd'), Obj.cls_mapFields _ _, ?_, hd'⟩
  obtain ⟨c, d, dt, sl⟩ := o
  dsimp only at hd
  subst hd
  rfl
theorem upd_other {h : Heap} {a b : Addr} {f : Obj → Obj} (ne : b ≠ a) : (h.update a f).get? b = h.get? b := Heap.get?_update_other _ _ (Ne.symm ne)
section
variable {X : Cx} {pins : List (Addr × Obj)} {σ : St} {H : Hp} {s : Shared} {h' : Heap}
theorem inv_moved {ch : List Addr} (I : Inv X pins σ H s) (hch : ∀ b ∈ ch, Nw X pins b ∧ H b = none ∧ ∃ o vs, s.heap.get? b = some o ∧ o.data = .fields vs)
    (mv : ∀ b o, s.heap.get? b = some o → b ∉ ch → b ∉ frs X.stack → h'.get? b = some o) (mf : ∀ b o, s.heap.get? b = some o → b ∈ frs X.stack → ∃ sl, h'.get? b = some { o with slots := sl }) :
    Inv X pins σ H { s with heap := h' } := by
  have nf : ∀ b ∈ ch, b ∉ frs X.stack := fun b hb z => by
    obtain ⟨_, _, o, vs, e, d⟩ := hch b hb
    obtain ⟨_, o', e', d'⟩ := I.stack.mem z
    rw [e] at e'; cases e'
    exact d' vs d
  have any : ∀ b o, s.heap.get? b = some o → b ∉ ch → ∃ sl, h'.get? b = some { o with slots := sl } := fun b o e n => by
    by_cases z : b ∈ frs X.stack
    · exact mf b o e z
    · exact ⟨o.slots, mv b o e n z⟩
  have hL : X.env.locals ∉ ch := fun z => by
    obtain ⟨_, _, o, vs, e, d⟩ := hch _ z
    obtain ⟨m, ⟨o', es, ep, e', d', _⟩, _⟩ := I.loc
    rw [e] at e'; cases e'
    rw [d] at d'; cases d'
  refine I.stepN (g' := s.gens) (d' := s.drawn) (t' := s.toks) (ch := ch) (fun b hb => ⟨(hch b hb).1.1, fun z => hL (by rw [← z]; exact hb), fun x c e z => ?_, (hch b hb).1.2⟩)
    (fun b o n1 n2 n3 e _ => ?_) (fun b o _ _ n e _ => any b o e n) (fun _ _ _ _ n => n) (fun b o n e => let ⟨_, q⟩ := any b o e n; ⟨_, q⟩) (fun _ _ e => e) (fun _ _ _ e => e) (fun b ps e => ⟨#[], by rw [e]; simp⟩) (fun m hm => ?_) (fun b u e => ?_) I.bare
  · obtain ⟨_, _, o, vs, e1, d⟩ := hch b hb
    obtain ⟨v, o', e', d'⟩ := I.cell x c e
    rw [z, e1] at e'; cases e'
    rw [d] at d'; cases d'
  · exact mv b o e n3 fun z => by
      rcases List.mem_cons.mp (I.stkSub b z) with q | q
      · exact n1 q
      · exact n2 q
  · obtain ⟨o, es, ep, ho, r⟩ := hm
    obtain ⟨sl, q⟩ := any _ o ho hL
    exact ⟨_, es, ep, q, r⟩
  · refine (I.hok b u e).stay (fun c v hc q => ?_) (fun _ q => q) (fun _ _ q => q) fun _ _ _ q => q
    have hs : ∃ w, H c = some w := by
      rcases hc with rfl | hc
      · exact ⟨_, e⟩
      · exact ⟨_, hc⟩
    obtain ⟨w, hw⟩ := hs
    refine mv c v q (fun z => ?_) fun z => ?_
    · rw [(hch c z).2.1] at hw; cases hw
    · rw [I.stkFree c z] at hw; cases hw
end
section
variable {M : Model} {A : Around} {E : Value → Shared → Prop} {s : Shared}
theorem frame_at {base : Heap} {env env0 : Env} {outer : List Env} {L : Addr} {Q : Value → Shared → Prop} (hfr : A.frames = some (env0 :: outer)) (hl : s.heap.FunFrames base (env0 :: outer))
    (hf0 : env0.frame = some L) (hf : env.frame = some L) (h : ∀ h', Heap.SlotsOnly (frs (env0 :: outer)) s.heap h' → Q (.ref L) { s with heap := h' }) : wpAny M A (PySem.frameOf env) Q E s := by
  unfold PySem.frameOf
  refine wpAny_bind (wpAny_frameEnvs hfr ?_)
  rw [show ((env0 :: outer).dropWhile fun x => x.frame != env.frame) = env0 :: outer by simp [List.dropWhile, hf0, hf]]
  unfold frameObject
  refine wpAny_bind (wpAny_bind (wpAny_readyFrames_fun hl fun h1 hs1 => wpAny_pure ?_))
  rw [hf0]
  exact wpAny_pure (h h1 hs1)
theorem entry_at {base : Heap} {env env0 : Env} {outer : List Env} {L e : Addr} {oe : Obj} {vs : Array Value} {head : Value} {hn : Bool} {Q : Unit → Shared → Prop}
    (hfr : A.frames = some (env0 :: outer)) (hl : s.heap.FunFrames base (env0 :: outer)) (hf0 : env0.frame = some L) (hf : env.frame = some L) (he : s.heap.get? e = some oe) (hd : oe.data = .fields vs) (hsz : 1 < vs.size)
    (h : ∀ (h' : Heap) (T : Addr) (oT : Obj) (ts : Array Value), (∀ b o, s.heap.get? b = some o → b ≠ e → b ∉ frs (env0 :: outer) → h'.get? b = some o) → (∀ b o, s.heap.get? b = some o → b ∈ frs (env0 :: outer) → ∃ sl, h'.get? b = some { o with slots := sl }) →
      s.heap.objs.size ≤ T → T ≠ e → h'.get? T = some oT → oT.data = .fields ts → 3 < ts.size → (∃ o', h'.get? e = some o' ∧ o'.cls = oe.cls ∧ o'.dict = oe.dict ∧ o'.data = .fields (vs.setIfInBounds 1 (.ref T))) → Q () { s with heap := h' }) :
    wpAny M A (do let a ← PySem.frameOf env; let pl ← entryPlaceOf L hn; let b ← EntryCells.newEntry head a .none (rawInt L) .none pl; setField (.ref e) 1 b) Q E s := by
  have nfr : e ∉ frs (env0 :: outer) := fun z => by
    obtain ⟨_, o, ho, nd⟩ := hl.mem z
    rw [he] at ho; cases ho
    exact nd vs hd
  refine wpAny_bind (frame_at hfr hl hf0 hf fun h1 hs1 => ?_)
  refine wpAny_bind (wpAny_entryPlaceOf fun pl hpl => ?_)
  unfold EntryCells.newEntry newFields
  refine wpAny_bind (wpAny_newObj_type ?_ (hpl.sizeOk5 _ _ _ _ _))
  have e1 : h1.get? e = some oe := (hs1.2.1 e nfr).trans he
  have e2 : (h1.push _).get? e = some oe := Heap.get?_push_of_some { cls := .type "traceback", dict := none, data := .fields ([head, .ref L, .none, rawInt L, .none] ++ (if pl.isEmpty then List.replicate 6 Value.none else pl)).toArray } e1
  refine wpAny_setField e2 hd hsz ?_
  have ne : h1.objs.size ≠ e := Nat.ne_of_gt (Heap.lt_size e1)
  have nfrS : h1.objs.size ∉ frs (env0 :: outer) := fun z => by
    obtain ⟨_, o, ho, _⟩ := hl.mem z
    obtain ⟨sl, ho'⟩ := hs1.2.2 _ o ho
    exact absurd (Heap.lt_size ho') (Nat.lt_irrefl _)
  refine h _ h1.objs.size _ _ (fun b o hb nb nf => ?_) (fun b o hb mf => ?_) (Nat.le_of_eq hs1.1.symm) ne ((upd_other ne).trans (Heap.get?_push_size h1 rfl)) rfl
    (by simp only [List.size_toArray, List.length_append, List.length_cons, List.length_nil] <;> omega) (upd_fields e2 hd)
  · rw [upd_other nb]
    exact Heap.get?_push_of_some _ ((hs1.2.1 b nf).trans hb)
  · obtain ⟨sl, hb'⟩ := hs1.2.2 b o hb
    refine ⟨sl, ?_⟩
    rw [upd_other fun z => nfr (by rw [← z]; exact mf)]
    exact Heap.get?_push_of_some _ hb'
end
section
variable {X : Cx} {pins : List (Addr × Obj)} {σ : St} {H : Hp} {s : Shared} {C : Value} {n : Bool} {a : Addr} {M : Model} {E : Value → Shared → Prop} {Q : Unit → Shared → Prop} {env env0 : Env} {outer : List Env} {L : Addr}
theorem FlyI.note (F : FlyI X pins σ H C n a s) (hst : X.stack = env0 :: outer) (hf0 : env0.frame = some L) (hf : env.frame = some L) (A' : Around) (hA : A'.frames = some X.stack)
    (q : ∀ s', FlyI X pins σ H C true a s' → Q () s') : wpAny M A' (noteFrame (.ref a) env) Q E s := by
  obtain ⟨I, f1, f2, oe, vs, tb, h1, h2, h3, h4, h5, h6⟩ := F
  have sz : 1 < vs.size := (Array.getElem?_eq_some_iff.mp h5).1
  have fr0 : A'.frames = some (env0 :: outer) := by rw [hA, hst]
  unfold noteFrame
  simp only [hf]
  refine wpAny_bind (wpAny_field h1 h4 h5 ?_)
  have fin : ∀ (s1 : Shared) (I1 : Inv X pins σ H s1) (oe1 : Obj) (hd : Value) (b : Bool), s1.heap.get? a = some oe1 → oe1.cls = C → oe1.dict = none → oe1.data = .fields vs →
      wpAny M A' (do let x ← PySem.frameOf env; let pl ← entryPlaceOf L b; let y ← EntryCells.newEntry hd x .none (rawInt L) .none pl; setField (.ref a) 1 y) Q E s1 := fun s1 I1 oe1 hd b g1 g2 g3 g4 => by
    refine entry_at (base := X.base) fr0 (by rw [← hst]; exact I1.stack) hf0 hf g1 g4 sz fun h' T oT ts k1 k2 k3 k4 k5 k6 k7 ⟨o', k8, k9, k10, k11⟩ => q _ ?_
    have nT : H T = none := I1.hok.fresh k3
    have wT : Nw X pins T := ⟨.inr (Heap.get?_none_of_le (Nat.le_trans I1.sz k3)), fun p hp z => by
      have := (I1.pin p hp).1
      rw [z, Heap.get?_none_of_le k3] at this; cases this⟩
    refine ⟨inv_moved I1 (ch := [a]) (fun b hb => ?_) (fun b o hb nb nf => k1 b o hb (fun z => nb (by simp [z])) (by rw [← hst]; exact nf)) (fun b o hb mf => k2 b o hb (by rw [← hst]; exact mf)), f1, f2, o', _, .ref T, k8, k9.trans g2, k10.trans g3, k11, by simp [sz], .inr ⟨T, oT, ts, rfl, k4, wT, nT, k5, k6, k7⟩⟩
    have z : b = a := by simpa using hb
    subst z
    exact ⟨f1, f2, oe1, vs, g1, g4⟩
  rcases h6 with ⟨_, rfl⟩ | ⟨T, oT, ts, rfl, t1, t2, t3, t4, t5, t6⟩
  · rw [if_neg (by decide)]
    exact fin s I oe .none _ h1 h2 h3 h4
  · rw [if_pos (show (Value.ref T != Value.none) = true from by simp)]
    obtain ⟨v3, e3⟩ : ∃ v3, ts[3]? = some v3 := ⟨ts[3], Array.getElem?_eq_some_iff.mpr ⟨t6, rfl⟩⟩
    refine wpAny_bind (wpAny_field t4 t5 e3 ?_)
    by_cases hv : (v3 == rawInt L) = true
    · rw [if_pos hv]
      exact wpAny_pure (q s ⟨I, f1, f2, oe, vs, .ref T, h1, h2, h3, h4, h5, .inr ⟨T, oT, ts, rfl, t1, t2, t3, t4, t5, t6⟩⟩)
    · rw [if_neg hv]
      refine wpAny_bind (wpAny_setField t4 t5 t6 ?_)
      have I1 : Inv X pins σ H { s with heap := s.heap.update T (Obj.mapFields (·.setIfInBounds 3 .none)) } := by
        refine inv_moved I (ch := [T]) (fun b hb => ?_) (fun b o hb nb _ => (upd_other fun z => nb (by simp [z])).trans hb) (fun b o hb mf => ⟨o.slots, (upd_other fun z => ?_).trans hb⟩)
        · have z : b = T := by simpa using hb
          subst z
          exact ⟨t2, t3, oT, ts, t4, t5⟩
        · subst z
          obtain ⟨_, o', e', d'⟩ := I.stack.mem mf
          rw [t4] at e'; cases e'
          exact d' ts t5
      exact fin _ I1 oe _ _ ((upd_other (Ne.symm t1)).trans h1) h2 h3 h4
theorem FlyI.flight (F : FlyI X pins σ H C true a s) (A' : Around) (f : Option Addr) (q : ∀ s', FlyI X pins σ H C true a s' → Q () s') : wpAny M A' (setFlight (.ref a) f) Q E s := by
  obtain ⟨I, f1, f2, oe, vs, tb, h1, h2, h3, h4, h5, h6⟩ := F
  rcases h6 with ⟨z, _⟩ | ⟨T, oT, ts, rfl, t1, t2, t3, t4, t5, t6⟩
  · cases z
  unfold setFlight
  refine wpAny_bind (wpAny_field h1 h4 h5 ?_)
  rw [if_pos (show (Value.ref T != Value.none) = true from by simp)]
  refine wpAny_setField t4 t5 t6 (q _ ?_)
  obtain ⟨o', k1, k2, k3, k4⟩ := upd_fields (i := 3) (x := f.elim .none fun f => rawInt f) t4 t5
  refine ⟨inv_moved I (ch := [T]) (fun b hb => ?_) (fun b o hb nb _ => (upd_other fun z => nb (by simp [z])).trans hb) (fun b o hb mf => ⟨o.slots, (upd_other fun z => ?_).trans hb⟩), f1, f2, oe, vs, .ref T, (upd_other (Ne.symm t1)).trans h1, h2, h3, h4, h5, .inr ⟨T, o', _, rfl, t1, t2, t3, k1, k4, by simpa using t6⟩⟩
  · have z : b = T := by simpa using hb
    subst z
    exact ⟨t2, t3, oT, ts, t4, t5⟩
  · subst z
    obtain ⟨_, o', e', d'⟩ := I.stack.mem mf
    rw [t4] at e'; cases e'
    exact d' ts t5
theorem FlyI.pass {α : Type} {R : α → Shared → Prop} {what : String} (F : FlyI X pins σ H C true a s) (A' : Around) (q : ∀ s', FlyI X pins σ H C true a s' → E (.ref a) s') : wpAny M A' (PySem.passOn what (.ref a) env : Sem α) R E s := by
  obtain ⟨I, f1, f2, oe, vs, tb, h1, h2, h3, h4, h5, h6⟩ := id F
  unfold PySem.passOn
  refine wpAny_bind (wpAny_field h1 h4 h5 ?_)
  have hne : (tb == Value.none) = false := by
    rcases h6 with ⟨z, _⟩ | ⟨T, _, _, rfl, _⟩
    · cases z
    · rfl
  rw [hne, if_neg Bool.false_ne_true]
  exact wpAny_bind (F.flight A' _ fun s' F' => wpAny_throw (q s' F'))
theorem FlyI.leave (F : FlyI X pins σ H C n a s) (hst : X.stack = env0 :: outer) (hf0 : env0.frame = some L) (hf : env.frame = some L) (A' : Around) (hA : A'.frames = some X.stack)
    (q : ∀ s', FlyI X pins σ H C true a s' → Q () s') : wpAny M A' (leaving env (.ref a)) Q E s := by
  unfold leaving
  exact wpAny_bind (F.note hst hf0 hf A' hA fun s1 F1 => F1.flight A' _ q)
end
def CXN (P : Program) (w : World) (C : Value) : CXT := fun outer H s _ e s' =>
  ∃ a H', e = .ref a ∧ s'.os = s.os ∧ AllBare s'.gens ∧ Un (frs outer) [] H H' s.heap s'.heap ∧ HOk P w H' s'.heap ∧ FlyO C (fun b => s.heap.get? b = none) true H' s'.heap a
section
variable {X : Cx} {C : Value} {E : XK}
theorem Nw.of {pins : List (Addr × Obj)} {σ : St} {H : Hp} {s : Shared} (I : Inv X pins σ H s) {b : Addr} (h : s.heap.get? b = none) : Nw X pins b := by
  refine ⟨?_, fun p hp z => ?_⟩
  · by_cases hx : b ∈ X.ex
    · exact .inl hx
    · refine .inr ?_
      cases e : X.s₀.heap.get? b with
      | none => rfl
      | some o =>
        obtain ⟨o', q⟩ := I.base.there b o e hx
        rw [h] at q; cases q
  · have := (I.pin p hp).1
    rw [z, h] at this; cases this
theorem fly_behind {pins : List (Addr × Obj)} {σ : St} {H H' : Hp} {s s' : Shared} {a : Addr} (I : Inv X pins σ H s) (os : s'.os = s.os) (bare : AllBare s'.gens) (un : Un (frs X.stack) [] H H' s.heap s'.heap) (hok : HOk X.prog X.w H' s'.heap)
    (f : FlyO C (fun b => s.heap.get? b = none) true H' s'.heap a) : FlyI X pins σ H' C true a s' :=
  ⟨I.call' (ch := []) os un hok bare (fun b z => absurd z (by simp)), f.mono fun b hb => Nw.of I hb⟩
theorem FlyI.bare {pins : List (Addr × Obj)} {σ : St} {H : Hp} {n : Bool} {a : Addr} {s : Shared} (F : FlyI X pins σ H C n a s) : FlyI X [] σ H C n a s :=
  ⟨F.inv.pins_of fun p hp => absurd hp (by simp), F.fly.mono fun b hb => ⟨hb.1, fun p hp => hb.2 p (by rw [List.append_nil] at hp; exact List.mem_append_left _ hp)⟩⟩
theorem pass_of (hx : ∀ e s', xeF X C true e s' → X.xe e s') : Passes (CXN X.prog X.w C) X E := fun pins σ H s e s' I ⟨a, H', he, os, bare, un, hok, f⟩ =>
  hx e s' ⟨a, σ, H', he, (fly_behind I os bare un hok f).bare⟩
theorem leave_of {P : Program} {w : World} {K : PySem.W.Frag} {mg : Str → Option Value} {base : Heap} {N : List Str} {qual : Str} {scope : Scope} {f : Addr} {cd : Value} {A : Around} {outer : List Env} {s : Shared} {H : Hp} {E : XK} {n : Bool} {e : Value} {s' : Shared}
    (h : xeF (cxOf (CXN P w C) P w K mg base N qual scope f cd A outer s H E) C n e s') : (cxOf (CXN P w C) P w K mg base N qual scope f cd A outer s H E).xe e s' := by
  obtain ⟨a, σ, H1, rfl, F⟩ := h
  refine F.leave (env0 := envOfC qual scope s.heap.objs.size f cd) (outer := outer) (L := s.heap.objs.size) rfl rfl rfl _ F.inv.ok.frames fun s2 F2 => ?_
  obtain ⟨I2, f2⟩ := F2
  exact ⟨a, H1, rfl, I2.os, I2.bare, I2.base, I2.hok, f2.mono fun b hb => hb.1.elim (fun z => absurd (show b ∈ ([] : List Addr) from z) (by simp)) id⟩
end
end L3
set_option Elab.async false
set_option linter.all false
set_option maxRecDepth 100000
set_option maxHeartbeats 4000000
namespace L3
open PySem PySem.Spec PyProof.Rows L2
section
variable {prog : Program} {w : World} {A : Around} {R : Result → Shared → Prop} {s : Shared}
theorem compLoop_genE {EB : Value → Shared → Prop} {elt target iter : Expr} {ifs : List Expr} {scope : Scope} {pos : Pos} {it acc : Value} {env : Env} (I : Nat → Shared → Prop)
    (turn : ∀ n s, I n s → wpAny (model prog w) A (pyNext it) (fun r s1 => match r with
      | none => R (.ok .next) s1
      | some v => wpAny (model prog w) A (letOwnedTupleGo target it v) (fun _ s1' => wpAny (model prog w) A (assign target env v) (fun _ s2 =>
          wpAny (model prog w) A (forIn ifs true fun c r => if r = true then do let ok ← isTrue c env (eval c env); pure (ForInStep.yield ok) else pure (ForInStep.yield r)) (fun ok s3 =>
            if ok = true then wpAny (model prog w) A (eval elt env) (fun x s4 =>
              wpAny (model prog w) A (call (.builtin "list.append") [acc, x]) (fun _ s5 => ∃ m, m < n ∧ I m s5) (fun _ _ => False) s4) EB s3
            else ∃ m, m < n ∧ I m s3) (fun _ _ => False) s2) (fun _ _ => False) s1') (fun _ _ => False) s1) (fun _ _ => False) s)
    (herr : ∀ e s', EB e s' → wpAny (model prog w) A (noteFrame e env) (fun _ s2 => R (.error e) s2) (fun e2 s2 => R (.error e2) s2) s') (n : Nat) (h : I n s) :
    codeAny (model prog w) A (.compLoop (.ListComp elt [⟨target, iter, ifs, 0⟩] scope pos) 0 it acc env) R s := by
  refine codeAny_loop rfl I (fun n s hI => ?_) n h
  show wpAny _ A ((compTurn (.ListComp elt [⟨target, iter, ifs, 0⟩] scope pos) 0 it acc env).onRaise (fun x => do noteFrame x env; theTreesLotGoes x)) _ _ s
  refine wpAny_noted ?_
  rw [compTurn_list]
  refine wpAny_bind (wpAny_standAt (wpAny_bind (wpAny_mono (turn n s hI) (fun r s1 h1 => ?_) fun _ _ h' => h'.elim)))
  cases r with
  | none => exact wpAny_pure h1
  | some v =>
    refine wpAny_bind (wpAny_mono h1 (fun _ s1' h1' => ?_) fun _ _ h' => h'.elim)
    refine wpAny_bind (wpAny_mono h1' (fun _ s2 h2 => wpAny_bind (wpAny_mono h2 (fun ok s3 h3 => ?_) fun _ _ h' => h'.elim)) fun _ _ h' => h'.elim)
    cases ok with
    | false => exact wpAny_pure ⟨rfl, h3⟩
    | true =>
      exact wpAny_bind (wpAny_bind (wpAny_mono h3 (fun x s4 h4 => wpAny_bind (wpAny_mono h4 (fun _ s5 h5 => wpAny_pure (wpAny_pure ⟨rfl, h5⟩)) fun _ _ h' => h'.elim)) fun e3 s3' h' => herr e3 s3' h'))
end
section
variable {X : Cx}
theorem pe_compE {C : Value} {elt target iter : Expr} {ifs : List Expr} {scope : Scope} {pos : Pos} {N : List Str} {cap : List (Option Nat)} {wi : TI} {g : TG} {tt : TT} {te : TE}
    (hc : X.calm = true) (hi : PI X target iter wi)
    (hg : ∀ cl C fp s H, PG (compCx X N scope cl C fp s H) target g) (ht : ∀ cl C fp s H, PIfs (compCx X N scope cl C fp s H) ifs tt) (he : ∀ cl A fp s H, PE ((compCx X N scope cl A fp s H).wish (xeF (compCx X N scope cl A fp s H) C true)) elt te)
    (hx : ∀ e s', xeF X C true e s' → X.xe e s') (hst : X.stack = X.env :: X.outer) (hfm : X.env.frame = some X.env.locals)
    (hk : scope.kind = .function) (hcell : ∀ y ∈ scope.names, y.2 = .cell → scope.names.lookup y.1 = some .cell) (hnames : ∀ x ∈ scope.names, x.2 = .local → scope.names.lookup x.1 = some .local)
    (hfr : ∀ x ∈ scope.names, x.2 = .free → scope.names.lookup x.1 = some .free) (hout : ∀ x ∈ scope.names, x.2 = .free → X.env.scope.names.lookup x.1 = some .cell ∨ X.env.scope.names.lookup x.1 = some .free)
    (hcap : ∀ (i j : Nat), cap[i]? = some (some j) → ∃ x, N[i]? = some x ∧ X.N[j]? = some x ∧ scope.names.lookup x = some .free)
    (hlen : cap.length = N.length) (hs : ∀ x, foldedSetIterable iter X.env x = pure x := by intro _; rfl) :
    PE X (.ListComp elt [⟨target, iter, ifs, 0⟩] scope pos) (tComp cap wi g tt te) := by
  intro pins s σ H Q I h
  obtain ⟨cl, hclos, hcl, hcf⟩ := clo_of (env := X.env) (scope := scope) fun x hx hf => I.ok.has x.1 (hout x hx hf)
  rw [eval_ListComp]
  refine wpAny_comprehension_free (use := none) rfl hs hclos hk hnames ?_
  show wpAny _ _ (eval iter X.env) _ _ s
  refine thn (hi pins s σ H _ I h) fun v s1 h1 => thn h1 fun itv s2 h2 => ?_
  obtain ⟨it, fp, tn, J, H2, rfl, I2, T, st2, f2, hW⟩ := h2
  obtain ⟨W, ⟨m0, w0⟩, turn⟩ := hW s2.heap.objs.size I2.fresh
  refine wpAny_newObj_type (wpAny_compEnv (X := X) (E := X.xe) hcl hcf (fun x c e => by
    obtain ⟨v, o, ho, _⟩ := I2.cell x c e
    show c < (Heap.push _ _).objs.size
    rw [Heap.size_push]
    exact Nat.lt_succ_of_lt (Heap.lt_size ho)) (fun cs h4 m4 hns keep0 hcs => ?_))
  dsimp only at hns keep0 ⊢
  have I3 : Inv X pins σ (upd H2 s2.heap.objs.size (.lst [])) { s2 with heap := s2.heap.push { cls := .type "list", dict := none, data := .seq ([] : List Value).toArray } } := I2.lnew (its := []) (t' := s2.toks) .nil (Nat.zero_le _)
  generalize hs3 : ({ s2 with heap := s2.heap.push { cls := .type "list", dict := none, data := .seq ([] : List Value).toArray } } : Shared) = s3 at I3
  have hh3 : s2.heap.push { cls := .type "list", dict := none, data := .seq ([] : List Value).toArray } = s3.heap := by rw [← hs3]
  have hsz3 : s3.heap.objs.size = s2.heap.objs.size + 1 := by rw [← hh3, Heap.size_push]
  rw [hh3] at hns keep0
  have keep4 : ∀ b o, s3.heap.get? b = some o → h4.get? b = some o := keep0
  have hcs' : CellsC X scope s3 h4 cs := ⟨fun x c e => by rw [← hh3]; exact hcs.old x c e, hcs.has, fun x y c e1 e2 hc => hcs.inj x y c e1 e2 (by rw [← hh3] at hc; exact hc)⟩
  have fpn : ∀ b ∈ fp, (upd H2 s2.heap.objs.size (.lst [])) b = none ∧ FpOk X pins (upd H2 s2.heap.objs.size (.lst [])) b := fun b hb => by
    obtain ⟨o, e, _⟩ := T.obj 0 _ st2 b hb
    have ne : b ≠ s2.heap.objs.size := Nat.ne_of_lt (Heap.lt_size e)
    have z : (upd H2 s2.heap.objs.size (.lst [])) b = none := by rw [upd_ne ne]; exact (f2 b hb).1
    exact ⟨z, z, (f2 b hb).2⟩
  have hfo : ∀ b ∈ fp, ∃ o, s3.heap.get? b = some o := fun b hb => by
    obtain ⟨o, e, _⟩ := T.obj 0 _ st2 b hb
    exact ⟨o, by rw [← hh3]; exact Heap.get?_push_of_some _ e⟩
  have I4 : ∀ tk, Inv (compCx X N scope cs s3.heap.objs.size fp s3 (upd H2 s2.heap.objs.size (.lst []))) [] (capt cap σ) (upd H2 s2.heap.objs.size (.lst [])) { s3 with heap := h4, toks := tk } := fun tk =>
    inv_comp I3 hk hcell hcs' hfr (fun i j e => by
      obtain ⟨x, n1, n2, n3⟩ := hcap i j e
      exact ⟨x, n1, n2, n3, hout _ (PySem.mem_of_lookup n3) rfl⟩) hlen (fun b hb => (fpn b hb).2) hfo hns keep4
  have st4 : tn 0 h4 := T.keep _ _ _ st2 fun b _ o e => keep4 b o (by rw [← hh3]; exact Heap.get?_push_of_some _ e)
  have stat : ∀ {H' : Hp}, (∀ b ∈ fp, H' b = none) → ∀ b ∈ fp, FpOk (compCx X N scope cs s3.heap.objs.size fp s3 (upd H2 s2.heap.objs.size (.lst []))) [] H' b := fun {H'} hn b hb => by
    obtain ⟨o, e⟩ := hfo b hb
    obtain ⟨_, f1, f3, _, f5, _⟩ := f2 b hb
    refine ⟨hn b hb, Nat.ne_of_lt (Heap.lt_size e), fun z => ?_, .inl hb, fun x c e => (hcs'.old x c e).elim (fun z => f5 x c z.1) (fun z q => absurd (Heap.lt_size (q ▸ ‹s3.heap.get? b = some o›)) (Nat.not_lt.mpr (Nat.le_of_lt z.1))), fun p hp => absurd (show p ∈ ([] : List (Addr × Obj)) from hp) (by simp)⟩
    rcases List.mem_cons.mp (I3.stkSub b z) with e' | e'
    · exact f1 e'
    · exact f3 e'
  have back : ∀ {σ5 : St} {H5 : Hp} {s6 : Shared} {h' : Heap}, Inv (compCx X N scope cs s3.heap.objs.size fp s3 (upd H2 s2.heap.objs.size (.lst []))) [] σ5 H5 s6 → Heap.SameBut s3.heap.objs.size s6.heap h' → Inv X pins σ H5 { s6 with heap := h' } := fun {σ5 H5 s6 h'} I6 sb => by
    have neC : ∀ b u, H5 b = some u → b ≠ s3.heap.objs.size := fun b u e z => by
      subst z
      have := I6.free
      rw [show H5 s3.heap.objs.size = none from this] at e
      cases e
    refine I3.call' (s' := { s6 with heap := h' }) (ch := fp) I6.os ?_ (fun b u e => ?_) I6.bare (fun b hb => ?_)
    · have u6 : Un (frs X.stack) fp (upd H2 s2.heap.objs.size (.lst [])) H5 s3.heap s6.heap := I6.base
      have ex : ∀ b o, s3.heap.get? b = some o → ∀ o', s6.heap.get? b = some o' → h'.get? b = some o' := fun b o e o' e' => (sb.2 b (Nat.ne_of_lt (Heap.lt_size e))).trans e'
      exact ⟨fun b o e n hb hx => ex b o e _ (u6.keep b o e n hb hx), fun b o e n hb hx => let ⟨sl, z⟩ := u6.slot b o e n hb hx; ⟨sl, ex b o e _ z⟩, u6.free, fun b o e hx => let ⟨o', z⟩ := u6.there b o e hx; ⟨o', ex b o e _ z⟩, u6.tups, u6.frzs, u6.tbls⟩
    · refine (I6.hok b u e).stay (fun c v hc' q' => (sb.2 c ?_).trans q') (fun _ q' => q') (fun _ _ q' => q') fun _ _ _ q' => q'
      rcases hc' with rfl | hc'
      · exact neC _ _ e
      · exact neC _ _ hc'
    · obtain ⟨_, f1, _, f3, f5, f6⟩ := f2 b hb
      exact ⟨f3, f1, f5, f6⟩
  have herr : ∀ e s', xeF (compCx X N scope cs s3.heap.objs.size fp s3 (upd H2 s2.heap.objs.size (.lst []))) C true e s' → wpAny (model X.prog X.w) X.A (noteFrame e (compEnvC scope cs s3.heap.objs.size X.env))
      (fun _ s9 => compPost (model X.prog X.w) X.A X.xe none (EP X pins σ Q) (.ref s2.heap.objs.size) s3.heap.objs.size (.error e) s9) (fun e9 s9 => compPost (model X.prog X.w) X.A X.xe none (EP X pins σ Q) (.ref s2.heap.objs.size) s3.heap.objs.size (.error e9) s9) s' := by
    rintro e s' ⟨a, σ', H', rfl, F⟩
    refine F.note (env0 := X.env) (outer := X.outer) (L := X.env.locals) hst hfm hfm X.A F.inv.ok.frames fun s9 F9 => ?_
    obtain ⟨m9, hn9, _⟩ := F9.inv.loc
    refine ⟨m9, hn9, fun h' sb cenv hce => ?_⟩
    obtain ⟨I9, g1, g2, oe, vs, tb, e1, e2, e3, e4, e5, e6⟩ := F9
    have nw : ∀ b, Nw (compCx X N scope cs s3.heap.objs.size fp s3 (upd H2 s2.heap.objs.size (.lst []))) [] b → Nw X pins b := fun b hb => by
      rcases hb.1 with z | z
      · obtain ⟨_, _, _, f3, _, f6⟩ := f2 b z
        exact ⟨f3.imp id fun q => Heap.get?_none_of_le q, f6⟩
      · exact Nw.of I3 z
    have neA : ∀ {b : Addr} {o : Obj} {ws : Array Value}, s9.heap.get? b = some o → o.data = .fields ws → h'.get? b = some o := fun {b o ws} eb db => by
      refine (sb.2 b fun z => ?_).trans eb
      obtain ⟨oC, es, ep, eC, dC, _⟩ := hn9
      have : s9.heap.get? s3.heap.objs.size = some oC := eC
      rw [← z, eb] at this; cases this
      rw [db] at dC; cases dC
    have FX : FlyI X pins σ H' C true a { s9 with heap := h' } := by
      refine ⟨back I9 sb, nw _ g1, g2, oe, vs, tb, neA e1 e4, e2, e3, e4, e5, ?_⟩
      rcases e6 with e6 | ⟨T, oT, ts, y1, y2, y3, y4, y5, y6, y7⟩
      · exact .inl e6
      · exact .inr ⟨T, oT, ts, y1, y2, nw _ y3, y4, neA y5 y6, y6, y7⟩
    exact FX.pass X.A fun s' F' => hx _ _ ⟨a, σ, H', rfl, F'.bare⟩
  have loop : ∀ s4 : Shared, s4 = { s3 with heap := h4, toks := s2.toks + ([] : List (Str × Value)).length } →
      codeAny (model X.prog X.w) X.A (.compLoop (.ListComp elt [⟨target, iter, ifs, 0⟩] scope pos) 0 (.ref it) (.ref s2.heap.objs.size) (compEnvC scope cs s3.heap.objs.size X.env))
        (compPost (model X.prog X.w) X.A X.xe none (EP X pins σ Q) (.ref s2.heap.objs.size) s3.heap.objs.size) s4 := by
    rintro s4 rfl
    refine compLoop_genE (EB := xeF (compCx X N scope cs s3.heap.objs.size fp s3 (upd H2 s2.heap.objs.size (.lst []))) C true) (fun n s' => ∃ i σ' H' acc, Inv (compCx X N scope cs s3.heap.objs.size fp s3 (upd H2 s2.heap.objs.size (.lst []))) [] σ' H' s' ∧ tn i s'.heap ∧ (∀ b ∈ fp, H' b = none) ∧ W i n σ' H' acc) ?_ herr m0 ⟨0, _, _, [], I4 _, st4, fun b hb => (fpn b hb).1, w0⟩
    rintro n s5 ⟨i, σ5, H5, acc, I5, st5, fr5, w5⟩
    rcases turn i n σ5 H5 acc w5 with ⟨stop, q⟩ | ⟨go, hz, step⟩
    · refine thn (T.done (compCx X N scope cs s3.heap.objs.size fp s3 (upd H2 s2.heap.objs.size (.lst []))) rfl rfl rfl hc i [] s5 σ5 H5 _ I5 (stat fr5) st5 stop) fun r s6 ⟨hr, I6⟩ => ?_
      subst hr
      obtain ⟨m6, hn6, _⟩ := I6.loc
      refine ⟨m6, hn6, fun h' sb => ?_⟩
      exact ⟨.ref s2.heap.objs.size, H5, back I6 sb, rfl, q⟩
    · refine thn (T.item (compCx X N scope cs s3.heap.objs.size fp s3 (upd H2 s2.heap.objs.size (.lst []))) rfl rfl rfl hc i [] s5 σ5 H5 _ I5 (stat fr5) st5 go) fun r s6 ⟨u, hr, h6⟩ => ?_
      subst hr
      refine thn h6 fun _ s7 ⟨x, H7, I7, r7, y7, st7, fr7⟩ => ?_
      have I7' := I7.pinned (stat fr7) (T.obj _ _ st7)
      refine thn (hg _ _ _ _ _ _ s7 σ5 H7 x u _ I7' r7 (step x H7 y7)) fun _ s8 ⟨σ8, H8, I8, q8⟩ => ?_
      refine thn (ht _ _ _ _ _ _ s8 σ8 H8 _ I8 q8) fun ok s9 ⟨H9, I9, q9⟩ => ?_
      have again : ∀ {s' : Shared} {σ' : St} {H' : Hp} {acc' : List V} {m' : Nat}, Inv (compCx X N scope cs s3.heap.objs.size fp s3 (upd H2 s2.heap.objs.size (.lst []))) ([] ++ pinsAt fp s7.heap) σ' H' s' → m' < n → W (i + 1) m' σ' H' acc' →
          ∃ m, m < n ∧ ∃ i σ'' H'' acc, Inv (compCx X N scope cs s3.heap.objs.size fp s3 (upd H2 s2.heap.objs.size (.lst []))) [] σ'' H'' s' ∧ tn i s'.heap ∧ (∀ b ∈ fp, H'' b = none) ∧ W i m σ'' H'' acc := fun {s' σ' H' acc' m'} I' hm w' => by
        refine ⟨m', hm, i + 1, σ', H', acc', I'.unpinned, T.keep _ _ _ st7 fun b hb o e => (I'.pin (b, o) (List.mem_append_right _ (List.mem_append_right _ (mem_pinsAt hb e)))).1, fun b hb => ?_, w'⟩
        obtain ⟨o, e, d⟩ := T.obj _ _ st7 b hb
        exact (I'.pin (b, o) (List.mem_append_right _ (List.mem_append_right _ (mem_pinsAt hb e)))).2.1
      cases ok with
      | false =>
        rw [if_neg Bool.false_ne_true] at q9
        obtain ⟨m', hm, w'⟩ := q9
        exact again I9 hm w'
      | true =>
        rw [if_pos rfl] at q9
        show wpAny _ _ (eval elt _) _ _ s9
        refine thn (he _ _ _ _ _ _ s9 σ8 H9 _ (I9.wish _) q9) fun xv s10 ⟨y, H10, I10w, r10, hl10, m', hm, w'⟩ => ?_
        have I10 := I10w.unwish
        refine thn (mt_append _ s10 σ8 H10 (.ref s2.heap.objs.size) [y] (.ref s2.heap.objs.size) [xv] (fun (_ : V) (H' : Hp) => H' = upd H10 s2.heap.objs.size (.lst (acc ++ [y]))) I10 rfl (.cons r10 .nil) ⟨_, acc, y, rfl, rfl, hl10, hz, rfl⟩) fun _ s11 ⟨_, H11, I11, _, e11⟩ => ?_
        have e11' : H11 = upd H10 s2.heap.objs.size (.lst (acc ++ [y])) := e11
        subst e11'
        exact again I11 hm w'
  have hx : ∀ s4 : Shared, s4 = { s3 with heap := h4, toks := s2.toks + ([] : List (Str × Value)).length } → tn 0 s4.heap := by
    rintro s4 rfl
    exact st4
  subst hs3
  exact codeAny_compStart_list (loop _ rfl) (T.self X.A 0 _ _ _ (hx _ rfl) (loop _ rfl))
end
end L3
set_option Elab.async false
set_option linter.all false
set_option maxRecDepth 100000
set_option maxHeartbeats 4000000
namespace L3
open PySem PySem.Spec PyProof.Rows L2
def bad : D := .dct [Sum.inl 0] []
mutual
def isBad : D → Bool
  | .dct ks vs => ks.length != vs.length || isBadL vs
  | .tup ds => isBadL ds
  | .lst ds => isBadL ds
  | _ => false
def isBadL : List D → Bool
  | [] => false
  | d :: ds => isBad d || isBadL ds
end
mutual
theorem not_bad {K : PySem.W.Frag} {H : Hp} : ∀ {d : D} {v : V}, isBad d = true → Rep K H d v → False
  | .non, _, e, _ => by rw [isBad] at e <;> first | cases e | (intros; intro z; cases z)
  | .bl _, _, e, _ => by rw [isBad] at e <;> first | cases e | (intros; intro z; cases z)
  | .int _, _, e, _ => by rw [isBad] at e <;> first | cases e | (intros; intro z; cases z)
  | .str _, _, e, _ => by rw [isBad] at e <;> first | cases e | (intros; intro z; cases z)
  | .tup ds, _, e, h => by
    rw [isBad] at e
    obtain ⟨a, xs, _, _, r⟩ := rep_tup.mp h
    exact not_badL e r
  | .lst ds, _, e, h => by
    rw [isBad] at e
    obtain ⟨a, xs, _, _, r⟩ := rep_lst.mp h
    exact not_badL e r
  | .dct ks ds, _, e, h => by
    rw [isBad, Bool.or_eq_true] at e
    obtain ⟨a, kvs, _, _, r1, r2⟩ := rep_dct.mp h
    rcases e with e | e
    · have l := r2.length
      rw [List.length_map] at l
      have l2 := congrArg List.length r1
      rw [List.length_map] at l2
      rw [bne_iff_ne] at e
      exact e (l2.symm.trans l.symm)
    · exact not_badL e r2
theorem not_badL {K : PySem.W.Frag} {H : Hp} : ∀ {ds : List D} {vs : List V}, isBadL ds = true → RepL K H ds vs → False
  | [], _, e, _ => by rw [isBadL] at e; cases e
  | d :: ds, _, e, h => by
    rw [isBadL, Bool.or_eq_true] at e
    obtain ⟨v, vs, _, r1, r2⟩ := repl_cons.mp h
    rcases e with e | e
    · exact not_bad e r1
    · exact not_badL e r2
end
abbrev VE : List Value := [.type "ValueError", .type "Exception", .type "BaseException", .type "object"]
theorem exc_obj {K : PySem.W.Frag} {h : Heap} {C : Addr} {bmB : List Value} {newId : String} (X : K.In h) (q : PySem.W.excIn K C bmB newId = true) :
    ∃ bm N nm q bs hdct sn sub ab col dd k0 k1 k2 k3 k5, ∃ mN : Str → Option Value, h.get? C = some (excClassObj nm q C N bs bm hdct sn sub ab col dd k0 k1 k2 k3 k5 newId) ∧ h.Ns N mN ∧ mN "__init__" = none ∧ OwnTail h bmB bm := by
  unfold PySem.W.excIn at q
  split at q
  · rename_i dd0 cd0 sl0 e0
    split at q
    · rename_i C1 tl s0 s1 s2 s3 nw s5 e1 e2
      simp only [Bool.and_eq_true, beq_iff_eq, Bool.not_eq_true'] at q
      obtain ⟨⟨⟨⟨⟨q1, q2⟩, q3⟩, q4⟩, q5⟩, q6⟩ := q
      subst q1 q2
      obtain ⟨a1, a2, a3, a4, a5, a6, a7, a8, a9, a10, a11⟩ := cd0
      dsimp only at e1 q3 q5 q6
      subst e1 q3
      obtain ⟨sl⟩ := sl0
      dsimp only at e2
      subst e2
      exact ⟨tl, a4, a1, a5, a2, a6, a7, a8, a9, a10, dd0, s0, s1, s2, s3, s5, _, X _ _ e0, .of_isNs (PySem.W.isNs_of_in X q5), PySem.W.nsMap_none_of_in X q5 q6, PySem.W.tail_of_in X q4⟩
    · cases q
  · cases q
theorem obj_here {P : Program} {w : World} {H : Hp} {h : Heap} {a : Addr} : ∀ {o : HO}, ObjOk P w H h a o → ∃ ob, h.get? a = some ob := by
  intro o
  induction o with
  | lst xs => rintro ⟨_, _, _, _, e⟩; exact ⟨_, e⟩
  | tup xs => rintro ⟨_, _, _, ob, e, _⟩; exact ⟨_, e⟩
  | dK kvs => rintro ⟨_, _, _, _, o, _, _, e, _⟩; exact ⟨_, e⟩
  | dT kvs => rintro ⟨_, _, _, _, o, _, _, e, _⟩; exact ⟨_, e⟩
  | set S n => rintro ⟨o, _, _, _, e, _⟩; exact ⟨_, e⟩
  | ins C dx fs => rintro ⟨_, _, _, e, _⟩; exact ⟨_, e⟩
  | own y => rintro ⟨_, e⟩; exact ⟨_, e⟩
  | xd fs => rintro ⟨_, ⟨_, _, _, e, _⟩, _⟩; exact ⟨_, e⟩
  | rng lo hi => rintro ⟨_, _, _, e⟩; exact ⟨_, e⟩
  | frz ob u _ => rintro ⟨e, _⟩; exact ⟨_, e⟩
  | tbl ps => rintro ⟨_, e, _⟩; exact ⟨_, e⟩
  | met f y => intro x; exact ⟨_, (show h.get? a = some _ from x)⟩
  | ext φ => rintro ⟨_, ⟨_, e⟩, _⟩; exact ⟨_, e⟩
theorem hok_none {P : Program} {w : World} {H : Hp} {h : Heap} {a : Addr} (x : HOk P w H h) (e : h.get? a = none) : H a = none := by
  cases q : H a with
  | none => rfl
  | some o =>
    obtain ⟨ob, e'⟩ := obj_here (x a o q)
    rw [e] at e'; cases e'
section
variable {X : Cx}
theorem ps_raise {x : Str} {C : Addr} {np cpos pos : Pos} {arg : Expr} {te : TE} (hC : PySem.W.excIn X.K C VE "ValueError.__new__" = true) (hg : Gl X x) (hm : X.mg x = some (.ref C)) (hc : X.calm = true) (ha : PE X arg te)
    (hx : ∀ e s', xeF X (.ref C) false e s' → X.xe e s') (hd : (x == ("__debug__" : Str)) = false := by decide) (he : starEach [arg] X.env = (false, eval arg X.env) :: starEach [] X.env := by exact star_of rfl) :
    PS X (.Raise (some (.Call (.Name x np) [arg] [] cpos)) none pos) (fun _ σ H => te σ H fun y _ => [y].length ≤ 1) := by
  intro pins s σ H D I h
  obtain ⟨bm, N, nm, q, bs, hdct, sn, sub, ab, col, dd, k0, k1, k2, k3, k5, mN, oC, oN, oi, oT⟩ := exc_obj I.mod.kin hC
  refine wpAny_Raise_call_subU (C := C) (nm := nm) (q := q) (N := N) (bs := bs) (bm := bm) (hdct := hdct) (sn := sn) (sub := sub) (ab := ab) (col := col) (dd := dd) (k0 := k0) (k1 := k1) (k2 := k2) (k3 := k3) (k5 := k5)
    PySem.F.excBase_ValueError (by rfl) PySem.F.excBase_ValueError (mN := mN) (oT.hasType PySem.F.excBase_ValueError.hasBase) (I.ok.hd hc) (by rw [he]; rfl) oi (ld_glob I hg hm ⟨rfl, ?_⟩ hd)
  have hp := (pa_cons ha pa_nil he) cpos pins s σ H (fun vs _ => vs.length ≤ 1) I h
  rw [he] at hp ⊢
  refine Calls.evalArgs_plain (thn hp fun us s2 ⟨vs, H1, I1, r, ql⟩ => ⟨rfl, ?_, I1.bk _ _ oC, oN.keeps I1.bk, oT.keeps I1.bk, fun h' e hmk => ?_⟩)
  · show us.length ≤ sizeLine
    rw [← r.length]
    exact Nat.le_trans ql (by rw [sizeLine_eq]; decide)
  · obtain ⟨t, e1, _, _⟩ := hmk.there
    exact hx _ _ ⟨e, σ, H1, rfl, (I1.kept (t' := s2.toks) hmk.keeps).pins_of (fun p hp => absurd hp (by simp)), (Nw.of (I1.pins_of (pins' := []) fun p hp => absurd hp (by simp)) hmk.new), hok_none I1.hok hmk.new,
      _, _, .none, e1, rfl, rfl, rfl, rfl, .inl ⟨rfl, rfl⟩⟩
def dRaise (f : DEnv → Option D) : DEnv → Option Out := fun ρ => match f ρ with | some _ => some (.rt bad) | none => none
theorem ss_raise {x : Str} {C : Addr} {np cpos pos : Pos} {arg : Expr} {f : DEnv → Option D} (hC : PySem.W.excIn X.K C VE "ValueError.__new__" = true) (hm : X.mg x = some (.ref C)) (hc : X.calm = true) (ha : SE X arg f)
    (hx : ∀ e s', xeF X (.ref C) false e s' → X.xe e s') (hg : Gl X x := by rfl) (hd : (x == ("__debug__" : Str)) = false := by decide) (he : starEach [arg] X.env = (false, eval arg X.env) :: starEach [] X.env := by exact star_of rfl) :
    SS X (.Raise (some (.Call (.Name x np) [arg] [] cpos)) none pos) (dRaise f) :=
  ps_weak (ps_raise hC hg hm hc ha hx hd he) fun E σ H ⟨ρ, o, B, H0, V0, Z, e, r, q⟩ => by
    unfold dRaise at e
    split at e
    · rename_i d ed
      exact ⟨ρ, d, B, H0, V0, Z, ed, r, fun v H' s rr => Nat.le_refl _⟩
    · cases e
theorem ss_off {st : Stmt} : SS X st (fun _ => none) := fun pins s σ H D I ⟨ρ, o, B, H0, V0, Z, e, r, q⟩ => by cases e
def dSeqB (i : Nat) (g k : DEnv → Option Out) : DEnv → Option Out := fun ρ => match g ρ with
  | some (.nx ρ') => (match ρ'[i]? with | some (some (.sh d)) => if isBad d = true then some (.rt bad) else k ρ' | _ => k ρ')
  | o => o
theorem ss_consB (i : Nat) {st : Stmt} {rest : List Stmt} {g k : DEnv → Option Out} (h1 : SS X st g) (h2 : SSs X rest k) : SSs X (st :: rest) (dSeqB i g k) :=
  pss_weak (pss_cons h1 h2) fun E σ H ⟨ρ, o, B, H0, V0, Z, e, r, q⟩ => by
    unfold dSeqB at e
    split at e
    · rename_i ρ' eg
      refine ⟨ρ, _, B, H0, V0, Z, eg, r, fun σ' H' Z' r' => ?_⟩
      split at e
      · rename_i d ed
        split at e
        · rename_i hb
          obtain ⟨v, _, rv⟩ := r'.sh i d ed
          exact (not_bad hb rv).elim
        · exact ⟨ρ', o, B, H0, V0, Z', e, r', q⟩
      · exact ⟨ρ', o, B, H0, V0, Z', e, r', q⟩
    · rename_i hne
      refine ⟨ρ, o, B, H0, V0, Z, e, r, ?_⟩
      cases o with
      | nx ρ' => exact absurd e (hne ρ')
      | bk ρ' => exact q
      | ct ρ' => exact q
      | rt d => exact q
end
def spB (FB : Str → Prop) : Sp := fun vs _ _ _ => ∃ y, vs = [.str y] ∧ FB y
def badOf (FX : List D → Option D) : List D → Option D
  | [.str y] => (match FX [.str y] with | some d => if isBad d = true then some d else none | none => none)
  | _ => none
def orBad (F1 FX : List D → Option D) : List D → Option D := fun ds => match F1 ds with | some d => some d | none => badOf FX ds
theorem badOf_some {FX : List D → Option D} {ds : List D} {d : D} (h : badOf FX ds = some d) : ∃ y, ds = [.str y] ∧ isBad d = true ∧ FX [.str y] = some d := by
  unfold badOf at h
  split at h
  · rename_i y
    split at h
    · rename_i d' e
      split at h
      · rename_i hb
        cases h
        exact ⟨y, rfl, hb, e⟩
      · cases h
    · cases h
  · cases h
structure FnB (P : Program) (w : World) (K : PySem.W.Frag) (mg : Str → Option Value) (base : Heap) (C : Value) (k : Nat) (x : Str) (ps : List Str) (FX : List D → Option D) : Prop where
  ex : ∃ f fd, FnOk P w K mg base (CXN P w C) k f fd ps (spB fun y => ∃ d, FX [.str y] = some d ∧ isBad d = true) ∧ mg x = some (.ref f) ∧ PySem.W.keepIn K (.ref f) = true ∧ Binds K fd ps []
theorem fn_b {P : Program} {w : World} {K : PySem.W.Frag} {mg : Str → Option Value} {base : Heap} {C : Value} {x p : Str} {st : Stmt} {N : List Str} {k : Nat} {g : DEnv → Option Out} (G : Stands K mg x st) (S : FnScope N [p] (defScope st)) (hTB : ∀ H, TB K H)
    (hb : ∀ (kV doc pm : Value) (an : Option Addr) (cdv ct : Value) (us : List Value), us.length = [p].length → bindArgs (PySem.W.fnOf x x (defArgs st) (defBody st) (defScope st) .none kV doc pm an cdv ct) ⟨us, []⟩ = pure ([p].zip us))
    (hbody : ∀ (f : Addr) (cdv : Value) (A : Around) (outer : List Env) (s : Shared) (H : Hp) (E : XK), Room k (A.deeper (envOfC x (defScope st) s.heap.objs.size f cdv)) →
      SSs (cxOf (CXN P w C) P w K mg base N x (defScope st) f cdv A outer s H E) (defBody st) g) : FnB P w K mg base C (k + 1) x [p] (dFn 1 N g) := by
  obtain ⟨f, fd, G1, G2⟩ := G.ex
  refine ⟨f, fd, ?_, G2, G1.kp, G1.binds hb⟩
  obtain ⟨oc, od, kV, doc, pm, an, cdv, ct, osl, rfl, lk, hcd⟩ := G1.ex
  refine fn_of lk hcd S (fun vs H Q E ⟨y, hy, _⟩ => by rw [hy]; rfl) fun A outer s H vs Q E hr ⟨y, hy, d, e, hbd⟩ => ⟨_, hbody f cdv A outer s H E hr, ?_⟩
  subst hy
  unfold dFn at e
  rw [if_pos (by rfl)] at e
  cases ho : g (startD N [.str y]) with
  | none => rw [ho] at e; cases e
  | some o =>
    refine ⟨startD N [.str y], o, [], H, hide [] H, [], ho, sr_start ⟨hTB H, fun z hz => absurd hz (by simp)⟩ (RepL.one (rep_str.mpr rfl)), ?_⟩
    rw [ho] at e
    cases o with
    | rt d' => cases e; exact fun v H' s' rv => (not_bad hbd rv).elim
    | nx ρ => cases e; rw [isBad] at hbd <;> first | cases hbd | (intros; intro z; cases z)
    | bk _ => cases e
    | ct _ => cases e
section
variable {X : Cx} {pos : Pos}
theorem se_fnX {j1 j2 k : Nat} {ps : List Str} {F1 FX : List D → Option D} {C : Value} {x : Str} {p : Pos} {e : Expr} {es : List Expr} {g : DEnv → Option (List D)} (G1 : FnD X.prog X.w X.K X.mg X.base j1 x ps F1) (G2 : FnB X.prog X.w X.K X.mg X.base C j2 x ps FX)
    (hr : Room k X.A) (ha : SA X (e :: es) g) (hx : ∀ e s', xeF X C true e s' → X.xe e s') (hj1 : j1 ≤ k := by decide) (hj2 : j2 ≤ k := by decide)
    (hg : Gl X x := by rfl) (hdb : (x == ("__debug__" : Str)) = false := by decide) (he : starEach (e :: es) X.env = (false, eval e X.env) :: starEach es X.env := by exact star_of rfl) (hpl : (backTo pos (starEach es X.env)).any (·.1) = false := by exact back_of rfl) :
    SE X (.Call (.Name x p) (e :: es) [] pos) (dCall (orBad F1 FX) g) := by
  intro pins s σ H Q I ⟨ρ, d, B, H0, V0, Z, e, r, q⟩
  unfold dCall at e
  split at e
  · rename_i ds eds
    unfold orBad at e
    split at e
    · rename_i d' e1
      cases e
      exact se_fn G1 hr ha hj1 hg hdb he hpl pins s σ H Q I ⟨ρ, d, B, H0, V0, Z, by unfold dCall; rw [eds]; exact e1, r, q⟩
    · obtain ⟨y, rfl, hb, e2⟩ := badOf_some e
      obtain ⟨f, fd, g1, g2, g3, g4⟩ := G2.ex
      refine pe_call g1 (hr.mono hj2) hg g2 g3 g4 .nil (E := E0) (pass_of hx) ha hdb he hpl pins s σ H Q I ⟨ρ, [.str y], B, H0, V0, Z, eds, r, fun vs H1 s1 r1 => ?_⟩
      show spB _ (vs ++ []) H1 Q E0
      rw [List.append_nil]
      obtain ⟨v, vs', rfl, rv, rn⟩ := repl_cons.mp r1
      rw [repl_nil] at rn
      subst rn
      rw [rep_str] at rv
      subst rv
      exact ⟨y, rfl, d, e2, hb⟩
  · cases e
theorem sf_compE {C : Value} {elt target iter : Expr} {ifs : List Expr} {scope : Scope} {fi : DEnv → Option (List D)} {h : D → DEnv → Option DEnv} {ft : DEnv → Option Bool} {fe : DEnv → Option D} (N : List Str) (cap : List (Option Nat))
    (hc : X.calm = true) (hi : SIc X target iter fi) (hx : ∀ e s', xeF X C true e s' → X.xe e s') (hst : X.stack = X.env :: X.outer) (hfm : X.env.frame = some X.env.locals)
    (hg : ∀ cl A fp s H, SG (compCx X N scope cl A fp s H) target h) (ht : ∀ cl A fp s H, PIfs (compCx X N scope cl A fp s H) ifs (tT X.K ft)) (he : ∀ cl A fp s H, SE ((compCx X N scope cl A fp s H).wish (xeF (compCx X N scope cl A fp s H) C true)) elt fe)
    (hok : compOk scope X.env.scope N cap X.N = true := by rfl) (hs : ∀ x, foldedSetIterable iter X.env x = pure x := by intro _; rfl) :
    SF X (.ListComp elt [⟨target, iter, ifs, 0⟩] scope pos) (dComp cap fi h ft fe) := by
  unfold compOk at hok
  simp only [Bool.and_eq_true] at hok
  obtain ⟨⟨⟨⟨⟨⟨h1, h2⟩, h3⟩, h4⟩, h5⟩, h6⟩, h7⟩ := hok
  rw [List.all_eq_true] at h2 h3 h4 h5 h7
  refine pe_weak (pe_compE (N := N) (cap := cap) (g := tG X.K h) (te := tD X.K fe) hc hi hg ht he hx hst hfm (by simpa using h1) (fun y hy e => by have z := h2 y hy; rw [e] at z; simpa using z) (fun y hy e => ?_) (fun y hy e => ?_) (fun y hy e => ?_) (fun i j e => ?_) (by simpa using h6) hs) (comp_imp fun i j k e1 e2 => ?_)
  · have z := h3 y hy
    rw [e] at z
    simpa using z
  · have z := h4 y hy
    rw [e] at z
    simp only [beq_self_eq_true, if_true, Bool.and_eq_true] at z
    simpa using z.1
  · have z := h4 y hy
    rw [e] at z
    simp only [beq_self_eq_true, if_true, Bool.and_eq_true, Bool.or_eq_true] at z
    simpa using z.2
  · have hi' : i < cap.length := (List.getElem?_eq_some_iff.mp e).1
    have z := h5 i (List.mem_range.mpr hi')
    rw [e] at z
    dsimp only at z
    split at z
    · rename_i x hx
      split at z
      · rename_i y hy
        simp only [Bool.and_eq_true, beq_iff_eq] at z
        obtain ⟨z1, z2⟩ := z
        subst z1
        exact ⟨x, hx, hy, z2⟩
      · cases z
    · cases z
  · have hi' : i < cap.length := (List.getElem?_eq_some_iff.mp e1).1
    have hj' : j < cap.length := (List.getElem?_eq_some_iff.mp e2).1
    have z := h7 i (List.mem_range.mpr hi')
    rw [List.all_eq_true] at z
    have z2 := z j (List.mem_range.mpr hj')
    rw [e1, e2] at z2
    simpa using z2
theorem xeF.unwish {C : Value} {n : Bool} {e : Value} {s : Shared} {E : Value → Shared → Prop} (h : xeF (X.wish E) C n e s) : xeF X C n e s := by
  obtain ⟨a, σ, H, he, F⟩ := h
  exact ⟨a, σ, H, he, F.inv.unwish, F.fly⟩
end
end L3
set_option Elab.async false
set_option linter.all false
set_option maxRecDepth 100000
set_option maxHeartbeats 4000000
namespace L3
open PySem PySem.Spec PyProof.Rows L2
def frzH (h : Heap) (H : Hp) : Hp := fun b => match H b with
  | none => none
  | some _ => (match h.get? b with | some o => some (.frz o (.own b)) | none => none)
section
variable {P : Program} {w : World} {H H' : Hp} {h h' : Heap} {fs : List Addr}
theorem frz_none {b : Addr} (n : H b = none) : frzH h H b = none := by unfold frzH; rw [n]
theorem frz_some {b : Addr} {u : HO} {o : Obj} (e : H b = some u) (q : h.get? b = some o) : frzH h H b = some (.frz o (.own b)) := by unfold frzH; rw [e]; dsimp only; rw [q]
theorem frz_ok : HOk P w (frzH h H) h := fun b u e => by
  unfold frzH at e
  split at e
  · cases e
  · split at e
    · rename_i o q
      cases e
      exact ⟨q, o, q⟩
    · cases e
theorem unfrz_kept (hok : HOk P w H h) (un : Un fs [] (frzH h H) H' h h') (hok' : HOk P w H' h') {b : Addr} {u : HO} {o : Obj} (e : H b = some u) (q : h.get? b = some o) : h'.get? b = some o := by
  have z := un.frzs b o (.own b) (frz_some e q)
  exact (show ObjOk P w H' h' b (.frz o (.own b)) from hok' b _ z).1
theorem unfrz_un (hok : HOk P w H h) (un : Un fs [] (frzH h H) H' h h') : Un fs [] H H h h' :=
  ⟨fun b o e n hb hx => un.keep b o e (frz_none n) hb hx, fun b o e n hb hx => un.slot b o e (frz_none n) hb hx, fun _ _ _ n _ => n, fun b o e hx => un.there b o e hx, fun _ _ e => e, fun _ _ _ e => e, fun b ps e => ⟨#[], by rw [e]; simp⟩⟩
theorem unfrz_ok (hok : HOk P w H h) (un : Un fs [] (frzH h H) H' h h') (hok' : HOk P w H' h') : HOk P w H h' := fun b u e =>
  (hok b u e).stay (fun c v hc q => by
    rcases hc with rfl | hc
    · exact unfrz_kept hok un hok' e q
    · exact unfrz_kept hok un hok' hc q) (fun _ q => q) (fun _ _ q => q) fun _ _ _ q => q
theorem unfrz_none (hok : HOk P w H h) (un : Un fs [] (frzH h H) H' h h') {b : Addr} (n : H' b = none) : H b = none := by
  cases e : H b with
  | none => rfl
  | some u =>
    obtain ⟨o, q⟩ := obj_here (hok b u e)
    have z := un.frzs b o (.own b) (frz_some e q)
    rw [n] at z; cases z
end
theorem FlyO.tracked {C : Value} {fr : Addr → Prop} {n : Bool} {H H' : Hp} {h : Heap} {e : Addr} (x : FlyO C fr n H' h e) (k : ∀ b, H' b = none → H b = none) : FlyO C fr n H h e := by
  obtain ⟨x1, x2, oe, vs, tb, h1, h2, h3, h4, h5, h6⟩ := x
  refine ⟨x1, k _ x2, oe, vs, tb, h1, h2, h3, h4, h5, ?_⟩
  rcases h6 with h6 | ⟨T, oT, ts, y1, y2, y3, y4, y5⟩
  · exact .inl h6
  · exact .inr ⟨T, oT, ts, y1, y2, y3, k _ y4, y5⟩
theorem SR.slot {K : PySem.W.Frag} {B Z : List Addr} {H0 V0 H : Hp} {σ : St} {ρ : DEnv} (r : SR K B H0 V0 H Z σ ρ) {i : Nat} (hi : ρ[i]? = some none) (v : Option V) : SR K B H0 V0 H Z (σ.set i v) ρ := by
  have ne : ∀ {j : Nat} {c : Cell}, ρ[j]? = some (some c) → i ≠ j := fun {j c} e z => by
    subst z
    rw [hi] at e; cases e
  refine ⟨r.same, r.tb, r.vis, r.sub, r.zs, fun j d e => ?_, fun j c e => ?_, fun j k c e' a q1 q2 s1 s2 => ?_, by rw [List.length_set]; exact r.len⟩
  · rw [List.getElem?_set_ne (ne e)]
    exact r.sh j d e
  · rw [List.getElem?_set_ne (ne e)]
    exact r.own j c e
  · rw [List.getElem?_set_ne (ne q1)] at s1
    rw [List.getElem?_set_ne (ne q2)] at s2
    exact r.inj j k c e' a q1 q2 s1 s2
theorem name_goes {X : Cx} {pins : List (Addr × Obj)} {σ : St} {H : Hp} {s : Shared} {M : Model} {A : Around} {E : Value → Shared → Prop} {i : Nat} {x : Str} {pos : Pos} {Q : Unit → Shared → Prop} (I : Inv X pins σ H s) (hN : X.N.Nodup) (hi : X.N[i]? = some x) (hx : X.env.scope.names.lookup x = some .local)
    (h : ∀ s', Inv X pins (σ.set i none) H s' → Q () s') : wpAny M A (do bindName X.env x .none; unbindBehindTheSuite X.env x pos) Q E s := by
  obtain ⟨m, hn, hl⟩ := id I.loc
  refine wpAny_nameGoes_keeps hx hn (by rw [I.ok.kind]; rfl) fun h' v hn' hs => h _ ?_
  have ab : ∀ b o, X.s₀.heap.get? b = some o → b ≠ X.env.locals := fun b o e => Nat.ne_of_lt (Nat.lt_of_lt_of_le (Heap.lt_size e) I.ok.above)
  refine ⟨I.ok, I.os, I.bare, ⟨fun b o e n hb hx' => (hs.2 b (ab b o e)).trans (I.base.keep b o e n hb hx'), fun b o e n hb hx' => let ⟨sl, z⟩ := I.base.slot b o e n hb hx'; ⟨sl, (hs.2 b (ab b o e)).trans z⟩, I.base.free, fun b o e hx' => let ⟨o', z⟩ := I.base.there b o e hx'; ⟨o', (hs.2 b (ab b o e)).trans z⟩, I.base.tups, I.base.frzs, I.base.tbls⟩,
    ⟨_, hn', fun j y w e1 e2 e3 => ?_⟩, fun y c e => ?_, I.free, I.freeC, fun p hp => ?_, fun b u e => ?_, by rw [List.length_set]; exact I.len⟩
  · by_cases hj : i = j
    · subst hj
      have hlt : i < σ.length := by rw [I.len]; exact (List.getElem?_eq_some_iff.mp hi).1
      rw [List.getElem?_set_self hlt] at e2
      cases e2
    · rw [List.getElem?_set_ne hj] at e2
      obtain ⟨u, r, l⟩ := hl j y w e1 e2 e3
      refine ⟨u, r, ?_⟩
      rcases l with ⟨k, e⟩ | ⟨k, c, e, z⟩
      · refine .inl ⟨k, ?_⟩
        have ny : y ≠ x := fun z => hj (nodup_ix hN hi (z ▸ e1))
        show (if y = x then v else m y) = some u
        rw [if_neg ny]; exact e
      · exact .inr ⟨k, c, e, z.sameBut hs (I.cne y c e)⟩
  · obtain ⟨w', z⟩ := I.cell y c e
    exact ⟨w', z.sameBut hs (I.cne y c e)⟩
  · obtain ⟨e, n, ne, nf, d⟩ := I.pin p hp
    exact ⟨(hs.2 p.1 ne).trans e, n, ne, nf, d⟩
  · refine (I.hok b u e).stay (fun c v' hc q => (hs.2 c ?_).trans q) (fun _ q => q) (fun _ _ q => q) fun _ _ _ q => q
    rintro rfl
    rcases hc with rfl | hc
    · rw [I.free] at e; cases e
    · rw [I.free] at hc; cases hc
structure ExcCls (K : PySem.W.Frag) (C : Addr) : Prop where
  hg : PySem.W.findIn K (.ref C) "__getattribute__" = some (some (.builtin "BaseException.__getattribute__"))
  ht0 : PySem.W.findIn K (.ref C) "__getattr__" = some none
  hs : PySem.W.subIn K (.ref C) (.type "BaseException") = some true
  hc : (PySem.W.clsIn K C).isSome = true
  ha : PySem.W.findIn K (.ref C) "__class__" = some (some (.builtin "object.__class__"))
  hn : PySem.W.specialIn K (.builtin "object.__class__") "__get__" = some (some (.builtin "getset_descriptor.__get__"))
  ht : PySem.W.takesIn K (.builtin "object.__class__") = some true
  hm : PySem.W.mroIn K C (.type "object") = some true
theorem exc_class {K : PySem.W.Frag} {x C : Addr} {ox : Obj} (Z : ExcCls K C) {prog : Program} {w : World} {A : Around} {E : Value → Shared → Prop} {Q : Option Value → Shared → Prop} {s : Shared} (X : K.In s.heap) (I : PySem.W.InstAt s.heap x ox C none)
    (h : Q (some (.ref C)) { s with toks := s.toks + 1 }) : wpAny (model prog w) A (getAttr? (.ref x) "__class__") Q E s := by
  have hf : PySem.W.findObj K C none "__class__" = some (.bind (.builtin "getset_descriptor.__get__") (.builtin "object.__class__")) := by
    obtain ⟨cd, hc⟩ := Option.isSome_iff_exists.mp Z.hc
    unfold PySem.W.findObj
    rw [hc, Option.bind_some, Z.ha, Option.bind_some]
    simp [Z.hn, Z.ht]
  obtain ⟨hh, g, d, t, os⟩ := s
  have L0 := I.type (M := model prog w)
  have L1 := PySem.W.looks_findIn (M := model prog w) X Z.hg
  have L2 := PySem.W.looks_findIn (M := model prog w) X Z.ht0
  have L3 := PySem.W.looks_find (M := model prog w) X I hf
  have LS := PySem.W.looks_subIn (M := model prog w) X Z.hs
  have fb := PySem.F.attrBase_ValueError.ga.bind (.ref x)
  have n2 : (Value.builtin "BaseException.__getattribute__" == Value.builtin "object.__getattribute__") = false := by decide +kernel
  unfold getAttr? getAttrBy? getAttrBy
  refine wpAny_bind (wpAny_mkText (wpAny_bind (wpAny_attempt (wpAny_holding (wpAny_bind (L0.at (wpAny_bind (L1.at ?_))))))))
  dsimp only
  rw [n2, Bool.and_false, if_neg Bool.false_ne_true]
  unfold getAttrByItsOwn hookBefore
  rw [if_pos (show onTheHeap (Value.ref C) = true from rfl)]
  refine wpAny_bind (L2.at (wpAny_bind (wpAny_attempt (wpAny_holding ?_))))
  unfold callGetattribute
  rw [Bool.false_and, if_neg Bool.false_ne_true]
  unfold boundAndCalled
  refine wpAny_bind (wpAny_of_eq fb ?_)
  have hk : builtinKind "BaseException.__getattribute__" = some .slot := by decide +kernel
  have hsp : splitId "BaseException.__getattribute__" = some ("BaseException", "__getattribute__") := by decide +kernel
  refine wpAny_call (codeAny_call_builtin PySem.F.attrBase_ValueError.ga.plain PySem.F.entry_bexc_ga ?_)
  have hA := PySem.F.args_bexc_ga (.ref x) (.str "__class__" t)
  refine (show ∀ {Q' : Unit → Shared → Prop} {E' : Value → Shared → Prop} {A' : Around}, Q' () ⟨hh, g, d, t + 1, os⟩ → wpAny (model prog w) A' (checkBuiltinCall "BaseException.__getattribute__" ⟨[.ref x] ++ [.str "__class__" t], []⟩) Q' E' ⟨hh, g, d, t + 1, os⟩ from fun {Q' E' A'} q => ?_) ?_
  · show wpAny _ _ (checkBuiltinCall "BaseException.__getattribute__" ⟨[.ref x, .str "__class__" t], []⟩) _ _ _
    simp only [checkBuiltinCall, hk, hsp]
    refine wpAny_bind ?_
    unfold isInstance
    refine wpAny_bind (L0.at (LS.at ?_))
    rw [if_neg (show ¬ (!true) = true by decide)]
    exact wpAny_of_eq hA q
  · show wpAny _ _ (Builtin.«object.__getattribute__» ⟨[.ref x, .str "__class__" t], []⟩) _ _ _
    unfold Builtin.«object.__getattribute__»
    repeat (first | (with_reducible refine wpAny_call (PySem.W.class_get (s := ⟨hh, g, d, t + 1, os⟩) (ox := ox) (od := none) X I Z.hm ?_)) | lk)
    exact h
theorem kitx_exc {K : PySem.W.Frag} {x C : Addr} {ox : Obj} (E : ExcCls K C) : PySem.W.KitX K (.ref x) (.ref C) (fun h => PySem.W.InstAt h x ox C none) where
  ty := fun _ _ _ I => I.type
  it := fun _ _ X _ => by
    obtain ⟨cd, hc⟩ := Option.isSome_iff_exists.mp E.hc
    unfold PySem.W.clsIn at hc
    split at hc
    · rename_i ho
      intro A' Q' E' s' k q
      unfold isType loadHead
      exact wpAny_bind (wpAny_loadPart (k _ _ (X _ _ ho)) (wpAny_pure q))
    · cases hc
  ne := fun h tp dd its n sl X htp => by
    obtain ⟨cd, hc⟩ := Option.isSome_iff_exists.mp E.hc
    refine Bool.eq_false_iff.mpr fun q => ?_
    have e : C = tp := Value.ref.inj (beq_iff_eq.mp q)
    subst e
    unfold PySem.W.clsIn at hc
    split at hc
    · rename_i ho
      have z := (X _ _ ho).symm.trans htp
      cases z
    · cases hc
  ca := fun {prog w A E' Q s} X I k => exc_class E X I k
def vVal : V → Value
  | .ref a => .ref a
  | .ty n => .type n
  | _ => .none
def rIsiE (K : PySem.W.Frag) (C a : Addr) : List V → Hp → VK → Prop := fun xs H Q => ∃ c b, xs = [.ref a, c] ∧ (∃ z, c = .ref z ∨ ∃ n, c = .ty n) ∧ PySem.W.kitOne K (.ref C) (vVal c) = some b ∧ Q (.bl b) H
theorem call_isiE {X : Cx} {a C : Addr} {oe : Obj} (E : ExcCls X.K C) (hp : (a, oe) ∈ X.pn) (h1 : oe.cls = .ref C) (h2 : oe.dict = none) (h3 : PySem.W.notCls oe = true) : CallR X (.builtin "isinstance") (rIsiE X.K C a) := by
  rintro pins s σ H xs us Q I r ⟨c, b, rfl, hc, e, q⟩
  cases r with
  | cons r1 r =>
    cases r with
    | cons r2 r =>
      cases r
      obtain rfl : _ = Value.ref a := r1
      have e2 : ∀ u, RelV c u → u = vVal c := fun u ru => by
        obtain ⟨z, hc | ⟨n, hc⟩⟩ := hc
        · subst hc; exact ru
        · subst hc; exact ru
      have := e2 _ r2
      subst this
      have J : PySem.W.InstAt s.heap a oe C none := ⟨(I.pin _ (List.mem_append_left _ hp)).1, h1, h3, by rw [h2]; trivial⟩
      exact PySem.W.kia_one (kitx_exc E) I.kIn J e (fun z => nomatch z) fun tk => ⟨.bl b, H, I.tok tk, rfl, q⟩
structure TryC (K : PySem.W.Frag) (mg : Str → Option Value) (C : Addr) (xp xa xb : Str) : Prop where
  cls : ExcCls K C
  p : ∃ c, mg xp = some (.ref c) ∧ PySem.W.exmOne K (.ref C) (.ref c) = some true
  a : ∃ c, mg xa = some (.ref c) ∧ PySem.W.kitOne K (.ref C) (.ref c) = some true
  b : ∃ c, mg xb = some (.ref c) ∧ PySem.W.kitOne K (.ref C) (.ref c) = some false
  v : PySem.W.kitOne K (.ref C) (.type "ValueError") = some true
def dTry (i ie : Nat) (F1 FX : List D → Option D) (g : DEnv → Option (List D)) : DEnv → Option Out := fun ρ => match ρ[ie]? with
  | some none => (match g ρ with
    | some ds => (match F1 ds with
      | some d => some (.nx (ρ.set i (some (.sh d))))
      | none => (match badOf FX ds with | some _ => some (.nx (ρ.set i (some (.sh .non)))) | none => none))
    | none => none)
  | _ => none
abbrev sufCx (X : Cx) (a : Addr) (oe : Obj) : Cx := { X with A := X.A.mark (some (.ref a)), calm := false, pn := (a, oe) :: X.pn, xe := fun _ _ => False }
section
variable {X : Cx} {pins : List (Addr × Obj)} {σ : St} {H : Hp} {s : Shared} {C : Value} {a : Addr}
theorem suf_inv {oe : Obj} {vs : Array Value} (I : Inv X pins σ H s) (h1 : s.heap.get? a = some oe) (h2 : H a = none) (h3 : oe.data = .fields vs) : Inv (sufCx X a oe) pins σ H s := by
  have nL : a ≠ X.env.locals := fun z => by
    obtain ⟨m, ⟨o', es, ep, e', d', _⟩, _⟩ := I.loc
    rw [← z, h1] at e'; cases e'
    rw [h3] at d'; cases d'
  have nf : a ∉ X.fs := fun z => by
    obtain ⟨_, o', e', d'⟩ := I.funs.mem z
    rw [h1] at e'; cases e'
    exact d' vs h3
  have ok := I.ok
  refine ⟨⟨ok.mod, ok.kind, ok.glob, ok.blt, ok.above, ok.inj, ok.has, ok.cab, fun z => Bool.noConfusion z, ok.frames, ok.stk, ok.exf, ok.bs, ok.bsz, ok.noex, ok.exfs, ok.funs, ok.frf⟩, I.os, I.bare, I.base, I.loc, I.cell, I.free, I.freeC, fun p hp => ?_, I.hok, I.len⟩
  rcases List.mem_cons.mp hp with rfl | hp
  · exact ⟨h1, h2, nL, nf, fun v z => by rw [h3] at z; cases z⟩
  · exact I.pin p hp
theorem suf_back {oe : Obj} (I : Inv (sufCx X a oe) pins σ H s) (ok : X.Ok) : Inv X pins σ H s :=
  ⟨ok, I.os, I.bare, I.base, I.loc, I.cell, I.free, I.freeC, fun p hp => I.pin p (List.mem_cons_of_mem _ hp), I.hok, I.len⟩
end
end L3
set_option Elab.async false
set_option linter.all false
set_option maxRecDepth 100000
set_option maxHeartbeats 4000000
namespace L3
open PySem PySem.Spec PyProof.Rows L2
section
variable {X : Cx}
theorem ss_try {i ie : Nat} {y fx xp xa xb : Str} {C : Addr} {j1 j2 k : Nat} {ps : List Str} {F1 FX : List D → Option D} {g : DEnv → Option (List D)} {e : Expr} {es : List Expr}
    {p1 p2 p3 p4 p5 p6 q1 q2 q3 q4 q5 q6 q7 q8 q9 r1 r2 r3 r4 r5 r6 r7 r8 r9 pos : Pos} {kc : Nat}
    (G1 : FnD X.prog X.w X.K X.mg X.base j1 fx ps F1) (G2 : FnB X.prog X.w X.K X.mg X.base (.ref C) j2 fx ps FX) (TC : TryC X.K X.mg C xp xa xb) (hmI : X.mg "isinstance" = none) (hmV : X.mg "ValueError" = none)
    (hr : Room k X.A) (ha : SA X (e :: es) g) (hN : X.N.Nodup) (hne : i ≠ ie := by decide) (hj1 : j1 ≤ k := by decide) (hj2 : j2 ≤ k := by decide)
    (hi : X.N[i]? = some y := by rfl) (hie : X.N[ie]? = some "e" := by rfl) (hy : X.env.scope.names.lookup y = some .local := by rfl) (hye : X.env.scope.names.lookup ("e" : Str) = some .local := by rfl)
    (hxe : X.xe = fun _ _ => False := by rfl) (hst : X.stack = X.env :: X.outer := by rfl) (hfm : X.env.frame = some X.env.locals := by rfl)
    (hgf : Gl X fx := by rfl) (hgp : Gl X xp := by rfl) (hga : Gl X xa := by rfl) (hgb : Gl X xb := by rfl) (hgV : Gl X "ValueError" := by rfl) (hgI : Gl X "isinstance" := by rfl)
    (hdf : (fx == ("__debug__" : Str)) = false := by decide) (hdp : (xp == ("__debug__" : Str)) = false := by decide) (hda : (xa == ("__debug__" : Str)) = false := by decide) (hdb : (xb == ("__debug__" : Str)) = false := by decide)
    (he : starEach (e :: es) X.env = (false, eval e X.env) :: starEach es X.env := by exact star_of rfl) (hpl : (backTo p3 (starEach es X.env)).any (·.1) = false := by exact back_of rfl)
    (hs : swapsWith (.Call (.Name fx p2) (e :: es) [] p3) (some (.Name y p1)) p4.line X.env = pure false := by rfl) :
    SS X (.Try [.Assign [.Name y p1] (.Call (.Name fx p2) (e :: es) [] p3) p4]
      [.ExceptHandler (some (.Name xp p5)) (some "e") [.If (.BoolOp .And [.Call (.Name "isinstance" q1) [.Name "e" q2, .Name xa q3] [] q4, .UnaryOp .Not (.Call (.Name "isinstance" q5) [.Name "e" q6, .Name xb q7] [] q8) q9, .Call (.Name "isinstance" r1) [.Name "e" r2, .Name "ValueError" r3] [] r4] r5)
        [.Assign [.Name y r6] (.Constant .none kc r7) r8] [] r9] p6] [] [] pos) (dTry i ie F1 FX g) := by
  intro pins s σ H D I ⟨ρ, o, B, H0, V0, Z, e0, r, q⟩
  unfold dTry at e0
  split at e0
  · rename_i eie
    split at e0
    · rename_i ds eds
      split at e0
      · rename_i d ed
        cases e0
        refine wpAny_Try_except (wpAny_mono ((ss_one (ss_set (i := i) (se_fn G1 hr ha hj1 hgf hdf he hpl) hN hi (Or.inl hy) hs (.inr hy))) pins s σ H D I ⟨ρ, _, B, H0, V0, Z, by unfold dSet dCall; rw [eds]; dsimp only; rw [ed], r, q⟩) (fun f s1 hf => ?_) fun e' s' z => by rw [hxe] at z; exact z.elim)
        cases f with
        | next => exact wpAny_execs_nil hf
        | ret u => exact hf
        | brk => exact hf
        | cont => exact hf
      · split at e0
        · rename_i ed d hb
          cases e0
          obtain ⟨t, rfl, hbd, eX⟩ := badOf_some hb
          obtain ⟨f, fd, g1, g2, g3, g4⟩ := G2.ex
          refine wpAny_Try_except (wpAny_execs_cons (wpAny_Assign_Name (wpAny_Call_Name_kw (ld_glob I hgf g2 ?_ hdf)) hs))
          refine PySem.W.callWith_K (h₀ := X.base) I.ok.mod.kin g3 (wpAny_mono (ha p3 pins s σ H (fun vs H1 => vs = [.str t] ∧ Same H H1) I ⟨ρ, [.str t], B, H0, V0, Z, eds, r, fun vs H1 s1 r1 => ⟨?_, s1⟩⟩) (fun us s1 ⟨vs, H1, I1, rv, hv, sm⟩ => ⟨I1.kIn, ?_⟩) fun e' s' z => by rw [hxe] at z; exact z.elim) he hpl
          · obtain ⟨v, vs', rfl, rv, rn⟩ := repl_cons.mp r1
            rw [repl_nil] at rn
            subst rn
            rw [rep_str] at rv
            rw [rv]
          · subst hv
            have sp : spB (fun y => ∃ d, FX [.str y] = some d ∧ isBad d = true) [.str t] (frzH s1.heap H1) (fun _ _ => False) E0 := ⟨t, rfl, d, eX, hbd⟩
            have hl : us.length = ps.length := by rw [← rv.length]; exact g1.len _ _ _ _ sp
            have z0 := I1.env0
            have env0 : Env0 X.prog X.w X.K X.mg X.base X.A X.stack s1 (frzH s1.heap H1) := ⟨z0.frames, z0.mod, fun b o e => ⟨(z0.bs b o e).1, frz_none (z0.bs b o e).2⟩, z0.bsz, z0.funs, fun b hb => frz_none (z0.frf b hb), frz_ok, z0.bare⟩
            have bd := g4 s1 us I1.kIn (by rw [List.append_nil]; exact hl)
            rw [List.append_nil] at bd
            refine wpAny_call (codeAny_mono (g1.run X.A X.stack s1 (frzH s1.heap H1) ⟨us, []⟩ us [.str t] (fun _ _ => False) E0 (hr.mono hj2) env0 bd rv sp) fun r0 s' hq => ?_)
            cases r0 with
            | ok fl =>
              cases fl with
              | ret u => obtain ⟨v, H', _, _, _, _, _, z⟩ := hq; exact z.elim
              | next => exact hq.elim
              | brk => exact hq.elim
              | cont => exact hq.elim
            | error e' =>
              obtain ⟨a, Hf, rfl, os, bare, un, hok, fl⟩ := hq
              have F : FlyI X pins σ H1 (.ref C) true a s' := ⟨I1.call' (ch := []) os (unfrz_un I1.hok un) (unfrz_ok I1.hok un hok) bare (fun b z => absurd z (by simp)), (fl.tracked fun b n => unfrz_none I1.hok un n).mono fun b hb => Nw.of I1 hb⟩
              refine F.note (env0 := X.env) (outer := X.outer) (L := X.env.locals) hst hfm hfm X.A F.inv.ok.frames fun s2 F2 => ?_
              refine F2.flight X.A none fun s3 F3 => ?_
              obtain ⟨I3, f1, f2, oe, vs', tb, k1, k2, k3, k4, k5, k6⟩ := id F3
              have IS := suf_inv I3 k1 f2 k4
              obtain ⟨cp, mp, xp1⟩ := TC.p
              have nc : ∀ {ob : Obj} {ws : Array Value}, ob.data = .fields ws → PySem.W.notCls ob = true := fun {ob ws} h => by unfold PySem.W.notCls; rw [h]
              have J : PySem.W.InstAt s3.heap a oe C none := ⟨k1, k2, nc k4, by rw [k3]; trivial⟩
              refine wpAny_handleBy_cons (codeAny_handlers_test (ld_glob (X := sufCx X a oe) IS hgp mp ?_ hdp)) (by intro q; cases q)
              refine (PySem.W.exm_one (K := X.K) I3.kIn J.type xp1) _ _ _ s3 (fun _ _ z => z) ?_
              refine codeAny_handlers_suite_as (F3.flight _ none fun s4 F4 => ?_)
              obtain ⟨I4, f1', f2', oe4, vs4, tb4, k1', k2', k3', k4', k5', k6'⟩ := id F4
              have IS4 := suf_inv I4 k1' f2' k4'
              refine store_ok (X := sufCx X a oe4) (v := .ref a) IS4 hN hie (Or.inl hye) rfl (fun s5 I5 => ?_) (.inr hye)
              obtain ⟨ca, ma, ka⟩ := TC.a
              obtain ⟨cb, mb, kb⟩ := TC.b
              have CI : CallR (sufCx X a oe4) (.builtin "isinstance") (rIsiE X.K C a) := call_isiE (X := sufCx X a oe4) TC.cls (.head _) k2' k3' (nc k4')
              have hiσ : ie < σ.length := by rw [I4.len]; exact (List.getElem?_eq_some_iff.mp hie).1
              have σe : (σ.set ie (some (V.ref a)))[ie]? = some (some (.ref a)) := List.getElem?_set_self hiσ
              have suite := pss_one (ps_if (X := sufCx X a oe4) (pos := r9) (PW.pt (pw_and (pos := r5) (pt_val (pe_callB (p := q1) (pos := q4) CI hgI hmI (by decide +kernel) (pa_cons (pe_var (X := sufCx X a oe4) (pos := q2) hie (Or.inl hye) (by decide) (by decide)) (pa_cons (pe_glob (X := sufCx X a oe4) (v := .ref ca) (pos := q3) hga ma rfl hda) pa_nil (star_of rfl)) (star_of rfl)) (by decide) (by decide) (star_of rfl) (back_of rfl)))
                (pw_and (pt_not (pos := q9) (pt_val (pe_callB (p := q5) (pos := q8) CI hgI hmI (by decide +kernel) (pa_cons (pe_var (X := sufCx X a oe4) (pos := q6) hie (Or.inl hye) (by decide) (by decide)) (pa_cons (pe_glob (X := sufCx X a oe4) (v := .ref cb) (pos := q7) hgb mb rfl hdb) pa_nil (star_of rfl)) (star_of rfl)) (by decide) (by decide) (star_of rfl) (back_of rfl))))
                  (pw_and1 (pt_val (pe_callB (p := r1) (pos := r4) CI hgI hmI (by decide +kernel) (pa_cons (pe_var (X := sufCx X a oe4) (pos := r2) hie (Or.inl hye) (by decide) (by decide)) (pa_cons (pe_bltn (X := sufCx X a oe4) (v := .ty "ValueError") (pos := r3) hgV hmV PyProof.Rows.Boot.«ValueError» rfl (by decide) (by decide)) pa_nil (star_of rfl)) (star_of rfl)) (by decide) (by decide) (star_of rfl) (back_of rfl)))))))
                (pss_one (ps_set (X := sufCx X a oe4) (pos := r8) (pos' := r6) hN hi (Or.inl hy) (pe_non (j := kc) (pos := r7)) rfl (.inr hy))) pss_nil)
              refine wpAny_mono (suite pins s5 (σ.set ie (some (.ref a))) H1 { nx := fun σ' H' => σ' = (σ.set ie (some (.ref a))).set i (some .non) ∧ H' = H1, rt := fun _ _ => False } I5 ?_) (fun f6 s6 hf => ?_) (fun _ _ z => z.elim)
              · refine ⟨.ref a, σe, .ref ca, true, rfl, ⟨ca, .inl rfl⟩, ka, true, rfl, iteT ?_⟩
                refine ⟨.ref a, σe, .ref cb, false, rfl, ⟨cb, .inl rfl⟩, kb, false, rfl, iteT ?_⟩
                refine ⟨.ref a, σe, .ty "ValueError", true, rfl, ⟨0, .inr ⟨_, rfl⟩⟩, TC.v, true, rfl, iteT ?_⟩
                exact ⟨rfl, rfl⟩
              · cases f6 with
                | next =>
                  obtain ⟨σ6, H6, I6, hσ, hH⟩ := hf
                  subst hσ hH
                  refine name_goes (X := X) (suf_back I6 I.ok) hN hie hye fun s7 I7 => ⟨_, _, I7, ?_⟩
                  refine q _ _ Z ?_
                  have eie2 : (ρ.set i (some (Cell.sh .non)))[ie]? = some none := by rw [List.getElem?_set_ne hne]; exact eie
                  exact (((r.mono sm).slot eie (some (.ref a))).set (i := i) (d := .non) (v := .non) (rep_non.mpr rfl)).slot eie2 none
                | ret u => obtain ⟨_, _, _, _, _, z⟩ := hf; exact z.elim
                | brk => obtain ⟨_, _, _, z⟩ := hf; exact z.elim
                | cont => obtain ⟨_, _, _, z⟩ := hf; exact z.elim
        · cases e0
    · cases e0
  · cases e0
end
end L3
set_option Elab.async false
set_option linter.all false
set_option maxRecDepth 100000
set_option maxHeartbeats 1000000
namespace L3
open PySem PySem.Spec PyProof.Rows L2 PySem.SeqAt
structure ZE (X : Cx) (e : Expr) (f : DEnv → Option D) : Prop where
  h : SE X e f
structure ZQ (X : Cx) (e : Expr) (f : DEnv → Option (List D)) : Prop where
  h : SQ X e f
structure ZF (X : Cx) (e : Expr) (f : DEnv → Option (List D)) : Prop where
  h : SF X e f
structure ZT (X : Cx) (e : Expr) (f : DEnv → Option Bool) : Prop where
  h : STt X e f
structure ZW (X : Cx) (e : Expr) (f : DEnv → Option Bool) : Prop where
  h : STw X e f
structure ZA (X : Cx) (e : List Expr) (f : DEnv → Option (List D)) : Prop where
  h : SA X e f
structure ZS (X : Cx) (e : Stmt) (f : DEnv → Option Out) : Prop where
  h : SS X e f
structure ZB (X : Cx) (e : List Stmt) (f : DEnv → Option Out) : Prop where
  h : SSs X e f
structure ZG (X : Cx) (e : Expr) (f : D → DEnv → Option DEnv) : Prop where
  h : SG X e f
structure ZGs (X : Cx) (e : List Expr) (f : List D → DEnv → Option DEnv) : Prop where
  h : SGs X e f
structure ZQL (X : Cx) (e : Expr) (f : DEnv → Option (List D)) : Prop where
  h : SQL X e f
structure ZO (X : Cx) (e : Option Expr) (f : DEnv → Option (Option Int)) : Prop where
  h : SO X e f
structure ZJ (X : Cx) (e : List Expr) (f : DEnv → Str → Option D) : Prop where
  h : SJ X e f
structure ZI (X : Cx) (tg e : Expr) (f : DEnv → Option (List D)) : Prop where
  h : SI X tg e f
structure ZIc (X : Cx) (tg e : Expr) (f : DEnv → Option (List D)) : Prop where
  h : SIc X tg e f
structure ZP (X : Cx) (ifs : List Expr) (f : DEnv → Option Bool) : Prop where
  h : PIfs X ifs (tT X.K f)
section
variable {X : Cx}
theorem zsv (i : Nat) {x : Str} {pos : Pos} (hN : X.N[i]? = some x := by rfl) (hv : Vis X.env.scope x := by first | exact Or.inl rfl | exact Or.inr (Or.inl rfl) | exact Or.inr (Or.inr rfl)) (hd : (x == ("__debug__" : Str)) = false := by decide) (hcd : (x == ("__classdict__" : Str)) = false := by decide) : ZE X (.Name x pos) (dVar i) :=
  ⟨sv (i := i) (hN := hN) (hv := hv) (hd := hd) (hcd := hcd)⟩
end
section
variable {X : Cx}
theorem zqv (i : Nat) {x : Str} {pos : Pos} (hN : X.N[i]? = some x := by rfl) (hv : Vis X.env.scope x := by first | exact Or.inl rfl | exact Or.inr (Or.inl rfl) | exact Or.inr (Or.inr rfl)) (hd : (x == ("__debug__" : Str)) = false := by decide) (hcd : (x == ("__classdict__" : Str)) = false := by decide) : ZQ X (.Name x pos) (dOwn i) :=
  ⟨qv (i := i) (hN := hN) (hv := hv) (hd := hd) (hcd := hcd)⟩
end
section
variable {X : Cx}
theorem zse_int {i j pos} : ZE X (.Constant (.int i) j pos) (dC (.int i)) :=
  ⟨se_int ⟩
end
section
variable {X : Cx}
theorem zse_bl {b j pos} : ZE X (.Constant (.bool b) j pos) (dC (.bl b)) :=
  ⟨se_bl ⟩
end
section
variable {X : Cx}
theorem zse_non {j pos} : ZE X (.Constant .none j pos) (dC .non) :=
  ⟨se_non ⟩
end
section
variable {X : Cx}
theorem zse_str {x j pos} : ZE X (.Constant (.str x) j pos) (dC (.str x)) :=
  ⟨se_str ⟩
end
section
variable {X : Cx}
theorem zse_gint {x : Str} {i : Int} {t : Tok} {pos : Pos} (hm : X.mg x = some (.int i t)) (hg : Gl X x := by rfl) (hd : (x == ("__debug__" : Str)) = false := by decide) : ZE X (.Name x pos) (dC (.int i)) :=
  ⟨se_gint (hm := hm) (hg := hg) (hd := hd)⟩
end
section
variable {X : Cx} {e : Expr}
theorem zq_of {f : DEnv → Option D} (h : ZE X e f) : ZQ X e (dSq f) :=
  ⟨q_of (h := h.h)⟩
end
section
variable {X : Cx} {e : Expr}
theorem zf_se {f : DEnv → Option (List D)} (h : ZF X e f) : ZE X e (dLs f) :=
  ⟨f_se (h := h.h)⟩
end
section
variable {X : Cx} {e : Expr}
theorem zf_q {f : DEnv → Option (List D)} (h : ZF X e f) : ZQ X e f :=
  ⟨f_q (h := h.h)⟩
end
section
variable {X : Cx} {a b c : Expr} {fa fb fc : DEnv → Option D} {pos : Pos}
theorem zst_val {f : DEnv → Option D} (h : ZE X a f) (he : ∀ whole, isTrue a X.env whole = (do let v ← whole; standAt a.pos; holding [v] (truthy v)) := by intro _; rfl) : ZT X a (dTest f) :=
  ⟨st_val (h := h.h) (he := he)⟩
end
section
variable {X : Cx} {a b c : Expr} {fa fb fc : DEnv → Option D} {pos : Pos}
theorem zse_chain {op op' : CmpOp} {r r' : R2} {g g' : D → D → Option D} (ho : OpR X (compareOp op) r) (hr : RdOp X.K r g) (ho' : OpR X (compareOp op') r') (hr' : RdOp X.K r' g') (ha : ZE X a fa) (hb : ZE X b fb) (hc : ZE X c fc) (hm : lastMarks [op, op'] [b, c] = false := by with_unfolding_all rfl) : ZE X (.Compare a [op, op'] [b, c] pos) (dChain g g' fa fb fc) :=
  ⟨se_chain (ho := ho) (hr := hr) (ho' := ho') (hr' := hr') (ha := ha.h) (hb := hb.h) (hc := hc.h) (hm := hm)⟩
end
section
variable {X : Cx} {a b c : Expr} {fa fb fc : DEnv → Option D} {pos : Pos}
variable {rest : List Expr}
theorem zse_one {op} {f : DEnv → Option D} (h : ZE X a f) : ZE X (.BoolOp op [a] pos) f :=
  ⟨se_one (h := h.h)⟩
end
section
variable {X : Cx} {a b c : Expr} {fa fb fc : DEnv → Option D} {pos : Pos}
variable {rest : List Expr}
theorem zse_and (ha : ZE X a fa) (hb : ZE X (.BoolOp .And (b :: rest) pos) fb) : ZE X (.BoolOp .And (a :: b :: rest) pos) (dAnd fa fb) :=
  ⟨se_and (ha := ha.h) (hb := hb.h)⟩
end
section
variable {X : Cx} {a b c : Expr} {fa fb fc : DEnv → Option D} {pos : Pos}
variable {rest : List Expr}
theorem zse_not (ha : ZE X a fa) : ZE X (.UnaryOp .Not a pos) (dNot fa) :=
  ⟨se_not (ha := ha.h)⟩
end
section
variable {X : Cx} {a b c : Expr} {fa fb fc : DEnv → Option D} {pos : Pos}
variable {rest : List Expr}
variable {ga gb : DEnv → Option Bool}
theorem zsw_and1 (ha : ZT X a ga) : ZW X (.BoolOp .And [a] pos) ga :=
  ⟨sw_and1 (ha := ha.h)⟩
end
section
variable {X : Cx} {a b c : Expr} {fa fb fc : DEnv → Option D} {pos : Pos}
variable {rest : List Expr}
variable {ga gb : DEnv → Option Bool}
theorem zsw_or1 (ha : ZT X a ga) : ZW X (.BoolOp .Or [a] pos) ga :=
  ⟨sw_or1 (ha := ha.h)⟩
end
section
variable {X : Cx} {a b c : Expr} {fa fb fc : DEnv → Option D} {pos : Pos}
variable {rest : List Expr}
variable {ga gb : DEnv → Option Bool}
theorem zsw_and (ha : ZT X a ga) (hb : ZW X (.BoolOp .And (b :: rest) pos) gb) : ZW X (.BoolOp .And (a :: b :: rest) pos) (dAndT ga gb) :=
  ⟨sw_and (ha := ha.h) (hb := hb.h)⟩
end
section
variable {X : Cx} {a b c : Expr} {fa fb fc : DEnv → Option D} {pos : Pos}
variable {rest : List Expr}
variable {ga gb : DEnv → Option Bool}
theorem zsw_or (ha : ZT X a ga) (hb : ZW X (.BoolOp .Or (b :: rest) pos) gb) : ZW X (.BoolOp .Or (a :: b :: rest) pos) (dOrT ga gb) :=
  ⟨sw_or (ha := ha.h) (hb := hb.h)⟩
end
section
variable {X : Cx} {a b c : Expr} {fa fb fc : DEnv → Option D} {pos : Pos}
variable {rest : List Expr}
variable {ga gb : DEnv → Option Bool}
theorem zst_w (h : ZW X a ga) : ZT X a ga :=
  ⟨st_w (h := h.h)⟩
end
section
variable {X : Cx} {a b c : Expr} {fa fb fc : DEnv → Option D} {pos : Pos}
variable {rest : List Expr}
variable {ga gb : DEnv → Option Bool}
theorem zst_not (ha : ZT X a ga) : ZT X (.UnaryOp .Not a pos) (dNotT ga) :=
  ⟨st_not (ha := ha.h)⟩
end
section
variable {X : Cx} {e : Expr} {es : List Expr} {f : DEnv → Option D} {g : DEnv → Option (List D)} {pos : Pos}
theorem zsa_nil  : ZA X [] dNil :=
  ⟨sa_nil ⟩
end
section
variable {X : Cx} {e : Expr} {es : List Expr} {f : DEnv → Option D} {g : DEnv → Option (List D)} {pos : Pos}
theorem zsa_cons (ha : ZE X e f) (hr : ZA X es g) (hs : starEach (e :: es) X.env = (false, eval e X.env) :: starEach es X.env := by exact star_of rfl) : ZA X (e :: es) (dCons f g) :=
  ⟨sa_cons (ha := ha.h) (hr := hr.h) (hs := hs)⟩
end
section
variable {X : Cx} {e : Expr} {es : List Expr} {f : DEnv → Option D} {g : DEnv → Option (List D)} {pos : Pos}
theorem zse_tup {x1} (h : ZA X es g) : ZE X (.Tuple es x1 pos) (dTup g) :=
  ⟨se_tup (h := h.h)⟩
end
section
variable {X : Cx} {e : Expr} {es : List Expr} {f : DEnv → Option D} {g : DEnv → Option (List D)} {pos : Pos}
theorem zsf_lst (h : ZA X es g) : ZF X (.List es pos) (dLim g) :=
  ⟨sf_lst (h := h.h)⟩
end
section
variable {X : Cx} {st : Stmt} {rest : List Stmt} {e c : Expr} {pos : Pos} {f : DEnv → Option D} {g k : DEnv → Option Out}
theorem zss_nil  : ZB X [] dNext :=
  ⟨ss_nil ⟩
end
section
variable {X : Cx} {st : Stmt} {rest : List Stmt} {e c : Expr} {pos : Pos} {f : DEnv → Option D} {g k : DEnv → Option Out}
theorem zss_cons (h1 : ZS X st g) (h2 : ZB X rest k) : ZB X (st :: rest) (dSeq g k) :=
  ⟨ss_cons (h1 := h1.h) (h2 := h2.h)⟩
end
section
variable {X : Cx} {st : Stmt} {rest : List Stmt} {e c : Expr} {pos : Pos} {f : DEnv → Option D} {g k : DEnv → Option Out}
theorem zss_one (h1 : ZS X st g) : ZB X [st] g :=
  ⟨ss_one (h1 := h1.h)⟩
end
section
variable {X : Cx} {st : Stmt} {rest : List Stmt} {e c : Expr} {pos : Pos} {f : DEnv → Option D} {g k : DEnv → Option Out}
theorem zss_ret (h : ZE X e f) : ZS X (.Return (some e) pos) (dRet f) :=
  ⟨ss_ret (h := h.h)⟩
end
section
variable {X : Cx} {st : Stmt} {rest : List Stmt} {e c : Expr} {pos : Pos} {f : DEnv → Option D} {g k : DEnv → Option Out}
theorem zss_if {a b : List Stmt} {fc : DEnv → Option Bool} (hc : ZT X c fc) (ha : ZB X a g) (hb : ZB X b k) : ZS X (.If c a b pos) (dIfS fc g k) :=
  ⟨ss_if (hc := hc.h) (ha := ha.h) (hb := hb.h)⟩
end
section
variable {X : Cx} {st : Stmt} {rest : List Stmt} {e c : Expr} {pos : Pos} {f : DEnv → Option D} {g k : DEnv → Option Out}
theorem zss_set {i : Nat} {x : Str} {pos' : Pos} (he : ZE X e f) (hN : X.N.Nodup) (hi : X.N[i]? = some x := by rfl) (hx : Loc X.env.scope x := by first | exact Or.inl rfl | exact Or.inr rfl) (hs : swapsWith e (some (.Name x pos')) pos.line X.env = pure false := by rfl) (hf : X.fn x = true ∨ X.env.scope.names.lookup x = some .local := by first | exact .inl rfl | exact .inr rfl) : ZS X (.Assign [.Name x pos'] e pos) (dSet i f) :=
  ⟨ss_set (he := he.h) (hN := hN) (hi := hi) (hx := hx) (hs := hs) (hf := hf)⟩
end
section
variable {X : Cx} {st : Stmt} {rest : List Stmt} {e c : Expr} {pos : Pos} {f : DEnv → Option D} {g k : DEnv → Option Out}
theorem zss_setF {i : Nat} {x : Str} {pos' : Pos} {fl : DEnv → Option (List D)} (he : ZF X e fl) (hN : X.N.Nodup) (hi : X.N[i]? = some x := by rfl) (hx : Loc X.env.scope x := by first | exact Or.inl rfl | exact Or.inr rfl) (hs : swapsWith e (some (.Name x pos')) pos.line X.env = pure false := by rfl) (hf : X.fn x = true ∨ X.env.scope.names.lookup x = some .local := by first | exact .inl rfl | exact .inr rfl) : ZS X (.Assign [.Name x pos'] e pos) (dSetF i fl) :=
  ⟨ss_setF (he := he.h) (hN := hN) (hi := hi) (hx := hx) (hs := hs) (hf := hf)⟩
end
section
variable {X : Cx} {st : Stmt} {rest : List Stmt} {e c : Expr} {pos : Pos} {f : DEnv → Option D} {g k : DEnv → Option Out}
theorem zsg_name {i : Nat} {x : Str} (hN : X.N.Nodup) (hi : X.N[i]? = some x := by rfl) (hx : Loc X.env.scope x := by first | exact Or.inl rfl | exact Or.inr rfl) (hf : X.fn x = true ∨ X.env.scope.names.lookup x = some .local := by first | exact .inl rfl | exact .inr rfl) : ZG X (.Name x pos) (dName i) :=
  ⟨sg_name (hN := hN) (hi := hi) (hx := hx) (hf := hf)⟩
end
section
variable {X : Cx} {st : Stmt} {rest : List Stmt} {e c : Expr} {pos : Pos} {f : DEnv → Option D} {g k : DEnv → Option Out}
theorem zsgs_nil  : ZGs X [] dGNil :=
  ⟨sgs_nil ⟩
end
section
variable {X : Cx} {st : Stmt} {rest : List Stmt} {e c : Expr} {pos : Pos} {f : DEnv → Option D} {g k : DEnv → Option Out}
theorem zsgs_cons {es : List Expr} {h : D → DEnv → Option DEnv} {kk : List D → DEnv → Option DEnv} (h1 : ZG X e h) (h2 : ZGs X es kk) (hs : (assignEach (e :: es) X.env).map (·.2) = assign e X.env :: (assignEach es X.env).map (·.2) := by rfl) : ZGs X (e :: es) (dGCons h kk) :=
  ⟨sgs_cons (h1 := h1.h) (h2 := h2.h) (hs := hs)⟩
end
section
variable {X : Cx} {st : Stmt} {rest : List Stmt} {e c : Expr} {pos : Pos} {f : DEnv → Option D} {g k : DEnv → Option Out}
theorem zsg_tup {es : List Expr} {kt : Nat} {kk : List D → DEnv → Option DEnv} {n : Nat} (hc : X.calm = true) (h : ZGs X es kk) (hn : (assignEach es X.env).length = n := by rfl) (hst : (assignEach es X.env).findIdx? (·.1) = none := by rfl) : ZG X (.Tuple es kt pos) (dGTup n kk) :=
  ⟨sg_tup (hc := hc) (h := h.h) (hn := hn) (hst := hst)⟩
end
section
variable {X : Cx} {st : Stmt} {rest : List Stmt} {e c : Expr} {pos : Pos} {f : DEnv → Option D} {g k : DEnv → Option Out}
theorem zss_for {tg iter : Expr} {body : List Stmt} {fi : DEnv → Option (List D)} {h : D → DEnv → Option DEnv} (hp : PassesOwn (model X.prog X.w) X.A X.env X.xe) (hc : X.calm = true) (hi : ZI X tg iter fi) (hg : ZG X tg h) (hb : ZB X body g) (hs : ∀ x, foldedSetIterable iter X.env x = pure x := by intro _; rfl) : ZS X (.For tg iter body [] pos) (dFor fi h g) :=
  ⟨ss_for (hp := hp) (hc := hc) (hi := hi.h) (hg := hg.h) (hb := hb.h) (hs := hs)⟩
end
section
variable {X : Cx} {st : Stmt} {rest : List Stmt} {e c : Expr} {pos : Pos} {f : DEnv → Option D} {g k : DEnv → Option Out}
variable {tg : Expr}
theorem zsi_rng1 {p : Pos} (hm : X.mg "range" = none) (h : ZE X e f) (hg : Gl X "range" := by rfl) (hs : starEach [e] X.env = [(false, eval e X.env)] := by rfl) : ZI X tg (.Call (.Name "range" p) [e] [] pos) (dRng1 f) :=
  ⟨si_rng1 (hm := hm) (h := h.h) (hg := hg) (hs := hs)⟩
end
section
variable {X : Cx} {st : Stmt} {rest : List Stmt} {e c : Expr} {pos : Pos} {f : DEnv → Option D} {g k : DEnv → Option Out}
variable {tg : Expr}
theorem zsic_of {tg e : Expr} {f : DEnv → Option (List D)} (h : ZI X tg e f) : ZIc X tg e f :=
  ⟨sic_of (h := h.h)⟩
end
section
variable {X : Cx} {a b c : Expr} {fa fb fc : DEnv → Option D} {pos : Pos}
theorem zse_sub (ha : ZE X a fa) (hb : ZE X b fb) : ZE X (.BinOp a .Sub b pos) (d2 dSubI fa fb) :=
  ⟨se_sub (ha := ha.h) (hb := hb.h)⟩
end
section
variable {X : Cx} {a b c : Expr} {fa fb fc : DEnv → Option D} {pos : Pos}
theorem zse_mod (ha : ZE X a fa) (hb : ZE X b fb) : ZE X (.BinOp a .Mod b pos) (d2 dModI fa fb) :=
  ⟨se_mod (ha := ha.h) (hb := hb.h)⟩
end
section
variable {X : Cx} {a b c : Expr} {fa fb fc : DEnv → Option D} {pos : Pos}
theorem zse_div (ha : ZE X a fa) (hb : ZE X b fb) : ZE X (.BinOp a .FloorDiv b pos) (d2 dDivI fa fb) :=
  ⟨se_div (ha := ha.h) (hb := hb.h)⟩
end
section
variable {X : Cx} {a b c : Expr} {fa fb fc : DEnv → Option D} {pos : Pos}
theorem zst_gtI (ha : ZE X a fa) (hb : ZE X b fb) : ZT X (.Compare a [.Gt] [b] pos) (dTest (d2 dGtI fa fb)) :=
  ⟨st_gtI (ha := ha.h) (hb := hb.h)⟩
end
section
variable {X : Cx}
variable {a b c : Expr} {fa fb fc : DEnv → Option D} {pos : Pos}
theorem zse_add (ha : ZE X a fa) (hb : ZE X b fb) : ZE X (.BinOp a .Add b pos) (d2 dAdd fa fb) :=
  ⟨se_add (ha := ha.h) (hb := hb.h)⟩
end
section
variable {X : Cx}
variable {a b c : Expr} {fa fb fc : DEnv → Option D} {pos : Pos}
theorem zse_lt (hu : X.A.units < cLine) (ha : ZE X a fa) (hb : ZE X b fb) : ZE X (.Compare a [.Lt] [b] pos) (d2 dLt fa fb) :=
  ⟨se_lt (hu := hu) (ha := ha.h) (hb := hb.h)⟩
end
section
variable {X : Cx}
variable {a b c : Expr} {fa fb fc : DEnv → Option D} {pos : Pos}
theorem zst_isN (ha : ZE X a fa) (hb : ZE X b fb) : ZT X (.Compare a [.IsNot] [b] pos) (dTest (d2 dIsN fa fb)) :=
  ⟨st_isN (ha := ha.h) (hb := hb.h)⟩
end
section
variable {X : Cx} {a b c : Expr} {fa fb fc : DEnv → Option D} {pos : Pos}
theorem zse_eq (hu : X.A.units + 64 < cLine) (ha : ZE X a fa) (hb : ZE X b fb) : ZE X (.Compare a [.Eq] [b] pos) (d2 dEq fa fb) :=
  ⟨se_eq (hu := hu) (ha := ha.h) (hb := hb.h)⟩
end
section
variable {X : Cx} {a b c : Expr} {fa fb fc : DEnv → Option D} {pos : Pos}
theorem zst_eq (hu : X.A.units + 64 < cLine) (ha : ZE X a fa) (hb : ZE X b fb) : ZT X (.Compare a [.Eq] [b] pos) (dTest (d2 dEq fa fb)) :=
  ⟨st_eq (hu := hu) (ha := ha.h) (hb := hb.h)⟩
end
section
variable {X : Cx} {a b c : Expr} {fa fb fc : DEnv → Option D} {pos : Pos}
theorem zst_ne (hu : X.A.units + 64 < cLine) (ha : ZE X a fa) (hb : ZE X b fb) : ZT X (.Compare a [.NotEq] [b] pos) (dTest (d2 dNe fa fb)) :=
  ⟨st_ne (hu := hu) (ha := ha.h) (hb := hb.h)⟩
end
section
variable {X : Cx} {a b c : Expr} {fa fb fc : DEnv → Option D} {pos : Pos}
theorem zst_nin {fb : DEnv → Option (List D)} (hu : X.A.units + 64 < cLine) (ha : ZE X a fa) (hb : ZQ X b fb) (hm : behindInMarks .NotIn b = false := by with_unfolding_all rfl) : ZT X (.Compare a [.NotIn] [b] pos) (dTest (dIn true fa fb)) :=
  ⟨st_nin (hu := hu) (ha := ha.h) (hb := hb.h) (hm := hm)⟩
end
section
variable {X : Cx} {a b c : Expr} {fa fb fc : DEnv → Option D} {pos : Pos}
theorem zse_ix {fa : DEnv → Option (List D)} (ha : ZQ X a fa) (hb : ZE X b fb) (hs : PlainIx b := by exact fun _ _ => rfl) : ZE X (.Subscript a b pos) (dIx fa fb) :=
  ⟨se_ix (ha := ha.h) (hb := hb.h) (hs := hs)⟩
end
section
variable {X : Cx} {a b c : Expr} {fa fb fc : DEnv → Option D} {pos : Pos}
theorem zso_none  : ZO X none dNoP :=
  ⟨so_none ⟩
end
section
variable {X : Cx} {a b c : Expr} {fa fb fc : DEnv → Option D} {pos : Pos}
theorem zso_some {f : DEnv → Option D} (h : ZE X a f) : ZO X (some a) (dPart f) :=
  ⟨so_some (h := h.h)⟩
end
section
variable {X : Cx} {a b c : Expr} {fa fb fc : DEnv → Option D} {pos : Pos}
theorem zse_sl {lo hi : Option Expr} {p2 : Pos} {fl fh : DEnv → Option (Option Int)} (he : ZE X a fa) (hl : ZO X lo fl) (hh : ZO X hi fh) : ZE X (.Subscript a (.Slice lo hi none p2) pos) (dSlc fa fl fh) :=
  ⟨se_sl (he := he.h) (hl := hl.h) (hh := hh.h)⟩
end
section
variable {X : Cx} {a b c : Expr} {fa fb fc : DEnv → Option D} {pos : Pos}
theorem zse_len {p : Pos} {f : DEnv → Option (List D)} (hm : X.mg "len" = none) (h : ZQ X a f) (hg : Gl X "len" := by rfl) (he : starEach [a] X.env = (false, eval a X.env) :: starEach [] X.env := by exact star_of rfl) (hpl : (backTo pos (starEach [] X.env)).any (·.1) = false := by exact back_of rfl) : ZE X (.Call (.Name "len" p) [a] [] pos) (dLen f) :=
  ⟨se_len (hm := hm) (h := h.h) (hg := hg) (he := he) (hpl := hpl)⟩
end
section
variable {X : Cx} {a b c : Expr} {fa fb fc : DEnv → Option D} {pos : Pos}
theorem zse_tuple {p : Pos} {f : DEnv → Option (List D)} (hm : X.mg "tuple" = none) (h : ZQ X a f) (hg : Gl X "tuple" := by rfl) (he : starEach [a] X.env = (false, eval a X.env) :: starEach [] X.env := by exact star_of rfl) (hpl : (backTo pos (starEach [] X.env)).any (·.1) = false := by exact back_of rfl) (hv : bootBuiltins "tuple" = some (.type "tuple") := by decide +kernel) : ZE X (.Call (.Name "tuple" p) [a] [] pos) (dTupF f) :=
  ⟨se_tuple (hm := hm) (h := h.h) (hg := hg) (he := he) (hpl := hpl) (hv := hv)⟩
end
section
variable {X : Cx} {p pos : Pos} {e : Expr} {f : DEnv → Option (List D)}
theorem zsf_sorted (hm : X.mg "sorted" = none) (h : ZQ X e f) (hg : Gl X "sorted" := by rfl) (hv : bootBuiltins "sorted" = some (.builtin "sorted") := by decide +kernel) (he : starEach [e] X.env = (false, eval e X.env) :: starEach [] X.env := by exact star_of rfl) (hpl : (backTo pos (starEach [] X.env)).any (·.1) = false := by exact back_of rfl) : ZF X (.Call (.Name "sorted" p) [e] [] pos) (dQF sortD f) :=
  ⟨sf_sorted (hm := hm) (h := h.h) (hg := hg) (hv := hv) (he := he) (hpl := hpl)⟩
end
section
variable {X : Cx} {p pos : Pos} {e : Expr} {f : DEnv → Option (List D)}
theorem zse_all (hc : X.calm = true) (hm : X.mg "all" = none) (h : ZF X e f) (hg : Gl X "all" := by rfl) (hv : bootBuiltins "all" = some (.builtin "all") := by decide +kernel) (he : starEach [e] X.env = (false, eval e X.env) :: starEach [] X.env := by exact star_of rfl) (hpl : (backTo pos (starEach [] X.env)).any (·.1) = false := by exact back_of rfl) : ZE X (.Call (.Name "all" p) [e] [] pos) (dAll f) :=
  ⟨se_all (hc := hc) (hm := hm) (h := h.h) (hg := hg) (hv := hv) (he := he) (hpl := hpl)⟩
end
section
variable {X : Cx} {p pos : Pos} {e : Expr} {f : DEnv → Option (List D)}
theorem zse_isi {T : String} {x : Str} {p1 p2 : Pos} {fe : DEnv → Option D} (kt : Kit T) (hm : X.mg "isinstance" = none) (hmT : X.mg x = none) (h : ZE X e fe) (hvT : bootBuiltins x = some (.type T)) (hg : Gl X "isinstance" := by rfl) (hgT : Gl X x := by rfl) (hv : bootBuiltins "isinstance" = some (.builtin "isinstance") := by decide +kernel) (hn : x ≠ "__name__" := by decide) (hdb : (x == ("__debug__" : Str)) = false := by decide) (he : starEach [e, .Name x p1] X.env = (false, eval e X.env) :: starEach [.Name x p1] X.env := by exact star_of rfl) (he2 : starEach [.Name x p1] X.env = (false, eval (.Name x p1) X.env) :: starEach [] X.env := by exact star_of rfl) (hpl : (backTo pos (starEach [.Name x p1] X.env)).any (·.1) = false := by exact back_of rfl) : ZE X (.Call (.Name "isinstance" p2) [e, .Name x p1] [] pos) (dIsi T fe) :=
  ⟨se_isi (kt := kt) (hm := hm) (hmT := hmT) (h := h.h) (hvT := hvT) (hg := hg) (hgT := hgT) (hv := hv) (hn := hn) (hdb := hdb) (he := he) (he2 := he2) (hpl := hpl)⟩
end
section
variable {X : Cx} {p p2 pos pos2 : Pos} {a b e : Expr} {f : DEnv → Option (List D)} {fa fb : DEnv → Option D}
theorem zse_min2 (hc : X.calm = true) (hm : X.mg "min" = none) (ha : ZE X a fa) (hb : ZE X b fb) (hg : Gl X "min" := by rfl) (hv : bootBuiltins "min" = some (.builtin "min") := by decide +kernel) (he : starEach [a, b] X.env = (false, eval a X.env) :: starEach [b] X.env := by exact star_of rfl) (he2 : starEach [b] X.env = (false, eval b X.env) :: starEach [] X.env := by exact star_of rfl) (hpl : (backTo pos (starEach [b] X.env)).any (·.1) = false := by exact back_of rfl) : ZE X (.Call (.Name "min" p) [a, b] [] pos) (dCall fMin (dCons fa (dCons fb dNil))) :=
  ⟨se_min2 (hc := hc) (hm := hm) (ha := ha.h) (hb := hb.h) (hg := hg) (hv := hv) (he := he) (he2 := he2) (hpl := hpl)⟩
end
section
variable {X : Cx} {p p2 pos pos2 : Pos} {a b e : Expr} {f : DEnv → Option (List D)} {fa fb : DEnv → Option D}
theorem zse_max2 (hc : X.calm = true) (hm : X.mg "max" = none) (ha : ZE X a fa) (hb : ZE X b fb) (hg : Gl X "max" := by rfl) (hv : bootBuiltins "max" = some (.builtin "max") := by decide +kernel) (he : starEach [a, b] X.env = (false, eval a X.env) :: starEach [b] X.env := by exact star_of rfl) (he2 : starEach [b] X.env = (false, eval b X.env) :: starEach [] X.env := by exact star_of rfl) (hpl : (backTo pos (starEach [b] X.env)).any (·.1) = false := by exact back_of rfl) : ZE X (.Call (.Name "max" p) [a, b] [] pos) (dCall fMax (dCons fa (dCons fb dNil))) :=
  ⟨se_max2 (hc := hc) (hm := hm) (ha := ha.h) (hb := hb.h) (hg := hg) (hv := hv) (he := he) (he2 := he2) (hpl := hpl)⟩
end
section
variable {X : Cx} {p p2 pos pos2 : Pos} {a b e : Expr} {f : DEnv → Option (List D)} {fa fb : DEnv → Option D}
theorem zss_app {i : Nat} {x : Str} {p1 p2 p3 : Pos} (h : ZE X a fa) (hN : X.N[i]? = some x := by rfl) (hv : Vis X.env.scope x := by first | exact Or.inl rfl | exact Or.inr (Or.inl rfl) | exact Or.inr (Or.inr rfl)) (hd : (x == ("__debug__" : Str)) = false := by decide) (hcd : (x == ("__classdict__" : Str)) = false := by decide) (hbase : attributeBase (.Name x p1) "append" X.env (eval (.Name x p1) X.env) = eval (.Name x p1) X.env := by rfl) (hfew : ((backTo p3 (starEach [a] X.env)).all (fun x => !x.1) && (backToKw p3 (keywordEach [] X.env)).all (fun x => x.1.isSome)
      && decide (([a] : List Expr).length + ([] : List Keyword).length + (if ([] : List Keyword).isEmpty then 0 else 1) < 30)) = true := by rfl) (hline : (p2.endLine == p3.line) = true := by rfl) (hs : starEach [a] X.env = (false, eval a X.env) :: starEach [] X.env := by exact star_of rfl) (hplain : (backTo p3 (starEach [] X.env)).any (·.1) = false := by exact back_of rfl) (hsw : swapsWith (.Call (.Attribute (.Name x p1) "append" p2) [a] [] p3) none pos.line X.env = pure false := by rfl) : ZS X (.Expr (.Call (.Attribute (.Name x p1) "append" p2) [a] [] p3) pos) (dApp i fa) :=
  ⟨ss_app (h := h.h) (hN := hN) (hv := hv) (hd := hd) (hcd := hcd) (hbase := hbase) (hfew := hfew) (hline := hline) (hs := hs) (hplain := hplain) (hsw := hsw)⟩
end
section
variable {X : Cx}
variable {a b : Expr} {fa fb : DEnv → Option D} {pos : Pos}
theorem zse_mul (ha : ZE X a fa) (hb : ZE X b fb) : ZE X (.BinOp a .Mult b pos) (d2 dMul fa fb) :=
  ⟨se_mul (ha := ha.h) (hb := hb.h)⟩
end
section
variable {X : Cx} {pos : Pos}
theorem zsf_compB {elt target iter : Expr} {ifs : List Expr} {scope : Scope} {fi : DEnv → Option (List D)} {h : D → DEnv → Option DEnv} {ft : DEnv → Option Bool} {fe : DEnv → Option D} (N : List Str) (cap : List (Option Nat)) (hc : X.calm = true) (hi : ZIc X target iter fi) (hg : ∀ cl C fp s H, ZG (compCx X N scope cl C fp s H) target h) (ht : ∀ cl C fp s H, ZP (compCx X N scope cl C fp s H) ifs ft) (he : ∀ cl C fp s H, ZE (compCx X N scope cl C fp s H) elt fe) (hok : compOk scope X.env.scope N cap X.N = true := by rfl) (hs : ∀ x, foldedSetIterable iter X.env x = pure x := by intro _; rfl) : ZF X (.ListComp elt [⟨target, iter, ifs, 0⟩] scope pos) (dComp cap fi h ft fe) :=
  ⟨sf_compB (N := N) (cap := cap) (hc := hc) (hi := hi.h) (hg := fun cl C fp s H => (hg cl C fp s H).h) (ht := fun cl C fp s H => (ht cl C fp s H).h) (he := fun cl C fp s H => (he cl C fp s H).h) (hok := hok) (hs := hs)⟩
end
section
variable {X : Cx} {pos : Pos}
theorem zpifs0  : ZP X [] dTrue :=
  ⟨pifs0 ⟩
end
section
variable {X : Cx} {pos : Pos}
theorem zql_f {e : Expr} {f : DEnv → Option (List D)} (h : ZF X e f) : ZQL X e f :=
  ⟨ql_f (h := h.h)⟩
end
section
variable {X : Cx} {pos : Pos}
theorem zql_of {e : Expr} {f : DEnv → Option D} (h : ZE X e f) : ZQL X e (dLstOf f) :=
  ⟨ql_of (h := h.h)⟩
end
section
variable {X : Cx} {pos : Pos}
theorem zsf_cat {a b : Expr} {fa fb : DEnv → Option (List D)} (ha : ZQL X a fa) (hb : ZQL X b fb) : ZF X (.BinOp a .Add b pos) (dCatF fa fb) :=
  ⟨sf_cat (ha := ha.h) (hb := hb.h)⟩
end
section
theorem zse_fn {X : Cx} {j k : Nat} {ps : List Str} {F : List D → Option D} {x : Str} {p pos : Pos} {e : Expr} {es : List Expr} {g : DEnv → Option (List D)} (G : FnD X.prog X.w X.K X.mg X.base j x ps F) (hr : Room k X.A) (ha : ZA X (e :: es) g) (hjk : j ≤ k := by decide) (hg : Gl X x := by rfl) (hdb : (x == ("__debug__" : Str)) = false := by decide) (he : starEach (e :: es) X.env = (false, eval e X.env) :: starEach es X.env := by exact star_of rfl) (hpl : (backTo pos (starEach es X.env)).any (·.1) = false := by exact back_of rfl) : ZE X (.Call (.Name x p) (e :: es) [] pos) (dCall F g) :=
  ⟨se_fn (G := G) (hr := hr) (ha := ha.h) (hjk := hjk) (hg := hg) (hdb := hdb) (he := he) (hpl := hpl)⟩
end
section
variable {X : Cx} {pos p p2 pos2 : Pos} {a b c e tg : Expr} {fa fb fc f : DEnv → Option D}
theorem zsi_seq (h : ZE X e f) : ZI X tg e (dSq f) :=
  ⟨si_seq (h := h.h)⟩
end
section
variable {X : Cx} {pos p p2 pos2 : Pos} {a b c e tg : Expr} {fa fb fc f : DEnv → Option D}
theorem zst_lt (hu : X.A.units < cLine) (ha : ZE X a fa) (hb : ZE X b fb) : ZT X (.Compare a [.Lt] [b] pos) (dTest (d2 dLt fa fb)) :=
  ⟨st_lt (hu := hu) (ha := ha.h) (hb := hb.h)⟩
end
section
theorem zfn_d {P : Program} {w : World} {K : PySem.W.Frag} {mg : Str → Option Value} {base : Heap} {x : Str} {st : Stmt} {N ps : List Str} {k n : Nat} {g : DEnv → Option Out} (G : Stands K mg x st) (S : FnScope N ps (defScope st)) (hb : ∀ (kV doc pm : Value) (an : Option Addr) (cdv ct : Value) (us : List Value), us.length = ps.length → bindArgs (PySem.W.fnOf x x (defArgs st) (defBody st) (defScope st) .none kV doc pm an cdv ct) ⟨us, []⟩ = pure (ps.zip us)) (hn : ps.length = n) (hbody : ∀ (f : Addr) (cdv : Value) (A : Around) (outer : List Env) (s : Shared) (H : Hp) (E : XK), Room k (A.deeper (envOfC x (defScope st) s.heap.objs.size f cdv)) →
      ZB (cxOf CX0 P w K mg base N x (defScope st) f cdv A outer s H E).nox (defBody st) g) : FnD P w K mg base (k + 1) x ps (dFn n N g) :=
  fn_d (G := G) (S := S) (hb := hb) (hn := hn) (hbody := fun f cdv A outer s H E hr => (hbody f cdv A outer s H E hr).h)
end
section
variable {X : Cx} {a b : Expr} {fa fb : DEnv → Option D} {pos : Pos}
theorem zse_addS (ha : ZE X a fa) (hb : ZE X b fb) : ZE X (.BinOp a .Add b pos) (d2 dAddS fa fb) :=
  ⟨se_addS (ha := ha.h) (hb := hb.h)⟩
end
section
variable {X : Cx} {a b : Expr} {fa fb : DEnv → Option D} {pos : Pos}
theorem zse_lenS {p : Pos} (hm : X.mg "len" = none) (h : ZE X a fa) (hg : Gl X "len" := by rfl) (he : starEach [a] X.env = (false, eval a X.env) :: starEach [] X.env := by exact star_of rfl) (hpl : (backTo pos (starEach [] X.env)).any (·.1) = false := by exact back_of rfl) : ZE X (.Call (.Name "len" p) [a] [] pos) (dLenS fa) :=
  ⟨se_lenS (hm := hm) (h := h.h) (hg := hg) (he := he) (hpl := hpl)⟩
end
section
variable {X : Cx} {a b : Expr} {fa fb : DEnv → Option D} {pos : Pos}
theorem zst_ninS (ha : ZE X a fa) (hb : ZE X b fb) (hm : behindInMarks .NotIn b = false := by rfl) : ZT X (.Compare a [.NotIn] [b] pos) (dTest (d2 (dInS true) fa fb)) :=
  ⟨st_ninS (ha := ha.h) (hb := hb.h) (hm := hm)⟩
end
section
variable {X : Cx} {a b : Expr} {fa fb : DEnv → Option D} {pos : Pos}
theorem zse_ixS (ha : ZE X a fa) (hb : ZE X b fb) (hs : PlainIx b := by exact fun _ _ => rfl) : ZE X (.Subscript a b pos) (dIxS fa fb) :=
  ⟨se_ixS (ha := ha.h) (hb := hb.h) (hs := hs)⟩
end
section
variable {X : Cx} {a b : Expr} {fa fb : DEnv → Option D} {pos : Pos}
theorem zse_slS {lo hi : Option Expr} {p2 : Pos} {fl fh : DEnv → Option (Option Int)} (he : ZE X a fa) (hl : ZO X lo fl) (hh : ZO X hi fh) : ZE X (.Subscript a (.Slice lo hi none p2) pos) (dSlS fa fl fh) :=
  ⟨se_slS (he := he.h) (hl := hl.h) (hh := hh.h)⟩
end
section
variable {X : Cx} {a b : Expr} {fa fb : DEnv → Option D} {pos : Pos}
theorem zse_strI {p : Pos} (hm : X.mg "str" = none) (h : ZE X a fa) (hg : Gl X "str" := by rfl) (hv : bootBuiltins "str" = some (.type "str") := by decide +kernel) (he : starEach [a] X.env = (false, eval a X.env) :: starEach [] X.env := by exact star_of rfl) (hpl : (backTo pos (starEach [] X.env)).any (·.1) = false := by exact back_of rfl) : ZE X (.Call (.Name "str" p) [a] [] pos) (dStrI fa) :=
  ⟨se_strI (hm := hm) (h := h.h) (hg := hg) (hv := hv) (he := he) (hpl := hpl)⟩
end
section
variable {X : Cx} {a b : Expr} {fa fb : DEnv → Option D} {pos : Pos}
theorem zse_intS {p : Pos} (hm : X.mg "int" = none) (h : ZE X a fa) (hg : Gl X "int" := by rfl) (hv : bootBuiltins "int" = some (.type "int") := by decide +kernel) (he : starEach [a] X.env = (false, eval a X.env) :: starEach [] X.env := by exact star_of rfl) (hpl : (backTo pos (starEach [] X.env)).any (·.1) = false := by exact back_of rfl) : ZE X (.Call (.Name "int" p) [a] [] pos) (dIntS fa) :=
  ⟨se_intS (hm := hm) (h := h.h) (hg := hg) (hv := hv) (he := he) (hpl := hpl)⟩
end
section
variable {X : Cx} {a b : Expr} {fa fb : DEnv → Option D} {pos : Pos}
theorem zse_gstr {x : Str} {i : Str} {t : Tok} (hm : X.mg x = some (.str i t)) (hg : Gl X x := by rfl) (hd : (x == ("__debug__" : Str)) = false := by decide) : ZE X (.Name x pos) (dC (.str i)) :=
  ⟨se_gstr (hm := hm) (hg := hg) (hd := hd)⟩
end
section
variable {X : Cx} {e a b : Expr} {es : List Expr} {f : DEnv → Option D} {k : DEnv → Str → Option D} {pos : Pos}
theorem zsj_nil  : ZJ X [] dJNil :=
  ⟨sj_nil ⟩
end
section
variable {X : Cx} {e a b : Expr} {es : List Expr} {f : DEnv → Option D} {k : DEnv → Str → Option D} {pos : Pos}
theorem zsj_cons (he : ZE X e f) (hr : ZJ X es k) : ZJ X (e :: es) (dJCons f k) :=
  ⟨sj_cons (he := he.h) (hr := hr.h)⟩
end
section
variable {X : Cx} {e a b : Expr} {es : List Expr} {f : DEnv → Option D} {k : DEnv → Str → Option D} {pos : Pos}
theorem zse_joined (h : ZJ X (a :: b :: es) k) : ZE X (.JoinedStr (a :: b :: es) pos) (dJoined k) :=
  ⟨se_joined (h := h.h)⟩
end
section
variable {X : Cx} {e a b : Expr} {es : List Expr} {f : DEnv → Option D} {k : DEnv → Str → Option D} {pos : Pos}
theorem zse_fmtI (h : ZE X e f) : ZE X (.FormattedValue e (-1) none pos) (dFmtI f) :=
  ⟨se_fmtI (h := h.h)⟩
end
section
variable {X : Cx} {e a b : Expr} {es : List Expr} {f : DEnv → Option D} {k : DEnv → Str → Option D} {pos : Pos}
theorem zse_fmtR (h : ZE X e f) : ZE X (.FormattedValue e 114 none pos) (dFmtR f) :=
  ⟨se_fmtR (h := h.h)⟩
end
section
variable {X : Cx} {a b : Expr} {pos : Pos}
theorem zsf_split {apos : Pos} {fa fb : DEnv → Option D} (ha : ZE X a fa) (hb : ZE X b fb) (hbase : attributeBase a "split" X.env (eval a X.env) = eval a X.env := by rfl) (hfew : ((backTo pos (starEach [b] X.env)).all (fun x => !x.1) && (backToKw pos (keywordEach [] X.env)).all (fun x => x.1.isSome)
      && decide ([b].length + ([] : List Keyword).length + (if ([] : List Keyword).isEmpty then 0 else 1) < 30)) = true := by rfl) (hline : (apos.endLine == pos.line) = true := by rfl) (hs : starEach [b] X.env = (false, eval b X.env) :: starEach [] X.env := by exact star_of rfl) (hplain : (backTo pos (starEach [] X.env)).any (·.1) = false := by exact back_of rfl) : ZF X (.Call (.Attribute a "split" apos) [b] [] pos) (dSplit fa fb) :=
  ⟨sf_split (ha := ha.h) (hb := hb.h) (hbase := hbase) (hfew := hfew) (hline := hline) (hs := hs) (hplain := hplain)⟩
end
section
variable {X : Cx} {a b : Expr} {pos : Pos}
theorem zse_join {z : Str} {j : Nat} {p1 apos : Pos} {f : DEnv → Option (List D)} (hb : ZQL X b f) (hbase : attributeBase (.Constant (.str z) j p1) "join" X.env (eval (.Constant (.str z) j p1) X.env) = eval (.Constant (.str z) j p1) X.env := by rfl) (hfew : ((backTo pos (starEach [b] X.env)).all (fun x => !x.1) && (backToKw pos (keywordEach [] X.env)).all (fun x => x.1.isSome)
      && decide ([b].length + ([] : List Keyword).length + (if ([] : List Keyword).isEmpty then 0 else 1) < 30)) = true := by rfl) (hline : (apos.endLine == pos.line) = true := by rfl) (hs : starEach [b] X.env = (false, eval b X.env) :: starEach [] X.env := by exact star_of rfl) (hplain : (backTo pos (starEach [] X.env)).any (·.1) = false := by exact back_of rfl) : ZE X (.Call (.Attribute (.Constant (.str z) j p1) "join" apos) [b] [] pos) (dJoin z f) :=
  ⟨se_join (hb := hb.h) (hbase := hbase) (hfew := hfew) (hline := hline) (hs := hs) (hplain := hplain)⟩
end
section
variable {X : Cx}
theorem zss_raise {x : Str} {C : Addr} {np cpos pos : Pos} {arg : Expr} {f : DEnv → Option D} (hC : PySem.W.excIn X.K C VE "ValueError.__new__" = true) (hm : X.mg x = some (.ref C)) (hc : X.calm = true) (ha : ZE X arg f) (hx : ∀ e s', xeF X (.ref C) false e s' → X.xe e s') (hg : Gl X x := by rfl) (hd : (x == ("__debug__" : Str)) = false := by decide) (he : starEach [arg] X.env = (false, eval arg X.env) :: starEach [] X.env := by exact star_of rfl) : ZS X (.Raise (some (.Call (.Name x np) [arg] [] cpos)) none pos) (dRaise f) :=
  ⟨ss_raise (hC := hC) (hm := hm) (hc := hc) (ha := ha.h) (hx := hx) (hg := hg) (hd := hd) (he := he)⟩
end
section
variable {X : Cx}
theorem zss_off {st : Stmt} : ZS X st (fun _ => none) :=
  ⟨ss_off ⟩
end
section
variable {X : Cx}
theorem zss_consB (i : Nat) {st : Stmt} {rest : List Stmt} {g k : DEnv → Option Out} (h1 : ZS X st g) (h2 : ZB X rest k) : ZB X (st :: rest) (dSeqB i g k) :=
  ⟨ss_consB (i := i) (h1 := h1.h) (h2 := h2.h)⟩
end
section
variable {X : Cx} {pos : Pos}
theorem zse_fnX {j1 j2 k : Nat} {ps : List Str} {F1 FX : List D → Option D} {C : Value} {x : Str} {p : Pos} {e : Expr} {es : List Expr} {g : DEnv → Option (List D)} (G1 : FnD X.prog X.w X.K X.mg X.base j1 x ps F1) (G2 : FnB X.prog X.w X.K X.mg X.base C j2 x ps FX) (hr : Room k X.A) (ha : ZA X (e :: es) g) (hx : ∀ e s', xeF X C true e s' → X.xe e s') (hj1 : j1 ≤ k := by decide) (hj2 : j2 ≤ k := by decide) (hg : Gl X x := by rfl) (hdb : (x == ("__debug__" : Str)) = false := by decide) (he : starEach (e :: es) X.env = (false, eval e X.env) :: starEach es X.env := by exact star_of rfl) (hpl : (backTo pos (starEach es X.env)).any (·.1) = false := by exact back_of rfl) : ZE X (.Call (.Name x p) (e :: es) [] pos) (dCall (orBad F1 FX) g) :=
  ⟨se_fnX (G1 := G1) (G2 := G2) (hr := hr) (ha := ha.h) (hx := hx) (hj1 := hj1) (hj2 := hj2) (hg := hg) (hdb := hdb) (he := he) (hpl := hpl)⟩
end
section
variable {X : Cx} {pos : Pos}
theorem zsf_compE {C : Value} {elt target iter : Expr} {ifs : List Expr} {scope : Scope} {fi : DEnv → Option (List D)} {h : D → DEnv → Option DEnv} {ft : DEnv → Option Bool} {fe : DEnv → Option D} (N : List Str) (cap : List (Option Nat)) (hc : X.calm = true) (hi : ZIc X target iter fi) (hx : ∀ e s', xeF X C true e s' → X.xe e s') (hst : X.stack = X.env :: X.outer) (hfm : X.env.frame = some X.env.locals) (hg : ∀ cl A fp s H, ZG (compCx X N scope cl A fp s H) target h) (ht : ∀ cl A fp s H, ZP (compCx X N scope cl A fp s H) ifs ft) (he : ∀ cl A fp s H, ZE ((compCx X N scope cl A fp s H).wish (xeF (compCx X N scope cl A fp s H) C true)) elt fe) (hok : compOk scope X.env.scope N cap X.N = true := by rfl) (hs : ∀ x, foldedSetIterable iter X.env x = pure x := by intro _; rfl) : ZF X (.ListComp elt [⟨target, iter, ifs, 0⟩] scope pos) (dComp cap fi h ft fe) :=
  ⟨sf_compE (N := N) (cap := cap) (hc := hc) (hi := hi.h) (hx := hx) (hst := hst) (hfm := hfm) (hg := fun cl A fp s H => (hg cl A fp s H).h) (ht := fun cl A fp s H => (ht cl A fp s H).h) (he := fun cl A fp s H => (he cl A fp s H).h) (hok := hok) (hs := hs)⟩
end
section
variable {X : Cx}
theorem zss_try {i ie : Nat} {y fx xp xa xb : Str} {C : Addr} {j1 j2 k : Nat} {ps : List Str} {F1 FX : List D → Option D} {g : DEnv → Option (List D)} {e : Expr} {es : List Expr} {p1 p2 p3 p4 p5 p6 q1 q2 q3 q4 q5 q6 q7 q8 q9 r1 r2 r3 r4 r5 r6 r7 r8 r9 pos : Pos} {kc : Nat} (G1 : FnD X.prog X.w X.K X.mg X.base j1 fx ps F1) (G2 : FnB X.prog X.w X.K X.mg X.base (.ref C) j2 fx ps FX) (TC : TryC X.K X.mg C xp xa xb) (hmI : X.mg "isinstance" = none) (hmV : X.mg "ValueError" = none) (hr : Room k X.A) (ha : ZA X (e :: es) g) (hN : X.N.Nodup) (hne : i ≠ ie := by decide) (hj1 : j1 ≤ k := by decide) (hj2 : j2 ≤ k := by decide) (hi : X.N[i]? = some y := by rfl) (hie : X.N[ie]? = some "e" := by rfl) (hy : X.env.scope.names.lookup y = some .local := by rfl) (hye : X.env.scope.names.lookup ("e" : Str) = some .local := by rfl) (hxe : X.xe = fun _ _ => False := by rfl) (hst : X.stack = X.env :: X.outer := by rfl) (hfm : X.env.frame = some X.env.locals := by rfl) (hgf : Gl X fx := by rfl) (hgp : Gl X xp := by rfl) (hga : Gl X xa := by rfl) (hgb : Gl X xb := by rfl) (hgV : Gl X "ValueError" := by rfl) (hgI : Gl X "isinstance" := by rfl) (hdf : (fx == ("__debug__" : Str)) = false := by decide) (hdp : (xp == ("__debug__" : Str)) = false := by decide) (hda : (xa == ("__debug__" : Str)) = false := by decide) (hdb : (xb == ("__debug__" : Str)) = false := by decide) (he : starEach (e :: es) X.env = (false, eval e X.env) :: starEach es X.env := by exact star_of rfl) (hpl : (backTo p3 (starEach es X.env)).any (·.1) = false := by exact back_of rfl) (hs : swapsWith (.Call (.Name fx p2) (e :: es) [] p3) (some (.Name y p1)) p4.line X.env = pure false := by rfl) : ZS X (.Try [.Assign [.Name y p1] (.Call (.Name fx p2) (e :: es) [] p3) p4]
      [.ExceptHandler (some (.Name xp p5)) (some "e") [.If (.BoolOp .And [.Call (.Name "isinstance" q1) [.Name "e" q2, .Name xa q3] [] q4, .UnaryOp .Not (.Call (.Name "isinstance" q5) [.Name "e" q6, .Name xb q7] [] q8) q9, .Call (.Name "isinstance" r1) [.Name "e" r2, .Name "ValueError" r3] [] r4] r5)
        [.Assign [.Name y r6] (.Constant .none kc r7) r8] [] r9] p6] [] [] pos) (dTry i ie F1 FX g) :=
  ⟨ss_try (G1 := G1) (G2 := G2) (TC := TC) (hmI := hmI) (hmV := hmV) (hr := hr) (ha := ha.h) (hN := hN) (hne := hne) (hj1 := hj1) (hj2 := hj2) (hi := hi) (hie := hie) (hy := hy) (hye := hye) (hxe := hxe) (hst := hst) (hfm := hfm) (hgf := hgf) (hgp := hgp) (hga := hga) (hgb := hgb) (hgV := hgV) (hgI := hgI) (hdf := hdf) (hdp := hdp) (hda := hda) (hdb := hdb) (he := he) (hpl := hpl) (hs := hs)⟩
end
end L3
set_option Elab.async false
set_option linter.all false
set_option maxRecDepth 100000
set_option maxHeartbeats 1000000
namespace P
open PySem L2 L3
def top (i : Nat) : Stmt := PySem.Challenge.pw_pageties_k02_whole_texts.main.body.getD i (.Pass ⟨0, 0, 0, 0⟩)
abbrev s_law_mix : Stmt := top 24
abbrev s_law_web : Stmt := top 25
abbrev s_law_text : Stmt := top 27
abbrev s_tie_word : Stmt := top 20
abbrev s_written : Stmt := top 21
abbrev s_number_of : Stmt := top 16
abbrev s_tie_of : Stmt := top 17
abbrev s_is_pair : Stmt := top 8
abbrev s_is_whole : Stmt := top 7
abbrev s_is_place : Stmt := top 9
abbrev s_is_tie : Stmt := top 10
abbrev s_are_rising : Stmt := top 11
abbrev s_are_ties : Stmt := top 12
abbrev s_is_web : Stmt := top 13
abbrev s_read : Stmt := top 18
abbrev s_law_spoilt : Stmt := top 28
abbrev s_law_read : Stmt := top 29
abbrev s_law : Stmt := top 30
def N_law_mix : List Str := ["_law_cell_here", "_law_prime", "_law_many"]
def g_law_mix : DEnv → Option Out :=
  dRet (d2 dModI (d2 dModI (d2 dMul (dVar 0) (dC (.int 48271))) (dVar 1)) (dVar 2))
def F_law_mix : List D → Option D := dFn 3 N_law_mix g_law_mix
def N_law_web : List Str := ["_law_cell_here", "_law_most", "_law_ties", "_law_many", "_law_found", "_law_k", "_law_one", "_law_other", "_law_tie"]
def g_law_web : DEnv → Option Out :=
  dSeq (dSet 3 (d2 dAdd (dC (.int 1)) (dCall F_law_mix (dCons (dVar 0) (dCons (dC (.int 9973)) (dCons (dVar 1) (dNil)))))))
  (dSeq (dIfS (dAndT (dTest (d2 dLt (dVar 3) (dC (.int 4)))) (dTest (d2 dGtI (d2 dModI (dVar 0) (dC (.int 4))) (dC (.int 0)))))
  (dSet 3 (dVar 1))
  (dNext))
  (dSeq (dSetF 4 (dLim (dNil)))
  (dSeq (dFor (dRng1 (dCall F_law_mix (dCons (dVar 0) (dCons (dC (.int 9967)) (dCons (d2 dAdd (dVar 2) (dC (.int 1))) (dNil)))))) (dName 5)
  (dSeq (dSet 6 (dCall F_law_mix (dCons (d2 dAdd (dVar 0) (d2 dMul (dC (.int 11)) (dVar 5))) (dCons (dC (.int 9949)) (dCons (dVar 3) (dNil))))))
  (dSeq (dSet 7 (dCall F_law_mix (dCons (d2 dAdd (d2 dAdd (dVar 0) (d2 dMul (dC (.int 13)) (dVar 5))) (dC (.int 1))) (dCons (dC (.int 9941)) (dCons (dVar 3) (dNil))))))
  (dSeq (dSet 8 (dTup (dCons (dCall fMin (dCons (dVar 6) (dCons (dVar 7) dNil))) (dCons (dCall fMax (dCons (dVar 6) (dCons (dVar 7) dNil))) (dNil)))))
  (dIfS (dAndT (dTest (d2 dNe (dVar 6) (dVar 7))) (dTest (dIn true (dVar 8) (dOwn 4))))
  (dApp 4 (dVar 8))
  (dNext))))))
  (dRet (dTup (dCons (dVar 3) (dCons (dTupF (dQF sortD (dOwn 4))) (dNil))))))))
def F_law_web : List D → Option D := dFn 3 N_law_web g_law_web
def N_law_text : List Str := ["_law_web_here", "_law_text_here", "_law_one", "_law_other"]
def g_law_text : DEnv → Option Out :=
  dSeq (dSet 1 (d2 dAddS (dStrI (dIx (dSq (dVar 0)) (dC (.int 0)))) (dC (.str " :"))))
  (dSeq (dFor (dSq (dIx (dSq (dVar 0)) (dC (.int 1)))) (dGTup 2 (dGCons (dName 2) (dGCons (dName 3) (dGNil))))
  (dSet 1 (d2 dAddS (d2 dAddS (d2 dAddS (d2 dAddS (dVar 1) (dC (.str " "))) (dStrI (dVar 2))) (dC (.str "-"))) (dStrI (dVar 3)))))
  (dRet (dVar 1)))
def F_law_text : List D → Option D := dFn 1 N_law_text g_law_text
def N_tie_word : List Str := ["tie", "one", "other"]
def g_tie_word : DEnv → Option Out :=
  dSeq (dSet 1 (dIx (dSq (dVar 0)) (dC (.int 0))))
  (dSeq (dSet 2 (dIx (dSq (dVar 0)) (dC (.int 1))))
  (dRet (dJoined (dJCons (dFmtI (dVar 1)) (dJCons (dC (.str "-")) (dJCons (dFmtI (dVar 2)) (dJNil)))))))
def F_tie_word : List D → Option D := dFn 1 N_tie_word g_tie_word
def N_written : List Str := ["web"]
def g_written : DEnv → Option Out :=
  dRet (dJoin " " (dCatF (dLim (dCons (dStrI (dIx (dSq (dVar 0)) (dC (.int 0)))) (dCons (dC (.str ":")) (dNil)))) (dComp [none] (dSq (dIx (dSq (dVar 0)) (dC (.int 1)))) (dName 0) (dTrue) (dCall F_tie_word (dCons (dVar 0) (dNil))))))
def F_written : List D → Option D := dFn 1 N_written g_written
def N_number_of : List Str := ["word"]
def g_number_of : DEnv → Option Out :=
  dSeq (dIfS (dOrT (dTest (d2 dNe (dLenS (dVar 0)) (dC (.int 1)))) (dTest (d2 (dInS true) (dVar 0) (dC (.str "0123456789")))))
  ((fun _ => none))
  (dNext))
  (dRet (dIntS (dVar 0)))
def F_number_of : List D → Option D := dFn 1 N_number_of g_number_of
def gx_number_of : DEnv → Option Out :=
  dSeq (dIfS (dOrT (dTest (d2 dNe (dLenS (dVar 0)) (dC (.int 1)))) (dTest (d2 (dInS true) (dVar 0) (dC (.str "0123456789")))))
  (dRaise (dJoined (dJCons (dC (.str "no number of a web: ")) (dJCons (dFmtR (dVar 0)) (dJNil)))))
  (dNext))
  (dRet (dIntS (dVar 0)))
def FX_number_of : List D → Option D := dFn 1 N_number_of gx_number_of
def FO_number_of : List D → Option D := orBad F_number_of FX_number_of
def N_tie_of : List Str := ["word", "parts"]
def g_tie_of : DEnv → Option Out :=
  dSeq (dSet 1 (dLs (dSplit (dVar 0) (dC (.str "-")))))
  (dSeq (dIfS (dTest (d2 dNe (dLen (dSq (dVar 1))) (dC (.int 2))))
  ((fun _ => none))
  (dNext))
  (dRet (dTup (dCons (dCall F_number_of (dCons (dIx (dSq (dVar 1)) (dC (.int 0))) (dNil))) (dCons (dCall F_number_of (dCons (dIx (dSq (dVar 1)) (dC (.int 1))) (dNil))) (dNil))))))
def F_tie_of : List D → Option D := dFn 1 N_tie_of g_tie_of
def gx_tie_of : DEnv → Option Out :=
  dSeq (dSet 1 (dLs (dSplit (dVar 0) (dC (.str "-")))))
  (dSeq (dIfS (dTest (d2 dNe (dLen (dSq (dVar 1))) (dC (.int 2))))
  (dRaise (dJoined (dJCons (dC (.str "no tie: ")) (dJCons (dFmtR (dVar 0)) (dJNil)))))
  (dNext))
  (dRet (dTup (dCons (dCall FO_number_of (dCons (dIx (dSq (dVar 1)) (dC (.int 0))) (dNil))) (dCons (dCall FO_number_of (dCons (dIx (dSq (dVar 1)) (dC (.int 1))) (dNil))) (dNil))))))
def FX_tie_of : List D → Option D := dFn 1 N_tie_of gx_tie_of
def FO_tie_of : List D → Option D := orBad F_tie_of FX_tie_of
def N_is_pair : List Str := ["thing"]
def g_is_pair : DEnv → Option Out :=
  dRet (dAnd (dIsi "tuple" (dVar 0)) (d2 dEq (dLen (dSq (dVar 0))) (dC (.int 2))))
def F_is_pair : List D → Option D := dFn 1 N_is_pair g_is_pair
def N_is_whole : List Str := ["thing"]
def g_is_whole : DEnv → Option Out :=
  dRet (dAnd (dIsi "int" (dVar 0)) (dNot (dIsi "bool" (dVar 0))))
def F_is_whole : List D → Option D := dFn 1 N_is_whole g_is_whole
def N_is_place : List Str := ["many", "thing"]
def g_is_place : DEnv → Option Out :=
  dRet (dAnd (dCall F_is_whole (dCons (dVar 1) (dNil))) (dChain dLeI dLtI (dC (.int 0)) (dVar 1) (dVar 0)))
def F_is_place : List D → Option D := dFn 2 N_is_place g_is_place
def N_is_tie : List Str := ["many", "thing"]
def g_is_tie : DEnv → Option Out :=
  dSeq (dIfS (dNotT (dTest (dCall F_is_pair (dCons (dVar 1) (dNil)))))
  (dRet (dC (.bl false)))
  (dNext))
  (dRet (dAnd (dCall F_is_place (dCons (dVar 0) (dCons (dIx (dSq (dVar 1)) (dC (.int 0))) (dNil)))) (dAnd (dCall F_is_place (dCons (dVar 0) (dCons (dIx (dSq (dVar 1)) (dC (.int 1))) (dNil)))) (d2 dLt (dIx (dSq (dVar 1)) (dC (.int 0))) (dIx (dSq (dVar 1)) (dC (.int 1)))))))
def F_is_tie : List D → Option D := dFn 2 N_is_tie g_is_tie
def N_are_rising : List Str := ["things"]
def g_are_rising : DEnv → Option Out :=
  dRet (dAll (dComp [none, some 0] (dRng1 (d2 dSubI (dLen (dSq (dVar 0))) (dC (.int 1)))) (dName 0) (dTrue) (d2 dLt (dIx (dSq (dVar 1)) (dVar 0)) (dIx (dSq (dVar 1)) (d2 dAdd (dVar 0) (dC (.int 1)))))))
def F_are_rising : List D → Option D := dFn 1 N_are_rising g_are_rising
def N_are_ties : List Str := ["many", "thing"]
def g_are_ties : DEnv → Option Out :=
  dSeq (dIfS (dOrT (dNotT (dTest (dIsi "tuple" (dVar 1)))) (dTest (d2 dGtI (dLen (dSq (dVar 1))) (dC (.int 12)))))
  (dRet (dC (.bl false)))
  (dNext))
  (dRet (dAnd (dAll (dComp [none, some 0] (dSq (dVar 1)) (dName 0) (dTrue) (dCall F_is_tie (dCons (dVar 1) (dCons (dVar 0) (dNil)))))) (dCall F_are_rising (dCons (dVar 1) (dNil)))))
def F_are_ties : List D → Option D := dFn 2 N_are_ties g_are_ties
def N_is_web : List Str := ["thing"]
def g_is_web : DEnv → Option Out :=
  dSeq (dIfS (dOrT (dNotT (dTest (dCall F_is_pair (dCons (dVar 0) (dNil))))) (dNotT (dTest (dCall F_is_whole (dCons (dIx (dSq (dVar 0)) (dC (.int 0))) (dNil))))))
  (dRet (dC (.bl false)))
  (dNext))
  (dRet (dAnd (dChain dLeI dLeI (dC (.int 1)) (dIx (dSq (dVar 0)) (dC (.int 0))) (dC (.int 6))) (dCall F_are_ties (dCons (dIx (dSq (dVar 0)) (dC (.int 0))) (dCons (dIx (dSq (dVar 0)) (dC (.int 1))) (dNil))))))
def F_is_web : List D → Option D := dFn 1 N_is_web g_is_web
def N_read : List Str := ["text", "words", "web"]
def g_read : DEnv → Option Out :=
  dSeq (dSet 1 (dLs (dSplit (dVar 0) (dC (.str " ")))))
  (dSeq (dIfS (dOrT (dTest (d2 dLt (dLen (dSq (dVar 1))) (dC (.int 2)))) (dTest (d2 dNe (dIx (dSq (dVar 1)) (dC (.int 1))) (dC (.str ":")))))
  ((fun _ => none))
  (dNext))
  (dSeq (dSet 2 (dTup (dCons (dCall F_number_of (dCons (dIx (dSq (dVar 1)) (dC (.int 0))) (dNil))) (dCons (dTupF (dComp [none] (dSq (dSlc (dVar 1) (dPart (dC (.int 2))) (dNoP))) (dName 0) (dTrue) (dCall F_tie_of (dCons (dVar 0) (dNil))))) (dNil)))))
  (dSeq (dIfS (dNotT (dTest (dCall F_is_web (dCons (dVar 2) (dNil)))))
  ((fun _ => none))
  (dNext))
  (dRet (dVar 2)))))
def F_read : List D → Option D := dFn 1 N_read g_read
def gx_read : DEnv → Option Out :=
  dSeq (dSet 1 (dLs (dSplit (dVar 0) (dC (.str " ")))))
  (dSeq (dIfS (dOrT (dTest (d2 dLt (dLen (dSq (dVar 1))) (dC (.int 2)))) (dTest (d2 dNe (dIx (dSq (dVar 1)) (dC (.int 1))) (dC (.str ":")))))
  (dRaise (dJoined (dJCons (dC (.str "no colon as the second word: ")) (dJCons (dFmtR (dVar 0)) (dJNil)))))
  (dNext))
  (dSeqB 2 (dSet 2 (dTup (dCons (dCall FO_number_of (dCons (dIx (dSq (dVar 1)) (dC (.int 0))) (dNil))) (dCons (dTupF (dComp [none] (dSq (dSlc (dVar 1) (dPart (dC (.int 2))) (dNoP))) (dName 0) (dTrue) (dCall FO_tie_of (dCons (dVar 0) (dNil))))) (dNil)))))
  (dSeq (dIfS (dNotT (dTest (dCall F_is_web (dCons (dVar 2) (dNil)))))
  (dRaise (dJoined (dJCons (dC (.str "no web: ")) (dJCons (dFmtR (dVar 0)) (dJNil)))))
  (dNext))
  (dRet (dVar 2)))))
def FX_read : List D → Option D := dFn 1 N_read gx_read
def N_law_spoilt : List Str := ["_law_text_here", "_law_cell_here", "_law_at", "_law_sign"]
def g_law_spoilt : DEnv → Option Out :=
  dSeq (dSet 2 (d2 dModI (d2 dDivI (dVar 1) (dC (.int 4))) (d2 dAdd (dLenS (dVar 0)) (dC (.int 1)))))
  (dSeq (dSet 3 (dIxS (dC (.str "0157:- ,ax")) (d2 dModI (d2 dDivI (dVar 1) (dC (.int 512))) (dC (.int 10)))))
  (dSeq (dIfS (dTest (d2 dEq (d2 dModI (dVar 1) (dC (.int 4))) (dC (.int 0))))
  (dRet (d2 dAddS (dSlS (dVar 0) (dNoP) (dPart (dVar 2))) (dSlS (dVar 0) (dPart (d2 dAdd (dVar 2) (dC (.int 1)))) (dNoP))))
  (dNext))
  (dSeq (dIfS (dTest (d2 dEq (d2 dModI (dVar 1) (dC (.int 4))) (dC (.int 1))))
  (dRet (d2 dAddS (d2 dAddS (dSlS (dVar 0) (dNoP) (dPart (dVar 2))) (dSlS (dVar 0) (dPart (dVar 2)) (dPart (d2 dAdd (dVar 2) (dC (.int 1)))))) (dSlS (dVar 0) (dPart (dVar 2)) (dNoP))))
  (dNext))
  (dRet (d2 dAddS (d2 dAddS (dSlS (dVar 0) (dNoP) (dPart (dVar 2))) (dVar 3)) (dSlS (dVar 0) (dPart (d2 dSubI (d2 dAdd (dVar 2) (d2 dModI (dVar 1) (dC (.int 4)))) (dC (.int 2)))) (dNoP)))))))
def F_law_spoilt : List D → Option D := dFn 2 N_law_spoilt g_law_spoilt
def N_law_read : List Str := ["_law_text_here", "_law_found", "e"]
def g_law_read : DEnv → Option Out :=
  dSeq (dSet 1 (dC (.str "other")))
  (dSeq (dTry 1 2 F_read FX_read (dCons (dVar 0) (dNil)))
  (dRet (dVar 1)))
def F_law_read : List D → Option D := dFn 1 N_law_read g_law_read
def N_law : List Str := ["_law_script", "_law_cell_here", "_law_web_here", "_law_text_here", "_law_bad", "_law_found", "_law_some"]
def g_law : DEnv → Option Out :=
  dSeq (dFor (dSq (dSlc (dVar 0) (dNoP) (dPart (dC (.int 8))))) (dName 1)
  (dSeq (dSet 2 (dCall F_law_web (dCons (dVar 1) (dCons (dC (.int 6)) (dCons (dC (.int 12)) (dNil))))))
  (dSeq (dSet 3 (dCall F_law_text (dCons (dVar 2) (dNil))))
  (dSeq (dIfS (dOrT (dTest (d2 dNe (dCall F_written (dCons (dVar 2) (dNil))) (dVar 3))) (dTest (d2 dNe (dCall F_read (dCons (dVar 3) (dNil))) (dVar 2))))
  (dRet (dC (.bl false)))
  (dNext))
  (dSeq (dSet 4 (dCall F_law_spoilt (dCons (dVar 3) (dCons (d2 dDivI (dVar 1) (dC (.int 3))) (dNil)))))
  (dSeq (dSet 5 (dCall F_law_read (dCons (dVar 4) (dNil))))
  (dIfS (dAndT (dTest (d2 dIsN (dVar 5) (dC .non))) (dOrT (dNotT (dTest (dCall F_is_web (dCons (dVar 5) (dNil))))) (dTest (d2 dNe (dCall F_law_text (dCons (dVar 5) (dNil))) (dVar 4)))))
  (dRet (dC (.bl false)))
  (dNext))))))))
  (dSeq (dSet 6 (dLs (dLim (dCons (dC (.str "")) (dCons (dC (.str ":")) (dCons (dC (.str "1")) (dCons (dC (.str "1:")) (dCons (dC (.str "1 : ")) (dCons (dC (.str "2 : 1-0")) (dCons (dC (.str "2 : 0-1 ")) (dCons (dC (.str " 2 : 0-1")) (dCons (dC (.str "2 : 0-1 0-1")) (dCons (dC (.str "2 : 0")) (dCons (dC (.str "2 : 0-")) (dCons (dC (.str "7 :")) (dNil))))))))))))))))
  (dSeq (dFor (dSq (dLs (dCatF (dLstOf (dVar 6)) (dLim (dCons (dC (.str "0 :")) (dCons (dC (.str "2 : 0-2")) (dCons (dC (.str "3 : 0-2 0-1")) (dNil)))))))) (dName 4)
  (dIfS (dTest (d2 dIsN (dCall F_law_read (dCons (dVar 4) (dNil))) (dC .non)))
  (dRet (dC (.bl false)))
  (dNext)))
  (dRet (dAnd (d2 dEq (dCall F_read (dCons (dC (.str "1 :")) (dNil))) (dTup (dCons (dC (.int 1)) (dCons (dTup (dNil)) (dNil))))) (d2 dEq (dCall F_read (dCons (dC (.str "2 :")) (dNil))) (dTup (dCons (dC (.int 2)) (dCons (dTup (dNil)) (dNil)))))))))
def F_law : List D → Option D := dFn 1 N_law g_law
structure ExcTop (K : PySem.W.Frag) (mg : Str → Option Value) (C : Addr) : Prop where
  mN : mg "NoText" = some (.ref C)
  ex : PySem.W.excIn K C VE "ValueError.__new__" = true
  tr : TryC K mg C "PageError" "NoText" "NoRun"
  tb : ∀ H, TB K H
structure Top (K : PySem.W.Frag) (w : World) (mg : Str → Option Value) (C : Addr) : Prop where
  tx : ExcTop K mg C
  d_law_mix : Stands K mg "_law_mix" s_law_mix
  d_law_web : Stands K mg "_law_web" s_law_web
  d_law_text : Stands K mg "_law_text" s_law_text
  d_tie_word : Stands K mg "tie_word" s_tie_word
  d_written : Stands K mg "written" s_written
  d_number_of : Stands K mg "number_of" s_number_of
  d_tie_of : Stands K mg "tie_of" s_tie_of
  d_is_pair : Stands K mg "is_pair" s_is_pair
  d_is_whole : Stands K mg "is_whole" s_is_whole
  d_is_place : Stands K mg "is_place" s_is_place
  d_is_tie : Stands K mg "is_tie" s_is_tie
  d_are_rising : Stands K mg "are_rising" s_are_rising
  d_are_ties : Stands K mg "are_ties" s_are_ties
  d_is_web : Stands K mg "is_web" s_is_web
  d_read : Stands K mg "read" s_read
  d_law_spoilt : Stands K mg "_law_spoilt" s_law_spoilt
  d_law_read : Stands K mg "_law_read" s_law_read
  d_law : Stands K mg "law" s_law
  b_ValueError : mg "ValueError" = none
  b_all : mg "all" = none
  b_bool : mg "bool" = none
  b_int : mg "int" = none
  b_isinstance : mg "isinstance" = none
  b_len : mg "len" = none
  b_max : mg "max" = none
  b_min : mg "min" = none
  b_range : mg "range" = none
  b_sorted : mg "sorted" = none
  b_str : mg "str" = none
  b_tuple : mg "tuple" = none
  x_MOST_PLACES : ∃ t, mg "MOST_PLACES" = some (.int 6 t)
  x_MOST_TIES : ∃ t, mg "MOST_TIES" = some (.int 12 t)
  xs_DIGITS : ∃ t, mg "DIGITS" = some (.str "0123456789" t)
section
variable {P : Program} {w : World} {K : PySem.W.Frag} {mg : Str → Option Value} {base : Heap} {C : Addr}
theorem sc_law_mix : FnScope N_law_mix ["_law_cell_here", "_law_prime", "_law_many"] (defScope s_law_mix) := ⟨rfl, rfl, rfl, by decide +kernel, rfl, by decide +kernel, by decide +kernel⟩
theorem b_law_mix (T : Top K w mg C) (f : Addr) (cdv : Value) (A : Around) (outer : List Env) (s : Shared) (H : Hp) (E : XK) (hr : Room 0 (A.deeper (PyProof.Rows.envOfC "_law_mix" (defScope s_law_mix) s.heap.objs.size f cdv))) :
    ZB (cxOf CX0 P w K mg base N_law_mix "_law_mix" (defScope s_law_mix) f cdv A outer s H E).nox (defBody s_law_mix) g_law_mix := by
  have hu := hr.units
  have hu0 := hr.units0
  exact zss_one (zss_ret (zse_mod (zse_mod (zse_mul (zsv 0) (zse_int)) (zsv 1)) (zsv 2)))
theorem ok_law_mix (T : Top K w mg C) : FnD P w K mg base 1 "_law_mix" ["_law_cell_here", "_law_prime", "_law_many"] F_law_mix :=
  zfn_d T.d_law_mix sc_law_mix (fun _ _ _ _ _ _ us hl => match us, hl with | [_, _, _], _ => rfl) rfl (b_law_mix T)
theorem sc_law_web : FnScope N_law_web ["_law_cell_here", "_law_most", "_law_ties"] (defScope s_law_web) := ⟨rfl, rfl, rfl, by decide +kernel, rfl, by decide +kernel, by decide +kernel⟩
theorem b_law_web (T : Top K w mg C) (f : Addr) (cdv : Value) (A : Around) (outer : List Env) (s : Shared) (H : Hp) (E : XK) (hr : Room 1 (A.deeper (PyProof.Rows.envOfC "_law_web" (defScope s_law_web) s.heap.objs.size f cdv))) :
    ZB (cxOf CX0 P w K mg base N_law_web "_law_web" (defScope s_law_web) f cdv A outer s H E).nox (defBody s_law_web) g_law_web := by
  have hu := hr.units
  have hu0 := hr.units0
  exact zss_cons (zss_set (i := 3) (zse_add (zse_int) (zse_fn (ok_law_mix T) hr (zsa_cons (zsv 0) (zsa_cons (zse_int) (zsa_cons (zsv 1) (zsa_nil)))))) sc_law_web.nd)
      (zss_cons (zss_if (zst_w (zsw_and (zst_lt hu0 (zsv 3) (zse_int)) (zsw_and1 (zst_gtI (zse_mod (zsv 0) (zse_int)) (zse_int)))))
      (zss_one (zss_set (i := 3) (zsv 1) sc_law_web.nd))
      (zss_nil))
      (zss_cons (zss_setF (i := 4) (zsf_lst (zsa_nil)) sc_law_web.nd)
      (zss_cons (zss_for PassesOwn.never rfl (zsi_rng1 T.b_range (zse_fn (ok_law_mix T) hr (zsa_cons (zsv 0) (zsa_cons (zse_int) (zsa_cons (zse_add (zsv 2) (zse_int)) (zsa_nil)))))) (zsg_name (i := 5) sc_law_web.nd)
      (zss_cons (zss_set (i := 6) (zse_fn (ok_law_mix T) hr (zsa_cons (zse_add (zsv 0) (zse_mul (zse_int) (zsv 5))) (zsa_cons (zse_int) (zsa_cons (zsv 3) (zsa_nil))))) sc_law_web.nd)
      (zss_cons (zss_set (i := 7) (zse_fn (ok_law_mix T) hr (zsa_cons (zse_add (zse_add (zsv 0) (zse_mul (zse_int) (zsv 5))) (zse_int)) (zsa_cons (zse_int) (zsa_cons (zsv 3) (zsa_nil))))) sc_law_web.nd)
      (zss_cons (zss_set (i := 8) (zse_tup (zsa_cons (zse_min2 rfl T.b_min (zsv 6) (zsv 7)) (zsa_cons (zse_max2 rfl T.b_max (zsv 6) (zsv 7)) (zsa_nil)))) sc_law_web.nd)
      (zss_one (zss_if (zst_w (zsw_and (zst_ne hu (zsv 6) (zsv 7)) (zsw_and1 (zst_nin hu (zsv 8) (zqv 4)))))
      (zss_one (zss_app (i := 4) (zsv 8)))
      (zss_nil)))))))
      (zss_one (zss_ret (zse_tup (zsa_cons (zsv 3) (zsa_cons (zse_tuple T.b_tuple (zf_q (zsf_sorted T.b_sorted (zqv 4)))) (zsa_nil)))))))))
theorem ok_law_web (T : Top K w mg C) : FnD P w K mg base 2 "_law_web" ["_law_cell_here", "_law_most", "_law_ties"] F_law_web :=
  zfn_d T.d_law_web sc_law_web (fun _ _ _ _ _ _ us hl => match us, hl with | [_, _, _], _ => rfl) rfl (b_law_web T)
theorem sc_law_text : FnScope N_law_text ["_law_web_here"] (defScope s_law_text) := ⟨rfl, rfl, rfl, by decide +kernel, rfl, by decide +kernel, by decide +kernel⟩
theorem b_law_text (T : Top K w mg C) (f : Addr) (cdv : Value) (A : Around) (outer : List Env) (s : Shared) (H : Hp) (E : XK) (hr : Room 0 (A.deeper (PyProof.Rows.envOfC "_law_text" (defScope s_law_text) s.heap.objs.size f cdv))) :
    ZB (cxOf CX0 P w K mg base N_law_text "_law_text" (defScope s_law_text) f cdv A outer s H E).nox (defBody s_law_text) g_law_text := by
  have hu := hr.units
  have hu0 := hr.units0
  exact zss_cons (zss_set (i := 1) (zse_addS (zse_strI T.b_str (zse_ix (zq_of (zsv 0)) (zse_int))) (zse_str)) sc_law_text.nd)
      (zss_cons (zss_for PassesOwn.never rfl (zsi_seq (zse_ix (zq_of (zsv 0)) (zse_int))) (zsg_tup rfl (zsgs_cons (zsg_name (i := 2) sc_law_text.nd) (zsgs_cons (zsg_name (i := 3) sc_law_text.nd) (zsgs_nil))))
      (zss_one (zss_set (i := 1) (zse_addS (zse_addS (zse_addS (zse_addS (zsv 1) (zse_str)) (zse_strI T.b_str (zsv 2))) (zse_str)) (zse_strI T.b_str (zsv 3))) sc_law_text.nd)))
      (zss_one (zss_ret (zsv 1))))
theorem ok_law_text (T : Top K w mg C) : FnD P w K mg base 1 "_law_text" ["_law_web_here"] F_law_text :=
  zfn_d T.d_law_text sc_law_text (fun _ _ _ _ _ _ us hl => match us, hl with | [_], _ => rfl) rfl (b_law_text T)
theorem sc_tie_word : FnScope N_tie_word ["tie"] (defScope s_tie_word) := ⟨rfl, rfl, rfl, by decide +kernel, rfl, by decide +kernel, by decide +kernel⟩
theorem b_tie_word (T : Top K w mg C) (f : Addr) (cdv : Value) (A : Around) (outer : List Env) (s : Shared) (H : Hp) (E : XK) (hr : Room 0 (A.deeper (PyProof.Rows.envOfC "tie_word" (defScope s_tie_word) s.heap.objs.size f cdv))) :
    ZB (cxOf CX0 P w K mg base N_tie_word "tie_word" (defScope s_tie_word) f cdv A outer s H E).nox (defBody s_tie_word) g_tie_word := by
  have hu := hr.units
  have hu0 := hr.units0
  exact zss_cons (zss_set (i := 1) (zse_ix (zq_of (zsv 0)) (zse_int)) sc_tie_word.nd)
      (zss_cons (zss_set (i := 2) (zse_ix (zq_of (zsv 0)) (zse_int)) sc_tie_word.nd)
      (zss_one (zss_ret (zse_joined (zsj_cons (zse_fmtI (zsv 1)) (zsj_cons (zse_str) (zsj_cons (zse_fmtI (zsv 2)) (zsj_nil))))))))
theorem ok_tie_word (T : Top K w mg C) : FnD P w K mg base 1 "tie_word" ["tie"] F_tie_word :=
  zfn_d T.d_tie_word sc_tie_word (fun _ _ _ _ _ _ us hl => match us, hl with | [_], _ => rfl) rfl (b_tie_word T)
theorem sc_written : FnScope N_written ["web"] (defScope s_written) := ⟨rfl, rfl, rfl, by decide +kernel, rfl, by decide +kernel, by decide +kernel⟩
theorem b_written (T : Top K w mg C) (f : Addr) (cdv : Value) (A : Around) (outer : List Env) (s : Shared) (H : Hp) (E : XK) (hr : Room 1 (A.deeper (PyProof.Rows.envOfC "written" (defScope s_written) s.heap.objs.size f cdv))) :
    ZB (cxOf CX0 P w K mg base N_written "written" (defScope s_written) f cdv A outer s H E).nox (defBody s_written) g_written := by
  have hu := hr.units
  have hu0 := hr.units0
  exact zss_one (zss_ret (zse_join (zql_f (zsf_cat (zql_f (zsf_lst (zsa_cons (zse_strI T.b_str (zse_ix (zq_of (zsv 0)) (zse_int))) (zsa_cons (zse_str) (zsa_nil))))) (zql_f (zsf_compB ["tie"] [none] rfl (zsic_of (zsi_seq (zse_ix (zq_of (zsv 0)) (zse_int)))) (fun _ _ _ _ _ => zsg_name (i := 0) (show List.Nodup (["tie"] : List Str) by decide +kernel)) (fun _ _ _ _ _ => zpifs0) (fun _ _ _ _ _ => zse_fn (ok_tie_word T) hr (zsa_cons (zsv 0) (zsa_nil)))))))))
theorem ok_written (T : Top K w mg C) : FnD P w K mg base 2 "written" ["web"] F_written :=
  zfn_d T.d_written sc_written (fun _ _ _ _ _ _ us hl => match us, hl with | [_], _ => rfl) rfl (b_written T)
theorem sc_number_of : FnScope N_number_of ["word"] (defScope s_number_of) := ⟨rfl, rfl, rfl, by decide +kernel, rfl, by decide +kernel, by decide +kernel⟩
theorem b_number_of (T : Top K w mg C) (f : Addr) (cdv : Value) (A : Around) (outer : List Env) (s : Shared) (H : Hp) (E : XK) (hr : Room 0 (A.deeper (PyProof.Rows.envOfC "number_of" (defScope s_number_of) s.heap.objs.size f cdv))) :
    ZB (cxOf CX0 P w K mg base N_number_of "number_of" (defScope s_number_of) f cdv A outer s H E).nox (defBody s_number_of) g_number_of := by
  obtain ⟨ts_DIGITS, zs_DIGITS⟩ := T.xs_DIGITS
  have hu := hr.units
  have hu0 := hr.units0
  exact zss_cons (zss_if (zst_w (zsw_or (zst_ne hu (zse_lenS T.b_len (zsv 0)) (zse_int)) (zsw_or1 (zst_ninS (zsv 0) (zse_gstr zs_DIGITS)))))
      (zss_one (zss_off))
      (zss_nil))
      (zss_one (zss_ret (zse_intS T.b_int (zsv 0))))
theorem ok_number_of (T : Top K w mg C) : FnD P w K mg base 1 "number_of" ["word"] F_number_of :=
  zfn_d T.d_number_of sc_number_of (fun _ _ _ _ _ _ us hl => match us, hl with | [_], _ => rfl) rfl (b_number_of T)
theorem bx_number_of (T : Top K w mg C) (f : Addr) (cdv : Value) (A : Around) (outer : List Env) (s : Shared) (H : Hp) (E : XK) (hr : Room 0 (A.deeper (PyProof.Rows.envOfC "number_of" (defScope s_number_of) s.heap.objs.size f cdv))) :
    ZB (cxOf (CXN P w (.ref C)) P w K mg base N_number_of "number_of" (defScope s_number_of) f cdv A outer s H E) (defBody s_number_of) gx_number_of := by
  obtain ⟨ts_DIGITS, zs_DIGITS⟩ := T.xs_DIGITS
  have hu := hr.units
  have hu0 := hr.units0
  exact zss_cons (zss_if (zst_w (zsw_or (zst_ne hu (zse_lenS T.b_len (zsv 0)) (zse_int)) (zsw_or1 (zst_ninS (zsv 0) (zse_gstr zs_DIGITS)))))
      (zss_one (zss_raise T.tx.ex T.tx.mN rfl (zse_joined (zsj_cons (zse_str) (zsj_cons (zse_fmtR (zsv 0)) (zsj_nil)))) (fun _ _ h => leave_of h)))
      (zss_nil))
      (zss_one (zss_ret (zse_intS T.b_int (zsv 0))))
theorem okx_number_of (T : Top K w mg C) : FnB P w K mg base (.ref C) 1 "number_of" ["word"] FX_number_of :=
  fn_b T.d_number_of sc_number_of T.tx.tb (fun _ _ _ _ _ _ us hl => match us, hl with | [_], _ => rfl) (fun f cdv A outer s H E hr => (bx_number_of T f cdv A outer s H E hr).h)
theorem sc_tie_of : FnScope N_tie_of ["word"] (defScope s_tie_of) := ⟨rfl, rfl, rfl, by decide +kernel, rfl, by decide +kernel, by decide +kernel⟩
theorem b_tie_of (T : Top K w mg C) (f : Addr) (cdv : Value) (A : Around) (outer : List Env) (s : Shared) (H : Hp) (E : XK) (hr : Room 1 (A.deeper (PyProof.Rows.envOfC "tie_of" (defScope s_tie_of) s.heap.objs.size f cdv))) :
    ZB (cxOf CX0 P w K mg base N_tie_of "tie_of" (defScope s_tie_of) f cdv A outer s H E).nox (defBody s_tie_of) g_tie_of := by
  have hu := hr.units
  have hu0 := hr.units0
  exact zss_cons (zss_set (i := 1) (zf_se (zsf_split (zsv 0) (zse_str))) sc_tie_of.nd)
      (zss_cons (zss_if (zst_ne hu (zse_len T.b_len (zq_of (zsv 1))) (zse_int))
      (zss_one (zss_off))
      (zss_nil))
      (zss_one (zss_ret (zse_tup (zsa_cons (zse_fn (ok_number_of T) hr (zsa_cons (zse_ix (zq_of (zsv 1)) (zse_int)) (zsa_nil))) (zsa_cons (zse_fn (ok_number_of T) hr (zsa_cons (zse_ix (zq_of (zsv 1)) (zse_int)) (zsa_nil))) (zsa_nil)))))))
theorem ok_tie_of (T : Top K w mg C) : FnD P w K mg base 2 "tie_of" ["word"] F_tie_of :=
  zfn_d T.d_tie_of sc_tie_of (fun _ _ _ _ _ _ us hl => match us, hl with | [_], _ => rfl) rfl (b_tie_of T)
theorem bx_tie_of (T : Top K w mg C) (f : Addr) (cdv : Value) (A : Around) (outer : List Env) (s : Shared) (H : Hp) (E : XK) (hr : Room 1 (A.deeper (PyProof.Rows.envOfC "tie_of" (defScope s_tie_of) s.heap.objs.size f cdv))) :
    ZB (cxOf (CXN P w (.ref C)) P w K mg base N_tie_of "tie_of" (defScope s_tie_of) f cdv A outer s H E) (defBody s_tie_of) gx_tie_of := by
  have hu := hr.units
  have hu0 := hr.units0
  exact zss_cons (zss_set (i := 1) (zf_se (zsf_split (zsv 0) (zse_str))) sc_tie_of.nd)
      (zss_cons (zss_if (zst_ne hu (zse_len T.b_len (zq_of (zsv 1))) (zse_int))
      (zss_one (zss_raise T.tx.ex T.tx.mN rfl (zse_joined (zsj_cons (zse_str) (zsj_cons (zse_fmtR (zsv 0)) (zsj_nil)))) (fun _ _ h => leave_of h)))
      (zss_nil))
      (zss_one (zss_ret (zse_tup (zsa_cons (zse_fnX (ok_number_of T) (okx_number_of T) hr (zsa_cons (zse_ix (zq_of (zsv 1)) (zse_int)) (zsa_nil)) (fun _ _ h => leave_of h)) (zsa_cons (zse_fnX (ok_number_of T) (okx_number_of T) hr (zsa_cons (zse_ix (zq_of (zsv 1)) (zse_int)) (zsa_nil)) (fun _ _ h => leave_of h)) (zsa_nil)))))))
theorem okx_tie_of (T : Top K w mg C) : FnB P w K mg base (.ref C) 2 "tie_of" ["word"] FX_tie_of :=
  fn_b T.d_tie_of sc_tie_of T.tx.tb (fun _ _ _ _ _ _ us hl => match us, hl with | [_], _ => rfl) (fun f cdv A outer s H E hr => (bx_tie_of T f cdv A outer s H E hr).h)
theorem sc_is_pair : FnScope N_is_pair ["thing"] (defScope s_is_pair) := ⟨rfl, rfl, rfl, by decide +kernel, rfl, by decide +kernel, by decide +kernel⟩
theorem b_is_pair (T : Top K w mg C) (f : Addr) (cdv : Value) (A : Around) (outer : List Env) (s : Shared) (H : Hp) (E : XK) (hr : Room 0 (A.deeper (PyProof.Rows.envOfC "is_pair" (defScope s_is_pair) s.heap.objs.size f cdv))) :
    ZB (cxOf CX0 P w K mg base N_is_pair "is_pair" (defScope s_is_pair) f cdv A outer s H E).nox (defBody s_is_pair) g_is_pair := by
  have hu := hr.units
  have hu0 := hr.units0
  exact zss_one (zss_ret (zse_and (zse_isi kit_tuple T.b_isinstance T.b_tuple (zsv 0) (by decide +kernel)) (zse_one (zse_eq hu (zse_len T.b_len (zq_of (zsv 0))) (zse_int)))))
theorem ok_is_pair (T : Top K w mg C) : FnD P w K mg base 1 "is_pair" ["thing"] F_is_pair :=
  zfn_d T.d_is_pair sc_is_pair (fun _ _ _ _ _ _ us hl => match us, hl with | [_], _ => rfl) rfl (b_is_pair T)
theorem sc_is_whole : FnScope N_is_whole ["thing"] (defScope s_is_whole) := ⟨rfl, rfl, rfl, by decide +kernel, rfl, by decide +kernel, by decide +kernel⟩
theorem b_is_whole (T : Top K w mg C) (f : Addr) (cdv : Value) (A : Around) (outer : List Env) (s : Shared) (H : Hp) (E : XK) (hr : Room 0 (A.deeper (PyProof.Rows.envOfC "is_whole" (defScope s_is_whole) s.heap.objs.size f cdv))) :
    ZB (cxOf CX0 P w K mg base N_is_whole "is_whole" (defScope s_is_whole) f cdv A outer s H E).nox (defBody s_is_whole) g_is_whole := by
  have hu := hr.units
  have hu0 := hr.units0
  exact zss_one (zss_ret (zse_and (zse_isi kit_int T.b_isinstance T.b_int (zsv 0) (by decide +kernel)) (zse_one (zse_not (zse_isi kit_bool T.b_isinstance T.b_bool (zsv 0) (by decide +kernel))))))
theorem ok_is_whole (T : Top K w mg C) : FnD P w K mg base 1 "is_whole" ["thing"] F_is_whole :=
  zfn_d T.d_is_whole sc_is_whole (fun _ _ _ _ _ _ us hl => match us, hl with | [_], _ => rfl) rfl (b_is_whole T)
theorem sc_is_place : FnScope N_is_place ["many", "thing"] (defScope s_is_place) := ⟨rfl, rfl, rfl, by decide +kernel, rfl, by decide +kernel, by decide +kernel⟩
theorem b_is_place (T : Top K w mg C) (f : Addr) (cdv : Value) (A : Around) (outer : List Env) (s : Shared) (H : Hp) (E : XK) (hr : Room 1 (A.deeper (PyProof.Rows.envOfC "is_place" (defScope s_is_place) s.heap.objs.size f cdv))) :
    ZB (cxOf CX0 P w K mg base N_is_place "is_place" (defScope s_is_place) f cdv A outer s H E).nox (defBody s_is_place) g_is_place := by
  have hu := hr.units
  have hu0 := hr.units0
  exact zss_one (zss_ret (zse_and (zse_fn (ok_is_whole T) hr (zsa_cons (zsv 1) (zsa_nil))) (zse_one (zse_chain op_le rd_bl0 op_lt rd_bl0 (zse_int) (zsv 1) (zsv 0)))))
theorem ok_is_place (T : Top K w mg C) : FnD P w K mg base 2 "is_place" ["many", "thing"] F_is_place :=
  zfn_d T.d_is_place sc_is_place (fun _ _ _ _ _ _ us hl => match us, hl with | [_, _], _ => rfl) rfl (b_is_place T)
theorem sc_is_tie : FnScope N_is_tie ["many", "thing"] (defScope s_is_tie) := ⟨rfl, rfl, rfl, by decide +kernel, rfl, by decide +kernel, by decide +kernel⟩
theorem b_is_tie (T : Top K w mg C) (f : Addr) (cdv : Value) (A : Around) (outer : List Env) (s : Shared) (H : Hp) (E : XK) (hr : Room 2 (A.deeper (PyProof.Rows.envOfC "is_tie" (defScope s_is_tie) s.heap.objs.size f cdv))) :
    ZB (cxOf CX0 P w K mg base N_is_tie "is_tie" (defScope s_is_tie) f cdv A outer s H E).nox (defBody s_is_tie) g_is_tie := by
  have hu := hr.units
  have hu0 := hr.units0
  exact zss_cons (zss_if (zst_not (zst_val (zse_fn (ok_is_pair T) hr (zsa_cons (zsv 1) (zsa_nil)))))
      (zss_one (zss_ret (zse_bl)))
      (zss_nil))
      (zss_one (zss_ret (zse_and (zse_fn (ok_is_place T) hr (zsa_cons (zsv 0) (zsa_cons (zse_ix (zq_of (zsv 1)) (zse_int)) (zsa_nil)))) (zse_and (zse_fn (ok_is_place T) hr (zsa_cons (zsv 0) (zsa_cons (zse_ix (zq_of (zsv 1)) (zse_int)) (zsa_nil)))) (zse_one (zse_lt hu0 (zse_ix (zq_of (zsv 1)) (zse_int)) (zse_ix (zq_of (zsv 1)) (zse_int))))))))
theorem ok_is_tie (T : Top K w mg C) : FnD P w K mg base 3 "is_tie" ["many", "thing"] F_is_tie :=
  zfn_d T.d_is_tie sc_is_tie (fun _ _ _ _ _ _ us hl => match us, hl with | [_, _], _ => rfl) rfl (b_is_tie T)
theorem sc_are_rising : FnScope N_are_rising ["things"] (defScope s_are_rising) := ⟨rfl, rfl, rfl, by decide +kernel, rfl, by decide +kernel, by decide +kernel⟩
theorem b_are_rising (T : Top K w mg C) (f : Addr) (cdv : Value) (A : Around) (outer : List Env) (s : Shared) (H : Hp) (E : XK) (hr : Room 0 (A.deeper (PyProof.Rows.envOfC "are_rising" (defScope s_are_rising) s.heap.objs.size f cdv))) :
    ZB (cxOf CX0 P w K mg base N_are_rising "are_rising" (defScope s_are_rising) f cdv A outer s H E).nox (defBody s_are_rising) g_are_rising := by
  have hu := hr.units
  have hu0 := hr.units0
  exact zss_one (zss_ret (zse_all rfl T.b_all (zsf_compB ["k", "things"] [none, some 0] rfl (zsic_of (zsi_rng1 T.b_range (zse_sub (zse_len T.b_len (zq_of (zsv 0))) (zse_int)))) (fun _ _ _ _ _ => zsg_name (i := 0) (show List.Nodup (["k", "things"] : List Str) by decide +kernel)) (fun _ _ _ _ _ => zpifs0) (fun _ _ _ _ _ => zse_lt hu0 (zse_ix (zq_of (zsv 1)) (zsv 0)) (zse_ix (zq_of (zsv 1)) (zse_add (zsv 0) (zse_int)))))))
theorem ok_are_rising (T : Top K w mg C) : FnD P w K mg base 1 "are_rising" ["things"] F_are_rising :=
  zfn_d T.d_are_rising sc_are_rising (fun _ _ _ _ _ _ us hl => match us, hl with | [_], _ => rfl) rfl (b_are_rising T)
theorem sc_are_ties : FnScope N_are_ties ["many", "thing"] (defScope s_are_ties) := ⟨rfl, rfl, rfl, by decide +kernel, rfl, by decide +kernel, by decide +kernel⟩
theorem b_are_ties (T : Top K w mg C) (f : Addr) (cdv : Value) (A : Around) (outer : List Env) (s : Shared) (H : Hp) (E : XK) (hr : Room 3 (A.deeper (PyProof.Rows.envOfC "are_ties" (defScope s_are_ties) s.heap.objs.size f cdv))) :
    ZB (cxOf CX0 P w K mg base N_are_ties "are_ties" (defScope s_are_ties) f cdv A outer s H E).nox (defBody s_are_ties) g_are_ties := by
  obtain ⟨t_MOST_TIES, z_MOST_TIES⟩ := T.x_MOST_TIES
  have hu := hr.units
  have hu0 := hr.units0
  exact zss_cons (zss_if (zst_w (zsw_or (zst_not (zst_val (zse_isi kit_tuple T.b_isinstance T.b_tuple (zsv 1) (by decide +kernel)))) (zsw_or1 (zst_gtI (zse_len T.b_len (zq_of (zsv 1))) (zse_gint z_MOST_TIES)))))
      (zss_one (zss_ret (zse_bl)))
      (zss_nil))
      (zss_one (zss_ret (zse_and (zse_all rfl T.b_all (zsf_compB ["tie", "many"] [none, some 0] rfl (zsic_of (zsi_seq (zsv 1))) (fun _ _ _ _ _ => zsg_name (i := 0) (show List.Nodup (["tie", "many"] : List Str) by decide +kernel)) (fun _ _ _ _ _ => zpifs0) (fun _ _ _ _ _ => zse_fn (ok_is_tie T) hr (zsa_cons (zsv 1) (zsa_cons (zsv 0) (zsa_nil)))))) (zse_one (zse_fn (ok_are_rising T) hr (zsa_cons (zsv 1) (zsa_nil)))))))
theorem ok_are_ties (T : Top K w mg C) : FnD P w K mg base 4 "are_ties" ["many", "thing"] F_are_ties :=
  zfn_d T.d_are_ties sc_are_ties (fun _ _ _ _ _ _ us hl => match us, hl with | [_, _], _ => rfl) rfl (b_are_ties T)
theorem sc_is_web : FnScope N_is_web ["thing"] (defScope s_is_web) := ⟨rfl, rfl, rfl, by decide +kernel, rfl, by decide +kernel, by decide +kernel⟩
theorem b_is_web (T : Top K w mg C) (f : Addr) (cdv : Value) (A : Around) (outer : List Env) (s : Shared) (H : Hp) (E : XK) (hr : Room 4 (A.deeper (PyProof.Rows.envOfC "is_web" (defScope s_is_web) s.heap.objs.size f cdv))) :
    ZB (cxOf CX0 P w K mg base N_is_web "is_web" (defScope s_is_web) f cdv A outer s H E).nox (defBody s_is_web) g_is_web := by
  obtain ⟨t_MOST_PLACES, z_MOST_PLACES⟩ := T.x_MOST_PLACES
  have hu := hr.units
  have hu0 := hr.units0
  exact zss_cons (zss_if (zst_w (zsw_or (zst_not (zst_val (zse_fn (ok_is_pair T) hr (zsa_cons (zsv 0) (zsa_nil))))) (zsw_or1 (zst_not (zst_val (zse_fn (ok_is_whole T) hr (zsa_cons (zse_ix (zq_of (zsv 0)) (zse_int)) (zsa_nil))))))))
      (zss_one (zss_ret (zse_bl)))
      (zss_nil))
      (zss_one (zss_ret (zse_and (zse_chain op_le rd_bl0 op_le rd_bl0 (zse_int) (zse_ix (zq_of (zsv 0)) (zse_int)) (zse_gint z_MOST_PLACES)) (zse_one (zse_fn (ok_are_ties T) hr (zsa_cons (zse_ix (zq_of (zsv 0)) (zse_int)) (zsa_cons (zse_ix (zq_of (zsv 0)) (zse_int)) (zsa_nil))))))))
theorem ok_is_web (T : Top K w mg C) : FnD P w K mg base 5 "is_web" ["thing"] F_is_web :=
  zfn_d T.d_is_web sc_is_web (fun _ _ _ _ _ _ us hl => match us, hl with | [_], _ => rfl) rfl (b_is_web T)
theorem sc_read : FnScope N_read ["text"] (defScope s_read) := ⟨rfl, rfl, rfl, by decide +kernel, rfl, by decide +kernel, by decide +kernel⟩
theorem b_read (T : Top K w mg C) (f : Addr) (cdv : Value) (A : Around) (outer : List Env) (s : Shared) (H : Hp) (E : XK) (hr : Room 5 (A.deeper (PyProof.Rows.envOfC "read" (defScope s_read) s.heap.objs.size f cdv))) :
    ZB (cxOf CX0 P w K mg base N_read "read" (defScope s_read) f cdv A outer s H E).nox (defBody s_read) g_read := by
  have hu := hr.units
  have hu0 := hr.units0
  exact zss_cons (zss_set (i := 1) (zf_se (zsf_split (zsv 0) (zse_str))) sc_read.nd)
      (zss_cons (zss_if (zst_w (zsw_or (zst_lt hu0 (zse_len T.b_len (zq_of (zsv 1))) (zse_int)) (zsw_or1 (zst_ne hu (zse_ix (zq_of (zsv 1)) (zse_int)) (zse_str)))))
      (zss_one (zss_off))
      (zss_nil))
      (zss_cons (zss_set (i := 2) (zse_tup (zsa_cons (zse_fn (ok_number_of T) hr (zsa_cons (zse_ix (zq_of (zsv 1)) (zse_int)) (zsa_nil))) (zsa_cons (zse_tuple T.b_tuple (zf_q (zsf_compB ["word"] [none] rfl (zsic_of (zsi_seq (zse_sl (zsv 1) (zso_some (zse_int)) (zso_none)))) (fun _ _ _ _ _ => zsg_name (i := 0) (show List.Nodup (["word"] : List Str) by decide +kernel)) (fun _ _ _ _ _ => zpifs0) (fun _ _ _ _ _ => zse_fn (ok_tie_of T) hr (zsa_cons (zsv 0) (zsa_nil)))))) (zsa_nil)))) sc_read.nd)
      (zss_cons (zss_if (zst_not (zst_val (zse_fn (ok_is_web T) hr (zsa_cons (zsv 2) (zsa_nil)))))
      (zss_one (zss_off))
      (zss_nil))
      (zss_one (zss_ret (zsv 2))))))
theorem ok_read (T : Top K w mg C) : FnD P w K mg base 6 "read" ["text"] F_read :=
  zfn_d T.d_read sc_read (fun _ _ _ _ _ _ us hl => match us, hl with | [_], _ => rfl) rfl (b_read T)
theorem bx_read (T : Top K w mg C) (f : Addr) (cdv : Value) (A : Around) (outer : List Env) (s : Shared) (H : Hp) (E : XK) (hr : Room 5 (A.deeper (PyProof.Rows.envOfC "read" (defScope s_read) s.heap.objs.size f cdv))) :
    ZB (cxOf (CXN P w (.ref C)) P w K mg base N_read "read" (defScope s_read) f cdv A outer s H E) (defBody s_read) gx_read := by
  have hu := hr.units
  have hu0 := hr.units0
  exact zss_cons (zss_set (i := 1) (zf_se (zsf_split (zsv 0) (zse_str))) sc_read.nd)
      (zss_cons (zss_if (zst_w (zsw_or (zst_lt hu0 (zse_len T.b_len (zq_of (zsv 1))) (zse_int)) (zsw_or1 (zst_ne hu (zse_ix (zq_of (zsv 1)) (zse_int)) (zse_str)))))
      (zss_one (zss_raise T.tx.ex T.tx.mN rfl (zse_joined (zsj_cons (zse_str) (zsj_cons (zse_fmtR (zsv 0)) (zsj_nil)))) (fun _ _ h => leave_of h)))
      (zss_nil))
      (zss_consB 2 (zss_set (i := 2) (zse_tup (zsa_cons (zse_fnX (ok_number_of T) (okx_number_of T) hr (zsa_cons (zse_ix (zq_of (zsv 1)) (zse_int)) (zsa_nil)) (fun _ _ h => leave_of h)) (zsa_cons (zse_tuple T.b_tuple (zf_q (zsf_compE (C := .ref C) ["word"] [none] rfl (zsic_of (zsi_seq (zse_sl (zsv 1) (zso_some (zse_int)) (zso_none)))) (fun _ _ h => leave_of h) rfl rfl (fun _ _ _ _ _ => zsg_name (i := 0) (show List.Nodup (["word"] : List Str) by decide +kernel)) (fun _ _ _ _ _ => zpifs0) (fun _ _ _ _ _ => zse_fnX (ok_tie_of T) (okx_tie_of T) hr (zsa_cons (zsv 0) (zsa_nil)) (fun _ _ h => xeF.unwish h))))) (zsa_nil)))) sc_read.nd)
      (zss_cons (zss_if (zst_not (zst_val (zse_fn (ok_is_web T) hr (zsa_cons (zsv 2) (zsa_nil)))))
      (zss_one (zss_raise T.tx.ex T.tx.mN rfl (zse_joined (zsj_cons (zse_str) (zsj_cons (zse_fmtR (zsv 0)) (zsj_nil)))) (fun _ _ h => leave_of h)))
      (zss_nil))
      (zss_one (zss_ret (zsv 2))))))
theorem okx_read (T : Top K w mg C) : FnB P w K mg base (.ref C) 6 "read" ["text"] FX_read :=
  fn_b T.d_read sc_read T.tx.tb (fun _ _ _ _ _ _ us hl => match us, hl with | [_], _ => rfl) (fun f cdv A outer s H E hr => (bx_read T f cdv A outer s H E hr).h)
theorem sc_law_spoilt : FnScope N_law_spoilt ["_law_text_here", "_law_cell_here"] (defScope s_law_spoilt) := ⟨rfl, rfl, rfl, by decide +kernel, rfl, by decide +kernel, by decide +kernel⟩
theorem b_law_spoilt (T : Top K w mg C) (f : Addr) (cdv : Value) (A : Around) (outer : List Env) (s : Shared) (H : Hp) (E : XK) (hr : Room 0 (A.deeper (PyProof.Rows.envOfC "_law_spoilt" (defScope s_law_spoilt) s.heap.objs.size f cdv))) :
    ZB (cxOf CX0 P w K mg base N_law_spoilt "_law_spoilt" (defScope s_law_spoilt) f cdv A outer s H E).nox (defBody s_law_spoilt) g_law_spoilt := by
  have hu := hr.units
  have hu0 := hr.units0
  exact zss_cons (zss_set (i := 2) (zse_mod (zse_div (zsv 1) (zse_int)) (zse_add (zse_lenS T.b_len (zsv 0)) (zse_int))) sc_law_spoilt.nd)
      (zss_cons (zss_set (i := 3) (zse_ixS (zse_str) (zse_mod (zse_div (zsv 1) (zse_int)) (zse_int))) sc_law_spoilt.nd)
      (zss_cons (zss_if (zst_eq hu (zse_mod (zsv 1) (zse_int)) (zse_int))
      (zss_one (zss_ret (zse_addS (zse_slS (zsv 0) (zso_none) (zso_some (zsv 2))) (zse_slS (zsv 0) (zso_some (zse_add (zsv 2) (zse_int))) (zso_none)))))
      (zss_nil))
      (zss_cons (zss_if (zst_eq hu (zse_mod (zsv 1) (zse_int)) (zse_int))
      (zss_one (zss_ret (zse_addS (zse_addS (zse_slS (zsv 0) (zso_none) (zso_some (zsv 2))) (zse_slS (zsv 0) (zso_some (zsv 2)) (zso_some (zse_add (zsv 2) (zse_int))))) (zse_slS (zsv 0) (zso_some (zsv 2)) (zso_none)))))
      (zss_nil))
      (zss_one (zss_ret (zse_addS (zse_addS (zse_slS (zsv 0) (zso_none) (zso_some (zsv 2))) (zsv 3)) (zse_slS (zsv 0) (zso_some (zse_sub (zse_add (zsv 2) (zse_mod (zsv 1) (zse_int))) (zse_int))) (zso_none))))))))
theorem ok_law_spoilt (T : Top K w mg C) : FnD P w K mg base 1 "_law_spoilt" ["_law_text_here", "_law_cell_here"] F_law_spoilt :=
  zfn_d T.d_law_spoilt sc_law_spoilt (fun _ _ _ _ _ _ us hl => match us, hl with | [_, _], _ => rfl) rfl (b_law_spoilt T)
theorem sc_law_read : FnScope N_law_read ["_law_text_here"] (defScope s_law_read) := ⟨rfl, rfl, rfl, by decide +kernel, rfl, by decide +kernel, by decide +kernel⟩
theorem b_law_read (T : Top K w mg C) (f : Addr) (cdv : Value) (A : Around) (outer : List Env) (s : Shared) (H : Hp) (E : XK) (hr : Room 6 (A.deeper (PyProof.Rows.envOfC "_law_read" (defScope s_law_read) s.heap.objs.size f cdv))) :
    ZB (cxOf CX0 P w K mg base N_law_read "_law_read" (defScope s_law_read) f cdv A outer s H E).nox (defBody s_law_read) g_law_read := by
  have hu := hr.units
  have hu0 := hr.units0
  exact zss_cons (zss_set (i := 1) (zse_str) sc_law_read.nd)
      (zss_cons (zss_try (ie := 2) (i := 1) (ok_read T) (okx_read T) T.tx.tr T.b_isinstance T.b_ValueError hr (zsa_cons (zsv 0) (zsa_nil)) sc_law_read.nd)
      (zss_one (zss_ret (zsv 1))))
theorem ok_law_read (T : Top K w mg C) : FnD P w K mg base 7 "_law_read" ["_law_text_here"] F_law_read :=
  zfn_d T.d_law_read sc_law_read (fun _ _ _ _ _ _ us hl => match us, hl with | [_], _ => rfl) rfl (b_law_read T)
theorem sc_law : FnScope N_law ["_law_script"] (defScope s_law) := ⟨rfl, rfl, rfl, by decide +kernel, rfl, by decide +kernel, by decide +kernel⟩
theorem b_law (T : Top K w mg C) (f : Addr) (cdv : Value) (A : Around) (outer : List Env) (s : Shared) (H : Hp) (E : XK) (hr : Room 7 (A.deeper (PyProof.Rows.envOfC "law" (defScope s_law) s.heap.objs.size f cdv))) :
    ZB (cxOf CX0 P w K mg base N_law "law" (defScope s_law) f cdv A outer s H E).nox (defBody s_law) g_law := by
  have hu := hr.units
  have hu0 := hr.units0
  exact zss_cons (zss_for PassesOwn.never rfl (zsi_seq (zse_sl (zsv 0) (zso_none) (zso_some (zse_int)))) (zsg_name (i := 1) sc_law.nd)
      (zss_cons (zss_set (i := 2) (zse_fn (ok_law_web T) hr (zsa_cons (zsv 1) (zsa_cons (zse_int) (zsa_cons (zse_int) (zsa_nil))))) sc_law.nd)
      (zss_cons (zss_set (i := 3) (zse_fn (ok_law_text T) hr (zsa_cons (zsv 2) (zsa_nil))) sc_law.nd)
      (zss_cons (zss_if (zst_w (zsw_or (zst_ne hu (zse_fn (ok_written T) hr (zsa_cons (zsv 2) (zsa_nil))) (zsv 3)) (zsw_or1 (zst_ne hu (zse_fn (ok_read T) hr (zsa_cons (zsv 3) (zsa_nil))) (zsv 2)))))
      (zss_one (zss_ret (zse_bl)))
      (zss_nil))
      (zss_cons (zss_set (i := 4) (zse_fn (ok_law_spoilt T) hr (zsa_cons (zsv 3) (zsa_cons (zse_div (zsv 1) (zse_int)) (zsa_nil)))) sc_law.nd)
      (zss_cons (zss_set (i := 5) (zse_fn (ok_law_read T) hr (zsa_cons (zsv 4) (zsa_nil))) sc_law.nd)
      (zss_one (zss_if (zst_w (zsw_and (zst_isN (zsv 5) (zse_non)) (zsw_and1 (zst_w (zsw_or (zst_not (zst_val (zse_fn (ok_is_web T) hr (zsa_cons (zsv 5) (zsa_nil))))) (zsw_or1 (zst_ne hu (zse_fn (ok_law_text T) hr (zsa_cons (zsv 5) (zsa_nil))) (zsv 4))))))))
      (zss_one (zss_ret (zse_bl)))
      (zss_nil)))))))))
      (zss_cons (zss_set (i := 6) (zf_se (zsf_lst (zsa_cons (zse_str) (zsa_cons (zse_str) (zsa_cons (zse_str) (zsa_cons (zse_str) (zsa_cons (zse_str) (zsa_cons (zse_str) (zsa_cons (zse_str) (zsa_cons (zse_str) (zsa_cons (zse_str) (zsa_cons (zse_str) (zsa_cons (zse_str) (zsa_cons (zse_str) (zsa_nil))))))))))))))) sc_law.nd)
      (zss_cons (zss_for PassesOwn.never rfl (zsi_seq (zf_se (zsf_cat (zql_of (zsv 6)) (zql_f (zsf_lst (zsa_cons (zse_str) (zsa_cons (zse_str) (zsa_cons (zse_str) (zsa_nil))))))))) (zsg_name (i := 4) sc_law.nd)
      (zss_one (zss_if (zst_isN (zse_fn (ok_law_read T) hr (zsa_cons (zsv 4) (zsa_nil))) (zse_non))
      (zss_one (zss_ret (zse_bl)))
      (zss_nil))))
      (zss_one (zss_ret (zse_and (zse_eq hu (zse_fn (ok_read T) hr (zsa_cons (zse_str) (zsa_nil))) (zse_tup (zsa_cons (zse_int) (zsa_cons (zse_tup (zsa_nil)) (zsa_nil))))) (zse_one (zse_eq hu (zse_fn (ok_read T) hr (zsa_cons (zse_str) (zsa_nil))) (zse_tup (zsa_cons (zse_int) (zsa_cons (zse_tup (zsa_nil)) (zsa_nil)))))))))))
theorem law_fn (T : Top K w mg C) {f : Addr} {fd : FuncData} (G : Fun K "law" "law" s_law f fd) : FnOk P w K mg base CX0 8 f fd ["_law_script"] (spD K F_law) :=
  fn_data G sc_law (fun ds d e => by
    unfold F_law dFn at e
    split at e
    · rename_i h; exact h
    · cases e) (fun ds d e => by
    unfold F_law dFn at e
    split at e
    · exact e
    · cases e) fun cdv A outer s H E hr => (b_law T f cdv A outer s H E hr).h
end
theorem all_mk {l : PySem.W.OpenLaw} {w : World} {K : PySem.W.Frag} {h : Heap} {mg : Str → Option Value} {fa : Addr} (X : K.In h) (G : h.Ns mainGlobals mg) (hfa : mg "law" = some (.ref fa))
    {f0 : Addr} {od0 an0 : Option Addr} {sl0 : Array (Option Value)} {oc0 kV0 dc0 pm0 cd0 ct0 : Value}
    {f1 : Addr} {od1 an1 : Option Addr} {sl1 : Array (Option Value)} {oc1 kV1 dc1 pm1 cd1 ct1 : Value}
    {f2 : Addr} {od2 an2 : Option Addr} {sl2 : Array (Option Value)} {oc2 kV2 dc2 pm2 cd2 ct2 : Value}
    {f3 : Addr} {od3 an3 : Option Addr} {sl3 : Array (Option Value)} {oc3 kV3 dc3 pm3 cd3 ct3 : Value}
    {f4 : Addr} {od4 an4 : Option Addr} {sl4 : Array (Option Value)} {oc4 kV4 dc4 pm4 cd4 ct4 : Value}
    {f5 : Addr} {od5 an5 : Option Addr} {sl5 : Array (Option Value)} {oc5 kV5 dc5 pm5 cd5 ct5 : Value}
    {f6 : Addr} {od6 an6 : Option Addr} {sl6 : Array (Option Value)} {oc6 kV6 dc6 pm6 cd6 ct6 : Value}
    {f7 : Addr} {od7 an7 : Option Addr} {sl7 : Array (Option Value)} {oc7 kV7 dc7 pm7 cd7 ct7 : Value}
    {f8 : Addr} {od8 an8 : Option Addr} {sl8 : Array (Option Value)} {oc8 kV8 dc8 pm8 cd8 ct8 : Value}
    {f9 : Addr} {od9 an9 : Option Addr} {sl9 : Array (Option Value)} {oc9 kV9 dc9 pm9 cd9 ct9 : Value}
    {f10 : Addr} {od10 an10 : Option Addr} {sl10 : Array (Option Value)} {oc10 kV10 dc10 pm10 cd10 ct10 : Value}
    {f11 : Addr} {od11 an11 : Option Addr} {sl11 : Array (Option Value)} {oc11 kV11 dc11 pm11 cd11 ct11 : Value}
    {f12 : Addr} {od12 an12 : Option Addr} {sl12 : Array (Option Value)} {oc12 kV12 dc12 pm12 cd12 ct12 : Value}
    {f13 : Addr} {od13 an13 : Option Addr} {sl13 : Array (Option Value)} {oc13 kV13 dc13 pm13 cd13 ct13 : Value}
    {f14 : Addr} {od14 an14 : Option Addr} {sl14 : Array (Option Value)} {oc14 kV14 dc14 pm14 cd14 ct14 : Value}
    {f15 : Addr} {od15 an15 : Option Addr} {sl15 : Array (Option Value)} {oc15 kV15 dc15 pm15 cd15 ct15 : Value}
    {f16 : Addr} {od16 an16 : Option Addr} {sl16 : Array (Option Value)} {oc16 kV16 dc16 pm16 cd16 ct16 : Value}
    {f17 : Addr} {od17 an17 : Option Addr} {sl17 : Array (Option Value)} {oc17 kV17 dc17 pm17 cd17 ct17 : Value}
    {t_MOST_PLACES : Tok}
    {t_MOST_TIES : Tok}
    {tq_DIGITS : Tok}
    {C CP CO : Addr}
    (a0 : PySem.W.nsIn K mainGlobals "_law_mix" = some (some (.ref f0))) (l0 : K.lookup f0 = some ⟨oc0, od0, .func (PySem.W.fnOf "_law_mix" "_law_mix" (defArgs s_law_mix) (defBody s_law_mix) (defScope s_law_mix) .none kV0 dc0 pm0 an0 cd0 ct0), sl0⟩) (c0 : PySem.W.codeIn K cd0 "_law_mix" = true) (k0 : PySem.W.keepIn K (.ref f0) = true)
    (a1 : PySem.W.nsIn K mainGlobals "_law_web" = some (some (.ref f1))) (l1 : K.lookup f1 = some ⟨oc1, od1, .func (PySem.W.fnOf "_law_web" "_law_web" (defArgs s_law_web) (defBody s_law_web) (defScope s_law_web) .none kV1 dc1 pm1 an1 cd1 ct1), sl1⟩) (c1 : PySem.W.codeIn K cd1 "_law_web" = true) (k1 : PySem.W.keepIn K (.ref f1) = true)
    (a2 : PySem.W.nsIn K mainGlobals "_law_text" = some (some (.ref f2))) (l2 : K.lookup f2 = some ⟨oc2, od2, .func (PySem.W.fnOf "_law_text" "_law_text" (defArgs s_law_text) (defBody s_law_text) (defScope s_law_text) .none kV2 dc2 pm2 an2 cd2 ct2), sl2⟩) (c2 : PySem.W.codeIn K cd2 "_law_text" = true) (k2 : PySem.W.keepIn K (.ref f2) = true)
    (a3 : PySem.W.nsIn K mainGlobals "tie_word" = some (some (.ref f3))) (l3 : K.lookup f3 = some ⟨oc3, od3, .func (PySem.W.fnOf "tie_word" "tie_word" (defArgs s_tie_word) (defBody s_tie_word) (defScope s_tie_word) .none kV3 dc3 pm3 an3 cd3 ct3), sl3⟩) (c3 : PySem.W.codeIn K cd3 "tie_word" = true) (k3 : PySem.W.keepIn K (.ref f3) = true)
    (a4 : PySem.W.nsIn K mainGlobals "written" = some (some (.ref f4))) (l4 : K.lookup f4 = some ⟨oc4, od4, .func (PySem.W.fnOf "written" "written" (defArgs s_written) (defBody s_written) (defScope s_written) .none kV4 dc4 pm4 an4 cd4 ct4), sl4⟩) (c4 : PySem.W.codeIn K cd4 "written" = true) (k4 : PySem.W.keepIn K (.ref f4) = true)
    (a5 : PySem.W.nsIn K mainGlobals "number_of" = some (some (.ref f5))) (l5 : K.lookup f5 = some ⟨oc5, od5, .func (PySem.W.fnOf "number_of" "number_of" (defArgs s_number_of) (defBody s_number_of) (defScope s_number_of) .none kV5 dc5 pm5 an5 cd5 ct5), sl5⟩) (c5 : PySem.W.codeIn K cd5 "number_of" = true) (k5 : PySem.W.keepIn K (.ref f5) = true)
    (a6 : PySem.W.nsIn K mainGlobals "tie_of" = some (some (.ref f6))) (l6 : K.lookup f6 = some ⟨oc6, od6, .func (PySem.W.fnOf "tie_of" "tie_of" (defArgs s_tie_of) (defBody s_tie_of) (defScope s_tie_of) .none kV6 dc6 pm6 an6 cd6 ct6), sl6⟩) (c6 : PySem.W.codeIn K cd6 "tie_of" = true) (k6 : PySem.W.keepIn K (.ref f6) = true)
    (a7 : PySem.W.nsIn K mainGlobals "is_pair" = some (some (.ref f7))) (l7 : K.lookup f7 = some ⟨oc7, od7, .func (PySem.W.fnOf "is_pair" "is_pair" (defArgs s_is_pair) (defBody s_is_pair) (defScope s_is_pair) .none kV7 dc7 pm7 an7 cd7 ct7), sl7⟩) (c7 : PySem.W.codeIn K cd7 "is_pair" = true) (k7 : PySem.W.keepIn K (.ref f7) = true)
    (a8 : PySem.W.nsIn K mainGlobals "is_whole" = some (some (.ref f8))) (l8 : K.lookup f8 = some ⟨oc8, od8, .func (PySem.W.fnOf "is_whole" "is_whole" (defArgs s_is_whole) (defBody s_is_whole) (defScope s_is_whole) .none kV8 dc8 pm8 an8 cd8 ct8), sl8⟩) (c8 : PySem.W.codeIn K cd8 "is_whole" = true) (k8 : PySem.W.keepIn K (.ref f8) = true)
    (a9 : PySem.W.nsIn K mainGlobals "is_place" = some (some (.ref f9))) (l9 : K.lookup f9 = some ⟨oc9, od9, .func (PySem.W.fnOf "is_place" "is_place" (defArgs s_is_place) (defBody s_is_place) (defScope s_is_place) .none kV9 dc9 pm9 an9 cd9 ct9), sl9⟩) (c9 : PySem.W.codeIn K cd9 "is_place" = true) (k9 : PySem.W.keepIn K (.ref f9) = true)
    (a10 : PySem.W.nsIn K mainGlobals "is_tie" = some (some (.ref f10))) (l10 : K.lookup f10 = some ⟨oc10, od10, .func (PySem.W.fnOf "is_tie" "is_tie" (defArgs s_is_tie) (defBody s_is_tie) (defScope s_is_tie) .none kV10 dc10 pm10 an10 cd10 ct10), sl10⟩) (c10 : PySem.W.codeIn K cd10 "is_tie" = true) (k10 : PySem.W.keepIn K (.ref f10) = true)
    (a11 : PySem.W.nsIn K mainGlobals "are_rising" = some (some (.ref f11))) (l11 : K.lookup f11 = some ⟨oc11, od11, .func (PySem.W.fnOf "are_rising" "are_rising" (defArgs s_are_rising) (defBody s_are_rising) (defScope s_are_rising) .none kV11 dc11 pm11 an11 cd11 ct11), sl11⟩) (c11 : PySem.W.codeIn K cd11 "are_rising" = true) (k11 : PySem.W.keepIn K (.ref f11) = true)
    (a12 : PySem.W.nsIn K mainGlobals "are_ties" = some (some (.ref f12))) (l12 : K.lookup f12 = some ⟨oc12, od12, .func (PySem.W.fnOf "are_ties" "are_ties" (defArgs s_are_ties) (defBody s_are_ties) (defScope s_are_ties) .none kV12 dc12 pm12 an12 cd12 ct12), sl12⟩) (c12 : PySem.W.codeIn K cd12 "are_ties" = true) (k12 : PySem.W.keepIn K (.ref f12) = true)
    (a13 : PySem.W.nsIn K mainGlobals "is_web" = some (some (.ref f13))) (l13 : K.lookup f13 = some ⟨oc13, od13, .func (PySem.W.fnOf "is_web" "is_web" (defArgs s_is_web) (defBody s_is_web) (defScope s_is_web) .none kV13 dc13 pm13 an13 cd13 ct13), sl13⟩) (c13 : PySem.W.codeIn K cd13 "is_web" = true) (k13 : PySem.W.keepIn K (.ref f13) = true)
    (a14 : PySem.W.nsIn K mainGlobals "read" = some (some (.ref f14))) (l14 : K.lookup f14 = some ⟨oc14, od14, .func (PySem.W.fnOf "read" "read" (defArgs s_read) (defBody s_read) (defScope s_read) .none kV14 dc14 pm14 an14 cd14 ct14), sl14⟩) (c14 : PySem.W.codeIn K cd14 "read" = true) (k14 : PySem.W.keepIn K (.ref f14) = true)
    (a15 : PySem.W.nsIn K mainGlobals "_law_spoilt" = some (some (.ref f15))) (l15 : K.lookup f15 = some ⟨oc15, od15, .func (PySem.W.fnOf "_law_spoilt" "_law_spoilt" (defArgs s_law_spoilt) (defBody s_law_spoilt) (defScope s_law_spoilt) .none kV15 dc15 pm15 an15 cd15 ct15), sl15⟩) (c15 : PySem.W.codeIn K cd15 "_law_spoilt" = true) (k15 : PySem.W.keepIn K (.ref f15) = true)
    (a16 : PySem.W.nsIn K mainGlobals "_law_read" = some (some (.ref f16))) (l16 : K.lookup f16 = some ⟨oc16, od16, .func (PySem.W.fnOf "_law_read" "_law_read" (defArgs s_law_read) (defBody s_law_read) (defScope s_law_read) .none kV16 dc16 pm16 an16 cd16 ct16), sl16⟩) (c16 : PySem.W.codeIn K cd16 "_law_read" = true) (k16 : PySem.W.keepIn K (.ref f16) = true)
    (a17 : PySem.W.nsIn K mainGlobals "law" = some (some (.ref f17))) (l17 : K.lookup f17 = some ⟨oc17, od17, .func (PySem.W.fnOf "law" "law" (defArgs s_law) (defBody s_law) (defScope s_law) .none kV17 dc17 pm17 an17 cd17 ct17), sl17⟩) (c17 : PySem.W.codeIn K cd17 "law" = true) (k17 : PySem.W.keepIn K (.ref f17) = true)
    (z_ValueError : PySem.W.nsIn K mainGlobals "ValueError" = some none)
    (z_all : PySem.W.nsIn K mainGlobals "all" = some none)
    (z_bool : PySem.W.nsIn K mainGlobals "bool" = some none)
    (z_int : PySem.W.nsIn K mainGlobals "int" = some none)
    (z_isinstance : PySem.W.nsIn K mainGlobals "isinstance" = some none)
    (z_len : PySem.W.nsIn K mainGlobals "len" = some none)
    (z_max : PySem.W.nsIn K mainGlobals "max" = some none)
    (z_min : PySem.W.nsIn K mainGlobals "min" = some none)
    (z_range : PySem.W.nsIn K mainGlobals "range" = some none)
    (z_sorted : PySem.W.nsIn K mainGlobals "sorted" = some none)
    (z_str : PySem.W.nsIn K mainGlobals "str" = some none)
    (z_tuple : PySem.W.nsIn K mainGlobals "tuple" = some none)
    (x_MOST_PLACES : PySem.W.nsIn K mainGlobals "MOST_PLACES" = some (some (.int 6 t_MOST_PLACES)))
    (x_MOST_TIES : PySem.W.nsIn K mainGlobals "MOST_TIES" = some (some (.int 12 t_MOST_TIES)))
    (xs_DIGITS : PySem.W.nsIn K mainGlobals "DIGITS" = some (some (.str "0123456789" tq_DIGITS)))
    (uN : PySem.W.nsIn K mainGlobals "NoText" = some (some (.ref C))) (uP : PySem.W.nsIn K mainGlobals "PageError" = some (some (.ref CP))) (uO : PySem.W.nsIn K mainGlobals "NoRun" = some (some (.ref CO)))
    (e0 : PySem.W.excIn K C VE "ValueError.__new__" = true) (e1 : PySem.W.exmOne K (.ref C) (.ref CP) = some true) (e2 : PySem.W.kitOne K (.ref C) (.ref C) = some true) (e3 : PySem.W.kitOne K (.ref C) (.ref CO) = some false) (e4 : PySem.W.kitOne K (.ref C) (.type "ValueError") = some true)
    (h1 : PySem.W.findIn K (.ref C) "__getattribute__" = some (some (.builtin "BaseException.__getattribute__"))) (h8 : PySem.W.findIn K (.ref C) "__getattr__" = some none) (h9 : PySem.W.subIn K (.ref C) (.type "BaseException") = some true) (h2 : (PySem.W.clsIn K C).isSome = true) (h3 : PySem.W.findIn K (.ref C) "__class__" = some (some (.builtin "object.__class__"))) (h4 : PySem.W.specialIn K (.builtin "object.__class__") "__get__" = some (some (.builtin "getset_descriptor.__get__"))) (h5 : PySem.W.takesIn K (.builtin "object.__class__") = some true) (h6 : PySem.W.mroIn K C (.type "object") = some true) (h7 : tabsOk K [] = true) :
    ∃ fd : FuncData, (∀ (s : Shared) (v : Value), BindsTo s fd ⟨[v], []⟩ [("_law_script", v)]) ∧ ∀ base : Heap, K.In base → base.Ns mainGlobals mg → FnOk l.prog w K mg base CX0 8 fa fd ["_law_script"] (spD K F_law) := by
  have e := hfa.symm.trans (PySem.W.mg_of X G a17)
  cases e
  have T : Top K w mg C :=
    { d_law_mix := ⟨_, _, fun_mk (st := s_law_mix) l0 c0 k0, PySem.W.mg_of X G a0⟩
      d_law_web := ⟨_, _, fun_mk (st := s_law_web) l1 c1 k1, PySem.W.mg_of X G a1⟩
      d_law_text := ⟨_, _, fun_mk (st := s_law_text) l2 c2 k2, PySem.W.mg_of X G a2⟩
      d_tie_word := ⟨_, _, fun_mk (st := s_tie_word) l3 c3 k3, PySem.W.mg_of X G a3⟩
      d_written := ⟨_, _, fun_mk (st := s_written) l4 c4 k4, PySem.W.mg_of X G a4⟩
      d_number_of := ⟨_, _, fun_mk (st := s_number_of) l5 c5 k5, PySem.W.mg_of X G a5⟩
      d_tie_of := ⟨_, _, fun_mk (st := s_tie_of) l6 c6 k6, PySem.W.mg_of X G a6⟩
      d_is_pair := ⟨_, _, fun_mk (st := s_is_pair) l7 c7 k7, PySem.W.mg_of X G a7⟩
      d_is_whole := ⟨_, _, fun_mk (st := s_is_whole) l8 c8 k8, PySem.W.mg_of X G a8⟩
      d_is_place := ⟨_, _, fun_mk (st := s_is_place) l9 c9 k9, PySem.W.mg_of X G a9⟩
      d_is_tie := ⟨_, _, fun_mk (st := s_is_tie) l10 c10 k10, PySem.W.mg_of X G a10⟩
      d_are_rising := ⟨_, _, fun_mk (st := s_are_rising) l11 c11 k11, PySem.W.mg_of X G a11⟩
      d_are_ties := ⟨_, _, fun_mk (st := s_are_ties) l12 c12 k12, PySem.W.mg_of X G a12⟩
      d_is_web := ⟨_, _, fun_mk (st := s_is_web) l13 c13 k13, PySem.W.mg_of X G a13⟩
      d_read := ⟨_, _, fun_mk (st := s_read) l14 c14 k14, PySem.W.mg_of X G a14⟩
      d_law_spoilt := ⟨_, _, fun_mk (st := s_law_spoilt) l15 c15 k15, PySem.W.mg_of X G a15⟩
      d_law_read := ⟨_, _, fun_mk (st := s_law_read) l16 c16 k16, PySem.W.mg_of X G a16⟩
      d_law := ⟨_, _, fun_mk (st := s_law) l17 c17 k17, PySem.W.mg_of X G a17⟩
      b_ValueError := PySem.W.mg_none_of X G z_ValueError
      b_all := PySem.W.mg_none_of X G z_all
      b_bool := PySem.W.mg_none_of X G z_bool
      b_int := PySem.W.mg_none_of X G z_int
      b_isinstance := PySem.W.mg_none_of X G z_isinstance
      b_len := PySem.W.mg_none_of X G z_len
      b_max := PySem.W.mg_none_of X G z_max
      b_min := PySem.W.mg_none_of X G z_min
      b_range := PySem.W.mg_none_of X G z_range
      b_sorted := PySem.W.mg_none_of X G z_sorted
      b_str := PySem.W.mg_none_of X G z_str
      b_tuple := PySem.W.mg_none_of X G z_tuple
      x_MOST_PLACES := ⟨t_MOST_PLACES, PySem.W.mg_of X G x_MOST_PLACES⟩
      x_MOST_TIES := ⟨t_MOST_TIES, PySem.W.mg_of X G x_MOST_TIES⟩
      xs_DIGITS := ⟨tq_DIGITS, PySem.W.mg_of X G xs_DIGITS⟩
      tx := ⟨PySem.W.mg_of X G uN, e0, ⟨⟨h1, h8, h9, h2, h3, h4, h5, h6⟩, ⟨CP, PySem.W.mg_of X G uP, e1⟩, ⟨C, PySem.W.mg_of X G uN, e2⟩, ⟨CO, PySem.W.mg_of X G uO, e3⟩, e4⟩, fun H => tabsOk_tb h7 fun P q e => nomatch e⟩ }
  exact ⟨_, fun s v => .of_eq rfl, fun base _ _ => law_fn T (fun_mk (st := s_law) l17 c17 k17)⟩
theorem walk {l : PySem.W.OpenLaw} {q : Program} {loose : List Str} {XP : (Str → Option Value) → Heap → Prop} {YP : World → Heap → Prop} {d : DefRec} {K : Params → PySem.W.Frag} (hn : l.most = some 63) (hdf : d.params.defaults = [])
    (hY : ∀ (w : World) (h : Heap), YP w h → (K w.params).In h) (hT : ∀ (w : World) (h : Heap), YP w h → ∀ P q, ([] : List (Addr × Str)).lookup P = some q → h.get? P = some { cls := .none, data := .fields #[] }) (hK : ∀ w : World, tabsOk (K w.params) [] = true) (hlaw : ∀ ns : List Int, ns.length ≤ 63 → F_law [.lst (ns.map D.int)] = some (.bl true))
    (F : ∀ (w : World) (mg : Str → Option Value) (fa : Addr) (h : Heap), (K w.params).In h → h.Ns mainGlobals mg → mg d.name = some (.ref fa) →
      ∃ fd : FuncData, (∀ (s : Shared) (u : Value), BindsTo s fd ⟨[u], []⟩ [("_law_script", u)]) ∧ ∀ base : Heap, (K w.params).In base → base.Ns mainGlobals mg → FnOk l.prog w (K w.params) mg base CX0 8 fa fd ["_law_script"] (spD (K w.params) F_law)) :
    PySem.W.WalkO q loose XP YP l.row.toRowW d [] (fun f vs => PySem.call f vs) :=
  walk_ofT (n := 63) (k := 8) (x := "_law_script") (sp := fun w => spD (K w.params) F_law) [] hn (by decide) hdf ⟨rfl, by decide, by decide⟩ hY hT hK F (fun w H a ns hl tb hS =>
    ⟨[], [.lst (ns.map D.int)], .bl true, ⟨tb, fun z hz => absurd hz (by simp)⟩, RepL.one (rep_lst.mpr ⟨a, ns.map V.int, rfl, by rw [hide_nil]; exact hS, repl_ints.mpr rfl⟩), hlaw ns hl, fun v H' _ hv => rep_bl.mp hv⟩)
end P
set_option Elab.async false
set_option linter.all false
namespace L3
open PySem L2
section
variable {ρ ρ' : DEnv} {d e : D} {a b : Bool} {fa fb fc : DEnv → Option D} {ga gb : DEnv → Option Bool} {g k : DEnv → Option Out} {fl gl : DEnv → Option (List D)} {i : Nat} {o : Option Out}
theorem ev_seq {r : Out} (h : g ρ = some (.nx ρ')) (h2 : k ρ' = o) : dSeq g k ρ = o := by unfold dSeq; rw [h]; exact h2
theorem ev_seqR (h : g ρ = some (.rt d)) : dSeq g k ρ = some (.rt d) := by unfold dSeq; rw [h]
theorem ev_ret (h : fa ρ = some d) : dRet fa ρ = some (.rt d) := by unfold dRet; rw [h]
theorem ev_set (h : fa ρ = some d) : dSet i fa ρ = some (.nx (ρ.set i (some (.sh d)))) := by unfold dSet; rw [h]
theorem ev_setF {ds : List D} (h : fl ρ = some ds) : dSetF i fl ρ = some (.nx (ρ.set i (some (.ow ds)))) := by unfold dSetF; rw [h]
theorem ev_ifS (h : ga ρ = some a) : dIfS ga g k ρ = if a = true then g ρ else k ρ := by unfold dIfS; rw [h]; cases a <;> rfl
theorem ev_and (h : fa ρ = some (.bl a)) (h2 : a = true → fb ρ = some (.bl b)) : dAnd fa fb ρ = some (.bl (a && b)) := by
  unfold dAnd; rw [h]; cases a with
  | true => exact h2 rfl
  | false => rfl
theorem ev_test (h : fa ρ = some (.bl a)) : dTest fa ρ = some a := by unfold dTest; rw [h]
theorem ev_andT (h : ga ρ = some a) (h2 : a = true → gb ρ = some b) : dAndT ga gb ρ = some (a && b) := by
  unfold dAndT; rw [h]; cases a with
  | true => exact h2 rfl
  | false => rfl
theorem ev_orT (h : ga ρ = some a) (h2 : a = false → gb ρ = some b) : dOrT ga gb ρ = some (a || b) := by
  unfold dOrT; rw [h]; cases a with
  | true => rfl
  | false => exact h2 rfl
theorem ev_notT (h : ga ρ = some a) : dNotT ga ρ = some (!a) := by unfold dNotT; rw [h]; rfl
theorem ev_2 {f : D → D → Option D} {x y : D} (h : fa ρ = some x) (h2 : fb ρ = some y) : d2 f fa fb ρ = f x y := by unfold d2; rw [h, h2]
theorem ev_chain {f f' : D → D → Option D} {x y z : D} (h : fa ρ = some x) (h2 : fb ρ = some y) (h3 : f x y = some (.bl a)) (h4 : a = true → fc ρ = some z) (h5 : a = true → f' y z = some (.bl b)) : dChain f f' fa fb fc ρ = some (.bl (a && b)) := by
  unfold dChain; rw [h, h2]; dsimp only; rw [h3]; cases a with
  | true => dsimp only; rw [h4 rfl]; exact h5 rfl
  | false => rfl
theorem ev_cons {ds : List D} (h : fa ρ = some d) (h2 : fl ρ = some ds) : dCons fa fl ρ = some (d :: ds) := by unfold dCons; rw [h, h2]
theorem ev_call {F : List D → Option D} {ds : List D} (h : fl ρ = some ds) : dCall F fl ρ = F ds := by unfold dCall; rw [h]
theorem ev_tup {ds : List D} (h : fl ρ = some ds) (h2 : ds.length ≤ LIM) : dTup fl ρ = some (.tup ds) := by unfold dTup; rw [h]; dsimp only; rw [if_pos h2]
theorem ev_lim {ds : List D} (h : fl ρ = some ds) (h2 : ds.length ≤ LIM) : dLim fl ρ = some ds := by unfold dLim; rw [h]; dsimp only; rw [if_pos h2]
theorem ev_ls {ds : List D} (h : fl ρ = some ds) : dLs fl ρ = some (.lst ds) := by unfold dLs; rw [h]; rfl
theorem ev_len {ds : List D} (h : fl ρ = some ds) : dLen fl ρ = some (.int ds.length) := by unfold dLen; rw [h]; rfl
theorem ev_tupF {ds : List D} (h : fl ρ = some ds) : dTupF fl ρ = some (.tup ds) := by unfold dTupF; rw [h]; rfl
theorem ev_all {ds : List D} {bs : List Bool} (h : fl ρ = some ds) (h2 : blsOf ds = some bs) : dAll fl ρ = some (.bl (bs.all id)) := by unfold dAll; rw [h]; dsimp only; rw [h2]
theorem ev_sqT {ds : List D} (h : fa ρ = some (.tup ds)) : dSq fa ρ = some ds := by unfold dSq; rw [h]
theorem ev_sqL {ds : List D} (h : fa ρ = some (.lst ds)) : dSq fa ρ = some ds := by unfold dSq; rw [h]
theorem ev_ix {ds : List D} {j : Int} (h : fl ρ = some ds) (h2 : fa ρ = some (.int j)) : dIx fl fa ρ = atI ds j := by unfold dIx; rw [h, h2]
theorem ev_QF {F : List D → Option (List D)} {ds : List D} (h : fl ρ = some ds) : dQF F fl ρ = F ds := by unfold dQF; rw [h]
theorem ev_in {neg : Bool} {ds : List D} (h : fa ρ = some d) (h2 : fl ρ = some ds) (h3 : depthL ds ≤ DEEP) (h4 : depth d ≤ DEEP) : dIn neg fa fl ρ = some (.bl (if neg = true then !inD d ds else inD d ds)) := by unfold dIn; rw [h, h2]; dsimp only; rw [if_pos ⟨h3, h4⟩]
theorem ev_app {ds : List D} (h : dOwn i ρ = some ds) (h2 : fa ρ = some d) (h3 : ds.length < LIM) : dApp i fa ρ = some (.nx (ρ.set i (some (.ow (ds ++ [d]))))) := by unfold dApp; rw [h, h2]; dsimp only; rw [if_pos h3]
theorem ev_for {ds : List D} {h : D → DEnv → Option DEnv} (e : fl ρ = some ds) : dFor fl h g ρ = dLoop h g ds ρ := by unfold dFor; rw [e]
theorem ev_comp {ds : List D} {cap : List (Option Nat)} {h : D → DEnv → Option DEnv} (e : fl ρ = some ds) (hl : ds.length ≤ LIM) : dComp cap fl h ga fa ρ = compGo h ga fa (capE cap ρ) ds := by unfold dComp; rw [e]; dsimp only; rw [if_pos hl]
theorem ev_slc {x : D} {lo hi : Option Int} {fo fh : DEnv → Option (Option Int)} (h : fa ρ = some x) (h1 : fo ρ = some lo) (h2 : fh ρ = some hi) : dSlc fa fo fh ρ = dSl x lo hi := by unfold dSlc; rw [h, h1, h2]
theorem ev_part {j : Int} (h : fa ρ = some (.int j)) : dPart fa ρ = some (some j) := by unfold dPart; rw [h]
theorem ev_rng1 {j : Int} (h : fa ρ = some (.int j)) (h2 : okR j = true) : dRng1 fa ρ = some (dints 0 j.toNat) := by unfold dRng1; rw [h]; dsimp only; rw [if_pos h2]
end
theorem compGo_map {h : D → DEnv → Option DEnv} {fe : DEnv → Option D} (I : DEnv → Prop) (y : D → D) : ∀ (ds : List D) (ρ : DEnv), I ρ → (∀ d ∈ ds, ∀ ρ, I ρ → ∃ ρ1, h d ρ = some ρ1 ∧ I ρ1 ∧ fe ρ1 = some (y d)) → compGo h dTrue fe ρ ds = some (ds.map y)
  | [], _, _, _ => rfl
  | d :: ds, ρ, hI, hs => by
    obtain ⟨ρ1, e1, I1, e2⟩ := hs d List.mem_cons_self ρ hI
    unfold compGo
    rw [e1]
    dsimp only [dTrue]
    rw [e2]
    dsimp only
    rw [compGo_map I y ds ρ1 I1 fun d hd => hs d (List.mem_cons_of_mem _ hd)]
    rfl
theorem loop_go {h : D → DEnv → Option DEnv} {g : DEnv → Option Out} (I : List D → DEnv → Prop) {all : List D} (hs : ∀ pre d post ρ, pre ++ d :: post = all → I pre ρ → ∃ ρ1 ρ2, h d ρ = some ρ1 ∧ (g ρ1 = some (.nx ρ2) ∨ g ρ1 = some (.ct ρ2)) ∧ I (pre ++ [d]) ρ2) :
    ∀ (ds pre : List D) (ρ : DEnv), pre ++ ds = all → I pre ρ → ∃ ρ', dLoop h g ds ρ = some (.nx ρ') ∧ I all ρ'
  | [], pre, ρ, e, hI => ⟨ρ, rfl, by rw [← e, List.append_nil]; exact hI⟩
  | d :: ds, pre, ρ, e, hI => by
    obtain ⟨ρ1, ρ2, e1, e2, I2⟩ := hs pre d ds ρ e hI
    obtain ⟨ρ', e3, I3⟩ := loop_go I hs ds (pre ++ [d]) ρ2 (by rw [← e]; simp) I2
    refine ⟨ρ', ?_, I3⟩
    unfold dLoop
    rw [e1]
    dsimp only
    rcases e2 with e2 | e2 <;> (rw [e2]; exact e3)
theorem loop_inv {h : D → DEnv → Option DEnv} {g : DEnv → Option Out} (I : List D → DEnv → Prop) {ds : List D} {ρ : DEnv} (h0 : I [] ρ) (hs : ∀ pre d post ρ, pre ++ d :: post = ds → I pre ρ → ∃ ρ1 ρ2, h d ρ = some ρ1 ∧ (g ρ1 = some (.nx ρ2) ∨ g ρ1 = some (.ct ρ2)) ∧ I (pre ++ [d]) ρ2) :
    ∃ ρ', dLoop h g ds ρ = some (.nx ρ') ∧ I ds ρ' := loop_go I hs ds [] ρ rfl h0
theorem loop_all {h : D → DEnv → Option DEnv} {g : DEnv → Option Out} (I : DEnv → Prop) {ds : List D} {ρ : DEnv} (h0 : I ρ) (hs : ∀ d ∈ ds, ∀ ρ, I ρ → ∃ ρ1 ρ2, h d ρ = some ρ1 ∧ (g ρ1 = some (.nx ρ2) ∨ g ρ1 = some (.ct ρ2)) ∧ I ρ2) :
    ∃ ρ', dLoop h g ds ρ = some (.nx ρ') ∧ I ρ' := loop_inv (fun _ ρ => I ρ) h0 fun pre d post ρ e hI => hs d (by rw [← e]; simp) ρ hI
end L3
set_option Elab.async false
set_option linter.all false
set_option maxRecDepth 100000
namespace P
open PySem L2 L3
theorem dints_get {n k : Nat} (h : k < n) : (dints 0 n)[k]? = some (.int (k : Int)) := by
  unfold dints
  rw [List.getElem?_map, List.getElem?_range h]
  simp
theorem dints_len (lo : Int) (n : Nat) : (dints lo n).length = n := by unfold dints; simp
theorem dints_mem {n : Nat} {d : D} (h : d ∈ dints 0 n) : ∃ k : Nat, k < n ∧ d = .int (k : Int) := by
  unfold dints at h
  obtain ⟨k, hk, rfl⟩ := List.mem_map.mp h
  exact ⟨k, List.mem_range.mp hk, by simp⟩
def mix (c p m : Int) : Int := c * 48271 % p % m
theorem mul_ok (c : Int) {k : Int} (h : small64 k = true) : dMul (.int c) (.int k) = some (.int (c * k)) := by
  unfold dMul dMulI gIC
  dsimp only
  rw [if_pos (by rw [h, Bool.or_true])]
theorem mul_ok' (c : Int) {k : Int} (h : small64 k = true) : dMul (.int k) (.int c) = some (.int (k * c)) := by
  unfold dMul dMulI gIC
  dsimp only
  rw [if_pos (by rw [h, Bool.true_or])]
theorem mod_ok (c : Int) {k : Int} (h : 0 < k) : dModI (.int c) (.int k) = some (.int (c % k)) := by
  unfold dModI gIC
  dsimp only
  rw [if_pos (decide_eq_true h)]
theorem F_law_mix_eq (c : Int) {p m : Int} (hp : 0 < p) (hm : 0 < m) : F_law_mix [.int c, .int p, .int m] = some (.int (mix c p m)) := by
  show outD (dRet _ _) = _
  rw [ev_ret (d := .int (mix c p m))]
  · rfl
  · exact (ev_2 (x := .int (c * 48271 % p)) (y := .int m) ((ev_2 (x := .int (c * 48271)) (y := .int p) ((ev_2 (x := .int c) (y := .int 48271) rfl rfl).trans (mul_ok c (by decide))) rfl).trans (mod_ok _ hp)) rfl).trans (mod_ok _ hm)
theorem mix_lo (c p : Int) {m : Int} (h : 0 < m) : 0 ≤ mix c p m := Int.emod_nonneg _ (by omega)
theorem mix_hi (c p : Int) {m : Int} (h : 0 < m) : mix c p m < m := Int.emod_lt_of_pos _ h
abbrev Tie := Int × Int
def tieD (t : Tie) : D := .tup [.int t.1, .int t.2]
theorem beq_tie (s t : Tie) : beq (tieD s) (tieD t) = decide (s = t) := by
  show (s.1 == t.1 && (s.2 == t.2 && true)) = _
  rw [Bool.and_true]
  obtain ⟨a, b⟩ := s
  obtain ⟨c, d⟩ := t
  by_cases h1 : a = c
  · by_cases h2 : b = d
    · subst h1 h2; simp
    · have : ¬ ((a, b) = (c, d)) := fun z => h2 (Prod.mk.inj z).2
      rw [decide_eq_false this]
      simp [h2]
  · have : ¬ ((a, b) = (c, d)) := fun z => h1 (Prod.mk.inj z).1
    rw [decide_eq_false this]
    simp [h1]
theorem inD_tie (t : Tie) : ∀ ts : List Tie, inD (tieD t) (ts.map tieD) = decide (t ∈ ts)
  | [] => by simp [inD]
  | s :: ts => by
    have ih := inD_tie t ts
    unfold inD at ih ⊢
    rw [List.map_cons, List.any_cons, ih, beq_tie]
    by_cases h : s = t
    · subst h; simp
    · have h' : ¬ t = s := fun z => h z.symm
      simp [h, h']
theorem depth_tie (t : Tie) : depth (tieD t) = 1 := by
  unfold tieD
  simp [depth, depthL]
theorem depthL_ties : ∀ ts : List Tie, depthL (ts.map tieD) ≤ 1
  | [] => by rw [List.map_nil, depthL]; omega
  | t :: ts => by
    have := depthL_ties ts
    have h2 := depth_tie t
    rw [List.map_cons, depthL]; omega
def tlt (s t : Tie) : Prop := s.1 < t.1 ∨ (s.1 = t.1 ∧ s.2 < t.2)
instance (s t : Tie) : Decidable (tlt s t) := inferInstanceAs (Decidable (_ ∨ _))
theorem lex_tie (s t : Tie) : HT.lexLt [s.1, s.2] [t.1, t.2] = decide (tlt s t) := by
  have key : HT.lexLt [s.1, s.2] [t.1, t.2] = true ↔ tlt s t := by
    rw [HT.lexLt_cons]
    unfold tlt
    by_cases h1 : s.1 = t.1
    · rw [if_pos h1, HT.lexLt_cons]
      by_cases h2 : s.2 = t.2
      · rw [if_pos h2, HT.lexLt_nil_nil]
        exact ⟨fun z => absurd z (by decide), fun z => absurd z (by omega)⟩
      · rw [if_neg h2, decide_eq_true_iff]
        omega
    · rw [if_neg h1, decide_eq_true_iff]
      omega
  by_cases h : tlt s t
  · rw [decide_eq_true h]; exact key.mpr h
  · rw [decide_eq_false h]; exact Bool.eq_false_iff.mpr fun z => h (key.mp z)
theorem tlt_trans {s t u : Tie} (h : tlt s t) (h' : tlt t u) : tlt s u := by unfold tlt at *; omega
theorem tlt_total (s t : Tie) : tlt s t ∨ s = t ∨ tlt t s := by
  obtain ⟨a, b⟩ := s
  obtain ⟨c, d⟩ := t
  unfold tlt
  dsimp only
  by_cases h : a = c
  · by_cases h2 : b = d
    · subst h h2; exact .inr (.inl rfl)
    · omega
  · omega
def tieN (t : Tie) : List Int := [t.1, t.2]
def untie (ns : List Int) : Tie := (ns.getD 0 0, ns.getD 1 0)
def sortP (ts : List Tie) : List Tie := (sortT (ts.map tieN)).map untie
theorem sortP_eq (ts : List Tie) : sortT (ts.map tieN) = (sortP ts).map tieN := by
  unfold sortP
  rw [List.map_map]
  have : ∀ ns ∈ sortT (ts.map tieN), (tieN ∘ untie) ns = ns := fun ns h => by
    have h' := (sortT_perm (ts.map tieN)).mem_iff.mp h
    obtain ⟨t, _, rfl⟩ := List.mem_map.mp h'
    rfl
  exact ((List.map_congr_left this).trans (List.map_id _)).symm
theorem sortP_perm (ts : List Tie) : (sortP ts).Perm ts := by
  have h := (sortT_perm (ts.map tieN)).map untie
  have e : (ts.map tieN).map untie = ts := by
    rw [List.map_map]
    exact (List.map_congr_left (fun t _ => rfl : ∀ t ∈ ts, (untie ∘ tieN) t = t)).trans (List.map_id _)
  rw [e] at h
  exact h
theorem sortP_up (ts : List Tie) (hn : ts.Nodup) : (sortP ts).Pairwise tlt := by
  have h := sortT_up (ts.map tieN)
  rw [sortP_eq, List.pairwise_map] at h
  have hn' : (sortP ts).Nodup := (sortP_perm ts).nodup_iff.mpr hn
  have := h.and hn'
  refine this.imp fun {s t} q => ?_
  obtain ⟨q1, q2⟩ := q
  have : decide (tlt t s) = false := (lex_tie t s).symm.trans q1
  have n1 := of_decide_eq_false this
  rcases tlt_total s t with z | z | z
  · exact z
  · exact absurd z q2
  · exact absurd z n1
theorem sortD_ties {ts : List Tie} (h : ts.length < 64) : sortD (ts.map tieD) = some ((sortP ts).map tieD) := by
  unfold sortD
  rw [if_pos (by rw [List.length_map]; exact h)]
  cases ts with
  | nil =>
    show some ((sortI []).map D.int) = some ((sortP []).map tieD)
    unfold sortP sortI sortT
    simp
  | cons t ts =>
    have e1 : intsOf ((t :: ts).map tieD) = none := rfl
    have e2 : tupsOf ((t :: ts).map tieD) = some ((t :: ts).map tieN) := by
      have := tupsOf_map (nss := (t :: ts).map tieN) (fun ns h => by
        obtain ⟨u, _, rfl⟩ := List.mem_map.mp h
        simp [tieN])
      rw [List.map_map] at this
      exact this
    rw [e1]
    dsimp only
    rw [e2]
    dsimp only
    rw [sortP_eq, List.map_map]
    rfl
structure IsWeb (n : Int) (ts : List Tie) : Prop where
  lo : 1 ≤ n
  hi : n ≤ 6
  up : ts.Pairwise tlt
  ok : ∀ t ∈ ts, 0 ≤ t.1 ∧ t.1 < t.2 ∧ t.2 < n
def webD (n : Int) (ts : List Tie) : D := .tup [.int n, .tup (ts.map tieD)]
theorem min_ok (a b : Int) : fMin [.int a, .int b] = some (.int (min a b)) := by
  show some (D.int (if b < a then b else a)) = _
  by_cases h : b < a
  · rw [if_pos h, Int.min_eq_right (by omega)]
  · rw [if_neg h, Int.min_eq_left (by omega)]
theorem max_ok (a b : Int) : fMax [.int a, .int b] = some (.int (max a b)) := by
  show some (D.int (if b > a then b else a)) = _
  by_cases h : b > a
  · rw [if_pos h, Int.max_eq_right (by omega)]
  · rw [if_neg h, Int.max_eq_left (by omega)]
def webTurn : DEnv → Option Out :=
  dSeq (dSet 6 (dCall F_law_mix (dCons (d2 dAdd (dVar 0) (d2 dMul (dC (.int 11)) (dVar 5))) (dCons (dC (.int 9949)) (dCons (dVar 3) (dNil))))))
  (dSeq (dSet 7 (dCall F_law_mix (dCons (d2 dAdd (d2 dAdd (dVar 0) (d2 dMul (dC (.int 13)) (dVar 5))) (dC (.int 1))) (dCons (dC (.int 9941)) (dCons (dVar 3) (dNil))))))
  (dSeq (dSet 8 (dTup (dCons (dCall fMin (dCons (dVar 6) (dCons (dVar 7) dNil))) (dCons (dCall fMax (dCons (dVar 6) (dCons (dVar 7) dNil))) (dNil)))))
  (dIfS (dAndT (dTest (d2 dNe (dVar 6) (dVar 7))) (dTest (dIn true (dVar 8) (dOwn 4))))
  (dApp 4 (dVar 8))
  (dNext))))
theorem webTurn_ok {c m t : D} {cc n k : Int} {ts : List Tie} {c6 c7 c8 : Option Cell} (hn : 0 < n) (hok : ∀ t ∈ ts, 0 ≤ t.1 ∧ t.1 < t.2 ∧ t.2 < n) (hnd : ts.Nodup) (hl : ts.length ≤ 1000) :
    ∃ (ts' : List Tie) (c6' c7' c8' : Option Cell), webTurn [some (.sh (.int cc)), some (.sh m), some (.sh t), some (.sh (.int n)), some (.ow (ts.map tieD)), some (.sh (.int k)), c6, c7, c8] =
      some (.nx [some (.sh (.int cc)), some (.sh m), some (.sh t), some (.sh (.int n)), some (.ow (ts'.map tieD)), some (.sh (.int k)), c6', c7', c8']) ∧ (∀ t ∈ ts', 0 ≤ t.1 ∧ t.1 < t.2 ∧ t.2 < n) ∧ ts'.Nodup ∧ ts'.length ≤ ts.length + 1 := by
  have a1 := mix_lo (cc + 11 * k) 9949 hn
  have a2 := mix_hi (cc + 11 * k) 9949 hn
  have b1 := mix_lo (cc + 13 * k + 1) 9941 hn
  have b2 := mix_hi (cc + 13 * k + 1) 9941 hn
  generalize e1 : mix (cc + 11 * k) 9949 n = a at a1 a2
  generalize e2 : mix (cc + 13 * k + 1) 9941 n = b at b1 b2
  have f1 : F_law_mix [.int (cc + 11 * k), .int 9949, .int n] = some (.int a) := by rw [F_law_mix_eq _ (by decide) hn, e1]
  have f2 : F_law_mix [.int (cc + 13 * k + 1), .int 9941, .int n] = some (.int b) := by rw [F_law_mix_eq _ (by decide) hn, e2]
  have g0 : ∀ ρ : DEnv, ρ[0]? = some (some (.sh (.int cc))) → ρ[5]? = some (some (.sh (.int k))) → ∀ j : Int, small64 j = true → d2 dAdd (dVar 0) (d2 dMul (dC (.int j)) (dVar 5)) ρ = some (.int (cc + j * k)) := fun ρ h0 h5 j hj => by
    have z0 : dVar 0 ρ = some (.int cc) := by unfold dVar; rw [h0]
    have z5 : dVar 5 ρ = some (.int k) := by unfold dVar; rw [h5]
    exact (ev_2 z0 ((ev_2 (x := .int j) (y := .int k) rfl z5).trans (mul_ok' k hj))).trans rfl
  let tie : Tie := (min a b, max a b)
  have step : webTurn [some (.sh (.int cc)), some (.sh m), some (.sh t), some (.sh (.int n)), some (.ow (ts.map tieD)), some (.sh (.int k)), c6, c7, c8] =
      dIfS (dAndT (dTest (d2 dNe (dVar 6) (dVar 7))) (dTest (dIn true (dVar 8) (dOwn 4)))) (dApp 4 (dVar 8)) dNext
        [some (.sh (.int cc)), some (.sh m), some (.sh t), some (.sh (.int n)), some (.ow (ts.map tieD)), some (.sh (.int k)), some (.sh (.int a)), some (.sh (.int b)), some (.sh (tieD tie))] := by
    refine ev_seq (r := .rt .non) (ev_set (d := .int a) ((ev_call (ds := [.int (cc + 11 * k), .int 9949, .int n]) (ev_cons (g0 _ rfl rfl 11 (by decide)) rfl)).trans f1)) ?_
    refine ev_seq (r := .rt .non) (ev_set (d := .int b) ((ev_call (ds := [.int (cc + 13 * k + 1), .int 9941, .int n]) (ev_cons ((ev_2 (g0 _ rfl rfl 13 (by decide)) rfl).trans rfl) rfl)).trans f2)) ?_
    exact ev_seq (r := .rt .non) (ev_set (d := tieD tie) (ev_tup (ds := [.int tie.1, .int tie.2]) (ev_cons ((ev_call (ds := [.int a, .int b]) rfl).trans (min_ok a b)) (ev_cons ((ev_call (ds := [.int a, .int b]) rfl).trans (max_ok a b)) rfl)) (show 2 ≤ LIM by decide))) rfl
  rw [step]
  have et : dAndT (dTest (d2 dNe (dVar 6) (dVar 7))) (dTest (dIn true (dVar 8) (dOwn 4))) [some (.sh (.int cc)), some (.sh m), some (.sh t), some (.sh (.int n)), some (.ow (ts.map tieD)), some (.sh (.int k)), some (.sh (.int a)), some (.sh (.int b)), some (.sh (tieD tie))] = some (!(a == b) && !decide (tie ∈ ts)) := by
    refine ev_andT (ev_test rfl) fun _ => ev_test ((ev_in (d := tieD tie) (ds := ts.map tieD) rfl rfl (Nat.le_trans (depthL_ties ts) (by decide)) (by rw [depth_tie]; decide)).trans ?_)
    rw [inD_tie]
    rfl
  rw [ev_ifS et]
  cases hc : (!(a == b) && !decide (tie ∈ ts)) with
  | false =>
    exact ⟨ts, _, _, _, rfl, hok, hnd, Nat.le_succ _⟩
  | true =>
    rw [Bool.and_eq_true] at hc
    have hne : a ≠ b := by simpa using hc.1
    have hni : tie ∉ ts := by simpa using hc.2
    refine ⟨ts ++ [tie], some (.sh (.int a)), some (.sh (.int b)), some (.sh (tieD tie)), ?_, fun u hu => ?_, ?_, by simp⟩
    · rw [if_pos rfl]
      refine (ev_app (ds := ts.map tieD) (d := tieD tie) rfl rfl (by rw [List.length_map]; unfold LIM; omega)).trans ?_
      rw [List.map_append]
      rfl
    · rcases List.mem_append.mp hu with z | z
      · exact hok u z
      · have : u = tie := by simpa using z
        subst this
        show 0 ≤ min a b ∧ min a b < max a b ∧ max a b < n
        omega
    · rw [List.nodup_append]
      refine ⟨hnd, by simp, fun x hx y hy => ?_⟩
      have : y = tie := by simpa using hy
      subst this
      exact fun z => hni (z ▸ hx)
theorem F_law_web_ok (c : Int) {most ties : Int} (h1 : 1 ≤ most) (h6 : most ≤ 6) (t0 : 0 ≤ ties) (t12 : ties ≤ 12) :
    ∃ (n : Int) (ts : List Tie), F_law_web [.int c, .int most, .int ties] = some (webD n ts) ∧ IsWeb n ts ∧ n ≤ most ∧ (ts.length : Int) ≤ ties := by
  have a1 := mix_lo c 9973 (show 0 < most by omega)
  have a2 := mix_hi c 9973 (show 0 < most by omega)
  have b1 := mix_lo c 9967 (show 0 < ties + 1 by omega)
  have b2 := mix_hi c 9967 (show 0 < ties + 1 by omega)
  obtain ⟨n, hn1, hn2, e1⟩ : ∃ n : Int, 1 ≤ n ∧ n ≤ most ∧ ∀ k : DEnv → Option Out, dSeq (dSet 3 (d2 dAdd (dC (.int 1)) (dCall F_law_mix (dCons (dVar 0) (dCons (dC (.int 9973)) (dCons (dVar 1) (dNil)))))))
      (dSeq (dIfS (dAndT (dTest (d2 dLt (dVar 3) (dC (.int 4)))) (dTest (d2 dGtI (d2 dModI (dVar 0) (dC (.int 4))) (dC (.int 0))))) (dSet 3 (dVar 1)) (dNext)) k) [some (.sh (.int c)), some (.sh (.int most)), some (.sh (.int ties)), none, none, none, none, none, none] =
      k [some (.sh (.int c)), some (.sh (.int most)), some (.sh (.int ties)), some (.sh (.int n)), none, none, none, none, none] := by
    have s1 : ∀ k, dSeq (dSet 3 (d2 dAdd (dC (.int 1)) (dCall F_law_mix (dCons (dVar 0) (dCons (dC (.int 9973)) (dCons (dVar 1) (dNil))))))) k [some (.sh (.int c)), some (.sh (.int most)), some (.sh (.int ties)), none, none, none, none, none, none] =
        k [some (.sh (.int c)), some (.sh (.int most)), some (.sh (.int ties)), some (.sh (.int (1 + mix c 9973 most))), none, none, none, none, none] := fun k =>
      ev_seq (r := .rt .non) (ev_set (d := .int (1 + mix c 9973 most)) ((ev_2 (x := .int 1) (y := .int (mix c 9973 most)) rfl ((ev_call (ds := [.int c, .int 9973, .int most]) rfl).trans (F_law_mix_eq c (by decide) (by omega)))).trans rfl)) rfl
    have s2 : dAndT (dTest (d2 dLt (dVar 3) (dC (.int 4)))) (dTest (d2 dGtI (d2 dModI (dVar 0) (dC (.int 4))) (dC (.int 0)))) [some (.sh (.int c)), some (.sh (.int most)), some (.sh (.int ties)), some (.sh (.int (1 + mix c 9973 most))), none, none, none, none, none] = some (decide (1 + mix c 9973 most < 4) && decide (0 < c % 4)) :=
      ev_andT (ev_test rfl) fun _ => ev_test ((ev_2 (x := .int (c % 4)) (y := .int 0) ((ev_2 (x := .int c) (y := .int 4) rfl rfl).trans (mod_ok c (by decide))) rfl).trans rfl)
    cases hc : (decide (1 + mix c 9973 most < 4) && decide (0 < c % 4)) with
    | true =>
      refine ⟨most, h1, Int.le_refl _, fun k => (s1 _).trans (ev_seq (r := .rt .non) ((ev_ifS s2).trans ?_) rfl)⟩
      rw [hc]; rfl
    | false =>
      refine ⟨1 + mix c 9973 most, by omega, by omega, fun k => (s1 _).trans (ev_seq (r := .rt .non) ((ev_ifS s2).trans ?_) rfl)⟩
      rw [hc]; rfl
  have hok : okR (mix c 9967 (ties + 1)) = true := by unfold okR; rw [decide_eq_true (by omega), decide_eq_true (by omega)]; rfl
  obtain ⟨ρ', l1, ts, c5, c6, c7, c8, rfl, q1, q2, q3⟩ := loop_inv (h := dName 5) (g := webTurn) (fun pre ρ => ∃ (ts : List Tie) (c5 c6 c7 c8 : Option Cell), ρ = [some (.sh (.int c)), some (.sh (.int most)), some (.sh (.int ties)), some (.sh (.int n)), some (.ow (ts.map tieD)), c5, c6, c7, c8] ∧ (∀ t ∈ ts, 0 ≤ t.1 ∧ t.1 < t.2 ∧ t.2 < n) ∧ ts.Nodup ∧ ts.length ≤ pre.length)
    (ds := dints 0 (mix c 9967 (ties + 1)).toNat) (ρ := [some (.sh (.int c)), some (.sh (.int most)), some (.sh (.int ties)), some (.sh (.int n)), some (.ow []), none, none, none, none]) ⟨[], none, none, none, none, rfl, fun t h => absurd h (by simp), List.nodup_nil, Nat.le_refl _⟩ (fun pre d post ρ he hI => by
      obtain ⟨ts, c5, c6, c7, c8, rfl, q1, q2, q3⟩ := hI
      obtain ⟨k, hk, rfl⟩ := dints_mem (show d ∈ dints 0 _ by rw [← he]; simp)
      have hlen := congrArg List.length he
      rw [dints_len, List.length_append] at hlen
      obtain ⟨ts', c6', c7', c8', w1, w2, w3, w4⟩ := webTurn_ok (c := .non) (cc := c) (m := .int most) (t := .int ties) (k := (k : Int)) (c6 := c6) (c7 := c7) (c8 := c8) (show 0 < n by omega) q1 q2 (by omega)
      refine ⟨_, _, rfl, .inl w1, ts', _, c6', c7', c8', rfl, w2, w3, ?_⟩
      rw [List.length_append]
      exact Nat.le_trans w4 (Nat.succ_le_succ q3))
  have hts : (ts.length : Int) ≤ ties := by
    rw [dints_len] at q3
    omega
  refine ⟨n, sortP ts, ?_, ⟨hn1, by omega, sortP_up ts q2, fun t ht => q1 t ((sortP_perm ts).mem_iff.mp ht)⟩, hn2, by rw [(sortP_perm ts).length_eq]; exact hts⟩
  show outD (g_law_web [some (.sh (.int c)), some (.sh (.int most)), some (.sh (.int ties)), none, none, none, none, none, none]) = _
  have fin : g_law_web [some (.sh (.int c)), some (.sh (.int most)), some (.sh (.int ties)), none, none, none, none, none, none] = some (.rt (webD n (sortP ts))) := by
    refine (e1 _).trans (ev_seq (r := .rt .non) (ev_setF (ds := []) (ev_lim (ds := []) rfl (by decide))) ?_)
    refine ev_seq (r := .rt .non) ((ev_for (ds := dints 0 (mix c 9967 (ties + 1)).toNat) ?_).trans l1) ?_
    · exact ev_rng1 ((ev_call (ds := [.int c, .int 9967, .int (ties + 1)]) rfl).trans (F_law_mix_eq c (by decide) (by omega))) hok
    · refine ev_ret (ev_tup (ds := [.int n, .tup ((sortP ts).map tieD)]) (ev_cons rfl (ev_cons (ev_tupF ((ev_QF (ds := ts.map tieD) rfl).trans (sortD_ties (by omega)))) rfl)) (show 2 ≤ LIM by decide))
  rw [fin]
  rfl
end P
set_option Elab.async false
set_option linter.all false
set_option maxRecDepth 100000
namespace P
open PySem L2 L3
def isWholeB : D → Bool
  | .int _ => true
  | _ => false
theorem F_is_whole_eq (d : D) : F_is_whole [d] = some (.bl (isWholeB d)) := by
  cases d <;> rfl
def isPairB : D → Bool
  | .tup [_, _] => true
  | _ => false
theorem F_is_pair_eq (d : D) : F_is_pair [d] = some (.bl (isPairB d)) := by
  cases d with
  | tup ds =>
    show some (D.bl ((ds.length : Int) == 2)) = _
    match ds with
    | [] => rfl
    | [_] => rfl
    | [_, _] => rfl
    | _ :: _ :: _ :: r => 
      have : (((r.length + 1 + 1 + 1 : Nat) : Int) == 2) = false := by
        rw [beq_eq_false_iff_ne]; omega
      show some (D.bl ((((r.length + 1 + 1 + 1 : Nat) : Int)) == 2)) = _
      rw [this]; rfl
  | _ => rfl
def isPlaceB (n : Int) : D → Bool
  | .int i => decide (0 ≤ i) && decide (i < n)
  | _ => false
theorem F_is_place_eq (n : Int) (d : D) : F_is_place [.int n, d] = some (.bl (isPlaceB n d)) := by
  cases d with
  | int i =>
    show outD (dRet _ _) = _
    rw [ev_ret (d := .bl (true && (decide (0 ≤ i) && decide (i < n))))]
    · rfl
    · exact ev_and (by rw [ev_call (ds := [.int i]) rfl, F_is_whole_eq]; rfl) fun _ => ev_chain (x := .int 0) (y := .int i) (z := .int n) rfl rfl rfl (fun _ => rfl) fun _ => rfl
  | _ => rfl
def ltII : D → D → Bool
  | .int i, .int j => decide (i < j)
  | _, _ => false
def isTieB (n : Int) : D → Bool
  | .tup [x, y] => isPlaceB n x && isPlaceB n y && ltII x y
  | _ => false
theorem isPlaceB_int {n : Int} {d : D} (h : isPlaceB n d = true) : ∃ i, d = .int i ∧ 0 ≤ i ∧ i < n := by
  cases d with
  | int i => 
    unfold isPlaceB at h
    rw [Bool.and_eq_true] at h
    exact ⟨i, rfl, of_decide_eq_true h.1, of_decide_eq_true h.2⟩
  | _ => cases h
theorem F_is_tie_eq (n : Int) (d : D) : F_is_tie [.int n, d] = some (.bl (isTieB n d)) := by
  show outD (dSeq _ _ _) = _
  have e1 : dNotT (dTest (dCall F_is_pair (dCons (dVar 1) dNil))) [some (.sh (.int n)), some (.sh d)] = some (!isPairB d) :=
    ev_notT (ev_test (by rw [ev_call (ds := [d]) rfl, F_is_pair_eq]))
  cases hp : isPairB d with
  | false =>
    rw [hp] at e1
    rw [ev_seqR (d := .bl false)]
    · have : isTieB n d = false := by
        cases d with
        | tup ds =>
          match ds, hp with
          | [], _ => rfl
          | [_], _ => rfl
          | _ :: _ :: _ :: _, _ => rfl
        | _ => rfl
      rw [this]; rfl
    · exact (ev_ifS e1).trans rfl
  | true =>
    rw [hp] at e1
    obtain ⟨x, y, rfl⟩ : ∃ x y, d = .tup [x, y] := by
      cases d with
      | tup ds =>
        match ds, hp with
        | [x, y], _ => exact ⟨x, y, rfl⟩
      | _ => cases hp
    rw [ev_seq (r := .rt .non) (ρ' := [some (.sh (.int n)), some (.sh (.tup [x, y]))]) (o := some (.rt (.bl (isTieB n (.tup [x, y])))))]
    · rfl
    · exact (ev_ifS e1).trans rfl
    · refine ev_ret ?_
      show dAnd _ _ _ = some (D.bl (isPlaceB n x && isPlaceB n y && ltII x y))
      rw [Bool.and_assoc]
      refine ev_and (by rw [ev_call (ds := [.int n, x]) rfl, F_is_place_eq]) fun hx => ev_and (by rw [ev_call (ds := [.int n, y]) rfl, F_is_place_eq]) fun hy => ?_
      obtain ⟨i, rfl, _, _⟩ := isPlaceB_int hx
      obtain ⟨j, rfl, _, _⟩ := isPlaceB_int hy
      rfl
def ltB : D → D → Option Bool := fun x y => match dLt x y with | some (.bl b) => some b | _ => none
def risB : List D → Option Bool
  | x :: y :: r => (match ltB x y with | some b => (match risB (y :: r) with | some c => some (b && c) | none => none) | none => none)
  | _ => some true
theorem ltB_some {x y : D} {b : Bool} (h : ltB x y = some b) : dLt x y = some (.bl b) := by
  unfold ltB at h
  split at h
  · rename_i e; cases h; exact e
  · cases h
def nbs (ds : List D) (k : Nat) : Option Bool := match ds[k]?, ds[k + 1]? with | some x, some y => ltB x y | _, _ => none
theorem risB_bs : ∀ {ds : List D} {b : Bool}, risB ds = some b → ∃ bs : List Bool, bs.length = ds.length - 1 ∧ (∀ k, k < ds.length - 1 → nbs ds k = some (bs.getD k true)) ∧ bs.all id = b
  | [], b, e => by cases e; exact ⟨[], rfl, fun k h => absurd h (by simp), rfl⟩
  | [x], b, e => by cases e; exact ⟨[], rfl, fun k h => absurd h (by simp), rfl⟩
  | x :: y :: r, b, e => by
    unfold risB at e
    split at e
    · rename_i b1 e1
      split at e
      · rename_i c1 e2
        cases e
        obtain ⟨bs, h1, h2, h3⟩ := risB_bs e2
        refine ⟨b1 :: bs, by simp only [List.length_cons] at h1 ⊢; omega, fun k hk => ?_, by rw [List.all_cons, h3]; rfl⟩
        cases k with
        | zero => exact e1
        | succ k => 
          have := h2 k (by simp only [List.length_cons] at hk ⊢; omega)
          exact this
      · cases e
    · cases e
theorem atI_at {ds : List D} {k : Nat} {d : D} (h : ds[k]? = some d) : atI ds (k : Int) = some d := atI_nat h
theorem blsOf_map (bs : List Bool) : blsOf (bs.map D.bl) = some bs := by
  induction bs with
  | nil => rfl
  | cons b r ih => rw [List.map_cons, blsOf, ih]; rfl
theorem F_are_rising_eq {ds : List D} {b : Bool} (h : risB ds = some b) (hl : ds.length ≤ 1000) : F_are_rising [.tup ds] = some (.bl b) := by
  obtain ⟨bs, h1, h2, h3⟩ := risB_bs h
  show outD (dRet _ _) = _
  rw [ev_ret (d := .bl b)]
  · rfl
  · have hj : okR ((ds.length : Int) - 1) = true := by unfold okR; rw [decide_eq_true (by omega), decide_eq_true (by omega)]; rfl
    have en : ((ds.length : Int) - 1).toNat = ds.length - 1 := by omega
    have e2 : dComp [none, some 0] (dRng1 (d2 dSubI (dLen (dSq (dVar 0))) (dC (.int 1)))) (dName 0) dTrue (d2 dLt (dIx (dSq (dVar 1)) (dVar 0)) (dIx (dSq (dVar 1)) (d2 dAdd (dVar 0) (dC (.int 1))))) [some (.sh (.tup ds))] = some (bs.map D.bl) := by
      rw [ev_comp (ds := dints 0 (ds.length - 1)) (by rw [ev_rng1 (j := (ds.length : Int) - 1) rfl hj, en]) (by rw [dints_len]; unfold LIM; omega)]
      have := compGo_map (h := dName 0) (fe := d2 dLt (dIx (dSq (dVar 1)) (dVar 0)) (dIx (dSq (dVar 1)) (d2 dAdd (dVar 0) (dC (.int 1))))) (fun ρ => ∃ c, ρ = [c, some (.sh (.tup ds))]) (fun d => match d with | .int k => .bl (bs.getD k.toNat true) | _ => .non) (dints 0 (ds.length - 1)) (capE [none, some 0] [some (.sh (.tup ds))]) ⟨none, rfl⟩ (fun d hd ρ hρ => by
        obtain ⟨c, rfl⟩ := hρ
        obtain ⟨k, hk, rfl⟩ := dints_mem hd
        refine ⟨_, rfl, ⟨_, rfl⟩, ?_⟩
        have q := h2 k hk
        unfold nbs at q
        split at q
        · rename_i x y ex ey
          refine (ev_2 (x := x) (y := y) ?_ ?_).trans (ltB_some q)
          · exact (ev_ix (ds := ds) (j := (k : Int)) rfl rfl).trans (atI_at ex)
          · exact (ev_ix (ds := ds) (j := ((k + 1 : Nat) : Int)) rfl rfl).trans (atI_at ey)
        · cases q)
      rw [this]
      congr 1
      refine List.ext_getElem? fun k => ?_
      rw [List.getElem?_map, List.getElem?_map]
      by_cases hk : k < ds.length - 1
      · rw [dints_get hk, List.getElem?_eq_getElem (by omega)]
        simp only [Option.map_some, Int.toNat_natCast, List.getD_eq_getElem?_getD]
        rw [List.getElem?_eq_getElem (by omega)]
        rfl
      · rw [List.getElem?_eq_none (by rw [dints_len]; omega), List.getElem?_eq_none (by omega)]
        rfl
    exact (ev_all e2 (blsOf_map bs)).trans (by rw [h3])
theorem isTieB_tup {n : Int} {d : D} (h : isTieB n d = true) : ∃ i j, d = .tup [.int i, .int j] ∧ 0 ≤ i ∧ i < j ∧ j < n := by
  cases d with
  | tup ds =>
    match ds, h with
    | [x, y], h =>
      unfold isTieB at h
      rw [Bool.and_eq_true, Bool.and_eq_true] at h
      obtain ⟨i, rfl, hi, _⟩ := isPlaceB_int h.1.1
      obtain ⟨j, rfl, _, hj⟩ := isPlaceB_int h.1.2
      exact ⟨i, j, rfl, hi, of_decide_eq_true h.2, hj⟩
  | _ => cases h
theorem risB_ties {n : Int} : ∀ {ds : List D}, ds.all (isTieB n) = true → ∃ b, risB ds = some b
  | [], _ => ⟨true, rfl⟩
  | [_], _ => ⟨true, rfl⟩
  | x :: y :: r, h => by
    rw [List.all_cons, Bool.and_eq_true, List.all_cons, Bool.and_eq_true] at h
    obtain ⟨i, j, rfl, _⟩ := isTieB_tup h.1
    obtain ⟨i', j', rfl, _⟩ := isTieB_tup h.2.1
    obtain ⟨c, hc⟩ := risB_ties (ds := .tup [.int i', .int j'] :: r) (by rw [List.all_cons, h.2.1, h.2.2]; rfl)
    have e1 : ltB (.tup [.int i, .int j]) (.tup [.int i', .int j']) = some (HT.lexLt [i, j] [i', j']) := rfl
    exact ⟨HT.lexLt [i, j] [i', j'] && c, by unfold risB; rw [e1, hc]⟩
def areTiesB (n : Int) : D → Bool
  | .tup ds => if 12 < ds.length then false else ds.all (isTieB n) && (risB ds).getD false
  | _ => false
theorem F_are_ties_eq (n : Int) (d : D) : F_are_ties [.int n, d] = some (.bl (areTiesB n d)) := by
  cases d with
  | tup ds =>
    show outD (dSeq _ _ _) = _
    have e0 : (dTest (d2 dGtI (dLen (dSq (dVar 1))) (dC (.int 12)))) [some (.sh (.int n)), some (.sh (.tup ds))] = some (decide (12 < (ds.length : Int))) := rfl
    have e1 : dOrT (dNotT (dTest (dIsi "tuple" (dVar 1)))) (dTest (d2 dGtI (dLen (dSq (dVar 1))) (dC (.int 12)))) [some (.sh (.int n)), some (.sh (.tup ds))] = some (false || decide (12 < (ds.length : Int))) :=
      ev_orT (a := false) rfl fun _ => e0
    by_cases hl : 12 < ds.length
    · rw [ev_seqR (d := .bl false)]
      · show _ = some (D.bl (if 12 < ds.length then false else _))
        rw [if_pos hl]; rfl
      · refine (ev_ifS e1).trans ?_
        rw [decide_eq_true (show (12 : Int) < (ds.length : Int) by omega)]
        rfl
    · rw [ev_seq (r := .rt .non) (ρ' := [some (.sh (.int n)), some (.sh (.tup ds))]) (o := some (.rt (.bl (ds.all (isTieB n) && (risB ds).getD false))))]
      · show _ = some (D.bl (if 12 < ds.length then false else _))
        rw [if_neg hl]; rfl
      · refine (ev_ifS e1).trans ?_
        rw [decide_eq_false (show ¬ (12 : Int) < (ds.length : Int) by omega)]
        rfl
      · refine ev_ret ?_
        refine ev_and (a := ds.all (isTieB n)) ?_ fun hx => ?_
        · have e2 : dComp [none, some 0] (dSq (dVar 1)) (dName 0) dTrue (dCall F_is_tie (dCons (dVar 1) (dCons (dVar 0) dNil))) [some (.sh (.int n)), some (.sh (.tup ds))] = some ((ds.map (isTieB n)).map D.bl) := by
            rw [ev_comp (ds := ds) rfl (by unfold LIM; omega)]
            have := compGo_map (h := dName 0) (fe := dCall F_is_tie (dCons (dVar 1) (dCons (dVar 0) dNil))) (fun ρ => ∃ c, ρ = [c, some (.sh (.int n))]) (fun d => .bl (isTieB n d)) ds (capE [none, some 0] [some (.sh (.int n)), some (.sh (.tup ds))]) ⟨none, rfl⟩ (fun d hd ρ hρ => by
              obtain ⟨c, rfl⟩ := hρ
              exact ⟨_, rfl, ⟨_, rfl⟩, (ev_call (ds := [.int n, d]) rfl).trans (F_is_tie_eq n d)⟩)
            rw [this, List.map_map]
            rfl
          refine (ev_all e2 (blsOf_map _)).trans ?_
          rw [List.all_map]
          rfl
        · obtain ⟨b, hb⟩ := risB_ties hx
          rw [hb]
          exact (ev_call (ds := [.tup ds]) rfl).trans (F_are_rising_eq hb (by omega))
  | _ => rfl
def isWebB : D → Bool
  | .tup [.int n, t] => decide (1 ≤ n) && decide (n ≤ 6) && areTiesB n t
  | _ => false
theorem F_is_web_eq (d : D) : F_is_web [d] = some (.bl (isWebB d)) := by
  show outD (dSeq _ _ _) = _
  cases hp : isPairB d with
  | false =>
    have e1 : dOrT (dNotT (dTest (dCall F_is_pair (dCons (dVar 0) dNil)))) (dNotT (dTest (dCall F_is_whole (dCons (dIx (dSq (dVar 0)) (dC (.int 0))) dNil)))) [some (.sh d)] = some (true || true) :=
      ev_orT (a := true) (ev_notT (a := false) (ev_test ((ev_call (ds := [d]) rfl).trans (by rw [F_is_pair_eq, hp])))) fun z => by cases z
    rw [ev_seqR (d := .bl false)]
    · have : isWebB d = false := by
        cases d with
        | tup ds =>
          match ds, hp with
          | [], _ => rfl
          | [x], _ => cases x <;> rfl
          | x :: _ :: _ :: _, _ => cases x <;> rfl
        | _ => rfl
      rw [this]; rfl
    · exact (ev_ifS e1).trans rfl
  | true =>
    obtain ⟨x, y, rfl⟩ : ∃ x y, d = .tup [x, y] := by
      cases d with
      | tup ds =>
        match ds, hp with
        | [x, y], _ => exact ⟨x, y, rfl⟩
      | _ => cases hp
    have e1 : dOrT (dNotT (dTest (dCall F_is_pair (dCons (dVar 0) dNil)))) (dNotT (dTest (dCall F_is_whole (dCons (dIx (dSq (dVar 0)) (dC (.int 0))) dNil)))) [some (.sh (.tup [x, y]))] = some (false || !isWholeB x) :=
      ev_orT (a := false) (ev_notT (a := true) (ev_test ((ev_call (ds := [.tup [x, y]]) rfl).trans (by rw [F_is_pair_eq]; rfl)))) fun _ => ev_notT (ev_test ((ev_call (ds := [x]) rfl).trans (F_is_whole_eq x)))
    cases hw : isWholeB x with
    | false =>
      rw [hw] at e1
      rw [ev_seqR (d := .bl false)]
      · cases x <;> first | rfl | cases hw
      · exact (ev_ifS e1).trans rfl
    | true =>
      rw [hw] at e1
      obtain ⟨n, rfl⟩ : ∃ n, x = .int n := by cases x <;> first | exact ⟨_, rfl⟩ | cases hw
      rw [ev_seq (r := .rt .non) (ρ' := [some (.sh (.tup [.int n, y]))]) (o := some (.rt (.bl (decide (1 ≤ n) && decide (n ≤ 6) && areTiesB n y))))]
      · rfl
      · exact (ev_ifS e1).trans rfl
      · refine ev_ret ?_
        exact ev_and (ev_chain (x := .int 1) (y := .int n) (z := .int 6) rfl rfl rfl (fun _ => rfl) fun _ => rfl) fun _ => (ev_call (ds := [.int n, y]) rfl).trans (F_are_ties_eq n y)
end P
set_option Elab.async false
set_option linter.all false
set_option maxRecDepth 100000
namespace P
open PySem L2 L3
theorem risB_up : ∀ {ts : List Tie}, ts.Pairwise tlt → risB (ts.map tieD) = some true
  | [], _ => rfl
  | [_], _ => rfl
  | s :: t :: r, h => by
    rw [List.pairwise_cons] at h
    have e1 : ltB (tieD s) (tieD t) = some true := by
      have : ltB (tieD s) (tieD t) = some (HT.lexLt [s.1, s.2] [t.1, t.2]) := rfl
      rw [this, lex_tie, decide_eq_true (h.1 t List.mem_cons_self)]
    have ih := risB_up (ts := t :: r) h.2
    show (match ltB (tieD s) (tieD t) with | some b => (match risB ((t :: r).map tieD) with | some c => some (b && c) | none => none) | none => none) = _
    rw [e1, ih]
    rfl
theorem isTieB_tie {n : Int} {t : Tie} (h : 0 ≤ t.1 ∧ t.1 < t.2 ∧ t.2 < n) : isTieB n (tieD t) = true := by
  show ((decide (0 ≤ t.1) && decide (t.1 < n)) && (decide (0 ≤ t.2) && decide (t.2 < n)) && decide (t.1 < t.2)) = true
  rw [decide_eq_true (show 0 ≤ t.1 by omega), decide_eq_true (show t.1 < n by omega), decide_eq_true (show 0 ≤ t.2 by omega), decide_eq_true (show t.2 < n by omega), decide_eq_true (show t.1 < t.2 by omega)]
  rfl
theorem web_true {n : Int} {ts : List Tie} (h : IsWeb n ts) (hl : ts.length ≤ 12) : isWebB (webD n ts) = true := by
  show (decide (1 ≤ n) && decide (n ≤ 6) && areTiesB n (.tup (ts.map tieD))) = true
  rw [decide_eq_true h.lo, decide_eq_true h.hi]
  show (if 12 < (ts.map tieD).length then false else (ts.map tieD).all (isTieB n) && (risB (ts.map tieD)).getD false) = true
  rw [if_neg (by rw [List.length_map]; omega), risB_up h.up, List.all_map]
  have : ts.all (isTieB n ∘ tieD) = true := List.all_eq_true.mpr fun t ht => isTieB_tie (h.ok t ht)
  rw [this]
  rfl
end P
set_option Elab.async false
set_option linter.all false
set_option maxRecDepth 100000
set_option maxHeartbeats 4000000
namespace L3
open PySem PySem.Spec PyProof.Rows L2
theorem str_ext {a b : Str} (h : a.cps.toList = b.cps.toList) : a = b := by
  obtain ⟨⟨a⟩⟩ := a
  obtain ⟨⟨b⟩⟩ := b
  have : a = b := h
  rw [this]
def jn (c : Nat) : List (List Nat) → List Nat
  | [] => []
  | [p] => p
  | p :: q :: r => p ++ c :: jn c (q :: r)
theorem join_jn (c : Nat) : ∀ ps : List Str, (Str.join ⟨#[c]⟩ ps).cps.toList = jn c (ps.map fun p => p.cps.toList)
  | [] => rfl
  | [p] => rfl
  | p :: q :: r => by
    have ih := join_jn c (q :: r)
    have e : Str.join ⟨#[c]⟩ (p :: q :: r) = p ++ ⟨#[c]⟩ ++ Str.join ⟨#[c]⟩ (q :: r) := by rw [Str.join]; intro h; cases h
    rw [e]
    show ((p.cps ++ #[c]) ++ (Str.join ⟨#[c]⟩ (q :: r)).cps).toList = p.cps.toList ++ c :: jn c ((q :: r).map fun p => p.cps.toList)
    rw [Array.toList_append, Array.toList_append, ih, List.append_assoc]
    rfl
theorem cut_inj {c : Nat} : ∀ {p q R S : List Nat}, c ∉ p → c ∉ q → p ++ c :: R = q ++ c :: S → p = q ∧ R = S
  | [], [], R, S, _, _, e => by rw [List.nil_append, List.nil_append] at e; cases e; exact ⟨rfl, rfl⟩
  | [], b :: q, R, S, _, h, e => by
    rw [List.nil_append, List.cons_append] at e
    have : c = b := (List.cons.inj e).1
    exact absurd (by rw [this]; exact List.mem_cons_self) h
  | a :: p, [], R, S, h, _, e => by
    rw [List.nil_append, List.cons_append] at e
    have : a = c := (List.cons.inj e).1
    exact absurd (by rw [this]; exact List.mem_cons_self) h
  | a :: p, b :: q, R, S, h1, h2, e => by
    rw [List.cons_append, List.cons_append] at e
    obtain ⟨e1, e2⟩ := List.cons.inj e
    obtain ⟨r1, r2⟩ := cut_inj (fun z => h1 (List.mem_cons_of_mem _ z)) (fun z => h2 (List.mem_cons_of_mem _ z)) e2
    exact ⟨by rw [e1, r1], r2⟩
theorem jn_inj {c : Nat} : ∀ {ps qs : List (List Nat)}, ps ≠ [] → qs ≠ [] → (∀ p ∈ ps, c ∉ p) → (∀ p ∈ qs, c ∉ p) → jn c ps = jn c qs → ps = qs
  | [], _, h, _, _, _, _ => absurd rfl h
  | _, [], _, h, _, _, _ => absurd rfl h
  | [p], [q], _, _, _, _, e => by rw [jn, jn] at e; rw [e]
  | [p], q :: r :: t, _, _, h, _, e => by
    rw [jn, jn] at e
    exact absurd (by rw [e]; simp) (h p (by simp))
  | p :: r :: t, [q], _, _, _, h, e => by
    rw [jn, jn] at e
    exact absurd (by rw [← e]; simp) (h q (by simp))
  | p :: p2 :: ps, q :: q2 :: qs, _, _, h1, h2, e => by
    rw [jn, jn] at e
    obtain ⟨r1, r2⟩ := cut_inj (h1 p (by simp)) (h2 q (by simp)) e
    have := jn_inj (by simp) (by simp) (fun x hx => h1 x (List.mem_cons_of_mem _ hx)) (fun x hx => h2 x (List.mem_cons_of_mem _ hx)) r2
    rw [r1, this]
theorem split_ne (x y : Str) : Txt.split x y ≠ [] := by
  unfold Txt.split
  split
  · simp
  · split
    · simp
    · intro h
      have := congrArg List.length h
      rw [length_partsBetween] at this
      simp at this
theorem map_cps_inj : ∀ {ps qs : List Str}, (ps.map fun p => p.cps.toList) = (qs.map fun p => p.cps.toList) → ps = qs
  | [], [], _ => rfl
  | [], _ :: _, h => by cases h
  | _ :: _, [], h => by cases h
  | p :: ps, q :: qs, h => by
    rw [List.map_cons, List.map_cons] at h
    obtain ⟨h1, h2⟩ := List.cons.inj h
    rw [str_ext h1, map_cps_inj h2]
theorem split_is {x : Str} {c : Nat} {ps : List Str} (h0 : ps ≠ []) (hf : ∀ p ∈ ps, c ∉ p.cps.toList) (hj : x.cps.toList = jn c (ps.map fun p => p.cps.toList)) : Txt.split x ⟨#[c]⟩ = ps := by
  have e := join_jn c (Txt.split x ⟨#[c]⟩)
  rw [StrLaws.join_split, hj] at e
  refine map_cps_inj (jn_inj (c := c) (fun z => split_ne x ⟨#[c]⟩ (List.map_eq_nil_iff.mp z)) (fun z => h0 (List.map_eq_nil_iff.mp z)) (fun p hp => ?_) (fun p hp => ?_) e.symm)
  · obtain ⟨q, hq, rfl⟩ := List.mem_map.mp hp
    exact StrLaws.split_free x c q hq
  · obtain ⟨q, hq, rfl⟩ := List.mem_map.mp hp
    exact hf q hq
theorem split_back (x : Str) (c : Nat) : x.cps.toList = jn c ((Txt.split x ⟨#[c]⟩).map fun p => p.cps.toList) := by
  rw [← join_jn, StrLaws.join_split]
theorem mem_jn {c : Nat} : ∀ {ps : List (List Nat)} {p : List Nat} {a : Nat}, p ∈ ps → a ∈ p → a ∈ jn c ps
  | [p], _, a, h, ha => by
    have := List.mem_singleton.mp h
    subst this
    exact ha
  | p :: q :: r, x, a, h, ha => by
    rw [jn]
    rcases List.mem_cons.mp h with rfl | h
    · exact List.mem_append_left _ ha
    · exact List.mem_append_right _ (List.mem_cons_of_mem _ (mem_jn h ha))
theorem split_mem {x : Str} {c a : Nat} {p : Str} (h : p ∈ Txt.split x ⟨#[c]⟩) (ha : a ∈ p.cps.toList) : a ∈ x.cps.toList := by
  rw [split_back x c]
  exact mem_jn (List.mem_map_of_mem (f := fun p : Str => p.cps.toList) h) ha
theorem ascii_part {x : Str} {c : Nat} {p : Str} (hx : asciiS x = true) (h : p ∈ Txt.split x ⟨#[c]⟩) : asciiS p = true := by
  unfold asciiS at hx ⊢
  rw [Bool.and_eq_true, List.all_eq_true] at hx ⊢
  refine ⟨decide_eq_true (Nat.le_trans (part_short h) (of_decide_eq_true hx.1)), fun a ha => hx.2 a (split_mem h ha)⟩
theorem ascii_len {x : Str} (h : asciiS x = true) : x.length ≤ 1000 := by
  unfold asciiS at h
  rw [Bool.and_eq_true] at h
  exact of_decide_eq_true h.1
theorem ascii_all {x : Str} (h : asciiS x = true) : ∀ c ∈ x.cps.toList, c < 128 := by
  unfold asciiS at h
  rw [Bool.and_eq_true, List.all_eq_true] at h
  exact fun c hc => of_decide_eq_true (h.2 c hc)
theorem ascii_mk {x : Str} (h1 : x.length ≤ 1000) (h2 : ∀ c ∈ x.cps.toList, c < 128) : asciiS x = true := by
  unfold asciiS
  rw [Bool.and_eq_true, List.all_eq_true]
  exact ⟨decide_eq_true h1, fun c hc => decide_eq_true (h2 c hc)⟩
theorem split_many {x : Str} {c : Nat} (hx : asciiS x = true) : (Txt.split x ⟨#[c]⟩).length ≤ LIM := by
  have e := split_weight x ⟨#[c]⟩ (Nat.le_refl 1)
  have := ascii_len hx
  unfold LIM
  omega
abbrev sg (k : Nat) : Str := ⟨#[k]⟩
theorem dig_text : ∀ k : Nat, k < 10 → Str.ofString (toString (k : Int)) = sg (48 + k) := by decide +kernel
theorem dig_int : ∀ k : Nat, k < 10 → PySem.intText? (sg (48 + k)) = some (k : Int) := by decide +kernel
theorem dig_in : ∀ c : Nat, c < 128 → (Builtin.Str.occurrences (Str.ofString "0123456789") (sg c) 0 10 1).isEmpty = !(decide (48 ≤ c) && decide (c ≤ 57)) := by decide +kernel
def numOf (w : Str) : Option Nat := match w.cps.toList with | [c] => if 48 ≤ c ∧ c ≤ 57 then some (c - 48) else none | _ => none
theorem numOf_some {w : Str} {k : Nat} (h : numOf w = some k) : k < 10 ∧ w = sg (48 + k) := by
  unfold numOf at h
  split at h
  · rename_i c e
    split at h
    · rename_i hc
      have : c - 48 = k := Option.some.inj h
      refine ⟨by omega, str_ext (e.trans ?_)⟩
      show [c] = [48 + k]
      rw [show 48 + k = c by omega]
    · cases h
  · cases h
theorem numOf_sg {k : Nat} (h : k < 10) : numOf (sg (48 + k)) = some k := by
  show (if 48 ≤ 48 + k ∧ 48 + k ≤ 57 then some (48 + k - 48) else none) = some k
  rw [if_pos ⟨by omega, by omega⟩, Nat.add_sub_cancel_left]
theorem str_len1 {w : Str} (h : w.length = 1) : ∃ c, w = sg c := by
  obtain ⟨⟨l⟩⟩ := w
  match l, h with
  | [c], _ => exact ⟨c, rfl⟩
end L3
set_option Elab.async false
set_option linter.all false
set_option maxRecDepth 100000
set_option maxHeartbeats 1000000
namespace P
open PySem L2 L3
section
variable {ρ : DEnv} {fa fb : DEnv → Option D} {k : DEnv → Str → Option D}
theorem ev_lenS {z : Str} (h : fa ρ = some (.str z)) (hl : z.length ≤ LIM) : dLenS fa ρ = some (.int z.length) := by unfold dLenS; rw [h]; dsimp only; rw [if_pos hl]
theorem ev_strI {i : Int} (h : fa ρ = some (.int i)) (hl : smallI i = true) : dStrI fa ρ = some (.str (toString i)) := by unfold dStrI; rw [h]; dsimp only; rw [if_pos hl]
theorem ev_fmtI {i : Int} (h : fa ρ = some (.int i)) (hl : smallI i = true) : dFmtI fa ρ = some (.str (toString i)) := by unfold dFmtI; rw [h]; dsimp only; rw [if_pos hl]
theorem ev_fmtR {z : Str} (h : fa ρ = some (.str z)) (hl : asciiS z = true) : dFmtR fa ρ = some (.str (reprText z)) := by unfold dFmtR; rw [h]; dsimp only; rw [if_pos hl]
theorem ev_jcons {y acc : Str} (h : fa ρ = some (.str y)) (hl : (acc ++ y).length ≤ LIM) : dJCons fa k ρ acc = k ρ (acc ++ y) := by unfold dJCons; rw [h]; dsimp only; rw [if_pos hl]
theorem ev_jnil {acc : Str} (hl : acc.length ≤ LIM) : dJNil ρ acc = some (.str acc) := by unfold dJNil; rw [if_pos hl]
theorem ev_split {z y : Str} (h : fa ρ = some (.str z)) (h2 : fb ρ = some (.str y)) (h3 : (y.length == 0) = false) (h4 : z.length ≤ 1000) (h5 : (Txt.split z y).length ≤ LIM) : dSplit fa fb ρ = some ((Txt.split z y).map D.str) := by
  unfold dSplit; rw [h]; dsimp only; rw [h2]; dsimp only; rw [if_pos ⟨h3, h4, h5⟩]
theorem ev_raise {d : D} (h : fa ρ = some d) : dRaise fa ρ = some (.rt bad) := by unfold dRaise; rw [h]
theorem slen (a b : Str) : (a ++ b).length = a.length + b.length := strLen_append a b
theorem ev_msg (a w : Str) (ha : a.length ≤ 100) (h : fa ρ = some (.str w)) (hw : asciiS w = true) : ∃ d, dJoined (dJCons (dC (.str a)) (dJCons (dFmtR fa) dJNil)) ρ = some d := by
  have e := StrLaws.reprText_len w fun c hc => Nat.lt_trans (ascii_all hw c hc) (by decide)
  have l := ascii_len hw
  have e0 : (Str.empty ++ a).length = a.length := by rw [slen]; show 0 + _ = _; omega
  refine ⟨.str ((Str.empty ++ a) ++ reprText w), ?_⟩
  show dJCons _ _ ρ Str.empty = _
  rw [ev_jcons (y := a) rfl (by rw [e0]; unfold LIM; omega), ev_jcons (ev_fmtR h hw) (by rw [slen, e0]; unfold LIM; omega), ev_jnil (by rw [slen, e0]; unfold LIM; omega)]
end
section
variable {ρ : DEnv} {fa : DEnv → Option D} {fl : DEnv → Option (List D)}
theorem cons_none1 (h : fa ρ = none) : dCons fa fl ρ = none := by unfold dCons; rw [h]
theorem cons_none2 (h : fl ρ = none) : dCons fa fl ρ = none := by unfold dCons; rw [h]; cases fa ρ <;> rfl
theorem tup_none (h : fl ρ = none) : dTup fl ρ = none := by unfold dTup; rw [h]
theorem ret_none (h : fa ρ = none) : dRet fa ρ = none := by unfold dRet; rw [h]
end
theorem bad_bad : isBad bad = true := by
  unfold bad
  rw [isBad]
  rfl
def numCond : DEnv → Option Bool := dOrT (dTest (d2 dNe (dLenS (dVar 0)) (dC (.int 1)))) (dTest (d2 (dInS true) (dVar 0) (dC (.str "0123456789"))))
theorem numCond_ok {w : Str} (hw : asciiS w = true) : numCond [some (.sh (.str w))] = some (numOf w).isNone := by
  have hl := ascii_len hw
  have e1 : dTest (d2 dNe (dLenS (dVar 0)) (dC (.int 1))) [some (.sh (.str w))] = some (!((w.length : Int) == 1)) := ev_test (ev_2 (x := .int w.length) (y := .int 1) (ev_lenS rfl (by unfold LIM; omega)) rfl)
  by_cases h1 : w.length = 1
  · obtain ⟨c, rfl⟩ := str_len1 h1
    have hc : c < 128 := ascii_all hw c (by simp)
    have e2 : dTest (d2 (dInS true) (dVar 0) (dC (.str "0123456789"))) [some (.sh (.str (sg c)))] = some (!(!(Builtin.Str.occurrences (Str.ofString "0123456789") (sg c) 0 10 1).isEmpty)) := ev_test (ev_2 (x := .str (sg c)) (y := .str "0123456789") rfl rfl)
    refine (ev_orT e1 fun _ => e2).trans ?_
    rw [dig_in c hc]
    have e3 : (numOf (sg c)).isNone = !(decide (48 ≤ c) && decide (c ≤ 57)) := by
      show (if 48 ≤ c ∧ c ≤ 57 then some (c - 48) else none : Option Nat).isNone = _
      by_cases h : 48 ≤ c ∧ c ≤ 57
      · rw [if_pos h, decide_eq_true h.1, decide_eq_true h.2]; rfl
      · rw [if_neg h]
        by_cases h' : 48 ≤ c
        · rw [decide_eq_true h', decide_eq_false (fun z => h ⟨h', z⟩)]; rfl
        · rw [decide_eq_false h']; rfl
    rw [e3, h1]
    cases (decide (48 ≤ c) && decide (c ≤ 57)) <;> rfl
  · have hn : ((w.length : Int) == 1) = false := by
      rw [beq_eq_false_iff_ne]
      omega
    rw [hn] at e1
    refine (ev_orT (b := true) e1 fun z => by cases z).trans ?_
    have : numOf w = none := by
      cases e : numOf w with
      | none => rfl
      | some k =>
        obtain ⟨_, rfl⟩ := numOf_some e
        exact absurd rfl h1
    rw [this]
    rfl
theorem F_number_ok {w : Str} {k : Nat} (hw : asciiS w = true) (h : numOf w = some k) : F_number_of [.str w] = some (.int k) := by
  have e := numCond_ok hw
  rw [h] at e
  obtain ⟨hk, rfl⟩ := numOf_some h
  show outD (dSeq (dIfS numCond (fun _ => none) dNext) (dRet (dIntS (dVar 0))) [some (.sh (.str (sg (48 + k))))]) = _
  rw [ev_seq (r := .rt .non) ((ev_ifS e).trans rfl) (ev_ret (d := .int k) ?_)]
  · rfl
  · show (if (sg (48 + k)).length ≤ 640 then (match PySem.intText? (sg (48 + k)) with | some n => some (D.int n) | none => none) else none) = _
    rw [if_pos (show (sg (48 + k)).length ≤ 640 from (by show 1 ≤ 640; decide)), dig_int k hk]
theorem F_number_bad {w : Str} (hw : asciiS w = true) (h : numOf w = none) : F_number_of [.str w] = none ∧ FX_number_of [.str w] = some bad := by
  have e := numCond_ok hw
  rw [h] at e
  constructor
  · show outD (dSeq (dIfS numCond (fun _ => none) dNext) (dRet (dIntS (dVar 0))) [some (.sh (.str w))]) = _
    have : dIfS numCond (fun _ => none) dNext [some (.sh (.str w))] = none := (ev_ifS e).trans rfl
    unfold dSeq
    rw [this]
    rfl
  · show outD (dSeq (dIfS numCond _ dNext) (dRet (dIntS (dVar 0))) [some (.sh (.str w))]) = _
    obtain ⟨d, ed⟩ := ev_msg (ρ := [some (.sh (.str w))]) (fa := dVar 0) "no number of a web: " w (by decide) rfl hw
    have s : dIfS numCond (dRaise (dJoined (dJCons (dC (.str "no number of a web: ")) (dJCons (dFmtR (dVar 0)) dJNil)))) dNext [some (.sh (.str w))] = some (.rt bad) := (ev_ifS e).trans ((if_pos rfl).trans (ev_raise ed))
    rw [ev_seqR s]
    rfl
def numD (w : Str) : D := match numOf w with | some k => .int k | none => bad
theorem FO_num {w : Str} (hw : asciiS w = true) : FO_number_of [.str w] = some (numD w) := by
  unfold FO_number_of orBad numD
  cases h : numOf w with
  | some k => rw [F_number_ok hw h]
  | none =>
    rw [(F_number_bad hw h).1]
    show badOf FX_number_of [.str w] = _
    unfold badOf
    dsimp only
    rw [(F_number_bad hw h).2]
    dsimp only
    rw [if_pos bad_bad]
theorem s_minus : ("-" : Str) = sg 45 := by decide +kernel
theorem s_blank : (" " : Str) = sg 32 := by decide +kernel
theorem s_colon : (":" : Str) = sg 58 := by decide +kernel
def tieOf (w : Str) : Option (Nat × Nat) := match Txt.split w (sg 45) with
  | [p, q] => (match numOf p with | some a => (match numOf q with | some b => some (a, b) | none => none) | none => none)
  | _ => none
def pairD (p : Nat × Nat) : D := .tup [.int p.1, .int p.2]
theorem tie_split {w : Str} (hw : asciiS w = true) : dSplit (dVar 0) (dC (.str "-")) [some (.sh (.str w)), none] = some ((Txt.split w (sg 45)).map D.str) := by
  have := ev_split (ρ := [some (.sh (.str w)), none]) (fa := dVar 0) (fb := dC (.str "-")) (z := w) (y := "-") rfl rfl (by rw [s_minus]; rfl) (ascii_len hw) (by rw [s_minus]; exact split_many hw)
  rw [s_minus] at this
  rw [s_minus]
  exact this
theorem len2 {ps : List Str} {w : Str} : dTest (d2 dNe (dLen (dSq (dVar 1))) (dC (.int 2))) [some (.sh (.str w)), some (.sh (.lst (ps.map D.str)))] = some (!((ps.length : Int) == 2)) := by
  refine ev_test ((ev_2 (x := .int (ps.map D.str).length) (y := .int 2) (ev_len (ev_sqL rfl)) rfl).trans ?_)
  rw [List.length_map]
  rfl
theorem F_tie_ok {w : Str} {a b : Nat} (hw : asciiS w = true) (h : tieOf w = some (a, b)) : F_tie_of [.str w] = some (pairD (a, b)) := by
  unfold tieOf at h
  split at h
  · rename_i p q es
    split at h
    · rename_i a' ea
      split at h
      · rename_i b' eb
        cases h
        have hp : asciiS p = true := ascii_part hw (c := 45) (by rw [es]; simp)
        have hq : asciiS q = true := ascii_part hw (c := 45) (by rw [es]; simp)
        show outD (g_tie_of [some (.sh (.str w)), none]) = _
        have e0 := tie_split hw
        rw [es] at e0
        have : g_tie_of [some (.sh (.str w)), none] = some (.rt (pairD (a, b))) := by
          refine ev_seq (r := .rt .non) (ev_set (ev_ls e0)) (ev_seq (r := .rt .non) ((ev_ifS (len2 (ps := [p, q]))).trans rfl) (ev_ret (ev_tup (ds := [.int a, .int b]) (ev_cons ?_ (ev_cons ?_ rfl)) (show 2 ≤ LIM by decide))))
          · exact (ev_call (ds := [.str p]) (ev_cons rfl rfl)).trans (F_number_ok hp ea)
          · exact (ev_call (ds := [.str q]) (ev_cons rfl rfl)).trans (F_number_ok hq eb)
        rw [this]
        rfl
      · cases h
    · cases h
  · cases h
theorem F_tie_bad {w : Str} (hw : asciiS w = true) (h : tieOf w = none) : F_tie_of [.str w] = none ∧ ∃ d, FX_tie_of [.str w] = some d ∧ isBad d = true := by
  have e0 := tie_split hw
  by_cases h2 : (Txt.split w (sg 45)).length = 2
  · obtain ⟨p, q, es⟩ : ∃ p q, Txt.split w (sg 45) = [p, q] := by
      match Txt.split w (sg 45), h2 with
      | [p, q], _ => exact ⟨p, q, rfl⟩
    have hp : asciiS p = true := ascii_part hw (c := 45) (by rw [es]; simp)
    have hq : asciiS q = true := ascii_part hw (c := 45) (by rw [es]; simp)
    unfold tieOf at h
    rw [es] at h e0
    dsimp only at h
    have hb : numOf p = none ∨ numOf q = none := by
      cases e1 : numOf p with
      | none => exact .inl rfl
      | some a =>
        rw [e1] at h
        dsimp only at h
        cases e2 : numOf q with
        | none => exact .inr rfl
        | some b => rw [e2] at h; cases h
    constructor
    · show outD (g_tie_of [some (.sh (.str w)), none]) = _
      have : g_tie_of [some (.sh (.str w)), none] = none := by
        refine ev_seq (r := .rt .non) (ev_set (ev_ls e0)) (ev_seq (r := .rt .non) ((ev_ifS (len2 (ps := [p, q]))).trans rfl) ?_)
        have t1 : dCall F_number_of (dCons (dIx (dSq (dVar 1)) (dC (.int 0))) dNil) [some (.sh (.str w)), some (.sh (.lst [.str p, .str q]))] = F_number_of [.str p] := ev_call (ds := [.str p]) (ev_cons rfl rfl)
        have t2 : dCall F_number_of (dCons (dIx (dSq (dVar 1)) (dC (.int 1))) dNil) [some (.sh (.str w)), some (.sh (.lst [.str p, .str q]))] = F_number_of [.str q] := ev_call (ds := [.str q]) (ev_cons rfl rfl)
        show dRet (dTup (dCons _ (dCons _ dNil))) [some (.sh (.str w)), some (.sh (.lst [.str p, .str q]))] = none
        refine ret_none (tup_none ?_)
        rcases hb with hb | hb
        · exact cons_none1 (t1.trans (F_number_bad hp hb).1)
        · exact cons_none2 (cons_none1 (t2.trans (F_number_bad hq hb).1))
      rw [this]
      rfl
    · refine ⟨.tup [numD p, numD q], ?_, ?_⟩
      · show outD (gx_tie_of [some (.sh (.str w)), none]) = _
        have : gx_tie_of [some (.sh (.str w)), none] = some (.rt (.tup [numD p, numD q])) := by
          refine ev_seq (r := .rt .non) (ev_set (ev_ls e0)) (ev_seq (r := .rt .non) ((ev_ifS (len2 (ps := [p, q]))).trans rfl) (ev_ret (ev_tup (ds := [numD p, numD q]) (ev_cons ?_ (ev_cons ?_ rfl)) (show 2 ≤ LIM by decide))))
          · exact (ev_call (ds := [.str p]) (ev_cons rfl rfl)).trans (FO_num hp)
          · exact (ev_call (ds := [.str q]) (ev_cons rfl rfl)).trans (FO_num hq)
        rw [this]
        rfl
      · rw [isBad, isBadL, isBadL, isBadL]
        rcases hb with hb | hb
        · unfold numD; rw [hb]; dsimp only; rw [bad_bad]; rfl
        · have : isBad (numD q) = true := by unfold numD; rw [hb]; exact bad_bad
          rw [this]
          cases isBad (numD p) <;> rfl
  · have hn : (((Txt.split w (sg 45)).length : Int) == 2) = false := by
      rw [beq_eq_false_iff_ne]
      omega
    have l2 := len2 (ps := Txt.split w (sg 45)) (w := w)
    rw [hn] at l2
    constructor
    · show outD (g_tie_of [some (.sh (.str w)), none]) = _
      have : g_tie_of [some (.sh (.str w)), none] = none := by
        refine ev_seq (r := .rt .non) (ev_set (ev_ls e0)) ?_
        have : dIfS (dTest (d2 dNe (dLen (dSq (dVar 1))) (dC (.int 2)))) (fun _ => none) dNext [some (.sh (.str w)), some (.sh (.lst ((Txt.split w (sg 45)).map D.str)))] = none := (ev_ifS l2).trans rfl
        show dSeq _ _ [some (.sh (.str w)), some (.sh (.lst ((Txt.split w (sg 45)).map D.str)))] = none
        unfold dSeq
        rw [this]
      rw [this]
      rfl
    · refine ⟨bad, ?_, bad_bad⟩
      show outD (gx_tie_of [some (.sh (.str w)), none]) = _
      obtain ⟨d, ed⟩ := ev_msg (ρ := [some (.sh (.str w)), some (.sh (.lst ((Txt.split w (sg 45)).map D.str)))]) (fa := dVar 0) "no tie: " w (by decide) rfl hw
      have : gx_tie_of [some (.sh (.str w)), none] = some (.rt bad) := ev_seq (r := .rt .non) (ev_set (ev_ls e0)) (ev_seqR ((ev_ifS l2).trans ((if_pos rfl).trans (ev_raise ed))))
      rw [this]
      rfl
def tieDD (w : Str) : D := match tieOf w with | some p => pairD p | none => (FX_tie_of [.str w]).getD bad
theorem FO_tie {w : Str} (hw : asciiS w = true) : FO_tie_of [.str w] = some (tieDD w) := by
  unfold FO_tie_of orBad tieDD
  cases h : tieOf w with
  | some p => rw [F_tie_ok hw h]
  | none =>
    obtain ⟨h1, d, h2, h3⟩ := F_tie_bad hw h
    rw [h1, h2]
    show badOf FX_tie_of [.str w] = _
    unfold badOf
    dsimp only
    rw [h2]
    dsimp only
    rw [if_pos h3]
    rfl
theorem tieDD_bad {w : Str} (hw : asciiS w = true) (h : tieOf w = none) : isBad (tieDD w) = true := by
  obtain ⟨h1, d, h2, h3⟩ := F_tie_bad hw h
  unfold tieDD
  rw [h, h2]
  exact h3
end P
set_option Elab.async false
set_option linter.all false
set_option maxRecDepth 100000
set_option maxHeartbeats 1000000
namespace P
open PySem L2 L3
def mapO (F : D → Option D) : List D → Option (List D)
  | [] => some []
  | d :: ds => match F d with | some y => (match mapO F ds with | some ys => some (y :: ys) | none => none) | none => none
theorem compGo_mapO {fe : DEnv → Option D} {F : D → Option D} (hf : ∀ d, fe [some (.sh d)] = F d) : ∀ (ds : List D) (c : Option Cell), compGo (dName 0) dTrue fe [c] ds = mapO F ds
  | [], _ => rfl
  | d :: ds, c => by
    have ih := compGo_mapO hf ds (some (.sh d))
    unfold compGo mapO
    show (match fe [some (.sh d)] with | some y => (match compGo (dName 0) dTrue fe [some (.sh d)] ds with | some ys => some (y :: ys) | none => none) | none => none) = _
    rw [hf d, ih]
theorem mapO_all {F : D → Option D} {α : Type} {f : α → D} {y : α → D} : ∀ {l : List α}, (∀ a ∈ l, F (f a) = some (y a)) → mapO F (l.map f) = some (l.map y)
  | [], _ => rfl
  | a :: l, h => by
    rw [List.map_cons, mapO, h a List.mem_cons_self, mapO_all fun b hb => h b (List.mem_cons_of_mem _ hb)]
    rfl
theorem mapO_none {F : D → Option D} {α : Type} {f : α → D} : ∀ {l : List α} {a : α}, a ∈ l → F (f a) = none → mapO F (l.map f) = none
  | b :: l, a, h, e => by
    rw [List.map_cons, mapO]
    rcases List.mem_cons.mp h with rfl | h
    · rw [e]
    · rw [mapO_none h e]
      cases F (f b) <;> rfl
def colonOk : List Str → Bool
  | _ :: w1 :: _ => decide (w1 = sg 58)
  | _ => false
def readCond : DEnv → Option Bool := dOrT (dTest (d2 dLt (dLen (dSq (dVar 1))) (dC (.int 2)))) (dTest (d2 dNe (dIx (dSq (dVar 1)) (dC (.int 1))) (dC (.str ":"))))
def envR (x : Str) (ws : List Str) (c : Option Cell) : DEnv := [some (.sh (.str x)), some (.sh (.lst (ws.map D.str))), c]
theorem readCond_ok (x : Str) (ws : List Str) : readCond (envR x ws none) = some (!colonOk ws) := by
  have e1 : dTest (d2 dLt (dLen (dSq (dVar 1))) (dC (.int 2))) (envR x ws none) = some (decide ((ws.length : Int) < 2)) := by
    refine ev_test ((ev_2 (x := .int (ws.map D.str).length) (y := .int 2) (ev_len (ev_sqL rfl)) rfl).trans ?_)
    rw [List.length_map]
    rfl
  match ws with
  | [] => exact (ev_orT (a := true) (b := true) e1 fun z => by cases z)
  | [w] => exact (ev_orT (a := true) (b := true) e1 fun z => by cases z)
  | w0 :: w1 :: rest =>
    have e2 : dTest (d2 dNe (dIx (dSq (dVar 1)) (dC (.int 1))) (dC (.str ":"))) (envR x (w0 :: w1 :: rest) none) = some (!(w1 == ":")) := by
      refine ev_test ((ev_2 (x := .str w1) (y := .str ":") ?_ rfl).trans rfl)
      exact (ev_ix (ds := .str w0 :: .str w1 :: rest.map D.str) (j := 1) rfl rfl).trans (atI_nat (j := 1) rfl)
    have hl : decide (((w0 :: w1 :: rest).length : Int) < 2) = false := decide_eq_false (by simp only [List.length_cons]; omega)
    rw [hl] at e1
    refine (ev_orT e1 fun _ => e2).trans ?_
    rw [s_colon]
    show some (false || !(w1 == sg 58)) = some (!decide (w1 = sg 58))
    rw [Bool.false_or]
    by_cases h : w1 = sg 58
    · rw [h, decide_eq_true rfl, beq_self_eq_true]
    · rw [decide_eq_false h, beq_eq_false_iff_ne.mpr h]
theorem read_split {x : Str} (hx : asciiS x = true) : dSplit (dVar 0) (dC (.str " ")) [some (.sh (.str x)), none, none] = some ((Txt.split x (sg 32)).map D.str) := by
  have := ev_split (ρ := [some (.sh (.str x)), none, none]) (fa := dVar 0) (fb := dC (.str " ")) (z := x) (y := " ") rfl rfl (by rw [s_blank]; rfl) (ascii_len hx) (by rw [s_blank]; exact split_many hx)
  rw [s_blank] at this
  rw [s_blank]
  exact this
theorem cut2 {α : Type} {a b : α} {r : List α} : cut (a :: b :: r) (some 2) none = r := by
  unfold cut
  have e1 : HT.sIx (a :: b :: r).length 0 (some 2) = 2 := by
    refine (HT.sIx_nat _ 0 2).trans ?_
    rw [List.length_cons, List.length_cons]
    omega
  have e2 : HT.sIx (a :: b :: r).length (a :: b :: r).length none = (a :: b :: r).length := rfl
  rw [e1, e2]
  show r.take (r.length + 1 + 1 - 2) = r
  exact List.take_of_length_le (by omega)
def webE (FN FT : List D → Option D) : DEnv → Option D := dTup (dCons (dCall FN (dCons (dIx (dSq (dVar 1)) (dC (.int 0))) (dNil))) (dCons (dTupF (dComp [none] (dSq (dSlc (dVar 1) (dPart (dC (.int 2))) (dNoP))) (dName 0) (dTrue) (dCall FT (dCons (dVar 0) (dNil))))) (dNil)))
theorem webE_eq {FN FT : List D → Option D} {x w0 w1 : Str} {rest : List Str} (hl : rest.length ≤ LIM) :
    webE FN FT (envR x (w0 :: w1 :: rest) none) = match FN [.str w0] with | some a => (match mapO (fun d => FT [d]) (rest.map D.str) with | some ys => some (.tup [a, .tup ys]) | none => none) | none => none := by
  have e1 : dCall FN (dCons (dIx (dSq (dVar 1)) (dC (.int 0))) dNil) (envR x (w0 :: w1 :: rest) none) = FN [.str w0] :=
    ev_call (ds := [.str w0]) (ev_cons ((ev_ix (ds := .str w0 :: .str w1 :: rest.map D.str) (j := 0) rfl rfl).trans (atI_nat (j := 0) rfl)) rfl)
  have e2 : dComp [none] (dSq (dSlc (dVar 1) (dPart (dC (.int 2))) (dNoP))) (dName 0) (dTrue) (dCall FT (dCons (dVar 0) (dNil))) (envR x (w0 :: w1 :: rest) none) = mapO (fun d => FT [d]) (rest.map D.str) := by
    refine (ev_comp (ds := rest.map D.str) (ev_sqL ?_) (by rw [List.length_map]; exact hl)).trans (compGo_mapO (fun d => ev_call (ds := [d]) rfl) _ _)
    refine (ev_slc (x := .lst (.str w0 :: .str w1 :: rest.map D.str)) (lo := some 2) (hi := none) rfl rfl rfl).trans ?_
    show some (D.lst (cut (.str w0 :: .str w1 :: rest.map D.str) (some 2) none)) = _
    rw [cut2]
  cases hN : FN [.str w0] with
  | none => exact tup_none (cons_none1 (e1.trans hN))
  | some a =>
    cases hM : mapO (fun d => FT [d]) (rest.map D.str) with
    | none => exact tup_none (cons_none2 (cons_none1 (by unfold dTupF; rw [e2, hM]; rfl)))
    | some ys => exact ev_tup (ev_cons (e1.trans hN) (ev_cons (ev_tupF (e2.trans hM)) rfl)) (show 2 ≤ LIM by decide)
def askW : DEnv → Option Bool := dNotT (dTest (dCall F_is_web (dCons (dVar 2) (dNil))))
theorem askW_ok (x : Str) (ws : List Str) (d : D) : askW (envR x ws (some (.sh d))) = some (!isWebB d) := ev_notT (ev_test ((ev_call (ds := [d]) rfl).trans (F_is_web_eq d)))
theorem F_read_no {x : Str} (hx : asciiS x = true) (h : colonOk (Txt.split x (sg 32)) = false) : F_read [.str x] = none ∧ FX_read [.str x] = some bad := by
  have e0 := read_split hx
  have c := readCond_ok x (Txt.split x (sg 32))
  rw [h] at c
  constructor
  · show outD (g_read [some (.sh (.str x)), none, none]) = _
    have : g_read [some (.sh (.str x)), none, none] = none := by
      refine ev_seq (r := .rt .non) (ev_set (ev_ls e0)) ?_
      have : dIfS readCond (fun _ => none) dNext (envR x (Txt.split x (sg 32)) none) = none := (ev_ifS c).trans rfl
      show dSeq (dIfS readCond (fun _ => none) dNext) _ (envR x (Txt.split x (sg 32)) none) = none
      unfold dSeq
      rw [this]
    rw [this]
    rfl
  · show outD (gx_read [some (.sh (.str x)), none, none]) = _
    obtain ⟨d, ed⟩ := ev_msg (ρ := envR x (Txt.split x (sg 32)) none) (fa := dVar 0) "no colon as the second word: " x (by decide) rfl hx
    have : gx_read [some (.sh (.str x)), none, none] = some (.rt bad) := ev_seq (r := .rt .non) (ev_set (ev_ls e0)) (ev_seqR ((ev_ifS c).trans ((if_pos rfl).trans (ev_raise ed))))
    rw [this]
    rfl
theorem F_read_go {x w0 : Str} {rest : List Str} (hx : asciiS x = true) (es : Txt.split x (sg 32) = w0 :: sg 58 :: rest) :
    F_read [.str x] = match webE F_number_of F_tie_of (envR x (w0 :: sg 58 :: rest) none) with | some d => if isWebB d = true then some d else none | none => none := by
  have e0 := read_split hx
  rw [es] at e0
  have c := readCond_ok x (w0 :: sg 58 :: rest)
  have c' : readCond (envR x (w0 :: sg 58 :: rest) none) = some false := by rw [c]; show some (!decide (sg 58 = sg 58)) = _; rw [decide_eq_true rfl]; rfl
  show outD (g_read [some (.sh (.str x)), none, none]) = _
  have s1 : g_read [some (.sh (.str x)), none, none] = dSeq (dSet 2 (webE F_number_of F_tie_of)) (dSeq (dIfS askW (fun _ => none) dNext) (dRet (dVar 2))) (envR x (w0 :: sg 58 :: rest) none) :=
    ev_seq (r := .rt .non) (ev_set (ev_ls e0)) (ev_seq (r := .rt .non) ((ev_ifS c').trans rfl) rfl)
  rw [s1]
  cases e : webE F_number_of F_tie_of (envR x (w0 :: sg 58 :: rest) none) with
  | none =>
    have : dSet 2 (webE F_number_of F_tie_of) (envR x (w0 :: sg 58 :: rest) none) = none := by unfold dSet; rw [e]
    unfold dSeq
    rw [this]
    rfl
  | some d =>
    dsimp only
    have s2 : dSeq (dSet 2 (webE F_number_of F_tie_of)) (dSeq (dIfS askW (fun _ => none) dNext) (dRet (dVar 2))) (envR x (w0 :: sg 58 :: rest) none) = dSeq (dIfS askW (fun _ => none) dNext) (dRet (dVar 2)) (envR x (w0 :: sg 58 :: rest) (some (.sh d))) :=
      ev_seq (r := .rt .non) (ev_set e) rfl
    rw [s2]
    have a := askW_ok x (w0 :: sg 58 :: rest) d
    cases hw : isWebB d with
    | true =>
      rw [hw] at a
      rw [ev_seq (r := .rt .non) ((ev_ifS a).trans rfl) (ev_ret (d := d) rfl), if_pos rfl]
      rfl
    | false =>
      rw [hw] at a
      have : dIfS askW (fun _ => none) dNext (envR x (w0 :: sg 58 :: rest) (some (.sh d))) = none := (ev_ifS a).trans rfl
      unfold dSeq
      rw [this, if_neg Bool.false_ne_true]
      rfl
theorem FX_read_go {x w0 : Str} {rest : List Str} {d : D} (hx : asciiS x = true) (es : Txt.split x (sg 32) = w0 :: sg 58 :: rest) (e : webE FO_number_of FO_tie_of (envR x (w0 :: sg 58 :: rest) none) = some d) (hd : isBad d = true ∨ isWebB d = false) :
    FX_read [.str x] = some bad := by
  have e0 := read_split hx
  rw [es] at e0
  have c := readCond_ok x (w0 :: sg 58 :: rest)
  have c' : readCond (envR x (w0 :: sg 58 :: rest) none) = some false := by rw [c]; show some (!decide (sg 58 = sg 58)) = _; rw [decide_eq_true rfl]; rfl
  show outD (gx_read [some (.sh (.str x)), none, none]) = _
  obtain ⟨m, em⟩ := ev_msg (ρ := envR x (w0 :: sg 58 :: rest) (some (.sh d))) (fa := dVar 0) "no web: " x (by decide) rfl hx
  have s1 : gx_read [some (.sh (.str x)), none, none] = dSeqB 2 (dSet 2 (webE FO_number_of FO_tie_of)) (dSeq (dIfS askW (dRaise (dJoined (dJCons (dC (.str "no web: ")) (dJCons (dFmtR (dVar 0)) (dJNil))))) dNext) (dRet (dVar 2))) (envR x (w0 :: sg 58 :: rest) none) :=
    ev_seq (r := .rt .non) (ev_set (ev_ls e0)) (ev_seq (r := .rt .non) ((ev_ifS c').trans rfl) rfl)
  rw [s1]
  have s2 : dSet 2 (webE FO_number_of FO_tie_of) (envR x (w0 :: sg 58 :: rest) none) = some (.nx (envR x (w0 :: sg 58 :: rest) (some (.sh d)))) := ev_set e
  unfold dSeqB
  rw [s2]
  show outD (if isBad d = true then some (.rt bad) else dSeq (dIfS askW _ dNext) (dRet (dVar 2)) (envR x (w0 :: sg 58 :: rest) (some (.sh d)))) = _
  by_cases hb : isBad d = true
  · rw [if_pos hb]; rfl
  · rw [if_neg hb]
    have hw : isWebB d = false := hd.resolve_left hb
    have a := askW_ok x (w0 :: sg 58 :: rest) d
    rw [hw] at a
    have s3 : dIfS askW (dRaise (dJoined (dJCons (dC (.str "no web: ")) (dJCons (dFmtR (dVar 0)) (dJNil))))) dNext (envR x (w0 :: sg 58 :: rest) (some (.sh d))) = some (.rt bad) := (ev_ifS a).trans ((if_pos rfl).trans (ev_raise em))
    rw [ev_seqR s3]
    rfl
def wordL (t : Tie) : List Nat := [48 + t.1.toNat, 45, 48 + t.2.toNat]
def textL (n : Int) (ts : List Tie) : List Nat := [48 + n.toNat, 32, 58] ++ ts.flatMap fun t => 32 :: wordL t
def tieN2 (p : Nat × Nat) : Tie := ((p.1 : Int), (p.2 : Int))
theorem jn_words : ∀ (ts : List Tie) (p : List Nat), jn 32 (p :: ts.map wordL) = p ++ ts.flatMap fun t => 32 :: wordL t
  | [], p => by rw [List.map_nil, jn]; simp
  | t :: ts, p => by
    rw [List.map_cons, jn, jn_words ts (wordL t), List.flatMap_cons, List.cons_append]
theorem textL_jn (n : Int) (ts : List Tie) : textL n ts = jn 32 ([48 + n.toNat] :: [58] :: ts.map wordL) := by
  rw [jn, jn_words]
  rfl
theorem tieOf_word {w : Str} {p : Nat × Nat} (h : tieOf w = some p) : w.cps.toList = wordL (tieN2 p) := by
  unfold tieOf at h
  split at h
  · rename_i a b es
    split at h
    · rename_i i ei
      split at h
      · rename_i j ej
        cases h
        obtain ⟨_, rfl⟩ := numOf_some ei
        obtain ⟨_, rfl⟩ := numOf_some ej
        rw [split_back w 45, es]
        rfl
      · cases h
    · cases h
  · cases h
theorem word_tieOf {w : Str} {a b : Nat} (ha : a < 10) (hb : b < 10) (e : w.cps.toList = [48 + a, 45, 48 + b]) : tieOf w = some (a, b) := by
  have es : Txt.split w (sg 45) = [sg (48 + a), sg (48 + b)] := by
    refine split_is (by simp) (fun p hp => ?_) (e.trans rfl)
    simp only [List.mem_cons, List.not_mem_nil, or_false] at hp
    rcases hp with rfl | rfl
    · show 45 ∉ [48 + a]
      simp; omega
    · show 45 ∉ [48 + b]
      simp; omega
  unfold tieOf
  rw [es]
  dsimp only
  rw [numOf_sg ha]
  dsimp only
  rw [numOf_sg hb]
theorem risB_down : ∀ {ts : List Tie}, risB (ts.map tieD) = some true → ts.Pairwise tlt
  | [], _ => List.Pairwise.nil
  | [t], _ => List.pairwise_singleton _ _
  | s :: t :: r, h => by
    have e1 : ltB (tieD s) (tieD t) = some (decide (tlt s t)) := by
      have : ltB (tieD s) (tieD t) = some (HT.lexLt [s.1, s.2] [t.1, t.2]) := rfl
      rw [this, lex_tie]
    have h' : (match ltB (tieD s) (tieD t) with | some b => (match risB ((t :: r).map tieD) with | some c => some (b && c) | none => none) | none => none) = some true := h
    rw [e1] at h'
    dsimp only at h'
    cases e2 : risB ((t :: r).map tieD) with
    | none => rw [e2] at h'; cases h'
    | some c =>
      rw [e2] at h'
      have h2 := Option.some.inj h'
      rw [Bool.and_eq_true] at h2
      have hst : tlt s t := of_decide_eq_true h2.1
      have ih := risB_down (ts := t :: r) (by rw [e2, h2.2])
      rw [List.pairwise_cons]
      refine ⟨fun u hu => ?_, ih⟩
      rcases List.mem_cons.mp hu with rfl | hu
      · exact hst
      · exact tlt_trans hst ((List.pairwise_cons.mp ih).1 u hu)
theorem web_of {n : Int} {ts : List Tie} (h : isWebB (webD n ts) = true) : IsWeb n ts ∧ ts.length ≤ 12 := by
  have h' : (decide (1 ≤ n) && decide (n ≤ 6) && areTiesB n (.tup (ts.map tieD))) = true := h
  rw [Bool.and_eq_true, Bool.and_eq_true] at h'
  obtain ⟨⟨h1, h2⟩, h3⟩ := h'
  have h3' : (if 12 < (ts.map tieD).length then false else (ts.map tieD).all (isTieB n) && (risB (ts.map tieD)).getD false) = true := h3
  split at h3'
  · cases h3'
  · rename_i hl
    rw [List.length_map] at hl
    rw [Bool.and_eq_true, List.all_eq_true] at h3'
    obtain ⟨h4, h5⟩ := h3'
    refine ⟨⟨of_decide_eq_true h1, of_decide_eq_true h2, ?_, fun t ht => ?_⟩, by omega⟩
    · refine risB_down ?_
      cases e : risB (ts.map tieD) with
      | none => rw [e] at h5; cases h5
      | some b => rw [e] at h5; rw [show b = true from h5]
    · obtain ⟨i, j, e, hi, hij, hj⟩ := isTieB_tup (h4 (tieD t) (List.mem_map_of_mem ht))
      have e' : D.tup [.int t.1, .int t.2] = .tup [.int i, .int j] := e
      simp only [D.tup.injEq, List.cons.injEq, D.int.injEq, and_true] at e'
      obtain ⟨rfl, rfl⟩ := e'
      exact ⟨hi, hij, hj⟩
theorem read_any {x : Str} (hx : asciiS x = true) : (∃ n ts, F_read [.str x] = some (webD n ts) ∧ IsWeb n ts ∧ ts.length ≤ 12 ∧ x.cps.toList = textL n ts) ∨ (F_read [.str x] = none ∧ FX_read [.str x] = some bad) := by
  cases hc : colonOk (Txt.split x (sg 32)) with
  | false => exact .inr (F_read_no hx hc)
  | true =>
    obtain ⟨w0, rest, es⟩ : ∃ w0 rest, Txt.split x (sg 32) = w0 :: sg 58 :: rest := by
      match e : Txt.split x (sg 32), hc with
      | w0 :: w1 :: rest, hc => exact ⟨w0, rest, by rw [of_decide_eq_true hc]⟩
    have a0 : asciiS w0 = true := ascii_part hx (c := 32) (by rw [es]; simp)
    have ar : ∀ w ∈ rest, asciiS w = true := fun w hw => ascii_part hx (c := 32) (by rw [es]; simp [hw])
    have hl : rest.length ≤ LIM := by
      have := split_many (x := x) (c := 32) hx
      rw [es] at this
      simp only [List.length_cons] at this
      omega
    have eX : webE FO_number_of FO_tie_of (envR x (w0 :: sg 58 :: rest) none) = some (.tup [numD w0, .tup (rest.map tieDD)]) := by
      rw [webE_eq hl, FO_num a0, mapO_all (F := fun d => FO_tie_of [d]) (f := D.str) (y := tieDD) fun w hw => FO_tie (ar w hw)]
    cases h0 : numOf w0 with
    | none =>
      refine .inr ⟨?_, FX_read_go hx es eX (.inl ?_)⟩
      · rw [F_read_go hx es, webE_eq hl, (F_number_bad a0 h0).1]
      · rw [isBad, isBadL]
        unfold numD
        rw [h0]
        dsimp only
        rw [bad_bad]
        rfl
    | some k =>
      by_cases ht : ∃ w ∈ rest, tieOf w = none
      · obtain ⟨w, hw, ew⟩ := ht
        refine .inr ⟨?_, FX_read_go hx es eX (.inl ?_)⟩
        · rw [F_read_go hx es, webE_eq hl, F_number_ok a0 h0, mapO_none (F := fun d => F_tie_of [d]) hw (F_tie_bad (ar w hw) ew).1]
        · have aw := ar w hw
          have hb : isBadL (rest.map tieDD) = true := by
            clear hl eX es ar hc
            induction rest with
            | nil => cases hw
            | cons v vs ih =>
              rw [List.map_cons, isBadL]
              rcases List.mem_cons.mp hw with rfl | hw
              · rw [tieDD_bad aw ew]; rfl
              · rw [ih hw, Bool.or_true]
          rw [isBad, isBadL, isBadL, isBadL, isBad, hb]
          cases isBad (numD w0) <;> rfl
      · have hall : ∀ w ∈ rest, ∃ p, tieOf w = some p := fun w hw => by
          cases e : tieOf w with
          | none => exact absurd ⟨w, hw, e⟩ ht
          | some p => exact ⟨p, rfl⟩
        obtain ⟨ps, hps⟩ : ∃ ps : List (Nat × Nat), rest.map tieOf = ps.map some := by
          clear hl eX es ar ht hc
          induction rest with
          | nil => exact ⟨[], rfl⟩
          | cons v vs ih =>
            obtain ⟨p, hp⟩ := hall v List.mem_cons_self
            obtain ⟨ps, e⟩ := ih fun w hw => hall w (List.mem_cons_of_mem _ hw)
            exact ⟨p :: ps, by rw [List.map_cons, List.map_cons, hp, e]⟩
        have ed : rest.map tieDD = (ps.map tieN2).map tieD := by
          clear hl eX es ar ht hall hc
          induction rest generalizing ps with
          | nil =>
            cases ps with
            | nil => rfl
            | cons _ _ => cases hps
          | cons v vs ih =>
            cases ps with
            | nil => cases hps
            | cons p ps =>
              rw [List.map_cons, List.map_cons] at hps
              obtain ⟨e1, e2⟩ := List.cons.inj hps
              rw [List.map_cons, List.map_cons, List.map_cons, ih ps e2]
              congr 1
              unfold tieDD
              rw [e1]
              rfl
        have eF : webE F_number_of F_tie_of (envR x (w0 :: sg 58 :: rest) none) = some (webD k (ps.map tieN2)) := by
          rw [webE_eq hl, F_number_ok a0 h0, mapO_all (F := fun d => F_tie_of [d]) (f := D.str) (y := tieDD) fun w hw => ?_]
          · show some (D.tup [.int k, .tup (rest.map tieDD)]) = _
            rw [ed]
            rfl
          · obtain ⟨p, hp⟩ := hall w hw
            show F_tie_of [.str w] = _
            rw [F_tie_ok (ar w hw) (a := p.1) (b := p.2) hp]
            unfold tieDD
            rw [hp]
        have eX' : webE FO_number_of FO_tie_of (envR x (w0 :: sg 58 :: rest) none) = some (webD k (ps.map tieN2)) := by
          rw [eX, ed]
          unfold numD
          rw [h0]
          rfl
        cases hwb : isWebB (webD k (ps.map tieN2)) with
        | false =>
          refine .inr ⟨?_, FX_read_go hx es eX' (.inr hwb)⟩
          rw [F_read_go hx es, eF]
          dsimp only
          rw [hwb, if_neg Bool.false_ne_true]
        | true =>
          obtain ⟨W, hlen⟩ := web_of hwb
          refine .inl ⟨k, ps.map tieN2, ?_, W, hlen, ?_⟩
          · rw [F_read_go hx es, eF]
            dsimp only
            rw [hwb, if_pos rfl]
          · rw [split_back x 32, es, textL_jn]
            obtain ⟨_, rfl⟩ := numOf_some h0
            show jn 32 ([48 + k] :: [58] :: rest.map fun p => p.cps.toList) = _
            congr 3
            clear hl eX es ar ht hall ed eF eX' hwb W hlen hc
            induction rest generalizing ps with
            | nil =>
              cases ps with
              | nil => rfl
              | cons _ _ => cases hps
            | cons v vs ih =>
              cases ps with
              | nil => cases hps
              | cons p ps =>
                rw [List.map_cons, List.map_cons] at hps
                obtain ⟨e1, e2⟩ := List.cons.inj hps
                rw [List.map_cons, List.map_cons, List.map_cons, ih ps e2, tieOf_word e1]
theorem read_text {x : Str} {n : Int} {ts : List Tie} (hx : asciiS x = true) (W : IsWeb n ts) (hl : ts.length ≤ 12) (e : x.cps.toList = textL n ts) : F_read [.str x] = some (webD n ts) := by
  have hn := W.lo
  have hn6 := W.hi
  have hok := W.ok
  have es : Txt.split x (sg 32) = sg (48 + n.toNat) :: sg 58 :: ts.map fun t => ⟨(wordL t).toArray⟩ := by
    refine split_is (by simp) (fun p hp => ?_) ?_
    · rcases List.mem_cons.mp hp with rfl | hp
      · show 32 ∉ [48 + n.toNat]
        simp; omega
      · rcases List.mem_cons.mp hp with rfl | hp
        · show 32 ∉ [58]
          decide
        · obtain ⟨t, ht, rfl⟩ := List.mem_map.mp hp
          show 32 ∉ [48 + t.1.toNat, 45, 48 + t.2.toNat]
          simp; omega
    · rw [e, textL_jn, List.map_cons, List.map_cons, List.map_map]
      rfl
  have a0 : asciiS (sg (48 + n.toNat)) = true := ascii_part hx (c := 32) (by rw [es]; simp)
  have ar : ∀ t ∈ ts, asciiS ⟨(wordL t).toArray⟩ = true := fun t ht => ascii_part hx (c := 32) (by rw [es]; simp only [List.mem_cons]; exact .inr (.inr (List.mem_map_of_mem ht)))
  rw [F_read_go hx es, webE_eq (by rw [List.length_map]; unfold LIM; omega), F_number_ok a0 (numOf_sg (show n.toNat < 10 by omega)), List.map_map, mapO_all (F := fun d => F_tie_of [d]) (y := tieD) fun t ht => ?_]
  · have en : ((n.toNat : Nat) : Int) = n := by omega
    show (if isWebB (D.tup [.int (n.toNat : Int), .tup (ts.map tieD)]) = true then some (D.tup [.int (n.toNat : Int), .tup (ts.map tieD)]) else none) = _
    rw [en]
    show (if isWebB (webD n ts) = true then some (webD n ts) else none) = _
    rw [if_pos (web_true W hl)]
  · have := hok t ht
    show F_tie_of [.str ⟨(wordL t).toArray⟩] = _
    rw [F_tie_ok (ar t ht) (word_tieOf (a := t.1.toNat) (b := t.2.toNat) (by omega) (by omega) rfl)]
    have e1 : ((t.1.toNat : Nat) : Int) = t.1 := by omega
    have e2 : ((t.2.toNat : Nat) : Int) = t.2 := by omega
    show some (D.tup [.int (t.1.toNat : Int), .int (t.2.toNat : Int)]) = _
    rw [e1, e2]
    rfl
end P
set_option Elab.async false
set_option linter.all false
set_option maxRecDepth 100000
set_option maxHeartbeats 1000000
namespace P
open PySem L2 L3
theorem cps_app (a b : Str) : (a ++ b).cps.toList = a.cps.toList ++ b.cps.toList := Array.toList_append
theorem len_cps (a : Str) : a.length = a.cps.toList.length := (Array.length_toList).symm
theorem addS_ok {a b : Str} (h : a.length + b.length ≤ LIM) : dAddS (.str a) (.str b) = some (.str (a ++ b)) := by unfold dAddS; dsimp only; rw [if_pos h]
theorem dig_str {i : Int} (h0 : 0 ≤ i) (h : i < 10) : Str.ofString (toString i) = sg (48 + i.toNat) := by
  have e : i = ((i.toNat : Nat) : Int) := by omega
  have := dig_text i.toNat (by omega)
  rw [← e] at this
  exact this
theorem dig_small {i : Int} (h0 : 0 ≤ i) (h : i < 10) : smallI i = true := by
  unfold smallI
  refine decide_eq_true ?_
  have : i.natAbs < 10 := by omega
  exact Nat.lt_trans this (by decide)
def textTurn : DEnv → Option Out := dSet 1 (d2 dAddS (d2 dAddS (d2 dAddS (d2 dAddS (dVar 1) (dC (.str " "))) (dStrI (dVar 2))) (dC (.str "-"))) (dStrI (dVar 3)))
theorem text_loop : ∀ (ts : List Tie) (z : Str) (web : D) (c2 c3 : Option Cell), (∀ t ∈ ts, (0 ≤ t.1 ∧ t.1 < 10) ∧ 0 ≤ t.2 ∧ t.2 < 10) → z.length + 4 * ts.length ≤ 1000 →
    ∃ (z' : Str) (c2' c3' : Option Cell), dLoop (dGTup 2 (dGCons (dName 2) (dGCons (dName 3) (dGNil)))) textTurn (ts.map tieD) [some (.sh web), some (.sh (.str z)), c2, c3] = some (.nx [some (.sh web), some (.sh (.str z')), c2', c3']) ∧
      z'.cps.toList = z.cps.toList ++ ts.flatMap fun t => 32 :: wordL t
  | [], z, web, c2, c3, _, _ => ⟨z, c2, c3, rfl, by simp⟩
  | t :: ts, z, web, c2, c3, ht, hl => by
    obtain ⟨⟨a0, a1⟩, b0, b1⟩ := ht t List.mem_cons_self
    rw [List.length_cons] at hl
    have s1 := slen z (sg 32)
    have s2 := slen (z ++ sg 32) (sg (48 + t.1.toNat))
    have s3 := slen (z ++ sg 32 ++ sg (48 + t.1.toNat)) (sg 45)
    have s4 := slen (z ++ sg 32 ++ sg (48 + t.1.toNat) ++ sg 45) (sg (48 + t.2.toNat))
    have l1 : ∀ k, (sg k).length = 1 := fun _ => rfl
    rw [l1] at s1 s2 s3 s4
    have turn : textTurn [some (.sh web), some (.sh (.str z)), some (.sh (.int t.1)), some (.sh (.int t.2))] = some (.nx [some (.sh web), some (.sh (.str (z ++ sg 32 ++ sg (48 + t.1.toNat) ++ sg 45 ++ sg (48 + t.2.toNat)))), some (.sh (.int t.1)), some (.sh (.int t.2))]) := by
      refine (ev_set (d := .str (z ++ sg 32 ++ sg (48 + t.1.toNat) ++ sg 45 ++ sg (48 + t.2.toNat))) ?_).trans rfl
      have e1 : d2 dAddS (dVar 1) (dC (.str " ")) [some (.sh web), some (.sh (.str z)), some (.sh (.int t.1)), some (.sh (.int t.2))] = some (.str (z ++ sg 32)) := by
        rw [s_blank]
        exact (ev_2 (x := .str z) (y := .str (sg 32)) rfl rfl).trans (addS_ok (by rw [l1]; unfold LIM; omega))
      have e2 : dStrI (dVar 2) [some (.sh web), some (.sh (.str z)), some (.sh (.int t.1)), some (.sh (.int t.2))] = some (.str (sg (48 + t.1.toNat))) := by
        rw [← dig_str a0 a1]
        exact ev_strI rfl (dig_small a0 a1)
      have e3 : dStrI (dVar 3) [some (.sh web), some (.sh (.str z)), some (.sh (.int t.1)), some (.sh (.int t.2))] = some (.str (sg (48 + t.2.toNat))) := by
        rw [← dig_str b0 b1]
        exact ev_strI rfl (dig_small b0 b1)
      have e4 : dC (.str "-") [some (.sh web), some (.sh (.str z)), some (.sh (.int t.1)), some (.sh (.int t.2))] = some (.str (sg 45)) := by rw [← s_minus]; rfl
      exact (ev_2 ((ev_2 ((ev_2 e1 e2).trans (addS_ok (by rw [l1]; unfold LIM; omega))) e4).trans (addS_ok (by rw [l1]; unfold LIM; omega))) e3).trans (addS_ok (by rw [l1]; unfold LIM; omega))
    obtain ⟨z', c2', c3', h1, h2⟩ := text_loop ts (z ++ sg 32 ++ sg (48 + t.1.toNat) ++ sg 45 ++ sg (48 + t.2.toNat)) web (some (.sh (.int t.1))) (some (.sh (.int t.2))) (fun u hu => ht u (List.mem_cons_of_mem _ hu)) (by omega)
    refine ⟨z', c2', c3', ?_, ?_⟩
    · rw [List.map_cons, dLoop]
      show (match textTurn [some (.sh web), some (.sh (.str z)), some (.sh (.int t.1)), some (.sh (.int t.2))] with | some (.nx ρ2) => dLoop _ textTurn (ts.map tieD) ρ2 | some (.ct ρ2) => dLoop _ textTurn (ts.map tieD) ρ2 | some (.bk ρ2) => some (.nx ρ2) | some (.rt v) => some (.rt v) | none => none) = _
      rw [turn]
      exact h1
    · rw [h2, cps_app, cps_app, cps_app, cps_app, List.flatMap_cons]
      simp [wordL]
theorem F_law_text_ok {n : Int} {ts : List Tie} (W : IsWeb n ts) (hl : ts.length ≤ 12) : ∃ x : Str, F_law_text [webD n ts] = some (.str x) ∧ x.cps.toList = textL n ts := by
  have hn := W.lo
  have hn6 := W.hi
  have e0 : d2 dAddS (dStrI (dIx (dSq (dVar 0)) (dC (.int 0)))) (dC (.str " :")) [some (.sh (webD n ts)), none, none, none] = some (.str (sg (48 + n.toNat) ++ " :")) := by
    refine (ev_2 (x := .str (sg (48 + n.toNat))) (y := .str " :") ?_ rfl).trans (addS_ok (show 1 + Str.length " :" ≤ LIM by decide +kernel))
    rw [← dig_str (by omega) (by omega)]
    exact ev_strI (i := n) rfl (dig_small (by omega) (by omega))
  have e2 : (Str.ofString " :").cps.toList = [32, 58] := by decide +kernel
  obtain ⟨z', c2', c3', h1, h2⟩ := text_loop ts (sg (48 + n.toNat) ++ " :") (webD n ts) none none (fun t ht => by have := W.ok t ht; omega) (by
    rw [len_cps, cps_app, e2]
    show 3 + _ ≤ _
    omega)
  refine ⟨z', ?_, ?_⟩
  · show outD (g_law_text [some (.sh (webD n ts)), none, none, none]) = _
    have : g_law_text [some (.sh (webD n ts)), none, none, none] = some (.rt (.str z')) := by
      refine ev_seq (r := .rt .non) (ev_set e0) (ev_seq (r := .rt .non) ((ev_for (ds := ts.map tieD) ?_).trans h1) (ev_ret rfl))
      exact ev_sqT (ds := ts.map tieD) rfl
    rw [this]
    rfl
  · rw [h2, cps_app, e2]
    rfl
theorem textL_len (n : Int) (ts : List Tie) : (textL n ts).length = 3 + 4 * ts.length := by
  unfold textL
  rw [List.length_append]
  have : ∀ ts : List Tie, (ts.flatMap fun t => 32 :: wordL t).length = 4 * ts.length := fun ts => by
    induction ts with
    | nil => rfl
    | cons t r ih => rw [List.flatMap_cons, List.length_append, ih]; show 4 + 4 * r.length = 4 * (r.length + 1); omega
  rw [this]
  rfl
theorem textL_ascii {n : Int} {ts : List Tie} (W : IsWeb n ts) : ∀ c ∈ textL n ts, c < 128 := fun c hc => by
  have h1 := W.lo
  have h2 := W.hi
  unfold textL at hc
  rcases List.mem_append.mp hc with hc | hc
  · simp at hc
    omega
  · obtain ⟨t, ht, h⟩ := List.mem_flatMap.mp hc
    have := W.ok t ht
    unfold wordL at h
    simp at h
    omega
theorem F_tie_word_ok {t : Tie} (a0 : 0 ≤ t.1) (a1 : t.1 < 10) (b0 : 0 ≤ t.2) (b1 : t.2 < 10) : F_tie_word [tieD t] = some (.str ⟨(wordL t).toArray⟩) := by
  have l1 : ∀ k, (sg k).length = 1 := fun _ => rfl
  have e2 : dFmtI (dVar 1) [some (.sh (tieD t)), some (.sh (.int t.1)), some (.sh (.int t.2))] = some (.str (sg (48 + t.1.toNat))) := by
    rw [← dig_str a0 a1]
    exact ev_fmtI rfl (dig_small a0 a1)
  have e3 : dFmtI (dVar 2) [some (.sh (tieD t)), some (.sh (.int t.1)), some (.sh (.int t.2))] = some (.str (sg (48 + t.2.toNat))) := by
    rw [← dig_str b0 b1]
    exact ev_fmtI rfl (dig_small b0 b1)
  have e4 : dC (.str "-") [some (.sh (tieD t)), some (.sh (.int t.1)), some (.sh (.int t.2))] = some (.str (sg 45)) := by rw [← s_minus]; rfl
  have s1 := slen Str.empty (sg (48 + t.1.toNat))
  have s2 := slen (Str.empty ++ sg (48 + t.1.toNat)) (sg 45)
  have s3 := slen (Str.empty ++ sg (48 + t.1.toNat) ++ sg 45) (sg (48 + t.2.toNat))
  rw [l1] at s1 s2 s3
  have l0 : Str.empty.length = 0 := rfl
  show outD (g_tie_word [some (.sh (tieD t)), none, none]) = _
  have : g_tie_word [some (.sh (tieD t)), none, none] = some (.rt (.str ⟨(wordL t).toArray⟩)) := by
    refine ev_seq (r := .rt .non) (ev_set (d := .int t.1) rfl) (ev_seq (r := .rt .non) (ev_set (d := .int t.2) rfl) (ev_ret ?_))
    show dJCons (dFmtI (dVar 1)) _ [some (.sh (tieD t)), some (.sh (.int t.1)), some (.sh (.int t.2))] Str.empty = _
    rw [ev_jcons e2 (by unfold LIM; omega), ev_jcons e4 (by unfold LIM; omega), ev_jcons e3 (by unfold LIM; omega), ev_jnil (by unfold LIM; omega)]
    congr 2
  rw [this]
  rfl
theorem F_written_ok {n : Int} {ts : List Tie} {x : Str} (W : IsWeb n ts) (hl : ts.length ≤ 12) (e : x.cps.toList = textL n ts) : F_written [webD n ts] = some (.str x) := by
  have hn := W.lo
  have hn6 := W.hi
  have e1 : dStrI (dIx (dSq (dVar 0)) (dC (.int 0))) [some (.sh (webD n ts))] = some (.str (sg (48 + n.toNat))) := by
    rw [← dig_str (by omega) (by omega)]
    exact ev_strI (i := n) rfl (dig_small (by omega) (by omega))
  have e2 : dComp [none] (dSq (dIx (dSq (dVar 0)) (dC (.int 1)))) (dName 0) (dTrue) (dCall F_tie_word (dCons (dVar 0) (dNil))) [some (.sh (webD n ts))] = some (ts.map fun t => D.str ⟨(wordL t).toArray⟩) := by
    refine (ev_comp (ds := ts.map tieD) (ev_sqT (ds := ts.map tieD) rfl) (by rw [List.length_map]; unfold LIM; omega)).trans ((compGo_mapO (F := fun d => F_tie_word [d]) (fun d => ev_call (ds := [d]) rfl) _ _).trans ?_)
    exact mapO_all (F := fun d => F_tie_word [d]) fun t ht => by
      have := W.ok t ht
      exact F_tie_word_ok (by omega) (by omega) (by omega) (by omega)
  have e3 : dCatF (dLim (dCons (dStrI (dIx (dSq (dVar 0)) (dC (.int 0)))) (dCons (dC (.str ":")) (dNil)))) (dComp [none] (dSq (dIx (dSq (dVar 0)) (dC (.int 1)))) (dName 0) (dTrue) (dCall F_tie_word (dCons (dVar 0) (dNil)))) [some (.sh (webD n ts))] =
      some ((sg (48 + n.toNat) :: sg 58 :: ts.map fun t => (⟨(wordL t).toArray⟩ : Str)).map D.str) := by
    have e4 : dLim (dCons (dStrI (dIx (dSq (dVar 0)) (dC (.int 0)))) (dCons (dC (.str ":")) (dNil))) [some (.sh (webD n ts))] = some [.str (sg (48 + n.toNat)), .str (sg 58)] := by
      refine ev_lim (ev_cons e1 (ev_cons ?_ rfl)) (show 2 ≤ LIM by decide)
      rw [← s_colon]
      rfl
    unfold dCatF
    rw [e4, e2]
    dsimp only
    rw [if_pos (by rw [List.length_map]; show 2 + _ ≤ _; unfold LIM; omega), List.map_cons, List.map_cons, List.map_map]
    rfl
  have e5 : ∀ ys : List Str, txsOf (ys.map D.str) = some ys := fun ys => by
    induction ys with
    | nil => rfl
    | cons y r ih => rw [List.map_cons, txsOf, ih]; rfl
  show outD (g_written [some (.sh (webD n ts))]) = _
  have : g_written [some (.sh (webD n ts))] = some (.rt (.str x)) := by
    refine ev_ret ?_
    unfold dJoin
    rw [e3]
    dsimp only
    rw [e5]
    dsimp only
    rw [if_pos ?_]
    · congr 2
      refine str_ext ?_
      rw [s_blank, join_jn, e, textL_jn, List.map_cons, List.map_cons, List.map_map]
      rfl
    · unfold JoinOk
      rw [StrLaws.joinFits (B := 3) (fun y hy => ?_) ?_]
      · rfl
      rotate_left
      · rcases List.mem_cons.mp hy with rfl | hy
        · show 1 ≤ 3; decide
        · rcases List.mem_cons.mp hy with rfl | hy
          · show 1 ≤ 3; decide
          · obtain ⟨t, _, rfl⟩ := List.mem_map.mp hy
            exact Nat.le_refl 3
      · rw [s_blank, List.length_cons, List.length_cons, List.length_map]
        show (ts.length + 1 + 1) * 3 + (ts.length + 1 + 1) * 1 ≤ _
        omega
  rw [this]
  rfl
theorem slice_mem {x : Str} {lo hi : Option Int} {a : Nat} (h : a ∈ (Txt.slice x lo hi).cps.toList) : a ∈ x.cps.toList := by
  unfold Txt.slice at h
  split at h
  · exact h
  · have h' : a ∈ (Builtin.Str.strSliceIndices lo hi 1 x.length).filterMap (x.cps[·]?) := h
    obtain ⟨i, _, e⟩ := List.mem_filterMap.mp h'
    rw [← Array.getElem?_toList] at e
    exact List.mem_of_getElem? e
theorem sign_at : ∀ k : Nat, k < 10 → ((atI (Str.ofString "0157:- ,ax").cps.toList (k : Int)).any fun c => decide (c < 128)) = true := by decide +kernel
theorem sign_ok (c : Int) : ∃ ch : Nat, ch < 128 ∧ atI (Str.ofString "0157:- ,ax").cps.toList (c / 512 % 10) = some ch := by
  have h0 : 0 ≤ c / 512 % 10 := Int.emod_nonneg _ (by decide)
  have h1 : c / 512 % 10 < 10 := Int.emod_lt_of_pos _ (by decide)
  have e := sign_at (c / 512 % 10).toNat (by omega)
  rw [show (((c / 512 % 10).toNat : Nat) : Int) = c / 512 % 10 by omega] at e
  cases q : atI (Str.ofString "0157:- ,ax").cps.toList (c / 512 % 10) with
  | none => rw [q] at e; cases e
  | some ch => rw [q] at e; exact ⟨ch, of_decide_eq_true e, rfl⟩
section
variable {ρ : DEnv} {fa : DEnv → Option D} {fl fh : DEnv → Option (Option Int)}
theorem ev_slS {z : Str} {lo hi : Option Int} (h : fa ρ = some (.str z)) (h1 : fl ρ = some lo) (h2 : fh ρ = some hi) (hl : z.length ≤ LIM) : dSlS fa fl fh ρ = some (.str (Txt.slice z lo hi)) := by
  unfold dSlS; rw [h]; dsimp only; rw [h1]; dsimp only; rw [h2]; dsimp only; rw [if_pos hl]
end
theorem spoilt_ok {x : Str} (hx : ∀ c ∈ x.cps.toList, c < 128) (hl : x.length ≤ 300) (c : Int) : ∃ y, F_law_spoilt [.str x, .int c] = some (.str y) ∧ asciiS y = true := by
  obtain ⟨ch, hch, ech⟩ := sign_ok c
  have hlim : x.length ≤ LIM := by unfold LIM; omega
  have sle : ∀ lo hi, (Txt.slice x lo hi).length ≤ 300 := fun lo hi => Nat.le_trans (Txt.slice_le x lo hi) hl
  have sas : ∀ lo hi, ∀ a ∈ (Txt.slice x lo hi).cps.toList, a < 128 := fun lo hi a ha => hx a (slice_mem ha)
  generalize hat : c / 4 % ((x.length : Int) + 1) = at'
  have e1 : d2 dModI (d2 dDivI (dVar 1) (dC (.int 4))) (d2 dAdd (dLenS (dVar 0)) (dC (.int 1))) [some (.sh (.str x)), some (.sh (.int c)), none, none] = some (.int at') := by
    refine (ev_2 (x := .int (c / 4)) (y := .int ((x.length : Int) + 1)) ((ev_2 (x := .int c) (y := .int 4) rfl rfl).trans rfl) ((ev_2 (x := .int x.length) (y := .int 1) (ev_lenS rfl hlim) rfl).trans rfl)).trans ?_
    rw [mod_ok _ (by omega), hat]
  have e2 : dIxS (dC (.str "0157:- ,ax")) (d2 dModI (d2 dDivI (dVar 1) (dC (.int 512))) (dC (.int 10))) [some (.sh (.str x)), some (.sh (.int c)), some (.sh (.int at')), none] = some (.str (sg ch)) := by
    have e3 : d2 dModI (d2 dDivI (dVar 1) (dC (.int 512))) (dC (.int 10)) [some (.sh (.str x)), some (.sh (.int c)), some (.sh (.int at')), none] = some (.int (c / 512 % 10)) :=
      (ev_2 (x := .int (c / 512)) (y := .int 10) ((ev_2 (x := .int c) (y := .int 512) rfl rfl).trans rfl) rfl).trans (mod_ok _ (by decide))
    unfold dIxS
    show (match d2 dModI (d2 dDivI (dVar 1) (dC (.int 512))) (dC (.int 10)) [some (.sh (.str x)), some (.sh (.int c)), some (.sh (.int at')), none] with | some (.int i) => if (Str.ofString "0157:- ,ax").length ≤ LIM then (match atI (Str.ofString "0157:- ,ax").cps.toList i with | some c => some (D.str ⟨#[c]⟩) | none => none) else none | _ => none) = _
    rw [e3]
    dsimp only
    rw [if_pos (by decide +kernel), ech]
  let ρ : DEnv := [some (.sh (.str x)), some (.sh (.int c)), some (.sh (.int at')), some (.sh (.str (sg ch)))]
  have m4 : ∀ k : Int, dTest (d2 dEq (d2 dModI (dVar 1) (dC (.int 4))) (dC (.int k))) ρ = some (c % 4 == k) := fun k =>
    ev_test ((ev_2 (x := .int (c % 4)) (y := .int k) ((ev_2 (x := .int c) (y := .int 4) rfl rfl).trans (mod_ok c (by decide))) rfl).trans rfl)
  have fin : ∀ y : Str, (∃ g, g_law_spoilt [some (.sh (.str x)), some (.sh (.int c)), none, none] = g ∧ g = some (.rt (.str y))) → y.length ≤ 1000 → (∀ a ∈ y.cps.toList, a < 128) → ∃ y, F_law_spoilt [.str x, .int c] = some (.str y) ∧ asciiS y = true := fun y ⟨g, h1, h2⟩ h3 h4 => by
    refine ⟨y, ?_, ascii_mk h3 h4⟩
    show outD (g_law_spoilt [some (.sh (.str x)), some (.sh (.int c)), none, none]) = _
    rw [h1, h2]
    rfl
  have app : ∀ {a b : Str}, a.length ≤ 400 → b.length ≤ 400 → dAddS (.str a) (.str b) = some (.str (a ++ b)) := fun {a b} h1 h2 => addS_ok (by unfold LIM; omega)
  have memA : ∀ {a b : Str}, (∀ c ∈ a.cps.toList, c < 128) → (∀ c ∈ b.cps.toList, c < 128) → ∀ c ∈ (a ++ b).cps.toList, c < 128 := fun {a b} h1 h2 c hc => by
    rw [cps_app] at hc
    exact (List.mem_append.mp hc).elim (h1 c) (h2 c)
  have pa : dPart (dVar 2) ρ = some (some at') := ev_part rfl
  have pa1 : dPart (d2 dAdd (dVar 2) (dC (.int 1))) ρ = some (some (at' + 1)) := ev_part ((ev_2 (x := .int at') (y := .int 1) rfl rfl).trans rfl)
  have pm : dPart (d2 dSubI (d2 dAdd (dVar 2) (d2 dModI (dVar 1) (dC (.int 4)))) (dC (.int 2))) ρ = some (some (at' + c % 4 - 2)) :=
    ev_part ((ev_2 (x := .int (at' + c % 4)) (y := .int 2) ((ev_2 (x := .int at') (y := .int (c % 4)) rfl ((ev_2 (x := .int c) (y := .int 4) rfl rfl).trans (mod_ok c (by decide)))).trans rfl) rfl).trans rfl)
  by_cases h0 : c % 4 = 0
  · refine fin (Txt.slice x none (some at') ++ Txt.slice x (some (at' + 1)) none) ⟨_, rfl, ?_⟩ (by rw [slen]; have := sle none (some at'); have := sle (some (at' + 1)) none; omega) (memA (sas _ _) (sas _ _))
    refine ev_seq (r := .rt .non) (ev_set e1) (ev_seq (r := .rt .non) (ev_set e2) (ev_seqR ((ev_ifS (m4 0)).trans ?_)))
    rw [h0, if_pos (by rfl)]
    exact ev_ret ((ev_2 (ev_slS rfl rfl pa hlim) (ev_slS rfl pa1 rfl hlim)).trans (app (Nat.le_trans (sle _ _) (by decide)) (Nat.le_trans (sle _ _) (by decide))))
  · have n0 : (c % 4 == 0) = false := beq_eq_false_iff_ne.mpr h0
    by_cases h1 : c % 4 = 1
    · refine fin (Txt.slice x none (some at') ++ Txt.slice x (some at') (some (at' + 1)) ++ Txt.slice x (some at') none) ⟨_, rfl, ?_⟩ (by rw [slen, slen]; have := sle none (some at'); have := sle (some at') (some (at' + 1)); have := sle (some at') none; omega) (memA (memA (sas _ _) (sas _ _)) (sas _ _))
      refine ev_seq (r := .rt .non) (ev_set e1) (ev_seq (r := .rt .non) (ev_set e2) (ev_seq (r := .rt .non) ((ev_ifS (m4 0)).trans (by rw [n0]; rfl)) (ev_seqR ((ev_ifS (m4 1)).trans ?_))))
      rw [h1, if_pos (by rfl)]
      refine ev_ret ((ev_2 ((ev_2 (ev_slS rfl rfl pa hlim) (ev_slS rfl pa pa1 hlim)).trans (app (Nat.le_trans (sle _ _) (by decide)) (Nat.le_trans (sle _ _) (by decide)))) (ev_slS rfl pa rfl hlim)).trans (addS_ok ?_))
      rw [slen]
      have := sle none (some at')
      have := sle (some at') (some (at' + 1))
      have := sle (some at') none
      unfold LIM
      omega
    · have n1 : (c % 4 == 1) = false := beq_eq_false_iff_ne.mpr h1
      refine fin (Txt.slice x none (some at') ++ sg ch ++ Txt.slice x (some (at' + c % 4 - 2)) none) ⟨_, rfl, ?_⟩ (by rw [slen, slen]; have := sle none (some at'); have := sle (some (at' + c % 4 - 2)) none; show _ + 1 + _ ≤ _; omega) (memA (memA (sas _ _) fun a ha => ?_) (sas _ _))
      · refine ev_seq (r := .rt .non) (ev_set e1) (ev_seq (r := .rt .non) (ev_set e2) (ev_seq (r := .rt .non) ((ev_ifS (m4 0)).trans (by rw [n0]; rfl)) (ev_seq (r := .rt .non) ((ev_ifS (m4 1)).trans (by rw [n1]; rfl)) ?_)))
        refine ev_ret ((ev_2 ((ev_2 (y := .str (sg ch)) (ev_slS rfl rfl pa hlim) rfl).trans (app (Nat.le_trans (sle _ _) (by decide)) (show 1 ≤ 400 by decide))) (ev_slS rfl pm rfl hlim)).trans (addS_ok ?_))
        rw [slen]
        have := sle none (some at')
        have := sle (some (at' + c % 4 - 2)) none
        show _ + 1 + _ ≤ _
        unfold LIM
        omega
      · have : a = ch := by simpa using ha
        omega
theorem law_read_ok {x : Str} (hx : asciiS x = true) : F_law_read [.str x] = some .non ∨ ∃ n ts, F_law_read [.str x] = some (webD n ts) ∧ IsWeb n ts ∧ ts.length ≤ 12 ∧ x.cps.toList = textL n ts := by
  have run : ∀ d, dTry 1 2 F_read FX_read (dCons (dVar 0) dNil) [some (.sh (.str x)), some (.sh (.str "other")), none] = some (.nx [some (.sh (.str x)), some (.sh d), none]) → F_law_read [.str x] = some d := fun d h => by
    show outD (g_law_read [some (.sh (.str x)), none, none]) = _
    have : g_law_read [some (.sh (.str x)), none, none] = some (.rt d) := ev_seq (r := .rt .non) (ev_set (d := .str "other") rfl) (ev_seq (r := .rt .non) h (ev_ret rfl))
    rw [this]
    rfl
  rcases read_any hx with ⟨n, ts, h1, h2, h3, h4⟩ | ⟨h1, h2⟩
  · refine .inr ⟨n, ts, run _ ?_, h2, h3, h4⟩
    show (match F_read [.str x] with | some d => some (Out.nx _) | none => _) = _
    rw [h1]
    rfl
  · refine .inl (run _ ?_)
    show (match F_read [.str x] with | some d => some (Out.nx _) | none => (match badOf FX_read [.str x] with | some _ => some (.nx [some (.sh (.str x)), some (.sh .non), none]) | none => none)) = _
    rw [h1]
    dsimp only
    have : badOf FX_read [.str x] = some bad := by
      unfold badOf
      dsimp only
      rw [h2]
      dsimp only
      rw [if_pos bad_bad]
    rw [this]
end P
set_option Elab.async false
set_option linter.all false
set_option maxRecDepth 100000
set_option maxHeartbeats 2000000
namespace P
open PySem L2 L3
def turn1 : DEnv → Option Out :=
  dSeq (dSet 2 (dCall F_law_web (dCons (dVar 1) (dCons (dC (.int 6)) (dCons (dC (.int 12)) (dNil))))))
  (dSeq (dSet 3 (dCall F_law_text (dCons (dVar 2) (dNil))))
  (dSeq (dIfS (dOrT (dTest (d2 dNe (dCall F_written (dCons (dVar 2) (dNil))) (dVar 3))) (dTest (d2 dNe (dCall F_read (dCons (dVar 3) (dNil))) (dVar 2))))
  (dRet (dC (.bl false)))
  (dNext))
  (dSeq (dSet 4 (dCall F_law_spoilt (dCons (dVar 3) (dCons (d2 dDivI (dVar 1) (dC (.int 3))) (dNil)))))
  (dSeq (dSet 5 (dCall F_law_read (dCons (dVar 4) (dNil))))
  (dIfS (dAndT (dTest (d2 dIsN (dVar 5) (dC .non))) (dOrT (dNotT (dTest (dCall F_is_web (dCons (dVar 5) (dNil))))) (dTest (d2 dNe (dCall F_law_text (dCons (dVar 5) (dNil))) (dVar 4)))))
  (dRet (dC (.bl false)))
  (dNext))))))
theorem beqL_ties : ∀ ts : List Tie, beqL (ts.map tieD) (ts.map tieD) = true
  | [] => by rw [List.map_nil, beqL]
  | t :: ts => by
    rw [List.map_cons, beqL]
    show (beq (tieD t) (tieD t) && beqL (ts.map tieD) (ts.map tieD)) = true
    rw [beqL_ties ts, beq_tie, decide_eq_true rfl]
    rfl
theorem ne_web (n : Int) (ts : List Tie) : dNe (webD n ts) (webD n ts) = some (.bl false) := by
  have hd : depth (webD n ts) ≤ DEEP := by
    have := depthL_ties ts
    refine Nat.le_trans (?_ : _ ≤ 3) (by decide)
    unfold webD
    simp only [depth, depthL]
    omega
  unfold dNe
  rw [if_pos ⟨hd, hd⟩]
  have : beq (webD n ts) (webD n ts) = true := by
    unfold webD
    rw [beq]
    show beqL [.int n, .tup (ts.map tieD)] [.int n, .tup (ts.map tieD)] = true
    rw [beqL]
    show (beq (.int n) (.int n) && beqL [.tup (ts.map tieD)] [.tup (ts.map tieD)]) = true
    rw [beqL]
    show (beq (.int n) (.int n) && (beq (.tup (ts.map tieD)) (.tup (ts.map tieD)) && beqL [] [])) = true
    rw [beq, beq, beqL]
    show ((n == n) && (beqL (ts.map tieD) (ts.map tieD) && true)) = true
    rw [beqL_ties, beq_self_eq_true]
    rfl
  rw [this]
  rfl
theorem ne_str (x : Str) : dNe (.str x) (.str x) = some (.bl false) := by
  show some (D.bl (!(x == x))) = _
  rw [beq_self_eq_true]
  rfl
theorem turn1_ok {s : D} {c : Int} {c2 c3 c4 c5 c6 : Option Cell} : ∃ c2' c3' c4' c5' : Option Cell, turn1 [some (.sh s), some (.sh (.int c)), c2, c3, c4, c5, c6] = some (.nx [some (.sh s), some (.sh (.int c)), c2', c3', c4', c5', c6]) := by
  obtain ⟨n, ts, w1, W, w3, w4⟩ := F_law_web_ok c (most := 6) (ties := 12) (by decide) (by decide) (by decide) (by decide)
  have hl : ts.length ≤ 12 := by omega
  obtain ⟨x, x1, x2⟩ := F_law_text_ok W hl
  have xl : x.length ≤ 51 := by rw [len_cps, x2, textL_len]; omega
  have xa : ∀ a ∈ x.cps.toList, a < 128 := by rw [x2]; exact textL_ascii W
  have hx : asciiS x = true := ascii_mk (by omega) xa
  obtain ⟨y, y1, y2⟩ := spoilt_ok xa (by omega) (c / 3)
  have e1 : dOrT (dTest (d2 dNe (dCall F_written (dCons (dVar 2) (dNil))) (dVar 3))) (dTest (d2 dNe (dCall F_read (dCons (dVar 3) (dNil))) (dVar 2))) [some (.sh s), some (.sh (.int c)), some (.sh (webD n ts)), some (.sh (.str x)), c4, c5, c6] = some (false || false) :=
    ev_orT (ev_test ((ev_2 (x := .str x) (y := .str x) ((ev_call (ds := [webD n ts]) rfl).trans (F_written_ok W hl x2)) rfl).trans (ne_str x))) fun _ =>
      ev_test ((ev_2 (x := webD n ts) (y := webD n ts) ((ev_call (ds := [.str x]) rfl).trans (read_text hx W hl x2)) rfl).trans (ne_web n ts))
  obtain ⟨d, d1, d2'⟩ : ∃ d, F_law_read [.str y] = some d ∧ ∀ ρ : DEnv, ρ[5]? = some (some (.sh d)) → ρ[4]? = some (some (.sh (.str y))) →
      dAndT (dTest (d2 dIsN (dVar 5) (dC .non))) (dOrT (dNotT (dTest (dCall F_is_web (dCons (dVar 5) (dNil))))) (dTest (d2 dNe (dCall F_law_text (dCons (dVar 5) (dNil))) (dVar 4)))) ρ = some false := by
    rcases law_read_ok y2 with h | ⟨m, us, h1, h2, h3, h4⟩
    · refine ⟨_, h, fun ρ r5 _ => ?_⟩
      have z5 : dVar 5 ρ = some .non := by unfold dVar; rw [r5]
      exact (ev_andT (a := false) (b := false) (ev_test ((ev_2 z5 rfl).trans rfl)) fun z => by cases z).trans rfl
    · refine ⟨_, h1, fun ρ r5 r4 => ?_⟩
      have z5 : dVar 5 ρ = some (webD m us) := by unfold dVar; rw [r5]
      have z4 : dVar 4 ρ = some (.str y) := by unfold dVar; rw [r4]
      obtain ⟨v, v1, v2⟩ := F_law_text_ok h2 h3
      have : v = y := str_ext (v2.trans h4.symm)
      subst this
      refine (ev_andT (a := true) (b := false) (ev_test ((ev_2 z5 rfl).trans rfl)) fun _ => ?_).trans rfl
      refine (ev_orT (a := false) (b := false) (ev_notT (a := true) (ev_test ((ev_call (ev_cons z5 rfl)).trans ?_))) fun _ => ev_test ((ev_2 ((ev_call (ev_cons z5 rfl)).trans v1) z4).trans (ne_str v))).trans rfl
      rw [F_is_web_eq, web_true h2 h3]
  refine ⟨some (.sh (webD n ts)), some (.sh (.str x)), some (.sh (.str y)), some (.sh d), ?_⟩
  refine ev_seq (r := .rt .non) (ev_set (d := webD n ts) ((ev_call (ds := [.int c, .int 6, .int 12]) rfl).trans w1)) ?_
  refine ev_seq (r := .rt .non) (ev_set (d := .str x) ((ev_call (ds := [webD n ts]) rfl).trans x1)) ?_
  refine ev_seq (r := .rt .non) ((ev_ifS e1).trans rfl) ?_
  refine ev_seq (r := .rt .non) (ev_set (d := .str y) ((ev_call (ds := [.str x, .int (c / 3)]) (ev_cons rfl (ev_cons ((ev_2 (x := .int c) (y := .int 3) rfl rfl).trans rfl) rfl))).trans y1)) ?_
  refine ev_seq (r := .rt .non) (ev_set (d := d) ((ev_call (ds := [.str y]) rfl).trans d1)) ?_
  exact (ev_ifS (d2' _ rfl rfl)).trans rfl
def bads : List Str := ["", ":", "1", "1:", "1 : ", "2 : 1-0", "2 : 0-1 ", " 2 : 0-1", "2 : 0-1 0-1", "2 : 0", "2 : 0-", "7 :", "0 :", "2 : 0-2", "3 : 0-2 0-1"]
def rdT : List Nat → Option (List Tie)
  | [] => some []
  | 32 :: a :: 45 :: b :: r => (rdT r).map (((a : Int) - 48, (b : Int) - 48) :: ·)
  | _ => none
def rdW : List Nat → Option (Int × List Tie)
  | a :: 32 :: 58 :: r => (rdT r).map fun ts => ((a : Int) - 48, ts)
  | _ => none
theorem rdT_text {n : Int} : ∀ {ts : List Tie}, (∀ t ∈ ts, 0 ≤ t.1 ∧ t.1 < t.2 ∧ t.2 < n) → rdT (ts.flatMap fun t => 32 :: wordL t) = some ts
  | [], _ => rfl
  | t :: ts, h => by
    have h0 := h t List.mem_cons_self
    rw [List.flatMap_cons]
    show (rdT (ts.flatMap fun t => 32 :: wordL t)).map ((((48 + t.1.toNat : Nat) : Int) - 48, ((48 + t.2.toNat : Nat) : Int) - 48) :: ·) = _
    rw [rdT_text fun u hu => h u (List.mem_cons_of_mem _ hu)]
    have e : ((((48 + t.1.toNat : Nat) : Int) - 48, ((48 + t.2.toNat : Nat) : Int) - 48) : Tie) = t := by
      obtain ⟨a, b⟩ := t
      have h1 : 0 ≤ a ∧ a < b ∧ b < n := h0
      refine Prod.ext ?_ ?_
      · show ((48 + a.toNat : Nat) : Int) - 48 = a
        omega
      · show ((48 + b.toNat : Nat) : Int) - 48 = b
        omega
    show some (_ :: ts) = _
    rw [e]
theorem rdW_text {n : Int} {ts : List Tie} (W : IsWeb n ts) : rdW (textL n ts) = some (n, ts) := by
  show (rdT (ts.flatMap fun t => 32 :: wordL t)).map (fun ts => (((48 + n.toNat : Nat) : Int) - 48, ts)) = _
  rw [rdT_text W.ok]
  have := W.lo
  have e : ((48 + n.toNat : Nat) : Int) - 48 = n := by omega
  rw [e]
  rfl
def webT (n : Int) (ts : List Tie) : Bool := decide (1 ≤ n) && decide (n ≤ 6) && ts.all (fun t => decide (0 ≤ t.1) && decide (t.1 < t.2) && decide (t.2 < n)) && (match ts with | s :: t :: _ => decide (s.1 < t.1) || (decide (s.1 = t.1) && decide (s.2 < t.2)) | _ => true)
theorem webT_of {n : Int} {ts : List Tie} (W : IsWeb n ts) : webT n ts = true := by
  unfold webT
  rw [decide_eq_true W.lo, decide_eq_true W.hi, Bool.and_eq_true, Bool.and_eq_true, List.all_eq_true]
  refine ⟨⟨rfl, fun t ht => ?_⟩, ?_⟩
  · have := W.ok t ht
    rw [decide_eq_true this.1, decide_eq_true this.2.1, decide_eq_true this.2.2]
    rfl
  · match ts, W.up with
    | [], _ => rfl
    | [_], _ => rfl
    | s :: t :: r, h =>
      have := (List.pairwise_cons.mp h).1 t List.mem_cons_self
      unfold tlt at this
      show (decide (s.1 < t.1) || (decide (s.1 = t.1) && decide (s.2 < t.2))) = true
      rcases this with h | ⟨h1, h2⟩
      · rw [decide_eq_true h]; rfl
      · rw [decide_eq_true h1, decide_eq_true h2, Bool.and_true, Bool.or_true]
theorem bads_none : ∀ x ∈ bads, asciiS x = true ∧ (match rdW x.cps.toList with | some (n, ts) => webT n ts | none => false) = false := by decide +kernel
theorem bads_ok {x : Str} (h : x ∈ bads) : F_law_read [.str x] = some .non := by
  obtain ⟨h1, h2⟩ := bads_none x h
  rcases law_read_ok h1 with e | ⟨n, ts, _, W, _, e⟩
  · exact e
  · rw [e, rdW_text W] at h2
    have := webT_of W
    rw [show webT n ts = false from h2] at this
    cases this
theorem law_true : ∀ ns : List Int, ns.length ≤ 63 → F_law [.lst (ns.map D.int)] = some (.bl true) := by
  intro ns hns
  obtain ⟨ρ', l1, c1, c2, c3, c4, c5, rfl⟩ := loop_all (h := dName 1) (g := turn1) (fun ρ => ∃ c1 c2 c3 c4 c5 : Option Cell, ρ = [some (.sh (.lst (ns.map D.int))), c1, c2, c3, c4, c5, none]) (ds := (cut ns none (some 8)).map D.int) (ρ := [some (.sh (.lst (ns.map D.int))), none, none, none, none, none, none]) ⟨_, _, _, _, _, rfl⟩ (fun d hd ρ hI => by
    obtain ⟨c1, c2, c3, c4, c5, rfl⟩ := hI
    obtain ⟨c, _, rfl⟩ := List.mem_map.mp hd
    obtain ⟨c2', c3', c4', c5', t1⟩ := turn1_ok (s := .lst (ns.map D.int)) (c := c) (c2 := c2) (c3 := c3) (c4 := c4) (c5 := c5) (c6 := none)
    exact ⟨_, _, rfl, .inl t1, _, _, _, _, _, rfl⟩)
  let ks : List D := (bads.take 12).map D.str
  obtain ⟨ρ2, l2, k1, k2, k3, k4, k5, rfl⟩ := loop_all (h := dName 4) (g := dIfS (dTest (d2 dIsN (dCall F_law_read (dCons (dVar 4) (dNil))) (dC .non))) (dRet (dC (.bl false))) dNext) (fun ρ => ∃ c1 c2 c3 c4 c5 : Option Cell, ρ = [some (.sh (.lst (ns.map D.int))), c1, c2, c3, c4, c5, some (.sh (.lst ks))]) (ds := bads.map D.str) (ρ := [some (.sh (.lst (ns.map D.int))), c1, c2, c3, c4, c5, some (.sh (.lst ks))]) ⟨_, _, _, _, _, rfl⟩ (fun d hd ρ hI => by
    obtain ⟨c1, c2, c3, c4, c5, rfl⟩ := hI
    obtain ⟨x, hx, rfl⟩ := List.mem_map.mp hd
    refine ⟨[some (.sh (.lst (ns.map D.int))), c1, c2, c3, some (.sh (.str x)), c5, some (.sh (.lst ks))], [some (.sh (.lst (ns.map D.int))), c1, c2, c3, some (.sh (.str x)), c5, some (.sh (.lst ks))], rfl, .inl ?_, _, _, _, _, _, rfl⟩
    have e : dTest (d2 dIsN (dCall F_law_read (dCons (dVar 4) (dNil))) (dC .non)) [some (.sh (.lst (ns.map D.int))), c1, c2, c3, some (.sh (.str x)), c5, some (.sh (.lst ks))] = some false :=
      ev_test ((ev_2 (x := .non) (y := .non) ((ev_call (ds := [.str x]) rfl).trans (bads_ok hx)) rfl).trans rfl)
    exact (ev_ifS e).trans rfl)
  have w0 : ∀ n : Int, 1 ≤ n → n ≤ 6 → IsWeb n [] := fun n h1 h2 => ⟨h1, h2, List.Pairwise.nil, fun t ht => absurd ht (by simp)⟩
  have r1 : F_read [.str "1 :"] = some (webD 1 []) := read_text (by decide +kernel) (w0 1 (by decide) (by decide)) (by decide) (by decide +kernel)
  have r2 : F_read [.str "2 :"] = some (webD 2 []) := read_text (by decide +kernel) (w0 2 (by decide) (by decide)) (by decide) (by decide +kernel)
  show outD (g_law [some (.sh (.lst (ns.map D.int))), none, none, none, none, none, none]) = _
  have : g_law [some (.sh (.lst (ns.map D.int))), none, none, none, none, none, none] = some (.rt (.bl true)) := by
    refine ev_seq (r := .rt .non) ((ev_for (ds := (cut ns none (some 8)).map D.int) ?_).trans l1) ?_
    · refine ev_sqL ((ev_slc (x := .lst (ns.map D.int)) (lo := none) (hi := some 8) rfl rfl rfl).trans ?_)
      show some (D.lst (cut (ns.map D.int) none (some 8))) = _
      unfold cut
      rw [List.length_map, List.map_take, List.map_drop]
    · refine ev_seq (r := .rt .non) (ev_set (d := .lst ks) rfl) ?_
      refine ev_seq (r := .rt .non) ((ev_for (ds := bads.map D.str) rfl).trans l2) ?_
      refine ev_ret ((ev_and (a := true) (b := true) ?_ fun _ => ?_).trans rfl)
      · exact (ev_2 (x := webD 1 []) (y := .tup [.int 1, .tup []]) ((ev_call (ds := [.str "1 :"]) rfl).trans r1) rfl).trans rfl
      · exact (ev_2 (x := webD 2 []) (y := .tup [.int 2, .tup []]) ((ev_call (ds := [.str "2 :"]) rfl).trans r2) rfl).trans rfl
  rw [this]
  rfl
end P
set_option Elab.async false
set_option linter.all false
open PySem PySem.W PyProof.Rows
set_option maxRecDepth 100000 in
set_option maxHeartbeats 0 in
theorem PySem.Challenge.cw_pageties_k02_whole_texts_holds : PySem.Challenge.rw_pageties_k02_whole_texts.Holds := by
  w_on; o_law; k_head; (case hw => w_witness2)
  k_fill
  refine P.walk (l := PySem.Challenge.rw_pageties_k02_whole_texts) rfl rfl (fun w h Y => PySem.W.kIn_of Y) (fun w h Y P q e => nomatch e) (fun w => by kernel_rfl) P.law_true ?F
  case F =>
    intro w mg fa h KX G hmg
    refine' P.all_mk KX G hmg ?a0 ?l0 ?c0 ?k0 ?a1 ?l1 ?c1 ?k1 ?a2 ?l2 ?c2 ?k2 ?a3 ?l3 ?c3 ?k3 ?a4 ?l4 ?c4 ?k4 ?a5 ?l5 ?c5 ?k5 ?a6 ?l6 ?c6 ?k6 ?a7 ?l7 ?c7 ?k7 ?a8 ?l8 ?c8 ?k8 ?a9 ?l9 ?c9 ?k9 ?a10 ?l10 ?c10 ?k10 ?a11 ?l11 ?c11 ?k11 ?a12 ?l12 ?c12 ?k12 ?a13 ?l13 ?c13 ?k13 ?a14 ?l14 ?c14 ?k14 ?a15 ?l15 ?c15 ?k15 ?a16 ?l16 ?c16 ?k16 ?a17 ?l17 ?c17 ?k17 ?z_ValueError ?z_all ?z_bool ?z_int ?z_isinstance ?z_len ?z_max ?z_min ?z_range ?z_sorted ?z_str ?z_tuple ?x_MOST_PLACES ?x_MOST_TIES ?xs_DIGITS ?uN ?uP ?uO ?e0 ?e1 ?e2 ?e3 ?e4 ?h1 ?h8 ?h9 ?h2 ?h3 ?h4 ?h5 ?h6 ?h7
    (case a0 => k_is)
    (case l0 => k_is)
    (case c0 => k_is)
    (case k0 => k_is)
    (case a1 => k_is)
    (case l1 => k_is)
    (case c1 => k_is)
    (case k1 => k_is)
    (case a2 => k_is)
    (case l2 => k_is)
    (case c2 => k_is)
    (case k2 => k_is)
    (case a3 => k_is)
    (case l3 => k_is)
    (case c3 => k_is)
    (case k3 => k_is)
    (case a4 => k_is)
    (case l4 => k_is)
    (case c4 => k_is)
    (case k4 => k_is)
    (case a5 => k_is)
    (case l5 => k_is)
    (case c5 => k_is)
    (case k5 => k_is)
    (case a6 => k_is)
    (case l6 => k_is)
    (case c6 => k_is)
    (case k6 => k_is)
    (case a7 => k_is)
    (case l7 => k_is)
    (case c7 => k_is)
    (case k7 => k_is)
    (case a8 => k_is)
    (case l8 => k_is)
    (case c8 => k_is)
    (case k8 => k_is)
    (case a9 => k_is)
    (case l9 => k_is)
    (case c9 => k_is)
    (case k9 => k_is)
    (case a10 => k_is)
    (case l10 => k_is)
    (case c10 => k_is)
    (case k10 => k_is)
    (case a11 => k_is)
    (case l11 => k_is)
    (case c11 => k_is)
    (case k11 => k_is)
    (case a12 => k_is)
    (case l12 => k_is)
    (case c12 => k_is)
    (case k12 => k_is)
    (case a13 => k_is)
    (case l13 => k_is)
    (case c13 => k_is)
    (case k13 => k_is)
    (case a14 => k_is)
    (case l14 => k_is)
    (case c14 => k_is)
    (case k14 => k_is)
    (case a15 => k_is)
    (case l15 => k_is)
    (case c15 => k_is)
    (case k15 => k_is)
    (case a16 => k_is)
    (case l16 => k_is)
    (case c16 => k_is)
    (case k16 => k_is)
    (case a17 => k_is)
    (case l17 => k_is)
    (case c17 => k_is)
    (case k17 => k_is)
    (case z_ValueError => k_is)
    (case z_all => k_is)
    (case z_bool => k_is)
    (case z_int => k_is)
    (case z_isinstance => k_is)
    (case z_len => k_is)
    (case z_max => k_is)
    (case z_min => k_is)
    (case z_range => k_is)
    (case z_sorted => k_is)
    (case z_str => k_is)
    (case z_tuple => k_is)
    (case x_MOST_PLACES => k_is)
    (case x_MOST_TIES => k_is)
    (case xs_DIGITS => k_is)
    (case uN => k_is)
    (case uP => k_is)
    (case uO => k_is)
    (case e0 => first | k_is | kernel_rfl)
    (case e1 => first | k_is | kernel_rfl)
    (case e2 => first | k_is | kernel_rfl)
    (case e3 => first | k_is | kernel_rfl)
    (case e4 => first | k_is | kernel_rfl)
    (case h1 => first | k_is | kernel_rfl)
    (case h8 => first | k_is | kernel_rfl)
    (case h9 => first | k_is | kernel_rfl)
    (case h2 => first | k_is | kernel_rfl)
    (case h3 => first | k_is | kernel_rfl)
    (case h4 => first | k_is | kernel_rfl)
    (case h5 => first | k_is | kernel_rfl)
    (case h6 => first | k_is | kernel_rfl)
    (case h7 => first | k_is | kernel_rfl)
