import PyProof.Rows.All
import Wide.All
import OpenK.AllK
import Wide.FinOn
import Lean
import PyProof.EqAt
import PyProof.EqKinds
import PyProof.TupleCall
import PyProof.Rows.TupAdd
import PyProof.NeKinds
import KE.LcSums
import PyProof.ListRange
import PyProof.ListMulRoad
import PyProof.Draws
import PyProof.EnumMake
import PyProof.MinMaxWalk
import PyProof.WalkInts
import PyProof.Rows.SortStr
import PyProof.Rows.SortKeyStr
import PyProof.WalksMore
import PySem.Challenge.RW_pageties_k03_whole_pairs
set_option Elab.async false
set_option linter.all false
set_option maxRecDepth 100000
namespace L2
open PySem PySem.Spec PyProof.Rows
abbrev Key := Sum Int Str
def keyIs : Key → Value → Bool
  | .inl k, v => Value.isInt k v
  | .inr x, v => Value.isStrOf x v
def keyH (w : World) : Key → Int
  | .inl k => hashInt k
  | .inr x => hashStr w x
theorem keyIs_shape : ∀ {k : Key} {v : Value}, keyIs k v = true → (∃ i t, k = Sum.inl i ∧ v = Value.int i t) ∨ (∃ x t, k = Sum.inr x ∧ v = Value.str x t)
  | .inl i, v, h => by
    obtain ⟨t, e⟩ := Value.isInt_shape (k := i) (v := v) h
    exact .inl ⟨i, t, rfl, e⟩
  | .inr x, v, h => by
    obtain ⟨t, e⟩ := Value.isStrOf_shape (x := x) (v := v) h
    exact .inr ⟨x, t, rfl, e⟩
theorem keyIs_int (i : Int) (t : Tok) : keyIs (.inl i) (.int i t) = true := by simp [keyIs, Value.isInt]
theorem keyIs_str (x : Str) (t : Tok) : keyIs (.inr x) (.str x t) = true := by simp [keyIs, Value.isStrOf]
theorem key_ll (a b : Int) : decide ((Sum.inl a : Key) = Sum.inl b) = (a == b) := by
  by_cases e : a = b
  · subst e; simp
  · have h : ¬ (Sum.inl a : Key) = Sum.inl b := fun q => e (Sum.inl.inj q)
    rw [decide_eq_false h]
    exact (beq_eq_false_iff_ne.mpr e).symm
theorem key_rr (a b : Str) : decide ((Sum.inr a : Key) = Sum.inr b) = decide (a = b) := by
  by_cases e : a = b
  · subst e; simp
  · have h : ¬ (Sum.inr a : Key) = Sum.inr b := fun q => e (Sum.inr.inj q)
    rw [decide_eq_false h, decide_eq_false e]
theorem key_lr (a : Int) (b : Str) : decide ((Sum.inl a : Key) = Sum.inr b) = false := decide_eq_false (fun q => nomatch q)
theorem key_rl (a : Str) (b : Int) : decide ((Sum.inr a : Key) = Sum.inl b) = false := decide_eq_false (fun q => nomatch q)
def mixKind (prog : Program) (w : World) : PySem.KeyKind prog w Key where
  is := keyIs
  hash := keyH w
  inj := fun v a b ha hb => by
    rcases keyIs_shape ha with ⟨i, t, rfl, rfl⟩ | ⟨x, t, rfl, rfl⟩
    · rcases keyIs_shape hb with ⟨j, u, rfl, e⟩ | ⟨y, u, rfl, e⟩
      · injection e with e1 _; rw [e1]
      · exact nomatch e
    · rcases keyIs_shape hb with ⟨j, u, rfl, e⟩ | ⟨y, u, rfl, e⟩
      · exact nomatch e
      · injection e with e1 _; rw [e1]
  byValue := fun k v h => by
    rcases keyIs_shape h with ⟨i, t, rfl, rfl⟩ | ⟨x, t, rfl, rfl⟩ <;> rfl
  pyHash := fun hv h => by
    rcases keyIs_shape hv with ⟨i, t, rfl, rfl⟩ | ⟨x, t, rfl, rfl⟩
    · exact wpAny_pyHash_int h
    · exact wpAny_pyHash_str h
  eqBool := fun hu hv h => by
    rcases keyIs_shape hu with ⟨i, t, rfl, rfl⟩ | ⟨x, t, rfl, rfl⟩
    · rcases keyIs_shape hv with ⟨j, u, rfl, rfl⟩ | ⟨y, u, rfl, rfl⟩
      · rw [key_ll] at h; exact wpAny_eqBool_int h
      · rw [key_lr] at h; exact SeqAt.EqAt.int_str i t y u _ _ _ _ h
    · rcases keyIs_shape hv with ⟨j, u, rfl, rfl⟩ | ⟨y, u, rfl, rfl⟩
      · rw [key_rl] at h; exact SeqAt.EqAt.str_int x t j u _ _ _ _ h
      · rw [key_rr] at h; exact wpAny_eqBool_str h
  «strs» := fun k x t v h => by
    rcases keyIs_shape h with ⟨i, u, rfl, e⟩ | ⟨y, u, rfl, e⟩
    · exact nomatch e
    · injection e with e1 _
      subst e1
      cases v <;> rfl
theorem mixKind_int (prog : Program) (w : World) (i : Int) (t : Tok) : (mixKind prog w).is (.inl i) (.int i t) = true := keyIs_int i t
theorem mixKind_str (prog : Program) (w : World) (x : Str) (t : Tok) : (mixKind prog w).is (.inr x) (.str x t) = true := keyIs_str x t
end L2
namespace L2
open PySem PySem.Spec PyProof.Rows
inductive V where
  | non | bl (b : Bool) | int (i : Int) | str (x : Str) | byt (b : Array UInt8) | flt (b : UInt64) | ref (a : Addr) | ty (n : String)
  deriving DecidableEq
def RelV : V → Value → Prop
  | .non, u => u = Value.none
  | .bl b, u => u = Value.bool b
  | .int i, u => ∃ t, u = Value.int i t
  | .str x, u => ∃ t, u = Value.str x t
  | .byt b, u => ∃ t, u = Value.bytes b t
  | .flt b, u => ∃ t, u = Value.float b t
  | .ref a, u => u = Value.ref a
  | .ty n, u => u = Value.type n
abbrev Vals : List V → List Value → Prop := Paired RelV
theorem Vals.length {xs : List V} {us : List Value} (r : Vals xs us) : xs.length = us.length := Paired.length r
theorem Vals.get : ∀ {xs : List V} {us : List Value} {i : Nat} {x : V}, Vals xs us → xs[i]? = some x → ∃ u, us[i]? = some u ∧ RelV x u
  | _, _, _, _, .nil, e => by simp at e
  | _, _, 0, _, .cons r _, e => by simp at e; subst e; exact ⟨_, rfl, r⟩
  | _, _, i + 1, x, .cons _ t, e => by
    obtain ⟨u, h1, h2⟩ := Vals.get (i := i) (x := x) t (by simpa using e)
    exact ⟨u, by simpa using h1, h2⟩
theorem Vals.set {x : V} {u : Value} (r : RelV x u) : ∀ {xs : List V} {us : List Value} (i : Nat), Vals xs us → Vals (xs.set i x) (us.set i u)
  | _, _, _, .nil => .nil
  | _, _, 0, .cons _ t => .cons r t
  | _, _, i + 1, .cons q t => .cons q (Vals.set r i t)
theorem Vals.append : ∀ {xs ys : List V} {us ws : List Value}, Vals xs us → Vals ys ws → Vals (xs ++ ys) (us ++ ws)
  | _, _, _, _, .nil, s => s
  | _, _, _, _, .cons r t, s => .cons r (Vals.append t s)
theorem Vals.take : ∀ {xs : List V} {us : List Value} (n : Nat), Vals xs us → Vals (xs.take n) (us.take n)
  | _, _, 0, _ => .nil
  | _, _, _ + 1, .nil => .nil
  | _, _, n + 1, .cons r t => .cons r (Vals.take n t)
theorem Vals.drop : ∀ {xs : List V} {us : List Value} (n : Nat), Vals xs us → Vals (xs.drop n) (us.drop n)
  | _, _, 0, r => r
  | _, _, _ + 1, .nil => .nil
  | _, _, n + 1, .cons _ t => Vals.drop n t
def RelO : Option V → Option Value → Prop
  | some v, some u => RelV v u
  | none, none => True
  | _, _ => False
def KV {κ : Type} : List (κ × V) → List (κ × Value) → Prop := Paired fun (p : κ × V) (q : κ × Value) => p.1 = q.1 ∧ RelV p.2 q.2
def kV : Key → V
  | .inl i => .int i
  | .inr x => .str x
inductive HO where
  /-- a list -/
  | lst (xs : List V)
  /-- a tuple (never changes) -/
  | tup (xs : List V)
  /-- a dict whose keys are ints and texts; one whose keys are tuples of ints and texts (the empty one is both) -/
  | dK (kvs : List (Key × V)) | dT (kvs : List (List Key × V))
  /-- a set of ints: its members, its size -/
  | set (S : Int → Bool) (n : Nat)
  /-- an instance of the class at C, its dict at dx, its attributes -/
  | ins (C dx : Addr) (fs : List (Str × V))
  /-- the dict of the instance at x -/
  | own (x : Addr)
  /-- the dict of an exception -/
  | xd (fs : List (Str × V))
  /-- a bound method, f of x -/
  | met (f x : Addr)
  /-- a range object lo, lo + 1, .. below hi -/
  | rng (lo hi : Int)
  /-- a thing that is known to the object (the script; a dict while a loop walks it): read, never written while it is so -/
  | frz (o : Obj) (u : HO)
  /-- a code object's table -/
  | tbl (ps : Array Value)
  /-- any other thing, by what is true of its one object (a def of one's own: SetO a S n := HO.ext fun h => ..) -/
  | ext (φ : Heap → Prop)
abbrev Hp := Addr → Option HO
def upd (H : Hp) (a : Addr) (o : HO) : Hp := fun b => if b = a then some o else H b
theorem upd_same {H : Hp} {a : Addr} {o : HO} : upd H a o a = some o := by unfold upd; rw [if_pos rfl]
theorem upd_ne {H : Hp} {a b : Addr} {o : HO} (h : b ≠ a) : upd H a o b = H b := by unfold upd; rw [if_neg h]
theorem ne_of {H : Hp} {a b : Addr} {o u : HO} (h : H a = some o) (h' : H b = some u) (d : o ≠ u) : a ≠ b := by
  intro e; subst e; rw [h] at h'; exact d (Option.some.inj h')
theorem ne_of_none {H : Hp} {a b : Addr} {o : HO} (h : H a = some o) (h' : H b = none) : a ≠ b := by
  intro e; subst e; rw [h] at h'; cases h'
def PTup (h : Heap) (a : Addr) (items : Array Value) : Prop := ∃ o, h.get? a = some o ∧ o.cls = .type "tuple" ∧ (∃ n, o.data = .seq items n) ∧ o.dict = none
theorem PTup.isTup {h : Heap} {a : Addr} {items : Array Value} (x : PTup h a items) : IsTup h a items := let ⟨o, e, c, d, _⟩ := x; ⟨o, e, c, d⟩
theorem PTup.new (h : Heap) (items : Array Value) : PTup (h.push { cls := .type "tuple", data := .seq items }) h.objs.size items := ⟨_, Heap.get?_push_size _ rfl, rfl, ⟨_, rfl⟩, rfl⟩
section
variable (P : Program) (w : World)
def ObjOk (H : Hp) (h : Heap) (a : Addr) : HO → Prop
  | .lst xs => xs.length ≤ sizeLine ∧ ∃ (its : List Value) (n : Nat), Vals xs its ∧ h.get? a = some { cls := .type "list", data := .seq its.toArray n }
  | .tup xs => xs.length ≤ sizeLine ∧ ∃ its : List Value, Vals xs its ∧ PTup h a its.toArray
  | .dK kvs => kvs.length ≤ sizeLine ∧ (a == sysModules) = false ∧ ∃ vs, KV kvs vs ∧ h.DictOf (mixKind P w) a vs
  | .dT kvs => kvs.length ≤ sizeLine ∧ (a == sysModules) = false ∧ ∃ xs : List (List Key × Addr × Value),
      Paired (fun (p : List Key × V) (q : List Key × Addr × Value) => p.1 = q.1 ∧ H q.2.1 = some (.tup (p.1.map kV)) ∧ RelV p.2 q.2.2) kvs xs ∧
      ∃ o es ep, h.get? a = some o ∧ o.ExactDict ∧ o.data = .dict es ep ∧ es.toList = xs.map (entryOfKey (tupleKind (mixKind P w))) ∧ (xs.map (·.1)).Nodup
  | .set S n => h.SetOf (intKind P w) a S n
  | .ins C dx fs => H dx = some (.own a) ∧ fs.length ≤ 1000 ∧ dx ≠ a ∧ h.get? a = some (PySem.W.instObj C dx) ∧
      ∃ mA, h.Ns1 dx mA ∧ (∀ f, RelO (fs.lookup f) (mA f)) ∧ PySem.Within mA (fs.map (·.1))
  | .own _ => ∃ o, h.get? a = some o
  | .xd fs => ∃ mA, h.Ns1 a mA ∧ ∀ f, RelO (fs.lookup f) (mA f)
  | .rng lo hi => ∃ t u v, h.get? a = some { cls := .type "range", data := .fields #[.int lo t, .int hi u, .int 1 v] }
  | .frz o u => h.get? a = some o ∧ ObjOk H h a u
  | .tbl ps => h.get? a = some { cls := .none, data := .fields ps }
  | .met f x => h.get? a = some (PySem.W.methodObj (.ref f) (.ref x))
  | .ext φ => φ h ∧ (∃ o, h.get? a = some o) ∧ ∀ h1 h2 : Heap, φ h1 → (∀ o, h1.get? a = some o → h2.get? a = some o) → φ h2
def HOk (H : Hp) (h : Heap) : Prop := ∀ a o, H a = some o → ObjOk P w H h a o
end
section
variable {P : Program} {w : World} {H H' : Hp} {h h' : Heap} {a : Addr} {o : HO}
theorem ObjOk.lt (x : ObjOk P w H h a o) : a < h.objs.size := by
  cases o with
  | lst xs => obtain ⟨_, _, _, _, e⟩ := x; exact Heap.lt_size e
  | tup xs => obtain ⟨_, _, _, p⟩ := x; exact p.isTup.lt
  | dK kvs => obtain ⟨_, _, _, _, o, _, _, e, _⟩ := x; exact Heap.lt_size e
  | dT kvs => obtain ⟨_, _, _, _, o, _, _, e, _⟩ := x; exact Heap.lt_size e
  | set S n => obtain ⟨o, _, _, _, e, _⟩ := x; exact Heap.lt_size e
  | ins C dx fs => obtain ⟨_, _, _, e, _⟩ := x; exact Heap.lt_size e
  | own y => obtain ⟨_, e⟩ := x; exact Heap.lt_size e
  | xd fs => obtain ⟨_, ⟨_, _, _, e, _⟩, _⟩ := x; exact Heap.lt_size e
  | rng lo hi => obtain ⟨_, _, _, e⟩ := x; exact Heap.lt_size e
  | frz ob u => obtain ⟨e, _⟩ := x; exact Heap.lt_size e
  | tbl ps => exact Heap.lt_size (show h.get? a = some _ from x)
  | met f y => exact Heap.lt_size (show h.get? a = some _ from x)
  | ext φ => obtain ⟨_, ⟨_, e⟩, _⟩ := x; exact Heap.lt_size e
theorem Paired.mapP {α β : Type} {F G : α → β → Prop} : ∀ {l₁ : List α} {l₂ : List β}, Paired F l₁ l₂ → (∀ a b, F a b → G a b) → Paired G l₁ l₂
  | _, _, .nil, _ => .nil
  | _, _, .cons r t, f => .cons (f _ _ r) (Paired.mapP t f)
theorem ObjOk.stay (x : ObjOk P w H h a o) (k : ∀ b u, (b = a ∨ H b = some (.own a)) → h.get? b = some u → h'.get? b = some u)
    (ho : ∀ b, H b = some (.own a) → H' b = some (.own a)) (ht : ∀ b xs, H b = some (.tup xs) → H' b = some (.tup xs)) : ObjOk P w H' h' a o := by
  induction o with
  | lst xs => obtain ⟨z, its, n, r, e⟩ := x; exact ⟨z, its, n, r, k _ _ (.inl rfl) e⟩
  | tup xs => obtain ⟨z, its, r, ob, e, c⟩ := x; exact ⟨z, its, r, ob, k _ _ (.inl rfl) e, c⟩
  | dK kvs => obtain ⟨z, y, vs, r, ob, es, ep, e, c⟩ := x; exact ⟨z, y, vs, r, ob, es, ep, k _ _ (.inl rfl) e, c⟩
  | dT kvs =>
    obtain ⟨z, y, xs, r, ob, es, ep, e, c⟩ := x
    exact ⟨z, y, xs, Paired.mapP r fun p q z => ⟨z.1, ht _ _ z.2.1, z.2.2⟩, ob, es, ep, k _ _ (.inl rfl) e, c⟩
  | set S n => obtain ⟨ob, es, ep, t, e, c⟩ := x; exact ⟨ob, es, ep, t, k _ _ (.inl rfl) e, c⟩
  | ins C dx fs =>
    obtain ⟨d, z, ne, e, mA, ⟨od, es, ep, e2, c⟩, r⟩ := x
    exact ⟨ho _ d, z, ne, k _ _ (.inl rfl) e, mA, ⟨od, es, ep, k _ _ (.inr d) e2, c⟩, r⟩
  | own y => obtain ⟨ob, e⟩ := x; exact ⟨ob, k _ _ (.inl rfl) e⟩
  | xd fs => obtain ⟨mA, ⟨od, es, ep, e, c⟩, r⟩ := x; exact ⟨mA, ⟨od, es, ep, k _ _ (.inl rfl) e, c⟩, r⟩
  | rng lo hi => obtain ⟨t, u, v, e⟩ := x; exact ⟨t, u, v, k _ _ (.inl rfl) e⟩
  | frz ob u ih => obtain ⟨e, q⟩ := x; exact ⟨k _ _ (.inl rfl) e, ih q⟩
  | tbl ps =>
    have e : h.get? a = some { cls := .none, data := .fields ps } := x
    show h'.get? a = some { cls := .none, data := .fields ps }
    exact k a _ (.inl rfl) e
  | met f y =>
    have e : h.get? a = some (PySem.W.methodObj (.ref f) (.ref y)) := x
    show h'.get? a = some (PySem.W.methodObj (.ref f) (.ref y))
    exact k a _ (.inl rfl) e
  | ext φ => obtain ⟨p, ⟨o, e⟩, st⟩ := x; exact ⟨st _ _ p fun o q => k _ _ (.inl rfl) q, ⟨o, k _ _ (.inl rfl) e⟩, st⟩
theorem HOk.lt (x : HOk P w H h) (e : H a = some o) : a < h.objs.size := (x a o e).lt
theorem HOk.fresh (x : HOk P w H h) (e : h.objs.size ≤ a) : H a = none := by
  cases q : H a with
  | none => rfl
  | some u => exact absurd (Nat.lt_of_lt_of_le (x.lt q) e) (Nat.lt_irrefl _)
theorem HOk.kept (x : HOk P w H h) (k : ∀ b u, h.get? b = some u → h'.get? b = some u) : HOk P w H h' := fun a o e =>
  (x a o e).stay (fun b u _ q => k b u q) (fun _ q => q) fun _ _ q => q
theorem HOk.laid (x : HOk P w H h) (k : ∀ b u, h.get? b = some u → h'.get? b = some u) (hp : h.objs.size ≤ a) (new : ObjOk P w (upd H a o) h' a o) : HOk P w (upd H a o) h' := fun b u e => by
  have hn := x.fresh hp
  by_cases hb : b = a
  · subst hb; rw [upd_same] at e; cases e; exact new
  · rw [upd_ne hb] at e
    exact (x b u e).stay (fun c v _ q => k c v q) (fun c q => by rw [upd_ne (ne_of_none q hn)]; exact q) fun c xs q => by rw [upd_ne (ne_of_none q hn)]; exact q
end
def Rd (H : Hp) (a : Addr) (u : HO) : Prop := H a = some u ∨ ∃ o, H a = some (.frz o u)
theorem Rd.of {H : Hp} {a : Addr} {u : HO} (h : H a = some u) : Rd H a u := .inl h
theorem Rd.ok {P : Program} {w : World} {H : Hp} {h : Heap} {a : Addr} {u : HO} (r : Rd H a u) (x : HOk P w H h) : ObjOk P w H h a u := by
  rcases r with r | ⟨o, r⟩
  · exact x a u r
  · obtain ⟨_, q⟩ := x a _ r
    exact q
def Mut : Option HO → Prop
  | some (.lst _) => True
  | some (.dK _) => True
  | some (.dT _) => True
  | some (.set _ _) => True
  | some (.ins _ _ _) => True
  | some (.ext _) => True
  | _ => False
section
variable {P : Program} {w : World} {H : Hp} {h h' : Heap} {x e : Addr} {o' : HO}
theorem HOk.write (ok : HOk P w H h) (mu : Mut (H x)) (he : e = x ∨ H e = some (.own x)) (k : ∀ b u, b ≠ e → h.get? b = some u → h'.get? b = some u) (heo : ∃ u, h'.get? e = some u)
    (new : ObjOk P w (upd H x o') h' x o') : HOk P w (upd H x o') h' := fun b u q => by
  have nown : ∀ c y, H c = some (.own y) → c ≠ x := fun c y r z => by subst z; rw [r] at mu; exact mu
  have ntup : ∀ c xs, H c = some (.tup xs) → c ≠ x := fun c xs r z => by subst z; rw [r] at mu; exact mu
  by_cases hb : b = x
  · subst hb; rw [upd_same] at q; cases q; exact new
  · rw [upd_ne hb] at q
    by_cases hbe : b = e
    · have q' : H b = some (.own x) := by
        rcases he with z | z
        · exact absurd (hbe.trans z) hb
        · rw [hbe]; exact z
      rw [q] at q'; cases q'
      obtain ⟨v, hv⟩ := heo
      exact ⟨v, by rw [hbe]; exact hv⟩
    · refine (ok b u q).stay (fun c v hc r => k c v ?_ r) (fun c r => by rw [upd_ne (nown c b r)]; exact r) fun c xs r => by rw [upd_ne (ntup c xs r)]; exact r
      rcases hc with rfl | hc
      · exact hbe
      · rintro rfl
        rcases he with z | z
        · exact nown c b hc z
        · rw [hc] at z; cases z; exact hb rfl
end
structure Un (fs ex : List Addr) (H H' : Hp) (h h' : Heap) : Prop where
  keep : ∀ b o, h.get? b = some o → H b = none → b ∉ fs → b ∉ ex → h'.get? b = some o
  slot : ∀ b o, h.get? b = some o → H b = none → b ∈ fs → b ∉ ex → ∃ sl, h'.get? b = some { o with slots := sl }
  free : ∀ b o, h.get? b = some o → H b = none → b ∉ ex → H' b = none
  there : ∀ b o, h.get? b = some o → b ∉ ex → ∃ o', h'.get? b = some o'
  tups : ∀ b xs, H b = some (.tup xs) → H' b = some (.tup xs)
  frzs : ∀ b o u, H b = some (.frz o u) → H' b = some (.frz o u)
  tbls : ∀ b ps, H b = some (.tbl ps) → ∃ more, H' b = some (.tbl (ps ++ more))
section
variable {fs fs' ex ex' : List Addr} {H H1 H2 : Hp} {h h1 h2 h' : Heap} {a x e : Addr} {o : HO}
theorem Un.any (u : Un fs ex H H1 h h1) {b : Addr} {ob : Obj} (q : h.get? b = some ob) (n : H b = none) (hx : b ∉ ex) : ∃ sl, h1.get? b = some { ob with slots := sl } := by
  by_cases hb : b ∈ fs
  · exact u.slot b ob q n hb hx
  · exact ⟨ob.slots, u.keep b ob q n hb hx⟩
theorem Un.trans (a : Un fs ex H H1 h h1) (b : Un fs ex H1 H2 h1 h2) : Un fs ex H H2 h h2 where
  keep := fun c ob q n hc hx => b.keep c ob (a.keep c ob q n hc hx) (a.free c ob q n hx) hc hx
  slot := fun c ob q n hc hx => by
    obtain ⟨sl, e1⟩ := a.slot c ob q n hc hx
    obtain ⟨sl', e2⟩ := b.slot c _ e1 (a.free c ob q n hx) hc hx
    exact ⟨sl', e2⟩
  free := fun c ob q n hx => by
    obtain ⟨o', e1⟩ := a.there c ob q hx
    exact b.free c o' e1 (a.free c ob q n hx) hx
  there := fun c ob q hx => by
    obtain ⟨o', e1⟩ := a.there c ob q hx
    exact b.there c o' e1 hx
  tups := fun c xs q => b.tups c xs (a.tups c xs q)
  frzs := fun c ob xs q => b.frzs c ob xs (a.frzs c ob xs q)
  tbls := fun c ps q => by
    obtain ⟨m1, e1⟩ := a.tbls c ps q
    obtain ⟨m2, e2⟩ := b.tbls c _ e1
    exact ⟨m1 ++ m2, by rw [e2, Array.append_assoc]⟩
theorem Un.kept (k : ∀ b u, h.get? b = some u → h'.get? b = some u) : Un fs ex H H h h' :=
  ⟨fun b ob q _ _ _ => k b ob q, fun b ob q _ _ _ => ⟨ob.slots, k b ob q⟩, fun _ _ _ n _ => n, fun b ob q _ => ⟨ob, k b ob q⟩, fun _ _ q => q, fun _ _ _ q => q, fun _ ps q => ⟨#[], by rw [q]; simp⟩⟩
theorem Un.refl : Un fs ex H H h h := Un.kept fun _ _ q => q
theorem Un.laid (k : ∀ b u, h.get? b = some u → h'.get? b = some u) (hp : h.objs.size ≤ a) (hn : H a = none) : Un fs ex H (upd H a o) h h' where
  keep := fun b u q _ _ _ => k b u q
  slot := fun b u q _ _ _ => ⟨u.slots, k b u q⟩
  free := fun b u q n _ => by rw [upd_ne (Nat.ne_of_lt (Nat.lt_of_lt_of_le (Heap.lt_size q) hp))]; exact n
  there := fun b u q _ => ⟨u, k b u q⟩
  tups := fun b xs q => by rw [upd_ne (ne_of_none q hn)]; exact q
  frzs := fun b u xs q => by rw [upd_ne (ne_of_none q hn)]; exact q
  tbls := fun b ps q => ⟨#[], by rw [upd_ne (ne_of_none q hn), q]; simp⟩
theorem Un.write (mu : Mut (H x)) (he : e = x ∨ H e = some (.own x)) (k : ∀ b u, b ≠ e → h.get? b = some u → h'.get? b = some u) (heo : ∃ u, h'.get? e = some u) : Un fs ex H (upd H x o) h h' := by
  have hx : ∀ b, H b = none → b ≠ x := fun b n z => by subst z; rw [n] at mu; exact mu
  have hb : ∀ b, H b = none → b ≠ e := fun b n z => by
    subst z
    rcases he with r | r
    · exact hx b n r
    · rw [n] at r; cases r
  have hm : ∀ b u, H b = some u → ¬ Mut (some u) → b ≠ x := fun b u q nm z => by subst z; rw [q] at mu; exact nm mu
  refine ⟨fun b u q n _ _ => k b u (hb b n) q, fun b u q n _ _ => ⟨u.slots, k b u (hb b n) q⟩, fun b u q n _ => by rw [upd_ne (hx b n)]; exact n, fun b u q _ => ?_,
    fun b xs q => by rw [upd_ne (hm b _ q fun z => z)]; exact q, fun b u xs q => by rw [upd_ne (hm b _ q fun z => z)]; exact q, fun b ps q => ⟨#[], by rw [upd_ne (hm b _ q fun z => z), q]; simp⟩⟩
  by_cases hbe : b = e
  · subst hbe; exact heo
  · exact ⟨u, k b u hbe q⟩
theorem Un.mono (u : Un fs ex H H1 h h1) (hs : ∀ b ∈ fs, b ∈ fs') (hx : ∀ b ∈ ex, b ∈ ex') : Un fs' ex' H H1 h h1 :=
  ⟨fun b ob q n hb he => u.keep b ob q n (fun z => hb (hs b z)) fun z => he (hx b z), fun _ _ q n _ he => u.any q n fun z => he (hx _ z), fun b ob q n he => u.free b ob q n fun z => he (hx b z), fun b ob q he => u.there b ob q fun z => he (hx b z), u.tups, u.frzs, u.tbls⟩
end
def trk (h : Heap) (H : Hp) : List Addr := (List.range h.objs.size).filter fun a => (H a).isSome
def hidT (h : Heap) (H : Hp) : Heap := PySem.W.hideAll h (trk h H)
theorem hidT_size (h : Heap) (H : Hp) : (hidT h H).objs.size = h.objs.size := PySem.W.hideAll_size _ _
theorem hidT_get {h : Heap} {H : Hp} {b : Addr} {o : Obj} (e : h.get? b = some o) (n : H b = none) : (hidT h H).get? b = some o :=
  PySem.W.hideAll_get _ e fun hm => by
    have q : (H b).isSome = true := (List.mem_filter.mp hm).2
    rw [n] at q; simp at q
theorem of_hidT {h : Heap} {H : Hp} {b : Addr} {o : Obj} (e : (hidT h H).get? b = some o) : h.get? b = some o ∧ H b = none := by
  have e' : h.get? b = some o := PySem.W.of_hideAll (trk h H) e
  refine ⟨e', ?_⟩
  cases q : H b with
  | none => rfl
  | some x =>
    have hm : b ∈ trk h H := List.mem_filter.mpr ⟨List.mem_range.mpr (Heap.lt_size e'), by simp [q]⟩
    have z : (hidT h H).get? b = none := PySem.W.hideAll_none (trk h H) hm
    rw [z] at e; cases e
def allNews (g h : Heap) (L : Addr) : List (Addr × Obj) := (List.range h.objs.size).filterMap fun a => if a = L ∨ (g.get? a).isSome = true then none else (h.get? a).map fun o => (a, o)
def rest (g h : Heap) (L d : Addr) : List (Addr × Obj) := (allNews g h L).filter fun p => decide (p.1 ≠ d)
end L2
namespace L2
open PySem PySem.Spec PyProof.Rows
structure Mod (K : PySem.W.Frag) (mg : Str → Option Value) (base : Heap) : Prop where
  kin : K.In base
  glob : base.Ns mainGlobals mg
  blt : ∃ mb, base.Ns builtinsNs mb ∧ ∀ x : Str, x ≠ "__name__" → mb x = bootBuiltins x
  nolimit : base.NoLimit
structure Cx where
  prog : Program
  w : World
  K : PySem.W.Frag
  mg : Str → Option Value
  base : Heap
  A : Around
  N : List Str
  s₀ : Shared
  H₀ : Hp
  env : Env
  outer : List Env
  stack : List Env
  ex : List Addr
  fn : Str → Bool
  calm : Bool
  pn : List (Addr × Obj)
  xe : Value → Shared → Prop
def frs (l : List Env) : List Addr := l.filterMap (·.frame)
abbrev Cx.fs (X : Cx) : List Addr := frs X.outer
def Vis (sc : Scope) (x : Str) : Prop := sc.names.lookup x = some .local ∨ sc.names.lookup x = some .cell ∨ sc.names.lookup x = some .free
def Loc (sc : Scope) (x : Str) : Prop := sc.names.lookup x = some .local ∨ sc.names.lookup x = some .cell
def Look (env : Env) (h : Heap) (m : Str → Option Value) (x : Str) (u : Value) : Prop :=
  (env.kindOf x = some .local ∧ m x = some u) ∨ ((env.kindOf x = some .cell ∨ env.kindOf x = some .free) ∧ ∃ c, env.cells.lookup x = some c ∧ h.IsCell c (some u))
structure Cx.Ok (X : Cx) : Prop where
  mod : Mod X.K X.mg X.base
  kind : X.env.scope.kind = .function
  glob : X.env.globals = mainGlobals
  blt : X.env.builtins = builtinsNs
  above : X.s₀.heap.objs.size ≤ X.env.locals
  inj : ∀ x y c, X.env.cells.lookup x = some c → X.env.cells.lookup y = some c → x = y
  has : ∀ x, (X.env.kindOf x = some .cell ∨ X.env.kindOf x = some .free) → ∃ c, X.env.cells.lookup x = some c
  cab : ∀ x c, X.fn x = true → X.env.cells.lookup x = some c → X.s₀.heap.objs.size ≤ c
  hd : X.calm = true → X.A.handled = none
  frames : X.A.frames = some X.stack
  stk : X.stack = X.outer ∨ (X.stack = X.env :: X.outer ∧ X.env.frame = some X.env.locals)
  exf : ∀ b ∈ X.ex, b ≠ X.env.locals ∧ ∀ x c, X.env.cells.lookup x = some c → c ≠ b
  bs : ∀ b o, X.base.get? b = some o → X.s₀.heap.get? b = some o ∧ X.H₀ b = none
  bsz : X.base.objs.size ≤ X.s₀.heap.objs.size
  noex : ∀ b o, X.base.get? b = some o → b ∉ X.ex
  exfs : ∀ b ∈ X.ex, b ∉ X.fs
  funs : X.s₀.heap.FunFrames X.base X.outer
  frf : ∀ b ∈ X.fs, X.H₀ b = none
structure Inv (X : Cx) (pins : List (Addr × Obj)) (σ : List (Option V)) (H : Hp) (s : Shared) : Prop where
  ok : X.Ok
  os : s.os = X.s₀.os
  bare : AllBare s.gens
  base : Un X.fs X.ex X.H₀ H X.s₀.heap s.heap
  loc : ∃ m, s.heap.Ns X.env.locals m ∧ ∀ (i : Nat) (x : Str) (v : V), X.N[i]? = some x → σ[i]? = some (some v) → Vis X.env.scope x → ∃ u, RelV v u ∧ Look X.env s.heap m x u
  cell : ∀ x c, X.env.cells.lookup x = some c → ∃ v, s.heap.IsCell c v
  free : H X.env.locals = none
  freeC : ∀ x c, X.env.cells.lookup x = some c → H c = none
  pin : ∀ p ∈ X.pn ++ pins, s.heap.get? p.1 = some p.2 ∧ H p.1 = none ∧ p.1 ≠ X.env.locals ∧ p.1 ∉ X.fs ∧ ∀ v, p.2.data ≠ .cell v
  hok : HOk X.prog X.w H s.heap
  len : σ.length = X.N.length
section
variable {X : Cx} {pins : List (Addr × Obj)} {σ : List (Option V)} {H H' : Hp} {s : Shared} {h' : Heap}
theorem Cx.Ok.nofr (ok : X.Ok) {b : Addr} {o : Obj} (e : X.base.get? b = some o) : b ∉ X.fs := fun hb => by
  have := (ok.funs.mem hb).1
  rw [e] at this; cases this
theorem Inv.bs (I : Inv X pins σ H s) : ∀ b o, X.base.get? b = some o → s.heap.get? b = some o ∧ H b = none := fun b o e =>
  ⟨I.base.keep b o (I.ok.bs b o e).1 (I.ok.bs b o e).2 (I.ok.nofr e) (I.ok.noex b o e), I.base.free b o (I.ok.bs b o e).1 (I.ok.bs b o e).2 (I.ok.noex b o e)⟩
theorem Inv.bk (I : Inv X pins σ H s) : ∀ b o, X.base.get? b = some o → s.heap.get? b = some o := fun b o e => (I.bs b o e).1
theorem Inv.mod (I : Inv X pins σ H s) : Mod X.K X.mg X.base := I.ok.mod
theorem Inv.kIn (I : Inv X pins σ H s) : X.K.In s.heap := I.ok.mod.kin.keeps I.bk
theorem Inv.nolimit (I : Inv X pins σ H s) : s.heap.NoLimit := I.ok.mod.nolimit.keeps I.bk
theorem Inv.lt (I : Inv X pins σ H s) : X.env.locals < s.heap.objs.size := let ⟨_, hn, _⟩ := I.loc; hn.lt
theorem Inv.sz (I : Inv X pins σ H s) : X.s₀.heap.objs.size ≤ s.heap.objs.size := Nat.le_trans I.ok.above (Nat.le_of_lt I.lt)
theorem Inv.nofs (I : Inv X pins σ H s) {a : Addr} (h : s.heap.objs.size ≤ a) : a ∉ X.fs := fun hb => by
  obtain ⟨_, o, ho, _⟩ := I.ok.funs.mem hb
  exact absurd (Nat.lt_of_lt_of_le (Heap.lt_size ho) (Nat.le_trans I.sz h)) (Nat.lt_irrefl _)
theorem Inv.cne (I : Inv X pins σ H s) : ∀ x c, X.env.cells.lookup x = some c → c ≠ X.env.locals := fun x c e z => by
  obtain ⟨v, o, ho, hd⟩ := I.cell x c e
  obtain ⟨m, ⟨o', es, ep, ho', hd', _⟩, _⟩ := I.loc
  rw [z, ho'] at ho; cases ho; rw [hd'] at hd; cases hd
theorem Inv.funs (I : Inv X pins σ H s) : s.heap.FunFrames X.base X.outer := by
  have all : ∀ (l : List Env), (∀ b ∈ frs l, b ∈ X.fs) → X.s₀.heap.FunFrames X.base l → s.heap.FunFrames X.base l := by
    intro l
    induction l with
    | nil => intro _ _; trivial
    | cons env r ih =>
      intro hs hl
      obtain ⟨hk, ⟨L, o, hf, hn, ho, hd⟩, hr⟩ := hl
      have hL : L ∈ X.fs := hs L (by unfold frs; rw [List.filterMap_cons, hf]; exact List.mem_cons_self)
      obtain ⟨sl, e⟩ := I.base.slot L o ho (I.ok.frf L hL) hL fun z => I.ok.exfs L z hL
      exact ⟨hk, ⟨L, _, hf, hn, e, hd⟩, ih (fun b hb => hs b (by unfold frs; rw [List.filterMap_cons, hf]; exact List.mem_cons_of_mem _ hb)) hr⟩
  exact all X.outer (fun _ hb => hb) I.ok.funs
theorem Inv.stack (I : Inv X pins σ H s) : s.heap.FunFrames X.base X.stack := by
  rcases I.ok.stk with e | ⟨e, hf⟩
  · rw [e]; exact I.funs
  · rw [e]
    obtain ⟨m, hn, _⟩ := I.loc
    refine .cons (by rw [I.ok.kind]; decide) hf hn ?_ I.funs
    exact Heap.get?_none_of_le (Nat.le_trans I.ok.bsz I.ok.above)
theorem Inv.stkSub (I : Inv X pins σ H s) : ∀ b ∈ frs X.stack, b ∈ X.env.locals :: X.fs := fun b hb => by
  rcases I.ok.stk with e | ⟨e, hf⟩
  · rw [e] at hb; exact List.mem_cons_of_mem _ hb
  · rw [e] at hb
    unfold frs at hb
    rw [List.filterMap_cons, hf] at hb
    exact hb
theorem Inv.stkFree (I : Inv X pins σ H s) : ∀ b ∈ frs X.stack, H b = none := fun b hb => by
  rcases List.mem_cons.mp (I.stkSub b hb) with e | hb
  · rw [e]; exact I.free
  · obtain ⟨_, o, ho, _⟩ := I.ok.funs.mem hb
    exact I.base.free b o ho (I.ok.frf b hb) fun z => I.ok.exfs b z hb
theorem Inv.step {g' : Array GenState} {t' : Nat} {d' : Drawn} {ch : List Addr} (I : Inv X pins σ H s)
    (hch : ∀ b ∈ ch, (b ∈ X.ex ∨ X.s₀.heap.objs.size ≤ b) ∧ b ≠ X.env.locals ∧ (∀ x c, X.env.cells.lookup x = some c → c ≠ b) ∧ ∀ p ∈ X.pn ++ pins, p.1 ≠ b)
    (keep : ∀ b o, b ≠ X.env.locals → b ∉ X.fs → b ∉ ch → s.heap.get? b = some o → H b = none → h'.get? b = some o)
    (slot : ∀ b o, b ≠ X.env.locals → b ∈ X.fs → b ∉ ch → s.heap.get? b = some o → H b = none → ∃ sl, h'.get? b = some { o with slots := sl }) (free : ∀ b o, b ∉ ch → s.heap.get? b = some o → H b = none → H' b = none)
    (there : ∀ b o, b ∉ ch → s.heap.get? b = some o → ∃ o', h'.get? b = some o')
    (tups : ∀ b xs, H b = some (.tup xs) → H' b = some (.tup xs)) (frzs : ∀ b o u, H b = some (.frz o u) → H' b = some (.frz o u)) (tbls : ∀ b ps, H b = some (.tbl ps) → ∃ more, H' b = some (.tbl (ps ++ more)))
    (ns : ∀ m, s.heap.Ns X.env.locals m → h'.Ns X.env.locals m) (hok : HOk X.prog X.w H' h') (hg : AllBare g') :
    Inv X pins σ H' { s with heap := h', gens := g', drawn := d', toks := t' } := by
  have neL : ∀ b o, X.s₀.heap.get? b = some o → b ≠ X.env.locals := fun b o e => Nat.ne_of_lt (Nat.lt_of_lt_of_le (Heap.lt_size e) I.ok.above)
  have neC : ∀ b o, X.s₀.heap.get? b = some o → b ∉ X.ex → b ∉ ch := fun b o e hx hb => by
    rcases (hch b hb).1 with z | z
    · exact hx z
    · exact absurd (Nat.lt_of_lt_of_le (Heap.lt_size e) z) (Nat.lt_irrefl _)
  have cellK : ∀ x c, X.env.cells.lookup x = some c → ∀ v, s.heap.IsCell c v → h'.IsCell c v := fun x c e v ⟨o, ho, hd⟩ => by
    have nch : c ∉ ch := fun z => (hch c z).2.2.1 x c e rfl
    by_cases hc : c ∈ X.fs
    · obtain ⟨sl, q⟩ := slot c o (I.cne x c e) hc nch ho (I.freeC x c e)
      exact ⟨_, q, hd⟩
    · exact ⟨o, keep c o (I.cne x c e) hc nch ho (I.freeC x c e), hd⟩
  refine ⟨I.ok, I.os, hg, ⟨fun b o e n hb hx => ?_, fun b o e n hb hx => ?_, fun b o e n hx => ?_, fun b o e hx => ?_, fun b xs e => tups b xs (I.base.tups b xs e), fun b o xs e => frzs b o xs (I.base.frzs b o xs e), fun b ps e => ?_⟩, ?_, fun x c e => ?_, ?_, fun x c e => ?_, fun p hp => ?_, hok, I.len⟩
  · exact keep b o (neL b o e) hb (neC b o e hx) (I.base.keep b o e n hb hx) (I.base.free b o e n hx)
  · obtain ⟨sl, e1⟩ := I.base.slot b o e n hb hx
    obtain ⟨sl', e2⟩ := slot b _ (neL b o e) hb (neC b o e hx) e1 (I.base.free b o e n hx)
    exact ⟨sl', e2⟩
  · obtain ⟨o', e1⟩ := I.base.there b o e hx
    exact free b o' (neC b o e hx) e1 (I.base.free b o e n hx)
  · obtain ⟨o', e1⟩ := I.base.there b o e hx
    exact there b o' (neC b o e hx) e1
  · obtain ⟨m1, e1⟩ := I.base.tbls b ps e
    obtain ⟨m2, e2⟩ := tbls b _ e1
    exact ⟨m1 ++ m2, by rw [e2, Array.append_assoc]⟩
  · obtain ⟨m, hn, hl⟩ := I.loc
    refine ⟨m, ns m hn, fun i x v e1 e2 e3 => ?_⟩
    obtain ⟨u, r, l⟩ := hl i x v e1 e2 e3
    refine ⟨u, r, ?_⟩
    rcases l with l | ⟨k, c, e, z⟩
    · exact .inl l
    · exact .inr ⟨k, c, e, cellK x c e _ z⟩
  · obtain ⟨v, z⟩ := I.cell x c e
    exact ⟨v, cellK x c e v z⟩
  · obtain ⟨m, ⟨o, _, _, ho, _⟩, _⟩ := I.loc
    exact free _ o (fun z => (hch _ z).2.1 rfl) ho I.free
  · obtain ⟨v, o, ho, hd⟩ := I.cell x c e
    exact free c o (fun z => (hch c z).2.2.1 x c e rfl) ho (I.freeC x c e)
  · obtain ⟨e, n, ne, nf, d⟩ := I.pin p hp
    have nch : p.1 ∉ ch := fun z => (hch p.1 z).2.2.2 p hp rfl
    exact ⟨keep p.1 p.2 ne nf nch e n, free p.1 p.2 nch e n, ne, nf, d⟩
theorem Inv.un {t' : Nat} (I : Inv X pins σ H s) (u : Un X.fs [] H H' s.heap h') (hok : HOk X.prog X.w H' h') : Inv X pins σ H' { s with heap := h', toks := t' } := by
  obtain ⟨m, ⟨o, es, ep, ho, r⟩, _⟩ := id I.loc
  obtain ⟨sl, hL⟩ := u.any ho I.free (by simp)
  exact I.step (g' := s.gens) (d' := s.drawn) (ch := []) (fun _ z => nomatch z) (fun b o _ hb _ e n => u.keep b o e n hb (by simp)) (fun b o _ hb _ e n => u.slot b o e n hb (by simp)) (fun b o _ e n => u.free b o e n (by simp)) (fun b o _ e => u.there b o e (by simp)) u.tups u.frzs u.tbls (fun m' hm => by
    obtain ⟨o', es', ep', ho', r'⟩ := hm
    rw [ho] at ho'; cases ho'
    exact ⟨_, es', ep', hL, r'⟩) hok I.bare
theorem Inv.call {g' : Array GenState} {t' : Nat} {d' : Drawn} {ch : List Addr} (I : Inv X pins σ H s) (u : Un (frs X.stack) ch H H' s.heap h') (hok : HOk X.prog X.w H' h') (hg : AllBare g')
    (hch : ∀ b ∈ ch, (b ∈ X.ex ∨ X.s₀.heap.objs.size ≤ b) ∧ b ≠ X.env.locals ∧ (∀ x c, X.env.cells.lookup x = some c → c ≠ b) ∧ ∀ p ∈ X.pn ++ pins, p.1 ≠ b) :
    Inv X pins σ H' { s with heap := h', gens := g', drawn := d', toks := t' } := by
  obtain ⟨m, ⟨o, es, ep, ho, r⟩, _⟩ := id I.loc
  obtain ⟨sl, hL⟩ := u.any ho I.free fun z => (hch _ z).2.1 rfl
  exact I.step (ch := ch) hch (fun b o hL hb hc e n => u.keep b o e n (fun z => (List.mem_cons.mp (I.stkSub b z)).elim hL hb) hc) (fun b o _ _ hc e n => u.any e n hc) (fun b o hc e n => u.free b o e n hc) (fun b o hc e => u.there b o e hc) u.tups u.frzs u.tbls (fun m' hm => by
    obtain ⟨o', es', ep', ho', r'⟩ := hm
    rw [ho] at ho'; cases ho'
    exact ⟨_, es', ep', hL, r'⟩) hok hg
theorem Inv.turned {t' : Nat} {it : Addr} (I : Inv X pins σ H s) (k : ∀ b o, b ≠ it → s.heap.get? b = some o → h'.get? b = some o) (hn : H it = none) (hL : it ≠ X.env.locals)
    (h1 : it ∈ X.ex ∨ X.s₀.heap.objs.size ≤ it) (h2 : ∀ x c, X.env.cells.lookup x = some c → c ≠ it) (h3 : ∀ p ∈ X.pn ++ pins, p.1 ≠ it) : Inv X pins σ H { s with heap := h', toks := t' } := by
  have nit : ∀ b u, H b = some u → b ≠ it := fun b u e z => by rw [z, hn] at e; cases e
  refine I.step (g' := s.gens) (d' := s.drawn) (ch := [it]) (fun b hb => ?_) (fun b o _ _ hc e _ => k b o (fun z => hc (by simp [z])) e) (fun b o _ _ hc e _ => ⟨o.slots, k b o (fun z => hc (by simp [z])) e⟩) (fun _ _ _ _ n => n)
    (fun b o hc e => ⟨o, k b o (fun z => hc (by simp [z])) e⟩) (fun _ _ e => e) (fun _ _ _ e => e) (fun b ps e => ⟨#[], by rw [e]; simp⟩) (fun m hm => ?_) (fun b u e => ?_) I.bare
  · have e : b = it := by simpa using hb
    subst e
    exact ⟨h1, hL, h2, h3⟩
  · obtain ⟨o, es, ep, ho, r⟩ := hm
    exact ⟨o, es, ep, k _ o (Ne.symm hL) ho, r⟩
  · refine (I.hok b u e).stay (fun c v hc q => k c v ?_ q) (fun _ q => q) fun _ _ q => q
    rcases hc with z | z
    · rw [z]; exact nit b u e
    · exact nit c _ z
theorem Inv.tok (I : Inv X pins σ H s) (t : Nat) : Inv X pins σ H { s with toks := t } := I.un (h' := s.heap) (t' := t) Un.refl I.hok
theorem Inv.kept {t' : Nat} (I : Inv X pins σ H s) (k : ∀ b u, s.heap.get? b = some u → h'.get? b = some u) : Inv X pins σ H { s with heap := h', toks := t' } := I.un (Un.kept k) (I.hok.kept k)
theorem Inv.laid {a : Addr} {o : HO} {t' : Nat} (I : Inv X pins σ H s) (k : ∀ b u, s.heap.get? b = some u → h'.get? b = some u) (hp : s.heap.objs.size ≤ a) (new : ObjOk X.prog X.w (upd H a o) h' a o) :
    Inv X pins σ (upd H a o) { s with heap := h', toks := t' } := I.un (Un.laid k hp (I.hok.fresh hp)) (I.hok.laid k hp new)
theorem Inv.write {x e : Addr} {o : HO} {t' : Nat} (I : Inv X pins σ H s) (mu : Mut (H x)) (he : e = x ∨ H e = some (.own x)) (k : ∀ b u, b ≠ e → s.heap.get? b = some u → h'.get? b = some u) (heo : ∃ u, h'.get? e = some u)
    (new : ObjOk X.prog X.w (upd H x o) h' x o) : Inv X pins σ (upd H x o) { s with heap := h', toks := t' } := I.un (Un.write mu he k heo) (I.hok.write mu he k heo new)
theorem Inv.pins_of {pins' : List (Addr × Obj)} (I : Inv X pins σ H s) (h : ∀ p ∈ pins', s.heap.get? p.1 = some p.2 ∧ H p.1 = none ∧ p.1 ≠ X.env.locals ∧ p.1 ∉ X.fs ∧ ∀ v, p.2.data ≠ .cell v) : Inv X pins' σ H s :=
  ⟨I.ok, I.os, I.bare, I.base, I.loc, I.cell, I.free, I.freeC, fun p hp => (List.mem_append.mp hp).elim (fun z => I.pin p (List.mem_append_left _ z)) (h p), I.hok, I.len⟩
theorem nodup_ix {N : List Str} (hN : N.Nodup) {i j : Nat} {x : Str} (a : N[i]? = some x) (b : N[j]? = some x) : i = j := by
  obtain ⟨h1, e1⟩ := List.getElem?_eq_some_iff.mp a
  obtain ⟨h2, e2⟩ := List.getElem?_eq_some_iff.mp b
  exact (List.getElem_inj hN).mp (e1.trans e2.symm)
theorem store_ok2 {M : Model} {A : Around} {E : Value → Shared → Prop} {i : Nat} {x : Str} {v : V} {u : Value} {Q : Unit → Shared → Prop} (I : Inv X pins σ H s) (hN : X.N.Nodup) (hi : X.N[i]? = some x) (hx : Loc X.env.scope x) (r : RelV v u)
    (h : ∀ s', Inv X pins (σ.set i (some v)) H s' → (∃ a, Heap.SameBut a s.heap s'.heap ∧ (a = X.env.locals ∨ X.env.cells.lookup x = some a)) → Q () s') (hf : X.fn x = true ∨ X.env.scope.names.lookup x = some .local := by first | exact .inl rfl | exact .inr rfl | assumption) : wpAny M A (storeName X.env x u) Q E s := by
  obtain ⟨m, hn, hl⟩ := id I.loc
  have hcls : (X.env.scope.kind == .class || (X.env.scope.kind == .module && X.env.locals != X.env.globals)) = false := by rw [I.ok.kind]; rfl
  have hiσ : i < σ.length := by rw [I.len]; exact (List.getElem?_eq_some_iff.mp hi).1
  have cne := I.cne
  have tracked : ∀ {a : Addr} {h' : Heap}, (∃ o, s.heap.get? a = some o ∧ H a = none) → Heap.SameBut a s.heap h' → HOk X.prog X.w H h' := fun {a h'} ha hs b ob e => by
    obtain ⟨_, _, hfree⟩ := ha
    refine (I.hok b ob e).stay (fun c w' hc q => (hs.2 c ?_).trans q) (fun _ q => q) fun _ _ q => q
    rintro rfl
    rcases hc with rfl | hc
    · rw [hfree] at e; cases e
    · rw [hfree] at hc; cases hc
  rcases hx with hk | hk
  · refine wpAny_storeName_local hk hn (fun h' hn' hs => ?_) hcls
    obtain ⟨oL, _, _, hoL, _⟩ := id hn
    refine h _ ⟨I.ok, I.os, I.bare, ⟨fun b o e n hb hx => ?_, fun b o e n hb hx => ?_, I.base.free, fun b o e hx => ?_, I.base.tups, I.base.frzs, I.base.tbls⟩, ⟨_, hn', fun j y v' e1 e2 e3 => ?_⟩, fun y c e => ?_, I.free, I.freeC, fun p hp => ?_, tracked ⟨oL, hoL, I.free⟩ hs, by simpa using I.len⟩ ⟨_, hs, .inl rfl⟩
    · exact (hs.2 b (Nat.ne_of_lt (Nat.lt_of_lt_of_le (Heap.lt_size e) I.ok.above))).trans (I.base.keep b o e n hb hx)
    · obtain ⟨sl, e1⟩ := I.base.slot b o e n hb hx
      exact ⟨sl, (hs.2 b (Nat.ne_of_lt (Nat.lt_of_lt_of_le (Heap.lt_size e) I.ok.above))).trans e1⟩
    · obtain ⟨o', e1⟩ := I.base.there b o e hx
      exact ⟨o', (hs.2 b (Nat.ne_of_lt (Nat.lt_of_lt_of_le (Heap.lt_size e) I.ok.above))).trans e1⟩
    · by_cases hj : j = i
      · subst hj
        rw [hi] at e1; cases e1
        rw [List.getElem?_set_self hiσ] at e2
        cases e2
        exact ⟨u, r, .inl ⟨hk, by simp⟩⟩
      · rw [List.getElem?_set_ne (Ne.symm hj)] at e2
        obtain ⟨u', r', q⟩ := hl j y v' e1 e2 e3
        refine ⟨u', r', ?_⟩
        rcases q with ⟨k, e⟩ | ⟨k, c, e, z⟩
        · refine .inl ⟨k, ?_⟩
          have : y ≠ x := fun e => hj (nodup_ix hN e1 (e ▸ hi))
          simp [this, e]
        · exact .inr ⟨k, c, e, z.sameBut hs (cne y c e)⟩
    · obtain ⟨w', z⟩ := I.cell y c e
      exact ⟨w', z.sameBut hs (cne y c e)⟩
    · obtain ⟨e, n, ne, nf, d⟩ := I.pin p hp
      exact ⟨(hs.2 p.1 ne).trans e, n, ne, nf, d⟩
  · have hfn : X.fn x = true := by
      rcases hf with z | z
      · exact z
      · rw [z] at hk; cases hk
    obtain ⟨c, hc⟩ := I.ok.has x (.inl hk)
    obtain ⟨w', z⟩ := I.cell x c hc
    refine wpAny_storeName_cell I.ok.kind hk hc z (fun h' hc' hs => ?_)
    obtain ⟨oc, hoc, hocd⟩ := id z
    refine h { s with heap := h' } ⟨I.ok, I.os, I.bare, ⟨fun b o e n hb hx => ?_, fun b o e n hb hx => ?_, I.base.free, fun b o e hx => ?_, I.base.tups, I.base.frzs, I.base.tbls⟩, ⟨m, hn.sameBut hs (Ne.symm (cne x c hc)), fun j y v' e1 e2 e3 => ?_⟩, fun y c' e => ?_, I.free, I.freeC, fun p hp => ?_, tracked ⟨oc, hoc, I.freeC x c hc⟩ hs, by simpa using I.len⟩ ⟨c, hs, .inr hc⟩
    · exact (hs.2 b (Nat.ne_of_lt (Nat.lt_of_lt_of_le (Heap.lt_size e) (I.ok.cab x c hfn hc)))).trans (I.base.keep b o e n hb hx)
    · obtain ⟨sl, e1⟩ := I.base.slot b o e n hb hx
      exact ⟨sl, (hs.2 b (Nat.ne_of_lt (Nat.lt_of_lt_of_le (Heap.lt_size e) (I.ok.cab x c hfn hc)))).trans e1⟩
    · obtain ⟨o', e1⟩ := I.base.there b o e hx
      exact ⟨o', (hs.2 b (Nat.ne_of_lt (Nat.lt_of_lt_of_le (Heap.lt_size e) (I.ok.cab x c hfn hc)))).trans e1⟩
    · by_cases hj : j = i
      · subst hj
        rw [hi] at e1; cases e1
        rw [List.getElem?_set_self hiσ] at e2
        cases e2
        exact ⟨u, r, .inr ⟨.inl hk, c, hc, hc'⟩⟩
      · rw [List.getElem?_set_ne (Ne.symm hj)] at e2
        obtain ⟨u', r', q⟩ := hl j y v' e1 e2 e3
        refine ⟨u', r', ?_⟩
        rcases q with q | ⟨k, c', e, z'⟩
        · exact .inl q
        · refine .inr ⟨k, c', e, z'.sameBut hs ?_⟩
          rintro rfl
          exact hj (nodup_ix hN e1 (I.ok.inj _ _ _ e hc ▸ hi))
    · by_cases hcc : c' = c
      · subst hcc; exact ⟨_, hc'⟩
      · obtain ⟨w2, z2⟩ := I.cell y c' e
        exact ⟨w2, z2.sameBut hs hcc⟩
    · obtain ⟨e, n, ne, nf, d⟩ := I.pin p hp
      refine ⟨(hs.2 p.1 ?_).trans e, n, ne, nf, d⟩
      intro q
      rw [q, hoc] at e
      have q' : oc = p.2 := Option.some.inj e
      exact d w' (by rw [← q']; exact hocd)
theorem store_ok {M : Model} {A : Around} {E : Value → Shared → Prop} {i : Nat} {x : Str} {v : V} {u : Value} {Q : Unit → Shared → Prop} (I : Inv X pins σ H s) (hN : X.N.Nodup) (hi : X.N[i]? = some x) (hx : Loc X.env.scope x) (r : RelV v u)
    (h : ∀ s', Inv X pins (σ.set i (some v)) H s' → Q () s') (hf : X.fn x = true ∨ X.env.scope.names.lookup x = some .local := by first | exact .inl rfl | exact .inr rfl | assumption) : wpAny M A (storeName X.env x u) Q E s :=
  store_ok2 I hN hi hx r (fun s' I' _ => h s' I') hf
theorem Inv.call' {s' : Shared} {ch : List Addr} (I : Inv X pins σ H s) (ho : s'.os = s.os) (u : Un (frs X.stack) ch H H' s.heap s'.heap) (hok : HOk X.prog X.w H' s'.heap) (hg : AllBare s'.gens)
    (hch : ∀ b ∈ ch, (b ∈ X.ex ∨ X.s₀.heap.objs.size ≤ b) ∧ b ≠ X.env.locals ∧ (∀ x c, X.env.cells.lookup x = some c → c ≠ b) ∧ ∀ p ∈ X.pn ++ pins, p.1 ≠ b) : Inv X pins σ H' s' := by
  obtain ⟨h', g', d', t', o'⟩ := s'
  have e : o' = s.os := ho
  subst e
  exact I.call (g' := g') (t' := t') (d' := d') u hok hg hch
end
abbrev XK := Value → Option Addr → Hp → Prop
abbrev St := List (Option V)
abbrev VK := V → Hp → Prop
abbrev TE := St → Hp → VK → Prop
abbrev TT := St → Hp → (Bool → Hp → Prop) → Prop
abbrev TA := St → Hp → (List V → Hp → Prop) → Prop
structure Ends where
  nx : St → Hp → Prop
  rt : VK
  bk : St → Hp → Prop := fun _ _ => False
  ct : St → Hp → Prop := fun _ _ => False
abbrev TS := Ends → St → Hp → Prop
def EP (X : Cx) (pins : List (Addr × Obj)) (σ : St) (Q : VK) (u : Value) (s' : Shared) : Prop := ∃ v H', Inv X pins σ H' s' ∧ RelV v u ∧ Q v H'
def TP (X : Cx) (pins : List (Addr × Obj)) (σ : St) (Q : Bool → Hp → Prop) (b : Bool) (s' : Shared) : Prop := ∃ H', Inv X pins σ H' s' ∧ Q b H'
def AP (X : Cx) (pins : List (Addr × Obj)) (σ : St) (Q : List V → Hp → Prop) (us : List Value) (s' : Shared) : Prop := ∃ vs H', Inv X pins σ H' s' ∧ Vals vs us ∧ Q vs H'
def SP (X : Cx) (pins : List (Addr × Obj)) (D : Ends) (f : Flow) (s' : Shared) : Prop :=
  match f with
  | .next => ∃ σ' H', Inv X pins σ' H' s' ∧ D.nx σ' H'
  | .brk => ∃ σ' H', Inv X pins σ' H' s' ∧ D.bk σ' H'
  | .cont => ∃ σ' H', Inv X pins σ' H' s' ∧ D.ct σ' H'
  | .ret u => ∃ v σ' H', Inv X pins σ' H' s' ∧ RelV v u ∧ D.rt v H'
def PE (X : Cx) (e : Expr) (t : TE) : Prop :=
  ∀ (pins : List (Addr × Obj)) (s : Shared) (σ : St) (H : Hp) (Q : VK), Inv X pins σ H s → t σ H Q → wpAny (model X.prog X.w) X.A (eval e X.env) (EP X pins σ Q) X.xe s
def PT (X : Cx) (e : Expr) (t : TT) : Prop :=
  ∀ (pins : List (Addr × Obj)) (s : Shared) (σ : St) (H : Hp) (Q : Bool → Hp → Prop), Inv X pins σ H s → t σ H Q → wpAny (model X.prog X.w) X.A (isTrue e X.env (eval e X.env)) (TP X pins σ Q) X.xe s
def PW (X : Cx) (e : Expr) (t : TT) : Prop :=
  ∀ (whole : Sem Value) (pins : List (Addr × Obj)) (s : Shared) (σ : St) (H : Hp) (Q : Bool → Hp → Prop), Inv X pins σ H s → t σ H Q → wpAny (model X.prog X.w) X.A (isTrue e X.env whole) (TP X pins σ Q) X.xe s
theorem PW.pt {X : Cx} {e : Expr} {t : TT} (h : PW X e t) : PT X e t := h _
def PA (X : Cx) (es : List Expr) (t : TA) : Prop :=
  ∀ (pos : Pos) (pins : List (Addr × Obj)) (s : Shared) (σ : St) (H : Hp) (Q : List V → Hp → Prop), Inv X pins σ H s → t σ H Q → wpAny (model X.prog X.w) X.A (spliced (backTo pos (starEach es X.env))) (AP X pins σ Q) X.xe s
def PS (X : Cx) (st : Stmt) (t : TS) : Prop :=
  ∀ (pins : List (Addr × Obj)) (s : Shared) (σ : St) (H : Hp) (D : Ends), Inv X pins σ H s → t D σ H → wpAny (model X.prog X.w) X.A (exec st X.env) (SP X pins D) X.xe s
def PSs (X : Cx) (st : List Stmt) (t : TS) : Prop :=
  ∀ (pins : List (Addr × Obj)) (s : Shared) (σ : St) (H : Hp) (D : Ends), Inv X pins σ H s → t D σ H → wpAny (model X.prog X.w) X.A (execs st X.env) (SP X pins D) X.xe s
theorem thn {α : Type} {t : Sem α} {Q Q' : α → Shared → Prop} {M : Model} {A : Around} {E : Value → Shared → Prop} {s : Shared} (h : wpAny M A t Q E s) (hQ : ∀ a s, Q a s → Q' a s) : wpAny M A t Q' E s := wpAny_mono h hQ fun _ _ x => x
end L2
namespace L2
open PySem PySem.Spec PyProof.Rows
section
variable {X : Cx}
def tVar (i : Nat) : TE := fun σ H Q => ∃ v, σ[i]? = some (some v) ∧ Q v H
def tC (v : V) : TE := fun _ H Q => Q v H
theorem pe_var {i : Nat} {x : Str} {pos : Pos} (hN : X.N[i]? = some x) (hv : Vis X.env.scope x) (hd : (x == ("__debug__" : Str)) = false := by decide) (hcd : (x == ("__classdict__" : Str)) = false := by decide) : PE X (.Name x pos) (tVar i) := by
  intro pins s σ H Q I h
  obtain ⟨v, e, h⟩ := h
  obtain ⟨m, hn, hl⟩ := I.loc
  obtain ⟨u, r, l⟩ := hl i x v hN e hv
  have fin : EP X pins σ Q u s := ⟨v, H, I, r, h⟩
  rcases l with ⟨hk, hm⟩ | ⟨hk, c, hc, hcell⟩
  · exact wpAny_Name (wpAny_loadName_local I.ok.kind hk hn hm fin) hd
  · rcases hk with hk | hk
    · exact wpAny_Name (wpAny_loadName_cell I.ok.kind hk hc hcell fin) hd
    · exact wpAny_Name (wpAny_loadName_free I.ok.kind hk hc hcell fin hcd) hd
theorem pe_int {i j pos} : PE X (.Constant (.int i) j pos) (tC (.int i)) := fun _ _ _ H _ I h => wpAny_Constant_int ⟨.int i, H, I.tok _, ⟨_, rfl⟩, h⟩
theorem pe_bl {b j pos} : PE X (.Constant (.bool b) j pos) (tC (.bl b)) := fun _ _ _ H _ I h => Constant_bool ⟨.bl b, H, I, rfl, h⟩
theorem pe_str {x j pos} : PE X (.Constant (.str x) j pos) (tC (.str x)) := fun _ _ _ H _ I h => Calls.Constant_str ⟨.str x, H, I.tok _, ⟨_, rfl⟩, h⟩
def Gl (X : Cx) (x : Str) : Prop := X.env.kindOf x = some .globalImplicit
theorem ld_glob {E : Value → Shared → Prop} {pins : List (Addr × Obj)} {s : Shared} {σ : St} {H : Hp} {x : Str} {u : Value} {pos : Pos} {Q : Value → Shared → Prop} (I : Inv X pins σ H s) (hg : Gl X x) (hm : X.mg x = some u) (h : Q u s)
    (hd : (x == ("__debug__" : Str)) = false := by decide) : wpAny (model X.prog X.w) X.A (eval (.Name x pos) X.env) Q E s :=
  Calls.Name_function_global I.ok.kind hg (Calls.loadGlobal_global (by rw [I.ok.glob]; exact I.mod.glob.keeps I.bk) hm h) hd
theorem ld_blt {E : Value → Shared → Prop} {pins : List (Addr × Obj)} {s : Shared} {σ : St} {H : Hp} {x : Str} {u : Value} {pos : Pos} {Q : Value → Shared → Prop} (I : Inv X pins σ H s) (hg : Gl X x) (hm : X.mg x = none) (hv : bootBuiltins x = some u) (h : Q u s)
    (hn : x ≠ "__name__" := by decide) (hd : (x == ("__debug__" : Str)) = false := by decide) : wpAny (model X.prog X.w) X.A (eval (.Name x pos) X.env) Q E s := by
  obtain ⟨mb, h1, h2⟩ := I.mod.blt
  exact Calls.Name_function_global I.ok.kind hg (Calls.loadGlobal_builtin (by rw [I.ok.glob]; exact I.mod.glob.keeps I.bk) hm (by rw [I.ok.blt]; exact h1.keeps I.bk) ((h2 x hn).trans hv) h) hd
theorem pe_glob {x : Str} {v : V} {u : Value} {pos : Pos} (hg : Gl X x) (hm : X.mg x = some u) (r : RelV v u) (hd : (x == ("__debug__" : Str)) = false := by decide) : PE X (.Name x pos) (tC v) :=
  fun _ _ _ H _ I h => ld_glob I hg hm ⟨v, H, I, r, h⟩ hd
def t2I (ta tb : TE) (k : Int → Int → Hp → Prop) : St → Hp → Prop := fun σ H => ta σ H fun x H1 => tb σ H1 fun y H2 => ∃ i j, x = .int i ∧ y = .int j ∧ k i j H2
def tAdd (ta tb : TE) : TE := fun σ H Q => t2I ta tb (fun i j H2 => Q (.int (i + j)) H2) σ H
def tSub (ta tb : TE) : TE := fun σ H Q => t2I ta tb (fun i j H2 => Q (.int (i - j)) H2) σ H
def tMul (ta tb : TE) : TE := fun σ H Q => t2I ta tb (fun i j H2 => (-(2 ^ 64) < i ∧ i < 2 ^ 64) ∧ Q (.int (i * j)) H2) σ H
variable {a b : Expr} {ta tb : TE} {pos : Pos}
def PC (X : Cx) (op : CmpOp) (a b : Expr) (t : TE) : Prop :=
  ∀ (pins : List (Addr × Obj)) (s : Shared) (σ : St) (H : Hp) (Q : VK), Inv X pins σ H s → t σ H Q →
    wpAny (model X.prog X.w) X.A (eval a X.env) (fun v s₁ => wpAny (model X.prog X.w) X.A (eval b X.env) (fun u s₂ => wpAny (model X.prog X.w) X.A (compareOp op v u) (EP X pins σ Q) X.xe s₂) X.xe s₁) X.xe s
def tCmp (p : Int → Int → Bool) (ta tb : TE) : TE := fun σ H Q => t2I ta tb (fun i j H2 => Q (.bl (p i j)) H2) σ H
abbrev tLt : TE → TE → TE := tCmp fun i j => decide (i < j)
abbrev tLe : TE → TE → TE := tCmp fun i j => decide (i ≤ j)
abbrev tGt : TE → TE → TE := tCmp fun i j => decide (j < i)
abbrev tGe : TE → TE → TE := tCmp fun i j => decide (j ≤ i)
abbrev tEqI : TE → TE → TE := tCmp fun i j => decide (i = j)
abbrev tNeI : TE → TE → TE := tCmp fun i j => !decide (i = j)
def tIsN (ta : TE) : TE := fun σ H Q => ta σ H fun x H1 => Q (.bl (decide (x = .non))) H1
def tNotN (ta : TE) : TE := fun σ H Q => ta σ H fun x H1 => Q (.bl (!decide (x = .non))) H1
def tB (t : TE) : TT := fun σ H Q => t σ H fun x H1 => ∃ c, x = .bl c ∧ Q c H1
theorem pt_val {e : Expr} {t : TE} (h : PE X e t) (he : ∀ whole, isTrue e X.env whole = (do let v ← whole; standAt e.pos; holding [v] (truthy v)) := by intro _; rfl) : PT X e (tB t) := by
  intro pins s σ H Q I hw
  refine isTrue_plain (thn (h pins s σ H _ I hw) fun v s1 ⟨x, H1, I1, r1, q1⟩ => ?_) (he _)
  obtain ⟨d, rfl, q⟩ := q1
  cases r1
  exact wpAny_truthy_bool ⟨H1, I1, q⟩
variable {tA tB' : TT} {rest : List Expr}
def tAnd (t u : TT) : TT := fun σ H Q => t σ H fun c H1 => if c = true then u σ H1 Q else Q false H1
def tOr (t u : TT) : TT := fun σ H Q => t σ H fun c H1 => if c = true then Q true H1 else u σ H1 Q
def tNot (t : TT) : TT := fun σ H Q => t σ H fun c H1 => Q (!c) H1
theorem pw_and1 (ha : PT X a tA) : PW X (.BoolOp .And [a] pos) tA := by
  intro wh pins s σ H Q I h
  refine isTrue_and (thn (ha pins s σ H Q I h) fun c s1 e => ?_)
  cases c with
  | true => exact isTrue_and_nil e
  | false => exact e
theorem pw_or1 (ha : PT X a tA) : PW X (.BoolOp .Or [a] pos) tA := by
  intro wh pins s σ H Q I h
  refine isTrue_or (thn (ha pins s σ H Q I h) fun c s1 e => ?_)
  cases c with
  | false => exact isTrue_or_nil e
  | true => exact e
theorem pw_and (ha : PT X a tA) (hb : PW X (.BoolOp .And (b :: rest) pos) tB') : PW X (.BoolOp .And (a :: b :: rest) pos) (tAnd tA tB') := by
  intro wh pins s σ H Q I h
  refine isTrue_and (thn (ha pins s σ H _ I h) fun c s1 ⟨H1, I1, q1⟩ => ?_)
  cases c with
  | true => exact hb wh pins s1 σ H1 Q I1 q1
  | false => exact ⟨H1, I1, q1⟩
theorem pw_or (ha : PT X a tA) (hb : PW X (.BoolOp .Or (b :: rest) pos) tB') : PW X (.BoolOp .Or (a :: b :: rest) pos) (tOr tA tB') := by
  intro wh pins s σ H Q I h
  refine isTrue_or (thn (ha pins s σ H _ I h) fun c s1 ⟨H1, I1, q1⟩ => ?_)
  cases c with
  | true => exact ⟨H1, I1, q1⟩
  | false => exact hb wh pins s1 σ H1 Q I1 q1
def tAndV (ta tb : TE) : TE := fun σ H Q => ta σ H fun x H1 => ∃ c, x = .bl c ∧ if c = true then tb σ H1 Q else Q (.bl false) H1
def tOrV (ta tb : TE) : TE := fun σ H Q => ta σ H fun x H1 => ∃ c, x = .bl c ∧ if c = true then Q (.bl true) H1 else tb σ H1 Q
def tNotV (ta : TE) : TE := fun σ H Q => ta σ H fun x H1 => ∃ c, x = .bl c ∧ Q (.bl (!c)) H1
theorem pe_or (ha : PE X a ta) (hb : PE X (.BoolOp .Or (b :: rest) pos) tb) : PE X (.BoolOp .Or (a :: b :: rest) pos) (tOrV ta tb) := by
  intro pins s σ H Q I h
  refine BoolOp_or (thn (ha pins s σ H _ I h) fun v s1 ⟨x, H1, I1, r1, q1⟩ => ?_)
  obtain ⟨c, rfl, q1⟩ := q1
  cases r1
  refine wpAny_truthy_bool ?_
  cases c with
  | false => exact hb pins s1 σ H1 Q I1 q1
  | true => exact ⟨.bl true, H1, I1, rfl, q1⟩
def tIf (t : TT) (ta tb : TE) : TE := fun σ H Q => t σ H fun c H1 => if c = true then ta σ H1 Q else tb σ H1 Q
theorem pe_ifExp {c : Expr} (hc : PT X c tA) (ha : PE X a ta) (hb : PE X b tb) : PE X (.IfExp c a b pos) (tIf tA ta tb) := by
  intro pins s σ H Q I h
  refine wpAny_IfExp (thn (hc pins s σ H _ I h) fun d s1 ⟨H1, I1, q1⟩ => ?_)
  cases d with
  | true => exact ha pins s1 σ H1 Q I1 q1
  | false => exact hb pins s1 σ H1 Q I1 q1
end
end L2
namespace L2
open PySem PySem.Spec PyProof.Rows
def SqL (K : PySem.W.Frag) (H : Hp) (a : Addr) (xs : List V) : Prop :=
  Rd H a (.lst xs) ∨
    ∃ (o : Obj) (its : Array Value) (n : Nat), K.lookup a = some o ∧ o.cls = .type "list" ∧ o.dict = none ∧ o.data = .seq its n ∧ its.size ≤ sizeLine ∧ Vals xs its.toList
def SqT (K : PySem.W.Frag) (H : Hp) (a : Addr) (xs : List V) : Prop :=
  Rd H a (.tup xs) ∨
    ∃ (o : Obj) (its : Array Value) (n : Nat), K.lookup a = some o ∧ o.cls = .type "tuple" ∧ o.data = .seq its n ∧ its.size ≤ sizeLine ∧ Vals xs its.toList ∧ o.dict = none
def absV : Value → Option V
  | .none => some .non
  | .bool b => some (.bl b)
  | .int i _ => some (.int i)
  | .str x _ => some (.str x)
  | .bytes b _ => some (.byt b)
  | .float b _ => some (.flt b)
  | .ref a => some (.ref a)
  | .type n => some (.ty n)
  | _ => none
theorem RelV.abs {x : V} {u : Value} (r : RelV x u) : absV u = some x := by
  cases x with
  | non => cases r; rfl
  | bl _ => cases r; rfl
  | int _ => obtain ⟨t, rfl⟩ := r; rfl
  | str _ => obtain ⟨t, rfl⟩ := r; rfl
  | byt _ => obtain ⟨t, rfl⟩ := r; rfl
  | flt _ => obtain ⟨t, rfl⟩ := r; rfl
  | ref _ => cases r; rfl
  | ty _ => cases r; rfl
theorem RelV.inj {x y : V} {u : Value} (r : RelV x u) (q : RelV y u) : x = y := Option.some.inj (r.abs.symm.trans q.abs)
theorem Vals.inj : ∀ {xs ys : List V} {us : List Value}, Vals xs us → Vals ys us → xs = ys
  | _, _, _, .nil, .nil => rfl
  | _, _, _, .cons r t, .cons r' t' => by rw [r.inj r', Vals.inj t t']
section
variable {X : Cx} {pins : List (Addr × Obj)} {σ : St} {H : Hp} {s : Shared} {a : Addr} {xs ys : List V}
theorem SqL.of {K : PySem.W.Frag} (h : H a = some (.lst xs)) : SqL K H a xs := .inl (.inl h)
theorem SqT.of {K : PySem.W.Frag} (h : H a = some (.tup xs)) : SqT K H a xs := .inl (.inl h)
theorem Inv.list (I : Inv X pins σ H s) (h : SqL X.K H a xs) : ∃ its : List Value, Vals xs its ∧ PlainL s.heap a its.toArray ∧ xs.length ≤ sizeLine := by
  rcases h with h | ⟨o, its, n, hk, hc, hd, hs, hz, r⟩
  · obtain ⟨z, its, n, r, e⟩ := h.ok I.hok
    exact ⟨its, r, ⟨_, n, e, rfl, rfl, rfl⟩, z⟩
  · refine ⟨its.toList, r, ⟨o, n, I.kIn a o hk, hc, hd, by simpa using hs⟩, ?_⟩
    have e := r.length
    simp only [Array.length_toList] at e
    omega
theorem Inv.tuple (I : Inv X pins σ H s) (h : SqT X.K H a xs) : ∃ its : List Value, Vals xs its ∧ IsTup s.heap a its.toArray ∧ xs.length ≤ sizeLine := by
  rcases h with h | ⟨o, its, n, hk, hc, hs, hz, r, _⟩
  · obtain ⟨z, its, r, p⟩ := h.ok I.hok
    exact ⟨its, r, p.isTup, z⟩
  · refine ⟨its.toList, r, ⟨o, I.kIn a o hk, hc, n, by simpa using hs⟩, ?_⟩
    have e := r.length
    simp only [Array.length_toList] at e
    omega
theorem Inv.tupleP (I : Inv X pins σ H s) (h : SqT X.K H a xs) : ∃ o, s.heap.get? a = some o ∧ o.cls = .type "tuple" ∧ o.dict = none := by
  rcases h with h | ⟨o, its, n, hk, hc, hs, hz, r, d⟩
  · obtain ⟨z, its, r, o, e, c, _, d⟩ := h.ok I.hok
    exact ⟨o, e, c, d⟩
  · exact ⟨o, I.kIn a o hk, hc, d⟩
theorem Inv.list_inj (I : Inv X pins σ H s) (h : SqL X.K H a xs) (h' : SqL X.K H a ys) : xs = ys := by
  obtain ⟨its, r, ⟨o, n, e, _, _, d⟩, _⟩ := I.list h
  obtain ⟨its', r', ⟨o', n', e', _, _, d'⟩, _⟩ := I.list h'
  rw [e] at e'; cases e'
  rw [d] at d'
  injection d' with d1 _
  have : its = its' := by simpa using congrArg Array.toList d1
  subst this
  exact r.inj r'
theorem Inv.tuple_inj (I : Inv X pins σ H s) (h : SqT X.K H a xs) (h' : SqT X.K H a ys) : xs = ys := by
  obtain ⟨its, r, ⟨o, e, _, n, d⟩, _⟩ := I.tuple h
  obtain ⟨its', r', ⟨o', e', _, n', d'⟩, _⟩ := I.tuple h'
  rw [e] at e'; cases e'
  rw [d] at d'
  injection d' with d1 _
  have : its = its' := by simpa using congrArg Array.toList d1
  subst this
  exact r.inj r'
end
abbrev Cx.wish (X : Cx) (E : Value → Shared → Prop) : Cx := { X with xe := E }
abbrev Cx.nox (X : Cx) : Cx := X.wish fun _ _ => False
theorem Cx.Ok.wish {X : Cx} (ok : X.Ok) (E : Value → Shared → Prop) : (X.wish E).Ok :=
  ⟨ok.mod, ok.kind, ok.glob, ok.blt, ok.above, ok.inj, ok.has, ok.cab, ok.hd, ok.frames, ok.stk, ok.exf, ok.bs, ok.bsz, ok.noex, ok.exfs, ok.funs, ok.frf⟩
theorem Cx.Ok.unwish {X : Cx} {E : Value → Shared → Prop} (ok : (X.wish E).Ok) : X.Ok :=
  ⟨ok.mod, ok.kind, ok.glob, ok.blt, ok.above, ok.inj, ok.has, ok.cab, ok.hd, ok.frames, ok.stk, ok.exf, ok.bs, ok.bsz, ok.noex, ok.exfs, ok.funs, ok.frf⟩
section
variable {X : Cx} {pins : List (Addr × Obj)} {σ : St} {H : Hp} {s : Shared} {E : Value → Shared → Prop}
theorem Inv.wish (I : Inv X pins σ H s) (E : Value → Shared → Prop) : Inv (X.wish E) pins σ H s := ⟨I.ok.wish E, I.os, I.bare, I.base, I.loc, I.cell, I.free, I.freeC, I.pin, I.hok, I.len⟩
theorem Inv.unwish (I : Inv (X.wish E) pins σ H s) : Inv X pins σ H s := ⟨I.ok.unwish, I.os, I.bare, I.base, I.loc, I.cell, I.free, I.freeC, I.pin, I.hok, I.len⟩
theorem SP.unwish {D : Ends} {f : Flow} {s' : Shared} (h : SP (X.wish E) pins D f s') : SP X pins D f s' := by
  cases f with
  | next => obtain ⟨σ', H', I, q⟩ := h; exact ⟨σ', H', I.unwish, q⟩
  | brk => obtain ⟨σ', H', I, q⟩ := h; exact ⟨σ', H', I.unwish, q⟩
  | cont => obtain ⟨σ', H', I, q⟩ := h; exact ⟨σ', H', I.unwish, q⟩
  | ret u => obtain ⟨v, σ', H', I, r, q⟩ := h; exact ⟨v, σ', H', I.unwish, r, q⟩
theorem PE.nox {e : Expr} {t : TE} (h : PE X.nox e t) : PE X e t := fun pins s σ H Q I hw =>
  wpAny_mono (h pins s σ H Q (I.wish _) hw) (fun _ _ ⟨v, H', I', r, q⟩ => ⟨v, H', I'.unwish, r, q⟩) fun _ _ z => False.elim z
theorem PT.nox {e : Expr} {t : TT} (h : PT X.nox e t) : PT X e t := fun pins s σ H Q I hw =>
  wpAny_mono (h pins s σ H Q (I.wish _) hw) (fun _ _ ⟨H', I', q⟩ => ⟨H', I'.unwish, q⟩) fun _ _ z => False.elim z
theorem PSs.nox {st : List Stmt} {t : TS} (h : PSs X.nox st t) : PSs X st t := fun pins s σ H D I hw =>
  wpAny_mono (h pins s σ H D (I.wish _) hw) (fun _ _ q => q.unwish) fun _ _ z => False.elim z
end
section
variable {X : Cx} {st : Stmt} {rest : List Stmt} {t u : TS} {e : Expr} {te : TE} {pos : Pos}
def tNext : TS := fun D σ H => D.nx σ H
def tSeq (t u : TS) : TS := fun D σ H => t { D with nx := u D } σ H
theorem pss_nil : PSs X [] tNext := fun _ _ σ H _ I h => wpAny_execs_nil ⟨σ, H, I, h⟩
theorem pss_cons (h1 : PS X st t) (h2 : PSs X rest u) : PSs X (st :: rest) (tSeq t u) := by
  intro pins s σ H D I h
  refine wpAny_execs_cons (thn (h1 pins s σ H { D with nx := u D } I h) fun f s1 q => ?_)
  cases f with
  | next =>
    obtain ⟨σ', H', I', q⟩ := q
    exact h2 pins s1 σ' H' D I' q
  | ret v => exact q
  | brk => exact q
  | cont => exact q
theorem pss_one (h1 : PS X st t) : PSs X [st] t := by
  intro pins s σ H D I h
  refine wpAny_execs_cons (thn (h1 pins s σ H D I h) fun f s1 q => ?_)
  cases f with
  | next => exact wpAny_execs_nil q
  | ret v => exact q
  | brk => exact q
  | cont => exact q
def tBreak : TS := fun D σ H => D.bk σ H
def tCont : TS := fun D σ H => D.ct σ H
theorem Inv.quiet {pins : List (Addr × Obj)} {σ : St} {H : Hp} {s : Shared} (I : Inv X pins σ H s) : interactive X.env = false := by simp [interactive, I.ok.kind]
def tDrop (te : TE) : TS := fun D σ H => te σ H fun _ H1 => D.nx σ H1
theorem ps_expr (he : PE X e te) (hs : swapsWith e none pos.line X.env = pure false := by rfl) : PS X (.Expr e pos) (tDrop te) := by
  intro pins s σ H D I h
  exact wpAny_Expr_any (thn (he pins s σ H _ I h) fun v s1 ⟨x, H1, I1, r1, q1⟩ => ⟨σ, H1, I1, q1⟩) I.quiet hs
def tRet (te : TE) : TS := fun D σ H => te σ H D.rt
theorem ps_ret (he : PE X e te) : PS X (.Return (some e) pos) (tRet te) := by
  intro pins s σ H D I h
  exact wpAny_Return_some (thn (he pins s σ H _ I h) fun v s1 ⟨x, H1, I1, r1, q1⟩ => ⟨x, σ, H1, I1, r1, q1⟩)
def tRetN : TS := fun D _ H => D.rt .non H
def tIfS (c : TT) (t u : TS) : TS := fun D σ H => c σ H fun b H1 => if b = true then t D σ H1 else u D σ H1
theorem ps_if {c : Expr} {a b : List Stmt} {tc : TT} (hc : PT X c tc) (ha : PSs X a t) (hb : PSs X b u) : PS X (.If c a b pos) (tIfS tc t u) := by
  intro pins s σ H D I h
  refine wpAny_If (thn (hc pins s σ H _ I h) fun d s1 ⟨H1, I1, q1⟩ => ?_)
  cases d with
  | true => exact ha pins s1 σ H1 D I1 q1
  | false => exact hb pins s1 σ H1 D I1 q1
def tNever : TS := fun _ _ _ => False
end
abbrev TG := V → St → Hp → (St → Hp → Prop) → Prop
abbrev TGs := List V → St → Hp → (St → Hp → Prop) → Prop
def PG (X : Cx) (target : Expr) (t : TG) : Prop :=
  ∀ (pins : List (Addr × Obj)) (s : Shared) (σ : St) (H : Hp) (v : V) (u : Value) (Q : St → Hp → Prop), Inv X pins σ H s → RelV v u → t v σ H Q →
    wpAny (model X.prog X.w) X.A (assign target X.env u) (fun _ s' => ∃ σ' H', Inv X pins σ' H' s' ∧ Q σ' H') X.xe s
def PGs (X : Cx) (ts : List Expr) (t : TGs) : Prop :=
  ∀ (pins : List (Addr × Obj)) (s : Shared) (σ : St) (H : Hp) (vs : List V) (us : List Value) (Q : St → Hp → Prop), Inv X pins σ H s → Vals vs us → t vs σ H Q →
    wpAny (model X.prog X.w) X.A (assignInOrder ((assignEach ts X.env).map (·.2)) us) (fun _ s' => ∃ σ' H', Inv X pins σ' H' s' ∧ Q σ' H') X.xe s
abbrev TSet := V → V → V → Hp → (Hp → Prop) → Prop
def PSet (X : Cx) (t : TSet) : Prop :=
  ∀ (pins : List (Addr × Obj)) (s : Shared) (σ : St) (H : Hp) (o i v : V) (ov iv u : Value) (Q : Hp → Prop), Inv X pins σ H s → RelV o ov → RelV i iv → RelV v u → t o i v H Q →
    wpAny (model X.prog X.w) X.A (setItem ov iv u) (fun _ s' => ∃ H', Inv X pins σ H' s' ∧ Q H') X.xe s
abbrev TIp := V → V → Hp → VK → Prop
def PIp (X : Cx) (op : Operator) (t : TIp) : Prop :=
  ∀ (pins : List (Addr × Obj)) (s : Shared) (σ : St) (H : Hp) (x y : V) (v u : Value) (Q : VK), Inv X pins σ H s → RelV x v → RelV y u → t x y H Q →
    wpAny (model X.prog X.w) X.A (inplaceOp op v u) (EP X pins σ Q) X.xe s
section
variable {X : Cx} {pos : Pos}
def gName (i : Nat) : TG := fun v σ H Q => Q (σ.set i (some v)) H
theorem pg_name {i : Nat} {x : Str} (hN : X.N.Nodup) (hi : X.N[i]? = some x) (hx : Loc X.env.scope x) (hf : X.fn x = true ∨ X.env.scope.names.lookup x = some .local := by first | exact .inl rfl | exact .inr rfl | assumption) : PG X (.Name x pos) (gName i) := by
  intro pins s σ H v u Q I r h
  exact wpAny_assign_Name (store_ok I hN hi hx r (fun s' I' => ⟨_, H, I', h⟩) hf)
def gNil : TGs := fun vs σ H Q => vs = [] ∧ Q σ H
def gCons (t : TG) (u : TGs) : TGs := fun vs σ H Q => ∃ v r, vs = v :: r ∧ t v σ H fun σ' H' => u r σ' H' Q
theorem pgs_nil : PGs X [] gNil := by
  intro pins s σ H vs us Q I r h
  obtain ⟨e, h⟩ := h
  subst e
  cases r
  exact assignInOrder_nil ⟨σ, H, I, h⟩
theorem pgs_cons {e : Expr} {es : List Expr} {t : TG} {u : TGs} (h1 : PG X e t) (h2 : PGs X es u)
    (hs : (assignEach (e :: es) X.env).map (·.2) = assign e X.env :: (assignEach es X.env).map (·.2) := by rfl) : PGs X (e :: es) (gCons t u) := by
  intro pins s σ H vs us Q I r h
  obtain ⟨v, vr, e1, h⟩ := h
  subst e1
  cases r with
  | cons r rr =>
    rw [hs]
    refine assignInOrder_cons (thn (h1 pins s σ H _ _ _ I r h) fun _ s1 ⟨σ1, H1, I1, q1⟩ => ?_)
    exact h2 pins s1 σ1 H1 _ _ Q I1 rr q1
def gTup (K : PySem.W.Frag) (n : Nat) (t : TGs) : TG := fun v σ H Q => ∃ a xs, v = .ref a ∧ SqT K H a xs ∧ xs.length = n ∧ t xs σ H Q
theorem pg_tup {es : List Expr} {k : Nat} {t : TGs} {n : Nat} (hc : X.calm = true) (h : PGs X es t)
    (hn : (assignEach es X.env).length = n := by rfl) (hst : (assignEach es X.env).findIdx? (·.1) = none := by rfl) : PG X (.Tuple es k pos) (gTup X.K n t) := by
  intro pins s σ H v u Q I r hw
  obtain ⟨a, xs, e1, hq, hl, hw⟩ := hw
  subst e1
  cases r
  obtain ⟨its, rv, ht, hz⟩ := I.tuple hq
  refine assign_Tuple_tuple (I.ok.hd hc) ht (by simp [hn, ← hl, rv.length]) hst fun h' hx => ?_
  have I1 : Inv X pins σ H { s with heap := h' } := I.kept (t' := s.toks) fun b o e => hx b o (Nat.ne_of_lt (Heap.lt_size e)) e
  exact h pins _ σ H xs _ Q I1 (by simpa using rv) hw
def gSub (to ti : TE) (t : TSet) : TG := fun v σ H Q => to σ H fun o H1 => ti σ H1 fun i H2 => t o i v H2 fun H3 => Q σ H3
def tAsg (te : TE) (g : TG) : TS := fun D σ H => te σ H fun x H1 => g x σ H1 D.nx
theorem ps_set {i : Nat} {x : Str} {e : Expr} {te : TE} {pos' : Pos} (hN : X.N.Nodup) (hi : X.N[i]? = some x) (hx : Loc X.env.scope x) (he : PE X e te) (hs : swapsWith e (some (.Name x pos')) pos.line X.env = pure false := by rfl) (hf : X.fn x = true ∨ X.env.scope.names.lookup x = some .local := by first | exact .inl rfl | exact .inr rfl | assumption) :
    PS X (.Assign [.Name x pos'] e pos) (tAsg te (gName i)) := by
  intro pins s σ H D I h
  refine wpAny_Assign_Name (thn (he pins s σ H _ I h) fun v s1 ⟨y, H1, I1, r1, q1⟩ => ?_) hs
  exact store_ok I1 hN hi hx r1 (fun s2 I2 => ⟨_, H1, I2, q1⟩) hf
def tPar (i j : Nat) (ta : TA) : TS := fun D σ H => ta σ H fun vs H1 => ∃ v w, vs = [v, w] ∧ D.nx ((σ.set i (some v)).set j (some w)) H1
def tAug (i : Nat) (te : TE) (ti : TIp) : TS := fun D σ H => ∃ x, σ[i]? = some (some x) ∧ te σ H fun y H1 => ti x y H1 fun z H2 => D.nx (σ.set i (some z)) H2
def tAugS (to ti te : TE) (tget : V → V → Hp → VK → Prop) (tip : TIp) (tset : TSet) : TS := fun D σ H => to σ H fun o H1 => ti σ H1 fun i H2 => tget o i H2 fun x H3 => te σ H3 fun y H4 => tip x y H4 fun z H5 => tset o i z H5 fun H6 => D.nx σ H6
def PGet (X : Cx) (t : V → V → Hp → VK → Prop) : Prop :=
  ∀ (pins : List (Addr × Obj)) (s : Shared) (σ : St) (H : Hp) (o i : V) (ov iv : Value) (Q : VK), Inv X pins σ H s → RelV o ov → RelV i iv → t o i H Q →
    wpAny (model X.prog X.w) X.A (getItem ov iv) (EP X pins σ Q) X.xe s
def ipI (f : Int → Int → Int) : TIp := fun x y H Q => ∃ i j, x = .int i ∧ y = .int j ∧ Q (.int (f i j)) H
end
section
variable {X : Cx} {pos : Pos}
def tWhile (c : TT) (tb : TS) : TS := fun D σ H => ∃ W : Nat → St → Hp → Prop, (∃ m, W m σ H) ∧ ∀ m σ H, W m σ H →
  c σ H fun b H1 => if b = true then ∃ N : St → Hp → Prop, (∀ σ' H', N σ' H' → ∃ m', m' < m ∧ W m' σ' H') ∧ tb { D with nx := N, ct := N, bk := D.nx } σ H1 else D.nx σ H1
end
structure It where
  go : Nat → Hp → Prop
  yld : Nat → Hp → V → Hp → Prop
  stop : Nat → Hp → Prop
def FpOk (X : Cx) (pins : List (Addr × Obj)) (H : Hp) (b : Addr) : Prop :=
  H b = none ∧ b ≠ X.env.locals ∧ b ∉ X.fs ∧ (b ∈ X.ex ∨ X.s₀.heap.objs.size ≤ b) ∧ (∀ x c, X.env.cells.lookup x = some c → c ≠ b) ∧ ∀ p ∈ X.pn ++ pins, p.1 ≠ b
theorem Inv.fpOk {X : Cx} {pins : List (Addr × Obj)} {σ : St} {H H' : Hp} {s : Shared} {b : Addr} (I : Inv X pins σ H s) (hb : s.heap.objs.size ≤ b) (hn : H' b = none) : FpOk X pins H' b := by
  refine ⟨hn, Nat.ne_of_gt (Nat.lt_of_lt_of_le I.lt hb), I.nofs hb, .inr (Nat.le_trans I.sz hb), fun x c e z => ?_, fun p hp z => ?_⟩
  · obtain ⟨v, q⟩ := I.cell x c e
    exact absurd (Nat.lt_of_lt_of_le q.lt (by rw [z]; exact hb)) (Nat.lt_irrefl _)
  · exact absurd (Nat.lt_of_lt_of_le (Heap.lt_size (I.pin p hp).1) (by rw [z]; exact hb)) (Nat.lt_irrefl _)
structure Turn (P : Program) (w : World) (K : PySem.W.Frag) (tg : Expr) (J : It) (fp : List Addr) (it : Addr) (tn : Nat → Heap → Prop) : Prop where
  mem : it ∈ fp
  obj : ∀ i h, tn i h → ∀ b ∈ fp, ∃ o, h.get? b = some o ∧ ∀ v, o.data ≠ .cell v
  keep : ∀ i h h', tn i h → (∀ b ∈ fp, ∀ o, h.get? b = some o → h'.get? b = some o) → tn i h'
  item : ∀ (X : Cx), X.prog = P → X.w = w → X.K = K → X.calm = true → ∀ (i : Nat) (pins : List (Addr × Obj)) (s : Shared) (σ : St) (H : Hp) (E : Value → Shared → Prop), Inv X pins σ H s → (∀ b ∈ fp, FpOk X pins H b) → tn i s.heap → J.go i H →
    wpAny (model P w) X.A (pyNext (.ref it)) (fun r s1 => ∃ u, r = some u ∧
      wpAny (model P w) X.A (letOwnedTupleGo tg (.ref it) u) (fun _ s2 => ∃ x H', Inv X pins σ H' s2 ∧ RelV x u ∧ J.yld i H x H' ∧ tn (i + 1) s2.heap ∧ ∀ b ∈ fp, H' b = none) E s1) E s
  done : ∀ (X : Cx), X.prog = P → X.w = w → X.K = K → X.calm = true → ∀ (i : Nat) (pins : List (Addr × Obj)) (s : Shared) (σ : St) (H : Hp) (E : Value → Shared → Prop), Inv X pins σ H s → (∀ b ∈ fp, FpOk X pins H b) → tn i s.heap → J.stop i H →
    wpAny (model P w) X.A (pyNext (.ref it)) (fun r s1 => r = none ∧ Inv X pins σ H s1) E s
  self : ∀ (A : Around) (i : Nat) (s : Shared) (Q : Value → Shared → Prop) (E : Value → Shared → Prop), tn i s.heap → Q (.ref it) s → wpAny (model P w) A (pyIter (.ref it)) Q E s
abbrev TI := St → Hp → (It → Hp → Prop) → Prop
def PIE (X : Cx) (pins : List (Addr × Obj)) (σ : St) (tg : Expr) (R : It → Hp → Prop) (itv : Value) (s2 : Shared) : Prop :=
  ∃ (it : Addr) (fp : List Addr) (tn : Nat → Heap → Prop) (J : It) (H' : Hp), itv = .ref it ∧ Inv X pins σ H' s2 ∧ Turn X.prog X.w X.K tg J fp it tn ∧ tn 0 s2.heap ∧ (∀ b ∈ fp, FpOk X pins H' b) ∧ R J H'
def PI (X : Cx) (tg iter : Expr) (wi : TI) : Prop :=
  ∀ (pins : List (Addr × Obj)) (s : Shared) (σ : St) (H : Hp) (R : It → Hp → Prop), Inv X pins σ H s → wi σ H R →
    wpAny (model X.prog X.w) X.A (eval iter X.env) (fun v s1 => wpAny (model X.prog X.w) X.A (pyIter v) (PIE X pins σ tg R) X.xe s1) X.xe s
theorem go_of {M : Model} {A : Around} {E : Value → Shared → Prop} {s : Shared} {tg : Expr} {it : Addr} {u : Value} {o : Obj} {n : String} {vs : Array Value} {Q : Unit → Shared → Prop} (ho : s.heap.get? it = some o) (hc : o.cls = .type n) (hd : o.data = .fields vs)
    (hn : ["enumerate", "zip", "dict_itemiterator", "dict_reverseitemiterator", "odict_iterator", "itertools.zip_longest", "itertools.pairwise"].contains n = false) (hQ : Q () s) : wpAny M A (letOwnedTupleGo tg (.ref it) u) Q E s := by
  unfold letOwnedTupleGo
  cases tg <;> first
    | exact wpAny_pure hQ
    | (cases u <;> first
        | exact wpAny_pure hQ
        | (refine wpAny_bind (wpAny_load ho ?_)
           rw [hc, hd]
           show wpAny M A (if (["enumerate", "zip", "dict_itemiterator", "dict_reverseitemiterator", "odict_iterator", "itertools.zip_longest", "itertools.pairwise"].contains n && vs[0]? == some (rawInt _)) = true then _ else _) Q E s
           rw [if_neg (by intro h; rw [hn, Bool.false_and] at h; cases h)]
           exact wpAny_pure hQ))
def Itl (K : PySem.W.Frag) (a : Addr) : It :=
  ⟨fun i H => ∃ xs x, SqL K H a xs ∧ xs[i]? = some x, fun i H x H' => H' = H ∧ ∀ xs, SqL K H a xs → xs[i]? = some x, fun i H => ∃ xs, SqL K H a xs ∧ xs.length ≤ i⟩
def Itt (K : PySem.W.Frag) (a : Addr) : It :=
  ⟨fun i H => ∃ xs x, SqT K H a xs ∧ xs[i]? = some x, fun i H x H' => H' = H ∧ ∀ xs, SqT K H a xs → xs[i]? = some x, fun i H => ∃ xs, SqT K H a xs ∧ xs.length ≤ i⟩
def Itr (lo : Int) (n : Nat) : It := ⟨fun i _ => i < n, fun i H x H' => H' = H ∧ x = .int (lo + i), fun i _ => n ≤ i⟩
theorem turn_list {P : Program} {w : World} {K : PySem.W.Frag} {tg : Expr} (a it : Addr) : Turn P w K tg (Itl K a) [it] it (fun i h => h.IsListIter it a i) where
  mem := by simp
  obj := fun i h st b hb => by
    have e : b = it := by simpa using hb
    subst e
    obtain ⟨o, e, c, d⟩ := st
    exact ⟨o, e, fun v z => by rw [d] at z; cases z⟩
  keep := fun i h h' st k => st.at fun o e => k it (by simp) o e
  item := by
    intro X hP hw hK hc i pins s σ H E I hf st hg
    subst hP hw hK
    obtain ⟨xs, x, hq, hx⟩ := hg
    obtain ⟨its, rv, p, hz⟩ := I.list hq
    obtain ⟨u, hu, ru⟩ := rv.get hx
    obtain ⟨f0, f1, f2, f3, f4, f5⟩ := hf it (by simp)
    refine wpAny_pyNext_list_item st p.isList (x := u) (by simpa using hu) fun h' st' sb => ?_
    have I1 : Inv X pins σ H { s with heap := h' } := I.turned (t' := s.toks) (fun b o hb e => (sb.2 b hb).trans e) f0 f1 f3 f4 f5
    obtain ⟨o, e, c, d⟩ := id st'
    exact ⟨u, rfl, go_of (s := { s with heap := h' }) e c d (by decide) ⟨x, H, I1, ru, ⟨rfl, fun ys hy => by rw [I.list_inj hy hq]; exact hx⟩, st', fun b hb => (hf b hb).1⟩⟩
  done := by
    intro X hP hw hK hc i pins s σ H E I hf st hg
    subst hP hw hK
    obtain ⟨xs, hq, hx⟩ := hg
    obtain ⟨its, rv, p, hz⟩ := I.list hq
    obtain ⟨f0, f1, f2, f3, f4, f5⟩ := hf it (by simp)
    have hl := rv.length
    exact wpAny_pyNext_list_end (I.ok.hd hc) st p.isList (by simp; omega) fun h' eb => ⟨rfl, I.turned (t' := s.toks) (fun b o hb e => eb b o hb e) f0 f1 f3 f4 f5⟩
  self := fun _ _ _ _ _ st h => wpAny_pyIter_listiter st h
theorem turn_tuple {P : Program} {w : World} {K : PySem.W.Frag} {tg : Expr} (a it : Addr) : Turn P w K tg (Itt K a) [it] it (fun i h => h.IsTupleIter it a i) where
  mem := by simp
  obj := fun i h st b hb => by
    have e : b = it := by simpa using hb
    subst e
    obtain ⟨o, e, c, d⟩ := st
    exact ⟨o, e, fun v z => by rw [d] at z; cases z⟩
  keep := fun i h h' st k => st.at fun o e => k it (by simp) o e
  item := by
    intro X hP hw hK hc i pins s σ H E I hf st hg
    subst hP hw hK
    obtain ⟨xs, x, hq, hx⟩ := hg
    obtain ⟨its, rv, p, hz⟩ := I.tuple hq
    obtain ⟨u, hu, ru⟩ := rv.get hx
    obtain ⟨f0, f1, f2, f3, f4, f5⟩ := hf it (by simp)
    refine wpAny_pyNext_tuple_item st (show s.heap.IsTuple a its.toArray from p) (x := u) (by simpa using hu) fun h' st' sb => ?_
    have I1 : Inv X pins σ H { s with heap := h' } := I.turned (t' := s.toks) (fun b o hb e => (sb.2 b hb).trans e) f0 f1 f3 f4 f5
    obtain ⟨o, e, c, d⟩ := id st'
    exact ⟨u, rfl, go_of (s := { s with heap := h' }) e c d (by decide) ⟨x, H, I1, ru, ⟨rfl, fun ys hy => by rw [I.tuple_inj hy hq]; exact hx⟩, st', fun b hb => (hf b hb).1⟩⟩
  done := by
    intro X hP hw hK hc i pins s σ H E I hf st hg
    subst hP hw hK
    obtain ⟨xs, hq, hx⟩ := hg
    obtain ⟨its, rv, p, hz⟩ := I.tuple hq
    obtain ⟨f0, f1, f2, f3, f4, f5⟩ := hf it (by simp)
    have hl := rv.length
    exact wpAny_pyNext_tuple_end (I.ok.hd hc) st (show s.heap.IsTuple a its.toArray from p) (by simp; omega) fun h' eb => ⟨rfl, I.turned (t' := s.toks) (fun b o hb e => eb b o hb e) f0 f1 f3 f4 f5⟩
  self := fun _ _ _ _ _ st h => wpAny_pyIter_tupleiter st h
theorem turn_range {P : Program} {w : World} {K : PySem.W.Frag} {tg : Expr} (it : Addr) (lo : Int) (n : Nat) : Turn P w K tg (Itr lo n) [it] it (fun i h => IsRangeIter h it (lo + (i : Nat) * 1) ((n : Int) - (i : Nat)) 1) where
  mem := by simp
  obj := fun i h st b hb => by
    have e : b = it := by simpa using hb
    subst e
    exact ⟨_, st, fun v z => by
      have z' : Data.fields _ = Data.cell v := z
      cases z'⟩
  keep := fun i h h' st k => k it (by simp) _ st
  item := by
    intro X hP hw hK hc i pins s σ H E I hf st hg
    subst hP hw hK
    obtain ⟨f0, f1, f2, f3, f4, f5⟩ := hf it (by simp)
    have W := Walks.range (prog := X.prog) (w := X.w) (I.ok.hd hc) it lo 1 n
    refine W.item i s _ _ hg st fun v h' tk hv st' kk => ?_
    obtain ⟨t, rfl⟩ := hv
    have I1 : Inv X pins σ H { s with heap := h', toks := tk } := I.turned (fun b o hb e => kk b o (by simpa using hb) e) f0 f1 f3 f4 f5
    refine ⟨_, rfl, go_of (s := { s with heap := h', toks := tk }) (n := "range_iterator") st' rfl rfl (by decide) ⟨.int (lo + i), H, I1, ⟨t, ?_⟩, ⟨rfl, rfl⟩, st', fun b hb => (hf b hb).1⟩⟩
    rw [Int.mul_one]
  done := by
    intro X hP hw hK hc i pins s σ H E I hf st hg
    subst hP hw hK
    obtain ⟨f0, f1, f2, f3, f4, f5⟩ := hf it (by simp)
    exact wpAny_pyNext_range_end (I.ok.hd hc) st (by have : n ≤ i := hg; omega) fun h' eb => ⟨rfl, I.turned (t' := s.toks) (fun b o hb e => eb b o hb e) f0 f1 f3 f4 f5⟩
  self := fun _ _ _ _ _ st h => wpAny_pyIter_rangeiter st h
end L2
namespace L2
open PySem PySem.Spec PyProof.Rows
section
variable {X : Cx} {tg : Expr}
def iList (K : PySem.W.Frag) (tl : TE) : TI := fun σ H R => tl σ H fun x H1 => ∃ a, x = .ref a ∧ (∃ xs, SqL K H1 a xs) ∧ R (Itl K a) H1
def iTup (K : PySem.W.Frag) (tl : TE) : TI := fun σ H R => tl σ H fun x H1 => ∃ a, x = .ref a ∧ (∃ xs, SqT K H1 a xs) ∧ R (Itt K a) H1
theorem pi_list {l : Expr} {tl : TE} (hl : PE X l tl) : PI X tg l (iList X.K tl) := by
  intro pins s σ H R I h
  refine thn (hl pins s σ H _ I h) fun v s1 ⟨x, H1, I1, r1, q1⟩ => ?_
  obtain ⟨a, e, ⟨xs, hq⟩, q⟩ := q1
  subst e
  cases r1
  obtain ⟨its, rv, p, hz⟩ := I1.list hq
  refine wpAny_pyIter_list p.isList ?_
  refine ⟨s1.heap.objs.size, [s1.heap.objs.size], _, _, H1, rfl, I1.kept (t' := s1.toks) fun b o e => Heap.get?_push_of_some _ e, turn_list a _, ⟨_, Heap.get?_push_size _ rfl, rfl, rfl⟩, fun b hb => ?_, q⟩
  have e : b = s1.heap.objs.size := by simpa using hb
  subst e
  exact I1.fpOk (Nat.le_refl _) (I1.hok.fresh (Nat.le_refl _))
theorem pi_tup {l : Expr} {tl : TE} (hl : PE X l tl) : PI X tg l (iTup X.K tl) := by
  intro pins s σ H R I h
  refine thn (hl pins s σ H _ I h) fun v s1 ⟨x, H1, I1, r1, q1⟩ => ?_
  obtain ⟨a, e, ⟨xs, hq⟩, q⟩ := q1
  subst e
  cases r1
  obtain ⟨its, rv, p, hz⟩ := I1.tuple hq
  refine wpAny_pyIter_tuple (show s1.heap.IsTuple a its.toArray from p) ?_
  refine ⟨s1.heap.objs.size, [s1.heap.objs.size], _, _, H1, rfl, I1.kept (t' := s1.toks) fun b o e => Heap.get?_push_of_some _ e, turn_tuple a _, ⟨_, Heap.get?_push_size _ rfl, rfl, rfl⟩, fun b hb => ?_, q⟩
  have e : b = s1.heap.objs.size := by simpa using hb
  subst e
  exact I1.fpOk (Nat.le_refl _) (I1.hok.fresh (Nat.le_refl _))
theorem range_it {pins : List (Addr × Obj)} {σ : St} {H : Hp} {s : Shared} {R : It → Hp → Prop} {E : Value → Shared → Prop} {lo hi : Int} {t u v : Tok} {tk : Nat} (I : Inv X pins σ H s) (h1 : -(2 ^ 62) ≤ lo) (h2 : lo < 2 ^ 62) (h3 : -(2 ^ 62) ≤ hi) (h4 : hi < 2 ^ 62)
    (q : R (Itr lo (hi - lo).toNat) H) : wpAny (model X.prog X.w) X.A (pyIter (.ref s.heap.objs.size)) (PIE X pins σ tg R) E { s with heap := s.heap.push { cls := .type "range", data := .fields #[.int lo t, .int hi u, .int 1 v] }, toks := tk } := by
  refine wpAny_pyIter_range (IsRange.new ..) (small_one h1 h2 h3 h4) ?_
  have I1 : Inv X pins σ H { s with heap := s.heap.push { cls := .type "range", data := .fields #[.int lo t, .int hi u, .int 1 v] }, toks := tk } := I.kept fun b o e => Heap.get?_push_of_some _ e
  refine ⟨(s.heap.push { cls := .type "range", data := .fields #[.int lo t, .int hi u, .int 1 v] }).objs.size, [(s.heap.push { cls := .type "range", data := .fields #[.int lo t, .int hi u, .int 1 v] }).objs.size], _, _, H, rfl,
    I1.kept (t' := tk) fun b o e => Heap.get?_push_of_some _ e, turn_range _ lo (hi - lo).toNat, ?_, fun b hb => ?_, q⟩
  · have e1 : lo + ((0 : Nat) : Int) * 1 = lo := by simp
    have e2 : (((hi - lo).toNat : Nat) : Int) - ((0 : Nat) : Int) = Builtin.Range.rangeSize lo hi 1 := by rw [rangeSize_one]; split <;> omega
    show IsRangeIter _ _ (lo + ((0 : Nat) : Int) * 1) ((((hi - lo).toNat : Nat) : Int) - ((0 : Nat) : Int)) 1
    rw [e1, e2]
    exact Heap.get?_push_size _ rfl
  · have e : b = (s.heap.push { cls := .type "range", data := .fields #[.int lo t, .int hi u, .int 1 v] }).objs.size := by simpa using hb
    subst e
    exact I1.fpOk (Nat.le_refl _) (I1.hok.fresh (Nat.le_refl _))
def iRng1 (ta : TA) : TI := fun σ H R => ta σ H fun vs H1 => ∃ j : Int, vs = [.int j] ∧ -(2 ^ 62) ≤ j ∧ j < 2 ^ 62 ∧ R (Itr 0 j.toNat) H1
def iRng2 (ta : TA) : TI := fun σ H R => ta σ H fun vs H1 => ∃ i j : Int, vs = [.int i, .int j] ∧ (-(2 ^ 62) ≤ i ∧ i < 2 ^ 62 ∧ -(2 ^ 62) ≤ j ∧ j < 2 ^ 62) ∧ R (Itr i (j - i).toNat) H1
theorem pi_range1 {a : Expr} {ta : TA} {p pos : Pos} (hg : Gl X "range") (hm : X.mg "range" = none) (ha : PA X [a] ta) (hs : starEach [a] X.env = [(false, eval a X.env)] := by rfl) : PI X tg (.Call (.Name "range" p) [a] [] pos) (iRng1 ta) := by
  intro pins s σ H R I h
  refine Call_ (ld_blt I hg hm boot_range (PyProof.Rows.callWith_type1 (thn (ha pos pins s σ H _ I h) fun us s1 ⟨vs, H1, I1, r1, q1⟩ => ?_) hs rfl))
  obtain ⟨j, e, q1, q2, q⟩ := q1
  subst e
  cases r1 with
  | cons r rr =>
    cases rr
    obtain ⟨t, rfl⟩ := r
    exact call_range_1 (range_it I1 (by omega) (by omega) q1 q2 (by simpa using q))
theorem pi_range2 {a b : Expr} {ta : TA} {p pos : Pos} (hg : Gl X "range") (hm : X.mg "range" = none) (ha : PA X [a, b] ta) (hs : starEach [a, b] X.env = [(false, eval a X.env), (false, eval b X.env)] := by rfl) (hs2 : starEach [b] X.env = [(false, eval b X.env)] := by rfl) :
    PI X tg (.Call (.Name "range" p) [a, b] [] pos) (iRng2 ta) := by
  intro pins s σ H R I h
  refine Call_ (ld_blt I hg hm boot_range (PyProof.Rows.callWith_type1 (thn (ha pos pins s σ H _ I h) fun us s1 ⟨vs, H1, I1, r1, q1⟩ => ?_) (by rw [hs, hs2]) (by rw [hs2]; rfl)))
  obtain ⟨i, j, e, ⟨q1, q2, q3, q4⟩, q⟩ := q1
  subst e
  cases r1 with
  | cons r rr =>
    cases rr with
    | cons r' rr =>
      cases rr
      obtain ⟨t, rfl⟩ := r
      obtain ⟨t', rfl⟩ := r'
      exact call_range_2 (range_it I1 q1 q2 q3 q4 q)
def tFor (wi : TI) (g : TG) (tb : TS) : TS := fun D σ H => wi σ H fun J H1 => ∃ W : Nat → Nat → St → Hp → Prop, (∃ m, W 0 m σ H1) ∧ ∀ i m σ H, W i m σ H →
  (J.stop i H ∧ D.nx σ H) ∨ (J.go i H ∧ ∃ N : St → Hp → Prop, (∀ σ' H', N σ' H' → ∃ m', m' < m ∧ W (i + 1) m' σ' H') ∧ ∀ x H', J.yld i H x H' → g x σ H' fun σ2 H2 => tb { D with nx := N, ct := N, bk := D.nx } σ2 H2)
def pinsAt (fp : List Addr) (h : Heap) : List (Addr × Obj) := fp.filterMap fun b => (h.get? b).map fun o => (b, o)
theorem mem_pinsAt {fp : List Addr} {h : Heap} {b : Addr} {o : Obj} (hb : b ∈ fp) (e : h.get? b = some o) : (b, o) ∈ pinsAt fp h := List.mem_filterMap.mpr ⟨b, hb, by rw [e]; rfl⟩
theorem of_pinsAt {fp : List Addr} {h : Heap} {p : Addr × Obj} (hp : p ∈ pinsAt fp h) : p.1 ∈ fp ∧ h.get? p.1 = some p.2 := by
  obtain ⟨b, hb, e⟩ := List.mem_filterMap.mp hp
  cases q : h.get? b with
  | none => rw [q] at e; cases e
  | some o =>
    rw [q] at e
    have e' : (b, o) = p := Option.some.inj e
    subst e'
    exact ⟨hb, q⟩
theorem Inv.pinned {pins : List (Addr × Obj)} {σ : St} {H : Hp} {s : Shared} {fp : List Addr} (I : Inv X pins σ H s) (hf : ∀ b ∈ fp, FpOk X pins H b) (ho : ∀ b ∈ fp, ∃ o, s.heap.get? b = some o ∧ ∀ v, o.data ≠ .cell v) : Inv X (pins ++ pinsAt fp s.heap) σ H s :=
  I.pins_of fun p hp => (List.mem_append.mp hp).elim (fun z => I.pin p (List.mem_append_right _ z)) fun z => by
    obtain ⟨hb, e⟩ := of_pinsAt z
    obtain ⟨f0, f1, f2, _⟩ := hf p.1 hb
    obtain ⟨o, e', d⟩ := ho p.1 hb
    rw [e] at e'; cases e'
    exact ⟨e, f0, f1, f2, d⟩
theorem Inv.unpinned {pins pl : List (Addr × Obj)} {σ : St} {H : Hp} {s : Shared} (I : Inv X (pins ++ pl) σ H s) : Inv X pins σ H s := I.pins_of fun p hp => I.pin p (List.mem_append_right _ (List.mem_append_left _ hp))
theorem ps_for {iter : Expr} {body : List Stmt} {wi : TI} {g : TG} {tb : TS} {pos : Pos} (hp : PassesOwn (model X.prog X.w) X.A X.env X.xe) (hc : X.calm = true) (hi : PI X tg iter wi) (hg : PG X tg g) (hb : PSs X body tb)
    (hs : ∀ x, foldedSetIterable iter X.env x = pure x := by intro _; rfl) : PS X (.For tg iter body [] pos) (tFor wi g tb) := by
  intro pins s σ H D I h
  refine wpAny_For (thn (hi pins s σ H _ I h) fun v s1 h1 => thn h1 fun itv s2 h2 => ?_) hs
  obtain ⟨it, fp, tn, J, H2, e, I2, T, st2, f2, W, ⟨m0, w0⟩, turn⟩ := h2
  subst e
  have stat : ∀ {H' : Hp}, (∀ b ∈ fp, H' b = none) → ∀ b ∈ fp, FpOk X pins H' b := fun hn b hb => ⟨hn b hb, (f2 b hb).2⟩
  refine codeAny_forLoop_any (fun n s' => ∃ i σ' H', Inv X pins σ' H' s' ∧ tn i s'.heap ∧ (∀ b ∈ fp, H' b = none) ∧ W i n σ' H') ?_ m0 ⟨0, σ, H2, I2, st2, fun b hb => (f2 b hb).1, w0⟩
  rintro n s3 ⟨i, σ3, H3, I3, st3, fr3, w3⟩
  rcases turn i n σ3 H3 w3 with ⟨stop, qn⟩ | ⟨go, N, hN, step⟩
  · refine wpAny_passesOwn hp (thn (T.done X rfl rfl rfl hc i pins s3 σ3 H3 X.xe I3 (stat fr3) st3 stop) fun r s4 ⟨hr, I4⟩ => ?_)
    subst hr
    exact wpAny_execs_nil ⟨σ3, H3, I4, qn⟩
  · refine wpAny_passesOwn hp (thn (T.item X rfl rfl rfl hc i pins s3 σ3 H3 X.xe I3 (stat fr3) st3 go) fun r s4 ⟨u, hr, h4⟩ => ?_)
    subst hr
    refine wpAny_passesOwn hp (thn h4 fun _ s5 ⟨x, H5, I5, r5, y5, st5, fr5⟩ => ?_)
    have I5' := I5.pinned (stat fr5) (T.obj _ _ st5)
    refine wpAny_passesOwn hp (thn (hg _ s5 σ3 H5 x u _ I5' r5 (step x H5 y5)) fun _ s6 ⟨σ6, H6, I6, q6⟩ => ?_)
    refine wpAny_passesOwn hp (thn (hb _ s6 σ6 H6 _ I6 q6) fun f s7 q7 => ?_)
    have again : ∀ {σ7 : St} {H7 : Hp}, Inv X (pins ++ pinsAt fp s5.heap) σ7 H7 s7 → N σ7 H7 → ∃ m, m < n ∧ ∃ i σ' H', Inv X pins σ' H' s7 ∧ tn i s7.heap ∧ (∀ b ∈ fp, H' b = none) ∧ W i m σ' H' := fun {σ7 H7} I7 n7 => by
      obtain ⟨m', hm, w7⟩ := hN σ7 H7 n7
      refine ⟨m', hm, i + 1, σ7, H7, I7.unpinned, T.keep _ _ _ st5 fun b hb o e => (I7.pin (b, o) (List.mem_append_right _ (List.mem_append_right _ (mem_pinsAt hb e)))).1, fun b hb => ?_, w7⟩
      obtain ⟨o, e, d⟩ := T.obj _ _ st5 b hb
      exact (I7.pin (b, o) (List.mem_append_right _ (List.mem_append_right _ (mem_pinsAt hb e)))).2.1
    cases f with
    | next => obtain ⟨σ7, H7, I7, n7⟩ := q7; exact again I7 n7
    | cont => obtain ⟨σ7, H7, I7, n7⟩ := q7; exact again I7 n7
    | brk => obtain ⟨σ7, H7, I7, q7⟩ := q7; exact ⟨σ7, H7, I7.unpinned, q7⟩
    | ret v => obtain ⟨x7, σ7, H7, I7, r7, q7⟩ := q7; exact ⟨x7, σ7, H7, I7.unpinned, r7, q7⟩
end
end L2
namespace L2
open PySem PySem.Spec PyProof.Rows
abbrev R2 := V → V → Hp → VK → Prop
def OpR (X : Cx) (f : Value → Value → Sem Value) (r : R2) : Prop :=
  ∀ (pins : List (Addr × Obj)) (s : Shared) (σ : St) (H : Hp) (x y : V) (v u : Value) (Q : VK), Inv X pins σ H s → RelV x v → RelV y u → r x y H Q →
    wpAny (model X.prog X.w) X.A (f v u) (EP X pins σ Q) X.xe s
def UnR (X : Cx) (f : Value → Sem Value) (r : V → Hp → VK → Prop) : Prop :=
  ∀ (pins : List (Addr × Obj)) (s : Shared) (σ : St) (H : Hp) (x : V) (v : Value) (Q : VK), Inv X pins σ H s → RelV x v → r x H Q →
    wpAny (model X.prog X.w) X.A (f v) (EP X pins σ Q) X.xe s
def CallR (X : Cx) (f : Value) (r : List V → Hp → VK → Prop) : Prop :=
  ∀ (pins : List (Addr × Obj)) (s : Shared) (σ : St) (H : Hp) (xs : List V) (us : List Value) (Q : VK), Inv X pins σ H s → Vals xs us → r xs H Q →
    wpAny (model X.prog X.w) X.A (call f us) (EP X pins σ Q) X.xe s
def TruR (X : Cx) (r : V → Hp → (Bool → Hp → Prop) → Prop) : Prop :=
  ∀ (pins : List (Addr × Obj)) (s : Shared) (σ : St) (H : Hp) (x : V) (v : Value) (Q : Bool → Hp → Prop), Inv X pins σ H s → RelV x v → r x H Q →
    wpAny (model X.prog X.w) X.A (truthy v) (TP X pins σ Q) X.xe s
def tOp (r : R2) (ta tb : TE) : TE := fun σ H Q => ta σ H fun x H1 => tb σ H1 fun y H2 => r x y H2 Q
def tUn (r : V → Hp → VK → Prop) (ta : TE) : TE := fun σ H Q => ta σ H fun x H1 => r x H1 Q
def rI (C : Int → Int → Prop) (g : Int → Int → V) : R2 := fun x y H Q => ∃ i j, x = .int i ∧ y = .int j ∧ C i j ∧ Q (g i j) H
def rI0 (g : Int → Int → V) : R2 := fun x y H Q => ∃ i j, x = .int i ∧ y = .int j ∧ Q (g i j) H
def rU (g : Int → V) : V → Hp → VK → Prop := fun x H Q => ∃ i, x = .int i ∧ Q (g i) H
section
variable {X : Cx} {a b c : Expr} {ta tb tc : TE} {pos : Pos}
theorem binT (ha : PE X a ta) (hb : PE X b tb) {pins : List (Addr × Obj)} {s : Shared} {σ : St} {H : Hp} {R : V → V → Hp → Prop} (I : Inv X pins σ H s)
    (h : ta σ H fun x H1 => tb σ H1 fun y H2 => R x y H2) {Q : Value → Shared → Prop} {f : Value → Value → Sem Value}
    (hf : ∀ v u s2 x y H2, Inv X pins σ H2 s2 → RelV x v → RelV y u → R x y H2 → wpAny (model X.prog X.w) X.A (f v u) Q X.xe s2) :
    wpAny (model X.prog X.w) X.A (eval a X.env) (fun v s₁ => wpAny (model X.prog X.w) X.A (eval b X.env) (fun u s₂ => wpAny (model X.prog X.w) X.A (f v u) Q X.xe s₂) X.xe s₁) X.xe s := by
  refine thn (ha pins s σ H _ I h) fun v s1 ⟨x, H1, I1, r1, q1⟩ => ?_
  refine thn (hb pins s1 σ H1 _ I1 q1) fun u s2 ⟨y, H2, I2, r2, q2⟩ => ?_
  exact hf v u s2 x y H2 I2 r1 r2 q2
theorem pe_op {op : Operator} {r : R2} (ho : OpR X (binaryOp op) r) (ha : PE X a ta) (hb : PE X b tb) : PE X (.BinOp a op b pos) (tOp r ta tb) := by
  intro pins s σ H Q I h
  exact wpAny_BinOp (binT ha hb I h fun v u s2 x y H2 I2 rx ry q => ho pins s2 σ H2 x y v u Q I2 rx ry q)
theorem opI {f : Value → Value → Sem Value} {C : Int → Int → Prop} {g : Int → Int → Int}
    (rule : ∀ (i j : Int) (t u : Tok) (s : Shared) (Q : Value → Shared → Prop) (E : Value → Shared → Prop), C i j → Q (.int (g i j) s.toks) { s with toks := s.toks + 1 } → wpAny (model X.prog X.w) X.A (f (.int i t) (.int j u)) Q E s) :
    OpR X f (rI C fun i j => .int (g i j)) := by
  intro pins s σ H x y v u Q I rx ry h
  obtain ⟨i, j, rfl, rfl, hc, q⟩ := h
  obtain ⟨t, rfl⟩ := rx
  obtain ⟨t', rfl⟩ := ry
  exact rule i j t t' s _ _ hc ⟨.int (g i j), H, I.tok _, ⟨_, rfl⟩, q⟩
theorem opI0 {f : Value → Value → Sem Value} {g : Int → Int → Int}
    (rule : ∀ (i j : Int) (t u : Tok) (s : Shared) (Q : Value → Shared → Prop) (E : Value → Shared → Prop), Q (.int (g i j) s.toks) { s with toks := s.toks + 1 } → wpAny (model X.prog X.w) X.A (f (.int i t) (.int j u)) Q E s) :
    OpR X f (rI0 fun i j => .int (g i j)) := by
  intro pins s σ H x y v u Q I rx ry h
  obtain ⟨i, j, rfl, rfl, q⟩ := h
  obtain ⟨t, rfl⟩ := rx
  obtain ⟨t', rfl⟩ := ry
  exact rule i j t t' s _ _ ⟨.int (g i j), H, I.tok _, ⟨_, rfl⟩, q⟩
theorem opB0 {f : Value → Value → Sem Value} {g : Int → Int → Bool}
    (rule : ∀ (i j : Int) (t u : Tok) (s : Shared) (Q : Value → Shared → Prop) (E : Value → Shared → Prop), Q (.bool (g i j)) s → wpAny (model X.prog X.w) X.A (f (.int i t) (.int j u)) Q E s) :
    OpR X f (rI0 fun i j => .bl (g i j)) := by
  intro pins s σ H x y v u Q I rx ry h
  obtain ⟨i, j, rfl, rfl, q⟩ := h
  obtain ⟨t, rfl⟩ := rx
  obtain ⟨t', rfl⟩ := ry
  exact rule i j t t' s _ _ ⟨.bl (g i j), H, I, rfl, q⟩
def CDiv (i j : Int) : Prop := 0 < j ∧ j < 1073741824
def CDivN (i j : Int) : Prop := j ≠ 0 ∧ j.natAbs < 1073741824
def CPow (i j : Int) : Prop := 0 ≤ j ∧ j ≤ 1000000 ∧ i.natAbs < 2 ^ 64
def CMul (i j : Int) : Prop := (-(2 ^ 64) < i ∧ i < 2 ^ 64) ∨ (-(2 ^ 64) < j ∧ j < 2 ^ 64)
theorem CMul.ok {i j : Int} (h : CMul i j) : IntMulOk i j := by
  rcases h with ⟨h1, h2⟩ | ⟨h1, h2⟩
  · exact .of_left (intBits_le_64 h1 h2)
  · exact .of_right (intBits_le_64 h1 h2)
theorem op_add : OpR X (binaryOp .Add) (rI0 fun i j => .int (i + j)) := opI0 fun _ _ _ _ _ _ _ q => add_int q
theorem op_sub : OpR X (binaryOp .Sub) (rI0 fun i j => .int (i - j)) := opI0 fun _ _ _ _ _ _ _ q => sub_int q
theorem op_mul : OpR X (binaryOp .Mult) (rI CMul fun i j => .int (i * j)) := opI fun _ _ _ _ _ _ _ hc q => mul_int q hc.ok
theorem op_fdiv : OpR X (binaryOp .FloorDiv) (rI CDiv fun i j => .int (i / j)) := opI fun i j _ _ _ _ _ hc q => by
  have h1 : (0 : Int) < j := hc.1
  have h2 : j < 1073741824 := hc.2
  exact floordiv_int (by omega) (by rw [Int.fdiv_eq_ediv_of_nonneg i (by omega)]; exact q) (.inl (PyProof.noPylong_small (by omega)))
theorem op_mod : OpR X (binaryOp .Mod) (rI (fun _ j => 0 < j) fun i j => .int (i % j)) := opI fun i j _ _ _ _ _ hc q => by
  have h1 : (0 : Int) < j := hc
  exact mod_int' (by omega) (by rw [Int.fmod_eq_emod_of_nonneg i (by omega)]; exact q)
end
def scal : V → V → Bool
  | .non, .non => true | .non, .int _ => true | .int _, .non => true | .non, .bl _ => true | .bl _, .non => true | .non, .str _ => true | .str _, .non => true
  | .int _, .int _ => true | .bl _, .bl _ => true | .str _, .str _ => true | .byt _, .byt _ => true
  | .int _, .str _ => true | .str _, .int _ => true | .bl _, .str _ => true | .str _, .bl _ => true
  | _, _ => false
def rEq : R2 := fun x y H Q => scal x y = true ∧ Q (.bl (decide (x = y))) H
def rNe : R2 := fun x y H Q => scal x y = true ∧ Q (.bl (!decide (x = y))) H
section
variable {X : Cx} {a b c : Expr} {ta tb tc : TE} {pos : Pos}
theorem op_lt : OpR X (compareOp .Lt) (rI0 fun i j => .bl (decide (i < j))) := opB0 fun _ _ _ _ _ _ _ q => lt_int q
theorem op_gt : OpR X (compareOp .Gt) (rI0 fun i j => .bl (decide (j < i))) := opB0 fun _ _ _ _ _ _ _ q => gt_int q
def isObj : HO → Bool
  | .lst _ => true
  | .ins _ _ _ => true
  | _ => false
theorem OpR.or {f : Value → Value → Sem Value} {r r' : R2} (h : OpR X f r) (h' : OpR X f r') : OpR X f (fun x y H Q => r x y H Q ∨ r' x y H Q) := by
  intro pins s σ H x y v u Q I rx ry q
  rcases q with q | q
  · exact h pins s σ H x y v u Q I rx ry q
  · exact h' pins s σ H x y v u Q I rx ry q
theorem nomark (b : Expr) {op : CmpOp} (h : op ≠ .In := by decide) (h2 : op ≠ .NotIn := by decide) : behindInMarks op b = false := by
  have e1 : (op == CmpOp.In) = false := by cases op <;> first | rfl | exact absurd rfl h
  have e2 : (op == CmpOp.NotIn) = false := by cases op <;> first | rfl | exact absurd rfl h2
  cases b <;> simp [behindInMarks, e1, e2]
theorem pe_cmpR {op : CmpOp} {r : R2} (ho : OpR X (compareOp op) r) (ha : PE X a ta) (hb : PE X b tb) (hm : behindInMarks op b = false) : PE X (.Compare a [op] [b] pos) (tOp r ta tb) := by
  intro pins s σ H Q I h
  exact wpAny_Compare1 (binT ha hb I h fun v u s2 x y H2 I2 rx ry q => ho pins s2 σ H2 x y v u Q I2 rx ry q) hm
def tTest (t : TE) : TT := fun σ H Q => t σ H fun x H' => ∃ k, x = .bl k ∧ Q k H'
theorem pt_cmpR {op : CmpOp} {r : R2} (ho : OpR X (compareOp op) r) (ha : PE X a ta) (hb : PE X b tb) (hm : behindInMarks op b = false) : PT X (.Compare a [op] [b] pos) (tTest (tOp r ta tb)) := by
  intro pins s σ H Q I h
  refine wpAny_isTrue_Compare1 (thn (ha pins s σ H _ I h) fun v s1 ⟨x, H1, I1, r1, q1⟩ => thn (hb pins s1 σ H1 _ I1 q1) fun u s2 ⟨y, H2, I2, r2, q2⟩ =>
    thn (ho pins s2 σ H2 x y v u _ I2 r1 r2 q2) fun c s3 ⟨z, H3, I3, r3, k, e, q3⟩ => ?_) hm
  subst e
  cases r3
  exact wpAny_truthy_bool ⟨H3, I3, q3⟩
def tChain (r r' : R2) (ta tb tc : TE) : TE := fun σ H Q => ta σ H fun x H1 => tb σ H1 fun y H2 => r x y H2 fun z H3 => ∃ k, z = .bl k ∧
  (if k = true then tc σ H3 fun w' H4 => r' y w' H4 Q else Q (.bl false) H3)
theorem pt_chain {op op' : CmpOp} {r r' : R2} (ho : OpR X (compareOp op) r) (ho' : OpR X (compareOp op') r') (ha : PE X a ta) (hb : PE X b tb) (hc : PE X c tc)
    (hm : lastMarks [op, op'] [b, c] = false := by with_unfolding_all rfl) : PT X (.Compare a [op, op'] [b, c] pos) (tTest (tChain r r' ta tb tc)) := by
  intro pins s σ H Q I h
  refine isTrue_chain (thn (ha pins s σ H _ I h) fun v s1 ⟨x, H1, I1, r1, q1⟩ => test_link (thn (hb pins s1 σ H1 _ I1 q1) fun u s2 ⟨y, H2, I2, r2, q2⟩ =>
    thn (ho pins s2 σ H2 x y v u _ I2 r1 r2 q2) fun d s3 ⟨z, H3, I3, r3, k, e, q3⟩ => ?_)) hm
  subst e
  cases r3
  refine wpAny_truthy_bool ?_
  cases k with
  | false =>
    obtain ⟨k', e', q'⟩ := q3
    cases e'
    exact ite_ff ⟨H3, I3, q'⟩
  | true =>
    refine ite_tt (test_last (thn (hc pins s3 σ H3 _ I3 q3) fun w' s4 ⟨z', H4, I4, r4, q4⟩ => thn (ho' pins s4 σ H4 y z' u w' _ I4 r2 r4 q4) fun d' s5 ⟨z2, H5, I5, r5, k2, e2, q5⟩ => ?_))
    subst e2
    cases r5
    exact wpAny_truthy_bool ⟨H5, I5, q5⟩
def TruV (K : PySem.W.Frag) (x : V) (H : Hp) (k : Bool) : Prop :=
  match x with
  | .non => k = false
  | .bl b => k = b
  | .int i => k = (i != 0)
  | .str y => y.length ≤ sizeLine ∧ k = ((y.length : Int) != 0)
  | .byt y => y.size ≤ sizeLine ∧ k = ((y.size : Int) != 0)
  | .ref p => (∃ xs, SqL K H p xs ∧ k = !xs.isEmpty) ∨ (∃ xs, SqT K H p xs ∧ k = !xs.isEmpty) ∨ ∃ kvs, H p = some (.dK kvs) ∧ k = !kvs.isEmpty
  | _ => False
theorem isEmpty_kv {κ : Type} {kvs : List (κ × V)} {vs : List (κ × Value)} (r : KV kvs vs) : (!vs.isEmpty) = !kvs.isEmpty := by
  cases r <;> rfl
theorem isEmpty_of {xs : List V} {its : List Value} (r : Vals xs its) : (!its.toArray.isEmpty) = !xs.isEmpty := by
  cases r <;> simp
theorem line63 : (sizeLine : Nat) < 2 ^ 63 := by rw [sizeLine_eq]; decide
theorem tru_ok : TruR X (fun x H Q => ∃ k, TruV X.K x H k ∧ Q k H) := by
  intro pins s σ H x v Q I rx h
  obtain ⟨k, e, q⟩ := h
  have hl := line63
  have hs : sizeLine = 16777216 := sizeLine_eq
  cases x with
  | non =>
    cases rx
    have e' : k = false := e
    subst e'
    exact truthy_none ⟨H, I, q⟩
  | bl b =>
    cases rx
    have e' : k = b := e
    subst e'
    exact wpAny_truthy_bool ⟨H, I, q⟩
  | int i =>
    obtain ⟨t, rfl⟩ := rx
    have e' : k = (i != 0) := e
    subst e'
    exact PySem.P.truthy_int ⟨H, I, q⟩
  | str y =>
    obtain ⟨t, rfl⟩ := rx
    obtain ⟨hy, e'⟩ : y.length ≤ sizeLine ∧ k = ((y.length : Int) != 0) := e
    subst e'
    exact PySem.P.truthy_str (by omega) ⟨H, I.tok _, q⟩
  | byt y =>
    obtain ⟨t, rfl⟩ := rx
    obtain ⟨hy, e'⟩ : y.size ≤ sizeLine ∧ k = ((y.size : Int) != 0) := e
    subst e'
    exact PySem.W.truthy_bytes (by omega) ⟨H, I.tok _, q⟩
  | ref p =>
    cases rx
    have e' : (∃ xs, SqL X.K H p xs ∧ k = !xs.isEmpty) ∨ (∃ xs, SqT X.K H p xs ∧ k = !xs.isEmpty) ∨ ∃ kvs, H p = some (.dK kvs) ∧ k = !kvs.isEmpty := e
    rcases e' with ⟨xs, hx, e'⟩ | ⟨xs, hx, e'⟩ | ⟨kvs, hx, e'⟩
    · subst e'
      obtain ⟨its, r, pl, hz⟩ := I.list hx
      have hlen := r.length
      exact wpAny_truthy_list pl.isList (by simp only [List.size_toArray]; omega) ⟨H, I.tok _, by rw [isEmpty_of r]; exact q⟩
    · subst e'
      obtain ⟨its, r, pl, hz⟩ := I.tuple hx
      have hlen := r.length
      exact truthy_tuple pl (by simp only [List.size_toArray]; omega) ⟨H, I.tok _, by rw [isEmpty_of r]; exact q⟩
    · subst e'
      obtain ⟨hz, hS, vs, r, m⟩ : kvs.length ≤ sizeLine ∧ (p == sysModules) = false ∧ ∃ vs, KV kvs vs ∧ s.heap.DictOf (mixKind X.prog X.w) p vs := I.hok p _ hx
      have hlen : kvs.length = vs.length := Paired.length r
      exact wpAny_truthy_dict hS m (by omega) ⟨H, I.tok _, by rw [isEmpty_kv r]; exact q⟩
  | _ => exact (show False from e).elim
theorem pt_truth (ha : PE X a ta) (he : ∀ whole, isTrue a X.env whole = (do let v ← whole; standAt a.pos; holding [v] (truthy v))) :
    PT X a (fun σ H Q => ta σ H fun x H' => ∃ k, TruV X.K x H' k ∧ Q k H') := by
  intro pins s σ H Q I h
  exact isTrue_plain (thn (ha pins s σ H _ I h) fun v s1 ⟨x, H1, I1, r1, q1⟩ => tru_ok pins s1 σ H1 x v Q I1 r1 q1) (he _)
def PlainIxT (b : Expr) : Prop := ∀ o i, subscripted b false o i = operate [o, i] (getItem o i)
theorem vals1 {x : V} {us : List Value} (r : Vals [x] us) : ∃ u, us = [u] ∧ RelV x u := by
  cases r with
  | cons r1 r2 => cases r2; exact ⟨_, rfl, r1⟩
theorem vals2 {x y : V} {us : List Value} (r : Vals [x, y] us) : ∃ u w', us = [u, w'] ∧ RelV x u ∧ RelV y w' := by
  cases r with
  | cons r1 r2 =>
    cases r2 with
    | cons r3 r4 => cases r4; exact ⟨_, _, rfl, r1, r3⟩
theorem call_max2 (hc : X.calm = true) : CallR X (.builtin "max") (fun xs H Q => ∃ i j, xs = [.int i, .int j] ∧ Q (.int (if j > i then j else i)) H) := by
  intro pins s σ H xs us Q I r h
  obtain ⟨i, j, rfl, q⟩ := h
  obtain ⟨u, w', rfl, ⟨t, rfl⟩, ⟨t', rfl⟩⟩ := vals2 r
  refine max_two_ints (I.ok.hd hc) fun h' tk k => ⟨_, H, I.kept k, ?_, q⟩
  by_cases hj : j > i
  · rw [if_pos hj, if_pos hj]; exact ⟨_, rfl⟩
  · rw [if_neg hj, if_neg hj]; exact ⟨_, rfl⟩
theorem call_min2 (hc : X.calm = true) : CallR X (.builtin "min") (fun xs H Q => ∃ i j, xs = [.int i, .int j] ∧ Q (.int (if j < i then j else i)) H) := by
  intro pins s σ H xs us Q I r h
  obtain ⟨i, j, rfl, q⟩ := h
  obtain ⟨u, w', rfl, ⟨t, rfl⟩, ⟨t', rfl⟩⟩ := vals2 r
  refine min_two_ints (I.ok.hd hc) fun h' tk k => ⟨_, H, I.kept k, ?_, q⟩
  by_cases hj : j < i
  · rw [if_pos hj, if_pos hj]; exact ⟨_, rfl⟩
  · rw [if_neg hj, if_neg hj]; exact ⟨_, rfl⟩
theorem call_int1 : CallR X (.type "int") (fun xs H Q => (∃ i, xs = [.int i] ∧ Q (.int i) H) ∨ ∃ k, xs = [.bl k] ∧ Q (.int (if k then 1 else 0)) H) := by
  intro pins s σ H xs us Q I r h
  rcases h with ⟨i, rfl, q⟩ | ⟨k, rfl, q⟩
  · obtain ⟨u, rfl, t, rfl⟩ := vals1 r
    exact call_int_int ⟨.int i, H, I, ⟨_, rfl⟩, q⟩
  · obtain ⟨u, rfl, r1⟩ := vals1 r
    cases r1
    exact call_int_bool ⟨.int (if k then 1 else 0), H, I.tok _, ⟨_, rfl⟩, q⟩
def LenV (K : PySem.W.Frag) (x : V) (H : Hp) (n : Nat) : Prop :=
  match x with
  | .str y => y.length ≤ sizeLine ∧ n = y.length
  | .byt y => y.size ≤ sizeLine ∧ n = y.size
  | .ref p => (∃ xs, SqL K H p xs ∧ n = xs.length) ∨ ∃ xs, SqT K H p xs ∧ n = xs.length
  | _ => False
end
end L2
namespace L2
open PySem PySem.Spec PyProof.Rows
structure ObjM (h : Heap) (x dx C : Addr) (mA : Str → Option Value) : Prop where
  obj : h.get? x = some (PySem.W.instObj C dx)
  ns : h.Ns1 dx mA
  ne : dx ≠ x
theorem lookIn_ns {h : Heap} {dx : Addr} {mA : Str → Option Value} (n : h.Ns1 dx mA) : ∃ od, h.get? dx = some od ∧ ∀ name, PySem.W.lookIn name od = some (mA name) := by
  obtain ⟨o, es, ep, ho, hd, hk, _, hm⟩ := n
  refine ⟨o, ho, fun name => ?_⟩
  have e := hm name
  unfold nsFind findBy at e
  rw [← Array.find?_toList] at e
  unfold PySem.W.lookIn
  rw [hd]
  dsimp only
  split
  · rename_i y q
    rw [q] at e
    exact congrArg some e
  · rename_i q
    rw [q] at e
    have a : es.toList.any (·.refKey) = false := by
      rw [List.any_eq_false]
      intro y hy
      obtain ⟨z, t, hkey⟩ := hk y (Array.mem_toList_iff.mp hy)
      simp [DictEntry.refKey, hkey]
    have a' : ¬ es.toList.any (·.refKey) = true := by rw [a]; exact Bool.false_ne_true
    rw [if_neg a']
    exact congrArg some e
theorem ObjM.look {h : Heap} {x dx C : Addr} {mA : Str → Option Value} (I : ObjM h x dx C mA) : ∃ od, PySem.W.InstAt h x (PySem.W.instObj C dx) C (some od) ∧ ∀ name, PySem.W.lookIn name od = some (mA name) :=
  let ⟨od, ho, hl⟩ := lookIn_ns I.ns
  ⟨od, ⟨I.obj, rfl, rfl, ho⟩, hl⟩
def putF (f : Str) (v : V) : List (Str × V) → List (Str × V)
  | [] => [(f, v)]
  | (g, x) :: r => if g = f then (g, v) :: r else (g, x) :: putF f v r
theorem RelO.some_of {v : V} {o : Option Value} (r : RelO (some v) o) : ∃ u, o = some u ∧ RelV v u := by
  cases o with
  | none => exact (show False from r).elim
  | some u => exact ⟨u, rfl, r⟩
structure Cls (K : PySem.W.Frag) (C : Addr) : Prop where
  pg : PySem.W.plainGet K C Str.empty = true
  hd : PySem.W.hasDictIn K C = true
  po : PySem.W.plainOver K C = true
  sa : PySem.W.findIn K (.ref C) "__setattr__" = some (some (.builtin "object.__setattr__"))
theorem Cls.get {K : PySem.W.Frag} {C : Addr} (c : Cls K C) (f : Str) : PySem.W.plainGet K C f = true := c.pg
def NoAttr (K : PySem.W.Frag) (C : Addr) (f : Str) : Prop := PySem.W.findIn K (.ref C) f = some none
structure Con (K : PySem.W.Frag) (C : Addr) (f : Str) (v : V) (u : Value) : Prop where
  at_ : PySem.W.findIn K (.ref C) f = some (some u)
  rel : RelV v u
  get : PySem.W.specialIn K u "__get__" = some none
  cp : PySem.W.copiedNames.contains f = false
structure Meth (K : PySem.W.Frag) (C : Addr) (m : Str) (f : Addr) : Prop where
  at_ : PySem.W.findIn K (.ref C) m = some (some (.ref f))
  fn : PySem.W.isFn K (.ref f) = true
  kp : PySem.W.keepIn K (.ref f) = true
def tFld (K : PySem.W.Frag) (ta : TE) (f : Str) : TE := fun σ H Q => ta σ H fun x H1 => ∃ a C dx fs v, x = .ref a ∧ H1 a = some (.ins C dx fs) ∧ Cls K C ∧ NoAttr K C f ∧ fs.lookup f = some v ∧ Q v H1
def tCon (K : PySem.W.Frag) (ta : TE) (f : Str) : TE := fun σ H Q => ta σ H fun x H1 => ∃ a C dx fs v u, x = .ref a ∧ H1 a = some (.ins C dx fs) ∧ Cls K C ∧ Con K C f v u ∧ fs.lookup f = none ∧ Q v H1
def sFld (K : PySem.W.Frag) (ta tv : TE) (f : Str) : TS := fun D σ H => tv σ H fun y H1 => ta σ H1 fun x H2 => ∃ a C dx fs, x = .ref a ∧ H2 a = some (.ins C dx fs) ∧ Cls K C ∧ NoAttr K C f ∧ fs.length < 1000 ∧
  D.nx σ (upd H2 a (.ins C dx (putF f y fs)))
def InOp (X : Cx) (op : Operator) (rd : V → V → Hp → VK → Prop) : Prop :=
  ∀ (pins : List (Addr × Obj)) (s : Shared) (σ : St) (H : Hp) (x y : V) (u v : Value) (Q : VK), Inv X pins σ H s → RelV x u → RelV y v → rd x y H Q → wpAny (model X.prog X.w) X.A (inplaceOp op u v) (EP X pins σ Q) X.xe s
def sFldAug (K : PySem.W.Frag) (ta tv : TE) (rd : V → V → Hp → VK → Prop) (f : Str) : TS := fun D σ H => ta σ H fun x H1 => ∃ a C dx fs v, x = .ref a ∧ H1 a = some (.ins C dx fs) ∧ Cls K C ∧ NoAttr K C f ∧ fs.lookup f = some v ∧
  tv σ H1 fun y H2 => rd v y H2 fun z H3 => ∃ dx' fs', H3 a = some (.ins C dx' fs') ∧ fs'.length < 1000 ∧ D.nx σ (upd H3 a (.ins C dx' (putF f z fs')))
section
variable {X : Cx} {o e value : Expr} {f : Str} {pos pos' tpos : Pos} {ta tv : TE}
def rAdd : V → V → Hp → VK → Prop := fun x y H Q => ∃ i j, x = .int i ∧ y = .int j ∧ Q (.int (i + j)) H
def rSub : V → V → Hp → VK → Prop := fun x y H Q => ∃ i j, x = .int i ∧ y = .int j ∧ Q (.int (i - j)) H
end
section
variable {X : Cx} {pins : List (Addr × Obj)} {σ : St} {H : Hp} {s : Shared} {A : Around} {E : Value → Shared → Prop} {Q : Value → Shared → Prop} {c : Value} {b : Bool}
inductive TyOf (K : PySem.W.Frag) (H : Hp) : V → Value → Prop where
  | non : TyOf K H .non (.type "NoneType")
  | bl (x : Bool) : TyOf K H (.bl x) (.type "bool")
  | int (i : Int) : TyOf K H (.int i) (.type "int")
  | str (x : Str) : TyOf K H (.str x) (.type "str")
  | flt (x : UInt64) : TyOf K H (.flt x) (.type "float")
  | lst {a : Addr} {xs : List V} (e : H a = some (.lst xs)) : TyOf K H (.ref a) (.type "list")
  | frz {a : Addr} {o : Obj} {xs : List V} (e : H a = some (.frz o (.lst xs))) : TyOf K H (.ref a) (.type "list")
  | tup {a : Addr} {xs : List V} (e : H a = some (.tup xs)) : TyOf K H (.ref a) (.type "tuple")
  | dK {a : Addr} {kvs : List (Key × V)} (e : H a = some (.dK kvs)) : TyOf K H (.ref a) (.type "dict")
  | dT {a : Addr} {kvs : List (List Key × V)} (e : H a = some (.dT kvs)) : TyOf K H (.ref a) (.type "dict")
  | ins {a C dx : Addr} {fs : List (Str × V)} (e : H a = some (.ins C dx fs)) (cl : Cls K C) (ha : PySem.W.findIn K (.ref C) "__class__" = some (some (.builtin "object.__class__")))
      (hn : PySem.W.specialIn K (.builtin "object.__class__") "__get__" = some (some (.builtin "getset_descriptor.__get__"))) (htk : PySem.W.takesIn K (.builtin "object.__class__") = some true)
      (hm : PySem.W.mroIn K C (.type "object") = some true) : TyOf K H (.ref a) (.ref C)
end
end L2
namespace L2
open PySem PySem.Spec PyProof.Rows
structure Room (k : Nat) (A : Around) : Prop where
  hd : A.handled = none
  dp : A.depth + 3 * k + 5 < recursionLimit
  un : A.units + 16 * k + 200 < cLine
theorem Room.mono {j k : Nat} {A : Around} (r : Room k A) (h : j ≤ k) : Room j A := ⟨r.hd, by have := r.dp; omega, by have := r.un; omega⟩
theorem Room.deeper {k : Nat} {A : Around} (r : Room (k + 1) A) (env : Env) : Room k (A.deeper env) :=
  ⟨r.hd, by have := r.dp; show A.depth + 1 + 3 * k + 5 < _; omega, by have := r.un; show A.units + 3 + 16 * k + 200 < _; omega⟩
theorem Room.in1 {k : Nat} {A : Around} (r : Room (k + 1) A) : Room k A.in1 :=
  ⟨r.hd, by have := r.dp; show A.depth + 3 * k + 5 < _; omega, by have := r.un; show A.units + 1 + 16 * k + 200 < _; omega⟩
theorem Room.depth {k : Nat} {A : Around} (r : Room k A) : A.depth < recursionLimit := by have := r.dp; omega
theorem Room.units {k : Nat} {A : Around} (r : Room k A) : A.units + 64 < cLine := by have := r.un; omega
theorem Room.units0 {k : Nat} {A : Around} (r : Room k A) : A.units < cLine := by have := r.un; omega
def tNil : TA := fun _ H Q => Q [] H
def tCons (ta : TE) (tr : TA) : TA := fun σ H Q => ta σ H fun x H1 => tr σ H1 fun xs H2 => Q (x :: xs) H2
section
variable {X : Cx} {e : Expr} {es : List Expr} {te : TE} {t : TA} {pos : Pos}
theorem pa_nil : PA X [] tNil := fun _ _ _ _ H Q I h => Calls.spliced_nil ⟨[], H, I, .nil, h⟩
theorem pa_cons (ha : PE X e te) (hr : PA X es t) (hs : starEach (e :: es) X.env = (false, eval e X.env) :: starEach es X.env := by rfl) : PA X (e :: es) (tCons te t) := by
  intro pos pins s σ H Q I h
  rw [hs]
  show wpAny _ _ (spliced ((false, eval e X.env) :: backTo pos (starEach es X.env))) _ _ s
  refine Calls.spliced_cons (thn (ha pins s σ H _ I h) fun u s1 ⟨x, H1, I1, r1, q1⟩ => ?_)
  exact thn (hr pos pins s1 σ H1 _ I1 q1) fun us s2 ⟨xs, H2, I2, r2, q2⟩ => ⟨x :: xs, H2, I2, .cons r1 r2, q2⟩
def tTup (t : TA) : TE := fun σ H Q => t σ H fun xs H1 => xs.length ≤ sizeLine ∧ ∀ p, H1 p = none → Q (.ref p) (upd H1 p (.tup xs))
def tLst (t : TA) : TE := fun σ H Q => t σ H fun xs H1 => xs.length ≤ sizeLine ∧ ∀ p, H1 p = none → Q (.ref p) (upd H1 p (.lst xs))
theorem pe_tup {x1} (h : PA X es t) : PE X (.Tuple es x1 pos) (tTup t) := by
  intro pins s σ H Q I hq
  refine wpAny_Tuple_spliced (thn (h pos pins s σ H _ I hq) fun us s1 ⟨xs, H1, I1, r, z, q⟩ => ⟨by rw [← r.length]; exact z, ?_⟩)
  have hf : H1 s1.heap.objs.size = none := I1.hok.fresh (Nat.le_refl _)
  refine ⟨.ref s1.heap.objs.size, upd H1 s1.heap.objs.size (.tup xs), I1.laid (t' := s1.toks) (fun b u e => Heap.get?_push_of_some _ e) (Nat.le_refl _) ?_, rfl, q _ hf⟩
  exact ⟨z, us, r, ⟨_, Heap.get?_push_size _ rfl, rfl, ⟨_, rfl⟩, rfl⟩⟩
theorem pe_lst (h : PA X es t) : PE X (.List es pos) (tLst t) := by
  intro pins s σ H Q I hq
  refine wpAny_List_spliced (thn (h pos pins s σ H _ I hq) fun us s1 ⟨xs, H1, I1, r, z, q⟩ => ⟨by rw [← r.length]; exact z, ?_⟩)
  have hf : H1 s1.heap.objs.size = none := I1.hok.fresh (Nat.le_refl _)
  refine ⟨.ref s1.heap.objs.size, upd H1 s1.heap.objs.size (.lst xs), I1.laid (t' := s1.toks) (fun b u e => Heap.get?_push_of_some _ e) (Nat.le_refl _) ?_, rfl, q _ hf⟩
  exact ⟨z, us, 0, r, Heap.get?_push_size _ rfl⟩
end
abbrev Sp := List V → Hp → VK → XK → Prop
abbrev CXT := List Env → Hp → Shared → XK → Value → Shared → Prop
structure Env0 (P : Program) (w : World) (K : PySem.W.Frag) (mg : Str → Option Value) (base : Heap) (A : Around) (outer : List Env) (s : Shared) (H : Hp) : Prop where
  frames : A.frames = some outer
  mod : Mod K mg base
  bs : ∀ b o, base.get? b = some o → s.heap.get? b = some o ∧ H b = none
  bsz : base.objs.size ≤ s.heap.objs.size
  funs : s.heap.FunFrames base outer
  frf : ∀ b ∈ frs outer, H b = none
  hok : HOk P w H s.heap
  bare : AllBare s.gens
def CE (outer : List Env) (P : Program) (w : World) (H : Hp) (s : Shared) (Q : VK) (u : Value) (s' : Shared) : Prop :=
  ∃ v H', s'.os = s.os ∧ AllBare s'.gens ∧ Un (frs outer) [] H H' s.heap s'.heap ∧ HOk P w H' s'.heap ∧ RelV v u ∧ Q v H'
def CR (CX : CXT) (outer : List Env) (P : Program) (w : World) (H : Hp) (s : Shared) (Q : VK) (E : XK) (r : Result) (s' : Shared) : Prop :=
  match r with
  | .ok (.ret u) => CE outer P w H s Q u s'
  | .ok _ => False
  | .error e => CX outer H s E e s'
structure FnOk (P : Program) (w : World) (K : PySem.W.Frag) (mg : Str → Option Value) (base : Heap) (CX : CXT) (k : Nat) (f : Addr) (fd : FuncData) (ps : List Str) (sp : Sp) : Prop where
  len : ∀ vs H Q E, sp vs H Q E → vs.length = ps.length
  run : ∀ (A : Around) (outer : List Env) (s : Shared) (H : Hp) (args : Args) (us : List Value) (vs : List V) (Q : VK) (E : XK), Room k A → Env0 P w K mg base A outer s H → BindsTo s fd args (ps.zip us) → Vals vs us → sp vs H Q E →
    codeAny (model P w) A (.call (.ref f) args) (CR CX outer P w H s Q E) s
theorem FnOk.mono {P : Program} {w : World} {K : PySem.W.Frag} {mg : Str → Option Value} {base : Heap} {CX : CXT} {j k : Nat} {f : Addr} {fd : FuncData} {ps : List Str} {sp : Sp} (F : FnOk P w K mg base CX j f fd ps sp) (h : j ≤ k) :
    FnOk P w K mg base CX k f fd ps sp := ⟨F.len, fun A outer s H args us vs Q E hr => F.run A outer s H args us vs Q E (hr.mono h)⟩
theorem FnOk.imp {P : Program} {w : World} {K : PySem.W.Frag} {mg : Str → Option Value} {base : Heap} {CX : CXT} {k : Nat} {f : Addr} {fd : FuncData} {ps : List Str} {sp sp' : Sp} (F : FnOk P w K mg base CX k f fd ps sp)
    (h : ∀ vs H Q E, sp' vs H Q E → sp vs H Q E) : FnOk P w K mg base CX k f fd ps sp' :=
  ⟨fun vs H Q E q => F.len vs H Q E (h _ _ _ _ q), fun A outer s H args us vs Q E hr he hb hv hs => F.run A outer s H args us vs Q E hr he hb hv (h _ _ _ _ hs)⟩
theorem Env0.in1 {P : Program} {w : World} {K : PySem.W.Frag} {mg : Str → Option Value} {base : Heap} {A : Around} {outer : List Env} {s : Shared} {H : Hp} (e : Env0 P w K mg base A outer s H) :
    Env0 P w K mg base A.in1 outer s H := ⟨e.frames, e.mod, e.bs, e.bsz, e.funs, e.frf, e.hok, e.bare⟩
section
variable {X : Cx} {pins : List (Addr × Obj)} {σ : St} {H : Hp} {s s' : Shared}
theorem Inv.env0 (I : Inv X pins σ H s) : Env0 X.prog X.w X.K X.mg X.base X.A X.stack s H :=
  ⟨I.ok.frames, I.ok.mod, I.bs, Nat.le_trans I.ok.bsz I.sz, I.stack, I.stkFree, I.hok, I.bare⟩
theorem Inv.after {Q : VK} {u : Value} (I : Inv X pins σ H s) (h : CE X.stack X.prog X.w H s Q u s') : EP X pins σ Q u s' := by
  obtain ⟨v, H', os, bare, un, hok, r, q⟩ := h
  obtain ⟨hh, g, d, t, os'⟩ := s'
  obtain rfl : os' = s.os := os
  exact ⟨v, H', I.call (h' := hh) (g' := g) (d' := d) (t' := t) (ch := []) un hok bare (fun b z => absurd z (by simp)), r, q⟩
end
def tCall (sp : Sp) (dvs : List V) (E : XK) (t : TA) : TE := fun σ H Q => t σ H fun vs H1 => sp (vs ++ dvs) H1 Q E
def tMeth (C : Addr) (m : Str) (sp : Sp) (dvs : List V) (E : XK) (ta : TE) (t : TA) : TE := fun σ H Q => ta σ H fun x H1 => ∃ a dx fs, x = .ref a ∧ H1 a = some (.ins C dx fs) ∧ fs.lookup m = none ∧
  t σ H1 fun vs H2 => sp (x :: (vs ++ dvs)) H2 Q E
def tMake (C : Addr) (sp : Sp) (dvs : List V) (E : XK) (t : TA) : TE := fun σ H Q => t σ H fun vs H1 => ∀ x dx, H1 x = none → H1 dx = none → dx ≠ x →
  sp (.ref x :: (vs ++ dvs)) (upd (upd H1 dx (.own x)) x (.ins C dx [])) (fun v H2 => v = .non ∧ Q (.ref x) H2) E
def Binds (K : PySem.W.Frag) (fd : FuncData) (ps : List Str) (ds : List Value) : Prop :=
  ∀ (s : Shared) (us : List Value), K.In s.heap → (us ++ ds).length = ps.length → BindsTo s fd ⟨us, []⟩ (ps.zip (us ++ ds))
theorem Binds.all {K : PySem.W.Frag} {fd : FuncData} {ps : List Str} (h : ∀ us : List Value, us.length = ps.length → bindArgs fd ⟨us, []⟩ = pure (ps.zip us)) : Binds K fd ps [] := fun s us _ hl => by
  rw [List.append_nil] at hl ⊢
  exact .of_eq (h us hl)
def Passes (CX : CXT) (X : Cx) (E : XK) : Prop := ∀ (pins : List (Addr × Obj)) (σ : St) (H : Hp) (s : Shared) (e : Value) (s' : Shared), Inv X pins σ H s → CX X.stack H s E e s' → X.xe e s'
section
variable {X : Cx} {CX : CXT} {k : Nat} {f C : Addr} {fd : FuncData} {ps : List Str} {sp : Sp} {dvs : List V} {ds : List Value} {E : XK} {x m : Str} {p pos apos : Pos} {e o : Expr} {es : List Expr} {ta : TE} {t : TA}
theorem run_fn {pins : List (Addr × Obj)} {σ : St} {H : Hp} {s : Shared} {Q : VK} {us : List Value} {vs : List V} (F : FnOk X.prog X.w X.K X.mg X.base CX k f fd ps sp) (hr : Room k X.A) (hb : Binds X.K fd ps ds) (hd : Vals dvs ds) (hx : Passes CX X E)
    (I : Inv X pins σ H s) (r : Vals vs us) (h : sp (vs ++ dvs) H Q E) : wpAny (model X.prog X.w) X.A (call (.ref f) us) (EP X pins σ Q) X.xe s := by
  have r2 : Vals (vs ++ dvs) (us ++ ds) := r.append hd
  have hl : (us ++ ds).length = ps.length := by rw [← r2.length]; exact F.len _ _ _ _ h
  refine wpAny_call (codeAny_mono (F.run X.A X.stack s H ⟨us, []⟩ (us ++ ds) (vs ++ dvs) Q E hr I.env0 (hb s us I.kIn hl) r2 h) fun r s' hq => ?_)
  cases r with
  | error e => exact hx pins σ H s e s' I hq
  | ok fl =>
    cases fl with
    | ret u => exact I.after hq
    | next => exact False.elim hq
    | brk => exact False.elim hq
    | cont => exact False.elim hq
theorem pe_call (F : FnOk X.prog X.w X.K X.mg X.base CX k f fd ps sp) (hr : Room k X.A) (hg : Gl X x) (hm : X.mg x = some (.ref f)) (hk : PySem.W.keepIn X.K (.ref f) = true) (hb : Binds X.K fd ps ds) (hd : Vals dvs ds) (hx : Passes CX X E)
    (ha : PA X (e :: es) t) (hdb : (x == ("__debug__" : Str)) = false := by decide) (he : starEach (e :: es) X.env = (false, eval e X.env) :: starEach es X.env := by rfl) (hpl : (backTo pos (starEach es X.env)).any (·.1) = false := by rfl) :
    PE X (.Call (.Name x p) (e :: es) [] pos) (tCall sp dvs E t) := by
  intro pins s σ H Q I h
  refine wpAny_Call_Name_kw (ld_glob I hg hm ?_ hdb)
  refine PySem.W.callWith_K (h₀ := X.base) I.ok.mod.kin hk (thn (ha pos pins s σ H _ I h) fun us s1 ⟨vs, H1, I1, r, q⟩ => ⟨I1.kIn, ?_⟩) he hpl
  exact run_fn F hr hb hd hx I1 r q
structure Mk (K : PySem.W.Frag) (C f : Addr) : Prop where
  makes : PySem.W.makesIn K C = true
  init : PySem.W.findIn K (.ref C) "__init__" = some (some (.ref f))
  fn : PySem.W.isFn K (.ref f) = true
  kp : PySem.W.keepIn K (.ref C) = true
end
def PK (X : Cx) (kws : List Keyword) (t : TA) : Prop :=
  ∀ (pos : Pos) (pins : List (Addr × Obj)) (s : Shared) (σ : St) (H : Hp) (Q : List V → Hp → Prop), Inv X pins σ H s → t σ H Q → wpAny (model X.prog X.w) X.A (evalAll ((backToKw pos (keywordEach kws X.env)).map (·.2))) (AP X pins σ Q) X.xe s
section
variable {X : Cx} {CX : CXT} {k : Nat} {f C : Addr} {fd : FuncData} {ps ks : List Str} {sp : Sp} {E : XK} {x m : Str} {p pos apos kpos : Pos} {e o : Expr} {es : List Expr} {kws : List Keyword} {te ta : TE} {t tk : TA} {nm : Option Str}
structure KBinds (K : PySem.W.Frag) (fd : FuncData) (ps ks : List Str) (g : List Value → List Value → List Value) (gV : List V → List V → List V) : Prop where
  to : ∀ (s : Shared) (us ws : List Value), K.In s.heap → (g us ws).length = ps.length → BindsTo s fd ⟨us, ks.zip ws⟩ (ps.zip (g us ws))
  rel : ∀ {vs : List V} {us : List Value} {zs : List V} {ws : List Value}, Vals vs us → Vals zs ws → Vals (gV vs zs) (g us ws)
def tCallK (sp : Sp) (gV : List V → List V → List V) (E : XK) (t tk : TA) : TE := fun σ H Q => t σ H fun vs H1 => tk σ H1 fun zs H2 => sp (gV vs zs) H2 Q E
variable {g : List Value → List Value → List Value} {gV : List V → List V → List V}
end
structure FnScope (N P : List Str) (sc : Scope) : Prop where
  kind : sc.kind = .function
  co : sc.isCoroutine = false
  gen : sc.isGenerator = false
  nd : N.Nodup
  pre : N.take P.length = P
  par : ∀ x ∈ P, sc.names.lookup x = some .local ∨ sc.names.lookup x = some .cell
  nofree : ∀ y ∈ sc.names, y.2 ≠ .free
theorem bindL_out {kindOf : Str → Option NameKind} {x : Str} : ∀ {binds : List (Str × Value)} {m : Str → Option Value}, (∀ v, (x, v) ∉ binds) → bindL kindOf binds m x = m x
  | [], _, _ => rfl
  | (n, v) :: r, m, h => by
    unfold bindL
    rw [bindL_out fun w hw => h w (List.mem_cons_of_mem _ hw)]
    split
    · have : x ≠ n := by rintro rfl; exact h v List.mem_cons_self
      simp [this]
    · rfl
theorem bindC_out {kindOf : Str → Option NameKind} {x : Str} : ∀ {binds : List (Str × Value)} {m : Str → Option Value}, (∀ v, (x, v) ∉ binds) → bindC kindOf binds m x = m x
  | [], _, _ => rfl
  | (n, v) :: r, m, h => by
    unfold bindC
    rw [bindC_out fun w hw => h w (List.mem_cons_of_mem _ hw)]
    split
    · rfl
    · have : x ≠ n := by rintro rfl; exact h v List.mem_cons_self
      simp [this]
theorem bindL_get {kindOf : Str → Option NameKind} {x : Str} {v : Value} : ∀ {P : List Str} {vs : List Value} {i : Nat} {m : Str → Option Value}, P.Nodup → P[i]? = some x → vs[i]? = some v → kindOf x = some .local →
    bindL kindOf (P.zip vs) m x = some v
  | [], _, _, _, _, h, _, _ => by simp at h
  | _ :: _, [], _, _, _, _, h, _ => by simp at h
  | p :: P, w :: vs, 0, m, nd, h1, h2, hk => by
    simp at h1 h2; subst h1; subst h2
    show bindL kindOf ((p, w) :: P.zip vs) m p = _
    unfold bindL
    rw [bindL_out fun v hv => (List.nodup_cons.mp nd).1 (List.of_mem_zip hv).1, if_pos hk]
    simp
  | p :: P, w :: vs, i + 1, m, nd, h1, h2, hk => by
    show bindL kindOf ((p, w) :: P.zip vs) m x = _
    unfold bindL
    exact bindL_get (i := i) (List.nodup_cons.mp nd).2 (by simpa using h1) (by simpa using h2) hk
theorem bindC_get {kindOf : Str → Option NameKind} {x : Str} {v : Value} : ∀ {P : List Str} {vs : List Value} {i : Nat} {m : Str → Option Value}, P.Nodup → P[i]? = some x → vs[i]? = some v → kindOf x ≠ some .local →
    bindC kindOf (P.zip vs) m x = some v
  | [], _, _, _, _, h, _, _ => by simp at h
  | _ :: _, [], _, _, _, _, h, _ => by simp at h
  | p :: P, w :: vs, 0, m, nd, h1, h2, hk => by
    simp at h1 h2; subst h1; subst h2
    show bindC kindOf ((p, w) :: P.zip vs) m p = _
    unfold bindC
    rw [bindC_out fun v hv => (List.nodup_cons.mp nd).1 (List.of_mem_zip hv).1, if_neg hk]
    simp
  | p :: P, w :: vs, i + 1, m, nd, h1, h2, hk => by
    show bindC kindOf ((p, w) :: P.zip vs) m x = _
    unfold bindC
    exact bindC_get (i := i) (List.nodup_cons.mp nd).2 (by simpa using h1) (by simpa using h2) hk
def start (N : List Str) (vs : List V) : St := vs.map some ++ List.replicate (N.length - vs.length) none
def cxOf (CX : CXT) (P : Program) (w : World) (K : PySem.W.Frag) (mg : Str → Option Value) (base : Heap) (N : List Str) (qual : Str) (scope : Scope) (f : Addr) (cd : Value) (A : Around) (outer : List Env) (s : Shared) (H : Hp) (E : XK) : Cx where
  prog := P
  w := w
  K := K
  mg := mg
  base := base
  A := A.deeper (envOfC qual scope s.heap.objs.size f cd)
  N := N
  s₀ := s
  H₀ := H
  env := envOfC qual scope s.heap.objs.size f cd
  outer := outer
  stack := envOfC qual scope s.heap.objs.size f cd :: outer
  ex := []
  calm := true
  fn := fun _ => true
  pn := []
  xe := fun e s' => wpAny (model P w) (A.deeper (envOfC qual scope s.heap.objs.size f cd)) (leaving (envOfC qual scope s.heap.objs.size f cd) e) (fun _ s'' => CX outer H s E e s'') (fun e' s'' => CX outer H s E e' s'') s'
theorem cell_has {sc : Scope} {n : Nat} {x : Str} (h : sc.names.lookup x = some .cell) : ∃ c, (cellsFrom n sc.names []).lookup x = some c := by
  have q := PySem.W.cellsFrom_some sc.names n [] (.inl h)
  exact Option.isSome_iff_exists.mp q
theorem inv_start {CX : CXT} {P : Program} {w : World} {K : PySem.W.Frag} {mg : Str → Option Value} {base : Heap} {N ps : List Str} {qual : Str} {scope : Scope} {f : Addr} {cd : Value} {A : Around} {outer : List Env} {s s1 : Shared} {H : Hp} {E : XK} {us : List Value} {vs : List V}
    (S : FnScope N ps scope) (hd : A.handled = none) (e0 : Env0 P w K mg base A outer s H) (hl : vs.length = ps.length) (r : Vals vs us)
    (x : InCallC s s.heap.objs.size (bindL (envOfC qual scope s.heap.objs.size f cd).kindOf (ps.zip us) fun _ => none) (cellsFrom (s.heap.objs.size + 1) scope.names []) (bindC (envOfC qual scope s.heap.objs.size f cd).kindOf (ps.zip us) fun _ => none) s1) :
    Inv (cxOf CX P w K mg base N qual scope f cd A outer s H E) [] (start N vs) H s1 := by
  have hpl : ps.length ≤ N.length := by have := congrArg List.length S.pre; rw [List.length_take] at this; omega
  obtain ⟨h1, tk, rfl, hk⟩ := x.done
  have noA : ∀ b : Addr, b ∉ (cxOf CX P w K mg base N qual scope f cd A outer s H E).ex := fun b z => absurd (show b ∈ ([] : List Addr) from z) (by simp)
  refine ⟨⟨e0.mod, S.kind, rfl, rfl, Nat.le_refl _, fun y z c h1 h2 => ?_, fun y hy => ?_, fun y c _ h => ?_, fun _ => hd, Around.frames_deeper e0.frames, .inr ⟨rfl, rfl⟩, fun b z => absurd z (noA b), e0.bs, e0.bsz, fun b _ _ => noA b, fun b z => absurd z (noA b), e0.funs, e0.frf⟩,
    rfl, e0.bare, Un.kept hk, ⟨_, x.toInCall.ns, fun i y v h1 h2 h3 => ?_⟩, fun y c h => ⟨_, x.cell y c h⟩, e0.hok.fresh (Nat.le_refl _), fun y c h => ?_, fun p hp => absurd (show p ∈ ([] : List (Addr × Obj)) from hp) (by simp), e0.hok.kept hk, ?_⟩
  · exact name_of_addr x.apart (PySem.mem_of_lookup h1) (PySem.mem_of_lookup h2)
  · have hy : scope.names.lookup y = some .cell ∨ scope.names.lookup y = some .free := hy
    rcases hy with hy | hy
    · exact cell_has hy
    · exact absurd rfl (S.nofree _ (PySem.mem_of_lookup hy))
  · exact Nat.le_of_lt (x.above y c (PySem.mem_of_lookup h))
  · have hi : i < vs.length := by
      unfold start at h2
      by_cases hi : i < vs.length
      · exact hi
      · rw [List.getElem?_append_right (by simpa using hi)] at h2
        rw [List.getElem?_replicate] at h2
        split at h2 <;> cases h2
    have ha : vs[i]? = some v := by
      unfold start at h2
      rw [List.getElem?_append_left (by simpa using hi), List.getElem?_map] at h2
      cases e : vs[i]? with
      | none => rw [e] at h2; cases h2
      | some a => rw [e] at h2; cases h2; rfl
    obtain ⟨u, hu, rv⟩ := r.get ha
    have hp : ps[i]? = some y := by
      rw [← S.pre, List.getElem?_take_of_lt (by omega)]; exact h1
    have ndP : ps.Nodup := by rw [← S.pre]; exact S.nd.sublist (List.take_sublist _ _)
    refine ⟨u, rv, ?_⟩
    rcases S.par y (List.mem_of_getElem? hp) with k | k
    · exact .inl ⟨k, bindL_get ndP hp hu k⟩
    · obtain ⟨c, e⟩ := cell_has (n := s.heap.objs.size + 1) k
      refine .inr ⟨.inl k, c, e, ?_⟩
      have q := x.cell y c e
      rw [bindC_get ndP hp hu (by show scope.names.lookup y ≠ _; rw [k]; decide)] at q
      exact q
  · exact e0.hok.fresh (Nat.le_of_lt (x.above y c (PySem.mem_of_lookup h)))
  · unfold start
    show _ = N.length
    rw [List.length_append, List.length_map, List.length_replicate]
    omega
theorem fn_of {CX : CXT} {P : Program} {w : World} {K : PySem.W.Frag} {mg : Str → Option Value} {base : Heap} {k : Nat} {f : Addr} {name qual : Str} {params : Arguments} {body : List Stmt} {scope : Scope} {dV kV doc pm cdv ct oc : Value} {an od : Option Addr}
    {osl : Array (Option Value)} {N ps : List Str} {sp : Sp} (lk : K.lookup f = some ⟨oc, od, .func (PySem.W.fnOf name qual params body scope dV kV doc pm an cdv ct), osl⟩) (hcd : PySem.W.codeIn K cdv qual = true) (S : FnScope N ps scope)
    (len : ∀ vs H Q E, sp vs H Q E → vs.length = ps.length)
    (hbody : ∀ (A : Around) (outer : List Env) (s : Shared) (H : Hp) (vs : List V) (Q : VK) (E : XK), Room k (A.deeper (envOfC qual scope s.heap.objs.size f cdv)) → sp vs H Q E →
      ∃ t, PSs (cxOf CX P w K mg base N qual scope f cdv A outer s H E) body t ∧ t { nx := fun _ H' => Q .non H', rt := Q } (start N vs) H) :
    FnOk P w K mg base CX (k + 1) f (PySem.W.fnOf name qual params body scope dV kV doc pm an cdv ct) ps sp := by
  refine ⟨len, fun A outer s H args us vs Q E hr e0 hb r hsp => ?_⟩
  have hl := len _ _ _ _ hsp
  have KX : K.In s.heap := e0.mod.kin.keeps fun b o e => (e0.bs b o e).1
  have lim : s.heap.NoLimit := e0.mod.nolimit.keeps fun b o e => (e0.bs b o e).1
  have hkind : ∀ y ∈ ps.zip us, scope.names.lookup y.1 = some .local ∨ (scope.names.lookup y.1 = some .cell ∧ ((cellsFrom (s.heap.objs.size + 1) scope.names []).lookup y.1).isSome = true) := fun ⟨n, v⟩ hy => by
    rcases S.par n (List.of_mem_zip hy).1 with q | q
    · exact .inl q
    · exact .inr ⟨q, PySem.W.cellsFrom_some _ _ _ (.inl q)⟩
  refine codeAny_call_function hr.depth (KX _ _ lk) rfl S.co S.gen rfl (PySem.W.codeRec_of KX hcd) (hb _ _ _ _ ?_)
  refine wpAny_newFunctionEnv_cells S.kind hkind fun env he s1 x => ?_
  subst he
  refine ⟨lim.keeps x.toInCall.keep, codeAny_func ?_⟩
  obtain ⟨t, ht, hq⟩ := hbody A outer s H vs Q E (hr.deeper _) hsp
  have I : Inv (cxOf CX P w K mg base N qual scope f cdv A outer s H E) [] (start N vs) H s1 := inv_start S hr.hd e0 hl r x
  refine wpAny_mono (ht [] s1 (start N vs) H _ I hq) (fun fl s' hs => ?_) fun e s' hs => hs
  have fin : ∀ {σ' : St} {H' : Hp} {v : V} {u : Value}, Inv (cxOf CX P w K mg base N qual scope f cdv A outer s H E) [] σ' H' s' → RelV v u → Q v H' → CE outer P w H s Q u s' :=
    fun {σ' H' v u} J rv q => ⟨v, H', J.os, J.bare, J.base, J.hok, rv, q⟩
  cases fl with
  | ret u =>
    obtain ⟨v, σ', H', J, rv, q⟩ := hs
    exact fin J rv q
  | next =>
    obtain ⟨σ', H', J, q⟩ := hs
    exact fin (v := V.non) (u := Value.none) J rfl q
  | brk =>
    obtain ⟨_, _, _, q⟩ := hs
    exact False.elim q
  | cont =>
    obtain ⟨_, _, _, q⟩ := hs
    exact False.elim q
end L2
namespace L2
open PySem PySem.Spec PyProof.Rows
section
variable {X : Cx} {x : Str} {p pos : Pos} {e : Expr} {es : List Expr} {t : TA} {id T : String} {r : List V → Hp → VK → Prop}
def tCB (r : List V → Hp → VK → Prop) (t : TA) : TE := fun σ H Q => t σ H fun vs H1 => r vs H1 Q
theorem pe_callB (hc : CallR X (.builtin id) r) (hg : Gl X x) (hm : X.mg x = none) (hv : bootBuiltins x = some (.builtin id)) (ha : PA X (e :: es) t) (hn : x ≠ "__name__" := by decide) (hdb : (x == ("__debug__" : Str)) = false := by decide)
    (he : starEach (e :: es) X.env = (false, eval e X.env) :: starEach es X.env := by rfl) (hpl : (backTo pos (starEach es X.env)).any (·.1) = false := by rfl) : PE X (.Call (.Name x p) (e :: es) [] pos) (tCB r t) := by
  intro pins s σ H Q I h
  refine wpAny_Call_Name_kw (ld_blt I hg hm hv ?_ hn hdb)
  exact PyProof.Rows.callWith_builtin1 (thn (ha pos pins s σ H _ I h) fun us s1 ⟨vs, H1, I1, r1, q1⟩ => hc pins s1 σ H1 vs us Q I1 r1 q1) he hpl
theorem pe_callTy (hc : CallR X (.type T) r) (hg : Gl X x) (hm : X.mg x = none) (hv : bootBuiltins x = some (.type T)) (ha : PA X (e :: es) t) (hn : x ≠ "__name__" := by decide) (hdb : (x == ("__debug__" : Str)) = false := by decide)
    (he : starEach (e :: es) X.env = (false, eval e X.env) :: starEach es X.env := by rfl) (hpl : (backTo pos (starEach es X.env)).any (·.1) = false := by rfl) : PE X (.Call (.Name x p) (e :: es) [] pos) (tCB r t) := by
  intro pins s σ H Q I h
  refine wpAny_Call_Name_kw (ld_blt I hg hm hv ?_ hn hdb)
  exact PyProof.Rows.callWith_type1 (thn (ha pos pins s σ H _ I h) fun us s1 ⟨vs, H1, I1, r1, q1⟩ => hc pins s1 σ H1 vs us Q I1 r1 q1) he hpl
end
end L2
namespace HT
open PySem PyProof.Rows
def lexLt : List Int → List Int → Bool
  | [], [] => false
  | [], _ :: _ => true
  | _ :: _, [] => false
  | x :: xs, y :: ys => if x = y then lexLt xs ys else decide (x < y)
theorem lexLt_cons (x y : Int) (xs ys : List Int) : lexLt (x :: xs) (y :: ys) = if x = y then lexLt xs ys else decide (x < y) := rfl
theorem lexLt_nil_nil : lexLt [] [] = false := rfl
theorem lexLt_nil_cons (y : Int) (ys : List Int) : lexLt [] (y :: ys) = true := rfl
theorem lexLt_cons_nil (x : Int) (xs : List Int) : lexLt (x :: xs) [] = false := rfl
theorem eqAt_int (A : Around) (s : Shared) (a : Int) (t : Tok) (c : Int) (u : Tok) : ∃ e, SeqAt.EqAt A s (.int a t) (.int c u) e ∧ (e = true ↔ a = c) :=
  ⟨(a == c), SeqAt.EqAt.int_int a t c u, by simp⟩
theorem rcLt_int (A : Around) (s : Shared) (a : Int) (t : Tok) (c : Int) (u : Tok) (prog : Program) (w : World) (E : Value → Shared → Prop) (Q : Value → Shared → Prop) (h : Q (.bool (decide (a < c))) s) :
    wpAny (model prog w) A (richCompare .Lt (.int a t) (.int c u)) Q E s :=
  (PyProof.Rows.lt_int h : wpAny (model prog w) A (compareOp .Lt (.int a t) (.int c u)) Q E s)
section
open PySem.SeqAt
open PySem.AutoSeq1 (wpAny_loadPart')
open PySem.MeetsSeq PySem.MeetsSeq2 PySem.MeetsSeq3
theorem tuple_lt_ints (l b : Addr) (items items2 : Array Value) (n n2 : Nat) (dd dd2 : Option Addr) (sl sl2 : Array (Option Value)) (ns ms : List Int) (hi : IntsAre items.toList ns) (hj : IntsAre items2.toList ms) :
    Meets (Builtin.«tuple.__lt__» ⟨[.ref l, .ref b], []⟩)
      (fun _ R s => s.heap.get? l = some { cls := .type "tuple", dict := dd, data := .seq items n, slots := sl } ∧ s.heap.get? b = some { cls := .type "tuple", dict := dd2, data := .seq items2 n2, slots := sl2 } ∧
        R (.ok (.ret (.bool (lexLt ns ms)))) s) :=
  .of_wp fun prog w A R s h => by
    obtain ⟨hp, g, d, tk, os⟩ := s; obtain ⟨hl, hb, h⟩ := h
    have f2 := AutoSeq1.sub_tuple_tuple
    have z1 : items.size = ns.length := by rw [← hi.length]; simp
    have z2 : items2.size = ms.length := by rw [← hj.length]; simp
    wp_walk using wpAny_loadPart' hl, wpAny_loadPart' hb, wpAny_forIn_list _ (fun rest b s' => b.1 = none ∧ s' = ⟨hp, g, d, tk, os⟩ ∧ ∃ (vs ws : List Value) (ns' ms' : List Int), rest = vs.zip ws ∧
      IntsAre vs ns' ∧ IntsAre ws ms' ∧ ns'.length + items2.size = ms'.length + items.size ∧ R (.ok (.ret (.bool (lexLt ns' ms')))) ⟨hp, g, d, tk, os⟩) _
    case turn =>
      rintro ⟨y, x⟩ rest b s' ⟨hb', rfl, vs, ws, ns', ms', hz, hvi, hwi, hlen, hR⟩
      cases hvi with
      | nil => rw [List.zip_nil_left] at hz; cases hz
      | cons a t hvi' =>
        cases hwi with
        | nil => rw [List.zip_nil_right] at hz; cases hz
        | cons c u hwi' =>
          rw [List.zip_cons_cons] at hz
          injection hz with hyx hrest
          injection hyx with hy hx
          subst hy hx
          rw [lexLt_cons] at hR
          simp only [List.length_cons] at hlen
          obtain ⟨e, he, hiff⟩ := eqAt_int A.in1 ⟨hp, g, d, tk, os⟩ a t c u
          refine wpAny_bind (he prog w _ _ ?_)
          cases e with
          | true =>
            rw [if_pos (hiff.mp rfl)] at hR
            wp_walk
            exact ⟨rfl, rfl, _, _, _, _, hrest, hvi', hwi', by omega, hR⟩
          | false =>
            rw [if_neg (fun q => absurd (hiff.mpr q) Bool.false_ne_true)] at hR
            have hri := rcLt_int A.in1 ⟨hp, g, d, tk, os⟩ a t c u prog w
            wp_walk using hri
            exact ⟨_, rfl, by simpa using hR⟩
    case fin =>
      rintro ⟨b1, b2⟩ s' ⟨hb', rfl, vs, ws, ns', ms', hz, hvi, hwi, hlen, hR⟩
      simp only at hb'
      subst hb'
      have hv : lexLt ns' ms' = decide (items.size < items2.size) := by
        cases hvi with
        | nil =>
          cases hwi with
          | nil =>
            simp only [List.length_nil] at hlen
            rw [lexLt_nil_nil]
            exact (decide_eq_false (by omega)).symm
          | cons c u hw =>
            simp only [List.length_nil, List.length_cons] at hlen
            rw [lexLt_nil_cons]
            exact (decide_eq_true (by omega)).symm
        | cons a t hv =>
          cases hwi with
          | nil =>
            simp only [List.length_nil, List.length_cons] at hlen
            rw [lexLt_cons_nil]
            exact (decide_eq_false (by omega)).symm
          | cons c u hw =>
            rw [List.zip_cons_cons] at hz
            cases hz
      rw [hv] at hR
      wp_walk
      exact ⟨_, rfl, by simpa [Builtin.Tuple.tupleCompareSizes] using hR⟩
    case h =>
      exact ⟨rfl, rfl, items.toList, items2.toList, ns, ms, rfl, hi, hj, by omega, h⟩
end
section
variable {prog : Program} {w : World} {A : Around} {E : Value → Shared → Prop} {s : Shared}
theorem lt_tupInts {l b : Addr} {items items2 : Array Value} {ns ms : List Int} {Q : Value → Shared → Prop} (hl : IsTup s.heap l items) (hb : IsTup s.heap b items2) (hi : IntsAre items.toList ns) (hj : IntsAre items2.toList ms)
    (hu : A.units < cLine) (h : Q (.bool (lexLt ns ms)) s) : wpAny (model prog w) A (compareOp .Lt (.ref l) (.ref b)) Q E s := by
  obtain ⟨⟨cls, dd, data, sl⟩, ho, hc, n, hd⟩ := id hl
  obtain ⟨⟨cls2, dd2, data2, sl2⟩, ho2, hc2, n2, hd2⟩ := id hb
  simp only at hc hd hc2 hd2
  subst hc hd hc2 hd2
  exact richCompare_meets_room (op := .Lt) ⟨_, ho, rfl⟩ ⟨_, ho2, rfl⟩ PySem.F.slot_tuple_lt PySem.F.entry_tuple_lt (PySem.F.args_tuple_lt_2 _ _) (tuple_lt_ints l b items items2 n n2 dd dd2 sl sl2 ns ms hi hj)
    ⟨ho, ho2, show Value.bool (lexLt ns ms) ≠ Value.notImplemented ∧ Q (.bool (lexLt ns ms)) s from ⟨(fun x => nomatch x), h⟩⟩ hu
theorem cat_tup {t b : Addr} {vs ws : List Value} {Q : Value → Shared → Prop} (ht : IsTup s.heap t vs.toArray) (hb : IsTup s.heap b ws.toArray) (hv : vs ≠ [])
    (h1 : ws = [] → Q (.ref t) s) (h2 : ws ≠ [] → Q (.ref s.heap.objs.size) { s with heap := s.heap.push { cls := .type "tuple", data := .seq (vs ++ ws).toArray } })
    (hsz : vs.length + ws.length ≤ sizeLine) : wpAny (model prog w) A (binaryOp .Add (.ref t) (.ref b)) Q E s := by
  obtain ⟨⟨cls, dd, data, sl⟩, ho, hc, n, hd⟩ := id ht
  obtain ⟨⟨cls2, dd2, data2, sl2⟩, ho2, hc2, n2, hd2⟩ := id hb
  simp only at hc hd hc2 hd2
  subst hc hd hc2 hd2
  have e : vs.toArray ++ ws.toArray = (vs ++ ws).toArray := by simp
  by_cases hw : ws = []
  · exact concat_meets ⟨_, ho, rfl⟩ ⟨_, ho2, rfl⟩ noFill_tuple_add seq_tuple_add PySem.F.slot_tuple_add PySem.F.entry_tuple_add (PySem.F.args_tuple_add_2 _ _)
      (tuple_addW1 t b vs.toArray ws.toArray n n2 dd dd2 sl sl2 (by simpa using hv) (by simp [hw])) ⟨ho, ho2, h1 hw⟩
  · refine concat_meets ⟨_, ho, rfl⟩ ⟨_, ho2, rfl⟩ noFill_tuple_add seq_tuple_add PySem.F.slot_tuple_add PySem.F.entry_tuple_add (PySem.F.args_tuple_add_2 _ _)
      (tuple_addW2 t b vs.toArray ws.toArray n n2 dd dd2 sl sl2 (by simpa using hv) (by simpa using hw) (by rw [List.size_toArray, List.size_toArray]; exact hsz)) ⟨ho, ho2, ?_⟩
    rw [e]
    exact h2 hw
def sIx (n d : Nat) : Option Int → Nat
  | none => d
  | some v => if v < 0 then (v + (n : Int)).toNat else min v.toNat n
theorem sIx_nat (n d k : Nat) : sIx n d (some (k : Int)) = min k n := by
  show (if (k : Int) < 0 then ((k : Int) + (n : Int)).toNat else min (k : Int).toNat n) = min k n
  rw [if_neg (by omega), Int.toNat_natCast]
theorem sIx_le (n d : Nat) (hd : d ≤ n) (o : Option Int) : sIx n d o ≤ n := by
  cases o with
  | none => exact hd
  | some v =>
    show (if v < 0 then (v + (n : Int)).toNat else min v.toNat n) ≤ n
    by_cases hv : v < 0
    · rw [if_pos hv]; omega
    · rw [if_neg hv]; exact Nat.min_le_right _ _
theorem clip_eq (v : Int) (n d : Nat) : (if v < 0 then max (v + (n : Int)) 0 else min v (n : Int)) = ((sIx n d (some v) : Nat) : Int) := by
  show (if v < 0 then max (v + (n : Int)) 0 else min v (n : Int)) = (((if v < 0 then (v + (n : Int)).toNat else min v.toNat n) : Nat) : Int)
  by_cases hv : v < 0
  · simp only [if_pos hv]; omega
  · simp only [if_neg hv]; omega
theorem adjust_gen (lo hi : Option Int) (n : Nat) : Builtin.Slice.sliceAdjust lo hi 1 (n : Int) = (((sIx n 0 lo : Nat) : Int), ((sIx n n hi : Nat) : Int)) := by
  have h1 : ¬ ((1 : Int) < 0) := by omega
  unfold Builtin.Slice.sliceAdjust
  simp only [h1, if_false]
  refine Prod.ext ?_ ?_
  · cases lo with
    | none => rfl
    | some v => exact clip_eq v n 0
  · cases hi with
    | none => rfl
    | some v => exact clip_eq v n n
theorem places_gen (i j : Nat) : Builtin.Slice.slicePlaces (i : Int) (j : Int) 1 = j - i := by
  unfold Builtin.Slice.slicePlaces
  have h1 : (1 : Int) > 0 := by omega
  simp only [h1, if_true, Int.ediv_one]
  split <;> omega
theorem slicePart_ {v : Value} {o : Option Int} {Q : Option Int → Shared → Prop} (p : IsPart v o) (h : Q o s) : wpAny (model prog w) A (Builtin.Slice.slicePartIndex v) Q E s := by
  cases p with
  | none => exact slicePart_none h
  | int i t => exact slicePart_int h
theorem sliceApplied_gen {sl : Addr} {vl vu : Value} {lo hi : Option Int} {n : Nat} {Q : Int × Int × Nat → Shared → Prop} (hs : s.heap.IsSliceOf sl vl vu .none) (pl : IsPart vl lo) (pu : IsPart vu hi)
    (h : Q (((sIx n 0 lo : Nat) : Int), 1, sIx n n hi - sIx n 0 lo) s) : wpAny (model prog w) A (Builtin.Slice.sliceApplied (.ref sl) (pure (n : Int))) Q E s := by
  obtain ⟨os, hos, hcs, hds⟩ := id hs
  unfold Builtin.Slice.sliceApplied Builtin.Slice.sliceFields
  refine wpAny_bind (wpAny_bind (wpAny_field hos hds (x := vl) rfl (wpAny_bind (wpAny_field hos hds (x := vu) rfl (wpAny_bind (wpAny_field hos hds (x := .none) rfl (wpAny_pure ?_)))))))
  refine wpAny_bind (slicePart_none ?_)
  show wpAny _ _ (if ((1 : Int) == 0) = true then _ else _) _ _ s
  rw [if_neg (by decide)]
  refine wpAny_bind (slicePart_ pl (wpAny_bind (slicePart_ pu (wpAny_bind (wpAny_pure ?_)))))
  show wpAny _ _ (match Builtin.Slice.sliceAdjust lo hi 1 (n : Int) with | (lo, hi) => pure (lo, (1 : Int), Builtin.Slice.slicePlaces lo hi 1)) _ _ s
  rw [adjust_gen lo hi n]
  show wpAny _ _ (pure (((sIx n 0 lo : Nat) : Int), (1 : Int), Builtin.Slice.slicePlaces ((sIx n 0 lo : Nat) : Int) ((sIx n n hi : Nat) : Int) 1)) _ _ s
  rw [places_gen]
  exact wpAny_pure h
theorem pick_gen (xs : Array Value) (i k : Nat) : ((List.range k).filterMap fun (m : Nat) => xs[((i : Int) + (m : Int) * 1).toNat]?).toArray = ((xs.toList.drop i).take k).toArray := by
  have e : (fun (m : Nat) => xs[((i : Int) + (m : Int) * 1).toNat]?) = fun m => xs[i + m]? := by
    funext m
    have : ((i : Int) + (m : Int) * 1).toNat = i + m := by omega
    rw [this]
  rw [e]
  have := pick_run xs i k
  rw [List.filterMap_map] at this
  have e2 : ((fun x => xs[x]?) ∘ fun x => i + x) = fun m => xs[i + m]? := rfl
  rw [e2] at this
  rw [this]
theorem getItem_tuple_cut {t sl : Addr} {items : Array Value} {vl vu : Value} {lo hi : Option Int} {Q : Value → Shared → Prop} (ht : IsTup s.heap t items) (hs : s.heap.IsSliceOf sl vl vu .none) (pl : IsPart vl lo) (pu : IsPart vu hi)
    (hw : ¬ (sIx items.size 0 lo = 0 ∧ sIx items.size items.size hi = items.size))
    (h : Q (.ref s.heap.objs.size) { s with heap := s.heap.push { cls := .type "tuple", data := .seq ((items.toList.drop (sIx items.size 0 lo)).take (sIx items.size items.size hi - sIx items.size 0 lo)).toArray } })
    (hsz : items.size ≤ sizeLine) : wpAny (model prog w) A (getItem (.ref t) (.ref sl)) Q E s := by
  have htake : sizeOk (.seq ((items.toList.drop (sIx items.size 0 lo)).take (sIx items.size items.size hi - sIx items.size 0 lo)).toArray) := by
    show ((items.toList.drop (sIx items.size 0 lo)).take (sIx items.size items.size hi - sIx items.size 0 lo)).toArray.size ≤ sizeLine
    rw [List.size_toArray, List.length_take, List.length_drop, Array.length_toList]
    omega
  have hj : sIx items.size items.size hi ≤ items.size := sIx_le _ _ (Nat.le_refl _) hi
  obtain ⟨os, hos, hcs, hds⟩ := id hs
  have hTs : s.TypeIs (.ref sl) "slice" := ⟨os, hos, hcs⟩
  unfold getItem
  try with_reducible refine wpAny_holding ?_
  first | refine wpAny_bind (wpAny_pure ?_) | skip
  refine wpAny_bind (wpAny_sequenceKey ht.typeIs (by decide) ?_)
  refine wpAny_bind (wpAny_callSpecial?_slot (name := Str.ofString "__getitem__") ht.typeIs PyProof.Rows.slot_tuple_getitem
    (wpAny_call_entry PyProof.Rows.slot_tuple_getitem ht.typeIs entry_tuple_getitem ?_ (args_tuple_getitem _ _)))
  show wpAny _ _ (Builtin.Tuple.tupleItemsOf (.ref t) >>= _) _ _ s
  refine wpAny_bind (tupleItemsOf_ ht ?_)
  refine wpAny_bind (wpAny_typeOf hTs ?_)
  rw [if_pos (by decide)]
  refine wpAny_bind (sliceApplied_gen hs pl pu ?_)
  have hno : ¬ ((((sIx items.size 0 lo : Nat) : Int) == 0 && (1 : Int) == 1 && (sIx items.size items.size hi - sIx items.size 0 lo) == items.size) = true) := by
    intro q
    rw [Bool.and_eq_true, Bool.and_eq_true] at q
    have q1 : ((sIx items.size 0 lo : Nat) : Int) = 0 := eq_of_beq q.1.1
    have q2 : sIx items.size items.size hi - sIx items.size 0 lo = items.size := eq_of_beq q.2
    exact hw ⟨by omega, by omega⟩
  show wpAny _ _ (if (((sIx items.size 0 lo : Nat) : Int) == 0 && (1 : Int) == 1 && (sIx items.size items.size hi - sIx items.size 0 lo) == items.size) = true then _ else _) _ _ s
  rw [if_neg hno, pick_gen]
  first
    | exact wpAny_bind (m := Builtin.Tuple.tupleExact _) (wpAny_newObj_type (wpAny_pure ⟨_, rfl, wpAny_pure h⟩) htake)
    | exact wpAny_bind (m := Builtin.Tuple.tupleExact _) (wpAny_newObj_type (wpAny_bind (wpAny_pure (wpAny_pure ⟨_, rfl, wpAny_pure h⟩))) htake)
    | exact wpAny_bind (wpAny_bind (m := Builtin.Tuple.tupleExact _) (wpAny_newObj_type (wpAny_pure (wpAny_pure ⟨_, rfl, wpAny_pure h⟩)) htake))
    | exact wpAny_bind (wpAny_bind (m := Builtin.Tuple.tupleExact _) (wpAny_newObj_type (wpAny_pure ⟨_, rfl, wpAny_pure h⟩) htake))
end
end HT
namespace L2
open PySem PySem.Spec PyProof.Rows
abbrev TO := St → Hp → (Option Int → Hp → Prop) → Prop
def PO (X : Cx) (e : Option Expr) (t : TO) : Prop :=
  ∀ (pins : List (Addr × Obj)) (s : Shared) (σ : St) (H : Hp) (Q : Option Int → Hp → Prop), Inv X pins σ H s → t σ H Q →
    wpAny (model X.prog X.w) X.A (evalPart e X.env) (fun u s' => ∃ o H', Inv X pins σ H' s' ∧ IsPart u o ∧ Q o H') X.xe s
def tNoPart : TO := fun _ H Q => Q none H
def tPart (t : TE) : TO := fun σ H Q => t σ H fun x H1 => ∃ i, x = .int i ∧ Q (some i) H1
theorem intsAre_of {ns : List Int} : ∀ {us : List Value}, Vals (ns.map V.int) us → IntsAre us ns := by
  induction ns with
  | nil => intro us r; rw [List.map_nil] at r; cases r; exact .nil
  | cons n ns ih =>
    intro us r
    rw [List.map_cons] at r
    cases r with
    | cons r1 r2 =>
      obtain ⟨t, e⟩ := r1
      subst e
      exact .cons n t (ih r2)
section
variable {X : Cx} {e : Expr} {te : TE} {lo hi : Option Expr} {tl th : TO} {pos p2 : Pos}
theorem po_none : PO X none tNoPart := by
  intro pins s σ H Q I h
  rw [evalPart_none]
  exact wpAny_pure ⟨none, H, I, .none, h⟩
theorem po_some (h : PE X e te) : PO X (some e) (tPart te) := by
  intro pins s σ H Q I hw
  rw [evalPart_some]
  refine thn (h pins s σ H _ I hw) fun u s1 ⟨x, H1, I1, r1, q1⟩ => ?_
  obtain ⟨i, rfl, q⟩ := q1
  obtain ⟨t, rfl⟩ := r1
  exact ⟨some i, H1, I1, .int i t, q⟩
def SlR (X : Cx) (r : V → Option Int → Option Int → Hp → VK → Prop) : Prop :=
  ∀ (pins : List (Addr × Obj)) (s : Shared) (σ : St) (H : Hp) (x : V) (v vl vu : Value) (lo hi : Option Int) (sl : Addr) (Q : VK), Inv X pins σ H s → RelV x v → s.heap.IsSliceOf sl vl vu .none → IsPart vl lo → IsPart vu hi → r x lo hi H Q →
    ∃ T id, typeLookup (.type T) "__getitem__" = pure (some (.builtin id)) ∧ s.TypeIs v T ∧ wpAny (model X.prog X.w) X.A (getItem v (.ref sl)) (EP X pins σ Q) X.xe s
theorem SlR.or {r r' : V → Option Int → Option Int → Hp → VK → Prop} (h : SlR X r) (h' : SlR X r') : SlR X (fun x lo hi H Q => r x lo hi H Q ∨ r' x lo hi H Q) := by
  intro pins s σ H x v vl vu lo hi sl Q I rx hs pl pu q
  rcases q with q | q
  · exact h pins s σ H x v vl vu lo hi sl Q I rx hs pl pu q
  · exact h' pins s σ H x v vl vu lo hi sl Q I rx hs pl pu q
def tSl (r : V → Option Int → Option Int → Hp → VK → Prop) (te : TE) (tl th : TO) : TE := fun σ H Q => te σ H fun x H1 => tl σ H1 fun l H2 => th σ H2 fun u H3 => r x l u H3 Q
theorem pe_slice {r : V → Option Int → Option Int → Hp → VK → Prop} (hr : SlR X r) (he : PE X e te) (hl : PO X lo tl) (hu : PO X hi th) : PE X (.Subscript e (.Slice lo hi none p2) pos) (tSl r te tl th) := by
  intro pins s σ H Q I h
  refine Subscript_ (thn (he pins s σ H _ I h) fun v s1 ⟨x, H1, I1, r1, q1⟩ => ?_)
  refine wpAny_Slice (thn (hl pins s1 σ H1 _ I1 q1) fun vl s2 ⟨l, H2, I2, pl, q2⟩ => thn (hu pins s2 σ H2 _ I2 q2) fun vu s3 ⟨u, H3, I3, pu, q3⟩ => ?_)
  rw [evalPart_none]
  refine wpAny_pure ?_
  have I4 : Inv X pins σ H3 { s3 with heap := s3.heap.push { cls := .type "slice", data := .fields #[vl, vu, .none] } } := I3.kept (t' := s3.toks) fun b ob q => Heap.get?_push_of_some _ q
  obtain ⟨T, id, hT, ht, hg⟩ := hr pins { s3 with heap := s3.heap.push { cls := .type "slice", data := .fields #[vl, vu, .none] } } σ H3 x v vl vu l u s3.heap.objs.size Q I4 r1 (Heap.IsSliceOf.new ..) pl pu q3
  show wpAny (model X.prog X.w) X.A (subscriptTail e (.Slice lo hi none p2) v (.ref s3.heap.objs.size)) (EP X pins σ Q) X.xe { s3 with heap := s3.heap.push { cls := .type "slice", data := .fields #[vl, vu, .none] } }
  exact tail_any (ops := [.ref s3.heap.objs.size, v]) ht hT hg (by with_unfolding_all rfl)
def cutV (xs : List V) (lo hi : Option Int) : List V := (xs.drop (HT.sIx xs.length 0 lo)).take (HT.sIx xs.length xs.length hi - HT.sIx xs.length 0 lo)
theorem cutV_length (xs : List V) (lo hi : Option Int) : (cutV xs lo hi).length ≤ xs.length := by
  unfold cutV
  rw [List.length_take, List.length_drop]
  omega
def rSlT (K : PySem.W.Frag) : V → Option Int → Option Int → Hp → VK → Prop := fun x lo hi H Q => ∃ a xs, x = .ref a ∧ SqT K H a xs ∧
  ¬ (HT.sIx xs.length 0 lo = 0 ∧ HT.sIx xs.length xs.length hi = xs.length) ∧ ∀ p, H p = none → Q (.ref p) (upd H p (.tup (cutV xs lo hi)))
theorem sl_tup : SlR X (rSlT X.K) := by
  intro pins s σ H x v vl vu lo hi sl Q I rx hs pl pu h
  obtain ⟨a, xs, rfl, hx, hw, q⟩ := h
  cases rx
  obtain ⟨its, r, ht, hz⟩ := I.tuple hx
  have hlen : its.toArray.size = xs.length := by rw [List.size_toArray]; exact r.length.symm
  refine ⟨"tuple", _, PyProof.Rows.slot_tuple_getitem.lookup, ht.typeIs, ?_⟩
  refine HT.getItem_tuple_cut ht hs pl pu (by rw [hlen]; exact hw) ?_ (by rw [hlen]; exact hz)
  rw [hlen]
  refine ⟨.ref s.heap.objs.size, _, I.laid (t' := s.toks) (o := .tup (cutV xs lo hi)) (fun b ob q => Heap.get?_push_of_some _ q) (Nat.le_refl _) ?_, rfl, q _ (I.hok.fresh (Nat.le_refl _))⟩
  exact ⟨Nat.le_trans (cutV_length xs lo hi) hz, _, (r.drop (HT.sIx xs.length 0 lo)).take (HT.sIx xs.length xs.length hi - HT.sIx xs.length 0 lo), PTup.new _ _⟩
def rLtT (K : PySem.W.Frag) : R2 := fun x y H Q => ∃ a b ns ms, x = .ref a ∧ y = .ref b ∧ SqT K H a (ns.map V.int) ∧ SqT K H b (ms.map V.int) ∧ Q (.bl (HT.lexLt ns ms)) H
theorem op_ltT (hu : X.A.units < cLine) : OpR X (compareOp .Lt) (rLtT X.K) := by
  intro pins s σ H x y v u Q I rx ry h
  obtain ⟨a, b, ns, ms, rfl, rfl, ha, hb, q⟩ := h
  cases rx
  cases ry
  obtain ⟨its, r1, p1, _⟩ := I.tuple ha
  obtain ⟨its2, r2, p2, _⟩ := I.tuple hb
  have i1 : IntsAre its.toArray.toList ns := intsAre_of r1
  have i2 : IntsAre its2.toArray.toList ms := intsAre_of r2
  exact HT.lt_tupInts p1 p2 i1 i2 hu ⟨.bl (HT.lexLt ns ms), H, I, rfl, q⟩
def rCatT (K : PySem.W.Frag) : R2 := fun x y H Q => ∃ a b xs ys, x = .ref a ∧ y = .ref b ∧ SqT K H a xs ∧ SqT K H b ys ∧ xs ≠ [] ∧ xs.length + ys.length ≤ sizeLine ∧
  (ys = [] → Q (.ref a) H) ∧ (ys ≠ [] → ∀ p, H p = none → Q (.ref p) (upd H p (.tup (xs ++ ys))))
theorem Vals.nil_iff {xs : List V} {us : List Value} (r : Vals xs us) : us = [] ↔ xs = [] := by
  cases r with
  | nil => simp
  | cons _ _ => simp
theorem op_catT : OpR X (binaryOp .Add) (rCatT X.K) := by
  intro pins s σ H x y v u Q I rx ry h
  obtain ⟨a, b, xs, ys, rfl, rfl, ha, hb, hx, hz, q1, q2⟩ := h
  cases rx
  cases ry
  obtain ⟨its, r1, p1, _⟩ := I.tuple ha
  obtain ⟨its2, r2, p2, _⟩ := I.tuple hb
  refine HT.cat_tup p1 p2 (fun z => hx (r1.nil_iff.mp z)) (fun z => ⟨.ref a, H, I, rfl, q1 (r2.nil_iff.mp z)⟩) (fun z => ?_) (by rw [← r1.length, ← r2.length]; exact hz)
  refine ⟨.ref s.heap.objs.size, _, I.laid (t' := s.toks) (o := .tup (xs ++ ys)) (fun b ob q => Heap.get?_push_of_some _ q) (Nat.le_refl _) ?_, rfl, q2 (fun w => z (r2.nil_iff.mpr w)) _ (I.hok.fresh (Nat.le_refl _))⟩
  exact ⟨by rw [List.length_append]; exact hz, _, r1.append r2, PTup.new _ _⟩
end
end L2
namespace L2
open PySem PySem.Spec PyProof.Rows
def ixN (n : Nat) (i : Int) : Option Nat := if 0 ≤ i then (if i < n then some i.toNat else none) else if -(n : Int) ≤ i then some (i + n).toNat else none
def atI {α : Type} (xs : List α) (i : Int) : Option α := (ixN xs.length i).bind fun j => xs[j]?
theorem ixN_seq {n : Nat} {i : Int} {j : Nat} (h : ixN n i = some j) : seqIndex? i n = some j ∧ j < n ∧ -(n : Int) ≤ i ∧ i < n := by
  unfold ixN at h
  by_cases h0 : 0 ≤ i
  · rw [if_pos h0] at h
    by_cases h1 : i < n
    · rw [if_pos h1] at h
      have e : i.toNat = j := Option.some.inj h
      exact ⟨by rw [seqIndex_of h0 h1, e], by omega, by omega, h1⟩
    · rw [if_neg h1] at h; cases h
  · rw [if_neg h0] at h
    by_cases h1 : -(n : Int) ≤ i
    · rw [if_pos h1] at h
      have e : (i + n).toNat = j := Option.some.inj h
      exact ⟨by rw [seqIndex_neg (by omega) h1, e], by omega, h1, by omega⟩
    · rw [if_neg h1] at h; cases h
theorem atI_get {α : Type} {xs : List α} {i : Int} {v : α} (h : atI xs i = some v) : ∃ j, seqIndex? i xs.length = some j ∧ xs[j]? = some v ∧ j < xs.length ∧ -(xs.length : Int) ≤ i ∧ i < xs.length := by
  unfold atI at h
  cases e : ixN xs.length i with
  | none => rw [e] at h; cases h
  | some j =>
    rw [e] at h
    obtain ⟨h1, h2, h3, h4⟩ := ixN_seq e
    exact ⟨j, h1, h, h2, h3, h4⟩
def PlainIx (b : Expr) : Prop := ∀ o i, subscripted b false o i = operate [o, i] (getItem o i)
def IxR (X : Cx) (r : R2) : Prop :=
  ∀ (value slice : Expr) (pins : List (Addr × Obj)) (s : Shared) (σ : St) (H : Hp) (x y : V) (v u : Value) (Q : VK), Inv X pins σ H s → RelV x v → RelV y u → r x y H Q →
    subscripted slice false v u = operate [v, u] (getItem v u) → wpAny (model X.prog X.w) X.A (subscriptTail value slice v u) (EP X pins σ Q) X.xe s
def MtR (X : Cx) (id : String) (r : V → List V → Hp → VK → Prop) : Prop :=
  ∀ (pins : List (Addr × Obj)) (s : Shared) (σ : St) (H : Hp) (x : V) (xs : List V) (v : Value) (us : List Value) (Q : VK), Inv X pins σ H s → RelV x v → Vals xs us → r x xs H Q →
    wpAny (model X.prog X.w) X.A (call (.builtin id) (v :: us)) (EP X pins σ Q) X.xe s
section
variable {X : Cx} {a b : Expr} {ta tb : TE} {pos : Pos}
theorem IxR.or {r r' : R2} (h : IxR X r) (h' : IxR X r') : IxR X (fun x y H Q => r x y H Q ∨ r' x y H Q) := by
  intro value slice pins s σ H x y v u Q I rx ry q hs
  rcases q with q | q
  · exact h value slice pins s σ H x y v u Q I rx ry q hs
  · exact h' value slice pins s σ H x y v u Q I rx ry q hs
theorem MtR.or {id : String} {r r' : V → List V → Hp → VK → Prop} (h : MtR X id r) (h' : MtR X id r') : MtR X id (fun x xs H Q => r x xs H Q ∨ r' x xs H Q) := by
  intro pins s σ H x xs v us Q I rx rs q
  rcases q with q | q
  · exact h pins s σ H x xs v us Q I rx rs q
  · exact h' pins s σ H x xs v us Q I rx rs q
theorem pe_ix {r : R2} (hr : IxR X r) (ha : PE X a ta) (hb : PE X b tb) (hs : PlainIx b) : PE X (.Subscript a b pos) (tOp r ta tb) := by
  intro pins s σ H Q I h
  exact Subscript_ (binT ha hb I h fun v u s2 x y H2 I2 rx ry q => hr a b pins s2 σ H2 x y v u Q I2 rx ry q (hs _ _))
def rIxL (K : PySem.W.Frag) : R2 := fun x y H Q => ∃ p xs i v, x = .ref p ∧ y = .int i ∧ SqL K H p xs ∧ atI xs i = some v ∧ Q v H
def rIxT (K : PySem.W.Frag) : R2 := fun x y H Q => ∃ p xs i v, x = .ref p ∧ y = .int i ∧ SqT K H p xs ∧ atI xs i = some v ∧ Q v H
def rIxS : R2 := fun x y H Q => ∃ z i c, x = .str z ∧ y = .int i ∧ z.length ≤ sizeLine ∧ atI z.cps.toList i = some c ∧ Q (.str ⟨#[c]⟩) H
theorem ix_list : IxR X (rIxL X.K) := by
  intro value slice pins s σ H x y v u Q I rx ry h hs
  obtain ⟨p, xs, i, z, rfl, rfl, hq, he, q⟩ := h
  cases rx
  obtain ⟨t, rfl⟩ := ry
  obtain ⟨its, r, pl, hz⟩ := I.list hq
  obtain ⟨j, h1, h2, h3, h4, h5⟩ := atI_get he
  obtain ⟨w, ew, rw'⟩ := r.get h2
  have hl := r.length
  have hn := line63
  have fin : EP X pins σ Q w s := ⟨z, H, I, rw', q⟩
  by_cases h0 : 0 ≤ i
  · have hj : i.toNat = j := by
      rw [seqIndex_of h0 h5] at h1
      exact Option.some.inj h1
    exact item_listR pl.isList h0 (by omega) (by rw [hj]; simpa using ew) fin hs
  · have hj : (i + (its.toArray.size : Int)).toNat = j := by
      rw [seqIndex_neg (by omega) h4] at h1
      rw [List.size_toArray, ← hl]
      exact Option.some.inj h1
    exact subscriptTail_builtinR (x := w) pl.isList.typeIs slot_list_getitem.lookup
      (wpAny_getItem_list_neg (Q := fun r s' => r = w ∧ EP X pins σ Q r s') pl.isList (by omega) (by rw [List.size_toArray] <;> omega) (by omega) (by rw [hj]; simpa using ew) ⟨rfl, fin⟩) hs
theorem ix_tup : IxR X (rIxT X.K) := by
  intro value slice pins s σ H x y v u Q I rx ry h hs
  obtain ⟨p, xs, i, z, rfl, rfl, hq, he, q⟩ := h
  cases rx
  obtain ⟨t, rfl⟩ := ry
  obtain ⟨its, r, pl, hz⟩ := I.tuple hq
  obtain ⟨j, h1, h2, h3, h4, h5⟩ := atI_get he
  obtain ⟨w, ew, rw'⟩ := r.get h2
  have hl := r.length
  have hn := line63
  have fin : EP X pins σ Q w s := ⟨z, H, I, rw', q⟩
  exact subscriptTail_builtinR (x := w) pl.typeIs slot_tuple_getitem.lookup
    (getItem_tuple (j := j) (Q := fun r s' => r = w ∧ EP X pins σ Q r s') pl (by omega) (by omega) (by rw [List.size_toArray, ← hl]; exact h1) (by simpa using ew) ⟨rfl, fin⟩) hs
theorem ix_str : IxR X rIxS := by
  intro value slice pins s σ H x y v u Q I rx ry h hs
  obtain ⟨z, i, c, rfl, rfl, hz, he, q⟩ := h
  obtain ⟨t, rfl⟩ := rx
  obtain ⟨t', rfl⟩ := ry
  obtain ⟨j, h1, h2, h3, h4, h5⟩ := atI_get he
  have hl : z.cps.toList.length = z.length := by simp [Str.length]
  rw [hl] at h1 h4 h5
  have hn := line63
  exact tail_any (typeIs_str s z t) slot_str_getitem.lookup (getItem_str (c := c) (by
    have e1 : decide (i < -(2 ^ 63 : Int)) = false := decide_eq_false (by omega)
    have e2 : decide (i ≥ 2 ^ 63) = false := decide_eq_false (by omega)
    rw [e1, e2, Bool.or_false]) (by rw [h1]; simpa using h2) ⟨.str ⟨#[c]⟩, H, I.tok _, ⟨_, rfl⟩, q⟩) hs
def rIx (K : PySem.W.Frag) : R2 := fun x y H Q => rIxL K x y H Q ∨ rIxT K x y H Q ∨ rIxS x y H Q
theorem ix_seq : IxR X (rIx X.K) := ix_list.or (ix_tup.or ix_str)
theorem Inv.lst {pins : List (Addr × Obj)} {σ : St} {H : Hp} {s : Shared} {p : Addr} {xs : List V} (I : Inv X pins σ H s) (h : H p = some (.lst xs)) :
    ∃ (its : List Value) (n : Nat), Vals xs its ∧ s.heap.get? p = some { cls := .type "list", data := .seq its.toArray n } ∧ xs.length ≤ sizeLine := by
  obtain ⟨z, its, n, r, e⟩ := I.hok p _ h
  exact ⟨its, n, r, e, z⟩
def rSetL : V → V → V → Hp → (Hp → Prop) → Prop := fun o i v H Q => ∃ p xs k j, o = .ref p ∧ i = .int k ∧ H p = some (.lst xs) ∧ ixN xs.length k = some j ∧ Q (upd H p (.lst (xs.set j v)))
theorem slice_bounds (lo hi : Option Int) (n : Nat) : (sliceBounds lo hi none n).1 = ((HT.sIx n 0 lo : Nat) : Int) ∧ (sliceBounds lo hi none n).2.1 = ((HT.sIx n n hi : Nat) : Int) ∧ (sliceBounds lo hi none n).2.2 = 1 := by
  refine ⟨?_, ?_, rfl⟩
  · cases lo with
    | none => simp [sliceBounds, HT.sIx]
    | some i =>
      simp only [sliceBounds, HT.sIx, Option.getD_none, show (1 : Int) > 0 by decide, if_true]
      by_cases h : i < 0
      · simp only [h, if_true] <;> omega
      · simp only [h, if_false] <;> omega
  · cases hi with
    | none => simp [sliceBounds, HT.sIx]
    | some i =>
      simp only [sliceBounds, HT.sIx, Option.getD_none, show (1 : Int) > 0 by decide, if_true]
      by_cases h : i < 0
      · simp only [h, if_true] <;> omega
      · simp only [h, if_false] <;> omega
theorem slicePick_cut (its : List Value) (lo hi : Option Int) : slicePick its.toArray lo hi none = ((its.drop (HT.sIx its.length 0 lo)).take (HT.sIx its.length its.length hi - HT.sIx its.length 0 lo)).toArray := by
  obtain ⟨h1, h2, h3⟩ := slice_bounds lo hi its.toArray.size
  unfold slicePick
  rw [h1, h2, h3]
  simp only [sliceRange_one, pick_run, List.size_toArray] <;> rfl
def rSlL (K : PySem.W.Frag) : V → Option Int → Option Int → Hp → VK → Prop := fun x lo hi H Q => ∃ a xs, x = .ref a ∧ SqL K H a xs ∧ ∀ p, H p = none → Q (.ref p) (upd H p (.lst (cutV xs lo hi)))
theorem sl_list : SlR X (rSlL X.K) := by
  intro pins s σ H x v vl vu lo hi sl Q I rx hs pl pu h
  obtain ⟨a, xs, rfl, hx, q⟩ := h
  cases rx
  obtain ⟨its, r, ht, hz⟩ := I.list hx
  have hlen := r.length
  refine ⟨"list", _, slot_list_getitem.lookup, ht.isList.typeIs, ?_⟩
  refine wpAny_getItem_list_slice ht.isList hs pl pu .none (by simp) ?_ (by rw [List.size_toArray] <;> omega)
  rw [slicePick_cut, ← hlen]
  refine ⟨.ref s.heap.objs.size, _, I.laid (t' := s.toks) (o := .lst (cutV xs lo hi)) (fun b ob q => Heap.get?_push_of_some _ q) (Nat.le_refl _) ?_, rfl, q _ (I.hok.fresh (Nat.le_refl _))⟩
  exact ⟨Nat.le_trans (cutV_length xs lo hi) hz, _, 0, (r.drop (HT.sIx xs.length 0 lo)).take (HT.sIx xs.length xs.length hi - HT.sIx xs.length 0 lo), Heap.get?_push_size _ rfl⟩
def flatV : V → Bool
  | .non => true
  | .bl _ => true
  | .int _ => true
  | .str _ => true
  | _ => false
def eqV : V → V → Bool
  | .non, .non => true
  | .bl a, .bl b => a == b
  | .bl a, .int b => (if a then 1 else 0) == b
  | .int a, .bl b => a == (if b then 1 else 0)
  | .int a, .int b => a == b
  | .str a, .str b => a == b
  | _, _ => false
def eqU (x : V) (u : Value) : Bool := match u with
  | .none => eqV .non x
  | .bool b => eqV (.bl b) x
  | .int i _ => eqV (.int i) x
  | .str z _ => eqV (.str z) x
  | _ => false
def inV (x : V) (xs : List V) : Bool := xs.any fun y => eqV y x
def rIn (K : PySem.W.Frag) (neg : Bool) : R2 := fun x y H Q => ∃ p xs, y = .ref p ∧ (SqL K H p xs ∨ SqT K H p xs) ∧ flatV x = true ∧ xs.all flatV = true ∧ Q (.bl (if neg then !inV x xs else inV x xs)) H
theorem call_len_seq : CallR X (.builtin "len") (fun xs H Q => ∃ p ys, xs = [.ref p] ∧ (SqL X.K H p ys ∨ SqT X.K H p ys) ∧ Q (.int ys.length) H) := by
  intro pins s σ H xs us Q I r h
  obtain ⟨p, ys, rfl, hq, q⟩ := h
  obtain ⟨u, rfl, rx⟩ := vals1 r
  cases rx
  have hn := line63
  rcases hq with hq | hq
  · obtain ⟨its, r', pl, hz⟩ := I.list hq
    have hlen := r'.length
    exact Calls.call_len_list pl.isList (by simp only [List.size_toArray] <;> omega) ⟨.int ys.length, H, I.tok _, ⟨s.toks + 1, by rw [List.size_toArray, hlen]⟩, q⟩
  · obtain ⟨its, r', pl, hz⟩ := I.tuple hq
    have hlen := r'.length
    exact len_tuple pl (by simp only [List.size_toArray] <;> omega) ⟨.int ys.length, H, I.tok _, ⟨s.toks + 1, by rw [List.size_toArray, hlen]⟩, q⟩
theorem CallR.or {f : Value} {r r' : List V → Hp → VK → Prop} (h : CallR X f r) (h' : CallR X f r') : CallR X f (fun xs H Q => r xs H Q ∨ r' xs H Q) := by
  intro pins s σ H xs us Q I rs q
  rcases q with q | q
  · exact h pins s σ H xs us Q I rs q
  · exact h' pins s σ H xs us Q I rs q
theorem call_list_of : CallR X (.type "list") (fun xs H Q => ∃ p ys, xs = [.ref p] ∧ (SqL X.K H p ys ∨ SqT X.K H p ys) ∧ ∀ l, H l = none → Q (.ref l) (upd H l (.lst ys))) := by
  intro pins s σ H xs us Q I r h
  obtain ⟨p, ys, rfl, hq, q⟩ := h
  obtain ⟨u, rfl, rx⟩ := vals1 r
  cases rx
  have fin : ∀ (its : List Value), Vals ys its → ys.length ≤ sizeLine → ∀ (h' : Heap) (c' : Nat), (∀ b o', s.heap.get? b = some o' → h'.get? b = some o') →
      h'.get? s.heap.objs.size = some { cls := .type "list", dict := none, data := .seq its.toArray c', slots := #[] } → EP X pins σ Q (.ref s.heap.objs.size) { s with heap := h' } := fun its r' hz h' c' kp e =>
    ⟨.ref s.heap.objs.size, _, I.laid (t' := s.toks) kp (Nat.le_refl _) (show ObjOk X.prog X.w _ h' _ (.lst ys) from ⟨hz, its, c', r', e⟩), rfl, q _ (I.hok.fresh (Nat.le_refl _))⟩
  rcases hq with hq | hq
  · obtain ⟨its, r', pl, hz⟩ := I.list hq
    have hlen := r'.length
    obtain ⟨o, ho, hc, n, hd⟩ := pl.isList
    exact call_list_seq p (.inl rfl) ho hc hd (fun h' c' kp e => fin its r' hz h' c' kp e) (by simp only [List.size_toArray] <;> omega)
  · obtain ⟨its, r', pl, hz⟩ := I.tuple hq
    have hlen := r'.length
    obtain ⟨o, ho, hc, n, hd⟩ := pl
    exact call_list_seq p (.inr rfl) ho hc hd (fun h' c' kp e => fin its r' hz h' c' kp e) (by simp only [List.size_toArray] <;> omega)
theorem call_tuple_of : CallR X (.type "tuple") (fun xs H Q => ∃ p ys, xs = [.ref p] ∧ ((SqL X.K H p ys ∧ ∀ l, H l = none → Q (.ref l) (upd H l (.tup ys))) ∨ (SqT X.K H p ys ∧ Q (.ref p) H))) := by
  intro pins s σ H xs us Q I r h
  obtain ⟨p, ys, rfl, h⟩ := h
  obtain ⟨u, rfl, rx⟩ := vals1 r
  cases rx
  rcases h with ⟨hq, q⟩ | ⟨hq, q⟩
  · obtain ⟨its, r', pl, hz⟩ := I.list hq
    have hlen := r'.length
    refine call_tuple_list pl.isList (fun h' kp => ?_) (by simp only [List.size_toArray] <;> omega)
    have I1 : Inv X pins σ H { s with heap := h' } := I.kept (t' := s.toks) kp
    have I2 : Inv X pins σ (upd H h'.objs.size (.tup ys)) { s with heap := h'.push { cls := .type "tuple", data := .seq its.toArray } } :=
      I1.laid (t' := s.toks) (fun b o e => Heap.get?_push_of_some _ e) (Nat.le_refl _) (show ObjOk X.prog X.w _ _ _ (.tup ys) from ⟨hz, its, r', PTup.new _ _⟩)
    exact ⟨.ref h'.objs.size, _, I2, rfl, q _ (I1.hok.fresh (Nat.le_refl _))⟩
  · obtain ⟨its, r', pl, hz⟩ := I.tuple hq
    exact call_tuple_same pl ⟨.ref p, H, I, rfl, q⟩
def tyV (K : PySem.W.Frag) (T : String) (x : V) (H : Hp) : Prop := match x with
  | .str _ => T = "str"
  | .int _ => T = "int"
  | .ref p => (T = "list" ∧ ∃ xs, SqL K H p xs) ∨ (T = "tuple" ∧ ∃ xs, SqT K H p xs) ∨
      (T = "dict" ∧ ((∃ kvs, H p = some (.dK kvs)) ∨ ∃ kvs, H p = some (.dT kvs))) ∨ (T = "set" ∧ ∃ S n, H p = some (.set S n))
  | _ => False
theorem tyV_is {pins : List (Addr × Obj)} {σ : St} {H : Hp} {s : Shared} {T : String} {x : V} {v : Value} (I : Inv X pins σ H s) (r : RelV x v) (ty : tyV X.K T x H) :
    s.TypeIs v T ∧ ∀ a, v = .ref a → ∃ ob, s.heap.get? a = some ob ∧ ob.dict = none := by
  cases x with
  | str z =>
    obtain ⟨t, rfl⟩ := r
    cases (show T = "str" from ty)
    exact ⟨typeIs_str s z t, fun _ e => nomatch e⟩
  | int i =>
    obtain ⟨t, rfl⟩ := r
    cases (show T = "int" from ty)
    exact ⟨typeIs_int s i t, fun _ e => nomatch e⟩
  | ref p =>
    cases r
    rcases ty with ⟨rfl, xs, hq⟩ | ⟨rfl, xs, hq⟩ | ⟨rfl, hk⟩ | ⟨rfl, S, n, hk⟩
    · obtain ⟨its, _, pl, _⟩ := I.list hq
      refine ⟨pl.isList.typeIs, fun a e => ?_⟩
      cases e
      obtain ⟨o, n, e, c, hd, _⟩ := pl
      exact ⟨o, e, hd⟩
    · obtain ⟨o, e0, hc, hd⟩ := I.tupleP hq
      refine ⟨⟨o, e0, hc⟩, fun a e => ?_⟩
      cases e
      exact ⟨o, e0, hd⟩
    · have z : ∃ o, s.heap.get? p = some o ∧ o.ExactDict := by
        rcases hk with ⟨kvs, hk⟩ | ⟨kvs, hk⟩
        · obtain ⟨_, _, _, _, o, _, _, e, ex, _⟩ := I.hok p _ hk
          exact ⟨o, e, ex⟩
        · obtain ⟨_, _, _, _, o, _, _, e, ex, _⟩ := I.hok p _ hk
          exact ⟨o, e, ex⟩
      obtain ⟨o, e, ex⟩ := z
      refine ⟨⟨o, e, ex.1⟩, fun a e2 => ?_⟩
      cases e2
      exact ⟨o, e, ex.2.1⟩
    · obtain ⟨o, _, _, _, e, ex, _⟩ := I.hok p _ hk
      refine ⟨⟨o, e, ex.1⟩, fun a e2 => ?_⟩
      cases e2
      exact ⟨o, e, ex.2.1⟩
  | _ => exact False.elim ty
def tBM0 (K : PySem.W.Frag) (T : String) (r : V → List V → Hp → VK → Prop) (to : TE) : TE := fun σ H Q => to σ H fun x H1 => tyV K T x H1 ∧ r x [] H1 Q
def tBM (K : PySem.W.Frag) (T : String) (r : V → List V → Hp → VK → Prop) (to : TE) (t : TA) : TE := fun σ H Q => to σ H fun x H1 => tyV K T x H1 ∧ t σ H1 fun xs H2 => r x xs H2 Q
variable {o e : Expr} {es : List Expr} {to : TE} {t : TA} {name : Str} {apos cpos : Pos} {T id : String} {r : V → List V → Hp → VK → Prop}
theorem pe_bm (pa : PlainAttrs T) (slot : Slot T name id) (hty : typeOf (.builtin id) = pure (.type "method_descriptor")) (hm : MtR X id r) (ho : PE X o to) (ha : PA X (e :: es) t)
    (hbase : attributeBase o name X.env (eval o X.env) = eval o X.env := by rfl)
    (hfew : ((backTo cpos (starEach (e :: es) X.env)).all (fun x => !x.1) && (backToKw cpos (keywordEach [] X.env)).all (fun x => x.1.isSome)
      && decide ((e :: es).length + ([] : List Keyword).length + (if ([] : List Keyword).isEmpty then 0 else 1) < 30)) = true := by rfl)
    (hline : (apos.endLine == cpos.line) = true := by rfl) (hs : starEach (e :: es) X.env = (false, eval e X.env) :: starEach es X.env := by rfl) (hplain : (backTo cpos (starEach es X.env)).any (·.1) = false := by rfl) :
    PE X (.Call (.Attribute o name apos) (e :: es) [] cpos) (tBM X.K T r to t) := by
  intro pins s σ H Q I h
  refine wpAny_Call_method_late hbase hfew hline rfl (thn (ho pins s σ H _ I h) fun v s1 ⟨x, H1, I1, r1, ty, q1⟩ => ?_)
  obtain ⟨h1, h2⟩ := tyV_is I1 r1 ty
  refine ⟨T, id, pa, slot, hty, h1, h2, ?_⟩
  have hA := ha cpos pins s1 σ H1 _ I1 q1
  rw [hs] at hA ⊢
  refine Calls.callWith_builtin (by show (false || (backTo cpos (starEach es X.env)).any (·.1)) = false; rw [hplain] <;> rfl) (Calls.evalArgs_plain ?_)
  exact thn hA fun us s2 ⟨vs, H2, I2, r2, q2⟩ => hm pins s2 σ H2 x vs v us Q I2 r1 r2 q2
/- xs.append(e), list.index on a module's tuple .. are MtR facts of 06m -/
end
end L2
namespace L2
open PySem PySem.Spec PyProof.Rows
def MtM (X : Cx) (id : String) (r : V → List V → Hp → VK → Prop) : Prop :=
  ∀ (pins : List (Addr × Obj)) (s : Shared) (σ : St) (H : Hp) (x : V) (xs : List V) (v : Value) (us : List Value) (Q : VK), Inv X pins σ H s → RelV x v → Vals xs us → r x xs H Q →
    wpAny (model X.prog X.w) X.A (call (.builtin id) (v :: us)) (EP X pins σ Q) X.xe s
theorem Vals.one : ∀ {x : V} {us : List Value}, Vals [x] us → ∃ u, us = [u] ∧ RelV x u
  | _, _, .cons r .nil => ⟨_, rfl, r⟩
theorem Vals.zero : ∀ {us : List Value}, Vals [] us → us = []
  | _, .nil => rfl
theorem Vals.dropLast {xs : List V} {us : List Value} (h : Vals xs us) : Vals xs.dropLast us.dropLast := by
  induction h with
  | nil => exact .nil
  | cons r t ih =>
    cases t with
    | nil => exact .nil
    | cons q t' => exact .cons r ih
theorem Vals.eraseIdx : ∀ {xs : List V} {us : List Value} (i : Nat), Vals xs us → Vals (xs.eraseIdx i) (us.eraseIdx i)
  | _, _, _, .nil => .nil
  | _, _, 0, .cons _ t => t
  | _, _, i + 1, .cons r t => .cons r (Vals.eraseIdx i t)
theorem Vals.reverse {xs : List V} {us : List Value} (h : Vals xs us) : Vals xs.reverse us.reverse := by
  induction h with
  | nil => exact .nil
  | cons r t ih => rw [List.reverse_cons, List.reverse_cons]; exact Vals.append ih (.cons r .nil)
theorem Vals.rep {xs : List V} {us : List Value} (h : Vals xs us) : ∀ k : Nat, Vals (List.replicate k xs).flatten (List.replicate k us).flatten
  | 0 => .nil
  | k + 1 => by
    rw [List.replicate_succ, List.replicate_succ, List.flatten_cons, List.flatten_cons]
    exact Vals.append h (Vals.rep h k)
theorem len_erase {α : Type} : ∀ (l : List α) (i : Nat), (l.eraseIdx i).length ≤ l.length
  | [], _ => Nat.le_refl _
  | _ :: _, 0 => Nat.le_succ _
  | _ :: r, i + 1 => Nat.succ_le_succ (len_erase r i)
theorem foldl_rep (its : List Value) : ∀ (k : Nat) (acc : List Value),
    List.foldl (fun x1 x2 => x1 ++ x2) acc.toArray (List.replicate k its.toArray) = (acc ++ (List.replicate k its).flatten).toArray
  | 0, acc => by simp
  | k + 1, acc => by
    have e : acc.toArray ++ its.toArray = (acc ++ its).toArray := by simp
    have e2 : (acc ++ its) ++ (List.replicate k its).flatten = acc ++ (List.replicate (k + 1) its).flatten := by
      rw [List.replicate_succ, List.flatten_cons, List.append_assoc]
    rw [← e2, ← foldl_rep its k (acc ++ its), ← e, List.replicate_succ, List.foldl_cons]
section
variable {X : Cx} {pins : List (Addr × Obj)} {σ : St} {H : Hp} {s : Shared} {l b : Addr} {xs ys zs : List V}
theorem Inv.lset {its its' : List Value} {n : Nat} {f : Array Value → Array Value} {t' : Nat} (I : Inv X pins σ H s) (hH : H l = some (.lst xs))
    (e : s.heap.get? l = some { cls := .type "list", data := .seq its.toArray n }) (hf : f its.toArray = its'.toArray) (hv : Vals ys its') (hz : ys.length ≤ sizeLine) :
    Inv X pins σ (upd H l (.lst ys)) { s with heap := s.heap.update l (Obj.mapSeq f), toks := t' } := by
  have q := PySem.IsL.update e f
  rw [hf] at q
  refine I.write (x := l) (e := l) (by rw [hH]; exact trivial) (.inl rfl) (fun b' u hb hu => (Heap.get?_update_other s.heap (Obj.mapSeq f) (Ne.symm hb)).trans hu) ⟨_, q⟩ ?_
  exact ⟨hz, its', _, hv, q⟩
theorem Inv.lnew {its : List Value} {t' : Nat} (I : Inv X pins σ H s) (hv : Vals ys its) (hz : ys.length ≤ sizeLine) :
    Inv X pins σ (upd H s.heap.objs.size (.lst ys)) { s with heap := s.heap.push { cls := .type "list", data := .seq its.toArray }, toks := t' } :=
  I.laid (fun _ _ q => Heap.get?_push_of_some _ q) (Nat.le_refl _) ⟨hz, its, 0, hv, Heap.get?_push_size _ rfl⟩
theorem Inv.fresh (I : Inv X pins σ H s) : H s.heap.objs.size = none := I.hok.fresh (Nat.le_refl _)
theorem Inv.lstM (I : Inv X pins σ H s) (hH : H l = some (.lst xs)) : xs.length ≤ sizeLine ∧ ∃ (its : List Value) (n : Nat), Vals xs its ∧ xs.length = its.length ∧ s.heap.get? l = some { cls := .type "list", data := .seq its.toArray n } := by
  obtain ⟨z, its, n, r, e⟩ := I.hok l _ hH
  exact ⟨z, its, n, r, r.length, e⟩
theorem notLongL {n : Nat} (h : n ≤ sizeLine) : Builtin.List.listTooLong n = false := by
  unfold Builtin.List.listTooLong
  exact decide_eq_false (by omega)
end
section
variable {X : Cx}
def rAppend : V → List V → Hp → VK → Prop := fun x vs H Q => ∃ l xs y, x = .ref l ∧ vs = [y] ∧ H l = some (.lst xs) ∧ xs.length < sizeLine ∧ Q .non (upd H l (.lst (xs ++ [y])))
theorem mt_append : MtM X "list.append" rAppend := by
  intro pins s σ H x vs v us Q I rx rv h
  obtain ⟨l, xs, y, rfl, rfl, hH, hz, q⟩ := h
  cases rx
  obtain ⟨u, rfl, ru⟩ := rv.one
  obtain ⟨z, its, n, r, hl, e⟩ := I.lstM hH
  refine call_meets F.slot_list_append ⟨_, e, rfl⟩ F.entry_list_append (F.args_list_append_2 _ _) (PySem.list_append l its.toArray n u (by rw [List.size_toArray]; omega)) ⟨e, ?_⟩
  refine ⟨.non, _, I.lset (its' := its ++ [u]) hH e (by simp) (r.append (.cons ru .nil)) ?_, rfl, q⟩
  rw [List.length_append, List.length_singleton]
  omega
def rExtend : V → List V → Hp → VK → Prop := fun x vs H Q => ∃ l b xs zs, x = .ref l ∧ vs = [.ref b] ∧ H l = some (.lst xs) ∧ H b = some (.lst zs) ∧ xs.length + zs.length ≤ sizeLine ∧ Q .non (upd H l (.lst (xs ++ zs)))
theorem mt_extend : MtM X "list.extend" rExtend := by
  intro pins s σ H x vs v us Q I rx rv h
  obtain ⟨l, b, xs, zs, rfl, rfl, hH, hB, hz, q⟩ := h
  cases rx
  obtain ⟨u, rfl, ru⟩ := rv.one
  cases ru
  obtain ⟨z, its, n, r, hl, e⟩ := I.lstM hH
  obtain ⟨z2, its2, n2, r2, hl2, e2⟩ := I.lstM hB
  have hsz : its.toArray.size + its2.toArray.size ≤ sizeLine := by rw [List.size_toArray, List.size_toArray]; omega
  have hlong : ¬ (!its.toArray.isEmpty && Builtin.List.listTooLong (its.toArray.size + its2.toArray.size)) = true := by
    rw [notLongL hsz, Bool.and_false]
    exact Bool.false_ne_true
  refine call_meets F.slot_list_extend ⟨_, e, rfl⟩ F.entry_list_extend (F.args_list_extend_2 _ _)
    (AutoSeq1.list_extend_list_list_0 l its.toArray n b its2.toArray n2 hlong (by rw [List.size_toArray]; omega) (by omega)) ⟨e, e2, ?_⟩
  refine ⟨.non, _, I.lset (its' := its ++ its2) hH e (by simp) (r.append r2) ?_, rfl, q⟩
  rw [List.length_append]
  omega
def rPop : V → List V → Hp → VK → Prop := fun x vs H Q => ∃ l xs y, x = .ref l ∧ vs = [] ∧ H l = some (.lst xs) ∧ xs[xs.length - 1]? = some y ∧ Q y (upd H l (.lst xs.dropLast))
def rPopAt : V → List V → Hp → VK → Prop := fun x vs H Q => ∃ l xs i k y, x = .ref l ∧ vs = [.int i] ∧ H l = some (.lst xs) ∧ -(2 ^ 63) ≤ i ∧ i < 2 ^ 63 ∧ seqIndex? i xs.length = some k ∧ xs[k]? = some y ∧ Q y (upd H l (.lst (xs.eraseIdx k)))
theorem mt_popAt : MtM X "list.pop" rPopAt := by
  intro pins s σ H x vs v us Q I rx rv h
  obtain ⟨l, xs, i, k, y, rfl, rfl, hH, h1, h2, hk, hy, q⟩ := h
  cases rx
  obtain ⟨u, rfl, ru⟩ := rv.one
  obtain ⟨t, rfl⟩ := ru
  obtain ⟨z, its, n, r, hl, e⟩ := I.lstM hH
  obtain ⟨w, hw, rw'⟩ := r.get hy
  refine call_meets F.slot_list_pop ⟨_, e, rfl⟩ F.entry_list_pop (F.args_list_pop_2 _ _)
    (MeetsSeq.list_pop_at l its.toArray n i t k w (fitsIndex_both h1 h2) (by rw [List.size_toArray, ← hl]; exact hk) (by rw [← Array.getElem?_toList]; exact hw) (by rw [List.size_toArray]; omega)) ⟨e, ?_⟩
  refine ⟨y, _, I.lset (its' := its.eraseIdx k) hH e ?_ (r.eraseIdx k) ?_, rw', q⟩
  · show its.toArray.eraseIdxIfInBounds k = (its.eraseIdx k).toArray
    rw [List.eraseIdxIfInBounds_toArray]
  · have := len_erase xs k
    omega
def rReverse : V → List V → Hp → VK → Prop := fun x vs H Q => ∃ l xs, x = .ref l ∧ vs = [] ∧ H l = some (.lst xs) ∧ Q .non (upd H l (.lst xs.reverse))
def rClear : V → List V → Hp → VK → Prop := fun x vs H Q => ∃ l xs, x = .ref l ∧ vs = [] ∧ H l = some (.lst xs) ∧ Q .non (upd H l (.lst []))
def rCat : R2 := fun x y H Q => ∃ l b xs zs, x = .ref l ∧ y = .ref b ∧ H l = some (.lst xs) ∧ H b = some (.lst zs) ∧ xs.length + zs.length ≤ sizeLine ∧ ∀ p, H p = none → Q (.ref p) (upd H p (.lst (xs ++ zs)))
def rRep : R2 := fun x y H Q => ∃ l k xs, x = .ref l ∧ y = .int k ∧ H l = some (.lst xs) ∧ -(2 ^ 63) ≤ k ∧ k < 2 ^ 63 ∧ xs.length * k.toNat ≤ sizeLine ∧
  ∀ p, H p = none → Q (.ref p) (upd H p (.lst (List.replicate k.toNat xs).flatten))
theorem len_rep {α : Type} (xs : List α) (k : Nat) : (List.replicate k xs).flatten.length = k * xs.length := by
  induction k with
  | zero => simp
  | succ k ih => rw [List.replicate_succ, List.flatten_cons, List.length_append, ih, Nat.succ_mul, Nat.add_comm]
end
end L2
namespace Att
open PySem PySem.W PySem.Calls PyProof.Rows
theorem ints_of_wellAll {P : Params} {h : Heap} : ∀ (ns : List Int) (vs : List Value), WellAll P h vs (ns.map WData.int) → IntsAre vs ns := by
  intro ns
  induction ns with
  | nil =>
    intro vs w
    rw [List.map_nil] at w
    cases w
    exact .nil
  | cons n ns ih =>
    intro vs w
    rw [List.map_cons] at w
    cases w with
    | cons a b =>
      cases a
      exact .cons _ _ (ih _ b)
theorem script_of {l : OpenLaw} {n : Nat} (hn : l.most = some n) {P : Params} {h : Heap} {args : List WData} {vals : List Value}
    (hpre : l.row.toRowW.claim.pre args = true) (hwl : WellAll P h vals args) :
    ∃ a vs ns, vals = [Value.ref a] ∧ args = [WData.list (ns.map WData.int)] ∧ h.get? a = some { cls := .type "list", data := .seq vs.toArray } ∧ IntsAre vs ns ∧ ns.length ≤ n := by
  have hsh : WShape.hasAll [] args [.list .int] = true := (pre_splitW hpre).1
  have hc : l.pre.holds [] { args := args } = true := (pre_splitW hpre).2
  obtain ⟨d, r, rfl, h1, h2⟩ := hasAllW_cons hsh
  obtain rfl := hasAllW_nil h2
  obtain ⟨xs, rfl, h3⟩ := hasW_list h1
  obtain ⟨ns, rfl⟩ := items_int h3
  have hlen : ns.length ≤ n := by
    unfold OpenLaw.pre at hc
    have h4 : (WTm.not (.lt (.lit (.int (n : Int))) (.len (.arg 0)))).holds [] { args := [.list (ns.map .int)] } = true := by
      have h4 := (holds_andW hc).1
      rw [hn] at h4
      exact h4
    have h5 := condW_of h4 (w_not (w_lt w_lit (w_len_list (w_arg rfl))))
    rw [List.length_map] at h5
    refine Nat.le_of_not_lt fun q => ?_
    have q' : (n : Int) < ((ns.length : Nat) : Int) := by omega
    first
      | (rw [decide_eq_true q'] at h5; exact absurd h5 (by decide))
      | (simp at h5; omega)
  cases hwl with
  | cons w1 w2 =>
    cases w2
    cases w1 with
    | list ho hall => exact ⟨_, _, ns, rfl, rfl, ho, ints_of_wellAll ns _ hall, hlen⟩
theorem post_true (l : OpenLaw) (args : List WData) : l.row.toRowW.claim.post args (.bool true) args = true :=
  postW_of (r := l.row.toRowW) (X := (true == true))
    (show WShape.has [] (.bool true) .bool = true by first | rfl | decide | simp [WShape.has, WShape.arms, WShape.armsAll])
    (show (WTm.eq .res (.lit (.bool true))).value [] { args := args, res := some (.bool true), after := args } = some (.bool (true == true)) from w_eq_bool (w_res rfl) w_lit) rfl
theorem attach_call {l : OpenLaw} {n : Nat} {q : Program} {loose : List Str} {XP : (Str → Option Value) → Heap → Prop} {YP : World → Heap → Prop} {d : DefRec}
    (hn : l.most = some n) (hdf : d.params.defaults = [])
    (call : ∀ (w : World) (s₀ s₁ : Shared) (mg mb : Str → Option Value) (fa : Addr) (o : Obj) (pm cd doc : Value) (a : Addr) (vs : List Value) (ns : List Int),
      Ground q loose [] XP w s₀ mg mb s₁.heap → YP w s₁.heap →
      s₁.heap.get? fa = some o → o.data = .func (docDef d.name d.params d.body d.scope pm cd doc) → s₁.heap.CodeRec cd d.name → mg d.name = some (.ref fa) →
      s₁.heap.get? a = some { cls := .type "list", data := .seq vs.toArray } → IntsAre vs ns → ns.length ≤ n → s₁.gens = #[] →
      codeAny (model l.prog w) callerA (.call (.ref fa) ⟨[.ref a], []⟩) (fun r s' => r = .ok (.ret (.bool true)) ∧ OldK s₁.heap s'.heap ∧ s'.os = s₁.os ∧ AllBare s'.gens) s₁) :
    WalkO q loose XP YP l.row.toRowW d [] (fun f vs => PySem.call f vs) := by
  intro w s₀ s₁ mg mb G Y fa o pm cd doc dV kV ho hd hcd hD hmg hg args vals as hpre hlay hrd hwl hlo
  obtain rfl : dV = .none := Dflts.none hD hdf
  obtain rfl : kV = .none := Dflts.noKw hD
  obtain ⟨a, vs, ns, rfl, rfl, hobj, hints, hlen⟩ := script_of hn hpre hwl
  refine enter_call (codeAny_mono (call w s₀ s₁ mg mb fa o pm cd doc a vs ns G Y ho (fd_plain hd) hcd hmg hobj hints hlen hg) fun r s' hq => ?_)
  obtain ⟨rfl, h2, h3, h4⟩ := hq
  exact ⟨.inl ⟨.bool true, .bool true, [], rfl, fun _ => rfl, .bool true, post_true l _, fun _ => ⟨List.Pairwise.nil, fun _ hm => (nomatch hm)⟩⟩, h2, h3, h4⟩
section
variable {prog : Program} {w : World} {A : Around} {E : Value → Shared → Prop} {s : Shared} {K : Frag}
def noObjs (h : Heap) : Heap := { h with objs := #[] }
def ledger (h : Heap) (L d : Addr) : List (Addr × Obj) := (List.range h.objs.size).filterMap fun a => if a = L ∨ a = d then none else (h.get? a).map fun o => (a, o)
end
end Att
namespace L2
open PySem PySem.Spec PyProof.Rows
theorem vals_ints : ∀ {vs : List Value} {ns : List Int}, IntsAre vs ns → Vals (ns.map V.int) vs
  | _, _, .nil => .nil
  | _, _, .cons n t h => .cons ⟨t, rfl⟩ (vals_ints h)
def Only (H : Hp) : Prop := ∀ b, H b = none ∨ ∃ o xs, H b = some (.frz o (.lst xs))
theorem law_call {P : Program} {w : World} {K : PySem.W.Frag} {mg mb : Str → Option Value} {CX : CXT} {k : Nat} {fa a : Addr} {fd : FuncData} {x : Str} {sp : Sp} {s₁ : Shared} {vs : List Value} {ns : List Int}
    (KX : K.In s₁.heap) (hns : s₁.heap.Ns mainGlobals mg) (hb : s₁.heap.Ns builtinsNs mb) (hbb : ∀ x : Str, x ≠ "__name__" → mb x = bootBuiltins x) (hlim : s₁.heap.NoLimit) (hg : s₁.gens = #[])
    (ha : s₁.heap.get? a = some { cls := .type "list", data := .seq vs.toArray }) (hi : IntsAre vs ns) (hl : ns.length ≤ sizeLine) (hr : Room k callerA)
    (F : ∀ base : Heap, K.In base → base.Ns mainGlobals mg → FnOk P w K mg base CX k fa fd [x] sp) (hbind : ∀ (s : Shared) (u : Value), BindsTo s fd ⟨[u], []⟩ [(x, u)])
    (hsp : ∀ H : Hp, Only H → SqL K H a (ns.map V.int) → sp [.ref a] H (fun v _ => v = .bl true) fun _ _ _ => False)
    (hCX : ∀ H e s', CX [] H s₁ (fun _ _ _ => False) e s' → False) :
    codeAny (model P w) callerA (.call (.ref fa) ⟨[.ref a], []⟩) (fun r s' => r = .ok (.ret (.bool true)) ∧ OldK s₁.heap s'.heap ∧ s'.os = s₁.os ∧ AllBare s'.gens) s₁ := by
  have rv := vals_ints hi
  have lenV := hi.length
  have core : ∀ H : Hp, Only H → SqL K H a (ns.map V.int) → HOk P w H s₁.heap → (∀ b, H b ≠ none → b = a) → (H a ≠ none → K.lookup a = none) →
      codeAny (model P w) callerA (.call (.ref fa) ⟨[.ref a], []⟩) (fun r s' => r = .ok (.ret (.bool true)) ∧ OldK s₁.heap s'.heap ∧ s'.os = s₁.os ∧ AllBare s'.gens) s₁ := by
    intro H hO hS hok hA hK
    have base_of : ∀ {b : Addr} {o : Obj}, s₁.heap.get? b = some o → H b = none → (hidT s₁.heap H).get? b = some o := fun e n => hidT_get e n
    have noA : ∀ {b : Addr} {o : Obj} {es : Array DictEntry} {ep : Nat}, s₁.heap.get? b = some o → o.data = .dict es ep → H b = none := fun {b o es ep} e d => by
      cases q : H b with
      | none => rfl
      | some u =>
        have e' : b = a := hA b (by rw [q]; simp)
        subst e'
        rw [ha] at e; cases e
        have d' : Data.seq vs.toArray _ = Data.dict es ep := d
        cases d'
    have nsK : ∀ {b : Addr} {m : Str → Option Value}, s₁.heap.Ns b m → (hidT s₁.heap H).Ns b m := fun {b m} ⟨o, es, ep, e, d, r⟩ => ⟨o, es, ep, base_of e (noA e d), d, r⟩
    have hKb : K.In (hidT s₁.heap H) := fun b o e => base_of (KX b o e) (by
      cases q : H b with
      | none => rfl
      | some u =>
        have e' : b = a := hA b (by rw [q]; simp)
        subst e'
        rw [hK (by rw [q]; simp)] at e; cases e)
    have hM : Mod K mg (hidT s₁.heap H) := ⟨hKb, nsK hns, ⟨mb, nsK hb, hbb⟩, let ⟨mc, h1, h2⟩ := hlim; ⟨mc, nsK h1, h2⟩⟩
    have e0 : Env0 P w K mg (hidT s₁.heap H) callerA [] s₁ H := ⟨rfl, hM, fun b o e => of_hidT e, Nat.le_of_eq (hidT_size _ _), trivial, fun b hb => absurd (show b ∈ ([] : List Addr) from hb) (by simp), hok, .of_eq hg⟩
    refine codeAny_mono ((F _ hKb (nsK hns)).run callerA [] s₁ H ⟨[.ref a], []⟩ [.ref a] [.ref a] _ _ hr e0 (hbind s₁ (.ref a)) (.cons rfl .nil) (hsp H hO hS)) fun r s' h => ?_
    cases r with
    | error e => exact (hCX H e s' h).elim
    | ok fl =>
      cases fl with
      | next => exact False.elim h
      | brk => exact False.elim h
      | cont => exact False.elim h
      | ret u =>
        obtain ⟨v, H', os, bare, un, hok', r', q⟩ := h
        have q' : v = .bl true := q
        subst q'
        obtain rfl : u = Value.bool true := r'
        refine ⟨rfl, OldK.of_keep fun b o e => ?_, os, bare⟩
        cases q : H b with
        | none => exact un.keep b o e q (by intro z; exact absurd (show b ∈ ([] : List Addr) from z) (by simp)) (by simp)
        | some u =>
          rcases hO b with z | ⟨ob, xs, z⟩
          · rw [q] at z; cases z
          · have z2 := un.frzs b ob _ z
            obtain ⟨e1, _⟩ := hok b _ z
            obtain ⟨e2, _⟩ := hok' b _ z2
            rw [e] at e1; cases e1
            exact e2
  cases hk : K.lookup a with
  | some o =>
    have e := KX a o hk
    rw [ha] at e
    cases e
    refine core (fun _ => none) (fun _ => .inl rfl) (.inr ⟨_, vs.toArray, _, hk, rfl, rfl, rfl, by rw [List.size_toArray, lenV]; exact hl, by simpa using rv⟩) (fun b u z => by have z' : (none : Option HO) = some u := z; cases z') (fun b z => absurd rfl z) fun z => absurd rfl z
  | none =>
    refine core (fun b => if b = a then some (.frz { cls := .type "list", data := .seq vs.toArray } (.lst (ns.map V.int))) else none) (fun b => ?_) (.inl (.inr ⟨{ cls := .type "list", data := .seq vs.toArray }, if_pos rfl⟩)) (fun b u z => ?_) (fun b z => ?_) fun _ => hk
    · by_cases hb : b = a
      · exact .inr ⟨_, _, if_pos hb⟩
      · exact .inl (if_neg hb)
    · by_cases hb : b = a
      · have z' := (if_pos hb).symm.trans z
        cases z'
        subst hb
        exact ⟨ha, by rw [List.length_map]; exact hl, vs, _, rv, ha⟩
      · have z' := (if_neg hb).symm.trans z
        cases z'
    · by_cases hb : b = a
      · exact hb
      · exact absurd (if_neg hb) z
end L2
namespace L2
open PySem PySem.Spec PyProof.Rows
abbrev KOf {K : PySem.W.Frag} {h : Heap} (_ : K.In h) : PySem.W.Frag := K
theorem walk_of {l : PySem.W.OpenLaw} {n k : Nat} {q : Program} {loose : List Str} {XP : (Str → Option Value) → Heap → Prop} {YP : World → Heap → Prop} {d : DefRec} {K : Params → PySem.W.Frag} {CX : World → CXT} {sp : World → Sp} {x : Str}
    (hn : l.most = some n) (hn2 : n ≤ sizeLine) (hdf : d.params.defaults = []) (hr : Room k callerA)
    (hY : ∀ (w : World) (h : Heap), YP w h → (K w.params).In h)
    (F : ∀ (w : World) (mg : Str → Option Value) (fa : Addr) (h : Heap), (K w.params).In h → h.Ns mainGlobals mg → mg d.name = some (.ref fa) →
      ∃ fd : FuncData, (∀ (s : Shared) (u : Value), BindsTo s fd ⟨[u], []⟩ [(x, u)]) ∧
        ∀ base : Heap, (K w.params).In base → base.Ns mainGlobals mg → FnOk l.prog w (K w.params) mg base (CX w) k fa fd [x] (sp w))
    (hsp : ∀ (w : World) (H : Hp) (a : Addr) (ns : List Int), ns.length ≤ n → Only H → SqL (K w.params) H a (ns.map V.int) → sp w [.ref a] H (fun v _ => v = .bl true) fun _ _ _ => False)
    (hCX : ∀ (w : World) (H : Hp) (s : Shared) (e : Value) (s' : Shared), CX w [] H s (fun _ _ _ => False) e s' → False) :
    PySem.W.WalkO q loose XP YP l.row.toRowW d [] (fun f vs => PySem.call f vs) := by
  refine Att.attach_call hn hdf fun w s₀ s₁ mg mb fa o pm cd doc a vs ns G Y ho hd hcd hmg hobj hints hlen hg => ?_
  have KX := hY w _ Y
  obtain ⟨fd, hb, hF⟩ := F w mg fa _ KX G.T.g hmg
  exact law_call KX G.T.g G.T.b G.T.builtins G.T.nolimit hg hobj hints (Nat.le_trans hlen hn2) hr hF hb (fun H hO hS => hsp w H a ns hlen hO hS) fun H e s' => hCX w H s₁ e s'
end L2
/- THE LAST THEOREM (shape; LID, My.* are yours):
   My.Adr: a structure of the addresses that your layer names (classes, functions); My.Txt K t: a structure (Prop) of the equations over K;
   My.txt_mk : {K} {implicit addresses ..} (e1 : nsIn K mainGlobals "law" = some (some (.ref f))) (e2 : K.lookup f = some ⟨oc, od, .func (fnOf "law" "law" params body scope dV kV doc pm an cdv ct), sl⟩) (e3 : codeIn K cdv "law" = true) .. : ∃ t, My.Txt K t
(the tactic k_is has no namespace: write k_is) -/
namespace L2
open PySem PySem.Spec PyProof.Rows
def inClass (s : Stmt) (j : Nat) : Stmt := match s with
  | .ClassDef _ _ _ body _ _ _ _ _ _ _ => body.getD j (.Pass ⟨0, 0, 0, 0⟩)
  | _ => .Pass ⟨0, 0, 0, 0⟩
def defArgs (s : Stmt) : Arguments := match s with
  | .FunctionDef _ a _ _ _ _ _ _ _ _ => a
  | _ => { posonlyargs := [], args := [], vararg := none, kwonlyargs := [], kw_defaults := [], kwarg := none, defaults := [] }
def defBody (s : Stmt) : List Stmt := match s with
  | .FunctionDef _ _ b _ _ _ _ _ _ _ => b
  | _ => []
def defScope (s : Stmt) : Scope := match s with
  | .FunctionDef _ _ _ _ _ _ sc _ _ _ => sc
  | _ => { kind := .function, names := [], isGenerator := false, isCoroutine := false }
abbrev CX0 : CXT := fun _ _ _ _ _ _ => False
abbrev E0 : XK := fun _ _ _ => False
theorem pass0 {X : Cx} : Passes CX0 X E0 := fun _ _ _ _ _ _ _ h => h.elim
structure Fun (K : PySem.W.Frag) (x qual : Str) (st : Stmt) (f : Addr) (fd : FuncData) : Prop where
  ex : ∃ (oc : Value) (od : Option Addr) (kV doc pm : Value) (an : Option Addr) (cdv ct : Value) (osl : Array (Option Value)),
    fd = PySem.W.fnOf x qual (defArgs st) (defBody st) (defScope st) .none kV doc pm an cdv ct ∧ K.lookup f = some ⟨oc, od, .func fd, osl⟩ ∧ PySem.W.codeIn K cdv qual = true
  kp : PySem.W.keepIn K (.ref f) = true
section
variable {P : Program} {w : World} {K : PySem.W.Frag} {mg : Str → Option Value} {base : Heap}
theorem Fun.ok {x qual : Str} {st : Stmt} {f : Addr} {fd : FuncData} {N ps : List Str} {k : Nat} {sp : Sp} (F : Fun K x qual st f fd) (S : FnScope N ps (defScope st)) (len : ∀ vs H Q E, sp vs H Q E → vs.length = ps.length)
    (hbody : ∀ (cdv : Value) (A : Around) (outer : List Env) (s : Shared) (H : Hp) (vs : List V) (Q : VK) (E : XK), Room k (A.deeper (envOfC qual (defScope st) s.heap.objs.size f cdv)) → sp vs H Q E →
      ∃ t, PSs (cxOf CX0 P w K mg base N qual (defScope st) f cdv A outer s H E).nox (defBody st) t ∧ t { nx := fun _ H' => Q .non H', rt := Q } (start N vs) H) : FnOk P w K mg base CX0 (k + 1) f fd ps sp := by
  obtain ⟨oc, od, kV, doc, pm, an, cdv, ct, osl, rfl, lk, hcd⟩ := F.ex
  refine fn_of lk hcd S len fun A outer s H vs Q E hr hsp => ?_
  obtain ⟨t, h, q⟩ := hbody cdv A outer s H vs Q E hr hsp
  exact ⟨t, h.nox, q⟩
theorem Fun.binds {x qual : Str} {st : Stmt} {f : Addr} {fd : FuncData} {ps : List Str} (F : Fun K x qual st f fd)
    (h : ∀ (kV doc pm : Value) (an : Option Addr) (cdv ct : Value) (us : List Value), us.length = ps.length → bindArgs (PySem.W.fnOf x qual (defArgs st) (defBody st) (defScope st) .none kV doc pm an cdv ct) ⟨us, []⟩ = pure (ps.zip us)) : Binds K fd ps [] := by
  obtain ⟨oc, od, kV, doc, pm, an, cdv, ct, osl, rfl, lk, hcd⟩ := F.ex
  exact .all (h kV doc pm an cdv ct)
theorem fun_mk {x qual : Str} {st : Stmt} {f : Addr} {oc : Value} {od an : Option Addr} {osl : Array (Option Value)} {kV doc pm cdv ct : Value} (l : K.lookup f = some ⟨oc, od, .func (PySem.W.fnOf x qual (defArgs st) (defBody st) (defScope st) .none kV doc pm an cdv ct), osl⟩)
    (c : PySem.W.codeIn K cdv qual = true) (k : PySem.W.keepIn K (.ref f) = true) : Fun K x qual st f (PySem.W.fnOf x qual (defArgs st) (defBody st) (defScope st) .none kV doc pm an cdv ct) := ⟨⟨oc, od, kV, doc, pm, an, cdv, ct, osl, rfl, l, c⟩, k⟩
end
theorem iteF {A B : Prop} (h : B) : if false = true then A else B := by
  rw [if_neg Bool.false_ne_true]
  exact h
theorem iteT {A B : Prop} (h : A) : if true = true then A else B := by
  rw [if_pos rfl]
  exact h
def Same (H H' : Hp) : Prop := ∀ b o, H b = some o → H' b = some o
theorem Same.refl (H : Hp) : Same H H := fun _ _ h => h
theorem Same.trans {H H1 H2 : Hp} (a : Same H H1) (b : Same H1 H2) : Same H H2 := fun c o h => b c o (a c o h)
theorem Same.free {H H' : Hp} (e : Same H H') {l : Addr} (h : H' l = Option.none) : H l = Option.none := by
  cases q : H l with
  | none => rfl
  | some o =>
    rw [e l o q] at h
    cases h
theorem Same.seq {K : PySem.W.Frag} {H H' : Hp} {a : Addr} {xs : List V} (e : Same H H') (h : SqL K H a xs) : SqL K H' a xs := by
  rcases h with (h | ⟨o, h⟩) | h
  · exact .inl (.inl (e _ _ h))
  · exact .inl (.inr ⟨o, e _ _ h⟩)
  · exact .inr h
end L2
set_option Elab.async false
set_option linter.all false
set_option maxRecDepth 100000
set_option maxHeartbeats 4000000
namespace L3
open PySem PySem.Spec PyProof.Rows L2
abbrev St := L2.St
section
variable {env : Env}
theorem clo_go : ∀ (names : List (Str × NameKind)) (cs : List (Str × Addr)), (∀ x ∈ names, x.2 = .free → ∃ c, env.cells.lookup x.1 = some c) →
    ∃ cl : List (Str × Addr), (forIn names cs (fun (x : Str × NameKind) (r : List (Str × Addr)) => (if (x.2 == NameKind.free) = true then do
        let a ← cellOf env x.1
        pure (ForInStep.yield ((x.1, a) :: r))
      else pure (ForInStep.yield r) : Sem (ForInStep (List (Str × Addr))))) : Sem (List (Str × Addr))) = pure cl ∧
      (∀ x c, cl.lookup x = some c → cs.lookup x = some c ∨ (env.cells.lookup x = some c ∧ (x, NameKind.free) ∈ names)) ∧
      (∀ x, ((x, NameKind.free) ∈ names ∨ ∃ c, cs.lookup x = some c) → ∃ c, cl.lookup x = some c)
  | [], cs, _ => ⟨cs, rfl, fun x c h => .inl h, fun x h => by
      rcases h with h | h
      · simp at h
      · exact h⟩
  | (n, k) :: r, cs, hf => by
    by_cases hk : k = .free
    · subst hk
      obtain ⟨c, hc⟩ := hf (n, .free) List.mem_cons_self rfl
      obtain ⟨cl, e, h1, h2⟩ := clo_go r ((n, c) :: cs) (fun x hx => hf x (List.mem_cons_of_mem _ hx))
      refine ⟨cl, ?_, fun x d hd => ?_, fun x hx => ?_⟩
      · rw [List.forIn_cons]
        have e1 : cellOf env n = pure c := by
          unfold cellOf; rw [hc]
        simp only [beq_self_eq_true, if_true, e1]
        exact e
      · rcases h1 x d hd with q | ⟨q1, q2⟩
        · rw [List.lookup_cons] at q
          cases hx : x == n with
          | true =>
            rw [hx] at q
            have ex : x = n := by simpa using hx
            subst ex
            cases q
            exact .inr ⟨hc, List.mem_cons_self⟩
          | false => rw [hx] at q; exact .inl q
        · exact .inr ⟨q1, List.mem_cons_of_mem _ q2⟩
      · refine h2 x ?_
        rcases hx with hx | ⟨d, hd⟩
        · rcases List.mem_cons.mp hx with z | z
          · cases z
            exact .inr ⟨c, by simp [List.lookup_cons]⟩
          · exact .inl z
        · refine .inr ?_
          rw [List.lookup_cons]
          cases hx : x == n with
          | true => exact ⟨c, rfl⟩
          | false => exact ⟨d, hd⟩
    · obtain ⟨cl, e, h1, h2⟩ := clo_go r cs (fun x hx => hf x (List.mem_cons_of_mem _ hx))
      refine ⟨cl, ?_, fun x d hd => ?_, fun x hx => ?_⟩
      · rw [List.forIn_cons]
        have hb : (k == NameKind.free) = false := by simpa using hk
        simp only [hb, Bool.false_eq_true, if_false]
        exact e
      · rcases h1 x d hd with q | ⟨q1, q2⟩
        · exact .inl q
        · exact .inr ⟨q1, List.mem_cons_of_mem _ q2⟩
      · refine h2 x ?_
        rcases hx with hx | hx
        · rcases List.mem_cons.mp hx with z | z
          · cases z; exact absurd rfl hk
          · exact .inl z
        · exact .inr hx
theorem clo_of {scope : Scope} (hf : ∀ x ∈ scope.names, x.2 = .free → ∃ c, env.cells.lookup x.1 = some c) :
    ∃ cl, closureFor scope env = pure cl ∧ (∀ x c, cl.lookup x = some c → env.cells.lookup x = some c ∧ (x, NameKind.free) ∈ scope.names) ∧ (∀ x, (x, NameKind.free) ∈ scope.names → ∃ c, cl.lookup x = some c) := by
  obtain ⟨cl, e, h1, h2⟩ := clo_go (env := env) scope.names [] hf
  refine ⟨cl, ?_, fun x c h => ?_, fun x h => h2 x (.inl h)⟩
  · unfold closureFor
    have e' := e
    first
      | exact (congrArg (fun m => m >>= fun cs => pure cs) e')
      | (simp only [bind_pure] ; exact e')
      | (show (forIn scope.names [] _ >>= fun cs => pure cs) = pure cl; rw [e']; rfl)
  · rcases h1 x c h with q | q
    · simp at q
    · exact q
end
section
variable {prog : Program} {w : World} {A : Around} {R : Result → Shared → Prop} {s : Shared}
theorem compLoop_gen {elt target iter : Expr} {ifs : List Expr} {scope : Scope} {pos : Pos} {it acc : Value} {env : Env} (I : Nat → Shared → Prop)
    (turn : ∀ n s, I n s → wpAny (model prog w) A (pyNext it) (fun r s1 => match r with
      | none => R (.ok .next) s1
      | some v => wpAny (model prog w) A (letOwnedTupleGo target it v) (fun _ s1' => wpAny (model prog w) A (assign target env v) (fun _ s2 =>
          wpAny (model prog w) A (forIn ifs true fun c r => if r = true then do let ok ← isTrue c env (eval c env); pure (ForInStep.yield ok) else pure (ForInStep.yield r)) (fun ok s3 =>
            if ok = true then wpAny (model prog w) A (eval elt env) (fun x s4 =>
              wpAny (model prog w) A (call (.builtin "list.append") [acc, x]) (fun _ s5 => ∃ m, m < n ∧ I m s5) (fun _ _ => False) s4) (fun _ _ => False) s3
            else ∃ m, m < n ∧ I m s3) (fun _ _ => False) s2) (fun _ _ => False) s1') (fun _ _ => False) s1) (fun _ _ => False) s)
    (n : Nat) (h : I n s) :
    codeAny (model prog w) A (.compLoop (.ListComp elt [⟨target, iter, ifs, 0⟩] scope pos) 0 it acc env) R s := by
  refine codeAny_loop rfl I (fun n s hI => ?_) n h
  show wpAny _ A ((compTurn (.ListComp elt [⟨target, iter, ifs, 0⟩] scope pos) 0 it acc env).onRaise (fun x => do noteFrame x env; theTreesLotGoes x)) _ _ s
  refine wpAny_noted ?_
  rw [compTurn_list]
  refine wpAny_bind (wpAny_standAt (wpAny_bind (wpAny_mono (turn n s hI) (fun r s1 h1 => ?_) fun _ _ h' => h'.elim)))
  cases r with
  | none => exact wpAny_pure h1
  | some v =>
    refine wpAny_bind (wpAny_mono h1 (fun _ s1' h1' => ?_) fun _ _ h' => h'.elim)
    refine wpAny_bind (wpAny_mono h1' (fun _ s2 h2 => wpAny_bind (wpAny_mono h2 (fun ok s3 h3 => ?_) fun _ _ h' => h'.elim)) fun _ _ h' => h'.elim)
    cases ok with
    | false => exact wpAny_pure ⟨rfl, h3⟩
    | true =>
      exact wpAny_bind (wpAny_bind (wpAny_mono h3 (fun x s4 h4 => wpAny_bind (wpAny_mono h4 (fun _ s5 h5 => wpAny_pure (wpAny_pure ⟨rfl, h5⟩)) fun _ _ h' => h'.elim)) fun _ _ h' => h'.elim))
end
abbrev compCx (X : Cx) (N : List Str) (scope : Scope) (cl : List (Str × Addr)) (C : Addr) (fp : List Addr) (s : Shared) (H : Hp) : Cx where
  prog := X.prog
  w := X.w
  K := X.K
  mg := X.mg
  base := X.base
  A := X.A
  N := N
  s₀ := s
  H₀ := H
  env := compEnvC scope cl C X.env
  outer := X.stack
  stack := X.stack
  ex := fp
  fn := fun x => match scope.names.lookup x with | some .local => true | _ => false
  calm := X.calm
  pn := []
  xe := fun _ _ => False
theorem lookup_relabel {env : Env} {x : Str} : ∀ {names : List (Str × NameKind)} {k : NameKind}, 
    (names.map fun (n, k) => if (k == NameKind.free && env.scope.kind == .function && env.kindOf n == some .cell) then (n, NameKind.cell) else (n, k)).lookup x = some k →
    (names.lookup x = some k ∨ (k = .cell ∧ names.lookup x = some .free))
  | [], _, h => by simp at h
  | (n, k') :: r, k, h => by
    have ih := @lookup_relabel env x r k
    rw [List.map_cons] at h
    dsimp only at h
    rw [List.lookup_cons]
    cases hx : x == n with
    | true =>
      by_cases hc : (k' == NameKind.free && env.scope.kind == .function && env.kindOf n == some .cell) = true
      · rw [if_pos hc, List.lookup_cons, hx] at h
        cases h
        have : k' = .free := by
          simp only [Bool.and_eq_true, beq_iff_eq] at hc
          exact hc.1.1
        subst this
        exact .inr ⟨rfl, rfl⟩
      · rw [if_neg hc, List.lookup_cons, hx] at h
        exact .inl h
    | false =>
      by_cases hc : (k' == NameKind.free && env.scope.kind == .function && env.kindOf n == some .cell) = true
      · rw [if_pos hc, List.lookup_cons, hx] at h
        exact ih h
      · rw [if_neg hc, List.lookup_cons, hx] at h
        exact ih h
theorem relabel_free {env : Env} {x : Str} : ∀ {names : List (Str × NameKind)}, names.lookup x = some .free →
    ((names.map fun (n, k) => if (k == NameKind.free && env.scope.kind == .function && env.kindOf n == some .cell) then (n, NameKind.cell) else (n, k)).lookup x = some .cell ∨
     (names.map fun (n, k) => if (k == NameKind.free && env.scope.kind == .function && env.kindOf n == some .cell) then (n, NameKind.cell) else (n, k)).lookup x = some .free)
  | [], h => by simp at h
  | (n, k') :: r, h => by
    have ih := @relabel_free env x r
    rw [List.map_cons]
    dsimp only
    rw [List.lookup_cons] at h
    cases hx : x == n with
    | true =>
      rw [hx] at h
      cases h
      by_cases hc : ((NameKind.free == NameKind.free) && env.scope.kind == .function && env.kindOf n == some .cell) = true
      · rw [if_pos hc, List.lookup_cons, hx]; exact .inl rfl
      · rw [if_neg hc, List.lookup_cons, hx]; exact .inr rfl
    | false =>
      rw [hx] at h
      by_cases hc : (k' == NameKind.free && env.scope.kind == .function && env.kindOf n == some .cell) = true
      · rw [if_pos hc, List.lookup_cons, hx]; exact ih h
      · rw [if_neg hc, List.lookup_cons, hx]; exact ih h
def PIfs (X : Cx) (ifs : List Expr) (t : TT) : Prop :=
  ∀ (pins : List (Addr × Obj)) (s : Shared) (σ : St) (H : Hp) (Q : Bool → Hp → Prop), Inv X pins σ H s → t σ H Q →
    wpAny (model X.prog X.w) X.A (forIn ifs true fun c r => if r = true then do let ok ← isTrue c X.env (eval c X.env); pure (ForInStep.yield ok) else pure (ForInStep.yield r)) (TP X pins σ Q) X.xe s
theorem pifs_nil {X : Cx} : PIfs X [] (fun _ H Q => Q true H) := fun _ _ _ H _ I h => wpAny_tests_nil ⟨H, I, h⟩
theorem pifs_one {X : Cx} {c : Expr} {t : TT} (h : PT X c t) : PIfs X [c] t := fun pins s σ H Q I hw => wpAny_tests_one (h pins s σ H Q I hw)
def capt (cap : List (Option Nat)) (σ : St) : St := cap.map fun o => o.bind fun j => (σ[j]?).bind id
def tComp (cap : List (Option Nat)) (wi : TI) (g : TG) (tt : TT) (te : TE) : TE := fun σ H Q => wi σ H fun J H1 => ∀ l, H1 l = none →
  ∃ W : Nat → Nat → St → Hp → List V → Prop, (∃ m, W 0 m (capt cap σ) (upd H1 l (.lst [])) []) ∧ ∀ i m σ' H' acc, W i m σ' H' acc →
    (J.stop i H' ∧ Q (.ref l) H') ∨
    (J.go i H' ∧ acc.length < sizeLine ∧ ∀ x H2, J.yld i H' x H2 → g x σ' H2 fun σ2 H3 => tt σ2 H3 fun ok H4 =>
      if ok = true then te σ2 H4 fun y H5 => H5 l = some (.lst acc) ∧ ∃ m', m' < m ∧ W (i + 1) m' σ2 (upd H5 l (.lst (acc ++ [y]))) (acc ++ [y])
      else ∃ m', m' < m ∧ W (i + 1) m' σ2 H4 acc)
section
variable {X : Cx}
theorem inv_comp {pins : List (Addr × Obj)} {σ : St} {H : Hp} {s : Shared} {scope : Scope} {cl : List (Str × Addr)} {fp : List Addr} {N : List Str} {cap : List (Option Nat)} {h1 : Heap} {tk : Nat} {m : Str → Option Value}
    (I : Inv X pins σ H s) (hk : scope.kind = .function) (hcell : ∀ y ∈ scope.names, y.2 ≠ .cell)
    (hcl : ∀ x c, cl.lookup x = some c → X.env.cells.lookup x = some c ∧ (x, NameKind.free) ∈ scope.names) (hcf : ∀ x, (x, NameKind.free) ∈ scope.names → ∃ c, cl.lookup x = some c)
    (hfr : ∀ x ∈ scope.names, x.2 = .free → scope.names.lookup x.1 = some .free)
    (hcap : ∀ (i j : Nat), cap[i]? = some (some j) → ∃ x, N[i]? = some x ∧ X.N[j]? = some x ∧ scope.names.lookup x = some .free ∧ (X.env.scope.names.lookup x = some .cell ∨ X.env.scope.names.lookup x = some .free))
    (hlen : cap.length = N.length) (hfp : ∀ b ∈ fp, FpOk X pins H b) (hfo : ∀ b ∈ fp, ∃ o, s.heap.get? b = some o)
    (hns : h1.Ns s.heap.objs.size m) (keep : ∀ b o, s.heap.get? b = some o → h1.get? b = some o) :
    Inv (compCx X N scope cl s.heap.objs.size fp s H) [] (capt cap σ) H { s with heap := h1, toks := tk } := by
  have kk : ∀ x, (compEnvC scope cl s.heap.objs.size X.env).kindOf x = (relabel scope X.env).names.lookup x := fun x => rfl
  have nost : ∀ b ∈ fp, b ∉ frs X.stack := fun b hb z => by
    obtain ⟨_, f1, f2, _⟩ := hfp b hb
    rcases List.mem_cons.mp (I.stkSub b z) with e | e
    · exact f1 e
    · exact f2 e
  have ltC : ∀ b ∈ fp, b < s.heap.objs.size := fun b hb => by
    obtain ⟨o, e⟩ := hfo b hb
    exact Heap.lt_size e
  have free_of : ∀ x, ((relabel scope X.env).names.lookup x = some .cell ∨ (relabel scope X.env).names.lookup x = some .free) → (x, NameKind.free) ∈ scope.names := fun x hx => by
    have nc : ∀ {k}, scope.names.lookup x = some k → (x, k) ∈ scope.names := fun h => PySem.mem_of_lookup h
    rcases hx with hx | hx
    · rcases lookup_relabel hx with z | ⟨_, z⟩
      · exact absurd rfl (hcell _ (nc z))
      · exact nc z
    · rcases lookup_relabel hx with z | ⟨z, _⟩
      · exact nc z
      · cases z
  refine ⟨⟨I.ok.mod, hk, I.ok.glob, I.ok.blt, Nat.le_refl _, fun x y c e1 e2 => I.ok.inj x y c (hcl x c e1).1 (hcl y c e2).1, fun x hx => hcf x (free_of x hx), fun x c hx e => ?_, I.ok.hd, I.ok.frames, .inl rfl, fun b hb => ?_, I.bs, Nat.le_trans I.ok.bsz I.sz, fun b o e hb => ?_, nost, I.stack, I.stkFree⟩,
    rfl, I.bare, Un.kept keep, ⟨m, hns, fun i x v e1 e2 e3 => ?_⟩, fun x c e => ?_, I.hok.fresh (Nat.le_refl _), fun x c e => I.freeC x c (hcl x c e).1, fun p hp => absurd (show p ∈ ([] : List (Addr × Obj)) from hp) (by simp), I.hok.kept keep, ?_⟩
  · have hx' : (match scope.names.lookup x with | some .local => true | _ => false) = true := hx
    have := hfr _ (hcl x c e).2 rfl
    rw [this] at hx'
    cases hx'
  · exact ⟨Nat.ne_of_lt (ltC b hb), fun x c e => (hfp b hb).2.2.2.2.1 x c (hcl x c e).1⟩
  · obtain ⟨_, _, _, f3, _⟩ := hfp b hb
    rcases f3 with z | z
    · exact I.ok.noex b o e z
    · exact absurd (Nat.lt_of_lt_of_le (Heap.lt_size (I.ok.bs b o e).1) z) (Nat.lt_irrefl _)
  · have hc : ∃ j, cap[i]? = some (some j) ∧ σ[j]? = some (some v) := by
      unfold capt at e2
      rw [List.getElem?_map] at e2
      cases hci : cap[i]? with
      | none => rw [hci] at e2; cases e2
      | some o =>
        rw [hci] at e2
        cases o with
        | none => cases e2
        | some j =>
          refine ⟨j, rfl, ?_⟩
          have e2' : (σ[j]?).bind id = some v := Option.some.inj e2
          cases hs : σ[j]? with
          | none => rw [hs] at e2'; cases e2'
          | some q =>
            rw [hs] at e2'
            have : q = some v := e2'
            rw [this]
    obtain ⟨j, hj, hv⟩ := hc
    obtain ⟨y, n1, n2, n3, n4⟩ := hcap i j hj
    have exy : y = x := by
      have : N[i]? = some x := e1
      rw [n1] at this
      exact Option.some.inj this
    subst exy
    obtain ⟨mm, hm, hl⟩ := I.loc
    obtain ⟨u, r, look⟩ := hl j y v n2 hv (.inr n4)
    refine ⟨u, r, .inr ⟨relabel_free n3, ?_⟩⟩
    rcases look with ⟨k, _⟩ | ⟨k, c, e, z⟩
    · have k' : X.env.scope.names.lookup y = some .local := k
      rw [k'] at n4
      rcases n4 with q | q <;> cases q
    · obtain ⟨c', hc'⟩ := hcf y (PySem.mem_of_lookup n3)
      have := (hcl y c' hc').1
      rw [e] at this
      cases this
      obtain ⟨o, ho, hd⟩ := z
      exact ⟨c, hc', o, keep _ _ ho, hd⟩
  · obtain ⟨v, o, ho, hd⟩ := I.cell x c (hcl x c e).1
    exact ⟨v, o, keep _ _ ho, hd⟩
  · unfold capt
    rw [List.length_map]
    exact hlen
theorem pe_comp {elt target iter : Expr} {ifs : List Expr} {scope : Scope} {pos : Pos} {N : List Str} {cap : List (Option Nat)} {wi : TI} {g : TG} {tt : TT} {te : TE}
    (hc : X.calm = true) (hi : PI X target iter wi)
    (hg : ∀ cl C fp s H, PG (compCx X N scope cl C fp s H) target g) (ht : ∀ cl C fp s H, PIfs (compCx X N scope cl C fp s H) ifs tt) (he : ∀ cl C fp s H, PE (compCx X N scope cl C fp s H) elt te)
    (hk : scope.kind = .function) (hcell : ∀ y ∈ scope.names, y.2 ≠ .cell) (hnames : ∀ x ∈ scope.names, x.2 = .local → scope.names.lookup x.1 = some .local)
    (hfr : ∀ x ∈ scope.names, x.2 = .free → scope.names.lookup x.1 = some .free) (hout : ∀ x ∈ scope.names, x.2 = .free → X.env.scope.names.lookup x.1 = some .cell ∨ X.env.scope.names.lookup x.1 = some .free)
    (hcap : ∀ (i j : Nat), cap[i]? = some (some j) → ∃ x, N[i]? = some x ∧ X.N[j]? = some x ∧ scope.names.lookup x = some .free)
    (hlen : cap.length = N.length) (hs : ∀ x, foldedSetIterable iter X.env x = pure x := by intro _; rfl) :
    PE X (.ListComp elt [⟨target, iter, ifs, 0⟩] scope pos) (tComp cap wi g tt te) := by
  intro pins s σ H Q I h
  obtain ⟨cl, hclos, hcl, hcf⟩ := clo_of (env := X.env) (scope := scope) fun x hx hf => I.ok.has x.1 (hout x hx hf)
  rw [eval_ListComp]
  refine wpAny_comprehension_free (use := none) rfl hs hclos hk hnames ?_
  show wpAny _ _ (eval iter X.env) _ _ s
  refine thn (hi pins s σ H _ I h) fun v s1 h1 => thn h1 fun itv s2 h2 => ?_
  obtain ⟨it, fp, tn, J, H2, rfl, I2, T, st2, f2, hW⟩ := h2
  obtain ⟨W, ⟨m0, w0⟩, turn⟩ := hW s2.heap.objs.size I2.fresh
  refine wpAny_newObj_type (wpAny_newFunctionEnv hcell (by intro y hy; simp at hy) (fun h4 hns hsb => ?_) hk)
  dsimp only at hns hsb ⊢
  have I3 : Inv X pins σ (upd H2 s2.heap.objs.size (.lst [])) { s2 with heap := s2.heap.push { cls := .type "list", dict := none, data := .seq ([] : List Value).toArray } } := I2.lnew (its := []) (t' := s2.toks) .nil (Nat.zero_le _)
  generalize hs3 : ({ s2 with heap := s2.heap.push { cls := .type "list", dict := none, data := .seq ([] : List Value).toArray } } : Shared) = s3 at I3
  have hh3 : s2.heap.push { cls := .type "list", dict := none, data := .seq ([] : List Value).toArray } = s3.heap := by rw [← hs3]
  have hsz3 : s3.heap.objs.size = s2.heap.objs.size + 1 := by rw [← hh3, Heap.size_push]
  rw [hh3] at hns hsb
  have keep4 : ∀ b o, s3.heap.get? b = some o → h4.get? b = some o := fun b o e => hsb.extBut b o (Nat.ne_of_lt (Heap.lt_size e)) (Heap.get?_push_of_some _ e)
  have fpn : ∀ b ∈ fp, (upd H2 s2.heap.objs.size (.lst [])) b = none ∧ FpOk X pins (upd H2 s2.heap.objs.size (.lst [])) b := fun b hb => by
    obtain ⟨o, e, _⟩ := T.obj 0 _ st2 b hb
    have ne : b ≠ s2.heap.objs.size := Nat.ne_of_lt (Heap.lt_size e)
    have z : (upd H2 s2.heap.objs.size (.lst [])) b = none := by rw [upd_ne ne]; exact (f2 b hb).1
    exact ⟨z, z, (f2 b hb).2⟩
  have hfo : ∀ b ∈ fp, ∃ o, s3.heap.get? b = some o := fun b hb => by
    obtain ⟨o, e, _⟩ := T.obj 0 _ st2 b hb
    exact ⟨o, by rw [← hh3]; exact Heap.get?_push_of_some _ e⟩
  have I4 : ∀ tk, Inv (compCx X N scope cl s3.heap.objs.size fp s3 (upd H2 s2.heap.objs.size (.lst []))) [] (capt cap σ) (upd H2 s2.heap.objs.size (.lst [])) { s3 with heap := h4, toks := tk } := fun tk =>
    inv_comp I3 hk hcell hcl hcf hfr (fun i j e => by
      obtain ⟨x, n1, n2, n3⟩ := hcap i j e
      exact ⟨x, n1, n2, n3, hout _ (PySem.mem_of_lookup n3) rfl⟩) hlen (fun b hb => (fpn b hb).2) hfo hns keep4
  have st4 : tn 0 h4 := T.keep _ _ _ st2 fun b _ o e => keep4 b o (by rw [← hh3]; exact Heap.get?_push_of_some _ e)
  have stat : ∀ {H' : Hp}, (∀ b ∈ fp, H' b = none) → ∀ b ∈ fp, FpOk (compCx X N scope cl s3.heap.objs.size fp s3 (upd H2 s2.heap.objs.size (.lst []))) [] H' b := fun {H'} hn b hb => by
    obtain ⟨o, e⟩ := hfo b hb
    obtain ⟨_, f1, f3, _, f5, _⟩ := f2 b hb
    refine ⟨hn b hb, Nat.ne_of_lt (Heap.lt_size e), fun z => ?_, .inl hb, fun x c e => f5 x c (hcl x c e).1, fun p hp => absurd (show p ∈ ([] : List (Addr × Obj)) from hp) (by simp)⟩
    rcases List.mem_cons.mp (I3.stkSub b z) with e' | e'
    · exact f1 e'
    · exact f3 e'
  have loop : ∀ s4 : Shared, s4 = { s3 with heap := h4, toks := s2.toks + ([] : List (Str × Value)).length } →
      codeAny (model X.prog X.w) X.A (.compLoop (.ListComp elt [⟨target, iter, ifs, 0⟩] scope pos) 0 (.ref it) (.ref s2.heap.objs.size) (compEnvC scope cl s3.heap.objs.size X.env))
        (compPost (model X.prog X.w) X.A X.xe none (EP X pins σ Q) (.ref s2.heap.objs.size) s3.heap.objs.size) s4 := by
    rintro s4 rfl
    refine compLoop_gen (fun n s' => ∃ i σ' H' acc, Inv (compCx X N scope cl s3.heap.objs.size fp s3 (upd H2 s2.heap.objs.size (.lst []))) [] σ' H' s' ∧ tn i s'.heap ∧ (∀ b ∈ fp, H' b = none) ∧ W i n σ' H' acc) ?_ m0 ⟨0, _, _, [], I4 _, st4, fun b hb => (fpn b hb).1, w0⟩
    rintro n s5 ⟨i, σ5, H5, acc, I5, st5, fr5, w5⟩
    rcases turn i n σ5 H5 acc w5 with ⟨stop, q⟩ | ⟨go, hz, step⟩
    · refine thn (T.done (compCx X N scope cl s3.heap.objs.size fp s3 (upd H2 s2.heap.objs.size (.lst []))) rfl rfl rfl hc i [] s5 σ5 H5 _ I5 (stat fr5) st5 stop) fun r s6 ⟨hr, I6⟩ => ?_
      subst hr
      obtain ⟨m6, hn6, _⟩ := I6.loc
      refine ⟨m6, hn6, fun h' sb => ?_⟩
      have neC : ∀ b u, H5 b = some u → b ≠ s3.heap.objs.size := fun b u e z => by
        subst z
        have := I6.free
        rw [show H5 s3.heap.objs.size = none from this] at e
        cases e
      refine ⟨.ref s2.heap.objs.size, H5, ?_, rfl, q⟩
      refine I3.call' (s' := { s6 with heap := h' }) (ch := fp) I6.os ?_ (fun b u e => ?_) I6.bare (fun b hb => ?_)
      · have u6 : Un (frs X.stack) fp (upd H2 s2.heap.objs.size (.lst [])) H5 s3.heap s6.heap := I6.base
        have ex : ∀ b o, s3.heap.get? b = some o → ∀ o', s6.heap.get? b = some o' → h'.get? b = some o' := fun b o e o' e' => (sb.2 b (Nat.ne_of_lt (Heap.lt_size e))).trans e'
        exact ⟨fun b o e n hb hx => ex b o e _ (u6.keep b o e n hb hx), fun b o e n hb hx => let ⟨sl, z⟩ := u6.slot b o e n hb hx; ⟨sl, ex b o e _ z⟩, u6.free, fun b o e hx => let ⟨o', z⟩ := u6.there b o e hx; ⟨o', ex b o e _ z⟩, u6.tups, u6.frzs, u6.tbls⟩
      · refine (I6.hok b u e).stay (fun c v hc' q' => (sb.2 c ?_).trans q') (fun _ q' => q') fun _ _ q' => q'
        rcases hc' with rfl | hc'
        · exact neC _ _ e
        · exact neC _ _ hc'
      · obtain ⟨_, f1, _, f3, f5, f6⟩ := f2 b hb
        exact ⟨f3, f1, f5, f6⟩
    · refine thn (T.item (compCx X N scope cl s3.heap.objs.size fp s3 (upd H2 s2.heap.objs.size (.lst []))) rfl rfl rfl hc i [] s5 σ5 H5 _ I5 (stat fr5) st5 go) fun r s6 ⟨u, hr, h6⟩ => ?_
      subst hr
      refine thn h6 fun _ s7 ⟨x, H7, I7, r7, y7, st7, fr7⟩ => ?_
      have I7' := I7.pinned (stat fr7) (T.obj _ _ st7)
      refine thn (hg _ _ _ _ _ _ s7 σ5 H7 x u _ I7' r7 (step x H7 y7)) fun _ s8 ⟨σ8, H8, I8, q8⟩ => ?_
      refine thn (ht _ _ _ _ _ _ s8 σ8 H8 _ I8 q8) fun ok s9 ⟨H9, I9, q9⟩ => ?_
      have again : ∀ {s' : Shared} {σ' : St} {H' : Hp} {acc' : List V} {m' : Nat}, Inv (compCx X N scope cl s3.heap.objs.size fp s3 (upd H2 s2.heap.objs.size (.lst []))) ([] ++ pinsAt fp s7.heap) σ' H' s' → m' < n → W (i + 1) m' σ' H' acc' →
          ∃ m, m < n ∧ ∃ i σ'' H'' acc, Inv (compCx X N scope cl s3.heap.objs.size fp s3 (upd H2 s2.heap.objs.size (.lst []))) [] σ'' H'' s' ∧ tn i s'.heap ∧ (∀ b ∈ fp, H'' b = none) ∧ W i m σ'' H'' acc := fun {s' σ' H' acc' m'} I' hm w' => by
        refine ⟨m', hm, i + 1, σ', H', acc', I'.unpinned, T.keep _ _ _ st7 fun b hb o e => (I'.pin (b, o) (List.mem_append_right _ (List.mem_append_right _ (mem_pinsAt hb e)))).1, fun b hb => ?_, w'⟩
        obtain ⟨o, e, d⟩ := T.obj _ _ st7 b hb
        exact (I'.pin (b, o) (List.mem_append_right _ (List.mem_append_right _ (mem_pinsAt hb e)))).2.1
      cases ok with
      | false =>
        rw [if_neg Bool.false_ne_true] at q9
        obtain ⟨m', hm, w'⟩ := q9
        exact again I9 hm w'
      | true =>
        rw [if_pos rfl] at q9
        show wpAny _ _ (eval elt _) _ _ s9
        refine thn (he _ _ _ _ _ _ s9 σ8 H9 _ I9 q9) fun xv s10 ⟨y, H10, I10, r10, hl10, m', hm, w'⟩ => ?_
        refine thn (mt_append _ s10 σ8 H10 (.ref s2.heap.objs.size) [y] (.ref s2.heap.objs.size) [xv] (fun (_ : V) (H' : Hp) => H' = upd H10 s2.heap.objs.size (.lst (acc ++ [y]))) I10 rfl (.cons r10 .nil) ⟨_, acc, y, rfl, rfl, hl10, hz, rfl⟩) fun _ s11 ⟨_, H11, I11, _, e11⟩ => ?_
        have e11' : H11 = upd H10 s2.heap.objs.size (.lst (acc ++ [y])) := e11
        subst e11'
        exact again I11 hm w'
  have hx : ∀ s4 : Shared, s4 = { s3 with heap := h4, toks := s2.toks + ([] : List (Str × Value)).length } → tn 0 s4.heap := by
    rintro s4 rfl
    exact st4
  subst hs3
  exact codeAny_compStart_list (loop _ rfl) (T.self X.A 0 _ _ _ (hx _ rfl) (loop _ rfl))
end
end L3
set_option Elab.async false
set_option linter.all false
set_option maxRecDepth 100000
set_option maxHeartbeats 4000000
namespace L3
open PySem PySem.Spec PyProof.Rows L2
inductive D where
  | non
  | bl (b : Bool)
  | int (i : Int)
  | str (x : Str)
  | tup (xs : List D)
  | lst (xs : List D)
  | dct (ks : List Key) (vs : List D)
mutual
def Rep (K : PySem.W.Frag) (H : Hp) : D → V → Prop
  | .non, v => v = V.non
  | .bl b, v => v = V.bl b
  | .int i, v => v = V.int i
  | .str x, v => v = V.str x
  | .tup ds, v => ∃ a xs, v = V.ref a ∧ SqT K H a xs ∧ RepL K H ds xs
  | .lst ds, v => ∃ a xs, v = V.ref a ∧ SqL K H a xs ∧ RepL K H ds xs
  | .dct ks ds, v => ∃ a kvs, v = V.ref a ∧ H a = some (HO.dK kvs) ∧ kvs.map (·.1) = ks ∧ RepL K H ds (kvs.map (·.2))
def RepL (K : PySem.W.Frag) (H : Hp) : List D → List V → Prop
  | [], xs => xs = []
  | d :: ds, xs => ∃ v vs, xs = v :: vs ∧ Rep K H d v ∧ RepL K H ds vs
end
section
variable {K : PySem.W.Frag} {H H' : Hp}
theorem rep_tup {ds : List D} {v : V} : Rep K H (.tup ds) v ↔ ∃ a xs, v = V.ref a ∧ SqT K H a xs ∧ RepL K H ds xs := by rw [Rep]
theorem rep_lst {ds : List D} {v : V} : Rep K H (.lst ds) v ↔ ∃ a xs, v = V.ref a ∧ SqL K H a xs ∧ RepL K H ds xs := by rw [Rep]
theorem rep_dct {ks : List Key} {ds : List D} {v : V} : Rep K H (.dct ks ds) v ↔ ∃ a kvs, v = V.ref a ∧ H a = some (HO.dK kvs) ∧ kvs.map (·.1) = ks ∧ RepL K H ds (kvs.map (·.2)) := by rw [Rep]
theorem rep_int {i : Int} {v : V} : Rep K H (.int i) v ↔ v = V.int i := by rw [Rep]
theorem rep_bl {i : Bool} {v : V} : Rep K H (.bl i) v ↔ v = V.bl i := by rw [Rep]
theorem rep_str {i : Str} {v : V} : Rep K H (.str i) v ↔ v = V.str i := by rw [Rep]
theorem rep_non {v : V} : Rep K H .non v ↔ v = V.non := by rw [Rep]
theorem repl_nil {xs : List V} : RepL K H [] xs ↔ xs = [] := by rw [RepL]
theorem repl_cons {d : D} {ds : List D} {xs : List V} : RepL K H (d :: ds) xs ↔ ∃ v vs, xs = v :: vs ∧ Rep K H d v ∧ RepL K H ds vs := by rw [RepL]
theorem sqt_same {a : Addr} {xs : List V} (e : Same H H') (h : SqT K H a xs) : SqT K H' a xs := by
  rcases h with (h | ⟨o, h⟩) | h
  · exact .inl (.inl (e _ _ h))
  · exact .inl (.inr ⟨o, e _ _ h⟩)
  · exact .inr h
mutual
theorem Rep.mono (e : Same H H') : ∀ {d : D} {v : V}, Rep K H d v → Rep K H' d v
  | .non, _, h => by rw [rep_non] at h ⊢; exact h
  | .bl _, _, h => by rw [rep_bl] at h ⊢; exact h
  | .int _, _, h => by rw [rep_int] at h ⊢; exact h
  | .str _, _, h => by rw [rep_str] at h ⊢; exact h
  | .tup ds, _, h => by
    rw [rep_tup] at h ⊢
    obtain ⟨a, xs, h1, h2, h3⟩ := h
    exact ⟨a, xs, h1, sqt_same e h2, RepL.mono e h3⟩
  | .lst ds, _, h => by
    rw [rep_lst] at h ⊢
    obtain ⟨a, xs, h1, h2, h3⟩ := h
    exact ⟨a, xs, h1, e.seq h2, RepL.mono e h3⟩
  | .dct ks ds, _, h => by
    rw [rep_dct] at h ⊢
    obtain ⟨a, kvs, h1, h2, h3, h4⟩ := h
    exact ⟨a, kvs, h1, e _ _ h2, h3, RepL.mono e h4⟩
theorem RepL.mono (e : Same H H') : ∀ {ds : List D} {xs : List V}, RepL K H ds xs → RepL K H' ds xs
  | [], _, h => by rw [repl_nil] at h ⊢; exact h
  | d :: ds, _, h => by
    rw [repl_cons] at h ⊢
    obtain ⟨v, vs, h1, h2, h3⟩ := h
    exact ⟨v, vs, h1, Rep.mono e h2, RepL.mono e h3⟩
end
theorem RepL.length : ∀ {ds : List D} {xs : List V}, RepL K H ds xs → ds.length = xs.length
  | [], _, h => by rw [repl_nil] at h; subst h; rfl
  | d :: ds, _, h => by
    rw [repl_cons] at h
    obtain ⟨v, vs, rfl, _, h3⟩ := h
    rw [List.length_cons, List.length_cons, RepL.length h3]
theorem RepL.get : ∀ {ds : List D} {xs : List V} {i : Nat} {d : D}, RepL K H ds xs → ds[i]? = some d → ∃ v, xs[i]? = some v ∧ Rep K H d v
  | [], _, _, _, _, e => by simp at e
  | d :: ds, _, i, d', h, e => by
    rw [repl_cons] at h
    obtain ⟨v, vs, rfl, h2, h3⟩ := h
    cases i with
    | zero => simp at e; subst e; exact ⟨v, rfl, h2⟩
    | succ i => simpa using RepL.get (i := i) h3 (by simpa using e)
theorem RepL.at : ∀ {ds : List D} {xs : List V} {i : Nat} {v : V}, RepL K H ds xs → xs[i]? = some v → ∃ d, ds[i]? = some d ∧ Rep K H d v
  | [], _, _, _, h, e => by rw [repl_nil] at h; subst h; simp at e
  | d :: ds, _, i, v', h, e => by
    rw [repl_cons] at h
    obtain ⟨v, vs, rfl, h2, h3⟩ := h
    cases i with
    | zero => simp at e; subst e; exact ⟨d, rfl, h2⟩
    | succ i => simpa using RepL.at (i := i) h3 (by simpa using e)
theorem RepL.append : ∀ {ds es : List D} {xs ys : List V}, RepL K H ds xs → RepL K H es ys → RepL K H (ds ++ es) (xs ++ ys)
  | [], _, _, _, h, h' => by rw [repl_nil] at h; subst h; exact h'
  | d :: ds, _, _, _, h, h' => by
    rw [repl_cons] at h
    obtain ⟨v, vs, rfl, h2, h3⟩ := h
    exact repl_cons.mpr ⟨v, _, rfl, h2, RepL.append h3 h'⟩
theorem RepL.one {d : D} {v : V} (h : Rep K H d v) : RepL K H [d] [v] := repl_cons.mpr ⟨v, [], rfl, h, repl_nil.mpr rfl⟩
theorem RepL.cons {d : D} {v : V} {ds : List D} {xs : List V} (h : Rep K H d v) (t : RepL K H ds xs) : RepL K H (d :: ds) (v :: xs) := repl_cons.mpr ⟨v, xs, rfl, h, t⟩
theorem RepL.nil : RepL K H [] [] := repl_nil.mpr rfl
theorem RepL.take : ∀ {ds : List D} {xs : List V} (n : Nat), RepL K H ds xs → RepL K H (ds.take n) (xs.take n)
  | _, _, 0, _ => repl_nil.mpr rfl
  | [], _, n + 1, h => by rw [repl_nil] at h; subst h; exact repl_nil.mpr rfl
  | d :: ds, _, n + 1, h => by
    rw [repl_cons] at h
    obtain ⟨v, vs, rfl, h2, h3⟩ := h
    exact RepL.cons h2 (RepL.take n h3)
theorem RepL.drop : ∀ {ds : List D} {xs : List V} (n : Nat), RepL K H ds xs → RepL K H (ds.drop n) (xs.drop n)
  | _, _, 0, h => h
  | [], _, n + 1, h => by rw [repl_nil] at h; subst h; exact repl_nil.mpr rfl
  | d :: ds, _, n + 1, h => by
    rw [repl_cons] at h
    obtain ⟨v, vs, rfl, h2, h3⟩ := h
    exact RepL.drop n h3
theorem RepL.set : ∀ {ds : List D} {xs : List V} (n : Nat) {d : D} {v : V}, RepL K H ds xs → Rep K H d v → RepL K H (ds.set n d) (xs.set n v)
  | [], _, n, _, _, h, _ => by rw [repl_nil] at h; subst h; exact repl_nil.mpr rfl
  | d :: ds, _, 0, _, _, h, h' => by
    rw [repl_cons] at h
    obtain ⟨v, vs, rfl, h2, h3⟩ := h
    exact RepL.cons h' h3
  | d :: ds, _, n + 1, _, _, h, h' => by
    rw [repl_cons] at h
    obtain ⟨v, vs, rfl, h2, h3⟩ := h
    exact RepL.cons h2 (RepL.set n h3 h')
theorem RepL.eraseIdx : ∀ {ds : List D} {xs : List V} (n : Nat), RepL K H ds xs → RepL K H (ds.eraseIdx n) (xs.eraseIdx n)
  | [], _, n, h => by rw [repl_nil] at h; subst h; exact repl_nil.mpr rfl
  | d :: ds, _, 0, h => by
    rw [repl_cons] at h
    obtain ⟨v, vs, rfl, h2, h3⟩ := h
    exact h3
  | d :: ds, _, n + 1, h => by
    rw [repl_cons] at h
    obtain ⟨v, vs, rfl, h2, h3⟩ := h
    exact RepL.cons h2 (RepL.eraseIdx n h3)
theorem RepL.rep {ds : List D} {xs : List V} (h : RepL K H ds xs) : ∀ k : Nat, RepL K H (List.replicate k ds).flatten (List.replicate k xs).flatten
  | 0 => repl_nil.mpr rfl
  | k + 1 => by
    rw [List.replicate_succ, List.replicate_succ, List.flatten_cons, List.flatten_cons]
    exact RepL.append h (RepL.rep h k)
theorem repl_ints : ∀ {ns : List Int} {xs : List V}, RepL K H (ns.map D.int) xs ↔ xs = ns.map V.int
  | [], xs => by rw [List.map_nil, repl_nil, List.map_nil]
  | n :: ns, xs => by
    rw [List.map_cons, repl_cons, List.map_cons]
    constructor
    · rintro ⟨v, vs, rfl, h2, h3⟩
      rw [rep_int] at h2
      rw [repl_ints] at h3
      rw [h2, h3]
    · rintro rfl
      exact ⟨_, _, rfl, rep_int.mpr rfl, repl_ints.mpr rfl⟩
end
def hide (Z : List Addr) (H : Hp) : Hp := fun b => if b ∈ Z then none else H b
section
variable {Z B : List Addr} {H H' : Hp} {a : Addr} {o : HO}
theorem hide_in (h : a ∈ Z) : hide Z H a = none := if_pos h
theorem hide_out (h : a ∉ Z) : hide Z H a = H a := if_neg h
theorem hide_some (h : hide Z H a = some o) : a ∉ Z ∧ H a = some o := by
  by_cases hz : a ∈ Z
  · rw [hide_in hz] at h; cases h
  · rw [hide_out hz] at h; exact ⟨hz, h⟩
theorem hide_sub : Same (hide Z H) H := fun b o h => (hide_some h).2
theorem hide_same (e : Same H H') : Same (hide Z H) (hide Z H') := fun b o h => by
  obtain ⟨h1, h2⟩ := hide_some h
  rw [hide_out h1]
  exact e b o h2
theorem hide_anti (h : ∀ b ∈ B, b ∈ Z) : Same (hide Z H) (hide B H) := fun b o q => by
  obtain ⟨h1, h2⟩ := hide_some q
  rw [hide_out fun z => h1 (h b z)]
  exact h2
theorem hide_laid (hn : H a = none) (e : Same H H') : Same (hide Z H) (hide (a :: Z) H') := fun b u q => by
  obtain ⟨h1, h2⟩ := hide_some q
  have ne : b ≠ a := fun z => by rw [z, hn] at h2; cases h2
  rw [hide_out (by rw [List.mem_cons]; exact fun z => z.elim ne h1)]
  exact e b u h2
theorem hide_upd (h : a ∈ Z) : Same (hide Z H) (hide Z (upd H a o)) := fun b u q => by
  obtain ⟨h1, h2⟩ := hide_some q
  have ne : b ≠ a := fun z => h1 (by rw [z]; exact h)
  rw [hide_out h1, upd_ne ne]
  exact h2
theorem same_upd (hn : H a = none) : Same H (upd H a o) := fun b u q => by rw [upd_ne (ne_of_none q hn)]; exact q
theorem same_updI {H0 : Hp} (hn : H0 a = none) (e : Same H0 H) : Same H0 (upd H a o) := fun b u q => by
  have ne : b ≠ a := fun z => by rw [z, hn] at q; cases q
  rw [upd_ne ne]
  exact e b u q
end
inductive OC where
  | l (ds : List D)
  | d (ks : List Key) (vs : List D)
inductive Cell where
  | sh (d : D)
  | ow (ds : List D)
  | od (ks : List Key) (vs : List D)
def Cell.oc : Cell → Option OC
  | .sh _ => none
  | .ow ds => some (.l ds)
  | .od ks vs => some (.d ks vs)
def OC.cell : OC → Cell
  | .l ds => .ow ds
  | .d ks vs => .od ks vs
def OC.dat : OC → D
  | .l ds => .lst ds
  | .d ks vs => .dct ks vs
theorem OC.cell_oc (c : OC) : c.cell.oc = some c := by cases c <;> rfl
def Hold (K : PySem.W.Frag) (H : Hp) : OC → HO → Prop
  | .l ds, o => ∃ xs, o = HO.lst xs ∧ RepL K H ds xs
  | .d ks ds, o => ∃ kvs, o = HO.dK kvs ∧ kvs.map (·.1) = ks ∧ RepL K H ds (kvs.map (·.2))
theorem Hold.mono {K : PySem.W.Frag} {H H' : Hp} (e : Same H H') : ∀ {c : OC} {o : HO}, Hold K H c o → Hold K H' c o
  | .l ds, o, ⟨xs, h1, h2⟩ => ⟨xs, h1, h2.mono e⟩
  | .d ks ds, o, ⟨kvs, h1, h2, h3⟩ => ⟨kvs, h1, h2, h3.mono e⟩
theorem Hold.rep {K : PySem.W.Frag} {H : Hp} {a : Addr} : ∀ {c : OC} {o : HO}, Hold K H c o → H a = some o → Rep K H c.dat (.ref a)
  | .l ds, o, ⟨xs, h1, h2⟩, e => rep_lst.mpr ⟨a, xs, rfl, SqL.of (by rw [e, h1]), h2⟩
  | .d ks ds, o, ⟨kvs, h1, h2, h3⟩, e => rep_dct.mpr ⟨a, kvs, rfl, by rw [e, h1], h2, h3⟩
abbrev DEnv := List (Option Cell)
structure SR (K : PySem.W.Frag) (B : List Addr) (H0 V0 H : Hp) (Z : List Addr) (σ : St) (ρ : DEnv) : Prop where
  same : Same H0 H
  vis : Same V0 (hide Z H)
  sub : ∀ b ∈ B, b ∈ Z
  zs : ∀ z ∈ Z, ∃ o, H z = some o
  sh : ∀ (i : Nat) d, ρ[i]? = some (some (.sh d)) → ∃ v, σ[i]? = some (some v) ∧ Rep K (hide Z H) d v
  own : ∀ (i : Nat) (c : OC), ρ[i]? = some (some c.cell) → ∃ a o, σ[i]? = some (some (.ref a)) ∧ a ∈ Z ∧ a ∉ B ∧ H0 a = none ∧ H a = some o ∧ Hold K (hide Z H) c o
  inj : ∀ (i j : Nat) (c e : OC) a, ρ[i]? = some (some c.cell) → ρ[j]? = some (some e.cell) → σ[i]? = some (some (.ref a)) → σ[j]? = some (some (.ref a)) → i = j
  len : σ.length = ρ.length
section
variable {K : PySem.W.Frag} {B Z : List Addr} {H0 V0 H H' : Hp} {σ : St} {ρ : DEnv}
theorem SR.ow (r : SR K B H0 V0 H Z σ ρ) (i : Nat) (ds : List D) (h : ρ[i]? = some (some (.ow ds))) : ∃ a xs, σ[i]? = some (some (.ref a)) ∧ a ∈ Z ∧ a ∉ B ∧ H0 a = none ∧ H a = some (.lst xs) ∧ RepL K (hide Z H) ds xs := by
  obtain ⟨a, o, h1, h2, h3, h4, h5, xs, rfl, h7⟩ := r.own i (.l ds) h
  exact ⟨a, xs, h1, h2, h3, h4, h5, h7⟩
theorem SR.od (r : SR K B H0 V0 H Z σ ρ) (i : Nat) (ks : List Key) (ds : List D) (h : ρ[i]? = some (some (.od ks ds))) : ∃ a kvs, σ[i]? = some (some (.ref a)) ∧ a ∈ Z ∧ a ∉ B ∧ H0 a = none ∧ H a = some (.dK kvs) ∧ kvs.map (·.1) = ks ∧ RepL K (hide Z H) ds (kvs.map (·.2)) := by
  obtain ⟨a, o, h1, h2, h3, h4, h5, kvs, rfl, h7, h8⟩ := r.own i (.d ks ds) h
  exact ⟨a, kvs, h1, h2, h3, h4, h5, h7, h8⟩
theorem SR.mono (r : SR K B H0 V0 H Z σ ρ) (e : Same H H') : SR K B H0 V0 H' Z σ ρ :=
  ⟨r.same.trans e, r.vis.trans (hide_same e), r.sub, fun z hz => let ⟨o, h⟩ := r.zs z hz; ⟨o, e _ _ h⟩,
    fun i d h => let ⟨v, h1, h2⟩ := r.sh i d h; ⟨v, h1, h2.mono (hide_same e)⟩,
    fun i c h => let ⟨a, o, h1, h2, hb, h3, h4, h5⟩ := r.own i c h; ⟨a, o, h1, h2, hb, h3, e _ _ h4, h5.mono (hide_same e)⟩, r.inj, r.len⟩
theorem SR.vis' (r : SR K B H0 V0 H Z σ ρ) {V1 : Hp} (e : Same V1 (hide Z H)) : SR K B H0 V1 H Z σ ρ :=
  ⟨r.same, e, r.sub, r.zs, r.sh, r.own, r.inj, r.len⟩
theorem SR.newer (r : SR K B H0 V0 H Z σ ρ) {a : Addr} (h : H a = none) : a ∉ Z := fun z => by
  obtain ⟨o, e⟩ := r.zs a z
  rw [h] at e; cases e
theorem SR.more (r : SR K B H0 V0 H Z σ ρ) {a : Addr} {o : HO} (hn : H a = none) (e : Same H H') (ha : H' a = some o) : SR K B H0 V0 H' (a :: Z) σ ρ :=
  ⟨r.same.trans e, r.vis.trans (hide_laid hn e), fun b hb => List.mem_cons_of_mem _ (r.sub b hb), fun z hz => (List.mem_cons.mp hz).elim (fun q => ⟨o, q ▸ ha⟩) fun q => let ⟨u, h⟩ := r.zs z q; ⟨u, e _ _ h⟩,
    fun i d h => let ⟨v, h1, h2⟩ := r.sh i d h; ⟨v, h1, h2.mono (hide_laid hn e)⟩,
    fun i c h => let ⟨b, o, h1, h2, hb, h3, h4, h5⟩ := r.own i c h; ⟨b, o, h1, List.mem_cons_of_mem _ h2, hb, h3, e _ _ h4, h5.mono (hide_laid hn e)⟩, r.inj, r.len⟩
theorem set_get {α : Type} {ρ : List (Option α)} {i j : Nat} {x y : α} (q : (ρ.set i (some x))[j]? = some (some y)) : (i = j ∧ x = y ∧ i < ρ.length) ∨ (i ≠ j ∧ ρ[j]? = some (some y)) := by
  by_cases hj : i = j
  · subst hj
    have hl : i < ρ.length := by
      have := (List.getElem?_eq_some_iff.mp q).1
      rw [List.length_set] at this
      exact this
    rw [List.getElem?_set_self hl] at q
    cases q
    exact .inl ⟨rfl, rfl, hl⟩
  · rw [List.getElem?_set_ne hj] at q
    exact .inr ⟨hj, q⟩
theorem sh_oc {d : D} {c : OC} : Cell.sh d = c.cell → False := fun e => by cases c <;> cases e
theorem cell_inj {c e : OC} (h : c.cell = e.cell) : c = e := by
  have := congrArg Cell.oc h
  rw [c.cell_oc, e.cell_oc] at this
  exact Option.some.inj this
theorem SR.set (r : SR K B H0 V0 H Z σ ρ) {i : Nat} {d : D} {v : V} (h : Rep K (hide Z H) d v) : SR K B H0 V0 H Z (σ.set i (some v)) (ρ.set i (some (.sh d))) := by
  refine ⟨r.same, r.vis, r.sub, r.zs, fun j e q => ?_, fun j c q => ?_, fun j k c e a q1 q2 s1 s2 => ?_, by rw [List.length_set, List.length_set]; exact r.len⟩
  · rcases set_get q with ⟨rfl, z, hl⟩ | ⟨hj, q⟩
    · cases z
      exact ⟨v, List.getElem?_set_self (by rw [r.len]; exact hl), h⟩
    · obtain ⟨u, h1, h2⟩ := r.sh j e q
      exact ⟨u, by rw [List.getElem?_set_ne hj]; exact h1, h2⟩
  · rcases set_get q with ⟨_, z, _⟩ | ⟨hj, q⟩
    · exact (sh_oc z).elim
    · obtain ⟨a, o, h1, h2⟩ := r.own j c q
      exact ⟨a, o, by rw [List.getElem?_set_ne hj]; exact h1, h2⟩
  · rcases set_get q1 with ⟨_, z, _⟩ | ⟨n1, q1⟩
    · exact (sh_oc z).elim
    rcases set_get q2 with ⟨_, z, _⟩ | ⟨n2, q2⟩
    · exact (sh_oc z).elim
    rw [List.getElem?_set_ne n1] at s1
    rw [List.getElem?_set_ne n2] at s2
    exact r.inj j k c e a q1 q2 s1 s2
theorem SR.setO (r : SR K B H0 V0 H Z σ ρ) {i : Nat} {c : OC} {a : Addr} {o : HO} (hz : a ∈ Z) (hb : a ∉ B) (h0 : H0 a = none) (hH : H a = some o) (h : Hold K (hide Z H) c o)
    (hn : ∀ (j : Nat) (e : OC), ρ[j]? = some (some e.cell) → σ[j]? ≠ some (some (.ref a))) : SR K B H0 V0 H Z (σ.set i (some (.ref a))) (ρ.set i (some c.cell)) := by
  refine ⟨r.same, r.vis, r.sub, r.zs, fun j e q => ?_, fun j e q => ?_, fun j k fs gs b q1 q2 s1 s2 => ?_, by rw [List.length_set, List.length_set]; exact r.len⟩
  · rcases set_get q with ⟨_, z, _⟩ | ⟨hj, q⟩
    · exact (sh_oc z.symm).elim
    · obtain ⟨u, h1, h2⟩ := r.sh j e q
      exact ⟨u, by rw [List.getElem?_set_ne hj]; exact h1, h2⟩
  · rcases set_get q with ⟨rfl, z, hl⟩ | ⟨hj, q⟩
    · have := cell_inj z
      subst this
      exact ⟨a, o, List.getElem?_set_self (by rw [r.len]; exact hl), hz, hb, h0, hH, h⟩
    · obtain ⟨a', o', h1, h2⟩ := r.own j e q
      exact ⟨a', o', by rw [List.getElem?_set_ne hj]; exact h1, h2⟩
  · rcases set_get q1 with ⟨e1, _, hl⟩ | ⟨n1, q1⟩
    · rcases set_get q2 with ⟨e2, _, _⟩ | ⟨n2, q2⟩
      · rw [← e1, ← e2]
      · subst e1
        rw [List.getElem?_set_self (by rw [r.len]; exact hl)] at s1
        cases s1
        rw [List.getElem?_set_ne n2] at s2
        exact absurd s2 (hn k gs q2)
    · rw [List.getElem?_set_ne n1] at s1
      rcases set_get q2 with ⟨e2, _, hl⟩ | ⟨n2, q2⟩
      · subst e2
        rw [List.getElem?_set_self (by rw [r.len]; exact hl)] at s2
        cases s2
        exact absurd s1 (hn j fs q1)
      · rw [List.getElem?_set_ne n2] at s2
        exact r.inj j k fs gs b q1 q2 s1 s2
theorem SR.updC (r : SR K B H0 V0 H Z σ ρ) {i : Nat} {c e : OC} {a : Addr} {o : HO} (hi : ρ[i]? = some (some c.cell)) (hs : σ[i]? = some (some (.ref a))) (h : Hold K (hide Z H) e o) :
    SR K B H0 V0 (upd H a o) Z σ (ρ.set i (some e.cell)) := by
  obtain ⟨a', o', s1, hz, hb, h0, hH, _⟩ := r.own i c hi
  rw [hs] at s1
  cases s1
  have vs : Same (hide Z H) (hide Z (upd H a o)) := hide_upd hz
  refine ⟨same_updI h0 r.same, r.vis.trans vs, r.sub, fun z q => ?_, fun j d q => ?_, fun j f q => ?_, fun j k fs gs b q1 q2 s1 s2 => ?_, by rw [List.length_set]; exact r.len⟩
  · by_cases e : z = a
    · subst e; exact ⟨_, upd_same⟩
    · obtain ⟨o, ho⟩ := r.zs z q
      exact ⟨o, by rw [upd_ne e]; exact ho⟩
  · rcases set_get q with ⟨_, z, _⟩ | ⟨n, q⟩
    · exact (sh_oc z.symm).elim
    · obtain ⟨u, h1, h2⟩ := r.sh j d q
      exact ⟨u, h1, h2.mono vs⟩
  · rcases set_get q with ⟨rfl, z, _⟩ | ⟨n, q⟩
    · have := cell_inj z
      subst this
      exact ⟨a, o, hs, hz, hb, h0, upd_same, h.mono vs⟩
    · obtain ⟨b, zs, t1, t2, tb, t3, t4, t5⟩ := r.own j f q
      have ne : b ≠ a := fun z => by
        subst z
        exact n (r.inj i j _ _ b hi q hs t1)
      exact ⟨b, zs, t1, t2, tb, t3, by rw [upd_ne ne]; exact t4, t5.mono vs⟩
  · have g : ∀ {m : Nat} {fs : OC}, (ρ.set i (some e.cell))[m]? = some (some fs.cell) → ∃ fs' : OC, ρ[m]? = some (some fs'.cell) := fun {m fs} q => by
      rcases set_get q with ⟨rfl, _, _⟩ | ⟨_, q⟩
      · exact ⟨c, hi⟩
      · exact ⟨fs, q⟩
    obtain ⟨f1, p1⟩ := g q1
    obtain ⟨f2, p2⟩ := g q2
    exact r.inj j k f1 f2 b p1 p2 s1 s2
theorem SR.updO (r : SR K B H0 V0 H Z σ ρ) {i : Nat} {ds es : List D} {a : Addr} {ys : List V} (hi : ρ[i]? = some (some (.ow ds))) (hs : σ[i]? = some (some (.ref a))) (h : RepL K (hide Z H) es ys) :
    SR K B H0 V0 (upd H a (.lst ys)) Z σ (ρ.set i (some (.ow es))) := r.updC (c := .l ds) (e := .l es) hi hs ⟨ys, rfl, h⟩
end
def tD (K : PySem.W.Frag) (f : DEnv → Option D) : TE := fun σ H Q => ∃ ρ d B H0 V0 Z, f ρ = some d ∧ SR K B H0 V0 H Z σ ρ ∧ ∀ v H', Same H H' → Rep K (hide Z H') d v → Q v H'
def tQ (K : PySem.W.Frag) (f : DEnv → Option (List D)) : TE := fun σ H Q => ∃ ρ ds B H0 V0 Z, f ρ = some ds ∧ SR K B H0 V0 H Z σ ρ ∧ ∀ a xs H', Same H H' → (SqL K H' a xs ∨ SqT K (hide Z H') a xs) → RepL K (hide Z H') ds xs → Q (.ref a) H'
def tF (K : PySem.W.Frag) (f : DEnv → Option (List D)) : TE := fun σ H Q => ∃ ρ ds B H0 V0 Z, f ρ = some ds ∧ SR K B H0 V0 H Z σ ρ ∧ ∀ a xs H', Same H H' → H a = none → H' a = some (.lst xs) → RepL K (hide (a :: Z) H') ds xs → Q (.ref a) H'
def tT (K : PySem.W.Frag) (f : DEnv → Option Bool) : TT := fun σ H Q => ∃ ρ b B H0 V0 Z, f ρ = some b ∧ SR K B H0 V0 H Z σ ρ ∧ ∀ H', Same H H' → Q b H'
def tL (K : PySem.W.Frag) (f : DEnv → Option (List D)) : TA := fun σ H Q => ∃ ρ ds B H0 V0 Z, f ρ = some ds ∧ SR K B H0 V0 H Z σ ρ ∧ ∀ xs H', Same H H' → RepL K (hide Z H') ds xs → Q xs H'
structure Walk (K : PySem.W.Frag) (V : Hp) (J : It) (ds : List D) : Prop where
  go : ∀ H', Same V H' → ∀ i, i < ds.length → J.go i H'
  yld : ∀ H', Same V H' → ∀ (i : Nat) x H3, J.yld i H' x H3 → Same H' H3 ∧ ∀ d, ds[i]? = some d → ∀ Z : List Addr, (∀ z ∈ Z, ∃ o, H' z = some o) → Same V (hide Z H') → Rep K (hide Z H3) d x
  stop : ∀ H', Same V H' → J.stop ds.length H'
def tI (K : PySem.W.Frag) (f : DEnv → Option (List D)) : TI := fun σ H R => ∃ ρ ds B H0 V0 Z, f ρ = some ds ∧ SR K B H0 V0 H Z σ ρ ∧ ∀ J H', Same H H' → Walk K (hide Z H') J ds → R J H'
inductive Out where
  | nx (ρ : DEnv)
  | bk (ρ : DEnv)
  | ct (ρ : DEnv)
  | rt (d : D)
def PostOk (K : PySem.W.Frag) (B : List Addr) (H0 V0 : Hp) (E : Ends) : Out → Prop
  | .nx ρ => ∀ σ H Z, SR K B H0 V0 H Z σ ρ → E.nx σ H
  | .bk ρ => ∀ σ H Z, SR K B H0 V0 H Z σ ρ → E.bk σ H
  | .ct ρ => ∀ σ H Z, SR K B H0 V0 H Z σ ρ → E.ct σ H
  | .rt d => ∀ v H, Same H0 H → Rep K (hide B H) d v → E.rt v H
def tS (K : PySem.W.Frag) (g : DEnv → Option Out) : TS := fun E σ H => ∃ ρ o B H0 V0 Z, g ρ = some o ∧ SR K B H0 V0 H Z σ ρ ∧ PostOk K B H0 V0 E o
def tG (K : PySem.W.Frag) (h : D → DEnv → Option DEnv) : TG := fun v σ H Q => ∃ ρ d ρ' B H0 V0 Z, h d ρ = some ρ' ∧ SR K B H0 V0 H Z σ ρ ∧ Rep K (hide Z H) d v ∧ ∀ σ', SR K B H0 V0 H Z σ' ρ' → Q σ' H
def tGs (K : PySem.W.Frag) (h : List D → DEnv → Option DEnv) : TGs := fun vs σ H Q => ∃ ρ ds ρ' B H0 V0 Z, h ds ρ = some ρ' ∧ SR K B H0 V0 H Z σ ρ ∧ RepL K (hide Z H) ds vs ∧ ∀ σ', SR K B H0 V0 H Z σ' ρ' → Q σ' H
abbrev SE (X : Cx) (e : Expr) (f : DEnv → Option D) : Prop := PE X e (tD X.K f)
abbrev SQ (X : Cx) (e : Expr) (f : DEnv → Option (List D)) : Prop := PE X e (tQ X.K f)
abbrev SF (X : Cx) (e : Expr) (f : DEnv → Option (List D)) : Prop := PE X e (tF X.K f)
abbrev STt (X : Cx) (e : Expr) (f : DEnv → Option Bool) : Prop := PT X e (tT X.K f)
abbrev STw (X : Cx) (e : Expr) (f : DEnv → Option Bool) : Prop := PW X e (tT X.K f)
abbrev SA (X : Cx) (es : List Expr) (f : DEnv → Option (List D)) : Prop := PA X es (tL X.K f)
abbrev SI (X : Cx) (tg e : Expr) (f : DEnv → Option (List D)) : Prop := PI X tg e (tI X.K f)
abbrev SS (X : Cx) (st : Stmt) (g : DEnv → Option Out) : Prop := PS X st (tS X.K g)
abbrev SSs (X : Cx) (st : List Stmt) (g : DEnv → Option Out) : Prop := PSs X st (tS X.K g)
abbrev SG (X : Cx) (e : Expr) (h : D → DEnv → Option DEnv) : Prop := PG X e (tG X.K h)
abbrev SGs (X : Cx) (es : List Expr) (h : List D → DEnv → Option DEnv) : Prop := PGs X es (tGs X.K h)
section
variable {X : Cx} {e : Expr}
theorem pe_weak {t t' : TE} (h : PE X e t) (w : ∀ σ H Q, t' σ H Q → t σ H Q) : PE X e t' := fun pins s σ H Q I q => h pins s σ H Q I (w σ H Q q)
theorem pt_weak {t t' : TT} (h : PT X e t) (w : ∀ σ H Q, t' σ H Q → t σ H Q) : PT X e t' := fun pins s σ H Q I q => h pins s σ H Q I (w σ H Q q)
theorem pw_weak {t t' : TT} (h : PW X e t) (w : ∀ σ H Q, t' σ H Q → t σ H Q) : PW X e t' := fun wh pins s σ H Q I q => h wh pins s σ H Q I (w σ H Q q)
theorem pa_weak {es : List Expr} {t t' : TA} (h : PA X es t) (w : ∀ σ H Q, t' σ H Q → t σ H Q) : PA X es t' := fun pos pins s σ H Q I q => h pos pins s σ H Q I (w σ H Q q)
theorem pi_weak {tg : Expr} {t t' : TI} (h : PI X tg e t) (w : ∀ σ H Q, t' σ H Q → t σ H Q) : PI X tg e t' := fun pins s σ H Q I q => h pins s σ H Q I (w σ H Q q)
theorem ps_weak {st : Stmt} {t t' : TS} (h : PS X st t) (w : ∀ E σ H, t' E σ H → t E σ H) : PS X st t' := fun pins s σ H E I q => h pins s σ H E I (w E σ H q)
theorem pss_weak {st : List Stmt} {t t' : TS} (h : PSs X st t) (w : ∀ E σ H, t' E σ H → t E σ H) : PSs X st t' := fun pins s σ H E I q => h pins s σ H E I (w E σ H q)
theorem pg_weak {t t' : TG} (h : PG X e t) (w : ∀ v σ H Q, t' v σ H Q → t v σ H Q) : PG X e t' := fun pins s σ H v u Q I r q => h pins s σ H v u Q I r (w v σ H Q q)
theorem pgs_weak {es : List Expr} {t t' : TGs} (h : PGs X es t) (w : ∀ v σ H Q, t' v σ H Q → t v σ H Q) : PGs X es t' := fun pins s σ H v u Q I r q => h pins s σ H v u Q I r (w v σ H Q q)
end
end L3
set_option Elab.async false
set_option linter.all false
set_option maxRecDepth 100000
set_option maxHeartbeats 4000000
namespace L3
open PySem PySem.Spec PyProof.Rows L2
def LIM : Nat := 100000
theorem lim_le {n : Nat} (h : n ≤ LIM) : n ≤ sizeLine := by rw [sizeLine_eq]; unfold LIM at h; omega
theorem lim_lt {n : Nat} (h : n ≤ LIM) : n < sizeLine := by rw [sizeLine_eq]; unfold LIM at h; omega
def dVar (i : Nat) : DEnv → Option D := fun ρ => match ρ[i]? with | some (some (.sh d)) => some d | _ => none
def dOwn (i : Nat) : DEnv → Option (List D) := fun ρ => match ρ[i]? with | some (some (.ow ds)) => some ds | _ => none
def dC (d : D) : DEnv → Option D := fun _ => some d
theorem dVar_some {i : Nat} {ρ : DEnv} {d : D} (e : dVar i ρ = some d) : ρ[i]? = some (some (.sh d)) := by
  unfold dVar at e
  split at e
  · rename_i h; cases e; exact h
  · cases e
theorem dOwn_some {i : Nat} {ρ : DEnv} {d : List D} (e : dOwn i ρ = some d) : ρ[i]? = some (some (.ow d)) := by
  unfold dOwn at e
  split at e
  · rename_i h; cases e; exact h
  · cases e
section
variable {X : Cx}
theorem sv (i : Nat) {x : Str} {pos : Pos} (hN : X.N[i]? = some x := by rfl) (hv : Vis X.env.scope x := by first | exact Or.inl rfl | exact Or.inr (Or.inl rfl) | exact Or.inr (Or.inr rfl)) (hd : (x == ("__debug__" : Str)) = false := by decide)
    (hcd : (x == ("__classdict__" : Str)) = false := by decide) : SE X (.Name x pos) (dVar i) :=
  pe_weak (pe_var hN hv hd hcd) fun σ H Q ⟨ρ, d, B, H0, V0, Z, e, r, q⟩ => by
    obtain ⟨v, h1, h2⟩ := r.sh i d (dVar_some e)
    exact ⟨v, h1, q v H (Same.refl H) h2⟩
theorem qv (i : Nat) {x : Str} {pos : Pos} (hN : X.N[i]? = some x := by rfl) (hv : Vis X.env.scope x := by first | exact Or.inl rfl | exact Or.inr (Or.inl rfl) | exact Or.inr (Or.inr rfl)) (hd : (x == ("__debug__" : Str)) = false := by decide)
    (hcd : (x == ("__classdict__" : Str)) = false := by decide) : SQ X (.Name x pos) (dOwn i) :=
  pe_weak (pe_var hN hv hd hcd) fun σ H Q ⟨ρ, ds, B, H0, V0, Z, e, r, q⟩ => by
    obtain ⟨a, xs, h1, h2, hb, h3, h4, h5⟩ := r.ow i ds (dOwn_some e)
    exact ⟨.ref a, h1, q a xs H (Same.refl H) (.inl (SqL.of h4)) h5⟩
theorem se_c {e : Expr} {d : D} {v : V} (h : PE X e (tC v)) (hr : ∀ H, Rep X.K H d v) : SE X e (dC d) :=
  pe_weak h fun σ H Q ⟨ρ, d', B, H0, V0, Z, e, r, q⟩ => by
    cases e
    exact q v H (Same.refl H) (hr _)
theorem se_int {i j pos} : SE X (.Constant (.int i) j pos) (dC (.int i)) := se_c pe_int fun _ => rep_int.mpr rfl
theorem se_bl {b j pos} : SE X (.Constant (.bool b) j pos) (dC (.bl b)) := se_c pe_bl fun _ => rep_bl.mpr rfl
theorem se_str {x j pos} : SE X (.Constant (.str x) j pos) (dC (.str x)) := se_c pe_str fun _ => rep_str.mpr rfl
end
def dSq (f : DEnv → Option D) : DEnv → Option (List D) := fun ρ => match f ρ with | some (.lst ds) => some ds | some (.tup ds) => some ds | _ => none
def dLs (f : DEnv → Option (List D)) : DEnv → Option D := fun ρ => (f ρ).map D.lst
section
variable {X : Cx} {e : Expr}
theorem q_of {f : DEnv → Option D} (h : SE X e f) : SQ X e (dSq f) :=
  pe_weak h fun σ H Q ⟨ρ, ds, B, H0, V0, Z, e, r, q⟩ => by
    unfold dSq at e
    split at e
    · rename_i es he
      cases e
      exact ⟨ρ, _, B, H0, V0, Z, he, r, fun v H' s hr => by
        obtain ⟨a, xs, rfl, h2, h3⟩ := rep_lst.mp hr
        exact q a xs H' s (.inl (hide_sub.seq h2)) h3⟩
    · rename_i es he
      cases e
      exact ⟨ρ, _, B, H0, V0, Z, he, r, fun v H' s hr => by
        obtain ⟨a, xs, rfl, h2, h3⟩ := rep_tup.mp hr
        exact q a xs H' s (.inr h2) h3⟩
    · cases e
theorem f_se {f : DEnv → Option (List D)} (h : SF X e f) : SE X e (dLs f) :=
  pe_weak h fun σ H Q ⟨ρ, d, B, H0, V0, Z, e, r, q⟩ => by
    unfold dLs at e
    obtain ⟨ds, he, rfl⟩ := Option.map_eq_some_iff.mp e
    refine ⟨ρ, ds, B, H0, V0, Z, he, r, fun a xs H' s hn ha hr => q _ H' s (rep_lst.mpr ⟨a, xs, rfl, SqL.of ?_, hr.mono (hide_anti fun b hb => List.mem_cons_of_mem _ hb)⟩)⟩
    rw [hide_out (r.newer hn)]
    exact ha
theorem f_q {f : DEnv → Option (List D)} (h : SF X e f) : SQ X e f :=
  pe_weak h fun σ H Q ⟨ρ, ds, B, H0, V0, Z, e, r, q⟩ =>
    ⟨ρ, ds, B, H0, V0, Z, e, r, fun a xs H' s hn ha hr => q a xs H' s (.inl (SqL.of ha)) (hr.mono (hide_anti fun b hb => List.mem_cons_of_mem _ hb))⟩
end
def RdOp (K : PySem.W.Frag) (r : R2) (g : D → D → Option D) : Prop :=
  ∀ x y d, g x y = some d → ∀ (Z : List Addr) (H : Hp) (u v : V) (Q : VK), (∀ z ∈ Z, ∃ o, H z = some o) → Rep K (hide Z H) x u → Rep K (hide Z H) y v → (∀ w' H', Same H H' → Rep K (hide Z H') d w' → Q w' H') → r u v H Q
def d2 (g : D → D → Option D) (fa fb : DEnv → Option D) : DEnv → Option D := fun ρ => match fa ρ with | some x => (match fb ρ with | some y => g x y | none => none) | none => none
def dTest (f : DEnv → Option D) : DEnv → Option Bool := fun ρ => match f ρ with | some (.bl b) => some b | _ => none
theorem d2_some {g : D → D → Option D} {fa fb : DEnv → Option D} {ρ : DEnv} {d : D} (e : d2 g fa fb ρ = some d) : ∃ x y, fa ρ = some x ∧ fb ρ = some y ∧ g x y = some d := by
  unfold d2 at e
  split at e
  · rename_i x hx
    split at e
    · rename_i y hy
      exact ⟨x, y, hx, hy, e⟩
    · cases e
  · cases e
section
variable {X : Cx} {a b c : Expr} {fa fb fc : DEnv → Option D} {pos : Pos}
theorem bin_imp {K : PySem.W.Frag} {r : R2} {g : D → D → Option D} (hr : RdOp K r g) : ∀ σ H Q, tD K (d2 g fa fb) σ H Q → tOp r (tD K fa) (tD K fb) σ H Q :=
  fun σ H Q ⟨ρ, d, B, H0, V0, Z, e, r, q⟩ => by
    obtain ⟨x, y, ex, ey, e⟩ := d2_some e
    exact ⟨ρ, x, B, H0, V0, Z, ex, r, fun u H1 s1 r1 => ⟨ρ, y, B, H0, V0, Z, ey, r.mono s1, fun v H2 s2 r2 =>
      hr x y d e Z H2 u v Q ((r.mono s1).mono s2).zs (r1.mono (hide_same s2)) r2 fun w' H' s rr => q w' H' (s1.trans (s2.trans s)) rr⟩⟩
theorem test_imp {K : PySem.W.Frag} {f : DEnv → Option D} : ∀ σ H Q, tT K (dTest f) σ H Q → tD K f σ H (fun x H' => ∃ k, x = .bl k ∧ Q k H') :=
  fun σ H Q ⟨ρ, b, B, H0, V0, Z, e, r, q⟩ => by
    unfold dTest at e
    split at e
    · rename_i b' hb
      cases e
      exact ⟨ρ, _, B, H0, V0, Z, hb, r, fun v H' s rr => ⟨b, rep_bl.mp rr, q H' s⟩⟩
    · cases e
theorem se_bin {op : Operator} {r : R2} {g : D → D → Option D} (ho : OpR X (binaryOp op) r) (hr : RdOp X.K r g) (ha : SE X a fa) (hb : SE X b fb) : SE X (.BinOp a op b pos) (d2 g fa fb) :=
  pe_weak (pe_op ho ha hb) (bin_imp hr)
theorem se_cmp {op : CmpOp} {r : R2} {g : D → D → Option D} (ho : OpR X (compareOp op) r) (hr : RdOp X.K r g) (ha : SE X a fa) (hb : SE X b fb) (hm : behindInMarks op b = false) : SE X (.Compare a [op] [b] pos) (d2 g fa fb) :=
  pe_weak (pe_cmpR ho ha hb hm) (bin_imp hr)
theorem st_cmp {op : CmpOp} {r : R2} {g : D → D → Option D} (ho : OpR X (compareOp op) r) (hr : RdOp X.K r g) (ha : SE X a fa) (hb : SE X b fb) (hm : behindInMarks op b = false) : STt X (.Compare a [op] [b] pos) (dTest (d2 g fa fb)) :=
  pt_weak (pt_cmpR ho ha hb hm) fun σ H Q h => bin_imp hr _ _ _ (test_imp σ H Q h)
theorem st_val {f : DEnv → Option D} (h : SE X a f) (he : ∀ whole, isTrue a X.env whole = (do let v ← whole; standAt a.pos; holding [v] (truthy v)) := by intro _; rfl) : STt X a (dTest f) :=
  pt_weak (pt_val h he) fun σ H Q h => test_imp σ H Q h
def dChain (g g' : D → D → Option D) (fa fb fc : DEnv → Option D) : DEnv → Option D := fun ρ => match fa ρ with
  | some x => (match fb ρ with
    | some y => (match g x y with
      | some (.bl true) => (match fc ρ with | some z => g' y z | none => none)
      | some (.bl false) => some (.bl false)
      | _ => none)
    | none => none)
  | none => none
theorem chain_imp {K : PySem.W.Frag} {r r' : R2} {g g' : D → D → Option D} (hr : RdOp K r g) (hr' : RdOp K r' g') : ∀ σ H Q, tD K (dChain g g' fa fb fc) σ H Q → tChain r r' (tD K fa) (tD K fb) (tD K fc) σ H Q :=
  fun σ H Q ⟨ρ, d, B, H0, V0, Z, e, r, q⟩ => by
    unfold dChain at e
    split at e
    · rename_i x ex
      split at e
      · rename_i y ey
        refine ⟨ρ, x, B, H0, V0, Z, ex, r, fun u H1 s1 r1 => ⟨ρ, y, B, H0, V0, Z, ey, r.mono s1, fun v H2 s2 r2 => ?_⟩⟩
        have R2 := (r.mono s1).mono s2
        split at e
        · rename_i eg
          split at e
          · rename_i z ez
            refine hr x y _ eg Z H2 u v _ R2.zs (r1.mono (hide_same s2)) r2 fun k H3 s3 r3 => ⟨true, rep_bl.mp r3, iteT ?_⟩
            exact ⟨ρ, z, B, H0, V0, Z, ez, R2.mono s3, fun w' H4 s4 r4 => hr' y z d e Z H4 v w' Q ((R2.mono s3).mono s4).zs (r2.mono (hide_same (s3.trans s4))) r4 fun k' H5 s5 r5 =>
              q k' H5 (s1.trans (s2.trans (s3.trans (s4.trans s5)))) r5⟩
          · cases e
        · rename_i eg
          cases e
          exact hr x y _ eg Z H2 u v _ R2.zs (r1.mono (hide_same s2)) r2 fun k H3 s3 r3 => ⟨false, rep_bl.mp r3, iteF (q _ H3 (s1.trans (s2.trans s3)) (rep_bl.mpr rfl))⟩
        · cases e
      · cases e
    · cases e
theorem st_chain {op op' : CmpOp} {r r' : R2} {g g' : D → D → Option D} (ho : OpR X (compareOp op) r) (hr : RdOp X.K r g) (ho' : OpR X (compareOp op') r') (hr' : RdOp X.K r' g') (ha : SE X a fa) (hb : SE X b fb) (hc : SE X c fc)
    (hm : lastMarks [op, op'] [b, c] = false := by with_unfolding_all rfl) : STt X (.Compare a [op, op'] [b, c] pos) (dTest (dChain g g' fa fb fc)) :=
  pt_weak (pt_chain ho ho' ha hb hc hm) fun σ H Q h => chain_imp hr hr' _ _ _ (test_imp σ H Q h)
def dAnd (fa fb : DEnv → Option D) : DEnv → Option D := fun ρ => match fa ρ with | some (.bl true) => fb ρ | some (.bl false) => some (.bl false) | _ => none
def dOr (fa fb : DEnv → Option D) : DEnv → Option D := fun ρ => match fa ρ with | some (.bl true) => some (.bl true) | some (.bl false) => fb ρ | _ => none
def dNot (fa : DEnv → Option D) : DEnv → Option D := fun ρ => match fa ρ with | some (.bl b) => some (.bl (!b)) | _ => none
def dAndT (fa fb : DEnv → Option Bool) : DEnv → Option Bool := fun ρ => match fa ρ with | some true => fb ρ | some false => some false | none => none
def dOrT (fa fb : DEnv → Option Bool) : DEnv → Option Bool := fun ρ => match fa ρ with | some true => some true | some false => fb ρ | none => none
def dNotT (fa : DEnv → Option Bool) : DEnv → Option Bool := fun ρ => (fa ρ).map (!·)
variable {rest : List Expr}
variable {ga gb : DEnv → Option Bool}
theorem sw_and1 (ha : STt X a ga) : STw X (.BoolOp .And [a] pos) ga := pw_and1 ha
theorem sw_or1 (ha : STt X a ga) : STw X (.BoolOp .Or [a] pos) ga := pw_or1 ha
theorem sw_and (ha : STt X a ga) (hb : STw X (.BoolOp .And (b :: rest) pos) gb) : STw X (.BoolOp .And (a :: b :: rest) pos) (dAndT ga gb) :=
  pw_weak (pw_and ha hb) fun σ H Q ⟨ρ, d, B, H0, V0, Z, e, r, q⟩ => by
    unfold dAndT at e
    split at e
    · rename_i ea
      exact ⟨ρ, _, B, H0, V0, Z, ea, r, fun H1 s1 => iteT ⟨ρ, d, B, H0, V0, Z, e, r.mono s1, fun H' s => q H' (s1.trans s)⟩⟩
    · rename_i ea
      cases e
      exact ⟨ρ, _, B, H0, V0, Z, ea, r, fun H1 s1 => iteF (q H1 s1)⟩
    · cases e
theorem sw_or (ha : STt X a ga) (hb : STw X (.BoolOp .Or (b :: rest) pos) gb) : STw X (.BoolOp .Or (a :: b :: rest) pos) (dOrT ga gb) :=
  pw_weak (pw_or ha hb) fun σ H Q ⟨ρ, d, B, H0, V0, Z, e, r, q⟩ => by
    unfold dOrT at e
    split at e
    · rename_i ea
      cases e
      exact ⟨ρ, _, B, H0, V0, Z, ea, r, fun H1 s1 => iteT (q H1 s1)⟩
    · rename_i ea
      exact ⟨ρ, _, B, H0, V0, Z, ea, r, fun H1 s1 => iteF ⟨ρ, d, B, H0, V0, Z, e, r.mono s1, fun H' s => q H' (s1.trans s)⟩⟩
    · cases e
theorem st_w (h : STw X a ga) : STt X a ga := PW.pt h
def dIf (fc : DEnv → Option Bool) (fa fb : DEnv → Option D) : DEnv → Option D := fun ρ => match fc ρ with | some true => fa ρ | some false => fb ρ | none => none
theorem se_if (hc : STt X c ga) (ha : SE X a fa) (hb : SE X b fb) : SE X (.IfExp c a b pos) (dIf ga fa fb) :=
  pe_weak (pe_ifExp hc ha hb) fun σ H Q ⟨ρ, d, B, H0, V0, Z, e, r, q⟩ => by
    unfold dIf at e
    split at e
    · rename_i ea
      exact ⟨ρ, _, B, H0, V0, Z, ea, r, fun H1 s1 => iteT ⟨ρ, d, B, H0, V0, Z, e, r.mono s1, fun v H' s rr => q v H' (s1.trans s) rr⟩⟩
    · rename_i ea
      exact ⟨ρ, _, B, H0, V0, Z, ea, r, fun H1 s1 => iteF ⟨ρ, d, B, H0, V0, Z, e, r.mono s1, fun v H' s rr => q v H' (s1.trans s) rr⟩⟩
    · cases e
end
def plainE : Expr → Bool
  | .Starred _ _ => false
  | _ => true
theorem star_of {e : Expr} {es : List Expr} {env : Env} (h : plainE e = true) : starEach (e :: es) env = (false, eval e env) :: starEach es env := by
  cases e <;> first | (cases h; done) | (rw [starEach]; intro _ _ z; cases z) | rw [starEach]
theorem back_of {pos : Pos} {env : Env} : ∀ {es : List Expr}, es.all plainE = true → (backTo pos (starEach es env)).any (·.1) = false
  | [], _ => rfl
  | e :: es, h => by
    rw [List.all_cons, Bool.and_eq_true] at h
    rw [star_of h.1]
    have ih := @back_of pos env es h.2
    unfold backTo at ih ⊢
    rw [List.map_cons, List.any_cons, ih]
    rfl
def dNil : DEnv → Option (List D) := fun _ => some []
def dCons (f : DEnv → Option D) (g : DEnv → Option (List D)) : DEnv → Option (List D) := fun ρ => match f ρ with | some d => (match g ρ with | some ds => some (d :: ds) | none => none) | none => none
section
variable {X : Cx} {e : Expr} {es : List Expr} {f : DEnv → Option D} {g : DEnv → Option (List D)} {pos : Pos}
theorem sa_nil : SA X [] dNil := pa_weak pa_nil fun σ H Q ⟨ρ, ds, B, H0, V0, Z, e, r, q⟩ => by
  cases e
  exact q [] H (Same.refl H) RepL.nil
theorem sa_cons (ha : SE X e f) (hr : SA X es g) (hs : starEach (e :: es) X.env = (false, eval e X.env) :: starEach es X.env := by exact star_of rfl) : SA X (e :: es) (dCons f g) :=
  pa_weak (pa_cons ha hr hs) fun σ H Q ⟨ρ, ds, B, H0, V0, Z, e, r, q⟩ => by
    unfold dCons at e
    split at e
    · rename_i d ed
      split at e
      · rename_i ds' eds
        cases e
        exact ⟨ρ, d, B, H0, V0, Z, ed, r, fun v H1 s1 r1 => ⟨ρ, ds', B, H0, V0, Z, eds, r.mono s1, fun vs H2 s2 r2 => q (v :: vs) H2 (s1.trans s2) (RepL.cons (r1.mono (hide_same s2)) r2)⟩⟩
      · cases e
    · cases e
def dTup (g : DEnv → Option (List D)) : DEnv → Option D := fun ρ => match g ρ with | some ds => if ds.length ≤ LIM then some (.tup ds) else none | none => none
def dLim (g : DEnv → Option (List D)) : DEnv → Option (List D) := fun ρ => match g ρ with | some ds => if ds.length ≤ LIM then some ds else none | none => none
theorem se_tup {x1} (h : SA X es g) : SE X (.Tuple es x1 pos) (dTup g) :=
  pe_weak (pe_tup h) fun σ H Q ⟨ρ, d, B, H0, V0, Z, e, r, q⟩ => by
    unfold dTup at e
    split at e
    · rename_i ds eds
      split at e
      · rename_i hl
        cases e
        refine ⟨ρ, ds, B, H0, V0, Z, eds, r, fun xs H1 s1 r1 => ⟨lim_le (by rw [← r1.length]; exact hl), fun p hp => ?_⟩⟩
        have sn := same_upd (o := HO.tup xs) hp
        refine q _ _ (s1.trans sn) (rep_tup.mpr ⟨p, xs, rfl, SqT.of ?_, r1.mono (hide_same sn)⟩)
        rw [hide_out ((r.mono s1).newer hp)]
        exact upd_same
      · cases e
    · cases e
theorem sf_lst (h : SA X es g) : SF X (.List es pos) (dLim g) :=
  pe_weak (pe_lst h) fun σ H Q ⟨ρ, d, B, H0, V0, Z, e, r, q⟩ => by
    unfold dLim at e
    split at e
    · rename_i ds eds
      split at e
      · rename_i hl
        cases e
        refine ⟨ρ, _, B, H0, V0, Z, eds, r, fun xs H1 s1 r1 => ⟨lim_le (by rw [← r1.length]; exact hl), fun p hp => ?_⟩⟩
        exact q p xs _ (s1.trans (same_upd hp)) (s1.free hp) upd_same (r1.mono (hide_laid hp (same_upd hp)))
      · cases e
    · cases e
def spD (K : PySem.W.Frag) (F : List D → Option D) : Sp := fun vs H Q _ => ∃ Z ds d, (∀ z ∈ Z, ∃ o, H z = some o) ∧ RepL K (hide Z H) ds vs ∧ F ds = some d ∧ ∀ v H', Same H H' → Rep K (hide Z H') d v → Q v H'
def dCall (F : List D → Option D) (g : DEnv → Option (List D)) : DEnv → Option D := fun ρ => match g ρ with | some ds => F ds | none => none
theorem se_call {k : Nat} {f' : Addr} {fd : FuncData} {ps : List Str} {F : List D → Option D} {x : Str} {p : Pos} (G : FnOk X.prog X.w X.K X.mg X.base CX0 k f' fd ps (spD X.K F)) (hr : Room k X.A) (hm : X.mg x = some (.ref f')) (hk : PySem.W.keepIn X.K (.ref f') = true) (hb : Binds X.K fd ps [])
    (ha : SA X (e :: es) g) (hg : Gl X x := by rfl) (hdb : (x == ("__debug__" : Str)) = false := by decide) (he : starEach (e :: es) X.env = (false, eval e X.env) :: starEach es X.env := by exact star_of rfl) (hpl : (backTo pos (starEach es X.env)).any (·.1) = false := by exact back_of rfl) :
    SE X (.Call (.Name x p) (e :: es) [] pos) (dCall F g) :=
  pe_weak (pe_call G hr hg hm hk hb .nil pass0 ha hdb he hpl) fun σ H Q ⟨ρ, d, B, H0, V0, Z, e, r, q⟩ => by
    unfold dCall at e
    split at e
    · rename_i ds eds
      refine ⟨ρ, ds, B, H0, V0, Z, eds, r, fun vs H1 s1 r1 => ?_⟩
      show spD X.K F (vs ++ []) H1 Q E0
      rw [List.append_nil]
      exact ⟨Z, ds, d, (r.mono s1).zs, r1, e, fun v H' s rr => q v H' (s1.trans s) rr⟩
    · cases e
end
end L3
set_option Elab.async false
set_option linter.all false
set_option maxRecDepth 100000
set_option maxHeartbeats 4000000
namespace L3
open PySem PySem.Spec PyProof.Rows L2
def dSeq (g k : DEnv → Option Out) : DEnv → Option Out := fun ρ => match g ρ with | some (.nx ρ') => k ρ' | o => o
def dNext : DEnv → Option Out := fun ρ => some (.nx ρ)
def dRet (f : DEnv → Option D) : DEnv → Option Out := fun ρ => match f ρ with | some d => some (.rt d) | none => none
def dDrop (f : DEnv → Option D) : DEnv → Option Out := fun ρ => match f ρ with | some _ => some (.nx ρ) | none => none
def dIfS (c : DEnv → Option Bool) (g k : DEnv → Option Out) : DEnv → Option Out := fun ρ => match c ρ with | some true => g ρ | some false => k ρ | none => none
def dSet (i : Nat) (f : DEnv → Option D) : DEnv → Option Out := fun ρ => match f ρ with | some d => some (.nx (ρ.set i (some (.sh d)))) | none => none
def dSetF (i : Nat) (f : DEnv → Option (List D)) : DEnv → Option Out := fun ρ => match f ρ with | some d => some (.nx (ρ.set i (some (.ow d)))) | none => none
def dAsg (f : DEnv → Option D) (h : D → DEnv → Option DEnv) : DEnv → Option Out := fun ρ => match f ρ with | some d => (match h d ρ with | some ρ' => some (.nx ρ') | none => none) | none => none
def dName (i : Nat) : D → DEnv → Option DEnv := fun d ρ => some (ρ.set i (some (.sh d)))
def dGNil : List D → DEnv → Option DEnv := fun ds ρ => match ds with | [] => some ρ | _ => none
def dGCons (h : D → DEnv → Option DEnv) (k : List D → DEnv → Option DEnv) : List D → DEnv → Option DEnv := fun ds ρ => match ds with | d :: r => (match h d ρ with | some ρ' => k r ρ' | none => none) | [] => none
def dGTup (n : Nat) (k : List D → DEnv → Option DEnv) : D → DEnv → Option DEnv := fun d ρ => match d with | .tup ds => if ds.length = n then k ds ρ else none | _ => none
def dSetD (i : Nat) (f : DEnv → Option (List Key × List D)) : DEnv → Option Out := fun ρ => match f ρ with | some d => some (.nx (ρ.set i (some (.od d.1 d.2)))) | none => none
def frz (i : Nat) (ρ : DEnv) : DEnv := match ρ[i]? with | some (some c) => (match c.oc with | some o => ρ.set i (some (.sh o.dat)) | none => ρ) | _ => ρ
theorem oc_cell {c : Cell} {o : OC} (h : c.oc = some o) : c = o.cell := by cases c <;> cases h <;> rfl
def tFD (K : PySem.W.Frag) (f : DEnv → Option (List Key × List D)) : TE := fun σ H Q => ∃ ρ ds B H0 V0 Z, f ρ = some ds ∧ SR K B H0 V0 H Z σ ρ ∧ ∀ a kvs H', Same H H' → H a = none → H' a = some (.dK kvs) → kvs.map (·.1) = ds.1 → RepL K (hide (a :: Z) H') ds.2 (kvs.map (·.2)) → Q (.ref a) H'
abbrev SFD (X : Cx) (e : Expr) (f : DEnv → Option (List Key × List D)) : Prop := PE X e (tFD X.K f)
section
variable {X : Cx} {st : Stmt} {rest : List Stmt} {e c : Expr} {pos : Pos} {f : DEnv → Option D} {g k : DEnv → Option Out}
theorem ss_nil : SSs X [] dNext := pss_weak pss_nil fun E σ H ⟨ρ, o, B, H0, V0, Z, e, r, q⟩ => by
  cases e
  exact q σ H Z r
theorem ss_cons (h1 : SS X st g) (h2 : SSs X rest k) : SSs X (st :: rest) (dSeq g k) :=
  pss_weak (pss_cons h1 h2) fun E σ H ⟨ρ, o, B, H0, V0, Z, e, r, q⟩ => by
    unfold dSeq at e
    split at e
    · rename_i ρ' eg
      exact ⟨ρ, _, B, H0, V0, Z, eg, r, fun σ' H' Z' r' => ⟨ρ', o, B, H0, V0, Z', e, r', q⟩⟩
    · rename_i hne
      refine ⟨ρ, o, B, H0, V0, Z, e, r, ?_⟩
      cases o with
      | nx ρ' => exact absurd e (hne ρ')
      | bk ρ' => exact q
      | ct ρ' => exact q
      | rt d => exact q
theorem ss_one (h1 : SS X st g) : SSs X [st] g := pss_one h1
theorem ss_ret (h : SE X e f) : SS X (.Return (some e) pos) (dRet f) := ps_weak (ps_ret h) fun E σ H ⟨ρ, o, B, H0, V0, Z, e, r, q⟩ => by
  unfold dRet at e
  split at e
  · rename_i d ed
    cases e
    exact ⟨ρ, d, B, H0, V0, Z, ed, r, fun v H' s rr => q v H' (r.same.trans s) (rr.mono (hide_anti r.sub))⟩
  · cases e
theorem ss_if {a b : List Stmt} {fc : DEnv → Option Bool} (hc : STt X c fc) (ha : SSs X a g) (hb : SSs X b k) : SS X (.If c a b pos) (dIfS fc g k) :=
  ps_weak (ps_if hc ha hb) fun E σ H ⟨ρ, o, B, H0, V0, Z, e, r, q⟩ => by
    unfold dIfS at e
    split at e
    · rename_i ec
      exact ⟨ρ, true, B, H0, V0, Z, ec, r, fun H' s => iteT ⟨ρ, o, B, H0, V0, Z, e, r.mono s, q⟩⟩
    · rename_i ec
      exact ⟨ρ, false, B, H0, V0, Z, ec, r, fun H' s => iteF ⟨ρ, o, B, H0, V0, Z, e, r.mono s, q⟩⟩
    · cases e
theorem ss_set {i : Nat} {x : Str} {pos' : Pos} (he : SE X e f) (hN : X.N.Nodup) (hi : X.N[i]? = some x := by rfl) (hx : Loc X.env.scope x := by first | exact Or.inl rfl | exact Or.inr rfl) (hs : swapsWith e (some (.Name x pos')) pos.line X.env = pure false := by rfl)
    (hf : X.fn x = true ∨ X.env.scope.names.lookup x = some .local := by first | exact .inl rfl | exact .inr rfl) : SS X (.Assign [.Name x pos'] e pos) (dSet i f) :=
  ps_weak (ps_set hN hi hx he hs hf) fun E σ H ⟨ρ, o, B, H0, V0, Z, e, r, q⟩ => by
    unfold dSet at e
    split at e
    · rename_i d ed
      cases e
      exact ⟨ρ, d, B, H0, V0, Z, ed, r, fun v H' s rr => q _ H' Z ((r.mono s).set rr)⟩
    · cases e
theorem ss_setF {i : Nat} {x : Str} {pos' : Pos} {fl : DEnv → Option (List D)} (he : SF X e fl) (hN : X.N.Nodup) (hi : X.N[i]? = some x := by rfl) (hx : Loc X.env.scope x := by first | exact Or.inl rfl | exact Or.inr rfl) (hs : swapsWith e (some (.Name x pos')) pos.line X.env = pure false := by rfl)
    (hf : X.fn x = true ∨ X.env.scope.names.lookup x = some .local := by first | exact .inl rfl | exact .inr rfl) : SS X (.Assign [.Name x pos'] e pos) (dSetF i fl) :=
  ps_weak (ps_set hN hi hx he hs hf) fun E σ H ⟨ρ, o, B, H0, V0, Z, e, r, q⟩ => by
    unfold dSetF at e
    split at e
    · rename_i ds ed
      cases e
      refine ⟨ρ, ds, B, H0, V0, Z, ed, r, fun a xs H' s hn ha rr => q _ H' (a :: Z) ?_⟩
      refine (r.more hn s ha).setO (c := .l ds) List.mem_cons_self (fun z => r.newer hn (r.sub _ z)) ?_ ha ⟨_, rfl, rr⟩ fun j es hj hs' => ?_
      · exact r.same.free hn
      · obtain ⟨b, ys, t1, t2, _⟩ := r.own j es hj
        rw [hs'] at t1
        cases t1
        exact r.newer hn t2
    · cases e
theorem ss_setD {i : Nat} {x : Str} {pos' : Pos} {fl : DEnv → Option (List Key × List D)} (he : SFD X e fl) (hN : X.N.Nodup) (hi : X.N[i]? = some x := by rfl) (hx : Loc X.env.scope x := by first | exact Or.inl rfl | exact Or.inr rfl) (hs : swapsWith e (some (.Name x pos')) pos.line X.env = pure false := by rfl)
    (hf : X.fn x = true ∨ X.env.scope.names.lookup x = some .local := by first | exact .inl rfl | exact .inr rfl) : SS X (.Assign [.Name x pos'] e pos) (dSetD i fl) :=
  ps_weak (ps_set hN hi hx he hs hf) fun E σ H ⟨ρ, o, B, H0, V0, Z, e, r, q⟩ => by
    unfold dSetD at e
    split at e
    · rename_i ds ed
      cases e
      refine ⟨ρ, ds, B, H0, V0, Z, ed, r, fun a xs H' s hn ha rk rr => q _ H' (a :: Z) ?_⟩
      refine (r.more hn s ha).setO (c := .d ds.1 ds.2) List.mem_cons_self (fun z => r.newer hn (r.sub _ z)) ?_ ha ⟨_, rfl, rk, rr⟩ fun j es hj hs' => ?_
      · exact r.same.free hn
      · obtain ⟨b, ys, t1, t2, _⟩ := r.own j es hj
        rw [hs'] at t1
        cases t1
        exact r.newer hn t2
    · cases e
theorem sg_name {i : Nat} {x : Str} (hN : X.N.Nodup) (hi : X.N[i]? = some x := by rfl) (hx : Loc X.env.scope x := by first | exact Or.inl rfl | exact Or.inr rfl) (hf : X.fn x = true ∨ X.env.scope.names.lookup x = some .local := by first | exact .inl rfl | exact .inr rfl) : SG X (.Name x pos) (dName i) :=
  pg_weak (pg_name hN hi hx hf) fun v σ H Q ⟨ρ, d, ρ', B, H0, V0, Z, e, r, rr, q⟩ => by
    cases e
    exact q _ (r.set rr)
theorem sgs_nil : SGs X [] dGNil := pgs_weak pgs_nil fun v σ H Q ⟨ρ, ds, ρ', B, H0, V0, Z, e, r, rr, q⟩ => by
  unfold dGNil at e
  split at e
  · cases e
    exact ⟨repl_nil.mp rr, q σ r⟩
  · cases e
theorem sgs_cons {es : List Expr} {h : D → DEnv → Option DEnv} {kk : List D → DEnv → Option DEnv} (h1 : SG X e h) (h2 : SGs X es kk)
    (hs : (assignEach (e :: es) X.env).map (·.2) = assign e X.env :: (assignEach es X.env).map (·.2) := by rfl) : SGs X (e :: es) (dGCons h kk) :=
  pgs_weak (pgs_cons h1 h2 hs) fun v σ H Q ⟨ρ, ds, ρ', B, H0, V0, Z, e, r, rr, q⟩ => by
    unfold dGCons at e
    split at e
    · rename_i d rs
      split at e
      · rename_i ρ1 e1
        obtain ⟨v', vs', rfl, t1, t2⟩ := repl_cons.mp rr
        exact ⟨v', vs', rfl, ρ, d, ρ1, B, H0, V0, Z, e1, r, t1, fun σ' r' => ⟨ρ1, rs, ρ', B, H0, V0, Z, e, r', t2, q⟩⟩
      · cases e
    · cases e
theorem sg_tup {es : List Expr} {kt : Nat} {kk : List D → DEnv → Option DEnv} {n : Nat} (hc : X.calm = true) (h : SGs X es kk)
    (hn : (assignEach es X.env).length = n := by rfl) (hst : (assignEach es X.env).findIdx? (·.1) = none := by rfl) : SG X (.Tuple es kt pos) (dGTup n kk) :=
  pg_weak (pg_tup hc h hn hst) fun v σ H Q ⟨ρ, d, ρ', B, H0, V0, Z, e, r, rr, q⟩ => by
    unfold dGTup at e
    split at e
    · rename_i ds
      split at e
      · rename_i hl
        obtain ⟨a, xs, rfl, t1, t2⟩ := rep_tup.mp rr
        exact ⟨a, xs, rfl, sqt_same hide_sub t1, t2.length.symm.trans hl, ρ, ds, ρ', B, H0, V0, Z, e, r, t2, q⟩
      · cases e
    · cases e
theorem SR.frz {K : PySem.W.Frag} {B Z : List Addr} {H0 V0 H : Hp} {σ : St} {ρ : DEnv} (i : Nat) (r : SR K B H0 V0 H Z σ ρ) : ∃ Z', SR K B H0 V0 H Z' σ (frz i ρ) ∧ (∀ b ∈ Z', b ∈ Z) ∧ (∀ b ∈ Z, b ∉ Z' → ∃ (c : OC) (o : HO), ρ[i]? = some (some c.cell) ∧ H b = some o ∧ Hold K (hide Z H) c o) := by
  unfold L3.frz
  split
  · rename_i cc hi
    split
    · rename_i c hc
      have hcc := oc_cell hc
      subst hcc
      obtain ⟨a, o, h1, h2, hnb, h3, h4, h5⟩ := r.own i c hi
      have hsub : ∀ b ∈ Z.filter (fun b => decide (b ≠ a)), b ∈ Z := fun b hb => (List.mem_filter.mp hb).1
      have hm : Same (hide Z H) (hide (Z.filter (fun b => decide (b ≠ a))) H) := hide_anti hsub
      have hl : i < ρ.length := (List.getElem?_eq_some_iff.mp hi).1
      refine ⟨Z.filter (fun b => decide (b ≠ a)), ⟨r.same, r.vis.trans hm, fun b hb => ?_, fun z hz => r.zs z (hsub z hz), fun j d q => ?_, fun j es q => ?_, fun j k fs gs b q1 q2 s1 s2 => ?_, by rw [List.length_set]; exact r.len⟩, hsub, fun b hb nb => ?_⟩
      · exact List.mem_filter.mpr ⟨r.sub b hb, decide_eq_true fun z => hnb (z ▸ hb)⟩
      · rcases set_get q with ⟨rfl, z, _⟩ | ⟨n, q⟩
        · cases z
          refine ⟨_, h1, (h5.mono hm).rep ?_⟩
          rw [hide_out (fun z => absurd rfl (of_decide_eq_true (List.mem_filter.mp z).2))]
          exact h4
        · obtain ⟨v, t1, t2⟩ := r.sh j d q
          exact ⟨v, t1, t2.mono hm⟩
      · rcases set_get q with ⟨_, z, _⟩ | ⟨n, q⟩
        · exact (sh_oc z).elim
        · obtain ⟨b, ys, t1, t2, tb, t3, t4, t5⟩ := r.own j es q
          refine ⟨b, ys, t1, List.mem_filter.mpr ⟨t2, decide_eq_true fun z => ?_⟩, tb, t3, t4, t5.mono hm⟩
          subst z
          exact n (r.inj i j _ _ b hi q h1 t1)
      · rcases set_get q1 with ⟨_, z, _⟩ | ⟨n1, q1⟩
        · exact (sh_oc z).elim
        rcases set_get q2 with ⟨_, z, _⟩ | ⟨n2, q2⟩
        · exact (sh_oc z).elim
        exact r.inj j k fs gs b q1 q2 s1 s2
      · have eb : b = a := Classical.byContradiction fun z => nb (List.mem_filter.mpr ⟨hb, decide_eq_true z⟩)
        subst eb
        exact ⟨c, o, hi, h4, h5⟩
    · exact ⟨Z, r, fun _ h => h, fun b hb nb => absurd hb nb⟩
  · exact ⟨Z, r, fun _ h => h, fun b hb nb => absurd hb nb⟩
theorem ss_frz (i : Nat) (h : SS X st g) : SS X st (fun ρ => g (frz i ρ)) := ps_weak h fun E σ H ⟨ρ, o, B, H0, V0, Z, e, r, q⟩ => by
  obtain ⟨Z', r', _⟩ := r.frz i
  exact ⟨frz i ρ, o, B, H0, V0, Z', e, r', q⟩
def dLoop (h : D → DEnv → Option DEnv) (g : DEnv → Option Out) : List D → DEnv → Option Out
  | [], ρ => some (.nx ρ)
  | d :: ds, ρ => match h d ρ with
    | none => none
    | some ρ1 => match g ρ1 with
      | some (.nx ρ2) => dLoop h g ds ρ2
      | some (.ct ρ2) => dLoop h g ds ρ2
      | some (.bk ρ2) => some (.nx ρ2)
      | some (.rt v) => some (.rt v)
      | none => none
def dFor (fi : DEnv → Option (List D)) (h : D → DEnv → Option DEnv) (g : DEnv → Option Out) : DEnv → Option Out := fun ρ => match fi ρ with | some ds => dLoop h g ds ρ | none => none
theorem ss_for {tg iter : Expr} {body : List Stmt} {fi : DEnv → Option (List D)} {h : D → DEnv → Option DEnv} (hp : PassesOwn (model X.prog X.w) X.A X.env X.xe) (hc : X.calm = true) (hi : SI X tg iter fi) (hg : SG X tg h) (hb : SSs X body g)
    (hs : ∀ x, foldedSetIterable iter X.env x = pure x := by intro _; rfl) : SS X (.For tg iter body [] pos) (dFor fi h g) :=
  ps_weak (ps_for hp hc hi hg hb hs) fun E σ H ⟨ρ, o, B, H0, V0, Z, e, r, q⟩ => by
    unfold dFor at e
    split at e
    · rename_i ds eds
      refine ⟨ρ, ds, B, H0, V0, Z, eds, r, fun J H1 s1 wk => ?_⟩
      have R1 := r.mono s1
      have RV : SR X.K B H0 (hide Z H1) H1 Z σ ρ := R1.vis' (fun _ _ h => h)
      have back : ∀ {σ' H' Z' ρ'}, SR X.K B H0 (hide Z H1) H' Z' σ' ρ' → SR X.K B H0 V0 H' Z' σ' ρ' := fun r' => r'.vis' (R1.vis.trans r'.vis)
      refine ⟨fun i m σ' H' => m = ds.length - i ∧ i ≤ ds.length ∧ ∃ ρ' Z', SR X.K B H0 (hide Z H1) H' Z' σ' ρ' ∧ dLoop h g (ds.drop i) ρ' = some o, ⟨_, rfl, Nat.zero_le _, ρ, Z, RV, e⟩, ?_⟩
      rintro i m σ' H' ⟨rfl, hi', ρ', Z', r', e'⟩
      have vis : Same (hide Z H1) H' := r'.vis.trans hide_sub
      by_cases hlt : i < ds.length
      · refine .inr ⟨wk.go H' vis i hlt, fun σ2 H2 => ∃ ρ2 Z2, SR X.K B H0 (hide Z H1) H2 Z2 σ2 ρ2 ∧ dLoop h g (ds.drop (i + 1)) ρ2 = some o, fun σ2 H2 ⟨ρ2, Z2, r2, e2⟩ => ⟨ds.length - (i + 1), by omega, rfl, hlt, ρ2, Z2, r2, e2⟩, fun x H3 hy => ?_⟩
        obtain ⟨sH, hx⟩ := wk.yld H' vis i x H3 hy
        have hd := hx ds[i] (List.getElem?_eq_getElem hlt) Z' r'.zs r'.vis
        rw [List.drop_eq_getElem_cons hlt] at e'
        unfold dLoop at e'
        split at e'
        · cases e'
        · rename_i ρ1 e1
          refine ⟨ρ', ds[i], ρ1, B, H0, hide Z H1, Z', e1, r'.mono sH, hd, fun σ4 r4 => ?_⟩
          split at e'
          · rename_i ρ2 e2
            exact ⟨ρ1, _, B, H0, hide Z H1, Z', e2, r4, fun σ5 H5 Z5 r5 => ⟨ρ2, Z5, r5, e'⟩⟩
          · rename_i ρ2 e2
            exact ⟨ρ1, _, B, H0, hide Z H1, Z', e2, r4, fun σ5 H5 Z5 r5 => ⟨ρ2, Z5, r5, e'⟩⟩
          · rename_i ρ2 e2
            cases e'
            exact ⟨ρ1, _, B, H0, hide Z H1, Z', e2, r4, fun σ5 H5 Z5 r5 => q σ5 H5 Z5 (back r5)⟩
          · rename_i v e2
            cases e'
            exact ⟨ρ1, _, B, H0, hide Z H1, Z', e2, r4, q⟩
          · cases e'
      · have ei : i = ds.length := by omega
        subst ei
        rw [List.drop_length] at e'
        unfold dLoop at e'
        cases e'
        exact .inl ⟨wk.stop H' vis, q σ' H' Z' (back r')⟩
    · cases e
theorem walk_list {K : PySem.W.Frag} {W0 : Hp} {a : Addr} {xs : List V} {ds : List D} (h1 : SqL K W0 a xs) (h2 : RepL K W0 ds xs) : Walk K W0 (Itl K a) ds where
  go := fun H' s i hi => by
    obtain ⟨v, hv, _⟩ := h2.get (List.getElem?_eq_getElem hi)
    exact ⟨xs, v, s.seq h1, hv⟩
  yld := fun H' s i x H3 hy => by
    obtain ⟨rfl, hx⟩ := hy
    refine ⟨Same.refl _, fun d hd Z hz hs => ?_⟩
    obtain ⟨v, hv, rv⟩ := h2.get hd
    have := hx xs (s.seq h1)
    rw [hv] at this
    cases this
    exact rv.mono hs
  stop := fun H' s => ⟨xs, s.seq h1, by rw [h2.length]; exact Nat.le_refl _⟩
theorem walk_tup {K : PySem.W.Frag} {W0 : Hp} {a : Addr} {xs : List V} {ds : List D} (h1 : SqT K W0 a xs) (h2 : RepL K W0 ds xs) : Walk K W0 (Itt K a) ds where
  go := fun H' s i hi => by
    obtain ⟨v, hv, _⟩ := h2.get (List.getElem?_eq_getElem hi)
    exact ⟨xs, v, sqt_same s h1, hv⟩
  yld := fun H' s i x H3 hy => by
    obtain ⟨rfl, hx⟩ := hy
    refine ⟨Same.refl _, fun d hd Z hz hs => ?_⟩
    obtain ⟨v, hv, rv⟩ := h2.get hd
    have := hx xs (sqt_same s h1)
    rw [hv] at this
    cases this
    exact rv.mono hs
  stop := fun H' s => ⟨xs, sqt_same s h1, by rw [h2.length]; exact Nat.le_refl _⟩
def dints (lo : Int) (n : Nat) : List D := (List.range n).map fun (k : Nat) => D.int (lo + (k : Int))
theorem walk_rng {K : PySem.W.Frag} {W0 : Hp} (lo : Int) (n : Nat) : Walk K W0 (Itr lo n) (dints lo n) where
  go := fun H' s i hi => by
    show i < n
    simpa [dints] using hi
  yld := fun H' s i x H3 hy => by
    obtain ⟨rfl, rfl⟩ := hy
    refine ⟨Same.refl _, fun d hd Z hz hs => ?_⟩
    unfold dints at hd
    rw [List.getElem?_map] at hd
    cases hr : (List.range n)[i]? with
    | none => rw [hr] at hd; cases hd
    | some k =>
      rw [hr] at hd
      have ek : k = i := by
        have := List.getElem?_eq_some_iff.mp hr
        obtain ⟨h1, h2⟩ := this
        simpa using h2.symm
      subst ek
      cases hd
      exact rep_int.mpr rfl
  stop := fun H' s => by
    show n ≤ (dints lo n).length
    simp [dints]
variable {tg : Expr}
def dLstOf (f : DEnv → Option D) : DEnv → Option (List D) := fun ρ => match f ρ with | some (.lst ds) => some ds | _ => none
def dTupOf (f : DEnv → Option D) : DEnv → Option (List D) := fun ρ => match f ρ with | some (.tup ds) => some ds | _ => none
theorem si_lst (h : SE X e f) : SI X tg e (dLstOf f) := pi_weak (pi_list h) fun σ H R ⟨ρ, ds, B, H0, V0, Z, e, r, q⟩ => by
  unfold dLstOf at e
  split at e
  · rename_i es he
    cases e
    refine ⟨ρ, _, B, H0, V0, Z, he, r, fun v H' s rr => ?_⟩
    obtain ⟨a, xs, rfl, h1, h2⟩ := rep_lst.mp rr
    exact ⟨a, rfl, ⟨xs, hide_sub.seq h1⟩, q _ H' s (walk_list h1 h2)⟩
  · cases e
theorem si_tup (h : SE X e f) : SI X tg e (dTupOf f) := pi_weak (pi_tup h) fun σ H R ⟨ρ, ds, B, H0, V0, Z, e, r, q⟩ => by
  unfold dTupOf at e
  split at e
  · rename_i es he
    cases e
    refine ⟨ρ, _, B, H0, V0, Z, he, r, fun v H' s rr => ?_⟩
    obtain ⟨a, xs, rfl, h1, h2⟩ := rep_tup.mp rr
    exact ⟨a, rfl, ⟨xs, sqt_same hide_sub h1⟩, q _ H' s (walk_tup h1 h2)⟩
  · cases e
def okR (i : Int) : Bool := decide (-(2 ^ 62) ≤ i) && decide (i < 2 ^ 62)
theorem okR_le {i : Int} (h : okR i = true) : -(2 ^ 62) ≤ i ∧ i < 2 ^ 62 := by
  unfold okR at h
  rw [Bool.and_eq_true] at h
  exact ⟨of_decide_eq_true h.1, of_decide_eq_true h.2⟩
def dRng1 (f : DEnv → Option D) : DEnv → Option (List D) := fun ρ => match f ρ with | some (.int j) => if okR j = true then some (dints 0 j.toNat) else none | _ => none
def dRng2 (f f' : DEnv → Option D) : DEnv → Option (List D) := fun ρ => match f ρ with
  | some (.int i) => (match f' ρ with | some (.int j) => if okR i = true ∧ okR j = true then some (dints i (j - i).toNat) else none | _ => none)
  | _ => none
theorem si_rng1 {p : Pos} (hm : X.mg "range" = none) (h : SE X e f) (hg : Gl X "range" := by rfl) (hs : starEach [e] X.env = [(false, eval e X.env)] := by rfl) : SI X tg (.Call (.Name "range" p) [e] [] pos) (dRng1 f) :=
  pi_weak (pi_range1 hg hm (pa_cons h pa_nil (by rw [hs]; rfl)) hs) fun σ H R ⟨ρ, ds, B, H0, V0, Z, e, r, q⟩ => by
    unfold dRng1 at e
    split at e
    · rename_i j he
      split at e
      · rename_i hok
        cases e
        refine ⟨ρ, _, B, H0, V0, Z, he, r, fun v H' s rr => ?_⟩
        obtain rfl := rep_int.mp rr
        exact ⟨j, rfl, (okR_le hok).1, (okR_le hok).2, q _ H' s (walk_rng 0 j.toNat)⟩
      · cases e
    · cases e
theorem si_rng2 {p : Pos} {e' : Expr} {f' : DEnv → Option D} (hm : X.mg "range" = none) (h : SE X e f) (h' : SE X e' f') (hg : Gl X "range" := by rfl) (hs : starEach [e, e'] X.env = [(false, eval e X.env), (false, eval e' X.env)] := by rfl) (hs2 : starEach [e'] X.env = [(false, eval e' X.env)] := by rfl) : SI X tg (.Call (.Name "range" p) [e, e'] [] pos) (dRng2 f f') :=
  pi_weak (pi_range2 hg hm (pa_cons h (pa_cons h' pa_nil (by rw [hs2]; rfl)) (by rw [hs, hs2])) hs hs2) fun σ H R ⟨ρ, ds, B, H0, V0, Z, e, r, q⟩ => by
    unfold dRng2 at e
    split at e
    · rename_i i he
      split at e
      · rename_i j hj
        split at e
        · rename_i hok
          cases e
          refine ⟨ρ, _, B, H0, V0, Z, he, r, fun v H1 s1 r1 => ⟨ρ, _, B, H0, V0, Z, hj, r.mono s1, fun w' H' s rr => ?_⟩⟩
          obtain rfl := rep_int.mp r1
          obtain rfl := rep_int.mp rr
          exact ⟨i, j, rfl, ⟨(okR_le hok.1).1, (okR_le hok.1).2, (okR_le hok.2).1, (okR_le hok.2).2⟩, q _ H' (s1.trans s) (walk_rng i (j - i).toNat)⟩
        · cases e
      · cases e
    · cases e
def capE (cap : List (Option Nat)) (ρ : DEnv) : DEnv := cap.map fun o => o.bind fun j => (ρ[j]?).bind id
def compGo (h : D → DEnv → Option DEnv) (ft : DEnv → Option Bool) (fe : DEnv → Option D) : DEnv → List D → Option (List D)
  | _, [] => some []
  | ρ, d :: ds => match h d ρ with
    | none => none
    | some ρ1 => match ft ρ1 with
      | some true => (match fe ρ1 with
        | some y => (match compGo h ft fe ρ1 ds with | some ys => some (y :: ys) | none => none)
        | none => none)
      | some false => compGo h ft fe ρ1 ds
      | none => none
def dComp (cap : List (Option Nat)) (fi : DEnv → Option (List D)) (h : D → DEnv → Option DEnv) (ft : DEnv → Option Bool) (fe : DEnv → Option D) : DEnv → Option (List D) := fun ρ => match fi ρ with
  | some ds => if ds.length ≤ LIM then compGo h ft fe (capE cap ρ) ds else none
  | none => none
def dTrue : DEnv → Option Bool := fun _ => some true
theorem sr_capt {K : PySem.W.Frag} {B Z : List Addr} {H0 V0 H : Hp} {σ : St} {ρ : DEnv} {cap : List (Option Nat)} (hinj : ∀ (i j k : Nat), cap[i]? = some (some k) → cap[j]? = some (some k) → i = j) (r : SR K B H0 V0 H Z σ ρ) :
    SR K B H0 V0 H Z (capt cap σ) (capE cap ρ) := by
  have get : ∀ {c : Cell} {i : Nat}, (capE cap ρ)[i]? = some (some c) → ∃ j, cap[i]? = some (some j) ∧ ρ[j]? = some (some c) := fun {c i} q => by
    unfold capE at q
    rw [List.getElem?_map] at q
    cases hc : cap[i]? with
    | none => rw [hc] at q; cases q
    | some o =>
      rw [hc] at q
      cases o with
      | none => cases q
      | some j =>
        refine ⟨j, rfl, ?_⟩
        have q' : (ρ[j]?).bind id = some c := Option.some.inj q
        cases hs : ρ[j]? with
        | none => rw [hs] at q'; cases q'
        | some z =>
          rw [hs] at q'
          have : z = some c := q'
          rw [this]
  have put : ∀ {v : V} {i j : Nat}, cap[i]? = some (some j) → σ[j]? = some (some v) → (capt cap σ)[i]? = some (some v) := fun {v i j} h1 h2 => by
    unfold capt
    rw [List.getElem?_map, h1]
    show some ((σ[j]?).bind id) = _
    rw [h2]
    rfl
  have get' : ∀ {v : V} {i j : Nat}, cap[i]? = some (some j) → (capt cap σ)[i]? = some (some v) → σ[j]? = some (some v) := fun {v i j} h1 h2 => by
    unfold capt at h2
    rw [List.getElem?_map, h1] at h2
    have h2' : (σ[j]?).bind id = some v := Option.some.inj h2
    cases hs : σ[j]? with
    | none => rw [hs] at h2'; cases h2'
    | some z =>
      rw [hs] at h2'
      have : z = some v := h2'
      rw [this]
  refine ⟨r.same, r.vis, r.sub, r.zs, fun i d q => ?_, fun i ds q => ?_, fun i j ds es a q1 q2 s1 s2 => ?_, by unfold capt capE; rw [List.length_map, List.length_map]⟩
  · obtain ⟨j, h1, h2⟩ := get q
    obtain ⟨v, t1, t2⟩ := r.sh j d h2
    exact ⟨v, put h1 t1, t2⟩
  · obtain ⟨j, h1, h2⟩ := get q
    obtain ⟨a, xs, t1, t2⟩ := r.own j ds h2
    exact ⟨a, xs, put h1 t1, t2⟩
  · obtain ⟨i', h1, h2⟩ := get q1
    obtain ⟨j', h3, h4⟩ := get q2
    have : i' = j' := r.inj i' j' ds es a h2 h4 (get' h1 s1) (get' h3 s2)
    subst this
    exact hinj i j i' h1 h3
theorem sf_comp {elt target iter : Expr} {ifs : List Expr} {scope : Scope} {N : List Str} {cap : List (Option Nat)} {fi : DEnv → Option (List D)} {h : D → DEnv → Option DEnv} {ft : DEnv → Option Bool} {fe : DEnv → Option D}
    (hc : X.calm = true) (hi : SI X target iter fi)
    (hg : ∀ cl C fp s H, SG (compCx X N scope cl C fp s H) target h) (ht : ∀ cl C fp s H, PIfs (compCx X N scope cl C fp s H) ifs (tT X.K ft)) (he : ∀ cl C fp s H, SE (compCx X N scope cl C fp s H) elt fe)
    (hk : scope.kind = .function) (hcell : ∀ y ∈ scope.names, y.2 ≠ .cell) (hnames : ∀ x ∈ scope.names, x.2 = .local → scope.names.lookup x.1 = some .local)
    (hfr : ∀ x ∈ scope.names, x.2 = .free → scope.names.lookup x.1 = some .free) (hout : ∀ x ∈ scope.names, x.2 = .free → X.env.scope.names.lookup x.1 = some .cell ∨ X.env.scope.names.lookup x.1 = some .free)
    (hcap : ∀ (i j : Nat), cap[i]? = some (some j) → ∃ x, N[i]? = some x ∧ X.N[j]? = some x ∧ scope.names.lookup x = some .free)
    (hlen : cap.length = N.length) (hinj : ∀ (i j k : Nat), cap[i]? = some (some k) → cap[j]? = some (some k) → i = j) (hs : ∀ x, foldedSetIterable iter X.env x = pure x := by intro _; rfl) :
    SF X (.ListComp elt [⟨target, iter, ifs, 0⟩] scope pos) (dComp cap fi h ft fe) :=
  pe_weak (pe_comp (g := tG X.K h) (te := tD X.K fe) hc hi hg ht he hk hcell hnames hfr hout hcap hlen hs) fun σ H Q ⟨ρ, zs, B, H0, V0, Z, e, r, q⟩ => by
    unfold dComp at e
    split at e
    · rename_i ds eds
      split at e
      · rename_i hl
        refine ⟨ρ, ds, B, H0, V0, Z, eds, r, fun J H1 s1 wk l hl1 => ?_⟩
        have R1 := r.mono s1
        have sl : Same H1 (upd H1 l (.lst [])) := same_upd hl1
        have RV : SR X.K B H0 (hide Z H1) H1 Z σ ρ := R1.vis' (fun _ _ h => h)
        have R2' := RV.more hl1 sl upd_same
        have R2 : SR X.K (l :: B) H0 (hide Z H1) (upd H1 l (.lst [])) (l :: Z) (capt cap σ) (capE cap ρ) := sr_capt hinj ⟨R2'.same, R2'.vis, fun b hb => (List.mem_cons.mp hb).elim (fun z => z ▸ List.mem_cons_self) fun z => R2'.sub b z, R2'.zs, R2'.sh, fun j es hj => by
          obtain ⟨a, xs, t1, t2, tb, t3, t4, t5⟩ := RV.own j es hj
          obtain ⟨a', xs', t1', t2', tb', t3', t4', t5'⟩ := R2'.own j es hj
          rw [t1] at t1'
          cases t1'
          refine ⟨a, xs', t1, t2', fun z => ?_, t3', t4', t5'⟩
          rcases List.mem_cons.mp z with z | z
          · rw [z, hl1] at t4; cases t4
          · exact tb z, R2'.inj, R2'.len⟩
        refine ⟨fun i m σ' H' acc => m = ds.length - i ∧ i ≤ ds.length ∧ H' l = some (.lst acc) ∧ Same H1 H' ∧ acc.length ≤ i ∧ ∃ ρ' ys ws, SR X.K (l :: B) H0 (hide Z H1) H' (l :: Z) σ' ρ' ∧ RepL X.K (hide (l :: Z) H') ys acc ∧ compGo h ft fe ρ' (ds.drop i) = some ws ∧ zs = ys ++ ws,
          ⟨_, rfl, Nat.zero_le _, upd_same, sl, Nat.le_refl _, capE cap ρ, [], zs, R2, RepL.nil, e, rfl⟩, ?_⟩
        rintro i m σ' H' acc ⟨rfl, hi', hacc, hS, hal, ρ', ys, ws, r', ry, e', ez⟩
        have vis : Same (hide Z H1) H' := r'.vis.trans hide_sub
        by_cases hlt : i < ds.length
        · refine .inr ⟨wk.go H' vis i hlt, lim_lt (Nat.le_trans hal (Nat.le_trans hi' hl)), fun x H3 hy => ?_⟩
          obtain ⟨sH, hx⟩ := wk.yld H' vis i x H3 hy
          have hd := hx ds[i] (List.getElem?_eq_getElem hlt) (l :: Z) r'.zs r'.vis
          have hacc := sH _ _ hacc
          have hS := hS.trans sH
          have ry := ry.mono (hide_same sH)
          rw [List.drop_eq_getElem_cons hlt] at e'
          unfold compGo at e'
          split at e'
          · cases e'
          · rename_i ρ1 e1
            refine ⟨ρ', ds[i], ρ1, l :: B, H0, hide Z H1, l :: Z, e1, r'.mono sH, hd, fun σ4 r4 => ?_⟩
            split at e'
            · rename_i et
              refine ⟨ρ1, true, l :: B, H0, hide Z H1, l :: Z, et, r4, fun H5 s5 => iteT ?_⟩
              split at e'
              · rename_i y ey
                split at e'
                · rename_i yy eyy
                  cases e'
                  refine ⟨ρ1, y, l :: B, H0, hide Z H1, l :: Z, ey, r4.mono s5, fun v H6 s6 r6 => ⟨s6 _ _ (s5 _ _ hacc), ds.length - (i + 1), by omega, rfl, hlt, upd_same, same_updI hl1 (hS.trans (s5.trans s6)), ?_, ρ1, ys ++ [y], yy, ?_, ?_, eyy, by rw [ez]; simp⟩⟩
                  · rw [List.length_append]; simpa using hal
                  · have R6 := (r4.mono s5).mono s6
                    have vs : Same (hide (l :: Z) H6) (hide (l :: Z) (upd H6 l (.lst (acc ++ [v])))) := hide_upd List.mem_cons_self
                    have nl : H0 l = none := (r.same.trans s1).free hl1
                    refine ⟨same_updI nl R6.same, R6.vis.trans vs, R6.sub, fun z hz => ?_, fun j d hj => let ⟨u, t1, t2⟩ := R6.sh j d hj; ⟨u, t1, t2.mono vs⟩, fun j es hj => ?_, R6.inj, R6.len⟩
                    · by_cases ez' : z = l
                      · subst ez'; exact ⟨_, upd_same⟩
                      · obtain ⟨o', ho'⟩ := R6.zs z hz
                        exact ⟨o', by rw [upd_ne ez']; exact ho'⟩
                    · obtain ⟨a, xs, t1, t2, tb, t3, t4, t5⟩ := R6.own j es hj
                      have na : a ≠ l := fun z => tb (z ▸ List.mem_cons_self)
                      exact ⟨a, xs, t1, t2, tb, t3, by rw [upd_ne na]; exact t4, t5.mono vs⟩
                  · exact RepL.append (ry.mono ((hide_same (s5.trans s6)).trans (hide_upd List.mem_cons_self))) (RepL.one (r6.mono (hide_upd List.mem_cons_self)))
                · cases e'
              · cases e'
            · rename_i et
              exact ⟨ρ1, false, l :: B, H0, hide Z H1, l :: Z, et, r4, fun H5 s5 => iteF ⟨ds.length - (i + 1), by omega, rfl, hlt, s5 _ _ hacc, hS.trans s5, by omega, ρ1, ys, ws, r4.mono s5, ry.mono (hide_same s5), e', ez⟩⟩
            · cases e'
        · have ei : i = ds.length := by omega
          subst ei
          rw [List.drop_length] at e'
          unfold compGo at e'
          cases e'
          rw [List.append_nil] at ez
          subst ez
          exact .inl ⟨wk.stop H' vis, q l acc H' (s1.trans hS) (s1.free hl1) hacc ry⟩
      · cases e
    · cases e
end
end L3
set_option Elab.async false
set_option linter.all false
set_option maxRecDepth 100000
set_option maxHeartbeats 4000000
namespace L3
open PySem PySem.Spec PyProof.Rows L2
def gI (g : Int → Int → Int) : D → D → Option D := fun x y => match x, y with | .int i, .int j => some (.int (g i j)) | _, _ => none
def gB (g : Int → Int → Bool) : D → D → Option D := fun x y => match x, y with | .int i, .int j => some (.bl (g i j)) | _, _ => none
def gIC (C : Int → Int → Bool) (g : Int → Int → Int) : D → D → Option D := fun x y => match x, y with | .int i, .int j => if C i j = true then some (.int (g i j)) else none | _, _ => none
section
variable {K : PySem.W.Frag}
theorem rd_int0 {g : Int → Int → Int} : RdOp K (rI0 fun i j => .int (g i j)) (gI g) := by
  intro x y d e Z H u v Q zs hx hy q
  unfold gI at e
  split at e
  · rename_i i j
    cases e
    obtain rfl := rep_int.mp hx
    obtain rfl := rep_int.mp hy
    exact ⟨i, j, rfl, rfl, q _ H (Same.refl H) (rep_int.mpr rfl)⟩
  · cases e
theorem rd_bl0 {g : Int → Int → Bool} : RdOp K (rI0 fun i j => .bl (g i j)) (gB g) := by
  intro x y d e Z H u v Q zs hx hy q
  unfold gB at e
  split at e
  · rename_i i j
    cases e
    obtain rfl := rep_int.mp hx
    obtain rfl := rep_int.mp hy
    exact ⟨i, j, rfl, rfl, q _ H (Same.refl H) (rep_bl.mpr rfl)⟩
  · cases e
theorem rd_intC {C' : Int → Int → Prop} {C : Int → Int → Bool} {g : Int → Int → Int} (hC : ∀ i j, C i j = true → C' i j) : RdOp K (rI C' fun i j => .int (g i j)) (gIC C g) := by
  intro x y d e Z H u v Q zs hx hy q
  unfold gIC at e
  split at e
  · rename_i i j
    split at e
    · rename_i hc
      cases e
      obtain rfl := rep_int.mp hx
      obtain rfl := rep_int.mp hy
      exact ⟨i, j, rfl, rfl, hC i j hc, q _ H (Same.refl H) (rep_int.mpr rfl)⟩
    · cases e
  · cases e
theorem RdOp.or {r r' : R2} {g g' : D → D → Option D} (h : RdOp K r g) (h' : RdOp K r' g') : RdOp K (fun x y H Q => r x y H Q ∨ r' x y H Q) (fun x y => match g x y with | some d => some d | none => g' x y) := by
  intro x y d e Z H u v Q zs hx hy q
  dsimp only at e
  split at e
  · rename_i d' hd
    cases e
    exact .inl (h x y d hd Z H u v Q zs hx hy q)
  · exact .inr (h' x y d e Z H u v Q zs hx hy q)
end
def dAddI := gI (fun i j => i + j)
def dSubI := gI (fun i j => i - j)
def small64 (i : Int) : Bool := decide (-(2 ^ 64) < i) && decide (i < 2 ^ 64)
def dMulI := gIC (fun i j => small64 i || small64 j) (fun i j => i * j)
def dModI := gIC (fun _ j => decide (0 < j)) (fun i j => i % j)
def dDivI := gIC (fun _ j => decide (0 < j) && decide (j < 1073741824)) (fun i j => i / j)
def dLtI := gB (fun i j => decide (i < j))
def dLeI := gB (fun i j => decide (i ≤ j))
def dGtI := gB (fun i j => decide (j < i))
def dGeI := gB (fun i j => decide (j ≤ i))
section
variable {X : Cx} {a b c : Expr} {fa fb fc : DEnv → Option D} {pos : Pos}
theorem se_sub (ha : SE X a fa) (hb : SE X b fb) : SE X (.BinOp a .Sub b pos) (d2 dSubI fa fb) := se_bin op_sub rd_int0 ha hb
theorem rd_mul {K : PySem.W.Frag} : RdOp K (rI CMul fun i j => .int (i * j)) dMulI := rd_intC (C' := CMul) fun i j h => by
    rw [Bool.or_eq_true] at h
    rcases h with h | h
    · unfold small64 at h
      rw [Bool.and_eq_true] at h
      exact .inl ⟨of_decide_eq_true h.1, of_decide_eq_true h.2⟩
    · unfold small64 at h
      rw [Bool.and_eq_true] at h
      exact .inr ⟨of_decide_eq_true h.1, of_decide_eq_true h.2⟩
theorem se_mod (ha : SE X a fa) (hb : SE X b fb) : SE X (.BinOp a .Mod b pos) (d2 dModI fa fb) := se_bin op_mod (rd_intC fun i j h => of_decide_eq_true h) ha hb
theorem se_div (ha : SE X a fa) (hb : SE X b fb) : SE X (.BinOp a .FloorDiv b pos) (d2 dDivI fa fb) := se_bin op_fdiv (rd_intC (C' := CDiv) fun i j h => by
    rw [Bool.and_eq_true] at h
    exact ⟨of_decide_eq_true h.1, of_decide_eq_true h.2⟩) ha hb
theorem st_gtI (ha : SE X a fa) (hb : SE X b fb) : STt X (.Compare a [.Gt] [b] pos) (dTest (d2 dGtI fa fb)) := st_cmp op_gt rd_bl0 ha hb (nomark _)
end
def dCat : D → D → Option D := fun x y => match x, y with
  | .tup xs, .tup ys => if xs.length + ys.length ≤ LIM then some (.tup (xs ++ ys)) else none
  | .lst xs, .lst ys => if xs.length + ys.length ≤ LIM then some (.lst (xs ++ ys)) else none
  | _, _ => none
def rCatQ (K : PySem.W.Frag) : R2 := fun x y H Q => ∃ a b xs ys, x = .ref a ∧ y = .ref b ∧ SqT K H a xs ∧ SqT K H b ys ∧ xs.length + ys.length ≤ sizeLine ∧
  (xs = [] → Q (.ref b) H) ∧ (xs ≠ [] → ys = [] → Q (.ref a) H) ∧ (xs ≠ [] → ys ≠ [] → ∀ p, H p = none → Q (.ref p) (upd H p (.tup (xs ++ ys))))
def rCatL (K : PySem.W.Frag) : R2 := fun x y H Q => ∃ a b xs ys, x = .ref a ∧ y = .ref b ∧ SqL K H a xs ∧ SqL K H b ys ∧ xs.length + ys.length ≤ sizeLine ∧ ∀ p, H p = none → Q (.ref p) (upd H p (.lst (xs ++ ys)))
section
variable {X : Cx}
theorem op_catQ : OpR X (binaryOp .Add) (rCatQ X.K) := by
  intro pins s σ H x y v u Q I rx ry h
  obtain ⟨a, b, xs, ys, rfl, rfl, ha, hb, hz, q0, q1, q2⟩ := h
  by_cases hx : xs = []
  · cases rx
    cases ry
    obtain ⟨its, r1, p1, _⟩ := I.tuple ha
    obtain ⟨its2, r2, p2, _⟩ := I.tuple hb
    obtain ⟨⟨cls, dd, data, sl⟩, ho, hc, n, hd⟩ := id p1
    obtain ⟨⟨cls2, dd2, data2, sl2⟩, ho2, hc2, n2, hd2⟩ := id p2
    simp only at hc hd hc2 hd2
    subst hc hd hc2 hd2
    have hv : its = [] := r1.nil_iff.mpr hx
    exact concat_meets ⟨_, ho, rfl⟩ ⟨_, ho2, rfl⟩ noFill_tuple_add seq_tuple_add PySem.F.slot_tuple_add PySem.F.entry_tuple_add (PySem.F.args_tuple_add_2 _ _)
      (tuple_addW0 a b its.toArray its2.toArray n n2 dd dd2 sl sl2 (by simp [hv])) ⟨ho, ho2, ⟨.ref b, H, I, rfl, q0 hx⟩⟩
  · exact op_catT pins s σ H _ _ v u Q I rx ry ⟨a, b, xs, ys, rfl, rfl, ha, hb, hx, hz, q1 hx, q2 hx⟩
theorem op_catL : OpR X (binaryOp .Add) (rCatL X.K) := by
  intro pins s σ H x y v u Q I rx ry h
  obtain ⟨l, b, xs, zs, rfl, rfl, hH, hB, hz, q⟩ := h
  cases rx
  cases ry
  obtain ⟨its, r, pl, z⟩ := I.list hH
  obtain ⟨its2, r2, pl2, z2⟩ := I.list hB
  have hl := r.length
  have hl2 := r2.length
  have ea : its.toArray ++ its2.toArray = (its ++ its2).toArray := by simp
  obtain ⟨⟨cls, dd, data, sl⟩, n, ho, hc, hdd, hd⟩ := id pl
  obtain ⟨⟨cls2, dd2, data2, sl2⟩, n2, ho2, hc2, hdd2, hd2⟩ := id pl2
  simp only at hc hd hc2 hd2 hdd hdd2
  subst hc hd hc2 hd2 hdd hdd2
  refine concat_meets ⟨_, ho, rfl⟩ ⟨_, ho2, rfl⟩ noFill_list_add seq_list_add PySem.F.slot_list_add PySem.F.entry_list_add (PySem.F.args_list_add_2 _ _) (list_addW l b its.toArray its2.toArray n n2 none none sl sl2 (by rw [List.size_toArray, List.size_toArray]; omega)) ⟨ho, ho2, ?_⟩
  rw [ea]
  exact ⟨.ref _, _, I.lnew (t' := s.toks) (r.append r2) (by rw [List.length_append]; omega), rfl, q _ I.fresh⟩
theorem rd_cat {K : PySem.W.Frag} : RdOp K (fun x y H Q => rCatQ K x y H Q ∨ rCatL K x y H Q) dCat := by
  intro x y d e Z H u v Q zs hx hy q
  have newer : ∀ {p : Addr}, H p = none → p ∉ Z := fun hp z => by
    obtain ⟨o, ho⟩ := zs _ z
    rw [hp] at ho; cases ho
  unfold dCat at e
  split at e
  · rename_i xs ys
    split at e
    · rename_i hl
      cases e
      obtain ⟨a, us, rfl, h1, h2⟩ := rep_tup.mp hx
      obtain ⟨b, ws, rfl, h3, h4⟩ := rep_tup.mp hy
      refine .inl ⟨a, b, us, ws, rfl, rfl, sqt_same hide_sub h1, sqt_same hide_sub h3, by rw [← h2.length, ← h4.length]; exact lim_le hl, fun z => ?_, fun z1 z2 => ?_, fun z1 z2 p hp => ?_⟩
      · have : xs = [] := List.eq_nil_of_length_eq_zero (by rw [h2.length, z]; rfl)
        subst this
        exact q _ H (Same.refl H) hy
      · have : ys = [] := List.eq_nil_of_length_eq_zero (by rw [h4.length, z2]; rfl)
        subst this
        rw [List.append_nil] at q
        exact q _ H (Same.refl H) hx
      · have sn := same_upd (o := HO.tup (us ++ ws)) hp
        refine q _ _ sn (rep_tup.mpr ⟨p, _, rfl, SqT.of ?_, (RepL.append h2 h4).mono (hide_same sn)⟩)
        rw [hide_out (newer hp)]
        exact upd_same
    · cases e
  · rename_i xs ys
    split at e
    · rename_i hl
      cases e
      obtain ⟨a, us, rfl, h1, h2⟩ := rep_lst.mp hx
      obtain ⟨b, ws, rfl, h3, h4⟩ := rep_lst.mp hy
      refine .inr ⟨a, b, us, ws, rfl, rfl, hide_sub.seq h1, hide_sub.seq h3, by rw [← h2.length, ← h4.length]; exact lim_le hl, fun p hp => ?_⟩
      have sn := same_upd (o := HO.lst (us ++ ws)) hp
      refine q _ _ sn (rep_lst.mpr ⟨p, _, rfl, SqL.of ?_, (RepL.append h2 h4).mono (hide_same sn)⟩)
      rw [hide_out (newer hp)]
      exact upd_same
    · cases e
  · cases e
variable {a b c : Expr} {fa fb fc : DEnv → Option D} {pos : Pos}
def dAdd : D → D → Option D := fun x y => match dAddI x y with | some d => some d | none => dCat x y
theorem se_add (ha : SE X a fa) (hb : SE X b fb) : SE X (.BinOp a .Add b pos) (d2 dAdd fa fb) := se_bin (op_add.or (op_catQ.or op_catL)) (RdOp.or rd_int0 rd_cat) ha hb
def dCatF (fa fb : DEnv → Option (List D)) : DEnv → Option (List D) := fun ρ => match fa ρ with | some xs => (match fb ρ with | some ys => if xs.length + ys.length ≤ LIM then some (xs ++ ys) else none | none => none) | none => none
def intsOf : List D → Option (List Int)
  | [] => some []
  | .int i :: r => (intsOf r).map (i :: ·)
  | _ :: _ => none
theorem intsOf_some : ∀ {ds : List D} {ns : List Int}, intsOf ds = some ns → ds = ns.map D.int
  | [], ns, e => by cases e; rfl
  | .int i :: r, ns, e => by
    unfold intsOf at e
    obtain ⟨ms, h1, rfl⟩ := Option.map_eq_some_iff.mp e
    rw [intsOf_some h1]
    rfl
  | .non :: r, ns, e => by unfold intsOf at e; cases e
  | .bl _ :: r, ns, e => by unfold intsOf at e; cases e
  | .str _ :: r, ns, e => by unfold intsOf at e; cases e
  | .tup _ :: r, ns, e => by unfold intsOf at e; cases e
  | .lst _ :: r, ns, e => by unfold intsOf at e; cases e
  | .dct _ _ :: r, ns, e => by unfold intsOf at e; cases e
theorem intsOf_map (ns : List Int) : intsOf (ns.map D.int) = some ns := by
  induction ns with
  | nil => rfl
  | cons n r ih => rw [List.map_cons, intsOf, ih]; rfl
def dLtT : D → D → Option D := fun x y => match x, y with
  | .tup xs, .tup ys => (match intsOf xs, intsOf ys with | some ns, some ms => some (.bl (HT.lexLt ns ms)) | _, _ => none)
  | _, _ => none
theorem rd_ltT {K : PySem.W.Frag} : RdOp K (rLtT K) dLtT := by
  intro x y d e Z H u v Q zs hx hy q
  unfold dLtT at e
  split at e
  · rename_i xs ys
    split at e
    · rename_i ns ms h1 h2
      cases e
      obtain ⟨a, us, rfl, h3, h4⟩ := rep_tup.mp hx
      obtain ⟨b, ws, rfl, h5, h6⟩ := rep_tup.mp hy
      rw [intsOf_some h1, repl_ints] at h4
      rw [intsOf_some h2, repl_ints] at h6
      subst h4 h6
      exact ⟨a, b, ns, ms, rfl, rfl, sqt_same hide_sub h3, sqt_same hide_sub h5, q _ H (Same.refl H) (rep_bl.mpr rfl)⟩
    · cases e
  · cases e
def dLt : D → D → Option D := fun x y => match dLtI x y with | some d => some d | none => dLtT x y
def vIs (x y : V) : Bool := decide (x = y)
def flatS : V → Bool
  | .non => true
  | .bl _ => true
  | _ => false
def isD : D → D → Option Bool := fun x y => match y with
  | .non => (match x with | .non => some true | _ => some false)
  | .bl b => (match x with | .bl b' => some (b' == b) | _ => some false)
  | _ => none
def dIs : D → D → Option D := fun x y => (isD x y).map D.bl
def dIsN : D → D → Option D := fun x y => (isD x y).map fun b => D.bl (!b)
end
end L3
set_option Elab.async false
set_option linter.all false
set_option maxRecDepth 100000
set_option maxHeartbeats 4000000
namespace L3
open PySem PySem.Spec PyProof.Rows L2 PySem.SeqAt
mutual
def beq : D → D → Bool
  | .non, e => (match e with | .non => true | _ => false)
  | .bl a, e => (match e with | .bl b => a == b | .int j => (if a then (1 : Int) else 0) == j | _ => false)
  | .int i, e => (match e with | .int j => i == j | .bl b => i == (if b then (1 : Int) else 0) | _ => false)
  | .str x, e => (match e with | .str y => x == y | _ => false)
  | .tup xs, e => (match e with | .tup ys => beqL xs ys | _ => false)
  | .lst xs, e => (match e with | .lst ys => beqL xs ys | _ => false)
  | .dct ks xs, e => (match e with | .dct js ys => decide (ks = js) && beqL xs ys | _ => false)
def beqL : List D → List D → Bool
  | [], e => (match e with | [] => true | _ => false)
  | x :: xs, e => (match e with | y :: ys => beq x y && beqL xs ys | [] => false)
end
mutual
def depth : D → Nat
  | .tup xs => depthL xs + 1
  | .lst xs => depthL xs + 1
  | .dct _ xs => depthL xs + 1000
  | _ => 0
def depthL : List D → Nat
  | [] => 0
  | x :: xs => max (depth x) (depthL xs)
end
theorem depth_mem : ∀ {ds : List D} {i : Nat} {d : D}, ds[i]? = some d → depth d ≤ depthL ds
  | [], _, _, e => by simp at e
  | x :: xs, 0, d, e => by simp at e; subst e; rw [depthL]; omega
  | x :: xs, i + 1, d, e => by
    have := depth_mem (ds := xs) (i := i) (d := d) (by simpa using e)
    rw [depthL]; omega
mutual
theorem beq_refl : ∀ d : D, beq d d = true
  | .non => by rw [beq]
  | .bl b => by rw [beq]; exact beq_self_eq_true b
  | .int i => by rw [beq]; exact beq_self_eq_true i
  | .str x => by rw [beq]; exact beq_self_eq_true x
  | .tup xs => by rw [beq]; exact beqL_refl xs
  | .lst xs => by rw [beq]; exact beqL_refl xs
  | .dct ks xs => by rw [beq, beqL_refl xs]; simp
theorem beqL_refl : ∀ ds : List D, beqL ds ds = true
  | [] => by rw [beqL]
  | d :: ds => by rw [beqL, beq_refl d, beqL_refl ds]; rfl
end
theorem beqL_range : ∀ (xs ys : List D), beqL xs ys = ((List.range (min xs.length ys.length)).all (fun j => beq (xs.getD j .non) (ys.getD j .non)) && xs.length == ys.length)
  | [], [] => by rw [beqL]; rfl
  | [], y :: ys => by simp [beqL]
  | x :: xs, [] => by simp [beqL]
  | x :: xs, y :: ys => by
    rw [beqL, beqL_range xs ys]
    have e : min (x :: xs).length (y :: ys).length = min xs.length ys.length + 1 := by simp only [List.length_cons]; omega
    rw [e, List.range_succ_eq_map, List.all_cons, List.all_map]
    have e2 : ((x :: xs).length == (y :: ys).length) = (xs.length == ys.length) := by simp
    rw [e2, Bool.and_assoc]
    rfl
section
variable {X : Cx} {pins : List (Addr × Obj)} {σ : St} {H : Hp} {s : Shared}
theorem rep_not {K : PySem.W.Frag} {d : D} {a : Addr} (h : Rep K H d (.ref a)) : (∃ ds, d = .tup ds) ∨ (∃ ds, d = .lst ds) ∨ ∃ ks ds, d = .dct ks ds := by
  cases d with
  | non => cases rep_non.mp h
  | bl _ => cases rep_bl.mp h
  | int _ => cases rep_int.mp h
  | str _ => cases rep_str.mp h
  | tup ds => exact .inl ⟨ds, rfl⟩
  | lst ds => exact .inr (.inl ⟨ds, rfl⟩)
  | dct ks ds => exact .inr (.inr ⟨ks, ds, rfl⟩)
theorem dct_cls (I : Inv X pins σ H s) {a : Addr} {kvs : List (Key × V)} (h : H a = some (.dK kvs)) : ∃ o, s.heap.get? a = some o ∧ o.cls = .type "dict" := by
  obtain ⟨_, _, vs, _, p⟩ := (show ObjOk X.prog X.w H s.heap a (.dK kvs) from I.hok a _ h)
  obtain ⟨o, es, ep, h1, h2, _⟩ := p
  exact ⟨o, h1, h2.1⟩
theorem no_dt (I : Inv X pins σ H s) {a : Addr} {kvs : List (Key × V)} {xs : List V} (h : H a = some (.dK kvs)) (h' : SqT X.K H a xs) : False := by
  obtain ⟨o, e, c⟩ := dct_cls I h
  obtain ⟨its, _, p, _⟩ := I.tuple h'
  obtain ⟨o', h1, h2, _⟩ := p
  rw [e] at h1
  cases h1
  rw [c] at h2
  revert h2
  simp
theorem no_dl (I : Inv X pins σ H s) {a : Addr} {kvs : List (Key × V)} {xs : List V} (h : H a = some (.dK kvs)) (h' : SqL X.K H a xs) : False := by
  obtain ⟨o, e, c⟩ := dct_cls I h
  obtain ⟨its, _, p, _⟩ := I.list h'
  obtain ⟨o', n, h1, h2, _⟩ := p
  rw [e] at h1
  cases h1
  rw [c] at h2
  revert h2
  simp
theorem no_both (I : Inv X pins σ H s) {a : Addr} {xs ys : List V} (h : SqT X.K H a xs) (h' : SqL X.K H a ys) : False := by
  obtain ⟨its, _, p, _⟩ := I.tuple h
  obtain ⟨its2, _, q, _⟩ := I.list h'
  exact ne_of_list_tuple q.isList p rfl
mutual
theorem rep_inj (I : Inv X pins σ H s) : ∀ {d e : D} {v : V}, Rep X.K H d v → Rep X.K H e v → d = e
  | .non, e, v, h, h' => by
    obtain rfl := rep_non.mp h
    cases e with
    | non => rfl
    | bl _ => cases rep_bl.mp h'
    | int _ => cases rep_int.mp h'
    | str _ => cases rep_str.mp h'
    | tup _ => obtain ⟨_, _, z, _⟩ := rep_tup.mp h'; cases z
    | lst _ => obtain ⟨_, _, z, _⟩ := rep_lst.mp h'; cases z
    | dct _ _ => obtain ⟨_, _, z, _⟩ := rep_dct.mp h'; cases z
  | .bl b, e, v, h, h' => by
    obtain rfl := rep_bl.mp h
    cases e with
    | non => cases rep_non.mp h'
    | bl _ => cases rep_bl.mp h'; rfl
    | int _ => cases rep_int.mp h'
    | str _ => cases rep_str.mp h'
    | tup _ => obtain ⟨_, _, z, _⟩ := rep_tup.mp h'; cases z
    | lst _ => obtain ⟨_, _, z, _⟩ := rep_lst.mp h'; cases z
    | dct _ _ => obtain ⟨_, _, z, _⟩ := rep_dct.mp h'; cases z
  | .int b, e, v, h, h' => by
    obtain rfl := rep_int.mp h
    cases e with
    | non => cases rep_non.mp h'
    | bl _ => cases rep_bl.mp h'
    | int _ => cases rep_int.mp h'; rfl
    | str _ => cases rep_str.mp h'
    | tup _ => obtain ⟨_, _, z, _⟩ := rep_tup.mp h'; cases z
    | lst _ => obtain ⟨_, _, z, _⟩ := rep_lst.mp h'; cases z
    | dct _ _ => obtain ⟨_, _, z, _⟩ := rep_dct.mp h'; cases z
  | .str b, e, v, h, h' => by
    obtain rfl := rep_str.mp h
    cases e with
    | non => cases rep_non.mp h'
    | bl _ => cases rep_bl.mp h'
    | int _ => cases rep_int.mp h'
    | str _ => cases rep_str.mp h'; rfl
    | tup _ => obtain ⟨_, _, z, _⟩ := rep_tup.mp h'; cases z
    | lst _ => obtain ⟨_, _, z, _⟩ := rep_lst.mp h'; cases z
    | dct _ _ => obtain ⟨_, _, z, _⟩ := rep_dct.mp h'; cases z
  | .tup ds, e, v, h, h' => by
    obtain ⟨a, xs, rfl, h1, h2⟩ := rep_tup.mp h
    rcases rep_not h' with ⟨es, rfl⟩ | ⟨es, rfl⟩ | ⟨ks, es, rfl⟩
    · obtain ⟨b, ys, z, h3, h4⟩ := rep_tup.mp h'
      cases z
      have := I.tuple_inj h1 h3
      subst this
      rw [repl_inj I h2 h4]
    · obtain ⟨b, ys, z, h3, h4⟩ := rep_lst.mp h'
      cases z
      exact (no_both I h1 h3).elim
    · obtain ⟨b, ys, z, h3, h4⟩ := rep_dct.mp h'
      cases z
      exact (no_dt I h3 h1).elim
  | .lst ds, e, v, h, h' => by
    obtain ⟨a, xs, rfl, h1, h2⟩ := rep_lst.mp h
    rcases rep_not h' with ⟨es, rfl⟩ | ⟨es, rfl⟩ | ⟨ks, es, rfl⟩
    · obtain ⟨b, ys, z, h3, h4⟩ := rep_tup.mp h'
      cases z
      exact (no_both I h3 h1).elim
    · obtain ⟨b, ys, z, h3, h4⟩ := rep_lst.mp h'
      cases z
      have := I.list_inj h1 h3
      subst this
      rw [repl_inj I h2 h4]
    · obtain ⟨b, ys, z, h3, h4⟩ := rep_dct.mp h'
      cases z
      exact (no_dl I h3 h1).elim
  | .dct ks ds, e, v, h, h' => by
    obtain ⟨a, kvs, rfl, h1, h2, h2'⟩ := rep_dct.mp h
    rcases rep_not h' with ⟨es, rfl⟩ | ⟨es, rfl⟩ | ⟨js, es, rfl⟩
    · obtain ⟨b, ys, z, h3, h4⟩ := rep_tup.mp h'
      cases z
      exact (no_dt I h1 h3).elim
    · obtain ⟨b, ys, z, h3, h4⟩ := rep_lst.mp h'
      cases z
      exact (no_dl I h1 h3).elim
    · obtain ⟨b, ys, z, h3, h4, h5⟩ := rep_dct.mp h'
      cases z
      rw [h1] at h3
      cases h3
      rw [← h2, ← h4, repl_inj I h2' h5]
theorem repl_inj (I : Inv X pins σ H s) : ∀ {ds es : List D} {xs : List V}, RepL X.K H ds xs → RepL X.K H es xs → ds = es
  | [], es, xs, h, h' => by
    obtain rfl := repl_nil.mp h
    cases es with
    | nil => rfl
    | cons e es => obtain ⟨_, _, z, _⟩ := repl_cons.mp h'; cases z
  | d :: ds, es, xs, h, h' => by
    obtain ⟨v, vs, rfl, h1, h2⟩ := repl_cons.mp h
    cases es with
    | nil => cases repl_nil.mp h'
    | cons e es =>
      obtain ⟨v', vs', z, h3, h4⟩ := repl_cons.mp h'
      cases z
      rw [rep_inj I h1 h3, repl_inj I h2 h4]
end
theorem getD_at {α : Type} {xs : List α} {j : Nat} {d x : α} (h : xs[j]? = some x) : xs.getD j d = x := by
  rw [List.getD_eq_getElem?_getD, h]; rfl
theorem eq_flat (I : Inv X pins σ H s) {A : Around} (h0 : A.units < cLine) {d e : D} {x y : V} {u v : Value} (hd : depth d = 0) (he : depth e < 1000) (hx : Rep X.K H d x) (hy : Rep X.K H e y) (rx : RelV x u) (ry : RelV y v) :
    EqAt A s u v (beq d e) ∧ RcAt A s u v (beq d e) ∧ RcNeAt A s u v (!beq d e) := by
  cases d with
  | tup xs => rw [depth] at hd; omega
  | lst xs => rw [depth] at hd; omega
  | dct _ xs => rw [depth] at hd; omega
  | non =>
    obtain rfl := rep_non.mp hx
    cases rx
    cases e with
    | non => obtain rfl := rep_non.mp hy; cases ry; exact ⟨EqAt.same _, RcAt.none_none, RcNeAt.none_none⟩
    | bl b => obtain rfl := rep_bl.mp hy; cases ry; exact ⟨EqAt.none_bool b, RcAt.none_bool b, RcNeAt.none_bool b⟩
    | int j => obtain rfl := rep_int.mp hy; obtain ⟨t, rfl⟩ := ry; exact ⟨EqAt.none_int j t, RcAt.none_int j t, RcNeAt.none_int j t⟩
    | str z => obtain rfl := rep_str.mp hy; obtain ⟨t, rfl⟩ := ry; exact ⟨EqAt.none_str z t, RcAt.none_str z t, RcNeAt.none_str z t⟩
    | tup ys => obtain ⟨b, zs, rfl, h1, _⟩ := rep_tup.mp hy; cases ry; obtain ⟨its, _, p, _⟩ := I.tuple h1; exact ⟨EqAt.none_tuple p h0, RcAt.none_tuple p h0, RcNeAt.none_tuple p h0⟩
    | lst ys => obtain ⟨b, zs, rfl, h1, _⟩ := rep_lst.mp hy; cases ry; obtain ⟨its, _, p, _⟩ := I.list h1; exact ⟨EqAt.none_list p.isList h0, RcAt.none_list p.isList h0, RcNeAt.none_list p.isList h0⟩
    | dct _ ys => rw [depth] at he; omega
  | bl a =>
    obtain rfl := rep_bl.mp hx
    cases rx
    cases e with
    | non => obtain rfl := rep_non.mp hy; cases ry; exact ⟨EqAt.bool_none a, RcAt.bool_none a, RcNeAt.bool_none a⟩
    | bl b => obtain rfl := rep_bl.mp hy; cases ry; exact ⟨EqAt.bool_bool a b, RcAt.bool_bool a b, RcNeAt.bool_bool a b⟩
    | int j => obtain rfl := rep_int.mp hy; obtain ⟨t, rfl⟩ := ry; exact ⟨EqAt.bool_int a j t, RcAt.bool_int a j t, RcNeAt.bool_int a j t⟩
    | str z => obtain rfl := rep_str.mp hy; obtain ⟨t, rfl⟩ := ry; exact ⟨EqAt.bool_str a z t, RcAt.bool_str a z t, RcNeAt.bool_str a z t⟩
    | tup ys => obtain ⟨b, zs, rfl, h1, _⟩ := rep_tup.mp hy; cases ry; obtain ⟨its, _, p, _⟩ := I.tuple h1; exact ⟨EqAt.bool_tuple a p h0, RcAt.bool_tuple a p h0, RcNeAt.bool_tuple a p h0⟩
    | lst ys => obtain ⟨b, zs, rfl, h1, _⟩ := rep_lst.mp hy; cases ry; obtain ⟨its, _, p, _⟩ := I.list h1; exact ⟨EqAt.bool_list a p.isList h0, RcAt.bool_list a p.isList h0, RcNeAt.bool_list a p.isList h0⟩
    | dct _ ys => rw [depth] at he; omega
  | int i =>
    obtain rfl := rep_int.mp hx
    obtain ⟨t0, rfl⟩ := rx
    cases e with
    | non => obtain rfl := rep_non.mp hy; cases ry; exact ⟨EqAt.int_none i t0, RcAt.int_none i t0, RcNeAt.int_none i t0⟩
    | bl b => obtain rfl := rep_bl.mp hy; cases ry; exact ⟨EqAt.int_bool i t0 b, RcAt.int_bool i t0 b, RcNeAt.int_bool i t0 b⟩
    | int j => obtain rfl := rep_int.mp hy; obtain ⟨t, rfl⟩ := ry; exact ⟨EqAt.int_int i t0 j t, RcAt.int_int i t0 j t, RcNeAt.int_int i t0 j t⟩
    | str z => obtain rfl := rep_str.mp hy; obtain ⟨t, rfl⟩ := ry; exact ⟨EqAt.int_str i t0 z t, RcAt.int_str i t0 z t, RcNeAt.int_str i t0 z t⟩
    | tup ys => obtain ⟨b, zs, rfl, h1, _⟩ := rep_tup.mp hy; cases ry; obtain ⟨its, _, p, _⟩ := I.tuple h1; exact ⟨EqAt.int_tuple i t0 p h0, RcAt.int_tuple i t0 p h0, RcNeAt.int_tuple i t0 p h0⟩
    | lst ys => obtain ⟨b, zs, rfl, h1, _⟩ := rep_lst.mp hy; cases ry; obtain ⟨its, _, p, _⟩ := I.list h1; exact ⟨EqAt.int_list i t0 p.isList h0, RcAt.int_list i t0 p.isList h0, RcNeAt.int_list i t0 p.isList h0⟩
    | dct _ ys => rw [depth] at he; omega
  | str w' =>
    obtain rfl := rep_str.mp hx
    obtain ⟨t0, rfl⟩ := rx
    cases e with
    | non => obtain rfl := rep_non.mp hy; cases ry; exact ⟨EqAt.str_none w' t0, RcAt.str_none w' t0, RcNeAt.str_none w' t0⟩
    | bl b => obtain rfl := rep_bl.mp hy; cases ry; exact ⟨EqAt.str_bool w' t0 b, RcAt.str_bool w' t0 b, RcNeAt.str_bool w' t0 b⟩
    | int j => obtain rfl := rep_int.mp hy; obtain ⟨t, rfl⟩ := ry; exact ⟨EqAt.str_int w' t0 j t, RcAt.str_int w' t0 j t, RcNeAt.str_int w' t0 j t⟩
    | str z => obtain rfl := rep_str.mp hy; obtain ⟨t, rfl⟩ := ry; exact ⟨EqAt.str_str w' t0 z t, RcAt.str_str w' t0 z t, RcNeAt.str_str w' t0 z t⟩
    | tup ys => obtain ⟨b, zs, rfl, h1, _⟩ := rep_tup.mp hy; cases ry; obtain ⟨its, _, p, _⟩ := I.tuple h1; exact ⟨EqAt.str_tuple w' t0 p h0, RcAt.str_tuple w' t0 p h0, RcNeAt.str_tuple w' t0 p h0⟩
    | lst ys => obtain ⟨b, zs, rfl, h1, _⟩ := rep_lst.mp hy; cases ry; obtain ⟨its, _, p, _⟩ := I.list h1; exact ⟨EqAt.str_list w' t0 p.isList h0, RcAt.str_list w' t0 p.isList h0, RcNeAt.str_list w' t0 p.isList h0⟩
    | dct _ ys => rw [depth] at he; omega
theorem eq_both (I : Inv X pins σ H s) : ∀ (n : Nat) (A : Around), A.units + n < cLine → n < 1000 → ∀ {d e : D} {x y : V} {u v : Value}, depth d ≤ n → depth e < 1000 → Rep X.K H d x → Rep X.K H e y → RelV x u → RelV y v →
    EqAt A s u v (beq d e) ∧ RcAt A s u v (beq d e) ∧ RcNeAt A s u v (!beq d e) := by
  intro n
  induction n with
  | zero =>
    intro A hu hn d e x y u v hd he hx hy rx ry
    exact eq_flat I (by omega) (by omega) he hx hy rx ry
  | succ n ih =>
    intro A hu hn d e x y u v hd he hx hy rx ry
    have h0 : A.units < cLine := by omega
    have h1' : A.in1.units + n < cLine := by show A.units + 1 + n < cLine; omega
    by_cases hd0 : depth d = 0
    · exact eq_flat I h0 hd0 he hx hy rx ry
    · cases d with
      | non => exact absurd (by simp [depth]) hd0
      | bl _ => exact absurd (by simp [depth]) hd0
      | int _ => exact absurd (by simp [depth]) hd0
      | str _ => exact absurd (by simp [depth]) hd0
      | dct _ xs => rw [depth] at hd; omega
      | tup xs =>
        obtain ⟨a, us, rfl, h1, h2⟩ := rep_tup.mp hx
        cases rx
        obtain ⟨its, rv, p, _⟩ := I.tuple h1
        rw [depth] at hd
        cases e with
        | dct _ ys => rw [depth] at he; omega
        | non => obtain rfl := rep_non.mp hy; cases ry; exact ⟨EqAt.tuple_none p h0, RcAt.tuple_none p h0, RcNeAt.tuple_none p h0⟩
        | bl b => obtain rfl := rep_bl.mp hy; cases ry; exact ⟨EqAt.tuple_bool b p h0, RcAt.tuple_bool b p h0, RcNeAt.tuple_bool b p h0⟩
        | int j => obtain rfl := rep_int.mp hy; obtain ⟨t, rfl⟩ := ry; exact ⟨EqAt.tuple_int j t p h0, RcAt.tuple_int j t p h0, RcNeAt.tuple_int j t p h0⟩
        | str z => obtain rfl := rep_str.mp hy; obtain ⟨t, rfl⟩ := ry; exact ⟨EqAt.tuple_str z t p h0, RcAt.tuple_str z t p h0, RcNeAt.tuple_str z t p h0⟩
        | lst ys =>
          obtain ⟨b, zs, rfl, g1, _⟩ := rep_lst.mp hy
          cases ry
          obtain ⟨its2, _, p2, _⟩ := I.list g1
          exact ⟨EqAt.tuple_list p p2.isList h0, RcAt.tuple_list p p2.isList h0, RcNeAt.tuple_list p p2.isList h0⟩
        | tup ys =>
          obtain ⟨b, zs, rfl, g1, g2⟩ := rep_tup.mp hy
          cases ry
          obtain ⟨its2, rv2, p2, _⟩ := I.tuple g1
          have l1 : its.toArray.size = xs.length := by rw [List.size_toArray, ← rv.length, ← h2.length]
          have l2 : its2.toArray.size = ys.length := by rw [List.size_toArray, ← rv2.length, ← g2.length]
          have items : ∀ j (k1 : j < its.toArray.size) (k2 : j < its2.toArray.size), EqAt A.in1 s its.toArray[j] its2.toArray[j] (beq (xs.getD j .non) (ys.getD j .non)) := fun j k1 k2 => by
            have k1' : j < xs.length := by omega
            have k2' : j < ys.length := by omega
            obtain ⟨vj, e1, r1⟩ := h2.get (List.getElem?_eq_getElem k1')
            obtain ⟨wj, e2, r2⟩ := g2.get (List.getElem?_eq_getElem k2')
            obtain ⟨uj, f1, s1⟩ := rv.get e1
            obtain ⟨tj, f2, s2⟩ := rv2.get e2
            have z1 : its.toArray[j] = uj := by
              rw [List.getElem?_eq_getElem (by rw [List.size_toArray] at k1; exact k1)] at f1
              simpa using f1
            have z2 : its2.toArray[j] = tj := by
              rw [List.getElem?_eq_getElem (by rw [List.size_toArray] at k2; exact k2)] at f2
              simpa using f2
            rw [z1, z2, getD_at (List.getElem?_eq_getElem k1'), getD_at (List.getElem?_eq_getElem k2')]
            have dd := depth_mem (List.getElem?_eq_getElem k1')
            have de := depth_mem (List.getElem?_eq_getElem k2')
            rw [depth] at he
            exact (ih A.in1 h1' (by omega) (by omega) (by omega) r1 r2 s1 s2).1
          have eb : beq (.tup xs) (.tup ys) = ((List.range (min its.toArray.size its2.toArray.size)).all (fun j => beq (xs.getD j .non) (ys.getD j .non)) && its.toArray.size == its2.toArray.size) := by
            rw [beq, beqL_range, l1, l2]
          have rc : RcAt A s (.ref a) (.ref b) (beq (.tup xs) (.tup ys)) := by
            rw [eb]
            exact RcAt.tuples p p2 h0 items
          have rn : RcNeAt A s (.ref a) (.ref b) (!beq (.tup xs) (.tup ys)) := by
            rw [eb]
            exact RcNeAt.tuples p p2 h0 items
          refine ⟨?_, rc, rn⟩
          by_cases hab : a = b
          · subst hab
            rw [rep_inj I hx hy, beq_refl]
            exact EqAt.same _
          · exact EqAt.of_refs hab rc
      | lst xs =>
        obtain ⟨a, us, rfl, h1, h2⟩ := rep_lst.mp hx
        cases rx
        obtain ⟨its, rv, p, _⟩ := I.list h1
        rw [depth] at hd
        cases e with
        | dct _ ys => rw [depth] at he; omega
        | non => obtain rfl := rep_non.mp hy; cases ry; exact ⟨EqAt.list_none p.isList h0, RcAt.list_none p.isList h0, RcNeAt.list_none p.isList h0⟩
        | bl b => obtain rfl := rep_bl.mp hy; cases ry; exact ⟨EqAt.list_bool b p.isList h0, RcAt.list_bool b p.isList h0, RcNeAt.list_bool b p.isList h0⟩
        | int j => obtain rfl := rep_int.mp hy; obtain ⟨t, rfl⟩ := ry; exact ⟨EqAt.list_int j t p.isList h0, RcAt.list_int j t p.isList h0, RcNeAt.list_int j t p.isList h0⟩
        | str z => obtain rfl := rep_str.mp hy; obtain ⟨t, rfl⟩ := ry; exact ⟨EqAt.list_str z t p.isList h0, RcAt.list_str z t p.isList h0, RcNeAt.list_str z t p.isList h0⟩
        | tup ys =>
          obtain ⟨b, zs, rfl, g1, _⟩ := rep_tup.mp hy
          cases ry
          obtain ⟨its2, _, p2, _⟩ := I.tuple g1
          exact ⟨EqAt.list_tuple p.isList p2 h0, RcAt.list_tuple p.isList p2 h0, RcNeAt.list_tuple p.isList p2 h0⟩
        | lst ys =>
          obtain ⟨b, zs, rfl, g1, g2⟩ := rep_lst.mp hy
          cases ry
          obtain ⟨its2, rv2, p2, _⟩ := I.list g1
          have l1 : its.toArray.size = xs.length := by rw [List.size_toArray, ← rv.length, ← h2.length]
          have l2 : its2.toArray.size = ys.length := by rw [List.size_toArray, ← rv2.length, ← g2.length]
          have items : ∀ j (k1 : j < its.toArray.size) (k2 : j < its2.toArray.size), EqAt A.in1 s its.toArray[j] its2.toArray[j] (beq (xs.getD j .non) (ys.getD j .non)) := fun j k1 k2 => by
            have k1' : j < xs.length := by omega
            have k2' : j < ys.length := by omega
            obtain ⟨vj, e1, r1⟩ := h2.get (List.getElem?_eq_getElem k1')
            obtain ⟨wj, e2, r2⟩ := g2.get (List.getElem?_eq_getElem k2')
            obtain ⟨uj, f1, s1⟩ := rv.get e1
            obtain ⟨tj, f2, s2⟩ := rv2.get e2
            have z1 : its.toArray[j] = uj := by
              rw [List.getElem?_eq_getElem (by rw [List.size_toArray] at k1; exact k1)] at f1
              simpa using f1
            have z2 : its2.toArray[j] = tj := by
              rw [List.getElem?_eq_getElem (by rw [List.size_toArray] at k2; exact k2)] at f2
              simpa using f2
            rw [z1, z2, getD_at (List.getElem?_eq_getElem k1'), getD_at (List.getElem?_eq_getElem k2')]
            have dd := depth_mem (List.getElem?_eq_getElem k1')
            have de := depth_mem (List.getElem?_eq_getElem k2')
            rw [depth] at he
            exact (ih A.in1 h1' (by omega) (by omega) (by omega) r1 r2 s1 s2).1
          have both : RcAt A s (.ref a) (.ref b) (beq (.lst xs) (.lst ys)) ∧ RcNeAt A s (.ref a) (.ref b) (!beq (.lst xs) (.lst ys)) := by
            by_cases hl : its.toArray.size = its2.toArray.size
            · have eb : beq (.lst xs) (.lst ys) = ((List.range its.toArray.size).all (fun j => beq (xs.getD j .non) (ys.getD j .non))) := by
                rw [beq, beqL_range]
                have : xs.length = ys.length := by omega
                rw [l1, this, Nat.min_self]
                simp
              rw [eb]
              exact ⟨RcAt.lists p.isList p2.isList hl h0 items, RcNeAt.lists p.isList p2.isList hl h0 items⟩
            · have eb : beq (.lst xs) (.lst ys) = false := by
                rw [beq, beqL_range]
                have : (xs.length == ys.length) = false := by simp; omega
                rw [this, Bool.and_false]
              rw [eb]
              exact ⟨RcAt.lists_lengths p.isList p2.isList (by simpa using hl) h0, RcNeAt.lists_lengths p.isList p2.isList (by simpa using hl) h0⟩
          refine ⟨?_, both⟩
          by_cases hab : a = b
          · subst hab
            rw [rep_inj I hx hy, beq_refl]
            exact EqAt.same _
          · exact EqAt.of_refs hab both.1
end
end L3
set_option Elab.async false
set_option linter.all false
set_option maxRecDepth 100000
set_option maxHeartbeats 4000000
namespace L3
open PySem PySem.Spec PyProof.Rows L2 PySem.SeqAt
def DEEP : Nat := 60
def rEqD (K : PySem.W.Frag) : R2 := fun x y H Q => ∃ d e, depth d ≤ DEEP ∧ depth e ≤ DEEP ∧ Rep K H d x ∧ Rep K H e y ∧ Q (.bl (beq d e)) H
def rNeD (K : PySem.W.Frag) : R2 := fun x y H Q => ∃ d e, depth d ≤ DEEP ∧ depth e ≤ DEEP ∧ Rep K H d x ∧ Rep K H e y ∧ Q (.bl (!beq d e)) H
def dEq : D → D → Option D := fun x y => if depth x ≤ DEEP ∧ depth y ≤ DEEP then some (.bl (beq x y)) else none
def dNe : D → D → Option D := fun x y => if depth x ≤ DEEP ∧ depth y ≤ DEEP then some (.bl (!beq x y)) else none
section
variable {X : Cx} {a b c : Expr} {fa fb fc : DEnv → Option D} {pos : Pos}
theorem op_eqD (hu : X.A.units + 64 < cLine) : OpR X (compareOp .Eq) (rEqD X.K) := by
  intro pins s σ H x y v u Q I rx ry h
  obtain ⟨d, e, hd, he, hx, hy, q⟩ := h
  have he' : depth e < 1000 := Nat.lt_of_le_of_lt he (by unfold DEEP; decide)
  exact (eq_both I DEEP X.A (by unfold DEEP; omega) (by unfold DEEP; decide) hd he' hx hy rx ry).2.1 X.prog X.w X.xe _ ⟨.bl _, H, I, rfl, q⟩
theorem op_neD (hu : X.A.units + 64 < cLine) : OpR X (compareOp .NotEq) (rNeD X.K) := by
  intro pins s σ H x y v u Q I rx ry h
  obtain ⟨d, e, hd, he, hx, hy, q⟩ := h
  have he' : depth e < 1000 := Nat.lt_of_le_of_lt he (by unfold DEEP; decide)
  exact (eq_both I DEEP X.A (by unfold DEEP; omega) (by unfold DEEP; decide) hd he' hx hy rx ry).2.2 X.prog X.w X.xe _ ⟨.bl _, H, I, rfl, q⟩
theorem rd_eqD {K : PySem.W.Frag} : RdOp K (rEqD K) dEq := by
  intro x y d e Z H u v Q zs hx hy q
  unfold dEq at e
  split at e
  · rename_i h
    cases e
    exact ⟨x, y, h.1, h.2, hx.mono hide_sub, hy.mono hide_sub, q _ H (Same.refl H) (rep_bl.mpr rfl)⟩
  · cases e
theorem rd_neD {K : PySem.W.Frag} : RdOp K (rNeD K) dNe := by
  intro x y d e Z H u v Q zs hx hy q
  unfold dNe at e
  split at e
  · rename_i h
    cases e
    exact ⟨x, y, h.1, h.2, hx.mono hide_sub, hy.mono hide_sub, q _ H (Same.refl H) (rep_bl.mpr rfl)⟩
  · cases e
theorem se_eq (hu : X.A.units + 64 < cLine) (ha : SE X a fa) (hb : SE X b fb) : SE X (.Compare a [.Eq] [b] pos) (d2 dEq fa fb) := se_cmp (op_eqD hu) rd_eqD ha hb (nomark _)
theorem st_eq (hu : X.A.units + 64 < cLine) (ha : SE X a fa) (hb : SE X b fb) : STt X (.Compare a [.Eq] [b] pos) (dTest (d2 dEq fa fb)) := st_cmp (op_eqD hu) rd_eqD ha hb (nomark _)
theorem st_ne (hu : X.A.units + 64 < cLine) (ha : SE X a fa) (hb : SE X b fb) : STt X (.Compare a [.NotEq] [b] pos) (dTest (d2 dNe fa fb)) := st_cmp (op_neD hu) rd_neD ha hb (nomark _)
def inD (x : D) (ds : List D) : Bool := ds.any fun y => beq y x
def rInD (K : PySem.W.Frag) (neg : Bool) : R2 := fun x y H Q => ∃ d ds p xs, depthL ds ≤ DEEP ∧ depth d ≤ DEEP ∧ Rep K H d x ∧ y = .ref p ∧ (SqL K H p xs ∨ SqT K H p xs) ∧ RepL K H ds xs ∧ Q (.bl (if neg then !inD d ds else inD d ds)) H
open Classical in
noncomputable def inE (ds : List D) (its : List Value) (x : D) (u : Value) : Bool := if ∃ (j : Nat) (d : D), its[j]? = some u ∧ ds[j]? = some d ∧ beq d x = true then true else false
theorem inE_at {pins : List (Addr × Obj)} {σ : St} {H : Hp} {s : Shared} (I : Inv X pins σ H s) {ds : List D} {xs : List V} {its : List Value} {x d : D} {u : Value} {j : Nat} (hr : RepL X.K H ds xs) (rv : Vals xs its) (h1 : its[j]? = some u) (h2 : ds[j]? = some d) : inE ds its x u = beq d x := by
  unfold inE
  have uniq : ∀ (i : Nat) (e : D), its[i]? = some u → ds[i]? = some e → e = d := fun i e g1 g2 => by
    obtain ⟨v, e1, r1⟩ := hr.get g2
    obtain ⟨w', e2, r2⟩ := hr.get h2
    obtain ⟨u1, f1, s1⟩ := rv.get e1
    obtain ⟨u2, f2, s2⟩ := rv.get e2
    rw [g1] at f1
    cases f1
    rw [h1] at f2
    cases f2
    have : v = w' := s1.inj s2
    subst this
    exact rep_inj I r1 r2
  by_cases hb : beq d x = true
  · rw [if_pos ⟨j, d, h1, h2, hb⟩, hb]
  · rw [if_neg ?_]
    · exact (Bool.eq_false_iff.mpr hb).symm
    · rintro ⟨i, e, g1, g2, g3⟩
      rw [uniq i e g1 g2] at g3
      exact hb g3
theorem any_inE {pins : List (Addr × Obj)} {σ : St} {H : Hp} {s : Shared} (I : Inv X pins σ H s) {ds : List D} {xs : List V} {its : List Value} {x : D} (hr : RepL X.K H ds xs) (rv : Vals xs its) : its.any (inE ds its x) = inD x ds := by
  have hl1 := hr.length
  have hl2 := rv.length
  rw [Bool.eq_iff_iff]
  unfold inD
  rw [List.any_eq_true, List.any_eq_true]
  constructor
  · rintro ⟨u, hu, e⟩
    obtain ⟨j, hj, rfl⟩ := List.mem_iff_getElem.mp hu
    have h2 : ds[j]? = some ds[j] := List.getElem?_eq_getElem (by omega)
    rw [inE_at I hr rv (List.getElem?_eq_getElem hj) h2] at e
    exact ⟨ds[j], List.getElem_mem _, e⟩
  · rintro ⟨d, hd, e⟩
    obtain ⟨j, hj, rfl⟩ := List.mem_iff_getElem.mp hd
    have h1 : its[j]? = some its[j] := List.getElem?_eq_getElem (by omega)
    refine ⟨its[j], List.getElem_mem _, ?_⟩
    rw [inE_at I hr rv h1 (List.getElem?_eq_getElem hj)]
    exact e
theorem mem_inE {pins : List (Addr × Obj)} {σ : St} {H : Hp} {s : Shared} (I : Inv X pins σ H s) (hu : X.A.units + 64 < cLine) {ds : List D} {xs : List V} {its : List Value} {x : D} {xv : V} {v : Value} (hr : RepL X.K H ds xs) (rv : Vals xs its) (hd : depthL ds ≤ DEEP) (hd' : depth x ≤ DEEP)
    (hx : Rep X.K H x xv) (rx : RelV xv v) : ∀ w' ∈ its.toArray, EqAt X.A.in1 s w' v (inE ds its x w') := fun w' hw => by
  have hl1 := hr.length
  have hl2 := rv.length
  have hw' : w' ∈ its := by simpa using hw
  obtain ⟨j, hj, rfl⟩ := List.mem_iff_getElem.mp hw'
  have h2 : ds[j]? = some ds[j] := List.getElem?_eq_getElem (by omega)
  have h1 : its[j]? = some its[j] := List.getElem?_eq_getElem hj
  rw [inE_at I hr rv h1 h2]
  obtain ⟨z, e1, r1⟩ := hr.get h2
  obtain ⟨u1, f1, s1⟩ := rv.get e1
  rw [h1] at f1
  cases f1
  have dd := depth_mem h2
  exact (eq_both I DEEP X.A.in1 (by show X.A.units + 1 + DEEP < cLine; unfold DEEP; omega) (by unfold DEEP; decide) (by omega) (Nat.lt_of_le_of_lt hd' (by unfold DEEP; decide)) r1 hx s1 rx).1
theorem op_inD (hu : X.A.units + 64 < cLine) : OpR X (compareOp .In) (rInD X.K false) := by
  intro pins s σ H x y v u Q I rx ry h
  obtain ⟨d, ds, p, xs, hd, hd', hx, rfl, hq, hr, q⟩ := h
  cases ry
  rcases hq with hq | hq
  · obtain ⟨its, rv, pl, _⟩ := I.list hq
    refine SeqAt.in_listAt (inE ds its d) pl.isList (mem_inE I hu hr rv hd hd' hx rx) ⟨.bl _, H, I, rfl, ?_⟩
    rw [show its.toArray.any (inE ds its d) = its.any (inE ds its d) by simp, any_inE I hr rv]
    exact q
  · obtain ⟨its, rv, pl, _⟩ := I.tuple hq
    refine SeqAt.in_tupleAt (inE ds its d) pl (mem_inE I hu hr rv hd hd' hx rx) ⟨.bl _, H, I, rfl, ?_⟩
    rw [show its.toArray.any (inE ds its d) = its.any (inE ds its d) by simp, any_inE I hr rv]
    exact q
theorem op_notInD (hu : X.A.units + 64 < cLine) : OpR X (compareOp .NotIn) (rInD X.K true) := by
  intro pins s σ H x y v u Q I rx ry h
  obtain ⟨d, ds, p, xs, hd, hd', hx, rfl, hq, hr, q⟩ := h
  cases ry
  rcases hq with hq | hq
  · obtain ⟨its, rv, pl, _⟩ := I.list hq
    refine SeqAt.notIn_listAt (inE ds its d) pl.isList (mem_inE I hu hr rv hd hd' hx rx) ⟨.bl _, H, I, rfl, ?_⟩
    rw [show its.toArray.any (inE ds its d) = its.any (inE ds its d) by simp, any_inE I hr rv]
    exact q
  · obtain ⟨its, rv, pl, _⟩ := I.tuple hq
    refine SeqAt.notIn_tupleAt (inE ds its d) pl (mem_inE I hu hr rv hd hd' hx rx) ⟨.bl _, H, I, rfl, ?_⟩
    rw [show its.toArray.any (inE ds its d) = its.any (inE ds its d) by simp, any_inE I hr rv]
    exact q
def dIn (neg : Bool) (fa : DEnv → Option D) (fb : DEnv → Option (List D)) : DEnv → Option D := fun ρ => match fa ρ with
  | some x => (match fb ρ with | some ds => if depthL ds ≤ DEEP ∧ depth x ≤ DEEP then some (.bl (if neg then !inD x ds else inD x ds)) else none | none => none)
  | none => none
theorem in_imp {K : PySem.W.Frag} {neg : Bool} {fb : DEnv → Option (List D)} : ∀ σ H Q, tD K (dIn neg fa fb) σ H Q → tOp (rInD K neg) (tD K fa) (tQ K fb) σ H Q :=
  fun σ H Q ⟨ρ, d, B, H0, V0, Z, e, r, q⟩ => by
    unfold dIn at e
    split at e
    · rename_i x ex
      split at e
      · rename_i ds ey
        split at e
        · rename_i hd
          cases e
          exact ⟨ρ, x, B, H0, V0, Z, ex, r, fun u H1 s1 r1 => ⟨ρ, ds, B, H0, V0, Z, ey, r.mono s1, fun p xs H2 s2 hq r2 =>
            ⟨x, ds, p, xs, hd.1, hd.2, (r1.mono (hide_same s2)).mono hide_sub, rfl, hq.imp id (sqt_same hide_sub), r2.mono hide_sub, q _ H2 (s1.trans s2) (rep_bl.mpr rfl)⟩⟩⟩
        · cases e
      · cases e
    · cases e
theorem st_in {fb : DEnv → Option (List D)} (hu : X.A.units + 64 < cLine) (ha : SE X a fa) (hb : SQ X b fb) (hm : behindInMarks .In b = false := by with_unfolding_all rfl) : STt X (.Compare a [.In] [b] pos) (dTest (dIn false fa fb)) :=
  pt_weak (pt_cmpR (op_inD hu) ha hb hm) fun σ H Q h => in_imp _ _ _ (test_imp σ H Q h)
theorem st_nin {fb : DEnv → Option (List D)} (hu : X.A.units + 64 < cLine) (ha : SE X a fa) (hb : SQ X b fb) (hm : behindInMarks .NotIn b = false := by with_unfolding_all rfl) : STt X (.Compare a [.NotIn] [b] pos) (dTest (dIn true fa fb)) :=
  pt_weak (pt_cmpR (op_notInD hu) ha hb hm) fun σ H Q h => in_imp _ _ _ (test_imp σ H Q h)
theorem repl_atI {K : PySem.W.Frag} {H : Hp} {ds : List D} {xs : List V} {i : Int} {d : D} (h : RepL K H ds xs) (e : atI ds i = some d) : ∃ v, atI xs i = some v ∧ Rep K H d v := by
  unfold atI at e ⊢
  rw [← h.length]
  cases hi : ixN ds.length i with
  | none => rw [hi] at e; cases e
  | some j =>
    rw [hi] at e
    exact h.get e
def dIx (fa : DEnv → Option (List D)) (fb : DEnv → Option D) : DEnv → Option D := fun ρ => match fa ρ with | some ds => (match fb ρ with | some (.int i) => atI ds i | _ => none) | none => none
theorem se_ix {fa : DEnv → Option (List D)} (ha : SQ X a fa) (hb : SE X b fb) (hs : PlainIx b := by exact fun _ _ => rfl) : SE X (.Subscript a b pos) (dIx fa fb) :=
  pe_weak (pe_ix ix_seq ha hb hs) fun σ H Q ⟨ρ, d, B, H0, V0, Z, e, r, q⟩ => by
    unfold dIx at e
    split at e
    · rename_i ds eds
      split at e
      · rename_i i ei
        refine ⟨ρ, ds, B, H0, V0, Z, eds, r, fun p xs H1 s1 hq r1 => ⟨ρ, _, B, H0, V0, Z, ei, r.mono s1, fun u H2 s2 r2 => ?_⟩⟩
        obtain rfl := rep_int.mp r2
        obtain ⟨v, hv, rv⟩ := repl_atI (r1.mono (hide_same s2)) e
        have fin := q v H2 (s1.trans s2) rv
        rcases hq with hq | hq
        · exact .inl ⟨p, xs, i, v, rfl, rfl, s2.seq hq, hv, fin⟩
        · exact .inr (.inl ⟨p, xs, i, v, rfl, rfl, sqt_same s2 (sqt_same hide_sub hq), hv, fin⟩)
      · cases e
    · cases e
def tO (K : PySem.W.Frag) (f : DEnv → Option (Option Int)) : TO := fun σ H Q => ∃ ρ o B H0 V0 Z, f ρ = some o ∧ SR K B H0 V0 H Z σ ρ ∧ ∀ H', Same H H' → Q o H'
abbrev SO (X : Cx) (e : Option Expr) (f : DEnv → Option (Option Int)) : Prop := PO X e (tO X.K f)
def dNoP : DEnv → Option (Option Int) := fun _ => some none
def dPart (f : DEnv → Option D) : DEnv → Option (Option Int) := fun ρ => match f ρ with | some (.int i) => some (some i) | _ => none
theorem so_none : SO X none dNoP := fun pins s σ H Q I ⟨ρ, o, B, H0, V0, Z, e, r, q⟩ => by
  cases e
  exact po_none pins s σ H Q I (q H (Same.refl H))
theorem so_some {f : DEnv → Option D} (h : SE X a f) : SO X (some a) (dPart f) := fun pins s σ H Q I ⟨ρ, o, B, H0, V0, Z, e, r, q⟩ => by
  refine po_some h pins s σ H Q I ?_
  unfold dPart at e
  split at e
  · rename_i i ei
    cases e
    exact ⟨ρ, _, B, H0, V0, Z, ei, r, fun v H' s rr => ⟨i, rep_int.mp rr, q H' s⟩⟩
  · cases e
def cut {α : Type} (xs : List α) (lo hi : Option Int) : List α := (xs.drop (HT.sIx xs.length 0 lo)).take (HT.sIx xs.length xs.length hi - HT.sIx xs.length 0 lo)
theorem repl_cut {K : PySem.W.Frag} {H : Hp} {ds : List D} {xs : List V} (lo hi : Option Int) (h : RepL K H ds xs) : RepL K H (cut ds lo hi) (cutV xs lo hi) := by
  unfold cut cutV
  rw [h.length]
  exact (h.drop _).take _
def dSl : D → Option Int → Option Int → Option D := fun x lo hi => match x with
  | .tup ds => if HT.sIx ds.length 0 lo = 0 ∧ HT.sIx ds.length ds.length hi = ds.length then none else some (.tup (cut ds lo hi))
  | .lst ds => some (.lst (cut ds lo hi))
  | _ => none
def dSlc (f : DEnv → Option D) (fl fh : DEnv → Option (Option Int)) : DEnv → Option D := fun ρ => match f ρ with
  | some x => (match fl ρ with | some lo => (match fh ρ with | some hi => dSl x lo hi | none => none) | none => none)
  | none => none
theorem se_sl {lo hi : Option Expr} {p2 : Pos} {fl fh : DEnv → Option (Option Int)} (he : SE X a fa) (hl : SO X lo fl) (hh : SO X hi fh) : SE X (.Subscript a (.Slice lo hi none p2) pos) (dSlc fa fl fh) :=
  pe_weak (pe_slice (sl_tup.or sl_list) he hl hh) fun σ H Q ⟨ρ, d, B, H0, V0, Z, e, r, q⟩ => by
    unfold dSlc at e
    split at e
    · rename_i x ex
      split at e
      · rename_i l el
        split at e
        · rename_i h eh
          refine ⟨ρ, x, B, H0, V0, Z, ex, r, fun u H1 s1 r1 => ⟨ρ, l, B, H0, V0, Z, el, r.mono s1, fun H2 s2 => ⟨ρ, h, B, H0, V0, Z, eh, (r.mono s1).mono s2, fun H3 s3 => ?_⟩⟩⟩
          have R3 := ((r.mono s1).mono s2).mono s3
          have rx := r1.mono (hide_same (s2.trans s3))
          unfold dSl at e
          split at e
          · rename_i ds
            split at e
            · cases e
            · rename_i hw
              cases e
              obtain ⟨p, xs, rfl, h1, h2⟩ := rep_tup.mp rx
              refine .inl ⟨p, xs, rfl, sqt_same hide_sub h1, by rw [← h2.length]; exact hw, fun n hn => ?_⟩
              have sn := same_upd (o := HO.tup (cutV xs l h)) hn
              refine q _ _ (s1.trans (s2.trans (s3.trans sn))) (rep_tup.mpr ⟨n, _, rfl, SqT.of ?_, (repl_cut l h h2).mono (hide_same sn)⟩)
              rw [hide_out (R3.newer hn)]
              exact upd_same
          · rename_i ds
            cases e
            obtain ⟨p, xs, rfl, h1, h2⟩ := rep_lst.mp rx
            refine .inr ⟨p, xs, rfl, hide_sub.seq h1, fun n hn => ?_⟩
            have sn := same_upd (o := HO.lst (cutV xs l h)) hn
            refine q _ _ (s1.trans (s2.trans (s3.trans sn))) (rep_lst.mpr ⟨n, _, rfl, SqL.of ?_, (repl_cut l h h2).mono (hide_same sn)⟩)
            rw [hide_out (R3.newer hn)]
            exact upd_same
          · cases e
        · cases e
      · cases e
    · cases e
def dLen (f : DEnv → Option (List D)) : DEnv → Option D := fun ρ => (f ρ).map fun ds => D.int ds.length
theorem se_len {p : Pos} {f : DEnv → Option (List D)} (hm : X.mg "len" = none) (h : SQ X a f) (hg : Gl X "len" := by rfl) (he : starEach [a] X.env = (false, eval a X.env) :: starEach [] X.env := by exact star_of rfl) (hpl : (backTo pos (starEach [] X.env)).any (·.1) = false := by exact back_of rfl) : SE X (.Call (.Name "len" p) [a] [] pos) (dLen f) :=
  pe_weak (pe_callB call_len_seq hg hm PySem.boot_len (pa_cons h pa_nil he) (by decide) (by decide) he hpl) fun σ H Q ⟨ρ, d, B, H0, V0, Z, e, r, q⟩ => by
    unfold dLen at e
    obtain ⟨ds, eds, rfl⟩ := Option.map_eq_some_iff.mp e
    exact ⟨ρ, ds, B, H0, V0, Z, eds, r, fun p xs H' s hq rr => ⟨p, xs, rfl, hq.imp id (sqt_same hide_sub), q _ H' s (by rw [← rr.length]; exact rep_int.mpr rfl)⟩⟩
def dTupF (f : DEnv → Option (List D)) : DEnv → Option D := fun ρ => (f ρ).map D.tup
theorem se_tuple {p : Pos} {f : DEnv → Option (List D)} (hm : X.mg "tuple" = none) (h : SQ X a f) (hg : Gl X "tuple" := by rfl) (he : starEach [a] X.env = (false, eval a X.env) :: starEach [] X.env := by exact star_of rfl) (hpl : (backTo pos (starEach [] X.env)).any (·.1) = false := by exact back_of rfl) (hv : bootBuiltins "tuple" = some (.type "tuple") := by decide +kernel) : SE X (.Call (.Name "tuple" p) [a] [] pos) (dTupF f) :=
  pe_weak (pe_callTy call_tuple_of hg hm hv (pa_cons h pa_nil he) (by decide) (by decide) he hpl) fun σ H Q ⟨ρ, d, B, H0, V0, Z, e, r, q⟩ => by
    unfold dTupF at e
    obtain ⟨ds, eds, rfl⟩ := Option.map_eq_some_iff.mp e
    refine ⟨ρ, ds, B, H0, V0, Z, eds, r, fun p xs H' s hq rr => ⟨p, xs, rfl, ?_⟩⟩
    rcases hq with hq | hq
    · refine .inl ⟨hq, fun l hl => ?_⟩
      have sn := same_upd (o := HO.tup xs) hl
      refine q _ _ (s.trans sn) (rep_tup.mpr ⟨l, xs, rfl, SqT.of ?_, rr.mono (hide_same sn)⟩)
      rw [hide_out ((r.mono s).newer hl)]
      exact upd_same
    · exact .inr ⟨sqt_same hide_sub hq, q _ H' s (rep_tup.mpr ⟨p, xs, rfl, hq, rr⟩)⟩
def dAllB : List D → Option (List Bool)
  | [] => some []
  | .bl b :: r => (dAllB r).map (b :: ·)
  | _ :: _ => none
end
end L3
set_option linter.all false
namespace L3
open PySem PySem.W PyProof.Rows
def kRun {α : Type} (lt : Nat → Nat → Bool) : KasT α → α
  | .ret a => a
  | .ask i j k => kRun lt (k (lt i j))
theorem kRun_bind {α β : Type} (lt : Nat → Nat → Bool) (f : α → KasT β) : ∀ t : KasT α, kRun lt (t.bind f) = kRun lt (f (kRun lt t))
  | .ret _ => rfl
  | .ask i j k => kRun_bind lt f (k (lt i j))
structure KOrd (lt : Nat → Nat → Bool) : Prop where
  asym : ∀ i j, lt i j = true → lt j i = false
  tr : ∀ i j k, lt j i = false → lt k j = false → lt k i = false
def gt (p : Array Nat) (i : Nat) : Nat := p.getD i 0
theorem gt_of {p q : Array Nat} {i j : Nat} (h : p[i]? = q[j]?) : gt p i = gt q j := by
  unfold gt
  rw [Array.getD_eq_getD_getElem?, Array.getD_eq_getD_getElem?, h]
def Up (lt : Nat → Nat → Bool) (p : Array Nat) (b : Nat) : Prop := ∀ i j, i ≤ j → j < b → lt (gt p j) (gt p i) = false
def Dn (lt : Nat → Nat → Bool) (p : Array Nat) (b : Nat) : Prop := ∀ i j, i ≤ j → j < b → lt (gt p i) (gt p j) = false
def Al (lt : Nat → Nat → Bool) (p : Array Nat) (a b : Nat) : Prop := ∀ i j, a ≤ i → i < b → a ≤ j → j < b → lt (gt p i) (gt p j) = false
section
variable {lt : Nat → Nat → Bool} (O : KOrd lt)
theorem KOrd.irr {lt : Nat → Nat → Bool} (O : KOrd lt) (i : Nat) : lt i i = false := by
  cases h : lt i i with
  | false => rfl
  | true => rw [O.asym i i h] at h; cases h
theorem rev_gt {p : Array Nat} {i j : Nat} (hj : j ≤ p.size) (hij : i ≤ j) (k : Nat) : gt (kas_rev p i j) k = if i ≤ k ∧ k < j then gt p (i + j - 1 - k) else gt p k := by
  unfold kas_rev
  have e := getElem?_mirror (xs := p) (i := i) hj ((j - i) / 2) (by omega) k
  by_cases h : i ≤ k ∧ k < j
  · rw [if_pos h]
    by_cases h2 : (i ≤ k ∧ k < i + (j - i) / 2) ∨ (j - (j - i) / 2 ≤ k ∧ k < j)
    · rw [if_pos h2] at e; exact gt_of e
    · rw [if_neg h2] at e
      have : i + j - 1 - k = k := by omega
      rw [this]; exact gt_of e
  · rw [if_neg h]
    rw [if_neg (by omega)] at e
    exact gt_of e
theorem rev_size (p : Array Nat) (i j : Nat) : (kas_rev p i j).size = p.size := mirror_size _ _ _ _
theorem rev_perm (p : Array Nat) (i j : Nat) : (kas_rev p i j).Perm p := mirror_perm _ _ _ _
include O
theorem asc_ok {p : Array Nat} : ∀ (f n : Nat), 1 ≤ n → Up lt p n → n ≤ kRun lt (kas_asc p f n) ∧ kRun lt (kas_asc p f n) ≤ n + f ∧ Up lt p (kRun lt (kas_asc p f n)) ∧
    (kRun lt (kas_asc p f n) < n + f → lt (gt p (kRun lt (kas_asc p f n))) (gt p (kRun lt (kas_asc p f n) - 1)) = true)
  | 0, n, h1, h => ⟨Nat.le_refl _, Nat.le_refl _, h, fun z => absurd z (Nat.lt_irrefl _)⟩
  | f + 1, n, h1, h => by
    have e : kRun lt (kas_asc p (f + 1) n) = kRun lt (if lt (gt p n) (gt p (n - 1)) = true then KasT.ret n else kas_asc p f (n + 1)) := rfl
    rw [e]
    cases hc : lt (gt p n) (gt p (n - 1)) with
    | true =>
      rw [if_pos rfl]
      exact ⟨Nat.le_refl _, Nat.le_add_right _ _, h, fun _ => hc⟩
    | false =>
      rw [if_neg Bool.false_ne_true]
      have h' : Up lt p (n + 1) := fun i j hij hj => by
        by_cases hjn : j < n
        · exact h i j hij hjn
        · have : j = n := by omega
          subst this
          by_cases hi : i = j
          · subst hi; exact O.irr _
          · exact O.tr _ _ _ (h i (j - 1) (by omega) (by omega)) hc
      obtain ⟨a1, a2, a3, a4⟩ := asc_ok f (n + 1) (by omega) h'
      exact ⟨by omega, by omega, a3, fun z => a4 (by omega)⟩
theorem rev_al {p : Array Nat} {n q : Nat} (hz : n ≤ p.size) (hq : q + 1 ≤ n) (hd : Dn lt p n) (ha : Al lt p (n - (q + 1)) n) : Dn lt (kas_rev p (n - (q + 1)) n) n := fun i j hij hj => by
  rw [rev_gt hz (by omega), rev_gt hz (by omega)]
  by_cases h1 : n - (q + 1) ≤ i ∧ i < n
  · have h2 : n - (q + 1) ≤ j ∧ j < n := by omega
    rw [if_pos h1, if_pos h2]
    exact ha _ _ (by omega) (by omega) (by omega) (by omega)
  · rw [if_neg h1]
    by_cases h2 : n - (q + 1) ≤ j ∧ j < n
    · rw [if_pos h2]
      exact hd _ _ (by omega) (by omega)
    · rw [if_neg h2]
      exact hd _ _ hij hj
theorem desc_ok : ∀ (f : Nat) (p : Array Nat) (n q : Nat), n + f ≤ p.size → q + 1 ≤ n → Dn lt p n → Al lt p (n - (q + 1)) n →
    ∃ p' m q', kRun lt (kas_desc f p n q) = (p', m, q') ∧ p'.size = p.size ∧ p'.Perm p ∧ n ≤ m ∧ m ≤ n + f ∧ q' + 1 ≤ m ∧ Dn lt p' m ∧ Al lt p' (m - (q' + 1)) m
  | 0, p, n, q, hz, hq, hd, ha => ⟨p, n, q, rfl, rfl, Array.Perm.refl _, Nat.le_refl _, Nat.le_refl _, hq, hd, ha⟩
  | f + 1, p, n, q, hz, hq, hd, ha => by
    have e : kRun lt (kas_desc (f + 1) p n q) = kRun lt (if lt (gt p n) (gt p (n - 1)) = true then (if q > 0 then kas_desc f (kas_rev p (n - (q + 1)) n) (n + 1) 0 else kas_desc f p (n + 1) 0)
      else .ask (p.getD (n - 1) 0) (p.getD n 0) fun d => if d = true then .ret (p, n, q) else kas_desc f p (n + 1) (q + 1)) := rfl
    rw [e]
    cases hc : lt (gt p n) (gt p (n - 1)) with
    | true =>
      rw [if_pos rfl]
      have less : ∀ i, i < n → lt (gt p i) (gt p n) = false := fun i hi => O.tr _ _ _ (O.asym _ _ hc) (hd i (n - 1) (by omega) (by omega))
      by_cases h0 : q > 0
      · rw [if_pos h0]
        have hd' := rev_al O (by omega) hq hd ha
        have hd2 : Dn lt (kas_rev p (n - (q + 1)) n) (n + 1) := fun i j hij hj => by
          by_cases hjn : j < n
          · exact hd' i j hij hjn
          · have : j = n := by omega
            subst this
            by_cases hi : i = j
            · subst hi; exact O.irr _
            · rw [rev_gt (by omega) (by omega), rev_gt (by omega) (by omega), if_neg (by omega : ¬ (j - (q + 1) ≤ j ∧ j < j))]
              split
              · exact less _ (by omega)
              · exact less _ (by omega)
        obtain ⟨p', m, q', e1, e2, e3, e4, e5, e6, e7, e8⟩ := desc_ok f (kas_rev p (n - (q + 1)) n) (n + 1) 0 (by rw [rev_size]; omega) (by omega) hd2 (fun i j h1 h2 h3 h4 => by
          have : i = j := by omega
          subst this; exact O.irr _)
        exact ⟨p', m, q', e1, by rw [e2, rev_size], e3.trans (rev_perm _ _ _), by omega, by omega, e6, e7, e8⟩
      · rw [if_neg h0]
        have hd2 : Dn lt p (n + 1) := fun i j hij hj => by
          by_cases hjn : j < n
          · exact hd i j hij hjn
          · have : j = n := by omega
            subst this
            by_cases hi : i = j
            · subst hi; exact O.irr _
            · exact less i (by omega)
        obtain ⟨p', m, q', e1, e2, e3, e4, e5, e6, e7, e8⟩ := desc_ok f p (n + 1) 0 (by omega) (by omega) hd2 (fun i j h1 h2 h3 h4 => by
          have : i = j := by omega
          subst this; exact O.irr _)
        exact ⟨p', m, q', e1, e2, e3, by omega, by omega, e6, e7, e8⟩
    | false =>
      rw [if_neg Bool.false_ne_true]
      have e' : kRun lt (KasT.ask (p.getD (n - 1) 0) (p.getD n 0) fun d => if d = true then .ret (p, n, q) else kas_desc f p (n + 1) (q + 1)) = kRun lt (if lt (gt p (n - 1)) (gt p n) = true then .ret (p, n, q) else kas_desc f p (n + 1) (q + 1)) := rfl
      rw [e']
      cases hc2 : lt (gt p (n - 1)) (gt p n) with
      | true =>
        rw [if_pos rfl]
        exact ⟨p, n, q, rfl, rfl, Array.Perm.refl _, Nat.le_refl _, by omega, hq, hd, ha⟩
      | false =>
        rw [if_neg Bool.false_ne_true]
        have hd2 : Dn lt p (n + 1) := fun i j hij hj => by
          by_cases hjn : j < n
          · exact hd i j hij hjn
          · have : j = n := by omega
            subst this
            by_cases hi : i = j
            · subst hi; exact O.irr _
            · exact O.tr _ _ _ hc2 (hd i (j - 1) (by omega) (by omega))
        have ha2 : Al lt p (n + 1 - (q + 1 + 1)) (n + 1) := fun i j h1 h2 h3 h4 => by
          have lastL : ∀ i, n - (q + 1) ≤ i → i < n → lt (gt p i) (gt p n) = false := fun i g1 g2 => O.tr _ _ _ hc2 (ha i (n - 1) g1 g2 (by omega) (by omega))
          have lastR : ∀ i, n - (q + 1) ≤ i → i < n → lt (gt p n) (gt p i) = false := fun i g1 g2 => O.tr _ _ _ (ha (n - 1) i (by omega) (by omega) g1 g2) hc
          by_cases hi : i < n
          · by_cases hj : j < n
            · exact ha i j (by omega) hi (by omega) hj
            · have : j = n := by omega
              subst this
              exact lastL i (by omega) hi
          · have : i = n := by omega
            subst this
            by_cases hj : j < i
            · exact lastR j (by omega) hj
            · have : j = i := by omega
              subst this; exact O.irr _
        obtain ⟨p', m, q', e1, e2, e3, e4, e5, e6, e7, e8⟩ := desc_ok f p (n + 1) (q + 1) (by omega) (by omega) hd2 ha2
        exact ⟨p', m, q', e1, e2, e3, by omega, by omega, e6, e7, e8⟩
theorem rev_up {p : Array Nat} {n : Nat} (hz : n ≤ p.size) (hd : Dn lt p n) : Up lt (kas_rev p 0 n) n := fun i j hij hj => by
  rw [rev_gt hz (by omega), rev_gt hz (by omega), if_pos (by omega), if_pos (by omega)]
  exact hd _ _ (by omega) (by omega)
theorem tail_ok {p : Array Nat} {n nrem : Nat} (hn : n ≤ nrem) (h1 : 1 ≤ n) (hz : nrem ≤ p.size) (hd : Dn lt p n) :
    ∃ m p', kRun lt (kas_tail3 n nrem p) = (m, p') ∧ p'.size = p.size ∧ p'.Perm p ∧ 1 ≤ m ∧ m ≤ nrem ∧ Up lt p' m := by
  unfold kas_tail3
  rw [kRun_bind]
  obtain ⟨a1, a2, a3, _⟩ := asc_ok O (nrem - n) n h1 (rev_up O (by omega) hd)
  exact ⟨_, _, rfl, rev_size _ _ _, rev_perm _ _ _, by omega, by omega, a3⟩
theorem descPart_ok {p : Array Nat} {n nrem : Nat} (hn : n + 1 ≤ nrem) (hz : nrem ≤ p.size) (hd : Dn lt p (n + 1)) :
    ∃ m p', kRun lt (kas_descPart n nrem p) = (m, p') ∧ p'.size = p.size ∧ p'.Perm p ∧ 1 ≤ m ∧ m ≤ nrem ∧ Up lt p' m := by
  unfold kas_descPart
  rw [kRun_bind]
  obtain ⟨p', m, q', e1, e2, e3, e4, e5, e6, e7, e8⟩ := desc_ok O (nrem - (n + 1)) p (n + 1) 0 (by omega) (by omega) hd (fun i j h1 h2 h3 h4 => by
    have : i = j := by omega
    subst this; exact O.irr _)
  rw [e1]
  dsimp only
  by_cases hq : q' > 0
  · rw [if_pos hq]
    obtain ⟨m2, p2, t1, t2, t3, t4, t5, t6⟩ := tail_ok O (p := kas_rev p' (m - (q' + 1)) m) (n := m) (nrem := nrem) (by omega) (by omega) (by rw [rev_size]; omega) (rev_al O (by omega) e6 e7 e8)
    exact ⟨m2, p2, t1, by rw [t2, rev_size, e2], t3.trans ((rev_perm _ _ _).trans e3), t4, t5, t6⟩
  · rw [if_neg hq]
    obtain ⟨m2, p2, t1, t2, t3, t4, t5, t6⟩ := tail_ok O (p := p') (n := m) (nrem := nrem) (by omega) (by omega) (by omega) e7
    exact ⟨m2, p2, t1, by rw [t2, e2], t3.trans e3, t4, t5, t6⟩
theorem count_ok {p : Array Nat} {nrem : Nat} (h1 : 1 ≤ nrem) (hz : nrem ≤ p.size) :
    ∃ m p', kRun lt (kas_count nrem p) = (m, p') ∧ p'.size = p.size ∧ p'.Perm p ∧ 1 ≤ m ∧ m ≤ nrem ∧ Up lt p' m := by
  unfold kas_count
  rw [kRun_bind]
  obtain ⟨a1, a2, a3, a4⟩ := asc_ok O (p := p) (nrem - 1) 1 (Nat.le_refl _) (fun i j hij hj => by
    have : i = j := by omega
    subst this; exact O.irr _)
  generalize kRun lt (kas_asc p (nrem - 1) 1) = n at a1 a2 a3 a4
  by_cases e1 : (n == nrem) = true
  · rw [if_pos e1]
    exact ⟨n, p, rfl, rfl, Array.Perm.refl _, a1, by omega, a3⟩
  · rw [if_neg e1]
    have hne : n ≠ nrem := fun q => e1 (by rw [q]; exact beq_self_eq_true _)
    have hlt := a4 (by omega)
    by_cases e2 : n > 1
    · rw [if_pos e2]
      have e' : kRun lt (KasT.ask (p.getD 0 0) (p.getD (n - 1) 0) fun c => if c = true then .ret (n, p) else kas_descPart n nrem (kas_rev p 0 n)) = kRun lt (if lt (gt p 0) (gt p (n - 1)) = true then .ret (n, p) else kas_descPart n nrem (kas_rev p 0 n)) := rfl
      rw [e']
      cases hc : lt (gt p 0) (gt p (n - 1)) with
      | true =>
        rw [if_pos rfl]
        exact ⟨n, p, rfl, rfl, Array.Perm.refl _, a1, by omega, a3⟩
      | false =>
        rw [if_neg Bool.false_ne_true]
        have all : ∀ i j, i < n → j < n → lt (gt p i) (gt p j) = false := fun i j hi hj =>
          O.tr _ _ _ (O.tr _ _ _ (a3 j (n - 1) (by omega) (by omega)) hc) (a3 0 i (by omega) hi)
        obtain ⟨m2, p2, t1, t2, t3, t4, t5, t6⟩ := descPart_ok O (p := kas_rev p 0 n) (n := n) (nrem := nrem) (by omega) (by rw [rev_size]; exact hz) (fun i j hij hj => by
          rw [rev_gt (by omega) (by omega), rev_gt (by omega) (by omega)]
          by_cases hjn : j < n
          · rw [if_pos (by omega), if_pos (by omega)]
            exact all _ _ (by omega) (by omega)
          · have : j = n := by omega
            subst this
            rw [if_neg (by omega : ¬ (0 ≤ j ∧ j < j))]
            by_cases hi : i < j
            · rw [if_pos (by omega)]
              exact O.tr _ _ _ (O.asym _ _ hlt) (all _ _ (by omega) (by omega))
            · rw [if_neg (by omega)]
              have : i = j := by omega
              subst this; exact O.irr _)
        exact ⟨m2, p2, t1, by rw [t2, rev_size], t3.trans (rev_perm _ _ _), t4, t5, t6⟩
    · rw [if_neg e2]
      have : n = 1 := by omega
      subst this
      obtain ⟨m2, p2, t1, t2, t3, t4, t5, t6⟩ := descPart_ok O (p := p) (n := 1) (nrem := nrem) (by omega) hz (fun i j hij hj => by
        by_cases hij' : i = j
        · subst hij'; exact O.irr _
        · have hi : i = 0 := by omega
          have hj' : j = 1 := by omega
          subst hi hj'
          exact O.asym _ _ hlt)
      exact ⟨m2, p2, t1, t2, t3, t4, t5, t6⟩
theorem place_ok {p : Array Nat} {k : Nat} (hu : Up lt p k) : ∀ (f l r : Nat), r - l ≤ f → l ≤ r → r ≤ k → (∀ i, i < l → lt (gt p k) (gt p i) = false) → (∀ i, r ≤ i → i < k → lt (gt p i) (gt p k) = false) →
    kRun lt (kas_place p k f l r) ≤ k ∧ (∀ i, i < kRun lt (kas_place p k f l r) → lt (gt p k) (gt p i) = false) ∧ (∀ i, kRun lt (kas_place p k f l r) ≤ i → i < k → lt (gt p i) (gt p k) = false)
  | 0, l, r, hf, hlr, hr, h1, h2 => ⟨show l ≤ k by omega, h1, fun i (g1 : l ≤ i) g2 => h2 i (by omega) g2⟩
  | f + 1, l, r, hf, hlr, hr, h1, h2 => by
    have e : kRun lt (kas_place p k (f + 1) l r) = kRun lt (if l ≥ r then .ret l else .ask (p.getD k 0) (p.getD ((l + r) / 2) 0) fun c => if c = true then kas_place p k f l ((l + r) / 2) else kas_place p k f ((l + r) / 2 + 1) r) := rfl
    rw [e]
    by_cases hge : l ≥ r
    · rw [if_pos hge]
      exact ⟨show l ≤ k by omega, h1, fun i (g1 : l ≤ i) g2 => h2 i (by omega) g2⟩
    · rw [if_neg hge]
      have e' : kRun lt (KasT.ask (p.getD k 0) (p.getD ((l + r) / 2) 0) fun c => if c = true then kas_place p k f l ((l + r) / 2) else kas_place p k f ((l + r) / 2 + 1) r) =
        kRun lt (if lt (gt p k) (gt p ((l + r) / 2)) = true then kas_place p k f l ((l + r) / 2) else kas_place p k f ((l + r) / 2 + 1) r) := rfl
      rw [e']
      cases hc : lt (gt p k) (gt p ((l + r) / 2)) with
      | true =>
        rw [if_pos rfl]
        exact place_ok hu f l ((l + r) / 2) (by omega) (by omega) (by omega) h1 fun i g1 g2 => O.tr _ _ _ (O.asym _ _ hc) (hu _ i g1 g2)
      | false =>
        rw [if_neg Bool.false_ne_true]
        exact place_ok hu f ((l + r) / 2 + 1) r (by omega) (by omega) hr (fun i g1 => O.tr _ _ _ (hu i _ (by omega) (by omega)) hc) h2
theorem bin_ok : ∀ (f : Nat) (p : Array Nat) (k : Nat), k + f ≤ p.size → Up lt p k → ∃ p', kRun lt (kas_bin f p k) = p' ∧ p'.size = p.size ∧ p'.Perm p ∧ Up lt p' (k + f)
  | 0, p, k, _, hu => ⟨p, rfl, rfl, Array.Perm.refl _, hu⟩
  | f + 1, p, k, hz, hu => by
    have e : kRun lt (kas_bin (f + 1) p k) = kRun lt ((kas_place p k k 0 k).bind fun l => kas_bin f (bubble p k (k - l)) (k + 1)) := rfl
    rw [e, kRun_bind]
    obtain ⟨b1, b2, b3⟩ := place_ok O hu k 0 k (by omega) (by omega) (Nat.le_refl _) (fun i g => by omega) (fun i g1 g2 => by omega)
    generalize kRun lt (kas_place p k k 0 k) = l at b1 b2 b3
    have bg : ∀ x, gt (bubble p k (k - l)) x = if x = l then gt p k else if l < x ∧ x ≤ k then gt p (x - 1) else gt p x := fun x => by
      have e := getElem?_bubble (xs := p) (src := k) (by omega) (k - l) (by omega) x
      have ek : k - (k - l) = l := by omega
      rw [ek] at e
      by_cases g1 : x = l
      · rw [if_pos g1] at e ⊢; exact gt_of e
      · rw [if_neg g1] at e ⊢
        by_cases g2 : l < x ∧ x ≤ k
        · rw [if_pos g2] at e ⊢; exact gt_of e
        · rw [if_neg g2] at e ⊢; exact gt_of e
    have hu' : Up lt (bubble p k (k - l)) (k + 1) := fun i j hij hj => by
      by_cases hij' : i = j
      · subst hij'; exact O.irr _
      rw [bg, bg]
      by_cases hj1 : j = l
      · rw [if_pos hj1, if_neg (by omega : ¬ i = l), if_neg (by omega : ¬ (l < i ∧ i ≤ k))]
        exact b2 i (by omega)
      · rw [if_neg hj1]
        by_cases hj2 : l < j ∧ j ≤ k
        · rw [if_pos hj2]
          by_cases hi1 : i = l
          · rw [if_pos hi1]
            exact b3 _ (by omega) (by omega)
          · rw [if_neg hi1]
            by_cases hi2 : l < i ∧ i ≤ k
            · rw [if_pos hi2]
              exact hu _ _ (by omega) (by omega)
            · rw [if_neg hi2]
              exact hu _ _ (by omega) (by omega)
        · rw [if_neg hj2, if_neg (by omega : ¬ i = l), if_neg (by omega : ¬ (l < i ∧ i ≤ k))]
          exact hu _ _ hij (by omega)
    obtain ⟨p', e1, e2, e3, e4⟩ := bin_ok f (bubble p k (k - l)) (k + 1) (by rw [bubble_size]; omega) hu'
    exact ⟨p', e1, by rw [e2, bubble_size], e3.trans (bubble_perm _ _ _), by rw [show k + (f + 1) = k + 1 + f by omega]; exact e4⟩
theorem sort_ok {n : Nat} (hn : 1 ≤ n) : ∃ p, kRun lt (kas_sort n) = p ∧ p.size = n ∧ p.Perm (List.toArray (List.range n)) ∧ Up lt p n := by
  unfold kas_sort
  rw [kRun_bind]
  have hz : (List.toArray (List.range n)).size = n := by simp
  obtain ⟨m, p', e1, e2, e3, e4, e5, e6⟩ := count_ok O (p := List.toArray (List.range n)) (nrem := n) hn (by rw [hz]; exact Nat.le_refl _)
  rw [e1]
  dsimp only
  by_cases h : m < n
  · rw [if_pos h]
    have em : max m 1 = m := by omega
    rw [em]
    obtain ⟨p2, t1, t2, t3, t4⟩ := bin_ok O (n - m) p' m (by omega) e6
    exact ⟨p2, t1, by rw [t2, e2, hz], t3.trans e3, by rw [show n = m + (n - m) by omega]; exact t4⟩
  · rw [if_neg h]
    have em : m = n := by omega
    subst em
    exact ⟨p', rfl, by rw [e2, hz], e3, e6⟩
end
def Asks {α : Type} (lt : Nat → Nat → Bool) (n : Nat) : KasT α → Prop
  | .ret _ => True
  | .ask i j k => i < n ∧ j < n ∧ Asks lt n (k (lt i j))
def InN (n : Nat) (p : Array Nat) : Prop := 0 < n ∧ ∀ x, x ∈ p → x < n
section
variable {lt : Nat → Nat → Bool} {n : Nat}
theorem asks_bind {α β : Type} {f : α → KasT β} : ∀ {t : KasT α}, Asks lt n t → Asks lt n (f (kRun lt t)) → Asks lt n (t.bind f)
  | .ret _, _, h => h
  | .ask i j k, ⟨h1, h2, h3⟩, h => ⟨h1, h2, asks_bind (t := k (lt i j)) h3 h⟩
theorem InN.gt {p : Array Nat} (h : InN n p) (i : Nat) : p.getD i 0 < n := by
  rw [Array.getD_eq_getD_getElem?]
  cases e : p[i]? with
  | none => exact h.1
  | some x => exact h.2 x (Array.mem_of_getElem? e)
theorem InN.perm {p q : Array Nat} (h : InN n p) (e : q.Perm p) : InN n q := ⟨h.1, fun x hx => h.2 x (e.mem_iff.mp hx)⟩
theorem asks_ite {α : Type} {c : Bool} {t u : KasT α} (h1 : Asks lt n t) (h2 : Asks lt n u) : Asks lt n (if c = true then t else u) := by
  cases c with
  | true => rw [if_pos rfl]; exact h1
  | false => rw [if_neg Bool.false_ne_true]; exact h2
theorem asks_ite' {α : Type} {c : Prop} [Decidable c] {t u : KasT α} (h1 : Asks lt n t) (h2 : Asks lt n u) : Asks lt n (if c then t else u) := by
  split
  · exact h1
  · exact h2
theorem asc_in {p : Array Nat} (h : InN n p) : ∀ f m, Asks lt n (kas_asc p f m)
  | 0, _ => trivial
  | f + 1, m => ⟨h.gt _, h.gt _, asks_ite trivial (asc_in h f (m + 1))⟩
theorem desc_in : ∀ (f : Nat) (p : Array Nat) (m q : Nat), InN n p → Asks lt n (kas_desc f p m q) ∧ InN n (kRun lt (kas_desc f p m q)).1
  | 0, p, _, _, h => ⟨trivial, h⟩
  | f + 1, p, m, q, h => by
    have hr : InN n (kas_rev p (m - (q + 1)) m) := h.perm (rev_perm _ _ _)
    have e : kRun lt (kas_desc (f + 1) p m q) = kRun lt (if lt (p.getD m 0) (p.getD (m - 1) 0) = true then (if q > 0 then kas_desc f (kas_rev p (m - (q + 1)) m) (m + 1) 0 else kas_desc f p (m + 1) 0)
      else .ask (p.getD (m - 1) 0) (p.getD m 0) fun d => if d = true then .ret (p, m, q) else kas_desc f p (m + 1) (q + 1)) := rfl
    refine ⟨⟨h.gt _, h.gt _, asks_ite (asks_ite' (desc_in f _ _ _ hr).1 (desc_in f _ _ _ h).1) ⟨h.gt _, h.gt _, asks_ite trivial (desc_in f _ _ _ h).1⟩⟩, ?_⟩
    rw [e]
    cases lt (p.getD m 0) (p.getD (m - 1) 0) with
    | true =>
      rw [if_pos rfl]
      split
      · exact (desc_in f _ _ _ hr).2
      · exact (desc_in f _ _ _ h).2
    | false =>
      rw [if_neg Bool.false_ne_true]
      have e' : kRun lt (KasT.ask (p.getD (m - 1) 0) (p.getD m 0) fun d => if d = true then .ret (p, m, q) else kas_desc f p (m + 1) (q + 1)) = kRun lt (if lt (p.getD (m - 1) 0) (p.getD m 0) = true then .ret (p, m, q) else kas_desc f p (m + 1) (q + 1)) := rfl
      rw [e']
      cases lt (p.getD (m - 1) 0) (p.getD m 0) with
      | true => rw [if_pos rfl]; exact h
      | false => rw [if_neg Bool.false_ne_true]; exact (desc_in f _ _ _ h).2
theorem tail_in {p : Array Nat} {a b : Nat} (h : InN n p) : Asks lt n (kas_tail3 a b p) ∧ InN n (kRun lt (kas_tail3 a b p)).2 := by
  have hr : InN n (kas_rev p 0 a) := h.perm (rev_perm _ _ _)
  refine ⟨asks_bind (asc_in hr _ _) trivial, ?_⟩
  unfold kas_tail3
  rw [kRun_bind]
  exact hr
theorem descPart_in {p : Array Nat} {a b : Nat} (h : InN n p) : Asks lt n (kas_descPart a b p) ∧ InN n (kRun lt (kas_descPart a b p)).2 := by
  obtain ⟨d1, d2⟩ := desc_in (lt := lt) (b - (a + 1)) p (a + 1) 0 h
  unfold kas_descPart
  rw [kRun_bind]
  refine ⟨asks_bind d1 ?_, ?_⟩
  · exact asks_ite' (tail_in (d2.perm (rev_perm _ _ _))).1 (tail_in d2).1
  · split
    · exact (tail_in (d2.perm (rev_perm _ _ _))).2
    · exact (tail_in d2).2
theorem count_in {p : Array Nat} {b : Nat} (h : InN n p) : Asks lt n (kas_count b p) ∧ InN n (kRun lt (kas_count b p)).2 := by
  have hr : ∀ m, InN n (kas_rev p 0 m) := fun m => h.perm (rev_perm _ _ _)
  unfold kas_count
  rw [kRun_bind]
  generalize hm : kRun lt (kas_asc p (b - 1) 1) = m
  refine ⟨asks_bind (asc_in h _ _) ?_, ?_⟩
  · rw [hm]
    exact asks_ite' trivial (asks_ite' ⟨h.gt _, h.gt _, asks_ite trivial (descPart_in (hr m)).1⟩ (descPart_in h).1)
  · split
    · exact h
    · split
      · have e' : kRun lt (KasT.ask (p.getD 0 0) (p.getD (m - 1) 0) fun c => if c = true then .ret (m, p) else kas_descPart m b (kas_rev p 0 m)) = kRun lt (if lt (p.getD 0 0) (p.getD (m - 1) 0) = true then .ret (m, p) else kas_descPart m b (kas_rev p 0 m)) := rfl
        rw [e']
        cases lt (p.getD 0 0) (p.getD (m - 1) 0) with
        | true => rw [if_pos rfl]; exact h
        | false => rw [if_neg Bool.false_ne_true]; exact (descPart_in (hr m)).2
      · exact (descPart_in h).2
theorem place_in {p : Array Nat} {k : Nat} (h : InN n p) : ∀ f l r, Asks lt n (kas_place p k f l r)
  | 0, _, _ => trivial
  | f + 1, l, r => asks_ite' (t := .ret l) trivial ⟨h.gt _, h.gt _, asks_ite (place_in h f _ _) (place_in h f _ _)⟩
theorem bin_in : ∀ (f : Nat) (p : Array Nat) (k : Nat), InN n p → Asks lt n (kas_bin f p k)
  | 0, _, _, _ => trivial
  | f + 1, p, k, h => asks_bind (place_in h _ _ _) (bin_in f _ _ (h.perm (bubble_perm _ _ _)))
theorem sort_in (hn : 0 < n) : Asks lt n (kas_sort n) := by
  have h : InN n (List.toArray (List.range n)) := ⟨hn, fun x hx => by simpa using hx⟩
  obtain ⟨c1, c2⟩ := count_in (lt := lt) (b := n) h
  exact asks_bind c1 (asks_ite' (bin_in _ _ _ c2) trivial)
end
theorem kas_wp_run {α : Type} {lt : Nat → Nat → Bool} {n : Nat} {cmp : Nat → Nat → (Bool → Shared → Prop) → Shared → Prop} {Ok : Shared → Prop} (hc : ∀ i j C s, i < n → j < n → Ok s → (∀ s', Ok s' → C (lt i j) s') → cmp i j C s) {Q : α → Shared → Prop} :
    ∀ (t : KasT α) (s : Shared), Asks lt n t → Ok s → (∀ s', Ok s' → Q (kRun lt t) s') → t.kasWp cmp Q s
  | .ret a, s, _, ok, q => q s ok
  | .ask i j k, s, ⟨h1, h2, h3⟩, ok, q => hc i j _ s h1 h2 ok fun s' ok' => kas_wp_run hc (k (lt i j)) s' h3 ok' q
end L3
set_option Elab.async false
set_option linter.all false
set_option maxRecDepth 100000
set_option maxHeartbeats 4000000
namespace L3
open PySem PySem.Spec PyProof.Rows L2 PySem.SeqAt PySem.W
theorem lexLt_irr : ∀ a : List Int, HT.lexLt a a = false
  | [] => rfl
  | x :: xs => by rw [HT.lexLt_cons, if_pos rfl]; exact lexLt_irr xs
theorem lexLt_asym : ∀ a b : List Int, HT.lexLt a b = true → HT.lexLt b a = false
  | [], [], h => by cases h
  | [], _ :: _, _ => rfl
  | _ :: _, [], h => by cases h
  | x :: xs, y :: ys, h => by
    rw [HT.lexLt_cons] at h ⊢
    by_cases e : x = y
    · rw [if_pos e] at h
      rw [if_pos e.symm]
      exact lexLt_asym xs ys h
    · rw [if_neg e] at h
      rw [if_neg (Ne.symm e)]
      have := of_decide_eq_true h
      exact decide_eq_false (by omega)
theorem lexLt_tr : ∀ a b c : List Int, HT.lexLt b a = false → HT.lexLt c b = false → HT.lexLt c a = false
  | a, b, [], h1, h2 => by
    cases a with
    | nil => rfl
    | cons x xs =>
      cases b with
      | nil => cases h1
      | cons y ys => cases h2
  | a, [], z :: zs, h1, h2 => by
    cases a with
    | nil => rfl
    | cons x xs => cases h1
  | [], y :: ys, z :: zs, h1, h2 => rfl
  | x :: xs, y :: ys, z :: zs, h1, h2 => by
    rw [HT.lexLt_cons] at h1 h2 ⊢
    by_cases e1 : y = x
    · rw [if_pos e1] at h1
      by_cases e2 : z = y
      · rw [if_pos e2] at h2
        rw [if_pos (e2.trans e1)]
        exact lexLt_tr xs ys zs h1 h2
      · rw [if_neg e2] at h2
        have := of_decide_eq_false h2
        rw [if_neg (by omega)]
        exact decide_eq_false (by omega)
    · rw [if_neg e1] at h1
      have g1 := of_decide_eq_false h1
      by_cases e2 : z = y
      · rw [if_neg (by omega)]
        exact decide_eq_false (by omega)
      · rw [if_neg e2] at h2
        have g2 := of_decide_eq_false h2
        rw [if_neg (by omega)]
        exact decide_eq_false (by omega)
theorem lexLt_eq : ∀ a b : List Int, HT.lexLt a b = false → HT.lexLt b a = false → a = b
  | [], [], _, _ => rfl
  | [], _ :: _, h, _ => by cases h
  | _ :: _, [], _, h => by cases h
  | x :: xs, y :: ys, h1, h2 => by
    rw [HT.lexLt_cons] at h1 h2
    by_cases e : x = y
    · rw [if_pos e] at h1
      rw [if_pos e.symm] at h2
      rw [e, lexLt_eq xs ys h1 h2]
    · rw [if_neg e] at h1
      rw [if_neg (Ne.symm e)] at h2
      have g1 := of_decide_eq_false h1
      have g2 := of_decide_eq_false h2
      omega
theorem sorted_one {α : Type} {le : α → α → Prop} (anti : ∀ a b, le a b → le b a → a = b) : ∀ {xs ys : List α}, xs.Perm ys → xs.Pairwise le → ys.Pairwise le → (∀ a, le a a) → xs = ys
  | [], ys, p, _, _, _ => (List.nil_perm.mp p).symm
  | x :: xs, ys, p, h1, h2, rf => by
    cases ys with
    | nil => exact absurd (List.perm_nil.mp p) (by simp)
    | cons y ys =>
      have hx := List.pairwise_cons.mp h1
      have hy := List.pairwise_cons.mp h2
      have e : x = y := by
        have m1 : x ∈ y :: ys := p.mem_iff.mp List.mem_cons_self
        have m2 : y ∈ x :: xs := p.mem_iff.mpr List.mem_cons_self
        refine anti x y ?_ ?_
        · rcases List.mem_cons.mp m2 with z | z
          · rw [z]; exact rf x
          · exact hx.1 y z
        · rcases List.mem_cons.mp m1 with z | z
          · rw [z]; exact rf y
          · exact hy.1 x z
      subst e
      rw [sorted_one anti (List.perm_cons x |>.mp p) hx.2 hy.2 rf]
def leL (a b : List Int) : Bool := !HT.lexLt b a
def sortT (nss : List (List Int)) : List (List Int) := nss.mergeSort leL
theorem sortT_perm (nss : List (List Int)) : (sortT nss).Perm nss := List.mergeSort_perm nss leL
theorem sortT_up (nss : List (List Int)) : (sortT nss).Pairwise fun a b => HT.lexLt b a = false := by
  have h := List.pairwise_mergeSort (le := leL) (l := nss) (fun a b c h1 h2 => by
    unfold leL at h1 h2 ⊢
    simp only [Bool.not_eq_true'] at h1 h2 ⊢
    exact lexLt_tr a b c h1 h2) (fun a b => by
    unfold leL
    cases h : HT.lexLt b a with
    | false => rfl
    | true => rw [lexLt_asym b a h]; rfl)
  exact h.imp fun q => by
    unfold leL at q
    simpa using q
def sortI (ns : List Int) : List Int := ns.mergeSort fun a b => decide (a ≤ b)
theorem sortI_perm (ns : List Int) : (sortI ns).Perm ns := List.mergeSort_perm ns _
theorem sortI_up (ns : List Int) : (sortI ns).Pairwise (· ≤ ·) := by
  have h := List.pairwise_mergeSort (le := fun a b : Int => decide (a ≤ b)) (l := ns) (fun a b c h1 h2 => by
    have := of_decide_eq_true h1
    have := of_decide_eq_true h2
    exact decide_eq_true (by omega)) (fun a b => by
    by_cases h : a ≤ b
    · simp [h]
    · simp; omega)
  exact h.imp fun q => of_decide_eq_true q
section
variable {prog : Program} {w : World} {A : Around} {E : Value → Shared → Prop} {s : Shared}
theorem range_getD (vs : List Value) : (List.range vs.length).map (fun i => vs.getD i Value.none) = vs := by
  apply List.ext_getElem
  · simp
  · intro i h1 h2
    simp [List.getElem_map, h2]
theorem sort_gen {a : Addr} {vs : List Value} {n : Nat} {P : PySem.Fin → Shared → Prop} {κ : SortKind} {lt : Nat → Nat → Bool} (O : KOrd lt) (ho : s.heap.get? a = some (seqObj "list" vs.toArray n)) (h64 : vs.length < 64)
    (hk : 2 ≤ vs.length → ∀ h : Heap, (∀ b o, b ≠ a → s.heap.get? b = some o → h.get? b = some o) → ∀ Q : SortKind → Shared → Prop, Q κ { s with heap := h } → wpAny (model prog w) A (keyKind' vs.toArray) Q (fun _ _ => False) { s with heap := h })
    (hc : ∀ h : Heap, (∀ b o, b ≠ a → s.heap.get? b = some o → h.get? b = some o) → ∀ i j, i < vs.length → j < vs.length → ∀ C : Bool → Shared → Prop, C (lt i j) { s with heap := h } →
      wpAny (model prog w) A (keyLt' κ (vs.getD i Value.none) (vs.getD j Value.none)) C (fun _ _ => False) { s with heap := h })
    (fin : ∀ p : Array Nat, p.size = vs.length → p.Perm (List.toArray (List.range vs.length)) → Up lt p vs.length → P (.done (.ret .none)) { s with heap := sortedHeap s.heap a vs (List.toArray (p.toList.map fun i => vs.getD i Value.none)) }) :
    wpAny (model prog w) A (Builtin.«list.sort» ⟨[.ref a], []⟩) P E s := by
  rw [list_sort_plain]
  have hlt : a < s.heap.objs.size := Heap.lt_size ho
  have hzz : vs.toArray.size ≤ sizeLine := by rw [List.size_toArray, sizeLine_eq]; omega
  refine wpAny_bind (listItems_at ho rfl (wpAny_bind (listUpdate_at ho rfl ?_ hzz (Nat.zero_le _))))
  obtain ⟨e1, ho1⟩ : ∃ e1, (s.heap.update a (Obj.mapSeq fun _ => (#[] : Array Value))).get? a = some (seqObj "list" #[] e1) := ⟨_, get?_update_seq ho (fun _ => #[])⟩
  refine wpAny_bind (seqEpoch_at ho1 rfl (wpAny_bind (wpAny_newTuple (wpAny_bind (wpAny_newList (wpAny_holding ?_) (Nat.zero_le _))) (by show vs.length ≤ _; rw [sizeLine_eq]; omega))))
  generalize hS : ({ s with heap := ((s.heap.update a (Obj.mapSeq fun _ => (#[] : Array Value))).push (seqObj "tuple" vs.toArray 0)).push (seqObj "list" #[] 0) } : Shared) = S6
  have hh6 : S6.heap = ((s.heap.update a (Obj.mapSeq fun _ => (#[] : Array Value))).push (seqObj "tuple" vs.toArray 0)).push (seqObj "list" #[] 0) := by rw [← hS]
  have e6 : S6 = { s with heap := S6.heap } := by rw [← hS]
  have ho6 : S6.heap.get? a = some (seqObj "list" #[] e1) := by
    rw [hh6, Heap.get?_push_ne _ _ _ (by rw [size_push', Heap.size_update]; exact Nat.ne_of_lt (Nat.lt_succ_of_lt hlt)), Heap.get?_push_ne _ _ _ (by rw [Heap.size_update]; exact Nat.ne_of_lt hlt)]
    exact ho1
  have kept : ∀ b o, b ≠ a → s.heap.get? b = some o → S6.heap.get? b = some o := fun b o hb e => by
    rw [hh6]
    exact Heap.get?_push_of_some _ (Heap.get?_push_of_some _ ((Heap.get?_update_other _ _ (Ne.symm hb)).trans e))
  show wpAny (model prog w) A _ P E S6
  dsimp only
  have last : ∀ (st' : SortSt) (p : Array Nat), p.size = vs.length → p.Perm (List.toArray (List.range vs.length)) → Up lt p vs.length → (arrOf st').map (·.2) = List.toArray (p.toList.map fun i => vs.getD i Value.none) → failedOf st' = none →
      wpAny (model prog w) A (do
        let touched := (← seqEpoch a) != e1
        Builtin.List.listUpdate (.ref a) fun _ => (arrOf st').map (·.2)
        if let some e := failedOf st' then rule "list.sort.comparison-raised"; throw e
        if touched then rule "list.sort.modified"; raiseError "ValueError" "list modified during sort"
        ret .none) P E S6 := fun st' p h1 h2 h3 h4 h5 => by
    refine wpAny_bind (seqEpoch_at ho6 rfl ?_)
    refine wpAny_bind (listUpdate_at ho6 rfl ?_ (Nat.zero_le _) ?_)
    · rw [h5, h4]
      simp only [bne_self_eq_false, Bool.false_eq_true, if_false]
      have z := fin p h1 h2 h3
      unfold sortedHeap at z
      rw [← hh6] at z
      refine wpAny_pure ?_
      rw [e6]
      exact z
    · rw [h4]
      show (List.toArray (p.toList.map fun i => vs.getD i Value.none)).size ≤ sizeLine + 1
      rw [List.size_toArray, List.length_map, Array.length_toList, h1, sizeLine_eq]
      omega
  by_cases h2 : vs.toArray.size < 2
  · rw [if_pos h2, if_pos h2]
    refine wpAny_bind (wpAny_pure ?_)
    rw [StateT.run_pure]
    refine wpAny_bind (wpAny_pure ?_)
    dsimp only
    refine last (SortSt.mk' general' (vs.toArray.zip vs.toArray) #[] 7 none) (List.toArray (List.range vs.length)) (by simp) (Array.Perm.refl _) (fun i j hij hj => ?_) ?_ rfl
    · have : i = j := by rw [List.size_toArray] at h2; omega
      subst this
      exact O.irr _
    · rw [show (List.toArray (List.range vs.length)).toList = List.range vs.length from rfl, range_getD]
      apply Array.toList_inj.mp
      show ((vs.toArray.zip vs.toArray).map (·.2)).toList = vs
      apply List.ext_getElem
      · simp
      · intro i g1 g2
        simp
  · rw [if_neg h2, if_neg h2]
    have h2' : 2 ≤ vs.length := by rw [List.size_toArray] at h2; omega
    have zk := hk h2' S6.heap kept (fun κ' s' => κ' = κ ∧ s' = S6) ⟨rfl, e6.symm⟩
    rw [← e6] at zk
    refine wpAny_bind (wpAny_mono zk (fun κ' s' hq => ?_) fun _ _ x => x.elim)
    obtain ⟨hq1, hq2⟩ := hq
    rw [hq1, hq2]
    obtain ⟨p, ep, p1, p2, p3⟩ := sort_ok O (n := vs.length) (by omega)
    refine wpAny_bind (wpAny_mono (kat_run (ks := vs) (vs := vs) (Q := fun st' s' => ∃ q, q.size = vs.length ∧ arrOf st' = q.map (kas_item (vs.toArray.zip vs.toArray)) ∧ failedOf st' = none ∧ q = p ∧ s' = S6) rfl h2' h64 (fun q st' s' a1 a2 a3 a4 => ⟨q, a1, a2, a3, a4⟩)
      (kas_wp_run (lt := lt) (n := vs.length) (Ok := fun s' => s' = S6) (fun i j C s' hi hj hs hC => ?_) _ S6 (sort_in (by omega)) rfl (fun s' hs => ⟨ep, hs⟩))) ?_ fun _ _ e => e)
    · rw [hs]
      unfold kas_ask
      have z0 := hC S6 rfl
      rw [e6] at z0
      have z := hc S6.heap kept i j hi hj C z0
      rw [← e6] at z
      exact z
    · rintro ⟨⟨⟩, st'⟩ s' ⟨q, q1, q2, q3, hqp, hqs⟩
      rw [hqs]
      rw [hqp] at q2
      exact last st' p p1 p2 p3 (kat_snds rfl q2) q3
end
end L3
set_option Elab.async false
set_option linter.all false
set_option maxRecDepth 100000
set_option maxHeartbeats 4000000
namespace L3
open PySem PySem.Spec PyProof.Rows L2 PySem.SeqAt PySem.W
section
variable {prog : Program} {w : World} {A : Around} {E : Value → Shared → Prop} {s : Shared}
theorem gather_tup {l : Addr} {us : List Value} {Q : List Value → Shared → Prop} (ht : IsTup s.heap l us.toArray)
    (q : Q us { s with heap := (s.heap.push (seqObj "list" #[] 0)).update s.heap.objs.size (Obj.mapSeq (· ++ us.toArray)) }) (hz : us.length ≤ sizeLine) : wpAny (model prog w) A (collect (.ref l)) Q E s := by
  obtain ⟨ob, hob, hcl, n, hdt⟩ := id ht
  have hob2 : (s.heap.push (seqObj "list" #[] 0)).get? l = some ob := Heap.get?_push_of_some _ hob
  unfold collect
  refine wpAny_bind (wpAny_runValue (codeAny_builtin entry_proto_collect' (wpAny_bind (wpAny_newList (wpAny_pure ⟨Code.quiet_builtin _ (by decide +kernel), codeAny_builtin entry_list_iadd' ?_⟩)))))
  show wpAny _ _ (Builtin.List.listExtendWith (.ref s.heap.objs.size) (.ref l) (.ref s.heap.objs.size)) _ _ { s with heap := s.heap.push (seqObj "list" #[] 0) }
  unfold Builtin.List.listExtendWith
  refine wpAny_bind (wpAny_typeOf (T := "tuple") ⟨ob, hob2, hcl⟩ ?_)
  rw [if_pos (by rw [show (Value.type "tuple" == Value.type "tuple") = true by rfl]; simp)]
  refine wpAny_bind (listItems_at hob2 hdt (wpAny_bind (listItems_at (xs := #[]) (n := 0) (Heap.get?_push_size _ rfl) rfl ?_)))
  rw [if_neg (by simp)]
  refine wpAny_bind (listUpdate_at (xs := #[]) (n := 0) (Heap.get?_push_size _ rfl) rfl (wpAny_pure ?_) (Nat.zero_le _) (by show (#[] ++ us.toArray).size ≤ sizeLine + 1; simp only [Array.size_append, List.size_toArray, List.length_nil]; omega))
  refine wpAny_bind (wpAny_load (get?_update_seq (Heap.get?_push_size _ rfl) _) ?_)
  show wpAny _ _ (pure ((#[] : Array Value) ++ us.toArray).toList) Q E _
  rw [show ((#[] : Array Value) ++ us.toArray).toList = us by simp]
  exact wpAny_pure q
theorem sorted_gen {l : Addr} {us : List Value} {Q : Value → Shared → Prop} {κ : SortKind} {lt : Nat → Nat → Bool} (O : KOrd lt) (hl : s.heap.IsList l us.toArray ∨ IsTup s.heap l us.toArray) (h64 : us.length < 64)
    (hk : 2 ≤ us.length → ∀ h : Heap, (∀ b o, s.heap.get? b = some o → h.get? b = some o) → ∀ Q' : SortKind → Shared → Prop, Q' κ { s with heap := h } → wpAny (model prog w) A.in1.in1 (keyKind' us.toArray) Q' (fun _ _ => False) { s with heap := h })
    (hc : ∀ h : Heap, (∀ b o, s.heap.get? b = some o → h.get? b = some o) → ∀ i j, i < us.length → j < us.length → ∀ C : Bool → Shared → Prop, C (lt i j) { s with heap := h } →
      wpAny (model prog w) A.in1.in1 (keyLt' κ (us.getD i Value.none) (us.getD j Value.none)) C (fun _ _ => False) { s with heap := h })
    (fin : ∀ p : Array Nat, p.size = us.length → p.Perm (List.toArray (List.range us.length)) → Up lt p us.length → Q (.ref (s.heap.objs.size + 1)) { s with heap := sortedAll s.heap us (List.toArray (p.toList.map fun i => us.getD i Value.none)) }) :
    wpAny (model prog w) A (call (.builtin "sorted") [.ref l]) Q E s := by
  have hz : us.length ≤ sizeLine := by rw [sizeLine_eq]; omega
  have h1 : ((s.heap.push (seqObj "list" #[] 0)).update s.heap.objs.size (Obj.mapSeq (· ++ us.toArray))).objs.size = s.heap.objs.size + 1 := by rw [Heap.size_update, size_push']
  have h2 : (((s.heap.push (seqObj "list" #[] 0)).update s.heap.objs.size (Obj.mapSeq (· ++ us.toArray))).push (seqObj "list" us.toArray 0)).get? (s.heap.objs.size + 1) = some (seqObj "list" us.toArray 0) := by
    have e := Heap.get?_push_size ((s.heap.push (seqObj "list" #[] 0)).update s.heap.objs.size (Obj.mapSeq (· ++ us.toArray))) (o := seqObj "list" us.toArray 0) rfl
    rw [h1] at e
    exact e
  have h3 : ∀ b o, s.heap.get? b = some o → (((s.heap.push (seqObj "list" #[] 0)).update s.heap.objs.size (Obj.mapSeq (· ++ us.toArray))).push (seqObj "list" us.toArray 0)).get? b = some o := fun b o e =>
    Heap.get?_push_of_some _ ((Heap.get?_update_other _ _ (Ne.symm (Nat.ne_of_lt (Heap.lt_size e)))).trans (Heap.get?_push_of_some _ e))
  refine Calls.call_function_entry kind_sorted plain_sorted entry_sorted (args_sorted1 _) ?_
  unfold Builtin.«sorted»
  refine wpAny_bind (m := checkCount "sorted" 1 1 _) (wpAny_pure ?_)
  have col : ∀ {A' : Around} {E' : Value → Shared → Prop} {Q' : List Value → Shared → Prop}, Q' us { s with heap := (s.heap.push (seqObj "list" #[] 0)).update s.heap.objs.size (Obj.mapSeq (· ++ us.toArray)) } → wpAny (model prog w) A' (collect (.ref l)) Q' E' s := fun q => by
    rcases hl with hl | hl
    · exact collect_list hl q hz
    · exact gather_tup hl q hz
  refine wpAny_bind (col (wpAny_bind (wpAny_newList ?_ hz)))
  show wpAny _ _ _ _ _ { s with heap := ((s.heap.push (seqObj "list" #[] 0)).update s.heap.objs.size (Obj.mapSeq (· ++ us.toArray))).push (seqObj "list" us.toArray 0) }
  rw [h1]
  refine wpAny_bind (wpAny_holding (wpAny_call_entry slot_list_sort ⟨_, h2, rfl⟩ entry_list_sort (sort_gen (κ := κ) O h2 h64 (fun g2 h hkp Q' q' => hk g2 h (fun b o e => hkp b o (Nat.ne_of_lt (Nat.lt_succ_of_lt (Heap.lt_size e))) (h3 b o e)) Q' q')
    (fun h hkp i j hi hj C hC => hc h (fun b o e => hkp b o (Nat.ne_of_lt (Nat.lt_succ_of_lt (Heap.lt_size e))) (h3 b o e)) i j hi hj C hC) (fun p a1 a2 a3 => ⟨_, rfl, wpAny_pure ⟨_, rfl, fin p a1 a2 a3⟩⟩)) (args_list_sort _)))
theorem lex_ask {b : Bool} {Q : Bool → Shared → Prop} : ∀ {us ws : List Value} {ns ms : List Int}, IntsAre us ns → IntsAre ws ms → ∀ (i : Nat) (fin : Bool), fin = decide (ns.length < ms.length) → Q (HT.lexLt ns ms) s →
    KatLex prog w A b fin Q (us.zip ws) i s
  | _, _, _, _, .nil, .nil, i, fin, e, q => by
    subst e
    exact kat_nil q
  | _, _, _, _, .nil, .cons m t h, i, fin, e, q => by
    have e' : fin = true := by rw [e]; simp
    rw [e']
    exact kat_nil q
  | _, _, _, _, .cons n t h, .nil, i, fin, e, q => by
    have e' : fin = false := by rw [e]; simp
    rw [e']
    exact kat_nil q
  | _, _, _, _, .cons n t h, .cons m t' h', i, fin, e, q => by
    rw [List.zip_cons_cons]
    refine kat_cons (EqAt.int_int n t m t' prog w _ _ ?_)
    rw [HT.lexLt_cons] at q
    by_cases hnm : n = m
    · rw [show (n == m) = true by simpa using hnm]
      rw [if_pos hnm] at q
      exact kat_yes (lex_ask h h' (i + 1) fin (by rw [e]; simp) q)
    · rw [show (n == m) = false by simpa using hnm]
      rw [if_neg hnm] at q
      refine kat_no ?_
      cases (b && i == 0) with
      | true => exact oneLt_int q
      | false => exact kat_one _ _ (lt_int q)
end
def tupsOf : List D → Option (List (List Int))
  | [] => some []
  | .tup xs :: r => (match intsOf xs with | some (n :: ns) => (tupsOf r).map ((n :: ns) :: ·) | _ => none)
  | _ :: _ => none
theorem tupsOf_some : ∀ {ds : List D} {nss : List (List Int)}, tupsOf ds = some nss → ds = nss.map (fun ns => D.tup (ns.map D.int)) ∧ ∀ ns ∈ nss, ns ≠ []
  | [], nss, e => by cases e; exact ⟨rfl, fun _ h => by simp at h⟩
  | .tup xs :: r, nss, e => by
    unfold tupsOf at e
    split at e
    · rename_i n ns h1
      obtain ⟨mss, h2, rfl⟩ := Option.map_eq_some_iff.mp e
      obtain ⟨h3, h4⟩ := tupsOf_some h2
      refine ⟨by rw [h3, intsOf_some h1]; rfl, fun ms hm => ?_⟩
      rcases List.mem_cons.mp hm with z | z
      · rw [z]; simp
      · exact h4 ms z
    · cases e
  | .non :: r, _, e => by unfold tupsOf at e; cases e
  | .bl _ :: r, _, e => by unfold tupsOf at e; cases e
  | .str _ :: r, _, e => by unfold tupsOf at e; cases e
  | .int _ :: r, _, e => by unfold tupsOf at e; cases e
  | .lst _ :: r, _, e => by unfold tupsOf at e; cases e
theorem tupsOf_map : ∀ {nss : List (List Int)}, (∀ ns ∈ nss, ns ≠ []) → tupsOf (nss.map fun ns => D.tup (ns.map D.int)) = some nss
  | [], _ => rfl
  | ns :: nss, h => by
    cases ns with
    | nil => exact absurd rfl (h [] List.mem_cons_self)
    | cons n ns =>
      rw [List.map_cons, tupsOf, intsOf_map]
      dsimp only
      rw [tupsOf_map fun ms hm => h ms (List.mem_cons_of_mem _ hm)]
      rfl
def sortD (ds : List D) : Option (List D) := if ds.length < 64 then
    (match intsOf ds with
    | some ns => some ((sortI ns).map D.int)
    | none => (match tupsOf ds with | some nss => some ((sortT nss).map fun ns => D.tup (ns.map D.int)) | none => none))
  else none
section
variable {X : Cx}
theorem mapsN {α : Type} {p : Array Nat} {us : List α} {d : α} (hp : p.Perm (List.toArray (List.range us.length))) : (p.toList.map fun i => us.getD i d).Perm us := by
  have h1 : p.toList.Perm (List.range us.length) := Array.perm_iff_toList_perm.mp hp
  have h2 := h1.map (fun i => us.getD i d)
  have h3 : (List.range us.length).map (fun i => us.getD i d) = us := by
    apply List.ext_getElem
    · simp
    · intro i g1 g2
      simp [List.getElem_map, g2]
  rw [h3] at h2
  exact h2
theorem pickR {K : PySem.W.Frag} {H : Hp} {ds : List D} {xs : List V} (h : RepL K H ds xs) : ∀ is : List Nat, (∀ i ∈ is, i < ds.length) → RepL K H (is.map fun i => ds.getD i .non) (is.map fun i => xs.getD i .non)
  | [], _ => RepL.nil
  | i :: is, hi => by
    have h1 : i < ds.length := hi i List.mem_cons_self
    obtain ⟨v, e, r⟩ := h.get (List.getElem?_eq_getElem h1)
    rw [List.map_cons, List.map_cons]
    refine RepL.cons ?_ (pickR h is fun j hj => hi j (List.mem_cons_of_mem _ hj))
    rw [getD_at (List.getElem?_eq_getElem h1), getD_at e]
    exact r
theorem pickV {xs : List V} {us : List Value} (h : Vals xs us) : ∀ is : List Nat, (∀ i ∈ is, i < xs.length) → Vals (is.map fun i => xs.getD i .non) (is.map fun i => us.getD i Value.none)
  | [], _ => .nil
  | i :: is, hi => by
    have h1 : i < xs.length := hi i List.mem_cons_self
    obtain ⟨v, e, r⟩ := h.get (List.getElem?_eq_getElem h1)
    rw [List.map_cons, List.map_cons]
    refine .cons ?_ (pickV h is fun j hj => hi j (List.mem_cons_of_mem _ hj))
    rw [getD_at (List.getElem?_eq_getElem h1), getD_at e]
    exact r
theorem perm_lt {p : Array Nat} {n : Nat} (hp : p.Perm (List.toArray (List.range n))) : ∀ i ∈ p.toList, i < n := fun i hi => by
  have := (Array.perm_iff_toList_perm.mp hp).mem_iff.mp hi
  simpa using this
theorem up_pairwise {lt : Nat → Nat → Bool} {p : Array Nat} {n : Nat} (hz : p.size = n) (h : Up lt p n) : p.toList.Pairwise fun i j => lt j i = false := by
  rw [List.pairwise_iff_getElem]
  intro i j hi hj hij
  have hi' : i < p.size := by simpa using hi
  have hj' : j < p.size := by simpa using hj
  have e := h i j (Nat.le_of_lt hij) (by omega)
  unfold gt at e
  have e1 : p.getD i 0 = p.toList[i] := by simp [Array.getD, hi']
  have e2 : p.getD j 0 = p.toList[j] := by simp [Array.getD, hj']
  rw [e1, e2] at e
  exact e
end
end L3
set_option Elab.async false
set_option linter.all false
set_option maxRecDepth 100000
set_option maxHeartbeats 400000
namespace L3
open PySem PySem.Spec PyProof.Rows L2 PySem.SeqAt PySem.W
section
variable {X : Cx}
theorem kind_ints : ∀ {its : List Value} {ns : List Int}, IntsAre its ns → 2 ≤ its.length → keyKind' its.toArray = pure oneType'
  | [], _, _, h => absurd h (by simp)
  | [_], _, _, h => absurd h (by simp)
  | v1 :: v2 :: r, ns, hi, _ => keyKind_ints hi
theorem at_ints {its : List Value} {ns : List Int} (hi : IntsAre its ns) {i : Nat} (h : i < its.length) : ∃ t, its.getD i Value.none = .int (ns.getD i 0) t := by
  have hl := hi.length
  have h2 : i < ns.length := by omega
  obtain ⟨t, e⟩ := hi.get i ns[i] (List.getElem?_eq_getElem h2)
  exact ⟨t, by rw [getD_at e, getD_at (List.getElem?_eq_getElem h2)]⟩
theorem ord_ints (ns : List Int) : KOrd (fun i j => decide (ns.getD i 0 < ns.getD j 0)) :=
  ⟨fun i j h => by
    have := of_decide_eq_true h
    exact decide_eq_false (by omega), fun i j k h1 h2 => by
    have := of_decide_eq_false h1
    have := of_decide_eq_false h2
    exact decide_eq_false (by omega)⟩
theorem ord_tups (nss : List (List Int)) : KOrd (fun i j => HT.lexLt (nss.getD i []) (nss.getD j [])) :=
  ⟨fun i j h => lexLt_asym _ _ h, fun i j k h1 h2 => lexLt_tr _ _ _ h1 h2⟩
theorem out_ints {ns : List Int} {p : Array Nat} (p1 : p.size = ns.length) (p2 : p.Perm (List.toArray (List.range ns.length))) (p3 : Up (fun i j => decide (ns.getD i 0 < ns.getD j 0)) p ns.length) :
    (p.toList.map fun i => (ns.map D.int).getD i .non) = (sortI ns).map D.int := by
  have e : (p.toList.map fun i => (ns.map D.int).getD i .non) = (p.toList.map fun i => ns.getD i 0).map D.int := by
    rw [List.map_map]
    apply List.map_congr_left
    intro i hi
    have h2 : i < ns.length := perm_lt p2 i hi
    show (ns.map D.int).getD i .non = D.int (ns.getD i 0)
    rw [getD_at (x := D.int ns[i]) (by rw [List.getElem?_map, List.getElem?_eq_getElem h2]; rfl), getD_at (List.getElem?_eq_getElem h2)]
  rw [e]
  congr 1
  refine sorted_one (le := fun a b : Int => a ≤ b) (fun a b h1 h2 => by omega) ((mapsN p2).trans (sortI_perm ns).symm) ?_ (sortI_up ns) (fun a => Int.le_refl a)
  rw [List.pairwise_map]
  exact (up_pairwise p1 p3).imp fun h => by
    have := of_decide_eq_false h
    omega
theorem out_tups {nss : List (List Int)} {p : Array Nat} (p1 : p.size = nss.length) (p2 : p.Perm (List.toArray (List.range nss.length))) (p3 : Up (fun i j => HT.lexLt (nss.getD i []) (nss.getD j [])) p nss.length) :
    (p.toList.map fun i => (nss.map fun ns => D.tup (ns.map D.int)).getD i .non) = (sortT nss).map fun ns => D.tup (ns.map D.int) := by
  have e : (p.toList.map fun i => (nss.map fun ns => D.tup (ns.map D.int)).getD i .non) = (p.toList.map fun i => nss.getD i []).map fun ns => D.tup (ns.map D.int) := by
    rw [List.map_map]
    apply List.map_congr_left
    intro i hi
    have h2 : i < nss.length := perm_lt p2 i hi
    show (nss.map fun ns => D.tup (ns.map D.int)).getD i .non = D.tup ((nss.getD i []).map D.int)
    rw [getD_at (x := D.tup (nss[i].map D.int)) (by rw [List.getElem?_map, List.getElem?_eq_getElem h2]; rfl), getD_at (List.getElem?_eq_getElem h2)]
  rw [e]
  congr 1
  refine sorted_one (le := fun a b : List Int => HT.lexLt b a = false) (fun a b h1 h2 => lexLt_eq a b h2 h1) ((mapsN p2).trans (sortT_perm nss).symm) ?_ (sortT_up nss) (fun a => lexLt_irr a)
  rw [List.pairwise_map]
  exact (up_pairwise p1 p3).imp fun h => h
theorem tup_at {pins : List (Addr × Obj)} {σ : St} {H : Hp} {s : Shared} (I : Inv X pins σ H s) {ns : List Int} {x : V} {u : Value} (hr : Rep X.K H (D.tup (ns.map D.int)) x) (rv : RelV x u) :
    ∃ a o its n, u = .ref a ∧ s.heap.get? a = some o ∧ o.cls = .type "tuple" ∧ o.data = .seq its n ∧ IntsAre its.toList ns := by
  obtain ⟨a, xs, rfl, h1, h2⟩ := rep_tup.mp hr
  rw [repl_ints] at h2
  subst h2
  cases rv
  obtain ⟨its, r, p, _⟩ := I.tuple h1
  obtain ⟨o, ho, hc, n, hd⟩ := p
  exact ⟨a, o, its.toArray, n, rfl, ho, hc, hd, intsAre_of r⟩
theorem kat_of {pins : List (Addr × Obj)} {σ : St} {H : Hp} {s : Shared} (I : Inv X pins σ H s) {h : Heap} (hk : ∀ b o, s.heap.get? b = some o → h.get? b = some o) : ∀ {nss : List (List Int)} {us : List V} {its : List Value}, (∀ ns ∈ nss, ns ≠ []) →
    RepL X.K H (nss.map fun ns => D.tup (ns.map D.int)) us → Vals us its → ∃ fs, KatTups h its fs ∧ fs.length = its.length ∧ ∀ v ∈ fs, ∃ n t, v = Value.int n t
  | [], us, its, _, hr, rv => by
    rw [List.map_nil, repl_nil] at hr
    subst hr
    cases rv
    exact ⟨[], KatTups.nil, rfl, fun v hv => by simp at hv⟩
  | ns :: nss, us, its, hne, hr, rv => by
    rw [List.map_cons, repl_cons] at hr
    obtain ⟨x, xs, rfl, h1, h2⟩ := hr
    cases rv with
    | cons r1 r2 =>
      obtain ⟨fs, t1, t2, t3⟩ := kat_of I hk (fun ms hm => hne ms (List.mem_cons_of_mem _ hm)) h2 r2
      obtain ⟨a, o, js, n, rfl, ho, hc, hd, hi⟩ := tup_at I h1 r1
      cases ns with
      | nil => exact absurd rfl (hne [] List.mem_cons_self)
      | cons m ms =>
        obtain ⟨t, e⟩ := hi.get 0 m rfl
        have e' : js[0]? = some (Value.int m t) := by simpa using e
        refine ⟨Value.int m t :: fs, KatTups.cons (hk _ _ ho) hc hd e' t1, by simp [t2], fun v hv => ?_⟩
        rcases List.mem_cons.mp hv with z | z
        · exact ⟨m, t, z⟩
        · exact t3 v z
def rSort (K : PySem.W.Frag) : List V → Hp → VK → Prop := fun xs H Q => ∃ a us ds es Hh, xs = [.ref a] ∧ Same Hh H ∧ (SqL K H a us ∨ SqT K H a us) ∧ RepL K Hh ds us ∧ sortD ds = some es ∧ ∀ p ys, H p = none → RepL K Hh es ys → Q (.ref p) (upd H p (.lst ys))
theorem call_sorted : CallR X (.builtin "sorted") (rSort X.K) := by
  intro pins s σ H xs vs Q I r h
  obtain ⟨a, us, ds, es, Hh, rfl, sH, hq, hr0, hs, q⟩ := h
  have hr := hr0.mono sH
  obtain ⟨u, rfl, ru⟩ := vals1 r
  cases ru
  have src : ∃ its : List Value, Vals us its ∧ (s.heap.IsList a its.toArray ∨ IsTup s.heap a its.toArray) := by
    rcases hq with hq | hq
    · obtain ⟨its, rv, pl, _⟩ := I.list hq
      exact ⟨its, rv, .inl pl.isList⟩
    · obtain ⟨its, rv, pl, _⟩ := I.tuple hq
      exact ⟨its, rv, .inr pl⟩
  obtain ⟨its, rv, hl⟩ := src
  have l1 := hr.length
  have l2 := rv.length
  unfold sortD at hs
  split at hs
  · rename_i h64
    have fin : ∀ p : Array Nat, p.size = its.length → p.Perm (List.toArray (List.range its.length)) → (p.toList.map fun i => ds.getD i .non) = es →
        EP X pins σ Q (.ref (s.heap.objs.size + 1)) { s with heap := sortedAll s.heap its (List.toArray (p.toList.map fun i => its.getD i Value.none)) } := fun p p1 p2 p3 => by
      have pl : ∀ i ∈ p.toList, i < its.length := perm_lt p2
      have v1 : Vals (p.toList.map fun i => us.getD i .non) (p.toList.map fun i => its.getD i Value.none) := pickV rv _ fun i hi => by have := pl i hi; omega
      have v2 : RepL X.K Hh es (p.toList.map fun i => us.getD i .non) := by
        rw [← p3]
        exact pickR hr0 _ fun i hi => by have := pl i hi; omega
      obtain ⟨e, he⟩ := sortedAll_at s.heap its (List.toArray (p.toList.map fun i => its.getD i Value.none))
      have hfr : H (s.heap.objs.size + 1) = none := I.hok.fresh (Nat.le_succ _)
      refine ⟨.ref (s.heap.objs.size + 1), _, I.laid (t' := s.toks) (a := s.heap.objs.size + 1) (o := .lst (p.toList.map fun i => us.getD i .non)) (fun b o hb => sortedAll_old hb) (Nat.le_succ _) ?_, rfl, q _ _ hfr v2⟩
      refine ⟨?_, _, e, v1, he⟩
      rw [List.length_map, Array.length_toList, p1, sizeLine_eq]
      omega
    split at hs
    · rename_i ns hn
      cases hs
      have hd := intsOf_some hn
      subst hd
      have hus := repl_ints.mp hr
      subst hus
      have hi : IntsAre its ns := intsAre_of rv
      have hz : its.length = ns.length := hi.length
      refine sorted_gen (κ := oneType') (ord_ints ns) hl (by omega) (fun g2 h hkp Q' q' => ?_) (fun h hkp i j hi' hj' C hC => ?_) (fun p p1 p2 p3 => fin p p1 p2 (out_ints (by rw [p1, hz]) (by rw [← hz]; exact p2) (by rw [← hz]; exact p3)))
      · rw [kind_ints hi g2]
        exact wpAny_pure q'
      · obtain ⟨ti, ei⟩ := at_ints hi hi'
        obtain ⟨tj, ej⟩ := at_ints hi hj'
        rw [ei, ej, keyLt'_oneType]
        exact oneLt_int hC
    · split at hs
      · rename_i nss hn
        cases hs
        obtain ⟨hd, hne⟩ := tupsOf_some hn
        subst hd
        have hz : its.length = nss.length := by rw [← l2, ← l1, List.length_map]
        refine sorted_gen (κ := tuples' (Value.type "int" != Value.type "tuple")) (ord_tups nss) hl (by omega) (fun g2 h hkp Q' q' => ?_) (fun h hkp i j hi' hj' C hC => ?_) (fun p p1 p2 p3 => fin p p1 p2 (out_tups (by rw [p1, hz]) (by rw [← hz]; exact p2) (by rw [← hz]; exact p3)))
        · obtain ⟨fs, t1, t2, t3⟩ := kat_of I hkp hne hr rv
          refine kat_kind (s := { s with heap := h }) t1 (by omega) (fun v hv => ?_) rfl q'
          obtain ⟨n, t, rfl⟩ := t3 v hv
          exact Looks.of_pure rfl
        · have gi : i < nss.length := by omega
          have gj : j < nss.length := by omega
          obtain ⟨xi, e1, r1⟩ := hr.get (i := i) (d := D.tup (nss[i].map D.int)) (by rw [List.getElem?_map, List.getElem?_eq_getElem gi]; rfl)
          obtain ⟨xj, e2, r2⟩ := hr.get (i := j) (d := D.tup (nss[j].map D.int)) (by rw [List.getElem?_map, List.getElem?_eq_getElem gj]; rfl)
          obtain ⟨ui, f1, s1⟩ := rv.get e1
          obtain ⟨uj, f2, s2⟩ := rv.get e2
          obtain ⟨ai, oi, ji, ni, rfl, hoi, hci, hdi, ii⟩ := tup_at I r1 s1
          obtain ⟨aj, oj, jj, nj, rfl, hoj, hcj, hdj, ij⟩ := tup_at I r2 s2
          rw [getD_at f1, getD_at f2]
          rw [getD_at (List.getElem?_eq_getElem gi), getD_at (List.getElem?_eq_getElem gj)] at hC
          refine kat_lt (s := { s with heap := h }) (hkp _ _ hoi) hdi (hkp _ _ hoj) hdj (lex_ask ii ij 0 _ ?_ hC)
          have a1 := ii.length
          have a2 := ij.length
          rw [Array.length_toList] at a1 a2
          rw [a1, a2]
      · cases hs
  · cases hs
end
end L3
set_option Elab.async false
set_option linter.all false
set_option maxRecDepth 100000
set_option maxHeartbeats 4000000
namespace L3
open PySem PySem.Spec PyProof.Rows L2 PySem.SeqAt
def RdC (K : PySem.W.Frag) (r : List V → Hp → VK → Prop) (F : List D → Option D) : Prop :=
  ∀ ds d, F ds = some d → ∀ (Z : List Addr) (H : Hp) (vs : List V) (Q : VK), (∀ z ∈ Z, ∃ o, H z = some o) → RepL K (hide Z H) ds vs → (∀ w' H', Same H H' → Rep K (hide Z H') d w' → Q w' H') → r vs H Q
def RdQ (K : PySem.W.Frag) (r : List V → Hp → VK → Prop) (F : List D → Option D) : Prop :=
  ∀ ds d, F ds = some d → ∀ (Z : List Addr) (H : Hp) (a : Addr) (xs : List V) (Q : VK), (∀ z ∈ Z, ∃ o, H z = some o) → (SqL K H a xs ∨ SqT K (hide Z H) a xs) → RepL K (hide Z H) ds xs → (∀ w' H', Same H H' → Rep K (hide Z H') d w' → Q w' H') → r [.ref a] H Q
def RdQF (K : PySem.W.Frag) (r : List V → Hp → VK → Prop) (F : List D → Option (List D)) : Prop :=
  ∀ ds es, F ds = some es → ∀ (Z : List Addr) (H : Hp) (a : Addr) (xs : List V) (Q : VK), (∀ z ∈ Z, ∃ o, H z = some o) → (SqL K H a xs ∨ SqT K (hide Z H) a xs) → RepL K (hide Z H) ds xs →
    (∀ l ys H', Same H H' → H l = none → H' l = some (.lst ys) → RepL K (hide (l :: Z) H') es ys → Q (.ref l) H') → r [.ref a] H Q
def dQ (F : List D → Option D) (f : DEnv → Option (List D)) : DEnv → Option D := fun ρ => match f ρ with | some ds => F ds | none => none
def dQF (F : List D → Option (List D)) (f : DEnv → Option (List D)) : DEnv → Option (List D) := fun ρ => match f ρ with | some ds => F ds | none => none
section
variable {X : Cx} {x : Str} {p pos : Pos} {e : Expr} {es : List Expr} {id T : String} {r : List V → Hp → VK → Prop} {F : List D → Option D} {FL : List D → Option (List D)} {g f : DEnv → Option (List D)}
theorem callC_imp {K : PySem.W.Frag} (hr : RdC K r F) : ∀ σ H Q, tD K (dCall F g) σ H Q → tCB r (tL K g) σ H Q := fun σ H Q ⟨ρ, d, B, H0, V0, Z, e, r', q⟩ => by
  unfold dCall at e
  split at e
  · rename_i ds eds
    exact ⟨ρ, ds, B, H0, V0, Z, eds, r', fun vs H1 s1 rr => hr ds d e Z H1 vs Q (r'.mono s1).zs rr fun w' H' s rw' => q w' H' (s1.trans s) rw'⟩
  · cases e
theorem se_callB (hc : CallR X (.builtin id) r) (hr : RdC X.K r F) (hm : X.mg x = none) (hv : bootBuiltins x = some (.builtin id)) (ha : SA X (e :: es) g) (hg : Gl X x := by rfl) (hn : x ≠ "__name__" := by decide) (hdb : (x == ("__debug__" : Str)) = false := by decide)
    (he : starEach (e :: es) X.env = (false, eval e X.env) :: starEach es X.env := by exact star_of rfl) (hpl : (backTo pos (starEach es X.env)).any (·.1) = false := by exact back_of rfl) : SE X (.Call (.Name x p) (e :: es) [] pos) (dCall F g) :=
  pe_weak (pe_callB hc hg hm hv ha hn hdb he hpl) (callC_imp hr)
theorem se_callTy (hc : CallR X (.type T) r) (hr : RdC X.K r F) (hm : X.mg x = none) (hv : bootBuiltins x = some (.type T)) (ha : SA X (e :: es) g) (hg : Gl X x := by rfl) (hn : x ≠ "__name__" := by decide) (hdb : (x == ("__debug__" : Str)) = false := by decide)
    (he : starEach (e :: es) X.env = (false, eval e X.env) :: starEach es X.env := by exact star_of rfl) (hpl : (backTo pos (starEach es X.env)).any (·.1) = false := by exact back_of rfl) : SE X (.Call (.Name x p) (e :: es) [] pos) (dCall F g) :=
  pe_weak (pe_callTy hc hg hm hv ha hn hdb he hpl) (callC_imp hr)
theorem callQF_imp {K : PySem.W.Frag} (hr : RdQF K r FL) : ∀ σ H Q, tF K (dQF FL f) σ H Q → tCB r (tCons (tQ K f) tNil) σ H Q := fun σ H Q ⟨ρ, d, B, H0, V0, Z, e, r', q⟩ => by
  unfold dQF at e
  split at e
  · rename_i ds eds
    exact ⟨ρ, ds, B, H0, V0, Z, eds, r', fun a xs H1 s1 hq rr => hr ds d e Z H1 a xs Q (r'.mono s1).zs hq rr fun l ys H' s hn hl rw' => q l ys H' (s1.trans s) (s1.free hn) hl rw'⟩
  · cases e
theorem sf_callQ (hc : CallR X (.builtin id) r) (hr : RdQF X.K r FL) (hm : X.mg x = none) (hv : bootBuiltins x = some (.builtin id)) (h : SQ X e f) (hg : Gl X x := by rfl) (hn : x ≠ "__name__" := by decide) (hdb : (x == ("__debug__" : Str)) = false := by decide)
    (he : starEach [e] X.env = (false, eval e X.env) :: starEach [] X.env := by exact star_of rfl) (hpl : (backTo pos (starEach [] X.env)).any (·.1) = false := by exact back_of rfl) : SF X (.Call (.Name x p) [e] [] pos) (dQF FL f) :=
  pe_weak (pe_callB hc hg hm hv (pa_cons h pa_nil he) hn hdb he hpl) (callQF_imp hr)
theorem sf_callQTy (hc : CallR X (.type T) r) (hr : RdQF X.K r FL) (hm : X.mg x = none) (hv : bootBuiltins x = some (.type T)) (h : SQ X e f) (hg : Gl X x := by rfl) (hn : x ≠ "__name__" := by decide) (hdb : (x == ("__debug__" : Str)) = false := by decide)
    (he : starEach [e] X.env = (false, eval e X.env) :: starEach [] X.env := by exact star_of rfl) (hpl : (backTo pos (starEach [] X.env)).any (·.1) = false := by exact back_of rfl) : SF X (.Call (.Name x p) [e] [] pos) (dQF FL f) :=
  pe_weak (pe_callTy hc hg hm hv (pa_cons h pa_nil he) hn hdb he hpl) (callQF_imp hr)
end
section
variable {X : Cx} {p pos : Pos} {e : Expr} {f : DEnv → Option (List D)}
theorem newer_of {Z : List Addr} {H : Hp} (zs : ∀ z ∈ Z, ∃ o, H z = some o) {l : Addr} (hl : H l = none) : l ∉ Z := fun z => by
  obtain ⟨o, ho⟩ := zs _ z
  rw [hl] at ho; cases ho
theorem rd_sorted {K : PySem.W.Frag} : RdQF K (rSort K) sortD := by
  intro ds es hs Z H a xs Q zs hq rr q
  refine ⟨a, xs, ds, es, hide Z H, rfl, hide_sub, hq.imp id (sqt_same hide_sub), rr, hs, fun l ys hl ry => ?_⟩
  exact q l ys _ (same_upd hl) hl upd_same (ry.mono (hide_laid hl (same_upd hl)))
theorem sf_sorted (hm : X.mg "sorted" = none) (h : SQ X e f) (hg : Gl X "sorted" := by rfl) (hv : bootBuiltins "sorted" = some (.builtin "sorted") := by decide +kernel)
    (he : starEach [e] X.env = (false, eval e X.env) :: starEach [] X.env := by exact star_of rfl) (hpl : (backTo pos (starEach [] X.env)).any (·.1) = false := by exact back_of rfl) : SF X (.Call (.Name "sorted" p) [e] [] pos) (dQF sortD f) :=
  sf_callQ call_sorted rd_sorted hm hv h hg (by decide) (by decide) he hpl
theorem rd_list {K : PySem.W.Frag} : RdQF K (fun xs H Q => ∃ p ys, xs = [.ref p] ∧ (SqL K H p ys ∨ SqT K H p ys) ∧ ∀ l, H l = none → Q (.ref l) (upd H l (.lst ys))) some := by
  intro ds es hs Z H a xs Q zs hq rr q
  cases hs
  refine ⟨a, xs, rfl, hq.imp id (sqt_same hide_sub), fun l hl => ?_⟩
  exact q l xs _ (same_upd hl) hl upd_same (rr.mono (hide_laid hl (same_upd hl)))
theorem sf_list (hm : X.mg "list" = none) (h : SQ X e f) (hg : Gl X "list" := by rfl) (hv : bootBuiltins "list" = some (.type "list") := by decide +kernel)
    (he : starEach [e] X.env = (false, eval e X.env) :: starEach [] X.env := by exact star_of rfl) (hpl : (backTo pos (starEach [] X.env)).any (·.1) = false := by exact back_of rfl) : SF X (.Call (.Name "list" p) [e] [] pos) (dQF some f) :=
  sf_callQTy call_list_of rd_list hm hv h hg (by decide) (by decide) he hpl
def rAll (K : PySem.W.Frag) : List V → Hp → VK → Prop := fun xs H Q => ∃ p, ∃ bs : List Bool, xs = [.ref p] ∧ SqL K H p (bs.map V.bl) ∧ Q (.bl (bs.all id)) H
def blsOf : List D → Option (List Bool)
  | [] => some []
  | .bl b :: r => (blsOf r).map (b :: ·)
  | _ :: _ => none
def dAll (f : DEnv → Option (List D)) : DEnv → Option D := fun ρ => match f ρ with | some ds => (match blsOf ds with | some bs => some (.bl (bs.all id)) | none => none) | none => none
def tyN : D → String
  | .non => "NoneType"
  | .bl _ => "bool"
  | .int _ => "int"
  | .str _ => "str"
  | .tup _ => "tuple"
  | .lst _ => "list"
  | .dct _ _ => "dict"
def isTy (T : String) (d : D) : Bool := tyN d == T || (T == "int" && tyN d == "bool")
def rIsi (K : PySem.W.Frag) (T : String) : List V → Hp → VK → Prop := fun xs H Q => ∃ x d, xs = [x, .ty T] ∧ Rep K H d x ∧ Q (.bl (isTy T d)) H
def Kit (T : String) : Prop := ∀ (K : PySem.W.Frag) (d : D), PySem.W.kitOne K (.type (tyN d)) (.type T) = some (isTy T d)
def dIsi (T : String) (f : DEnv → Option D) : DEnv → Option D := fun ρ => match f ρ with | some d => some (.bl (isTy T d)) | none => none
end
end L3
set_option Elab.async false
set_option linter.all false
set_option maxRecDepth 100000
set_option maxHeartbeats 4000000
namespace L3
open PySem PySem.Spec PyProof.Rows L2 PySem.SeqAt
section
variable {X : Cx} {p p2 pos pos2 : Pos} {a b e : Expr} {f : DEnv → Option (List D)} {fa fb : DEnv → Option D}
def rRange1 : List V → Hp → VK → Prop := fun xs H Q => ∃ j : Int, xs = [.int j] ∧ ∀ p, H p = none → Q (.ref p) (upd H p (.rng 0 j))
theorem call_range1 : CallR X (.type "range") rRange1 := by
  intro pins s σ H xs us Q I r h
  obtain ⟨j, rfl, q⟩ := h
  obtain ⟨u, rfl, ru⟩ := vals1 r
  obtain ⟨t, rfl⟩ := ru
  exact call_range_1 ⟨.ref s.heap.objs.size, _, I.laid (o := .rng 0 j) (fun b o e => Heap.get?_push_of_some _ e) (Nat.le_refl _) ⟨_, _, _, Heap.get?_push_size _ rfl⟩, rfl, q _ I.fresh⟩
def iUp (lo : Int) (n : Nat) : List Int := (List.range n).map fun (k : Nat) => lo + (k : Int)
def rListRng : List V → Hp → VK → Prop := fun xs H Q => ∃ p, ∃ j : Int, xs = [.ref p] ∧ H p = some (.rng 0 j) ∧ -(2 ^ 62) ≤ j ∧ j ≤ 1000000 ∧ ∀ l, H l = none → Q (.ref l) (upd H l (.lst ((iUp 0 j.toNat).map V.int)))
theorem call_list_rng (hc : X.calm = true) : CallR X (.type "list") rListRng := by
  intro pins s σ H xs us Q I r h
  obtain ⟨p, j, rfl, hp, h1, h2, q⟩ := h
  obtain ⟨u, rfl, ru⟩ := vals1 r
  cases ru
  obtain ⟨t, u, v, ho⟩ := (show ObjOk X.prog X.w H s.heap p (.rng 0 j) from I.hok p _ hp)
  have hn : Builtin.Range.rangeSize 0 j 1 = ((j.toNat : Nat) : Int) := by rw [rangeSize_one]; split <;> omega
  refine call_list_range (I.ok.hd hc) ho (small_one (by omega) (by omega) h1 (by omega)) hn (by omega) fun h' tk acc' c' hk hS' hacc => ?_
  refine ⟨.ref s.heap.objs.size, _, I.laid (o := .lst ((iUp 0 j.toNat).map V.int)) hk (Nat.le_refl _) ⟨?_, acc'.toList, c', ?_, ?_⟩, rfl, q _ I.fresh⟩
  · unfold iUp
    rw [List.length_map, List.length_map, List.length_range, sizeLine_eq]; omega
  · have hv : ∀ (n : Nat) (acc : List Value) (lo : Nat), acc.length = n → (∀ (i : Nat) v, acc[i]? = some v → ∃ t, v = .int (0 + ((lo + i : Nat) : Int) * 1) t) → Vals (((List.range n).map fun (k : Nat) => (0 : Int) + ((lo + k : Nat) : Int)).map V.int) acc := by
      intro n
      induction n with
      | zero => intro acc lo hl _; cases acc with | nil => exact .nil | cons _ _ => cases hl
      | succ n ih =>
        intro acc lo hl hg
        cases acc with
        | nil => cases hl
        | cons x acc =>
          rw [List.range_succ_eq_map, List.map_cons, List.map_cons]
          refine .cons ?_ ?_
          · obtain ⟨t, e⟩ := hg 0 x rfl
            exact ⟨t, by rw [e]; simp⟩
          · rw [List.map_map, List.map_map]
            have := ih acc (lo + 1) (by simpa using hl) fun i v hv => by
              obtain ⟨t, e⟩ := hg (i + 1) v (by simpa using hv)
              refine ⟨t, ?_⟩
              rw [e]
              congr 3
              omega
            rw [List.map_map] at this
            refine Eq.mp (congrArg (fun l => Vals l acc) (List.map_congr_left fun k _ => ?_)) this
            simp only [Function.comp]
            congr 2
            omega
    have := hv j.toNat acc'.toList 0 (by simpa using hacc.1) fun i v e => by
      obtain ⟨t, e'⟩ := hacc.2 i v (by simpa using e)
      exact ⟨t, by rw [e']; simp⟩
    unfold iUp
    refine Eq.mp (congrArg (fun l => Vals l acc'.toList) ?_) this
    simp
  · simpa using hS'
def dListRng (f : DEnv → Option D) : DEnv → Option (List D) := fun ρ => match f ρ with | some (.int j) => if -(2 ^ 62) ≤ j ∧ j ≤ 100000 then some ((iUp 0 j.toNat).map D.int) else none | _ => none
theorem sf_listRng (hc : X.calm = true) (hm : X.mg "list" = none) (hm2 : X.mg "range" = none) (h : SE X a fa) (hg : Gl X "list" := by rfl) (hg2 : Gl X "range" := by rfl) (hv : bootBuiltins "list" = some (.type "list") := by decide +kernel) (hv2 : bootBuiltins "range" = some (.type "range") := by decide +kernel)
    (he : starEach [a] X.env = (false, eval a X.env) :: starEach [] X.env := by exact star_of rfl) (hpl : (backTo pos2 (starEach [] X.env)).any (·.1) = false := by exact back_of rfl)
    (he2 : starEach [.Call (.Name "range" p2) [a] [] pos2] X.env = (false, eval (.Call (.Name "range" p2) [a] [] pos2) X.env) :: starEach [] X.env := by exact star_of rfl) (hpl2 : (backTo pos (starEach [] X.env)).any (·.1) = false := by exact back_of rfl) :
    SF X (.Call (.Name "list" p) [.Call (.Name "range" p2) [a] [] pos2] [] pos) (dListRng fa) :=
  pe_weak (pe_callTy (call_list_rng hc) hg hm hv (pa_cons (pe_callTy call_range1 hg2 hm2 hv2 (pa_cons h pa_nil he) (by decide) (by decide) he hpl) pa_nil he2) (by decide) (by decide) he2 hpl2) fun σ H Q ⟨ρ, d, B, H0, V0, Z, e, r, q⟩ => by
    unfold dListRng at e
    split at e
    · rename_i j ej
      split at e
      · rename_i hj
        cases e
        refine ⟨ρ, _, B, H0, V0, Z, ej, r, fun v H' s rr => ?_⟩
        obtain rfl := rep_int.mp rr
        refine ⟨j, rfl, fun p1 hp1 => ⟨p1, j, rfl, upd_same, hj.1, by omega, fun l hl => ?_⟩⟩
        have s1 := same_upd (o := HO.rng 0 j) hp1
        have s2 := same_upd (o := HO.lst ((iUp 0 j.toNat).map V.int)) hl
        exact q l _ _ (s.trans (s1.trans s2)) ((s.trans s1).free hl) upd_same (repl_ints.mpr rfl)
      · cases e
    · cases e
def fMin : List D → Option D := fun ds => match ds with | [.int i, .int j] => some (.int (if j < i then j else i)) | _ => none
def fMax : List D → Option D := fun ds => match ds with | [.int i, .int j] => some (.int (if j > i then j else i)) | _ => none
theorem repl_two {K : PySem.W.Frag} {H : Hp} {d e : D} {xs : List V} (h : RepL K H [d, e] xs) : ∃ u v, xs = [u, v] ∧ Rep K H d u ∧ Rep K H e v := by
  obtain ⟨u, vs, rfl, h1, h2⟩ := repl_cons.mp h
  obtain ⟨v, ws, rfl, h3, h4⟩ := repl_cons.mp h2
  obtain rfl := repl_nil.mp h4
  exact ⟨u, v, rfl, h1, h3⟩
theorem repl_one {K : PySem.W.Frag} {H : Hp} {d : D} {xs : List V} (h : RepL K H [d] xs) : ∃ u, xs = [u] ∧ Rep K H d u := by
  obtain ⟨u, vs, rfl, h1, h2⟩ := repl_cons.mp h
  obtain rfl := repl_nil.mp h2
  exact ⟨u, rfl, h1⟩
theorem rd_min {K : PySem.W.Frag} : RdC K (fun xs H Q => ∃ i j, xs = [.int i, .int j] ∧ Q (.int (if j < i then j else i)) H) fMin := by
  intro ds d e Z H vs Q zs rr q
  unfold fMin at e
  split at e
  · rename_i i j
    cases e
    obtain ⟨u, v, rfl, h1, h2⟩ := repl_two rr
    obtain rfl := rep_int.mp h1
    obtain rfl := rep_int.mp h2
    exact ⟨i, j, rfl, q _ H (Same.refl H) (rep_int.mpr rfl)⟩
  · cases e
theorem rd_max {K : PySem.W.Frag} : RdC K (fun xs H Q => ∃ i j, xs = [.int i, .int j] ∧ Q (.int (if j > i then j else i)) H) fMax := by
  intro ds d e Z H vs Q zs rr q
  unfold fMax at e
  split at e
  · rename_i i j
    cases e
    obtain ⟨u, v, rfl, h1, h2⟩ := repl_two rr
    obtain rfl := rep_int.mp h1
    obtain rfl := rep_int.mp h2
    exact ⟨i, j, rfl, q _ H (Same.refl H) (rep_int.mpr rfl)⟩
  · cases e
theorem se_min2 (hc : X.calm = true) (hm : X.mg "min" = none) (ha : SE X a fa) (hb : SE X b fb) (hg : Gl X "min" := by rfl) (hv : bootBuiltins "min" = some (.builtin "min") := by decide +kernel) (he : starEach [a, b] X.env = (false, eval a X.env) :: starEach [b] X.env := by exact star_of rfl) (he2 : starEach [b] X.env = (false, eval b X.env) :: starEach [] X.env := by exact star_of rfl)
    (hpl : (backTo pos (starEach [b] X.env)).any (·.1) = false := by exact back_of rfl) : SE X (.Call (.Name "min" p) [a, b] [] pos) (dCall fMin (dCons fa (dCons fb dNil))) :=
  se_callB (call_min2 hc) rd_min hm hv (sa_cons ha (sa_cons hb sa_nil he2) he) hg (by decide) (by decide) he hpl
theorem se_max2 (hc : X.calm = true) (hm : X.mg "max" = none) (ha : SE X a fa) (hb : SE X b fb) (hg : Gl X "max" := by rfl) (hv : bootBuiltins "max" = some (.builtin "max") := by decide +kernel) (he : starEach [a, b] X.env = (false, eval a X.env) :: starEach [b] X.env := by exact star_of rfl) (he2 : starEach [b] X.env = (false, eval b X.env) :: starEach [] X.env := by exact star_of rfl)
    (hpl : (backTo pos (starEach [b] X.env)).any (·.1) = false := by exact back_of rfl) : SE X (.Call (.Name "max" p) [a, b] [] pos) (dCall fMax (dCons fa (dCons fb dNil))) :=
  se_callB (call_max2 hc) rd_max hm hv (sa_cons ha (sa_cons hb sa_nil he2) he) hg (by decide) (by decide) he hpl
def fBool : List D → Option D := fun ds => match ds with | [.int i] => some (.bl (i != 0)) | [.bl b] => some (.bl b) | _ => none
def fInt : List D → Option D := fun ds => match ds with | [.int i] => some (.int i) | [.bl b] => some (.int (if b then 1 else 0)) | _ => none
theorem rd_int {K : PySem.W.Frag} : RdC K (fun xs H Q => (∃ i, xs = [.int i] ∧ Q (.int i) H) ∨ ∃ k, xs = [.bl k] ∧ Q (.int (if k then 1 else 0)) H) fInt := by
  intro ds d e Z H vs Q zs rr q
  unfold fInt at e
  split at e
  · cases e
    obtain ⟨u, rfl, h1⟩ := repl_one rr
    obtain rfl := rep_int.mp h1
    exact .inl ⟨_, rfl, q _ H (Same.refl H) (rep_int.mpr rfl)⟩
  · cases e
    obtain ⟨u, rfl, h1⟩ := repl_one rr
    obtain rfl := rep_bl.mp h1
    exact .inr ⟨_, rfl, q _ H (Same.refl H) (rep_int.mpr rfl)⟩
  · cases e
theorem se_toint (hm : X.mg "int" = none) (ha : SE X a fa) (hg : Gl X "int" := by rfl) (hv : bootBuiltins "int" = some (.type "int") := by decide +kernel) (he : starEach [a] X.env = (false, eval a X.env) :: starEach [] X.env := by exact star_of rfl)
    (hpl : (backTo pos (starEach [] X.env)).any (·.1) = false := by exact back_of rfl) : SE X (.Call (.Name "int" p) [a] [] pos) (dCall fInt (dCons fa dNil)) :=
  se_callTy call_int1 rd_int hm hv (sa_cons ha sa_nil he) hg (by decide) (by decide) he hpl
def dNeg (f : DEnv → Option D) : DEnv → Option D := fun ρ => match f ρ with | some (.int i) => some (.int (-i)) | _ => none
def dApp (i : Nat) (f : DEnv → Option D) : DEnv → Option Out := fun ρ => match dOwn i ρ with
  | some ds => (match f ρ with | some d => if ds.length < LIM then some (.nx (ρ.set i (some (.ow (ds ++ [d]))))) else none | none => none)
  | none => none
def dExt (i : Nat) (f : DEnv → Option (List D)) : DEnv → Option Out := fun ρ => match dOwn i ρ with
  | some ds => (match f ρ with | some es => if ds.length + es.length ≤ LIM then some (.nx (ρ.set i (some (.ow (ds ++ es))))) else none | none => none)
  | none => none
theorem ss_app {i : Nat} {x : Str} {p1 p2 p3 : Pos} (h : SE X a fa) (hN : X.N[i]? = some x := by rfl) (hv : Vis X.env.scope x := by first | exact Or.inl rfl | exact Or.inr (Or.inl rfl) | exact Or.inr (Or.inr rfl)) (hd : (x == ("__debug__" : Str)) = false := by decide)
    (hcd : (x == ("__classdict__" : Str)) = false := by decide) (hbase : attributeBase (.Name x p1) "append" X.env (eval (.Name x p1) X.env) = eval (.Name x p1) X.env := by rfl)
    (hfew : ((backTo p3 (starEach [a] X.env)).all (fun x => !x.1) && (backToKw p3 (keywordEach [] X.env)).all (fun x => x.1.isSome)
      && decide (([a] : List Expr).length + ([] : List Keyword).length + (if ([] : List Keyword).isEmpty then 0 else 1) < 30)) = true := by rfl)
    (hline : (p2.endLine == p3.line) = true := by rfl) (hs : starEach [a] X.env = (false, eval a X.env) :: starEach [] X.env := by exact star_of rfl) (hplain : (backTo p3 (starEach [] X.env)).any (·.1) = false := by exact back_of rfl)
    (hsw : swapsWith (.Call (.Attribute (.Name x p1) "append" p2) [a] [] p3) none pos.line X.env = pure false := by rfl) :
    SS X (.Expr (.Call (.Attribute (.Name x p1) "append" p2) [a] [] p3) pos) (dApp i fa) :=
  ps_weak (ps_expr (pe_bm PySem.F.plainAttrs_list PySem.F.slot_list_append PySem.F.type_list_append mt_append (pe_var hN hv hd hcd) (pa_cons h pa_nil hs) hbase hfew hline hs hplain) hsw) fun E σ H ⟨ρ, o, B, H0, V0, Z, e, r, q⟩ => by
    unfold dApp at e
    split at e
    · rename_i ds eds
      split at e
      · rename_i d ed
        split at e
        · rename_i hl
          cases e
          obtain ⟨n, xs, h1, h2, hb, h3, h4, h5⟩ := r.ow i ds (dOwn_some eds)
          refine ⟨.ref n, h1, .inl ⟨rfl, xs, SqL.of h4⟩, ρ, _, B, H0, V0, Z, ed, r, fun v H1 s1 r1 => ?_⟩
          have g5 := h5.mono (hide_same s1)
          refine ⟨n, xs, v, rfl, rfl, s1 _ _ h4, by rw [← h5.length]; exact lim_lt (Nat.le_of_lt hl), ?_⟩
          exact q σ _ Z ((r.mono s1).updO (dOwn_some eds) h1 (RepL.append g5 (RepL.one r1)))
        · cases e
      · cases e
    · cases e
theorem ss_ext {i : Nat} {x : Str} {p1 p2 p3 : Pos} (h : SF X a f) (hN : X.N[i]? = some x := by rfl) (hv : Vis X.env.scope x := by first | exact Or.inl rfl | exact Or.inr (Or.inl rfl) | exact Or.inr (Or.inr rfl)) (hd : (x == ("__debug__" : Str)) = false := by decide)
    (hcd : (x == ("__classdict__" : Str)) = false := by decide) (hbase : attributeBase (.Name x p1) "extend" X.env (eval (.Name x p1) X.env) = eval (.Name x p1) X.env := by rfl)
    (hfew : ((backTo p3 (starEach [a] X.env)).all (fun x => !x.1) && (backToKw p3 (keywordEach [] X.env)).all (fun x => x.1.isSome)
      && decide (([a] : List Expr).length + ([] : List Keyword).length + (if ([] : List Keyword).isEmpty then 0 else 1) < 30)) = true := by rfl)
    (hline : (p2.endLine == p3.line) = true := by rfl) (hs : starEach [a] X.env = (false, eval a X.env) :: starEach [] X.env := by exact star_of rfl) (hplain : (backTo p3 (starEach [] X.env)).any (·.1) = false := by exact back_of rfl)
    (hsw : swapsWith (.Call (.Attribute (.Name x p1) "extend" p2) [a] [] p3) none pos.line X.env = pure false := by rfl) :
    SS X (.Expr (.Call (.Attribute (.Name x p1) "extend" p2) [a] [] p3) pos) (dExt i f) :=
  ps_weak (ps_expr (pe_bm PySem.F.plainAttrs_list PySem.F.slot_list_extend PySem.F.type_list_extend mt_extend (pe_var hN hv hd hcd) (pa_cons h pa_nil hs) hbase hfew hline hs hplain) hsw) fun E σ H ⟨ρ, o, B, H0, V0, Z, e, r, q⟩ => by
    unfold dExt at e
    split at e
    · rename_i ds eds
      split at e
      · rename_i es ee
        split at e
        · rename_i hl
          cases e
          obtain ⟨n, xs, h1, h2, hb, h3, h4, h5⟩ := r.ow i ds (dOwn_some eds)
          refine ⟨.ref n, h1, .inl ⟨rfl, xs, SqL.of h4⟩, ρ, _, B, H0, V0, Z, ee, r, fun l ys H1 s1 hn hl1 r1 => ?_⟩
          have g5 := h5.mono (hide_same s1)
          refine ⟨n, l, xs, ys, rfl, rfl, s1 _ _ h4, hl1, by rw [← h5.length, ← r1.length]; exact lim_le hl, ?_⟩
          exact q σ _ Z ((r.mono s1).updO (dOwn_some eds) h1 (RepL.append g5 (r1.mono (hide_anti fun b hb => List.mem_cons_of_mem _ hb))))
        · cases e
      · cases e
    · cases e
end
end L3
set_option Elab.async false
set_option linter.all false
set_option maxRecDepth 100000
set_option maxHeartbeats 4000000
namespace L3
open PySem PySem.Spec PyProof.Rows L2 PySem.SeqAt
theorem noFill_tuple_mul : fillsNumberSlot (.type "tuple") "mul" = pure false :=
  PySem.fillsNumberSlot_seq (id := "tuple.__mul__") (r := some (.builtin "tuple.__rmul__")) F.slot_tuple_mul.lookup (by decide +kernel) F.slot_tuple_rmul.lookup (by decide +kernel)
theorem repeat_tuple : seqRepeat? (.type "tuple") = pure (some (.builtin "tuple.__mul__")) := by
  unfold seqRepeat?
  rw [PySem.seqSlot_of (T := "tuple") (name := "__mul__") (id := "tuple.__mul__") F.slot_tuple_mul.lookup (by decide +kernel), PySem.seqSlot_of (T := "tuple") (name := "__rmul__") (id := "tuple.__rmul__") F.slot_tuple_rmul.lookup (by decide +kernel)]
  rfl
theorem tuple_mul0 (l : Addr) (items : Array Value) (n : Nat) (dd : Option Addr) (sl : Array (Option Value)) (x : Int) (t : Tok) (h1 : (decide (x < -(2 ^ 63)) || decide (x ≥ 2 ^ 63)) = false) (h2 : (items.isEmpty || x == 1) = false) (h3 : (decide (x ≤ 0) || items.isEmpty) = true) (hz : ¬ (#[] : Array Value).size > sizeLine) :
    Meets (Builtin.«tuple.__mul__» ⟨[.ref l, .int x t], []⟩) (fun _ R s => s.heap.get? l = some { cls := .type "tuple", dict := dd, data := .seq items n, slots := sl } ∧ R (.ok (.ret (.ref s.heap.objs.size))) { s with heap := s.heap.push { cls := Value.type "tuple", data := Data.seq #[] } }) :=
  .of_wp fun prog w A R s h => by obtain ⟨hp, g, d, tk, os⟩ := s; obtain ⟨hl, h⟩ := h; wp_walk; refine wpAny_ite_false (decide_eq_false (by rw [h1]; exact Bool.false_ne_true)) ?_; wp_walk; exact ⟨_, rfl, h⟩
theorem tuple_mulN (l : Addr) (items : Array Value) (n : Nat) (dd : Option Addr) (sl : Array (Option Value)) (x : Int) (t : Tok) (h1 : (decide (x < -(2 ^ 63)) || decide (x ≥ 2 ^ 63)) = false) (h2 : (items.isEmpty || x == 1) = false) (h3 : (decide (x ≤ 0) || items.isEmpty) = false)
    (h4 : ¬ (items.size : Int) * x > (2 ^ 63 - 1) / 8) (h5 : Builtin.Tuple.tupleTooMany ((items.size : Int) * x) = false) (h6 : ¬ (List.foldl (fun x1 x2 => x1 ++ x2) #[] (List.replicate x.toNat items)).size > sizeLine) :
    Meets (Builtin.«tuple.__mul__» ⟨[.ref l, .int x t], []⟩) (fun _ R s => s.heap.get? l = some { cls := .type "tuple", dict := dd, data := .seq items n, slots := sl } ∧ R (.ok (.ret (.ref s.heap.objs.size))) { s with heap := s.heap.push { cls := Value.type "tuple", data := Data.seq (List.foldl (fun x1 x2 => x1 ++ x2) #[] (List.replicate x.toNat items)) } }) :=
  .of_wp fun prog w A R s h => by obtain ⟨hp, g, d, tk, os⟩ := s; obtain ⟨hl, h⟩ := h; wp_walk; refine wpAny_ite_false (decide_eq_false (by rw [h1]; exact Bool.false_ne_true)) ?_; wp_walk; refine wpAny_ite_false (decide_eq_false h4) ?_; wp_walk; exact ⟨_, rfl, h⟩
theorem int_rmul_tuple (a : Int) (t : Tok) (l : Addr) (items : Array Value) (n : Nat) (dd : Option Addr) (sl : Array (Option Value)) :
    Meets (Builtin.«int.__rmul__» ⟨[.int a t, .ref l], []⟩) (fun _ R s => s.heap.get? l = some { cls := .type "tuple", dict := dd, data := .seq items n, slots := sl } ∧ R (.ok (.ret Value.notImplemented)) s) :=
  .of_wp fun prog w A R s h => by obtain ⟨hp, g, d, tk, os⟩ := s; obtain ⟨hl, h⟩ := h; wp_walk; exact ⟨_, rfl, h⟩
theorem tuple_mul1 (l : Addr) (items : Array Value) (n : Nat) (dd : Option Addr) (sl : Array (Option Value)) (t : Tok) :
    Meets (Builtin.«tuple.__mul__» ⟨[.ref l, .int 1 t], []⟩) (fun _ R s => s.heap.get? l = some { cls := .type "tuple", dict := dd, data := .seq items n, slots := sl } ∧ R (.ok (.ret (.ref l))) s) :=
  .of_wp fun prog w A R s h => by obtain ⟨hp, g, d, tk, os⟩ := s; obtain ⟨hl, h⟩ := h; wp_walk; exact ⟨_, rfl, h⟩
def rRepT (K : PySem.W.Frag) : R2 := fun x y H Q => ∃ a k xs, x = .ref a ∧ y = .int k ∧ SqT K H a xs ∧ xs ≠ [] ∧ -(2 ^ 63) ≤ k ∧ k < 2 ^ 63 ∧ xs.length * k.toNat ≤ 1000000 ∧
  (k = 1 → Q (.ref a) H) ∧ (k ≠ 1 → ∀ p, H p = none → Q (.ref p) (upd H p (.tup (List.replicate k.toNat xs).flatten)))
section
variable {X : Cx}
theorem op_repT : OpR X (binaryOp .Mult) (rRepT X.K) := by
  intro pins s σ H x y v u Q I rx ry h
  obtain ⟨a, k, xs, rfl, rfl, ha, hne, h1, h2, hz, q1, q2⟩ := h
  cases rx
  obtain ⟨t, rfl⟩ := ry
  obtain ⟨its, r, p, _⟩ := I.tuple ha
  have hl := r.length
  obtain ⟨⟨cls, dd, data, sl⟩, ho, hc, n, hd⟩ := id p
  simp only at hc hd
  subst hc hd
  have hne' : its ≠ [] := fun z => hne (r.nil_iff.mp z)
  have he : its.toArray.isEmpty = false := by
    cases its with
    | nil => exact absurd rfl hne'
    | cons _ _ => rfl
  have b1 : (decide (k < -(2 ^ 63)) || decide (k ≥ 2 ^ 63)) = false := by
    rw [decide_eq_false (by omega), decide_eq_false (by omega)]; rfl
  refine wpAny_binaryOp_repeat_ref (T := "tuple") (U := "int") (by decide) ⟨_, ho, rfl⟩ (fun s' => typeIs_int s' k t) noFill_tuple_mul F.fills_int_mul F.slot_int_rmul repeat_tuple F.slot_int_index.lookup
    (call_meets F.slot_int_rmul (typeIs_int s k t) F.entry_int_rmul (F.args_int_rmul_2 _ _) (int_rmul_tuple k t a its.toArray n dd sl) ⟨ho, rfl, ⟨_, ho, rfl⟩, ?_⟩)
  by_cases hk : k = 1
  · subst hk
    exact call_meets F.slot_tuple_mul ⟨_, ho, rfl⟩ F.entry_tuple_mul (F.args_tuple_mul_2 _ _) (tuple_mul1 a its.toArray n dd sl t) ⟨ho, ⟨.ref a, H, I, rfl, q1 rfl⟩⟩
  · have b2 : (its.toArray.isEmpty || k == 1) = false := by rw [he, Bool.false_or]; exact beq_eq_false_iff_ne.mpr hk
    by_cases h0 : k ≤ 0
    · refine call_meets F.slot_tuple_mul ⟨_, ho, rfl⟩ F.entry_tuple_mul (F.args_tuple_mul_2 _ _) (tuple_mul0 a its.toArray n dd sl k t b1 b2 (by rw [decide_eq_true h0]; rfl) (by simp)) ⟨ho, ?_⟩
      have e0 : k.toNat = 0 := by omega
      have := q2 hk s.heap.objs.size I.fresh
      rw [e0] at this
      exact ⟨.ref _, _, I.laid (o := .tup []) (t' := s.toks) (fun b o e => Heap.get?_push_of_some _ e) (Nat.le_refl _) ⟨Nat.zero_le _, [], .nil, PTup.new _ _⟩, rfl, this⟩
    · have hsz : ((its.toArray.size : Nat) : Int) * k ≤ 1000000 := by
        rw [List.size_toArray, ← hl]
        have e1 : k = ((k.toNat : Nat) : Int) := by omega
        rw [e1]
        have : ((xs.length * k.toNat : Nat) : Int) ≤ 1000000 := Int.ofNat_le.mpr hz
        rw [Int.natCast_mul] at this
        exact this
      have f0 : List.foldl (fun x1 x2 => x1 ++ x2) #[] (List.replicate k.toNat its.toArray) = (List.replicate k.toNat its).flatten.toArray := by
        have := foldl_rep its k.toNat []
        rw [List.nil_append] at this
        exact this
      have hlen : (List.replicate k.toNat xs).flatten.length ≤ sizeLine := by
        rw [len_rep, Nat.mul_comm, sizeLine_eq]; omega
      refine call_meets F.slot_tuple_mul ⟨_, ho, rfl⟩ F.entry_tuple_mul (F.args_tuple_mul_2 _ _) (tuple_mulN a its.toArray n dd sl k t b1 b2 (by rw [decide_eq_false h0, he]; rfl) (by omega) (by unfold Builtin.Tuple.tupleTooMany; rw [sizeLine_eq]; exact decide_eq_false (by omega)) ?_) ⟨ho, ?_⟩
      · rw [f0, List.size_toArray, ← (r.rep k.toNat).length]
        omega
      · rw [f0]
        exact ⟨.ref _, _, I.laid (o := .tup (List.replicate k.toNat xs).flatten) (t' := s.toks) (fun b o e => Heap.get?_push_of_some _ e) (Nat.le_refl _) ⟨hlen, _, r.rep k.toNat, PTup.new _ _⟩, rfl, q2 hk _ I.fresh⟩
def dRepT : D → D → Option D := fun x y => match x, y with
  | .tup ds, .int k => if ds ≠ [] ∧ -(2 ^ 63) ≤ k ∧ k < 2 ^ 63 ∧ ds.length * k.toNat ≤ LIM then some (.tup (List.replicate k.toNat ds).flatten) else none
  | _, _ => none
theorem rd_repT {K : PySem.W.Frag} : RdOp K (rRepT K) dRepT := by
  intro x y d e Z H u v Q zs hx hy q
  unfold dRepT at e
  split at e
  · rename_i ds k
    split at e
    · rename_i hh
      obtain ⟨hne, h1, h2, hl⟩ := hh
      cases e
      obtain ⟨a, us, rfl, g1, g2⟩ := rep_tup.mp hx
      obtain rfl := rep_int.mp hy
      have hlen := g2.length
      refine ⟨a, k, us, rfl, rfl, sqt_same hide_sub g1, fun z => hne (List.eq_nil_of_length_eq_zero (by rw [hlen, z]; rfl)), h1, h2, by rw [← hlen]; unfold LIM at hl; omega, fun e1 => ?_, fun e1 p hp => ?_⟩
      · subst e1
        have : (List.replicate (1 : Int).toNat ds).flatten = ds := by simp
        rw [this] at q
        exact q _ H (Same.refl H) hx
      · have sn := same_upd (o := HO.tup (List.replicate k.toNat us).flatten) hp
        refine q _ _ sn (rep_tup.mpr ⟨p, _, rfl, SqT.of ?_, (g2.rep k.toNat).mono (hide_same sn)⟩)
        rw [hide_out (newer_of zs hp)]
        exact upd_same
    · cases e
  · cases e
def dMul : D → D → Option D := fun x y => match dMulI x y with | some d => some d | none => dRepT x y
variable {a b : Expr} {fa fb : DEnv → Option D} {pos : Pos}
theorem se_mul (ha : SE X a fa) (hb : SE X b fb) : SE X (.BinOp a .Mult b pos) (d2 dMul fa fb) := se_bin (op_mul.or op_repT) (RdOp.or rd_mul rd_repT) ha hb
end
def startD (N : List Str) (ds : List D) : DEnv := ds.map (fun d => some (Cell.sh d)) ++ List.replicate (N.length - ds.length) none
def outD : Option Out → Option D
  | some (.rt d) => some d
  | some (.nx _) => some .non
  | _ => none
theorem sr_start {K : PySem.W.Frag} {Z : List Addr} {H : Hp} {N : List Str} {ds : List D} {vs : List V} (zs : ∀ z ∈ Z, ∃ o, H z = some o) (rr : RepL K (hide Z H) ds vs) : SR K Z H (hide Z H) H Z (start N vs) (startD N ds) := by
  have hl := rr.length
  have get : ∀ {i : Nat} {c : Cell}, (startD N ds)[i]? = some (some c) → ∃ d, ds[i]? = some d ∧ c = .sh d := fun {i c} q => by
    unfold startD at q
    by_cases hi : i < ds.length
    · rw [List.getElem?_append_left (by simpa using hi), List.getElem?_map] at q
      cases e : ds[i]? with
      | none => rw [e] at q; cases q
      | some d => rw [e] at q; cases q; exact ⟨d, rfl, rfl⟩
    · rw [List.getElem?_append_right (by simpa using hi), List.getElem?_replicate] at q
      split at q <;> cases q
  refine ⟨Same.refl H, fun _ _ h => h, fun b hb => hb, zs, fun i d q => ?_, fun i c q => ?_, fun i j c e a q1 q2 => ?_, ?_⟩
  · obtain ⟨d', e, z⟩ := get q
    cases z
    obtain ⟨v, e1, r1⟩ := rr.get e
    refine ⟨v, ?_, r1⟩
    have hi : i < vs.length := (List.getElem?_eq_some_iff.mp e1).1
    unfold L2.start
    rw [List.getElem?_append_left (by simpa using hi), List.getElem?_map, e1]
    rfl
  · obtain ⟨d', e, z⟩ := get q
    exact (sh_oc z.symm).elim
  · obtain ⟨d', e, z⟩ := get q1
    exact (sh_oc z.symm).elim
  · unfold L2.start startD
    rw [List.length_append, List.length_append, List.length_map, List.length_map, List.length_replicate, List.length_replicate, hl]
theorem fn_data {P : Program} {w : World} {K : PySem.W.Frag} {mg : Str → Option Value} {base : Heap} {x : Str} {st : Stmt} {f : Addr} {fd : FuncData} {N ps : List Str} {k : Nat} {g : DEnv → Option Out} {F : List D → Option D} (G : Fun K x x st f fd) (S : FnScope N ps (defScope st))
    (len : ∀ ds d, F ds = some d → ds.length = ps.length) (hF : ∀ ds d, F ds = some d → outD (g (startD N ds)) = some d)
    (hbody : ∀ (cdv : Value) (A : Around) (outer : List Env) (s : Shared) (H : Hp) (E : XK), Room k (A.deeper (envOfC x (defScope st) s.heap.objs.size f cdv)) →
      SSs (cxOf CX0 P w K mg base N x (defScope st) f cdv A outer s H E).nox (defBody st) g) : FnOk P w K mg base CX0 (k + 1) f fd ps (spD K F) := by
  refine G.ok S (fun vs H Q E h => ?_) fun cdv A outer s H vs Q E hr h => ?_
  · obtain ⟨Z, ds, d, zs, rr, e, q⟩ := h
    rw [← rr.length]
    exact len ds d e
  · obtain ⟨Z, ds, d, zs, rr, e, q⟩ := h
    have e2 := hF ds d e
    refine ⟨_, hbody cdv A outer s H E hr, ?_⟩
    cases ho : g (startD N ds) with
    | none => rw [ho] at e2; cases e2
    | some o =>
      refine ⟨startD N ds, o, Z, H, hide Z H, Z, ho, sr_start zs rr, ?_⟩
      rw [ho] at e2
      cases o with
      | rt d' => cases e2; exact fun v H' s' rv => q v H' s' rv
      | nx ρ => cases e2; exact fun σ H' Z' r' => q .non H' r'.same (rep_non.mpr rfl)
      | bk _ => cases e2
      | ct _ => cases e2
end L3
set_option Elab.async false
set_option linter.all false
set_option maxRecDepth 100000
set_option maxHeartbeats 1000000
namespace L3
open PySem PySem.Spec PyProof.Rows L2 PySem.SeqAt
def compOk (sc outer : Scope) (N : List Str) (cap : List (Option Nat)) (M : List Str) : Bool :=
  (sc.kind == .function) && (sc.names.all fun y => y.2 != .cell) && (sc.names.all fun y => if y.2 == .local then sc.names.lookup y.1 == some .local else true) &&
  (sc.names.all fun y => if y.2 == .free then sc.names.lookup y.1 == some .free && (outer.names.lookup y.1 == some .cell || outer.names.lookup y.1 == some .free) else true) &&
  ((List.range cap.length).all fun i => match cap[i]? with | some (some j) => (match N[i]? with | some x => (match M[j]? with | some y => x == y && sc.names.lookup x == some .free | none => false) | none => false) | _ => true) &&
  (cap.length == N.length) && ((List.range cap.length).all fun i => (List.range cap.length).all fun j => match cap[i]? with | some (some k) => (match cap[j]? with | some (some k') => if k == k' then i == j else true | _ => true) | _ => true)
section
variable {X : Cx} {pos : Pos}
theorem sf_compB {elt target iter : Expr} {ifs : List Expr} {scope : Scope} {fi : DEnv → Option (List D)} {h : D → DEnv → Option DEnv} {ft : DEnv → Option Bool} {fe : DEnv → Option D} (N : List Str) (cap : List (Option Nat))
    (hc : X.calm = true) (hi : SI X target iter fi)
    (hg : ∀ cl C fp s H, SG (compCx X N scope cl C fp s H) target h) (ht : ∀ cl C fp s H, PIfs (compCx X N scope cl C fp s H) ifs (tT X.K ft)) (he : ∀ cl C fp s H, SE (compCx X N scope cl C fp s H) elt fe)
    (hok : compOk scope X.env.scope N cap X.N = true := by rfl) (hs : ∀ x, foldedSetIterable iter X.env x = pure x := by intro _; rfl) :
    SF X (.ListComp elt [⟨target, iter, ifs, 0⟩] scope pos) (dComp cap fi h ft fe) := by
  unfold compOk at hok
  simp only [Bool.and_eq_true] at hok
  obtain ⟨⟨⟨⟨⟨⟨h1, h2⟩, h3⟩, h4⟩, h5⟩, h6⟩, h7⟩ := hok
  rw [List.all_eq_true] at h2 h3 h4 h5 h7
  refine sf_comp (N := N) (cap := cap) hc hi hg ht he (by simpa using h1) (fun y hy => by simpa using h2 y hy) (fun y hy e => ?_) (fun y hy e => ?_) (fun y hy e => ?_) (fun i j e => ?_) (by simpa using h6) (fun i j k e1 e2 => ?_) hs
  · have z := h3 y hy
    rw [e] at z
    simpa using z
  · have z := h4 y hy
    rw [e] at z
    simp only [beq_self_eq_true, if_true, Bool.and_eq_true] at z
    simpa using z.1
  · have z := h4 y hy
    rw [e] at z
    simp only [beq_self_eq_true, if_true, Bool.and_eq_true, Bool.or_eq_true] at z
    simpa using z.2
  · have hi' : i < cap.length := (List.getElem?_eq_some_iff.mp e).1
    have z := h5 i (List.mem_range.mpr hi')
    rw [e] at z
    dsimp only at z
    split at z
    · rename_i x hx
      split at z
      · rename_i y hy
        simp only [Bool.and_eq_true, beq_iff_eq] at z
        obtain ⟨z1, z2⟩ := z
        subst z1
        exact ⟨x, hx, hy, z2⟩
      · cases z
    · cases z
  · have hi' : i < cap.length := (List.getElem?_eq_some_iff.mp e1).1
    have hj' : j < cap.length := (List.getElem?_eq_some_iff.mp e2).1
    have z := h7 i (List.mem_range.mpr hi')
    rw [List.all_eq_true] at z
    have z2 := z j (List.mem_range.mpr hj')
    rw [e1, e2] at z2
    simpa using z2
theorem pifs0 : PIfs X [] (tT X.K dTrue) := fun pins s σ H Q I ⟨ρ, b, B, H0, V0, Z, e, r, q⟩ => by
  cases e
  exact pifs_nil pins s σ H Q I (q H (Same.refl H))
theorem pifs1 {c : Expr} {f : DEnv → Option Bool} (h : STt X c f) : PIfs X [c] (tT X.K f) := pifs_one h
def tQL (K : PySem.W.Frag) (f : DEnv → Option (List D)) : TE := fun σ H Q => ∃ ρ ds B H0 V0 Z, f ρ = some ds ∧ SR K B H0 V0 H Z σ ρ ∧ ∀ a xs H', Same H H' → SqL K H' a xs → RepL K (hide Z H') ds xs → Q (.ref a) H'
abbrev SQL (X : Cx) (e : Expr) (f : DEnv → Option (List D)) : Prop := PE X e (tQL X.K f)
theorem ql_f {e : Expr} {f : DEnv → Option (List D)} (h : SF X e f) : SQL X e f :=
  pe_weak h fun σ H Q ⟨ρ, ds, B, H0, V0, Z, e, r, q⟩ =>
    ⟨ρ, ds, B, H0, V0, Z, e, r, fun a xs H' s hn ha hr => q a xs H' s (SqL.of ha) (hr.mono (hide_anti fun b hb => List.mem_cons_of_mem _ hb))⟩
theorem ql_of {e : Expr} {f : DEnv → Option D} (h : SE X e f) : SQL X e (dLstOf f) :=
  pe_weak h fun σ H Q ⟨ρ, ds, B, H0, V0, Z, e, r, q⟩ => by
    unfold dLstOf at e
    split at e
    · rename_i es he
      cases e
      refine ⟨ρ, _, B, H0, V0, Z, he, r, fun v H' s rr => ?_⟩
      obtain ⟨a, xs, rfl, h1, h2⟩ := rep_lst.mp rr
      exact q a xs H' s (hide_sub.seq h1) h2
    · cases e
end
structure FnD (P : Program) (w : World) (K : PySem.W.Frag) (mg : Str → Option Value) (base : Heap) (k : Nat) (x : Str) (ps : List Str) (F : List D → Option D) : Prop where
  ex : ∃ f fd, FnOk P w K mg base CX0 k f fd ps (spD K F) ∧ mg x = some (.ref f) ∧ PySem.W.keepIn K (.ref f) = true ∧ Binds K fd ps []
theorem se_fn {X : Cx} {j k : Nat} {ps : List Str} {F : List D → Option D} {x : Str} {p pos : Pos} {e : Expr} {es : List Expr} {g : DEnv → Option (List D)} (G : FnD X.prog X.w X.K X.mg X.base j x ps F) (hr : Room k X.A) (ha : SA X (e :: es) g) (hjk : j ≤ k := by decide)
    (hg : Gl X x := by rfl) (hdb : (x == ("__debug__" : Str)) = false := by decide) (he : starEach (e :: es) X.env = (false, eval e X.env) :: starEach es X.env := by exact star_of rfl) (hpl : (backTo pos (starEach es X.env)).any (·.1) = false := by exact back_of rfl) :
    SE X (.Call (.Name x p) (e :: es) [] pos) (dCall F g) := by
  obtain ⟨f, fd, h1, h2, h3, h4⟩ := G.ex
  exact se_call h1 (hr.mono hjk) h2 h3 h4 ha hg hdb he hpl
structure Stands (K : PySem.W.Frag) (mg : Str → Option Value) (x : Str) (st : Stmt) : Prop where
  ex : ∃ f fd, Fun K x x st f fd ∧ mg x = some (.ref f)
theorem fn_stands {P : Program} {w : World} {K : PySem.W.Frag} {mg : Str → Option Value} {base : Heap} {x : Str} {st : Stmt} {N ps : List Str} {k : Nat} {g : DEnv → Option Out} {F : List D → Option D} (G : Stands K mg x st) (S : FnScope N ps (defScope st)) (len : ∀ ds d, F ds = some d → ds.length = ps.length)
    (hF : ∀ ds d, F ds = some d → outD (g (startD N ds)) = some d)
    (hb : ∀ (kV doc pm : Value) (an : Option Addr) (cdv ct : Value) (us : List Value), us.length = ps.length → bindArgs (PySem.W.fnOf x x (defArgs st) (defBody st) (defScope st) .none kV doc pm an cdv ct) ⟨us, []⟩ = pure (ps.zip us))
    (hbody : ∀ (f : Addr) (cdv : Value) (A : Around) (outer : List Env) (s : Shared) (H : Hp) (E : XK), Room k (A.deeper (envOfC x (defScope st) s.heap.objs.size f cdv)) →
      SSs (cxOf CX0 P w K mg base N x (defScope st) f cdv A outer s H E).nox (defBody st) g) : FnD P w K mg base (k + 1) x ps F := by
  obtain ⟨f, fd, G1, G2⟩ := G.ex
  exact ⟨f, fd, fn_data G1 S len hF (hbody f), G2, G1.kp, G1.binds hb⟩
end L3
set_option Elab.async false
set_option linter.all false
set_option maxRecDepth 100000
set_option maxHeartbeats 1000000
namespace L3
open PySem PySem.Spec PyProof.Rows L2 PySem.SeqAt
def tX (K : PySem.W.Frag) (f : DEnv → Option (D × DEnv)) : TE := fun σ H Q => ∃ ρ d ρ' B H0 V0 Z, f ρ = some (d, ρ') ∧ SR K B H0 V0 H Z σ ρ ∧ ∀ v H', SR K B H0 V0 H' Z σ ρ' → Rep K (hide Z H') d v → Q v H'
abbrev SX (X : Cx) (e : Expr) (f : DEnv → Option (D × DEnv)) : Prop := PE X e (tX X.K f)
def dPop (i : Nat) (f : DEnv → Option D) : DEnv → Option (D × DEnv) := fun ρ => match dOwn i ρ with
  | some ds => (match f ρ with
    | some (.int j) => (match ixN ds.length j with
      | some k => (match ds[k]? with | some d => if ds.length ≤ LIM then some (d, ρ.set i (some (.ow (ds.eraseIdx k)))) else none | none => none)
      | none => none)
    | _ => none)
  | none => none
def tR (K : PySem.W.Frag) (f : DEnv → Option (List D)) : TE := fun σ H Q => ∃ ρ ds B H0 V0 Z, f ρ = some ds ∧ SR K B H0 V0 H Z σ ρ ∧ ∀ a xs H', Same H0 H' → SqL K H' a xs → RepL K (hide B H') ds xs → (∀ b ∈ B, ∃ o, H' b = some o) → Q (.ref a) H'
abbrev SL (X : Cx) (e : Expr) (f : DEnv → Option (List D)) : Prop := PE X e (tR X.K f)
section
variable {X : Cx} {pos : Pos}
theorem sx_pop {i : Nat} {call : Expr} {f : DEnv → Option D} (h : PE X call (tBM X.K "list" rPopAt (tVar i) (tCons (tD X.K f) tNil))) : SX X call (dPop i f) :=
  pe_weak h fun σ H Q ⟨ρ, d, ρ', B, H0, V0, Z, e, r, q⟩ => by
    unfold dPop at e
    split at e
    · rename_i ds eds
      split at e
      · rename_i j ej
        split at e
        · rename_i k ek
          split at e
          · rename_i d' ed
            split at e
            · rename_i hz
              cases e
              obtain ⟨n, xs, h1, h2, hb, h3, h4, h5⟩ := r.ow i ds (dOwn_some eds)
              refine ⟨.ref n, h1, .inl ⟨rfl, xs, SqL.of h4⟩, ρ, _, B, H0, V0, Z, ej, r, fun v H1 s1 r1 => ?_⟩
              obtain rfl := rep_int.mp r1
              have R1 := r.mono s1
              have g5 := h5.mono (hide_same s1)
              obtain ⟨y, hy, ry⟩ := g5.get ed
              have hl := h5.length
              obtain ⟨q1, q2, q3, q4⟩ := ixN_seq ek
              have big : (ds.length : Int) < 2 ^ 63 := by
                have : ds.length ≤ 100000 := hz
                omega
              refine ⟨n, xs, j, k, y, rfl, rfl, s1 _ _ h4, by omega, by omega, by rw [← hl]; exact q1, hy, ?_⟩
              have vs : Same (hide Z H1) (hide Z (upd H1 n (.lst (xs.eraseIdx k)))) := hide_upd h2
              exact q y _ (R1.updO (dOwn_some eds) h1 (g5.eraseIdx k)) (ry.mono vs)
            · cases e
          · cases e
        · cases e
      · cases e
    · cases e
def compGoX (h : D → DEnv → Option DEnv) (fe : DEnv → Option (D × DEnv)) : DEnv → List D → Option (List D)
  | _, [] => some []
  | ρ, d :: ds => match h d ρ with
    | none => none
    | some ρ1 => match fe ρ1 with
      | some (y, ρ2) => (match compGoX h fe ρ2 ds with | some ys => some (y :: ys) | none => none)
      | none => none
def dCompX (cap : List (Option Nat)) (fi : DEnv → Option (List D)) (h : D → DEnv → Option DEnv) (fe : DEnv → Option (D × DEnv)) : DEnv → Option (List D) := fun ρ => match fi ρ with
  | some ds => if ds.length ≤ LIM then compGoX h fe (capE cap ρ) ds else none
  | none => none
theorem SR.base {K : PySem.W.Frag} {B Z : List Addr} {H0 V0 H : Hp} {σ : St} {ρ : DEnv} (r : SR K B H0 V0 H Z σ ρ) {l : Addr} {o : HO} (hl : H l = some o) (hn : H0 l = none) (hno : ∀ (j : Nat) (es : OC) a, ρ[j]? = some (some es.cell) → σ[j]? = some (some (.ref a)) → a ≠ l) : SR K B (upd H0 l o) V0 H Z σ ρ :=
  ⟨fun b u e => by
      by_cases z : b = l
      · subst z; rw [upd_same] at e; cases e; exact hl
      · rw [upd_ne z] at e; exact r.same b u e,
    r.vis, r.sub, r.zs, r.sh, fun j es hj => by
      obtain ⟨a, xs, t1, t2, tb, t3, t4, t5⟩ := r.own j es hj
      exact ⟨a, xs, t1, t2, tb, by rw [upd_ne (hno j es a hj t1)]; exact t3, t4, t5⟩, r.inj, r.len⟩
theorem SR.unbase {K : PySem.W.Frag} {B Z : List Addr} {H0 V0 H : Hp} {σ : St} {ρ : DEnv} {l : Addr} {o : HO} (r : SR K B (upd H0 l o) V0 H Z σ ρ) (hn : H0 l = none) : SR K B H0 V0 H Z σ ρ :=
  ⟨fun b u e => r.same b u (by rw [upd_ne (fun z => by rw [z, hn] at e; cases e)]; exact e), r.vis, r.sub, r.zs, r.sh, fun j es hj => by
      obtain ⟨a, xs, t1, t2, tb, t3, t4, t5⟩ := r.own j es hj
      have na : a ≠ l := fun z => by rw [z, upd_same] at t3; cases t3
      exact ⟨a, xs, t1, t2, tb, by rw [upd_ne na] at t3; exact t3, t4, t5⟩, r.inj, r.len⟩
theorem sl_compX {elt target iter : Expr} {scope : Scope} {fi : DEnv → Option (List D)} {h : D → DEnv → Option DEnv} {fe : DEnv → Option (D × DEnv)} (N : List Str) (cap : List (Option Nat))
    (hc : X.calm = true) (hi : SI X target iter fi)
    (hg : ∀ cl C fp s H, SG (compCx X N scope cl C fp s H) target h) (he : ∀ cl C fp s H, SX (compCx X N scope cl C fp s H) elt fe)
    (hok : compOk scope X.env.scope N cap X.N = true := by rfl) (hs : ∀ x, foldedSetIterable iter X.env x = pure x := by intro _; rfl) :
    SL X (.ListComp elt [⟨target, iter, [], 0⟩] scope pos) (dCompX cap fi h fe) := by
  unfold compOk at hok
  simp only [Bool.and_eq_true] at hok
  obtain ⟨⟨⟨⟨⟨⟨h1, h2⟩, h3⟩, h4⟩, h5⟩, h6⟩, h7⟩ := hok
  rw [List.all_eq_true] at h2 h3 h4 h5 h7
  have hinj : ∀ (i j k : Nat), cap[i]? = some (some k) → cap[j]? = some (some k) → i = j := fun i j k e1 e2 => by
    have hi' : i < cap.length := (List.getElem?_eq_some_iff.mp e1).1
    have hj' : j < cap.length := (List.getElem?_eq_some_iff.mp e2).1
    have z := h7 i (List.mem_range.mpr hi')
    rw [List.all_eq_true] at z
    have z2 := z j (List.mem_range.mpr hj')
    rw [e1, e2] at z2
    simpa using z2
  refine pe_weak (pe_comp (N := N) (cap := cap) (g := tG X.K h) (te := tX X.K fe) hc hi hg (fun cl C fp s H => pifs_nil) he (by simpa using h1) (fun y hy => by simpa using h2 y hy) (fun y hy e => ?_) (fun y hy e => ?_) (fun y hy e => ?_) (fun i j e => ?_) (by simpa using h6) hs) fun σ H Q ⟨ρ, zs, B, H0, V0, Z, e, r, q⟩ => ?_
  · have z := h3 y hy
    rw [e] at z
    simpa using z
  · have z := h4 y hy
    rw [e] at z
    simp only [beq_self_eq_true, if_true, Bool.and_eq_true] at z
    simpa using z.1
  · have z := h4 y hy
    rw [e] at z
    simp only [beq_self_eq_true, if_true, Bool.and_eq_true, Bool.or_eq_true] at z
    simpa using z.2
  · have hi' : i < cap.length := (List.getElem?_eq_some_iff.mp e).1
    have z := h5 i (List.mem_range.mpr hi')
    rw [e] at z
    dsimp only at z
    split at z
    · rename_i x hx
      split at z
      · rename_i y hy
        simp only [Bool.and_eq_true, beq_iff_eq] at z
        obtain ⟨z1, z2⟩ := z
        subst z1
        exact ⟨x, hx, hy, z2⟩
      · cases z
    · cases z
  · unfold dCompX at e
    split at e
    · rename_i ds eds
      split at e
      · rename_i hl
        refine ⟨ρ, ds, B, H0, V0, Z, eds, r, fun J H1 s1 wk l hl1 => ?_⟩
        have R1 := r.mono s1
        have n0 : H0 l = none := R1.same.free hl1
        have sl : Same H1 (upd H1 l (.lst [])) := same_upd hl1
        have R2 : SR X.K B H0 (hide Z H1) (upd H1 l (.lst [])) (l :: Z) (capt cap σ) (capE cap ρ) := sr_capt hinj ((R1.vis' (fun _ _ h => h)).more hl1 sl upd_same)
        have noL : ∀ {H' : Hp} {σ' : St} {ρ' : DEnv} {o : HO}, SR X.K B (upd H0 l o) (hide Z H1) H' (l :: Z) σ' ρ' → ∀ (j : Nat) (es : OC) a, ρ'[j]? = some (some es.cell) → σ'[j]? = some (some (.ref a)) → a ≠ l := fun r' j es a hj hs' z => by
          obtain ⟨a', xs, t1, _, _, t3, _⟩ := r'.own j es hj
          rw [hs'] at t1
          cases t1
          rw [z, upd_same] at t3
          cases t3
        have R3 : SR X.K B (upd H0 l (.lst [])) (hide Z H1) (upd H1 l (.lst [])) (l :: Z) (capt cap σ) (capE cap ρ) := by
          refine R2.base upd_same n0 fun j es a hj hs' z => ?_
          have rc := sr_capt hinj R1
          obtain ⟨a', xs, t1, _, _, _, t4, _⟩ := rc.own j es hj
          rw [hs'] at t1
          cases t1
          rw [z, hl1] at t4
          cases t4
        refine ⟨fun i m σ' H' acc => m = ds.length - i ∧ i ≤ ds.length ∧ acc.length ≤ i ∧ ∃ ρ' ys ws, SR X.K B (upd H0 l (.lst acc)) (hide Z H1) H' (l :: Z) σ' ρ' ∧ RepL X.K (hide (l :: Z) H') ys acc ∧ compGoX h fe ρ' (ds.drop i) = some ws ∧ zs = ys ++ ws ∧ RepL X.K (hide Z H1) [] [],
          ⟨_, rfl, Nat.zero_le _, Nat.le_refl _, capE cap ρ, [], zs, R3, RepL.nil, e, rfl, RepL.nil⟩, ?_⟩
        rintro i m σ' H' acc ⟨rfl, hi', hal, ρ', ys, ws, r', ry, e', ez, _⟩
        have vis : Same (hide Z H1) H' := r'.vis.trans hide_sub
        have hacc : H' l = some (.lst acc) := r'.same l _ upd_same
        by_cases hlt : i < ds.length
        · refine .inr ⟨wk.go H' vis i hlt, lim_lt (Nat.le_trans hal (Nat.le_trans hi' hl)), fun x H3 hy => ?_⟩
          obtain ⟨sH, hx⟩ := wk.yld H' vis i x H3 hy
          have hd := hx ds[i] (List.getElem?_eq_getElem hlt) (l :: Z) r'.zs r'.vis
          have r' := r'.mono sH
          have ry := ry.mono (hide_same sH)
          rw [List.drop_eq_getElem_cons hlt] at e'
          unfold compGoX at e'
          split at e'
          · cases e'
          · rename_i ρ1 e1
            refine ⟨ρ', ds[i], ρ1, B, upd H0 l (.lst acc), hide (l :: Z) H3, l :: Z, e1, r'.vis' (fun _ _ h => h), hd, fun σ4 r4 => iteT ?_⟩
            split at e'
            · rename_i y ρ2 ey
              split at e'
              · rename_i yy eyy
                cases e'
                refine ⟨ρ1, y, ρ2, B, upd H0 l (.lst acc), hide (l :: Z) H3, l :: Z, ey, r4, fun v H6 r6 rv => ⟨r6.same l _ upd_same, ds.length - (i + 1), by omega, rfl, hlt, ?_, ρ2, ys ++ [y], yy, ?_, ?_, eyy, by rw [ez]; simp, RepL.nil⟩⟩
                · rw [List.length_append]; simpa using hal
                · have R6 := (r6.vis' (r'.vis.trans r6.vis)).unbase n0
                  have vs : Same (hide (l :: Z) H6) (hide (l :: Z) (upd H6 l (.lst (acc ++ [v])))) := hide_upd List.mem_cons_self
                  have na := noL (r6.vis' (V1 := hide Z H1) (r'.vis.trans r6.vis))
                  have R7 : SR X.K B H0 (hide Z H1) (upd H6 l (.lst (acc ++ [v]))) (l :: Z) σ4 ρ2 := by
                    refine ⟨same_updI n0 R6.same, R6.vis.trans vs, R6.sub, fun z hz => ?_, fun j d hj => let ⟨u, t1, t2⟩ := R6.sh j d hj; ⟨u, t1, t2.mono vs⟩, fun j es hj => ?_, R6.inj, R6.len⟩
                    · by_cases ez' : z = l
                      · subst ez'; exact ⟨_, upd_same⟩
                      · obtain ⟨o', ho'⟩ := R6.zs z hz
                        exact ⟨o', by rw [upd_ne ez']; exact ho'⟩
                    · obtain ⟨a, xs, t1, t2, tb, t3, t4, t5⟩ := R6.own j es hj
                      exact ⟨a, xs, t1, t2, tb, t3, by rw [upd_ne (na j es a hj t1)]; exact t4, t5.mono vs⟩
                  exact R7.base upd_same n0 na
                · exact RepL.append ((ry.mono r6.vis).mono (hide_upd List.mem_cons_self)) (RepL.one (rv.mono (hide_upd List.mem_cons_self)))
              · cases e'
            · cases e'
        · have ei : i = ds.length := by omega
          subst ei
          rw [List.drop_length] at e'
          unfold compGoX at e'
          cases e'
          rw [List.append_nil] at ez
          subst ez
          have r0 := r'.unbase n0
          exact .inl ⟨wk.stop H' vis, q l acc H' r0.same (SqL.of hacc) (ry.mono (hide_anti fun b hb => List.mem_cons_of_mem _ (r.sub b hb))) fun b hb => r0.zs b (r0.sub b hb)⟩
      · cases e
    · cases e
theorem ss_ret_tupL {a : Expr} {p pos2 : Pos} {f : DEnv → Option (List D)} (hm : X.mg "tuple" = none) (h : SL X a f) (hg : Gl X "tuple" := by rfl) (he : starEach [a] X.env = (false, eval a X.env) :: starEach [] X.env := by exact star_of rfl) (hpl : (backTo pos2 (starEach [] X.env)).any (·.1) = false := by exact back_of rfl) (hv : bootBuiltins "tuple" = some (.type "tuple") := by decide +kernel) :
    SS X (.Return (some (.Call (.Name "tuple" p) [a] [] pos2)) pos) (dRet (dTupF f)) :=
  ps_weak (ps_ret (pe_callTy call_tuple_of hg hm hv (pa_cons h pa_nil he) (by decide) (by decide) he hpl)) fun E σ H ⟨ρ, o, B, H0, V0, Z, e, r, q⟩ => by
    unfold dRet dTupF at e
    cases ef : f ρ with
    | none => rw [ef] at e; cases e
    | some ds =>
      rw [ef] at e
      cases e
      refine ⟨ρ, ds, B, H0, V0, Z, ef, r, fun n xs H1 s1 hq rr hB => ⟨n, xs, rfl, .inl ⟨hq, fun l hl => ?_⟩⟩⟩
      have sn := same_upd (o := HO.tup xs) hl
      refine q _ _ (s1.trans sn) (rep_tup.mpr ⟨l, xs, rfl, SqT.of ?_, rr.mono (hide_same sn)⟩)
      rw [hide_out (fun z => by obtain ⟨u, hu⟩ := hB l z; rw [hl] at hu; cases hu)]
      exact upd_same
end
end L3
set_option Elab.async false
set_option linter.all false
set_option maxRecDepth 100000
set_option maxHeartbeats 1000000
namespace L3
open PySem PySem.Spec PyProof.Rows L2 PySem.SeqAt
section
variable {X : Cx} {pos p p2 pos2 : Pos} {a b c e tg : Expr} {fa fb fc f : DEnv → Option D}
theorem pi_or {w1 w2 : TI} (h1 : PI X tg e w1) (h2 : PI X tg e w2) : PI X tg e (fun σ H R => w1 σ H R ∨ w2 σ H R) := fun pins s σ H R I h => by
  rcases h with h | h
  · exact h1 pins s σ H R I h
  · exact h2 pins s σ H R I h
theorem si_seq (h : SE X e f) : SI X tg e (dSq f) := pi_weak (pi_or (si_lst h) (si_tup h)) fun σ H R ⟨ρ, ds, B, H0, V0, Z, e, r, q⟩ => by
  unfold dSq at e
  split at e
  · rename_i es he
    cases e
    exact .inl ⟨ρ, _, B, H0, V0, Z, by unfold dLstOf; rw [he], r, q⟩
  · rename_i es he
    cases e
    exact .inr ⟨ρ, _, B, H0, V0, Z, by unfold dTupOf; rw [he], r, q⟩
  · cases e
theorem st_lt (hu : X.A.units < cLine) (ha : SE X a fa) (hb : SE X b fb) : STt X (.Compare a [.Lt] [b] pos) (dTest (d2 dLt fa fb)) := st_cmp (op_lt.or (op_ltT hu)) (RdOp.or rd_bl0 rd_ltT) ha hb (nomark _)
theorem se_popAt {i : Nat} {x : Str} {p1 p2 p3 : Pos} (h : SE X a fa) (hN : X.N[i]? = some x := by rfl) (hv : Vis X.env.scope x := by first | exact Or.inl rfl | exact Or.inr (Or.inl rfl) | exact Or.inr (Or.inr rfl)) (hd : (x == ("__debug__" : Str)) = false := by decide)
    (hcd : (x == ("__classdict__" : Str)) = false := by decide) (hbase : attributeBase (.Name x p1) "pop" X.env (eval (.Name x p1) X.env) = eval (.Name x p1) X.env := by rfl)
    (hfew : ((backTo p3 (starEach [a] X.env)).all (fun x => !x.1) && (backToKw p3 (keywordEach [] X.env)).all (fun x => x.1.isSome)
      && decide (([a] : List Expr).length + ([] : List Keyword).length + (if ([] : List Keyword).isEmpty then 0 else 1) < 30)) = true := by rfl)
    (hline : (p2.endLine == p3.line) = true := by rfl) (hs : starEach [a] X.env = (false, eval a X.env) :: starEach [] X.env := by exact star_of rfl) (hplain : (backTo p3 (starEach [] X.env)).any (·.1) = false := by exact back_of rfl) :
    SX X (.Call (.Attribute (.Name x p1) "pop" p2) [a] [] p3) (dPop i fa) :=
  sx_pop (pe_bm PySem.F.plainAttrs_list PySem.F.slot_list_pop PySem.F.type_list_pop mt_popAt (pe_var hN hv hd hcd) (pa_cons h pa_nil hs) hbase hfew hline hs hplain)
def dSlF (f : DEnv → Option (List D)) (fl fh : DEnv → Option (Option Int)) : DEnv → Option (List D) := fun ρ => match f ρ with
  | some ds => (match fl ρ with | some lo => (match fh ρ with | some hi => some (cut ds lo hi) | none => none) | none => none)
  | none => none
end
theorem hide_nil {H : Hp} : hide [] H = H := by
  funext b
  unfold hide
  rw [if_neg (by simp)]
def dFn (n : Nat) (N : List Str) (g : DEnv → Option Out) : List D → Option D := fun ds => if ds.length = n then outD (g (startD N ds)) else none
theorem fn_d {P : Program} {w : World} {K : PySem.W.Frag} {mg : Str → Option Value} {base : Heap} {x : Str} {st : Stmt} {N ps : List Str} {k n : Nat} {g : DEnv → Option Out} (G : Stands K mg x st) (S : FnScope N ps (defScope st))
    (hb : ∀ (kV doc pm : Value) (an : Option Addr) (cdv ct : Value) (us : List Value), us.length = ps.length → bindArgs (PySem.W.fnOf x x (defArgs st) (defBody st) (defScope st) .none kV doc pm an cdv ct) ⟨us, []⟩ = pure (ps.zip us))
    (hn : ps.length = n)
    (hbody : ∀ (f : Addr) (cdv : Value) (A : Around) (outer : List Env) (s : Shared) (H : Hp) (E : XK), Room k (A.deeper (envOfC x (defScope st) s.heap.objs.size f cdv)) →
      SSs (cxOf CX0 P w K mg base N x (defScope st) f cdv A outer s H E).nox (defBody st) g) : FnD P w K mg base (k + 1) x ps (dFn n N g) :=
  fn_stands G S (fun ds d e => by
    unfold dFn at e
    split at e
    · rename_i h; rw [h, hn]
    · cases e) (fun ds d e => by
    unfold dFn at e
    split at e
    · exact e
    · cases e) hb hbody
end L3
set_option Elab.async false
set_option linter.all false
set_option maxRecDepth 100000
set_option maxHeartbeats 4000000
namespace L3
open PySem PySem.Spec PyProof.Rows L2 PySem.SeqAt
section
variable {prog : Program} {w : World} {A : Around} {E : Value → Shared → Prop} {s : Shared}
theorem tupNext_item {it t : Addr} {i : Nat} {items : Array Value} {x : Value} {Q : Value → Shared → Prop} (hit : s.heap.IsTupleIter it t i) (ht : s.heap.IsTuple t items) (hx : items[i]? = some x)
    (hQ : ∀ h', h'.IsTupleIter it t (i + 1) → Heap.SameBut it s.heap h' → Q x { s with heap := h' }) : wpAny (model prog w) A (Builtin.SmallTypes.nextOf (.ref it)) Q E s := by
  rcases id hit with ⟨ob, eo, ec, ed⟩
  rcases ht with ⟨ot, et, _, nt, edt⟩
  unfold Builtin.SmallTypes.nextOf; refine wpAny_bind (wpAny_callSpecial?_slot (name := Str.ofString "__next__") hit.typeIs F.slot_tuple_iterator_next (wpAny_call_entry F.slot_tuple_iterator_next hit.typeIs F.entry_tuple_iterator_next ?_ (F.args_tuple_iterator_next_1 _)))
  show wpAny _ _ (field (.ref it) 0 >>= _) _ _ s; refine wpAny_bind (wpAny_field eo ed (x := .ref t) rfl ?_)
  show wpAny _ _ (if (Value.ref t == Value.none) = true then _ else _) _ _ s; rw [if_neg (show ¬ ((Value.ref t == Value.none) = true) from Bool.false_ne_true)]
  show wpAny _ _ (field (.ref it) 1 >>= _) _ _ s; refine wpAny_bind (wpAny_field eo ed (x := .int i 0) rfl ?_)
  show wpAny _ _ (seqItems? (.ref t) >>= _) _ _ s; refine wpAny_bind (wpAny_seqItems et edt ?_)
  simp only [Int.toNat_natCast, hx]
  refine wpAny_bind (wpAny_setField eo ed (by simp) (wpAny_pure ⟨x, rfl, wpAny_pure (hQ _ ?_ (Heap.SameBut.update ..))⟩))
  exact ⟨_, Heap.get?_update_self _ eo (Obj.isFreed_of_fields (Obj.data_mapFields ed _)), (Obj.cls_mapFields ..).trans ec, by rw [Obj.data_mapFields ed]; simp [rawInt]⟩
theorem tupNext_end {it t : Addr} {i : Nat} {items : Array Value} {Q : Value → Shared → Prop} (hh : A.handled = none) (hit : s.heap.IsTupleIter it t i) (ht : s.heap.IsTuple t items) (hx : items[i]? = none)
    (hE : ∀ h' e, Heap.ExtBut it s.heap h' → (∃ o, h'.get? e = some o ∧ o.cls = .type "StopIteration") → E (.ref e) { s with heap := h' }) : wpAny (model prog w) A (Builtin.SmallTypes.nextOf (.ref it)) Q E s := by
  rcases id hit with ⟨ob, eo, ec, ed⟩
  rcases ht with ⟨ot, et, _, nt, edt⟩
  unfold Builtin.SmallTypes.nextOf; refine wpAny_bind (wpAny_callSpecial?_slot (name := Str.ofString "__next__") hit.typeIs F.slot_tuple_iterator_next (wpAny_call_entry F.slot_tuple_iterator_next hit.typeIs F.entry_tuple_iterator_next ?_ (F.args_tuple_iterator_next_1 _)))
  show wpAny _ _ (field (.ref it) 0 >>= _) _ _ s; refine wpAny_bind (wpAny_field eo ed (x := .ref t) rfl ?_)
  show wpAny _ _ (if (Value.ref t == Value.none) = true then _ else _) _ _ s; rw [if_neg (show ¬ ((Value.ref t == Value.none) = true) from Bool.false_ne_true)]
  show wpAny _ _ (field (.ref it) 1 >>= _) _ _ s; refine wpAny_bind (wpAny_field eo ed (x := .int i 0) rfl ?_)
  show wpAny _ _ (seqItems? (.ref t) >>= _) _ _ s; refine wpAny_bind (wpAny_seqItems et edt ?_)
  simp only [Int.toNat_natCast, hx]
  refine wpAny_bind (wpAny_rule (wpAny_bind (wpAny_setField eo ed (by simp) ?_)))
  show wpAny _ _ (newExc (.type "StopIteration") [] >>= _) _ _ _; refine wpAny_bind ?_
  simp only [newExc, newTuple]; refine wpAny_bind (wpAny_newObj_type ?_ (by size_fits))
  refine wpAny_bind (m := firstArgMember _ _) (wpAny_of_eq (a := Value.none) (by first | rfl | (simp only [firstArgMember]; rfl)) (wpAny_newObj_type ?_ (by size_fits)))
  simp only [raiseNew]; refine wpAny_bind (wpAny_handled ?_)
  first | rw [show A.in1.handled = none from hh] | rw [hh]
  refine wpAny_bind (wpAny_pure (wpAny_throw ?_)); exact hE _ _ (((Heap.SameBut.update ..).extBut.push _).push _) ⟨_, Heap.get?_push_size _ rfl, rfl⟩
theorem draws_tuple (hh : A.handled = none) (it t : Addr) (hne : t ≠ it) (items : Array Value) :
    Draws prog w A it [it, t] items.size (fun i v => items[i]? = some v) (fun i h => h.IsTupleIter it t i ∧ h.IsTuple t items) where
  live := fun _ _ st => by obtain ⟨⟨o, ho, _⟩, _⟩ := st; exact ⟨o, ho⟩
  frame := fun _ _ _ st hk => by
    obtain ⟨⟨o, ho, z⟩, ⟨o2, ho2, z2⟩⟩ := st
    exact ⟨⟨o, hk it (by simp) o ho, z⟩, ⟨o2, hk t (by simp) o2 ho2, z2⟩⟩
  item := fun i s Q E hi st hQ => tupNext_item st.1 st.2 (x := items[i]) (by simp [hi]) fun h' a b => hQ _ h' s.toks (by simp [hi]) ⟨a, st.2.extBut b.extBut hne⟩ b
  done := fun s Q E st hE => tupNext_end hh st.1 st.2 (by simp) hE
theorem enumNew_tup (l : Addr) (items : Array Value) (n : Nat) (dct : Option Addr) (sl : Array (Option Value)) :
    Meets (Builtin.«enumerate.__new__» ⟨[.type "enumerate", .ref l], []⟩) (fun _ R s => s.heap.get? l = some { cls := .type "tuple", dict := dct, data := .seq items n, slots := sl } ∧
      R (.ok (.ret (.ref (s.heap.push { cls := .type "tuple_iterator", data := .fields #[.ref l, .int 0 0] }).objs.size)))
        { s with heap := (s.heap.push { cls := .type "tuple_iterator", data := .fields #[.ref l, .int 0 0] }).push { cls := .type "enumerate", data := .fields #[.none, .bool false, .ref s.heap.objs.size, rawInt 0, .none, .none] } }) :=
  .of_wp fun prog w A R s h => by
    obtain ⟨hp, g, d, tk, os⟩ := s; obtain ⟨hl, h⟩ := h; have hsub := sub_enumerate
    have hL : Heap.IsTuple (Shared.heap ⟨hp, g, d, tk, os⟩) l items := ⟨_, hl, rfl, n, rfl⟩
    wp_walk using AutoSeq1.wpAny_loadPart' hl; refine wpAny_stack_any fun st => wpAny_pure ?_
    split
    · rename_i c _ _ _ _ _
      cases (c == Value.type "enumerate") <;> (wp_walk using AutoSeq1.wpAny_loadPart' hl, wpAny_pyIter_tuple hL; exact ⟨_, rfl, h⟩)
    · wp_walk using AutoSeq1.wpAny_loadPart' hl, wpAny_pyIter_tuple hL; exact ⟨_, rfl, h⟩
theorem call_enum_tup {l : Addr} {items : Array Value} {Q : Value → Shared → Prop} (hL : s.heap.IsTuple l items)
    (h : ∀ h', IsEnum h' (s.heap.objs.size + 1) s.heap.objs.size 0 .none → h'.IsTupleIter s.heap.objs.size l 0 → (∀ b o, s.heap.get? b = some o → h'.get? b = some o) → Q (.ref (s.heap.objs.size + 1)) { s with heap := h' }) :
    wpAny (model prog w) A (call (.type "enumerate") [.ref l]) Q E s := by
  rcases hL with ⟨⟨c, dct, dt, sl⟩, hl, hc, n, hd⟩
  have hc' : c = .type "tuple" := hc
  have hd' : dt = .seq items n := hd
  subst hc' hd'
  refine callType_new F.called_enumerate (by decide) (F.typeCall_enumerate_1 _) (F.newCall_enumerate_1 _) (fun obj => F.args_object_init_2 obj _) F.entry_enumerate_new (enumNew_tup l items n dct sl) ⟨hl, ?_⟩
  have hz : (s.heap.push { cls := .type "tuple_iterator", data := .fields #[.ref l, .int 0 0] }).objs.size = s.heap.objs.size + 1 := Heap.size_push ..
  have he : IsEnum ((s.heap.push { cls := .type "tuple_iterator", data := .fields #[.ref l, .int 0 0] }).push { cls := .type "enumerate", data := .fields #[.none, .bool false, .ref s.heap.objs.size, rawInt 0, .none, .none] }) (s.heap.objs.size + 1) s.heap.objs.size 0 .none := by
    have z := Heap.get?_push_size (s.heap.push { cls := .type "tuple_iterator", data := .fields #[.ref l, .int 0 0] }) (o := { cls := .type "enumerate", data := .fields #[.none, .bool false, .ref s.heap.objs.size, rawInt 0, .none, .none] }) rfl
    rwa [hz] at z
  show _ ∧ _
  rw [hz]
  exact ⟨⟨_, he, rfl⟩, h _ he ⟨_, Heap.get?_push_of_some _ (Heap.get?_push_size _ rfl), rfl, rfl⟩ fun b o x => Heap.get?_push_of_some _ (Heap.get?_push_of_some _ x)⟩
end
theorem inv_turned {X : Cx} {pins : List (Addr × Obj)} {σ : St} {H : Hp} {s : Shared} {h' : Heap} {t' : Nat} {ch : List Addr} {a : Addr} {o : HO} (I : Inv X pins σ H s) (k : ∀ b ob, b ∉ ch → s.heap.get? b = some ob → h'.get? b = some ob) (hf : ∀ b ∈ ch, FpOk X pins H b)
    (ha : s.heap.objs.size ≤ a) (new : ObjOk X.prog X.w (upd H a o) h' a o) : Inv X pins σ (upd H a o) { s with heap := h', toks := t' } := by
  have hn : H a = none := I.hok.fresh ha
  have lt : ∀ b ob, s.heap.get? b = some ob → b ≠ a := fun b ob e => Nat.ne_of_lt (Nat.lt_of_lt_of_le (Heap.lt_size e) ha)
  have nch : ∀ b u, H b = some u → b ∉ ch := fun b u e z => by
    have := (hf b z).1
    rw [e] at this; cases this
  refine I.call (g' := s.gens) (d' := s.drawn) (ch := ch) ⟨fun b ob e n _ hx => k b ob hx e, fun b ob e n _ hx => ⟨ob.slots, k b ob hx e⟩, fun b ob e n _ => by rw [upd_ne (lt b ob e)]; exact n, fun b ob e hx => ⟨ob, k b ob hx e⟩,
    fun b xs e => by rw [upd_ne (ne_of_none e hn)]; exact e, fun b ob u e => by rw [upd_ne (ne_of_none e hn)]; exact e, fun b ps e => ⟨#[], by rw [upd_ne (ne_of_none e hn), e]; simp⟩⟩ (fun b u e => ?_) I.bare fun b hb => ?_
  · by_cases hb : b = a
    · subst hb; rw [upd_same] at e; cases e; exact new
    · rw [upd_ne hb] at e
      refine (I.hok b u e).stay (fun c v hc q => k c v ?_ q) (fun c q => by rw [upd_ne (ne_of_none q hn)]; exact q) fun c xs q => by rw [upd_ne (ne_of_none q hn)]; exact q
      rcases hc with z | z
      · rw [z]; exact nch b u e
      · exact nch c _ z
  · obtain ⟨_, f1, _, f3, f5, f6⟩ := hf b hb
    exact ⟨f3, f1, f5, f6⟩
def Ite (Sq : Hp → List V → Prop) : It :=
  ⟨fun i H => ∃ xs x, Sq H xs ∧ xs[i]? = some x, fun i H x H' => ∃ p y, H p = none ∧ x = .ref p ∧ H' = upd H p (.tup [.int (i : Nat), y]) ∧ ∀ xs, Sq H xs → xs[i]? = some y, fun i H => ∃ xs, Sq H xs ∧ xs.length = i⟩
structure ESrc (P : Program) (w : World) (K : PySem.W.Frag) (a it : Addr) (Sq : Hp → List V → Prop) (Sr : Heap → Array Value → Prop) (It0 : Nat → Heap → Prop) : Prop where
  src : ∀ (X : Cx) pins σ H s, X.K = K → Inv X pins σ H s → ∀ xs, Sq H xs → ∃ its : List Value, Vals xs its ∧ Sr s.heap its.toArray
  inj : ∀ (X : Cx) pins σ H s, X.K = K → Inv X pins σ H s → ∀ xs ys, Sq H xs → Sq H ys → xs = ys
  draw : ∀ (A : Around) (items : Array Value), A.handled = none → Draws P w A it [it, a] items.size (fun i v => items[i]? = some v) (fun i h => It0 i h ∧ Sr h items)
  obj : ∀ i h, It0 i h → ∃ o, h.get? it = some o ∧ ∀ v, o.data ≠ .cell v
  keep : ∀ i h h', It0 i h → (∀ o, h.get? it = some o → h'.get? it = some o) → It0 i h'
  cls : ∀ h items, Sr h items → ∃ o, h.get? a = some o ∧ o.cls ≠ .type "enumerate"
theorem turn_enum {P : Program} {w : World} {K : PySem.W.Frag} {elts : List Expr} {x1 : Nat} {tpos : Pos} {a it e : Addr} {Sq : Hp → List V → Prop} {Sr : Heap → Array Value → Prop} {It0 : Nat → Heap → Prop} (D : ESrc P w K a it Sq Sr It0) (hei : e ≠ it) :
    Turn P w K (.Tuple elts x1 tpos) (Ite Sq) [e, it] e (fun i h => (∃ old, IsEnum h e it ((i : Nat) : Int) old) ∧ It0 i h) where
  mem := by simp
  obj := fun i h st b hb => by
    obtain ⟨⟨old, he⟩, hi⟩ := st
    rcases List.mem_cons.mp hb with z | z
    · subst z; exact ⟨_, he, fun v q => by cases q⟩
    · rw [List.mem_singleton.mp z]; exact D.obj i h hi
  keep := fun i h h' st k => by
    obtain ⟨⟨old, he⟩, hi⟩ := st
    exact ⟨⟨old, k e (by simp) _ he⟩, D.keep i h h' hi fun o q => k it (by simp) o q⟩
  item := by
    intro X hP hw hK hc i pins s σ H E I hf st hg
    subst hP hw
    obtain ⟨xs, x, hq, hx⟩ := hg
    obtain ⟨⟨old, he⟩, hi⟩ := st
    obtain ⟨its, rv, sr⟩ := D.src X pins σ H s hK I xs hq
    obtain ⟨u, hu, ru⟩ := rv.get hx
    have hlt : i < its.toArray.size := by rw [List.size_toArray]; exact (List.getElem?_eq_some_iff.mp hu).1
    have hea : e ≠ a := fun z => by
      obtain ⟨o, h1, h2⟩ := D.cls _ _ sr
      rw [← z, he] at h1
      cases h1
      exact h2 rfl
    have hef : e ∉ [it, a] := by simp [hei, hea]
    have heL : e < s.heap.objs.size := Heap.lt_size he
    obtain ⟨oi, hoi, _⟩ := D.obj i _ hi
    have hiL : it < s.heap.objs.size := Heap.lt_size hoi
    refine wpAny_pyNext_enum_itemD (D.draw X.A.in1 its.toArray (I.ok.hd hc)) he ⟨hi, sr⟩ hlt hei hef fun v h1 tk hv ho hs hT hz hk => ?_
    have ev : v = u := by
      have : its.toArray[i]? = some v := hv
      rw [show its.toArray[i]? = its[i]? by simp, hu] at this
      exact (Option.some.inj this).symm
    subst ev
    refine ⟨_, rfl, wpAny_letOwnedTupleGo_enum ho fun h2 he2 hs2 => ?_⟩
    have kk : ∀ b ob, b ∉ [e, it] → s.heap.get? b = some ob → h2.get? b = some ob := fun b ob hb q => by
      have n1 : b ≠ e := fun z => hb (by simp [z])
      have n2 : b ≠ it := fun z => hb (by simp [z])
      exact (hs2.2 b n1).trans (hk b ob n1 n2 q)
    have hT2 : h2.get? s.heap.objs.size = some { cls := .type "tuple", data := .seq #[.int i tk, v] } := (hs2.2 _ (Nat.ne_of_gt heL)).trans hT
    refine ⟨.ref s.heap.objs.size, upd H s.heap.objs.size (.tup [.int (i : Nat), x]), inv_turned (s := s) (t' := tk + 1) I kk hf (Nat.le_refl _) ⟨by rw [sizeLine_eq]; simp, [.int i tk, v], .cons ⟨tk, rfl⟩ (.cons ru .nil), ⟨_, hT2, rfl, ⟨_, rfl⟩, rfl⟩⟩, rfl, ⟨_, x, I.fresh, rfl, rfl, fun ys hy => by rw [D.inj X pins σ H s hK I ys xs hy hq]; exact hx⟩, ⟨⟨v, ?_⟩, ?_⟩, fun b hb => ?_⟩
    · have : (((i + 1 : Nat) : Nat) : Int) = (i : Int) + 1 := by omega
      rw [this]; exact he2
    · exact D.keep _ _ _ hs.1 fun o q => (hs2.2 it (Ne.symm hei)).trans q
    · have hb' : b < s.heap.objs.size := by
        rcases List.mem_cons.mp hb with z | z
        · rw [z]; exact heL
        · rw [List.mem_singleton.mp z]; exact hiL
      rw [upd_ne (Nat.ne_of_lt hb')]
      exact (hf b hb).1
  done := by
    intro X hP hw hK hc i pins s σ H E I hf st hg
    subst hP hw
    obtain ⟨xs, hq, hx⟩ := hg
    obtain ⟨⟨old, he⟩, hi⟩ := st
    obtain ⟨its, rv, sr⟩ := D.src X pins σ H s hK I xs hq
    have hn : i = its.toArray.size := by rw [List.size_toArray, ← rv.length, hx]
    obtain ⟨f0, f1, f2, f3, f4, f5⟩ := hf it (by simp)
    refine wpAny_pyNext_enum_endD (D.draw X.A.in1 its.toArray (I.ok.hd hc)) he ⟨hn ▸ hi, sr⟩ fun h' eb => ⟨rfl, I.turned (t' := s.toks) (fun b o hb q => eb b o hb q) f0 f1 f3 f4 f5⟩
  self := fun _ _ _ _ _ st h => by
    obtain ⟨⟨old, he⟩, _⟩ := st
    exact wpAny_pyIter_enum he h
theorem esrc_list {P : Program} {w : World} {K : PySem.W.Frag} {a it : Addr} (hne : a ≠ it) : ESrc P w K a it (fun H xs => SqL K H a xs) (fun h items => h.IsList a items) (fun i h => h.IsListIter it a i) where
  src := fun X pins σ H s hK I xs hq => by
    subst hK
    obtain ⟨its, rv, p, _⟩ := I.list hq
    exact ⟨its, rv, p.isList⟩
  inj := fun X pins σ H s hK I xs ys h1 h2 => by subst hK; exact I.list_inj h1 h2
  draw := fun A items hh => Draws.list hh it a hne items
  obj := fun i h st => by
    obtain ⟨o, e, c, d⟩ := st
    exact ⟨o, e, fun v z => by rw [d] at z; cases z⟩
  keep := fun i h h' st k => by
    obtain ⟨o, e, z⟩ := st
    exact ⟨o, k o e, z⟩
  cls := fun h items st => by
    obtain ⟨o, e, c, _⟩ := st
    exact ⟨o, e, by rw [c]; decide⟩
theorem esrc_tup {P : Program} {w : World} {K : PySem.W.Frag} {a it : Addr} (hne : a ≠ it) : ESrc P w K a it (fun H xs => SqT K H a xs) (fun h items => h.IsTuple a items) (fun i h => h.IsTupleIter it a i) where
  src := fun X pins σ H s hK I xs hq => by
    subst hK
    obtain ⟨its, rv, p, _⟩ := I.tuple hq
    exact ⟨its, rv, p⟩
  inj := fun X pins σ H s hK I xs ys h1 h2 => by subst hK; exact I.tuple_inj h1 h2
  draw := fun A items hh => draws_tuple hh it a hne items
  obj := fun i h st => by
    obtain ⟨o, e, c, d⟩ := st
    exact ⟨o, e, fun v z => by rw [d] at z; cases z⟩
  keep := fun i h h' st k => by
    obtain ⟨o, e, z⟩ := st
    exact ⟨o, k o e, z⟩
  cls := fun h items st => by
    obtain ⟨o, e, c, _⟩ := st
    exact ⟨o, e, by rw [c]; decide⟩
section
variable {X : Cx} {elts : List Expr} {x1 : Nat} {tpos pos p : Pos} {a : Expr} {f : DEnv → Option D}
def iEnL (K : PySem.W.Frag) (ta : TA) : TI := fun σ H R => ta σ H fun vs H1 => ∃ a, vs = [.ref a] ∧ (∃ xs, SqL K H1 a xs) ∧ R (Ite fun H xs => SqL K H a xs) H1
def iEnT (K : PySem.W.Frag) (ta : TA) : TI := fun σ H R => ta σ H fun vs H1 => ∃ a, vs = [.ref a] ∧ (∃ xs, SqT K H1 a xs) ∧ R (Ite fun H xs => SqT K H a xs) H1
theorem pi_enL {ta : TA} (hg : Gl X "enumerate") (hm : X.mg "enumerate" = none) (ha : PA X [a] ta) (hv : bootBuiltins "enumerate" = some (.type "enumerate")) (he : starEach [a] X.env = (false, eval a X.env) :: starEach [] X.env) (hpl : (backTo pos (starEach [] X.env)).any (·.1) = false) : PI X (.Tuple elts x1 tpos) (.Call (.Name "enumerate" p) [a] [] pos) (iEnL X.K ta) := by
  intro pins s σ H R I h
  refine Call_ (ld_blt I hg hm hv (PyProof.Rows.callWith_type1 (thn (ha pos pins s σ H _ I h) fun us s1 ⟨vs, H1, I1, r1, l, ev, ⟨xs, hq⟩, q1⟩ => ?_) he hpl))
  subst ev
  obtain ⟨u, rfl, ru⟩ := vals1 r1
  cases ru
  obtain ⟨its, rv, pl, _⟩ := I1.list hq
  refine call_enumerate_list pl.isList fun h' e1 e2 hz kk => wpAny_pyIter_enum e1 ?_
  have I2 : Inv X pins σ H1 { s1 with heap := h' } := I1.kept (t' := s1.toks) kk
  have hll : l < s1.heap.objs.size := by obtain ⟨o, e, _⟩ := pl.isList; exact Heap.lt_size e
  refine ⟨s1.heap.objs.size + 1, [s1.heap.objs.size + 1, s1.heap.objs.size], _, _, H1, rfl, I2, turn_enum (esrc_list (Nat.ne_of_lt hll)) (Nat.succ_ne_self _), ⟨⟨_, e1⟩, e2⟩, fun b hb => ?_, q1⟩
  have hb' : s1.heap.objs.size ≤ b := by
    rcases List.mem_cons.mp hb with z | z
    · rw [z]; exact Nat.le_succ _
    · rw [List.mem_singleton.mp z]; exact Nat.le_refl _
  exact I1.fpOk hb' (I1.hok.fresh hb')
theorem pi_enT {ta : TA} (hg : Gl X "enumerate") (hm : X.mg "enumerate" = none) (ha : PA X [a] ta) (hv : bootBuiltins "enumerate" = some (.type "enumerate")) (he : starEach [a] X.env = (false, eval a X.env) :: starEach [] X.env) (hpl : (backTo pos (starEach [] X.env)).any (·.1) = false) : PI X (.Tuple elts x1 tpos) (.Call (.Name "enumerate" p) [a] [] pos) (iEnT X.K ta) := by
  intro pins s σ H R I h
  refine Call_ (ld_blt I hg hm hv (PyProof.Rows.callWith_type1 (thn (ha pos pins s σ H _ I h) fun us s1 ⟨vs, H1, I1, r1, l, ev, ⟨xs, hq⟩, q1⟩ => ?_) he hpl))
  subst ev
  obtain ⟨u, rfl, ru⟩ := vals1 r1
  cases ru
  obtain ⟨its, rv, pl, _⟩ := I1.tuple hq
  refine call_enum_tup (show s1.heap.IsTuple l its.toArray from pl) fun h' e1 e2 kk => wpAny_pyIter_enum e1 ?_
  have I2 : Inv X pins σ H1 { s1 with heap := h' } := I1.kept (t' := s1.toks) kk
  have hll : l < s1.heap.objs.size := by obtain ⟨o, e, _⟩ := id pl; exact Heap.lt_size e
  refine ⟨s1.heap.objs.size + 1, [s1.heap.objs.size + 1, s1.heap.objs.size], _, _, H1, rfl, I2, turn_enum (esrc_tup (Nat.ne_of_lt hll)) (Nat.succ_ne_self _), ⟨⟨_, e1⟩, e2⟩, fun b hb => ?_, q1⟩
  have hb' : s1.heap.objs.size ≤ b := by
    rcases List.mem_cons.mp hb with z | z
    · rw [z]; exact Nat.le_succ _
    · rw [List.mem_singleton.mp z]; exact Nat.le_refl _
  exact I1.fpOk hb' (I1.hok.fresh hb')
def enumD : Nat → List D → List D
  | _, [] => []
  | k, d :: ds => .tup [.int (k : Int), d] :: enumD (k + 1) ds
theorem enumD_get : ∀ (ds : List D) (k i : Nat), (enumD k ds)[i]? = (ds[i]?).map fun d => .tup [.int ((k + i : Nat) : Int), d]
  | [], k, i => by simp [enumD]
  | d :: ds, k, 0 => by simp [enumD]
  | d :: ds, k, i + 1 => by
    rw [enumD, List.getElem?_cons_succ, enumD_get ds (k + 1) i, List.getElem?_cons_succ, show k + 1 + i = k + (i + 1) by omega]
theorem enumD_len : ∀ (ds : List D) (k : Nat), (enumD k ds).length = ds.length
  | [], _ => rfl
  | d :: ds, k => by rw [enumD, List.length_cons, List.length_cons, enumD_len ds]
theorem walk_enum {K : PySem.W.Frag} {W0 : Hp} {Sq : Hp → List V → Prop} {xs : List V} {ds : List D} (h1 : ∀ H', Same W0 H' → Sq H' xs) (h2 : RepL K W0 ds xs) : Walk K W0 (Ite Sq) (enumD 0 ds) where
  go := fun H' s i hi => by
    rw [enumD_len] at hi
    obtain ⟨v, hv, _⟩ := h2.get (List.getElem?_eq_getElem hi)
    exact ⟨xs, v, h1 H' s, hv⟩
  yld := fun H' s i x H3 hy => by
    obtain ⟨p, y, hp, rfl, rfl, hx⟩ := hy
    refine ⟨same_upd hp, fun d hd Z hz hs => ?_⟩
    rw [enumD_get] at hd
    cases e : ds[i]? with
    | none => rw [e] at hd; cases hd
    | some d0 =>
      rw [e] at hd
      cases hd
      obtain ⟨v, hv, rv⟩ := h2.get e
      have := hx xs (h1 H' s)
      rw [hv] at this
      obtain rfl := Option.some.inj this
      have sn := same_upd (o := HO.tup [.int (i : Nat), v]) hp
      refine rep_tup.mpr ⟨p, [.int (i : Nat), v], rfl, SqT.of ?_, RepL.cons (rep_int.mpr (by simp)) (RepL.one ((rv.mono hs).mono (hide_same sn)))⟩
      rw [hide_out (newer_of hz hp)]
      exact upd_same
  stop := fun H' s => ⟨xs, h1 H' s, by rw [enumD_len, h2.length]⟩
def dEnum (f : DEnv → Option D) : DEnv → Option (List D) := fun ρ => match f ρ with | some (.lst ds) => some (enumD 0 ds) | some (.tup ds) => some (enumD 0 ds) | _ => none
theorem si_enum (hm : X.mg "enumerate" = none) (h : SE X a f) (hg : Gl X "enumerate" := by rfl) (hv : bootBuiltins "enumerate" = some (.type "enumerate") := by decide +kernel) (he : starEach [a] X.env = (false, eval a X.env) :: starEach [] X.env := by exact star_of rfl) (hpl : (backTo pos (starEach [] X.env)).any (·.1) = false := by exact back_of rfl) :
    SI X (.Tuple elts x1 tpos) (.Call (.Name "enumerate" p) [a] [] pos) (dEnum f) :=
  pi_weak (pi_or (pi_enL hg hm (pa_cons h pa_nil he) hv he hpl) (pi_enT hg hm (pa_cons h pa_nil he) hv he hpl)) fun σ H R ⟨ρ, ds, B, H0, V0, Z, e, r, q⟩ => by
    unfold dEnum at e
    split at e
    · rename_i es he
      cases e
      refine .inl ⟨ρ, _, B, H0, V0, Z, he, r, fun v H' s rr => ?_⟩
      obtain ⟨l, xs, rfl, h1, h2⟩ := rep_lst.mp rr
      exact ⟨l, rfl, ⟨xs, hide_sub.seq h1⟩, q _ H' s (walk_enum (fun H'' s'' => s''.seq h1) h2)⟩
    · rename_i es he
      cases e
      refine .inr ⟨ρ, _, B, H0, V0, Z, he, r, fun v H' s rr => ?_⟩
      obtain ⟨l, xs, rfl, h1, h2⟩ := rep_tup.mp rr
      exact ⟨l, rfl, ⟨xs, sqt_same hide_sub h1⟩, q _ H' s (walk_enum (fun H'' s'' => sqt_same s'' h1) h2)⟩
    · cases e
end
end L3
set_option Elab.async false
set_option linter.all false
set_option maxRecDepth 100000
namespace L2
open PySem PySem.Spec PyProof.Rows
section
variable {κ : Type} [DecidableEq κ]
def valV (kvs : List (κ × V)) (k : κ) : Option V := (kvs.find? fun kv => decide (kv.1 = k)).map (·.2)
def putK (kvs : List (κ × V)) (k : κ) (v : V) : List (κ × V) :=
  if (kvs.any fun kv => decide (kv.1 = k)) = true then kvs.map (fun kv => if kv.1 = k then (kv.1, v) else kv) else kvs ++ [(k, v)]
def dropK (kvs : List (κ × V)) (k : κ) : List (κ × V) := kvs.filter fun kv => decide (kv.1 ≠ k)
theorem valV_pos {p : κ × V} {r : List (κ × V)} {k : κ} (e : p.1 = k) : valV (p :: r) k = some p.2 := by simp [valV, List.find?_cons, e]
theorem valV_neg {p : κ × V} {r : List (κ × V)} {k : κ} (e : ¬ p.1 = k) : valV (p :: r) k = valV r k := by simp [valV, List.find?_cons, e]
theorem valV_any (k : κ) : ∀ kvs : List (κ × V), (kvs.any fun kv => decide (kv.1 = k)) = (valV kvs k).isSome
  | [] => rfl
  | p :: r => by
    rw [List.any_cons]
    by_cases e : p.1 = k
    · simp only [valV_pos e, decide_eq_true e, Bool.true_or, Option.isSome_some]
    · rw [valV_neg e, decide_eq_false e, Bool.false_or]; exact valV_any k r
theorem length_putK (kvs : List (κ × V)) (k : κ) (v : V) : (putK kvs k v).length ≤ kvs.length + 1 := by
  unfold putK
  split
  · rw [List.length_map]; omega
  · rw [List.length_append, List.length_cons, List.length_nil]; omega
theorem RelO.isSome_eq {o : Option V} {u : Option Value} (r : RelO o u) : o.isSome = u.isSome := by
  cases o with
  | none => cases u with
    | none => rfl
    | some _ => exact (show False from r).elim
  | some _ => cases u with
    | none => exact (show False from r).elim
    | some _ => rfl
theorem RelO.getD {o : Option V} {u : Option Value} {d : V} {d' : Value} (r : RelO o u) (rd : RelV d d') : RelV (o.getD d) (u.getD d') := by
  cases o with
  | none => cases u with
    | none => exact rd
    | some _ => exact (show False from r).elim
  | some _ => cases u with
    | none => exact (show False from r).elim
    | some _ => exact r
theorem KV.val {kvs : List (κ × V)} {vs : List (κ × Value)} (r : KV kvs vs) (k : κ) : RelO (valV kvs k) (valueAt vs k) := by
  unfold KV at r
  induction r with
  | nil => exact True.intro
  | @cons p q ps qs h t ih =>
    obtain ⟨h1, h2⟩ := h
    by_cases e : p.1 = k
    · have e' : q.1 = k := h1.symm.trans e
      have b : valueAt (q :: qs) k = some q.2 := by simp [valueAt, List.find?_cons, e']
      rw [valV_pos e, b]; exact h2
    · have e' : ¬ q.1 = k := fun z => e (h1.trans z)
      have b : valueAt (q :: qs) k = valueAt qs k := by simp [valueAt, List.find?_cons, e']
      rw [valV_neg e, b]; exact ih
theorem KV.any {kvs : List (κ × V)} {vs : List (κ × Value)} (r : KV kvs vs) (k : κ) : (kvs.any fun kv => decide (kv.1 = k)) = vs.any fun kv => decide (kv.1 = k) := by
  unfold KV at r
  induction r with
  | nil => rfl
  | cons h t ih => rw [List.any_cons, List.any_cons, ih, h.1]
theorem KV.repl {kvs : List (κ × V)} {vs : List (κ × Value)} (r : KV kvs vs) (k : κ) {y : V} {u : Value} (ry : RelV y u) :
    KV (kvs.map fun kv => if kv.1 = k then (kv.1, y) else kv) (vs.map fun kv => if kv.1 = k then (kv.1, u) else kv) := by
  unfold KV at r ⊢
  induction r with
  | nil => exact .nil
  | @cons p q ps qs h t ih =>
    rw [List.map_cons, List.map_cons]
    refine .cons ?_ ih
    obtain ⟨h1, h2⟩ := h
    by_cases e : p.1 = k
    · rw [if_pos e, if_pos (h1.symm.trans e)]; exact ⟨h1, ry⟩
    · rw [if_neg e, if_neg (fun z => e (h1.trans z))]; exact ⟨h1, h2⟩
theorem KV.put {kvs : List (κ × V)} {vs : List (κ × Value)} (r : KV kvs vs) (k : κ) {y : V} {u : Value} (ry : RelV y u) : KV (putK kvs k y) (stored vs k u) := by
  unfold putK stored
  rw [r.any k]
  by_cases e : (vs.any fun kv => decide (kv.1 = k)) = true
  · rw [if_pos e, if_pos e]; exact r.repl k ry
  · rw [if_neg e, if_neg e]; exact Paired.snoc r ⟨rfl, ry⟩
theorem KV.drop {kvs : List (κ × V)} {vs : List (κ × Value)} (r : KV kvs vs) (k : κ) : KV (dropK kvs k) (without vs k) := by
  unfold KV at r ⊢
  unfold dropK without
  induction r with
  | nil => exact .nil
  | @cons p q ps qs h t ih =>
    obtain ⟨h1, h2⟩ := h
    rw [List.filter_cons, List.filter_cons]
    by_cases e : p.1 = k
    · have a : ¬ decide (p.1 ≠ k) = true := by simp [e]
      have b : ¬ decide (q.1 ≠ k) = true := by simp [h1.symm.trans e]
      rw [if_neg a, if_neg b]; exact ih
    · have e' : ¬ q.1 = k := fun z => e (h1.trans z)
      have a : decide (p.1 ≠ k) = true := by simp [e]
      have b : decide (q.1 ≠ k) = true := by simp [e']
      rw [if_pos a, if_pos b]; exact .cons ⟨h1, h2⟩ ih
theorem KV.keys {kvs : List (κ × V)} {vs : List (κ × Value)} (r : KV kvs vs) : kvs.map (·.1) = vs.map (·.1) := by
  unfold KV at r
  induction r with
  | nil => rfl
  | cons h t ih => rw [List.map_cons, List.map_cons, ih, h.1]
theorem KV.length {kvs : List (κ × V)} {vs : List (κ × Value)} (r : KV kvs vs) : kvs.length = vs.length := Paired.length r
end
theorem kV_is {P : Program} {w : World} {k : Key} {u : Value} (r : RelV (kV k) u) : (mixKind P w).is k u = true := by
  cases k with
  | inl i => obtain ⟨t, e⟩ := (show ∃ t, u = Value.int i t from r); subst e; exact mixKind_int P w i t
  | inr x => obtain ⟨t, e⟩ := (show ∃ t, u = Value.str x t from r); subst e; exact mixKind_str P w x t
theorem items_are {P : Program} {w : World} : ∀ {ks : List Key} {us : List Value}, Vals (ks.map kV) us → ItemsAre (mixKind P w) ks us
  | [], _, r => by rw [List.map_nil] at r; cases r; exact .nil
  | k :: ks, _, r => by
    rw [List.map_cons] at r
    cases r with
    | cons h t => exact .cons (kV_is h) (items_are t)
abbrev KT (H : Hp) : List (List Key × V) → List (List Key × Addr × Value) → Prop := Paired fun p q => p.1 = q.1 ∧ H q.2.1 = some (.tup (p.1.map kV)) ∧ RelV p.2 q.2.2
theorem KT.val {H : Hp} {kvs : List (List Key × V)} {xs : List (List Key × Addr × Value)} (r : KT H kvs xs) (k : List Key) : RelO (valV kvs k) ((atKey xs k).map (·.2)) := by
  induction r with
  | nil => exact True.intro
  | @cons p q ps qs h t ih =>
    obtain ⟨h1, _, h2⟩ := h
    by_cases e : p.1 = k
    · have e' : q.1 = k := h1.symm.trans e
      have b : atKey (q :: qs) k = some q.2 := by simp [atKey, List.find?_cons, e']
      rw [valV_pos e, b]; exact h2
    · have e' : ¬ q.1 = k := fun z => e (h1.trans z)
      have b : atKey (q :: qs) k = atKey qs k := by simp [atKey, List.find?_cons, e']
      rw [valV_neg e, b]; exact ih
theorem KT.repl {H : Hp} {kvs : List (List Key × V)} {xs : List (List Key × Addr × Value)} (r : KT H kvs xs) (k : List Key) {y : V} {u : Value} (ry : RelV y u) :
    KT H (kvs.map fun kv => if kv.1 = k then (kv.1, y) else kv) (xs.map (putAt k u)) := by
  induction r with
  | nil => exact .nil
  | @cons p q ps qs h t ih =>
    rw [List.map_cons, List.map_cons]
    refine .cons ?_ ih
    obtain ⟨h1, h2, h3⟩ := h
    unfold putAt
    by_cases e : p.1 = k
    · rw [if_pos e, if_pos (h1.symm.trans e)]; exact ⟨h1, h2, ry⟩
    · rw [if_neg e, if_neg (fun z => e (h1.trans z))]; exact ⟨h1, h2, h3⟩
theorem KT.put {H : Hp} {kvs : List (List Key × V)} {xs : List (List Key × Addr × Value)} (r : KT H kvs xs) (k : List Key) {b : Addr} {y : V} {u : Value} (hb : H b = some (.tup (k.map kV))) (ry : RelV y u) :
    KT H (putK kvs k y) (storedH xs k b u) := by
  have e : (kvs.any fun kv => decide (kv.1 = k)) = (atKey xs k).isSome := by
    rw [valV_any, (r.val k).isSome_eq, Option.isSome_map]
  unfold putK storedH
  rw [e]
  by_cases q : (atKey xs k).isSome = true
  · rw [if_pos q, if_pos q]; exact r.repl k ry
  · rw [if_neg q, if_neg q]; exact Paired.snoc r ⟨rfl, hb, ry⟩
theorem KT.keeps {H H' : Hp} {kvs : List (List Key × V)} {xs : List (List Key × Addr × Value)} (r : KT H kvs xs) (ht : ∀ b ys, H b = some (.tup ys) → H' b = some (.tup ys)) : KT H' kvs xs :=
  Paired.mapP r fun _ _ z => ⟨z.1, ht _ _ z.2.1, z.2.2⟩
section
variable {P : Program} {w : World} {H : Hp} {h : Heap} {a : Addr}
theorem rd_of {u : HO} (ok : HOk P w H h) (e : Rd H a u) : ObjOk P w H h a u := e.ok ok
theorem dk_rd {kvs : List (Key × V)} (ok : HOk P w H h) (e : Rd H a (.dK kvs)) : kvs.length ≤ sizeLine ∧ (a == sysModules) = false ∧ ∃ vs, KV kvs vs ∧ h.DictOf (mixKind P w) a vs :=
  show ObjOk P w H h a (.dK kvs) from rd_of ok e
theorem dk_of {kvs : List (Key × V)} (ok : HOk P w H h) (e : H a = some (.dK kvs)) : kvs.length ≤ sizeLine ∧ (a == sysModules) = false ∧ ∃ vs, KV kvs vs ∧ h.DictOf (mixKind P w) a vs := dk_rd ok (.inl e)
theorem key_of {ks : List Key} (ok : HOk P w H h) (e : H a = some (.tup (ks.map kV))) : (tupleKind (mixKind P w)).is h ks a := by
  obtain ⟨_, its, r, o, h1, h2, ⟨n, h3⟩, _⟩ := (show ObjOk P w H h a (.tup (ks.map kV)) from ok a _ e)
  exact ⟨o, its.toArray, n, h1, h2, h3, by simpa using items_are r⟩
theorem dt_rd {kvs : List (List Key × V)} (ok : HOk P w H h) (e : Rd H a (.dT kvs)) : kvs.length ≤ sizeLine ∧ (a == sysModules) = false ∧
    ∃ xs, KT H kvs xs ∧ h.DictOfH (tupleKind (mixKind P w)) a xs := by
  obtain ⟨z, y, xs, r, o, es, ep, h1, h2, h3, h4, h5⟩ := (show ObjOk P w H h a (.dT kvs) from rd_of ok e)
  refine ⟨z, y, xs, r, o, es, ep, h1, h2, h3, h4, fun x hx => ?_, h5⟩
  have all : ∀ {l : List (List Key × V)} {m : List (List Key × Addr × Value)}, KT H l m → ∀ x ∈ m, (tupleKind (mixKind P w)).is h x.1 x.2.1 := by
    intro l m q
    induction q with
    | nil => intro x hx; exact nomatch hx
    | @cons p q ps qs hq t ih =>
      intro x hx
      rcases List.mem_cons.mp hx with e | hx
      · subst e
        exact key_of ok (by rw [← hq.1]; exact hq.2.1)
      · exact ih x hx
  exact all r x hx
theorem dt_of {kvs : List (List Key × V)} (ok : HOk P w H h) (e : H a = some (.dT kvs)) : kvs.length ≤ sizeLine ∧ (a == sysModules) = false ∧
    ∃ xs, KT H kvs xs ∧ h.DictOfH (tupleKind (mixKind P w)) a xs := dt_rd ok (.inl e)
end
def DGet (H : Hp) (a : Addr) (y : V) (r : Option V) : Prop :=
  (∃ kvs k, Rd H a (.dK kvs) ∧ y = kV k ∧ r = valV kvs k) ∨ ∃ kvs k b, Rd H a (.dT kvs) ∧ y = .ref b ∧ H b = some (.tup (k.map kV)) ∧ r = valV kvs k
def DPut (H : Hp) (a : Addr) (y v : V) (H' : Hp) : Prop :=
  (∃ kvs k, H a = some (.dK kvs) ∧ y = kV k ∧ kvs.length < sizeLine ∧ H' = upd H a (.dK (putK kvs k v))) ∨
  ∃ kvs k b, H a = some (.dT kvs) ∧ y = .ref b ∧ H b = some (.tup (k.map kV)) ∧ kvs.length < sizeLine ∧ H' = upd H a (.dT (putK kvs k v))
theorem DGet.k {H : Hp} {a : Addr} {kvs : List (Key × V)} {k : Key} (e : H a = some (.dK kvs)) : DGet H a (kV k) (valV kvs k) := .inl ⟨kvs, k, .inl e, rfl, rfl⟩
theorem DGet.t {H : Hp} {a b : Addr} {kvs : List (List Key × V)} {k : List Key} (e : H a = some (.dT kvs)) (eb : H b = some (.tup (k.map kV))) : DGet H a (.ref b) (valV kvs k) := .inr ⟨kvs, k, b, .inl e, rfl, eb, rfl⟩
theorem DPut.k {H : Hp} {a : Addr} {kvs : List (Key × V)} {k : Key} {v : V} (e : H a = some (.dK kvs)) (hl : kvs.length < sizeLine) : DPut H a (kV k) v (upd H a (.dK (putK kvs k v))) := .inl ⟨kvs, k, e, rfl, hl, rfl⟩
theorem DPut.t {H : Hp} {a b : Addr} {kvs : List (List Key × V)} {k : List Key} {v : V} (e : H a = some (.dT kvs)) (eb : H b = some (.tup (k.map kV))) (hl : kvs.length < sizeLine) :
    DPut H a (.ref b) v (upd H a (.dT (putK kvs k v))) := .inr ⟨kvs, k, b, e, rfl, eb, hl, rfl⟩
section
variable {X : Cx} {pins : List (Addr × Obj)} {σ : St} {H : Hp} {s : Shared} {a : Addr} {y v : V} {u r : Value} {o : Option V} {A : Around} {E : Value → Shared → Prop}
theorem Inv.big (I : Inv X pins σ H s) : sysModules < s.heap.objs.size := by
  have h : mainGlobals < s.heap.objs.size := (I.mod.glob.keeps I.bk).lt
  exact Nat.lt_trans (by decide) h
theorem d_getItem {Q : Value → Shared → Prop} (hu : A.units + 1 < cLine) (I : Inv X pins σ H s) (g : DGet H a y (some v)) (ry : RelV y u) (h : ∀ w' s', Inv X pins σ H s' → RelV v w' → Q w' s') :
    wpAny (model X.prog X.w) A (getItem (.ref a) u) Q E s := by
  rcases g with ⟨kvs, k, e, ey, l⟩ | ⟨kvs, k, b, e, ey, eb, l⟩
  · subst ey
    obtain ⟨z, hd, vs, rel, dd⟩ := dk_rd I.hok e
    obtain ⟨w', hw, rw'⟩ := RelO.some_of (v := v) (o := valueAt vs k) (by rw [l]; exact rel.val k)
    exact wpAny_getItem_of (kV_is ry) dd.mapOf hw (h w' _ (I.tok _) rw')
  · subst ey
    cases (show u = Value.ref b from ry)
    obtain ⟨z, hd, xs, rel, dd⟩ := dt_rd I.hok e
    obtain ⟨w', hw, rw'⟩ := RelO.some_of (v := v) (o := (atKey xs k).map (·.2)) (by rw [l]; exact rel.val k)
    obtain ⟨p, hp, hp2⟩ := Option.map_eq_some_iff.mp hw
    refine wpAny_getItem_heap (tupleKind_room_in1 hu) (key_of I.hok eb) dd hp ?_
    rw [hp2]
    exact h w' _ (I.tok _) rw'
theorem d_write {h' : Heap} {t' : Nat} {ob : HO} (I : Inv X pins σ H s) (mu : Mut (H a)) (hs : Heap.SameBut a s.heap h') (he : ∃ q, h'.get? a = some q) (new : ObjOk X.prog X.w (upd H a ob) h' a ob) :
    Inv X pins σ (upd H a ob) { s with heap := h', toks := t' } :=
  I.write (x := a) (e := a) mu (.inl rfl) (fun b q hb z => (hs.2 b hb).trans z) he new
theorem dk_new {P : Program} {w : World} {H' : Hp} {h' : Heap} {kvs : List (Key × V)} {vs : List (Key × Value)} (z : kvs.length ≤ sizeLine) (hd : (a == sysModules) = false) (rel : KV kvs vs) (dd : h'.DictOf (mixKind P w) a vs) :
    ObjOk P w H' h' a (.dK kvs) := ⟨z, hd, vs, rel, dd⟩
theorem d_setItem {H' : Hp} {Q : Unit → Shared → Prop} (hu : A.units + 1 < cLine) (I : Inv X pins σ H s) (g : DPut H a y v H') (ry : RelV y u) (rv : RelV v r) (h : ∀ s', Inv X pins σ H' s' → Q () s') :
    wpAny (model X.prog X.w) A (setItem (.ref a) u r) Q E s := by
  rcases g with ⟨kvs, k, e, ey, l, eH⟩ | ⟨kvs, k, b, e, ey, eb, l, eH⟩
  · subst ey eH
    obtain ⟨z, hd, vs, rel, dd⟩ := dk_of I.hok e
    have hz : vs.length ≤ sizeLine := by rw [← rel.length]; exact z
    have hl : (putK kvs k v).length ≤ sizeLine := by have := length_putK kvs k v; omega
    refine wpAny_setItem_pairs (hsz := hz) (kV_is ry) dd fun h' dd' hs => h _ ?_
    have he : ∃ q, h'.get? a = some q := let ⟨q, _, _, hq, _⟩ := dd'; ⟨q, hq⟩
    exact d_write I (by rw [e]; exact True.intro) hs he (dk_new hl hd (rel.put k rv) dd')
  · subst ey eH
    cases (show u = Value.ref b from ry)
    obtain ⟨z, hd, xs, rel, dd⟩ := dt_of I.hok e
    have hz : xs.length ≤ sizeLine := by rw [← Paired.length rel]; exact z
    have hl : (putK kvs k v).length ≤ sizeLine := by have := length_putK kvs k v; omega
    refine wpAny_setItem_heap (hsz := hz) (tupleKind_room_in1 hu) (key_of I.hok eb) dd fun h' dd' hs => h _ ?_
    obtain ⟨q, es, ep, hq, h2, h3, h4, _, h5⟩ := dd'
    refine d_write I (by rw [e]; exact True.intro) hs ⟨q, hq⟩ ⟨hl, hd, _, (rel.put k eb rv).keeps fun c ys ec => ?_, q, es, ep, hq, h2, h3, h4, h5⟩
    rw [upd_ne (ne_of ec e (fun z => nomatch z))]
    exact ec
end
def NoSl (i : Expr) : Prop := ∀ ov iv, subscripted i false ov iv = operate [ov, iv] (getItem ov iv)
theorem subD_of {prog : Program} {w : World} {A : Around} {E : Value → Shared → Prop} {s : Shared} {env : Env} {value slice : Expr} {pos : Pos} {T id : String} {Q : Value → Shared → Prop}
    (hl : typeLookup (.type T) "__getitem__" = pure (some (.builtin id))) (hs : NoSl slice)
    (h : wpAny (model prog w) A (eval value env) (fun o s₁ => wpAny (model prog w) A (eval slice env) (fun i s₂ => s₂.TypeIs o T ∧ wpAny (model prog w) A (getItem o i) Q E s₂) E s₁) E s) :
    wpAny (model prog w) A (eval (.Subscript value slice pos) env) Q E s := by
  refine Subscript_ (wpAny_mono h (fun o s₁ h₁ => wpAny_mono h₁ (fun i s₂ h₂ => ?_) fun _ _ x => x) fun _ _ x => x)
  obtain ⟨hT, h₂⟩ := h₂
  unfold subscriptTail
  refine wpAny_bind ?_
  rw [getitemInPython_of_ne hT.not_modules]
  refine wpAny_bind (wpAny_specialOf hT hl ?_)
  have fin : wpAny (model prog w) A (subscripted slice false o i) (fun r s₃ => wpAny (model prog w) A (letTemporaryGo value o r >>= fun _ => pure r) Q E s₃) E s₂ := by
    rw [hs o i]
    exact wpAny_operating (wpAny_mono h₂ (fun r s₃ h₃ => wpAny_bind (wpAny_letTemporaryGo (wpAny_pure h₃))) fun _ _ x => x)
  first
    | exact wpAny_pure (wpAny_bind fin)
    | exact wpAny_bind (wpAny_pure (wpAny_bind fin))
    | exact wpAny_bind fin
theorem dict_typeIs {X : Cx} {pins : List (Addr × Obj)} {σ : St} {H : Hp} {s : Shared} {a : Addr} {y : V} {o : Option V} (I : Inv X pins σ H s) (g : DGet H a y o) : s.TypeIs (.ref a) "dict" := by
  rcases g with ⟨kvs, k, e, _, _⟩ | ⟨kvs, k, b, e, _, _, _⟩
  · obtain ⟨_, _, vs, _, dd⟩ := dk_rd I.hok e
    exact dd.typeIs
  · obtain ⟨_, _, xs, _, dd⟩ := dt_rd I.hok e
    exact dd.typeIs
def tDGet (td ty : TE) : TE := fun σ H Q => td σ H fun x H1 => ty σ H1 fun y H2 => ∃ a v, x = .ref a ∧ DGet H2 a y (some v) ∧ Q v H2
def tDIn (ty td : TE) : TE := fun σ H Q => ty σ H fun y H1 => td σ H1 fun x H2 => ∃ a o, x = .ref a ∧ DGet H2 a y o ∧ Q (.bl o.isSome) H2
def tDNotIn (ty td : TE) : TE := fun σ H Q => ty σ H fun y H1 => td σ H1 fun x H2 => ∃ a o, x = .ref a ∧ DGet H2 a y o ∧ Q (.bl (!o.isSome)) H2
def sDPut (td ty tv : TE) : TS := fun D σ H => tv σ H fun v H1 => td σ H1 fun x H2 => ty σ H2 fun y H3 => ∃ a H4, x = .ref a ∧ DPut H3 a y v H4 ∧ D.nx σ H4
def sDAug (td ty tv : TE) (rd : V → V → Hp → VK → Prop) : TS := fun D σ H => td σ H fun x H1 => ty σ H1 fun y H2 => ∃ a v, x = .ref a ∧ DGet H2 a y (some v) ∧
  tv σ H2 fun y2 H3 => rd v y2 H3 fun z H4 => ∃ H5, DPut H4 a y z H5 ∧ D.nx σ H5
def sDDel (td ty : TE) : TS := fun D σ H => td σ H fun x H1 => ty σ H1 fun y H2 => ∃ a kvs k, x = .ref a ∧ H2 a = some (.dK kvs) ∧ y = kV k ∧ (valV kvs k).isSome = true ∧ D.nx σ (upd H2 a (.dK (dropK kvs k)))
section
variable {X : Cx} {o i e value : Expr} {pos pos' tpos : Pos} {td ty tv : TE}
theorem pe_dget (hu : X.A.units + 1 < cLine) (ho : PE X o td) (hi : PE X i ty) (hs : NoSl i) : PE X (.Subscript o i pos) (tDGet td ty) := by
  intro pins s σ H Q I h
  refine subD_of PySem.F.slot_dict_getitem.lookup hs (thn (ho pins s σ H _ I h) fun u s1 ⟨x, H1, I1, rx, q1⟩ => thn (hi pins s1 σ H1 _ I1 q1) fun iv s2 ⟨y, H2, I2, ry, a, v, ex, g, q2⟩ => ?_)
  subst ex
  obtain rfl : u = Value.ref a := rx
  exact ⟨dict_typeIs I2 g, d_getItem hu I2 g ry fun w' s3 I3 rw' => ⟨v, H2, I3, rw', q2⟩⟩
theorem ps_dput (hu : X.A.units + 1 < cLine) (ho : PE X o td) (hi : PE X i ty) (hv : PE X value tv) (hs : swapsWith value (some (.Subscript o i pos')) pos.line X.env = pure false) :
    PS X (.Assign [.Subscript o i pos'] value pos) (sDPut td ty tv) := by
  intro pins s σ H D I h
  refine wpAny_Assign_Subscript (thn (hv pins s σ H _ I h) fun r s1 ⟨v, H1, I1, rv, q1⟩ => thn (ho pins s1 σ H1 _ I1 q1) fun u s2 ⟨x, H2, I2, rx, q2⟩ => thn (hi pins s2 σ H2 _ I2 q2) fun iv s3 ⟨y, H3, I3, ry, a, H4, ex, g, q3⟩ => ?_) hs
  subst ex
  obtain rfl : u = Value.ref a := rx
  exact d_setItem hu I3 g ry rv fun s4 I4 => ⟨σ, H4, I4, q3⟩
end
theorem dk_empty {P : Program} {w : World} {H : Hp} (h : Heap) (hb : sysModules < h.objs.size) : ObjOk P w H (h.push { cls := .type "dict", data := .dict #[] }) h.objs.size (.dK []) :=
  ⟨Nat.zero_le _, beq_eq_false_iff_ne.mpr (Ne.symm (Nat.ne_of_lt hb)), [], .nil, Heap.DictOf.new h⟩
def tDNewK : TE := fun _ H Q => ∀ p, H p = none → Q (.ref p) (upd H p (.dK []))
def tDNewT : TE := fun _ H Q => ∀ p, H p = none → Q (.ref p) (upd H p (.dT []))
section
variable {X : Cx} {pos : Pos}
theorem pe_dnewK : PE X (.Dict [] [] pos) tDNewK := fun pins s σ H Q I h =>
  wpAny_Dict_empty ⟨.ref s.heap.objs.size, _, I.laid (a := s.heap.objs.size) (o := .dK []) (t' := s.toks) (fun _ _ q => Heap.get?_push_of_some _ q) (Nat.le_refl _) (dk_empty s.heap I.big), rfl, h _ (I.hok.fresh (Nat.le_refl _))⟩
end
end L2
set_option Elab.async false
set_option linter.all false
set_option maxRecDepth 100000
set_option maxHeartbeats 4000000
namespace L3
open PySem PySem.Spec PyProof.Rows L2 PySem.SeqAt
def keyD : D → Option Key
  | .int i => some (.inl i)
  | .str x => some (.inr x)
  | _ => none
def lookD : List Key → List D → Key → Option D
  | k :: ks, v :: vs, j => if k = j then some v else lookD ks vs j
  | _, _, _ => none
def putD : List Key → List D → Key → D → List Key × List D
  | k :: ks, v :: vs, j, d => if k = j then (k :: ks, d :: vs) else (k :: (putD ks vs j d).1, v :: (putD ks vs j d).2)
  | _, _, j, d => ([j], [d])
def putV : List (Key × V) → Key → V → List (Key × V)
  | [], j, d => [(j, d)]
  | p :: r, j, d => if p.1 = j then (p.1, d) :: r else p :: putV r j d
theorem putK_putV (j : Key) (d : V) : ∀ kvs : List (Key × V), (kvs.map (·.1)).Nodup → putK kvs j d = putV kvs j d
  | [], _ => rfl
  | p :: r, hn => by
    rw [List.map_cons, List.nodup_cons] at hn
    have ih := putK_putV j d r hn.2
    unfold putV
    by_cases e : p.1 = j
    · rw [if_pos e]
      unfold putK
      have ha : ((p :: r).any fun kv => decide (kv.1 = j)) = true := by rw [List.any_cons, decide_eq_true e, Bool.true_or]
      rw [if_pos ha, List.map_cons, if_pos e]
      congr 1
      have : ∀ kv ∈ r, (if kv.1 = j then (kv.1, d) else kv) = kv := fun kv hkv => if_neg fun z => hn.1 (by rw [e, ← z]; exact List.mem_map_of_mem hkv)
      exact (List.map_congr_left this).trans (List.map_id _)
    · rw [if_neg e, ← ih]
      unfold putK
      rw [List.any_cons, decide_eq_false e, Bool.false_or]
      by_cases h : (r.any fun kv => decide (kv.1 = j)) = true
      · rw [if_pos h, if_pos h, List.map_cons, if_neg e]
      · rw [if_neg h, if_neg h]; rfl
section
variable {K : PySem.W.Frag} {H : Hp}
theorem look_rep : ∀ {kvs : List (Key × V)} {vs : List D} {j : Key} {d : D}, RepL K H vs (kvs.map (·.2)) → lookD (kvs.map (·.1)) vs j = some d → ∃ v, valV kvs j = some v ∧ Rep K H d v
  | [], vs, j, d, _, e => by cases vs <;> cases e
  | p :: r, vs, j, d, h, e => by
    cases vs with
    | nil => cases e
    | cons x xs =>
      obtain ⟨v, ws, e1, h1, h2⟩ := repl_cons.mp h
      rw [List.map_cons] at e1
      cases e1
      rw [List.map_cons] at e
      unfold lookD at e
      by_cases z : p.1 = j
      · rw [if_pos z] at e
        cases e
        exact ⟨_, valV_pos z, h1⟩
      · rw [if_neg z] at e
        obtain ⟨v, q1, q2⟩ := look_rep h2 e
        exact ⟨v, by rw [valV_neg z]; exact q1, q2⟩
theorem put_rep : ∀ {kvs : List (Key × V)} {vs : List D} {j : Key} {d : D} {v : V}, RepL K H vs (kvs.map (·.2)) → Rep K H d v → (putV kvs j v).map (·.1) = (putD (kvs.map (·.1)) vs j d).1 ∧ RepL K H (putD (kvs.map (·.1)) vs j d).2 ((putV kvs j v).map (·.2))
  | [], vs, j, d, v, h, hd => by
    obtain rfl : vs = [] := by cases vs with | nil => rfl | cons _ _ => obtain ⟨_, _, e, _⟩ := repl_cons.mp h; cases e
    exact ⟨rfl, RepL.one hd⟩
  | p :: r, vs, j, d, v, h, hd => by
    cases vs with
    | nil => cases repl_nil.mp h
    | cons x xs =>
      obtain ⟨y, ws, e1, h1, h2⟩ := repl_cons.mp h
      rw [List.map_cons] at e1
      cases e1
      rw [List.map_cons]
      unfold putV putD
      by_cases z : p.1 = j
      · rw [if_pos z, if_pos z]
        exact ⟨rfl, RepL.cons hd h2⟩
      · rw [if_neg z, if_neg z]
        obtain ⟨q1, q2⟩ := put_rep (j := j) (d := d) (v := v) h2 hd
        exact ⟨by rw [List.map_cons, q1], RepL.cons h1 q2⟩
end
theorem keyD_rep {K : PySem.W.Frag} {H : Hp} {d : D} {k : Key} {v : V} (e : keyD d = some k) (h : Rep K H d v) : v = kV k := by
  cases d with
  | int i => cases e; exact rep_int.mp h
  | str x => cases e; exact rep_str.mp h
  | _ => cases e
section
variable {X : Cx} {a b e o : Expr} {pos pos' p : Pos} {f fa fb : DEnv → Option D}
theorem pe_or {t1 t2 : TE} (h1 : PE X e t1) (h2 : PE X e t2) : PE X e (fun σ H Q => t1 σ H Q ∨ t2 σ H Q) := fun pins s σ H Q I h => by
  rcases h with h | h
  · exact h1 pins s σ H Q I h
  · exact h2 pins s σ H Q I h
def dOr2 {α : Type} (f g : DEnv → Option α) : DEnv → Option α := fun ρ => match f ρ with | some d => some d | none => g ρ
theorem se_or2 (h1 : SE X e fa) (h2 : SE X e fb) : SE X e (dOr2 fa fb) := pe_weak (pe_or h1 h2) fun σ H Q ⟨ρ, d, B, H0, V0, Z, e, r, q⟩ => by
  unfold dOr2 at e
  split at e
  · rename_i d' h; cases e; exact .inl ⟨ρ, _, B, H0, V0, Z, h, r, q⟩
  · exact .inr ⟨ρ, _, B, H0, V0, Z, e, r, q⟩
theorem sfd_new : SFD X (.Dict [] [] pos) (fun _ => some ([], [])) := pe_weak pe_dnewK fun σ H Q ⟨ρ, ds, B, H0, V0, Z, e, r, q⟩ p hp => by
  cases e
  exact q p [] _ (same_upd hp) hp upd_same rfl RepL.nil
def dDGet (fa fb : DEnv → Option D) : DEnv → Option D := fun ρ => match fa ρ with
  | some (.dct ks vs) => (match fb ρ with | some kd => (match keyD kd with | some k => lookD ks vs k | none => none) | none => none)
  | _ => none
theorem se_dget (hu : X.A.units + 64 < cLine) (ho : SE X o fa) (hi : SE X a fb) (hs : NoSl a := by exact fun _ _ => rfl) : SE X (.Subscript o a pos) (dDGet fa fb) :=
  pe_weak (pe_dget (by omega) ho hi hs) fun σ H Q ⟨ρ, d, B, H0, V0, Z, e, r, q⟩ => by
    unfold dDGet at e
    split at e
    · rename_i ks vs ed
      split at e
      · rename_i kd ek
        split at e
        · rename_i k hk
          refine ⟨ρ, _, B, H0, V0, Z, ed, r, fun x H1 s1 r1 => ⟨ρ, kd, B, H0, V0, Z, ek, r.mono s1, fun y H2 s2 r2 => ?_⟩⟩
          obtain ⟨n, kvs, rfl, h1, h2, h3⟩ := rep_dct.mp (r1.mono (hide_same s2))
          subst h2
          obtain ⟨v, q1, q2⟩ := look_rep h3 e
          obtain rfl := keyD_rep hk r2
          refine ⟨n, v, rfl, ?_, q v H2 (s1.trans s2) q2⟩
          rw [← q1]
          exact DGet.k (hide_some h1).2
        · cases e
      · cases e
    · cases e
def dOwnD (i : Nat) : DEnv → Option (List Key × List D) := fun ρ => match ρ[i]? with | some (some (.od ks vs)) => some (ks, vs) | _ => none
theorem dOwnD_some {i : Nat} {ρ : DEnv} {d : List Key × List D} (e : dOwnD i ρ = some d) : ρ[i]? = some (some (.od d.1 d.2)) := by
  unfold dOwnD at e
  split at e
  · rename_i h; cases e; exact h
  · cases e
def dDGetO (i : Nat) (fb : DEnv → Option D) : DEnv → Option D := fun ρ => match dOwnD i ρ with
  | some d => (match fb ρ with | some kd => (match keyD kd with | some k => lookD d.1 d.2 k | none => none) | none => none)
  | _ => none
def dDIn (neg : Bool) (fb fa : DEnv → Option D) : DEnv → Option D := fun ρ => match fb ρ with
  | some kd => (match fa ρ with | some (.dct ks vs) => (match keyD kd with | some k => some (.bl (if neg then !(lookD ks vs k).isSome else (lookD ks vs k).isSome)) | none => none) | _ => none)
  | none => none
def dDInO (neg : Bool) (fb : DEnv → Option D) (i : Nat) : DEnv → Option D := fun ρ => match fb ρ with
  | some kd => (match dOwnD i ρ with | some d => (match keyD kd with | some k => some (.bl (if neg then !(lookD d.1 d.2 k).isSome else (lookD d.1 d.2 k).isSome)) | none => none) | _ => none)
  | none => none
def dPut (i : Nat) (fk fv : DEnv → Option D) : DEnv → Option Out := fun ρ => match fv ρ with
  | some v => (match dOwnD i ρ with
    | some d => (match fk ρ with
      | some kd => (match keyD kd with | some k => if d.1.Nodup ∧ d.1.length < LIM then some (.nx (ρ.set i (some (.od (putD d.1 d.2 k v).1 (putD d.1 d.2 k v).2)))) else none | none => none)
      | none => none)
    | none => none)
  | none => none
theorem ss_put {i : Nat} {x : Str} (hu : X.A.units + 64 < cLine) (hi : SE X a fb) (hv' : SE X b fa) (hN : X.N[i]? = some x := by rfl) (hv : Vis X.env.scope x := by first | exact Or.inl rfl | exact Or.inr (Or.inl rfl) | exact Or.inr (Or.inr rfl)) (hd : (x == ("__debug__" : Str)) = false := by decide)
    (hcd : (x == ("__classdict__" : Str)) = false := by decide) (hs : swapsWith b (some (.Subscript (.Name x p) a pos')) pos.line X.env = pure false := by rfl) : SS X (.Assign [.Subscript (.Name x p) a pos'] b pos) (dPut i fb fa) :=
  ps_weak (ps_dput (by omega) (pe_var hN hv hd hcd) hi hv' hs) fun E σ H ⟨ρ, o, B, H0, V0, Z, e, r, q⟩ => by
    unfold dPut at e
    split at e
    · rename_i v ev
      split at e
      · rename_i dd ed
        split at e
        · rename_i kd ek
          split at e
          · rename_i k hk
            split at e
            · rename_i hz
              cases e
              obtain ⟨n, kvs, h1, h2, hb, h3, h4, h5, h6⟩ := r.od i dd.1 dd.2 (dOwnD_some ed)
              refine ⟨ρ, v, B, H0, V0, Z, ev, r, fun y H1 s1 r1 => ⟨.ref n, h1, ρ, kd, B, H0, V0, Z, ek, r.mono s1, fun z H2 s2 r2 => ?_⟩⟩
              obtain rfl := keyD_rep hk r2
              have hlen : kvs.length < sizeLine := by
                have : kvs.length = dd.1.length := by rw [← h5, List.length_map]
                rw [this]; exact lim_lt (Nat.le_of_lt hz.2)
              refine ⟨n, _, rfl, DPut.k (s2 _ _ (s1 _ _ h4)) hlen, ?_⟩
              rw [putK_putV k y kvs (by rw [h5]; exact hz.1)]
              have R2 := (r.mono s1).mono s2
              obtain ⟨p1, p2⟩ := put_rep (j := k) (h6.mono (hide_same (s1.trans s2))) (r1.mono (hide_same s2))
              rw [h5] at p1 p2
              exact q σ _ Z (R2.updC (c := .d dd.1 dd.2) (e := .d (putD dd.1 dd.2 k v).1 (putD dd.1 dd.2 k v).2) (dOwnD_some ed) h1 ⟨_, rfl, p1, p2⟩)
            · cases e
          · cases e
        · cases e
      · cases e
    · cases e
end
end L3
set_option Elab.async false
set_option linter.all false
set_option maxRecDepth 100000
set_option maxHeartbeats 4000000
namespace L3
open PySem PySem.Spec PyProof.Rows L2 PySem.SeqAt
section
variable {prog : Program} {w : World} {A : Around} {E : Value → Shared → Prop} {s : Shared} {R : Result → Shared → Prop}
def Kp (it S : Addr) (h h' : Heap) : Prop := ∀ b o, b ≠ it → b ≠ S → h.get? b = some o → h'.get? b = some o
theorem Kp.trans {it S : Addr} {h h1 h2 : Heap} (a : Kp it S h h1) (b : Kp it S h1 h2) : Kp it S h h2 := fun c o n1 n2 e => b c o n1 n2 (a c o n1 n2 e)
theorem max_end {it T S : Addr} {u v x : Value} {c : Nat} (hh : A.handled = none) (hit : s.heap.IsTupleIter it T 2) (ht : s.heap.IsTuple T #[u, v]) (hne : S ≠ it) (hS : s.heap.get? S = some { cls := .type "list", dict := none, data := .seq #[x, x] c, slots := #[] })
    (hR : ∀ h', Kp it S s.heap h' → R (.ok (.ret x)) { s with heap := h' }) : codeAny (model prog w) A (.builtin "max.loop" ⟨[.ref it, .none, .ref S], []⟩) R s := by
  refine codeAny_builtin F.entry_max_loop ?_; rw [Around.under_plainId F.plain_max_loop _]
  show wpAny _ A.in1 (seqItems? (.ref S) >>= _) _ _ s; refine wpAny_bind (wpAny_seqItems hS rfl ?_)
  show wpAny _ A.in1 (tryCatch (pyNext (.ref it)) _ >>= _) _ _ s; refine wpAny_bind (wpAny_tryCatch (wpAny_pyNext_tuple_end hh hit ht (by simp) fun h1 k1 => ?_))
  have hS1 := k1 S _ hne hS
  show wpAny _ A.in1 (updateSeq S (fun _ => #[]) >>= _) _ _ _; refine wpAny_bind (wpAny_updateSeq hS1 rfl (wpAny_bind (wpAny_letGo (wpAny_pure (hR _ fun b o n1 n2 e => ?_)))))
  exact (Heap.get?_update_other _ _ (Ne.symm n2)).trans (k1 b o n1 e)
theorem max_snd {it T S : Addr} {u v : Value} {c : Nat} {bb : Bool} (hh : A.handled = none) (hit : s.heap.IsTupleIter it T 1) (ht : s.heap.IsTuple T #[u, v]) (hne : S ≠ it) (hTi : T ≠ it) (hTS : T ≠ S) (hS : s.heap.get? S = some { cls := .type "list", dict := none, data := .seq #[u, u] c, slots := #[] })
    (hc : ∀ h' (Q : Value → Shared → Prop) (E : Value → Shared → Prop), Kp it S s.heap h' → Q (.bool bb) { s with heap := h' } → wpAny (model prog w) A.in1 (richCompare .Gt v u) Q E { s with heap := h' })
    (hR : ∀ h', Kp it S s.heap h' → R (.ok (.ret (if bb = true then v else u))) { s with heap := h' }) : codeAny (model prog w) A (.builtin "max.loop" ⟨[.ref it, .none, .ref S], []⟩) R s := by
  have hname : (toString "max" ++ toString ".loop" : String) = "max.loop" := by decide
  refine codeAny_builtin F.entry_max_loop ?_; rw [Around.under_plainId F.plain_max_loop _]
  show wpAny _ A.in1 (seqItems? (.ref S) >>= _) _ _ s; refine wpAny_bind (wpAny_seqItems hS rfl ?_)
  show wpAny _ A.in1 (tryCatch (pyNext (.ref it)) _ >>= _) _ _ s; refine wpAny_bind (wpAny_tryCatch (wpAny_pyNext_tuple_item hit ht (x := v) (by simp) fun h1 i1 k1 => ?_))
  have kp1 : Kp it S s.heap h1 := fun b o n1 _ e => (k1.2 b n1).trans e
  have hS1 := (k1.2 S hne).trans hS
  have hT1 : h1.IsTuple T #[u, v] := ht.extBut k1.extBut hTi
  show wpAny _ A.in1 (tryCatch (holding [v, v] (richCompare .Gt v u >>= _)) _ >>= _) _ _ _; refine wpAny_bind (wpAny_tryCatch (wpAny_holding (wpAny_bind (hc h1 _ _ kp1 ?_))))
  refine wpAny_bind (wpAny_holding (wpAny_truthy_bool (wpAny_bind (wpAny_letGo (wpAny_pure ?_)))))
  cases bb with
  | true =>
    simp only [if_true]; refine wpAny_bind (wpAny_updateSeq hS1 rfl (wpAny_bind (wpAny_letGo ?_)))
    rw [hname]
    refine wpAny_pure ⟨plainId_quiet F.plain_max_loop _, max_end (u := u) (v := v) (T := T) hh ?_ ?_ hne (Heap.get?_update_self _ hS1 rfl) fun h2 k2 => hR h2 (kp1.trans (Kp.trans (fun b o n1 n2 e => (Heap.get?_update_other _ _ (Ne.symm n2)).trans e) k2))⟩
    · obtain ⟨o, e, z⟩ := i1; exact ⟨o, (Heap.get?_update_other _ _ hne).trans e, z⟩
    · obtain ⟨o, e, z⟩ := hT1; exact ⟨o, (Heap.get?_update_other _ _ (Ne.symm hTS)).trans e, z⟩
  | false =>
    simp only [Bool.false_eq_true, if_false]; refine wpAny_bind (wpAny_letGo ?_)
    rw [hname]
    exact wpAny_pure ⟨plainId_quiet F.plain_max_loop _, max_end (u := u) (v := v) hh i1 hT1 hne hS1 fun h2 k2 => hR h2 (kp1.trans k2)⟩
theorem max_fst {it T S : Addr} {u v : Value} {c : Nat} {bb : Bool} (hh : A.handled = none) (hit : s.heap.IsTupleIter it T 0) (ht : s.heap.IsTuple T #[u, v]) (hne : S ≠ it) (hTi : T ≠ it) (hTS : T ≠ S) (hS : s.heap.get? S = some { cls := .type "list", dict := none, data := .seq #[] c, slots := #[] })
    (hc : ∀ h' (Q : Value → Shared → Prop) (E : Value → Shared → Prop), Kp it S s.heap h' → Q (.bool bb) { s with heap := h' } → wpAny (model prog w) A.in1 (richCompare .Gt v u) Q E { s with heap := h' })
    (hR : ∀ h', Kp it S s.heap h' → R (.ok (.ret (if bb = true then v else u))) { s with heap := h' }) : codeAny (model prog w) A (.builtin "max.loop" ⟨[.ref it, .none, .ref S], []⟩) R s := by
  have hname : (toString "max" ++ toString ".loop" : String) = "max.loop" := by decide
  refine codeAny_builtin F.entry_max_loop ?_; rw [Around.under_plainId F.plain_max_loop _]
  show wpAny _ A.in1 (seqItems? (.ref S) >>= _) _ _ s; refine wpAny_bind (wpAny_seqItems hS rfl ?_)
  show wpAny _ A.in1 (tryCatch (pyNext (.ref it)) _ >>= _) _ _ s; refine wpAny_bind (wpAny_tryCatch (wpAny_pyNext_tuple_item hit ht (x := u) (by simp) fun h1 i1 k1 => ?_))
  have kp1 : Kp it S s.heap h1 := fun b o n1 _ e => (k1.2 b n1).trans e
  have hS1 := (k1.2 S hne).trans hS
  have hT1 : h1.IsTuple T #[u, v] := ht.extBut k1.extBut hTi
  show wpAny _ A.in1 (updateSeq S (fun _ => #[u, u]) >>= _) _ _ _; refine wpAny_bind (wpAny_updateSeq hS1 rfl ?_)
  rw [hname]
  have ku : Kp it S h1 _ := fun b o n1 n2 e => (Heap.get?_update_other h1 (Obj.mapSeq fun _ => #[u, u]) (Ne.symm n2)).trans e
  refine wpAny_pure ⟨plainId_quiet F.plain_max_loop _, max_snd (u := u) (v := v) (T := T) (bb := bb) hh ?_ ?_ hne hTi hTS (Heap.get?_update_self _ hS1 rfl) (fun h' Q E k q => hc h' Q E (kp1.trans (ku.trans k)) q) fun h2 k2 => hR h2 (kp1.trans (ku.trans k2))⟩
  · obtain ⟨o, e, z⟩ := i1; exact ⟨o, (Heap.get?_update_other _ _ hne).trans e, z⟩
  · obtain ⟨o, e, z⟩ := hT1; exact ⟨o, (Heap.get?_update_other _ _ (Ne.symm hTS)).trans e, z⟩
theorem max_two {u v : Value} {bb : Bool} {Q : Value → Shared → Prop} (hh : A.handled = none)
    (hc : ∀ h' (Q : Value → Shared → Prop) (E : Value → Shared → Prop), (∀ b o, s.heap.get? b = some o → h'.get? b = some o) → Q (.bool bb) { s with heap := h' } → wpAny (model prog w) A.in1 (richCompare .Gt v u) Q E { s with heap := h' })
    (hQ : ∀ h', (∀ b o, s.heap.get? b = some o → h'.get? b = some o) → Q (if bb = true then v else u) { s with heap := h' }) : wpAny (model prog w) A (call (.builtin "max") [u, v]) Q E s := by
  have hname : (toString "max" ++ toString ".loop" : String) = "max.loop" := by decide
  refine call_function_tree F.kind_max F.plain_max F.entry_max (F.args_max2 _ _) ?_
  show wpAny _ A.in1 (Builtin.Builtins.bindParams "max" ["key", "default"] 0 ⟨[], []⟩ >>= _) _ _ s; refine wpAny_bind (wpAny_of_eq (show Builtin.Builtins.bindParams "max" ["key", "default"] 0 ⟨[], []⟩ = pure [none, none] from rfl) ?_)
  show wpAny _ A.in1 (newTuple [u, v] >>= _) _ _ s; refine wpAny_bind (wpAny_newObj_type ?_)
  generalize h1e : s.heap.push { cls := Value.type "tuple", data := Data.seq #[u, v] } = h1
  have k1 : ∀ b o, s.heap.get? b = some o → h1.get? b = some o := fun b o e => by rw [← h1e]; exact Heap.get?_push_of_some _ e
  have t1 : h1.IsTuple s.heap.objs.size #[u, v] := by rw [← h1e]; exact ⟨_, Heap.get?_push_size _ rfl, rfl, _, rfl⟩
  have z1 : h1.objs.size = s.heap.objs.size + 1 := by rw [← h1e, Heap.size_push]
  refine wpAny_bind (wpAny_pyIter_tuple (s := { s with heap := h1 }) t1 (wpAny_bind (wpAny_newObj_type ?_)))
  generalize h2e : (h1.push { cls := Value.type "tuple_iterator", data := Data.fields #[.ref s.heap.objs.size, .int 0 0] }) = h2
  have k2 : ∀ b o, h1.get? b = some o → h2.get? b = some o := fun b o e => by rw [← h2e]; exact Heap.get?_push_of_some _ e
  have i2 : h2.IsTupleIter h1.objs.size s.heap.objs.size 0 := by rw [← h2e]; exact ⟨_, Heap.get?_push_size _ rfl, rfl, rfl⟩
  have z2 : h2.objs.size = h1.objs.size + 1 := by rw [← h2e, Heap.size_push]
  rw [hname]
  have hs0 : s.heap.objs.size < h1.objs.size := by rw [z1]; exact Nat.lt_succ_self _
  have hs1 : h1.objs.size < h2.objs.size := by rw [z2]; exact Nat.lt_succ_self _
  have k3 : ∀ b o, h2.get? b = some o → (h2.push { cls := Value.type "list", data := Data.seq ([] : List Value).toArray }).get? b = some o := fun b o e => Heap.get?_push_of_some _ e
  have all : ∀ {h'}, Kp h1.objs.size h2.objs.size (h2.push { cls := Value.type "list", data := Data.seq ([] : List Value).toArray }) h' → ∀ b o, s.heap.get? b = some o → h'.get? b = some o := fun {h'} k b o e =>
    k b o (Nat.ne_of_lt (Nat.lt_trans (Heap.lt_size e) hs0)) (Nat.ne_of_lt (Nat.lt_trans (Heap.lt_size e) (Nat.lt_trans hs0 hs1))) (k3 b o (k2 b o (k1 b o e)))
  refine wpAny_pure ⟨plainId_quiet F.plain_max_loop _, max_fst (u := u) (v := v) (T := s.heap.objs.size) (bb := bb) (s := { s with heap := h2.push { cls := Value.type "list", data := Data.seq ([] : List Value).toArray } }) hh ?_ ?_ (Nat.ne_of_gt hs1) (Nat.ne_of_lt hs0) (Nat.ne_of_lt (Nat.lt_trans hs0 hs1)) (Heap.get?_push_size _ rfl) (fun h' Q E k q => hc h' Q E (all k) q) fun h' k => hQ h' (all k)⟩
  · obtain ⟨o, e, z⟩ := i2; exact ⟨o, k3 _ _ e, z⟩
  · obtain ⟨o, e, z⟩ := t1; exact ⟨o, k3 _ _ (k2 _ _ e), z⟩
theorem min_end {it T S : Addr} {u v x : Value} {c : Nat} (hh : A.handled = none) (hit : s.heap.IsTupleIter it T 2) (ht : s.heap.IsTuple T #[u, v]) (hne : S ≠ it) (hS : s.heap.get? S = some { cls := .type "list", dict := none, data := .seq #[x, x] c, slots := #[] })
    (hR : ∀ h', Kp it S s.heap h' → R (.ok (.ret x)) { s with heap := h' }) : codeAny (model prog w) A (.builtin "min.loop" ⟨[.ref it, .none, .ref S], []⟩) R s := by
  refine codeAny_builtin F.entry_min_loop ?_; rw [Around.under_plainId F.plain_min_loop _]
  show wpAny _ A.in1 (seqItems? (.ref S) >>= _) _ _ s; refine wpAny_bind (wpAny_seqItems hS rfl ?_)
  show wpAny _ A.in1 (tryCatch (pyNext (.ref it)) _ >>= _) _ _ s; refine wpAny_bind (wpAny_tryCatch (wpAny_pyNext_tuple_end hh hit ht (by simp) fun h1 k1 => ?_))
  have hS1 := k1 S _ hne hS
  show wpAny _ A.in1 (updateSeq S (fun _ => #[]) >>= _) _ _ _; refine wpAny_bind (wpAny_updateSeq hS1 rfl (wpAny_bind (wpAny_letGo (wpAny_pure (hR _ fun b o n1 n2 e => ?_)))))
  exact (Heap.get?_update_other _ _ (Ne.symm n2)).trans (k1 b o n1 e)
theorem min_snd {it T S : Addr} {u v : Value} {c : Nat} {bb : Bool} (hh : A.handled = none) (hit : s.heap.IsTupleIter it T 1) (ht : s.heap.IsTuple T #[u, v]) (hne : S ≠ it) (hTi : T ≠ it) (hTS : T ≠ S) (hS : s.heap.get? S = some { cls := .type "list", dict := none, data := .seq #[u, u] c, slots := #[] })
    (hc : ∀ h' (Q : Value → Shared → Prop) (E : Value → Shared → Prop), Kp it S s.heap h' → Q (.bool bb) { s with heap := h' } → wpAny (model prog w) A.in1 (richCompare .Lt v u) Q E { s with heap := h' })
    (hR : ∀ h', Kp it S s.heap h' → R (.ok (.ret (if bb = true then v else u))) { s with heap := h' }) : codeAny (model prog w) A (.builtin "min.loop" ⟨[.ref it, .none, .ref S], []⟩) R s := by
  have hname : (toString "min" ++ toString ".loop" : String) = "min.loop" := by decide
  refine codeAny_builtin F.entry_min_loop ?_; rw [Around.under_plainId F.plain_min_loop _]
  show wpAny _ A.in1 (seqItems? (.ref S) >>= _) _ _ s; refine wpAny_bind (wpAny_seqItems hS rfl ?_)
  show wpAny _ A.in1 (tryCatch (pyNext (.ref it)) _ >>= _) _ _ s; refine wpAny_bind (wpAny_tryCatch (wpAny_pyNext_tuple_item hit ht (x := v) (by simp) fun h1 i1 k1 => ?_))
  have kp1 : Kp it S s.heap h1 := fun b o n1 _ e => (k1.2 b n1).trans e
  have hS1 := (k1.2 S hne).trans hS
  have hT1 : h1.IsTuple T #[u, v] := ht.extBut k1.extBut hTi
  show wpAny _ A.in1 (tryCatch (holding [v, v] (richCompare .Lt v u >>= _)) _ >>= _) _ _ _; refine wpAny_bind (wpAny_tryCatch (wpAny_holding (wpAny_bind (hc h1 _ _ kp1 ?_))))
  refine wpAny_bind (wpAny_holding (wpAny_truthy_bool (wpAny_bind (wpAny_letGo (wpAny_pure ?_)))))
  cases bb with
  | true =>
    simp only [if_true]; refine wpAny_bind (wpAny_updateSeq hS1 rfl (wpAny_bind (wpAny_letGo ?_)))
    rw [hname]
    refine wpAny_pure ⟨plainId_quiet F.plain_min_loop _, min_end (u := u) (v := v) (T := T) hh ?_ ?_ hne (Heap.get?_update_self _ hS1 rfl) fun h2 k2 => hR h2 (kp1.trans (Kp.trans (fun b o n1 n2 e => (Heap.get?_update_other _ _ (Ne.symm n2)).trans e) k2))⟩
    · obtain ⟨o, e, z⟩ := i1; exact ⟨o, (Heap.get?_update_other _ _ hne).trans e, z⟩
    · obtain ⟨o, e, z⟩ := hT1; exact ⟨o, (Heap.get?_update_other _ _ (Ne.symm hTS)).trans e, z⟩
  | false =>
    simp only [Bool.false_eq_true, if_false]; refine wpAny_bind (wpAny_letGo ?_)
    rw [hname]
    exact wpAny_pure ⟨plainId_quiet F.plain_min_loop _, min_end (u := u) (v := v) hh i1 hT1 hne hS1 fun h2 k2 => hR h2 (kp1.trans k2)⟩
theorem min_fst {it T S : Addr} {u v : Value} {c : Nat} {bb : Bool} (hh : A.handled = none) (hit : s.heap.IsTupleIter it T 0) (ht : s.heap.IsTuple T #[u, v]) (hne : S ≠ it) (hTi : T ≠ it) (hTS : T ≠ S) (hS : s.heap.get? S = some { cls := .type "list", dict := none, data := .seq #[] c, slots := #[] })
    (hc : ∀ h' (Q : Value → Shared → Prop) (E : Value → Shared → Prop), Kp it S s.heap h' → Q (.bool bb) { s with heap := h' } → wpAny (model prog w) A.in1 (richCompare .Lt v u) Q E { s with heap := h' })
    (hR : ∀ h', Kp it S s.heap h' → R (.ok (.ret (if bb = true then v else u))) { s with heap := h' }) : codeAny (model prog w) A (.builtin "min.loop" ⟨[.ref it, .none, .ref S], []⟩) R s := by
  have hname : (toString "min" ++ toString ".loop" : String) = "min.loop" := by decide
  refine codeAny_builtin F.entry_min_loop ?_; rw [Around.under_plainId F.plain_min_loop _]
  show wpAny _ A.in1 (seqItems? (.ref S) >>= _) _ _ s; refine wpAny_bind (wpAny_seqItems hS rfl ?_)
  show wpAny _ A.in1 (tryCatch (pyNext (.ref it)) _ >>= _) _ _ s; refine wpAny_bind (wpAny_tryCatch (wpAny_pyNext_tuple_item hit ht (x := u) (by simp) fun h1 i1 k1 => ?_))
  have kp1 : Kp it S s.heap h1 := fun b o n1 _ e => (k1.2 b n1).trans e
  have hS1 := (k1.2 S hne).trans hS
  have hT1 : h1.IsTuple T #[u, v] := ht.extBut k1.extBut hTi
  show wpAny _ A.in1 (updateSeq S (fun _ => #[u, u]) >>= _) _ _ _; refine wpAny_bind (wpAny_updateSeq hS1 rfl ?_)
  rw [hname]
  have ku : Kp it S h1 _ := fun b o n1 n2 e => (Heap.get?_update_other h1 (Obj.mapSeq fun _ => #[u, u]) (Ne.symm n2)).trans e
  refine wpAny_pure ⟨plainId_quiet F.plain_min_loop _, min_snd (u := u) (v := v) (T := T) (bb := bb) hh ?_ ?_ hne hTi hTS (Heap.get?_update_self _ hS1 rfl) (fun h' Q E k q => hc h' Q E (kp1.trans (ku.trans k)) q) fun h2 k2 => hR h2 (kp1.trans (ku.trans k2))⟩
  · obtain ⟨o, e, z⟩ := i1; exact ⟨o, (Heap.get?_update_other _ _ hne).trans e, z⟩
  · obtain ⟨o, e, z⟩ := hT1; exact ⟨o, (Heap.get?_update_other _ _ (Ne.symm hTS)).trans e, z⟩
theorem min_two {u v : Value} {bb : Bool} {Q : Value → Shared → Prop} (hh : A.handled = none)
    (hc : ∀ h' (Q : Value → Shared → Prop) (E : Value → Shared → Prop), (∀ b o, s.heap.get? b = some o → h'.get? b = some o) → Q (.bool bb) { s with heap := h' } → wpAny (model prog w) A.in1 (richCompare .Lt v u) Q E { s with heap := h' })
    (hQ : ∀ h', (∀ b o, s.heap.get? b = some o → h'.get? b = some o) → Q (if bb = true then v else u) { s with heap := h' }) : wpAny (model prog w) A (call (.builtin "min") [u, v]) Q E s := by
  have hname : (toString "min" ++ toString ".loop" : String) = "min.loop" := by decide
  refine call_function_tree F.kind_min F.plain_min F.entry_min (F.args_min2 _ _) ?_
  show wpAny _ A.in1 (Builtin.Builtins.bindParams "min" ["key", "default"] 0 ⟨[], []⟩ >>= _) _ _ s; refine wpAny_bind (wpAny_of_eq (show Builtin.Builtins.bindParams "min" ["key", "default"] 0 ⟨[], []⟩ = pure [none, none] from rfl) ?_)
  show wpAny _ A.in1 (newTuple [u, v] >>= _) _ _ s; refine wpAny_bind (wpAny_newObj_type ?_)
  generalize h1e : s.heap.push { cls := Value.type "tuple", data := Data.seq #[u, v] } = h1
  have k1 : ∀ b o, s.heap.get? b = some o → h1.get? b = some o := fun b o e => by rw [← h1e]; exact Heap.get?_push_of_some _ e
  have t1 : h1.IsTuple s.heap.objs.size #[u, v] := by rw [← h1e]; exact ⟨_, Heap.get?_push_size _ rfl, rfl, _, rfl⟩
  have z1 : h1.objs.size = s.heap.objs.size + 1 := by rw [← h1e, Heap.size_push]
  refine wpAny_bind (wpAny_pyIter_tuple (s := { s with heap := h1 }) t1 (wpAny_bind (wpAny_newObj_type ?_)))
  generalize h2e : (h1.push { cls := Value.type "tuple_iterator", data := Data.fields #[.ref s.heap.objs.size, .int 0 0] }) = h2
  have k2 : ∀ b o, h1.get? b = some o → h2.get? b = some o := fun b o e => by rw [← h2e]; exact Heap.get?_push_of_some _ e
  have i2 : h2.IsTupleIter h1.objs.size s.heap.objs.size 0 := by rw [← h2e]; exact ⟨_, Heap.get?_push_size _ rfl, rfl, rfl⟩
  have z2 : h2.objs.size = h1.objs.size + 1 := by rw [← h2e, Heap.size_push]
  rw [hname]
  have hs0 : s.heap.objs.size < h1.objs.size := by rw [z1]; exact Nat.lt_succ_self _
  have hs1 : h1.objs.size < h2.objs.size := by rw [z2]; exact Nat.lt_succ_self _
  have k3 : ∀ b o, h2.get? b = some o → (h2.push { cls := Value.type "list", data := Data.seq ([] : List Value).toArray }).get? b = some o := fun b o e => Heap.get?_push_of_some _ e
  have all : ∀ {h'}, Kp h1.objs.size h2.objs.size (h2.push { cls := Value.type "list", data := Data.seq ([] : List Value).toArray }) h' → ∀ b o, s.heap.get? b = some o → h'.get? b = some o := fun {h'} k b o e =>
    k b o (Nat.ne_of_lt (Nat.lt_trans (Heap.lt_size e) hs0)) (Nat.ne_of_lt (Nat.lt_trans (Heap.lt_size e) (Nat.lt_trans hs0 hs1))) (k3 b o (k2 b o (k1 b o e)))
  refine wpAny_pure ⟨plainId_quiet F.plain_min_loop _, min_fst (u := u) (v := v) (T := s.heap.objs.size) (bb := bb) (s := { s with heap := h2.push { cls := Value.type "list", data := Data.seq ([] : List Value).toArray } }) hh ?_ ?_ (Nat.ne_of_gt hs1) (Nat.ne_of_lt hs0) (Nat.ne_of_lt (Nat.lt_trans hs0 hs1)) (Heap.get?_push_size _ rfl) (fun h' Q E k q => hc h' Q E (all k) q) fun h' k => hQ h' (all k)⟩
  · obtain ⟨o, e, z⟩ := i2; exact ⟨o, k3 _ _ e, z⟩
  · obtain ⟨o, e, z⟩ := t1; exact ⟨o, k3 _ _ (k2 _ _ e), z⟩
end
end L3
set_option Elab.async false
set_option linter.all false
set_option maxRecDepth 100000
set_option maxHeartbeats 4000000
namespace L3
open PySem PySem.Spec PyProof.Rows L2 PySem.SeqAt
section
open HT
theorem rcGt_int (A : Around) (s : Shared) (a : Int) (t : Tok) (c : Int) (u : Tok) (prog : Program) (w : World) (E : Value → Shared → Prop) (Q : Value → Shared → Prop) (h : Q (.bool (decide (c < a))) s) :
    wpAny (model prog w) A (richCompare .Gt (.int a t) (.int c u)) Q E s :=
  (PyProof.Rows.gt_int h : wpAny (model prog w) A (compareOp .Gt (.int a t) (.int c u)) Q E s)
open PySem.SeqAt
open PySem.AutoSeq1 (wpAny_loadPart')
open PySem.MeetsSeq PySem.MeetsSeq2 PySem.MeetsSeq3
theorem tuple_gt_ints (l b : Addr) (items items2 : Array Value) (n n2 : Nat) (dd dd2 : Option Addr) (sl sl2 : Array (Option Value)) (ns ms : List Int) (hi : IntsAre items.toList ns) (hj : IntsAre items2.toList ms) :
    Meets (Builtin.«tuple.__gt__» ⟨[.ref l, .ref b], []⟩)
      (fun _ R s => s.heap.get? l = some { cls := .type "tuple", dict := dd, data := .seq items n, slots := sl } ∧ s.heap.get? b = some { cls := .type "tuple", dict := dd2, data := .seq items2 n2, slots := sl2 } ∧
        R (.ok (.ret (.bool (lexLt ms ns)))) s) :=
  .of_wp fun prog w A R s h => by
    obtain ⟨hp, g, d, tk, os⟩ := s; obtain ⟨hl, hb, h⟩ := h
    have f2 := AutoSeq1.sub_tuple_tuple
    have z1 : items.size = ns.length := by rw [← hi.length]; simp
    have z2 : items2.size = ms.length := by rw [← hj.length]; simp
    wp_walk using wpAny_loadPart' hl, wpAny_loadPart' hb, wpAny_forIn_list _ (fun rest b s' => b.1 = none ∧ s' = ⟨hp, g, d, tk, os⟩ ∧ ∃ (vs ws : List Value) (ns' ms' : List Int), rest = vs.zip ws ∧
      IntsAre vs ns' ∧ IntsAre ws ms' ∧ ns'.length + items2.size = ms'.length + items.size ∧ R (.ok (.ret (.bool (lexLt ms' ns')))) ⟨hp, g, d, tk, os⟩) _
    case turn =>
      rintro ⟨y, x⟩ rest b s' ⟨hb', rfl, vs, ws, ns', ms', hz, hvi, hwi, hlen, hR⟩
      cases hvi with
      | nil => rw [List.zip_nil_left] at hz; cases hz
      | cons a t hvi' =>
        cases hwi with
        | nil => rw [List.zip_nil_right] at hz; cases hz
        | cons c u hwi' =>
          rw [List.zip_cons_cons] at hz
          injection hz with hyx hrest
          injection hyx with hy hx
          subst hy hx
          rw [lexLt_cons] at hR
          simp only [List.length_cons] at hlen
          obtain ⟨e, he, hiff⟩ := eqAt_int A.in1 ⟨hp, g, d, tk, os⟩ a t c u
          refine wpAny_bind (he prog w _ _ ?_)
          cases e with
          | true =>
            rw [if_pos (hiff.mp rfl).symm] at hR
            wp_walk
            exact ⟨rfl, rfl, _, _, _, _, hrest, hvi', hwi', by omega, hR⟩
          | false =>
            rw [if_neg (fun q => absurd (hiff.mpr q.symm) Bool.false_ne_true)] at hR
            have hri := rcGt_int A.in1 ⟨hp, g, d, tk, os⟩ a t c u prog w
            wp_walk using hri
            exact ⟨_, rfl, by simpa using hR⟩
    case fin =>
      rintro ⟨b1, b2⟩ s' ⟨hb', rfl, vs, ws, ns', ms', hz, hvi, hwi, hlen, hR⟩
      simp only at hb'
      subst hb'
      have hv : lexLt ms' ns' = decide (items2.size < items.size) := by
        cases hvi with
        | nil =>
          cases hwi with
          | nil =>
            simp only [List.length_nil] at hlen
            rw [lexLt_nil_nil]
            exact (decide_eq_false (by omega)).symm
          | cons c u hw =>
            simp only [List.length_nil, List.length_cons] at hlen
            rw [lexLt_cons_nil]
            exact (decide_eq_false (by omega)).symm
        | cons a t hv =>
          cases hwi with
          | nil =>
            simp only [List.length_nil, List.length_cons] at hlen
            rw [lexLt_nil_cons]
            exact (decide_eq_true (by omega)).symm
          | cons c u hw =>
            rw [List.zip_cons_cons] at hz
            cases hz
      rw [hv] at hR
      wp_walk
      exact ⟨_, rfl, by simpa [Builtin.Tuple.tupleCompareSizes] using hR⟩
    case h =>
      exact ⟨rfl, rfl, items.toList, items2.toList, ns, ms, rfl, hi, hj, by omega, h⟩
end
end L3
set_option Elab.async false
set_option linter.all false
set_option maxRecDepth 100000
set_option maxHeartbeats 4000000
namespace L3
open PySem PySem.Spec PyProof.Rows L2 PySem.SeqAt
section
variable {prog : Program} {w : World} {A : Around} {E : Value → Shared → Prop} {s : Shared}
theorem gt_tupInts {l b : Addr} {items items2 : Array Value} {ns ms : List Int} {Q : Value → Shared → Prop} (hl : IsTup s.heap l items) (hb : IsTup s.heap b items2) (hi : IntsAre items.toList ns) (hj : IntsAre items2.toList ms)
    (hu : A.units < cLine) (h : Q (.bool (HT.lexLt ms ns)) s) : wpAny (model prog w) A (richCompare .Gt (.ref l) (.ref b)) Q E s := by
  rcases id hl with ⟨⟨cls, dd, data, sl⟩, ho, hc, n, hd⟩
  rcases id hb with ⟨⟨cls2, dd2, data2, sl2⟩, ho2, hc2, n2, hd2⟩
  simp only at hc hd hc2 hd2
  subst hc hd hc2 hd2
  exact richCompare_meets_room (op := .Gt) ⟨_, ho, rfl⟩ ⟨_, ho2, rfl⟩ PySem.F.slot_tuple_gt PySem.F.entry_tuple_gt (PySem.F.args_tuple_gt_2 _ _) (tuple_gt_ints l b items items2 n n2 dd dd2 sl sl2 ns ms hi hj)
    ⟨ho, ho2, show Value.bool (HT.lexLt ms ns) ≠ Value.notImplemented ∧ Q (.bool (HT.lexLt ms ns)) s from ⟨(fun x => nomatch x), h⟩⟩ hu
end
section
variable {X : Cx} {a b : Expr} {fa fb : DEnv → Option D} {p pos : Pos}
def rMax2T (K : PySem.W.Frag) : List V → Hp → VK → Prop := fun xs H Q => ∃ a b ns ms, xs = [.ref a, .ref b] ∧ SqT K H a (ns.map V.int) ∧ SqT K H b (ms.map V.int) ∧ Q (if HT.lexLt ns ms = true then .ref b else .ref a) H
def rMin2T (K : PySem.W.Frag) : List V → Hp → VK → Prop := fun xs H Q => ∃ a b ns ms, xs = [.ref a, .ref b] ∧ SqT K H a (ns.map V.int) ∧ SqT K H b (ms.map V.int) ∧ Q (if HT.lexLt ms ns = true then .ref b else .ref a) H
theorem call_max2T (hc : X.calm = true) (hu : X.A.units + 64 < cLine) : CallR X (.builtin "max") (rMax2T X.K) := by
  intro pins s σ H xs us Q I r h
  obtain ⟨a, b, ns, ms, rfl, ha, hb, q⟩ := h
  obtain ⟨u, v, rfl, ru, rv⟩ := vals2 r
  cases ru
  cases rv
  refine max_two (bb := HT.lexLt ns ms) (I.ok.hd hc) (fun h' Q' E' k q' => ?_) fun h' k => ?_
  · have I' : Inv X pins σ H { s with heap := h' } := I.kept (t' := s.toks) k
    obtain ⟨its, r1, p1, _⟩ := I'.tuple ha
    obtain ⟨its2, r2, p2, _⟩ := I'.tuple hb
    exact gt_tupInts (s := { s with heap := h' }) p2 p1 (show IntsAre its2.toArray.toList ms from intsAre_of r2) (show IntsAre its.toArray.toList ns from intsAre_of r1) (by show X.A.units + 1 < cLine; omega) q'
  · refine ⟨_, H, I.kept (t' := s.toks) k, ?_, q⟩
    split <;> rfl
theorem call_min2T (hc : X.calm = true) (hu : X.A.units + 64 < cLine) : CallR X (.builtin "min") (rMin2T X.K) := by
  intro pins s σ H xs us Q I r h
  obtain ⟨a, b, ns, ms, rfl, ha, hb, q⟩ := h
  obtain ⟨u, v, rfl, ru, rv⟩ := vals2 r
  cases ru
  cases rv
  refine min_two (bb := HT.lexLt ms ns) (I.ok.hd hc) (fun h' Q' E' k q' => ?_) fun h' k => ?_
  · have I' : Inv X pins σ H { s with heap := h' } := I.kept (t' := s.toks) k
    obtain ⟨its, r1, p1, _⟩ := I'.tuple ha
    obtain ⟨its2, r2, p2, _⟩ := I'.tuple hb
    have := HT.lt_tupInts (prog := X.prog) (w := X.w) (A := X.A.in1) (E := E') (Q := Q') (s := { s with heap := h' }) p2 p1 (show IntsAre its2.toArray.toList ms from intsAre_of r2) (show IntsAre its.toArray.toList ns from intsAre_of r1) (by show X.A.units + 1 < cLine; omega) q'
    exact this
  · refine ⟨_, H, I.kept (t' := s.toks) k, ?_, q⟩
    split <;> rfl
def intsT : D → Option (List Int)
  | .tup ds => intsOf ds
  | _ => none
def fMaxT : List D → Option D := fun ds => match ds with | [x, y] => (match intsT x, intsT y with | some ns, some ms => some (if HT.lexLt ns ms = true then y else x) | _, _ => none) | _ => none
def fMinT : List D → Option D := fun ds => match ds with | [x, y] => (match intsT x, intsT y with | some ns, some ms => some (if HT.lexLt ms ns = true then y else x) | _, _ => none) | _ => none
theorem intsT_some {K : PySem.W.Frag} {H : Hp} {d : D} {ns : List Int} {v : V} (e : intsT d = some ns) (h : Rep K H d v) : ∃ a, v = .ref a ∧ SqT K H a (ns.map V.int) := by
  cases d with
  | tup ds =>
    have e' : intsOf ds = some ns := e
    obtain ⟨a, xs, rfl, h1, h2⟩ := rep_tup.mp h
    rw [intsOf_some e', repl_ints] at h2
    subst h2
    exact ⟨a, rfl, h1⟩
  | _ => cases e
theorem rd_maxT {K : PySem.W.Frag} : RdC K (rMax2T K) fMaxT := by
  intro ds d e Z H vs Q zs rr q
  unfold fMaxT at e
  split at e
  · rename_i x y
    split at e
    · rename_i ns ms e1 e2
      cases e
      obtain ⟨u, v, rfl, h1, h2⟩ := repl_two rr
      obtain ⟨a, rfl, g1⟩ := intsT_some e1 h1
      obtain ⟨b, rfl, g2⟩ := intsT_some e2 h2
      refine ⟨a, b, ns, ms, rfl, sqt_same hide_sub g1, sqt_same hide_sub g2, q _ H (Same.refl H) ?_⟩
      split
      · exact h2
      · exact h1
    · cases e
  · cases e
theorem rd_minT {K : PySem.W.Frag} : RdC K (rMin2T K) fMinT := by
  intro ds d e Z H vs Q zs rr q
  unfold fMinT at e
  split at e
  · rename_i x y
    split at e
    · rename_i ns ms e1 e2
      cases e
      obtain ⟨u, v, rfl, h1, h2⟩ := repl_two rr
      obtain ⟨a, rfl, g1⟩ := intsT_some e1 h1
      obtain ⟨b, rfl, g2⟩ := intsT_some e2 h2
      refine ⟨a, b, ns, ms, rfl, sqt_same hide_sub g1, sqt_same hide_sub g2, q _ H (Same.refl H) ?_⟩
      split
      · exact h2
      · exact h1
    · cases e
  · cases e
theorem RdC.or {K : PySem.W.Frag} {r r' : List V → Hp → VK → Prop} {F F' : List D → Option D} (h : RdC K r F) (h' : RdC K r' F') : RdC K (fun xs H Q => r xs H Q ∨ r' xs H Q) (fun ds => match F ds with | some d => some d | none => F' ds) := by
  intro ds d e Z H vs Q zs rr q
  dsimp only at e
  split at e
  · rename_i d' hd
    cases e
    exact .inl (h ds d hd Z H vs Q zs rr q)
  · exact .inr (h' ds d e Z H vs Q zs rr q)
def fMax2 : List D → Option D := fun ds => match fMax ds with | some d => some d | none => fMaxT ds
def fMin2 : List D → Option D := fun ds => match fMin ds with | some d => some d | none => fMinT ds
theorem se_maxB (hc : X.calm = true) (hu : X.A.units + 64 < cLine) (hm : X.mg "max" = none) (ha : SE X a fa) (hb : SE X b fb) (hg : Gl X "max" := by rfl) (hv : bootBuiltins "max" = some (.builtin "max") := by decide +kernel) (he : starEach [a, b] X.env = (false, eval a X.env) :: starEach [b] X.env := by exact star_of rfl) (he2 : starEach [b] X.env = (false, eval b X.env) :: starEach [] X.env := by exact star_of rfl)
    (hpl : (backTo pos (starEach [b] X.env)).any (·.1) = false := by exact back_of rfl) : SE X (.Call (.Name "max" p) [a, b] [] pos) (dCall fMax2 (dCons fa (dCons fb dNil))) :=
  se_callB ((call_max2 hc).or (call_max2T hc hu)) (rd_max.or rd_maxT) hm hv (sa_cons ha (sa_cons hb sa_nil he2) he) hg (by decide) (by decide) he hpl
theorem se_minB (hc : X.calm = true) (hu : X.A.units + 64 < cLine) (hm : X.mg "min" = none) (ha : SE X a fa) (hb : SE X b fb) (hg : Gl X "min" := by rfl) (hv : bootBuiltins "min" = some (.builtin "min") := by decide +kernel) (he : starEach [a, b] X.env = (false, eval a X.env) :: starEach [b] X.env := by exact star_of rfl) (he2 : starEach [b] X.env = (false, eval b X.env) :: starEach [] X.env := by exact star_of rfl)
    (hpl : (backTo pos (starEach [b] X.env)).any (·.1) = false := by exact back_of rfl) : SE X (.Call (.Name "min" p) [a, b] [] pos) (dCall fMin2 (dCons fa (dCons fb dNil))) :=
  se_callB ((call_min2 hc).or (call_min2T hc hu)) (rd_min.or rd_minT) hm hv (sa_cons ha (sa_cons hb sa_nil he2) he) hg (by decide) (by decide) he hpl
def bestI (lt : Int → Int → Bool) : List Int → Int → Int
  | [], b => b
  | x :: r, b => bestI lt r (if lt x b then x else b)
def rMaxL (K : PySem.W.Frag) (nm : Bool) : List V → Hp → VK → Prop := fun xs H Q => ∃ a n ns, xs = [.ref a] ∧ SqL K H a ((n :: ns).map V.int) ∧ ∀ m, m ∈ (n :: ns) → (∀ x ∈ (n :: ns), if nm = true then x ≤ m else m ≤ x) → Q (.int m) H
theorem call_maxL (hc : X.calm = true) : CallR X (.builtin "max") (rMaxL X.K true) := by
  intro pins s σ H xs us Q I r h
  obtain ⟨a, n, ns, rfl, ha, q⟩ := h
  obtain ⟨u, rfl, ru⟩ := vals1 r
  cases ru
  obtain ⟨its, r1, p1, _⟩ := I.list ha
  have i1 : IntsAre its (n :: ns) := intsAre_of r1
  obtain ⟨zs, e⟩ := i1.allInts.items
  have hns : (n :: ns) = zs.toList.map (·.1) := by rw [← i1.numsOf, ← nums_intItems, ← e]
  have hsz : 0 < zs.size := by
    have := congrArg List.length hns
    rw [List.length_map, Array.length_toList] at this
    simp at this; omega
  have hl := p1.isList
  rw [e] at hl
  refine max_intList (I.ok.hd hc) hl hsz fun v h' tk hv hk => ?_
  obtain ⟨t, rfl⟩ := intItems_at hv
  obtain ⟨h1, h2⟩ := argBest_gt (numAt zs) (zs.size - 1)
  refine ⟨.int _, H, I.kept hk, ⟨t, rfl⟩, q _ ?_ fun x hx => ?_⟩
  · rw [hns, numAt_eq]; exact getD_mem (by rw [List.length_map, Array.length_toList]; omega)
  · rw [hns] at hx
    obtain ⟨j, hj, rfl⟩ := mem_getD hx
    rw [List.length_map, Array.length_toList] at hj
    rw [if_pos rfl, ← numAt_eq]; exact h2 j (by omega)
theorem call_minL (hc : X.calm = true) : CallR X (.builtin "min") (rMaxL X.K false) := by
  intro pins s σ H xs us Q I r h
  obtain ⟨a, n, ns, rfl, ha, q⟩ := h
  obtain ⟨u, rfl, ru⟩ := vals1 r
  cases ru
  obtain ⟨its, r1, p1, _⟩ := I.list ha
  have i1 : IntsAre its (n :: ns) := intsAre_of r1
  obtain ⟨zs, e⟩ := i1.allInts.items
  have hns : (n :: ns) = zs.toList.map (·.1) := by rw [← i1.numsOf, ← nums_intItems, ← e]
  have hsz : 0 < zs.size := by
    have := congrArg List.length hns
    rw [List.length_map, Array.length_toList] at this
    simp at this; omega
  have hl := p1.isList
  rw [e] at hl
  refine min_intList (I.ok.hd hc) hl hsz fun v h' tk hv hk => ?_
  obtain ⟨t, rfl⟩ := intItems_at hv
  obtain ⟨h1, h2⟩ := argBest_lt (numAt zs) (zs.size - 1)
  refine ⟨.int _, H, I.kept hk, ⟨t, rfl⟩, q _ ?_ fun x hx => ?_⟩
  · rw [hns, numAt_eq]; exact getD_mem (by rw [List.length_map, Array.length_toList]; omega)
  · rw [hns] at hx
    obtain ⟨j, hj, rfl⟩ := mem_getD hx
    rw [List.length_map, Array.length_toList] at hj
    rw [if_neg Bool.false_ne_true, ← numAt_eq]; exact h2 j (by omega)
end
end L3
set_option Elab.async false
set_option linter.all false
set_option maxRecDepth 100000
set_option maxHeartbeats 4000000
namespace L3
open PySem PySem.Spec PyProof.Rows L2 PySem.SeqAt
theorem tuple_indexAt (l : Addr) (items : Array Value) (n : Nat) (dd : Option Addr) (sl : Array (Option Value)) (x : Value) (e : Value → Bool) (j : Nat) (hj : j < items.size) (hit : e items[j] = true) (hno : ∀ m (hm : m < items.size), m < j → e items[m] = false) :
    Meets (Builtin.«tuple.index» ⟨[.ref l, x], []⟩)
      (fun A R s => s.heap.get? l = some { cls := .type "tuple", dict := dd, data := .seq items n, slots := sl } ∧ (∀ y, y ∈ items → EqAt A.in1 s y x (e y)) ∧ R (.ok (.ret (.int j s.toks))) { s with toks := s.toks + 1 }) :=
  .of_wp fun prog w A R s h => by
    obtain ⟨hp, g, d, tk, os⟩ := s; obtain ⟨hl, he, h⟩ := h
    wp_walk using AutoSeq1.wpAny_loadPart' hl
    change wpAny _ _ (forIn [:min items.size items.size] (none, ()) (fun (i : Nat) __s => match items[i]? with
        | some y => do
          let __do_lift ← eqBool y x
          if __do_lift = true then do
              let __do_lift ← retInt (i : Int)
              pure (ForInStep.done (some __do_lift, ()))
            else pure (ForInStep.yield (none, ()))
        | x => pure (ForInStep.yield (none, ())))) _ _ _
    rw [Std.Legacy.Range.forIn_eq_forIn_range']
    refine wpAny_forIn_list _ (fun rest b s' => s' = ⟨hp, g, d, tk, os⟩ ∧ ∃ i, i ≤ j ∧ rest = List.range' i (items.size - i)) _ ?turn ?fin _ _ ⟨rfl, 0, Nat.zero_le _, by simp [Std.Legacy.Range.size]⟩
    case turn =>
      rintro i0 rest b s' ⟨rfl, i, hij, hr⟩
      have hlt : i < items.size := by omega
      have e0 : items.size - i = (items.size - (i + 1)) + 1 := by omega
      rw [e0, List.range'_succ] at hr
      cases hr
      rw [Array.getElem?_eq_getElem hlt]
      refine wpAny_bind (he _ (Array.getElem_mem hlt) prog w _ _ ?_)
      by_cases hj' : i0 = j
      · subst hj'
        rw [hit]
        wp_walk
        exact ⟨_, rfl, h⟩
      · rw [hno i0 hlt (by omega)]
        wp_walk
        exact ⟨rfl, i0 + 1, by omega, rfl⟩
    case fin =>
      rintro ⟨b1, b2⟩ s' ⟨rfl, i, hij, hr⟩
      have := congrArg List.length hr
      simp at this
      omega
def idxD (d : D) (ds : List D) : Option Nat := ds.findIdx? fun y => beq y d
def rIdxT (K : PySem.W.Frag) : V → List V → Hp → VK → Prop := fun x vs H Q => ∃ a xs ds d y j, x = .ref a ∧ vs = [y] ∧ SqT K H a xs ∧ RepL K H ds xs ∧ Rep K H d y ∧ depthL ds ≤ DEEP ∧ depth d ≤ DEEP ∧ idxD d ds = some j ∧ Q (.int (j : Nat)) H
section
variable {X : Cx} {a b : Expr} {fa fb : DEnv → Option D} {p pos apos : Pos}
theorem mt_indexT (hu : X.A.units + 64 < cLine) : MtR X "tuple.index" (rIdxT X.K) := by
  intro pins s σ H x vs v us Q I rx rv h
  obtain ⟨a, xs, ds, d, y, j, rfl, rfl, hq, hr, hd, h1, h2, hj, q⟩ := h
  cases rx
  obtain ⟨u, rfl, ru⟩ := vals1 rv
  obtain ⟨its, r1, p1, _⟩ := I.tuple hq
  obtain ⟨⟨cls, dd, data, sl⟩, ho, hc, n, hdt⟩ := id p1
  simp only at hc hdt
  subst hc hdt
  have l1 := hr.length
  have l2 := r1.length
  unfold idxD at hj
  rw [List.findIdx?_eq_some_iff_getElem] at hj
  obtain ⟨hlt, hjt, hjn⟩ := hj
  have hlt' : j < its.toArray.size := by rw [List.size_toArray]; omega
  have at_ : ∀ m (hm : m < its.toArray.size), inE ds its d its.toArray[m] = beq (ds[m]'(by rw [List.size_toArray] at hm; omega)) d := fun m hm => by
    have hm' : m < its.length := by rw [List.size_toArray] at hm; exact hm
    have e1 : its[m]? = some its.toArray[m] := by rw [List.getElem?_eq_getElem hm']; simp
    exact inE_at I hr r1 e1 (List.getElem?_eq_getElem (by omega))
  refine call_meets F.slot_tuple_index ⟨_, ho, rfl⟩ F.entry_tuple_index (F.args_tuple_index_2 _ _) (tuple_indexAt a its.toArray n dd sl u (inE ds its d) j hlt' ?_ ?_) ⟨ho, ?_, ?_⟩
  · rw [at_ j hlt']; exact hjt
  · intro m hm hmj
    rw [at_ m hm]
    exact Bool.eq_false_iff.mpr (hjn m hmj)
  · exact mem_inE I hu hr r1 h1 h2 hd ru
  · exact ⟨.int _, H, I.tok _, ⟨_, rfl⟩, q⟩
def dIndex (fa fb : DEnv → Option D) : DEnv → Option D := fun ρ => match fa ρ with
  | some (.tup ds) => (match fb ρ with | some d => if depthL ds ≤ DEEP ∧ depth d ≤ DEEP then (match idxD d ds with | some j => some (.int (j : Nat)) | none => none) else none | none => none)
  | _ => none
theorem se_index (hu : X.A.units + 64 < cLine) (ha : SE X a fa) (hb : SE X b fb) (hbase : attributeBase a "index" X.env (eval a X.env) = eval a X.env := by rfl)
    (hfew : ((backTo pos (starEach [b] X.env)).all (fun x => !x.1) && (backToKw pos (keywordEach [] X.env)).all (fun x => x.1.isSome)
      && decide (([b] : List Expr).length + ([] : List Keyword).length + (if ([] : List Keyword).isEmpty then 0 else 1) < 30)) = true := by rfl)
    (hline : (apos.endLine == pos.line) = true := by rfl) (hs : starEach [b] X.env = (false, eval b X.env) :: starEach [] X.env := by exact star_of rfl) (hplain : (backTo pos (starEach [] X.env)).any (·.1) = false := by exact back_of rfl) :
    SE X (.Call (.Attribute a "index" apos) [b] [] pos) (dIndex fa fb) :=
  pe_weak (pe_bm PySem.F.plainAttrs_tuple PySem.F.slot_tuple_index PySem.F.type_tuple_index (mt_indexT hu) ha (pa_cons hb pa_nil hs) hbase hfew hline hs hplain) fun σ H Q ⟨ρ, d, B, H0, V0, Z, e, r, q⟩ => by
    unfold dIndex at e
    split at e
    · rename_i ds ea
      split at e
      · rename_i d' eb
        split at e
        · rename_i hz
          split at e
          · rename_i j hj
            cases e
            refine ⟨ρ, _, B, H0, V0, Z, ea, r, fun x H1 s1 r1 => ?_⟩
            obtain ⟨n, xs, rfl, h1, h2⟩ := rep_tup.mp r1
            refine ⟨.inr (.inl ⟨rfl, xs, sqt_same hide_sub h1⟩), ρ, d', B, H0, V0, Z, eb, r.mono s1, fun y H2 s2 r2 => ?_⟩
            exact ⟨n, xs, ds, d', y, j, rfl, rfl, sqt_same (hide_sub.trans s2) h1, h2.mono (hide_sub.trans s2), r2.mono hide_sub, hz.1, hz.2, hj, q _ H2 (s1.trans s2) (rep_int.mpr rfl)⟩
          · cases e
        · cases e
      · cases e
    · cases e
def leastI : Int → List Int → Int
  | n, [] => n
  | n, m :: r => leastI (min n m) r
def mostI : Int → List Int → Int
  | n, [] => n
  | n, m :: r => mostI (max n m) r
theorem leastI_ok : ∀ (ns : List Int) (n : Int), leastI n ns ∈ n :: ns ∧ ∀ x ∈ n :: ns, leastI n ns ≤ x
  | [], n => by simp [leastI]
  | m :: r, n => by
    obtain ⟨h1, h2⟩ := leastI_ok r (min n m)
    show leastI (min n m) r ∈ _ ∧ ∀ x ∈ _, leastI (min n m) r ≤ x
    have hm := h2 (min n m) List.mem_cons_self
    constructor
    · rcases List.mem_cons.mp h1 with z | z
      · rw [z]
        rcases Int.le_total n m with q | q
        · rw [Int.min_eq_left q]; exact List.mem_cons_self
        · rw [Int.min_eq_right q]; exact List.mem_cons_of_mem _ List.mem_cons_self
      · exact List.mem_cons_of_mem _ (List.mem_cons_of_mem _ z)
    · intro x hx
      rcases List.mem_cons.mp hx with z | z
      · omega
      · rcases List.mem_cons.mp z with z | z
        · omega
        · exact h2 x (List.mem_cons_of_mem _ z)
theorem mostI_ok : ∀ (ns : List Int) (n : Int), mostI n ns ∈ n :: ns ∧ ∀ x ∈ n :: ns, x ≤ mostI n ns
  | [], n => by simp [mostI]
  | m :: r, n => by
    obtain ⟨h1, h2⟩ := mostI_ok r (max n m)
    show mostI (max n m) r ∈ _ ∧ ∀ x ∈ _, x ≤ mostI (max n m) r
    have hm := h2 (max n m) List.mem_cons_self
    constructor
    · rcases List.mem_cons.mp h1 with z | z
      · rw [z]
        rcases Int.le_total n m with q | q
        · rw [Int.max_eq_right q]; exact List.mem_cons_of_mem _ List.mem_cons_self
        · rw [Int.max_eq_left q]; exact List.mem_cons_self
      · exact List.mem_cons_of_mem _ (List.mem_cons_of_mem _ z)
    · intro x hx
      rcases List.mem_cons.mp hx with z | z
      · omega
      · rcases List.mem_cons.mp z with z | z
        · omega
        · exact h2 x (List.mem_cons_of_mem _ z)
def dMinL (f : DEnv → Option (List D)) : DEnv → Option D := fun ρ => match f ρ with | some ds => (match intsOf ds with | some (n :: ns) => some (.int (leastI n ns)) | _ => none) | none => none
def dMaxL (f : DEnv → Option (List D)) : DEnv → Option D := fun ρ => match f ρ with | some ds => (match intsOf ds with | some (n :: ns) => some (.int (mostI n ns)) | _ => none) | none => none
theorem se_minL {f : DEnv → Option (List D)} (hc : X.calm = true) (hm : X.mg "min" = none) (h : SQL X a f) (hg : Gl X "min" := by rfl) (hv : bootBuiltins "min" = some (.builtin "min") := by decide +kernel)
    (he : starEach [a] X.env = (false, eval a X.env) :: starEach [] X.env := by exact star_of rfl) (hpl : (backTo pos (starEach [] X.env)).any (·.1) = false := by exact back_of rfl) : SE X (.Call (.Name "min" p) [a] [] pos) (dMinL f) :=
  pe_weak (pe_callB (call_minL hc) hg hm hv (pa_cons h pa_nil he) (by decide) (by decide) he hpl) fun σ H Q ⟨ρ, d, B, H0, V0, Z, e, r, q⟩ => by
    unfold dMinL at e
    split at e
    · rename_i ds eds
      split at e
      · rename_i n ns hn
        cases e
        refine ⟨ρ, ds, B, H0, V0, Z, eds, r, fun l xs H' s hq rr => ⟨l, n, ns, rfl, ?_, fun m hm hb => ?_⟩⟩
        · rw [intsOf_some hn, repl_ints] at rr
          rw [← rr]; exact hq
        · obtain ⟨h1, h2⟩ := leastI_ok ns n
          have e1 := hb _ h1
          have e2 := h2 _ hm
          rw [if_neg Bool.false_ne_true] at e1
          have : m = leastI n ns := by omega
          rw [this]
          exact q _ H' s (rep_int.mpr rfl)
      · cases e
    · cases e
theorem se_maxL {f : DEnv → Option (List D)} (hc : X.calm = true) (hm : X.mg "max" = none) (h : SQL X a f) (hg : Gl X "max" := by rfl) (hv : bootBuiltins "max" = some (.builtin "max") := by decide +kernel)
    (he : starEach [a] X.env = (false, eval a X.env) :: starEach [] X.env := by exact star_of rfl) (hpl : (backTo pos (starEach [] X.env)).any (·.1) = false := by exact back_of rfl) : SE X (.Call (.Name "max" p) [a] [] pos) (dMaxL f) :=
  pe_weak (pe_callB (call_maxL hc) hg hm hv (pa_cons h pa_nil he) (by decide) (by decide) he hpl) fun σ H Q ⟨ρ, d, B, H0, V0, Z, e, r, q⟩ => by
    unfold dMaxL at e
    split at e
    · rename_i ds eds
      split at e
      · rename_i n ns hn
        cases e
        refine ⟨ρ, ds, B, H0, V0, Z, eds, r, fun l xs H' s hq rr => ⟨l, n, ns, rfl, ?_, fun m hm hb => ?_⟩⟩
        · rw [intsOf_some hn, repl_ints] at rr
          rw [← rr]; exact hq
        · obtain ⟨h1, h2⟩ := mostI_ok ns n
          have e1 := hb _ h1
          have e2 := h2 _ hm
          rw [if_pos rfl] at e1
          have : m = mostI n ns := by omega
          rw [this]
          exact q _ H' s (rep_int.mpr rfl)
      · cases e
    · cases e
def dTruL (f : DEnv → Option (List D)) : DEnv → Option Bool := fun ρ => match f ρ with | some ds => some (!ds.isEmpty) | none => none
theorem st_list {f : DEnv → Option (List D)} (h : SQL X a f) (he : ∀ whole, isTrue a X.env whole = (do let v ← whole; standAt a.pos; holding [v] (truthy v)) := by intro _; rfl) : STt X a (dTruL f) :=
  pt_weak (pt_truth h he) fun σ H Q ⟨ρ, d, B, H0, V0, Z, e, r, q⟩ => by
    unfold dTruL at e
    split at e
    · rename_i ds eds
      cases e
      refine ⟨ρ, ds, B, H0, V0, Z, eds, r, fun l xs H' s hq rr => ?_⟩
      refine ⟨!xs.isEmpty, .inl ⟨xs, hq, rfl⟩, ?_⟩
      have hl := rr.length
      have : ds.isEmpty = xs.isEmpty := by
        cases ds <;> cases xs <;> first | rfl | cases hl
      rw [← this]
      exact q H' s
    · cases e
end
end L3
set_option Elab.async false
set_option linter.all false
set_option maxRecDepth 100000
set_option maxHeartbeats 200000
namespace L3
open PySem PySem.Spec PyProof.Rows L2 PySem.SeqAt PySem.W
def sLt (a b : Str) : Bool := decide (a.cps.toList < b.cps.toList)
def sLe (a b : Str) : Bool := !sLt b a
def sortS (ss : List Str) : List Str := ss.mergeSort sLe
theorem sLt_asym (a b : Str) (h : sLt a b = true) : sLt b a = false := decide_eq_false fun z => List.lt_irrefl _ (List.lt_trans (of_decide_eq_true h) z)
theorem sLt_tr (a b c : Str) (h1 : sLt b a = false) (h2 : sLt c b = false) : sLt c a = false := decide_eq_false fun z => by
  have n1 := List.not_lt.mp (of_decide_eq_false h1)
  have n2 := List.not_lt.mp (of_decide_eq_false h2)
  exact List.lt_irrefl _ (List.lt_of_le_of_lt (List.le_trans n1 n2) z)
theorem sLt_eq (a b : Str) (h1 : sLt a b = false) (h2 : sLt b a = false) : a = b := by
  have n1 := List.not_lt.mp (of_decide_eq_false h1)
  have n2 := List.not_lt.mp (of_decide_eq_false h2)
  have e : a.cps.toList = b.cps.toList := List.le_antisymm n2 n1
  obtain ⟨x⟩ := a
  obtain ⟨y⟩ := b
  congr 1
  exact Array.toList_inj.mp e
theorem sortS_perm (ss : List Str) : (sortS ss).Perm ss := List.mergeSort_perm ss sLe
theorem sortS_up (ss : List Str) : (sortS ss).Pairwise fun a b => sLt b a = false := by
  have h := List.pairwise_mergeSort (le := sLe) (fun a b c h1 h2 => by
    have g1 : sLt b a = false := by unfold sLe at h1; rwa [Bool.not_eq_true'] at h1
    have g2 : sLt c b = false := by unfold sLe at h2; rwa [Bool.not_eq_true'] at h2
    unfold sLe
    rw [sLt_tr a b c g1 g2]; rfl) (fun a b => by
    unfold sLe
    cases e : sLt b a with
    | false => rfl
    | true => rw [sLt_asym b a e]; rfl) ss
  exact h.imp fun {a b} q => by
    unfold sLe at q
    rwa [Bool.not_eq_true'] at q
def strsOf : List D → Option (List Str)
  | [] => some []
  | .str i :: r => (strsOf r).map (i :: ·)
  | _ :: _ => none
theorem strsOf_some : ∀ {ds : List D} {ns : List Str}, strsOf ds = some ns → ds = ns.map D.str
  | [], ns, e => by cases e; rfl
  | .str i :: r, ns, e => by
    unfold strsOf at e
    obtain ⟨ms, h1, rfl⟩ := Option.map_eq_some_iff.mp e
    rw [strsOf_some h1]
    rfl
  | .non :: r, ns, e => by unfold strsOf at e; cases e
  | .bl _ :: r, ns, e => by unfold strsOf at e; cases e
  | .int _ :: r, ns, e => by unfold strsOf at e; cases e
  | .tup _ :: r, ns, e => by unfold strsOf at e; cases e
  | .lst _ :: r, ns, e => by unfold strsOf at e; cases e
  | .dct _ _ :: r, ns, e => by unfold strsOf at e; cases e
theorem repl_strs {K : PySem.W.Frag} {H : Hp} : ∀ {ns : List Str} {xs : List V}, RepL K H (ns.map D.str) xs ↔ xs = ns.map V.str
  | [], xs => by rw [List.map_nil, repl_nil, List.map_nil]
  | n :: ns, xs => by
    rw [List.map_cons, repl_cons, List.map_cons]
    constructor
    · rintro ⟨v, vs, rfl, h2, h3⟩
      rw [rep_str] at h2
      rw [repl_strs] at h3
      rw [h2, h3]
    · rintro rfl
      exact ⟨_, _, rfl, rep_str.mpr rfl, repl_strs.mpr rfl⟩
theorem strs_vals : ∀ {ss : List Str} {us : List Value}, Vals (ss.map V.str) us → StrsAre us ss
  | [], _, .nil => .nil
  | s :: ss, _, .cons r t => by obtain ⟨k, rfl⟩ := r; exact .cons _ _ (strs_vals t)
theorem kind_strs : ∀ {its : List Value} {ss : List Str}, StrsAre its ss → 2 ≤ its.length → keyKind' its.toArray = pure oneType'
  | [], _, _, h => absurd h (by simp)
  | [_], _, _, h => absurd h (by simp)
  | v1 :: v2 :: r, ns, hi, _ => keyKind_strs hi
theorem at_strs : ∀ {its : List Value} {ss : List Str}, Vals (ss.map V.str) its → ∀ {i : Nat}, i < its.length → ∃ t, its.getD i Value.none = .str (ss.getD i ⟨#[]⟩) t := fun {its ss} r {i} h => by
  have hl := r.length
  rw [List.length_map] at hl
  have h2 : i < ss.length := by omega
  obtain ⟨u, e, ru⟩ := r.get (i := i) (x := V.str ss[i]) (by rw [List.getElem?_map, List.getElem?_eq_getElem h2]; rfl)
  obtain ⟨t, rfl⟩ := ru
  exact ⟨t, by rw [getD_at e, getD_at (List.getElem?_eq_getElem h2)]⟩
theorem ord_strs (ss : List Str) : KOrd (fun i j => sLt (ss.getD i ⟨#[]⟩) (ss.getD j ⟨#[]⟩)) := ⟨fun i j h => sLt_asym _ _ h, fun i j k h1 h2 => sLt_tr _ _ _ h1 h2⟩
theorem out_strs {ss : List Str} {p : Array Nat} (p1 : p.size = ss.length) (p2 : p.Perm (List.toArray (List.range ss.length))) (p3 : Up (fun i j => sLt (ss.getD i ⟨#[]⟩) (ss.getD j ⟨#[]⟩)) p ss.length) :
    (p.toList.map fun i => (ss.map D.str).getD i .non) = (sortS ss).map D.str := by
  have e : (p.toList.map fun i => (ss.map D.str).getD i .non) = (p.toList.map fun i => ss.getD i ⟨#[]⟩).map D.str := by
    rw [List.map_map]
    apply List.map_congr_left
    intro i hi
    have h2 : i < ss.length := perm_lt p2 i hi
    show (ss.map D.str).getD i .non = D.str (ss.getD i ⟨#[]⟩)
    rw [getD_at (x := D.str ss[i]) (by rw [List.getElem?_map, List.getElem?_eq_getElem h2]; rfl), getD_at (List.getElem?_eq_getElem h2)]
  rw [e]
  congr 1
  refine sorted_one (le := fun a b : Str => sLt b a = false) (fun a b h1 h2 => sLt_eq a b h2 h1) ((mapsN p2).trans (sortS_perm ss).symm) ?_ (sortS_up ss) (fun a => decide_eq_false (List.lt_irrefl _))
  rw [List.pairwise_map]
  exact (up_pairwise p1 p3).imp fun h => h
theorem mapD_inj : ∀ {xs ys : List Str}, xs.map D.str = ys.map D.str → xs = ys
  | [], [], _ => rfl
  | [], _ :: _, h => by simp at h
  | _ :: _, [], h => by simp at h
  | x :: xs, y :: ys, h => by
    simp only [List.map_cons, List.cons.injEq, D.str.injEq] at h
    rw [h.1, mapD_inj h.2]
section
variable {X : Cx} {p pos : Pos} {e : Expr} {f : DEnv → Option (List D)}
def rSortS (K : PySem.W.Frag) : List V → Hp → VK → Prop := fun xs H Q => ∃ a ss, xs = [.ref a] ∧ (SqL K H a (ss.map V.str) ∨ SqT K H a (ss.map V.str)) ∧ ss.length < 64 ∧ ∀ p, H p = none → Q (.ref p) (upd H p (.lst ((sortS ss).map V.str)))
theorem call_sortedS : CallR X (.builtin "sorted") (rSortS X.K) := by
  intro pins s σ H xs vs Q I r h
  obtain ⟨a, ss, rfl, hq, h64, q⟩ := h
  obtain ⟨u, rfl, ru⟩ := vals1 r
  cases ru
  have src : ∃ its : List Value, Vals (ss.map V.str) its ∧ (s.heap.IsList a its.toArray ∨ IsTup s.heap a its.toArray) := by
    rcases hq with hq | hq
    · obtain ⟨its, rv, pl, _⟩ := I.list hq
      exact ⟨its, rv, .inl pl.isList⟩
    · obtain ⟨its, rv, pl, _⟩ := I.tuple hq
      exact ⟨its, rv, .inr pl⟩
  obtain ⟨its, rv, hl⟩ := src
  have l2 := rv.length
  rw [List.length_map] at l2
  refine sorted_gen (κ := oneType') (ord_strs ss) hl (by omega) (fun g2 h hkp Q' q' => ?_) (fun h hkp i j hi' hj' C hC => ?_) (fun p p1 p2 p3 => ?_)
  · rw [kind_strs (strs_vals rv) g2]
    exact wpAny_pure q'
  · obtain ⟨ti, ei⟩ := at_strs rv hi'
    obtain ⟨tj, ej⟩ := at_strs rv hj'
    rw [ei, ej, keyLt'_oneType]
    exact oneLt_str hC
  · have pl : ∀ i ∈ p.toList, i < its.length := perm_lt p2
    have v1 : Vals (p.toList.map fun i => (ss.map V.str).getD i .non) (p.toList.map fun i => its.getD i Value.none) := pickV rv _ fun i hi => by have := pl i hi; rw [List.length_map]; omega
    have ev : (p.toList.map fun i => (ss.map V.str).getD i .non) = (sortS ss).map V.str := by
      have e1 := out_strs (ss := ss) (p := p) (by rw [p1, l2]) (by rw [l2]; exact p2) (by rw [l2]; exact p3)
      have e2 : (p.toList.map fun i => (ss.map V.str).getD i .non) = (p.toList.map fun i => ss.getD i ⟨#[]⟩).map V.str := by
        rw [List.map_map]
        apply List.map_congr_left
        intro i hi
        have h2 : i < ss.length := by have := pl i hi; omega
        show (ss.map V.str).getD i .non = V.str (ss.getD i ⟨#[]⟩)
        rw [getD_at (x := V.str ss[i]) (by rw [List.getElem?_map, List.getElem?_eq_getElem h2]; rfl), getD_at (List.getElem?_eq_getElem h2)]
      have e3 : (p.toList.map fun i => (ss.map D.str).getD i .non) = (p.toList.map fun i => ss.getD i ⟨#[]⟩).map D.str := by
        rw [List.map_map]
        apply List.map_congr_left
        intro i hi
        have h2 : i < ss.length := by have := pl i hi; omega
        show (ss.map D.str).getD i .non = D.str (ss.getD i ⟨#[]⟩)
        rw [getD_at (x := D.str ss[i]) (by rw [List.getElem?_map, List.getElem?_eq_getElem h2]; rfl), getD_at (List.getElem?_eq_getElem h2)]
      rw [e3] at e1
      have e4 : (p.toList.map fun i => ss.getD i ⟨#[]⟩) = sortS ss := mapD_inj e1
      rw [e2, e4]
    rw [ev] at v1
    obtain ⟨e, he⟩ := sortedAll_at s.heap its (List.toArray (p.toList.map fun i => its.getD i Value.none))
    have hfr : H (s.heap.objs.size + 1) = none := I.hok.fresh (Nat.le_succ _)
    refine ⟨.ref (s.heap.objs.size + 1), _, I.laid (t' := s.toks) (a := s.heap.objs.size + 1) (o := .lst ((sortS ss).map V.str)) (fun b o hb => sortedAll_old hb) (Nat.le_succ _) ?_, rfl, q _ hfr⟩
    refine ⟨?_, _, e, v1, he⟩
    rw [List.length_map, (sortS_perm ss).length_eq, sizeLine_eq]
    omega
def sortD2 (ds : List D) : Option (List D) := match sortD ds with | some es => some es | none => (match strsOf ds with | some ss => if ss.length < 64 then some ((sortS ss).map D.str) else none | none => none)
theorem rd_sorted2 {K : PySem.W.Frag} : RdQF K (fun xs H Q => rSort K xs H Q ∨ rSortS K xs H Q) sortD2 := by
  intro ds es hs Z H a xs Q zs hq rr q
  unfold sortD2 at hs
  split at hs
  · rename_i es' he
    cases hs
    exact .inl (rd_sorted ds _ he Z H a xs Q zs hq rr q)
  · split at hs
    · rename_i ss hss
      split at hs
      · rename_i h64
        cases hs
        have hd := strsOf_some hss
        subst hd
        have hx := repl_strs.mp rr
        subst hx
        refine .inr ⟨a, ss, rfl, hq.imp id (sqt_same hide_sub), h64, fun l hl => ?_⟩
        exact q l _ _ (same_upd hl) hl upd_same (repl_strs.mpr rfl)
      · cases hs
    · cases hs
theorem sf_sorted2 (hm : X.mg "sorted" = none) (h : SQ X e f) (hg : Gl X "sorted" := by rfl) (hv : bootBuiltins "sorted" = some (.builtin "sorted") := by decide +kernel)
    (he : starEach [e] X.env = (false, eval e X.env) :: starEach [] X.env := by exact star_of rfl) (hpl : (backTo pos (starEach [] X.env)).any (·.1) = false := by exact back_of rfl) : SF X (.Call (.Name "sorted" p) [e] [] pos) (dQF sortD2 f) :=
  sf_callQ (call_sorted.or call_sortedS) rd_sorted2 hm hv h hg (by decide) (by decide) he hpl
end
end L3
set_option Elab.async false
set_option linter.all false
set_option maxRecDepth 100000
set_option maxHeartbeats 4000000
namespace L3
open PySem PySem.Spec PyProof.Rows L2 PySem.SeqAt
def KTab (K : PySem.W.Frag) (w : World) (a : Addr) (kvs : List (Str × Str)) : Prop :=
  ∃ es n, K.lookup a = some ⟨.type "dict", none, .dict es n, #[]⟩ ∧ PySem.W.KeysLit w.params es.toList ∧ ∀ kv ∈ kvs, ∃ t, PySem.W.nsIn K a kv.1 = some (some (.str kv.2 t))
def dGTab (kvs : List (Str × Str)) (f : DEnv → Option D) : DEnv → Option D := fun ρ => match f ρ with
  | some (.str x) => (match kvs.lookup x with | some y => some (.str y) | none => none)
  | _ => none
theorem lookup_mem {x y : Str} : ∀ {kvs : List (Str × Str)}, kvs.lookup x = some y → (x, y) ∈ kvs
  | [], h => by cases h
  | (a, b) :: r, h => by
    rw [List.lookup_cons] at h
    split at h
    · rename_i e
      cases h
      rw [eq_of_beq e]
      exact List.mem_cons_self
    · exact List.mem_cons_of_mem _ (lookup_mem h)
section
variable {X : Cx} {i : Expr} {p pos : Pos} {f : DEnv → Option D}
theorem se_gtab {x : Str} {a : Addr} {kvs : List (Str × Str)} (hm : X.mg x = some (.ref a)) (ht : KTab X.K X.w a kvs) (hi : SE X i f) (hg : Gl X x := by rfl) (hd : (x == ("__debug__" : Str)) = false := by decide) (hs : NoSl i := by exact fun _ _ => rfl) :
    SE X (.Subscript (.Name x p) i pos) (dGTab kvs f) := fun pins s σ H Q I ⟨ρ, d, B, H0, V0, Z, e, r, q⟩ => by
  unfold dGTab at e
  split at e
  · rename_i k hk
    split at e
    · rename_i y hy
      cases e
      obtain ⟨es, n, hl, hk', hv⟩ := ht
      obtain ⟨t, ht⟩ := hv _ (lookup_mem hy)
      have h0 : tC (.ref a) σ H (fun x H1 => x = V.ref a ∧ H1 = H) := ⟨rfl, rfl⟩
      refine subD_of PySem.F.slot_dict_getitem.lookup hs (thn (pe_glob (pos := p) hg hm (v := .ref a) rfl hd pins s σ H _ I h0) fun u s1 ⟨x', H1, I1, rx, ex, eH⟩ => ?_)
      subst ex eH
      obtain rfl : u = Value.ref a := rx
      refine thn (hi pins s1 σ H1 (fun v H' => Same H1 H' ∧ v = V.str k) I1 ⟨ρ, _, B, H0, V0, Z, hk, r, fun v H' sm rv => ⟨sm, rep_str.mp rv⟩⟩) fun iv s2 ⟨y', H2, I2, ry, sm, ey⟩ => ?_
      subst ey
      obtain ⟨tk, rfl⟩ := ry
      have hm := PySem.W.mapOf_K (prog := X.prog) (w := X.w) I2.kIn hl hk'
      refine ⟨hm.typeIs, wpAny_getItem_of (strKind_is X.prog X.w k tk) hm (PySem.W.find_K hl ht) ⟨.str y, H2, I2.tok _, ⟨t, rfl⟩, q _ _ sm (rep_str.mpr rfl)⟩⟩
    · cases e
  · cases e
end
end L3
set_option Elab.async false
set_option linter.all false
set_option maxRecDepth 100000
set_option maxHeartbeats 4000000
namespace L3
open PySem PySem.Spec PyProof.Rows L2 PySem.SeqAt
section
variable {X : Cx} {a b : Expr} {fa fb : DEnv → Option D} {p pos : Pos}
def rMaxT (K : PySem.W.Frag) (up : Bool) : List V → Hp → VK → Prop := fun xs H Q => ∃ a n ns, xs = [.ref a] ∧ SqT K H a ((n :: ns).map V.int) ∧ ∀ m, m ∈ n :: ns → (∀ x ∈ n :: ns, if up = true then x ≤ m else m ≤ x) → Q (.int m) H
def dMinT (f : DEnv → Option D) : DEnv → Option D := fun ρ => match f ρ with | some (.tup ds) => (match intsOf ds with | some (n :: ns) => some (.int (leastI n ns)) | _ => none) | _ => none
def dMaxT (f : DEnv → Option D) : DEnv → Option D := fun ρ => match f ρ with | some (.tup ds) => (match intsOf ds with | some (n :: ns) => some (.int (mostI n ns)) | _ => none) | _ => none
end
end L3
set_option Elab.async false
set_option linter.all false
set_option maxRecDepth 100000
set_option maxHeartbeats 4000000
namespace L3
open PySem PySem.Spec PyProof.Rows L2
section
variable {X : Cx}
theorem ps_comp {i : Nat} {y : Str} {py spos : Pos} {elt target iter : Expr} {ifs : List Expr} {scope : Scope} {pos : Pos} {N : List Str} {cap : List (Option Nat)} {wi : TI} {g : TG} {tt : TT} {te : TE}
    (hc : X.calm = true) (hi : PI X target iter wi)
    (hg : ∀ cl C fp s H, PG (compCx X N scope cl C fp s H) target g) (ht : ∀ cl C fp s H, PIfs (compCx X N scope cl C fp s H) ifs tt) (he : ∀ cl C fp s H, PE (compCx X N scope cl C fp s H) elt te)
    (hk : scope.kind = .function) (hcell : ∀ y ∈ scope.names, y.2 ≠ .cell) (hnames : ∀ x ∈ scope.names, x.2 = .local → scope.names.lookup x.1 = some .local)
    (hfr : ∀ x ∈ scope.names, x.2 = .free → scope.names.lookup x.1 = some .free) (hout : ∀ x ∈ scope.names, x.2 = .free → X.env.scope.names.lookup x.1 = some .cell ∨ X.env.scope.names.lookup x.1 = some .free)
    (hcap : ∀ (i j : Nat), cap[i]? = some (some j) → ∃ x, N[i]? = some x ∧ X.N[j]? = some x ∧ scope.names.lookup x = some .free)
    (hlen : cap.length = N.length) (hN : X.N.Nodup) (hiy : X.N[i]? = some y) (hy : Loc X.env.scope y) (hf : X.fn y = true ∨ X.env.scope.names.lookup y = some .local)
    (hsw : swapsWith (.ListComp elt [⟨target, iter, ifs, 0⟩] scope pos) (some (.Name y py)) spos.line X.env = pure true) (hs : ∀ x, foldedSetIterable iter X.env x = pure x := by intro _; rfl) :
    PS X (.Assign [.Name y py] (.ListComp elt [⟨target, iter, ifs, 0⟩] scope pos) spos) (tAsg (tComp cap wi g tt te) (gName i)) := by
  intro pins s σ H D I h
  obtain ⟨cl, hclos, hcl, hcf⟩ := clo_of (env := X.env) (scope := scope) fun x hx hf => I.ok.has x.1 (hout x hx hf)
  rw [exec_Assign_Name_used _ _ _ _ hsw]
  refine wpAny_bind (wpAny_standAt (wpAny_bind ?_))
  show wpAny _ X.A (do let _ ← comprehension (.ListComp elt [⟨target, iter, ifs, 0⟩] scope pos) scope X.env _ (newList []) false (eval iter X.env) (some (assign (.Name y py) X.env))) _ _ s
  refine wpAny_bind (wpAny_mono (wpAny_comprehension_free (use := some (assign (.Name y py) X.env)) (Q := fun _ s' => SP X pins D .next s') rfl hs hclos hk hnames ?_) (fun _ s' hq => wpAny_pure (wpAny_pure hq)) fun _ _ e => e)
  show wpAny _ _ (eval iter X.env) _ _ s
  refine thn (hi pins s σ H _ I h) fun v s1 h1 => thn h1 fun itv s2 h2 => ?_
  obtain ⟨it, fp, tn, J, H2, rfl, I2, T, st2, f2, hW⟩ := h2
  obtain ⟨W, ⟨m0, w0⟩, turn⟩ := hW s2.heap.objs.size I2.fresh
  refine wpAny_newObj_type (wpAny_newFunctionEnv hcell (by intro y hy; simp at hy) (fun h4 hns hsb => ?_) hk)
  dsimp only at hns hsb ⊢
  have I3 : Inv X pins σ (upd H2 s2.heap.objs.size (.lst [])) { s2 with heap := s2.heap.push { cls := .type "list", dict := none, data := .seq ([] : List Value).toArray } } := I2.lnew (its := []) (t' := s2.toks) .nil (Nat.zero_le _)
  generalize hs3 : ({ s2 with heap := s2.heap.push { cls := .type "list", dict := none, data := .seq ([] : List Value).toArray } } : Shared) = s3 at I3
  have hh3 : s2.heap.push { cls := .type "list", dict := none, data := .seq ([] : List Value).toArray } = s3.heap := by rw [← hs3]
  have hsz3 : s3.heap.objs.size = s2.heap.objs.size + 1 := by rw [← hh3, Heap.size_push]
  rw [hh3] at hns hsb
  have keep4 : ∀ b o, s3.heap.get? b = some o → h4.get? b = some o := fun b o e => hsb.extBut b o (Nat.ne_of_lt (Heap.lt_size e)) (Heap.get?_push_of_some _ e)
  have fpn : ∀ b ∈ fp, (upd H2 s2.heap.objs.size (.lst [])) b = none ∧ FpOk X pins (upd H2 s2.heap.objs.size (.lst [])) b := fun b hb => by
    obtain ⟨o, e, _⟩ := T.obj 0 _ st2 b hb
    have ne : b ≠ s2.heap.objs.size := Nat.ne_of_lt (Heap.lt_size e)
    have z : (upd H2 s2.heap.objs.size (.lst [])) b = none := by rw [upd_ne ne]; exact (f2 b hb).1
    exact ⟨z, z, (f2 b hb).2⟩
  have hfo : ∀ b ∈ fp, ∃ o, s3.heap.get? b = some o := fun b hb => by
    obtain ⟨o, e, _⟩ := T.obj 0 _ st2 b hb
    exact ⟨o, by rw [← hh3]; exact Heap.get?_push_of_some _ e⟩
  have I4 : ∀ tk, Inv (compCx X N scope cl s3.heap.objs.size fp s3 (upd H2 s2.heap.objs.size (.lst []))) [] (capt cap σ) (upd H2 s2.heap.objs.size (.lst [])) { s3 with heap := h4, toks := tk } := fun tk =>
    inv_comp I3 hk hcell hcl hcf hfr (fun i j e => by
      obtain ⟨x, n1, n2, n3⟩ := hcap i j e
      exact ⟨x, n1, n2, n3, hout _ (PySem.mem_of_lookup n3) rfl⟩) hlen (fun b hb => (fpn b hb).2) hfo hns keep4
  have st4 : tn 0 h4 := T.keep _ _ _ st2 fun b _ o e => keep4 b o (by rw [← hh3]; exact Heap.get?_push_of_some _ e)
  have stat : ∀ {H' : Hp}, (∀ b ∈ fp, H' b = none) → ∀ b ∈ fp, FpOk (compCx X N scope cl s3.heap.objs.size fp s3 (upd H2 s2.heap.objs.size (.lst []))) [] H' b := fun {H'} hn b hb => by
    obtain ⟨o, e⟩ := hfo b hb
    obtain ⟨_, f1, f3, _, f5, _⟩ := f2 b hb
    refine ⟨hn b hb, Nat.ne_of_lt (Heap.lt_size e), fun z => ?_, .inl hb, fun x c e => f5 x c (hcl x c e).1, fun p hp => absurd (show p ∈ ([] : List (Addr × Obj)) from hp) (by simp)⟩
    rcases List.mem_cons.mp (I3.stkSub b z) with e' | e'
    · exact f1 e'
    · exact f3 e'
  have loop : ∀ s4 : Shared, s4 = { s3 with heap := h4, toks := s2.toks + ([] : List (Str × Value)).length } →
      codeAny (model X.prog X.w) X.A (.compLoop (.ListComp elt [⟨target, iter, ifs, 0⟩] scope pos) 0 (.ref it) (.ref s2.heap.objs.size) (compEnvC scope cl s3.heap.objs.size X.env))
        (compPost (model X.prog X.w) X.A X.xe (some (assign (.Name y py) X.env)) (fun _ s' => SP X pins D .next s') (.ref s2.heap.objs.size) s3.heap.objs.size) s4 := by
    rintro s4 rfl
    refine compLoop_gen (fun n s' => ∃ i σ' H' acc, Inv (compCx X N scope cl s3.heap.objs.size fp s3 (upd H2 s2.heap.objs.size (.lst []))) [] σ' H' s' ∧ tn i s'.heap ∧ (∀ b ∈ fp, H' b = none) ∧ W i n σ' H' acc) ?_ m0 ⟨0, _, _, [], I4 _, st4, fun b hb => (fpn b hb).1, w0⟩
    rintro n s5 ⟨i, σ5, H5, acc, I5, st5, fr5, w5⟩
    rcases turn i n σ5 H5 acc w5 with ⟨stop, q⟩ | ⟨go, hz, step⟩
    · refine thn (T.done (compCx X N scope cl s3.heap.objs.size fp s3 (upd H2 s2.heap.objs.size (.lst []))) rfl rfl rfl hc i [] s5 σ5 H5 _ I5 (stat fr5) st5 stop) fun r s6 ⟨hr, I6⟩ => ?_
      subst hr
      obtain ⟨m6, hn6, _⟩ := I6.loc
      have IX : Inv X pins σ H5 s6 := by
        refine I3.call' (s' := s6) (ch := fp) I6.os ?_ (fun b u e => I6.hok b u e) I6.bare (fun b hb => ?_)
        · have u6 : Un (frs X.stack) fp (upd H2 s2.heap.objs.size (.lst [])) H5 s3.heap s6.heap := I6.base
          exact u6
        · obtain ⟨_, f1, _, f3, f5, f6⟩ := f2 b hb
          exact ⟨f3, f1, f5, f6⟩
      have ltL : X.env.locals < s3.heap.objs.size := by
        obtain ⟨m3, hn3, _⟩ := I3.loc
        obtain ⟨o, _, _, ho, _⟩ := hn3
        exact Heap.lt_size ho
      have ltC : ∀ x c, X.env.cells.lookup x = some c → c < s3.heap.objs.size := fun x c e => by
        obtain ⟨v, o, ho, _⟩ := I3.cell x c e
        exact Heap.lt_size ho
      show wpAny _ X.A (assign (.Name y py) X.env (.ref s2.heap.objs.size)) _ _ s6
      refine wpAny_assign_Name (store_ok2 IX hN hiy hy (v := .ref s2.heap.objs.size) rfl (fun s7 I7 hsb7 => ?_) hf)
      obtain ⟨a7, sb7, ha7⟩ := hsb7
      have neA : s3.heap.objs.size ≠ a7 := by
        rcases ha7 with rfl | ha7
        · exact Ne.symm (Nat.ne_of_lt ltL)
        · exact Ne.symm (Nat.ne_of_lt (ltC _ _ ha7))
      refine ⟨m6, hn6.sameBut sb7 neA, fun h' sb => ?_⟩
      have neC : ∀ b u, H5 b = some u → b ≠ s3.heap.objs.size := fun b u e z => by
        subst z
        have := I6.free
        rw [show H5 s3.heap.objs.size = none from this] at e
        cases e
      refine ⟨_, H5, ?_, q⟩
      refine I7.call' (s' := { s7 with heap := h' }) (ch := [s3.heap.objs.size]) rfl ?_ (fun b u e => ?_) I7.bare (fun b hb => ?_)
      · have ex : ∀ b, b ∉ [s3.heap.objs.size] → ∀ o, s7.heap.get? b = some o → h'.get? b = some o := fun b hb o e => (sb.2 b fun z => hb (by rw [z]; exact List.mem_singleton.mpr rfl)).trans e
        exact ⟨fun b o e n hb hx => ex b hx o e, fun b o e n hb hx => ⟨o.slots, ex b hx o e⟩, fun b o e n hx => n, fun b o e hx => ⟨o, ex b hx o e⟩, fun _ _ e => e, fun _ _ _ e => e, fun b ps e => ⟨#[], by simpa using e⟩⟩
      · refine (I7.hok b u e).stay (fun c v hc' q' => (sb.2 c ?_).trans q') (fun _ q' => q') fun _ _ q' => q'
        rcases hc' with rfl | hc'
        · exact neC _ _ e
        · exact neC _ _ hc'
      · obtain rfl := List.mem_singleton.mp hb
        refine ⟨.inr ?_, Ne.symm (Nat.ne_of_lt ltL), fun x c e => Nat.ne_of_lt (ltC x c e), fun p hp => ?_⟩
        · exact I3.sz
        · exact Nat.ne_of_lt (Heap.lt_size (I3.pin p hp).1)
    · refine thn (T.item (compCx X N scope cl s3.heap.objs.size fp s3 (upd H2 s2.heap.objs.size (.lst []))) rfl rfl rfl hc i [] s5 σ5 H5 _ I5 (stat fr5) st5 go) fun r s6 ⟨u, hr, h6⟩ => ?_
      subst hr
      refine thn h6 fun _ s7 ⟨x, H7, I7, r7, y7, st7, fr7⟩ => ?_
      have I7' := I7.pinned (stat fr7) (T.obj _ _ st7)
      refine thn (hg _ _ _ _ _ _ s7 σ5 H7 x u _ I7' r7 (step x H7 y7)) fun _ s8 ⟨σ8, H8, I8, q8⟩ => ?_
      refine thn (ht _ _ _ _ _ _ s8 σ8 H8 _ I8 q8) fun ok s9 ⟨H9, I9, q9⟩ => ?_
      have again : ∀ {s' : Shared} {σ' : St} {H' : Hp} {acc' : List V} {m' : Nat}, Inv (compCx X N scope cl s3.heap.objs.size fp s3 (upd H2 s2.heap.objs.size (.lst []))) ([] ++ pinsAt fp s7.heap) σ' H' s' → m' < n → W (i + 1) m' σ' H' acc' →
          ∃ m, m < n ∧ ∃ i σ'' H'' acc, Inv (compCx X N scope cl s3.heap.objs.size fp s3 (upd H2 s2.heap.objs.size (.lst []))) [] σ'' H'' s' ∧ tn i s'.heap ∧ (∀ b ∈ fp, H'' b = none) ∧ W i m σ'' H'' acc := fun {s' σ' H' acc' m'} I' hm w' => by
        refine ⟨m', hm, i + 1, σ', H', acc', I'.unpinned, T.keep _ _ _ st7 fun b hb o e => (I'.pin (b, o) (List.mem_append_right _ (List.mem_append_right _ (mem_pinsAt hb e)))).1, fun b hb => ?_, w'⟩
        obtain ⟨o, e, d⟩ := T.obj _ _ st7 b hb
        exact (I'.pin (b, o) (List.mem_append_right _ (List.mem_append_right _ (mem_pinsAt hb e)))).2.1
      cases ok with
      | false =>
        rw [if_neg Bool.false_ne_true] at q9
        obtain ⟨m', hm, w'⟩ := q9
        exact again I9 hm w'
      | true =>
        rw [if_pos rfl] at q9
        show wpAny _ _ (eval elt _) _ _ s9
        refine thn (he _ _ _ _ _ _ s9 σ8 H9 _ I9 q9) fun xv s10 ⟨y, H10, I10, r10, hl10, m', hm, w'⟩ => ?_
        refine thn (mt_append _ s10 σ8 H10 (.ref s2.heap.objs.size) [y] (.ref s2.heap.objs.size) [xv] (fun (_ : V) (H' : Hp) => H' = upd H10 s2.heap.objs.size (.lst (acc ++ [y]))) I10 rfl (.cons r10 .nil) ⟨_, acc, y, rfl, rfl, hl10, hz, rfl⟩) fun _ s11 ⟨_, H11, I11, _, e11⟩ => ?_
        have e11' : H11 = upd H10 s2.heap.objs.size (.lst (acc ++ [y])) := e11
        subst e11'
        exact again I11 hm w'
  have hx : ∀ s4 : Shared, s4 = { s3 with heap := h4, toks := s2.toks + ([] : List (Str × Value)).length } → tn 0 s4.heap := by
    rintro s4 rfl
    exact st4
  subst hs3
  exact codeAny_compStart_list (loop _ rfl) (T.self X.A 0 _ _ _ (hx _ rfl) (loop _ rfl))
theorem comp_imp {cap : List (Option Nat)} {fi : DEnv → Option (List D)} {h : D → DEnv → Option DEnv} {ft : DEnv → Option Bool} {fe : DEnv → Option D} (hinj : ∀ (i j k : Nat), cap[i]? = some (some k) → cap[j]? = some (some k) → i = j) :
    ∀ σ H Q, tF X.K (dComp cap fi h ft fe) σ H Q → tComp cap (tI X.K fi) (tG X.K h) (tT X.K ft) (tD X.K fe) σ H Q := fun σ H Q ⟨ρ, zs, B, H0, V0, Z, e, r, q⟩ => by
    unfold dComp at e
    split at e
    · rename_i ds eds
      split at e
      · rename_i hl
        refine ⟨ρ, ds, B, H0, V0, Z, eds, r, fun J H1 s1 wk l hl1 => ?_⟩
        have R1 := r.mono s1
        have sl : Same H1 (upd H1 l (.lst [])) := same_upd hl1
        have RV : SR X.K B H0 (hide Z H1) H1 Z σ ρ := R1.vis' (fun _ _ h => h)
        have R2' := RV.more hl1 sl upd_same
        have R2 : SR X.K (l :: B) H0 (hide Z H1) (upd H1 l (.lst [])) (l :: Z) (capt cap σ) (capE cap ρ) := sr_capt hinj ⟨R2'.same, R2'.vis, fun b hb => (List.mem_cons.mp hb).elim (fun z => z ▸ List.mem_cons_self) fun z => R2'.sub b z, R2'.zs, R2'.sh, fun j es hj => by
          obtain ⟨a, xs, t1, t2, tb, t3, t4, t5⟩ := RV.own j es hj
          obtain ⟨a', xs', t1', t2', tb', t3', t4', t5'⟩ := R2'.own j es hj
          rw [t1] at t1'
          cases t1'
          refine ⟨a, xs', t1, t2', fun z => ?_, t3', t4', t5'⟩
          rcases List.mem_cons.mp z with z | z
          · rw [z, hl1] at t4; cases t4
          · exact tb z, R2'.inj, R2'.len⟩
        refine ⟨fun i m σ' H' acc => m = ds.length - i ∧ i ≤ ds.length ∧ H' l = some (.lst acc) ∧ Same H1 H' ∧ acc.length ≤ i ∧ ∃ ρ' ys ws, SR X.K (l :: B) H0 (hide Z H1) H' (l :: Z) σ' ρ' ∧ RepL X.K (hide (l :: Z) H') ys acc ∧ compGo h ft fe ρ' (ds.drop i) = some ws ∧ zs = ys ++ ws,
          ⟨_, rfl, Nat.zero_le _, upd_same, sl, Nat.le_refl _, capE cap ρ, [], zs, R2, RepL.nil, e, rfl⟩, ?_⟩
        rintro i m σ' H' acc ⟨rfl, hi', hacc, hS, hal, ρ', ys, ws, r', ry, e', ez⟩
        have vis : Same (hide Z H1) H' := r'.vis.trans hide_sub
        by_cases hlt : i < ds.length
        · refine .inr ⟨wk.go H' vis i hlt, lim_lt (Nat.le_trans hal (Nat.le_trans hi' hl)), fun x H3 hy => ?_⟩
          obtain ⟨sH, hx⟩ := wk.yld H' vis i x H3 hy
          have hd := hx ds[i] (List.getElem?_eq_getElem hlt) (l :: Z) r'.zs r'.vis
          have hacc := sH _ _ hacc
          have hS := hS.trans sH
          have ry := ry.mono (hide_same sH)
          rw [List.drop_eq_getElem_cons hlt] at e'
          unfold compGo at e'
          split at e'
          · cases e'
          · rename_i ρ1 e1
            refine ⟨ρ', ds[i], ρ1, l :: B, H0, hide Z H1, l :: Z, e1, r'.mono sH, hd, fun σ4 r4 => ?_⟩
            split at e'
            · rename_i et
              refine ⟨ρ1, true, l :: B, H0, hide Z H1, l :: Z, et, r4, fun H5 s5 => iteT ?_⟩
              split at e'
              · rename_i y ey
                split at e'
                · rename_i yy eyy
                  cases e'
                  refine ⟨ρ1, y, l :: B, H0, hide Z H1, l :: Z, ey, r4.mono s5, fun v H6 s6 r6 => ⟨s6 _ _ (s5 _ _ hacc), ds.length - (i + 1), by omega, rfl, hlt, upd_same, same_updI hl1 (hS.trans (s5.trans s6)), ?_, ρ1, ys ++ [y], yy, ?_, ?_, eyy, by rw [ez]; simp⟩⟩
                  · rw [List.length_append]; simpa using hal
                  · have R6 := (r4.mono s5).mono s6
                    have vs : Same (hide (l :: Z) H6) (hide (l :: Z) (upd H6 l (.lst (acc ++ [v])))) := hide_upd List.mem_cons_self
                    have nl : H0 l = none := (r.same.trans s1).free hl1
                    refine ⟨same_updI nl R6.same, R6.vis.trans vs, R6.sub, fun z hz => ?_, fun j d hj => let ⟨u, t1, t2⟩ := R6.sh j d hj; ⟨u, t1, t2.mono vs⟩, fun j es hj => ?_, R6.inj, R6.len⟩
                    · by_cases ez' : z = l
                      · subst ez'; exact ⟨_, upd_same⟩
                      · obtain ⟨o', ho'⟩ := R6.zs z hz
                        exact ⟨o', by rw [upd_ne ez']; exact ho'⟩
                    · obtain ⟨a, xs, t1, t2, tb, t3, t4, t5⟩ := R6.own j es hj
                      have na : a ≠ l := fun z => tb (z ▸ List.mem_cons_self)
                      exact ⟨a, xs, t1, t2, tb, t3, by rw [upd_ne na]; exact t4, t5.mono vs⟩
                  · exact RepL.append (ry.mono ((hide_same (s5.trans s6)).trans (hide_upd List.mem_cons_self))) (RepL.one (r6.mono (hide_upd List.mem_cons_self)))
                · cases e'
              · cases e'
            · rename_i et
              exact ⟨ρ1, false, l :: B, H0, hide Z H1, l :: Z, et, r4, fun H5 s5 => iteF ⟨ds.length - (i + 1), by omega, rfl, hlt, s5 _ _ hacc, hS.trans s5, by omega, ρ1, ys, ws, r4.mono s5, ry.mono (hide_same s5), e', ez⟩⟩
            · cases e'
        · have ei : i = ds.length := by omega
          subst ei
          rw [List.drop_length] at e'
          unfold compGo at e'
          cases e'
          rw [List.append_nil] at ez
          subst ez
          exact .inl ⟨wk.stop H' vis, q l acc H' (s1.trans hS) (s1.free hl1) hacc ry⟩
      · cases e
    · cases e
theorem ss_compG {i : Nat} {y : Str} {py spos pos : Pos} {elt target iter : Expr} {ifs : List Expr} {scope : Scope} {fi : DEnv → Option (List D)} {h : D → DEnv → Option DEnv} {ft : DEnv → Option Bool} {fe : DEnv → Option D} {go : DEnv → Option Out} (N : List Str) (cap : List (Option Nat))
    (hc : X.calm = true) (hi : SI X target iter fi)
    (hg : ∀ cl C fp s H, SG (compCx X N scope cl C fp s H) target h) (ht : ∀ cl C fp s H, PIfs (compCx X N scope cl C fp s H) ifs (tT X.K ft)) (he : ∀ cl C fp s H, SE (compCx X N scope cl C fp s H) elt fe)
    (hN : X.N.Nodup) (hiy : X.N[i]? = some y) (hy : Loc X.env.scope y) (hf : X.fn y = true ∨ X.env.scope.names.lookup y = some .local)
    (hsw : swapsWith (.ListComp elt [⟨target, iter, ifs, 0⟩] scope pos) (some (.Name y py)) spos.line X.env = pure true)
    (hok : compOk scope X.env.scope N cap X.N = true) (hs : ∀ x, foldedSetIterable iter X.env x = pure x)
    (himp : ∀ E σ H, tS X.K go E σ H → tF X.K (dComp cap fi h ft fe) σ H (fun v H1 => E.nx (σ.set i (some v)) H1)) :
    SS X (.Assign [.Name y py] (.ListComp elt [⟨target, iter, ifs, 0⟩] scope pos) spos) go := by
  unfold compOk at hok
  simp only [Bool.and_eq_true] at hok
  obtain ⟨⟨⟨⟨⟨⟨h1, h2⟩, h3⟩, h4⟩, h5⟩, h6⟩, h7⟩ := hok
  rw [List.all_eq_true] at h2 h3 h4 h5 h7
  refine ps_weak (ps_comp (N := N) (cap := cap) (wi := tI X.K fi) (g := tG X.K h) (tt := tT X.K ft) (te := tD X.K fe) hc hi hg ht he (by simpa using h1) (fun y hy => by simpa using h2 y hy) (fun y hy e => ?_) (fun y hy e => ?_) (fun y hy e => ?_) (fun i j e => ?_) (by simpa using h6) hN hiy hy hf hsw hs)
    fun E σ H z => comp_imp (X := X) (fun i j k e1 e2 => ?_) σ H _ (himp E σ H z)
  · have z := h3 y hy
    rw [e] at z
    simpa using z
  · have z := h4 y hy
    rw [e] at z
    simp only [beq_self_eq_true, if_true, Bool.and_eq_true] at z
    simpa using z.1
  · have z := h4 y hy
    rw [e] at z
    simp only [beq_self_eq_true, if_true, Bool.and_eq_true, Bool.or_eq_true] at z
    simpa using z.2
  · have hi' : i < cap.length := (List.getElem?_eq_some_iff.mp e).1
    have z := h5 i (List.mem_range.mpr hi')
    rw [e] at z
    dsimp only at z
    split at z
    · rename_i x hx
      split at z
      · rename_i y hy
        simp only [Bool.and_eq_true, beq_iff_eq] at z
        obtain ⟨z1, z2⟩ := z
        subst z1
        exact ⟨x, hx, hy, z2⟩
      · cases z
    · cases z
  · have hi' : i < cap.length := (List.getElem?_eq_some_iff.mp e1).1
    have hj' : j < cap.length := (List.getElem?_eq_some_iff.mp e2).1
    have z := h7 i (List.mem_range.mpr hi')
    rw [List.all_eq_true] at z
    have z2 := z j (List.mem_range.mpr hj')
    rw [e1, e2] at z2
    simpa using z2
theorem ss_compS {i : Nat} {y : Str} {py spos pos : Pos} {elt target iter : Expr} {ifs : List Expr} {scope : Scope} {fi : DEnv → Option (List D)} {h : D → DEnv → Option DEnv} {ft : DEnv → Option Bool} {fe : DEnv → Option D} (N : List Str) (cap : List (Option Nat))
    (hc : X.calm = true) (hi : SI X target iter fi)
    (hg : ∀ cl C fp s H, SG (compCx X N scope cl C fp s H) target h) (ht : ∀ cl C fp s H, PIfs (compCx X N scope cl C fp s H) ifs (tT X.K ft)) (he : ∀ cl C fp s H, SE (compCx X N scope cl C fp s H) elt fe)
    (hN : X.N.Nodup) (hiy : X.N[i]? = some y := by rfl) (hy : Loc X.env.scope y := by first | exact Or.inl rfl | exact Or.inr rfl) (hf : X.fn y = true ∨ X.env.scope.names.lookup y = some .local := by first | exact .inl rfl | exact .inr rfl)
    (hsw : swapsWith (.ListComp elt [⟨target, iter, ifs, 0⟩] scope pos) (some (.Name y py)) spos.line X.env = pure true := by rfl)
    (hok : compOk scope X.env.scope N cap X.N = true := by rfl) (hs : ∀ x, foldedSetIterable iter X.env x = pure x := by intro _; rfl) :
    SS X (.Assign [.Name y py] (.ListComp elt [⟨target, iter, ifs, 0⟩] scope pos) spos) (dSet i (dLs (dComp cap fi h ft fe))) :=
  ss_compG N cap hc hi hg ht he hN hiy hy hf hsw hok hs fun E σ H ⟨ρ, o, B, H0, V0, Z, e, r, q⟩ => by
    unfold dSet at e
    split at e
    · rename_i d ed
      cases e
      unfold dLs at ed
      obtain ⟨ds, he, rfl⟩ := Option.map_eq_some_iff.mp ed
      refine ⟨ρ, ds, B, H0, V0, Z, he, r, fun a xs H' s hn ha hr => q _ H' Z ((r.mono s).set (rep_lst.mpr ⟨a, xs, rfl, SqL.of ?_, hr.mono (hide_anti fun b hb => List.mem_cons_of_mem _ hb)⟩))⟩
      rw [hide_out (r.newer hn)]
      exact ha
    · cases e
end
end L3
set_option Elab.async false
set_option linter.all false
set_option maxRecDepth 100000
set_option maxHeartbeats 4000000
namespace HT
open PySem PyProof.Rows
section
variable {prog : Program} {w : World} {A : Around} {E : Value → Shared → Prop} {s : Shared}
theorem getItem_tuple_all {t sl : Addr} {items : Array Value} {vl vu : Value} {lo hi : Option Int} {Q : Value → Shared → Prop} (ht : IsTup s.heap t items) (hs : s.heap.IsSliceOf sl vl vu .none) (pl : IsPart vl lo) (pu : IsPart vu hi)
    (hw : sIx items.size 0 lo = 0 ∧ sIx items.size items.size hi = items.size)
    (h : Q (.ref t) s)
    (hsz : items.size ≤ sizeLine) : wpAny (model prog w) A (getItem (.ref t) (.ref sl)) Q E s := by
  have hj : sIx items.size items.size hi ≤ items.size := sIx_le _ _ (Nat.le_refl _) hi
  obtain ⟨os, hos, hcs, hds⟩ := id hs
  have hTs : s.TypeIs (.ref sl) "slice" := ⟨os, hos, hcs⟩
  unfold getItem
  try with_reducible refine wpAny_holding ?_
  first | refine wpAny_bind (wpAny_pure ?_) | skip
  refine wpAny_bind (wpAny_sequenceKey ht.typeIs (by decide) ?_)
  refine wpAny_bind (wpAny_callSpecial?_slot (name := Str.ofString "__getitem__") ht.typeIs PyProof.Rows.slot_tuple_getitem
    (wpAny_call_entry PyProof.Rows.slot_tuple_getitem ht.typeIs entry_tuple_getitem ?_ (args_tuple_getitem _ _)))
  show wpAny _ _ (Builtin.Tuple.tupleItemsOf (.ref t) >>= _) _ _ s
  refine wpAny_bind (tupleItemsOf_ ht ?_)
  refine wpAny_bind (wpAny_typeOf hTs ?_)
  rw [if_pos (by decide)]
  refine wpAny_bind (sliceApplied_gen hs pl pu ?_)
  have hyes : (((sIx items.size 0 lo : Nat) : Int) == 0 && (1 : Int) == 1 && (sIx items.size items.size hi - sIx items.size 0 lo) == items.size) = true := by
    rw [hw.1, hw.2]
    simp
  show wpAny _ _ (if (((sIx items.size 0 lo : Nat) : Int) == 0 && (1 : Int) == 1 && (sIx items.size items.size hi - sIx items.size 0 lo) == items.size) = true then _ else _) _ _ s
  rw [if_pos hyes]
  refine wpAny_bind ?_
  unfold Builtin.Tuple.tupleIsExact
  refine wpAny_bind (wpAny_typeOf ht.typeIs (wpAny_pure ?_))
  rw [if_pos (by decide)]
  first
    | exact wpAny_bind (wpAny_rule (wpAny_pure ⟨_, rfl, wpAny_pure h⟩))
    | exact wpAny_rule (wpAny_pure ⟨_, rfl, wpAny_pure h⟩)
    | exact wpAny_bind (wpAny_rule (wpAny_bind (wpAny_pure (wpAny_pure ⟨_, rfl, wpAny_pure h⟩))))
end
end HT
namespace L3
open PySem PySem.Spec PyProof.Rows L2 PySem.SeqAt
section
variable {X : Cx} {a : Expr} {fa : DEnv → Option D} {pos : Pos}
def rSlW (K : PySem.W.Frag) : V → Option Int → Option Int → Hp → VK → Prop := fun x lo hi H Q => ∃ a xs, x = .ref a ∧ SqT K H a xs ∧
  (HT.sIx xs.length 0 lo = 0 ∧ HT.sIx xs.length xs.length hi = xs.length) ∧ Q (.ref a) H
theorem sl_all : SlR X (rSlW X.K) := by
  intro pins s σ H x v vl vu lo hi sl Q I rx hs pl pu h
  obtain ⟨a, xs, rfl, hx, hw, q⟩ := h
  cases rx
  obtain ⟨its, r, ht, hz⟩ := I.tuple hx
  have hlen : its.toArray.size = xs.length := by rw [List.size_toArray]; exact r.length.symm
  refine ⟨"tuple", _, PyProof.Rows.slot_tuple_getitem.lookup, ht.typeIs, ?_⟩
  exact HT.getItem_tuple_all ht hs pl pu (by rw [hlen]; exact hw) ⟨.ref a, H, I, rfl, q⟩ (by rw [hlen]; exact hz)
def dSlW (f : DEnv → Option D) (fl fh : DEnv → Option (Option Int)) : DEnv → Option D := fun ρ => match f ρ with
  | some (.tup ds) => (match fl ρ with | some lo => (match fh ρ with | some hi => if HT.sIx ds.length 0 lo = 0 ∧ HT.sIx ds.length ds.length hi = ds.length then some (.tup ds) else none | none => none) | none => none)
  | _ => none
theorem se_slW {lo hi : Option Expr} {p2 : Pos} {fl fh : DEnv → Option (Option Int)} (he : SE X a fa) (hl : SO X lo fl) (hh : SO X hi fh) : SE X (.Subscript a (.Slice lo hi none p2) pos) (dSlW fa fl fh) :=
  pe_weak (pe_slice sl_all he hl hh) fun σ H Q ⟨ρ, d, B, H0, V0, Z, e, r, q⟩ => by
    unfold dSlW at e
    split at e
    · rename_i ds ex
      split at e
      · rename_i l el
        split at e
        · rename_i h eh
          split at e
          · rename_i hw
            cases e
            refine ⟨ρ, _, B, H0, V0, Z, ex, r, fun u H1 s1 r1 => ⟨ρ, l, B, H0, V0, Z, el, r.mono s1, fun H2 s2 => ⟨ρ, h, B, H0, V0, Z, eh, (r.mono s1).mono s2, fun H3 s3 => ?_⟩⟩⟩
            have rx := r1.mono (hide_same (s2.trans s3))
            obtain ⟨p, xs, rfl, h1, h2⟩ := rep_tup.mp rx
            exact ⟨p, xs, rfl, sqt_same hide_sub h1, by rw [← h2.length]; exact hw, q _ H3 (s1.trans (s2.trans s3)) rx⟩
          · cases e
        · cases e
      · cases e
    · cases e
theorem se_sl2 {lo hi : Option Expr} {p2 : Pos} {fl fh : DEnv → Option (Option Int)} (he : SE X a fa) (hl : SO X lo fl) (hh : SO X hi fh) : SE X (.Subscript a (.Slice lo hi none p2) pos) (dOr2 (dSlc fa fl fh) (dSlW fa fl fh)) := se_or2 (se_sl he hl hh) (se_slW he hl hh)
end
end L3
set_option Elab.async false
set_option linter.all false
set_option maxRecDepth 100000
set_option maxHeartbeats 1000000
namespace L3
open PySem PySem.Spec PyProof.Rows L2 PySem.SeqAt
structure ZE (X : Cx) (e : Expr) (f : DEnv → Option D) : Prop where
  h : SE X e f
structure ZQ (X : Cx) (e : Expr) (f : DEnv → Option (List D)) : Prop where
  h : SQ X e f
structure ZF (X : Cx) (e : Expr) (f : DEnv → Option (List D)) : Prop where
  h : SF X e f
structure ZT (X : Cx) (e : Expr) (f : DEnv → Option Bool) : Prop where
  h : STt X e f
structure ZW (X : Cx) (e : Expr) (f : DEnv → Option Bool) : Prop where
  h : STw X e f
structure ZA (X : Cx) (e : List Expr) (f : DEnv → Option (List D)) : Prop where
  h : SA X e f
structure ZS (X : Cx) (e : Stmt) (f : DEnv → Option Out) : Prop where
  h : SS X e f
structure ZB (X : Cx) (e : List Stmt) (f : DEnv → Option Out) : Prop where
  h : SSs X e f
structure ZG (X : Cx) (e : Expr) (f : D → DEnv → Option DEnv) : Prop where
  h : SG X e f
structure ZGs (X : Cx) (e : List Expr) (f : List D → DEnv → Option DEnv) : Prop where
  h : SGs X e f
structure ZX (X : Cx) (e : Expr) (f : DEnv → Option (D × DEnv)) : Prop where
  h : SX X e f
structure ZL (X : Cx) (e : Expr) (f : DEnv → Option (List D)) : Prop where
  h : SL X e f
structure ZQL (X : Cx) (e : Expr) (f : DEnv → Option (List D)) : Prop where
  h : SQL X e f
structure ZO (X : Cx) (e : Option Expr) (f : DEnv → Option (Option Int)) : Prop where
  h : SO X e f
structure ZFD (X : Cx) (e : Expr) (f : DEnv → Option (List Key × List D)) : Prop where
  h : SFD X e f
structure ZI (X : Cx) (tg e : Expr) (f : DEnv → Option (List D)) : Prop where
  h : SI X tg e f
structure ZP (X : Cx) (ifs : List Expr) (f : DEnv → Option Bool) : Prop where
  h : PIfs X ifs (tT X.K f)
section
variable {X : Cx}
theorem zsv (i : Nat) {x : Str} {pos : Pos} (hN : X.N[i]? = some x := by rfl) (hv : Vis X.env.scope x := by first | exact Or.inl rfl | exact Or.inr (Or.inl rfl) | exact Or.inr (Or.inr rfl)) (hd : (x == ("__debug__" : Str)) = false := by decide) (hcd : (x == ("__classdict__" : Str)) = false := by decide) : ZE X (.Name x pos) (dVar i) :=
  ⟨sv (i := i) (hN := hN) (hv := hv) (hd := hd) (hcd := hcd)⟩
end
section
variable {X : Cx}
theorem zqv (i : Nat) {x : Str} {pos : Pos} (hN : X.N[i]? = some x := by rfl) (hv : Vis X.env.scope x := by first | exact Or.inl rfl | exact Or.inr (Or.inl rfl) | exact Or.inr (Or.inr rfl)) (hd : (x == ("__debug__" : Str)) = false := by decide) (hcd : (x == ("__classdict__" : Str)) = false := by decide) : ZQ X (.Name x pos) (dOwn i) :=
  ⟨qv (i := i) (hN := hN) (hv := hv) (hd := hd) (hcd := hcd)⟩
end
section
variable {X : Cx}
theorem zse_int {i j pos} : ZE X (.Constant (.int i) j pos) (dC (.int i)) :=
  ⟨se_int ⟩
end
section
variable {X : Cx}
theorem zse_bl {b j pos} : ZE X (.Constant (.bool b) j pos) (dC (.bl b)) :=
  ⟨se_bl ⟩
end
section
variable {X : Cx}
theorem zse_str {x j pos} : ZE X (.Constant (.str x) j pos) (dC (.str x)) :=
  ⟨se_str ⟩
end
section
variable {X : Cx} {e : Expr}
theorem zq_of {f : DEnv → Option D} (h : ZE X e f) : ZQ X e (dSq f) :=
  ⟨q_of (h := h.h)⟩
end
section
variable {X : Cx} {e : Expr}
theorem zf_se {f : DEnv → Option (List D)} (h : ZF X e f) : ZE X e (dLs f) :=
  ⟨f_se (h := h.h)⟩
end
section
variable {X : Cx} {e : Expr}
theorem zf_q {f : DEnv → Option (List D)} (h : ZF X e f) : ZQ X e f :=
  ⟨f_q (h := h.h)⟩
end
section
variable {X : Cx} {a b c : Expr} {fa fb fc : DEnv → Option D} {pos : Pos}
theorem zst_val {f : DEnv → Option D} (h : ZE X a f) (he : ∀ whole, isTrue a X.env whole = (do let v ← whole; standAt a.pos; holding [v] (truthy v)) := by intro _; rfl) : ZT X a (dTest f) :=
  ⟨st_val (h := h.h) (he := he)⟩
end
section
variable {X : Cx} {a b c : Expr} {fa fb fc : DEnv → Option D} {pos : Pos}
theorem zst_chain {op op' : CmpOp} {r r' : R2} {g g' : D → D → Option D} (ho : OpR X (compareOp op) r) (hr : RdOp X.K r g) (ho' : OpR X (compareOp op') r') (hr' : RdOp X.K r' g') (ha : ZE X a fa) (hb : ZE X b fb) (hc : ZE X c fc) (hm : lastMarks [op, op'] [b, c] = false := by with_unfolding_all rfl) : ZT X (.Compare a [op, op'] [b, c] pos) (dTest (dChain g g' fa fb fc)) :=
  ⟨st_chain (ho := ho) (hr := hr) (ho' := ho') (hr' := hr') (ha := ha.h) (hb := hb.h) (hc := hc.h) (hm := hm)⟩
end
section
variable {X : Cx} {a b c : Expr} {fa fb fc : DEnv → Option D} {pos : Pos}
variable {rest : List Expr}
variable {ga gb : DEnv → Option Bool}
theorem zsw_and1 (ha : ZT X a ga) : ZW X (.BoolOp .And [a] pos) ga :=
  ⟨sw_and1 (ha := ha.h)⟩
end
section
variable {X : Cx} {a b c : Expr} {fa fb fc : DEnv → Option D} {pos : Pos}
variable {rest : List Expr}
variable {ga gb : DEnv → Option Bool}
theorem zsw_or1 (ha : ZT X a ga) : ZW X (.BoolOp .Or [a] pos) ga :=
  ⟨sw_or1 (ha := ha.h)⟩
end
section
variable {X : Cx} {a b c : Expr} {fa fb fc : DEnv → Option D} {pos : Pos}
variable {rest : List Expr}
variable {ga gb : DEnv → Option Bool}
theorem zsw_and (ha : ZT X a ga) (hb : ZW X (.BoolOp .And (b :: rest) pos) gb) : ZW X (.BoolOp .And (a :: b :: rest) pos) (dAndT ga gb) :=
  ⟨sw_and (ha := ha.h) (hb := hb.h)⟩
end
section
variable {X : Cx} {a b c : Expr} {fa fb fc : DEnv → Option D} {pos : Pos}
variable {rest : List Expr}
variable {ga gb : DEnv → Option Bool}
theorem zsw_or (ha : ZT X a ga) (hb : ZW X (.BoolOp .Or (b :: rest) pos) gb) : ZW X (.BoolOp .Or (a :: b :: rest) pos) (dOrT ga gb) :=
  ⟨sw_or (ha := ha.h) (hb := hb.h)⟩
end
section
variable {X : Cx} {a b c : Expr} {fa fb fc : DEnv → Option D} {pos : Pos}
variable {rest : List Expr}
variable {ga gb : DEnv → Option Bool}
theorem zst_w (h : ZW X a ga) : ZT X a ga :=
  ⟨st_w (h := h.h)⟩
end
section
variable {X : Cx} {a b c : Expr} {fa fb fc : DEnv → Option D} {pos : Pos}
variable {rest : List Expr}
variable {ga gb : DEnv → Option Bool}
theorem zse_if (hc : ZT X c ga) (ha : ZE X a fa) (hb : ZE X b fb) : ZE X (.IfExp c a b pos) (dIf ga fa fb) :=
  ⟨se_if (hc := hc.h) (ha := ha.h) (hb := hb.h)⟩
end
section
variable {X : Cx} {e : Expr} {es : List Expr} {f : DEnv → Option D} {g : DEnv → Option (List D)} {pos : Pos}
theorem zsa_nil  : ZA X [] dNil :=
  ⟨sa_nil ⟩
end
section
variable {X : Cx} {e : Expr} {es : List Expr} {f : DEnv → Option D} {g : DEnv → Option (List D)} {pos : Pos}
theorem zsa_cons (ha : ZE X e f) (hr : ZA X es g) (hs : starEach (e :: es) X.env = (false, eval e X.env) :: starEach es X.env := by exact star_of rfl) : ZA X (e :: es) (dCons f g) :=
  ⟨sa_cons (ha := ha.h) (hr := hr.h) (hs := hs)⟩
end
section
variable {X : Cx} {e : Expr} {es : List Expr} {f : DEnv → Option D} {g : DEnv → Option (List D)} {pos : Pos}
theorem zse_tup {x1} (h : ZA X es g) : ZE X (.Tuple es x1 pos) (dTup g) :=
  ⟨se_tup (h := h.h)⟩
end
section
variable {X : Cx} {e : Expr} {es : List Expr} {f : DEnv → Option D} {g : DEnv → Option (List D)} {pos : Pos}
theorem zsf_lst (h : ZA X es g) : ZF X (.List es pos) (dLim g) :=
  ⟨sf_lst (h := h.h)⟩
end
section
variable {X : Cx} {st : Stmt} {rest : List Stmt} {e c : Expr} {pos : Pos} {f : DEnv → Option D} {g k : DEnv → Option Out}
theorem zss_nil  : ZB X [] dNext :=
  ⟨ss_nil ⟩
end
section
variable {X : Cx} {st : Stmt} {rest : List Stmt} {e c : Expr} {pos : Pos} {f : DEnv → Option D} {g k : DEnv → Option Out}
theorem zss_cons (h1 : ZS X st g) (h2 : ZB X rest k) : ZB X (st :: rest) (dSeq g k) :=
  ⟨ss_cons (h1 := h1.h) (h2 := h2.h)⟩
end
section
variable {X : Cx} {st : Stmt} {rest : List Stmt} {e c : Expr} {pos : Pos} {f : DEnv → Option D} {g k : DEnv → Option Out}
theorem zss_one (h1 : ZS X st g) : ZB X [st] g :=
  ⟨ss_one (h1 := h1.h)⟩
end
section
variable {X : Cx} {st : Stmt} {rest : List Stmt} {e c : Expr} {pos : Pos} {f : DEnv → Option D} {g k : DEnv → Option Out}
theorem zss_ret (h : ZE X e f) : ZS X (.Return (some e) pos) (dRet f) :=
  ⟨ss_ret (h := h.h)⟩
end
section
variable {X : Cx} {st : Stmt} {rest : List Stmt} {e c : Expr} {pos : Pos} {f : DEnv → Option D} {g k : DEnv → Option Out}
theorem zss_if {a b : List Stmt} {fc : DEnv → Option Bool} (hc : ZT X c fc) (ha : ZB X a g) (hb : ZB X b k) : ZS X (.If c a b pos) (dIfS fc g k) :=
  ⟨ss_if (hc := hc.h) (ha := ha.h) (hb := hb.h)⟩
end
section
variable {X : Cx} {st : Stmt} {rest : List Stmt} {e c : Expr} {pos : Pos} {f : DEnv → Option D} {g k : DEnv → Option Out}
theorem zss_set {i : Nat} {x : Str} {pos' : Pos} (he : ZE X e f) (hN : X.N.Nodup) (hi : X.N[i]? = some x := by rfl) (hx : Loc X.env.scope x := by first | exact Or.inl rfl | exact Or.inr rfl) (hs : swapsWith e (some (.Name x pos')) pos.line X.env = pure false := by rfl) (hf : X.fn x = true ∨ X.env.scope.names.lookup x = some .local := by first | exact .inl rfl | exact .inr rfl) : ZS X (.Assign [.Name x pos'] e pos) (dSet i f) :=
  ⟨ss_set (he := he.h) (hN := hN) (hi := hi) (hx := hx) (hs := hs) (hf := hf)⟩
end
section
variable {X : Cx} {st : Stmt} {rest : List Stmt} {e c : Expr} {pos : Pos} {f : DEnv → Option D} {g k : DEnv → Option Out}
theorem zss_setF {i : Nat} {x : Str} {pos' : Pos} {fl : DEnv → Option (List D)} (he : ZF X e fl) (hN : X.N.Nodup) (hi : X.N[i]? = some x := by rfl) (hx : Loc X.env.scope x := by first | exact Or.inl rfl | exact Or.inr rfl) (hs : swapsWith e (some (.Name x pos')) pos.line X.env = pure false := by rfl) (hf : X.fn x = true ∨ X.env.scope.names.lookup x = some .local := by first | exact .inl rfl | exact .inr rfl) : ZS X (.Assign [.Name x pos'] e pos) (dSetF i fl) :=
  ⟨ss_setF (he := he.h) (hN := hN) (hi := hi) (hx := hx) (hs := hs) (hf := hf)⟩
end
section
variable {X : Cx} {st : Stmt} {rest : List Stmt} {e c : Expr} {pos : Pos} {f : DEnv → Option D} {g k : DEnv → Option Out}
theorem zss_setD {i : Nat} {x : Str} {pos' : Pos} {fl : DEnv → Option (List Key × List D)} (he : ZFD X e fl) (hN : X.N.Nodup) (hi : X.N[i]? = some x := by rfl) (hx : Loc X.env.scope x := by first | exact Or.inl rfl | exact Or.inr rfl) (hs : swapsWith e (some (.Name x pos')) pos.line X.env = pure false := by rfl) (hf : X.fn x = true ∨ X.env.scope.names.lookup x = some .local := by first | exact .inl rfl | exact .inr rfl) : ZS X (.Assign [.Name x pos'] e pos) (dSetD i fl) :=
  ⟨ss_setD (he := he.h) (hN := hN) (hi := hi) (hx := hx) (hs := hs) (hf := hf)⟩
end
section
variable {X : Cx} {st : Stmt} {rest : List Stmt} {e c : Expr} {pos : Pos} {f : DEnv → Option D} {g k : DEnv → Option Out}
theorem zsg_name {i : Nat} {x : Str} (hN : X.N.Nodup) (hi : X.N[i]? = some x := by rfl) (hx : Loc X.env.scope x := by first | exact Or.inl rfl | exact Or.inr rfl) (hf : X.fn x = true ∨ X.env.scope.names.lookup x = some .local := by first | exact .inl rfl | exact .inr rfl) : ZG X (.Name x pos) (dName i) :=
  ⟨sg_name (hN := hN) (hi := hi) (hx := hx) (hf := hf)⟩
end
section
variable {X : Cx} {st : Stmt} {rest : List Stmt} {e c : Expr} {pos : Pos} {f : DEnv → Option D} {g k : DEnv → Option Out}
theorem zsgs_nil  : ZGs X [] dGNil :=
  ⟨sgs_nil ⟩
end
section
variable {X : Cx} {st : Stmt} {rest : List Stmt} {e c : Expr} {pos : Pos} {f : DEnv → Option D} {g k : DEnv → Option Out}
theorem zsgs_cons {es : List Expr} {h : D → DEnv → Option DEnv} {kk : List D → DEnv → Option DEnv} (h1 : ZG X e h) (h2 : ZGs X es kk) (hs : (assignEach (e :: es) X.env).map (·.2) = assign e X.env :: (assignEach es X.env).map (·.2) := by rfl) : ZGs X (e :: es) (dGCons h kk) :=
  ⟨sgs_cons (h1 := h1.h) (h2 := h2.h) (hs := hs)⟩
end
section
variable {X : Cx} {st : Stmt} {rest : List Stmt} {e c : Expr} {pos : Pos} {f : DEnv → Option D} {g k : DEnv → Option Out}
theorem zsg_tup {es : List Expr} {kt : Nat} {kk : List D → DEnv → Option DEnv} {n : Nat} (hc : X.calm = true) (h : ZGs X es kk) (hn : (assignEach es X.env).length = n := by rfl) (hst : (assignEach es X.env).findIdx? (·.1) = none := by rfl) : ZG X (.Tuple es kt pos) (dGTup n kk) :=
  ⟨sg_tup (hc := hc) (h := h.h) (hn := hn) (hst := hst)⟩
end
section
variable {X : Cx} {st : Stmt} {rest : List Stmt} {e c : Expr} {pos : Pos} {f : DEnv → Option D} {g k : DEnv → Option Out}
theorem zss_frz (i : Nat) (h : ZS X st g) : ZS X st (fun ρ => g (frz i ρ)) :=
  ⟨ss_frz (i := i) (h := h.h)⟩
end
section
variable {X : Cx} {st : Stmt} {rest : List Stmt} {e c : Expr} {pos : Pos} {f : DEnv → Option D} {g k : DEnv → Option Out}
theorem zss_for {tg iter : Expr} {body : List Stmt} {fi : DEnv → Option (List D)} {h : D → DEnv → Option DEnv} (hp : PassesOwn (model X.prog X.w) X.A X.env X.xe) (hc : X.calm = true) (hi : ZI X tg iter fi) (hg : ZG X tg h) (hb : ZB X body g) (hs : ∀ x, foldedSetIterable iter X.env x = pure x := by intro _; rfl) : ZS X (.For tg iter body [] pos) (dFor fi h g) :=
  ⟨ss_for (hp := hp) (hc := hc) (hi := hi.h) (hg := hg.h) (hb := hb.h) (hs := hs)⟩
end
section
variable {X : Cx} {st : Stmt} {rest : List Stmt} {e c : Expr} {pos : Pos} {f : DEnv → Option D} {g k : DEnv → Option Out}
variable {tg : Expr}
theorem zsi_rng1 {p : Pos} (hm : X.mg "range" = none) (h : ZE X e f) (hg : Gl X "range" := by rfl) (hs : starEach [e] X.env = [(false, eval e X.env)] := by rfl) : ZI X tg (.Call (.Name "range" p) [e] [] pos) (dRng1 f) :=
  ⟨si_rng1 (hm := hm) (h := h.h) (hg := hg) (hs := hs)⟩
end
section
variable {X : Cx} {st : Stmt} {rest : List Stmt} {e c : Expr} {pos : Pos} {f : DEnv → Option D} {g k : DEnv → Option Out}
variable {tg : Expr}
theorem zsi_rng2 {p : Pos} {e' : Expr} {f' : DEnv → Option D} (hm : X.mg "range" = none) (h : ZE X e f) (h' : ZE X e' f') (hg : Gl X "range" := by rfl) (hs : starEach [e, e'] X.env = [(false, eval e X.env), (false, eval e' X.env)] := by rfl) (hs2 : starEach [e'] X.env = [(false, eval e' X.env)] := by rfl) : ZI X tg (.Call (.Name "range" p) [e, e'] [] pos) (dRng2 f f') :=
  ⟨si_rng2 (hm := hm) (h := h.h) (h' := h'.h) (hg := hg) (hs := hs) (hs2 := hs2)⟩
end
section
variable {X : Cx} {a b c : Expr} {fa fb fc : DEnv → Option D} {pos : Pos}
theorem zse_sub (ha : ZE X a fa) (hb : ZE X b fb) : ZE X (.BinOp a .Sub b pos) (d2 dSubI fa fb) :=
  ⟨se_sub (ha := ha.h) (hb := hb.h)⟩
end
section
variable {X : Cx} {a b c : Expr} {fa fb fc : DEnv → Option D} {pos : Pos}
theorem zse_mod (ha : ZE X a fa) (hb : ZE X b fb) : ZE X (.BinOp a .Mod b pos) (d2 dModI fa fb) :=
  ⟨se_mod (ha := ha.h) (hb := hb.h)⟩
end
section
variable {X : Cx} {a b c : Expr} {fa fb fc : DEnv → Option D} {pos : Pos}
theorem zse_div (ha : ZE X a fa) (hb : ZE X b fb) : ZE X (.BinOp a .FloorDiv b pos) (d2 dDivI fa fb) :=
  ⟨se_div (ha := ha.h) (hb := hb.h)⟩
end
section
variable {X : Cx} {a b c : Expr} {fa fb fc : DEnv → Option D} {pos : Pos}
theorem zst_gtI (ha : ZE X a fa) (hb : ZE X b fb) : ZT X (.Compare a [.Gt] [b] pos) (dTest (d2 dGtI fa fb)) :=
  ⟨st_gtI (ha := ha.h) (hb := hb.h)⟩
end
section
variable {X : Cx}
variable {a b c : Expr} {fa fb fc : DEnv → Option D} {pos : Pos}
theorem zse_add (ha : ZE X a fa) (hb : ZE X b fb) : ZE X (.BinOp a .Add b pos) (d2 dAdd fa fb) :=
  ⟨se_add (ha := ha.h) (hb := hb.h)⟩
end
section
variable {X : Cx} {a b c : Expr} {fa fb fc : DEnv → Option D} {pos : Pos}
theorem zse_eq (hu : X.A.units + 64 < cLine) (ha : ZE X a fa) (hb : ZE X b fb) : ZE X (.Compare a [.Eq] [b] pos) (d2 dEq fa fb) :=
  ⟨se_eq (hu := hu) (ha := ha.h) (hb := hb.h)⟩
end
section
variable {X : Cx} {a b c : Expr} {fa fb fc : DEnv → Option D} {pos : Pos}
theorem zst_eq (hu : X.A.units + 64 < cLine) (ha : ZE X a fa) (hb : ZE X b fb) : ZT X (.Compare a [.Eq] [b] pos) (dTest (d2 dEq fa fb)) :=
  ⟨st_eq (hu := hu) (ha := ha.h) (hb := hb.h)⟩
end
section
variable {X : Cx} {a b c : Expr} {fa fb fc : DEnv → Option D} {pos : Pos}
theorem zst_ne (hu : X.A.units + 64 < cLine) (ha : ZE X a fa) (hb : ZE X b fb) : ZT X (.Compare a [.NotEq] [b] pos) (dTest (d2 dNe fa fb)) :=
  ⟨st_ne (hu := hu) (ha := ha.h) (hb := hb.h)⟩
end
section
variable {X : Cx} {a b c : Expr} {fa fb fc : DEnv → Option D} {pos : Pos}
theorem zst_in {fb : DEnv → Option (List D)} (hu : X.A.units + 64 < cLine) (ha : ZE X a fa) (hb : ZQ X b fb) (hm : behindInMarks .In b = false := by with_unfolding_all rfl) : ZT X (.Compare a [.In] [b] pos) (dTest (dIn false fa fb)) :=
  ⟨st_in (hu := hu) (ha := ha.h) (hb := hb.h) (hm := hm)⟩
end
section
variable {X : Cx} {a b c : Expr} {fa fb fc : DEnv → Option D} {pos : Pos}
theorem zst_nin {fb : DEnv → Option (List D)} (hu : X.A.units + 64 < cLine) (ha : ZE X a fa) (hb : ZQ X b fb) (hm : behindInMarks .NotIn b = false := by with_unfolding_all rfl) : ZT X (.Compare a [.NotIn] [b] pos) (dTest (dIn true fa fb)) :=
  ⟨st_nin (hu := hu) (ha := ha.h) (hb := hb.h) (hm := hm)⟩
end
section
variable {X : Cx} {a b c : Expr} {fa fb fc : DEnv → Option D} {pos : Pos}
theorem zse_ix {fa : DEnv → Option (List D)} (ha : ZQ X a fa) (hb : ZE X b fb) (hs : PlainIx b := by exact fun _ _ => rfl) : ZE X (.Subscript a b pos) (dIx fa fb) :=
  ⟨se_ix (ha := ha.h) (hb := hb.h) (hs := hs)⟩
end
section
variable {X : Cx} {a b c : Expr} {fa fb fc : DEnv → Option D} {pos : Pos}
theorem zso_none  : ZO X none dNoP :=
  ⟨so_none ⟩
end
section
variable {X : Cx} {a b c : Expr} {fa fb fc : DEnv → Option D} {pos : Pos}
theorem zso_some {f : DEnv → Option D} (h : ZE X a f) : ZO X (some a) (dPart f) :=
  ⟨so_some (h := h.h)⟩
end
section
variable {X : Cx} {a b c : Expr} {fa fb fc : DEnv → Option D} {pos : Pos}
theorem zse_sl {lo hi : Option Expr} {p2 : Pos} {fl fh : DEnv → Option (Option Int)} (he : ZE X a fa) (hl : ZO X lo fl) (hh : ZO X hi fh) : ZE X (.Subscript a (.Slice lo hi none p2) pos) (dSlc fa fl fh) :=
  ⟨se_sl (he := he.h) (hl := hl.h) (hh := hh.h)⟩
end
section
variable {X : Cx} {a b c : Expr} {fa fb fc : DEnv → Option D} {pos : Pos}
theorem zse_len {p : Pos} {f : DEnv → Option (List D)} (hm : X.mg "len" = none) (h : ZQ X a f) (hg : Gl X "len" := by rfl) (he : starEach [a] X.env = (false, eval a X.env) :: starEach [] X.env := by exact star_of rfl) (hpl : (backTo pos (starEach [] X.env)).any (·.1) = false := by exact back_of rfl) : ZE X (.Call (.Name "len" p) [a] [] pos) (dLen f) :=
  ⟨se_len (hm := hm) (h := h.h) (hg := hg) (he := he) (hpl := hpl)⟩
end
section
variable {X : Cx} {a b c : Expr} {fa fb fc : DEnv → Option D} {pos : Pos}
theorem zse_tuple {p : Pos} {f : DEnv → Option (List D)} (hm : X.mg "tuple" = none) (h : ZQ X a f) (hg : Gl X "tuple" := by rfl) (he : starEach [a] X.env = (false, eval a X.env) :: starEach [] X.env := by exact star_of rfl) (hpl : (backTo pos (starEach [] X.env)).any (·.1) = false := by exact back_of rfl) (hv : bootBuiltins "tuple" = some (.type "tuple") := by decide +kernel) : ZE X (.Call (.Name "tuple" p) [a] [] pos) (dTupF f) :=
  ⟨se_tuple (hm := hm) (h := h.h) (hg := hg) (he := he) (hpl := hpl) (hv := hv)⟩
end
section
variable {X : Cx} {p pos : Pos} {e : Expr} {f : DEnv → Option (List D)}
theorem zsf_sorted (hm : X.mg "sorted" = none) (h : ZQ X e f) (hg : Gl X "sorted" := by rfl) (hv : bootBuiltins "sorted" = some (.builtin "sorted") := by decide +kernel) (he : starEach [e] X.env = (false, eval e X.env) :: starEach [] X.env := by exact star_of rfl) (hpl : (backTo pos (starEach [] X.env)).any (·.1) = false := by exact back_of rfl) : ZF X (.Call (.Name "sorted" p) [e] [] pos) (dQF sortD f) :=
  ⟨sf_sorted (hm := hm) (h := h.h) (hg := hg) (hv := hv) (he := he) (hpl := hpl)⟩
end
section
variable {X : Cx} {p pos : Pos} {e : Expr} {f : DEnv → Option (List D)}
theorem zsf_list (hm : X.mg "list" = none) (h : ZQ X e f) (hg : Gl X "list" := by rfl) (hv : bootBuiltins "list" = some (.type "list") := by decide +kernel) (he : starEach [e] X.env = (false, eval e X.env) :: starEach [] X.env := by exact star_of rfl) (hpl : (backTo pos (starEach [] X.env)).any (·.1) = false := by exact back_of rfl) : ZF X (.Call (.Name "list" p) [e] [] pos) (dQF some f) :=
  ⟨sf_list (hm := hm) (h := h.h) (hg := hg) (hv := hv) (he := he) (hpl := hpl)⟩
end
section
variable {X : Cx} {p p2 pos pos2 : Pos} {a b e : Expr} {f : DEnv → Option (List D)} {fa fb : DEnv → Option D}
theorem zsf_listRng (hc : X.calm = true) (hm : X.mg "list" = none) (hm2 : X.mg "range" = none) (h : ZE X a fa) (hg : Gl X "list" := by rfl) (hg2 : Gl X "range" := by rfl) (hv : bootBuiltins "list" = some (.type "list") := by decide +kernel) (hv2 : bootBuiltins "range" = some (.type "range") := by decide +kernel) (he : starEach [a] X.env = (false, eval a X.env) :: starEach [] X.env := by exact star_of rfl) (hpl : (backTo pos2 (starEach [] X.env)).any (·.1) = false := by exact back_of rfl) (he2 : starEach [.Call (.Name "range" p2) [a] [] pos2] X.env = (false, eval (.Call (.Name "range" p2) [a] [] pos2) X.env) :: starEach [] X.env := by exact star_of rfl) (hpl2 : (backTo pos (starEach [] X.env)).any (·.1) = false := by exact back_of rfl) : ZF X (.Call (.Name "list" p) [.Call (.Name "range" p2) [a] [] pos2] [] pos) (dListRng fa) :=
  ⟨sf_listRng (hc := hc) (hm := hm) (hm2 := hm2) (h := h.h) (hg := hg) (hg2 := hg2) (hv := hv) (hv2 := hv2) (he := he) (hpl := hpl) (he2 := he2) (hpl2 := hpl2)⟩
end
section
variable {X : Cx} {p p2 pos pos2 : Pos} {a b e : Expr} {f : DEnv → Option (List D)} {fa fb : DEnv → Option D}
theorem zse_min2 (hc : X.calm = true) (hm : X.mg "min" = none) (ha : ZE X a fa) (hb : ZE X b fb) (hg : Gl X "min" := by rfl) (hv : bootBuiltins "min" = some (.builtin "min") := by decide +kernel) (he : starEach [a, b] X.env = (false, eval a X.env) :: starEach [b] X.env := by exact star_of rfl) (he2 : starEach [b] X.env = (false, eval b X.env) :: starEach [] X.env := by exact star_of rfl) (hpl : (backTo pos (starEach [b] X.env)).any (·.1) = false := by exact back_of rfl) : ZE X (.Call (.Name "min" p) [a, b] [] pos) (dCall fMin (dCons fa (dCons fb dNil))) :=
  ⟨se_min2 (hc := hc) (hm := hm) (ha := ha.h) (hb := hb.h) (hg := hg) (hv := hv) (he := he) (he2 := he2) (hpl := hpl)⟩
end
section
variable {X : Cx} {p p2 pos pos2 : Pos} {a b e : Expr} {f : DEnv → Option (List D)} {fa fb : DEnv → Option D}
theorem zse_max2 (hc : X.calm = true) (hm : X.mg "max" = none) (ha : ZE X a fa) (hb : ZE X b fb) (hg : Gl X "max" := by rfl) (hv : bootBuiltins "max" = some (.builtin "max") := by decide +kernel) (he : starEach [a, b] X.env = (false, eval a X.env) :: starEach [b] X.env := by exact star_of rfl) (he2 : starEach [b] X.env = (false, eval b X.env) :: starEach [] X.env := by exact star_of rfl) (hpl : (backTo pos (starEach [b] X.env)).any (·.1) = false := by exact back_of rfl) : ZE X (.Call (.Name "max" p) [a, b] [] pos) (dCall fMax (dCons fa (dCons fb dNil))) :=
  ⟨se_max2 (hc := hc) (hm := hm) (ha := ha.h) (hb := hb.h) (hg := hg) (hv := hv) (he := he) (he2 := he2) (hpl := hpl)⟩
end
section
variable {X : Cx} {p p2 pos pos2 : Pos} {a b e : Expr} {f : DEnv → Option (List D)} {fa fb : DEnv → Option D}
theorem zse_toint (hm : X.mg "int" = none) (ha : ZE X a fa) (hg : Gl X "int" := by rfl) (hv : bootBuiltins "int" = some (.type "int") := by decide +kernel) (he : starEach [a] X.env = (false, eval a X.env) :: starEach [] X.env := by exact star_of rfl) (hpl : (backTo pos (starEach [] X.env)).any (·.1) = false := by exact back_of rfl) : ZE X (.Call (.Name "int" p) [a] [] pos) (dCall fInt (dCons fa dNil)) :=
  ⟨se_toint (hm := hm) (ha := ha.h) (hg := hg) (hv := hv) (he := he) (hpl := hpl)⟩
end
section
variable {X : Cx} {p p2 pos pos2 : Pos} {a b e : Expr} {f : DEnv → Option (List D)} {fa fb : DEnv → Option D}
theorem zss_app {i : Nat} {x : Str} {p1 p2 p3 : Pos} (h : ZE X a fa) (hN : X.N[i]? = some x := by rfl) (hv : Vis X.env.scope x := by first | exact Or.inl rfl | exact Or.inr (Or.inl rfl) | exact Or.inr (Or.inr rfl)) (hd : (x == ("__debug__" : Str)) = false := by decide) (hcd : (x == ("__classdict__" : Str)) = false := by decide) (hbase : attributeBase (.Name x p1) "append" X.env (eval (.Name x p1) X.env) = eval (.Name x p1) X.env := by rfl) (hfew : ((backTo p3 (starEach [a] X.env)).all (fun x => !x.1) && (backToKw p3 (keywordEach [] X.env)).all (fun x => x.1.isSome)
      && decide (([a] : List Expr).length + ([] : List Keyword).length + (if ([] : List Keyword).isEmpty then 0 else 1) < 30)) = true := by rfl) (hline : (p2.endLine == p3.line) = true := by rfl) (hs : starEach [a] X.env = (false, eval a X.env) :: starEach [] X.env := by exact star_of rfl) (hplain : (backTo p3 (starEach [] X.env)).any (·.1) = false := by exact back_of rfl) (hsw : swapsWith (.Call (.Attribute (.Name x p1) "append" p2) [a] [] p3) none pos.line X.env = pure false := by rfl) : ZS X (.Expr (.Call (.Attribute (.Name x p1) "append" p2) [a] [] p3) pos) (dApp i fa) :=
  ⟨ss_app (h := h.h) (hN := hN) (hv := hv) (hd := hd) (hcd := hcd) (hbase := hbase) (hfew := hfew) (hline := hline) (hs := hs) (hplain := hplain) (hsw := hsw)⟩
end
section
variable {X : Cx} {p p2 pos pos2 : Pos} {a b e : Expr} {f : DEnv → Option (List D)} {fa fb : DEnv → Option D}
theorem zss_ext {i : Nat} {x : Str} {p1 p2 p3 : Pos} (h : ZF X a f) (hN : X.N[i]? = some x := by rfl) (hv : Vis X.env.scope x := by first | exact Or.inl rfl | exact Or.inr (Or.inl rfl) | exact Or.inr (Or.inr rfl)) (hd : (x == ("__debug__" : Str)) = false := by decide) (hcd : (x == ("__classdict__" : Str)) = false := by decide) (hbase : attributeBase (.Name x p1) "extend" X.env (eval (.Name x p1) X.env) = eval (.Name x p1) X.env := by rfl) (hfew : ((backTo p3 (starEach [a] X.env)).all (fun x => !x.1) && (backToKw p3 (keywordEach [] X.env)).all (fun x => x.1.isSome)
      && decide (([a] : List Expr).length + ([] : List Keyword).length + (if ([] : List Keyword).isEmpty then 0 else 1) < 30)) = true := by rfl) (hline : (p2.endLine == p3.line) = true := by rfl) (hs : starEach [a] X.env = (false, eval a X.env) :: starEach [] X.env := by exact star_of rfl) (hplain : (backTo p3 (starEach [] X.env)).any (·.1) = false := by exact back_of rfl) (hsw : swapsWith (.Call (.Attribute (.Name x p1) "extend" p2) [a] [] p3) none pos.line X.env = pure false := by rfl) : ZS X (.Expr (.Call (.Attribute (.Name x p1) "extend" p2) [a] [] p3) pos) (dExt i f) :=
  ⟨ss_ext (h := h.h) (hN := hN) (hv := hv) (hd := hd) (hcd := hcd) (hbase := hbase) (hfew := hfew) (hline := hline) (hs := hs) (hplain := hplain) (hsw := hsw)⟩
end
section
variable {X : Cx}
variable {a b : Expr} {fa fb : DEnv → Option D} {pos : Pos}
theorem zse_mul (ha : ZE X a fa) (hb : ZE X b fb) : ZE X (.BinOp a .Mult b pos) (d2 dMul fa fb) :=
  ⟨se_mul (ha := ha.h) (hb := hb.h)⟩
end
section
variable {X : Cx} {pos : Pos}
theorem zsf_compB {elt target iter : Expr} {ifs : List Expr} {scope : Scope} {fi : DEnv → Option (List D)} {h : D → DEnv → Option DEnv} {ft : DEnv → Option Bool} {fe : DEnv → Option D} (N : List Str) (cap : List (Option Nat)) (hc : X.calm = true) (hi : ZI X target iter fi) (hg : ∀ cl C fp s H, ZG (compCx X N scope cl C fp s H) target h) (ht : ∀ cl C fp s H, ZP (compCx X N scope cl C fp s H) ifs ft) (he : ∀ cl C fp s H, ZE (compCx X N scope cl C fp s H) elt fe) (hok : compOk scope X.env.scope N cap X.N = true := by rfl) (hs : ∀ x, foldedSetIterable iter X.env x = pure x := by intro _; rfl) : ZF X (.ListComp elt [⟨target, iter, ifs, 0⟩] scope pos) (dComp cap fi h ft fe) :=
  ⟨sf_compB (N := N) (cap := cap) (hc := hc) (hi := hi.h) (hg := fun cl C fp s H => (hg cl C fp s H).h) (ht := fun cl C fp s H => (ht cl C fp s H).h) (he := fun cl C fp s H => (he cl C fp s H).h) (hok := hok) (hs := hs)⟩
end
section
variable {X : Cx} {pos : Pos}
theorem zpifs0  : ZP X [] dTrue :=
  ⟨pifs0 ⟩
end
section
variable {X : Cx} {pos : Pos}
theorem zpifs1 {c : Expr} {f : DEnv → Option Bool} (h : ZT X c f) : ZP X [c] f :=
  ⟨pifs1 (h := h.h)⟩
end
section
variable {X : Cx} {pos : Pos}
theorem zql_f {e : Expr} {f : DEnv → Option (List D)} (h : ZF X e f) : ZQL X e f :=
  ⟨ql_f (h := h.h)⟩
end
section
variable {X : Cx} {pos : Pos}
theorem zql_of {e : Expr} {f : DEnv → Option D} (h : ZE X e f) : ZQL X e (dLstOf f) :=
  ⟨ql_of (h := h.h)⟩
end
section
theorem zse_fn {X : Cx} {j k : Nat} {ps : List Str} {F : List D → Option D} {x : Str} {p pos : Pos} {e : Expr} {es : List Expr} {g : DEnv → Option (List D)} (G : FnD X.prog X.w X.K X.mg X.base j x ps F) (hr : Room k X.A) (ha : ZA X (e :: es) g) (hjk : j ≤ k := by decide) (hg : Gl X x := by rfl) (hdb : (x == ("__debug__" : Str)) = false := by decide) (he : starEach (e :: es) X.env = (false, eval e X.env) :: starEach es X.env := by exact star_of rfl) (hpl : (backTo pos (starEach es X.env)).any (·.1) = false := by exact back_of rfl) : ZE X (.Call (.Name x p) (e :: es) [] pos) (dCall F g) :=
  ⟨se_fn (G := G) (hr := hr) (ha := ha.h) (hjk := hjk) (hg := hg) (hdb := hdb) (he := he) (hpl := hpl)⟩
end
section
variable {X : Cx} {pos : Pos}
theorem zsl_compX {elt target iter : Expr} {scope : Scope} {fi : DEnv → Option (List D)} {h : D → DEnv → Option DEnv} {fe : DEnv → Option (D × DEnv)} (N : List Str) (cap : List (Option Nat)) (hc : X.calm = true) (hi : ZI X target iter fi) (hg : ∀ cl C fp s H, ZG (compCx X N scope cl C fp s H) target h) (he : ∀ cl C fp s H, ZX (compCx X N scope cl C fp s H) elt fe) (hok : compOk scope X.env.scope N cap X.N = true := by rfl) (hs : ∀ x, foldedSetIterable iter X.env x = pure x := by intro _; rfl) : ZL X (.ListComp elt [⟨target, iter, [], 0⟩] scope pos) (dCompX cap fi h fe) :=
  ⟨sl_compX (N := N) (cap := cap) (hc := hc) (hi := hi.h) (hg := fun cl C fp s H => (hg cl C fp s H).h) (he := fun cl C fp s H => (he cl C fp s H).h) (hok := hok) (hs := hs)⟩
end
section
variable {X : Cx} {pos : Pos}
theorem zss_ret_tupL {a : Expr} {p pos2 : Pos} {f : DEnv → Option (List D)} (hm : X.mg "tuple" = none) (h : ZL X a f) (hg : Gl X "tuple" := by rfl) (he : starEach [a] X.env = (false, eval a X.env) :: starEach [] X.env := by exact star_of rfl) (hpl : (backTo pos2 (starEach [] X.env)).any (·.1) = false := by exact back_of rfl) (hv : bootBuiltins "tuple" = some (.type "tuple") := by decide +kernel) : ZS X (.Return (some (.Call (.Name "tuple" p) [a] [] pos2)) pos) (dRet (dTupF f)) :=
  ⟨ss_ret_tupL (hm := hm) (h := h.h) (hg := hg) (he := he) (hpl := hpl) (hv := hv)⟩
end
section
variable {X : Cx} {pos p p2 pos2 : Pos} {a b c e tg : Expr} {fa fb fc f : DEnv → Option D}
theorem zsi_seq (h : ZE X e f) : ZI X tg e (dSq f) :=
  ⟨si_seq (h := h.h)⟩
end
section
variable {X : Cx} {pos p p2 pos2 : Pos} {a b c e tg : Expr} {fa fb fc f : DEnv → Option D}
theorem zst_lt (hu : X.A.units < cLine) (ha : ZE X a fa) (hb : ZE X b fb) : ZT X (.Compare a [.Lt] [b] pos) (dTest (d2 dLt fa fb)) :=
  ⟨st_lt (hu := hu) (ha := ha.h) (hb := hb.h)⟩
end
section
variable {X : Cx} {pos p p2 pos2 : Pos} {a b c e tg : Expr} {fa fb fc f : DEnv → Option D}
theorem zse_popAt {i : Nat} {x : Str} {p1 p2 p3 : Pos} (h : ZE X a fa) (hN : X.N[i]? = some x := by rfl) (hv : Vis X.env.scope x := by first | exact Or.inl rfl | exact Or.inr (Or.inl rfl) | exact Or.inr (Or.inr rfl)) (hd : (x == ("__debug__" : Str)) = false := by decide) (hcd : (x == ("__classdict__" : Str)) = false := by decide) (hbase : attributeBase (.Name x p1) "pop" X.env (eval (.Name x p1) X.env) = eval (.Name x p1) X.env := by rfl) (hfew : ((backTo p3 (starEach [a] X.env)).all (fun x => !x.1) && (backToKw p3 (keywordEach [] X.env)).all (fun x => x.1.isSome)
      && decide (([a] : List Expr).length + ([] : List Keyword).length + (if ([] : List Keyword).isEmpty then 0 else 1) < 30)) = true := by rfl) (hline : (p2.endLine == p3.line) = true := by rfl) (hs : starEach [a] X.env = (false, eval a X.env) :: starEach [] X.env := by exact star_of rfl) (hplain : (backTo p3 (starEach [] X.env)).any (·.1) = false := by exact back_of rfl) : ZX X (.Call (.Attribute (.Name x p1) "pop" p2) [a] [] p3) (dPop i fa) :=
  ⟨se_popAt (h := h.h) (hN := hN) (hv := hv) (hd := hd) (hcd := hcd) (hbase := hbase) (hfew := hfew) (hline := hline) (hs := hs) (hplain := hplain)⟩
end
section
theorem zfn_d {P : Program} {w : World} {K : PySem.W.Frag} {mg : Str → Option Value} {base : Heap} {x : Str} {st : Stmt} {N ps : List Str} {k n : Nat} {g : DEnv → Option Out} (G : Stands K mg x st) (S : FnScope N ps (defScope st)) (hb : ∀ (kV doc pm : Value) (an : Option Addr) (cdv ct : Value) (us : List Value), us.length = ps.length → bindArgs (PySem.W.fnOf x x (defArgs st) (defBody st) (defScope st) .none kV doc pm an cdv ct) ⟨us, []⟩ = pure (ps.zip us)) (hn : ps.length = n) (hbody : ∀ (f : Addr) (cdv : Value) (A : Around) (outer : List Env) (s : Shared) (H : Hp) (E : XK), Room k (A.deeper (envOfC x (defScope st) s.heap.objs.size f cdv)) →
      ZB (cxOf CX0 P w K mg base N x (defScope st) f cdv A outer s H E).nox (defBody st) g) : FnD P w K mg base (k + 1) x ps (dFn n N g) :=
  fn_d (G := G) (S := S) (hb := hb) (hn := hn) (hbody := fun f cdv A outer s H E hr => (hbody f cdv A outer s H E hr).h)
end
section
variable {X : Cx} {elts : List Expr} {x1 : Nat} {tpos pos p : Pos} {a : Expr} {f : DEnv → Option D}
theorem zsi_enum (hm : X.mg "enumerate" = none) (h : ZE X a f) (hg : Gl X "enumerate" := by rfl) (hv : bootBuiltins "enumerate" = some (.type "enumerate") := by decide +kernel) (he : starEach [a] X.env = (false, eval a X.env) :: starEach [] X.env := by exact star_of rfl) (hpl : (backTo pos (starEach [] X.env)).any (·.1) = false := by exact back_of rfl) : ZI X (.Tuple elts x1 tpos) (.Call (.Name "enumerate" p) [a] [] pos) (dEnum f) :=
  ⟨si_enum (hm := hm) (h := h.h) (hg := hg) (hv := hv) (he := he) (hpl := hpl)⟩
end
section
variable {X : Cx} {a b e o : Expr} {pos pos' p : Pos} {f fa fb : DEnv → Option D}
theorem zsfd_new  : ZFD X (.Dict [] [] pos) (fun _ => some ([], [])) :=
  ⟨sfd_new ⟩
end
section
variable {X : Cx} {a b e o : Expr} {pos pos' p : Pos} {f fa fb : DEnv → Option D}
theorem zse_dget (hu : X.A.units + 64 < cLine) (ho : ZE X o fa) (hi : ZE X a fb) (hs : NoSl a := by exact fun _ _ => rfl) : ZE X (.Subscript o a pos) (dDGet fa fb) :=
  ⟨se_dget (hu := hu) (ho := ho.h) (hi := hi.h) (hs := hs)⟩
end
section
variable {X : Cx} {a b e o : Expr} {pos pos' p : Pos} {f fa fb : DEnv → Option D}
theorem zss_put {i : Nat} {x : Str} (hu : X.A.units + 64 < cLine) (hi : ZE X a fb) (hv' : ZE X b fa) (hN : X.N[i]? = some x := by rfl) (hv : Vis X.env.scope x := by first | exact Or.inl rfl | exact Or.inr (Or.inl rfl) | exact Or.inr (Or.inr rfl)) (hd : (x == ("__debug__" : Str)) = false := by decide) (hcd : (x == ("__classdict__" : Str)) = false := by decide) (hs : swapsWith b (some (.Subscript (.Name x p) a pos')) pos.line X.env = pure false := by rfl) : ZS X (.Assign [.Subscript (.Name x p) a pos'] b pos) (dPut i fb fa) :=
  ⟨ss_put (hu := hu) (hi := hi.h) (hv' := hv'.h) (hN := hN) (hv := hv) (hd := hd) (hcd := hcd) (hs := hs)⟩
end
section
variable {X : Cx} {a b : Expr} {fa fb : DEnv → Option D} {p pos : Pos}
theorem zse_maxB (hc : X.calm = true) (hu : X.A.units + 64 < cLine) (hm : X.mg "max" = none) (ha : ZE X a fa) (hb : ZE X b fb) (hg : Gl X "max" := by rfl) (hv : bootBuiltins "max" = some (.builtin "max") := by decide +kernel) (he : starEach [a, b] X.env = (false, eval a X.env) :: starEach [b] X.env := by exact star_of rfl) (he2 : starEach [b] X.env = (false, eval b X.env) :: starEach [] X.env := by exact star_of rfl) (hpl : (backTo pos (starEach [b] X.env)).any (·.1) = false := by exact back_of rfl) : ZE X (.Call (.Name "max" p) [a, b] [] pos) (dCall fMax2 (dCons fa (dCons fb dNil))) :=
  ⟨se_maxB (hc := hc) (hu := hu) (hm := hm) (ha := ha.h) (hb := hb.h) (hg := hg) (hv := hv) (he := he) (he2 := he2) (hpl := hpl)⟩
end
section
variable {X : Cx} {a b : Expr} {fa fb : DEnv → Option D} {p pos : Pos}
theorem zse_minB (hc : X.calm = true) (hu : X.A.units + 64 < cLine) (hm : X.mg "min" = none) (ha : ZE X a fa) (hb : ZE X b fb) (hg : Gl X "min" := by rfl) (hv : bootBuiltins "min" = some (.builtin "min") := by decide +kernel) (he : starEach [a, b] X.env = (false, eval a X.env) :: starEach [b] X.env := by exact star_of rfl) (he2 : starEach [b] X.env = (false, eval b X.env) :: starEach [] X.env := by exact star_of rfl) (hpl : (backTo pos (starEach [b] X.env)).any (·.1) = false := by exact back_of rfl) : ZE X (.Call (.Name "min" p) [a, b] [] pos) (dCall fMin2 (dCons fa (dCons fb dNil))) :=
  ⟨se_minB (hc := hc) (hu := hu) (hm := hm) (ha := ha.h) (hb := hb.h) (hg := hg) (hv := hv) (he := he) (he2 := he2) (hpl := hpl)⟩
end
section
variable {X : Cx} {a b : Expr} {fa fb : DEnv → Option D} {p pos apos : Pos}
theorem zse_index (hu : X.A.units + 64 < cLine) (ha : ZE X a fa) (hb : ZE X b fb) (hbase : attributeBase a "index" X.env (eval a X.env) = eval a X.env := by rfl) (hfew : ((backTo pos (starEach [b] X.env)).all (fun x => !x.1) && (backToKw pos (keywordEach [] X.env)).all (fun x => x.1.isSome)
      && decide (([b] : List Expr).length + ([] : List Keyword).length + (if ([] : List Keyword).isEmpty then 0 else 1) < 30)) = true := by rfl) (hline : (apos.endLine == pos.line) = true := by rfl) (hs : starEach [b] X.env = (false, eval b X.env) :: starEach [] X.env := by exact star_of rfl) (hplain : (backTo pos (starEach [] X.env)).any (·.1) = false := by exact back_of rfl) : ZE X (.Call (.Attribute a "index" apos) [b] [] pos) (dIndex fa fb) :=
  ⟨se_index (hu := hu) (ha := ha.h) (hb := hb.h) (hbase := hbase) (hfew := hfew) (hline := hline) (hs := hs) (hplain := hplain)⟩
end
section
variable {X : Cx} {a b : Expr} {fa fb : DEnv → Option D} {p pos apos : Pos}
theorem zse_minL {f : DEnv → Option (List D)} (hc : X.calm = true) (hm : X.mg "min" = none) (h : ZQL X a f) (hg : Gl X "min" := by rfl) (hv : bootBuiltins "min" = some (.builtin "min") := by decide +kernel) (he : starEach [a] X.env = (false, eval a X.env) :: starEach [] X.env := by exact star_of rfl) (hpl : (backTo pos (starEach [] X.env)).any (·.1) = false := by exact back_of rfl) : ZE X (.Call (.Name "min" p) [a] [] pos) (dMinL f) :=
  ⟨se_minL (hc := hc) (hm := hm) (h := h.h) (hg := hg) (hv := hv) (he := he) (hpl := hpl)⟩
end
section
variable {X : Cx} {a b : Expr} {fa fb : DEnv → Option D} {p pos apos : Pos}
theorem zse_maxL {f : DEnv → Option (List D)} (hc : X.calm = true) (hm : X.mg "max" = none) (h : ZQL X a f) (hg : Gl X "max" := by rfl) (hv : bootBuiltins "max" = some (.builtin "max") := by decide +kernel) (he : starEach [a] X.env = (false, eval a X.env) :: starEach [] X.env := by exact star_of rfl) (hpl : (backTo pos (starEach [] X.env)).any (·.1) = false := by exact back_of rfl) : ZE X (.Call (.Name "max" p) [a] [] pos) (dMaxL f) :=
  ⟨se_maxL (hc := hc) (hm := hm) (h := h.h) (hg := hg) (hv := hv) (he := he) (hpl := hpl)⟩
end
section
variable {X : Cx} {a b : Expr} {fa fb : DEnv → Option D} {p pos apos : Pos}
theorem zst_list {f : DEnv → Option (List D)} (h : ZQL X a f) (he : ∀ whole, isTrue a X.env whole = (do let v ← whole; standAt a.pos; holding [v] (truthy v)) := by intro _; rfl) : ZT X a (dTruL f) :=
  ⟨st_list (h := h.h) (he := he)⟩
end
section
variable {X : Cx} {p pos : Pos} {e : Expr} {f : DEnv → Option (List D)}
theorem zsf_sorted2 (hm : X.mg "sorted" = none) (h : ZQ X e f) (hg : Gl X "sorted" := by rfl) (hv : bootBuiltins "sorted" = some (.builtin "sorted") := by decide +kernel) (he : starEach [e] X.env = (false, eval e X.env) :: starEach [] X.env := by exact star_of rfl) (hpl : (backTo pos (starEach [] X.env)).any (·.1) = false := by exact back_of rfl) : ZF X (.Call (.Name "sorted" p) [e] [] pos) (dQF sortD2 f) :=
  ⟨sf_sorted2 (hm := hm) (h := h.h) (hg := hg) (hv := hv) (he := he) (hpl := hpl)⟩
end
section
variable {X : Cx} {i : Expr} {p pos : Pos} {f : DEnv → Option D}
theorem zse_gtab {x : Str} {a : Addr} {kvs : List (Str × Str)} (hm : X.mg x = some (.ref a)) (ht : KTab X.K X.w a kvs) (hi : ZE X i f) (hg : Gl X x := by rfl) (hd : (x == ("__debug__" : Str)) = false := by decide) (hs : NoSl i := by exact fun _ _ => rfl) : ZE X (.Subscript (.Name x p) i pos) (dGTab kvs f) :=
  ⟨se_gtab (hm := hm) (ht := ht) (hi := hi.h) (hg := hg) (hd := hd) (hs := hs)⟩
end
section
variable {X : Cx}
theorem zss_compS {i : Nat} {y : Str} {py spos pos : Pos} {elt target iter : Expr} {ifs : List Expr} {scope : Scope} {fi : DEnv → Option (List D)} {h : D → DEnv → Option DEnv} {ft : DEnv → Option Bool} {fe : DEnv → Option D} (N : List Str) (cap : List (Option Nat)) (hc : X.calm = true) (hi : ZI X target iter fi) (hg : ∀ cl C fp s H, ZG (compCx X N scope cl C fp s H) target h) (ht : ∀ cl C fp s H, ZP (compCx X N scope cl C fp s H) ifs ft) (he : ∀ cl C fp s H, ZE (compCx X N scope cl C fp s H) elt fe) (hN : X.N.Nodup) (hiy : X.N[i]? = some y := by rfl) (hy : Loc X.env.scope y := by first | exact Or.inl rfl | exact Or.inr rfl) (hf : X.fn y = true ∨ X.env.scope.names.lookup y = some .local := by first | exact .inl rfl | exact .inr rfl) (hsw : swapsWith (.ListComp elt [⟨target, iter, ifs, 0⟩] scope pos) (some (.Name y py)) spos.line X.env = pure true := by rfl) (hok : compOk scope X.env.scope N cap X.N = true := by rfl) (hs : ∀ x, foldedSetIterable iter X.env x = pure x := by intro _; rfl) : ZS X (.Assign [.Name y py] (.ListComp elt [⟨target, iter, ifs, 0⟩] scope pos) spos) (dSet i (dLs (dComp cap fi h ft fe))) :=
  ⟨ss_compS (N := N) (cap := cap) (hc := hc) (hi := hi.h) (hg := fun cl C fp s H => (hg cl C fp s H).h) (ht := fun cl C fp s H => (ht cl C fp s H).h) (he := fun cl C fp s H => (he cl C fp s H).h) (hN := hN) (hiy := hiy) (hy := hy) (hf := hf) (hsw := hsw) (hok := hok) (hs := hs)⟩
end
section
variable {X : Cx} {a : Expr} {fa : DEnv → Option D} {pos : Pos}
theorem zse_sl2 {lo hi : Option Expr} {p2 : Pos} {fl fh : DEnv → Option (Option Int)} (he : ZE X a fa) (hl : ZO X lo fl) (hh : ZO X hi fh) : ZE X (.Subscript a (.Slice lo hi none p2) pos) (dOr2 (dSlc fa fl fh) (dSlW fa fl fh)) :=
  ⟨se_sl2 (he := he.h) (hl := hl.h) (hh := hh.h)⟩
end
end L3
set_option Elab.async false
set_option linter.all false
set_option maxRecDepth 100000
set_option maxHeartbeats 1000000
namespace P
open PySem L2 L3
def top (i : Nat) : Stmt := PySem.Challenge.pw_pageties_k03_whole_pairs.main.body.getD i (.Pass ⟨0, 0, 0, 0⟩)
abbrev s_law_mix : Stmt := top 13
abbrev s_law_web : Stmt := top 14
abbrev s_law_row : Stmt := top 15
abbrev s_law_how : Stmt := top 16
abbrev s_spots_of : Stmt := top 4
abbrev s_rising_pair : Stmt := top 1
abbrev s_span_of : Stmt := top 5
abbrev s_spans_of : Stmt := top 6
abbrev s_how_spans_lie : Stmt := top 7
abbrev s_how : Stmt := top 9
abbrev s_law_ways : Stmt := top 18
abbrev s_do_spans_clash : Stmt := top 8
abbrev s_clashes : Stmt := top 10
abbrev s_law_clashes : Stmt := top 17
abbrev s_law : Stmt := top 19
def N_law_mix : List Str := ["_law_cell_here", "_law_prime", "_law_many"]
def g_law_mix : DEnv → Option Out :=
  dRet (d2 dModI (d2 dModI (d2 dMul (dVar 0) (dC (.int 48271))) (dVar 1)) (dVar 2))
def F_law_mix : List D → Option D := dFn 3 N_law_mix g_law_mix
def N_law_web : List Str := ["_law_cell_here", "_law_most", "_law_ties", "_law_many", "_law_found", "_law_k", "_law_one", "_law_other", "_law_tie"]
def g_law_web : DEnv → Option Out :=
  dSeq (dSet 3 (d2 dAdd (dC (.int 1)) (dCall F_law_mix (dCons (dVar 0) (dCons (dC (.int 9973)) (dCons (dVar 1) (dNil)))))))
  (dSeq (dIfS (dAndT (dTest (d2 dLt (dVar 3) (dC (.int 4)))) (dTest (d2 dGtI (d2 dModI (dVar 0) (dC (.int 4))) (dC (.int 0)))))
  (dSet 3 (dVar 1))
  (dNext))
  (dSeq (dSetF 4 (dLim (dNil)))
  (dSeq (dFor (dRng1 (dCall F_law_mix (dCons (dVar 0) (dCons (dC (.int 9967)) (dCons (d2 dAdd (dVar 2) (dC (.int 1))) (dNil)))))) (dName 5)
  (dSeq (dSet 6 (dCall F_law_mix (dCons (d2 dAdd (dVar 0) (d2 dMul (dC (.int 11)) (dVar 5))) (dCons (dC (.int 9949)) (dCons (dVar 3) (dNil))))))
  (dSeq (dSet 7 (dCall F_law_mix (dCons (d2 dAdd (d2 dAdd (dVar 0) (d2 dMul (dC (.int 13)) (dVar 5))) (dC (.int 1))) (dCons (dC (.int 9941)) (dCons (dVar 3) (dNil))))))
  (dSeq (dSet 8 (dTup (dCons (dCall fMin (dCons (dVar 6) (dCons (dVar 7) dNil))) (dCons (dCall fMax (dCons (dVar 6) (dCons (dVar 7) dNil))) (dNil)))))
  (dIfS (dAndT (dTest (d2 dNe (dVar 6) (dVar 7))) (dTest (dIn true (dVar 8) (dOwn 4))))
  (dApp 4 (dVar 8))
  (dNext))))))
  (dRet (dTup (dCons (dVar 3) (dCons (dTupF (dQF sortD (dOwn 4))) (dNil))))))))
def F_law_web : List D → Option D := dFn 3 N_law_web g_law_web
def N_law_row : List Str := ["_law_cell_here", "_law_many", "_law_left"]
def g_law_row : DEnv → Option Out :=
  dSeq (dSetF 2 (dListRng (dVar 1)))
  (dRet (dTupF (dCompX [none, some 2, some 0, some 1] (dRng1 (dVar 1)) (dName 0) (dPop 1 (dCall F_law_mix (dCons (d2 dAdd (dVar 2) (d2 dMul (dC (.int 5)) (dVar 0))) (dCons (dC (.int 9931)) (dCons (d2 dSubI (dVar 3) (dVar 0)) (dNil)))))))))
def F_law_row : List D → Option D := dFn 2 N_law_row g_law_row
def N_law_how : List Str := ["_law_web_here", "_law_row_here", "_law_one", "_law_other", "_law_first", "_law_second", "_law_between"]
def g_law_how : DEnv → Option Out :=
  dSeq (dSet 4 (dLs (dComp [none, some 1] (dSq (dIx (dSq (dIx (dSq (dVar 0)) (dC (.int 1)))) (dVar 2))) (dName 0) (dTrue) (dIndex (dVar 1) (dVar 0)))))
  (dSeq (dSet 5 (dLs (dComp [none, some 1] (dSq (dIx (dSq (dIx (dSq (dVar 0)) (dC (.int 1)))) (dVar 3))) (dName 0) (dTrue) (dIndex (dVar 1) (dVar 0)))))
  (dSeq (dIfS (dTruL (dComp [none, some 5] (dSq (dVar 4)) (dName 0) (dTest (dIn false (dVar 0) (dSq (dVar 1)))) (dVar 0)))
  (dRet (dC (.str "meet")))
  (dNext))
  (dSeq (dSet 6 (dLs (dComp [none, some 4] (dSq (dVar 5)) (dName 0) (dTest (dChain dLtI dLtI (dMinL (dLstOf (dVar 1))) (dVar 0) (dMaxL (dLstOf (dVar 1))))) (dVar 0))))
  (dSeq (dIfS (dTest (d2 dEq (dLen (dSq (dVar 6))) (dC (.int 1))))
  (dRet (dC (.str "cross")))
  (dNext))
  (dSeq (dIfS (dOrT (dTest (d2 dEq (dLen (dSq (dVar 6))) (dC (.int 2)))) (dTest (dChain dLtI dLtI (dMinL (dLstOf (dVar 5))) (dMinL (dLstOf (dVar 4))) (dMaxL (dLstOf (dVar 5))))))
  (dRet (dC (.str "within")))
  (dNext))
  (dRet (dC (.str "apart"))))))))
def F_law_how : List D → Option D := dFn 4 N_law_how g_law_how
def N_spots_of : List Str := ["row", "spots", "spot", "place"]
def g_spots_of : DEnv → Option Out :=
  dSeq (dSetD 1 (fun _ => some ([], [])))
  (dSeq (dFor (dEnum (dVar 0)) (dGTup 2 (dGCons (dName 2) (dGCons (dName 3) (dGNil))))
  (dPut 1 (dVar 3) (dVar 2)))
  (fun ρ => dRet (dVar 1) (frz 1 ρ)))
def F_spots_of : List D → Option D := dFn 1 N_spots_of g_spots_of
def N_rising_pair : List Str := ["one", "other"]
def g_rising_pair : DEnv → Option Out :=
  dRet (dTup (dCons (dCall fMin (dCons (dVar 0) (dCons (dVar 1) dNil))) (dCons (dCall fMax (dCons (dVar 0) (dCons (dVar 1) dNil))) (dNil))))
def F_rising_pair : List D → Option D := dFn 2 N_rising_pair g_rising_pair
def N_span_of : List Str := ["spots", "tie"]
def g_span_of : DEnv → Option Out :=
  dRet (dCall F_rising_pair (dCons (dDGet (dVar 0) (dIx (dSq (dVar 1)) (dC (.int 0)))) (dCons (dDGet (dVar 0) (dIx (dSq (dVar 1)) (dC (.int 1)))) (dNil))))
def F_span_of : List D → Option D := dFn 2 N_span_of g_span_of
def N_spans_of : List Str := ["web", "row", "spots"]
def g_spans_of : DEnv → Option Out :=
  dSeq (dSet 2 (dCall F_spots_of (dCons (dVar 1) (dNil))))
  (dRet (dLs (dComp [none, some 2] (dSq (dIx (dSq (dVar 0)) (dC (.int 1)))) (dName 0) (dTrue) (dCall F_span_of (dCons (dVar 1) (dCons (dVar 0) (dNil)))))))
def F_spans_of : List D → Option D := dFn 2 N_spans_of g_spans_of
def N_how_spans_lie : List Str := ["one", "other", "first", "second"]
def g_how_spans_lie : DEnv → Option Out :=
  dSeq (dIfS (dOrT (dTest (dIn false (dIx (dSq (dVar 0)) (dC (.int 0))) (dSq (dVar 1)))) (dTest (dIn false (dIx (dSq (dVar 0)) (dC (.int 1))) (dSq (dVar 1)))))
  (dRet (dC (.str "meet")))
  (dNext))
  (dSeq (dSet 2 (dCall fMin2 (dCons (dVar 0) (dCons (dVar 1) dNil))))
  (dSeq (dSet 3 (dCall fMax2 (dCons (dVar 0) (dCons (dVar 1) dNil))))
  (dSeq (dIfS (dTest (d2 dLt (dIx (dSq (dVar 2)) (dC (.int 1))) (dIx (dSq (dVar 3)) (dC (.int 0)))))
  (dRet (dC (.str "apart")))
  (dNext))
  (dRet (dIf (dTest (d2 dLt (dIx (dSq (dVar 2)) (dC (.int 1))) (dIx (dSq (dVar 3)) (dC (.int 1))))) (dC (.str "cross")) (dC (.str "within")))))))
def F_how_spans_lie : List D → Option D := dFn 2 N_how_spans_lie g_how_spans_lie
def N_how : List Str := ["web", "row", "one", "other", "spans"]
def g_how : DEnv → Option Out :=
  dSeq (dSet 4 (dCall F_spans_of (dCons (dVar 0) (dCons (dVar 1) (dNil)))))
  (dRet (dCall F_how_spans_lie (dCons (dIx (dSq (dVar 4)) (dVar 2)) (dCons (dIx (dSq (dVar 4)) (dVar 3)) (dNil)))))
def F_how : List D → Option D := dFn 4 N_how g_how
def N_law_ways : List Str := ["_law_web_here", "_law_one", "_law_other", "_law_four", "_law_rest", "_law_found", "_law_first", "_law_second", "_law_third", "_law_last"]
def g_law_ways : DEnv → Option Out :=
  dSeq (dSet 3 (dLs (dQF some (dSq (d2 dAdd (dIx (dSq (dIx (dSq (dVar 0)) (dC (.int 1)))) (dVar 1)) (dIx (dSq (dIx (dSq (dVar 0)) (dC (.int 1)))) (dVar 2)))))))
  (dSeq (dSet 4 (dTupF (dComp [none, some 3] (dRng1 (dIx (dSq (dVar 0)) (dC (.int 0)))) (dName 0) (dTest (dIn true (dVar 0) (dSq (dVar 1)))) (dVar 0))))
  (dSeq (dSetF 5 (dLim (dNil)))
  (dSeq (dSet 6 (dIx (dSq (dVar 3)) (dC (.int 0))))
  (dSeq (dFor (dSq (dSlc (dVar 3) (dPart (dC (.int 1))) (dNoP))) (dName 7)
  (dFor (dSq (dSlc (dVar 3) (dPart (dC (.int 1))) (dNoP))) (dName 8)
  (dSeq (dSet 9 (dLs (dComp [none, some 7, some 8] (dSq (dSlc (dVar 3) (dPart (dC (.int 1))) (dNoP))) (dName 0) (dTest (dIn true (dVar 0) (dSq (dTup (dCons (dVar 1) (dCons (dVar 2) (dNil))))))) (dVar 0))))
  (dIfS (dTest (d2 dNe (dVar 7) (dVar 8)))
  (dApp 5 (dCall F_how (dCons (dVar 0) (dCons (d2 dAdd (d2 dAdd (d2 dAdd (dOr2 (dSlc (dVar 4) (dNoP) (dPart (dC (.int 1)))) (dSlW (dVar 4) (dNoP) (dPart (dC (.int 1))))) (dTup (dCons (dVar 6) (dCons (dVar 7) (dCons (dVar 8) (dNil)))))) (dTupF (dSq (dVar 9)))) (dOr2 (dSlc (dVar 4) (dPart (dC (.int 1))) (dNoP)) (dSlW (dVar 4) (dPart (dC (.int 1))) (dNoP)))) (dCons (dVar 1) (dCons (dVar 2) (dNil)))))))
  (dNext)))))
  (dRet (dLs (dQF sortD2 (dOwn 5))))))))
def F_law_ways : List D → Option D := dFn 3 N_law_ways g_law_ways
def N_do_spans_clash : List Str := ["one", "other", "kind"]
def g_do_spans_clash : DEnv → Option Out :=
  dRet (d2 dEq (dCall F_how_spans_lie (dCons (dVar 0) (dCons (dVar 1) (dNil)))) (dGTab [("pile", "cross"), ("queue", "within")] (dVar 2)))
def F_do_spans_clash : List D → Option D := dFn 3 N_do_spans_clash g_do_spans_clash
def N_clashes : List Str := ["web", "row", "kind", "spans", "found", "one", "span", "later"]
def g_clashes : DEnv → Option Out :=
  dSeq (dSet 3 (dCall F_spans_of (dCons (dVar 0) (dCons (dVar 1) (dNil)))))
  (dSeq (dSetF 4 (dLim (dNil)))
  (dSeq (dFor (dEnum (dVar 3)) (dGTup 2 (dGCons (dName 5) (dGCons (dName 6) (dGNil))))
  (dSeq (dSet 7 (dLs (dComp [none, some 6, some 3, some 2] (dRng2 (d2 dAdd (dVar 5) (dC (.int 1))) (dLen (dSq (dVar 3)))) (dName 0) (dTest (dCall F_do_spans_clash (dCons (dVar 1) (dCons (dIx (dSq (dVar 2)) (dVar 0)) (dCons (dVar 3) (dNil)))))) (dVar 0))))
  (dExt 4 (dComp [none, some 5] (dSq (dVar 7)) (dName 0) (dTrue) (dTup (dCons (dVar 1) (dCons (dVar 0) (dNil))))))))
  (dRet (dTupF (dOwn 4)))))
def F_clashes : List D → Option D := dFn 3 N_clashes g_clashes
def N_law_clashes : List Str := ["_law_web_here", "_law_row_here", "_law_kind", "_law_word", "_law_found", "_law_other"]
def g_law_clashes : DEnv → Option Out :=
  dSeq (dSet 3 (dIx (dLim (dCons (dC (.str "cross")) (dCons (dC (.str "within")) (dNil)))) (dCall fInt (dCons (d2 dEq (dVar 2) (dC (.str "queue"))) dNil))))
  (dSeq (dSetF 4 (dLim (dNil)))
  (dSeq (dFor (dRng1 (dLen (dSq (dIx (dSq (dVar 0)) (dC (.int 1)))))) (dName 5)
  (dExt 4 (dComp [none, some 5, some 0, some 1, some 3] (dRng1 (dVar 5)) (dName 0) (dTest (d2 dEq (dCall F_law_how (dCons (dVar 2) (dCons (dVar 3) (dCons (dVar 0) (dCons (dVar 1) (dNil)))))) (dVar 4))) (dTup (dCons (dVar 0) (dCons (dVar 1) (dNil)))))))
  (dRet (dLs (dQF sortD (dOwn 4))))))
def F_law_clashes : List D → Option D := dFn 3 N_law_clashes g_law_clashes
def N_law : List Str := ["_law_script", "_law_cell_here", "_law_web_here", "_law_row_here", "_law_one", "_law_other", "_law_due", "_law_two", "_law_kind"]
def g_law : DEnv → Option Out :=
  dSeq (dFor (dSq (dSlc (dVar 0) (dNoP) (dPart (dC (.int 4))))) (dName 1)
  (dSeq (dSet 2 (dCall F_law_web (dCons (dVar 1) (dCons (dC (.int 6)) (dCons (dC (.int 12)) (dNil))))))
  (dSeq (dSet 3 (dCall F_law_row (dCons (d2 dDivI (dVar 1) (dC (.int 3))) (dCons (dIx (dSq (dVar 2)) (dC (.int 0))) (dNil)))))
  (dSeq (dFor (dRng1 (dLen (dSq (dIx (dSq (dVar 2)) (dC (.int 1)))))) (dName 4)
  (dFor (dRng1 (dVar 4)) (dName 5)
  (dSeq (dSet 6 (dCall F_law_how (dCons (dVar 2) (dCons (dVar 3) (dCons (dVar 4) (dCons (dVar 5) (dNil)))))))
  (dSeq (dIfS (dOrT (dTest (d2 dNe (dCall F_how (dCons (dVar 2) (dCons (dVar 3) (dCons (dVar 4) (dCons (dVar 5) (dNil)))))) (dVar 6))) (dTest (d2 dNe (dCall F_how (dCons (dVar 2) (dCons (dVar 3) (dCons (dVar 5) (dCons (dVar 4) (dNil)))))) (dVar 6))))
  (dRet (dC (.bl false)))
  (dNext))
  (dSeq (dSet 7 (dLs (dLim (dCons (dC (.str "apart")) (dCons (dC (.str "apart")) (dCons (dC (.str "cross")) (dCons (dC (.str "cross")) (dCons (dC (.str "within")) (dCons (dC (.str "within")) (dNil))))))))))
  (dIfS (dAndT (dTest (d2 dNe (dVar 6) (dC (.str "meet")))) (dTest (d2 dNe (dCall F_law_ways (dCons (dVar 2) (dCons (dVar 4) (dCons (dVar 5) (dNil))))) (dVar 7))))
  (dRet (dC (.bl false)))
  (dNext)))))))
  (dFor (dSq (dTup (dCons (dC (.str "pile")) (dCons (dC (.str "queue")) (dNil))))) (dName 8)
  (dIfS (dTest (d2 dNe (dCall F_clashes (dCons (dVar 2) (dCons (dVar 3) (dCons (dVar 8) (dNil))))) (dTupF (dSq (dCall F_law_clashes (dCons (dVar 2) (dCons (dVar 3) (dCons (dVar 8) (dNil)))))))))
  (dRet (dC (.bl false)))
  (dNext)))))))
  (dRet (dC (.bl true)))
def F_law : List D → Option D := dFn 1 N_law g_law
structure Top (K : PySem.W.Frag) (w : World) (mg : Str → Option Value) : Prop where
  d_law_mix : Stands K mg "_law_mix" s_law_mix
  d_law_web : Stands K mg "_law_web" s_law_web
  d_law_row : Stands K mg "_law_row" s_law_row
  d_law_how : Stands K mg "_law_how" s_law_how
  d_spots_of : Stands K mg "spots_of" s_spots_of
  d_rising_pair : Stands K mg "rising_pair" s_rising_pair
  d_span_of : Stands K mg "span_of" s_span_of
  d_spans_of : Stands K mg "spans_of" s_spans_of
  d_how_spans_lie : Stands K mg "how_spans_lie" s_how_spans_lie
  d_how : Stands K mg "how" s_how
  d_law_ways : Stands K mg "_law_ways" s_law_ways
  d_do_spans_clash : Stands K mg "do_spans_clash" s_do_spans_clash
  d_clashes : Stands K mg "clashes" s_clashes
  d_law_clashes : Stands K mg "_law_clashes" s_law_clashes
  d_law : Stands K mg "law" s_law
  b_enumerate : mg "enumerate" = none
  b_int : mg "int" = none
  b_len : mg "len" = none
  b_list : mg "list" = none
  b_max : mg "max" = none
  b_min : mg "min" = none
  b_range : mg "range" = none
  b_sorted : mg "sorted" = none
  b_tuple : mg "tuple" = none
  x_CLASHING : ∃ a, mg "CLASHING" = some (.ref a) ∧ KTab K w a [("pile", "cross"), ("queue", "within")]
section
variable {P : Program} {w : World} {K : PySem.W.Frag} {mg : Str → Option Value} {base : Heap}
theorem sc_law_mix : FnScope N_law_mix ["_law_cell_here", "_law_prime", "_law_many"] (defScope s_law_mix) := ⟨rfl, rfl, rfl, by decide +kernel, rfl, by decide +kernel, by decide +kernel⟩
theorem b_law_mix (T : Top K w mg) (f : Addr) (cdv : Value) (A : Around) (outer : List Env) (s : Shared) (H : Hp) (E : XK) (hr : Room 0 (A.deeper (PyProof.Rows.envOfC "_law_mix" (defScope s_law_mix) s.heap.objs.size f cdv))) :
    ZB (cxOf CX0 P w K mg base N_law_mix "_law_mix" (defScope s_law_mix) f cdv A outer s H E).nox (defBody s_law_mix) g_law_mix := by
  have hu := hr.units
  have hu0 := hr.units0
  exact zss_one (zss_ret (zse_mod (zse_mod (zse_mul (zsv 0) (zse_int)) (zsv 1)) (zsv 2)))
theorem ok_law_mix (T : Top K w mg) : FnD P w K mg base 1 "_law_mix" ["_law_cell_here", "_law_prime", "_law_many"] F_law_mix :=
  zfn_d T.d_law_mix sc_law_mix (fun _ _ _ _ _ _ us hl => match us, hl with | [_, _, _], _ => rfl) rfl (b_law_mix T)
theorem sc_law_web : FnScope N_law_web ["_law_cell_here", "_law_most", "_law_ties"] (defScope s_law_web) := ⟨rfl, rfl, rfl, by decide +kernel, rfl, by decide +kernel, by decide +kernel⟩
theorem b_law_web (T : Top K w mg) (f : Addr) (cdv : Value) (A : Around) (outer : List Env) (s : Shared) (H : Hp) (E : XK) (hr : Room 1 (A.deeper (PyProof.Rows.envOfC "_law_web" (defScope s_law_web) s.heap.objs.size f cdv))) :
    ZB (cxOf CX0 P w K mg base N_law_web "_law_web" (defScope s_law_web) f cdv A outer s H E).nox (defBody s_law_web) g_law_web := by
  have hu := hr.units
  have hu0 := hr.units0
  exact zss_cons (zss_set (i := 3) (zse_add (zse_int) (zse_fn (ok_law_mix T) hr (zsa_cons (zsv 0) (zsa_cons (zse_int) (zsa_cons (zsv 1) (zsa_nil)))))) sc_law_web.nd)
      (zss_cons (zss_if (zst_w (zsw_and (zst_lt hu0 (zsv 3) (zse_int)) (zsw_and1 (zst_gtI (zse_mod (zsv 0) (zse_int)) (zse_int)))))
      (zss_one (zss_set (i := 3) (zsv 1) sc_law_web.nd))
      (zss_nil))
      (zss_cons (zss_setF (i := 4) (zsf_lst (zsa_nil)) sc_law_web.nd)
      (zss_cons (zss_for PassesOwn.never rfl (zsi_rng1 T.b_range (zse_fn (ok_law_mix T) hr (zsa_cons (zsv 0) (zsa_cons (zse_int) (zsa_cons (zse_add (zsv 2) (zse_int)) (zsa_nil)))))) (zsg_name (i := 5) sc_law_web.nd)
      (zss_cons (zss_set (i := 6) (zse_fn (ok_law_mix T) hr (zsa_cons (zse_add (zsv 0) (zse_mul (zse_int) (zsv 5))) (zsa_cons (zse_int) (zsa_cons (zsv 3) (zsa_nil))))) sc_law_web.nd)
      (zss_cons (zss_set (i := 7) (zse_fn (ok_law_mix T) hr (zsa_cons (zse_add (zse_add (zsv 0) (zse_mul (zse_int) (zsv 5))) (zse_int)) (zsa_cons (zse_int) (zsa_cons (zsv 3) (zsa_nil))))) sc_law_web.nd)
      (zss_cons (zss_set (i := 8) (zse_tup (zsa_cons (zse_min2 rfl T.b_min (zsv 6) (zsv 7)) (zsa_cons (zse_max2 rfl T.b_max (zsv 6) (zsv 7)) (zsa_nil)))) sc_law_web.nd)
      (zss_one (zss_if (zst_w (zsw_and (zst_ne hu (zsv 6) (zsv 7)) (zsw_and1 (zst_nin hu (zsv 8) (zqv 4)))))
      (zss_one (zss_app (i := 4) (zsv 8)))
      (zss_nil)))))))
      (zss_one (zss_ret (zse_tup (zsa_cons (zsv 3) (zsa_cons (zse_tuple T.b_tuple (zf_q (zsf_sorted T.b_sorted (zqv 4)))) (zsa_nil)))))))))
theorem ok_law_web (T : Top K w mg) : FnD P w K mg base 2 "_law_web" ["_law_cell_here", "_law_most", "_law_ties"] F_law_web :=
  zfn_d T.d_law_web sc_law_web (fun _ _ _ _ _ _ us hl => match us, hl with | [_, _, _], _ => rfl) rfl (b_law_web T)
theorem sc_law_row : FnScope N_law_row ["_law_cell_here", "_law_many"] (defScope s_law_row) := ⟨rfl, rfl, rfl, by decide +kernel, rfl, by decide +kernel, by decide +kernel⟩
theorem b_law_row (T : Top K w mg) (f : Addr) (cdv : Value) (A : Around) (outer : List Env) (s : Shared) (H : Hp) (E : XK) (hr : Room 1 (A.deeper (PyProof.Rows.envOfC "_law_row" (defScope s_law_row) s.heap.objs.size f cdv))) :
    ZB (cxOf CX0 P w K mg base N_law_row "_law_row" (defScope s_law_row) f cdv A outer s H E).nox (defBody s_law_row) g_law_row := by
  have hu := hr.units
  have hu0 := hr.units0
  exact zss_cons (zss_setF (i := 2) (zsf_listRng rfl T.b_list T.b_range (zsv 1)) sc_law_row.nd)
      (zss_one (zss_ret_tupL T.b_tuple (zsl_compX ["_law_k", "_law_left", "_law_cell_here", "_law_many"] [none, some 2, some 0, some 1] rfl (zsi_rng1 T.b_range (zsv 1)) (fun _ _ _ _ _ => zsg_name (i := 0) (show List.Nodup (["_law_k", "_law_left", "_law_cell_here", "_law_many"] : List Str) by decide +kernel)) (fun _ _ _ _ _ => zse_popAt (i := 1) (zse_fn (ok_law_mix T) hr (zsa_cons (zse_add (zsv 2) (zse_mul (zse_int) (zsv 0))) (zsa_cons (zse_int) (zsa_cons (zse_sub (zsv 3) (zsv 0)) (zsa_nil)))))))))
theorem ok_law_row (T : Top K w mg) : FnD P w K mg base 2 "_law_row" ["_law_cell_here", "_law_many"] F_law_row :=
  zfn_d T.d_law_row sc_law_row (fun _ _ _ _ _ _ us hl => match us, hl with | [_, _], _ => rfl) rfl (b_law_row T)
theorem sc_law_how : FnScope N_law_how ["_law_web_here", "_law_row_here", "_law_one", "_law_other"] (defScope s_law_how) := ⟨rfl, rfl, rfl, by decide +kernel, rfl, by decide +kernel, by decide +kernel⟩
theorem b_law_how (T : Top K w mg) (f : Addr) (cdv : Value) (A : Around) (outer : List Env) (s : Shared) (H : Hp) (E : XK) (hr : Room 0 (A.deeper (PyProof.Rows.envOfC "_law_how" (defScope s_law_how) s.heap.objs.size f cdv))) :
    ZB (cxOf CX0 P w K mg base N_law_how "_law_how" (defScope s_law_how) f cdv A outer s H E).nox (defBody s_law_how) g_law_how := by
  have hu := hr.units
  have hu0 := hr.units0
  exact zss_cons (zss_set (i := 4) (zf_se (zsf_compB ["_law_place", "_law_row_here"] [none, some 1] rfl (zsi_seq (zse_ix (zq_of (zse_ix (zq_of (zsv 0)) (zse_int))) (zsv 2))) (fun _ _ _ _ _ => zsg_name (i := 0) (show List.Nodup (["_law_place", "_law_row_here"] : List Str) by decide +kernel)) (fun _ _ _ _ _ => zpifs0) (fun _ _ _ _ _ => zse_index hu (zsv 1) (zsv 0)))) sc_law_how.nd)
      (zss_cons (zss_set (i := 5) (zf_se (zsf_compB ["_law_place", "_law_row_here"] [none, some 1] rfl (zsi_seq (zse_ix (zq_of (zse_ix (zq_of (zsv 0)) (zse_int))) (zsv 3))) (fun _ _ _ _ _ => zsg_name (i := 0) (show List.Nodup (["_law_place", "_law_row_here"] : List Str) by decide +kernel)) (fun _ _ _ _ _ => zpifs0) (fun _ _ _ _ _ => zse_index hu (zsv 1) (zsv 0)))) sc_law_how.nd)
      (zss_cons (zss_if (zst_list (zql_f (zsf_compB ["_law_spot", "_law_second"] [none, some 5] rfl (zsi_seq (zsv 4)) (fun _ _ _ _ _ => zsg_name (i := 0) (show List.Nodup (["_law_spot", "_law_second"] : List Str) by decide +kernel)) (fun _ _ _ _ _ => zpifs1 (zst_in hu (zsv 0) (zq_of (zsv 1)))) (fun _ _ _ _ _ => zsv 0))))
      (zss_one (zss_ret (zse_str)))
      (zss_nil))
      (zss_cons (zss_compS (i := 6) ["_law_spot", "_law_first"] [none, some 4] rfl (zsi_seq (zsv 5)) (fun _ _ _ _ _ => zsg_name (i := 0) (show List.Nodup (["_law_spot", "_law_first"] : List Str) by decide +kernel)) (fun _ _ _ _ _ => zpifs1 (zst_chain op_lt rd_bl0 op_lt rd_bl0 (zse_minL rfl T.b_min (zql_of (zsv 1))) (zsv 0) (zse_maxL rfl T.b_max (zql_of (zsv 1))))) (fun _ _ _ _ _ => zsv 0) sc_law_how.nd)
      (zss_cons (zss_if (zst_eq hu (zse_len T.b_len (zq_of (zsv 6))) (zse_int))
      (zss_one (zss_ret (zse_str)))
      (zss_nil))
      (zss_cons (zss_if (zst_w (zsw_or (zst_eq hu (zse_len T.b_len (zq_of (zsv 6))) (zse_int)) (zsw_or1 (zst_chain op_lt rd_bl0 op_lt rd_bl0 (zse_minL rfl T.b_min (zql_of (zsv 5))) (zse_minL rfl T.b_min (zql_of (zsv 4))) (zse_maxL rfl T.b_max (zql_of (zsv 5)))))))
      (zss_one (zss_ret (zse_str)))
      (zss_nil))
      (zss_one (zss_ret (zse_str))))))))
theorem ok_law_how (T : Top K w mg) : FnD P w K mg base 1 "_law_how" ["_law_web_here", "_law_row_here", "_law_one", "_law_other"] F_law_how :=
  zfn_d T.d_law_how sc_law_how (fun _ _ _ _ _ _ us hl => match us, hl with | [_, _, _, _], _ => rfl) rfl (b_law_how T)
theorem sc_spots_of : FnScope N_spots_of ["row"] (defScope s_spots_of) := ⟨rfl, rfl, rfl, by decide +kernel, rfl, by decide +kernel, by decide +kernel⟩
theorem b_spots_of (T : Top K w mg) (f : Addr) (cdv : Value) (A : Around) (outer : List Env) (s : Shared) (H : Hp) (E : XK) (hr : Room 0 (A.deeper (PyProof.Rows.envOfC "spots_of" (defScope s_spots_of) s.heap.objs.size f cdv))) :
    ZB (cxOf CX0 P w K mg base N_spots_of "spots_of" (defScope s_spots_of) f cdv A outer s H E).nox (defBody s_spots_of) g_spots_of := by
  have hu := hr.units
  have hu0 := hr.units0
  exact zss_cons (zss_setD (i := 1) zsfd_new sc_spots_of.nd)
      (zss_cons (zss_for PassesOwn.never rfl (zsi_enum T.b_enumerate (zsv 0)) (zsg_tup rfl (zsgs_cons (zsg_name (i := 2) sc_spots_of.nd) (zsgs_cons (zsg_name (i := 3) sc_spots_of.nd) (zsgs_nil))))
      (zss_one (zss_put (i := 1) hu (zsv 3) (zsv 2))))
      (zss_one (zss_frz 1 (zss_ret (zsv 1)))))
theorem ok_spots_of (T : Top K w mg) : FnD P w K mg base 1 "spots_of" ["row"] F_spots_of :=
  zfn_d T.d_spots_of sc_spots_of (fun _ _ _ _ _ _ us hl => match us, hl with | [_], _ => rfl) rfl (b_spots_of T)
theorem sc_rising_pair : FnScope N_rising_pair ["one", "other"] (defScope s_rising_pair) := ⟨rfl, rfl, rfl, by decide +kernel, rfl, by decide +kernel, by decide +kernel⟩
theorem b_rising_pair (T : Top K w mg) (f : Addr) (cdv : Value) (A : Around) (outer : List Env) (s : Shared) (H : Hp) (E : XK) (hr : Room 0 (A.deeper (PyProof.Rows.envOfC "rising_pair" (defScope s_rising_pair) s.heap.objs.size f cdv))) :
    ZB (cxOf CX0 P w K mg base N_rising_pair "rising_pair" (defScope s_rising_pair) f cdv A outer s H E).nox (defBody s_rising_pair) g_rising_pair := by
  have hu := hr.units
  have hu0 := hr.units0
  exact zss_one (zss_ret (zse_tup (zsa_cons (zse_min2 rfl T.b_min (zsv 0) (zsv 1)) (zsa_cons (zse_max2 rfl T.b_max (zsv 0) (zsv 1)) (zsa_nil)))))
theorem ok_rising_pair (T : Top K w mg) : FnD P w K mg base 1 "rising_pair" ["one", "other"] F_rising_pair :=
  zfn_d T.d_rising_pair sc_rising_pair (fun _ _ _ _ _ _ us hl => match us, hl with | [_, _], _ => rfl) rfl (b_rising_pair T)
theorem sc_span_of : FnScope N_span_of ["spots", "tie"] (defScope s_span_of) := ⟨rfl, rfl, rfl, by decide +kernel, rfl, by decide +kernel, by decide +kernel⟩
theorem b_span_of (T : Top K w mg) (f : Addr) (cdv : Value) (A : Around) (outer : List Env) (s : Shared) (H : Hp) (E : XK) (hr : Room 1 (A.deeper (PyProof.Rows.envOfC "span_of" (defScope s_span_of) s.heap.objs.size f cdv))) :
    ZB (cxOf CX0 P w K mg base N_span_of "span_of" (defScope s_span_of) f cdv A outer s H E).nox (defBody s_span_of) g_span_of := by
  have hu := hr.units
  have hu0 := hr.units0
  exact zss_one (zss_ret (zse_fn (ok_rising_pair T) hr (zsa_cons (zse_dget hu (zsv 0) (zse_ix (zq_of (zsv 1)) (zse_int))) (zsa_cons (zse_dget hu (zsv 0) (zse_ix (zq_of (zsv 1)) (zse_int))) (zsa_nil)))))
theorem ok_span_of (T : Top K w mg) : FnD P w K mg base 2 "span_of" ["spots", "tie"] F_span_of :=
  zfn_d T.d_span_of sc_span_of (fun _ _ _ _ _ _ us hl => match us, hl with | [_, _], _ => rfl) rfl (b_span_of T)
theorem sc_spans_of : FnScope N_spans_of ["web", "row"] (defScope s_spans_of) := ⟨rfl, rfl, rfl, by decide +kernel, rfl, by decide +kernel, by decide +kernel⟩
theorem b_spans_of (T : Top K w mg) (f : Addr) (cdv : Value) (A : Around) (outer : List Env) (s : Shared) (H : Hp) (E : XK) (hr : Room 2 (A.deeper (PyProof.Rows.envOfC "spans_of" (defScope s_spans_of) s.heap.objs.size f cdv))) :
    ZB (cxOf CX0 P w K mg base N_spans_of "spans_of" (defScope s_spans_of) f cdv A outer s H E).nox (defBody s_spans_of) g_spans_of := by
  have hu := hr.units
  have hu0 := hr.units0
  exact zss_cons (zss_set (i := 2) (zse_fn (ok_spots_of T) hr (zsa_cons (zsv 1) (zsa_nil))) sc_spans_of.nd)
      (zss_one (zss_ret (zf_se (zsf_compB ["tie", "spots"] [none, some 2] rfl (zsi_seq (zse_ix (zq_of (zsv 0)) (zse_int))) (fun _ _ _ _ _ => zsg_name (i := 0) (show List.Nodup (["tie", "spots"] : List Str) by decide +kernel)) (fun _ _ _ _ _ => zpifs0) (fun _ _ _ _ _ => zse_fn (ok_span_of T) hr (zsa_cons (zsv 1) (zsa_cons (zsv 0) (zsa_nil))))))))
theorem ok_spans_of (T : Top K w mg) : FnD P w K mg base 3 "spans_of" ["web", "row"] F_spans_of :=
  zfn_d T.d_spans_of sc_spans_of (fun _ _ _ _ _ _ us hl => match us, hl with | [_, _], _ => rfl) rfl (b_spans_of T)
theorem sc_how_spans_lie : FnScope N_how_spans_lie ["one", "other"] (defScope s_how_spans_lie) := ⟨rfl, rfl, rfl, by decide +kernel, rfl, by decide +kernel, by decide +kernel⟩
theorem b_how_spans_lie (T : Top K w mg) (f : Addr) (cdv : Value) (A : Around) (outer : List Env) (s : Shared) (H : Hp) (E : XK) (hr : Room 0 (A.deeper (PyProof.Rows.envOfC "how_spans_lie" (defScope s_how_spans_lie) s.heap.objs.size f cdv))) :
    ZB (cxOf CX0 P w K mg base N_how_spans_lie "how_spans_lie" (defScope s_how_spans_lie) f cdv A outer s H E).nox (defBody s_how_spans_lie) g_how_spans_lie := by
  have hu := hr.units
  have hu0 := hr.units0
  exact zss_cons (zss_if (zst_w (zsw_or (zst_in hu (zse_ix (zq_of (zsv 0)) (zse_int)) (zq_of (zsv 1))) (zsw_or1 (zst_in hu (zse_ix (zq_of (zsv 0)) (zse_int)) (zq_of (zsv 1))))))
      (zss_one (zss_ret (zse_str)))
      (zss_nil))
      (zss_cons (zss_set (i := 2) (zse_minB rfl hu T.b_min (zsv 0) (zsv 1)) sc_how_spans_lie.nd)
      (zss_cons (zss_set (i := 3) (zse_maxB rfl hu T.b_max (zsv 0) (zsv 1)) sc_how_spans_lie.nd)
      (zss_cons (zss_if (zst_lt hu0 (zse_ix (zq_of (zsv 2)) (zse_int)) (zse_ix (zq_of (zsv 3)) (zse_int)))
      (zss_one (zss_ret (zse_str)))
      (zss_nil))
      (zss_one (zss_ret (zse_if (zst_lt hu0 (zse_ix (zq_of (zsv 2)) (zse_int)) (zse_ix (zq_of (zsv 3)) (zse_int))) (zse_str) (zse_str)))))))
theorem ok_how_spans_lie (T : Top K w mg) : FnD P w K mg base 1 "how_spans_lie" ["one", "other"] F_how_spans_lie :=
  zfn_d T.d_how_spans_lie sc_how_spans_lie (fun _ _ _ _ _ _ us hl => match us, hl with | [_, _], _ => rfl) rfl (b_how_spans_lie T)
theorem sc_how : FnScope N_how ["web", "row", "one", "other"] (defScope s_how) := ⟨rfl, rfl, rfl, by decide +kernel, rfl, by decide +kernel, by decide +kernel⟩
theorem b_how (T : Top K w mg) (f : Addr) (cdv : Value) (A : Around) (outer : List Env) (s : Shared) (H : Hp) (E : XK) (hr : Room 3 (A.deeper (PyProof.Rows.envOfC "how" (defScope s_how) s.heap.objs.size f cdv))) :
    ZB (cxOf CX0 P w K mg base N_how "how" (defScope s_how) f cdv A outer s H E).nox (defBody s_how) g_how := by
  have hu := hr.units
  have hu0 := hr.units0
  exact zss_cons (zss_set (i := 4) (zse_fn (ok_spans_of T) hr (zsa_cons (zsv 0) (zsa_cons (zsv 1) (zsa_nil)))) sc_how.nd)
      (zss_one (zss_ret (zse_fn (ok_how_spans_lie T) hr (zsa_cons (zse_ix (zq_of (zsv 4)) (zsv 2)) (zsa_cons (zse_ix (zq_of (zsv 4)) (zsv 3)) (zsa_nil))))))
theorem ok_how (T : Top K w mg) : FnD P w K mg base 4 "how" ["web", "row", "one", "other"] F_how :=
  zfn_d T.d_how sc_how (fun _ _ _ _ _ _ us hl => match us, hl with | [_, _, _, _], _ => rfl) rfl (b_how T)
theorem sc_law_ways : FnScope N_law_ways ["_law_web_here", "_law_one", "_law_other"] (defScope s_law_ways) := ⟨rfl, rfl, rfl, by decide +kernel, rfl, by decide +kernel, by decide +kernel⟩
theorem b_law_ways (T : Top K w mg) (f : Addr) (cdv : Value) (A : Around) (outer : List Env) (s : Shared) (H : Hp) (E : XK) (hr : Room 4 (A.deeper (PyProof.Rows.envOfC "_law_ways" (defScope s_law_ways) s.heap.objs.size f cdv))) :
    ZB (cxOf CX0 P w K mg base N_law_ways "_law_ways" (defScope s_law_ways) f cdv A outer s H E).nox (defBody s_law_ways) g_law_ways := by
  have hu := hr.units
  have hu0 := hr.units0
  exact zss_cons (zss_set (i := 3) (zf_se (zsf_list T.b_list (zq_of (zse_add (zse_ix (zq_of (zse_ix (zq_of (zsv 0)) (zse_int))) (zsv 1)) (zse_ix (zq_of (zse_ix (zq_of (zsv 0)) (zse_int))) (zsv 2)))))) sc_law_ways.nd)
      (zss_cons (zss_set (i := 4) (zse_tuple T.b_tuple (zf_q (zsf_compB ["_law_place", "_law_four"] [none, some 3] rfl (zsi_rng1 T.b_range (zse_ix (zq_of (zsv 0)) (zse_int))) (fun _ _ _ _ _ => zsg_name (i := 0) (show List.Nodup (["_law_place", "_law_four"] : List Str) by decide +kernel)) (fun _ _ _ _ _ => zpifs1 (zst_nin hu (zsv 0) (zq_of (zsv 1)))) (fun _ _ _ _ _ => zsv 0)))) sc_law_ways.nd)
      (zss_cons (zss_setF (i := 5) (zsf_lst (zsa_nil)) sc_law_ways.nd)
      (zss_cons (zss_set (i := 6) (zse_ix (zq_of (zsv 3)) (zse_int)) sc_law_ways.nd)
      (zss_cons (zss_for PassesOwn.never rfl (zsi_seq (zse_sl (zsv 3) (zso_some (zse_int)) (zso_none))) (zsg_name (i := 7) sc_law_ways.nd)
      (zss_one (zss_for PassesOwn.never rfl (zsi_seq (zse_sl (zsv 3) (zso_some (zse_int)) (zso_none))) (zsg_name (i := 8) sc_law_ways.nd)
      (zss_cons (zss_compS (i := 9) ["_law_place", "_law_second", "_law_third"] [none, some 7, some 8] rfl (zsi_seq (zse_sl (zsv 3) (zso_some (zse_int)) (zso_none))) (fun _ _ _ _ _ => zsg_name (i := 0) (show List.Nodup (["_law_place", "_law_second", "_law_third"] : List Str) by decide +kernel)) (fun _ _ _ _ _ => zpifs1 (zst_nin hu (zsv 0) (zq_of (zse_tup (zsa_cons (zsv 1) (zsa_cons (zsv 2) (zsa_nil))))))) (fun _ _ _ _ _ => zsv 0) sc_law_ways.nd)
      (zss_one (zss_if (zst_ne hu (zsv 7) (zsv 8))
      (zss_one (zss_app (i := 5) (zse_fn (ok_how T) hr (zsa_cons (zsv 0) (zsa_cons (zse_add (zse_add (zse_add (zse_sl2 (zsv 4) (zso_none) (zso_some (zse_int))) (zse_tup (zsa_cons (zsv 6) (zsa_cons (zsv 7) (zsa_cons (zsv 8) (zsa_nil)))))) (zse_tuple T.b_tuple (zq_of (zsv 9)))) (zse_sl2 (zsv 4) (zso_some (zse_int)) (zso_none))) (zsa_cons (zsv 1) (zsa_cons (zsv 2) (zsa_nil))))))))
      (zss_nil)))))))
      (zss_one (zss_ret (zf_se (zsf_sorted2 T.b_sorted (zqv 5)))))))))
theorem ok_law_ways (T : Top K w mg) : FnD P w K mg base 5 "_law_ways" ["_law_web_here", "_law_one", "_law_other"] F_law_ways :=
  zfn_d T.d_law_ways sc_law_ways (fun _ _ _ _ _ _ us hl => match us, hl with | [_, _, _], _ => rfl) rfl (b_law_ways T)
theorem sc_do_spans_clash : FnScope N_do_spans_clash ["one", "other", "kind"] (defScope s_do_spans_clash) := ⟨rfl, rfl, rfl, by decide +kernel, rfl, by decide +kernel, by decide +kernel⟩
theorem b_do_spans_clash (T : Top K w mg) (f : Addr) (cdv : Value) (A : Around) (outer : List Env) (s : Shared) (H : Hp) (E : XK) (hr : Room 1 (A.deeper (PyProof.Rows.envOfC "do_spans_clash" (defScope s_do_spans_clash) s.heap.objs.size f cdv))) :
    ZB (cxOf CX0 P w K mg base N_do_spans_clash "do_spans_clash" (defScope s_do_spans_clash) f cdv A outer s H E).nox (defBody s_do_spans_clash) g_do_spans_clash := by
  obtain ⟨a_CLASHING, z_CLASHING, y_CLASHING⟩ := T.x_CLASHING
  have hu := hr.units
  have hu0 := hr.units0
  exact zss_one (zss_ret (zse_eq hu (zse_fn (ok_how_spans_lie T) hr (zsa_cons (zsv 0) (zsa_cons (zsv 1) (zsa_nil)))) (zse_gtab z_CLASHING y_CLASHING (zsv 2))))
theorem ok_do_spans_clash (T : Top K w mg) : FnD P w K mg base 2 "do_spans_clash" ["one", "other", "kind"] F_do_spans_clash :=
  zfn_d T.d_do_spans_clash sc_do_spans_clash (fun _ _ _ _ _ _ us hl => match us, hl with | [_, _, _], _ => rfl) rfl (b_do_spans_clash T)
theorem sc_clashes : FnScope N_clashes ["web", "row", "kind"] (defScope s_clashes) := ⟨rfl, rfl, rfl, by decide +kernel, rfl, by decide +kernel, by decide +kernel⟩
theorem b_clashes (T : Top K w mg) (f : Addr) (cdv : Value) (A : Around) (outer : List Env) (s : Shared) (H : Hp) (E : XK) (hr : Room 3 (A.deeper (PyProof.Rows.envOfC "clashes" (defScope s_clashes) s.heap.objs.size f cdv))) :
    ZB (cxOf CX0 P w K mg base N_clashes "clashes" (defScope s_clashes) f cdv A outer s H E).nox (defBody s_clashes) g_clashes := by
  have hu := hr.units
  have hu0 := hr.units0
  exact zss_cons (zss_set (i := 3) (zse_fn (ok_spans_of T) hr (zsa_cons (zsv 0) (zsa_cons (zsv 1) (zsa_nil)))) sc_clashes.nd)
      (zss_cons (zss_setF (i := 4) (zsf_lst (zsa_nil)) sc_clashes.nd)
      (zss_cons (zss_for PassesOwn.never rfl (zsi_enum T.b_enumerate (zsv 3)) (zsg_tup rfl (zsgs_cons (zsg_name (i := 5) sc_clashes.nd) (zsgs_cons (zsg_name (i := 6) sc_clashes.nd) (zsgs_nil))))
      (zss_cons (zss_compS (i := 7) ["other", "span", "spans", "kind"] [none, some 6, some 3, some 2] rfl (zsi_rng2 T.b_range (zse_add (zsv 5) (zse_int)) (zse_len T.b_len (zq_of (zsv 3)))) (fun _ _ _ _ _ => zsg_name (i := 0) (show List.Nodup (["other", "span", "spans", "kind"] : List Str) by decide +kernel)) (fun _ _ _ _ _ => zpifs1 (zst_val (zse_fn (ok_do_spans_clash T) hr (zsa_cons (zsv 1) (zsa_cons (zse_ix (zq_of (zsv 2)) (zsv 0)) (zsa_cons (zsv 3) (zsa_nil))))))) (fun _ _ _ _ _ => zsv 0) sc_clashes.nd)
      (zss_one (zss_ext (i := 4) (zsf_compB ["other", "one"] [none, some 5] rfl (zsi_seq (zsv 7)) (fun _ _ _ _ _ => zsg_name (i := 0) (show List.Nodup (["other", "one"] : List Str) by decide +kernel)) (fun _ _ _ _ _ => zpifs0) (fun _ _ _ _ _ => zse_tup (zsa_cons (zsv 1) (zsa_cons (zsv 0) (zsa_nil)))))))))
      (zss_one (zss_ret (zse_tuple T.b_tuple (zqv 4))))))
theorem ok_clashes (T : Top K w mg) : FnD P w K mg base 4 "clashes" ["web", "row", "kind"] F_clashes :=
  zfn_d T.d_clashes sc_clashes (fun _ _ _ _ _ _ us hl => match us, hl with | [_, _, _], _ => rfl) rfl (b_clashes T)
theorem sc_law_clashes : FnScope N_law_clashes ["_law_web_here", "_law_row_here", "_law_kind"] (defScope s_law_clashes) := ⟨rfl, rfl, rfl, by decide +kernel, rfl, by decide +kernel, by decide +kernel⟩
theorem b_law_clashes (T : Top K w mg) (f : Addr) (cdv : Value) (A : Around) (outer : List Env) (s : Shared) (H : Hp) (E : XK) (hr : Room 1 (A.deeper (PyProof.Rows.envOfC "_law_clashes" (defScope s_law_clashes) s.heap.objs.size f cdv))) :
    ZB (cxOf CX0 P w K mg base N_law_clashes "_law_clashes" (defScope s_law_clashes) f cdv A outer s H E).nox (defBody s_law_clashes) g_law_clashes := by
  have hu := hr.units
  have hu0 := hr.units0
  exact zss_cons (zss_set (i := 3) (zse_ix (zf_q (zsf_lst (zsa_cons (zse_str) (zsa_cons (zse_str) (zsa_nil))))) (zse_toint T.b_int (zse_eq hu (zsv 2) (zse_str)))) sc_law_clashes.nd)
      (zss_cons (zss_setF (i := 4) (zsf_lst (zsa_nil)) sc_law_clashes.nd)
      (zss_cons (zss_for PassesOwn.never rfl (zsi_rng1 T.b_range (zse_len T.b_len (zq_of (zse_ix (zq_of (zsv 0)) (zse_int))))) (zsg_name (i := 5) sc_law_clashes.nd)
      (zss_one (zss_ext (i := 4) (zsf_compB ["_law_one", "_law_other", "_law_web_here", "_law_row_here", "_law_word"] [none, some 5, some 0, some 1, some 3] rfl (zsi_rng1 T.b_range (zsv 5)) (fun _ _ _ _ _ => zsg_name (i := 0) (show List.Nodup (["_law_one", "_law_other", "_law_web_here", "_law_row_here", "_law_word"] : List Str) by decide +kernel)) (fun _ _ _ _ _ => zpifs1 (zst_eq hu (zse_fn (ok_law_how T) hr (zsa_cons (zsv 2) (zsa_cons (zsv 3) (zsa_cons (zsv 0) (zsa_cons (zsv 1) (zsa_nil)))))) (zsv 4))) (fun _ _ _ _ _ => zse_tup (zsa_cons (zsv 0) (zsa_cons (zsv 1) (zsa_nil))))))))
      (zss_one (zss_ret (zf_se (zsf_sorted T.b_sorted (zqv 4)))))))
theorem ok_law_clashes (T : Top K w mg) : FnD P w K mg base 2 "_law_clashes" ["_law_web_here", "_law_row_here", "_law_kind"] F_law_clashes :=
  zfn_d T.d_law_clashes sc_law_clashes (fun _ _ _ _ _ _ us hl => match us, hl with | [_, _, _], _ => rfl) rfl (b_law_clashes T)
theorem sc_law : FnScope N_law ["_law_script"] (defScope s_law) := ⟨rfl, rfl, rfl, by decide +kernel, rfl, by decide +kernel, by decide +kernel⟩
theorem b_law (T : Top K w mg) (f : Addr) (cdv : Value) (A : Around) (outer : List Env) (s : Shared) (H : Hp) (E : XK) (hr : Room 5 (A.deeper (PyProof.Rows.envOfC "law" (defScope s_law) s.heap.objs.size f cdv))) :
    ZB (cxOf CX0 P w K mg base N_law "law" (defScope s_law) f cdv A outer s H E).nox (defBody s_law) g_law := by
  have hu := hr.units
  have hu0 := hr.units0
  exact zss_cons (zss_for PassesOwn.never rfl (zsi_seq (zse_sl (zsv 0) (zso_none) (zso_some (zse_int)))) (zsg_name (i := 1) sc_law.nd)
      (zss_cons (zss_set (i := 2) (zse_fn (ok_law_web T) hr (zsa_cons (zsv 1) (zsa_cons (zse_int) (zsa_cons (zse_int) (zsa_nil))))) sc_law.nd)
      (zss_cons (zss_set (i := 3) (zse_fn (ok_law_row T) hr (zsa_cons (zse_div (zsv 1) (zse_int)) (zsa_cons (zse_ix (zq_of (zsv 2)) (zse_int)) (zsa_nil)))) sc_law.nd)
      (zss_cons (zss_for PassesOwn.never rfl (zsi_rng1 T.b_range (zse_len T.b_len (zq_of (zse_ix (zq_of (zsv 2)) (zse_int))))) (zsg_name (i := 4) sc_law.nd)
      (zss_one (zss_for PassesOwn.never rfl (zsi_rng1 T.b_range (zsv 4)) (zsg_name (i := 5) sc_law.nd)
      (zss_cons (zss_set (i := 6) (zse_fn (ok_law_how T) hr (zsa_cons (zsv 2) (zsa_cons (zsv 3) (zsa_cons (zsv 4) (zsa_cons (zsv 5) (zsa_nil)))))) sc_law.nd)
      (zss_cons (zss_if (zst_w (zsw_or (zst_ne hu (zse_fn (ok_how T) hr (zsa_cons (zsv 2) (zsa_cons (zsv 3) (zsa_cons (zsv 4) (zsa_cons (zsv 5) (zsa_nil)))))) (zsv 6)) (zsw_or1 (zst_ne hu (zse_fn (ok_how T) hr (zsa_cons (zsv 2) (zsa_cons (zsv 3) (zsa_cons (zsv 5) (zsa_cons (zsv 4) (zsa_nil)))))) (zsv 6)))))
      (zss_one (zss_ret (zse_bl)))
      (zss_nil))
      (zss_cons (zss_set (i := 7) (zf_se (zsf_lst (zsa_cons (zse_str) (zsa_cons (zse_str) (zsa_cons (zse_str) (zsa_cons (zse_str) (zsa_cons (zse_str) (zsa_cons (zse_str) (zsa_nil))))))))) sc_law.nd)
      (zss_one (zss_if (zst_w (zsw_and (zst_ne hu (zsv 6) (zse_str)) (zsw_and1 (zst_ne hu (zse_fn (ok_law_ways T) hr (zsa_cons (zsv 2) (zsa_cons (zsv 4) (zsa_cons (zsv 5) (zsa_nil))))) (zsv 7)))))
      (zss_one (zss_ret (zse_bl)))
      (zss_nil)))))))))
      (zss_one (zss_for PassesOwn.never rfl (zsi_seq (zse_tup (zsa_cons (zse_str) (zsa_cons (zse_str) (zsa_nil))))) (zsg_name (i := 8) sc_law.nd)
      (zss_one (zss_if (zst_ne hu (zse_fn (ok_clashes T) hr (zsa_cons (zsv 2) (zsa_cons (zsv 3) (zsa_cons (zsv 8) (zsa_nil))))) (zse_tuple T.b_tuple (zq_of (zse_fn (ok_law_clashes T) hr (zsa_cons (zsv 2) (zsa_cons (zsv 3) (zsa_cons (zsv 8) (zsa_nil))))))))
      (zss_one (zss_ret (zse_bl)))
      (zss_nil)))))))))
      (zss_one (zss_ret (zse_bl)))
theorem law_fn (T : Top K w mg) {f : Addr} {fd : FuncData} (G : Fun K "law" "law" s_law f fd) : FnOk P w K mg base CX0 6 f fd ["_law_script"] (spD K F_law) :=
  fn_data G sc_law (fun ds d e => by
    unfold F_law dFn at e
    split at e
    · rename_i h; exact h
    · cases e) (fun ds d e => by
    unfold F_law dFn at e
    split at e
    · exact e
    · cases e) fun cdv A outer s H E hr => (b_law T f cdv A outer s H E hr).h
end
theorem all_mk {l : PySem.W.OpenLaw} {w : World} {K : PySem.W.Frag} {h : Heap} {mg : Str → Option Value} {fa : Addr} (X : K.In h) (G : h.Ns mainGlobals mg) (hfa : mg "law" = some (.ref fa))
    {f0 : Addr} {od0 an0 : Option Addr} {sl0 : Array (Option Value)} {oc0 kV0 dc0 pm0 cd0 ct0 : Value}
    {f1 : Addr} {od1 an1 : Option Addr} {sl1 : Array (Option Value)} {oc1 kV1 dc1 pm1 cd1 ct1 : Value}
    {f2 : Addr} {od2 an2 : Option Addr} {sl2 : Array (Option Value)} {oc2 kV2 dc2 pm2 cd2 ct2 : Value}
    {f3 : Addr} {od3 an3 : Option Addr} {sl3 : Array (Option Value)} {oc3 kV3 dc3 pm3 cd3 ct3 : Value}
    {f4 : Addr} {od4 an4 : Option Addr} {sl4 : Array (Option Value)} {oc4 kV4 dc4 pm4 cd4 ct4 : Value}
    {f5 : Addr} {od5 an5 : Option Addr} {sl5 : Array (Option Value)} {oc5 kV5 dc5 pm5 cd5 ct5 : Value}
    {f6 : Addr} {od6 an6 : Option Addr} {sl6 : Array (Option Value)} {oc6 kV6 dc6 pm6 cd6 ct6 : Value}
    {f7 : Addr} {od7 an7 : Option Addr} {sl7 : Array (Option Value)} {oc7 kV7 dc7 pm7 cd7 ct7 : Value}
    {f8 : Addr} {od8 an8 : Option Addr} {sl8 : Array (Option Value)} {oc8 kV8 dc8 pm8 cd8 ct8 : Value}
    {f9 : Addr} {od9 an9 : Option Addr} {sl9 : Array (Option Value)} {oc9 kV9 dc9 pm9 cd9 ct9 : Value}
    {f10 : Addr} {od10 an10 : Option Addr} {sl10 : Array (Option Value)} {oc10 kV10 dc10 pm10 cd10 ct10 : Value}
    {f11 : Addr} {od11 an11 : Option Addr} {sl11 : Array (Option Value)} {oc11 kV11 dc11 pm11 cd11 ct11 : Value}
    {f12 : Addr} {od12 an12 : Option Addr} {sl12 : Array (Option Value)} {oc12 kV12 dc12 pm12 cd12 ct12 : Value}
    {f13 : Addr} {od13 an13 : Option Addr} {sl13 : Array (Option Value)} {oc13 kV13 dc13 pm13 cd13 ct13 : Value}
    {f14 : Addr} {od14 an14 : Option Addr} {sl14 : Array (Option Value)} {oc14 kV14 dc14 pm14 cd14 ct14 : Value}
    {ta_CLASHING : Addr} {te_CLASHING : Array DictEntry} {tn_CLASHING : Nat} {tt_CLASHING_0 tt_CLASHING_1 : Tok}
    (a0 : PySem.W.nsIn K mainGlobals "_law_mix" = some (some (.ref f0))) (l0 : K.lookup f0 = some ⟨oc0, od0, .func (PySem.W.fnOf "_law_mix" "_law_mix" (defArgs s_law_mix) (defBody s_law_mix) (defScope s_law_mix) .none kV0 dc0 pm0 an0 cd0 ct0), sl0⟩) (c0 : PySem.W.codeIn K cd0 "_law_mix" = true) (k0 : PySem.W.keepIn K (.ref f0) = true)
    (a1 : PySem.W.nsIn K mainGlobals "_law_web" = some (some (.ref f1))) (l1 : K.lookup f1 = some ⟨oc1, od1, .func (PySem.W.fnOf "_law_web" "_law_web" (defArgs s_law_web) (defBody s_law_web) (defScope s_law_web) .none kV1 dc1 pm1 an1 cd1 ct1), sl1⟩) (c1 : PySem.W.codeIn K cd1 "_law_web" = true) (k1 : PySem.W.keepIn K (.ref f1) = true)
    (a2 : PySem.W.nsIn K mainGlobals "_law_row" = some (some (.ref f2))) (l2 : K.lookup f2 = some ⟨oc2, od2, .func (PySem.W.fnOf "_law_row" "_law_row" (defArgs s_law_row) (defBody s_law_row) (defScope s_law_row) .none kV2 dc2 pm2 an2 cd2 ct2), sl2⟩) (c2 : PySem.W.codeIn K cd2 "_law_row" = true) (k2 : PySem.W.keepIn K (.ref f2) = true)
    (a3 : PySem.W.nsIn K mainGlobals "_law_how" = some (some (.ref f3))) (l3 : K.lookup f3 = some ⟨oc3, od3, .func (PySem.W.fnOf "_law_how" "_law_how" (defArgs s_law_how) (defBody s_law_how) (defScope s_law_how) .none kV3 dc3 pm3 an3 cd3 ct3), sl3⟩) (c3 : PySem.W.codeIn K cd3 "_law_how" = true) (k3 : PySem.W.keepIn K (.ref f3) = true)
    (a4 : PySem.W.nsIn K mainGlobals "spots_of" = some (some (.ref f4))) (l4 : K.lookup f4 = some ⟨oc4, od4, .func (PySem.W.fnOf "spots_of" "spots_of" (defArgs s_spots_of) (defBody s_spots_of) (defScope s_spots_of) .none kV4 dc4 pm4 an4 cd4 ct4), sl4⟩) (c4 : PySem.W.codeIn K cd4 "spots_of" = true) (k4 : PySem.W.keepIn K (.ref f4) = true)
    (a5 : PySem.W.nsIn K mainGlobals "rising_pair" = some (some (.ref f5))) (l5 : K.lookup f5 = some ⟨oc5, od5, .func (PySem.W.fnOf "rising_pair" "rising_pair" (defArgs s_rising_pair) (defBody s_rising_pair) (defScope s_rising_pair) .none kV5 dc5 pm5 an5 cd5 ct5), sl5⟩) (c5 : PySem.W.codeIn K cd5 "rising_pair" = true) (k5 : PySem.W.keepIn K (.ref f5) = true)
    (a6 : PySem.W.nsIn K mainGlobals "span_of" = some (some (.ref f6))) (l6 : K.lookup f6 = some ⟨oc6, od6, .func (PySem.W.fnOf "span_of" "span_of" (defArgs s_span_of) (defBody s_span_of) (defScope s_span_of) .none kV6 dc6 pm6 an6 cd6 ct6), sl6⟩) (c6 : PySem.W.codeIn K cd6 "span_of" = true) (k6 : PySem.W.keepIn K (.ref f6) = true)
    (a7 : PySem.W.nsIn K mainGlobals "spans_of" = some (some (.ref f7))) (l7 : K.lookup f7 = some ⟨oc7, od7, .func (PySem.W.fnOf "spans_of" "spans_of" (defArgs s_spans_of) (defBody s_spans_of) (defScope s_spans_of) .none kV7 dc7 pm7 an7 cd7 ct7), sl7⟩) (c7 : PySem.W.codeIn K cd7 "spans_of" = true) (k7 : PySem.W.keepIn K (.ref f7) = true)
    (a8 : PySem.W.nsIn K mainGlobals "how_spans_lie" = some (some (.ref f8))) (l8 : K.lookup f8 = some ⟨oc8, od8, .func (PySem.W.fnOf "how_spans_lie" "how_spans_lie" (defArgs s_how_spans_lie) (defBody s_how_spans_lie) (defScope s_how_spans_lie) .none kV8 dc8 pm8 an8 cd8 ct8), sl8⟩) (c8 : PySem.W.codeIn K cd8 "how_spans_lie" = true) (k8 : PySem.W.keepIn K (.ref f8) = true)
    (a9 : PySem.W.nsIn K mainGlobals "how" = some (some (.ref f9))) (l9 : K.lookup f9 = some ⟨oc9, od9, .func (PySem.W.fnOf "how" "how" (defArgs s_how) (defBody s_how) (defScope s_how) .none kV9 dc9 pm9 an9 cd9 ct9), sl9⟩) (c9 : PySem.W.codeIn K cd9 "how" = true) (k9 : PySem.W.keepIn K (.ref f9) = true)
    (a10 : PySem.W.nsIn K mainGlobals "_law_ways" = some (some (.ref f10))) (l10 : K.lookup f10 = some ⟨oc10, od10, .func (PySem.W.fnOf "_law_ways" "_law_ways" (defArgs s_law_ways) (defBody s_law_ways) (defScope s_law_ways) .none kV10 dc10 pm10 an10 cd10 ct10), sl10⟩) (c10 : PySem.W.codeIn K cd10 "_law_ways" = true) (k10 : PySem.W.keepIn K (.ref f10) = true)
    (a11 : PySem.W.nsIn K mainGlobals "do_spans_clash" = some (some (.ref f11))) (l11 : K.lookup f11 = some ⟨oc11, od11, .func (PySem.W.fnOf "do_spans_clash" "do_spans_clash" (defArgs s_do_spans_clash) (defBody s_do_spans_clash) (defScope s_do_spans_clash) .none kV11 dc11 pm11 an11 cd11 ct11), sl11⟩) (c11 : PySem.W.codeIn K cd11 "do_spans_clash" = true) (k11 : PySem.W.keepIn K (.ref f11) = true)
    (a12 : PySem.W.nsIn K mainGlobals "clashes" = some (some (.ref f12))) (l12 : K.lookup f12 = some ⟨oc12, od12, .func (PySem.W.fnOf "clashes" "clashes" (defArgs s_clashes) (defBody s_clashes) (defScope s_clashes) .none kV12 dc12 pm12 an12 cd12 ct12), sl12⟩) (c12 : PySem.W.codeIn K cd12 "clashes" = true) (k12 : PySem.W.keepIn K (.ref f12) = true)
    (a13 : PySem.W.nsIn K mainGlobals "_law_clashes" = some (some (.ref f13))) (l13 : K.lookup f13 = some ⟨oc13, od13, .func (PySem.W.fnOf "_law_clashes" "_law_clashes" (defArgs s_law_clashes) (defBody s_law_clashes) (defScope s_law_clashes) .none kV13 dc13 pm13 an13 cd13 ct13), sl13⟩) (c13 : PySem.W.codeIn K cd13 "_law_clashes" = true) (k13 : PySem.W.keepIn K (.ref f13) = true)
    (a14 : PySem.W.nsIn K mainGlobals "law" = some (some (.ref f14))) (l14 : K.lookup f14 = some ⟨oc14, od14, .func (PySem.W.fnOf "law" "law" (defArgs s_law) (defBody s_law) (defScope s_law) .none kV14 dc14 pm14 an14 cd14 ct14), sl14⟩) (c14 : PySem.W.codeIn K cd14 "law" = true) (k14 : PySem.W.keepIn K (.ref f14) = true)
    (z_enumerate : PySem.W.nsIn K mainGlobals "enumerate" = some none)
    (z_int : PySem.W.nsIn K mainGlobals "int" = some none)
    (z_len : PySem.W.nsIn K mainGlobals "len" = some none)
    (z_list : PySem.W.nsIn K mainGlobals "list" = some none)
    (z_max : PySem.W.nsIn K mainGlobals "max" = some none)
    (z_min : PySem.W.nsIn K mainGlobals "min" = some none)
    (z_range : PySem.W.nsIn K mainGlobals "range" = some none)
    (z_sorted : PySem.W.nsIn K mainGlobals "sorted" = some none)
    (z_tuple : PySem.W.nsIn K mainGlobals "tuple" = some none)
    (x_CLASHING : PySem.W.nsIn K mainGlobals "CLASHING" = some (some (.ref ta_CLASHING))) (y_CLASHING : K.lookup ta_CLASHING = some ⟨.type "dict", none, .dict te_CLASHING tn_CLASHING, #[]⟩) (k_CLASHING : PySem.W.KeysLit w.params te_CLASHING.toList)
    (v_CLASHING_0 : PySem.W.nsIn K ta_CLASHING "pile" = some (some (.str "cross" tt_CLASHING_0)))
    (v_CLASHING_1 : PySem.W.nsIn K ta_CLASHING "queue" = some (some (.str "within" tt_CLASHING_1))) :
    ∃ fd : FuncData, (∀ (s : Shared) (v : Value), BindsTo s fd ⟨[v], []⟩ [("_law_script", v)]) ∧ ∀ base : Heap, K.In base → base.Ns mainGlobals mg → FnOk l.prog w K mg base CX0 6 fa fd ["_law_script"] (spD K F_law) := by
  have e := hfa.symm.trans (PySem.W.mg_of X G a14)
  cases e
  have T : Top K w mg :=
    { d_law_mix := ⟨_, _, fun_mk (st := s_law_mix) l0 c0 k0, PySem.W.mg_of X G a0⟩
      d_law_web := ⟨_, _, fun_mk (st := s_law_web) l1 c1 k1, PySem.W.mg_of X G a1⟩
      d_law_row := ⟨_, _, fun_mk (st := s_law_row) l2 c2 k2, PySem.W.mg_of X G a2⟩
      d_law_how := ⟨_, _, fun_mk (st := s_law_how) l3 c3 k3, PySem.W.mg_of X G a3⟩
      d_spots_of := ⟨_, _, fun_mk (st := s_spots_of) l4 c4 k4, PySem.W.mg_of X G a4⟩
      d_rising_pair := ⟨_, _, fun_mk (st := s_rising_pair) l5 c5 k5, PySem.W.mg_of X G a5⟩
      d_span_of := ⟨_, _, fun_mk (st := s_span_of) l6 c6 k6, PySem.W.mg_of X G a6⟩
      d_spans_of := ⟨_, _, fun_mk (st := s_spans_of) l7 c7 k7, PySem.W.mg_of X G a7⟩
      d_how_spans_lie := ⟨_, _, fun_mk (st := s_how_spans_lie) l8 c8 k8, PySem.W.mg_of X G a8⟩
      d_how := ⟨_, _, fun_mk (st := s_how) l9 c9 k9, PySem.W.mg_of X G a9⟩
      d_law_ways := ⟨_, _, fun_mk (st := s_law_ways) l10 c10 k10, PySem.W.mg_of X G a10⟩
      d_do_spans_clash := ⟨_, _, fun_mk (st := s_do_spans_clash) l11 c11 k11, PySem.W.mg_of X G a11⟩
      d_clashes := ⟨_, _, fun_mk (st := s_clashes) l12 c12 k12, PySem.W.mg_of X G a12⟩
      d_law_clashes := ⟨_, _, fun_mk (st := s_law_clashes) l13 c13 k13, PySem.W.mg_of X G a13⟩
      d_law := ⟨_, _, fun_mk (st := s_law) l14 c14 k14, PySem.W.mg_of X G a14⟩
      b_enumerate := PySem.W.mg_none_of X G z_enumerate
      b_int := PySem.W.mg_none_of X G z_int
      b_len := PySem.W.mg_none_of X G z_len
      b_list := PySem.W.mg_none_of X G z_list
      b_max := PySem.W.mg_none_of X G z_max
      b_min := PySem.W.mg_none_of X G z_min
      b_range := PySem.W.mg_none_of X G z_range
      b_sorted := PySem.W.mg_none_of X G z_sorted
      b_tuple := PySem.W.mg_none_of X G z_tuple
      x_CLASHING := ⟨_, PySem.W.mg_of X G x_CLASHING, _, _, y_CLASHING, k_CLASHING, by
        intro kv hkv
        simp only [List.mem_cons, List.not_mem_nil, or_false] at hkv
        rcases hkv with rfl | rfl
        · exact ⟨_, v_CLASHING_0⟩
        · exact ⟨_, v_CLASHING_1⟩⟩ }
  exact ⟨_, fun s v => .of_eq rfl, fun base _ _ => law_fn T (fun_mk (st := s_law) l14 c14 k14)⟩
theorem walk {l : PySem.W.OpenLaw} {q : Program} {loose : List Str} {XP : (Str → Option Value) → Heap → Prop} {YP : World → Heap → Prop} {d : DefRec} {K : Params → PySem.W.Frag} (hn : l.most = some 63) (hdf : d.params.defaults = [])
    (hY : ∀ (w : World) (h : Heap), YP w h → (K w.params).In h) (hlaw : ∀ ns : List Int, ns.length ≤ 63 → F_law [.lst (ns.map D.int)] = some (.bl true))
    (F : ∀ (w : World) (mg : Str → Option Value) (fa : Addr) (h : Heap), (K w.params).In h → h.Ns mainGlobals mg → mg d.name = some (.ref fa) →
      ∃ fd : FuncData, (∀ (s : Shared) (u : Value), BindsTo s fd ⟨[u], []⟩ [("_law_script", u)]) ∧ ∀ base : Heap, (K w.params).In base → base.Ns mainGlobals mg → FnOk l.prog w (K w.params) mg base CX0 6 fa fd ["_law_script"] (spD (K w.params) F_law)) :
    PySem.W.WalkO q loose XP YP l.row.toRowW d [] (fun f vs => PySem.call f vs) :=
  L2.walk_of (n := 63) (k := 6) (x := "_law_script") (CX := fun _ => CX0) (sp := fun w => spD (K w.params) F_law) hn (by decide) hdf ⟨rfl, by decide, by decide⟩ hY F (fun w H a ns hl _ hS =>
    ⟨[], [.lst (ns.map D.int)], .bl true, fun z hz => absurd hz (by simp), RepL.one (rep_lst.mpr ⟨a, ns.map V.int, rfl, by rw [hide_nil]; exact hS, repl_ints.mpr rfl⟩), hlaw ns hl, fun v H' _ hv => rep_bl.mp hv⟩) fun _ _ _ _ _ z => z
end P
set_option Elab.async false
set_option linter.all false
namespace L3
open PySem L2
section
variable {ρ ρ' : DEnv} {d e : D} {a b : Bool} {fa fb fc : DEnv → Option D} {ga gb : DEnv → Option Bool} {g k : DEnv → Option Out} {fl gl : DEnv → Option (List D)} {i : Nat} {o : Option Out}
theorem ev_seq {r : Out} (h : g ρ = some (.nx ρ')) (h2 : k ρ' = o) : dSeq g k ρ = o := by unfold dSeq; rw [h]; exact h2
theorem ev_seqR (h : g ρ = some (.rt d)) : dSeq g k ρ = some (.rt d) := by unfold dSeq; rw [h]
theorem ev_ret (h : fa ρ = some d) : dRet fa ρ = some (.rt d) := by unfold dRet; rw [h]
theorem ev_set (h : fa ρ = some d) : dSet i fa ρ = some (.nx (ρ.set i (some (.sh d)))) := by unfold dSet; rw [h]
theorem ev_setF {ds : List D} (h : fl ρ = some ds) : dSetF i fl ρ = some (.nx (ρ.set i (some (.ow ds)))) := by unfold dSetF; rw [h]
theorem ev_ifS (h : ga ρ = some a) : dIfS ga g k ρ = if a = true then g ρ else k ρ := by unfold dIfS; rw [h]; cases a <;> rfl
theorem ev_test (h : fa ρ = some (.bl a)) : dTest fa ρ = some a := by unfold dTest; rw [h]
theorem ev_andT (h : ga ρ = some a) (h2 : a = true → gb ρ = some b) : dAndT ga gb ρ = some (a && b) := by
  unfold dAndT; rw [h]; cases a with
  | true => exact h2 rfl
  | false => rfl
theorem ev_orT (h : ga ρ = some a) (h2 : a = false → gb ρ = some b) : dOrT ga gb ρ = some (a || b) := by
  unfold dOrT; rw [h]; cases a with
  | true => rfl
  | false => exact h2 rfl
theorem ev_if (h : ga ρ = some a) : dIf ga fa fb ρ = if a = true then fa ρ else fb ρ := by unfold dIf; rw [h]; cases a <;> rfl
theorem ev_2 {f : D → D → Option D} {x y : D} (h : fa ρ = some x) (h2 : fb ρ = some y) : d2 f fa fb ρ = f x y := by unfold d2; rw [h, h2]
theorem ev_chain {f f' : D → D → Option D} {x y z : D} (h : fa ρ = some x) (h2 : fb ρ = some y) (h3 : f x y = some (.bl a)) (h4 : a = true → fc ρ = some z) (h5 : a = true → f' y z = some (.bl b)) : dChain f f' fa fb fc ρ = some (.bl (a && b)) := by
  unfold dChain; rw [h, h2]; dsimp only; rw [h3]; cases a with
  | true => dsimp only; rw [h4 rfl]; exact h5 rfl
  | false => rfl
theorem ev_cons {ds : List D} (h : fa ρ = some d) (h2 : fl ρ = some ds) : dCons fa fl ρ = some (d :: ds) := by unfold dCons; rw [h, h2]
theorem ev_call {F : List D → Option D} {ds : List D} (h : fl ρ = some ds) : dCall F fl ρ = F ds := by unfold dCall; rw [h]
theorem ev_tup {ds : List D} (h : fl ρ = some ds) (h2 : ds.length ≤ LIM) : dTup fl ρ = some (.tup ds) := by unfold dTup; rw [h]; dsimp only; rw [if_pos h2]
theorem ev_lim {ds : List D} (h : fl ρ = some ds) (h2 : ds.length ≤ LIM) : dLim fl ρ = some ds := by unfold dLim; rw [h]; dsimp only; rw [if_pos h2]
theorem ev_ls {ds : List D} (h : fl ρ = some ds) : dLs fl ρ = some (.lst ds) := by unfold dLs; rw [h]; rfl
theorem ev_tupF {ds : List D} (h : fl ρ = some ds) : dTupF fl ρ = some (.tup ds) := by unfold dTupF; rw [h]; rfl
theorem ev_sqT {ds : List D} (h : fa ρ = some (.tup ds)) : dSq fa ρ = some ds := by unfold dSq; rw [h]
theorem ev_sqL {ds : List D} (h : fa ρ = some (.lst ds)) : dSq fa ρ = some ds := by unfold dSq; rw [h]
theorem ev_ix {ds : List D} {j : Int} (h : fl ρ = some ds) (h2 : fa ρ = some (.int j)) : dIx fl fa ρ = atI ds j := by unfold dIx; rw [h, h2]
theorem ev_QF {F : List D → Option (List D)} {ds : List D} (h : fl ρ = some ds) : dQF F fl ρ = F ds := by unfold dQF; rw [h]
theorem ev_in {neg : Bool} {ds : List D} (h : fa ρ = some d) (h2 : fl ρ = some ds) (h3 : depthL ds ≤ DEEP) (h4 : depth d ≤ DEEP) : dIn neg fa fl ρ = some (.bl (if neg = true then !inD d ds else inD d ds)) := by unfold dIn; rw [h, h2]; dsimp only; rw [if_pos ⟨h3, h4⟩]
theorem ev_app {ds : List D} (h : dOwn i ρ = some ds) (h2 : fa ρ = some d) (h3 : ds.length < LIM) : dApp i fa ρ = some (.nx (ρ.set i (some (.ow (ds ++ [d]))))) := by unfold dApp; rw [h, h2]; dsimp only; rw [if_pos h3]
theorem ev_ext {ds es : List D} (h : dOwn i ρ = some ds) (h2 : fl ρ = some es) (h3 : ds.length + es.length ≤ LIM) : dExt i fl ρ = some (.nx (ρ.set i (some (.ow (ds ++ es))))) := by unfold dExt; rw [h, h2]; dsimp only; rw [if_pos h3]
theorem ev_for {ds : List D} {h : D → DEnv → Option DEnv} (e : fl ρ = some ds) : dFor fl h g ρ = dLoop h g ds ρ := by unfold dFor; rw [e]
theorem ev_comp {ds : List D} {cap : List (Option Nat)} {h : D → DEnv → Option DEnv} (e : fl ρ = some ds) (hl : ds.length ≤ LIM) : dComp cap fl h ga fa ρ = compGo h ga fa (capE cap ρ) ds := by unfold dComp; rw [e]; dsimp only; rw [if_pos hl]
theorem ev_compX {ds : List D} {cap : List (Option Nat)} {h : D → DEnv → Option DEnv} {fe : DEnv → Option (D × DEnv)} (e : fl ρ = some ds) (hl : ds.length ≤ LIM) : dCompX cap fl h fe ρ = compGoX h fe (capE cap ρ) ds := by unfold dCompX; rw [e]; dsimp only; rw [if_pos hl]
theorem ev_slc {x : D} {lo hi : Option Int} {fo fh : DEnv → Option (Option Int)} (h : fa ρ = some x) (h1 : fo ρ = some lo) (h2 : fh ρ = some hi) : dSlc fa fo fh ρ = dSl x lo hi := by unfold dSlc; rw [h, h1, h2]
theorem ev_rng1 {j : Int} (h : fa ρ = some (.int j)) (h2 : okR j = true) : dRng1 fa ρ = some (dints 0 j.toNat) := by unfold dRng1; rw [h]; dsimp only; rw [if_pos h2]
theorem ev_rng2 {i j : Int} (h : fa ρ = some (.int i)) (h' : fb ρ = some (.int j)) (h1 : okR i = true) (h2 : okR j = true) : dRng2 fa fb ρ = some (dints i (j - i).toNat) := by unfold dRng2; rw [h, h']; dsimp only; rw [if_pos ⟨h1, h2⟩]
theorem ev_listRng {j : Int} (h : fa ρ = some (.int j)) (h1 : -(2 ^ 62) ≤ j) (h2 : j ≤ 100000) : dListRng fa ρ = some ((iUp 0 j.toNat).map D.int) := by unfold dListRng; rw [h]; dsimp only; rw [if_pos ⟨h1, h2⟩]
end
theorem compGo_map {h : D → DEnv → Option DEnv} {fe : DEnv → Option D} (I : DEnv → Prop) (y : D → D) : ∀ (ds : List D) (ρ : DEnv), I ρ → (∀ d ∈ ds, ∀ ρ, I ρ → ∃ ρ1, h d ρ = some ρ1 ∧ I ρ1 ∧ fe ρ1 = some (y d)) → compGo h dTrue fe ρ ds = some (ds.map y)
  | [], _, _, _ => rfl
  | d :: ds, ρ, hI, hs => by
    obtain ⟨ρ1, e1, I1, e2⟩ := hs d List.mem_cons_self ρ hI
    unfold compGo
    rw [e1]
    dsimp only [dTrue]
    rw [e2]
    dsimp only
    rw [compGo_map I y ds ρ1 I1 fun d hd => hs d (List.mem_cons_of_mem _ hd)]
    rfl
theorem compGo_filter {h : D → DEnv → Option DEnv} {ft : DEnv → Option Bool} {fe : DEnv → Option D} (I : DEnv → Prop) (t : D → Bool) (y : D → D) : ∀ (ds : List D) (ρ : DEnv), I ρ → (∀ d ∈ ds, ∀ ρ, I ρ → ∃ ρ1, h d ρ = some ρ1 ∧ I ρ1 ∧ ft ρ1 = some (t d) ∧ (t d = true → fe ρ1 = some (y d))) → compGo h ft fe ρ ds = some ((ds.filter t).map y)
  | [], _, _, _ => rfl
  | d :: ds, ρ, hI, hs => by
    obtain ⟨ρ1, e1, I1, e2, e3⟩ := hs d List.mem_cons_self ρ hI
    have ih := compGo_filter I t y ds ρ1 I1 fun d hd => hs d (List.mem_cons_of_mem _ hd)
    unfold compGo
    rw [e1]
    dsimp only
    rw [e2]
    cases ht : t d with
    | true =>
      dsimp only
      rw [e3 ht, List.filter_cons_of_pos ht]
      dsimp only
      rw [ih]
      rfl
    | false =>
      dsimp only
      rw [List.filter_cons_of_neg (by rw [ht]; simp)]
      exact ih
theorem loop_go {h : D → DEnv → Option DEnv} {g : DEnv → Option Out} (I : List D → DEnv → Prop) {all : List D} (hs : ∀ pre d post ρ, pre ++ d :: post = all → I pre ρ → ∃ ρ1 ρ2, h d ρ = some ρ1 ∧ (g ρ1 = some (.nx ρ2) ∨ g ρ1 = some (.ct ρ2)) ∧ I (pre ++ [d]) ρ2) :
    ∀ (ds pre : List D) (ρ : DEnv), pre ++ ds = all → I pre ρ → ∃ ρ', dLoop h g ds ρ = some (.nx ρ') ∧ I all ρ'
  | [], pre, ρ, e, hI => ⟨ρ, rfl, by rw [← e, List.append_nil]; exact hI⟩
  | d :: ds, pre, ρ, e, hI => by
    obtain ⟨ρ1, ρ2, e1, e2, I2⟩ := hs pre d ds ρ e hI
    obtain ⟨ρ', e3, I3⟩ := loop_go I hs ds (pre ++ [d]) ρ2 (by rw [← e]; simp) I2
    refine ⟨ρ', ?_, I3⟩
    unfold dLoop
    rw [e1]
    dsimp only
    rcases e2 with e2 | e2 <;> (rw [e2]; exact e3)
theorem loop_inv {h : D → DEnv → Option DEnv} {g : DEnv → Option Out} (I : List D → DEnv → Prop) {ds : List D} {ρ : DEnv} (h0 : I [] ρ) (hs : ∀ pre d post ρ, pre ++ d :: post = ds → I pre ρ → ∃ ρ1 ρ2, h d ρ = some ρ1 ∧ (g ρ1 = some (.nx ρ2) ∨ g ρ1 = some (.ct ρ2)) ∧ I (pre ++ [d]) ρ2) :
    ∃ ρ', dLoop h g ds ρ = some (.nx ρ') ∧ I ds ρ' := loop_go I hs ds [] ρ rfl h0
theorem loop_all {h : D → DEnv → Option DEnv} {g : DEnv → Option Out} (I : DEnv → Prop) {ds : List D} {ρ : DEnv} (h0 : I ρ) (hs : ∀ d ∈ ds, ∀ ρ, I ρ → ∃ ρ1 ρ2, h d ρ = some ρ1 ∧ (g ρ1 = some (.nx ρ2) ∨ g ρ1 = some (.ct ρ2)) ∧ I ρ2) :
    ∃ ρ', dLoop h g ds ρ = some (.nx ρ') ∧ I ρ' := loop_inv (fun _ ρ => I ρ) h0 fun pre d post ρ e hI => hs d (by rw [← e]; simp) ρ hI
end L3
set_option Elab.async false
set_option linter.all false
set_option maxRecDepth 100000
namespace P
open PySem L2 L3
theorem dints_get {n k : Nat} (h : k < n) : (dints 0 n)[k]? = some (.int (k : Int)) := by
  unfold dints
  rw [List.getElem?_map, List.getElem?_range h]
  simp
theorem dints_len (lo : Int) (n : Nat) : (dints lo n).length = n := by unfold dints; simp
theorem dints_mem {n : Nat} {d : D} (h : d ∈ dints 0 n) : ∃ k : Nat, k < n ∧ d = .int (k : Int) := by
  unfold dints at h
  obtain ⟨k, hk, rfl⟩ := List.mem_map.mp h
  exact ⟨k, List.mem_range.mp hk, by simp⟩
def mix (c p m : Int) : Int := c * 48271 % p % m
theorem mul_ok (c : Int) {k : Int} (h : small64 k = true) : dMul (.int c) (.int k) = some (.int (c * k)) := by
  unfold dMul dMulI gIC
  dsimp only
  rw [if_pos (by rw [h, Bool.or_true])]
theorem mul_ok' (c : Int) {k : Int} (h : small64 k = true) : dMul (.int k) (.int c) = some (.int (k * c)) := by
  unfold dMul dMulI gIC
  dsimp only
  rw [if_pos (by rw [h, Bool.true_or])]
theorem mod_ok (c : Int) {k : Int} (h : 0 < k) : dModI (.int c) (.int k) = some (.int (c % k)) := by
  unfold dModI gIC
  dsimp only
  rw [if_pos (decide_eq_true h)]
theorem F_law_mix_eq (c : Int) {p m : Int} (hp : 0 < p) (hm : 0 < m) : F_law_mix [.int c, .int p, .int m] = some (.int (mix c p m)) := by
  show outD (dRet _ _) = _
  rw [ev_ret (d := .int (mix c p m))]
  · rfl
  · exact (ev_2 (x := .int (c * 48271 % p)) (y := .int m) ((ev_2 (x := .int (c * 48271)) (y := .int p) ((ev_2 (x := .int c) (y := .int 48271) rfl rfl).trans (mul_ok c (by decide))) rfl).trans (mod_ok _ hp)) rfl).trans (mod_ok _ hm)
theorem mix_lo (c p : Int) {m : Int} (h : 0 < m) : 0 ≤ mix c p m := Int.emod_nonneg _ (by omega)
theorem mix_hi (c p : Int) {m : Int} (h : 0 < m) : mix c p m < m := Int.emod_lt_of_pos _ h
abbrev Tie := Int × Int
def tieD (t : Tie) : D := .tup [.int t.1, .int t.2]
theorem beq_tie (s t : Tie) : beq (tieD s) (tieD t) = decide (s = t) := by
  show (s.1 == t.1 && (s.2 == t.2 && true)) = _
  rw [Bool.and_true]
  obtain ⟨a, b⟩ := s
  obtain ⟨c, d⟩ := t
  by_cases h1 : a = c
  · by_cases h2 : b = d
    · subst h1 h2; simp
    · have : ¬ ((a, b) = (c, d)) := fun z => h2 (Prod.mk.inj z).2
      rw [decide_eq_false this]
      simp [h2]
  · have : ¬ ((a, b) = (c, d)) := fun z => h1 (Prod.mk.inj z).1
    rw [decide_eq_false this]
    simp [h1]
theorem inD_tie (t : Tie) : ∀ ts : List Tie, inD (tieD t) (ts.map tieD) = decide (t ∈ ts)
  | [] => by simp [inD]
  | s :: ts => by
    have ih := inD_tie t ts
    unfold inD at ih ⊢
    rw [List.map_cons, List.any_cons, ih, beq_tie]
    by_cases h : s = t
    · subst h; simp
    · have h' : ¬ t = s := fun z => h z.symm
      simp [h, h']
theorem depth_tie (t : Tie) : depth (tieD t) = 1 := by
  unfold tieD
  simp [depth, depthL]
theorem depthL_ties : ∀ ts : List Tie, depthL (ts.map tieD) ≤ 1
  | [] => by rw [List.map_nil, depthL]; omega
  | t :: ts => by
    have := depthL_ties ts
    have h2 := depth_tie t
    rw [List.map_cons, depthL]; omega
def tlt (s t : Tie) : Prop := s.1 < t.1 ∨ (s.1 = t.1 ∧ s.2 < t.2)
instance (s t : Tie) : Decidable (tlt s t) := inferInstanceAs (Decidable (_ ∨ _))
theorem lex_tie (s t : Tie) : HT.lexLt [s.1, s.2] [t.1, t.2] = decide (tlt s t) := by
  have key : HT.lexLt [s.1, s.2] [t.1, t.2] = true ↔ tlt s t := by
    rw [HT.lexLt_cons]
    unfold tlt
    by_cases h1 : s.1 = t.1
    · rw [if_pos h1, HT.lexLt_cons]
      by_cases h2 : s.2 = t.2
      · rw [if_pos h2, HT.lexLt_nil_nil]
        exact ⟨fun z => absurd z (by decide), fun z => absurd z (by omega)⟩
      · rw [if_neg h2, decide_eq_true_iff]
        omega
    · rw [if_neg h1, decide_eq_true_iff]
      omega
  by_cases h : tlt s t
  · rw [decide_eq_true h]; exact key.mpr h
  · rw [decide_eq_false h]; exact Bool.eq_false_iff.mpr fun z => h (key.mp z)
theorem tlt_irr (s : Tie) : ¬ tlt s s := by unfold tlt; omega
theorem tlt_trans {s t u : Tie} (h : tlt s t) (h' : tlt t u) : tlt s u := by unfold tlt at *; omega
theorem tlt_total (s t : Tie) : tlt s t ∨ s = t ∨ tlt t s := by
  obtain ⟨a, b⟩ := s
  obtain ⟨c, d⟩ := t
  unfold tlt
  dsimp only
  by_cases h : a = c
  · by_cases h2 : b = d
    · subst h h2; exact .inr (.inl rfl)
    · omega
  · omega
def tieN (t : Tie) : List Int := [t.1, t.2]
def untie (ns : List Int) : Tie := (ns.getD 0 0, ns.getD 1 0)
def sortP (ts : List Tie) : List Tie := (sortT (ts.map tieN)).map untie
theorem sortP_eq (ts : List Tie) : sortT (ts.map tieN) = (sortP ts).map tieN := by
  unfold sortP
  rw [List.map_map]
  have : ∀ ns ∈ sortT (ts.map tieN), (tieN ∘ untie) ns = ns := fun ns h => by
    have h' := (sortT_perm (ts.map tieN)).mem_iff.mp h
    obtain ⟨t, _, rfl⟩ := List.mem_map.mp h'
    rfl
  exact ((List.map_congr_left this).trans (List.map_id _)).symm
theorem sortP_perm (ts : List Tie) : (sortP ts).Perm ts := by
  have h := (sortT_perm (ts.map tieN)).map untie
  have e : (ts.map tieN).map untie = ts := by
    rw [List.map_map]
    exact (List.map_congr_left (fun t _ => rfl : ∀ t ∈ ts, (untie ∘ tieN) t = t)).trans (List.map_id _)
  rw [e] at h
  exact h
theorem sortP_up (ts : List Tie) (hn : ts.Nodup) : (sortP ts).Pairwise tlt := by
  have h := sortT_up (ts.map tieN)
  rw [sortP_eq, List.pairwise_map] at h
  have hn' : (sortP ts).Nodup := (sortP_perm ts).nodup_iff.mpr hn
  have := h.and hn'
  refine this.imp fun {s t} q => ?_
  obtain ⟨q1, q2⟩ := q
  have : decide (tlt t s) = false := (lex_tie t s).symm.trans q1
  have n1 := of_decide_eq_false this
  rcases tlt_total s t with z | z | z
  · exact z
  · exact absurd z q2
  · exact absurd z n1
theorem sortD_ties {ts : List Tie} (h : ts.length < 64) : sortD (ts.map tieD) = some ((sortP ts).map tieD) := by
  unfold sortD
  rw [if_pos (by rw [List.length_map]; exact h)]
  cases ts with
  | nil =>
    show some ((sortI []).map D.int) = some ((sortP []).map tieD)
    unfold sortP sortI sortT
    simp
  | cons t ts =>
    have e1 : intsOf ((t :: ts).map tieD) = none := rfl
    have e2 : tupsOf ((t :: ts).map tieD) = some ((t :: ts).map tieN) := by
      have := tupsOf_map (nss := (t :: ts).map tieN) (fun ns h => by
        obtain ⟨u, _, rfl⟩ := List.mem_map.mp h
        simp [tieN])
      rw [List.map_map] at this
      exact this
    rw [e1]
    dsimp only
    rw [e2]
    dsimp only
    rw [sortP_eq, List.map_map]
    rfl
structure IsWeb (n : Int) (ts : List Tie) : Prop where
  lo : 1 ≤ n
  hi : n ≤ 6
  up : ts.Pairwise tlt
  ok : ∀ t ∈ ts, 0 ≤ t.1 ∧ t.1 < t.2 ∧ t.2 < n
def webD (n : Int) (ts : List Tie) : D := .tup [.int n, .tup (ts.map tieD)]
theorem ne_int (a b : Int) : dNe (.int a) (.int b) = some (.bl (!(a == b))) := rfl
theorem gt_int (a b : Int) : dGtI (.int a) (.int b) = some (.bl (decide (b < a))) := rfl
theorem min_ok (a b : Int) : fMin [.int a, .int b] = some (.int (min a b)) := by
  show some (D.int (if b < a then b else a)) = _
  by_cases h : b < a
  · rw [if_pos h, Int.min_eq_right (by omega)]
  · rw [if_neg h, Int.min_eq_left (by omega)]
theorem max_ok (a b : Int) : fMax [.int a, .int b] = some (.int (max a b)) := by
  show some (D.int (if b > a then b else a)) = _
  by_cases h : b > a
  · rw [if_pos h, Int.max_eq_right (by omega)]
  · rw [if_neg h, Int.max_eq_left (by omega)]
def webTurn : DEnv → Option Out :=
  dSeq (dSet 6 (dCall F_law_mix (dCons (d2 dAdd (dVar 0) (d2 dMul (dC (.int 11)) (dVar 5))) (dCons (dC (.int 9949)) (dCons (dVar 3) (dNil))))))
  (dSeq (dSet 7 (dCall F_law_mix (dCons (d2 dAdd (d2 dAdd (dVar 0) (d2 dMul (dC (.int 13)) (dVar 5))) (dC (.int 1))) (dCons (dC (.int 9941)) (dCons (dVar 3) (dNil))))))
  (dSeq (dSet 8 (dTup (dCons (dCall fMin (dCons (dVar 6) (dCons (dVar 7) dNil))) (dCons (dCall fMax (dCons (dVar 6) (dCons (dVar 7) dNil))) (dNil)))))
  (dIfS (dAndT (dTest (d2 dNe (dVar 6) (dVar 7))) (dTest (dIn true (dVar 8) (dOwn 4))))
  (dApp 4 (dVar 8))
  (dNext))))
theorem webTurn_ok {c m t : D} {cc n k : Int} {ts : List Tie} {c6 c7 c8 : Option Cell} (hn : 0 < n) (hok : ∀ t ∈ ts, 0 ≤ t.1 ∧ t.1 < t.2 ∧ t.2 < n) (hnd : ts.Nodup) (hl : ts.length ≤ 1000) :
    ∃ (ts' : List Tie) (c6' c7' c8' : Option Cell), webTurn [some (.sh (.int cc)), some (.sh m), some (.sh t), some (.sh (.int n)), some (.ow (ts.map tieD)), some (.sh (.int k)), c6, c7, c8] =
      some (.nx [some (.sh (.int cc)), some (.sh m), some (.sh t), some (.sh (.int n)), some (.ow (ts'.map tieD)), some (.sh (.int k)), c6', c7', c8']) ∧ (∀ t ∈ ts', 0 ≤ t.1 ∧ t.1 < t.2 ∧ t.2 < n) ∧ ts'.Nodup ∧ ts'.length ≤ ts.length + 1 := by
  have a1 := mix_lo (cc + 11 * k) 9949 hn
  have a2 := mix_hi (cc + 11 * k) 9949 hn
  have b1 := mix_lo (cc + 13 * k + 1) 9941 hn
  have b2 := mix_hi (cc + 13 * k + 1) 9941 hn
  generalize e1 : mix (cc + 11 * k) 9949 n = a at a1 a2
  generalize e2 : mix (cc + 13 * k + 1) 9941 n = b at b1 b2
  have f1 : F_law_mix [.int (cc + 11 * k), .int 9949, .int n] = some (.int a) := by rw [F_law_mix_eq _ (by decide) hn, e1]
  have f2 : F_law_mix [.int (cc + 13 * k + 1), .int 9941, .int n] = some (.int b) := by rw [F_law_mix_eq _ (by decide) hn, e2]
  have g0 : ∀ ρ : DEnv, ρ[0]? = some (some (.sh (.int cc))) → ρ[5]? = some (some (.sh (.int k))) → ∀ j : Int, small64 j = true → d2 dAdd (dVar 0) (d2 dMul (dC (.int j)) (dVar 5)) ρ = some (.int (cc + j * k)) := fun ρ h0 h5 j hj => by
    have z0 : dVar 0 ρ = some (.int cc) := by unfold dVar; rw [h0]
    have z5 : dVar 5 ρ = some (.int k) := by unfold dVar; rw [h5]
    exact (ev_2 z0 ((ev_2 (x := .int j) (y := .int k) rfl z5).trans (mul_ok' k hj))).trans rfl
  let tie : Tie := (min a b, max a b)
  have step : webTurn [some (.sh (.int cc)), some (.sh m), some (.sh t), some (.sh (.int n)), some (.ow (ts.map tieD)), some (.sh (.int k)), c6, c7, c8] =
      dIfS (dAndT (dTest (d2 dNe (dVar 6) (dVar 7))) (dTest (dIn true (dVar 8) (dOwn 4)))) (dApp 4 (dVar 8)) dNext
        [some (.sh (.int cc)), some (.sh m), some (.sh t), some (.sh (.int n)), some (.ow (ts.map tieD)), some (.sh (.int k)), some (.sh (.int a)), some (.sh (.int b)), some (.sh (tieD tie))] := by
    refine ev_seq (r := .rt .non) (ev_set (d := .int a) ((ev_call (ds := [.int (cc + 11 * k), .int 9949, .int n]) (ev_cons (g0 _ rfl rfl 11 (by decide)) rfl)).trans f1)) ?_
    refine ev_seq (r := .rt .non) (ev_set (d := .int b) ((ev_call (ds := [.int (cc + 13 * k + 1), .int 9941, .int n]) (ev_cons ((ev_2 (g0 _ rfl rfl 13 (by decide)) rfl).trans rfl) rfl)).trans f2)) ?_
    exact ev_seq (r := .rt .non) (ev_set (d := tieD tie) (ev_tup (ds := [.int tie.1, .int tie.2]) (ev_cons ((ev_call (ds := [.int a, .int b]) rfl).trans (min_ok a b)) (ev_cons ((ev_call (ds := [.int a, .int b]) rfl).trans (max_ok a b)) rfl)) (show 2 ≤ LIM by decide))) rfl
  rw [step]
  have et : dAndT (dTest (d2 dNe (dVar 6) (dVar 7))) (dTest (dIn true (dVar 8) (dOwn 4))) [some (.sh (.int cc)), some (.sh m), some (.sh t), some (.sh (.int n)), some (.ow (ts.map tieD)), some (.sh (.int k)), some (.sh (.int a)), some (.sh (.int b)), some (.sh (tieD tie))] = some (!(a == b) && !decide (tie ∈ ts)) := by
    refine ev_andT (ev_test rfl) fun _ => ev_test ((ev_in (d := tieD tie) (ds := ts.map tieD) rfl rfl (Nat.le_trans (depthL_ties ts) (by decide)) (by rw [depth_tie]; decide)).trans ?_)
    rw [inD_tie]
    rfl
  rw [ev_ifS et]
  cases hc : (!(a == b) && !decide (tie ∈ ts)) with
  | false =>
    exact ⟨ts, _, _, _, rfl, hok, hnd, Nat.le_succ _⟩
  | true =>
    rw [Bool.and_eq_true] at hc
    have hne : a ≠ b := by simpa using hc.1
    have hni : tie ∉ ts := by simpa using hc.2
    refine ⟨ts ++ [tie], some (.sh (.int a)), some (.sh (.int b)), some (.sh (tieD tie)), ?_, fun u hu => ?_, ?_, by simp⟩
    · rw [if_pos rfl]
      refine (ev_app (ds := ts.map tieD) (d := tieD tie) rfl rfl (by rw [List.length_map]; unfold LIM; omega)).trans ?_
      rw [List.map_append]
      rfl
    · rcases List.mem_append.mp hu with z | z
      · exact hok u z
      · have : u = tie := by simpa using z
        subst this
        show 0 ≤ min a b ∧ min a b < max a b ∧ max a b < n
        omega
    · rw [List.nodup_append]
      refine ⟨hnd, by simp, fun x hx y hy => ?_⟩
      have : y = tie := by simpa using hy
      subst this
      exact fun z => hni (z ▸ hx)
theorem F_law_web_ok (c : Int) {most ties : Int} (h1 : 1 ≤ most) (h6 : most ≤ 6) (t0 : 0 ≤ ties) (t12 : ties ≤ 12) :
    ∃ (n : Int) (ts : List Tie), F_law_web [.int c, .int most, .int ties] = some (webD n ts) ∧ IsWeb n ts ∧ n ≤ most ∧ (ts.length : Int) ≤ ties := by
  have a1 := mix_lo c 9973 (show 0 < most by omega)
  have a2 := mix_hi c 9973 (show 0 < most by omega)
  have b1 := mix_lo c 9967 (show 0 < ties + 1 by omega)
  have b2 := mix_hi c 9967 (show 0 < ties + 1 by omega)
  obtain ⟨n, hn1, hn2, e1⟩ : ∃ n : Int, 1 ≤ n ∧ n ≤ most ∧ ∀ k : DEnv → Option Out, dSeq (dSet 3 (d2 dAdd (dC (.int 1)) (dCall F_law_mix (dCons (dVar 0) (dCons (dC (.int 9973)) (dCons (dVar 1) (dNil)))))))
      (dSeq (dIfS (dAndT (dTest (d2 dLt (dVar 3) (dC (.int 4)))) (dTest (d2 dGtI (d2 dModI (dVar 0) (dC (.int 4))) (dC (.int 0))))) (dSet 3 (dVar 1)) (dNext)) k) [some (.sh (.int c)), some (.sh (.int most)), some (.sh (.int ties)), none, none, none, none, none, none] =
      k [some (.sh (.int c)), some (.sh (.int most)), some (.sh (.int ties)), some (.sh (.int n)), none, none, none, none, none] := by
    have s1 : ∀ k, dSeq (dSet 3 (d2 dAdd (dC (.int 1)) (dCall F_law_mix (dCons (dVar 0) (dCons (dC (.int 9973)) (dCons (dVar 1) (dNil))))))) k [some (.sh (.int c)), some (.sh (.int most)), some (.sh (.int ties)), none, none, none, none, none, none] =
        k [some (.sh (.int c)), some (.sh (.int most)), some (.sh (.int ties)), some (.sh (.int (1 + mix c 9973 most))), none, none, none, none, none] := fun k =>
      ev_seq (r := .rt .non) (ev_set (d := .int (1 + mix c 9973 most)) ((ev_2 (x := .int 1) (y := .int (mix c 9973 most)) rfl ((ev_call (ds := [.int c, .int 9973, .int most]) rfl).trans (F_law_mix_eq c (by decide) (by omega)))).trans rfl)) rfl
    have s2 : dAndT (dTest (d2 dLt (dVar 3) (dC (.int 4)))) (dTest (d2 dGtI (d2 dModI (dVar 0) (dC (.int 4))) (dC (.int 0)))) [some (.sh (.int c)), some (.sh (.int most)), some (.sh (.int ties)), some (.sh (.int (1 + mix c 9973 most))), none, none, none, none, none] = some (decide (1 + mix c 9973 most < 4) && decide (0 < c % 4)) :=
      ev_andT (ev_test rfl) fun _ => ev_test ((ev_2 (x := .int (c % 4)) (y := .int 0) ((ev_2 (x := .int c) (y := .int 4) rfl rfl).trans (mod_ok c (by decide))) rfl).trans rfl)
    cases hc : (decide (1 + mix c 9973 most < 4) && decide (0 < c % 4)) with
    | true =>
      refine ⟨most, h1, Int.le_refl _, fun k => (s1 _).trans (ev_seq (r := .rt .non) ((ev_ifS s2).trans ?_) rfl)⟩
      rw [hc]; rfl
    | false =>
      refine ⟨1 + mix c 9973 most, by omega, by omega, fun k => (s1 _).trans (ev_seq (r := .rt .non) ((ev_ifS s2).trans ?_) rfl)⟩
      rw [hc]; rfl
  have hok : okR (mix c 9967 (ties + 1)) = true := by unfold okR; rw [decide_eq_true (by omega), decide_eq_true (by omega)]; rfl
  obtain ⟨ρ', l1, ts, c5, c6, c7, c8, rfl, q1, q2, q3⟩ := loop_inv (h := dName 5) (g := webTurn) (fun pre ρ => ∃ (ts : List Tie) (c5 c6 c7 c8 : Option Cell), ρ = [some (.sh (.int c)), some (.sh (.int most)), some (.sh (.int ties)), some (.sh (.int n)), some (.ow (ts.map tieD)), c5, c6, c7, c8] ∧ (∀ t ∈ ts, 0 ≤ t.1 ∧ t.1 < t.2 ∧ t.2 < n) ∧ ts.Nodup ∧ ts.length ≤ pre.length)
    (ds := dints 0 (mix c 9967 (ties + 1)).toNat) (ρ := [some (.sh (.int c)), some (.sh (.int most)), some (.sh (.int ties)), some (.sh (.int n)), some (.ow []), none, none, none, none]) ⟨[], none, none, none, none, rfl, fun t h => absurd h (by simp), List.nodup_nil, Nat.le_refl _⟩ (fun pre d post ρ he hI => by
      obtain ⟨ts, c5, c6, c7, c8, rfl, q1, q2, q3⟩ := hI
      obtain ⟨k, hk, rfl⟩ := dints_mem (show d ∈ dints 0 _ by rw [← he]; simp)
      have hlen := congrArg List.length he
      rw [dints_len, List.length_append] at hlen
      obtain ⟨ts', c6', c7', c8', w1, w2, w3, w4⟩ := webTurn_ok (c := .non) (cc := c) (m := .int most) (t := .int ties) (k := (k : Int)) (c6 := c6) (c7 := c7) (c8 := c8) (show 0 < n by omega) q1 q2 (by omega)
      refine ⟨_, _, rfl, .inl w1, ts', _, c6', c7', c8', rfl, w2, w3, ?_⟩
      rw [List.length_append]
      exact Nat.le_trans w4 (Nat.succ_le_succ q3))
  have hts : (ts.length : Int) ≤ ties := by
    rw [dints_len] at q3
    omega
  refine ⟨n, sortP ts, ?_, ⟨hn1, by omega, sortP_up ts q2, fun t ht => q1 t ((sortP_perm ts).mem_iff.mp ht)⟩, hn2, by rw [(sortP_perm ts).length_eq]; exact hts⟩
  show outD (g_law_web [some (.sh (.int c)), some (.sh (.int most)), some (.sh (.int ties)), none, none, none, none, none, none]) = _
  have fin : g_law_web [some (.sh (.int c)), some (.sh (.int most)), some (.sh (.int ties)), none, none, none, none, none, none] = some (.rt (webD n (sortP ts))) := by
    refine (e1 _).trans (ev_seq (r := .rt .non) (ev_setF (ds := []) (ev_lim (ds := []) rfl (by decide))) ?_)
    refine ev_seq (r := .rt .non) ((ev_for (ds := dints 0 (mix c 9967 (ties + 1)).toNat) ?_).trans l1) ?_
    · exact ev_rng1 ((ev_call (ds := [.int c, .int 9967, .int (ties + 1)]) rfl).trans (F_law_mix_eq c (by decide) (by omega))) hok
    · refine ev_ret (ev_tup (ds := [.int n, .tup ((sortP ts).map tieD)]) (ev_cons rfl (ev_cons (ev_tupF ((ev_QF (ds := ts.map tieD) rfl).trans (sortD_ties (by omega)))) rfl)) (show 2 ≤ LIM by decide))
  rw [fin]
  rfl
theorem dints_succ (lo : Int) (m : Nat) : dints lo (m + 1) = .int lo :: dints (lo + 1) m := by
  unfold dints
  rw [List.range_succ_eq_map, List.map_cons, List.map_map]
  congr 1
  · simp
  · refine List.map_congr_left fun k _ => ?_
    simp only [Function.comp]
    congr 1
    omega
theorem ixN_nat {n j : Nat} (h : j < n) : ixN n (j : Int) = some j := by
  unfold ixN
  rw [if_pos (by omega), if_pos (by omega), Int.toNat_natCast]
theorem map_erase {α β : Type} (f : α → β) : ∀ (l : List α) (j : Nat), (l.map f).eraseIdx j = (l.eraseIdx j).map f
  | [], _ => rfl
  | _ :: _, 0 => rfl
  | a :: l, j + 1 => by
    show f a :: (l.map f).eraseIdx j = f a :: (l.eraseIdx j).map f
    rw [map_erase f l j]
theorem erase_perm {α : Type} : ∀ (l : List α) (j : Nat) (h : j < l.length), (l[j] :: l.eraseIdx j).Perm l
  | a :: l, 0, _ => List.Perm.refl _
  | a :: l, j + 1, h => by
    have ih := erase_perm l j (by simpa using h)
    have hj : j < l.length := by simpa using h
    show (l[j] :: a :: l.eraseIdx j).Perm (a :: l)
    exact (List.Perm.swap _ _ _).trans (ih.cons a)
def rowElt : DEnv → Option (D × DEnv) := dPop 1 (dCall F_law_mix (dCons (d2 dAdd (dVar 2) (d2 dMul (dC (.int 5)) (dVar 0))) (dCons (dC (.int 9931)) (dCons (d2 dSubI (dVar 3) (dVar 0)) (dNil)))))
theorem rowElt_ok {c : Int} {n k : Nat} {ls : List Int} (hl : ls.length + k = n) (hk : k < n) (hn : n ≤ 1000) :
    ∃ (j : Nat) (h : j < ls.length), rowElt [some (.sh (.int (k : Int))), some (.ow (ls.map D.int)), some (.sh (.int c)), some (.sh (.int (n : Int)))] = some (.int ls[j], [some (.sh (.int (k : Int))), some (.ow ((ls.eraseIdx j).map D.int)), some (.sh (.int c)), some (.sh (.int (n : Int)))]) := by
  have hm : (0 : Int) < (n : Int) - (k : Int) := by omega
  have a1 := mix_lo (c + 5 * (k : Int)) 9931 hm
  have a2 := mix_hi (c + 5 * (k : Int)) 9931 hm
  obtain ⟨j, hj⟩ := Int.eq_ofNat_of_zero_le a1
  have hj' : j < ls.length := by omega
  refine ⟨j, hj', ?_⟩
  have ef : dCall F_law_mix (dCons (d2 dAdd (dVar 2) (d2 dMul (dC (.int 5)) (dVar 0))) (dCons (dC (.int 9931)) (dCons (d2 dSubI (dVar 3) (dVar 0)) (dNil)))) [some (.sh (.int (k : Int))), some (.ow (ls.map D.int)), some (.sh (.int c)), some (.sh (.int (n : Int)))] = some (.int (j : Int)) := by
    refine (ev_call (ds := [.int (c + 5 * (k : Int)), .int 9931, .int ((n : Int) - (k : Int))]) (ev_cons ((ev_2 (x := .int c) (y := .int (5 * (k : Int))) rfl ((ev_2 (x := .int 5) (y := .int (k : Int)) rfl rfl).trans (mul_ok' _ (by decide)))).trans rfl) rfl)).trans ?_
    rw [F_law_mix_eq _ (by decide) hm, hj]
  have eo : dOwn 1 [some (.sh (.int (k : Int))), some (.ow (ls.map D.int)), some (.sh (.int c)), some (.sh (.int (n : Int)))] = some (ls.map D.int) := rfl
  unfold rowElt dPop
  rw [eo, ef]
  dsimp only
  rw [List.length_map, ixN_nat hj']
  dsimp only
  rw [List.getElem?_map, List.getElem?_eq_getElem hj']
  dsimp only [Option.map_some]
  rw [if_pos (by unfold LIM; omega), map_erase]
  rfl
theorem row_go {c : Int} {n : Nat} (hn : n ≤ 1000) : ∀ (m k : Nat) (ls : List Int) (c0 : Option Cell), ls.length = m → m + k = n →
    ∃ r : List Int, compGoX (dName 0) rowElt [c0, some (.ow (ls.map D.int)), some (.sh (.int c)), some (.sh (.int (n : Int)))] (dints (k : Int) m) = some (r.map D.int) ∧ r.Perm ls
  | 0, k, ls, c0, hl, hk => by
    have : ls = [] := List.eq_nil_of_length_eq_zero hl
    subst this
    exact ⟨[], rfl, List.Perm.refl _⟩
  | m + 1, k, ls, c0, hl, hk => by
    obtain ⟨j, hj, e⟩ := rowElt_ok (c := c) (n := n) (k := k) (ls := ls) (by omega) (by omega) hn
    obtain ⟨r, e2, hp⟩ := row_go hn m (k + 1) (ls.eraseIdx j) (some (.sh (.int (k : Int)))) (by rw [List.length_eraseIdx, if_pos hj]; omega) (by omega)
    refine ⟨ls[j] :: r, ?_, (hp.cons _).trans (erase_perm ls j hj)⟩
    rw [dints_succ]
    unfold compGoX
    show (match rowElt [some (.sh (.int (k : Int))), some (.ow (ls.map D.int)), some (.sh (.int c)), some (.sh (.int (n : Int)))] with
      | some (y, ρ2) => (match compGoX (dName 0) rowElt ρ2 (dints ((k : Int) + 1) m) with | some ys => some (y :: ys) | none => none)
      | none => none) = _
    rw [e]
    dsimp only
    have ek : ((k : Int) + 1) = ((k + 1 : Nat) : Int) := by omega
    rw [ek, e2]
    rfl
theorem F_law_row_ok (c : Int) {n : Int} (h0 : 0 ≤ n) (h1 : n ≤ 1000) : ∃ r : List Int, F_law_row [.int c, .int n] = some (.tup (r.map D.int)) ∧ r.Perm (iUp 0 n.toNat) := by
  obtain ⟨m, rfl⟩ := Int.eq_ofNat_of_zero_le h0
  have hlen : (iUp 0 m).length = m := by unfold iUp; rw [List.length_map, List.length_range]
  obtain ⟨r, e, hp⟩ := row_go (c := c) (n := m) (by omega) m 0 (iUp 0 m) none hlen (by omega)
  have e0 : ((0 : Nat) : Int) = 0 := rfl
  rw [e0] at e
  refine ⟨r, ?_, by rw [Int.toNat_natCast]; exact hp⟩
  have fin : g_law_row [some (.sh (.int c)), some (.sh (.int (m : Int))), none] = some (.rt (.tup (r.map D.int))) := by
    have el : dListRng (dVar 1) [some (.sh (.int c)), some (.sh (.int (m : Int))), none] = some ((iUp 0 m).map D.int) := by
      rw [ev_listRng (j := (m : Int)) rfl (by omega) (by omega), Int.toNat_natCast]
    refine ev_seq (r := .rt .non) (ev_setF (ds := (iUp 0 m).map D.int) el) ?_
    have er : dRng1 (dVar 1) [some (.sh (.int c)), some (.sh (.int (m : Int))), some (.ow ((iUp 0 m).map D.int))] = some (dints 0 m) := by
      rw [ev_rng1 (j := (m : Int)) rfl (by unfold okR; rw [decide_eq_true (by omega), decide_eq_true (by omega)]; rfl), Int.toNat_natCast]
    exact ev_ret (ev_tupF ((ev_compX er (by rw [dints_len]; unfold LIM; omega)).trans e))
  show outD (g_law_row [some (.sh (.int c)), some (.sh (.int (m : Int))), none]) = _
  rw [fin]
  rfl
theorem upTo_len (n : Nat) : (iUp 0 n).length = n := by unfold iUp; simp
end P
set_option Elab.async false
set_option linter.all false
set_option maxRecDepth 100000
namespace P
open PySem L2 L3
def ixI (r : List Int) (p : Int) : Int := (r.idxOf p : Nat)
def spotsK (r : List Int) : List Key := r.map Sum.inl
theorem spotsK_app (r : List Int) (p : Int) : spotsK (r ++ [p]) = spotsK r ++ [Sum.inl p] := by unfold spotsK; rw [List.map_append]; rfl
theorem spotsK_mem {r : List Int} {p : Int} : (Sum.inl p : Key) ∈ spotsK r ↔ p ∈ r := by
  unfold spotsK
  constructor
  · intro h
    obtain ⟨q, hq, e⟩ := List.mem_map.mp h
    cases e
    exact hq
  · exact fun h => List.mem_map_of_mem h
theorem spotsK_nodup {r : List Int} (h : r.Nodup) : (spotsK r).Nodup := by
  unfold spotsK
  exact List.pairwise_map.mpr (h.imp fun {a b} hab z => hab (Sum.inl.inj z))
theorem putD_new : ∀ (ks : List Key) (vs : List D) (j : Key) (d : D), ks.length = vs.length → j ∉ ks → putD ks vs j d = (ks ++ [j], vs ++ [d])
  | [], [], _, _, _, _ => rfl
  | [], _ :: _, _, _, h, _ => by cases h
  | _ :: _, [], _, _, h, _ => by cases h
  | k :: ks, v :: vs, j, d, hl, hn => by
    have hne : k ≠ j := fun z => hn (z ▸ List.mem_cons_self)
    unfold putD
    rw [if_neg hne, putD_new ks vs j d (by simpa using hl) fun z => hn (List.mem_cons_of_mem _ z)]
    rfl
theorem dints_snoc (n : Nat) : dints 0 (n + 1) = dints 0 n ++ [.int (n : Int)] := by
  unfold dints
  rw [List.range_succ, List.map_append]
  simp
theorem look_spots : ∀ (r : List Int) (k : Nat) (p : Int), p ∈ r → lookD (spotsK r) (dints (k : Int) r.length) (Sum.inl p) = some (.int ((k + r.idxOf p : Nat) : Int))
  | [], _, _, h => by cases h
  | q :: r, k, p, h => by
    have e : dints (k : Int) (q :: r).length = .int (k : Int) :: dints ((k + 1 : Nat) : Int) r.length := by
      rw [List.length_cons, dints_succ]; rfl
    rw [e]
    show (if (Sum.inl q : Key) = Sum.inl p then some (D.int (k : Int)) else lookD (spotsK r) (dints ((k + 1 : Nat) : Int) r.length) (Sum.inl p)) = _
    by_cases hq : q = p
    · subst hq
      rw [if_pos rfl, List.idxOf_cons_self]
      rfl
    · have hp : p ∈ r := by
        rcases List.mem_cons.mp h with z | z
        · exact absurd z.symm hq
        · exact z
      have hi : (q :: r).idxOf p = r.idxOf p + 1 := by
        rw [List.idxOf_cons, beq_false_of_ne hq]; rfl
      rw [if_neg fun z => hq (Sum.inl.inj z), look_spots r (k + 1) p hp, hi]
      congr 2
      omega
theorem look_row {r : List Int} {p : Int} (h : p ∈ r) : lookD (spotsK r) (dints 0 r.length) (Sum.inl p) = some (.int (ixI r p)) := by
  have := look_spots r 0 p h
  rw [Nat.zero_add] at this
  exact this
theorem fill_ok {rw' : D} : ∀ (r done : List Int) (c3 c4 : Option Cell), (done ++ r).Nodup → (done ++ r).length ≤ 1000 →
    ∃ c3' c4', dLoop (dGTup 2 (dGCons (dName 2) (dGCons (dName 3) (dGNil)))) (dPut 1 (dVar 3) (dVar 2)) (enumD done.length (r.map D.int)) [some (.sh rw'), some (.od (spotsK done) (dints 0 done.length)), c3, c4] =
      some (.nx [some (.sh rw'), some (.od (spotsK (done ++ r)) (dints 0 (done ++ r).length)), c3', c4'])
  | [], done, c3, c4, _, _ => ⟨c3, c4, by rw [List.append_nil]; rfl⟩
  | p :: r, done, c3, c4, hn, hl => by
    have hn' : ((done ++ [p]) ++ r).Nodup := by rw [List.append_assoc]; exact hn
    have hl' : ((done ++ [p]) ++ r).length ≤ 1000 := by rw [List.append_assoc]; exact hl
    obtain ⟨c3', c4', ih⟩ := fill_ok r (done ++ [p]) (some (.sh (.int (done.length : Int)))) (some (.sh (.int p))) hn' hl'
    refine ⟨c3', c4', ?_⟩
    have hp : p ∉ done := fun z => by
      have := (List.nodup_append.mp hn).2.2
      exact this p z p List.mem_cons_self rfl
    have hd : done.Nodup := (List.nodup_append.mp hn).1
    have hlen : done.length < 1000 := by rw [List.length_append, List.length_cons] at hl; omega
    have step : dPut 1 (dVar 3) (dVar 2) [some (.sh rw'), some (.od (spotsK done) (dints 0 done.length)), some (.sh (.int (done.length : Int))), some (.sh (.int p))] =
        some (.nx [some (.sh rw'), some (.od (spotsK (done ++ [p])) (dints 0 (done ++ [p]).length)), some (.sh (.int (done.length : Int))), some (.sh (.int p))]) := by
      show (if (spotsK done).Nodup ∧ (spotsK done).length < LIM then some (Out.nx [some (.sh rw'), some (.od (putD (spotsK done) (dints 0 done.length) (Sum.inl p) (.int (done.length : Int))).1 (putD (spotsK done) (dints 0 done.length) (Sum.inl p) (.int (done.length : Int))).2), some (.sh (.int (done.length : Int))), some (.sh (.int p))]) else none) = _
      rw [if_pos ⟨spotsK_nodup hd, by unfold spotsK; rw [List.length_map]; unfold LIM; omega⟩, putD_new _ _ _ _ (by unfold spotsK; rw [List.length_map, dints_len]) (fun z => hp (spotsK_mem.mp z)), ← spotsK_app, List.length_append, List.length_singleton, dints_snoc]
    rw [List.map_cons]
    show dLoop _ _ (.tup [.int (done.length : Int), .int p] :: enumD (done.length + 1) (r.map D.int)) _ = _
    unfold dLoop
    show (match dPut 1 (dVar 3) (dVar 2) [some (.sh rw'), some (.od (spotsK done) (dints 0 done.length)), some (.sh (.int (done.length : Int))), some (.sh (.int p))] with
      | some (.nx ρ2) => dLoop _ _ (enumD (done.length + 1) (r.map D.int)) ρ2
      | some (.ct ρ2) => dLoop _ _ (enumD (done.length + 1) (r.map D.int)) ρ2
      | some (.bk ρ2) => some (.nx ρ2)
      | some (.rt v) => some (.rt v)
      | none => none) = _
    rw [step]
    dsimp only
    rw [List.length_append, List.length_singleton] at ih ⊢
    rw [ih, List.append_assoc]
    rfl
theorem F_spots_of_ok {r : List Int} (hn : r.Nodup) (hr : r.length ≤ 1000) : F_spots_of [.tup (r.map D.int)] = some (.dct (spotsK r) (dints 0 r.length)) := by
  show outD (g_spots_of [some (.sh (.tup (r.map D.int))), none, none, none]) = _
  obtain ⟨c3, c4, hl⟩ := fill_ok (rw' := .tup (r.map D.int)) r [] none none (by simpa using hn) (by simpa using hr)
  have fin : g_spots_of [some (.sh (.tup (r.map D.int))), none, none, none] = some (.rt (.dct (spotsK r) (dints 0 r.length))) := by
    refine ev_seq (r := .rt .non) rfl ?_
    refine ev_seq (r := .rt .non) ((ev_for (ds := enumD 0 (r.map D.int)) rfl).trans hl) ?_
    rfl
  rw [fin]
  rfl
def spanT (r : List Int) (t : Tie) : Tie := (min (ixI r t.1) (ixI r t.2), max (ixI r t.1) (ixI r t.2))
theorem F_rising_pair_ok (a b : Int) : F_rising_pair [.int a, .int b] = some (.tup [.int (min a b), .int (max a b)]) := by
  show outD (g_rising_pair [some (.sh (.int a)), some (.sh (.int b))]) = _
  have fin : g_rising_pair [some (.sh (.int a)), some (.sh (.int b))] = some (.rt (.tup [.int (min a b), .int (max a b)])) := by
    refine ev_ret (ev_tup (ds := [.int (min a b), .int (max a b)]) (ev_cons ?_ (ev_cons ?_ rfl)) (show 2 ≤ LIM by decide))
    · exact min_ok a b
    · exact max_ok a b
  rw [fin]
  rfl
theorem F_span_of_ok {r : List Int} {t : Tie} (h1 : t.1 ∈ r) (h2 : t.2 ∈ r) : F_span_of [.dct (spotsK r) (dints 0 r.length), tieD t] = some (tieD (spanT r t)) := by
  show outD (g_span_of [some (.sh (.dct (spotsK r) (dints 0 r.length))), some (.sh (tieD t))]) = _
  have e1 : dDGet (dVar 0) (dIx (dSq (dVar 1)) (dC (.int 0))) [some (.sh (.dct (spotsK r) (dints 0 r.length))), some (.sh (tieD t))] = some (.int (ixI r t.1)) := look_row h1
  have e2 : dDGet (dVar 0) (dIx (dSq (dVar 1)) (dC (.int 1))) [some (.sh (.dct (spotsK r) (dints 0 r.length))), some (.sh (tieD t))] = some (.int (ixI r t.2)) := look_row h2
  have fin : g_span_of [some (.sh (.dct (spotsK r) (dints 0 r.length))), some (.sh (tieD t))] = some (.rt (tieD (spanT r t))) := by
    refine ev_ret ?_
    exact (ev_call (ds := [.int (ixI r t.1), .int (ixI r t.2)]) (ev_cons e1 (ev_cons e2 rfl))).trans (F_rising_pair_ok _ _)
  rw [fin]
  rfl
theorem F_spans_of_ok {n : Int} {ts : List Tie} {r : List Int} (hn : r.Nodup) (hr : r.length ≤ 1000) (ht : ts.length ≤ 1000) (hm : ∀ t ∈ ts, t.1 ∈ r ∧ t.2 ∈ r) :
    F_spans_of [webD n ts, .tup (r.map D.int)] = some (.lst (ts.map fun t => tieD (spanT r t))) := by
  show outD (g_spans_of [some (.sh (webD n ts)), some (.sh (.tup (r.map D.int))), none]) = _
  have fin : g_spans_of [some (.sh (webD n ts)), some (.sh (.tup (r.map D.int))), none] = some (.rt (.lst (ts.map fun t => tieD (spanT r t)))) := by
    refine ev_seq (r := .rt .non) (ev_set (d := .dct (spotsK r) (dints 0 r.length)) ((ev_call (ds := [.tup (r.map D.int)]) rfl).trans (F_spots_of_ok hn hr))) ?_
    show dRet (dLs (dComp _ _ _ _ _)) [some (.sh (webD n ts)), some (.sh (.tup (r.map D.int))), some (.sh (.dct (spotsK r) (dints 0 r.length)))] = _
    refine ev_ret (ev_ls ?_)
    refine (ev_comp (ds := ts.map tieD) rfl (by rw [List.length_map]; unfold LIM; omega)).trans ?_
    refine (compGo_map (fun ρ => ∃ c, ρ = [c, some (.sh (.dct (spotsK r) (dints 0 r.length)))]) (fun d => match d with | .tup [.int a, .int b] => tieD (spanT r (a, b)) | _ => .non) _ _ ⟨none, rfl⟩ ?_).trans ?_
    · rintro d hd ρ ⟨c, rfl⟩
      obtain ⟨t, ht', rfl⟩ := List.mem_map.mp hd
      refine ⟨_, rfl, ⟨_, rfl⟩, ?_⟩
      exact (ev_call (ds := [.dct (spotsK r) (dints 0 r.length), tieD t]) rfl).trans (F_span_of_ok (hm t ht').1 (hm t ht').2)
    · rw [List.map_map]
      rfl
  rw [fin]
  rfl
end P
set_option Elab.async false
set_option linter.all false
set_option maxRecDepth 100000
namespace P
open PySem L2 L3
def lie (s t : Tie) : Str := if s.1 = t.1 ∨ s.1 = t.2 ∨ s.2 = t.1 ∨ s.2 = t.2 then "meet" else
  if (if tlt t s then t else s).2 < (if tlt s t then t else s).1 then "apart" else if (if tlt t s then t else s).2 < (if tlt s t then t else s).2 then "cross" else "within"
theorem lt_int (a b : Int) : dLt (.int a) (.int b) = some (.bl (decide (a < b))) := rfl
theorem in2 (a c d : Int) : inD (.int a) [.int c, .int d] = (decide (a = c) || decide (a = d)) := by
  show ((c == a) || ((d == a) || false)) = _
  rw [Bool.or_false]
  congr 1
  · rw [show (c == a) = decide (c = a) from rfl]; exact decide_eq_decide.mpr eq_comm
  · rw [show (d == a) = decide (d = a) from rfl]; exact decide_eq_decide.mpr eq_comm
theorem fMin2_tie (s t : Tie) : fMin2 [tieD s, tieD t] = some (tieD (if tlt t s then t else s)) := by
  show some (if HT.lexLt [t.1, t.2] [s.1, s.2] = true then tieD t else tieD s) = _
  rw [lex_tie]
  by_cases h : tlt t s
  · rw [if_pos h, if_pos (decide_eq_true h)]
  · rw [if_neg h, if_neg (by rw [decide_eq_false h]; decide)]
theorem fMax2_tie (s t : Tie) : fMax2 [tieD s, tieD t] = some (tieD (if tlt s t then t else s)) := by
  show some (if HT.lexLt [s.1, s.2] [t.1, t.2] = true then tieD t else tieD s) = _
  rw [lex_tie]
  by_cases h : tlt s t
  · rw [if_pos h, if_pos (decide_eq_true h)]
  · rw [if_neg h, if_neg (by rw [decide_eq_false h]; decide)]
theorem F_lie_ok (s t : Tie) : F_how_spans_lie [tieD s, tieD t] = some (.str (lie s t)) := by
  show outD (g_how_spans_lie [some (.sh (tieD s)), some (.sh (tieD t)), none, none]) = _
  have e1 : dOrT (dTest (dIn false (dIx (dSq (dVar 0)) (dC (.int 0))) (dSq (dVar 1)))) (dTest (dIn false (dIx (dSq (dVar 0)) (dC (.int 1))) (dSq (dVar 1)))) [some (.sh (tieD s)), some (.sh (tieD t)), none, none] =
      some ((decide (s.1 = t.1) || decide (s.1 = t.2)) || (decide (s.2 = t.1) || decide (s.2 = t.2))) := by
    refine ev_orT (ev_test ((ev_in (d := .int s.1) (ds := [.int t.1, .int t.2]) rfl rfl (by simp [depthL, depth, DEEP]) (by simp [depth, DEEP])).trans ?_)) fun _ => ev_test ((ev_in (d := .int s.2) (ds := [.int t.1, .int t.2]) rfl rfl (by simp [depthL, depth, DEEP]) (by simp [depth, DEEP])).trans ?_)
    · rw [in2]; rfl
    · rw [in2]; rfl
  have fin : g_how_spans_lie [some (.sh (tieD s)), some (.sh (tieD t)), none, none] = some (.rt (.str (lie s t))) := by
    unfold lie
    by_cases hm : s.1 = t.1 ∨ s.1 = t.2 ∨ s.2 = t.1 ∨ s.2 = t.2
    · rw [if_pos hm]
      refine ev_seqR ?_
      rw [ev_ifS e1]
      have : ((decide (s.1 = t.1) || decide (s.1 = t.2)) || (decide (s.2 = t.1) || decide (s.2 = t.2))) = true := by simp only [Bool.or_eq_true, decide_eq_true_eq]; omega
      rw [this]
      rfl
    · rw [if_neg hm]
      refine ev_seq (r := .rt .non) (ρ' := [some (.sh (tieD s)), some (.sh (tieD t)), none, none]) ?_ ?_
      · rw [ev_ifS e1]
        have : ((decide (s.1 = t.1) || decide (s.1 = t.2)) || (decide (s.2 = t.1) || decide (s.2 = t.2))) = false := by simp only [Bool.or_eq_false_iff, decide_eq_false_iff_not]; omega
        rw [this]
        rfl
      · generalize hf : (if tlt t s then t else s) = f
        generalize hg : (if tlt s t then t else s) = g
        refine ev_seq (r := .rt .non) (ev_set (d := tieD f) ((ev_call (ds := [tieD s, tieD t]) rfl).trans (by rw [fMin2_tie, hf]))) ?_
        refine ev_seq (r := .rt .non) (ev_set (d := tieD g) ((ev_call (ds := [tieD s, tieD t]) rfl).trans (by rw [fMax2_tie, hg]))) ?_
        have e2 : dTest (d2 dLt (dIx (dSq (dVar 2)) (dC (.int 1))) (dIx (dSq (dVar 3)) (dC (.int 0)))) [some (.sh (tieD s)), some (.sh (tieD t)), some (.sh (tieD f)), some (.sh (tieD g))] = some (decide (f.2 < g.1)) := rfl
        have e3 : dTest (d2 dLt (dIx (dSq (dVar 2)) (dC (.int 1))) (dIx (dSq (dVar 3)) (dC (.int 1)))) [some (.sh (tieD s)), some (.sh (tieD t)), some (.sh (tieD f)), some (.sh (tieD g))] = some (decide (f.2 < g.2)) := rfl
        by_cases h1 : f.2 < g.1
        · rw [if_pos h1]
          refine ev_seqR ((ev_ifS e2).trans ?_)
          rw [decide_eq_true h1]; rfl
        · rw [if_neg h1]
          refine ev_seq (r := .rt .non) (ρ' := [some (.sh (tieD s)), some (.sh (tieD t)), some (.sh (tieD f)), some (.sh (tieD g))]) ((ev_ifS e2).trans ?_) ?_
          · rw [decide_eq_false h1]; rfl
          · refine ev_ret ((ev_if e3).trans ?_)
            by_cases h2 : f.2 < g.2
            · rw [if_pos h2, decide_eq_true h2]; rfl
            · rw [if_neg h2, decide_eq_false h2]; rfl
  rw [fin]
  rfl
theorem F_how_ok {n : Int} {ts : List Tie} {r : List Int} {i j : Nat} {s t : Tie} (hn : r.Nodup) (hr : r.length ≤ 1000) (ht : ts.length ≤ 1000) (hm : ∀ t ∈ ts, t.1 ∈ r ∧ t.2 ∈ r) (hi : ts[i]? = some s) (hj : ts[j]? = some t) :
    F_how [webD n ts, .tup (r.map D.int), .int (i : Int), .int (j : Int)] = some (.str (lie (spanT r s) (spanT r t))) := by
  show outD (g_how [some (.sh (webD n ts)), some (.sh (.tup (r.map D.int))), some (.sh (.int (i : Int))), some (.sh (.int (j : Int))), none]) = _
  have at_ : ∀ {i : Nat} {s : Tie}, ts[i]? = some s → atI (ts.map fun t => tieD (spanT r t)) (i : Int) = some (tieD (spanT r s)) := fun {i s} h => by
    have hlt : i < ts.length := (List.getElem?_eq_some_iff.mp h).1
    unfold atI
    rw [List.length_map, ixN_nat hlt]
    show (ts.map fun t => tieD (spanT r t))[i]? = _
    rw [List.getElem?_map, h]
    rfl
  have fin : g_how [some (.sh (webD n ts)), some (.sh (.tup (r.map D.int))), some (.sh (.int (i : Int))), some (.sh (.int (j : Int))), none] = some (.rt (.str (lie (spanT r s) (spanT r t)))) := by
    refine ev_seq (r := .rt .non) (ev_set ((ev_call (ds := [webD n ts, .tup (r.map D.int)]) rfl).trans (F_spans_of_ok hn hr ht hm))) ?_
    refine ev_ret ((ev_call (ds := [tieD (spanT r s), tieD (spanT r t)]) (ev_cons ((ev_ix (ds := ts.map fun t => tieD (spanT r t)) rfl rfl).trans (at_ hi)) (ev_cons ((ev_ix (ds := ts.map fun t => tieD (spanT r t)) rfl rfl).trans (at_ hj)) rfl))).trans (F_lie_ok _ _))
  rw [fin]
  rfl
end P
set_option Elab.async false
set_option linter.all false
set_option maxRecDepth 100000
namespace P
open PySem L2 L3
def btw (a b c : Int) : Bool := decide (min a b < c) && decide (c < max a b)
def lawLie (a b c d : Int) : Str := if a = c ∨ a = d ∨ b = c ∨ b = d then "meet" else
  if (btw a b c && !btw a b d) || (!btw a b c && btw a b d) then "cross" else if (btw a b c && btw a b d) || (decide (min c d < min a b) && decide (min a b < max c d)) then "within" else "apart"
theorem lie_law {a b c d : Int} (h1 : a ≠ b) (h2 : c ≠ d) : lie (min a b, max a b) (min c d, max c d) = lawLie a b c d := by
  unfold lie lawLie btw
  dsimp only
  by_cases hm : a = c ∨ a = d ∨ b = c ∨ b = d
  · rw [if_pos hm, if_pos (by omega)]
  · rw [if_neg hm, if_neg (by omega)]
    by_cases h : min c d < min a b
    · have q : tlt (min c d, max c d) (min a b, max a b) := .inl h
      have q' : ¬ tlt (min a b, max a b) (min c d, max c d) := by unfold tlt; dsimp only; omega
      rw [if_pos q, if_neg q']
      dsimp only
      simp only [Bool.and_eq_true, Bool.or_eq_true, Bool.not_eq_true', Bool.and_eq_false_iff, decide_eq_true_eq, decide_eq_false_iff_not]
      split
      · rw [if_neg (by omega), if_neg (by omega)]
      · split
        · rw [if_pos (by omega)]
        · rw [if_neg (by omega), if_pos (by omega)]
    · have q : ¬ tlt (min c d, max c d) (min a b, max a b) := by unfold tlt; dsimp only; omega
      have q' : tlt (min a b, max a b) (min c d, max c d) := by unfold tlt; dsimp only; omega
      rw [if_neg q, if_pos q']
      dsimp only
      simp only [Bool.and_eq_true, Bool.or_eq_true, Bool.not_eq_true', Bool.and_eq_false_iff, decide_eq_true_eq, decide_eq_false_iff_not]
      split
      · rw [if_neg (by omega), if_neg (by omega)]
      · split
        · rw [if_pos (by omega)]
        · rw [if_neg (by omega), if_pos (by omega)]
theorem idx_row : ∀ (r : List Int) (p : Int), p ∈ r → idxD (.int p) (r.map D.int) = some (r.idxOf p)
  | [], _, h => by cases h
  | q :: r, p, h => by
    unfold idxD
    rw [List.map_cons, List.findIdx?_cons]
    show (if (q == p) = true then some 0 else ((r.map D.int).findIdx? fun y => beq y (.int p)).map (· + 1)) = _
    by_cases hq : q = p
    · subst hq
      rw [if_pos (by simp), List.idxOf_cons_self]
    · have hp : p ∈ r := by
        rcases List.mem_cons.mp h with z | z
        · exact absurd z.symm hq
        · exact z
      have ih := idx_row r p hp
      unfold idxD at ih
      have hi : (q :: r).idxOf p = r.idxOf p + 1 := by rw [List.idxOf_cons, beq_false_of_ne hq]; rfl
      rw [if_neg (by simpa using hq), ih, hi]
      rfl
theorem depthL_ints : ∀ r : List Int, depthL (r.map D.int) = 0
  | [] => by rw [List.map_nil, depthL]
  | p :: r => by
    have e : depth (.int p) = 0 := by simp [depth]
    rw [List.map_cons, depthL, depthL_ints r, e]; rfl
theorem index_ok {r : List Int} {p : Int} {fa fb : DEnv → Option D} {ρ : DEnv} (h : p ∈ r) (ha : fa ρ = some (.tup (r.map D.int))) (hb : fb ρ = some (.int p)) : dIndex fa fb ρ = some (.int (ixI r p)) := by
  unfold dIndex
  rw [ha, hb]
  dsimp only
  rw [if_pos ⟨by rw [depthL_ints]; decide, by simp [depth, DEEP]⟩, idx_row r p h]
  rfl
theorem at_ties {ts : List Tie} {i : Nat} {s : Tie} (h : ts[i]? = some s) : atI (ts.map tieD) (i : Int) = some (tieD s) := by
  have hlt : i < ts.length := (List.getElem?_eq_some_iff.mp h).1
  unfold atI
  rw [List.length_map, ixN_nat hlt]
  show (ts.map tieD)[i]? = _
  rw [List.getElem?_map, h]
  rfl
theorem spots_comp {r : List Int} {s : Tie} {fi : DEnv → Option (List D)} {ρ : DEnv} (h0 : fi ρ = some [.int s.1, .int s.2]) (hc : capE [none, some 1] ρ = [none, some (.sh (.tup (r.map D.int)))]) (h1 : s.1 ∈ r) (h2 : s.2 ∈ r) :
    dComp [none, some 1] fi (dName 0) dTrue (dIndex (dVar 1) (dVar 0)) ρ = some [.int (ixI r s.1), .int (ixI r s.2)] := by
  refine (ev_comp h0 (show 2 ≤ LIM by decide)).trans ?_
  rw [hc]
  refine (compGo_map (fun ρ => ∃ c, ρ = [c, some (.sh (.tup (r.map D.int)))]) (fun d => match d with | .int p => .int (ixI r p) | _ => .non) _ _ ⟨none, rfl⟩ ?_).trans rfl
  rintro d hd ρ ⟨c, rfl⟩
  refine ⟨_, rfl, ⟨_, rfl⟩, ?_⟩
  rcases List.mem_cons.mp hd with rfl | hd
  · exact index_ok h1 rfl rfl
  · obtain rfl := List.mem_singleton.mp hd
    exact index_ok h2 rfl rfl
theorem filt2 (p : D → Bool) (x y : D) : [x, y].filter p = if p x = true then (if p y = true then [x, y] else [x]) else (if p y = true then [y] else []) := by
  rw [List.filter_cons, List.filter_cons, List.filter_nil]
  by_cases h : p x = true
  · rw [if_pos h, if_pos h]
    by_cases h' : p y = true
    · rw [if_pos h', if_pos h']
    · rw [if_neg h', if_neg h']
  · rw [if_neg h, if_neg h]
theorem law_how_ok {n : Int} {ts : List Tie} {r : List Int} {i j : Nat} {s t : Tie} (hi : ts[i]? = some s) (hj : ts[j]? = some t) (hs : s.1 ∈ r ∧ s.2 ∈ r) (ht : t.1 ∈ r ∧ t.2 ∈ r) :
    F_law_how [webD n ts, .tup (r.map D.int), .int (i : Int), .int (j : Int)] = some (.str (lawLie (ixI r s.1) (ixI r s.2) (ixI r t.1) (ixI r t.2))) := by
  show outD (g_law_how [some (.sh (webD n ts)), some (.sh (.tup (r.map D.int))), some (.sh (.int (i : Int))), some (.sh (.int (j : Int))), none, none, none]) = _
  generalize ea : ixI r s.1 = a
  generalize eb : ixI r s.2 = b
  generalize ec : ixI r t.1 = c
  generalize ed : ixI r t.2 = d
  have c1 := fun ρ h0 hc => spots_comp (r := r) (s := s) (fi := dSq (dIx (dSq (dIx (dSq (dVar 0)) (dC (.int 1)))) (dVar 2))) (ρ := ρ) h0 hc hs.1 hs.2
  have c2 := fun ρ h0 hc => spots_comp (r := r) (s := t) (fi := dSq (dIx (dSq (dIx (dSq (dVar 0)) (dC (.int 1)))) (dVar 3))) (ρ := ρ) h0 hc ht.1 ht.2
  rw [ea, eb] at c1
  rw [ec, ed] at c2
  let W : D := webD n ts
  let R : D := .tup (r.map D.int)
  have fin : g_law_how [some (.sh W), some (.sh R), some (.sh (.int (i : Int))), some (.sh (.int (j : Int))), none, none, none] = some (.rt (.str (lawLie a b c d))) := by
    refine ev_seq (r := .rt .non) (ev_set (d := .lst [.int a, .int b]) (ev_ls (c1 _ (ev_sqT (ds := [.int s.1, .int s.2]) ((ev_ix (ds := ts.map tieD) rfl rfl).trans (at_ties hi))) rfl))) ?_
    refine ev_seq (r := .rt .non) (ev_set (d := .lst [.int c, .int d]) (ev_ls (c2 _ (ev_sqT (ds := [.int t.1, .int t.2]) ((ev_ix (ds := ts.map tieD) rfl rfl).trans (at_ties hj))) rfl))) ?_
    have e3 : dTruL (dComp [none, some 5] (dSq (dVar 4)) (dName 0) (dTest (dIn false (dVar 0) (dSq (dVar 1)))) (dVar 0)) [some (.sh W), some (.sh R), some (.sh (.int (i : Int))), some (.sh (.int (j : Int))), some (.sh (.lst [.int a, .int b])), some (.sh (.lst [.int c, .int d])), none] =
        some ((decide (a = c) || decide (a = d)) || (decide (b = c) || decide (b = d))) := by
      have : dComp [none, some 5] (dSq (dVar 4)) (dName 0) (dTest (dIn false (dVar 0) (dSq (dVar 1)))) (dVar 0) [some (.sh W), some (.sh R), some (.sh (.int (i : Int))), some (.sh (.int (j : Int))), some (.sh (.lst [.int a, .int b])), some (.sh (.lst [.int c, .int d])), none] =
          some (([.int a, .int b].filter fun x => inD x [.int c, .int d]).map id) := by
        refine (ev_comp (ds := [.int a, .int b]) rfl (show 2 ≤ LIM by decide)).trans ?_
        refine compGo_filter (fun ρ => ∃ c0, ρ = [c0, some (.sh (.lst [.int c, .int d]))]) (fun x => inD x [.int c, .int d]) id _ _ ⟨none, rfl⟩ ?_
        rintro x hx ρ ⟨c0, rfl⟩
        refine ⟨_, rfl, ⟨_, rfl⟩, ev_test ((ev_in (d := x) (ds := [.int c, .int d]) rfl rfl (by simp [depthL, depth, DEEP]) ?_).trans rfl), fun _ => rfl⟩
        rcases List.mem_cons.mp hx with rfl | hx
        · simp [depth, DEEP]
        · obtain rfl := List.mem_singleton.mp hx; simp [depth, DEEP]
      unfold dTruL
      rw [this]
      dsimp only
      rw [List.map_id, List.filter_cons, List.filter_cons, List.filter_nil, in2, in2]
      cases (decide (a = c) || decide (a = d)) <;> cases (decide (b = c) || decide (b = d)) <;> rfl
    unfold lawLie
    by_cases hm : a = c ∨ a = d ∨ b = c ∨ b = d
    · rw [if_pos hm]
      refine ev_seqR ((ev_ifS e3).trans ?_)
      have : ((decide (a = c) || decide (a = d)) || (decide (b = c) || decide (b = d))) = true := by simp only [Bool.or_eq_true, decide_eq_true_eq]; omega
      rw [this]
      rfl
    · rw [if_neg hm]
      refine ev_seq (r := .rt .non) (ρ' := [some (.sh W), some (.sh R), some (.sh (.int (i : Int))), some (.sh (.int (j : Int))), some (.sh (.lst [.int a, .int b])), some (.sh (.lst [.int c, .int d])), none]) ((ev_ifS e3).trans ?_) ?_
      · have : ((decide (a = c) || decide (a = d)) || (decide (b = c) || decide (b = d))) = false := by simp only [Bool.or_eq_false_iff, decide_eq_false_iff_not]; omega
        rw [this]
        rfl
      · have e4 : dComp [none, some 4] (dSq (dVar 5)) (dName 0) (dTest (dChain dLtI dLtI (dMinL (dLstOf (dVar 1))) (dVar 0) (dMaxL (dLstOf (dVar 1))))) (dVar 0) [some (.sh W), some (.sh R), some (.sh (.int (i : Int))), some (.sh (.int (j : Int))), some (.sh (.lst [.int a, .int b])), some (.sh (.lst [.int c, .int d])), none] =
            some (([.int c, .int d].filter fun x => match x with | .int y => btw a b y | _ => false).map id) := by
          refine (ev_comp (ds := [.int c, .int d]) rfl (show 2 ≤ LIM by decide)).trans ?_
          refine compGo_filter (fun ρ => ∃ c0, ρ = [c0, some (.sh (.lst [.int a, .int b]))]) (fun x => match x with | .int y => btw a b y | _ => false) id _ _ ⟨none, rfl⟩ ?_
          rintro x hx ρ ⟨c0, rfl⟩
          have key : ∀ y : Int, dTest (dChain dLtI dLtI (dMinL (dLstOf (dVar 1))) (dVar 0) (dMaxL (dLstOf (dVar 1)))) [some (.sh (.int y)), some (.sh (.lst [.int a, .int b]))] = some (btw a b y) := fun y =>
            ev_test (ev_chain (x := .int (min a b)) (y := .int y) (z := .int (max a b)) rfl rfl rfl (fun _ => rfl) fun _ => rfl)
          refine ⟨_, rfl, ⟨_, rfl⟩, ?_, fun _ => rfl⟩
          rcases List.mem_cons.mp hx with rfl | hx
          · exact key c
          · obtain rfl := List.mem_singleton.mp hx; exact key d
        rw [List.map_id] at e4
        generalize el : ([.int c, .int d].filter fun x => match x with | .int y => btw a b y | _ => false : List D) = L at e4
        have eL : L = (if btw a b c = true then (if btw a b d = true then [.int c, .int d] else [.int c]) else (if btw a b d = true then [.int d] else [])) := by
          rw [← el, filt2]
        refine ev_seq (r := .rt .non) (ev_set (ev_ls e4)) ?_
        have e5 : ∀ k : Int, dTest (d2 dEq (dLen (dSq (dVar 6))) (dC (.int k))) [some (.sh W), some (.sh R), some (.sh (.int (i : Int))), some (.sh (.int (j : Int))), some (.sh (.lst [.int a, .int b])), some (.sh (.lst [.int c, .int d])), some (.sh (.lst L))] = some ((L.length : Int) == k) := fun k => rfl
        have e6 : dTest (dChain dLtI dLtI (dMinL (dLstOf (dVar 5))) (dMinL (dLstOf (dVar 4))) (dMaxL (dLstOf (dVar 5)))) [some (.sh W), some (.sh R), some (.sh (.int (i : Int))), some (.sh (.int (j : Int))), some (.sh (.lst [.int a, .int b])), some (.sh (.lst [.int c, .int d])), some (.sh (.lst L))] = some (decide (min c d < min a b) && decide (min a b < max c d)) :=
          ev_test (ev_chain (x := .int (min c d)) (y := .int (min a b)) (z := .int (max c d)) rfl rfl rfl (fun _ => rfl) fun _ => rfl)
        have k1 : ((L.length : Int) == 1) = ((btw a b c && !btw a b d) || (!btw a b c && btw a b d)) := by rw [eL]; cases btw a b c <;> cases btw a b d <;> rfl
        have k2 : ((L.length : Int) == 2) = (btw a b c && btw a b d) := by rw [eL]; cases btw a b c <;> cases btw a b d <;> rfl
        have e51 := e5 1
        have e52 := e5 2
        rw [k1] at e51
        rw [k2] at e52
        cases h1 : ((btw a b c && !btw a b d) || (!btw a b c && btw a b d)) with
        | true =>
          rw [h1] at e51
          rw [if_pos rfl]
          exact ev_seqR (ev_ifS e51)
        | false =>
          rw [h1] at e51
          rw [if_neg Bool.false_ne_true]
          refine ev_seq (r := .rt .non) (ev_ifS e51) ?_
          have e7 := ev_orT e52 (fun _ => e6)
          cases h2 : ((btw a b c && btw a b d) || (decide (min c d < min a b) && decide (min a b < max c d))) with
          | true =>
            rw [h2] at e7
            rw [if_pos rfl]
            exact ev_seqR (ev_ifS e7)
          | false =>
            rw [h2] at e7
            rw [if_neg Bool.false_ne_true]
            exact ev_seq (r := .rt .non) (ev_ifS e7) rfl
  rw [fin]
  rfl
end P
set_option Elab.async false
set_option linter.all false
set_option maxRecDepth 100000
namespace P
open PySem L2 L3
theorem sIx_1 (n d : Nat) : HT.sIx n d (some 1) = min 1 n := HT.sIx_nat n d 1
theorem cat_rows {xs ys : List Int} (h : xs.length + ys.length ≤ LIM) : dAdd (.tup (xs.map D.int)) (.tup (ys.map D.int)) = some (.tup ((xs ++ ys).map D.int)) := by
  unfold dAdd
  show dCat (.tup (xs.map D.int)) (.tup (ys.map D.int)) = _
  unfold dCat
  dsimp only
  rw [List.length_map, List.length_map, if_pos h, List.map_append]
theorem sl_head {r : List Int} {f : DEnv → Option D} {ρ : DEnv} (h : f ρ = some (.tup (r.map D.int))) : dOr2 (dSlc f dNoP (dPart (dC (.int 1)))) (dSlW f dNoP (dPart (dC (.int 1)))) ρ = some (.tup ((r.take 1).map D.int)) := by
  have e1 : HT.sIx (r.map D.int).length 0 none = 0 := rfl
  have e2 : HT.sIx (r.map D.int).length (r.map D.int).length (some 1) = min 1 r.length := by rw [sIx_1, List.length_map]
  have hs : dSlc f dNoP (dPart (dC (.int 1))) ρ = dSl (.tup (r.map D.int)) none (some 1) := ev_slc h rfl rfl
  have hw : dSlW f dNoP (dPart (dC (.int 1))) ρ = if HT.sIx (r.map D.int).length 0 none = 0 ∧ HT.sIx (r.map D.int).length (r.map D.int).length (some 1) = (r.map D.int).length then some (.tup (r.map D.int)) else none := by
    unfold dSlW; rw [h]; rfl
  unfold dOr2
  rw [hs, hw]
  unfold dSl
  dsimp only
  rw [e1, e2, List.length_map]
  by_cases hl : 1 < r.length
  · rw [if_neg (by omega)]
    dsimp only
    unfold cut
    rw [e1, e2, List.drop_zero, ← List.map_take]
    congr 3
    rw [show min 1 r.length - 0 = 1 by omega]
  · rw [if_pos (by omega)]
    dsimp only
    rw [if_pos (by omega), List.take_of_length_le (by omega)]
theorem sl_tail {r : List Int} {f : DEnv → Option D} {ρ : DEnv} (h : f ρ = some (.tup (r.map D.int))) : dOr2 (dSlc f (dPart (dC (.int 1))) dNoP) (dSlW f (dPart (dC (.int 1))) dNoP) ρ = some (.tup ((r.drop 1).map D.int)) := by
  have e1 : HT.sIx (r.map D.int).length 0 (some 1) = min 1 r.length := by rw [sIx_1, List.length_map]
  have e2 : HT.sIx (r.map D.int).length (r.map D.int).length none = (r.map D.int).length := rfl
  have hs : dSlc f (dPart (dC (.int 1))) dNoP ρ = dSl (.tup (r.map D.int)) (some 1) none := ev_slc h rfl rfl
  have hw : dSlW f (dPart (dC (.int 1))) dNoP ρ = if HT.sIx (r.map D.int).length 0 (some 1) = 0 ∧ HT.sIx (r.map D.int).length (r.map D.int).length none = (r.map D.int).length then some (.tup (r.map D.int)) else none := by
    unfold dSlW; rw [h]; rfl
  unfold dOr2
  rw [hs, hw]
  unfold dSl
  dsimp only
  rw [e1, e2]
  by_cases hl : 0 < r.length
  · rw [if_neg (by omega)]
    dsimp only
    unfold cut
    rw [e1, e2, show min 1 r.length = 1 by omega, List.take_of_length_le (by rw [List.length_drop]; omega), ← List.map_drop]
  · rw [if_pos ⟨by omega, rfl⟩]
    dsimp only
    rw [if_pos ⟨by omega, rfl⟩, List.eq_nil_of_length_eq_zero (by omega : r.length = 0)]
    rfl
theorem idx_app : ∀ (l m : List Int) (p : Int), p ∉ l → (l ++ m).idxOf p = l.length + m.idxOf p
  | [], m, p, _ => by simp
  | q :: l, m, p, h => by
    have hq : q ≠ p := fun z => h (z ▸ List.mem_cons_self)
    rw [List.cons_append, List.idxOf_cons, beq_false_of_ne hq]
    show (l ++ m).idxOf p + 1 = _
    rw [idx_app l m p fun z => h (List.mem_cons_of_mem _ z), List.length_cons]
    omega
def rowOf (l1 l2 : List Int) (a x y z : Int) : List Int := ((l1 ++ [a, x, y]) ++ [z]) ++ l2
theorem rowOf_eq (l1 l2 : List Int) (a x y z : Int) : rowOf l1 l2 a x y z = l1 ++ (a :: x :: y :: z :: l2) := by
  unfold rowOf
  simp
theorem ix_rowOf {l1 l2 : List Int} {a x y z : Int} (h : ∀ p ∈ l1, p ≠ a ∧ p ≠ x ∧ p ≠ y ∧ p ≠ z) (hd : a ≠ x ∧ a ≠ y ∧ a ≠ z ∧ x ≠ y ∧ x ≠ z ∧ y ≠ z) :
    ixI (rowOf l1 l2 a x y z) a = (l1.length : Int) ∧ ixI (rowOf l1 l2 a x y z) x = (l1.length : Int) + 1 ∧ ixI (rowOf l1 l2 a x y z) y = (l1.length : Int) + 2 ∧ ixI (rowOf l1 l2 a x y z) z = (l1.length : Int) + 3 := by
  obtain ⟨d1, d2, d3, d4, d5, d6⟩ := hd
  have na : a ∉ l1 := fun q => (h a q).1 rfl
  have nx : x ∉ l1 := fun q => (h x q).2.1 rfl
  have ny : y ∉ l1 := fun q => (h y q).2.2.1 rfl
  have nz : z ∉ l1 := fun q => (h z q).2.2.2 rfl
  unfold ixI
  rw [rowOf_eq, idx_app _ _ _ na, idx_app _ _ _ nx, idx_app _ _ _ ny, idx_app _ _ _ nz]
  have i1 : (a :: x :: y :: z :: l2).idxOf a = 0 := List.idxOf_cons_self
  have i2 : (a :: x :: y :: z :: l2).idxOf x = 1 := by rw [List.idxOf_cons, beq_false_of_ne d1]; show (x :: y :: z :: l2).idxOf x + 1 = 1; rw [List.idxOf_cons_self]
  have i3 : (a :: x :: y :: z :: l2).idxOf y = 2 := by
    rw [List.idxOf_cons, beq_false_of_ne d2]; show (x :: y :: z :: l2).idxOf y + 1 = 2
    rw [List.idxOf_cons, beq_false_of_ne d4]; show (y :: z :: l2).idxOf y + 1 + 1 = 2
    rw [List.idxOf_cons_self]
  have i4 : (a :: x :: y :: z :: l2).idxOf z = 3 := by
    rw [List.idxOf_cons, beq_false_of_ne d3]; show (x :: y :: z :: l2).idxOf z + 1 = 3
    rw [List.idxOf_cons, beq_false_of_ne d5]; show (y :: z :: l2).idxOf z + 1 + 1 = 3
    rw [List.idxOf_cons, beq_false_of_ne d6]; show (z :: l2).idxOf z + 1 + 1 + 1 = 3
    rw [List.idxOf_cons_self]
  rw [i1, i2, i3, i4]
  refine ⟨by omega, by omega, by omega, by omega⟩
theorem lie6 (e : Int) : lawLie e (e + 1) (e + 2) (e + 3) = "apart" ∧ lawLie e (e + 1) (e + 3) (e + 2) = "apart" ∧ lawLie e (e + 2) (e + 1) (e + 3) = "cross" ∧ lawLie e (e + 3) (e + 1) (e + 2) = "within" ∧ lawLie e (e + 2) (e + 3) (e + 1) = "cross" ∧ lawLie e (e + 3) (e + 2) (e + 1) = "within" := by
  unfold lawLie btw
  simp only [Bool.and_eq_true, Bool.or_eq_true, Bool.not_eq_true', Bool.and_eq_false_iff, decide_eq_true_eq, decide_eq_false_iff_not]
  refine ⟨?_, ?_, ?_, ?_, ?_, ?_⟩
  · rw [if_neg (by omega), if_neg (by omega), if_neg (by omega)]
  · rw [if_neg (by omega), if_neg (by omega), if_neg (by omega)]
  · rw [if_neg (by omega), if_pos (by omega)]
  · rw [if_neg (by omega), if_neg (by omega), if_pos (by omega)]
  · rw [if_neg (by omega), if_pos (by omega)]
  · rw [if_neg (by omega), if_neg (by omega), if_pos (by omega)]
end P
set_option Elab.async false
set_option linter.all false
set_option maxRecDepth 100000
namespace P
open PySem L2 L3
def restOf (n : Nat) (a b c d : Int) : List Int := (iUp 0 n).filter fun p => !((decide (p = a) || decide (p = b)) || (decide (p = c) || decide (p = d)))
theorem iUp_mem {n : Nat} {p : Int} : p ∈ iUp 0 n ↔ 0 ≤ p ∧ p < (n : Int) := by
  unfold iUp
  constructor
  · intro h
    obtain ⟨k, hk, rfl⟩ := List.mem_map.mp h
    have := List.mem_range.mp hk
    omega
  · intro h
    exact List.mem_map.mpr ⟨p.toNat, List.mem_range.mpr (by omega), by omega⟩
theorem iUp_nodup (n : Nat) : (iUp 0 n).Nodup := by
  unfold iUp
  exact List.pairwise_map.mpr (List.nodup_range.imp fun {a b} h z => h (by omega))
theorem restOf_mem {n : Nat} {a b c d p : Int} : p ∈ restOf n a b c d ↔ (0 ≤ p ∧ p < (n : Int)) ∧ p ≠ a ∧ p ≠ b ∧ p ≠ c ∧ p ≠ d := by
  unfold restOf
  rw [List.mem_filter, iUp_mem]
  simp only [Bool.not_eq_true', Bool.or_eq_false_iff, decide_eq_false_iff_not]
  constructor
  · rintro ⟨h1, ⟨h2, h3⟩, h4, h5⟩; exact ⟨h1, h2, h3, h4, h5⟩
  · rintro ⟨h1, h2, h3, h4, h5⟩; exact ⟨h1, ⟨h2, h3⟩, h4, h5⟩
theorem way_ok {n : Nat} {ts : List Tie} (hn : n ≤ 6) (hok : ∀ t ∈ ts, 0 ≤ t.1 ∧ t.1 < t.2 ∧ t.2 < (n : Int)) (hl : ts.length ≤ 1000) {i j : Nat} {s t : Tie} (hi : ts[i]? = some s) (hj : ts[j]? = some t) {x y z : Int}
    (hd : s.1 ≠ x ∧ s.1 ≠ y ∧ s.1 ≠ z ∧ x ≠ y ∧ x ≠ z ∧ y ≠ z) (hset : ∀ p : Int, (p = s.1 ∨ p = x ∨ p = y ∨ p = z) ↔ (p = s.1 ∨ p = s.2 ∨ p = t.1 ∨ p = t.2)) :
    F_how [webD (n : Int) ts, .tup ((rowOf ((restOf n s.1 s.2 t.1 t.2).take 1) ((restOf n s.1 s.2 t.1 t.2).drop 1) s.1 x y z).map D.int), .int (i : Int), .int (j : Int)] =
      some (.str (lie (spanT (rowOf ((restOf n s.1 s.2 t.1 t.2).take 1) ((restOf n s.1 s.2 t.1 t.2).drop 1) s.1 x y z) s) (spanT (rowOf ((restOf n s.1 s.2 t.1 t.2).take 1) ((restOf n s.1 s.2 t.1 t.2).drop 1) s.1 x y z) t))) := by
  generalize er : restOf n s.1 s.2 t.1 t.2 = r
  have hp : (rowOf (r.take 1) (r.drop 1) s.1 x y z).Perm ([s.1, x, y, z] ++ r) := by
    rw [rowOf_eq]
    have h1 : (r.take 1 ++ (s.1 :: x :: y :: z :: r.drop 1)).Perm ((s.1 :: x :: y :: z :: r.drop 1) ++ r.take 1) := List.perm_append_comm
    refine h1.trans ?_
    show ([s.1, x, y, z] ++ r.drop 1 ++ r.take 1).Perm _
    rw [List.append_assoc]
    refine List.Perm.append_left _ ?_
    refine List.perm_append_comm.trans ?_
    rw [List.take_append_drop]
  have hrl : r.length ≤ 6 := by
    rw [← er]
    unfold restOf
    refine Nat.le_trans (List.length_filter_le _ _) ?_
    rw [upTo_len]
    exact hn
  have hnd : ([s.1, x, y, z] ++ r).Nodup := by
    obtain ⟨d1, d2, d3, d4, d5, d6⟩ := hd
    rw [List.nodup_append]
    refine ⟨?_, ?_, ?_⟩
    · simp [d1, d2, d3, d4, d5, d6]
    · rw [← er]; exact (iUp_nodup n).filter _
    · intro p hp q hq e
      subst e
      rw [← er, restOf_mem] at hq
      have := (hset p).mp (by simpa using hp)
      omega
  refine F_how_ok (hp.nodup_iff.mpr hnd) ?_ hl (fun u hu => ?_) hi hj
  · rw [hp.length_eq, List.length_append]
    simp
    omega
  · have hall : ∀ p : Int, 0 ≤ p → p < (n : Int) → p ∈ rowOf (r.take 1) (r.drop 1) s.1 x y z := fun p h0 h1 => by
      rw [hp.mem_iff, List.mem_append]
      by_cases hm : p = s.1 ∨ p = s.2 ∨ p = t.1 ∨ p = t.2
      · left
        have := (hset p).mpr hm
        simpa using this
      · right
        rw [← er, restOf_mem]
        omega
    have := hok u hu
    exact ⟨hall _ (by omega) (by omega), hall _ (by omega) (by omega)⟩
theorem take1_ne {n : Nat} {s t : Tie} {x y z : Int} (hset : ∀ p : Int, (p = s.1 ∨ p = x ∨ p = y ∨ p = z) ↔ (p = s.1 ∨ p = s.2 ∨ p = t.1 ∨ p = t.2)) : ∀ p ∈ (restOf n s.1 s.2 t.1 t.2).take 1, p ≠ s.1 ∧ p ≠ x ∧ p ≠ y ∧ p ≠ z := fun p hp => by
  have h := restOf_mem.mp (List.mem_of_mem_take hp)
  have := hset p
  omega
def wayTurn : DEnv → Option Out := dSeq (dSet 9 (dLs (dComp [none, some 7, some 8] (dSq (dSlc (dVar 3) (dPart (dC (.int 1))) (dNoP))) (dName 0) (dTest (dIn true (dVar 0) (dSq (dTup (dCons (dVar 1) (dCons (dVar 2) (dNil))))))) (dVar 0))))
  (dIfS (dTest (d2 dNe (dVar 7) (dVar 8)))
  (dApp 5 (dCall F_how (dCons (dVar 0) (dCons (d2 dAdd (d2 dAdd (d2 dAdd (dOr2 (dSlc (dVar 4) (dNoP) (dPart (dC (.int 1)))) (dSlW (dVar 4) (dNoP) (dPart (dC (.int 1))))) (dTup (dCons (dVar 6) (dCons (dVar 7) (dCons (dVar 8) (dNil)))))) (dTupF (dSq (dVar 9)))) (dOr2 (dSlc (dVar 4) (dPart (dC (.int 1))) (dNoP)) (dSlW (dVar 4) (dPart (dC (.int 1))) (dNoP)))) (dCons (dVar 1) (dCons (dVar 2) (dNil)))))))
  (dNext))
def lastOf (b c d x y : Int) : List Int := [b, c, d].filter fun p => !(decide (p = x) || decide (p = y))
abbrev wEnv (W i j : D) (a b c d : Int) (rest : List Int) (found : List D) (c7 c8 c9 : Option Cell) : DEnv :=
  [some (.sh W), some (.sh i), some (.sh j), some (.sh (.lst [.int a, .int b, .int c, .int d])), some (.sh (.tup (rest.map D.int))), some (.ow found), some (.sh (.int a)), c7, c8, c9]
theorem last_ok {W i j : D} {a b c d x y : Int} {rest : List Int} {found : List D} {c9 : Option Cell} :
    dSet 9 (dLs (dComp [none, some 7, some 8] (dSq (dSlc (dVar 3) (dPart (dC (.int 1))) (dNoP))) (dName 0) (dTest (dIn true (dVar 0) (dSq (dTup (dCons (dVar 1) (dCons (dVar 2) (dNil))))))) (dVar 0))) (wEnv W i j a b c d rest found (some (.sh (.int x))) (some (.sh (.int y))) c9) =
      some (.nx (wEnv W i j a b c d rest found (some (.sh (.int x))) (some (.sh (.int y))) (some (.sh (.lst ((lastOf b c d x y).map D.int)))))) := by
  refine ev_set (d := .lst ((lastOf b c d x y).map D.int)) (ev_ls ?_)
  refine (ev_comp (ds := [b, c, d].map D.int) rfl (show 3 ≤ LIM by decide)).trans ?_
  refine (compGo_filter (fun ρ => ∃ c0, ρ = [c0, some (.sh (.int x)), some (.sh (.int y))]) (fun v => !inD v [.int x, .int y]) id _ _ ⟨none, rfl⟩ ?_).trans ?_
  · rintro v hv ρ ⟨c0, rfl⟩
    obtain ⟨p, _, rfl⟩ := List.mem_map.mp hv
    refine ⟨_, rfl, ⟨_, rfl⟩, ev_test ((ev_in (d := .int p) (ds := [.int x, .int y]) rfl rfl (by simp [depthL, depth, DEEP]) (by simp [depth, DEEP])).trans rfl), fun _ => rfl⟩
  · rw [List.map_id, List.filter_map]
    unfold lastOf
    congr 3
    funext p
    show (!inD (.int p) [.int x, .int y]) = _
    rw [in2]
theorem turn_eq {W i j : D} {a b c d x : Int} {rest : List Int} {found : List D} {c9 : Option Cell} : ∃ c9', wayTurn (wEnv W i j a b c d rest found (some (.sh (.int x))) (some (.sh (.int x))) c9) = some (.nx (wEnv W i j a b c d rest found (some (.sh (.int x))) (some (.sh (.int x))) c9')) := by
  refine ⟨_, ev_seq (r := .rt .non) last_ok ((ev_ifS (a := false) (ev_test ?_)).trans rfl)⟩
  show dNe (.int x) (.int x) = _
  rw [ne_int]
  simp
theorem turn_ne {W i j : D} {a b c d x y z : Int} {rest : List Int} {found : List D} {c9 : Option Cell} {v : Str} (hxy : x ≠ y) (hz : lastOf b c d x y = [z]) (hr : rest.length ≤ 1000) (hf : found.length ≤ 1000)
    (hF : F_how [W, .tup ((rowOf (rest.take 1) (rest.drop 1) a x y z).map D.int), i, j] = some (.str v)) :
    ∃ c9', wayTurn (wEnv W i j a b c d rest found (some (.sh (.int x))) (some (.sh (.int y))) c9) = some (.nx (wEnv W i j a b c d rest (found ++ [.str v]) (some (.sh (.int x))) (some (.sh (.int y))) c9')) := by
  refine ⟨some (.sh (.lst ((lastOf b c d x y).map D.int))), ev_seq (r := .rt .non) last_ok ((ev_ifS (a := true) (ev_test ?_)).trans ?_)⟩
  · show dNe (.int x) (.int y) = _
    rw [ne_int]
    simp [hxy]
  · rw [if_pos rfl]
    refine ev_app (ds := found) (d := .str v) rfl ?_ (by unfold LIM; omega)
    refine (ev_call (ds := [W, .tup ((rowOf (rest.take 1) (rest.drop 1) a x y z).map D.int), i, j]) (ev_cons rfl (ev_cons ?_ rfl))).trans hF
    have l1 : (rest.take 1).length ≤ 1 := by rw [List.length_take]; omega
    have l2 : (rest.drop 1).length ≤ 1000 := by rw [List.length_drop]; omega
    refine (ev_2 (x := .tup (((rest.take 1 ++ [a, x, y]) ++ [z]).map D.int)) (y := .tup ((rest.drop 1).map D.int)) ((ev_2 (x := .tup ((rest.take 1 ++ [a, x, y]).map D.int)) (y := .tup ([z].map D.int)) ((ev_2 (x := .tup ((rest.take 1).map D.int)) (y := .tup ([a, x, y].map D.int)) (sl_head rfl) ?_).trans ?_) ?_).trans ?_) (sl_tail rfl)).trans ?_
    · exact ev_tup (ds := [a, x, y].map D.int) rfl (show 3 ≤ LIM by decide)
    · exact cat_rows (by simp; unfold LIM; omega)
    · show some (D.tup ((lastOf b c d x y).map D.int)) = _
      rw [hz]
    · exact cat_rows (by simp; unfold LIM; omega)
    · exact cat_rows (by simp; unfold LIM; omega)
theorem loop_cons {h : D → DEnv → Option DEnv} {g : DEnv → Option Out} {d : D} {ds : List D} {ρ ρ1 ρ2 : DEnv} (h1 : h d ρ = some ρ1) (h2 : g ρ1 = some (.nx ρ2)) : dLoop h g (d :: ds) ρ = dLoop h g ds ρ2 := by
  rw [dLoop, h1]
  dsimp only
  rw [h2]
end P
set_option Elab.async false
set_option linter.all false
set_option maxRecDepth 100000
namespace P
open PySem L2 L3
def sixS : List Str := ["apart", "apart", "cross", "cross", "within", "within"]
theorem sixD : sortD2 [.str "apart", .str "apart", .str "cross", .str "within", .str "cross", .str "within"] = some (sixS.map D.str) := by
  have e : sortS ["apart", "apart", "cross", "within", "cross", "within"] = sixS :=
    sorted_one (le := fun a b : Str => sLt b a = false) (fun a b h1 h2 => sLt_eq a b h2 h1) ((sortS_perm _).trans (.cons _ (.cons _ (.cons _ (.swap _ _ _))))) (sortS_up _) (by unfold sixS; decide +kernel) (fun a => by
      unfold sLt; exact decide_eq_false (List.lt_irrefl _))
  have e2 : sortD2 [.str "apart", .str "apart", .str "cross", .str "within", .str "cross", .str "within"] = some ((sortS ["apart", "apart", "cross", "within", "cross", "within"]).map D.str) := rfl
  rw [e2, e]
theorem in4 (p a b c d : Int) : inD (.int p) [.int a, .int b, .int c, .int d] = ((decide (p = a) || decide (p = b)) || (decide (p = c) || decide (p = d))) := by
  have h : ∀ q : Int, (q == p) = decide (p = q) := fun q => by
    rw [show (q == p) = decide (q = p) from rfl]; exact decide_eq_decide.mpr eq_comm
  show ((a == p) || ((b == p) || ((c == p) || ((d == p) || false)))) = _
  rw [h a, h b, h c, h d, Bool.or_false, Bool.or_assoc]
theorem dints_iUp (n : Nat) : dints 0 n = (iUp 0 n).map D.int := by
  unfold dints iUp
  rw [List.map_map]
  rfl
theorem ways_ok {n : Nat} {ts : List Tie} (hn : n ≤ 6) (hok : ∀ t ∈ ts, 0 ≤ t.1 ∧ t.1 < t.2 ∧ t.2 < (n : Int)) (hl : ts.length ≤ 1000) {i j : Nat} {s t : Tie} (hi : ts[i]? = some s) (hj : ts[j]? = some t)
    (hd : s.1 ≠ t.1 ∧ s.1 ≠ t.2 ∧ s.2 ≠ t.1 ∧ s.2 ≠ t.2) : F_law_ways [webD (n : Int) ts, .int (i : Int), .int (j : Int)] = some (.lst (sixS.map D.str)) := by
  have hs := hok s (List.mem_of_getElem? hi)
  have ht := hok t (List.mem_of_getElem? hj)
  obtain ⟨d1, d2, d3, d4⟩ := hd
  have w := fun {x y z : Int} hD hS => way_ok (x := x) (y := y) (z := z) hn hok hl hi hj hD hS
  have ix := fun {x y z : Int} hD hS => ix_rowOf (l1 := (restOf n s.1 s.2 t.1 t.2).take 1) (l2 := (restOf n s.1 s.2 t.1 t.2).drop 1) (a := s.1) (x := x) (y := y) (z := z) (take1_ne hS) hD
  have l6 := lie6 (((restOf n s.1 s.2 t.1 t.2).take 1).length : Int)
  have hrl : (restOf n s.1 s.2 t.1 t.2).length ≤ 1000 := by
    unfold restOf
    refine Nat.le_trans (List.length_filter_le _ _) ?_
    rw [upTo_len]; omega
  generalize er : restOf n s.1 s.2 t.1 t.2 = r at w ix l6 hrl
  obtain ⟨m1, m2, m3, m4, m5, m6⟩ := l6
  have h1 : F_how [webD (n : Int) ts, .tup ((rowOf (r.take 1) (r.drop 1) s.1 s.2 t.1 t.2).map D.int), .int (i : Int), .int (j : Int)] = some (.str "apart") := by
    obtain ⟨p1, p2, p3, p4⟩ := ix (x := s.2) (y := t.1) (z := t.2) (by omega) (by intro p; omega)
    rw [w (x := s.2) (y := t.1) (z := t.2) (by omega) (by intro p; omega)]
    unfold spanT
    rw [p1, p2, p3, p4, lie_law (by omega) (by omega), m1]
  have h2 : F_how [webD (n : Int) ts, .tup ((rowOf (r.take 1) (r.drop 1) s.1 s.2 t.2 t.1).map D.int), .int (i : Int), .int (j : Int)] = some (.str "apart") := by
    obtain ⟨p1, p2, p3, p4⟩ := ix (x := s.2) (y := t.2) (z := t.1) (by omega) (by intro p; omega)
    rw [w (x := s.2) (y := t.2) (z := t.1) (by omega) (by intro p; omega)]
    unfold spanT
    rw [p1, p2, p3, p4, lie_law (by omega) (by omega), m2]
  have h3 : F_how [webD (n : Int) ts, .tup ((rowOf (r.take 1) (r.drop 1) s.1 t.1 s.2 t.2).map D.int), .int (i : Int), .int (j : Int)] = some (.str "cross") := by
    obtain ⟨p1, p2, p3, p4⟩ := ix (x := t.1) (y := s.2) (z := t.2) (by omega) (by intro p; omega)
    rw [w (x := t.1) (y := s.2) (z := t.2) (by omega) (by intro p; omega)]
    unfold spanT
    rw [p1, p2, p3, p4, lie_law (by omega) (by omega), m3]
  have h4 : F_how [webD (n : Int) ts, .tup ((rowOf (r.take 1) (r.drop 1) s.1 t.1 t.2 s.2).map D.int), .int (i : Int), .int (j : Int)] = some (.str "within") := by
    obtain ⟨p1, p2, p3, p4⟩ := ix (x := t.1) (y := t.2) (z := s.2) (by omega) (by intro p; omega)
    rw [w (x := t.1) (y := t.2) (z := s.2) (by omega) (by intro p; omega)]
    unfold spanT
    rw [p1, p2, p3, p4, lie_law (by omega) (by omega), m4]
  have h5 : F_how [webD (n : Int) ts, .tup ((rowOf (r.take 1) (r.drop 1) s.1 t.2 s.2 t.1).map D.int), .int (i : Int), .int (j : Int)] = some (.str "cross") := by
    obtain ⟨p1, p2, p3, p4⟩ := ix (x := t.2) (y := s.2) (z := t.1) (by omega) (by intro p; omega)
    rw [w (x := t.2) (y := s.2) (z := t.1) (by omega) (by intro p; omega)]
    unfold spanT
    rw [p1, p2, p3, p4, lie_law (by omega) (by omega), m5]
  have h6 : F_how [webD (n : Int) ts, .tup ((rowOf (r.take 1) (r.drop 1) s.1 t.2 t.1 s.2).map D.int), .int (i : Int), .int (j : Int)] = some (.str "within") := by
    obtain ⟨p1, p2, p3, p4⟩ := ix (x := t.2) (y := t.1) (z := s.2) (by omega) (by intro p; omega)
    rw [w (x := t.2) (y := t.1) (z := s.2) (by omega) (by intro p; omega)]
    unfold spanT
    rw [p1, p2, p3, p4, lie_law (by omega) (by omega), m6]
  have z1 : lastOf s.2 t.1 t.2 s.2 t.1 = [t.2] := by unfold lastOf; simp [show ¬ t.2 = s.2 by omega, show ¬ t.2 = t.1 by omega]
  have z2 : lastOf s.2 t.1 t.2 s.2 t.2 = [t.1] := by unfold lastOf; simp [show ¬ t.1 = s.2 by omega, show ¬ t.1 = t.2 by omega]
  have z3 : lastOf s.2 t.1 t.2 t.1 s.2 = [t.2] := by unfold lastOf; simp [show ¬ t.2 = s.2 by omega, show ¬ t.2 = t.1 by omega]
  have z4 : lastOf s.2 t.1 t.2 t.1 t.2 = [s.2] := by unfold lastOf; simp [show ¬ s.2 = t.1 by omega, show ¬ s.2 = t.2 by omega]
  have z5 : lastOf s.2 t.1 t.2 t.2 s.2 = [t.1] := by unfold lastOf; simp [show ¬ t.1 = s.2 by omega, show ¬ t.1 = t.2 by omega]
  have z6 : lastOf s.2 t.1 t.2 t.2 t.1 = [s.2] := by unfold lastOf; simp [show ¬ s.2 = t.1 by omega, show ¬ s.2 = t.2 by omega]
  let W : D := webD (n : Int) ts
  obtain ⟨k1, t1⟩ := turn_eq (W := W) (i := .int (i : Int)) (j := .int (j : Int)) (a := s.1) (b := s.2) (c := t.1) (d := t.2) (x := s.2) (rest := r) (found := []) (c9 := none)
  obtain ⟨k2, t2⟩ := turn_ne (W := W) (b := s.2) (c := t.1) (d := t.2) (found := []) (c9 := k1) (by omega) z1 hrl (by simp) h1
  obtain ⟨k3, t3⟩ := turn_ne (W := W) (b := s.2) (c := t.1) (d := t.2) (found := [.str "apart"]) (c9 := k2) (by omega) z2 hrl (by simp) h2
  obtain ⟨k4, t4⟩ := turn_ne (W := W) (b := s.2) (c := t.1) (d := t.2) (found := [.str "apart", .str "apart"]) (c9 := k3) (by omega) z3 hrl (by simp) h3
  obtain ⟨k5, t5⟩ := turn_eq (W := W) (i := .int (i : Int)) (j := .int (j : Int)) (a := s.1) (b := s.2) (c := t.1) (d := t.2) (x := t.1) (rest := r) (found := [.str "apart", .str "apart", .str "cross"]) (c9 := k4)
  obtain ⟨k6, t6⟩ := turn_ne (W := W) (b := s.2) (c := t.1) (d := t.2) (found := [.str "apart", .str "apart", .str "cross"]) (c9 := k5) (by omega) z4 hrl (by simp) h4
  obtain ⟨k7, t7⟩ := turn_ne (W := W) (b := s.2) (c := t.1) (d := t.2) (found := [.str "apart", .str "apart", .str "cross", .str "within"]) (c9 := k6) (by omega) z5 hrl (by simp) h5
  obtain ⟨k8, t8⟩ := turn_ne (W := W) (b := s.2) (c := t.1) (d := t.2) (found := [.str "apart", .str "apart", .str "cross", .str "within", .str "cross"]) (c9 := k7) (by omega) z6 hrl (by simp) h6
  obtain ⟨k9, t9⟩ := turn_eq (W := W) (i := .int (i : Int)) (j := .int (j : Int)) (a := s.1) (b := s.2) (c := t.1) (d := t.2) (x := t.2) (rest := r) (found := [.str "apart", .str "apart", .str "cross", .str "within", .str "cross", .str "within"]) (c9 := k8)
  have in1 : ∀ c8, dFor (dSq (dSlc (dVar 3) (dPart (dC (.int 1))) (dNoP))) (dName 8) wayTurn (wEnv W (.int (i : Int)) (.int (j : Int)) s.1 s.2 t.1 t.2 r [] (some (.sh (.int s.2))) c8 none) = some (.nx (wEnv W (.int (i : Int)) (.int (j : Int)) s.1 s.2 t.1 t.2 r [.str "apart", .str "apart"] (some (.sh (.int s.2))) (some (.sh (.int t.2))) k3)) := fun c8 =>
    (ev_for (ds := [.int s.2, .int t.1, .int t.2]) rfl).trans ((loop_cons rfl t1).trans ((loop_cons rfl t2).trans ((loop_cons rfl t3).trans rfl)))
  have in2' : ∀ c8, dFor (dSq (dSlc (dVar 3) (dPart (dC (.int 1))) (dNoP))) (dName 8) wayTurn (wEnv W (.int (i : Int)) (.int (j : Int)) s.1 s.2 t.1 t.2 r [.str "apart", .str "apart"] (some (.sh (.int t.1))) c8 k3) = some (.nx (wEnv W (.int (i : Int)) (.int (j : Int)) s.1 s.2 t.1 t.2 r [.str "apart", .str "apart", .str "cross", .str "within"] (some (.sh (.int t.1))) (some (.sh (.int t.2))) k6)) := fun c8 =>
    (ev_for (ds := [.int s.2, .int t.1, .int t.2]) rfl).trans ((loop_cons rfl t4).trans ((loop_cons rfl t5).trans ((loop_cons rfl t6).trans rfl)))
  have in3 : ∀ c8, dFor (dSq (dSlc (dVar 3) (dPart (dC (.int 1))) (dNoP))) (dName 8) wayTurn (wEnv W (.int (i : Int)) (.int (j : Int)) s.1 s.2 t.1 t.2 r [.str "apart", .str "apart", .str "cross", .str "within"] (some (.sh (.int t.2))) c8 k6) = some (.nx (wEnv W (.int (i : Int)) (.int (j : Int)) s.1 s.2 t.1 t.2 r [.str "apart", .str "apart", .str "cross", .str "within", .str "cross", .str "within"] (some (.sh (.int t.2))) (some (.sh (.int t.2))) k9)) := fun c8 =>
    (ev_for (ds := [.int s.2, .int t.1, .int t.2]) rfl).trans ((loop_cons rfl t7).trans ((loop_cons rfl t8).trans ((loop_cons rfl t9).trans rfl)))
  have fin : g_law_ways [some (.sh W), some (.sh (.int (i : Int))), some (.sh (.int (j : Int))), none, none, none, none, none, none, none] = some (.rt (.lst (sixS.map D.str))) := by
    refine ev_seq (r := .rt .non) (ev_set (d := .lst [.int s.1, .int s.2, .int t.1, .int t.2]) (ev_ls ((ev_QF (ds := [.int s.1, .int s.2, .int t.1, .int t.2]) (ev_sqT ((ev_2 (x := tieD s) (y := tieD t) ((ev_ix (ds := ts.map tieD) rfl rfl).trans (at_ties hi)) ((ev_ix (ds := ts.map tieD) rfl rfl).trans (at_ties hj))).trans (cat_rows (xs := [s.1, s.2]) (ys := [t.1, t.2]) (show 4 ≤ LIM by decide))))).trans rfl))) ?_
    refine ev_seq (r := .rt .non) (ev_set (d := .tup (r.map D.int)) (ev_tupF ?_)) ?_
    · refine (ev_comp (ds := (iUp 0 n).map D.int) ?_ (by rw [List.length_map, upTo_len]; unfold LIM; omega)).trans ?_
      · rw [← dints_iUp]
        have := ev_rng1 (fa := dIx (dSq (dVar 0)) (dC (.int 0))) (ρ := [some (.sh W), some (.sh (.int (i : Int))), some (.sh (.int (j : Int))), some (.sh (.lst [.int s.1, .int s.2, .int t.1, .int t.2])), none, none, none, none, none, none]) (j := (n : Int)) rfl (by unfold okR; rw [decide_eq_true (by omega), decide_eq_true (by omega)]; rfl)
        rw [Int.toNat_natCast] at this
        exact this
      · refine (compGo_filter (fun ρ => ∃ c0, ρ = [c0, some (.sh (.lst [.int s.1, .int s.2, .int t.1, .int t.2]))]) (fun v => !inD v [.int s.1, .int s.2, .int t.1, .int t.2]) id _ _ ⟨none, rfl⟩ ?_).trans ?_
        · rintro v hv ρ ⟨c0, rfl⟩
          obtain ⟨p, _, rfl⟩ := List.mem_map.mp hv
          refine ⟨_, rfl, ⟨_, rfl⟩, ev_test ((ev_in (d := .int p) (ds := [.int s.1, .int s.2, .int t.1, .int t.2]) rfl rfl (by simp [depthL, depth, DEEP]) (by simp [depth, DEEP])).trans rfl), fun _ => rfl⟩
        · rw [List.map_id, List.filter_map, ← er]
          unfold restOf
          congr 3
          funext p
          show (!inD (.int p) [.int s.1, .int s.2, .int t.1, .int t.2]) = _
          rw [in4]
    · refine ev_seq (r := .rt .non) (ev_setF (ds := []) (ev_lim (ds := []) rfl (by decide))) ?_
      refine ev_seq (r := .rt .non) (ev_set (d := .int s.1) rfl) ?_
      refine ev_seq (r := .rt .non) ((ev_for (ds := [.int s.2, .int t.1, .int t.2]) rfl).trans ((loop_cons rfl (in1 none)).trans ((loop_cons rfl (in2' _)).trans ((loop_cons rfl (in3 _)).trans rfl)))) ?_
      exact ev_ret (ev_ls ((ev_QF (ds := [.str "apart", .str "apart", .str "cross", .str "within", .str "cross", .str "within"]) rfl).trans sixD))
  show outD (g_law_ways [some (.sh W), some (.sh (.int (i : Int))), some (.sh (.int (j : Int))), none, none, none, none, none, none, none]) = _
  rw [fin]
  rfl
end P
set_option Elab.async false
set_option linter.all false
set_option maxRecDepth 100000
namespace P
open PySem L2 L3
theorem tlt_asym {s t : Tie} (h : tlt s t) (h' : tlt t s) : False := tlt_irr s (tlt_trans h h')
theorem strict_ext : ∀ {xs ys : List Tie}, xs.Pairwise tlt → ys.Pairwise tlt → (∀ t, t ∈ xs ↔ t ∈ ys) → xs = ys
  | [], [], _, _, _ => rfl
  | [], y :: ys, _, _, h => absurd ((h y).mpr List.mem_cons_self) (by simp)
  | x :: xs, [], _, _, h => absurd ((h x).mp List.mem_cons_self) (by simp)
  | x :: xs, y :: ys, hx, hy, h => by
    rw [List.pairwise_cons] at hx hy
    have e : x = y := by
      rcases List.mem_cons.mp ((h x).mp List.mem_cons_self) with z | z
      · exact z
      · rcases List.mem_cons.mp ((h y).mpr List.mem_cons_self) with q | q
        · exact q.symm
        · exact absurd (hx.1 y q) fun w => tlt_asym w (hy.1 x z)
    subst e
    congr 1
    refine strict_ext hx.2 hy.2 fun t => ?_
    constructor
    · intro ht
      rcases List.mem_cons.mp ((h t).mp (List.mem_cons_of_mem _ ht)) with z | z
      · subst z; exact absurd (hx.1 _ ht) (tlt_irr _)
      · exact z
    · intro ht
      rcases List.mem_cons.mp ((h t).mpr (List.mem_cons_of_mem _ ht)) with z | z
      · subst z; exact absurd (hy.1 _ ht) (tlt_irr _)
      · exact z
theorem nodup_len {α : Type} [DecidableEq α] : ∀ (xs ys : List α), xs.Nodup → (∀ x ∈ xs, x ∈ ys) → xs.length ≤ ys.length
  | [], _, _, _ => Nat.zero_le _
  | x :: xs, ys, hn, h => by
    rw [List.nodup_cons] at hn
    have hx := h x List.mem_cons_self
    have ih := nodup_len xs (ys.erase x) hn.2 fun y hy => (List.mem_erase_of_ne (fun e : y = x => hn.1 (e ▸ hy))).mpr (h y (List.mem_cons_of_mem _ hy))
    rw [List.length_erase_of_mem hx] at ih
    have : 0 < ys.length := List.length_pos_of_mem hx
    rw [List.length_cons]
    omega
def progPairs (m : Nat) (cl : Nat → Nat → Bool) (k : Nat) : List Tie := (List.range k).flatMap fun i => (((List.range (m - (i + 1))).map fun q => i + 1 + q).filter (cl i)).map fun (j : Nat) => ((i : Int), (j : Int))
def lawPairs (cl : Nat → Nat → Bool) (k : Nat) : List Tie := (List.range k).flatMap fun j => ((List.range j).filter fun i => cl i j).map fun (i : Nat) => ((i : Int), (j : Int))
theorem progPairs_mem {m k : Nat} {cl : Nat → Nat → Bool} {t : Tie} : t ∈ progPairs m cl k ↔ ∃ i j : Nat, t = ((i : Int), (j : Int)) ∧ i < k ∧ i < j ∧ j < m ∧ cl i j = true := by
  unfold progPairs
  rw [List.mem_flatMap]
  constructor
  · rintro ⟨i, hi, h⟩
    obtain ⟨j, hj, rfl⟩ := List.mem_map.mp h
    obtain ⟨hj1, hj2⟩ := List.mem_filter.mp hj
    obtain ⟨q, hq, rfl⟩ := List.mem_map.mp hj1
    have := List.mem_range.mp hi
    have := List.mem_range.mp hq
    exact ⟨i, i + 1 + q, rfl, by omega, by omega, by omega, hj2⟩
  · rintro ⟨i, j, rfl, h1, h2, h3, h4⟩
    refine ⟨i, List.mem_range.mpr h1, List.mem_map.mpr ⟨j, List.mem_filter.mpr ⟨List.mem_map.mpr ⟨j - (i + 1), List.mem_range.mpr (by omega), by omega⟩, h4⟩, rfl⟩⟩
theorem lawPairs_mem {k : Nat} {cl : Nat → Nat → Bool} {t : Tie} : t ∈ lawPairs cl k ↔ ∃ i j : Nat, t = ((i : Int), (j : Int)) ∧ i < j ∧ j < k ∧ cl i j = true := by
  unfold lawPairs
  rw [List.mem_flatMap]
  constructor
  · rintro ⟨j, hj, h⟩
    obtain ⟨i, hi, rfl⟩ := List.mem_map.mp h
    obtain ⟨hi1, hi2⟩ := List.mem_filter.mp hi
    exact ⟨i, j, rfl, List.mem_range.mp hi1, List.mem_range.mp hj, hi2⟩
  · rintro ⟨i, j, rfl, h1, h2, h3⟩
    exact ⟨j, List.mem_range.mpr h2, List.mem_map.mpr ⟨i, List.mem_filter.mpr ⟨List.mem_range.mpr h1, h3⟩, rfl⟩⟩
theorem progPairs_up (m k : Nat) (cl : Nat → Nat → Bool) : (progPairs m cl k).Pairwise tlt := by
  unfold progPairs
  rw [List.pairwise_flatMap]
  refine ⟨fun i _ => ?_, ?_⟩
  · rw [List.pairwise_map]
    refine List.Pairwise.filter _ ?_
    rw [List.pairwise_map]
    exact List.pairwise_lt_range.imp fun {a b} h => by unfold tlt; dsimp only; omega
  · refine List.pairwise_lt_range.imp fun {a b} h x hx y hy => ?_
    obtain ⟨p, _, rfl⟩ := List.mem_map.mp hx
    obtain ⟨q, _, rfl⟩ := List.mem_map.mp hy
    unfold tlt; dsimp only; omega
theorem lawPairs_nodup (k : Nat) (cl : Nat → Nat → Bool) : (lawPairs cl k).Nodup := by
  unfold lawPairs List.Nodup
  rw [List.pairwise_flatMap]
  refine ⟨fun j _ => ?_, ?_⟩
  · rw [List.pairwise_map]
    refine List.Pairwise.filter _ ?_
    exact List.pairwise_lt_range.imp fun {a b} h z => by have := (Prod.mk.inj z).1; omega
  · refine List.pairwise_lt_range.imp fun {a b} h x hx y hy z => ?_
    obtain ⟨p, _, rfl⟩ := List.mem_map.mp hx
    obtain ⟨q, _, rfl⟩ := List.mem_map.mp hy
    have := (Prod.mk.inj z).2
    omega
theorem sort_law (m : Nat) (cl : Nat → Nat → Bool) : sortP (lawPairs cl m) = progPairs m cl m := by
  refine strict_ext (sortP_up _ (lawPairs_nodup m cl)) (progPairs_up m m cl) fun t => ?_
  rw [(sortP_perm _).mem_iff, lawPairs_mem, progPairs_mem]
  constructor
  · rintro ⟨i, j, h1, h2, h3, h4⟩; exact ⟨i, j, h1, by omega, h2, h3, h4⟩
  · rintro ⟨i, j, h1, h2, h3, h4, h5⟩; exact ⟨i, j, h1, h3, h4, h5⟩
def k15 : List Tie := [(0, 1), (0, 2), (0, 3), (0, 4), (0, 5), (1, 2), (1, 3), (1, 4), (1, 5), (2, 3), (2, 4), (2, 5), (3, 4), (3, 5), (4, 5)]
theorem k15_mem {t : Tie} (h : 0 ≤ t.1 ∧ t.1 < t.2 ∧ t.2 < 6) : t ∈ k15 := by
  obtain ⟨a, b⟩ := t
  dsimp only at h
  have ha : a = 0 ∨ a = 1 ∨ a = 2 ∨ a = 3 ∨ a = 4 := by omega
  have hb : b = 1 ∨ b = 2 ∨ b = 3 ∨ b = 4 ∨ b = 5 := by omega
  rcases ha with rfl | rfl | rfl | rfl | rfl <;> rcases hb with rfl | rfl | rfl | rfl | rfl <;> first | (exfalso; omega) | decide
def dis (s t : Tie) : Bool := decide (tlt s t) && !((decide (s.1 = t.1) || decide (s.1 = t.2)) || (decide (s.2 = t.1) || decide (s.2 = t.2)))
def k45 : List (Tie × Tie) := k15.flatMap fun s => (k15.filter (dis s)).map fun t => (s, t)
theorem k45_len : k45.length = 45 := by decide +kernel
end P
set_option Elab.async false
set_option linter.all false
set_option maxRecDepth 100000
namespace P
open PySem L2 L3
def tabW : List (Str × Str) := [("pile", "cross"), ("queue", "within")]
theorem F_clash_ok {k w : Str} (hk : tabW.lookup k = some w) (s t : Tie) : F_do_spans_clash [tieD s, tieD t, .str k] = some (.bl (lie s t == w)) := by
  have e : g_do_spans_clash [some (.sh (tieD s)), some (.sh (tieD t)), some (.sh (.str k))] = some (.rt (.bl (lie s t == w))) := by
    refine ev_ret ((ev_2 (x := .str (lie s t)) (y := .str w) ((ev_call (ds := [tieD s, tieD t]) rfl).trans (F_lie_ok s t)) ?_).trans rfl)
    show (match tabW.lookup k with | some y => some (D.str y) | none => none) = _
    rw [hk]
  show outD (g_do_spans_clash [some (.sh (tieD s)), some (.sh (tieD t)), some (.sh (.str k))]) = _
  rw [e]
  rfl
def spAt (r : List Int) (ts : List Tie) (i : Nat) : Tie := spanT r (ts.getD i (0, 0))
def clP (r : List Int) (ts : List Tie) (w : Str) (i j : Nat) : Bool := lie (spAt r ts i) (spAt r ts j) == w
theorem spAt_of {r : List Int} {ts : List Tie} {i : Nat} {s : Tie} (h : ts[i]? = some s) : spAt r ts i = spanT r s := by
  unfold spAt
  rw [List.getD_eq_getElem?_getD, h]
  rfl
theorem progPairs_succ (m : Nat) (cl : Nat → Nat → Bool) (k : Nat) : progPairs m cl (k + 1) = progPairs m cl k ++ (((List.range (m - (k + 1))).map fun q => k + 1 + q).filter (cl k)).map fun (j : Nat) => ((k : Int), (j : Int)) := by
  unfold progPairs
  rw [List.range_succ, List.flatMap_append, List.flatMap_singleton]
def clTurn : DEnv → Option Out := dSeq (dSet 7 (dLs (dComp [none, some 6, some 3, some 2] (dRng2 (d2 dAdd (dVar 5) (dC (.int 1))) (dLen (dSq (dVar 3)))) (dName 0) (dTest (dCall F_do_spans_clash (dCons (dVar 1) (dCons (dIx (dSq (dVar 2)) (dVar 0)) (dCons (dVar 3) (dNil)))))) (dVar 0))))
  (dExt 4 (dComp [none, some 5] (dSq (dVar 7)) (dName 0) (dTrue) (dTup (dCons (dVar 1) (dCons (dVar 0) (dNil))))))
abbrev cEnv (W R : D) (k : Str) (sp found : List D) (c5 c6 c7 : Option Cell) : DEnv := [some (.sh W), some (.sh R), some (.sh (.str k)), some (.sh (.lst sp)), some (.ow found), c5, c6, c7]
theorem at_spans {r : List Int} {ts : List Tie} {j : Nat} (h : j < ts.length) : atI (ts.map fun t => tieD (spanT r t)) (j : Int) = some (tieD (spAt r ts j)) := by
  unfold atI
  rw [List.length_map, ixN_nat h]
  show (ts.map fun t => tieD (spanT r t))[j]? = _
  rw [List.getElem?_map, List.getElem?_eq_getElem h, spAt_of (List.getElem?_eq_getElem h)]
  rfl
theorem clTurn_ok {W R : D} {k w : Str} (hk : tabW.lookup k = some w) {r : List Int} {ts : List Tie} {i : Nat} {found : List Tie} {c7 : Option Cell} (hi : i < ts.length) (hm : ts.length ≤ 12) (hf : found.length ≤ 1000) :
    ∃ c7', clTurn (cEnv W R k (ts.map fun t => tieD (spanT r t)) (found.map tieD) (some (.sh (.int (i : Int)))) (some (.sh (tieD (spAt r ts i)))) c7) =
      some (.nx (cEnv W R k (ts.map fun t => tieD (spanT r t)) ((found ++ (((List.range (ts.length - (i + 1))).map fun q => i + 1 + q).filter (clP r ts w i)).map fun (j : Nat) => ((i : Int), (j : Int))).map tieD) (some (.sh (.int (i : Int)))) (some (.sh (tieD (spAt r ts i)))) c7')) := by
  generalize ejs : ((List.range (ts.length - (i + 1))).map fun q => i + 1 + q) = js
  have hjs : ∀ j ∈ js, j < ts.length := fun j hj => by
    rw [← ejs] at hj
    obtain ⟨q, hq, rfl⟩ := List.mem_map.mp hj
    have := List.mem_range.mp hq
    omega
  have hjl : js.length ≤ 12 := by rw [← ejs, List.length_map, List.length_range]; omega
  have e0 : dRng2 (d2 dAdd (dVar 5) (dC (.int 1))) (dLen (dSq (dVar 3))) (cEnv W R k (ts.map fun t => tieD (spanT r t)) (found.map tieD) (some (.sh (.int (i : Int)))) (some (.sh (tieD (spAt r ts i)))) c7) = some (js.map fun (j : Nat) => D.int (j : Int)) := by
    have := ev_rng2 (fa := d2 dAdd (dVar 5) (dC (.int 1))) (fb := dLen (dSq (dVar 3))) (ρ := cEnv W R k (ts.map fun t => tieD (spanT r t)) (found.map tieD) (some (.sh (.int (i : Int)))) (some (.sh (tieD (spAt r ts i)))) c7) (i := (i : Int) + 1) (j := ((ts.map fun t => tieD (spanT r t)).length : Int)) rfl rfl
      (by unfold okR; rw [decide_eq_true (by omega), decide_eq_true (by omega)]; rfl) (by rw [List.length_map]; unfold okR; rw [decide_eq_true (by omega), decide_eq_true (by omega)]; rfl)
    rw [this, ← ejs, List.length_map, List.map_map, show ((ts.length : Int) - ((i : Int) + 1)).toNat = ts.length - (i + 1) by omega]
    unfold dints
    rfl
  have e1 : dComp [none, some 6, some 3, some 2] (dRng2 (d2 dAdd (dVar 5) (dC (.int 1))) (dLen (dSq (dVar 3)))) (dName 0) (dTest (dCall F_do_spans_clash (dCons (dVar 1) (dCons (dIx (dSq (dVar 2)) (dVar 0)) (dCons (dVar 3) (dNil)))))) (dVar 0) (cEnv W R k (ts.map fun t => tieD (spanT r t)) (found.map tieD) (some (.sh (.int (i : Int)))) (some (.sh (tieD (spAt r ts i)))) c7) =
      some ((js.filter (clP r ts w i)).map fun (j : Nat) => D.int (j : Int)) := by
    refine (ev_comp e0 (by rw [List.length_map]; unfold LIM; omega)).trans ?_
    refine (compGo_filter (fun ρ => ∃ c0, ρ = [c0, some (.sh (tieD (spAt r ts i))), some (.sh (.lst (ts.map fun t => tieD (spanT r t)))), some (.sh (.str k))]) (fun d => match d with | .int j => clP r ts w i j.toNat | _ => false) id _ _ ⟨none, rfl⟩ ?_).trans ?_
    · rintro d hd ρ ⟨c0, rfl⟩
      obtain ⟨j, hj, rfl⟩ := List.mem_map.mp hd
      refine ⟨_, rfl, ⟨_, rfl⟩, ev_test ?_, fun _ => rfl⟩
      refine (ev_call (ds := [tieD (spAt r ts i), tieD (spAt r ts j), .str k]) (ev_cons rfl (ev_cons ((ev_ix (ds := ts.map fun t => tieD (spanT r t)) rfl rfl).trans (at_spans (hjs j hj))) rfl))).trans ?_
      rw [F_clash_ok hk]
      show some (D.bl (clP r ts w i j)) = some (D.bl (clP r ts w i (j : Int).toNat))
      rw [Int.toNat_natCast]
    · rw [List.map_id, List.filter_map]
      rfl
  refine ⟨some (.sh (.lst ((js.filter (clP r ts w i)).map fun (j : Nat) => D.int (j : Int)))), ev_seq (r := .rt .non) (ev_set (ev_ls e1)) ?_⟩
  have e2 : dComp [none, some 5] (dSq (dVar 7)) (dName 0) (dTrue) (dTup (dCons (dVar 1) (dCons (dVar 0) (dNil)))) (cEnv W R k (ts.map fun t => tieD (spanT r t)) (found.map tieD) (some (.sh (.int (i : Int)))) (some (.sh (tieD (spAt r ts i)))) (some (.sh (.lst ((js.filter (clP r ts w i)).map fun (j : Nat) => D.int (j : Int)))))) =
      some (((js.filter (clP r ts w i)).map fun (j : Nat) => ((i : Int), (j : Int))).map tieD) := by
    refine (ev_comp (ds := (js.filter (clP r ts w i)).map fun (j : Nat) => D.int (j : Int)) rfl (by rw [List.length_map]; have := List.length_filter_le (clP r ts w i) js; unfold LIM; omega)).trans ?_
    refine (compGo_map (fun ρ => ∃ c0, ρ = [c0, some (.sh (.int (i : Int)))]) (fun d => .tup [.int (i : Int), d]) _ _ ⟨none, rfl⟩ ?_).trans ?_
    · rintro d hd ρ ⟨c0, rfl⟩
      exact ⟨_, rfl, ⟨_, rfl⟩, ev_tup (ds := [.int (i : Int), d]) rfl (show 2 ≤ LIM by decide)⟩
    · rw [List.map_map, List.map_map]
      rfl
  refine (ev_ext (ds := found.map tieD) rfl e2 ?_).trans ?_
  · rw [List.length_map, List.length_map, List.length_map]
    have := List.length_filter_le (clP r ts w i) js
    unfold LIM; omega
  · rw [List.map_append]
    rfl
theorem fill_cl {W R : D} {k w : Str} (hk : tabW.lookup k = some w) {r : List Int} {ts : List Tie} (hm : ts.length ≤ 12) : ∀ (rem : List Tie) (i : Nat) (c5 c6 c7 : Option Cell), ts.drop i = rem → i + rem.length = ts.length → (progPairs ts.length (clP r ts w) i).length ≤ i * 12 →
    ∃ c5' c6' c7', dLoop (dGTup 2 (dGCons (dName 5) (dGCons (dName 6) (dGNil)))) clTurn (enumD i (rem.map fun t => tieD (spanT r t))) (cEnv W R k (ts.map fun t => tieD (spanT r t)) ((progPairs ts.length (clP r ts w) i).map tieD) c5 c6 c7) =
      some (.nx (cEnv W R k (ts.map fun t => tieD (spanT r t)) ((progPairs ts.length (clP r ts w) ts.length).map tieD) c5' c6' c7'))
  | [], i, c5, c6, c7, hd, hl, hp => by
    have : i = ts.length := by simpa using hl
    subst this
    exact ⟨c5, c6, c7, rfl⟩
  | t :: rem, i, c5, c6, c7, hd, hl, hp => by
    rw [List.length_cons] at hl
    have hi : i < ts.length := by omega
    have ht : ts[i]? = some t := by rw [← List.head?_drop, hd]; rfl
    obtain ⟨c7', e⟩ := clTurn_ok (W := W) (R := R) hk (r := r) (ts := ts) (i := i) (found := progPairs ts.length (clP r ts w) i) (c7 := c7) hi hm (by omega)
    rw [← progPairs_succ] at e
    have hd' : ts.drop (i + 1) = rem := by rw [← List.drop_drop, hd]; rfl
    have hp' : (progPairs ts.length (clP r ts w) (i + 1)).length ≤ (i + 1) * 12 := by
      rw [progPairs_succ, List.length_append, List.length_map]
      have := List.length_filter_le (clP r ts w i) ((List.range (ts.length - (i + 1))).map fun q => i + 1 + q)
      rw [List.length_map, List.length_range] at this
      omega
    obtain ⟨d5, d6, d7, ih⟩ := fill_cl hk hm rem (i + 1) (some (.sh (.int (i : Int)))) (some (.sh (tieD (spAt r ts i)))) c7' hd' (by omega) hp'
    refine ⟨d5, d6, d7, ?_⟩
    rw [List.map_cons]
    rw [← spAt_of (r := r) ht]
    exact (loop_cons rfl e).trans ih
theorem F_clashes_ok {n : Int} {k w : Str} (hk : tabW.lookup k = some w) {ts : List Tie} {r : List Int} (hn : r.Nodup) (hr : r.length ≤ 1000) (ht : ts.length ≤ 12) (hm : ∀ t ∈ ts, t.1 ∈ r ∧ t.2 ∈ r) :
    F_clashes [webD n ts, .tup (r.map D.int), .str k] = some (.tup ((progPairs ts.length (clP r ts w) ts.length).map tieD)) := by
  obtain ⟨c5, c6, c7, e⟩ := fill_cl (W := webD n ts) (R := .tup (r.map D.int)) hk (r := r) (ts := ts) ht ts 0 none none none rfl (by omega) (by unfold progPairs; simp)
  have fin : g_clashes [some (.sh (webD n ts)), some (.sh (.tup (r.map D.int))), some (.sh (.str k)), none, none, none, none, none] = some (.rt (.tup ((progPairs ts.length (clP r ts w) ts.length).map tieD))) := by
    refine ev_seq (r := .rt .non) (ev_set ((ev_call (ds := [webD n ts, .tup (r.map D.int)]) rfl).trans (F_spans_of_ok hn hr (by omega) hm))) ?_
    refine ev_seq (r := .rt .non) (ev_setF (ds := []) (ev_lim (ds := []) rfl (by decide))) ?_
    refine ev_seq (r := .rt .non) ((ev_for (ds := enumD 0 (ts.map fun t => tieD (spanT r t))) rfl).trans e) ?_
    exact ev_ret (ev_tupF rfl)
  show outD (g_clashes [some (.sh (webD n ts)), some (.sh (.tup (r.map D.int))), some (.sh (.str k)), none, none, none, none, none]) = _
  rw [fin]
  rfl
end P
set_option Elab.async false
set_option linter.all false
set_option maxRecDepth 100000
namespace P
open PySem L2 L3
theorem idx_ne {r : List Int} {p q : Int} (hp : p ∈ r) (hq : q ∈ r) (h : p ≠ q) : ixI r p ≠ ixI r q := fun e => by
  have e' : r.idxOf p = r.idxOf q := by unfold ixI at e; omega
  have l1 : r.idxOf p < r.length := List.idxOf_lt_length_of_mem hp
  have l2 : r.idxOf q < r.length := List.idxOf_lt_length_of_mem hq
  have g1 : r[r.idxOf p]? = some p := by rw [List.getElem?_eq_getElem l1, List.getElem_idxOf]
  have g2 : r[r.idxOf q]? = some q := by rw [List.getElem?_eq_getElem l2, List.getElem_idxOf]
  rw [e', g2] at g1
  exact h (Option.some.inj g1).symm
theorem law_lie {r : List Int} {s t : Tie} (hs : s.1 ∈ r ∧ s.2 ∈ r) (ht : t.1 ∈ r ∧ t.2 ∈ r) (h1 : s.1 ≠ s.2) (h2 : t.1 ≠ t.2) : lawLie (ixI r s.1) (ixI r s.2) (ixI r t.1) (ixI r t.2) = lie (spanT r s) (spanT r t) :=
  (lie_law (idx_ne hs.1 hs.2 h1) (idx_ne ht.1 ht.2 h2)).symm
def KW (k w : Str) : Prop := (k = "pile" ∧ w = "cross") ∨ (k = "queue" ∧ w = "within")
theorem KW.tab {k w : Str} (h : KW k w) : tabW.lookup k = some w := by
  rcases h with ⟨rfl, rfl⟩ | ⟨rfl, rfl⟩ <;> decide +kernel
theorem KW.meet {k w : Str} (h : KW k w) : (("meet" : Str) == w) = false := by
  rcases h with ⟨rfl, rfl⟩ | ⟨rfl, rfl⟩ <;> decide +kernel
theorem lawPairs_succ (cl : Nat → Nat → Bool) (k : Nat) : lawPairs cl (k + 1) = lawPairs cl k ++ ((List.range k).filter fun i => cl i k).map fun (i : Nat) => ((i : Int), (k : Int)) := by
  unfold lawPairs
  rw [List.range_succ, List.flatMap_append, List.flatMap_singleton]
theorem lawPairs_len (cl : Nat → Nat → Bool) : ∀ k, k ≤ 12 → (lawPairs cl k).length ≤ k * 12
  | 0, _ => by unfold lawPairs; simp
  | k + 1, h => by
    have ih := lawPairs_len cl k (by omega)
    rw [lawPairs_succ, List.length_append, List.length_map]
    have := List.length_filter_le (fun i => cl i k) (List.range k)
    rw [List.length_range] at this
    omega
theorem few {ts : List Tie} {r : List Int} {k w : Str} (hkw : KW k w) (hup : ts.Pairwise tlt) (hok : ∀ t ∈ ts, 0 ≤ t.1 ∧ t.1 < t.2 ∧ t.2 < 6) : (lawPairs (clP r ts w) ts.length).length ≤ 45 := by
  let f : Tie → Tie × Tie := fun p => (ts.getD p.1.toNat (0, 0), ts.getD p.2.toNat (0, 0))
  have at_ : ∀ {i : Nat} (h : i < ts.length), ts.getD i (0, 0) = ts[i] := fun {i} h => by rw [List.getD_eq_getElem?_getD, List.getElem?_eq_getElem h]; rfl
  have hlt : ∀ {i j : Nat} (hj : j < ts.length) (h : i < j), tlt (ts[i]'(by omega)) ts[j] := fun {i j} hj h => List.pairwise_iff_getElem.mp hup i j (by omega) hj h
  have inj : ∀ {i j : Nat} (hi : i < ts.length) (hj : j < ts.length), ts[i] = ts[j] → i = j := fun {i j} hi hj e => by
    rcases Nat.lt_trichotomy i j with h | h | h
    · have := hlt hj h; rw [e] at this; exact absurd this (tlt_irr _)
    · exact h
    · have := hlt hi h; rw [e] at this; exact absurd this (tlt_irr _)
  have hn : ((lawPairs (clP r ts w) ts.length).map f).Nodup := by
    rw [List.Nodup, List.pairwise_map]
    refine (lawPairs_nodup ts.length (clP r ts w)).imp_of_mem fun {p q} hp hq hne e => hne ?_
    obtain ⟨i, j, rfl, h1, h2, _⟩ := lawPairs_mem.mp hp
    obtain ⟨i', j', rfl, h1', h2', _⟩ := lawPairs_mem.mp hq
    have e1 : ts.getD i (0, 0) = ts.getD i' (0, 0) := (Prod.mk.inj e).1
    have e2 : ts.getD j (0, 0) = ts.getD j' (0, 0) := (Prod.mk.inj e).2
    rw [at_ (by omega), at_ (by omega)] at e1
    rw [at_ h2, at_ h2'] at e2
    rw [inj _ _ e1, inj _ _ e2]
  have hm : ∀ x ∈ (lawPairs (clP r ts w) ts.length).map f, x ∈ k45 := fun x hx => by
    obtain ⟨p, hp, rfl⟩ := List.mem_map.mp hx
    obtain ⟨i, j, rfl, h1, h2, hc⟩ := lawPairs_mem.mp hp
    show (ts.getD i (0, 0), ts.getD j (0, 0)) ∈ k45
    have hs := hok _ (List.getElem_mem (show i < ts.length by omega))
    have ht := hok _ (List.getElem_mem h2)
    have hd : dis (ts.getD i (0, 0)) (ts.getD j (0, 0)) = true := by
      unfold dis
      rw [at_ (by omega), at_ h2, decide_eq_true (hlt h2 h1), Bool.true_and]
      cases hh : ((decide ((ts[i]'(by omega)).1 = ts[j].1) || decide ((ts[i]'(by omega)).1 = ts[j].2)) || (decide ((ts[i]'(by omega)).2 = ts[j].1) || decide ((ts[i]'(by omega)).2 = ts[j].2))) with
      | false => rfl
      | true =>
        exfalso
        simp only [Bool.or_eq_true, decide_eq_true_eq] at hh
        unfold clP at hc
        rw [spAt_of (List.getElem?_eq_getElem (show i < ts.length by omega)), spAt_of (List.getElem?_eq_getElem h2)] at hc
        have hmeet : lie (spanT r (ts[i]'(by omega))) (spanT r ts[j]) = "meet" := by
          unfold lie spanT
          dsimp only
          rw [if_pos]
          rcases hh with (z | z) | (z | z) <;> (rw [z]; omega)
        rw [hmeet, hkw.meet] at hc
        cases hc
    unfold k45
    rw [List.mem_flatMap]
    refine ⟨_, k15_mem (by rw [at_ (by omega)]; exact hs), List.mem_map.mpr ⟨_, List.mem_filter.mpr ⟨k15_mem (by rw [at_ h2]; exact ht), hd⟩, rfl⟩⟩
  have := nodup_len _ _ hn hm
  rw [List.length_map, k45_len] at this
  exact this
end P
set_option Elab.async false
set_option linter.all false
set_option maxRecDepth 100000
namespace P
open PySem L2 L3
def lcTurn : DEnv → Option Out := dExt 4 (dComp [none, some 5, some 0, some 1, some 3] (dRng1 (dVar 5)) (dName 0) (dTest (d2 dEq (dCall F_law_how (dCons (dVar 2) (dCons (dVar 3) (dCons (dVar 0) (dCons (dVar 1) (dNil)))))) (dVar 4))) (dTup (dCons (dVar 0) (dCons (dVar 1) (dNil)))))
theorem lcTurn_ok {n : Int} {ts : List Tie} {r : List Int} {k w : Str} {j : Nat} {found : List Tie} (hj : j < ts.length) (hm : ts.length ≤ 12) (hf : found.length ≤ 1000) (hmem : ∀ t ∈ ts, t.1 ∈ r ∧ t.2 ∈ r) (hne : ∀ t ∈ ts, t.1 ≠ t.2) :
    lcTurn [some (.sh (webD n ts)), some (.sh (.tup (r.map D.int))), some (.sh (.str k)), some (.sh (.str w)), some (.ow (found.map tieD)), some (.sh (.int (j : Int)))] =
      some (.nx [some (.sh (webD n ts)), some (.sh (.tup (r.map D.int))), some (.sh (.str k)), some (.sh (.str w)), some (.ow ((found ++ ((List.range j).filter fun i => clP r ts w i j).map fun (i : Nat) => ((i : Int), (j : Int))).map tieD)), some (.sh (.int (j : Int)))]) := by
  have e1 : dComp [none, some 5, some 0, some 1, some 3] (dRng1 (dVar 5)) (dName 0) (dTest (d2 dEq (dCall F_law_how (dCons (dVar 2) (dCons (dVar 3) (dCons (dVar 0) (dCons (dVar 1) (dNil)))))) (dVar 4))) (dTup (dCons (dVar 0) (dCons (dVar 1) (dNil))))
      [some (.sh (webD n ts)), some (.sh (.tup (r.map D.int))), some (.sh (.str k)), some (.sh (.str w)), some (.ow (found.map tieD)), some (.sh (.int (j : Int)))] = some ((((List.range j).filter fun i => clP r ts w i j).map fun (i : Nat) => ((i : Int), (j : Int))).map tieD) := by
    have e0 : dRng1 (dVar 5) [some (.sh (webD n ts)), some (.sh (.tup (r.map D.int))), some (.sh (.str k)), some (.sh (.str w)), some (.ow (found.map tieD)), some (.sh (.int (j : Int)))] = some ((List.range j).map fun (i : Nat) => D.int (i : Int)) := by
      rw [ev_rng1 (j := (j : Int)) rfl (by unfold okR; rw [decide_eq_true (by omega), decide_eq_true (by omega)]; rfl), Int.toNat_natCast]
      unfold dints
      congr 1
      refine List.map_congr_left fun q _ => ?_
      rw [Int.zero_add]
    refine (ev_comp e0 (by rw [List.length_map, List.length_range]; unfold LIM; omega)).trans ?_
    refine (compGo_filter (fun ρ => ∃ c0, ρ = [c0, some (.sh (.int (j : Int))), some (.sh (webD n ts)), some (.sh (.tup (r.map D.int))), some (.sh (.str w))]) (fun d => match d with | .int i => clP r ts w i.toNat j | _ => false) (fun d => .tup [d, .int (j : Int)]) _ _ ⟨none, rfl⟩ ?_).trans ?_
    · rintro d hd ρ ⟨c0, rfl⟩
      obtain ⟨i, hi, rfl⟩ := List.mem_map.mp hd
      have hi' : i < ts.length := by have := List.mem_range.mp hi; omega
      refine ⟨_, rfl, ⟨_, rfl⟩, ev_test ?_, fun _ => ev_tup (ds := [.int (i : Int), .int (j : Int)]) rfl (show 2 ≤ LIM by decide)⟩
      have gi := List.getElem?_eq_getElem hi'
      have gj := List.getElem?_eq_getElem hj
      have mi := List.getElem_mem hi'
      have mj := List.getElem_mem hj
      have hF := law_how_ok (n := n) (r := r) gi gj (hmem _ mi) (hmem _ mj)
      rw [law_lie (hmem _ mi) (hmem _ mj) (hne _ mi) (hne _ mj), ← spAt_of (r := r) gi, ← spAt_of (r := r) gj] at hF
      refine (ev_2 (x := .str (lie (spAt r ts i) (spAt r ts j))) (y := .str w) ((ev_call (ds := [webD n ts, .tup (r.map D.int), .int (i : Int), .int (j : Int)]) rfl).trans hF) rfl).trans ?_
      show some (D.bl (clP r ts w i j)) = some (D.bl (clP r ts w (i : Int).toNat j))
      rw [Int.toNat_natCast]
    · rw [List.filter_map, List.map_map, List.map_map]
      rfl
  refine (ev_ext (ds := found.map tieD) rfl e1 ?_).trans ?_
  · rw [List.length_map, List.length_map, List.length_map]
    have := List.length_filter_le (fun i => clP r ts w i j) (List.range j)
    rw [List.length_range] at this
    unfold LIM; omega
  · rw [List.map_append]
    rfl
theorem F_law_clashes_ok {n : Int} {ts : List Tie} {r : List Int} {k w : Str} (hkw : KW k w) (hm : ts.length ≤ 12) (hup : ts.Pairwise tlt) (hok : ∀ t ∈ ts, 0 ≤ t.1 ∧ t.1 < t.2 ∧ t.2 < 6) (hmem : ∀ t ∈ ts, t.1 ∈ r ∧ t.2 ∈ r) :
    F_law_clashes [webD n ts, .tup (r.map D.int), .str k] = some (.lst ((progPairs ts.length (clP r ts w) ts.length).map tieD)) := by
  have hne : ∀ t ∈ ts, t.1 ≠ t.2 := fun t ht => by have := hok t ht; omega
  obtain ⟨ρ', l1, c5, rfl⟩ := loop_inv (h := dName 5) (g := lcTurn) (fun pre ρ => ∃ c5, ρ = [some (.sh (webD n ts)), some (.sh (.tup (r.map D.int))), some (.sh (.str k)), some (.sh (.str w)), some (.ow ((lawPairs (clP r ts w) pre.length).map tieD)), c5])
    (ds := dints 0 ts.length) (ρ := [some (.sh (webD n ts)), some (.sh (.tup (r.map D.int))), some (.sh (.str k)), some (.sh (.str w)), some (.ow []), none]) ⟨none, rfl⟩ (fun pre d post ρ he hI => by
      obtain ⟨c5, rfl⟩ := hI
      have hlen := congrArg List.length he
      rw [dints_len, List.length_append, List.length_cons] at hlen
      have hd : d = .int (pre.length : Int) := by
        have h1 : (dints 0 ts.length)[pre.length]? = some d := by rw [← he]; simp
        rw [dints_get (by omega)] at h1
        exact (Option.some.inj h1).symm
      subst hd
      refine ⟨_, _, rfl, .inl (lcTurn_ok (found := lawPairs (clP r ts w) pre.length) (by omega) hm ?_ hmem hne), ⟨some (.sh (.int (pre.length : Int))), ?_⟩⟩
      · have := lawPairs_len (clP r ts w) pre.length (by omega)
        omega
      · rw [List.length_append, List.length_singleton, lawPairs_succ])
  rw [dints_len] at l1
  have e3 : dIx (dLim (dCons (dC (.str "cross")) (dCons (dC (.str "within")) (dNil)))) (dCall fInt (dCons (d2 dEq (dVar 2) (dC (.str "queue"))) dNil)) [some (.sh (webD n ts)), some (.sh (.tup (r.map D.int))), some (.sh (.str k)), none, none, none] = some (.str w) := by
    refine (ev_ix (ds := [.str "cross", .str "within"]) (j := if k == "queue" then 1 else 0) (ev_lim rfl (show 2 ≤ LIM by decide)) ?_).trans ?_
    · refine (ev_call (ds := [.bl (k == "queue")]) rfl).trans ?_
      rcases hkw with ⟨rfl, rfl⟩ | ⟨rfl, rfl⟩
      · rw [show (("pile" : Str) == "queue") = false by decide +kernel]; rfl
      · rw [show (("queue" : Str) == "queue") = true by decide +kernel]; rfl
    · rcases hkw with ⟨rfl, rfl⟩ | ⟨rfl, rfl⟩
      · rw [show (("pile" : Str) == "queue") = false by decide +kernel]; rfl
      · rw [show (("queue" : Str) == "queue") = true by decide +kernel]; rfl
  have fin : g_law_clashes [some (.sh (webD n ts)), some (.sh (.tup (r.map D.int))), some (.sh (.str k)), none, none, none] = some (.rt (.lst ((progPairs ts.length (clP r ts w) ts.length).map tieD))) := by
    refine ev_seq (r := .rt .non) (ev_set e3) ?_
    refine ev_seq (r := .rt .non) (ev_setF (ds := []) (ev_lim (ds := []) rfl (by decide))) ?_
    refine ev_seq (r := .rt .non) ((ev_for (ds := dints 0 ts.length) ?_).trans l1) ?_
    · have e4 := ev_rng1 (fa := dLen (dSq (dIx (dSq (dVar 0)) (dC (.int 1))))) (ρ := [some (.sh (webD n ts)), some (.sh (.tup (r.map D.int))), some (.sh (.str k)), some (.sh (.str w)), some (.ow []), none]) (j := ((ts.map tieD).length : Int)) rfl (by rw [List.length_map]; unfold okR; rw [decide_eq_true (by omega), decide_eq_true (by omega)]; rfl)
      rw [List.length_map, Int.toNat_natCast] at e4
      exact e4
    · refine ev_ret (ev_ls ((ev_QF (ds := (lawPairs (clP r ts w) ts.length).map tieD) rfl).trans ?_))
      rw [sortD_ties (by have := few (r := r) hkw hup hok; omega), sort_law]
  show outD (g_law_clashes [some (.sh (webD n ts)), some (.sh (.tup (r.map D.int))), some (.sh (.str k)), none, none, none]) = _
  rw [fin]
  rfl
end P
set_option Elab.async false
set_option linter.all false
set_option maxRecDepth 100000
namespace P
open PySem L2 L3
theorem lie_symm (s t : Tie) : lie s t = lie t s := by
  unfold lie
  by_cases h : s.1 = t.1 ∨ s.1 = t.2 ∨ s.2 = t.1 ∨ s.2 = t.2
  · rw [if_pos h, if_pos (by omega)]
  · have h' : ¬ (t.1 = s.1 ∨ t.1 = s.2 ∨ t.2 = s.1 ∨ t.2 = s.2) := by omega
    rw [if_neg h, if_neg h']
    rcases tlt_total s t with z | z | z
    · have z' : ¬ tlt t s := fun q => tlt_asym z q
      rw [if_neg z', if_pos z, if_pos z, if_neg z']
    · subst z; exact absurd (.inl rfl) h
    · have z' : ¬ tlt s t := fun q => tlt_asym z q
      rw [if_pos z, if_neg z', if_neg z', if_pos z]
theorem ne_same {d : D} (h : depth d ≤ DEEP) : dNe d d = some (.bl false) := by
  unfold dNe
  rw [if_pos ⟨h, h⟩, beq_refl]
  rfl
def pairTurn : DEnv → Option Out := dSeq (dSet 6 (dCall F_law_how (dCons (dVar 2) (dCons (dVar 3) (dCons (dVar 4) (dCons (dVar 5) (dNil)))))))
  (dSeq (dIfS (dOrT (dTest (d2 dNe (dCall F_how (dCons (dVar 2) (dCons (dVar 3) (dCons (dVar 4) (dCons (dVar 5) (dNil)))))) (dVar 6))) (dTest (d2 dNe (dCall F_how (dCons (dVar 2) (dCons (dVar 3) (dCons (dVar 5) (dCons (dVar 4) (dNil)))))) (dVar 6))))
  (dRet (dC (.bl false)))
  (dNext))
  (dSeq (dSet 7 (dLs (dLim (dCons (dC (.str "apart")) (dCons (dC (.str "apart")) (dCons (dC (.str "cross")) (dCons (dC (.str "cross")) (dCons (dC (.str "within")) (dCons (dC (.str "within")) (dNil))))))))))
  (dIfS (dAndT (dTest (d2 dNe (dVar 6) (dC (.str "meet")))) (dTest (d2 dNe (dCall F_law_ways (dCons (dVar 2) (dCons (dVar 4) (dCons (dVar 5) (dNil))))) (dVar 7))))
  (dRet (dC (.bl false)))
  (dNext))))
theorem depth_str (x : Str) : depth (.str x) = 0 := by simp [depth]
theorem depth_six : depth (.lst (sixS.map D.str)) ≤ DEEP := by unfold sixS; simp [depth, depthL, DEEP]
theorem pairTurn_ok {n : Nat} {ts : List Tie} {r : List Int} (hn : n ≤ 6) (hok : ∀ t ∈ ts, 0 ≤ t.1 ∧ t.1 < t.2 ∧ t.2 < (n : Int)) (hm : ts.length ≤ 12) (hr : r.Nodup) (hrl : r.length ≤ 1000) (hmem : ∀ t ∈ ts, t.1 ∈ r ∧ t.2 ∈ r) {i j : Nat} (hi : i < ts.length) (hj : j < ts.length)
    {c0 c1 c6 c7 c8 : Option Cell} : ∃ c6' c7', pairTurn [c0, c1, some (.sh (webD (n : Int) ts)), some (.sh (.tup (r.map D.int))), some (.sh (.int (i : Int))), some (.sh (.int (j : Int))), c6, c7, c8] =
      some (.nx [c0, c1, some (.sh (webD (n : Int) ts)), some (.sh (.tup (r.map D.int))), some (.sh (.int (i : Int))), some (.sh (.int (j : Int))), c6', c7', c8]) := by
  have gi := List.getElem?_eq_getElem hi
  have gj := List.getElem?_eq_getElem hj
  have mi := List.getElem_mem hi
  have mj := List.getElem_mem hj
  generalize ts[i] = s at gi mi
  generalize ts[j] = t at gj mj
  have os := hok s mi
  have ot := hok t mj
  have hF := law_how_ok (n := (n : Int)) (r := r) gi gj (hmem _ mi) (hmem _ mj)
  rw [law_lie (hmem _ mi) (hmem _ mj) (by omega) (by omega)] at hF
  have h1 := F_how_ok (n := (n : Int)) hr hrl (by omega) hmem gi gj
  have h2 := F_how_ok (n := (n : Int)) hr hrl (by omega) hmem gj gi
  rw [lie_symm] at h2
  have hw : lie (spanT r s) (spanT r t) ≠ "meet" → F_law_ways [webD (n : Int) ts, .int (i : Int), .int (j : Int)] = some (.lst (sixS.map D.str)) := fun hne => by
    refine ways_ok hn hok (by omega) gi gj ?_
    have key : ∀ {p q : Int}, (p = s.1 ∨ p = s.2) → (q = t.1 ∨ q = t.2) → p ≠ q := fun {p q} hp hq e => hne (by
      unfold lie spanT
      dsimp only
      rw [if_pos]
      subst e
      rcases hp with rfl | rfl <;> rcases hq with q | q <;> (rw [q]; omega))
    exact ⟨key (.inl rfl) (.inl rfl), key (.inl rfl) (.inr rfl), key (.inr rfl) (.inl rfl), key (.inr rfl) (.inr rfl)⟩
  generalize lie (spanT r s) (spanT r t) = v at hF h1 h2 hw
  refine ⟨some (.sh (.str v)), some (.sh (.lst (sixS.map D.str))), ?_⟩
  refine ev_seq (r := .rt .non) (ev_set (d := .str v) ((ev_call (ds := [webD (n : Int) ts, .tup (r.map D.int), .int (i : Int), .int (j : Int)]) rfl).trans hF)) ?_
  have ns : dNe (.str v) (.str v) = some (.bl false) := ne_same (by rw [depth_str]; decide)
  refine ev_seq (r := .rt .non) (ρ' := [c0, c1, some (.sh (webD (n : Int) ts)), some (.sh (.tup (r.map D.int))), some (.sh (.int (i : Int))), some (.sh (.int (j : Int))), some (.sh (.str v)), c7, c8]) ((ev_ifS (a := false || false) (ev_orT (a := false) (b := false) (ev_test ((ev_2 (x := .str v) (y := .str v) ((ev_call (ds := [webD (n : Int) ts, .tup (r.map D.int), .int (i : Int), .int (j : Int)]) rfl).trans h1) rfl).trans ns)) fun _ => ev_test ((ev_2 (x := .str v) (y := .str v) ((ev_call (ds := [webD (n : Int) ts, .tup (r.map D.int), .int (j : Int), .int (i : Int)]) rfl).trans h2) rfl).trans ns))).trans rfl) ?_
  refine ev_seq (r := .rt .non) (ev_set (d := .lst (sixS.map D.str)) (ev_ls (ev_lim (ds := sixS.map D.str) rfl (show 6 ≤ LIM by decide)))) ?_
  have et : dAndT (dTest (d2 dNe (dVar 6) (dC (.str "meet")))) (dTest (d2 dNe (dCall F_law_ways (dCons (dVar 2) (dCons (dVar 4) (dCons (dVar 5) (dNil))))) (dVar 7))) [c0, c1, some (.sh (webD (n : Int) ts)), some (.sh (.tup (r.map D.int))), some (.sh (.int (i : Int))), some (.sh (.int (j : Int))), some (.sh (.str v)), some (.sh (.lst (sixS.map D.str))), c8] = some (!(v == "meet") && false) := by
    refine ev_andT (ev_test rfl) fun hv => ev_test ?_
    have hne : v ≠ "meet" := by simpa using hv
    exact (ev_2 (x := .lst (sixS.map D.str)) (y := .lst (sixS.map D.str)) ((ev_call (ds := [webD (n : Int) ts, .int (i : Int), .int (j : Int)]) rfl).trans (hw hne)) rfl).trans (ne_same depth_six)
  rw [Bool.and_false] at et
  exact (ev_ifS et).trans rfl
def kindTurn : DEnv → Option Out := dIfS (dTest (d2 dNe (dCall F_clashes (dCons (dVar 2) (dCons (dVar 3) (dCons (dVar 8) (dNil))))) (dTupF (dSq (dCall F_law_clashes (dCons (dVar 2) (dCons (dVar 3) (dCons (dVar 8) (dNil)))))))))
  (dRet (dC (.bl false)))
  (dNext)
theorem kindTurn_ok {n : Int} {ts : List Tie} {r : List Int} {k w : Str} (hkw : KW k w) (hm : ts.length ≤ 12) (hup : ts.Pairwise tlt) (hok : ∀ t ∈ ts, 0 ≤ t.1 ∧ t.1 < t.2 ∧ t.2 < 6) (hr : r.Nodup) (hrl : r.length ≤ 1000) (hmem : ∀ t ∈ ts, t.1 ∈ r ∧ t.2 ∈ r) {c0 c1 c4 c5 c6 c7 : Option Cell} :
    kindTurn [c0, c1, some (.sh (webD n ts)), some (.sh (.tup (r.map D.int))), c4, c5, c6, c7, some (.sh (.str k))] = some (.nx [c0, c1, some (.sh (webD n ts)), some (.sh (.tup (r.map D.int))), c4, c5, c6, c7, some (.sh (.str k))]) := by
  have e1 := F_clashes_ok (n := n) hkw.tab hr hrl hm hmem
  have e2 := F_law_clashes_ok (n := n) hkw hm hup hok hmem
  generalize progPairs ts.length (clP r ts w) ts.length = L at e1 e2
  refine (ev_ifS (a := false) (ev_test ((ev_2 (x := .tup (L.map tieD)) (y := .tup (L.map tieD)) ((ev_call (ds := [webD n ts, .tup (r.map D.int), .str k]) rfl).trans e1) (ev_tupF (ev_sqL ((ev_call (ds := [webD n ts, .tup (r.map D.int), .str k]) rfl).trans e2)))).trans (ne_same ?_)))).trans rfl
  rw [depth]
  have := depthL_ties L
  unfold DEEP
  omega
def cellTurn : DEnv → Option Out := dSeq (dSet 2 (dCall F_law_web (dCons (dVar 1) (dCons (dC (.int 6)) (dCons (dC (.int 12)) (dNil))))))
  (dSeq (dSet 3 (dCall F_law_row (dCons (d2 dDivI (dVar 1) (dC (.int 3))) (dCons (dIx (dSq (dVar 2)) (dC (.int 0))) (dNil)))))
  (dSeq (dFor (dRng1 (dLen (dSq (dIx (dSq (dVar 2)) (dC (.int 1)))))) (dName 4)
  (dFor (dRng1 (dVar 4)) (dName 5) pairTurn))
  (dFor (dSq (dTup (dCons (dC (.str "pile")) (dCons (dC (.str "queue")) (dNil))))) (dName 8) kindTurn)))
theorem cellTurn_ok {c : Int} {c0 c2 c3 c4 c5 c6 c7 c8 : Option Cell} : ∃ c2' c3' c4' c5' c6' c7' c8', cellTurn [c0, some (.sh (.int c)), c2, c3, c4, c5, c6, c7, c8] = some (.nx [c0, some (.sh (.int c)), c2', c3', c4', c5', c6', c7', c8']) := by
  obtain ⟨n', ts, w1, w2, w3, w4⟩ := F_law_web_ok c (most := 6) (ties := 12) (by decide) (by decide) (by decide) (by decide)
  have hlo := w2.lo
  obtain ⟨n, rfl⟩ := Int.eq_ofNat_of_zero_le (show 0 ≤ n' by omega)
  obtain ⟨r, r1, r2⟩ := F_law_row_ok (c / 3) (n := (n : Int)) (by omega) (by omega)
  rw [Int.toNat_natCast] at r2
  have hn : n ≤ 6 := by omega
  have hm : ts.length ≤ 12 := by omega
  have hr : r.Nodup := r2.nodup_iff.mpr (iUp_nodup n)
  have hrl : r.length ≤ 1000 := by rw [r2.length_eq, upTo_len]; omega
  have hmem : ∀ t ∈ ts, t.1 ∈ r ∧ t.2 ∈ r := fun t ht => by
    have := w2.ok t ht
    exact ⟨r2.mem_iff.mpr (iUp_mem.mpr (by omega)), r2.mem_iff.mpr (iUp_mem.mpr (by omega))⟩
  have hok6 : ∀ t ∈ ts, 0 ≤ t.1 ∧ t.1 < t.2 ∧ t.2 < 6 := fun t ht => by have := w2.ok t ht; omega
  let W : D := webD (n : Int) ts
  let R : D := .tup (r.map D.int)
  obtain ⟨ρ1, l1, d4, d5, d6, d7, rfl⟩ := loop_all (h := dName 4) (g := dFor (dRng1 (dVar 4)) (dName 5) pairTurn) (fun ρ => ∃ d4 d5 d6 d7 : Option Cell, ρ = [c0, some (.sh (.int c)), some (.sh W), some (.sh R), d4, d5, d6, d7, c8]) (ds := dints 0 ts.length)
    (ρ := [c0, some (.sh (.int c)), some (.sh W), some (.sh R), c4, c5, c6, c7, c8]) ⟨c4, c5, c6, c7, rfl⟩ (fun d hd ρ hI => by
      obtain ⟨d4, d5, d6, d7, rfl⟩ := hI
      obtain ⟨i, hi, rfl⟩ := dints_mem hd
      obtain ⟨ρ2, l2, e5, e6, e7, rfl⟩ := loop_all (h := dName 5) (g := pairTurn) (fun ρ => ∃ e5 e6 e7 : Option Cell, ρ = [c0, some (.sh (.int c)), some (.sh W), some (.sh R), some (.sh (.int (i : Int))), e5, e6, e7, c8]) (ds := dints 0 i)
        (ρ := [c0, some (.sh (.int c)), some (.sh W), some (.sh R), some (.sh (.int (i : Int))), d5, d6, d7, c8]) ⟨d5, d6, d7, rfl⟩ (fun d hd ρ hI => by
          obtain ⟨e5, e6, e7, rfl⟩ := hI
          obtain ⟨j, hj, rfl⟩ := dints_mem hd
          obtain ⟨c6', c7', e⟩ := pairTurn_ok (n := n) (ts := ts) (r := r) hn w2.ok hm hr hrl hmem (i := i) (j := j) hi (by omega) (c0 := c0) (c1 := some (.sh (.int c))) (c6 := e6) (c7 := e7) (c8 := c8)
          exact ⟨_, _, rfl, .inl e, ⟨_, _, _, rfl⟩⟩)
      refine ⟨_, _, rfl, .inl ((ev_for (ds := dints 0 i) ?_).trans l2), ⟨_, _, _, _, rfl⟩⟩
      have := ev_rng1 (fa := dVar 4) (ρ := [c0, some (.sh (.int c)), some (.sh W), some (.sh R), some (.sh (.int (i : Int))), d5, d6, d7, c8]) (j := (i : Int)) rfl (by unfold okR; rw [decide_eq_true (by omega), decide_eq_true (by omega)]; rfl)
      rw [Int.toNat_natCast] at this
      exact this)
  refine ⟨some (.sh W), some (.sh R), d4, d5, d6, d7, some (.sh (.str "queue")), ?_⟩
  refine ev_seq (r := .rt .non) (ev_set (d := W) ((ev_call (ds := [.int c, .int 6, .int 12]) rfl).trans w1)) ?_
  refine ev_seq (r := .rt .non) (ev_set (d := R) ((ev_call (ds := [.int (c / 3), .int (n : Int)]) (ev_cons ((ev_2 (x := .int c) (y := .int 3) rfl rfl).trans rfl) rfl)).trans r1)) ?_
  refine ev_seq (r := .rt .non) ((ev_for (ds := dints 0 ts.length) ?_).trans l1) ?_
  · have := ev_rng1 (fa := dLen (dSq (dIx (dSq (dVar 2)) (dC (.int 1))))) (ρ := [c0, some (.sh (.int c)), some (.sh W), some (.sh R), c4, c5, c6, c7, c8]) (j := ((ts.map tieD).length : Int)) rfl (by rw [List.length_map]; unfold okR; rw [decide_eq_true (by omega), decide_eq_true (by omega)]; rfl)
    rw [List.length_map, Int.toNat_natCast] at this
    exact this
  · refine (ev_for (ds := [.str "pile", .str "queue"]) (ev_sqT (ev_tup (ds := [.str "pile", .str "queue"]) rfl (show 2 ≤ LIM by decide)))).trans ?_
    exact (loop_cons rfl (kindTurn_ok (.inl ⟨rfl, rfl⟩) hm w2.up hok6 hr hrl hmem)).trans ((loop_cons rfl (kindTurn_ok (.inr ⟨rfl, rfl⟩) hm w2.up hok6 hr hrl hmem)).trans rfl)
theorem law_true : ∀ ns : List Int, ns.length ≤ 63 → F_law [.lst (ns.map D.int)] = some (.bl true) := by
  intro ns hl
  have fin : g_law [some (.sh (.lst (ns.map D.int))), none, none, none, none, none, none, none, none] = some (.rt (.bl true)) := by
    obtain ⟨ρ', e, c1, c2, c3, c4, c5, c6, c7, c8, rfl⟩ := loop_all (h := dName 1) (g := cellTurn) (fun ρ => ∃ c1 c2 c3 c4 c5 c6 c7 c8 : Option Cell, ρ = [some (.sh (.lst (ns.map D.int))), c1, c2, c3, c4, c5, c6, c7, c8]) (ds := cut (ns.map D.int) none (some 4))
      (ρ := [some (.sh (.lst (ns.map D.int))), none, none, none, none, none, none, none, none]) ⟨none, none, none, none, none, none, none, none, rfl⟩ (fun d hd ρ hI => by
        obtain ⟨c1, c2, c3, c4, c5, c6, c7, c8, rfl⟩ := hI
        obtain ⟨i, _, rfl⟩ := List.mem_map.mp (List.mem_of_mem_drop (List.mem_of_mem_take hd))
        obtain ⟨c2', c3', c4', c5', c6', c7', c8', e⟩ := cellTurn_ok (c := i) (c0 := some (.sh (.lst (ns.map D.int)))) (c2 := c2) (c3 := c3) (c4 := c4) (c5 := c5) (c6 := c6) (c7 := c7) (c8 := c8)
        exact ⟨_, _, rfl, .inl e, ⟨_, _, _, _, _, _, _, _, rfl⟩⟩)
    exact ev_seq (r := .rt .non) ((ev_for (ds := cut (ns.map D.int) none (some 4)) rfl).trans e) rfl
  show outD (g_law [some (.sh (.lst (ns.map D.int))), none, none, none, none, none, none, none, none]) = _
  rw [fin]
  rfl
end P
set_option Elab.async false
set_option linter.all false
open PySem PySem.W PyProof.Rows
set_option maxRecDepth 100000 in
set_option maxHeartbeats 0 in
theorem PySem.Challenge.cw_pageties_k03_whole_pairs_holds : PySem.Challenge.rw_pageties_k03_whole_pairs.Holds := by
  w_on; o_law; k_head; (case hw => w_witness2)
  k_fill
  refine P.walk (l := PySem.Challenge.rw_pageties_k03_whole_pairs) rfl rfl (fun w h Y => PySem.W.kIn_of Y) P.law_true ?F
  case F =>
    intro w mg fa h KX G hmg
    refine' P.all_mk KX G hmg ?a0 ?l0 ?c0 ?k0 ?a1 ?l1 ?c1 ?k1 ?a2 ?l2 ?c2 ?k2 ?a3 ?l3 ?c3 ?k3 ?a4 ?l4 ?c4 ?k4 ?a5 ?l5 ?c5 ?k5 ?a6 ?l6 ?c6 ?k6 ?a7 ?l7 ?c7 ?k7 ?a8 ?l8 ?c8 ?k8 ?a9 ?l9 ?c9 ?k9 ?a10 ?l10 ?c10 ?k10 ?a11 ?l11 ?c11 ?k11 ?a12 ?l12 ?c12 ?k12 ?a13 ?l13 ?c13 ?k13 ?a14 ?l14 ?c14 ?k14 ?z_enumerate ?z_int ?z_len ?z_list ?z_max ?z_min ?z_range ?z_sorted ?z_tuple ?x_CLASHING ?y_CLASHING ?k_CLASHING ?v_CLASHING_0 ?v_CLASHING_1
    (case a0 => k_is)
    (case l0 => k_is)
    (case c0 => k_is)
    (case k0 => k_is)
    (case a1 => k_is)
    (case l1 => k_is)
    (case c1 => k_is)
    (case k1 => k_is)
    (case a2 => k_is)
    (case l2 => k_is)
    (case c2 => k_is)
    (case k2 => k_is)
    (case a3 => k_is)
    (case l3 => k_is)
    (case c3 => k_is)
    (case k3 => k_is)
    (case a4 => k_is)
    (case l4 => k_is)
    (case c4 => k_is)
    (case k4 => k_is)
    (case a5 => k_is)
    (case l5 => k_is)
    (case c5 => k_is)
    (case k5 => k_is)
    (case a6 => k_is)
    (case l6 => k_is)
    (case c6 => k_is)
    (case k6 => k_is)
    (case a7 => k_is)
    (case l7 => k_is)
    (case c7 => k_is)
    (case k7 => k_is)
    (case a8 => k_is)
    (case l8 => k_is)
    (case c8 => k_is)
    (case k8 => k_is)
    (case a9 => k_is)
    (case l9 => k_is)
    (case c9 => k_is)
    (case k9 => k_is)
    (case a10 => k_is)
    (case l10 => k_is)
    (case c10 => k_is)
    (case k10 => k_is)
    (case a11 => k_is)
    (case l11 => k_is)
    (case c11 => k_is)
    (case k11 => k_is)
    (case a12 => k_is)
    (case l12 => k_is)
    (case c12 => k_is)
    (case k12 => k_is)
    (case a13 => k_is)
    (case l13 => k_is)
    (case c13 => k_is)
    (case k13 => k_is)
    (case a14 => k_is)
    (case l14 => k_is)
    (case c14 => k_is)
    (case k14 => k_is)
    (case z_enumerate => k_is)
    (case z_int => k_is)
    (case z_len => k_is)
    (case z_list => k_is)
    (case z_max => k_is)
    (case z_min => k_is)
    (case z_range => k_is)
    (case z_sorted => k_is)
    (case z_tuple => k_is)
    (case x_CLASHING => k_is)
    (case y_CLASHING => k_is)
    (case k_CLASHING => k_keys)
    (case v_CLASHING_0 => k_is)
    (case v_CLASHING_1 => k_is)
