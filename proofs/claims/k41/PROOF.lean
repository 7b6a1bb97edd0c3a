import PyProof.Rows.All
import Wide.All
import OpenK.AllK
import Wide.FinOn
import Lean
import PyProof.EqAt
import PyProof.EqKinds
import PyProof.TupleCall
import PySem.Challenge.RW_whencewise_k41_columns
set_option Elab.async false
set_option linter.all false
set_option maxRecDepth 100000
/-! THE HAND LAYER, for ints, bools, texts, own classes, LISTS and tuples (index, slices, in, append, pop ..), calls, loops. Paste it whole ahead of your own text; what your proof does not reach may be deleted. -/
namespace L2
open PySem PySem.Spec PyProof.Rows

/-- a key: an int or a str -/
abbrev Key := Sum Int Str
def keyIs : Key → Value → Bool
  | .inl k, v => Value.isInt k v
  | .inr x, v => Value.isStrOf x v
def keyH (w : World) : Key → Int
  | .inl k => hashInt k
  | .inr x => hashStr w x
theorem keyIs_shape : ∀ {k : Key} {v : Value}, keyIs k v = true → (∃ i t, k = Sum.inl i ∧ v = Value.int i t) ∨ (∃ x t, k = Sum.inr x ∧ v = Value.str x t)
  | .inl i, v, h => by
    obtain ⟨t, e⟩ := Value.isInt_shape (k := i) (v := v) h
    exact .inl ⟨i, t, rfl, e⟩
  | .inr x, v, h => by
    obtain ⟨t, e⟩ := Value.isStrOf_shape (x := x) (v := v) h
    exact .inr ⟨x, t, rfl, e⟩
theorem keyIs_int (i : Int) (t : Tok) : keyIs (.inl i) (.int i t) = true := by simp [keyIs, Value.isInt]
theorem keyIs_str (x : Str) (t : Tok) : keyIs (.inr x) (.str x t) = true := by simp [keyIs, Value.isStrOf]
theorem key_ll (a b : Int) : decide ((Sum.inl a : Key) = Sum.inl b) = (a == b) := by
  by_cases e : a = b
  · subst e; simp
  · have h : ¬ (Sum.inl a : Key) = Sum.inl b := fun q => e (Sum.inl.inj q)
    rw [decide_eq_false h]
    exact (beq_eq_false_iff_ne.mpr e).symm
theorem key_rr (a b : Str) : decide ((Sum.inr a : Key) = Sum.inr b) = decide (a = b) := by
  by_cases e : a = b
  · subst e; simp
  · have h : ¬ (Sum.inr a : Key) = Sum.inr b := fun q => e (Sum.inr.inj q)
    rw [decide_eq_false h, decide_eq_false e]
theorem key_lr (a : Int) (b : Str) : decide ((Sum.inl a : Key) = Sum.inr b) = false := decide_eq_false (fun q => nomatch q)
theorem key_rl (a : Str) (b : Int) : decide ((Sum.inr a : Key) = Sum.inl b) = false := decide_eq_false (fun q => nomatch q)

def mixKind (prog : Program) (w : World) : PySem.KeyKind prog w Key where
  is := keyIs
  hash := keyH w
  inj := fun v a b ha hb => by
    rcases keyIs_shape ha with ⟨i, t, rfl, rfl⟩ | ⟨x, t, rfl, rfl⟩
    · rcases keyIs_shape hb with ⟨j, u, rfl, e⟩ | ⟨y, u, rfl, e⟩
      · injection e with e1 _; rw [e1]
      · exact nomatch e
    · rcases keyIs_shape hb with ⟨j, u, rfl, e⟩ | ⟨y, u, rfl, e⟩
      · exact nomatch e
      · injection e with e1 _; rw [e1]
  byValue := fun k v h => by
    rcases keyIs_shape h with ⟨i, t, rfl, rfl⟩ | ⟨x, t, rfl, rfl⟩ <;> rfl
  pyHash := fun hv h => by
    rcases keyIs_shape hv with ⟨i, t, rfl, rfl⟩ | ⟨x, t, rfl, rfl⟩
    · exact wpAny_pyHash_int h
    · exact wpAny_pyHash_str h
  eqBool := fun hu hv h => by
    rcases keyIs_shape hu with ⟨i, t, rfl, rfl⟩ | ⟨x, t, rfl, rfl⟩
    · rcases keyIs_shape hv with ⟨j, u, rfl, rfl⟩ | ⟨y, u, rfl, rfl⟩
      · rw [key_ll] at h; exact wpAny_eqBool_int h
      · rw [key_lr] at h; exact SeqAt.EqAt.int_str i t y u _ _ _ _ h
    · rcases keyIs_shape hv with ⟨j, u, rfl, rfl⟩ | ⟨y, u, rfl, rfl⟩
      · rw [key_rl] at h; exact SeqAt.EqAt.str_int x t j u _ _ _ _ h
      · rw [key_rr] at h; exact wpAny_eqBool_str h
  «strs» := fun k x t v h => by
    rcases keyIs_shape h with ⟨i, u, rfl, e⟩ | ⟨y, u, rfl, e⟩
    · exact nomatch e
    · injection e with e1 _
      subst e1
      cases v <;> rfl

theorem mixKind_int (prog : Program) (w : World) (i : Int) (t : Tok) : (mixKind prog w).is (.inl i) (.int i t) = true := keyIs_int i t
theorem mixKind_str (prog : Program) (w : World) (x : Str) (t : Tok) : (mixKind prog w).is (.inr x) (.str x t) = true := keyIs_str x t
end L2

namespace L2
open PySem PySem.Spec PyProof.Rows

/-- a value, without the heap -/
inductive V where
  | non | bl (b : Bool) | int (i : Int) | str (x : Str) | byt (b : Array UInt8) | flt (b : UInt64) | ref (a : Addr) | ty (n : String)
  deriving DecidableEq

def RelV : V → Value → Prop
  | .non, u => u = Value.none
  | .bl b, u => u = Value.bool b
  | .int i, u => ∃ t, u = Value.int i t
  | .str x, u => ∃ t, u = Value.str x t
  | .byt b, u => ∃ t, u = Value.bytes b t
  | .flt b, u => ∃ t, u = Value.float b t
  | .ref a, u => u = Value.ref a
  | .ty n, u => u = Value.type n

abbrev Vals : List V → List Value → Prop := Paired RelV
theorem Vals.length {xs : List V} {us : List Value} (r : Vals xs us) : xs.length = us.length := Paired.length r
theorem Vals.get : ∀ {xs : List V} {us : List Value} {i : Nat} {x : V}, Vals xs us → xs[i]? = some x → ∃ u, us[i]? = some u ∧ RelV x u
  | _, _, _, _, .nil, e => by simp at e
  | _, _, 0, _, .cons r _, e => by simp at e; subst e; exact ⟨_, rfl, r⟩
  | _, _, i + 1, x, .cons _ t, e => by
    obtain ⟨u, h1, h2⟩ := Vals.get (i := i) (x := x) t (by simpa using e)
    exact ⟨u, by simpa using h1, h2⟩
theorem Vals.append : ∀ {xs ys : List V} {us ws : List Value}, Vals xs us → Vals ys ws → Vals (xs ++ ys) (us ++ ws)
  | _, _, _, _, .nil, s => s
  | _, _, _, _, .cons r t, s => .cons r (Vals.append t s)
theorem Vals.take : ∀ {xs : List V} {us : List Value} (n : Nat), Vals xs us → Vals (xs.take n) (us.take n)
  | _, _, 0, _ => .nil
  | _, _, _ + 1, .nil => .nil
  | _, _, n + 1, .cons r t => .cons r (Vals.take n t)
theorem Vals.drop : ∀ {xs : List V} {us : List Value} (n : Nat), Vals xs us → Vals (xs.drop n) (us.drop n)
  | _, _, 0, r => r
  | _, _, _ + 1, .nil => .nil
  | _, _, n + 1, .cons _ t => Vals.drop n t
def RelO : Option V → Option Value → Prop
  | some v, some u => RelV v u
  | none, none => True
  | _, _ => False
def KV {κ : Type} : List (κ × V) → List (κ × Value) → Prop := Paired fun (p : κ × V) (q : κ × Value) => p.1 = q.1 ∧ RelV p.2 q.2

/-- a key of a dict (00_mix): an int or a text -/
def kV : Key → V
  | .inl i => .int i
  | .inr x => .str x

/-- what stands at a tracked address -/
inductive HO where
  /-- a list -/
  | lst (xs : List V)
  /-- a tuple (never changes) -/
  | tup (xs : List V)
  /-- a dict whose keys are ints and texts; one whose keys are tuples of ints and texts (the empty one is both) -/
  | dK (kvs : List (Key × V)) | dT (kvs : List (List Key × V))
  /-- a set of ints: its members, its size -/
  | set (S : Key → Bool) (n : Nat)
  /-- an instance of the class at C, its dict at dx, its attributes -/
  | ins (C dx : Addr) (fs : List (Str × V))
  /-- the dict of the instance at x -/
  | own (x : Addr)
  /-- the dict of an exception -/
  | xd (fs : List (Str × V))
  /-- a bound method, f of x -/
  | met (f x : Addr)
  /-- a range object lo, lo + 1, .. below hi -/
  | rng (lo hi : Int)
  /-- a thing that is known to the object (the script; a dict while a loop walks it): read, never written while it is so -/
  | frz (o : Obj) (u : HO)
  /-- a code object's table -/
  | tbl (ps : Array Value)
  /-- any other thing, by what is true of its one object (a def of one's own: SetO a S n := HO.ext fun h => ..) -/
  | ext (φ : Heap → Prop)

abbrev Hp := Addr → Option HO
def upd (H : Hp) (a : Addr) (o : HO) : Hp := fun b => if b = a then some o else H b
theorem upd_same {H : Hp} {a : Addr} {o : HO} : upd H a o a = some o := by unfold upd; rw [if_pos rfl]
theorem upd_ne {H : Hp} {a b : Addr} {o : HO} (h : b ≠ a) : upd H a o b = H b := by unfold upd; rw [if_neg h]
/-- two objects of different content stand apart -/
theorem ne_of {H : Hp} {a b : Addr} {o u : HO} (h : H a = some o) (h' : H b = some u) (d : o ≠ u) : a ≠ b := by
  intro e; subst e; rw [h] at h'; exact d (Option.some.inj h')
theorem ne_of_none {H : Hp} {a b : Addr} {o : HO} (h : H a = some o) (h' : H b = none) : a ≠ b := by
  intro e; subst e; rw [h] at h'; cases h'

/-- a tuple without a dict of its own -/
def PlainTp (h : Heap) (a : Addr) (items : Array Value) : Prop := ∃ o, h.get? a = some o ∧ o.cls = .type "tuple" ∧ o.dict = none ∧ ∃ n, o.data = .seq items n
theorem PlainTp.isTup {h : Heap} {a : Addr} {items : Array Value} (x : PlainTp h a items) : IsTup h a items := by
  obtain ⟨o, e, c, _, n, d⟩ := x
  exact ⟨o, e, c, n, d⟩
theorem PlainTp.new (h : Heap) (items : Array Value) : PlainTp (h.push { cls := .type "tuple", data := .seq items }) h.objs.size items := ⟨_, Heap.get?_push_size _ rfl, rfl, rfl, _, rfl⟩
section
variable (P : Program) (w : World)
def ObjOk (H : Hp) (h : Heap) (a : Addr) : HO → Prop
  | .lst xs => xs.length ≤ sizeLine ∧ ∃ (its : List Value) (n : Nat), Vals xs its ∧ h.get? a = some { cls := .type "list", data := .seq its.toArray n }
  | .tup xs => xs.length ≤ sizeLine ∧ ∃ its : List Value, Vals xs its ∧ PlainTp h a its.toArray
  | .dK kvs => kvs.length ≤ sizeLine ∧ (a == sysModules) = false ∧ ∃ vs, KV kvs vs ∧ h.DictOf (mixKind P w) a vs
  | .dT kvs => kvs.length ≤ sizeLine ∧ (a == sysModules) = false ∧ ∃ xs : List (List Key × Addr × Value),
      Paired (fun (p : List Key × V) (q : List Key × Addr × Value) => p.1 = q.1 ∧ H q.2.1 = some (.tup (p.1.map kV)) ∧ RelV p.2 q.2.2) kvs xs ∧
      ∃ o es ep, h.get? a = some o ∧ o.ExactDict ∧ o.data = .dict es ep ∧ es.toList = xs.map (entryOfKey (tupleKind (mixKind P w))) ∧ (xs.map (·.1)).Nodup
  | .set S n => h.SetOf (mixKind P w) a S n
  | .ins C dx fs => H dx = some (.own a) ∧ fs.length ≤ 1000 ∧ dx ≠ a ∧ h.get? a = some (PySem.W.instObj C dx) ∧
      ∃ mA, h.Ns1 dx mA ∧ (∀ f, RelO (fs.lookup f) (mA f)) ∧ PySem.Within mA (fs.map (·.1))
  | .own _ => ∃ o, h.get? a = some o
  | .xd fs => ∃ mA, h.Ns1 a mA ∧ ∀ f, RelO (fs.lookup f) (mA f)
  | .rng lo hi => ∃ t u v, h.get? a = some { cls := .type "range", data := .fields #[.int lo t, .int hi u, .int 1 v] }
  | .frz o u => h.get? a = some o ∧ ObjOk H h a u
  | .tbl ps => h.get? a = some { cls := .none, data := .fields ps }
  | .met f x => h.get? a = some (PySem.W.methodObj (.ref f) (.ref x))
  | .ext φ => φ h ∧ (∃ o, h.get? a = some o) ∧ ∀ h1 h2 : Heap, φ h1 → (∀ o, h1.get? a = some o → h2.get? a = some o) → φ h2
/-- the abstract heap is held -/
def HOk (H : Hp) (h : Heap) : Prop := ∀ a o, H a = some o → ObjOk P w H h a o
end

section
variable {P : Program} {w : World} {H H' : Hp} {h h' : Heap} {a : Addr} {o : HO}
theorem ObjOk.lt (x : ObjOk P w H h a o) : a < h.objs.size := by
  cases o with
  | lst xs => obtain ⟨_, _, _, _, e⟩ := x; exact Heap.lt_size e
  | tup xs => obtain ⟨_, _, _, p⟩ := x; exact p.isTup.lt
  | dK kvs => obtain ⟨_, _, _, _, o, _, _, e, _⟩ := x; exact Heap.lt_size e
  | dT kvs => obtain ⟨_, _, _, _, o, _, _, e, _⟩ := x; exact Heap.lt_size e
  | set S n => obtain ⟨o, _, _, _, e, _⟩ := x; exact Heap.lt_size e
  | ins C dx fs => obtain ⟨_, _, _, e, _⟩ := x; exact Heap.lt_size e
  | own y => obtain ⟨_, e⟩ := x; exact Heap.lt_size e
  | xd fs => obtain ⟨_, ⟨_, _, _, e, _⟩, _⟩ := x; exact Heap.lt_size e
  | rng lo hi => obtain ⟨_, _, _, e⟩ := x; exact Heap.lt_size e
  | frz ob u => obtain ⟨e, _⟩ := x; exact Heap.lt_size e
  | tbl ps => exact Heap.lt_size (show h.get? a = some _ from x)
  | met f y => exact Heap.lt_size (show h.get? a = some _ from x)
  | ext φ => obtain ⟨_, ⟨_, e⟩, _⟩ := x; exact Heap.lt_size e
theorem Paired.mapP {α β : Type} {F G : α → β → Prop} : ∀ {l₁ : List α} {l₂ : List β}, Paired F l₁ l₂ → (∀ a b, F a b → G a b) → Paired G l₁ l₂
  | _, _, .nil, _ => .nil
  | _, _, .cons r t, f => .cons (f _ _ r) (Paired.mapP t f)
/-- what an object's description leans on: its own object, its own dict, the tuples -/
theorem ObjOk.stay (x : ObjOk P w H h a o) (k : ∀ b u, (b = a ∨ H b = some (.own a)) → h.get? b = some u → h'.get? b = some u)
    (ho : ∀ b, H b = some (.own a) → H' b = some (.own a)) (ht : ∀ b xs, H b = some (.tup xs) → H' b = some (.tup xs)) : ObjOk P w H' h' a o := by
  induction o with
  | lst xs => obtain ⟨z, its, n, r, e⟩ := x; exact ⟨z, its, n, r, k _ _ (.inl rfl) e⟩
  | tup xs => obtain ⟨z, its, r, ob, e, c⟩ := x; exact ⟨z, its, r, ob, k _ _ (.inl rfl) e, c⟩
  | dK kvs => obtain ⟨z, y, vs, r, ob, es, ep, e, c⟩ := x; exact ⟨z, y, vs, r, ob, es, ep, k _ _ (.inl rfl) e, c⟩
  | dT kvs =>
    obtain ⟨z, y, xs, r, ob, es, ep, e, c⟩ := x
    exact ⟨z, y, xs, Paired.mapP r fun p q z => ⟨z.1, ht _ _ z.2.1, z.2.2⟩, ob, es, ep, k _ _ (.inl rfl) e, c⟩
  | set S n => obtain ⟨ob, es, ep, t, e, c⟩ := x; exact ⟨ob, es, ep, t, k _ _ (.inl rfl) e, c⟩
  | ins C dx fs =>
    obtain ⟨d, z, ne, e, mA, ⟨od, es, ep, e2, c⟩, r⟩ := x
    exact ⟨ho _ d, z, ne, k _ _ (.inl rfl) e, mA, ⟨od, es, ep, k _ _ (.inr d) e2, c⟩, r⟩
  | own y => obtain ⟨ob, e⟩ := x; exact ⟨ob, k _ _ (.inl rfl) e⟩
  | xd fs => obtain ⟨mA, ⟨od, es, ep, e, c⟩, r⟩ := x; exact ⟨mA, ⟨od, es, ep, k _ _ (.inl rfl) e, c⟩, r⟩
  | rng lo hi => obtain ⟨t, u, v, e⟩ := x; exact ⟨t, u, v, k _ _ (.inl rfl) e⟩
  | frz ob u ih => obtain ⟨e, q⟩ := x; exact ⟨k _ _ (.inl rfl) e, ih q⟩
  | tbl ps =>
    have e : h.get? a = some { cls := .none, data := .fields ps } := x
    show h'.get? a = some { cls := .none, data := .fields ps }
    exact k a _ (.inl rfl) e
  | met f y =>
    have e : h.get? a = some (PySem.W.methodObj (.ref f) (.ref y)) := x
    show h'.get? a = some (PySem.W.methodObj (.ref f) (.ref y))
    exact k a _ (.inl rfl) e
  | ext φ => obtain ⟨p, ⟨o, e⟩, st⟩ := x; exact ⟨st _ _ p fun o q => k _ _ (.inl rfl) q, ⟨o, k _ _ (.inl rfl) e⟩, st⟩
theorem HOk.lt (x : HOk P w H h) (e : H a = some o) : a < h.objs.size := (x a o e).lt
theorem HOk.fresh (x : HOk P w H h) (e : h.objs.size ≤ a) : H a = none := by
  cases q : H a with
  | none => rfl
  | some u => exact absurd (Nat.lt_of_lt_of_le (x.lt q) e) (Nat.lt_irrefl _)
/-- every object of the heap is kept -/
theorem HOk.kept (x : HOk P w H h) (k : ∀ b u, h.get? b = some u → h'.get? b = some u) : HOk P w H h' := fun a o e =>
  (x a o e).stay (fun b u _ q => k b u q) (fun _ q => q) fun _ _ q => q
/-- a new object is laid and tracked -/
theorem HOk.laid (x : HOk P w H h) (k : ∀ b u, h.get? b = some u → h'.get? b = some u) (hp : h.objs.size ≤ a) (new : ObjOk P w (upd H a o) h' a o) : HOk P w (upd H a o) h' := fun b u e => by
  have hn := x.fresh hp
  by_cases hb : b = a
  · subst hb; rw [upd_same] at e; cases e; exact new
  · rw [upd_ne hb] at e
    exact (x b u e).stay (fun c v _ q => k c v q) (fun c q => by rw [upd_ne (ne_of_none q hn)]; exact q) fun c xs q => by rw [upd_ne (ne_of_none q hn)]; exact q
end

/-- what may be read as u: it is u, or a known u -/
def Rd (H : Hp) (a : Addr) (u : HO) : Prop := H a = some u ∨ ∃ o, H a = some (.frz o u)
theorem Rd.ok {P : Program} {w : World} {H : Hp} {h : Heap} {a : Addr} {u : HO} (r : Rd H a u) (x : HOk P w H h) : ObjOk P w H h a u := by
  rcases r with r | ⟨o, r⟩
  · exact x a u r
  · obtain ⟨_, q⟩ := x a _ r
    exact q
/-- what may be written -/
def Mut : Option HO → Prop
  | some (.lst _) => True
  | some (.dK _) => True
  | some (.dT _) => True
  | some (.set _ _) => True
  | some (.ins _ _ _) => True
  | some (.ext _) => True
  | _ => False
section
variable {P : Program} {w : World} {H : Hp} {h h' : Heap} {x e : Addr} {o' : HO}
/-- the object at e is changed: x itself, or the dict of the instance x -/
theorem HOk.write (ok : HOk P w H h) (mu : Mut (H x)) (he : e = x ∨ H e = some (.own x)) (k : ∀ b u, b ≠ e → h.get? b = some u → h'.get? b = some u) (heo : ∃ u, h'.get? e = some u)
    (new : ObjOk P w (upd H x o') h' x o') : HOk P w (upd H x o') h' := fun b u q => by
  have nown : ∀ c y, H c = some (.own y) → c ≠ x := fun c y r z => by subst z; rw [r] at mu; exact mu
  have ntup : ∀ c xs, H c = some (.tup xs) → c ≠ x := fun c xs r z => by subst z; rw [r] at mu; exact mu
  by_cases hb : b = x
  · subst hb; rw [upd_same] at q; cases q; exact new
  · rw [upd_ne hb] at q
    by_cases hbe : b = e
    · have q' : H b = some (.own x) := by
        rcases he with z | z
        · exact absurd (hbe.trans z) hb
        · rw [hbe]; exact z
      rw [q] at q'; cases q'
      obtain ⟨v, hv⟩ := heo
      exact ⟨v, by rw [hbe]; exact hv⟩
    · refine (ok b u q).stay (fun c v hc r => k c v ?_ r) (fun c r => by rw [upd_ne (nown c b r)]; exact r) fun c xs r => by rw [upd_ne (ntup c xs r)]; exact r
      rcases hc with rfl | hc
      · exact hbe
      · rintro rfl
        rcases he with z | z
        · exact nown c b hc z
        · rw [hc] at z; cases z; exact hb rfl
end

/-! ### kept unless tracked; of the frames at fs (the callers') the slots may change (an exception that passes writes there); of the records at ex (iterators) nothing is said -/
structure Un (fs ex : List Addr) (H H' : Hp) (h h' : Heap) : Prop where
  keep : ∀ b o, h.get? b = some o → H b = none → b ∉ fs → b ∉ ex → h'.get? b = some o
  slot : ∀ b o, h.get? b = some o → H b = none → b ∈ fs → b ∉ ex → ∃ sl, h'.get? b = some { o with slots := sl }
  free : ∀ b o, h.get? b = some o → H b = none → b ∉ ex → H' b = none
  there : ∀ b o, h.get? b = some o → b ∉ ex → ∃ o', h'.get? b = some o'
  tups : ∀ b xs, H b = some (.tup xs) → H' b = some (.tup xs)
  frzs : ∀ b o u, H b = some (.frz o u) → H' b = some (.frz o u)
  tbls : ∀ b ps, H b = some (.tbl ps) → ∃ more, H' b = some (.tbl (ps ++ more))
section
variable {fs fs' ex ex' : List Addr} {H H1 H2 : Hp} {h h1 h2 h' : Heap} {a x e : Addr} {o : HO}
theorem Un.any (u : Un fs ex H H1 h h1) {b : Addr} {ob : Obj} (q : h.get? b = some ob) (n : H b = none) (hx : b ∉ ex) : ∃ sl, h1.get? b = some { ob with slots := sl } := by
  by_cases hb : b ∈ fs
  · exact u.slot b ob q n hb hx
  · exact ⟨ob.slots, u.keep b ob q n hb hx⟩
theorem Un.kept (k : ∀ b u, h.get? b = some u → h'.get? b = some u) : Un fs ex H H h h' :=
  ⟨fun b ob q _ _ _ => k b ob q, fun b ob q _ _ _ => ⟨ob.slots, k b ob q⟩, fun _ _ _ n _ => n, fun b ob q _ => ⟨ob, k b ob q⟩, fun _ _ q => q, fun _ _ _ q => q, fun _ ps q => ⟨#[], by rw [q]; simp⟩⟩
theorem Un.refl : Un fs ex H H h h := Un.kept fun _ _ q => q
theorem Un.laid (k : ∀ b u, h.get? b = some u → h'.get? b = some u) (hp : h.objs.size ≤ a) (hn : H a = none) : Un fs ex H (upd H a o) h h' where
  keep := fun b u q _ _ _ => k b u q
  slot := fun b u q _ _ _ => ⟨u.slots, k b u q⟩
  free := fun b u q n _ => by rw [upd_ne (Nat.ne_of_lt (Nat.lt_of_lt_of_le (Heap.lt_size q) hp))]; exact n
  there := fun b u q _ => ⟨u, k b u q⟩
  tups := fun b xs q => by rw [upd_ne (ne_of_none q hn)]; exact q
  frzs := fun b u xs q => by rw [upd_ne (ne_of_none q hn)]; exact q
  tbls := fun b ps q => ⟨#[], by rw [upd_ne (ne_of_none q hn), q]; simp⟩
theorem Un.write (mu : Mut (H x)) (he : e = x ∨ H e = some (.own x)) (k : ∀ b u, b ≠ e → h.get? b = some u → h'.get? b = some u) (heo : ∃ u, h'.get? e = some u) : Un fs ex H (upd H x o) h h' := by
  have hx : ∀ b, H b = none → b ≠ x := fun b n z => by subst z; rw [n] at mu; exact mu
  have hb : ∀ b, H b = none → b ≠ e := fun b n z => by
    subst z
    rcases he with r | r
    · exact hx b n r
    · rw [n] at r; cases r
  have hm : ∀ b u, H b = some u → ¬ Mut (some u) → b ≠ x := fun b u q nm z => by subst z; rw [q] at mu; exact nm mu
  refine ⟨fun b u q n _ _ => k b u (hb b n) q, fun b u q n _ _ => ⟨u.slots, k b u (hb b n) q⟩, fun b u q n _ => by rw [upd_ne (hx b n)]; exact n, fun b u q _ => ?_,
    fun b xs q => by rw [upd_ne (hm b _ q fun z => z)]; exact q, fun b u xs q => by rw [upd_ne (hm b _ q fun z => z)]; exact q, fun b ps q => ⟨#[], by rw [upd_ne (hm b _ q fun z => z), q]; simp⟩⟩
  by_cases hbe : b = e
  · subst hbe; exact heo
  · exact ⟨u, k b u hbe q⟩
end

/-! ### the heap without what is tracked -/
def trk (h : Heap) (H : Hp) : List Addr := (List.range h.objs.size).filter fun a => (H a).isSome
def hidT (h : Heap) (H : Hp) : Heap := PySem.W.hideAll h (trk h H)
theorem hidT_size (h : Heap) (H : Hp) : (hidT h H).objs.size = h.objs.size := PySem.W.hideAll_size _ _
theorem hidT_get {h : Heap} {H : Hp} {b : Addr} {o : Obj} (e : h.get? b = some o) (n : H b = none) : (hidT h H).get? b = some o :=
  PySem.W.hideAll_get _ e fun hm => by
    have q : (H b).isSome = true := (List.mem_filter.mp hm).2
    rw [n] at q; simp at q
theorem of_hidT {h : Heap} {H : Hp} {b : Addr} {o : Obj} (e : (hidT h H).get? b = some o) : h.get? b = some o ∧ H b = none := by
  have e' : h.get? b = some o := PySem.W.of_hideAll (trk h H) e
  refine ⟨e', ?_⟩
  cases q : H b with
  | none => rfl
  | some x =>
    have hm : b ∈ trk h H := List.mem_filter.mpr ⟨List.mem_range.mpr (Heap.lt_size e'), by simp [q]⟩
    have z : (hidT h H).get? b = none := PySem.W.hideAll_none (trk h H) hm
    rw [z] at e; cases e

/-! ### OpenK's ledger, filled with every new object but one -/
def allNews (g h : Heap) (L : Addr) : List (Addr × Obj) := (List.range h.objs.size).filterMap fun a => if a = L ∨ (g.get? a).isSome = true then none else (h.get? a).map fun o => (a, o)
def rest (g h : Heap) (L d : Addr) : List (Addr × Obj) := (allNews g h L).filter fun p => decide (p.1 ≠ d)
end L2

namespace L2
open PySem PySem.Spec PyProof.Rows

/-- the module's facts, over the base: the heap at the law's entry without what is tracked there -/
structure Mod (K : PySem.W.Frag) (mg : Str → Option Value) (base : Heap) : Prop where
  kin : K.In base
  glob : base.Ns mainGlobals mg
  blt : ∃ mb, base.Ns builtinsNs mb ∧ ∀ x : Str, x ≠ "__name__" → mb x = bootBuiltins x
  nolimit : base.NoLimit

/-- the context: a def's body (or a comprehension's block) running. base: fixed through the whole law; s₀, H₀: the entry; outer: the frames whose slots others may change (a def's callers); stack: all frames that run;
   ex: iterators that were made ahead of the entry and are walked here (a comprehension's); fn: the names whose cells were made at the entry (a def: all; a comprehension's block: its own); calm: not within an except suite; pn: pins that every state bears; xe: what is wanted of an exception that leaves the code -/
structure Cx where
  prog : Program
  w : World
  K : PySem.W.Frag
  mg : Str → Option Value
  base : Heap
  A : Around
  N : List Str
  s₀ : Shared
  H₀ : Hp
  env : Env
  outer : List Env
  stack : List Env
  ex : List Addr
  fn : Str → Bool
  calm : Bool
  pn : List (Addr × Obj)
  xe : Value → Shared → Prop
/-- the callers' frames -/
def frs (l : List Env) : List Addr := l.filterMap (·.frame)
abbrev Cx.fs (X : Cx) : List Addr := frs X.outer

def Vis (sc : Scope) (x : Str) : Prop := sc.names.lookup x = some .local ∨ sc.names.lookup x = some .cell ∨ sc.names.lookup x = some .free
def Loc (sc : Scope) (x : Str) : Prop := sc.names.lookup x = some .local ∨ sc.names.lookup x = some .cell
def Look (env : Env) (h : Heap) (m : Str → Option Value) (x : Str) (u : Value) : Prop :=
  (env.kindOf x = some .local ∧ m x = some u) ∨ ((env.kindOf x = some .cell ∨ env.kindOf x = some .free) ∧ ∃ c, env.cells.lookup x = some c ∧ h.IsCell c (some u))

structure Cx.Ok (X : Cx) : Prop where
  mod : Mod X.K X.mg X.base
  kind : X.env.scope.kind = .function
  glob : X.env.globals = mainGlobals
  blt : X.env.builtins = builtinsNs
  above : X.s₀.heap.objs.size ≤ X.env.locals
  inj : ∀ x y c, X.env.cells.lookup x = some c → X.env.cells.lookup y = some c → x = y
  has : ∀ x, (X.env.kindOf x = some .cell ∨ X.env.kindOf x = some .free) → ∃ c, X.env.cells.lookup x = some c
  cab : ∀ x c, X.fn x = true → X.env.cells.lookup x = some c → X.s₀.heap.objs.size ≤ c
  hd : X.calm = true → X.A.handled = none
  frames : X.A.frames = some X.stack
  stk : X.stack = X.outer ∨ (X.stack = X.env :: X.outer ∧ X.env.frame = some X.env.locals)
  exf : ∀ b ∈ X.ex, b ≠ X.env.locals ∧ ∀ x c, X.env.cells.lookup x = some c → c ≠ b
  bs : ∀ b o, X.base.get? b = some o → X.s₀.heap.get? b = some o ∧ X.H₀ b = none
  bsz : X.base.objs.size ≤ X.s₀.heap.objs.size
  noex : ∀ b o, X.base.get? b = some o → b ∉ X.ex
  exfs : ∀ b ∈ X.ex, b ∉ X.fs
  funs : X.s₀.heap.FunFrames X.base X.outer
  frf : ∀ b ∈ X.fs, X.H₀ b = none

structure Inv (X : Cx) (pins : List (Addr × Obj)) (σ : List (Option V)) (H : Hp) (s : Shared) : Prop where
  ok : X.Ok
  os : s.os = X.s₀.os
  bare : AllBare s.gens
  base : Un X.fs X.ex X.H₀ H X.s₀.heap s.heap
  loc : ∃ m, s.heap.Ns X.env.locals m ∧ ∀ (i : Nat) (x : Str) (v : V), X.N[i]? = some x → σ[i]? = some (some v) → Vis X.env.scope x → ∃ u, RelV v u ∧ Look X.env s.heap m x u
  cell : ∀ x c, X.env.cells.lookup x = some c → ∃ v, s.heap.IsCell c v
  free : H X.env.locals = none
  freeC : ∀ x c, X.env.cells.lookup x = some c → H c = none
  pin : ∀ p ∈ X.pn ++ pins, s.heap.get? p.1 = some p.2 ∧ H p.1 = none ∧ p.1 ≠ X.env.locals ∧ p.1 ∉ X.fs ∧ ∀ v, p.2.data ≠ .cell v
  hok : HOk X.prog X.w H s.heap
  len : σ.length = X.N.length

section
variable {X : Cx} {pins : List (Addr × Obj)} {σ : List (Option V)} {H H' : Hp} {s : Shared} {h' : Heap}

theorem Cx.Ok.nofr (ok : X.Ok) {b : Addr} {o : Obj} (e : X.base.get? b = some o) : b ∉ X.fs := fun hb => by
  have := (ok.funs.mem hb).1
  rw [e] at this; cases this
theorem Inv.bs (I : Inv X pins σ H s) : ∀ b o, X.base.get? b = some o → s.heap.get? b = some o ∧ H b = none := fun b o e =>
  ⟨I.base.keep b o (I.ok.bs b o e).1 (I.ok.bs b o e).2 (I.ok.nofr e) (I.ok.noex b o e), I.base.free b o (I.ok.bs b o e).1 (I.ok.bs b o e).2 (I.ok.noex b o e)⟩
theorem Inv.bk (I : Inv X pins σ H s) : ∀ b o, X.base.get? b = some o → s.heap.get? b = some o := fun b o e => (I.bs b o e).1
theorem Inv.mod (I : Inv X pins σ H s) : Mod X.K X.mg X.base := I.ok.mod
theorem Inv.kIn (I : Inv X pins σ H s) : X.K.In s.heap := I.ok.mod.kin.keeps I.bk
theorem Inv.nolimit (I : Inv X pins σ H s) : s.heap.NoLimit := I.ok.mod.nolimit.keeps I.bk
theorem Inv.lt (I : Inv X pins σ H s) : X.env.locals < s.heap.objs.size := let ⟨_, hn, _⟩ := I.loc; hn.lt
theorem Inv.sz (I : Inv X pins σ H s) : X.s₀.heap.objs.size ≤ s.heap.objs.size := Nat.le_trans I.ok.above (Nat.le_of_lt I.lt)
theorem Inv.nofs (I : Inv X pins σ H s) {a : Addr} (h : s.heap.objs.size ≤ a) : a ∉ X.fs := fun hb => by
  obtain ⟨_, o, ho, _⟩ := I.ok.funs.mem hb
  exact absurd (Nat.lt_of_lt_of_le (Heap.lt_size ho) (Nat.le_trans I.sz h)) (Nat.lt_irrefl _)
theorem Inv.cne (I : Inv X pins σ H s) : ∀ x c, X.env.cells.lookup x = some c → c ≠ X.env.locals := fun x c e z => by
  obtain ⟨v, o, ho, hd⟩ := I.cell x c e
  obtain ⟨m, ⟨o', es, ep, ho', hd', _⟩, _⟩ := I.loc
  rw [z, ho'] at ho; cases ho; rw [hd'] at hd; cases hd
theorem Inv.funs (I : Inv X pins σ H s) : s.heap.FunFrames X.base X.outer := by
  have all : ∀ (l : List Env), (∀ b ∈ frs l, b ∈ X.fs) → X.s₀.heap.FunFrames X.base l → s.heap.FunFrames X.base l := by
    intro l
    induction l with
    | nil => intro _ _; trivial
    | cons env r ih =>
      intro hs hl
      obtain ⟨hk, ⟨L, o, hf, hn, ho, hd⟩, hr⟩ := hl
      have hL : L ∈ X.fs := hs L (by unfold frs; rw [List.filterMap_cons, hf]; exact List.mem_cons_self)
      obtain ⟨sl, e⟩ := I.base.slot L o ho (I.ok.frf L hL) hL fun z => I.ok.exfs L z hL
      exact ⟨hk, ⟨L, _, hf, hn, e, hd⟩, ih (fun b hb => hs b (by unfold frs; rw [List.filterMap_cons, hf]; exact List.mem_cons_of_mem _ hb)) hr⟩
  exact all X.outer (fun _ hb => hb) I.ok.funs

/-- the frames that run, for a call -/
theorem Inv.stack (I : Inv X pins σ H s) : s.heap.FunFrames X.base X.stack := by
  rcases I.ok.stk with e | ⟨e, hf⟩
  · rw [e]; exact I.funs
  · rw [e]
    obtain ⟨m, hn, _⟩ := I.loc
    refine .cons (by rw [I.ok.kind]; decide) hf hn ?_ I.funs
    exact Heap.get?_none_of_le (Nat.le_trans I.ok.bsz I.ok.above)
theorem Inv.stkSub (I : Inv X pins σ H s) : ∀ b ∈ frs X.stack, b ∈ X.env.locals :: X.fs := fun b hb => by
  rcases I.ok.stk with e | ⟨e, hf⟩
  · rw [e] at hb; exact List.mem_cons_of_mem _ hb
  · rw [e] at hb
    unfold frs at hb
    rw [List.filterMap_cons, hf] at hb
    exact hb
theorem Inv.stkFree (I : Inv X pins σ H s) : ∀ b ∈ frs X.stack, H b = none := fun b hb => by
  rcases List.mem_cons.mp (I.stkSub b hb) with e | hb
  · rw [e]; exact I.free
  · obtain ⟨_, o, ho, _⟩ := I.ok.funs.mem hb
    exact I.base.free b o ho (I.ok.frf b hb) fun z => I.ok.exfs b z hb

/-- THE STEP: the untracked objects but the frame and the records at ch are kept (the callers' frames up to slots), the frame's map is kept, the new abstract heap is held -/
theorem Inv.step {g' : Array GenState} {t' : Nat} {d' : Drawn} {ch : List Addr} (I : Inv X pins σ H s)
    (hch : ∀ b ∈ ch, (b ∈ X.ex ∨ X.s₀.heap.objs.size ≤ b) ∧ b ≠ X.env.locals ∧ (∀ x c, X.env.cells.lookup x = some c → c ≠ b) ∧ ∀ p ∈ X.pn ++ pins, p.1 ≠ b)
    (keep : ∀ b o, b ≠ X.env.locals → b ∉ X.fs → b ∉ ch → s.heap.get? b = some o → H b = none → h'.get? b = some o)
    (slot : ∀ b o, b ≠ X.env.locals → b ∈ X.fs → b ∉ ch → s.heap.get? b = some o → H b = none → ∃ sl, h'.get? b = some { o with slots := sl }) (free : ∀ b o, b ∉ ch → s.heap.get? b = some o → H b = none → H' b = none)
    (there : ∀ b o, b ∉ ch → s.heap.get? b = some o → ∃ o', h'.get? b = some o')
    (tups : ∀ b xs, H b = some (.tup xs) → H' b = some (.tup xs)) (frzs : ∀ b o u, H b = some (.frz o u) → H' b = some (.frz o u)) (tbls : ∀ b ps, H b = some (.tbl ps) → ∃ more, H' b = some (.tbl (ps ++ more)))
    (ns : ∀ m, s.heap.Ns X.env.locals m → h'.Ns X.env.locals m) (hok : HOk X.prog X.w H' h') (hg : AllBare g') :
    Inv X pins σ H' { s with heap := h', gens := g', drawn := d', toks := t' } := by
  have neL : ∀ b o, X.s₀.heap.get? b = some o → b ≠ X.env.locals := fun b o e => Nat.ne_of_lt (Nat.lt_of_lt_of_le (Heap.lt_size e) I.ok.above)
  have neC : ∀ b o, X.s₀.heap.get? b = some o → b ∉ X.ex → b ∉ ch := fun b o e hx hb => by
    rcases (hch b hb).1 with z | z
    · exact hx z
    · exact absurd (Nat.lt_of_lt_of_le (Heap.lt_size e) z) (Nat.lt_irrefl _)
  have cellK : ∀ x c, X.env.cells.lookup x = some c → ∀ v, s.heap.IsCell c v → h'.IsCell c v := fun x c e v ⟨o, ho, hd⟩ => by
    have nch : c ∉ ch := fun z => (hch c z).2.2.1 x c e rfl
    by_cases hc : c ∈ X.fs
    · obtain ⟨sl, q⟩ := slot c o (I.cne x c e) hc nch ho (I.freeC x c e)
      exact ⟨_, q, hd⟩
    · exact ⟨o, keep c o (I.cne x c e) hc nch ho (I.freeC x c e), hd⟩
  refine ⟨I.ok, I.os, hg, ⟨fun b o e n hb hx => ?_, fun b o e n hb hx => ?_, fun b o e n hx => ?_, fun b o e hx => ?_, fun b xs e => tups b xs (I.base.tups b xs e), fun b o xs e => frzs b o xs (I.base.frzs b o xs e), fun b ps e => ?_⟩, ?_, fun x c e => ?_, ?_, fun x c e => ?_, fun p hp => ?_, hok, I.len⟩
  · exact keep b o (neL b o e) hb (neC b o e hx) (I.base.keep b o e n hb hx) (I.base.free b o e n hx)
  · obtain ⟨sl, e1⟩ := I.base.slot b o e n hb hx
    obtain ⟨sl', e2⟩ := slot b _ (neL b o e) hb (neC b o e hx) e1 (I.base.free b o e n hx)
    exact ⟨sl', e2⟩
  · obtain ⟨o', e1⟩ := I.base.there b o e hx
    exact free b o' (neC b o e hx) e1 (I.base.free b o e n hx)
  · obtain ⟨o', e1⟩ := I.base.there b o e hx
    exact there b o' (neC b o e hx) e1
  · obtain ⟨m1, e1⟩ := I.base.tbls b ps e
    obtain ⟨m2, e2⟩ := tbls b _ e1
    exact ⟨m1 ++ m2, by rw [e2, Array.append_assoc]⟩
  · obtain ⟨m, hn, hl⟩ := I.loc
    refine ⟨m, ns m hn, fun i x v e1 e2 e3 => ?_⟩
    obtain ⟨u, r, l⟩ := hl i x v e1 e2 e3
    refine ⟨u, r, ?_⟩
    rcases l with l | ⟨k, c, e, z⟩
    · exact .inl l
    · exact .inr ⟨k, c, e, cellK x c e _ z⟩
  · obtain ⟨v, z⟩ := I.cell x c e
    exact ⟨v, cellK x c e v z⟩
  · obtain ⟨m, ⟨o, _, _, ho, _⟩, _⟩ := I.loc
    exact free _ o (fun z => (hch _ z).2.1 rfl) ho I.free
  · obtain ⟨v, o, ho, hd⟩ := I.cell x c e
    exact free c o (fun z => (hch c z).2.2.1 x c e rfl) ho (I.freeC x c e)
  · obtain ⟨e, n, ne, nf, d⟩ := I.pin p hp
    have nch : p.1 ∉ ch := fun z => (hch p.1 z).2.2.2 p hp rfl
    exact ⟨keep p.1 p.2 ne nf nch e n, free p.1 p.2 nch e n, ne, nf, d⟩
/-- .. where the frame's own object is kept too -/
theorem Inv.un {t' : Nat} (I : Inv X pins σ H s) (u : Un X.fs [] H H' s.heap h') (hok : HOk X.prog X.w H' h') : Inv X pins σ H' { s with heap := h', toks := t' } := by
  obtain ⟨m, ⟨o, es, ep, ho, r⟩, _⟩ := id I.loc
  obtain ⟨sl, hL⟩ := u.any ho I.free (by simp)
  exact I.step (g' := s.gens) (d' := s.drawn) (ch := []) (fun _ z => nomatch z) (fun b o _ hb _ e n => u.keep b o e n hb (by simp)) (fun b o _ hb _ e n => u.slot b o e n hb (by simp)) (fun b o _ e n => u.free b o e n (by simp)) (fun b o _ e => u.there b o e (by simp)) u.tups u.frzs u.tbls (fun m' hm => by
    obtain ⟨o', es', ep', ho', r'⟩ := hm
    rw [ho] at ho'; cases ho'
    exact ⟨_, es', ep', hL, r'⟩) hok I.bare
/-- behind a call (or a comprehension's block): the slots of this frame may have changed too, the records at ch may have turned -/
theorem Inv.call {g' : Array GenState} {t' : Nat} {d' : Drawn} {ch : List Addr} (I : Inv X pins σ H s) (u : Un (frs X.stack) ch H H' s.heap h') (hok : HOk X.prog X.w H' h') (hg : AllBare g')
    (hch : ∀ b ∈ ch, (b ∈ X.ex ∨ X.s₀.heap.objs.size ≤ b) ∧ b ≠ X.env.locals ∧ (∀ x c, X.env.cells.lookup x = some c → c ≠ b) ∧ ∀ p ∈ X.pn ++ pins, p.1 ≠ b) :
    Inv X pins σ H' { s with heap := h', gens := g', drawn := d', toks := t' } := by
  obtain ⟨m, ⟨o, es, ep, ho, r⟩, _⟩ := id I.loc
  obtain ⟨sl, hL⟩ := u.any ho I.free fun z => (hch _ z).2.1 rfl
  exact I.step (ch := ch) hch (fun b o hL hb hc e n => u.keep b o e n (fun z => (List.mem_cons.mp (I.stkSub b z)).elim hL hb) hc) (fun b o _ _ hc e n => u.any e n hc) (fun b o hc e n => u.free b o e n hc) (fun b o hc e => u.there b o e hc) u.tups u.frzs u.tbls (fun m' hm => by
    obtain ⟨o', es', ep', ho', r'⟩ := hm
    rw [ho] at ho'; cases ho'
    exact ⟨_, es', ep', hL, r'⟩) hok hg
/-- an untracked record of ours (an iterator) has turned -/
theorem Inv.turned {t' : Nat} {it : Addr} (I : Inv X pins σ H s) (k : ∀ b o, b ≠ it → s.heap.get? b = some o → h'.get? b = some o) (hn : H it = none) (hL : it ≠ X.env.locals)
    (h1 : it ∈ X.ex ∨ X.s₀.heap.objs.size ≤ it) (h2 : ∀ x c, X.env.cells.lookup x = some c → c ≠ it) (h3 : ∀ p ∈ X.pn ++ pins, p.1 ≠ it) : Inv X pins σ H { s with heap := h', toks := t' } := by
  have nit : ∀ b u, H b = some u → b ≠ it := fun b u e z => by rw [z, hn] at e; cases e
  refine I.step (g' := s.gens) (d' := s.drawn) (ch := [it]) (fun b hb => ?_) (fun b o _ _ hc e _ => k b o (fun z => hc (by simp [z])) e) (fun b o _ _ hc e _ => ⟨o.slots, k b o (fun z => hc (by simp [z])) e⟩) (fun _ _ _ _ n => n)
    (fun b o hc e => ⟨o, k b o (fun z => hc (by simp [z])) e⟩) (fun _ _ e => e) (fun _ _ _ e => e) (fun b ps e => ⟨#[], by rw [e]; simp⟩) (fun m hm => ?_) (fun b u e => ?_) I.bare
  · have e : b = it := by simpa using hb
    subst e
    exact ⟨h1, hL, h2, h3⟩
  · obtain ⟨o, es, ep, ho, r⟩ := hm
    exact ⟨o, es, ep, k _ o (Ne.symm hL) ho, r⟩
  · refine (I.hok b u e).stay (fun c v hc q => k c v ?_ q) (fun _ q => q) fun _ _ q => q
    rcases hc with z | z
    · rw [z]; exact nit b u e
    · exact nit c _ z
theorem Inv.tok (I : Inv X pins σ H s) (t : Nat) : Inv X pins σ H { s with toks := t } := I.un (h' := s.heap) (t' := t) Un.refl I.hok
/-- all objects kept -/
theorem Inv.kept {t' : Nat} (I : Inv X pins σ H s) (k : ∀ b u, s.heap.get? b = some u → h'.get? b = some u) : Inv X pins σ H { s with heap := h', toks := t' } := I.un (Un.kept k) (I.hok.kept k)
/-- a new object laid and tracked -/
theorem Inv.laid {a : Addr} {o : HO} {t' : Nat} (I : Inv X pins σ H s) (k : ∀ b u, s.heap.get? b = some u → h'.get? b = some u) (hp : s.heap.objs.size ≤ a) (new : ObjOk X.prog X.w (upd H a o) h' a o) :
    Inv X pins σ (upd H a o) { s with heap := h', toks := t' } := I.un (Un.laid k hp (I.hok.fresh hp)) (I.hok.laid k hp new)
/-- an object written -/
theorem Inv.write {x e : Addr} {o : HO} {t' : Nat} (I : Inv X pins σ H s) (mu : Mut (H x)) (he : e = x ∨ H e = some (.own x)) (k : ∀ b u, b ≠ e → s.heap.get? b = some u → h'.get? b = some u) (heo : ∃ u, h'.get? e = some u)
    (new : ObjOk X.prog X.w (upd H x o) h' x o) : Inv X pins σ (upd H x o) { s with heap := h', toks := t' } := I.un (Un.write mu he k heo) (I.hok.write mu he k heo new)
/-- forgetting slots, pins -/
theorem Inv.weak {σ' : List (Option V)} (I : Inv X pins σ H s) (hl : σ'.length = σ.length) (w : ∀ (i : Nat) v, σ'[i]? = some (some v) → σ[i]? = some (some v)) : Inv X pins σ' H s :=
  ⟨I.ok, I.os, I.bare, I.base, let ⟨m, hn, hl'⟩ := I.loc; ⟨m, hn, fun i x v e1 e2 e3 => hl' i x v e1 (w i v e2) e3⟩, I.cell, I.free, I.freeC, I.pin, I.hok, hl.trans I.len⟩
theorem Inv.pins_of {pins' : List (Addr × Obj)} (I : Inv X pins σ H s) (h : ∀ p ∈ pins', s.heap.get? p.1 = some p.2 ∧ H p.1 = none ∧ p.1 ≠ X.env.locals ∧ p.1 ∉ X.fs ∧ ∀ v, p.2.data ≠ .cell v) : Inv X pins' σ H s :=
  ⟨I.ok, I.os, I.bare, I.base, I.loc, I.cell, I.free, I.freeC, fun p hp => (List.mem_append.mp hp).elim (fun z => I.pin p (List.mem_append_left _ z)) (h p), I.hok, I.len⟩

theorem nodup_ix {N : List Str} (hN : N.Nodup) {i j : Nat} {x : Str} (a : N[i]? = some x) (b : N[j]? = some x) : i = j := by
  obtain ⟨h1, e1⟩ := List.getElem?_eq_some_iff.mp a
  obtain ⟨h2, e2⟩ := List.getElem?_eq_some_iff.mp b
  exact (List.getElem_inj hN).mp (e1.trans e2.symm)

/-- a name is stored; what changed -/
theorem store_ok2 {M : Model} {A : Around} {E : Value → Shared → Prop} {i : Nat} {x : Str} {v : V} {u : Value} {Q : Unit → Shared → Prop} (I : Inv X pins σ H s) (hN : X.N.Nodup) (hi : X.N[i]? = some x) (hx : Loc X.env.scope x) (r : RelV v u)
    (h : ∀ s', Inv X pins (σ.set i (some v)) H s' → (∃ a, Heap.SameBut a s.heap s'.heap ∧ (a = X.env.locals ∨ X.env.cells.lookup x = some a)) → Q () s') (hf : X.fn x = true ∨ X.env.scope.names.lookup x = some .local := by first | exact .inl rfl | exact .inr rfl | assumption) : wpAny M A (storeName X.env x u) Q E s := by
  obtain ⟨m, hn, hl⟩ := id I.loc
  have hcls : (X.env.scope.kind == .class || (X.env.scope.kind == .module && X.env.locals != X.env.globals)) = false := by rw [I.ok.kind]; rfl
  have hiσ : i < σ.length := by rw [I.len]; exact (List.getElem?_eq_some_iff.mp hi).1
  have cne := I.cne
  have tracked : ∀ {a : Addr} {h' : Heap}, (∃ o, s.heap.get? a = some o ∧ H a = none) → Heap.SameBut a s.heap h' → HOk X.prog X.w H h' := fun {a h'} ha hs b ob e => by
    obtain ⟨_, _, hfree⟩ := ha
    refine (I.hok b ob e).stay (fun c w' hc q => (hs.2 c ?_).trans q) (fun _ q => q) fun _ _ q => q
    rintro rfl
    rcases hc with rfl | hc
    · rw [hfree] at e; cases e
    · rw [hfree] at hc; cases hc
  rcases hx with hk | hk
  · refine wpAny_storeName_local hk hn (fun h' hn' hs => ?_) hcls
    obtain ⟨oL, _, _, hoL, _⟩ := id hn
    refine h _ ⟨I.ok, I.os, I.bare, ⟨fun b o e n hb hx => ?_, fun b o e n hb hx => ?_, I.base.free, fun b o e hx => ?_, I.base.tups, I.base.frzs, I.base.tbls⟩, ⟨_, hn', fun j y v' e1 e2 e3 => ?_⟩, fun y c e => ?_, I.free, I.freeC, fun p hp => ?_, tracked ⟨oL, hoL, I.free⟩ hs, by simpa using I.len⟩ ⟨_, hs, .inl rfl⟩
    · exact (hs.2 b (Nat.ne_of_lt (Nat.lt_of_lt_of_le (Heap.lt_size e) I.ok.above))).trans (I.base.keep b o e n hb hx)
    · obtain ⟨sl, e1⟩ := I.base.slot b o e n hb hx
      exact ⟨sl, (hs.2 b (Nat.ne_of_lt (Nat.lt_of_lt_of_le (Heap.lt_size e) I.ok.above))).trans e1⟩
    · obtain ⟨o', e1⟩ := I.base.there b o e hx
      exact ⟨o', (hs.2 b (Nat.ne_of_lt (Nat.lt_of_lt_of_le (Heap.lt_size e) I.ok.above))).trans e1⟩
    · by_cases hj : j = i
      · subst hj
        rw [hi] at e1; cases e1
        rw [List.getElem?_set_self hiσ] at e2
        cases e2
        exact ⟨u, r, .inl ⟨hk, by simp⟩⟩
      · rw [List.getElem?_set_ne (Ne.symm hj)] at e2
        obtain ⟨u', r', q⟩ := hl j y v' e1 e2 e3
        refine ⟨u', r', ?_⟩
        rcases q with ⟨k, e⟩ | ⟨k, c, e, z⟩
        · refine .inl ⟨k, ?_⟩
          have : y ≠ x := fun e => hj (nodup_ix hN e1 (e ▸ hi))
          simp [this, e]
        · exact .inr ⟨k, c, e, z.sameBut hs (cne y c e)⟩
    · obtain ⟨w', z⟩ := I.cell y c e
      exact ⟨w', z.sameBut hs (cne y c e)⟩
    · obtain ⟨e, n, ne, nf, d⟩ := I.pin p hp
      exact ⟨(hs.2 p.1 ne).trans e, n, ne, nf, d⟩
  · have hfn : X.fn x = true := by
      rcases hf with z | z
      · exact z
      · rw [z] at hk; cases hk
    obtain ⟨c, hc⟩ := I.ok.has x (.inl hk)
    obtain ⟨w', z⟩ := I.cell x c hc
    refine wpAny_storeName_cell I.ok.kind hk hc z (fun h' hc' hs => ?_)
    obtain ⟨oc, hoc, hocd⟩ := id z
    refine h { s with heap := h' } ⟨I.ok, I.os, I.bare, ⟨fun b o e n hb hx => ?_, fun b o e n hb hx => ?_, I.base.free, fun b o e hx => ?_, I.base.tups, I.base.frzs, I.base.tbls⟩, ⟨m, hn.sameBut hs (Ne.symm (cne x c hc)), fun j y v' e1 e2 e3 => ?_⟩, fun y c' e => ?_, I.free, I.freeC, fun p hp => ?_, tracked ⟨oc, hoc, I.freeC x c hc⟩ hs, by simpa using I.len⟩ ⟨c, hs, .inr hc⟩
    · exact (hs.2 b (Nat.ne_of_lt (Nat.lt_of_lt_of_le (Heap.lt_size e) (I.ok.cab x c hfn hc)))).trans (I.base.keep b o e n hb hx)
    · obtain ⟨sl, e1⟩ := I.base.slot b o e n hb hx
      exact ⟨sl, (hs.2 b (Nat.ne_of_lt (Nat.lt_of_lt_of_le (Heap.lt_size e) (I.ok.cab x c hfn hc)))).trans e1⟩
    · obtain ⟨o', e1⟩ := I.base.there b o e hx
      exact ⟨o', (hs.2 b (Nat.ne_of_lt (Nat.lt_of_lt_of_le (Heap.lt_size e) (I.ok.cab x c hfn hc)))).trans e1⟩
    · by_cases hj : j = i
      · subst hj
        rw [hi] at e1; cases e1
        rw [List.getElem?_set_self hiσ] at e2
        cases e2
        exact ⟨u, r, .inr ⟨.inl hk, c, hc, hc'⟩⟩
      · rw [List.getElem?_set_ne (Ne.symm hj)] at e2
        obtain ⟨u', r', q⟩ := hl j y v' e1 e2 e3
        refine ⟨u', r', ?_⟩
        rcases q with q | ⟨k, c', e, z'⟩
        · exact .inl q
        · refine .inr ⟨k, c', e, z'.sameBut hs ?_⟩
          rintro rfl
          exact hj (nodup_ix hN e1 (I.ok.inj _ _ _ e hc ▸ hi))
    · by_cases hcc : c' = c
      · subst hcc; exact ⟨_, hc'⟩
      · obtain ⟨w2, z2⟩ := I.cell y c' e
        exact ⟨w2, z2.sameBut hs hcc⟩
    · obtain ⟨e, n, ne, nf, d⟩ := I.pin p hp
      refine ⟨(hs.2 p.1 ?_).trans e, n, ne, nf, d⟩
      intro q
      rw [q, hoc] at e
      have q' : oc = p.2 := Option.some.inj e
      exact d w' (by rw [← q']; exact hocd)
theorem store_ok {M : Model} {A : Around} {E : Value → Shared → Prop} {i : Nat} {x : Str} {v : V} {u : Value} {Q : Unit → Shared → Prop} (I : Inv X pins σ H s) (hN : X.N.Nodup) (hi : X.N[i]? = some x) (hx : Loc X.env.scope x) (r : RelV v u)
    (h : ∀ s', Inv X pins (σ.set i (some v)) H s' → Q () s') (hf : X.fn x = true ∨ X.env.scope.names.lookup x = some .local := by first | exact .inl rfl | exact .inr rfl | assumption) : wpAny M A (storeName X.env x u) Q E s :=
  store_ok2 I hN hi hx r (fun s' I' _ => h s' I') hf
/-- behind a call or a block, the state as it is -/
theorem Inv.call' {s' : Shared} {ch : List Addr} (I : Inv X pins σ H s) (ho : s'.os = s.os) (u : Un (frs X.stack) ch H H' s.heap s'.heap) (hok : HOk X.prog X.w H' s'.heap) (hg : AllBare s'.gens)
    (hch : ∀ b ∈ ch, (b ∈ X.ex ∨ X.s₀.heap.objs.size ≤ b) ∧ b ≠ X.env.locals ∧ (∀ x c, X.env.cells.lookup x = some c → c ≠ b) ∧ ∀ p ∈ X.pn ++ pins, p.1 ≠ b) : Inv X pins σ H' s' := by
  obtain ⟨h', g', d', t', o'⟩ := s'
  have e : o' = s.os := ho
  subst e
  exact I.call (g' := g') (t' := t') (d' := d') u hok hg hch
end

/-! ### the judgements -/
/-- an exception: its class, its own dict's address (where it has one), the abstract heap behind it -/
abbrev XK := Value → Option Addr → Hp → Prop
abbrev St := List (Option V)
abbrev VK := V → Hp → Prop
/-- an expression's reading; a test's; an argument list's -/
abbrev TE := St → Hp → VK → Prop
abbrev TT := St → Hp → (Bool → Hp → Prop) → Prop
abbrev TA := St → Hp → (List V → Hp → Prop) → Prop
/-- what is wanted behind a statement -/
structure Ends where
  nx : St → Hp → Prop
  rt : VK
  bk : St → Hp → Prop := fun _ _ => False
  ct : St → Hp → Prop := fun _ _ => False
abbrev TS := Ends → St → Hp → Prop

def EP (X : Cx) (pins : List (Addr × Obj)) (σ : St) (Q : VK) (u : Value) (s' : Shared) : Prop := ∃ v H', Inv X pins σ H' s' ∧ RelV v u ∧ Q v H'
def TP (X : Cx) (pins : List (Addr × Obj)) (σ : St) (Q : Bool → Hp → Prop) (b : Bool) (s' : Shared) : Prop := ∃ H', Inv X pins σ H' s' ∧ Q b H'
def AP (X : Cx) (pins : List (Addr × Obj)) (σ : St) (Q : List V → Hp → Prop) (us : List Value) (s' : Shared) : Prop := ∃ vs H', Inv X pins σ H' s' ∧ Vals vs us ∧ Q vs H'
def SP (X : Cx) (pins : List (Addr × Obj)) (D : Ends) (f : Flow) (s' : Shared) : Prop :=
  match f with
  | .next => ∃ σ' H', Inv X pins σ' H' s' ∧ D.nx σ' H'
  | .brk => ∃ σ' H', Inv X pins σ' H' s' ∧ D.bk σ' H'
  | .cont => ∃ σ' H', Inv X pins σ' H' s' ∧ D.ct σ' H'
  | .ret u => ∃ v σ' H', Inv X pins σ' H' s' ∧ RelV v u ∧ D.rt v H'

def PE (X : Cx) (e : Expr) (t : TE) : Prop :=
  ∀ (pins : List (Addr × Obj)) (s : Shared) (σ : St) (H : Hp) (Q : VK), Inv X pins σ H s → t σ H Q → wpAny (model X.prog X.w) X.A (eval e X.env) (EP X pins σ Q) X.xe s
def PT (X : Cx) (e : Expr) (t : TT) : Prop :=
  ∀ (pins : List (Addr × Obj)) (s : Shared) (σ : St) (H : Hp) (Q : Bool → Hp → Prop), Inv X pins σ H s → t σ H Q → wpAny (model X.prog X.w) X.A (isTrue e X.env (eval e X.env)) (TP X pins σ Q) X.xe s
/-- a test whatever its 'whole' is (and, or) -/
def PW (X : Cx) (e : Expr) (t : TT) : Prop :=
  ∀ (whole : Sem Value) (pins : List (Addr × Obj)) (s : Shared) (σ : St) (H : Hp) (Q : Bool → Hp → Prop), Inv X pins σ H s → t σ H Q → wpAny (model X.prog X.w) X.A (isTrue e X.env whole) (TP X pins σ Q) X.xe s
theorem PW.pt {X : Cx} {e : Expr} {t : TT} (h : PW X e t) : PT X e t := h _
/-- an argument list (no star), from the left -/
def PA (X : Cx) (es : List Expr) (t : TA) : Prop :=
  ∀ (pos : Pos) (pins : List (Addr × Obj)) (s : Shared) (σ : St) (H : Hp) (Q : List V → Hp → Prop), Inv X pins σ H s → t σ H Q → wpAny (model X.prog X.w) X.A (spliced (backTo pos (starEach es X.env))) (AP X pins σ Q) X.xe s
def PS (X : Cx) (st : Stmt) (t : TS) : Prop :=
  ∀ (pins : List (Addr × Obj)) (s : Shared) (σ : St) (H : Hp) (D : Ends), Inv X pins σ H s → t D σ H → wpAny (model X.prog X.w) X.A (exec st X.env) (SP X pins D) X.xe s
def PSs (X : Cx) (st : List Stmt) (t : TS) : Prop :=
  ∀ (pins : List (Addr × Obj)) (s : Shared) (σ : St) (H : Hp) (D : Ends), Inv X pins σ H s → t D σ H → wpAny (model X.prog X.w) X.A (execs st X.env) (SP X pins D) X.xe s
/-- weaken the end -/
theorem thn {α : Type} {t : Sem α} {Q Q' : α → Shared → Prop} {M : Model} {A : Around} {E : Value → Shared → Prop} {s : Shared} (h : wpAny M A t Q E s) (hQ : ∀ a s, Q a s → Q' a s) : wpAny M A t Q' E s := wpAny_mono h hQ fun _ _ x => x
end L2

namespace L2
open PySem PySem.Spec PyProof.Rows
section
variable {X : Cx}

/-- two expressions in a row -/
theorem bin {a b : Expr} {ta tb : TE} (ha : PE X a ta) (hb : PE X b tb) {pins : List (Addr × Obj)} {s : Shared} {σ : St} {H : Hp} {R : V → V → Hp → Prop} (I : Inv X pins σ H s) (h : ta σ H fun x H1 => tb σ H1 fun y H2 => R x y H2)
    {α : Type} {Q : α → Shared → Prop} {f : Value → Value → Sem α}
    (hf : ∀ v u s2 x y H2, Inv X pins σ H2 s2 → RelV x v → RelV y u → R x y H2 → wpAny (model X.prog X.w) X.A (f v u) Q X.xe s2) :
    wpAny (model X.prog X.w) X.A (eval a X.env) (fun v s₁ => wpAny (model X.prog X.w) X.A (eval b X.env) (fun u s₂ => wpAny (model X.prog X.w) X.A (f v u) Q X.xe s₂) X.xe s₁) X.xe s := by
  refine thn (ha pins s σ H _ I h) fun v s1 ⟨x, H1, I1, r1, q1⟩ => ?_
  refine thn (hb pins s1 σ H1 _ I1 q1) fun u s2 ⟨y, H2, I2, r2, q2⟩ => ?_
  exact hf v u s2 x y H2 I2 r1 r2 q2

/-! ### names and constants -/
def tVar (i : Nat) : TE := fun σ H Q => ∃ v, σ[i]? = some (some v) ∧ Q v H
def tC (v : V) : TE := fun _ H Q => Q v H
theorem pe_var {i : Nat} {x : Str} {pos : Pos} (hN : X.N[i]? = some x) (hv : Vis X.env.scope x) (hd : (x == ("__debug__" : Str)) = false := by decide) (hcd : (x == ("__classdict__" : Str)) = false := by decide) : PE X (.Name x pos) (tVar i) := by
  intro pins s σ H Q I h
  obtain ⟨v, e, h⟩ := h
  obtain ⟨m, hn, hl⟩ := I.loc
  obtain ⟨u, r, l⟩ := hl i x v hN e hv
  have fin : EP X pins σ Q u s := ⟨v, H, I, r, h⟩
  rcases l with ⟨hk, hm⟩ | ⟨hk, c, hc, hcell⟩
  · exact wpAny_Name (wpAny_loadName_local I.ok.kind hk hn hm fin) hd
  · rcases hk with hk | hk
    · exact wpAny_Name (wpAny_loadName_cell I.ok.kind hk hc hcell fin) hd
    · exact wpAny_Name (wpAny_loadName_free I.ok.kind hk hc hcell fin hcd) hd
theorem pe_int {i j pos} : PE X (.Constant (.int i) j pos) (tC (.int i)) := fun _ _ _ H _ I h => wpAny_Constant_int ⟨.int i, H, I.tok _, ⟨_, rfl⟩, h⟩
theorem pe_bl {b j pos} : PE X (.Constant (.bool b) j pos) (tC (.bl b)) := fun _ _ _ H _ I h => Constant_bool ⟨.bl b, H, I, rfl, h⟩
theorem pe_non {j pos} : PE X (.Constant .none j pos) (tC .non) := fun _ _ _ H _ I h => Constant_none ⟨.non, H, I, rfl, h⟩
theorem pe_str {x j pos} : PE X (.Constant (.str x) j pos) (tC (.str x)) := fun _ _ _ H _ I h => Calls.Constant_str ⟨.str x, H, I.tok _, ⟨_, rfl⟩, h⟩

/-- a global name of the def -/
def Gl (X : Cx) (x : Str) : Prop := X.env.kindOf x = some .globalImplicit
theorem ld_glob {E : Value → Shared → Prop} {pins : List (Addr × Obj)} {s : Shared} {σ : St} {H : Hp} {x : Str} {u : Value} {pos : Pos} {Q : Value → Shared → Prop} (I : Inv X pins σ H s) (hg : Gl X x) (hm : X.mg x = some u) (h : Q u s)
    (hd : (x == ("__debug__" : Str)) = false := by decide) : wpAny (model X.prog X.w) X.A (eval (.Name x pos) X.env) Q E s :=
  Calls.Name_function_global I.ok.kind hg (Calls.loadGlobal_global (by rw [I.ok.glob]; exact I.mod.glob.keeps I.bk) hm h) hd
theorem ld_blt {E : Value → Shared → Prop} {pins : List (Addr × Obj)} {s : Shared} {σ : St} {H : Hp} {x : Str} {u : Value} {pos : Pos} {Q : Value → Shared → Prop} (I : Inv X pins σ H s) (hg : Gl X x) (hm : X.mg x = none) (hv : bootBuiltins x = some u) (h : Q u s)
    (hn : x ≠ "__name__" := by decide) (hd : (x == ("__debug__" : Str)) = false := by decide) : wpAny (model X.prog X.w) X.A (eval (.Name x pos) X.env) Q E s := by
  obtain ⟨mb, h1, h2⟩ := I.mod.blt
  exact Calls.Name_function_global I.ok.kind hg (Calls.loadGlobal_builtin (by rw [I.ok.glob]; exact I.mod.glob.keeps I.bk) hm (by rw [I.ok.blt]; exact h1.keeps I.bk) ((h2 x hn).trans hv) h) hd
/-- a module's constant, a class, a function, as a value -/
theorem pe_glob {x : Str} {v : V} {u : Value} {pos : Pos} (hg : Gl X x) (hm : X.mg x = some u) (r : RelV v u) (hd : (x == ("__debug__" : Str)) = false := by decide) : PE X (.Name x pos) (tC v) :=
  fun _ _ _ H _ I h => ld_glob I hg hm ⟨v, H, I, r, h⟩ hd
theorem pe_bltn {x : Str} {v : V} {u : Value} {pos : Pos} (hg : Gl X x) (hm : X.mg x = none) (hv : bootBuiltins x = some u) (r : RelV v u) (hn : x ≠ "__name__" := by decide) (hd : (x == ("__debug__" : Str)) = false := by decide) : PE X (.Name x pos) (tC v) :=
  fun _ _ _ H _ I h => ld_blt I hg hm hv ⟨v, H, I, r, h⟩ hn hd

/-! ### arithmetic -/
variable {a b : Expr} {ta tb : TE} {pos : Pos}
/-! ### comparisons -/
/-! ### and, or, not -/
variable {tA tB' : TT} {rest : List Expr}
def tAnd (t u : TT) : TT := fun σ H Q => t σ H fun c H1 => if c = true then u σ H1 Q else Q false H1
def tOr (t u : TT) : TT := fun σ H Q => t σ H fun c H1 => if c = true then Q true H1 else u σ H1 Q
def tNot (t : TT) : TT := fun σ H Q => t σ H fun c H1 => Q (!c) H1
theorem pw_and1 (ha : PT X a tA) : PW X (.BoolOp .And [a] pos) tA := by
  intro wh pins s σ H Q I h
  refine isTrue_and (thn (ha pins s σ H Q I h) fun c s1 e => ?_)
  cases c with
  | true => exact isTrue_and_nil e
  | false => exact e
theorem pw_or1 (ha : PT X a tA) : PW X (.BoolOp .Or [a] pos) tA := by
  intro wh pins s σ H Q I h
  refine isTrue_or (thn (ha pins s σ H Q I h) fun c s1 e => ?_)
  cases c with
  | false => exact isTrue_or_nil e
  | true => exact e
theorem pw_and (ha : PT X a tA) (hb : PW X (.BoolOp .And (b :: rest) pos) tB') : PW X (.BoolOp .And (a :: b :: rest) pos) (tAnd tA tB') := by
  intro wh pins s σ H Q I h
  refine isTrue_and (thn (ha pins s σ H _ I h) fun c s1 ⟨H1, I1, q1⟩ => ?_)
  cases c with
  | true => exact hb wh pins s1 σ H1 Q I1 q1
  | false => exact ⟨H1, I1, q1⟩
theorem pw_or (ha : PT X a tA) (hb : PW X (.BoolOp .Or (b :: rest) pos) tB') : PW X (.BoolOp .Or (a :: b :: rest) pos) (tOr tA tB') := by
  intro wh pins s σ H Q I h
  refine isTrue_or (thn (ha pins s σ H _ I h) fun c s1 ⟨H1, I1, q1⟩ => ?_)
  cases c with
  | true => exact ⟨H1, I1, q1⟩
  | false => exact hb wh pins s1 σ H1 Q I1 q1
theorem pt_not (ha : PT X a tA) : PT X (.UnaryOp .Not a pos) (tNot tA) := by
  intro pins s σ H Q I h
  exact isTrue_not (ha pins s σ H (fun c H1 => Q (!c) H1) I h)
/-- .. as values (bools) -/
def tAndV (ta tb : TE) : TE := fun σ H Q => ta σ H fun x H1 => ∃ c, x = .bl c ∧ if c = true then tb σ H1 Q else Q (.bl false) H1
def tOrV (ta tb : TE) : TE := fun σ H Q => ta σ H fun x H1 => ∃ c, x = .bl c ∧ if c = true then Q (.bl true) H1 else tb σ H1 Q
def tNotV (ta : TE) : TE := fun σ H Q => ta σ H fun x H1 => ∃ c, x = .bl c ∧ Q (.bl (!c)) H1
theorem pe_one {op} {t : TE} (h : PE X a t) : PE X (.BoolOp op [a] pos) t := fun pins s σ H Q I hw => BoolOp_one (h pins s σ H Q I hw)
theorem pe_and (ha : PE X a ta) (hb : PE X (.BoolOp .And (b :: rest) pos) tb) : PE X (.BoolOp .And (a :: b :: rest) pos) (tAndV ta tb) := by
  intro pins s σ H Q I h
  refine BoolOp_and (thn (ha pins s σ H _ I h) fun v s1 ⟨x, H1, I1, r1, q1⟩ => ?_)
  obtain ⟨c, rfl, q1⟩ := q1
  cases r1
  refine wpAny_truthy_bool ?_
  cases c with
  | true => exact hb pins s1 σ H1 Q I1 q1
  | false => exact ⟨.bl false, H1, I1, rfl, q1⟩
theorem pe_or (ha : PE X a ta) (hb : PE X (.BoolOp .Or (b :: rest) pos) tb) : PE X (.BoolOp .Or (a :: b :: rest) pos) (tOrV ta tb) := by
  intro pins s σ H Q I h
  refine BoolOp_or (thn (ha pins s σ H _ I h) fun v s1 ⟨x, H1, I1, r1, q1⟩ => ?_)
  obtain ⟨c, rfl, q1⟩ := q1
  cases r1
  refine wpAny_truthy_bool ?_
  cases c with
  | false => exact hb pins s1 σ H1 Q I1 q1
  | true => exact ⟨.bl true, H1, I1, rfl, q1⟩
theorem pe_not (ha : PE X a ta) : PE X (.UnaryOp .Not a pos) (tNotV ta) := by
  intro pins s σ H Q I h
  refine UnaryOp_ (thn (ha pins s σ H _ I h) fun v s1 ⟨x, H1, I1, r1, q1⟩ => ?_)
  obtain ⟨c, rfl, q1⟩ := q1
  cases r1
  exact not_of (wpAny_truthy_bool ⟨.bl (!c), H1, I1, rfl, q1⟩)
end
end L2

namespace L2
open PySem PySem.Spec PyProof.Rows

/-! ### a list, a tuple that is read: tracked, frozen, or an object of the module -/
def SqL (K : PySem.W.Frag) (H : Hp) (a : Addr) (xs : List V) : Prop :=
  Rd H a (.lst xs) ∨
    ∃ (o : Obj) (its : Array Value) (n : Nat), K.lookup a = some o ∧ o.cls = .type "list" ∧ o.dict = none ∧ o.data = .seq its n ∧ its.size ≤ sizeLine ∧ Vals xs its.toList
def SqT (K : PySem.W.Frag) (H : Hp) (a : Addr) (xs : List V) : Prop :=
  Rd H a (.tup xs) ∨
    ∃ (o : Obj) (its : Array Value) (n : Nat), K.lookup a = some o ∧ o.cls = .type "tuple" ∧ o.dict = none ∧ o.data = .seq its n ∧ its.size ≤ sizeLine ∧ Vals xs its.toList
def absV : Value → Option V
  | .none => some .non
  | .bool b => some (.bl b)
  | .int i _ => some (.int i)
  | .str x _ => some (.str x)
  | .bytes b _ => some (.byt b)
  | .float b _ => some (.flt b)
  | .ref a => some (.ref a)
  | .type n => some (.ty n)
  | _ => none
theorem RelV.abs {x : V} {u : Value} (r : RelV x u) : absV u = some x := by
  cases x with
  | non => cases r; rfl
  | bl _ => cases r; rfl
  | int _ => obtain ⟨t, rfl⟩ := r; rfl
  | str _ => obtain ⟨t, rfl⟩ := r; rfl
  | byt _ => obtain ⟨t, rfl⟩ := r; rfl
  | flt _ => obtain ⟨t, rfl⟩ := r; rfl
  | ref _ => cases r; rfl
  | ty _ => cases r; rfl
theorem RelV.inj {x y : V} {u : Value} (r : RelV x u) (q : RelV y u) : x = y := Option.some.inj (r.abs.symm.trans q.abs)
theorem Vals.inj : ∀ {xs ys : List V} {us : List Value}, Vals xs us → Vals ys us → xs = ys
  | _, _, _, .nil, .nil => rfl
  | _, _, _, .cons r t, .cons r' t' => by rw [r.inj r', Vals.inj t t']
section
variable {X : Cx} {pins : List (Addr × Obj)} {σ : St} {H : Hp} {s : Shared} {a : Addr} {xs ys : List V}
theorem SqL.of {K : PySem.W.Frag} (h : H a = some (.lst xs)) : SqL K H a xs := .inl (.inl h)
theorem SqT.of {K : PySem.W.Frag} (h : H a = some (.tup xs)) : SqT K H a xs := .inl (.inl h)
theorem Inv.list (I : Inv X pins σ H s) (h : SqL X.K H a xs) : ∃ its : List Value, Vals xs its ∧ PlainL s.heap a its.toArray ∧ xs.length ≤ sizeLine := by
  rcases h with h | ⟨o, its, n, hk, hc, hd, hs, hz, r⟩
  · obtain ⟨z, its, n, r, e⟩ := h.ok I.hok
    exact ⟨its, r, ⟨_, n, e, rfl, rfl, rfl⟩, z⟩
  · refine ⟨its.toList, r, ⟨o, n, I.kIn a o hk, hc, hd, by simpa using hs⟩, ?_⟩
    have e := r.length
    simp only [Array.length_toList] at e
    omega
theorem Inv.tuple (I : Inv X pins σ H s) (h : SqT X.K H a xs) : ∃ its : List Value, Vals xs its ∧ IsTup s.heap a its.toArray ∧ xs.length ≤ sizeLine := by
  rcases h with h | ⟨o, its, n, hk, hc, hdt, hs, hz, r⟩
  · obtain ⟨z, its, r, p⟩ := h.ok I.hok
    exact ⟨its, r, p.isTup, z⟩
  · refine ⟨its.toList, r, ⟨o, I.kIn a o hk, hc, n, by simpa using hs⟩, ?_⟩
    have e := r.length
    simp only [Array.length_toList] at e
    omega
theorem Inv.list_inj (I : Inv X pins σ H s) (h : SqL X.K H a xs) (h' : SqL X.K H a ys) : xs = ys := by
  obtain ⟨its, r, ⟨o, n, e, _, _, d⟩, _⟩ := I.list h
  obtain ⟨its', r', ⟨o', n', e', _, _, d'⟩, _⟩ := I.list h'
  rw [e] at e'; cases e'
  rw [d] at d'
  injection d' with d1 _
  have : its = its' := by simpa using congrArg Array.toList d1
  subst this
  exact r.inj r'
theorem Inv.tuple_inj (I : Inv X pins σ H s) (h : SqT X.K H a xs) (h' : SqT X.K H a ys) : xs = ys := by
  obtain ⟨its, r, ⟨o, e, _, n, d⟩, _⟩ := I.tuple h
  obtain ⟨its', r', ⟨o', e', _, n', d'⟩, _⟩ := I.tuple h'
  rw [e] at e'; cases e'
  rw [d] at d'
  injection d' with d1 _
  have : its = its' := by simpa using congrArg Array.toList d1
  subst this
  exact r.inj r'
end

/-! ### another wish about exceptions -/
abbrev Cx.wish (X : Cx) (E : Value → Shared → Prop) : Cx := { X with xe := E }
theorem Cx.Ok.wish {X : Cx} (ok : X.Ok) (E : Value → Shared → Prop) : (X.wish E).Ok :=
  ⟨ok.mod, ok.kind, ok.glob, ok.blt, ok.above, ok.inj, ok.has, ok.cab, ok.hd, ok.frames, ok.stk, ok.exf, ok.bs, ok.bsz, ok.noex, ok.exfs, ok.funs, ok.frf⟩
section
variable {X : Cx} {pins : List (Addr × Obj)} {σ : St} {H : Hp} {s : Shared} {E : Value → Shared → Prop}
theorem Inv.wish (I : Inv X pins σ H s) (E : Value → Shared → Prop) : Inv (X.wish E) pins σ H s := ⟨I.ok.wish E, I.os, I.bare, I.base, I.loc, I.cell, I.free, I.freeC, I.pin, I.hok, I.len⟩
end

/-! ### blocks and small statements -/
section
variable {X : Cx} {st : Stmt} {rest : List Stmt} {t u : TS} {e : Expr} {te : TE} {pos : Pos}
def tNext : TS := fun D σ H => D.nx σ H
def tSeq (t u : TS) : TS := fun D σ H => t { D with nx := u D } σ H
theorem pss_nil : PSs X [] tNext := fun _ _ σ H _ I h => wpAny_execs_nil ⟨σ, H, I, h⟩
theorem pss_cons (h1 : PS X st t) (h2 : PSs X rest u) : PSs X (st :: rest) (tSeq t u) := by
  intro pins s σ H D I h
  refine wpAny_execs_cons (thn (h1 pins s σ H { D with nx := u D } I h) fun f s1 q => ?_)
  cases f with
  | next =>
    obtain ⟨σ', H', I', q⟩ := q
    exact h2 pins s1 σ' H' D I' q
  | ret v => exact q
  | brk => exact q
  | cont => exact q
/-- in a def's body nothing is shown -/
theorem Inv.quiet {pins : List (Addr × Obj)} {σ : St} {H : Hp} {s : Shared} (I : Inv X pins σ H s) : interactive X.env = false := by simp [interactive, I.ok.kind]
/-- an expression whose value is dropped -/
def tDrop (te : TE) : TS := fun D σ H => te σ H fun _ H1 => D.nx σ H1
theorem ps_expr (he : PE X e te) (hs : swapsWith e none pos.line X.env = pure false := by rfl) : PS X (.Expr e pos) (tDrop te) := by
  intro pins s σ H D I h
  exact wpAny_Expr_any (thn (he pins s σ H _ I h) fun v s1 ⟨x, H1, I1, r1, q1⟩ => ⟨σ, H1, I1, q1⟩) I.quiet hs
def tRet (te : TE) : TS := fun D σ H => te σ H D.rt
theorem ps_ret (he : PE X e te) : PS X (.Return (some e) pos) (tRet te) := by
  intro pins s σ H D I h
  exact wpAny_Return_some (thn (he pins s σ H _ I h) fun v s1 ⟨x, H1, I1, r1, q1⟩ => ⟨x, σ, H1, I1, r1, q1⟩)
def tIfS (c : TT) (t u : TS) : TS := fun D σ H => c σ H fun b H1 => if b = true then t D σ H1 else u D σ H1
theorem ps_if {c : Expr} {a b : List Stmt} {tc : TT} (hc : PT X c tc) (ha : PSs X a t) (hb : PSs X b u) : PS X (.If c a b pos) (tIfS tc t u) := by
  intro pins s σ H D I h
  refine wpAny_If (thn (hc pins s σ H _ I h) fun d s1 ⟨H1, I1, q1⟩ => ?_)
  cases d with
  | true => exact ha pins s1 σ H1 D I1 q1
  | false => exact hb pins s1 σ H1 D I1 q1
end

/-! ### targets -/
abbrev TG := V → St → Hp → (St → Hp → Prop) → Prop
abbrev TGs := List V → St → Hp → (St → Hp → Prop) → Prop
def PG (X : Cx) (target : Expr) (t : TG) : Prop :=
  ∀ (pins : List (Addr × Obj)) (s : Shared) (σ : St) (H : Hp) (v : V) (u : Value) (Q : St → Hp → Prop), Inv X pins σ H s → RelV v u → t v σ H Q →
    wpAny (model X.prog X.w) X.A (assign target X.env u) (fun _ s' => ∃ σ' H', Inv X pins σ' H' s' ∧ Q σ' H') X.xe s
/-- several targets, one after another -/
def PGs (X : Cx) (ts : List Expr) (t : TGs) : Prop :=
  ∀ (pins : List (Addr × Obj)) (s : Shared) (σ : St) (H : Hp) (vs : List V) (us : List Value) (Q : St → Hp → Prop), Inv X pins σ H s → Vals vs us → t vs σ H Q →
    wpAny (model X.prog X.w) X.A (assignInOrder ((assignEach ts X.env).map (·.2)) us) (fun _ s' => ∃ σ' H', Inv X pins σ' H' s' ∧ Q σ' H') X.xe s
section
variable {X : Cx} {pos : Pos}
def gName (i : Nat) : TG := fun v σ H Q => Q (σ.set i (some v)) H
theorem pg_name {i : Nat} {x : Str} (hN : X.N.Nodup) (hi : X.N[i]? = some x) (hx : Loc X.env.scope x) (hf : X.fn x = true ∨ X.env.scope.names.lookup x = some .local := by first | exact .inl rfl | exact .inr rfl | assumption) : PG X (.Name x pos) (gName i) := by
  intro pins s σ H v u Q I r h
  exact wpAny_assign_Name (store_ok I hN hi hx r (fun s' I' => ⟨_, H, I', h⟩) hf)
def gNil : TGs := fun vs σ H Q => vs = [] ∧ Q σ H
def gCons (t : TG) (u : TGs) : TGs := fun vs σ H Q => ∃ v r, vs = v :: r ∧ t v σ H fun σ' H' => u r σ' H' Q
theorem pgs_nil : PGs X [] gNil := by
  intro pins s σ H vs us Q I r h
  obtain ⟨e, h⟩ := h
  subst e
  cases r
  exact assignInOrder_nil ⟨σ, H, I, h⟩
theorem pgs_cons {e : Expr} {es : List Expr} {t : TG} {u : TGs} (h1 : PG X e t) (h2 : PGs X es u)
    (hs : (assignEach (e :: es) X.env).map (·.2) = assign e X.env :: (assignEach es X.env).map (·.2) := by rfl) : PGs X (e :: es) (gCons t u) := by
  intro pins s σ H vs us Q I r h
  obtain ⟨v, vr, e1, h⟩ := h
  subst e1
  cases r with
  | cons r rr =>
    rw [hs]
    refine assignInOrder_cons (thn (h1 pins s σ H _ _ _ I r h) fun _ s1 ⟨σ1, H1, I1, q1⟩ => ?_)
    exact h2 pins s1 σ1 H1 _ _ Q I1 rr q1
/-- (a, b, ..) = a tuple of that length -/
def gTup (K : PySem.W.Frag) (n : Nat) (t : TGs) : TG := fun v σ H Q => ∃ a xs, v = .ref a ∧ SqT K H a xs ∧ xs.length = n ∧ t xs σ H Q
theorem pg_tup {es : List Expr} {k : Nat} {t : TGs} {n : Nat} (hc : X.calm = true) (h : PGs X es t)
    (hn : (assignEach es X.env).length = n := by rfl) (hst : (assignEach es X.env).findIdx? (·.1) = none := by rfl) : PG X (.Tuple es k pos) (gTup X.K n t) := by
  intro pins s σ H v u Q I r hw
  obtain ⟨a, xs, e1, hq, hl, hw⟩ := hw
  subst e1
  cases r
  obtain ⟨its, rv, ht, hz⟩ := I.tuple hq
  refine assign_Tuple_tuple (I.ok.hd hc) ht (by simp [hn, ← hl, rv.length]) hst fun h' hx => ?_
  have I1 : Inv X pins σ H { s with heap := h' } := I.kept (t' := s.toks) fun b o e => hx b o (Nat.ne_of_lt (Heap.lt_size e)) e
  exact h pins _ σ H xs _ Q I1 (by simpa using rv) hw
/-- target = value -/
def tAsg (te : TE) (g : TG) : TS := fun D σ H => te σ H fun x H1 => g x σ H1 D.nx
theorem ps_asg {tg e : Expr} {te : TE} {g : TG} (he : PE X e te) (hg : PG X tg g) (hs : swapsWithSole [tg] e pos.line X.env = pure false := by rfl) (hw : swappedStores [tg] e X.env = pure none := by rfl)
    (h1 : (assignEach [tg] X.env).map (·.2) = [assign tg X.env] := by rfl) : PS X (.Assign [tg] e pos) (tAsg te g) := by
  intro pins s σ H D I h
  refine wpAny_Assign_stores (thn (he pins s σ H _ I h) fun v s1 ⟨x, H1, I1, r1, q1⟩ => ?_) hs hw
  rw [h1]
  exact thn (hg pins s1 σ H1 x v _ I1 r1 q1) fun _ s2 q => q
/-- name = value -/
theorem ps_set {i : Nat} {x : Str} {e : Expr} {te : TE} {pos' : Pos} (hN : X.N.Nodup) (hi : X.N[i]? = some x) (hx : Loc X.env.scope x) (he : PE X e te) (hs : swapsWith e (some (.Name x pos')) pos.line X.env = pure false := by rfl) (hf : X.fn x = true ∨ X.env.scope.names.lookup x = some .local := by first | exact .inl rfl | exact .inr rfl | assumption) :
    PS X (.Assign [.Name x pos'] e pos) (tAsg te (gName i)) := by
  intro pins s σ H D I h
  refine wpAny_Assign_Name (thn (he pins s σ H _ I h) fun v s1 ⟨y, H1, I1, r1, q1⟩ => ?_) hs
  exact store_ok I1 hN hi hx r1 (fun s2 I2 => ⟨_, H1, I2, q1⟩) hf
end

/-! ### while -/
section
variable {X : Cx} {pos : Pos}
end

/-! ### what a loop or a comprehension walks -/
/-- at turn i: it yields x (the heap may grow), or it stops -/
structure It where
  go : Nat → Hp → Prop
  yld : Nat → Hp → V → Hp → Prop
  stop : Nat → Hp → Prop
/-- the iterator's own objects may turn: they are not the frame's, not pinned, younger than the entry (or a comprehension's own) -/
def FpOk (X : Cx) (pins : List (Addr × Obj)) (H : Hp) (b : Addr) : Prop :=
  H b = none ∧ b ≠ X.env.locals ∧ b ∉ X.fs ∧ (b ∈ X.ex ∨ X.s₀.heap.objs.size ≤ b) ∧ (∀ x c, X.env.cells.lookup x = some c → c ≠ b) ∧ ∀ p ∈ X.pn ++ pins, p.1 ≠ b
theorem Inv.fpOk {X : Cx} {pins : List (Addr × Obj)} {σ : St} {H H' : Hp} {s : Shared} {b : Addr} (I : Inv X pins σ H s) (hb : s.heap.objs.size ≤ b) (hn : H' b = none) : FpOk X pins H' b := by
  refine ⟨hn, Nat.ne_of_gt (Nat.lt_of_lt_of_le I.lt hb), I.nofs hb, .inr (Nat.le_trans I.sz hb), fun x c e z => ?_, fun p hp z => ?_⟩
  · obtain ⟨v, q⟩ := I.cell x c e
    exact absurd (Nat.lt_of_lt_of_le q.lt (by rw [z]; exact hb)) (Nat.lt_irrefl _)
  · exact absurd (Nat.lt_of_lt_of_le (Heap.lt_size (I.pin p hp).1) (by rw [z]; exact hb)) (Nat.lt_irrefl _)
structure Turn (P : Program) (w : World) (K : PySem.W.Frag) (tg : Expr) (J : It) (fp : List Addr) (it : Addr) (tn : Nat → Heap → Prop) : Prop where
  mem : it ∈ fp
  obj : ∀ i h, tn i h → ∀ b ∈ fp, ∃ o, h.get? b = some o ∧ ∀ v, o.data ≠ .cell v
  keep : ∀ i h h', tn i h → (∀ b ∈ fp, ∀ o, h.get? b = some o → h'.get? b = some o) → tn i h'
  item : ∀ (X : Cx), X.prog = P → X.w = w → X.K = K → X.calm = true → ∀ (i : Nat) (pins : List (Addr × Obj)) (s : Shared) (σ : St) (H : Hp) (E : Value → Shared → Prop), Inv X pins σ H s → (∀ b ∈ fp, FpOk X pins H b) → tn i s.heap → J.go i H →
    wpAny (model P w) X.A (pyNext (.ref it)) (fun r s1 => ∃ u, r = some u ∧
      wpAny (model P w) X.A (letOwnedTupleGo tg (.ref it) u) (fun _ s2 => ∃ x H', Inv X pins σ H' s2 ∧ RelV x u ∧ J.yld i H x H' ∧ tn (i + 1) s2.heap ∧ ∀ b ∈ fp, H' b = none) E s1) E s
  done : ∀ (X : Cx), X.prog = P → X.w = w → X.K = K → X.calm = true → ∀ (i : Nat) (pins : List (Addr × Obj)) (s : Shared) (σ : St) (H : Hp) (E : Value → Shared → Prop), Inv X pins σ H s → (∀ b ∈ fp, FpOk X pins H b) → tn i s.heap → J.stop i H →
    wpAny (model P w) X.A (pyNext (.ref it)) (fun r s1 => r = none ∧ Inv X pins σ H s1) E s
  self : ∀ (A : Around) (i : Nat) (s : Shared) (Q : Value → Shared → Prop) (E : Value → Shared → Prop), tn i s.heap → Q (.ref it) s → wpAny (model P w) A (pyIter (.ref it)) Q E s
abbrev TI := St → Hp → (It → Hp → Prop) → Prop
/-- an iterator has come -/
def PIE (X : Cx) (pins : List (Addr × Obj)) (σ : St) (tg : Expr) (R : It → Hp → Prop) (itv : Value) (s2 : Shared) : Prop :=
  ∃ (it : Addr) (fp : List Addr) (tn : Nat → Heap → Prop) (J : It) (H' : Hp), itv = .ref it ∧ Inv X pins σ H' s2 ∧ Turn X.prog X.w X.K tg J fp it tn ∧ tn 0 s2.heap ∧ (∀ b ∈ fp, FpOk X pins H' b) ∧ R J H'
def PI (X : Cx) (tg iter : Expr) (wi : TI) : Prop :=
  ∀ (pins : List (Addr × Obj)) (s : Shared) (σ : St) (H : Hp) (R : It → Hp → Prop), Inv X pins σ H s → wi σ H R →
    wpAny (model X.prog X.w) X.A (eval iter X.env) (fun v s1 => wpAny (model X.prog X.w) X.A (pyIter v) (PIE X pins σ tg R) X.xe s1) X.xe s

/-- the step ahead of the store is nothing for an iterator that keeps no tuple -/
theorem go_of {M : Model} {A : Around} {E : Value → Shared → Prop} {s : Shared} {tg : Expr} {it : Addr} {u : Value} {o : Obj} {n : String} {vs : Array Value} {Q : Unit → Shared → Prop} (ho : s.heap.get? it = some o) (hc : o.cls = .type n) (hd : o.data = .fields vs)
    (hn : ["enumerate", "zip", "dict_itemiterator", "dict_reverseitemiterator", "odict_iterator", "itertools.zip_longest", "itertools.pairwise"].contains n = false) (hQ : Q () s) : wpAny M A (letOwnedTupleGo tg (.ref it) u) Q E s := by
  unfold letOwnedTupleGo
  cases tg <;> first
    | exact wpAny_pure hQ
    | (cases u <;> first
        | exact wpAny_pure hQ
        | (refine wpAny_bind (wpAny_load ho ?_)
           rw [hc, hd]
           show wpAny M A (if (["enumerate", "zip", "dict_itemiterator", "dict_reverseitemiterator", "odict_iterator", "itertools.zip_longest", "itertools.pairwise"].contains n && vs[0]? == some (rawInt _)) = true then _ else _) Q E s
           rw [if_neg (by intro h; rw [hn, Bool.false_and] at h; cases h)]
           exact wpAny_pure hQ))

/-- the list at a, as it stands at each turn (a loop may append to it) -/
def Itl (K : PySem.W.Frag) (a : Addr) : It :=
  ⟨fun i H => ∃ xs x, SqL K H a xs ∧ xs[i]? = some x, fun i H x H' => H' = H ∧ ∀ xs, SqL K H a xs → xs[i]? = some x, fun i H => ∃ xs, SqL K H a xs ∧ xs.length ≤ i⟩
def Itt (K : PySem.W.Frag) (a : Addr) : It :=
  ⟨fun i H => ∃ xs x, SqT K H a xs ∧ xs[i]? = some x, fun i H x H' => H' = H ∧ ∀ xs, SqT K H a xs → xs[i]? = some x, fun i H => ∃ xs, SqT K H a xs ∧ xs.length ≤ i⟩
/-- lo, lo + 1, .. (n of them) -/
def Itr (lo : Int) (n : Nat) : It := ⟨fun i _ => i < n, fun i H x H' => H' = H ∧ x = .int (lo + i), fun i _ => n ≤ i⟩
theorem turn_list {P : Program} {w : World} {K : PySem.W.Frag} {tg : Expr} (a it : Addr) : Turn P w K tg (Itl K a) [it] it (fun i h => h.IsListIter it a i) where
  mem := by simp
  obj := fun i h st b hb => by
    have e : b = it := by simpa using hb
    subst e
    obtain ⟨o, e, c, d⟩ := st
    exact ⟨o, e, fun v z => by rw [d] at z; cases z⟩
  keep := fun i h h' st k => st.at fun o e => k it (by simp) o e
  item := by
    intro X hP hw hK hc i pins s σ H E I hf st hg
    subst hP hw hK
    obtain ⟨xs, x, hq, hx⟩ := hg
    obtain ⟨its, rv, p, hz⟩ := I.list hq
    obtain ⟨u, hu, ru⟩ := rv.get hx
    obtain ⟨f0, f1, f2, f3, f4, f5⟩ := hf it (by simp)
    refine wpAny_pyNext_list_item st p.isList (x := u) (by simpa using hu) fun h' st' sb => ?_
    have I1 : Inv X pins σ H { s with heap := h' } := I.turned (t' := s.toks) (fun b o hb e => (sb.2 b hb).trans e) f0 f1 f3 f4 f5
    obtain ⟨o, e, c, d⟩ := id st'
    exact ⟨u, rfl, go_of (s := { s with heap := h' }) e c d (by decide) ⟨x, H, I1, ru, ⟨rfl, fun ys hy => by rw [I.list_inj hy hq]; exact hx⟩, st', fun b hb => (hf b hb).1⟩⟩
  done := by
    intro X hP hw hK hc i pins s σ H E I hf st hg
    subst hP hw hK
    obtain ⟨xs, hq, hx⟩ := hg
    obtain ⟨its, rv, p, hz⟩ := I.list hq
    obtain ⟨f0, f1, f2, f3, f4, f5⟩ := hf it (by simp)
    have hl := rv.length
    exact wpAny_pyNext_list_end (I.ok.hd hc) st p.isList (by simp; omega) fun h' eb => ⟨rfl, I.turned (t' := s.toks) (fun b o hb e => eb b o hb e) f0 f1 f3 f4 f5⟩
  self := fun _ _ _ _ _ st h => wpAny_pyIter_listiter st h
theorem turn_tuple {P : Program} {w : World} {K : PySem.W.Frag} {tg : Expr} (a it : Addr) : Turn P w K tg (Itt K a) [it] it (fun i h => h.IsTupleIter it a i) where
  mem := by simp
  obj := fun i h st b hb => by
    have e : b = it := by simpa using hb
    subst e
    obtain ⟨o, e, c, d⟩ := st
    exact ⟨o, e, fun v z => by rw [d] at z; cases z⟩
  keep := fun i h h' st k => st.at fun o e => k it (by simp) o e
  item := by
    intro X hP hw hK hc i pins s σ H E I hf st hg
    subst hP hw hK
    obtain ⟨xs, x, hq, hx⟩ := hg
    obtain ⟨its, rv, p, hz⟩ := I.tuple hq
    obtain ⟨u, hu, ru⟩ := rv.get hx
    obtain ⟨f0, f1, f2, f3, f4, f5⟩ := hf it (by simp)
    refine wpAny_pyNext_tuple_item st (show s.heap.IsTuple a its.toArray from p) (x := u) (by simpa using hu) fun h' st' sb => ?_
    have I1 : Inv X pins σ H { s with heap := h' } := I.turned (t' := s.toks) (fun b o hb e => (sb.2 b hb).trans e) f0 f1 f3 f4 f5
    obtain ⟨o, e, c, d⟩ := id st'
    exact ⟨u, rfl, go_of (s := { s with heap := h' }) e c d (by decide) ⟨x, H, I1, ru, ⟨rfl, fun ys hy => by rw [I.tuple_inj hy hq]; exact hx⟩, st', fun b hb => (hf b hb).1⟩⟩
  done := by
    intro X hP hw hK hc i pins s σ H E I hf st hg
    subst hP hw hK
    obtain ⟨xs, hq, hx⟩ := hg
    obtain ⟨its, rv, p, hz⟩ := I.tuple hq
    obtain ⟨f0, f1, f2, f3, f4, f5⟩ := hf it (by simp)
    have hl := rv.length
    exact wpAny_pyNext_tuple_end (I.ok.hd hc) st (show s.heap.IsTuple a its.toArray from p) (by simp; omega) fun h' eb => ⟨rfl, I.turned (t' := s.toks) (fun b o hb e => eb b o hb e) f0 f1 f3 f4 f5⟩
  self := fun _ _ _ _ _ st h => wpAny_pyIter_tupleiter st h
theorem turn_range {P : Program} {w : World} {K : PySem.W.Frag} {tg : Expr} (it : Addr) (lo : Int) (n : Nat) : Turn P w K tg (Itr lo n) [it] it (fun i h => IsRangeIter h it (lo + (i : Nat) * 1) ((n : Int) - (i : Nat)) 1) where
  mem := by simp
  obj := fun i h st b hb => by
    have e : b = it := by simpa using hb
    subst e
    exact ⟨_, st, fun v z => by
      have z' : Data.fields _ = Data.cell v := z
      cases z'⟩
  keep := fun i h h' st k => k it (by simp) _ st
  item := by
    intro X hP hw hK hc i pins s σ H E I hf st hg
    subst hP hw hK
    obtain ⟨f0, f1, f2, f3, f4, f5⟩ := hf it (by simp)
    have W := Walks.range (prog := X.prog) (w := X.w) (I.ok.hd hc) it lo 1 n
    refine W.item i s _ _ hg st fun v h' tk hv st' kk => ?_
    obtain ⟨t, rfl⟩ := hv
    have I1 : Inv X pins σ H { s with heap := h', toks := tk } := I.turned (fun b o hb e => kk b o (by simpa using hb) e) f0 f1 f3 f4 f5
    refine ⟨_, rfl, go_of (s := { s with heap := h', toks := tk }) (n := "range_iterator") st' rfl rfl (by decide) ⟨.int (lo + i), H, I1, ⟨t, ?_⟩, ⟨rfl, rfl⟩, st', fun b hb => (hf b hb).1⟩⟩
    rw [Int.mul_one]
  done := by
    intro X hP hw hK hc i pins s σ H E I hf st hg
    subst hP hw hK
    obtain ⟨f0, f1, f2, f3, f4, f5⟩ := hf it (by simp)
    exact wpAny_pyNext_range_end (I.ok.hd hc) st (by have : n ≤ i := hg; omega) fun h' eb => ⟨rfl, I.turned (t' := s.toks) (fun b o hb e => eb b o hb e) f0 f1 f3 f4 f5⟩
  self := fun _ _ _ _ _ st h => wpAny_pyIter_rangeiter st h
end L2

namespace L2
open PySem PySem.Spec PyProof.Rows
section
variable {X : Cx} {tg : Expr}
def iList (K : PySem.W.Frag) (tl : TE) : TI := fun σ H R => tl σ H fun x H1 => ∃ a, x = .ref a ∧ (∃ xs, SqL K H1 a xs) ∧ R (Itl K a) H1
def iTup (K : PySem.W.Frag) (tl : TE) : TI := fun σ H R => tl σ H fun x H1 => ∃ a, x = .ref a ∧ (∃ xs, SqT K H1 a xs) ∧ R (Itt K a) H1
theorem pi_list {l : Expr} {tl : TE} (hl : PE X l tl) : PI X tg l (iList X.K tl) := by
  intro pins s σ H R I h
  refine thn (hl pins s σ H _ I h) fun v s1 ⟨x, H1, I1, r1, q1⟩ => ?_
  obtain ⟨a, e, ⟨xs, hq⟩, q⟩ := q1
  subst e
  cases r1
  obtain ⟨its, rv, p, hz⟩ := I1.list hq
  refine wpAny_pyIter_list p.isList ?_
  refine ⟨s1.heap.objs.size, [s1.heap.objs.size], _, _, H1, rfl, I1.kept (t' := s1.toks) fun b o e => Heap.get?_push_of_some _ e, turn_list a _, ⟨_, Heap.get?_push_size _ rfl, rfl, rfl⟩, fun b hb => ?_, q⟩
  have e : b = s1.heap.objs.size := by simpa using hb
  subst e
  exact I1.fpOk (Nat.le_refl _) (I1.hok.fresh (Nat.le_refl _))
theorem pi_tup {l : Expr} {tl : TE} (hl : PE X l tl) : PI X tg l (iTup X.K tl) := by
  intro pins s σ H R I h
  refine thn (hl pins s σ H _ I h) fun v s1 ⟨x, H1, I1, r1, q1⟩ => ?_
  obtain ⟨a, e, ⟨xs, hq⟩, q⟩ := q1
  subst e
  cases r1
  obtain ⟨its, rv, p, hz⟩ := I1.tuple hq
  refine wpAny_pyIter_tuple (show s1.heap.IsTuple a its.toArray from p) ?_
  refine ⟨s1.heap.objs.size, [s1.heap.objs.size], _, _, H1, rfl, I1.kept (t' := s1.toks) fun b o e => Heap.get?_push_of_some _ e, turn_tuple a _, ⟨_, Heap.get?_push_size _ rfl, rfl, rfl⟩, fun b hb => ?_, q⟩
  have e : b = s1.heap.objs.size := by simpa using hb
  subst e
  exact I1.fpOk (Nat.le_refl _) (I1.hok.fresh (Nat.le_refl _))
/-- a range object just made, walked -/
theorem range_it {pins : List (Addr × Obj)} {σ : St} {H : Hp} {s : Shared} {R : It → Hp → Prop} {E : Value → Shared → Prop} {lo hi : Int} {t u v : Tok} {tk : Nat} (I : Inv X pins σ H s) (h1 : -(2 ^ 62) ≤ lo) (h2 : lo < 2 ^ 62) (h3 : -(2 ^ 62) ≤ hi) (h4 : hi < 2 ^ 62)
    (q : R (Itr lo (hi - lo).toNat) H) : wpAny (model X.prog X.w) X.A (pyIter (.ref s.heap.objs.size)) (PIE X pins σ tg R) E { s with heap := s.heap.push { cls := .type "range", data := .fields #[.int lo t, .int hi u, .int 1 v] }, toks := tk } := by
  refine wpAny_pyIter_range (IsRange.new ..) (small_one h1 h2 h3 h4) ?_
  have I1 : Inv X pins σ H { s with heap := s.heap.push { cls := .type "range", data := .fields #[.int lo t, .int hi u, .int 1 v] }, toks := tk } := I.kept fun b o e => Heap.get?_push_of_some _ e
  refine ⟨(s.heap.push { cls := .type "range", data := .fields #[.int lo t, .int hi u, .int 1 v] }).objs.size, [(s.heap.push { cls := .type "range", data := .fields #[.int lo t, .int hi u, .int 1 v] }).objs.size], _, _, H, rfl,
    I1.kept (t' := tk) fun b o e => Heap.get?_push_of_some _ e, turn_range _ lo (hi - lo).toNat, ?_, fun b hb => ?_, q⟩
  · have e1 : lo + ((0 : Nat) : Int) * 1 = lo := by simp
    have e2 : (((hi - lo).toNat : Nat) : Int) - ((0 : Nat) : Int) = Builtin.Range.rangeSize lo hi 1 := by rw [rangeSize_one]; split <;> omega
    show IsRangeIter _ _ (lo + ((0 : Nat) : Int) * 1) ((((hi - lo).toNat : Nat) : Int) - ((0 : Nat) : Int)) 1
    rw [e1, e2]
    exact Heap.get?_push_size _ rfl
  · have e : b = (s.heap.push { cls := .type "range", data := .fields #[.int lo t, .int hi u, .int 1 v] }).objs.size := by simpa using hb
    subst e
    exact I1.fpOk (Nat.le_refl _) (I1.hok.fresh (Nat.le_refl _))
def iRng1 (ta : TA) : TI := fun σ H R => ta σ H fun vs H1 => ∃ j : Int, vs = [.int j] ∧ -(2 ^ 62) ≤ j ∧ j < 2 ^ 62 ∧ R (Itr 0 j.toNat) H1
theorem pi_range1 {a : Expr} {ta : TA} {p pos : Pos} (hg : Gl X "range") (hm : X.mg "range" = none) (ha : PA X [a] ta) (hs : starEach [a] X.env = [(false, eval a X.env)] := by rfl) : PI X tg (.Call (.Name "range" p) [a] [] pos) (iRng1 ta) := by
  intro pins s σ H R I h
  refine Call_ (ld_blt I hg hm boot_range (PyProof.Rows.callWith_type1 (thn (ha pos pins s σ H _ I h) fun us s1 ⟨vs, H1, I1, r1, q1⟩ => ?_) hs rfl))
  obtain ⟨j, e, q1, q2, q⟩ := q1
  subst e
  cases r1 with
  | cons r rr =>
    cases rr
    obtain ⟨t, rfl⟩ := r
    exact call_range_1 (range_it I1 (by omega) (by omega) q1 q2 (by simpa using q))
/-! ### for -/
/-- W: the invariant by the turn and a measure; N: what the body is to reach -/
def tFor (wi : TI) (g : TG) (tb : TS) : TS := fun D σ H => wi σ H fun J H1 => ∃ W : Nat → Nat → St → Hp → Prop, (∃ m, W 0 m σ H1) ∧ ∀ i m σ H, W i m σ H →
  (J.stop i H ∧ D.nx σ H) ∨ (J.go i H ∧ ∃ N : St → Hp → Prop, (∀ σ' H', N σ' H' → ∃ m', m' < m ∧ W (i + 1) m' σ' H') ∧ ∀ x H', J.yld i H x H' → g x σ H' fun σ2 H2 => tb { D with nx := N, ct := N, bk := D.nx } σ2 H2)
/-- the records at fp as they stand -/
def pinsAt (fp : List Addr) (h : Heap) : List (Addr × Obj) := fp.filterMap fun b => (h.get? b).map fun o => (b, o)
theorem mem_pinsAt {fp : List Addr} {h : Heap} {b : Addr} {o : Obj} (hb : b ∈ fp) (e : h.get? b = some o) : (b, o) ∈ pinsAt fp h := List.mem_filterMap.mpr ⟨b, hb, by rw [e]; rfl⟩
theorem of_pinsAt {fp : List Addr} {h : Heap} {p : Addr × Obj} (hp : p ∈ pinsAt fp h) : p.1 ∈ fp ∧ h.get? p.1 = some p.2 := by
  obtain ⟨b, hb, e⟩ := List.mem_filterMap.mp hp
  cases q : h.get? b with
  | none => rw [q] at e; cases e
  | some o =>
    rw [q] at e
    have e' : (b, o) = p := Option.some.inj e
    subst e'
    exact ⟨hb, q⟩
theorem Inv.pinned {pins : List (Addr × Obj)} {σ : St} {H : Hp} {s : Shared} {fp : List Addr} (I : Inv X pins σ H s) (hf : ∀ b ∈ fp, FpOk X pins H b) (ho : ∀ b ∈ fp, ∃ o, s.heap.get? b = some o ∧ ∀ v, o.data ≠ .cell v) : Inv X (pins ++ pinsAt fp s.heap) σ H s :=
  I.pins_of fun p hp => (List.mem_append.mp hp).elim (fun z => I.pin p (List.mem_append_right _ z)) fun z => by
    obtain ⟨hb, e⟩ := of_pinsAt z
    obtain ⟨f0, f1, f2, _⟩ := hf p.1 hb
    obtain ⟨o, e', d⟩ := ho p.1 hb
    rw [e] at e'; cases e'
    exact ⟨e, f0, f1, f2, d⟩
theorem Inv.unpinned {pins pl : List (Addr × Obj)} {σ : St} {H : Hp} {s : Shared} (I : Inv X (pins ++ pl) σ H s) : Inv X pins σ H s := I.pins_of fun p hp => I.pin p (List.mem_append_right _ (List.mem_append_left _ hp))
theorem ps_for {iter : Expr} {body : List Stmt} {wi : TI} {g : TG} {tb : TS} {pos : Pos} (hp : PassesOwn (model X.prog X.w) X.A X.env X.xe) (hc : X.calm = true) (hi : PI X tg iter wi) (hg : PG X tg g) (hb : PSs X body tb)
    (hs : ∀ x, foldedSetIterable iter X.env x = pure x := by intro _; rfl) : PS X (.For tg iter body [] pos) (tFor wi g tb) := by
  intro pins s σ H D I h
  refine wpAny_For (thn (hi pins s σ H _ I h) fun v s1 h1 => thn h1 fun itv s2 h2 => ?_) hs
  obtain ⟨it, fp, tn, J, H2, e, I2, T, st2, f2, W, ⟨m0, w0⟩, turn⟩ := h2
  subst e
  -- what stays true of the iterator's objects through the loop
  have stat : ∀ {H' : Hp}, (∀ b ∈ fp, H' b = none) → ∀ b ∈ fp, FpOk X pins H' b := fun hn b hb => ⟨hn b hb, (f2 b hb).2⟩
  refine codeAny_forLoop_any (fun n s' => ∃ i σ' H', Inv X pins σ' H' s' ∧ tn i s'.heap ∧ (∀ b ∈ fp, H' b = none) ∧ W i n σ' H') ?_ m0 ⟨0, σ, H2, I2, st2, fun b hb => (f2 b hb).1, w0⟩
  rintro n s3 ⟨i, σ3, H3, I3, st3, fr3, w3⟩
  rcases turn i n σ3 H3 w3 with ⟨stop, qn⟩ | ⟨go, N, hN, step⟩
  · refine wpAny_passesOwn hp (thn (T.done X rfl rfl rfl hc i pins s3 σ3 H3 X.xe I3 (stat fr3) st3 stop) fun r s4 ⟨hr, I4⟩ => ?_)
    subst hr
    exact wpAny_execs_nil ⟨σ3, H3, I4, qn⟩
  · refine wpAny_passesOwn hp (thn (T.item X rfl rfl rfl hc i pins s3 σ3 H3 X.xe I3 (stat fr3) st3 go) fun r s4 ⟨u, hr, h4⟩ => ?_)
    subst hr
    refine wpAny_passesOwn hp (thn h4 fun _ s5 ⟨x, H5, I5, r5, y5, st5, fr5⟩ => ?_)
    have I5' := I5.pinned (stat fr5) (T.obj _ _ st5)
    refine wpAny_passesOwn hp (thn (hg _ s5 σ3 H5 x u _ I5' r5 (step x H5 y5)) fun _ s6 ⟨σ6, H6, I6, q6⟩ => ?_)
    refine wpAny_passesOwn hp (thn (hb _ s6 σ6 H6 _ I6 q6) fun f s7 q7 => ?_)
    have again : ∀ {σ7 : St} {H7 : Hp}, Inv X (pins ++ pinsAt fp s5.heap) σ7 H7 s7 → N σ7 H7 → ∃ m, m < n ∧ ∃ i σ' H', Inv X pins σ' H' s7 ∧ tn i s7.heap ∧ (∀ b ∈ fp, H' b = none) ∧ W i m σ' H' := fun {σ7 H7} I7 n7 => by
      obtain ⟨m', hm, w7⟩ := hN σ7 H7 n7
      refine ⟨m', hm, i + 1, σ7, H7, I7.unpinned, T.keep _ _ _ st5 fun b hb o e => (I7.pin (b, o) (List.mem_append_right _ (List.mem_append_right _ (mem_pinsAt hb e)))).1, fun b hb => ?_, w7⟩
      obtain ⟨o, e, d⟩ := T.obj _ _ st5 b hb
      exact (I7.pin (b, o) (List.mem_append_right _ (List.mem_append_right _ (mem_pinsAt hb e)))).2.1
    cases f with
    | next => obtain ⟨σ7, H7, I7, n7⟩ := q7; exact again I7 n7
    | cont => obtain ⟨σ7, H7, I7, n7⟩ := q7; exact again I7 n7
    | brk => obtain ⟨σ7, H7, I7, q7⟩ := q7; exact ⟨σ7, H7, I7.unpinned, q7⟩
    | ret v => obtain ⟨x7, σ7, H7, I7, r7, q7⟩ := q7; exact ⟨x7, σ7, H7, I7.unpinned, r7, q7⟩
end

/-! ### the forms one uses -/
end L2

namespace L2
open PySem PySem.Spec PyProof.Rows

abbrev R2 := V → V → Hp → VK → Prop
/-- a two-place operation on values: f is binaryOp op, inplaceOp op or compareOp op -/
def OpR (X : Cx) (f : Value → Value → Sem Value) (r : R2) : Prop :=
  ∀ (pins : List (Addr × Obj)) (s : Shared) (σ : St) (H : Hp) (x y : V) (v u : Value) (Q : VK), Inv X pins σ H s → RelV x v → RelV y u → r x y H Q →
    wpAny (model X.prog X.w) X.A (f v u) (EP X pins σ Q) X.xe s
/-- a one-place operation -/
def UnR (X : Cx) (f : Value → Sem Value) (r : V → Hp → VK → Prop) : Prop :=
  ∀ (pins : List (Addr × Obj)) (s : Shared) (σ : St) (H : Hp) (x : V) (v : Value) (Q : VK), Inv X pins σ H s → RelV x v → r x H Q →
    wpAny (model X.prog X.w) X.A (f v) (EP X pins σ Q) X.xe s
/-- a call of a value that is known (a builtin, a type) with values -/
def CallR (X : Cx) (f : Value) (r : List V → Hp → VK → Prop) : Prop :=
  ∀ (pins : List (Addr × Obj)) (s : Shared) (σ : St) (H : Hp) (xs : List V) (us : List Value) (Q : VK), Inv X pins σ H s → Vals xs us → r xs H Q →
    wpAny (model X.prog X.w) X.A (call f us) (EP X pins σ Q) X.xe s
/-- a value's truth -/
def TruR (X : Cx) (r : V → Hp → (Bool → Hp → Prop) → Prop) : Prop :=
  ∀ (pins : List (Addr × Obj)) (s : Shared) (σ : St) (H : Hp) (x : V) (v : Value) (Q : Bool → Hp → Prop), Inv X pins σ H s → RelV x v → r x H Q →
    wpAny (model X.prog X.w) X.A (truthy v) (TP X pins σ Q) X.xe s

def tOp (r : R2) (ta tb : TE) : TE := fun σ H Q => ta σ H fun x H1 => tb σ H1 fun y H2 => r x y H2 Q
def tUn (r : V → Hp → VK → Prop) (ta : TE) : TE := fun σ H Q => ta σ H fun x H1 => r x H1 Q
/-- ints in, under C, and a value out -/
def rI (C : Int → Int → Prop) (g : Int → Int → V) : R2 := fun x y H Q => ∃ i j, x = .int i ∧ y = .int j ∧ C i j ∧ Q (g i j) H
def rI0 (g : Int → Int → V) : R2 := fun x y H Q => ∃ i j, x = .int i ∧ y = .int j ∧ Q (g i j) H
def rU (g : Int → V) : V → Hp → VK → Prop := fun x H Q => ∃ i, x = .int i ∧ Q (g i) H

section
variable {X : Cx} {a b c : Expr} {ta tb tc : TE} {pos : Pos}

theorem binT (ha : PE X a ta) (hb : PE X b tb) {pins : List (Addr × Obj)} {s : Shared} {σ : St} {H : Hp} {R : V → V → Hp → Prop} (I : Inv X pins σ H s)
    (h : ta σ H fun x H1 => tb σ H1 fun y H2 => R x y H2) {Q : Value → Shared → Prop} {f : Value → Value → Sem Value}
    (hf : ∀ v u s2 x y H2, Inv X pins σ H2 s2 → RelV x v → RelV y u → R x y H2 → wpAny (model X.prog X.w) X.A (f v u) Q X.xe s2) :
    wpAny (model X.prog X.w) X.A (eval a X.env) (fun v s₁ => wpAny (model X.prog X.w) X.A (eval b X.env) (fun u s₂ => wpAny (model X.prog X.w) X.A (f v u) Q X.xe s₂) X.xe s₁) X.xe s := by
  refine thn (ha pins s σ H _ I h) fun v s1 ⟨x, H1, I1, r1, q1⟩ => ?_
  refine thn (hb pins s1 σ H1 _ I1 q1) fun u s2 ⟨y, H2, I2, r2, q2⟩ => ?_
  exact hf v u s2 x y H2 I2 r1 r2 q2

theorem pe_op {op : Operator} {r : R2} (ho : OpR X (binaryOp op) r) (ha : PE X a ta) (hb : PE X b tb) : PE X (.BinOp a op b pos) (tOp r ta tb) := by
  intro pins s σ H Q I h
  exact wpAny_BinOp (binT ha hb I h fun v u s2 x y H2 I2 rx ry q => ho pins s2 σ H2 x y v u Q I2 rx ry q)
theorem pe_un {op : UnaryOp} {r : V → Hp → VK → Prop} (ho : UnR X (unaryOp op) r) (ha : PE X a ta) : PE X (.UnaryOp op a pos) (tUn r ta) := by
  intro pins s σ H Q I h
  exact UnaryOp_ (thn (ha pins s σ H _ I h) fun v s1 ⟨x, H1, I1, r1, q1⟩ => ho pins s1 σ H1 x v Q I1 r1 q1)
/-! ### ints -/
theorem opI {f : Value → Value → Sem Value} {C : Int → Int → Prop} {g : Int → Int → Int}
    (rule : ∀ (i j : Int) (t u : Tok) (s : Shared) (Q : Value → Shared → Prop) (E : Value → Shared → Prop), C i j → Q (.int (g i j) s.toks) { s with toks := s.toks + 1 } → wpAny (model X.prog X.w) X.A (f (.int i t) (.int j u)) Q E s) :
    OpR X f (rI C fun i j => .int (g i j)) := by
  intro pins s σ H x y v u Q I rx ry h
  obtain ⟨i, j, rfl, rfl, hc, q⟩ := h
  obtain ⟨t, rfl⟩ := rx
  obtain ⟨t', rfl⟩ := ry
  exact rule i j t t' s _ _ hc ⟨.int (g i j), H, I.tok _, ⟨_, rfl⟩, q⟩
theorem opI0 {f : Value → Value → Sem Value} {g : Int → Int → Int}
    (rule : ∀ (i j : Int) (t u : Tok) (s : Shared) (Q : Value → Shared → Prop) (E : Value → Shared → Prop), Q (.int (g i j) s.toks) { s with toks := s.toks + 1 } → wpAny (model X.prog X.w) X.A (f (.int i t) (.int j u)) Q E s) :
    OpR X f (rI0 fun i j => .int (g i j)) := by
  intro pins s σ H x y v u Q I rx ry h
  obtain ⟨i, j, rfl, rfl, q⟩ := h
  obtain ⟨t, rfl⟩ := rx
  obtain ⟨t', rfl⟩ := ry
  exact rule i j t t' s _ _ ⟨.int (g i j), H, I.tok _, ⟨_, rfl⟩, q⟩
theorem opB0 {f : Value → Value → Sem Value} {g : Int → Int → Bool}
    (rule : ∀ (i j : Int) (t u : Tok) (s : Shared) (Q : Value → Shared → Prop) (E : Value → Shared → Prop), Q (.bool (g i j)) s → wpAny (model X.prog X.w) X.A (f (.int i t) (.int j u)) Q E s) :
    OpR X f (rI0 fun i j => .bl (g i j)) := by
  intro pins s σ H x y v u Q I rx ry h
  obtain ⟨i, j, rfl, rfl, q⟩ := h
  obtain ⟨t, rfl⟩ := rx
  obtain ⟨t', rfl⟩ := ry
  exact rule i j t t' s _ _ ⟨.bl (g i j), H, I, rfl, q⟩

def CPow (i j : Int) : Prop := 0 ≤ j ∧ j ≤ 1000000 ∧ i.natAbs < 2 ^ 64
theorem op_add : OpR X (binaryOp .Add) (rI0 fun i j => .int (i + j)) := opI0 fun _ _ _ _ _ _ _ q => add_int q
theorem op_sub : OpR X (binaryOp .Sub) (rI0 fun i j => .int (i - j)) := opI0 fun _ _ _ _ _ _ _ q => sub_int q
/-- % by a positive divisor of any size -/
theorem op_mod : OpR X (binaryOp .Mod) (rI (fun _ j => 0 < j) fun i j => .int (i % j)) := opI fun i j _ _ _ _ _ hc q => by
  have h1 : (0 : Int) < j := hc
  exact mod_int' (by omega) (by rw [Int.fmod_eq_emod_of_nonneg i (by omega)]; exact q)
theorem op_pow : OpR X (binaryOp .Pow) (rI CPow fun i j => .int (i ^ j.toNat)) := opI fun _ _ _ _ _ _ _ hc q => pow_int_small hc.1 hc.2.1 hc.2.2 q
theorem unI {f : Value → Sem Value} {g : Int → Int}
    (rule : ∀ (i : Int) (t : Tok) (s : Shared) (Q : Value → Shared → Prop) (E : Value → Shared → Prop), Q (.int (g i) s.toks) { s with toks := s.toks + 1 } → wpAny (model X.prog X.w) X.A (f (.int i t)) Q E s) :
    UnR X f (rU fun i => .int (g i)) := by
  intro pins s σ H x v Q I rx h
  obtain ⟨i, rfl, q⟩ := h
  obtain ⟨t, rfl⟩ := rx
  exact rule i t s _ _ ⟨.int (g i), H, I.tok _, ⟨_, rfl⟩, q⟩
theorem un_neg : UnR X (unaryOp .USub) (rU fun i => .int (-i)) := unI fun _ _ _ _ _ q => neg_int q
/-! ### bools among ints: n += (a < b) -/
end

/-! ### comparisons -/
section
variable {X : Cx} {a b c : Expr} {ta tb tc : TE} {pos : Pos}
theorem fin_bl {pins : List (Addr × Obj)} {σ : St} {H : Hp} {s : Shared} {Q : VK} {k k' : Bool} (I : Inv X pins σ H s) (q : Q (.bl k) H) (e : k = k') : EP X pins σ Q (.bool k') s := by
  subst e
  exact ⟨.bl k, H, I, rfl, q⟩
theorem op_lt : OpR X (compareOp .Lt) (rI0 fun i j => .bl (decide (i < j))) := opB0 fun _ _ _ _ _ _ _ q => lt_int q
theorem op_le : OpR X (compareOp .LtE) (rI0 fun i j => .bl (decide (i ≤ j))) := opB0 fun _ _ _ _ _ _ _ q => le_int q
theorem op_gt : OpR X (compareOp .Gt) (rI0 fun i j => .bl (decide (j < i))) := opB0 fun _ _ _ _ _ _ _ q => gt_int q
theorem op_ge : OpR X (compareOp .GtE) (rI0 fun i j => .bl (decide (j ≤ i))) := opB0 fun _ _ _ _ _ _ _ q => ge_int q
/-- the one string within the other -/
theorem op_in_str : OpR X (compareOp .In) (fun x y H Q => ∃ i j, x = .str i ∧ y = .str j ∧ Q (.bl (!(Builtin.Str.occurrences j i 0 j.length 1).isEmpty)) H) := by
  intro pins s σ H x y v u Q I rx ry h
  obtain ⟨i, j, rfl, rfl, q⟩ := h
  obtain ⟨t, rfl⟩ := rx
  obtain ⟨t', rfl⟩ := ry
  exact in_str (fin_bl I q rfl)

/-- is None, is not None: the right side a value none -/
theorem op_isN : OpR X (compareOp .Is) (fun x y H Q => y = .non ∧ Q (.bl (decide (x = .non))) H) := by
  intro pins s σ H x y v u Q I rx ry h
  obtain ⟨rfl, q⟩ := h
  cases ry
  refine is_none_gen (fin_bl I q ?_)
  cases x <;> first
    | (cases rx; rfl)
    | (obtain ⟨t, rfl⟩ := rx; rfl)
theorem op_notN : OpR X (compareOp .IsNot) (fun x y H Q => y = .non ∧ Q (.bl (!decide (x = .non))) H) := by
  intro pins s σ H x y v u Q I rx ry h
  obtain ⟨rfl, q⟩ := h
  cases ry
  refine isnot_none_gen (fin_bl I q ?_)
  cases x <;> first
    | (cases rx; rfl)
    | (obtain ⟨t, rfl⟩ := rx; rfl)

theorem op_notin_str : OpR X (compareOp .NotIn) (fun x y H Q => ∃ i j, x = .str i ∧ y = .str j ∧ Q (.bl (!(!(Builtin.Str.occurrences j i 0 j.length 1).isEmpty))) H) := by
  intro pins s σ H x y v u Q I rx ry h
  obtain ⟨i, j, rfl, rfl, q⟩ := h
  obtain ⟨t, rfl⟩ := rx
  obtain ⟨t', rfl⟩ := ry
  exact notIn_str (fin_bl I q rfl)
/-- two rules for one operation: by cases -/
theorem OpR.or {f : Value → Value → Sem Value} {r r' : R2} (h : OpR X f r) (h' : OpR X f r') : OpR X f (fun x y H Q => r x y H Q ∨ r' x y H Q) := by
  intro pins s σ H x y v u Q I rx ry q
  rcases q with q | q
  · exact h pins s σ H x y v u Q I rx ry q
  · exact h' pins s σ H x y v u Q I rx ry q

theorem nomark (b : Expr) {op : CmpOp} (h : op ≠ .In := by decide) (h2 : op ≠ .NotIn := by decide) : behindInMarks op b = false := by
  have e1 : (op == CmpOp.In) = false := by cases op <;> first | rfl | exact absurd rfl h
  have e2 : (op == CmpOp.NotIn) = false := by cases op <;> first | rfl | exact absurd rfl h2
  cases b <;> simp [behindInMarks, e1, e2]
/-- a comparison as a value; hm: nomark b, or (for in, not in) by with_unfolding_all rfl -/
theorem pe_cmpR {op : CmpOp} {r : R2} (ho : OpR X (compareOp op) r) (ha : PE X a ta) (hb : PE X b tb) (hm : behindInMarks op b = false) : PE X (.Compare a [op] [b] pos) (tOp r ta tb) := by
  intro pins s σ H Q I h
  exact wpAny_Compare1 (binT ha hb I h fun v u s2 x y H2 I2 rx ry q => ho pins s2 σ H2 x y v u Q I2 rx ry q) hm
/-- a reading of a value as a test -/
def tTest (t : TE) : TT := fun σ H Q => t σ H fun x H' => ∃ k, x = .bl k ∧ Q k H'
theorem pt_cmpR {op : CmpOp} {r : R2} (ho : OpR X (compareOp op) r) (ha : PE X a ta) (hb : PE X b tb) (hm : behindInMarks op b = false) : PT X (.Compare a [op] [b] pos) (tTest (tOp r ta tb)) := by
  intro pins s σ H Q I h
  refine wpAny_isTrue_Compare1 (thn (ha pins s σ H _ I h) fun v s1 ⟨x, H1, I1, r1, q1⟩ => thn (hb pins s1 σ H1 _ I1 q1) fun u s2 ⟨y, H2, I2, r2, q2⟩ =>
    thn (ho pins s2 σ H2 x y v u _ I2 r1 r2 q2) fun c s3 ⟨z, H3, I3, r3, k, e, q3⟩ => ?_) hm
  subst e
  cases r3
  exact wpAny_truthy_bool ⟨H3, I3, q3⟩
/-! ### truth -/
/-- a value's truth by the abstract heap -/
def TruV (K : PySem.W.Frag) (x : V) (H : Hp) (k : Bool) : Prop :=
  match x with
  | .non => k = false
  | .bl b => k = b
  | .int i => k = (i != 0)
  | .str y => y.length ≤ sizeLine ∧ k = ((y.length : Int) != 0)
  | .byt y => y.size ≤ sizeLine ∧ k = ((y.size : Int) != 0)
  | .ref p => (∃ xs, SqL K H p xs ∧ k = !xs.isEmpty) ∨ (∃ xs, SqT K H p xs ∧ k = !xs.isEmpty) ∨ ∃ kvs, H p = some (.dK kvs) ∧ k = !kvs.isEmpty
  | _ => False
theorem isEmpty_kv {κ : Type} {kvs : List (κ × V)} {vs : List (κ × Value)} (r : KV kvs vs) : (!vs.isEmpty) = !kvs.isEmpty := by
  cases r <;> rfl
theorem isEmpty_of {xs : List V} {its : List Value} (r : Vals xs its) : (!its.toArray.isEmpty) = !xs.isEmpty := by
  cases r <;> simp
theorem line63 : (sizeLine : Nat) < 2 ^ 63 := by rw [sizeLine_eq]; decide
theorem tru_ok : TruR X (fun x H Q => ∃ k, TruV X.K x H k ∧ Q k H) := by
  intro pins s σ H x v Q I rx h
  obtain ⟨k, e, q⟩ := h
  have hl := line63
  have hs : sizeLine = 16777216 := sizeLine_eq
  cases x with
  | non =>
    cases rx
    have e' : k = false := e
    subst e'
    exact truthy_none ⟨H, I, q⟩
  | bl b =>
    cases rx
    have e' : k = b := e
    subst e'
    exact wpAny_truthy_bool ⟨H, I, q⟩
  | int i =>
    obtain ⟨t, rfl⟩ := rx
    have e' : k = (i != 0) := e
    subst e'
    exact PySem.P.truthy_int ⟨H, I, q⟩
  | str y =>
    obtain ⟨t, rfl⟩ := rx
    obtain ⟨hy, e'⟩ : y.length ≤ sizeLine ∧ k = ((y.length : Int) != 0) := e
    subst e'
    exact PySem.P.truthy_str (by omega) ⟨H, I.tok _, q⟩
  | byt y =>
    obtain ⟨t, rfl⟩ := rx
    obtain ⟨hy, e'⟩ : y.size ≤ sizeLine ∧ k = ((y.size : Int) != 0) := e
    subst e'
    exact PySem.W.truthy_bytes (by omega) ⟨H, I.tok _, q⟩
  | ref p =>
    cases rx
    have e' : (∃ xs, SqL X.K H p xs ∧ k = !xs.isEmpty) ∨ (∃ xs, SqT X.K H p xs ∧ k = !xs.isEmpty) ∨ ∃ kvs, H p = some (.dK kvs) ∧ k = !kvs.isEmpty := e
    rcases e' with ⟨xs, hx, e'⟩ | ⟨xs, hx, e'⟩ | ⟨kvs, hx, e'⟩
    · subst e'
      obtain ⟨its, r, pl, hz⟩ := I.list hx
      have hlen := r.length
      exact wpAny_truthy_list pl.isList (by simp only [List.size_toArray]; omega) ⟨H, I.tok _, by rw [isEmpty_of r]; exact q⟩
    · subst e'
      obtain ⟨its, r, pl, hz⟩ := I.tuple hx
      have hlen := r.length
      exact truthy_tuple pl (by simp only [List.size_toArray]; omega) ⟨H, I.tok _, by rw [isEmpty_of r]; exact q⟩
    · subst e'
      obtain ⟨hz, hS, vs, r, m⟩ : kvs.length ≤ sizeLine ∧ (p == sysModules) = false ∧ ∃ vs, KV kvs vs ∧ s.heap.DictOf (mixKind X.prog X.w) p vs := I.hok p _ hx
      have hlen : kvs.length = vs.length := Paired.length r
      exact wpAny_truthy_dict hS m (by omega) ⟨H, I.tok _, by rw [isEmpty_kv r]; exact q⟩
  | _ => exact (show False from e).elim
/-- any expression whose test is its value's truth (a name, a call, a subscript, a field ..: he by fun _ => rfl) -/
theorem pt_truth (ha : PE X a ta) (he : ∀ whole, isTrue a X.env whole = (do let v ← whole; standAt a.pos; holding [v] (truthy v))) :
    PT X a (fun σ H Q => ta σ H fun x H' => ∃ k, TruV X.K x H' k ∧ Q k H') := by
  intro pins s σ H Q I h
  exact isTrue_plain (thn (ha pins s σ H _ I h) fun v s1 ⟨x, H1, I1, r1, q1⟩ => tru_ok pins s1 σ H1 x v Q I1 r1 q1) (he _)

/-! ### strs and bytes -/
theorem op_add_str : OpR X (binaryOp .Add) (fun x y H Q => ∃ i j, x = .str i ∧ y = .str j ∧ i.length + j.length ≤ sizeLine ∧ Q (.str (i ++ j)) H) := by
  intro pins s σ H x y v u Q I rx ry h
  obtain ⟨i, j, rfl, rfl, hz, q⟩ := h
  obtain ⟨t, rfl⟩ := rx
  obtain ⟨t', rfl⟩ := ry
  exact add_str (fun t' tk => ⟨.str (i ++ j), H, I.tok _, ⟨_, rfl⟩, q⟩) hz
/-! ### scalar builtins, by CallR -/
theorem vals1 {x : V} {us : List Value} (r : Vals [x] us) : ∃ u, us = [u] ∧ RelV x u := by
  cases r with
  | cons r1 r2 => cases r2; exact ⟨_, rfl, r1⟩
theorem vals2 {x y : V} {us : List Value} (r : Vals [x, y] us) : ∃ u w', us = [u, w'] ∧ RelV x u ∧ RelV y w' := by
  cases r with
  | cons r1 r2 =>
    cases r2 with
    | cons r3 r4 => cases r4; exact ⟨_, _, rfl, r1, r3⟩
theorem call_int1 : CallR X (.type "int") (fun xs H Q => (∃ i, xs = [.int i] ∧ Q (.int i) H) ∨ ∃ k, xs = [.bl k] ∧ Q (.int (if k then 1 else 0)) H) := by
  intro pins s σ H xs us Q I r h
  rcases h with ⟨i, rfl, q⟩ | ⟨k, rfl, q⟩
  · obtain ⟨u, rfl, t, rfl⟩ := vals1 r
    exact call_int_int ⟨.int i, H, I, ⟨_, rfl⟩, q⟩
  · obtain ⟨u, rfl, r1⟩ := vals1 r
    cases r1
    exact call_int_bool ⟨.int (if k then 1 else 0), H, I.tok _, ⟨_, rfl⟩, q⟩
theorem call_str_int : CallR X (.type "str") (fun xs H Q => ∃ i, xs = [.int i] ∧ i.natAbs.log2 < 1920 ∧ Q (.str (toString i)) H) := by
  intro pins s σ H xs us Q I r h
  obtain ⟨i, rfl, hz, q⟩ := h
  obtain ⟨u, rfl, t, rfl⟩ := vals1 r
  exact PySem.P.str_of_int hz ⟨.str _, H, I.tok _, ⟨_, rfl⟩, q⟩
/-- len of a str, a bytes, a list, a tuple -/
def LenV (K : PySem.W.Frag) (x : V) (H : Hp) (n : Nat) : Prop :=
  match x with
  | .str y => y.length ≤ sizeLine ∧ n = y.length
  | .byt y => y.size ≤ sizeLine ∧ n = y.size
  | .ref p => (∃ xs, SqL K H p xs ∧ n = xs.length) ∨ ∃ xs, SqT K H p xs ∧ n = xs.length
  | _ => False
theorem call_len : CallR X (.builtin "len") (fun xs H Q => ∃ x n, xs = [x] ∧ LenV X.K x H n ∧ Q (.int n) H) := by
  intro pins s σ H xs us Q I r h
  obtain ⟨x, n, rfl, e, q⟩ := h
  obtain ⟨u, rfl, rx⟩ := vals1 r
  have hl := line63
  have hs : sizeLine = 16777216 := sizeLine_eq
  cases x with
  | str y =>
    obtain ⟨t, rfl⟩ := rx
    obtain ⟨hy, e'⟩ : y.length ≤ sizeLine ∧ n = y.length := e
    subst e'
    exact len_str (by omega) ⟨.int _, H, I.tok _, ⟨_, rfl⟩, q⟩
  | byt y =>
    obtain ⟨t, rfl⟩ := rx
    obtain ⟨hy, e'⟩ : y.size ≤ sizeLine ∧ n = y.size := e
    subst e'
    exact PySem.W.len_bytes (by omega) ⟨.int _, H, I.tok _, ⟨_, rfl⟩, q⟩
  | ref p =>
    cases rx
    have e' : (∃ xs, SqL X.K H p xs ∧ n = xs.length) ∨ ∃ xs, SqT X.K H p xs ∧ n = xs.length := e
    rcases e' with ⟨xs, hx, e'⟩ | ⟨xs, hx, e'⟩
    · subst e'
      obtain ⟨its, r', pl, hz⟩ := I.list hx
      have hlen := r'.length
      exact Calls.call_len_list pl.isList (by simp only [List.size_toArray]; omega) ⟨.int xs.length, H, I.tok _, ⟨_, by simp only [List.size_toArray]; rw [hlen]⟩, q⟩
    · subst e'
      obtain ⟨its, r', pl, hz⟩ := I.tuple hx
      have hlen := r'.length
      exact len_tuple pl (by simp only [List.size_toArray]; omega) ⟨.int xs.length, H, I.tok _, ⟨_, by simp only [List.size_toArray]; rw [hlen]⟩, q⟩
  | _ => exact (show False from e).elim
end
end L2

namespace L2
open PySem PySem.Spec PyProof.Rows

/-! ### an instance, its attributes a map -/
structure ObjM (h : Heap) (x dx C : Addr) (mA : Str → Option Value) : Prop where
  obj : h.get? x = some (PySem.W.instObj C dx)
  ns : h.Ns1 dx mA
  ne : dx ≠ x

theorem lookIn_ns {h : Heap} {dx : Addr} {mA : Str → Option Value} (n : h.Ns1 dx mA) : ∃ od, h.get? dx = some od ∧ ∀ name, PySem.W.lookIn name od = some (mA name) := by
  obtain ⟨o, es, ep, ho, hd, hk, _, hm⟩ := n
  refine ⟨o, ho, fun name => ?_⟩
  have e := hm name
  unfold nsFind findBy at e
  rw [← Array.find?_toList] at e
  unfold PySem.W.lookIn
  rw [hd]
  dsimp only
  split
  · rename_i y q
    rw [q] at e
    exact congrArg some e
  · rename_i q
    rw [q] at e
    have a : es.toList.any (·.refKey) = false := by
      rw [List.any_eq_false]
      intro y hy
      obtain ⟨z, t, hkey⟩ := hk y (Array.mem_toList_iff.mp hy)
      simp [DictEntry.refKey, hkey]
    have a' : ¬ es.toList.any (·.refKey) = true := by rw [a]; exact Bool.false_ne_true
    rw [if_neg a']
    exact congrArg some e

theorem ObjM.look {h : Heap} {x dx C : Addr} {mA : Str → Option Value} (I : ObjM h x dx C mA) : ∃ od, PySem.W.InstAt h x (PySem.W.instObj C dx) C (some od) ∧ ∀ name, PySem.W.lookIn name od = some (mA name) :=
  let ⟨od, ho, hl⟩ := lookIn_ns I.ns
  ⟨od, ⟨I.obj, rfl, rfl, ho⟩, hl⟩

section
variable {prog : Program} {w : World} {A : Around} {E : Value → Shared → Prop} {s : Shared} {K : PySem.W.Frag} {x dx C f : Addr} {mA : Str → Option Value} {name : Str} {v : Value}

end

/-! ### the attributes as a list of pairs -/
theorem RelO.some_of {v : V} {o : Option Value} (r : RelO (some v) o) : ∃ u, o = some u ∧ RelV v u := by
  cases o with
  | none => exact (show False from r).elim
  | some u => exact ⟨u, rfl, r⟩
theorem RelO.none_of {o : Option Value} (r : RelO none o) : o = none := by
  cases o with
  | none => rfl
  | some u => exact (show False from r).elim
section
variable {P : Program} {w : World} {H H' : Hp} {h h' : Heap} {a C dx : Addr} {fs fs' : List (Str × V)}
end

/-! ### what of the text a class must have -/
structure Cls (K : PySem.W.Frag) (C : Addr) : Prop where
  pg : PySem.W.plainGet K C Str.empty = true
  hd : PySem.W.hasDictIn K C = true
  po : PySem.W.plainOver K C = true
  sa : PySem.W.findIn K (.ref C) "__setattr__" = some (some (.builtin "object.__setattr__"))
/-- no class of it has the name -/
def NoAttr (K : PySem.W.Frag) (C : Addr) (f : Str) : Prop := PySem.W.findIn K (.ref C) f = some none
/-- a method: a plain def of the class or of one above it -/
structure Meth (K : PySem.W.Frag) (C : Addr) (m : Str) (f : Addr) : Prop where
  at_ : PySem.W.findIn K (.ref C) m = some (some (.ref f))
  fn : PySem.W.isFn K (.ref f) = true
  kp : PySem.W.keepIn K (.ref f) = true

section
variable {X : Cx} {pins : List (Addr × Obj)} {σ : St} {H : Hp} {s : Shared} {a C dx : Addr} {fs : List (Str × V)} {f : Str} {v : V} {A : Around} {E : Value → Shared → Prop}

/-- a new instance, tracked, without attributes -/
theorem Inv.made (I : Inv X pins σ H s) : Inv X pins σ (upd (upd H s.heap.objs.size (.own (s.heap.objs.size + 1))) (s.heap.objs.size + 1) (.ins C s.heap.objs.size []))
    { s with heap := (s.heap.push PySem.W.emptyDict).push (PySem.W.instObj C s.heap.objs.size) } := by
  have e1 : (s.heap.push PySem.W.emptyDict).get? s.heap.objs.size = some PySem.W.emptyDict := Heap.get?_push_size s.heap rfl
  have e2 : ((s.heap.push PySem.W.emptyDict).push (PySem.W.instObj C s.heap.objs.size)).get? (s.heap.objs.size + 1) = some (PySem.W.instObj C s.heap.objs.size) := by
    have := Heap.get?_push_size (s.heap.push PySem.W.emptyDict) (o := PySem.W.instObj C s.heap.objs.size) rfl
    rwa [Heap.size_push] at this
  have e3 : (s.heap.push PySem.W.emptyDict).Ns s.heap.objs.size (fun _ => none) := ⟨PySem.W.emptyDict, #[], _, e1, rfl, (fun e he => absurd he (by simp)), fun _ => rfl⟩
  have I1 := I.laid (a := s.heap.objs.size) (o := .own (s.heap.objs.size + 1)) (h' := s.heap.push PySem.W.emptyDict) (t' := s.toks) (fun b u q => Heap.get?_push_of_some _ q) (Nat.le_refl _) ⟨_, e1⟩
  refine I1.laid (a := s.heap.objs.size + 1) (o := .ins C s.heap.objs.size []) (t' := s.toks) (fun b u q => Heap.get?_push_of_some _ q) (Nat.le_of_eq (Heap.size_push _ _)) ?_
  have ne : s.heap.objs.size ≠ s.heap.objs.size + 1 := Nat.ne_of_lt (Nat.lt_succ_self _)
  refine ⟨by rw [upd_ne ne, upd_same], Nat.zero_le _, ne, e2, fun _ => none, (Heap.Ns1.of_empty e3).at fun o q => Heap.get?_push_of_some _ q, fun _ => True.intro, fun y hy => absurd rfl hy⟩

end

/-! ### readings and rules -/
section
variable {X : Cx} {o e value : Expr} {f : Str} {pos pos' tpos : Pos} {ta tv : TE}
end

/-! ### isinstance -/
section
variable {X : Cx} {pins : List (Addr × Obj)} {σ : St} {H : Hp} {s : Shared} {A : Around} {E : Value → Shared → Prop} {Q : Value → Shared → Prop} {c : Value} {b : Bool}
end
end L2

namespace L2
open PySem PySem.Spec PyProof.Rows

/-! ### room -/
structure Room (k : Nat) (A : Around) : Prop where
  hd : A.handled = none
  dp : A.depth + 3 * k + 5 < recursionLimit
  un : A.units + 16 * k + 200 < cLine
theorem Room.deeper {k : Nat} {A : Around} (r : Room (k + 1) A) (env : Env) : Room k (A.deeper env) :=
  ⟨r.hd, by have := r.dp; show A.depth + 1 + 3 * k + 5 < _; omega, by have := r.un; show A.units + 3 + 16 * k + 200 < _; omega⟩
theorem Room.in1 {k : Nat} {A : Around} (r : Room (k + 1) A) : Room k A.in1 :=
  ⟨r.hd, by have := r.dp; show A.depth + 3 * k + 5 < _; omega, by have := r.un; show A.units + 1 + 16 * k + 200 < _; omega⟩
theorem Room.depth {k : Nat} {A : Around} (r : Room k A) : A.depth < recursionLimit := by have := r.dp; omega
theorem Room.units {k : Nat} {A : Around} (r : Room k A) : A.units + 64 < cLine := by have := r.un; omega
/-! ### argument lists and displays -/
def tNil : TA := fun _ H Q => Q [] H
def tCons (ta : TE) (tr : TA) : TA := fun σ H Q => ta σ H fun x H1 => tr σ H1 fun xs H2 => Q (x :: xs) H2
section
variable {X : Cx} {e : Expr} {es : List Expr} {te : TE} {t : TA} {pos : Pos}
theorem pa_nil : PA X [] tNil := fun _ _ _ _ H Q I h => Calls.spliced_nil ⟨[], H, I, .nil, h⟩
theorem pa_cons (ha : PE X e te) (hr : PA X es t) (hs : starEach (e :: es) X.env = (false, eval e X.env) :: starEach es X.env := by rfl) : PA X (e :: es) (tCons te t) := by
  intro pos pins s σ H Q I h
  rw [hs]
  show wpAny _ _ (spliced ((false, eval e X.env) :: backTo pos (starEach es X.env))) _ _ s
  refine Calls.spliced_cons (thn (ha pins s σ H _ I h) fun u s1 ⟨x, H1, I1, r1, q1⟩ => ?_)
  exact thn (hr pos pins s1 σ H1 _ I1 q1) fun us s2 ⟨xs, H2, I2, r2, q2⟩ => ⟨x :: xs, H2, I2, .cons r1 r2, q2⟩

/-- a tuple, a list of written items -/
def tTup (t : TA) : TE := fun σ H Q => t σ H fun xs H1 => xs.length ≤ sizeLine ∧ ∀ p, H1 p = none → Q (.ref p) (upd H1 p (.tup xs))
def tLst (t : TA) : TE := fun σ H Q => t σ H fun xs H1 => xs.length ≤ sizeLine ∧ ∀ p, H1 p = none → Q (.ref p) (upd H1 p (.lst xs))
theorem pe_tup {x1} (h : PA X es t) : PE X (.Tuple es x1 pos) (tTup t) := by
  intro pins s σ H Q I hq
  refine wpAny_Tuple_spliced (thn (h pos pins s σ H _ I hq) fun us s1 ⟨xs, H1, I1, r, z, q⟩ => ⟨by rw [← r.length]; exact z, ?_⟩)
  have hf : H1 s1.heap.objs.size = none := I1.hok.fresh (Nat.le_refl _)
  refine ⟨.ref s1.heap.objs.size, upd H1 s1.heap.objs.size (.tup xs), I1.laid (t' := s1.toks) (fun b u e => Heap.get?_push_of_some _ e) (Nat.le_refl _) ?_, rfl, q _ hf⟩
  exact ⟨z, us, r, ⟨_, Heap.get?_push_size _ rfl, rfl, rfl, _, rfl⟩⟩
theorem pe_lst (h : PA X es t) : PE X (.List es pos) (tLst t) := by
  intro pins s σ H Q I hq
  refine wpAny_List_spliced (thn (h pos pins s σ H _ I hq) fun us s1 ⟨xs, H1, I1, r, z, q⟩ => ⟨by rw [← r.length]; exact z, ?_⟩)
  have hf : H1 s1.heap.objs.size = none := I1.hok.fresh (Nat.le_refl _)
  refine ⟨.ref s1.heap.objs.size, upd H1 s1.heap.objs.size (.lst xs), I1.laid (t' := s1.toks) (fun b u e => Heap.get?_push_of_some _ e) (Nat.le_refl _) ?_, rfl, q _ hf⟩
  exact ⟨z, us, 0, r, Heap.get?_push_size _ rfl⟩
end

/-! ### what a def promises -/
/-- a def's promise: the bound arguments in the parameters' order, the heap, the wanted end, the wanted exception -/
abbrev Sp := List V → Hp → VK → XK → Prop
/-- how an exception lies behind a call (file 08 gives it): the callers' frames, abstract heap and state ahead of the call, the wish, the exception, the state -/
abbrev CXT := List Env → Hp → Shared → XK → Value → Shared → Prop

/-- the state at a call -/
structure Env0 (P : Program) (w : World) (K : PySem.W.Frag) (mg : Str → Option Value) (base : Heap) (A : Around) (outer : List Env) (s : Shared) (H : Hp) : Prop where
  frames : A.frames = some outer
  mod : Mod K mg base
  bs : ∀ b o, base.get? b = some o → s.heap.get? b = some o ∧ H b = none
  bsz : base.objs.size ≤ s.heap.objs.size
  funs : s.heap.FunFrames base outer
  frf : ∀ b ∈ frs outer, H b = none
  hok : HOk P w H s.heap
  bare : AllBare s.gens
/-- a call's end -/
def CE (outer : List Env) (P : Program) (w : World) (H : Hp) (s : Shared) (Q : VK) (u : Value) (s' : Shared) : Prop :=
  ∃ v H', s'.os = s.os ∧ AllBare s'.gens ∧ Un (frs outer) [] H H' s.heap s'.heap ∧ HOk P w H' s'.heap ∧ RelV v u ∧ Q v H'
def CR (CX : CXT) (outer : List Env) (P : Program) (w : World) (H : Hp) (s : Shared) (Q : VK) (E : XK) (r : Result) (s' : Shared) : Prop :=
  match r with
  | .ok (.ret u) => CE outer P w H s Q u s'
  | .ok _ => False
  | .error e => CX outer H s E e s'
structure FnOk (P : Program) (w : World) (K : PySem.W.Frag) (mg : Str → Option Value) (base : Heap) (CX : CXT) (k : Nat) (f : Addr) (fd : FuncData) (ps : List Str) (sp : Sp) : Prop where
  len : ∀ vs H Q E, sp vs H Q E → vs.length = ps.length
  run : ∀ (A : Around) (outer : List Env) (s : Shared) (H : Hp) (args : Args) (us : List Value) (vs : List V) (Q : VK) (E : XK), Room k A → Env0 P w K mg base A outer s H → BindsTo s fd args (ps.zip us) → Vals vs us → sp vs H Q E →
    codeAny (model P w) A (.call (.ref f) args) (CR CX outer P w H s Q E) s
/-- a weaker promise -/
theorem FnOk.imp {P : Program} {w : World} {K : PySem.W.Frag} {mg : Str → Option Value} {base : Heap} {CX : CXT} {k : Nat} {f : Addr} {fd : FuncData} {ps : List Str} {sp sp' : Sp} (F : FnOk P w K mg base CX k f fd ps sp)
    (h : ∀ vs H Q E, sp' vs H Q E → sp vs H Q E) : FnOk P w K mg base CX k f fd ps sp' :=
  ⟨fun vs H Q E q => F.len vs H Q E (h _ _ _ _ q), fun A outer s H args us vs Q E hr he hb hv hs => F.run A outer s H args us vs Q E hr he hb hv (h _ _ _ _ hs)⟩

theorem Env0.in1 {P : Program} {w : World} {K : PySem.W.Frag} {mg : Str → Option Value} {base : Heap} {A : Around} {outer : List Env} {s : Shared} {H : Hp} (e : Env0 P w K mg base A outer s H) :
    Env0 P w K mg base A.in1 outer s H := ⟨e.frames, e.mod, e.bs, e.bsz, e.funs, e.frf, e.hok, e.bare⟩

section
variable {X : Cx} {pins : List (Addr × Obj)} {σ : St} {H : Hp} {s s' : Shared}
/-- from a body: what a callee wants -/
theorem Inv.env0 (I : Inv X pins σ H s) : Env0 X.prog X.w X.K X.mg X.base X.A X.stack s H :=
  ⟨I.ok.frames, I.ok.mod, I.bs, Nat.le_trans I.ok.bsz I.sz, I.stack, I.stkFree, I.hok, I.bare⟩
/-- behind a call -/
theorem Inv.after {Q : VK} {u : Value} (I : Inv X pins σ H s) (h : CE X.stack X.prog X.w H s Q u s') : EP X pins σ Q u s' := by
  obtain ⟨v, H', os, bare, un, hok, r, q⟩ := h
  obtain ⟨hh, g, d, t, os'⟩ := s'
  obtain rfl : os' = s.os := os
  exact ⟨v, H', I.call (h' := hh) (g' := g) (d' := d) (t' := t) (ch := []) un hok bare (fun b z => absurd z (by simp)), r, q⟩
end

/-! ### calls -/
/-- how the parameters are bound: us the positional arguments, kw the keywords' values by name, ds the defaults that fill up -/
def Binds (K : PySem.W.Frag) (fd : FuncData) (ps : List Str) (ds : List Value) : Prop :=
  ∀ (s : Shared) (us : List Value), K.In s.heap → (us ++ ds).length = ps.length → BindsTo s fd ⟨us, []⟩ (ps.zip (us ++ ds))
/-- every parameter is given -/
theorem Binds.all {K : PySem.W.Frag} {fd : FuncData} {ps : List Str} (h : ∀ us : List Value, us.length = ps.length → bindArgs fd ⟨us, []⟩ = pure (ps.zip us)) : Binds K fd ps [] := fun s us _ hl => by
  rw [List.append_nil] at hl ⊢
  exact .of_eq (h us hl)

section
variable {X : Cx} {CX : CXT} {k : Nat} {f C : Addr} {fd : FuncData} {ps : List Str} {sp : Sp} {dvs : List V} {ds : List Value} {E : XK} {x m : Str} {p pos apos : Pos} {e o : Expr} {es : List Expr} {ta : TE} {t : TA}

/-- what a class must have to be made -/
structure Mk (K : PySem.W.Frag) (C f : Addr) : Prop where
  makes : PySem.W.makesIn K C = true
  init : PySem.W.findIn K (.ref C) "__init__" = some (some (.ref f))
  fn : PySem.W.isFn K (.ref f) = true
  kp : PySem.W.keepIn K (.ref C) = true

end

/-! ### keywords -/
section
variable {X : Cx} {CX : CXT} {k : Nat} {f C : Addr} {fd : FuncData} {ps ks : List Str} {sp : Sp} {E : XK} {x m : Str} {p pos apos kpos : Pos} {e o : Expr} {es : List Expr} {kws : List Keyword} {te ta : TE} {t tk : TA} {nm : Option Str}
variable {g : List Value → List Value → List Value} {gV : List V → List V → List V}
end

/-! ### a def's body keeps its promise -/
/-- names: the parameters first -/
structure FnScope (N P : List Str) (sc : Scope) : Prop where
  kind : sc.kind = .function
  co : sc.isCoroutine = false
  gen : sc.isGenerator = false
  nd : N.Nodup
  pre : N.take P.length = P
  par : ∀ x ∈ P, sc.names.lookup x = some .local ∨ sc.names.lookup x = some .cell
  nofree : ∀ y ∈ sc.names, y.2 ≠ .free

theorem bindL_out {kindOf : Str → Option NameKind} {x : Str} : ∀ {binds : List (Str × Value)} {m : Str → Option Value}, (∀ v, (x, v) ∉ binds) → bindL kindOf binds m x = m x
  | [], _, _ => rfl
  | (n, v) :: r, m, h => by
    unfold bindL
    rw [bindL_out fun w hw => h w (List.mem_cons_of_mem _ hw)]
    split
    · have : x ≠ n := by rintro rfl; exact h v List.mem_cons_self
      simp [this]
    · rfl
theorem bindC_out {kindOf : Str → Option NameKind} {x : Str} : ∀ {binds : List (Str × Value)} {m : Str → Option Value}, (∀ v, (x, v) ∉ binds) → bindC kindOf binds m x = m x
  | [], _, _ => rfl
  | (n, v) :: r, m, h => by
    unfold bindC
    rw [bindC_out fun w hw => h w (List.mem_cons_of_mem _ hw)]
    split
    · rfl
    · have : x ≠ n := by rintro rfl; exact h v List.mem_cons_self
      simp [this]
theorem bindL_get {kindOf : Str → Option NameKind} {x : Str} {v : Value} : ∀ {P : List Str} {vs : List Value} {i : Nat} {m : Str → Option Value}, P.Nodup → P[i]? = some x → vs[i]? = some v → kindOf x = some .local →
    bindL kindOf (P.zip vs) m x = some v
  | [], _, _, _, _, h, _, _ => by simp at h
  | _ :: _, [], _, _, _, _, h, _ => by simp at h
  | p :: P, w :: vs, 0, m, nd, h1, h2, hk => by
    simp at h1 h2; subst h1; subst h2
    show bindL kindOf ((p, w) :: P.zip vs) m p = _
    unfold bindL
    rw [bindL_out fun v hv => (List.nodup_cons.mp nd).1 (List.of_mem_zip hv).1, if_pos hk]
    simp
  | p :: P, w :: vs, i + 1, m, nd, h1, h2, hk => by
    show bindL kindOf ((p, w) :: P.zip vs) m x = _
    unfold bindL
    exact bindL_get (i := i) (List.nodup_cons.mp nd).2 (by simpa using h1) (by simpa using h2) hk
theorem bindC_get {kindOf : Str → Option NameKind} {x : Str} {v : Value} : ∀ {P : List Str} {vs : List Value} {i : Nat} {m : Str → Option Value}, P.Nodup → P[i]? = some x → vs[i]? = some v → kindOf x ≠ some .local →
    bindC kindOf (P.zip vs) m x = some v
  | [], _, _, _, _, h, _, _ => by simp at h
  | _ :: _, [], _, _, _, _, h, _ => by simp at h
  | p :: P, w :: vs, 0, m, nd, h1, h2, hk => by
    simp at h1 h2; subst h1; subst h2
    show bindC kindOf ((p, w) :: P.zip vs) m p = _
    unfold bindC
    rw [bindC_out fun v hv => (List.nodup_cons.mp nd).1 (List.of_mem_zip hv).1, if_neg hk]
    simp
  | p :: P, w :: vs, i + 1, m, nd, h1, h2, hk => by
    show bindC kindOf ((p, w) :: P.zip vs) m x = _
    unfold bindC
    exact bindC_get (i := i) (List.nodup_cons.mp nd).2 (by simpa using h1) (by simpa using h2) hk

/-- the names' values at the entry -/
def start (N : List Str) (vs : List V) : St := vs.map some ++ List.replicate (N.length - vs.length) none

/-- the context of a def's body, at its entry; an exception leaves the frame, then lies as CX says -/
def cxOf (CX : CXT) (P : Program) (w : World) (K : PySem.W.Frag) (mg : Str → Option Value) (base : Heap) (N : List Str) (qual : Str) (scope : Scope) (f : Addr) (cd : Value) (A : Around) (outer : List Env) (s : Shared) (H : Hp) (E : XK) : Cx where
  prog := P
  w := w
  K := K
  mg := mg
  base := base
  A := A.deeper (envOfC qual scope s.heap.objs.size f cd)
  N := N
  s₀ := s
  H₀ := H
  env := envOfC qual scope s.heap.objs.size f cd
  outer := outer
  stack := envOfC qual scope s.heap.objs.size f cd :: outer
  ex := []
  calm := true
  fn := fun _ => true
  pn := []
  xe := fun e s' => wpAny (model P w) (A.deeper (envOfC qual scope s.heap.objs.size f cd)) (leaving (envOfC qual scope s.heap.objs.size f cd) e) (fun _ s'' => CX outer H s E e s'') (fun e' s'' => CX outer H s E e' s'') s'

theorem cell_has {sc : Scope} {n : Nat} {x : Str} (h : sc.names.lookup x = some .cell) : ∃ c, (cellsFrom n sc.names []).lookup x = some c := by
  have q := PySem.W.cellsFrom_some sc.names n [] (.inl h)
  exact Option.isSome_iff_exists.mp q

theorem inv_start {CX : CXT} {P : Program} {w : World} {K : PySem.W.Frag} {mg : Str → Option Value} {base : Heap} {N ps : List Str} {qual : Str} {scope : Scope} {f : Addr} {cd : Value} {A : Around} {outer : List Env} {s s1 : Shared} {H : Hp} {E : XK} {us : List Value} {vs : List V}
    (S : FnScope N ps scope) (hd : A.handled = none) (e0 : Env0 P w K mg base A outer s H) (hl : vs.length = ps.length) (r : Vals vs us)
    (x : InCallC s s.heap.objs.size (bindL (envOfC qual scope s.heap.objs.size f cd).kindOf (ps.zip us) fun _ => none) (cellsFrom (s.heap.objs.size + 1) scope.names []) (bindC (envOfC qual scope s.heap.objs.size f cd).kindOf (ps.zip us) fun _ => none) s1) :
    Inv (cxOf CX P w K mg base N qual scope f cd A outer s H E) [] (start N vs) H s1 := by
  have hpl : ps.length ≤ N.length := by have := congrArg List.length S.pre; rw [List.length_take] at this; omega
  obtain ⟨h1, tk, rfl, hk⟩ := x.done
  have noA : ∀ b : Addr, b ∉ (cxOf CX P w K mg base N qual scope f cd A outer s H E).ex := fun b z => absurd (show b ∈ ([] : List Addr) from z) (by simp)
  refine ⟨⟨e0.mod, S.kind, rfl, rfl, Nat.le_refl _, fun y z c h1 h2 => ?_, fun y hy => ?_, fun y c _ h => ?_, fun _ => hd, Around.frames_deeper e0.frames, .inr ⟨rfl, rfl⟩, fun b z => absurd z (noA b), e0.bs, e0.bsz, fun b _ _ => noA b, fun b z => absurd z (noA b), e0.funs, e0.frf⟩,
    rfl, e0.bare, Un.kept hk, ⟨_, x.toInCall.ns, fun i y v h1 h2 h3 => ?_⟩, fun y c h => ⟨_, x.cell y c h⟩, e0.hok.fresh (Nat.le_refl _), fun y c h => ?_, fun p hp => absurd (show p ∈ ([] : List (Addr × Obj)) from hp) (by simp), e0.hok.kept hk, ?_⟩
  · exact name_of_addr x.apart (PySem.mem_of_lookup h1) (PySem.mem_of_lookup h2)
  · have hy : scope.names.lookup y = some .cell ∨ scope.names.lookup y = some .free := hy
    rcases hy with hy | hy
    · exact cell_has hy
    · exact absurd rfl (S.nofree _ (PySem.mem_of_lookup hy))
  · exact Nat.le_of_lt (x.above y c (PySem.mem_of_lookup h))
  · have hi : i < vs.length := by
      unfold start at h2
      by_cases hi : i < vs.length
      · exact hi
      · rw [List.getElem?_append_right (by simpa using hi)] at h2
        rw [List.getElem?_replicate] at h2
        split at h2 <;> cases h2
    have ha : vs[i]? = some v := by
      unfold start at h2
      rw [List.getElem?_append_left (by simpa using hi), List.getElem?_map] at h2
      cases e : vs[i]? with
      | none => rw [e] at h2; cases h2
      | some a => rw [e] at h2; cases h2; rfl
    obtain ⟨u, hu, rv⟩ := r.get ha
    have hp : ps[i]? = some y := by
      rw [← S.pre, List.getElem?_take_of_lt (by omega)]; exact h1
    have ndP : ps.Nodup := by rw [← S.pre]; exact S.nd.sublist (List.take_sublist _ _)
    refine ⟨u, rv, ?_⟩
    rcases S.par y (List.mem_of_getElem? hp) with k | k
    · exact .inl ⟨k, bindL_get ndP hp hu k⟩
    · obtain ⟨c, e⟩ := cell_has (n := s.heap.objs.size + 1) k
      refine .inr ⟨.inl k, c, e, ?_⟩
      have q := x.cell y c e
      rw [bindC_get ndP hp hu (by show scope.names.lookup y ≠ _; rw [k]; decide)] at q
      exact q
  · exact e0.hok.fresh (Nat.le_of_lt (x.above y c (PySem.mem_of_lookup h)))
  · unfold start
    show _ = N.length
    rw [List.length_append, List.length_map, List.length_replicate]
    omega

/-- THE RULE: a def (or a method) of the text, by its body. The body's reading t is chosen for each entry; it is run at the parameters' values -/
theorem fn_of {CX : CXT} {P : Program} {w : World} {K : PySem.W.Frag} {mg : Str → Option Value} {base : Heap} {k : Nat} {f : Addr} {name qual : Str} {params : Arguments} {body : List Stmt} {scope : Scope} {dV kV doc pm cdv ct oc : Value} {an od : Option Addr}
    {osl : Array (Option Value)} {N ps : List Str} {sp : Sp} (lk : K.lookup f = some ⟨oc, od, .func (PySem.W.fnOf name qual params body scope dV kV doc pm an cdv ct), osl⟩) (hcd : PySem.W.codeIn K cdv qual = true) (S : FnScope N ps scope)
    (len : ∀ vs H Q E, sp vs H Q E → vs.length = ps.length)
    (hbody : ∀ (A : Around) (outer : List Env) (s : Shared) (H : Hp) (vs : List V) (Q : VK) (E : XK), Room k (A.deeper (envOfC qual scope s.heap.objs.size f cdv)) → sp vs H Q E →
      ∃ t, PSs (cxOf CX P w K mg base N qual scope f cdv A outer s H E) body t ∧ t { nx := fun _ H' => Q .non H', rt := Q } (start N vs) H) :
    FnOk P w K mg base CX (k + 1) f (PySem.W.fnOf name qual params body scope dV kV doc pm an cdv ct) ps sp := by
  refine ⟨len, fun A outer s H args us vs Q E hr e0 hb r hsp => ?_⟩
  have hl := len _ _ _ _ hsp
  have KX : K.In s.heap := e0.mod.kin.keeps fun b o e => (e0.bs b o e).1
  have lim : s.heap.NoLimit := e0.mod.nolimit.keeps fun b o e => (e0.bs b o e).1
  have hkind : ∀ y ∈ ps.zip us, scope.names.lookup y.1 = some .local ∨ (scope.names.lookup y.1 = some .cell ∧ ((cellsFrom (s.heap.objs.size + 1) scope.names []).lookup y.1).isSome = true) := fun ⟨n, v⟩ hy => by
    rcases S.par n (List.of_mem_zip hy).1 with q | q
    · exact .inl q
    · exact .inr ⟨q, PySem.W.cellsFrom_some _ _ _ (.inl q)⟩
  refine codeAny_call_function hr.depth (KX _ _ lk) rfl S.co S.gen rfl (PySem.W.codeRec_of KX hcd) (hb _ _ _ _ ?_)
  refine wpAny_newFunctionEnv_cells S.kind hkind fun env he s1 x => ?_
  subst he
  refine ⟨lim.keeps x.toInCall.keep, codeAny_func ?_⟩
  obtain ⟨t, ht, hq⟩ := hbody A outer s H vs Q E (hr.deeper _) hsp
  have I : Inv (cxOf CX P w K mg base N qual scope f cdv A outer s H E) [] (start N vs) H s1 := inv_start S hr.hd e0 hl r x
  refine wpAny_mono (ht [] s1 (start N vs) H _ I hq) (fun fl s' hs => ?_) fun e s' hs => hs
  have fin : ∀ {σ' : St} {H' : Hp} {v : V} {u : Value}, Inv (cxOf CX P w K mg base N qual scope f cdv A outer s H E) [] σ' H' s' → RelV v u → Q v H' → CE outer P w H s Q u s' :=
    fun {σ' H' v u} J rv q => ⟨v, H', J.os, J.bare, J.base, J.hok, rv, q⟩
  cases fl with
  | ret u =>
    obtain ⟨v, σ', H', J, rv, q⟩ := hs
    exact fin J rv q
  | next =>
    obtain ⟨σ', H', J, q⟩ := hs
    exact fin (v := V.non) (u := Value.none) J rfl q
  | brk =>
    obtain ⟨_, _, _, q⟩ := hs
    exact False.elim q
  | cont =>
    obtain ⟨_, _, _, q⟩ := hs
    exact False.elim q
end L2

namespace L2
open PySem PySem.Spec PyProof.Rows
section
variable {X : Cx} {x : Str} {p pos : Pos} {e : Expr} {es : List Expr} {t : TA} {id T : String} {r : List V → Hp → VK → Prop}

def tCB (r : List V → Hp → VK → Prop) (t : TA) : TE := fun σ H Q => t σ H fun vs H1 => r vs H1 Q
/-- f(e, ..), f a built-in function -/
theorem pe_callB (hc : CallR X (.builtin id) r) (hg : Gl X x) (hm : X.mg x = none) (hv : bootBuiltins x = some (.builtin id)) (ha : PA X (e :: es) t) (hn : x ≠ "__name__" := by decide) (hdb : (x == ("__debug__" : Str)) = false := by decide)
    (he : starEach (e :: es) X.env = (false, eval e X.env) :: starEach es X.env := by rfl) (hpl : (backTo pos (starEach es X.env)).any (·.1) = false := by rfl) : PE X (.Call (.Name x p) (e :: es) [] pos) (tCB r t) := by
  intro pins s σ H Q I h
  refine wpAny_Call_Name_kw (ld_blt I hg hm hv ?_ hn hdb)
  exact PyProof.Rows.callWith_builtin1 (thn (ha pos pins s σ H _ I h) fun us s1 ⟨vs, H1, I1, r1, q1⟩ => hc pins s1 σ H1 vs us Q I1 r1 q1) he hpl
/-- T(e, ..), T a built-in type -/
theorem pe_callTy (hc : CallR X (.type T) r) (hg : Gl X x) (hm : X.mg x = none) (hv : bootBuiltins x = some (.type T)) (ha : PA X (e :: es) t) (hn : x ≠ "__name__" := by decide) (hdb : (x == ("__debug__" : Str)) = false := by decide)
    (he : starEach (e :: es) X.env = (false, eval e X.env) :: starEach es X.env := by rfl) (hpl : (backTo pos (starEach es X.env)).any (·.1) = false := by rfl) : PE X (.Call (.Name x p) (e :: es) [] pos) (tCB r t) := by
  intro pins s σ H Q I h
  refine wpAny_Call_Name_kw (ld_blt I hg hm hv ?_ hn hdb)
  exact PyProof.Rows.callWith_type1 (thn (ha pos pins s σ H _ I h) fun us s1 ⟨vs, H1, I1, r1, q1⟩ => hc pins s1 σ H1 vs us Q I1 r1 q1) he hpl
end
end L2

namespace HT
open PySem PyProof.Rows

section
open PySem.SeqAt
open PySem.AutoSeq1 (wpAny_loadPart')
open PySem.MeetsSeq PySem.MeetsSeq2 PySem.MeetsSeq3

end

section
variable {prog : Program} {w : World} {A : Around} {E : Value → Shared → Prop} {s : Shared}

/-- t + u, t not empty -/
theorem cat_tup {t b : Addr} {vs ws : List Value} {Q : Value → Shared → Prop} (ht : IsTup s.heap t vs.toArray) (hb : IsTup s.heap b ws.toArray) (hv : vs ≠ [])
    (h1 : ws = [] → Q (.ref t) s) (h2 : ws ≠ [] → Q (.ref s.heap.objs.size) { s with heap := s.heap.push { cls := .type "tuple", data := .seq (vs ++ ws).toArray } })
    (hsz : vs.length + ws.length ≤ sizeLine) : wpAny (model prog w) A (binaryOp .Add (.ref t) (.ref b)) Q E s := by
  obtain ⟨⟨cls, dd, data, sl⟩, ho, hc, n, hd⟩ := id ht
  obtain ⟨⟨cls2, dd2, data2, sl2⟩, ho2, hc2, n2, hd2⟩ := id hb
  simp only at hc hd hc2 hd2
  subst hc hd hc2 hd2
  have e : vs.toArray ++ ws.toArray = (vs ++ ws).toArray := by simp
  by_cases hw : ws = []
  · exact concat_meets ⟨_, ho, rfl⟩ ⟨_, ho2, rfl⟩ noFill_tuple_add seq_tuple_add PySem.F.slot_tuple_add PySem.F.entry_tuple_add (PySem.F.args_tuple_add_2 _ _)
      (tuple_addW1 t b vs.toArray ws.toArray n n2 dd dd2 sl sl2 (by simpa using hv) (by simp [hw])) ⟨ho, ho2, h1 hw⟩
  · refine concat_meets ⟨_, ho, rfl⟩ ⟨_, ho2, rfl⟩ noFill_tuple_add seq_tuple_add PySem.F.slot_tuple_add PySem.F.entry_tuple_add (PySem.F.args_tuple_add_2 _ _)
      (tuple_addW2 t b vs.toArray ws.toArray n n2 dd dd2 sl sl2 (by simpa using hv) (by simpa using hw) (by rw [List.size_toArray, List.size_toArray]; exact hsz)) ⟨ho, ho2, ?_⟩
    rw [e]
    exact h2 hw

/-! ### t[a:b], not the whole -/
/-- a slice's bound as a place among n (d where it is left out) -/
def sIx (n d : Nat) : Option Int → Nat
  | none => d
  | some v => if v < 0 then (v + (n : Int)).toNat else min v.toNat n
theorem sIx_none (n d : Nat) : sIx n d none = d := rfl
theorem sIx_nat (n d k : Nat) : sIx n d (some (k : Int)) = min k n := by
  show (if (k : Int) < 0 then ((k : Int) + (n : Int)).toNat else min (k : Int).toNat n) = min k n
  rw [if_neg (by omega), Int.toNat_natCast]
theorem sIx_le (n d : Nat) (hd : d ≤ n) (o : Option Int) : sIx n d o ≤ n := by
  cases o with
  | none => exact hd
  | some v =>
    show (if v < 0 then (v + (n : Int)).toNat else min v.toNat n) ≤ n
    by_cases hv : v < 0
    · rw [if_pos hv]; omega
    · rw [if_neg hv]; exact Nat.min_le_right _ _
theorem clip_eq (v : Int) (n d : Nat) : (if v < 0 then max (v + (n : Int)) 0 else min v (n : Int)) = ((sIx n d (some v) : Nat) : Int) := by
  show (if v < 0 then max (v + (n : Int)) 0 else min v (n : Int)) = (((if v < 0 then (v + (n : Int)).toNat else min v.toNat n) : Nat) : Int)
  by_cases hv : v < 0
  · simp only [if_pos hv]; omega
  · simp only [if_neg hv]; omega
theorem adjust_gen (lo hi : Option Int) (n : Nat) : Builtin.Slice.sliceAdjust lo hi 1 (n : Int) = (((sIx n 0 lo : Nat) : Int), ((sIx n n hi : Nat) : Int)) := by
  have h1 : ¬ ((1 : Int) < 0) := by omega
  unfold Builtin.Slice.sliceAdjust
  simp only [h1, if_false]
  refine Prod.ext ?_ ?_
  · cases lo with
    | none => rfl
    | some v => exact clip_eq v n 0
  · cases hi with
    | none => rfl
    | some v => exact clip_eq v n n
theorem places_gen (i j : Nat) : Builtin.Slice.slicePlaces (i : Int) (j : Int) 1 = j - i := by
  unfold Builtin.Slice.slicePlaces
  have h1 : (1 : Int) > 0 := by omega
  simp only [h1, if_true, Int.ediv_one]
  split <;> omega
theorem slicePart_ {v : Value} {o : Option Int} {Q : Option Int → Shared → Prop} (p : IsPart v o) (h : Q o s) : wpAny (model prog w) A (Builtin.Slice.slicePartIndex v) Q E s := by
  cases p with
  | none => exact slicePart_none h
  | int i t => exact slicePart_int h
theorem sliceApplied_gen {sl : Addr} {vl vu : Value} {lo hi : Option Int} {n : Nat} {Q : Int × Int × Nat → Shared → Prop} (hs : s.heap.IsSliceOf sl vl vu .none) (pl : IsPart vl lo) (pu : IsPart vu hi)
    (h : Q (((sIx n 0 lo : Nat) : Int), 1, sIx n n hi - sIx n 0 lo) s) : wpAny (model prog w) A (Builtin.Slice.sliceApplied (.ref sl) (pure (n : Int))) Q E s := by
  obtain ⟨os, hos, hcs, hds⟩ := id hs
  unfold Builtin.Slice.sliceApplied Builtin.Slice.sliceFields
  refine wpAny_bind (wpAny_bind (wpAny_field hos hds (x := vl) rfl (wpAny_bind (wpAny_field hos hds (x := vu) rfl (wpAny_bind (wpAny_field hos hds (x := .none) rfl (wpAny_pure ?_)))))))
  refine wpAny_bind (slicePart_none ?_)
  show wpAny _ _ (if ((1 : Int) == 0) = true then _ else _) _ _ s
  rw [if_neg (by decide)]
  refine wpAny_bind (slicePart_ pl (wpAny_bind (slicePart_ pu (wpAny_bind (wpAny_pure ?_)))))
  show wpAny _ _ (match Builtin.Slice.sliceAdjust lo hi 1 (n : Int) with | (lo, hi) => pure (lo, (1 : Int), Builtin.Slice.slicePlaces lo hi 1)) _ _ s
  rw [adjust_gen lo hi n]
  show wpAny _ _ (pure (((sIx n 0 lo : Nat) : Int), (1 : Int), Builtin.Slice.slicePlaces ((sIx n 0 lo : Nat) : Int) ((sIx n n hi : Nat) : Int) 1)) _ _ s
  rw [places_gen]
  exact wpAny_pure h
theorem pick_gen (xs : Array Value) (i k : Nat) : ((List.range k).filterMap fun (m : Nat) => xs[((i : Int) + (m : Int) * 1).toNat]?).toArray = ((xs.toList.drop i).take k).toArray := by
  have e : (fun (m : Nat) => xs[((i : Int) + (m : Int) * 1).toNat]?) = fun m => xs[i + m]? := by
    funext m
    have : ((i : Int) + (m : Int) * 1).toNat = i + m := by omega
    rw [this]
  rw [e]
  have := pick_run xs i k
  rw [List.filterMap_map] at this
  have e2 : ((fun x => xs[x]?) ∘ fun x => i + x) = fun m => xs[i + m]? := rfl
  rw [e2] at this
  rw [this]

theorem getItem_tuple_cut {t sl : Addr} {items : Array Value} {vl vu : Value} {lo hi : Option Int} {Q : Value → Shared → Prop} (ht : IsTup s.heap t items) (hs : s.heap.IsSliceOf sl vl vu .none) (pl : IsPart vl lo) (pu : IsPart vu hi)
    (hw : ¬ (sIx items.size 0 lo = 0 ∧ sIx items.size items.size hi = items.size))
    (h : Q (.ref s.heap.objs.size) { s with heap := s.heap.push { cls := .type "tuple", data := .seq ((items.toList.drop (sIx items.size 0 lo)).take (sIx items.size items.size hi - sIx items.size 0 lo)).toArray } })
    (hsz : items.size ≤ sizeLine) : wpAny (model prog w) A (getItem (.ref t) (.ref sl)) Q E s := by
  have htake : sizeOk (.seq ((items.toList.drop (sIx items.size 0 lo)).take (sIx items.size items.size hi - sIx items.size 0 lo)).toArray) := by
    show ((items.toList.drop (sIx items.size 0 lo)).take (sIx items.size items.size hi - sIx items.size 0 lo)).toArray.size ≤ sizeLine
    rw [List.size_toArray, List.length_take, List.length_drop, Array.length_toList]
    omega
  have hj : sIx items.size items.size hi ≤ items.size := sIx_le _ _ (Nat.le_refl _) hi
  obtain ⟨os, hos, hcs, hds⟩ := id hs
  have hTs : s.TypeIs (.ref sl) "slice" := ⟨os, hos, hcs⟩
  unfold getItem
  try with_reducible refine wpAny_holding ?_
  first | refine wpAny_bind (wpAny_pure ?_) | skip
  refine wpAny_bind (wpAny_sequenceKey ht.typeIs (by decide) ?_)
  refine wpAny_bind (wpAny_callSpecial?_slot (name := Str.ofString "__getitem__") ht.typeIs PyProof.Rows.slot_tuple_getitem
    (wpAny_call_entry PyProof.Rows.slot_tuple_getitem ht.typeIs entry_tuple_getitem ?_ (args_tuple_getitem _ _)))
  show wpAny _ _ (Builtin.Tuple.tupleItemsOf (.ref t) >>= _) _ _ s
  refine wpAny_bind (tupleItemsOf_ ht ?_)
  refine wpAny_bind (wpAny_typeOf hTs ?_)
  rw [if_pos (by decide)]
  refine wpAny_bind (sliceApplied_gen hs pl pu ?_)
  have hno : ¬ ((((sIx items.size 0 lo : Nat) : Int) == 0 && (1 : Int) == 1 && (sIx items.size items.size hi - sIx items.size 0 lo) == items.size) = true) := by
    intro q
    rw [Bool.and_eq_true, Bool.and_eq_true] at q
    have q1 : ((sIx items.size 0 lo : Nat) : Int) = 0 := eq_of_beq q.1.1
    have q2 : sIx items.size items.size hi - sIx items.size 0 lo = items.size := eq_of_beq q.2
    exact hw ⟨by omega, by omega⟩
  show wpAny _ _ (if (((sIx items.size 0 lo : Nat) : Int) == 0 && (1 : Int) == 1 && (sIx items.size items.size hi - sIx items.size 0 lo) == items.size) = true then _ else _) _ _ s
  rw [if_neg hno, pick_gen]
  first
    | exact wpAny_bind (m := Builtin.Tuple.tupleExact _) (wpAny_newObj_type (wpAny_pure ⟨_, rfl, wpAny_pure h⟩) htake)
    | exact wpAny_bind (m := Builtin.Tuple.tupleExact _) (wpAny_newObj_type (wpAny_bind (wpAny_pure (wpAny_pure ⟨_, rfl, wpAny_pure h⟩))) htake)
    | exact wpAny_bind (wpAny_bind (m := Builtin.Tuple.tupleExact _) (wpAny_newObj_type (wpAny_pure (wpAny_pure ⟨_, rfl, wpAny_pure h⟩)) htake))
    | exact wpAny_bind (wpAny_bind (m := Builtin.Tuple.tupleExact _) (wpAny_newObj_type (wpAny_pure ⟨_, rfl, wpAny_pure h⟩) htake))
end
end HT

namespace L2
open PySem PySem.Spec PyProof.Rows

/-! ### the parts of a slice -/
abbrev TO := St → Hp → (Option Int → Hp → Prop) → Prop
/-- a slice's part (left out, or an int) -/
def PO (X : Cx) (e : Option Expr) (t : TO) : Prop :=
  ∀ (pins : List (Addr × Obj)) (s : Shared) (σ : St) (H : Hp) (Q : Option Int → Hp → Prop), Inv X pins σ H s → t σ H Q →
    wpAny (model X.prog X.w) X.A (evalPart e X.env) (fun u s' => ∃ o H', Inv X pins σ H' s' ∧ IsPart u o ∧ Q o H') X.xe s
def tNoPart : TO := fun _ H Q => Q none H
def tPart (t : TE) : TO := fun σ H Q => t σ H fun x H1 => ∃ i, x = .int i ∧ Q (some i) H1

section
variable {X : Cx} {e : Expr} {te : TE} {lo hi : Option Expr} {tl th : TO} {pos p2 : Pos}

theorem po_none : PO X none tNoPart := by
  intro pins s σ H Q I h
  rw [evalPart_none]
  exact wpAny_pure ⟨none, H, I, .none, h⟩
theorem po_some (h : PE X e te) : PO X (some e) (tPart te) := by
  intro pins s σ H Q I hw
  rw [evalPart_some]
  refine thn (h pins s σ H _ I hw) fun u s1 ⟨x, H1, I1, r1, q1⟩ => ?_
  obtain ⟨i, rfl, q⟩ := q1
  obtain ⟨t, rfl⟩ := r1
  exact ⟨some i, H1, I1, .int i t, q⟩

/-- what a slice of a value is, by values: the slice object stands at sl -/
def SlR (X : Cx) (r : V → Option Int → Option Int → Hp → VK → Prop) : Prop :=
  ∀ (pins : List (Addr × Obj)) (s : Shared) (σ : St) (H : Hp) (x : V) (v vl vu : Value) (lo hi : Option Int) (sl : Addr) (Q : VK), Inv X pins σ H s → RelV x v → s.heap.IsSliceOf sl vl vu .none → IsPart vl lo → IsPart vu hi → r x lo hi H Q →
    ∃ T id, typeLookup (.type T) "__getitem__" = pure (some (.builtin id)) ∧ s.TypeIs v T ∧ wpAny (model X.prog X.w) X.A (getItem v (.ref sl)) (EP X pins σ Q) X.xe s
theorem SlR.or {r r' : V → Option Int → Option Int → Hp → VK → Prop} (h : SlR X r) (h' : SlR X r') : SlR X (fun x lo hi H Q => r x lo hi H Q ∨ r' x lo hi H Q) := by
  intro pins s σ H x v vl vu lo hi sl Q I rx hs pl pu q
  rcases q with q | q
  · exact h pins s σ H x v vl vu lo hi sl Q I rx hs pl pu q
  · exact h' pins s σ H x v vl vu lo hi sl Q I rx hs pl pu q
def tSl (r : V → Option Int → Option Int → Hp → VK → Prop) (te : TE) (tl th : TO) : TE := fun σ H Q => te σ H fun x H1 => tl σ H1 fun l H2 => th σ H2 fun u H3 => r x l u H3 Q
/-- a[lo:hi], any a -/
theorem pe_slice {r : V → Option Int → Option Int → Hp → VK → Prop} (hr : SlR X r) (he : PE X e te) (hl : PO X lo tl) (hu : PO X hi th) : PE X (.Subscript e (.Slice lo hi none p2) pos) (tSl r te tl th) := by
  intro pins s σ H Q I h
  refine Subscript_ (thn (he pins s σ H _ I h) fun v s1 ⟨x, H1, I1, r1, q1⟩ => ?_)
  refine wpAny_Slice (thn (hl pins s1 σ H1 _ I1 q1) fun vl s2 ⟨l, H2, I2, pl, q2⟩ => thn (hu pins s2 σ H2 _ I2 q2) fun vu s3 ⟨u, H3, I3, pu, q3⟩ => ?_)
  rw [evalPart_none]
  refine wpAny_pure ?_
  have I4 : Inv X pins σ H3 { s3 with heap := s3.heap.push { cls := .type "slice", data := .fields #[vl, vu, .none] } } := I3.kept (t' := s3.toks) fun b ob q => Heap.get?_push_of_some _ q
  obtain ⟨T, id, hT, ht, hg⟩ := hr pins { s3 with heap := s3.heap.push { cls := .type "slice", data := .fields #[vl, vu, .none] } } σ H3 x v vl vu l u s3.heap.objs.size Q I4 r1 (Heap.IsSliceOf.new ..) pl pu q3
  show wpAny (model X.prog X.w) X.A (subscriptTail e (.Slice lo hi none p2) v (.ref s3.heap.objs.size)) (EP X pins σ Q) X.xe { s3 with heap := s3.heap.push { cls := .type "slice", data := .fields #[vl, vu, .none] } }
  exact tail_any (ops := [.ref s3.heap.objs.size, v]) ht hT hg (by with_unfolding_all rfl)

/-- the items of xs[lo:hi] -/
def cutV (xs : List V) (lo hi : Option Int) : List V := (xs.drop (HT.sIx xs.length 0 lo)).take (HT.sIx xs.length xs.length hi - HT.sIx xs.length 0 lo)
theorem cutV_length (xs : List V) (lo hi : Option Int) : (cutV xs lo hi).length ≤ xs.length := by
  unfold cutV
  rw [List.length_take, List.length_drop]
  omega
/-- t[lo:hi], not the whole of it (the whole would be t itself) -/
def rSlT (K : PySem.W.Frag) : V → Option Int → Option Int → Hp → VK → Prop := fun x lo hi H Q => ∃ a xs, x = .ref a ∧ SqT K H a xs ∧
  ¬ (HT.sIx xs.length 0 lo = 0 ∧ HT.sIx xs.length xs.length hi = xs.length) ∧ ∀ p, H p = none → Q (.ref p) (upd H p (.tup (cutV xs lo hi)))
theorem sl_tup : SlR X (rSlT X.K) := by
  intro pins s σ H x v vl vu lo hi sl Q I rx hs pl pu h
  obtain ⟨a, xs, rfl, hx, hw, q⟩ := h
  cases rx
  obtain ⟨its, r, ht, hz⟩ := I.tuple hx
  have hlen : its.toArray.size = xs.length := by rw [List.size_toArray]; exact r.length.symm
  refine ⟨"tuple", _, PyProof.Rows.slot_tuple_getitem.lookup, ht.typeIs, ?_⟩
  refine HT.getItem_tuple_cut ht hs pl pu (by rw [hlen]; exact hw) ?_ (by rw [hlen]; exact hz)
  rw [hlen]
  refine ⟨.ref s.heap.objs.size, _, I.laid (t' := s.toks) (o := .tup (cutV xs lo hi)) (fun b ob q => Heap.get?_push_of_some _ q) (Nat.le_refl _) ?_, rfl, q _ (I.hok.fresh (Nat.le_refl _))⟩
  exact ⟨Nat.le_trans (cutV_length xs lo hi) hz, _, (r.drop (HT.sIx xs.length 0 lo)).take (HT.sIx xs.length xs.length hi - HT.sIx xs.length 0 lo), PlainTp.new _ _⟩

/-! ### t < u, t + u -/
theorem Vals.nil_iff {xs : List V} {us : List Value} (r : Vals xs us) : us = [] ↔ xs = [] := by
  cases r with
  | nil => simp
  | cons _ _ => simp
end
end L2

namespace L2
open PySem PySem.Spec PyProof.Rows

/-! ### places -/
/-- the place that an index of any sign means -/
def ixN (n : Nat) (i : Int) : Option Nat := if 0 ≤ i then (if i < n then some i.toNat else none) else if -(n : Int) ≤ i then some (i + n).toNat else none
def atI {α : Type} (xs : List α) (i : Int) : Option α := (ixN xs.length i).bind fun j => xs[j]?
theorem ixN_seq {n : Nat} {i : Int} {j : Nat} (h : ixN n i = some j) : seqIndex? i n = some j ∧ j < n ∧ -(n : Int) ≤ i ∧ i < n := by
  unfold ixN at h
  by_cases h0 : 0 ≤ i
  · rw [if_pos h0] at h
    by_cases h1 : i < n
    · rw [if_pos h1] at h
      have e : i.toNat = j := Option.some.inj h
      exact ⟨by rw [seqIndex_of h0 h1, e], by omega, by omega, h1⟩
    · rw [if_neg h1] at h; cases h
  · rw [if_neg h0] at h
    by_cases h1 : -(n : Int) ≤ i
    · rw [if_pos h1] at h
      have e : (i + n).toNat = j := Option.some.inj h
      exact ⟨by rw [seqIndex_neg (by omega) h1, e], by omega, h1, by omega⟩
    · rw [if_neg h1] at h; cases h
theorem atI_get {α : Type} {xs : List α} {i : Int} {v : α} (h : atI xs i = some v) : ∃ j, seqIndex? i xs.length = some j ∧ xs[j]? = some v ∧ j < xs.length ∧ -(xs.length : Int) ≤ i ∧ i < xs.length := by
  unfold atI at h
  cases e : ixN xs.length i with
  | none => rw [e] at h; cases h
  | some j =>
    rw [e] at h
    obtain ⟨h1, h2, h3, h4⟩ := ixN_seq e
    exact ⟨j, h1, h, h2, h3, h4⟩
theorem atI_nat {α : Type} {xs : List α} {j : Nat} {v : α} (h : xs[j]? = some v) : atI xs (j : Int) = some v := by
  have hj : j < xs.length := (List.getElem?_eq_some_iff.mp h).1
  have e : ixN xs.length (j : Int) = some j := by
    unfold ixN
    rw [if_pos (by omega), if_pos (by omega)]; simp
  unfold atI; rw [e]; exact h
/-! ### what may be subscripted -/
/-- what stands as an index of a plain subscript -/
def PlainIx (b : Expr) : Prop := ∀ o i, subscripted b false o i = operate [o, i] (getItem o i)
/-- a subscript by values -/
def IxR (X : Cx) (r : R2) : Prop :=
  ∀ (value slice : Expr) (pins : List (Addr × Obj)) (s : Shared) (σ : St) (H : Hp) (x y : V) (v u : Value) (Q : VK), Inv X pins σ H s → RelV x v → RelV y u → r x y H Q →
    subscripted slice false v u = operate [v, u] (getItem v u) → wpAny (model X.prog X.w) X.A (subscriptTail value slice v u) (EP X pins σ Q) X.xe s
/-- a call of a builtin's method by values: the receiver, the arguments -/
def MtR (X : Cx) (id : String) (r : V → List V → Hp → VK → Prop) : Prop :=
  ∀ (pins : List (Addr × Obj)) (s : Shared) (σ : St) (H : Hp) (x : V) (xs : List V) (v : Value) (us : List Value) (Q : VK), Inv X pins σ H s → RelV x v → Vals xs us → r x xs H Q →
    wpAny (model X.prog X.w) X.A (call (.builtin id) (v :: us)) (EP X pins σ Q) X.xe s
section
variable {X : Cx} {a b : Expr} {ta tb : TE} {pos : Pos}
theorem IxR.or {r r' : R2} (h : IxR X r) (h' : IxR X r') : IxR X (fun x y H Q => r x y H Q ∨ r' x y H Q) := by
  intro value slice pins s σ H x y v u Q I rx ry q hs
  rcases q with q | q
  · exact h value slice pins s σ H x y v u Q I rx ry q hs
  · exact h' value slice pins s σ H x y v u Q I rx ry q hs
/-- a[b] -/
theorem pe_ix {r : R2} (hr : IxR X r) (ha : PE X a ta) (hb : PE X b tb) (hs : PlainIx b) : PE X (.Subscript a b pos) (tOp r ta tb) := by
  intro pins s σ H Q I h
  exact Subscript_ (binT ha hb I h fun v u s2 x y H2 I2 rx ry q => hr a b pins s2 σ H2 x y v u Q I2 rx ry q (hs _ _))

def rIxL (K : PySem.W.Frag) : R2 := fun x y H Q => ∃ p xs i v, x = .ref p ∧ y = .int i ∧ SqL K H p xs ∧ atI xs i = some v ∧ Q v H
def rIxT (K : PySem.W.Frag) : R2 := fun x y H Q => ∃ p xs i v, x = .ref p ∧ y = .int i ∧ SqT K H p xs ∧ atI xs i = some v ∧ Q v H
def rIxS : R2 := fun x y H Q => ∃ z i c, x = .str z ∧ y = .int i ∧ z.length ≤ sizeLine ∧ atI z.cps.toList i = some c ∧ Q (.str ⟨#[c]⟩) H
theorem ix_list : IxR X (rIxL X.K) := by
  intro value slice pins s σ H x y v u Q I rx ry h hs
  obtain ⟨p, xs, i, z, rfl, rfl, hq, he, q⟩ := h
  cases rx
  obtain ⟨t, rfl⟩ := ry
  obtain ⟨its, r, pl, hz⟩ := I.list hq
  obtain ⟨j, h1, h2, h3, h4, h5⟩ := atI_get he
  obtain ⟨w, ew, rw'⟩ := r.get h2
  have hl := r.length
  have hn := line63
  have fin : EP X pins σ Q w s := ⟨z, H, I, rw', q⟩
  by_cases h0 : 0 ≤ i
  · have hj : i.toNat = j := by
      rw [seqIndex_of h0 h5] at h1
      exact Option.some.inj h1
    exact item_listR pl.isList h0 (by omega) (by rw [hj]; simpa using ew) fin hs
  · have hj : (i + (its.toArray.size : Int)).toNat = j := by
      rw [seqIndex_neg (by omega) h4] at h1
      rw [List.size_toArray, ← hl]
      exact Option.some.inj h1
    exact subscriptTail_builtinR (x := w) pl.isList.typeIs slot_list_getitem.lookup
      (wpAny_getItem_list_neg (Q := fun r s' => r = w ∧ EP X pins σ Q r s') pl.isList (by omega) (by rw [List.size_toArray] <;> omega) (by omega) (by rw [hj]; simpa using ew) ⟨rfl, fin⟩) hs
theorem ix_tup : IxR X (rIxT X.K) := by
  intro value slice pins s σ H x y v u Q I rx ry h hs
  obtain ⟨p, xs, i, z, rfl, rfl, hq, he, q⟩ := h
  cases rx
  obtain ⟨t, rfl⟩ := ry
  obtain ⟨its, r, pl, hz⟩ := I.tuple hq
  obtain ⟨j, h1, h2, h3, h4, h5⟩ := atI_get he
  obtain ⟨w, ew, rw'⟩ := r.get h2
  have hl := r.length
  have hn := line63
  have fin : EP X pins σ Q w s := ⟨z, H, I, rw', q⟩
  exact subscriptTail_builtinR (x := w) pl.typeIs slot_tuple_getitem.lookup
    (getItem_tuple (j := j) (Q := fun r s' => r = w ∧ EP X pins σ Q r s') pl (by omega) (by omega) (by rw [List.size_toArray, ← hl]; exact h1) (by simpa using ew) ⟨rfl, fin⟩) hs
theorem ix_str : IxR X rIxS := by
  intro value slice pins s σ H x y v u Q I rx ry h hs
  obtain ⟨z, i, c, rfl, rfl, hz, he, q⟩ := h
  obtain ⟨t, rfl⟩ := rx
  obtain ⟨t', rfl⟩ := ry
  obtain ⟨j, h1, h2, h3, h4, h5⟩ := atI_get he
  have hl : z.cps.toList.length = z.length := by simp [Str.length]
  rw [hl] at h1 h4 h5
  have hn := line63
  exact tail_any (typeIs_str s z t) slot_str_getitem.lookup (getItem_str (c := c) (by
    have e1 : decide (i < -(2 ^ 63 : Int)) = false := decide_eq_false (by omega)
    have e2 : decide (i ≥ 2 ^ 63) = false := decide_eq_false (by omega)
    rw [e1, e2, Bool.or_false]) (by rw [h1]; simpa using h2) ⟨.str ⟨#[c]⟩, H, I.tok _, ⟨_, rfl⟩, q⟩) hs
/-- list, tuple or str -/
def rIx (K : PySem.W.Frag) : R2 := fun x y H Q => rIxL K x y H Q ∨ rIxT K x y H Q ∨ rIxS x y H Q
theorem ix_seq : IxR X (rIx X.K) := ix_list.or (ix_tup.or ix_str)

/-! ### xs[i] = v, any sign -/
theorem Inv.lst {pins : List (Addr × Obj)} {σ : St} {H : Hp} {s : Shared} {p : Addr} {xs : List V} (I : Inv X pins σ H s) (h : H p = some (.lst xs)) :
    ∃ (its : List Value) (n : Nat), Vals xs its ∧ s.heap.get? p = some { cls := .type "list", data := .seq its.toArray n } ∧ xs.length ≤ sizeLine := by
  obtain ⟨z, its, n, r, e⟩ := I.hok p _ h
  exact ⟨its, n, r, e, z⟩
/-! ### slices -/
theorem slice_bounds (lo hi : Option Int) (n : Nat) : (sliceBounds lo hi none n).1 = ((HT.sIx n 0 lo : Nat) : Int) ∧ (sliceBounds lo hi none n).2.1 = ((HT.sIx n n hi : Nat) : Int) ∧ (sliceBounds lo hi none n).2.2 = 1 := by
  refine ⟨?_, ?_, rfl⟩
  · cases lo with
    | none => simp [sliceBounds, HT.sIx]
    | some i =>
      simp only [sliceBounds, HT.sIx, Option.getD_none, show (1 : Int) > 0 by decide, if_true]
      by_cases h : i < 0
      · simp only [h, if_true] <;> omega
      · simp only [h, if_false] <;> omega
  · cases hi with
    | none => simp [sliceBounds, HT.sIx]
    | some i =>
      simp only [sliceBounds, HT.sIx, Option.getD_none, show (1 : Int) > 0 by decide, if_true]
      by_cases h : i < 0
      · simp only [h, if_true] <;> omega
      · simp only [h, if_false] <;> omega
theorem slicePick_cut (its : List Value) (lo hi : Option Int) : slicePick its.toArray lo hi none = ((its.drop (HT.sIx its.length 0 lo)).take (HT.sIx its.length its.length hi - HT.sIx its.length 0 lo)).toArray := by
  obtain ⟨h1, h2, h3⟩ := slice_bounds lo hi its.toArray.size
  unfold slicePick
  rw [h1, h2, h3]
  simp only [sliceRange_one, pick_run, List.size_toArray] <;> rfl
/-- xs[lo:hi] of a list: a new list -/
def rSlL (K : PySem.W.Frag) : V → Option Int → Option Int → Hp → VK → Prop := fun x lo hi H Q => ∃ a xs, x = .ref a ∧ SqL K H a xs ∧ ∀ p, H p = none → Q (.ref p) (upd H p (.lst (cutV xs lo hi)))
theorem sl_list : SlR X (rSlL X.K) := by
  intro pins s σ H x v vl vu lo hi sl Q I rx hs pl pu h
  obtain ⟨a, xs, rfl, hx, q⟩ := h
  cases rx
  obtain ⟨its, r, ht, hz⟩ := I.list hx
  have hlen := r.length
  refine ⟨"list", _, slot_list_getitem.lookup, ht.isList.typeIs, ?_⟩
  refine wpAny_getItem_list_slice ht.isList hs pl pu .none (by simp) ?_ (by rw [List.size_toArray] <;> omega)
  rw [slicePick_cut, ← hlen]
  refine ⟨.ref s.heap.objs.size, _, I.laid (t' := s.toks) (o := .lst (cutV xs lo hi)) (fun b ob q => Heap.get?_push_of_some _ q) (Nat.le_refl _) ?_, rfl, q _ (I.hok.fresh (Nat.le_refl _))⟩
  exact ⟨Nat.le_trans (cutV_length xs lo hi) hz, _, 0, (r.drop (HT.sIx xs.length 0 lo)).take (HT.sIx xs.length xs.length hi - HT.sIx xs.length 0 lo), Heap.get?_push_size _ rfl⟩

/-! ### in, not in: flat items -/
def flatV : V → Bool
  | .non => true
  | .bl _ => true
  | .int _ => true
  | .str _ => true
  | _ => false
/-- == of flat values -/
def eqV : V → V → Bool
  | .non, .non => true
  | .bl a, .bl b => a == b
  | .bl a, .int b => (if a then 1 else 0) == b
  | .int a, .bl b => a == (if b then 1 else 0)
  | .int a, .int b => a == b
  | .str a, .str b => a == b
  | _, _ => false
theorem eqAt_V {A : Around} {s : Shared} {y x : V} {u v : Value} (ry : RelV y u) (rx : RelV x v) (fy : flatV y = true) (fx : flatV x = true) : SeqAt.EqAt A s u v (eqV y x) := by
  cases y with
  | non =>
    cases ry
    cases x with
    | non => cases rx; exact SeqAt.EqAt.same _
    | bl b => cases rx; exact SeqAt.EqAt.none_bool b
    | int b => obtain ⟨t, rfl⟩ := rx; exact SeqAt.EqAt.none_int b t
    | str b => obtain ⟨t, rfl⟩ := rx; exact SeqAt.EqAt.none_str b t
    | _ => exact absurd (show false = true from fx) Bool.false_ne_true
  | bl a =>
    cases ry
    cases x with
    | non => cases rx; exact SeqAt.EqAt.bool_none a
    | bl b => cases rx; exact SeqAt.EqAt.bool_bool a b
    | int b => obtain ⟨t, rfl⟩ := rx; exact SeqAt.EqAt.bool_int a b t
    | str b => obtain ⟨t, rfl⟩ := rx; exact SeqAt.EqAt.bool_str a b t
    | _ => exact absurd (show false = true from fx) Bool.false_ne_true
  | int a =>
    obtain ⟨t', rfl⟩ := ry
    cases x with
    | non => cases rx; exact SeqAt.EqAt.int_none a t'
    | bl b => cases rx; exact SeqAt.EqAt.int_bool a t' b
    | int b => obtain ⟨t, rfl⟩ := rx; exact SeqAt.EqAt.int_int a t' b t
    | str b => obtain ⟨t, rfl⟩ := rx; exact SeqAt.EqAt.int_str a t' b t
    | _ => exact absurd (show false = true from fx) Bool.false_ne_true
  | str a =>
    obtain ⟨t', rfl⟩ := ry
    cases x with
    | non => cases rx; exact SeqAt.EqAt.str_none a t'
    | bl b => cases rx; exact SeqAt.EqAt.str_bool a t' b
    | int b => obtain ⟨t, rfl⟩ := rx; exact SeqAt.EqAt.str_int a t' b t
    | str b => obtain ⟨t, rfl⟩ := rx; exact SeqAt.EqAt.str_str a t' b t
    | _ => exact absurd (show false = true from fx) Bool.false_ne_true
  | _ => exact absurd (show false = true from fy) Bool.false_ne_true
/-- the items' answers, read off the values (a value's own answer does not lean on its token) -/
def eqU (x : V) (u : Value) : Bool := match u with
  | .none => eqV .non x
  | .bool b => eqV (.bl b) x
  | .int i _ => eqV (.int i) x
  | .str z _ => eqV (.str z) x
  | _ => false
theorem eqU_of {x y : V} {u : Value} (r : RelV y u) (f : flatV y = true) : eqU x u = eqV y x := by
  cases y with
  | non => cases r; rfl
  | bl b => cases r; rfl
  | int i => obtain ⟨t, rfl⟩ := r; rfl
  | str z => obtain ⟨t, rfl⟩ := r; rfl
  | _ => exact absurd (show false = true from f) Bool.false_ne_true
theorem any_eqU {x : V} : ∀ {xs : List V} {us : List Value}, Vals xs us → xs.all flatV = true → us.any (eqU x) = xs.any fun y => eqV y x
  | _, _, .nil, _ => rfl
  | y :: xs, u :: us, .cons r t, f => by
    rw [List.all_cons, Bool.and_eq_true] at f
    rw [List.any_cons, List.any_cons, eqU_of r f.1, any_eqU t f.2]
theorem mem_eqAt {A : Around} {s : Shared} {x : V} {v : Value} (rx : RelV x v) (fx : flatV x = true) : ∀ {xs : List V} {us : List Value}, Vals xs us → xs.all flatV = true → ∀ u ∈ us, SeqAt.EqAt A s u v (eqU x u)
  | _, _, .nil, _ => fun u hu => by cases hu
  | y :: xs, u :: us, .cons r t, f => fun u' hu => by
    rw [List.all_cons, Bool.and_eq_true] at f
    rcases List.mem_cons.mp hu with rfl | hu
    · rw [eqU_of r f.1]; exact eqAt_V r rx f.1 fx
    · exact mem_eqAt rx fx t f.2 u' hu
def inV (x : V) (xs : List V) : Bool := xs.any fun y => eqV y x
/-- x in a list or tuple of flat items -/
def rIn (K : PySem.W.Frag) (neg : Bool) : R2 := fun x y H Q => ∃ p xs, y = .ref p ∧ (SqL K H p xs ∨ SqT K H p xs) ∧ flatV x = true ∧ xs.all flatV = true ∧ Q (.bl (if neg then !inV x xs else inV x xs)) H
theorem op_in_seq : OpR X (compareOp .In) (rIn X.K false) := by
  intro pins s σ H x y v u Q I rx ry h
  obtain ⟨p, xs, rfl, hq, fx, fs, q⟩ := h
  cases ry
  rcases hq with hq | hq
  · obtain ⟨its, r, pl, hz⟩ := I.list hq
    refine SeqAt.in_listAt (eqU x) pl.isList (fun w hw => mem_eqAt rx fx r fs w (by simpa using hw)) ⟨.bl _, H, I, rfl, ?_⟩
    rw [show its.toArray.any (eqU x) = its.any (eqU x) by simp, any_eqU r fs]
    exact q
  · obtain ⟨its, r, pl, hz⟩ := I.tuple hq
    refine SeqAt.in_tupleAt (eqU x) pl (fun w hw => mem_eqAt rx fx r fs w (by simpa using hw)) ⟨.bl _, H, I, rfl, ?_⟩
    rw [show its.toArray.any (eqU x) = its.any (eqU x) by simp, any_eqU r fs]
    exact q
theorem op_notIn_seq : OpR X (compareOp .NotIn) (rIn X.K true) := by
  intro pins s σ H x y v u Q I rx ry h
  obtain ⟨p, xs, rfl, hq, fx, fs, q⟩ := h
  cases ry
  rcases hq with hq | hq
  · obtain ⟨its, r, pl, hz⟩ := I.list hq
    refine SeqAt.notIn_listAt (eqU x) pl.isList (fun w hw => mem_eqAt rx fx r fs w (by simpa using hw)) ⟨.bl _, H, I, rfl, ?_⟩
    rw [show its.toArray.any (eqU x) = its.any (eqU x) by simp, any_eqU r fs]
    exact q
  · obtain ⟨its, r, pl, hz⟩ := I.tuple hq
    refine SeqAt.notIn_tupleAt (eqU x) pl (fun w hw => mem_eqAt rx fx r fs w (by simpa using hw)) ⟨.bl _, H, I, rfl, ?_⟩
    rw [show its.toArray.any (eqU x) = its.any (eqU x) by simp, any_eqU r fs]
    exact q
/-! ### len, list(x), tuple(x) of any list or tuple that is read -/
theorem call_list_of : CallR X (.type "list") (fun xs H Q => ∃ p ys, xs = [.ref p] ∧ (SqL X.K H p ys ∨ SqT X.K H p ys) ∧ ∀ l, H l = none → Q (.ref l) (upd H l (.lst ys))) := by
  intro pins s σ H xs us Q I r h
  obtain ⟨p, ys, rfl, hq, q⟩ := h
  obtain ⟨u, rfl, rx⟩ := vals1 r
  cases rx
  have fin : ∀ (its : List Value), Vals ys its → ys.length ≤ sizeLine → ∀ (h' : Heap) (c' : Nat), (∀ b o', s.heap.get? b = some o' → h'.get? b = some o') →
      h'.get? s.heap.objs.size = some { cls := .type "list", dict := none, data := .seq its.toArray c', slots := #[] } → EP X pins σ Q (.ref s.heap.objs.size) { s with heap := h' } := fun its r' hz h' c' kp e =>
    ⟨.ref s.heap.objs.size, _, I.laid (t' := s.toks) kp (Nat.le_refl _) (show ObjOk X.prog X.w _ h' _ (.lst ys) from ⟨hz, its, c', r', e⟩), rfl, q _ (I.hok.fresh (Nat.le_refl _))⟩
  rcases hq with hq | hq
  · obtain ⟨its, r', pl, hz⟩ := I.list hq
    have hlen := r'.length
    obtain ⟨o, ho, hc, n, hd⟩ := pl.isList
    exact call_list_seq p (.inl rfl) ho hc hd (fun h' c' kp e => fin its r' hz h' c' kp e) (by simp only [List.size_toArray] <;> omega)
  · obtain ⟨its, r', pl, hz⟩ := I.tuple hq
    have hlen := r'.length
    obtain ⟨o, ho, hc, n, hd⟩ := pl
    exact call_list_seq p (.inr rfl) ho hc hd (fun h' c' kp e => fin its r' hz h' c' kp e) (by simp only [List.size_toArray] <;> omega)
theorem call_tuple_of : CallR X (.type "tuple") (fun xs H Q => ∃ p ys, xs = [.ref p] ∧ ((SqL X.K H p ys ∧ ∀ l, H l = none → Q (.ref l) (upd H l (.tup ys))) ∨ (SqT X.K H p ys ∧ Q (.ref p) H))) := by
  intro pins s σ H xs us Q I r h
  obtain ⟨p, ys, rfl, h⟩ := h
  obtain ⟨u, rfl, rx⟩ := vals1 r
  cases rx
  rcases h with ⟨hq, q⟩ | ⟨hq, q⟩
  · obtain ⟨its, r', pl, hz⟩ := I.list hq
    have hlen := r'.length
    refine call_tuple_list pl.isList (fun h' kp => ?_) (by simp only [List.size_toArray] <;> omega)
    have I1 : Inv X pins σ H { s with heap := h' } := I.kept (t' := s.toks) kp
    have I2 : Inv X pins σ (upd H h'.objs.size (.tup ys)) { s with heap := h'.push { cls := .type "tuple", data := .seq its.toArray } } :=
      I1.laid (t' := s.toks) (fun b o e => Heap.get?_push_of_some _ e) (Nat.le_refl _) (show ObjOk X.prog X.w _ _ _ (.tup ys) from ⟨hz, its, r', PlainTp.new _ _⟩)
    exact ⟨.ref h'.objs.size, _, I2, rfl, q _ (I1.hok.fresh (Nat.le_refl _))⟩
  · obtain ⟨its, r', pl, hz⟩ := I.tuple hq
    exact call_tuple_same pl ⟨.ref p, H, I, rfl, q⟩

/-! ### the call of a builtin's method: o.m(..) -/
/-- the value is of that builtin type -/
def tyV (K : PySem.W.Frag) (T : String) (x : V) (H : Hp) : Prop := match x with
  | .str _ => T = "str"
  | .int _ => T = "int"
  | .ref p => (T = "list" ∧ ∃ xs, SqL K H p xs) ∨ (T = "tuple" ∧ ∃ o, K.lookup p = some o ∧ o.cls = .type "tuple" ∧ o.dict = none) ∨
      (T = "dict" ∧ ((∃ kvs, H p = some (.dK kvs)) ∨ ∃ kvs, H p = some (.dT kvs))) ∨ (T = "set" ∧ ∃ S n, H p = some (.set S n))
  | _ => False
theorem tyV_is {pins : List (Addr × Obj)} {σ : St} {H : Hp} {s : Shared} {T : String} {x : V} {v : Value} (I : Inv X pins σ H s) (r : RelV x v) (ty : tyV X.K T x H) :
    s.TypeIs v T ∧ ∀ a, v = .ref a → ∃ ob, s.heap.get? a = some ob ∧ ob.dict = none := by
  cases x with
  | str z =>
    obtain ⟨t, rfl⟩ := r
    cases (show T = "str" from ty)
    exact ⟨typeIs_str s z t, fun _ e => nomatch e⟩
  | int i =>
    obtain ⟨t, rfl⟩ := r
    cases (show T = "int" from ty)
    exact ⟨typeIs_int s i t, fun _ e => nomatch e⟩
  | ref p =>
    cases r
    rcases ty with ⟨rfl, xs, hq⟩ | ⟨rfl, o, hk, hc, hd⟩ | ⟨rfl, hk⟩ | ⟨rfl, S, n, hk⟩
    · obtain ⟨its, _, pl, _⟩ := I.list hq
      refine ⟨pl.isList.typeIs, fun a e => ?_⟩
      cases e
      obtain ⟨o, n, e, c, hd, _⟩ := pl
      exact ⟨o, e, hd⟩
    · refine ⟨⟨o, I.kIn p o hk, hc⟩, fun a e => ?_⟩
      cases e
      exact ⟨o, I.kIn _ o hk, hd⟩
    · have z : ∃ o, s.heap.get? p = some o ∧ o.ExactDict := by
        rcases hk with ⟨kvs, hk⟩ | ⟨kvs, hk⟩
        · obtain ⟨_, _, _, _, o, _, _, e, ex, _⟩ := I.hok p _ hk
          exact ⟨o, e, ex⟩
        · obtain ⟨_, _, _, _, o, _, _, e, ex, _⟩ := I.hok p _ hk
          exact ⟨o, e, ex⟩
      obtain ⟨o, e, ex⟩ := z
      refine ⟨⟨o, e, ex.1⟩, fun a e2 => ?_⟩
      cases e2
      exact ⟨o, e, ex.2.1⟩
    · obtain ⟨o, _, _, _, e, ex, _⟩ := I.hok p _ hk
      refine ⟨⟨o, e, ex.1⟩, fun a e2 => ?_⟩
      cases e2
      exact ⟨o, e, ex.2.1⟩
  | _ => exact False.elim ty
def tBM (K : PySem.W.Frag) (T : String) (r : V → List V → Hp → VK → Prop) (to : TE) (t : TA) : TE := fun σ H Q => to σ H fun x H1 => tyV K T x H1 ∧ t σ H1 fun xs H2 => r x xs H2 Q
variable {o e : Expr} {es : List Expr} {to : TE} {t : TA} {name : Str} {apos cpos : Pos} {T id : String} {r : V → List V → Hp → VK → Prop}
theorem pe_bm (pa : PlainAttrs T) (slot : Slot T name id) (hty : typeOf (.builtin id) = pure (.type "method_descriptor")) (hm : MtR X id r) (ho : PE X o to) (ha : PA X (e :: es) t)
    (hbase : attributeBase o name X.env (eval o X.env) = eval o X.env := by rfl)
    (hfew : ((backTo cpos (starEach (e :: es) X.env)).all (fun x => !x.1) && (backToKw cpos (keywordEach [] X.env)).all (fun x => x.1.isSome)
      && decide ((e :: es).length + ([] : List Keyword).length + (if ([] : List Keyword).isEmpty then 0 else 1) < 30)) = true := by rfl)
    (hline : (apos.endLine == cpos.line) = true := by rfl) (hs : starEach (e :: es) X.env = (false, eval e X.env) :: starEach es X.env := by rfl) (hplain : (backTo cpos (starEach es X.env)).any (·.1) = false := by rfl) :
    PE X (.Call (.Attribute o name apos) (e :: es) [] cpos) (tBM X.K T r to t) := by
  intro pins s σ H Q I h
  refine wpAny_Call_method_late hbase hfew hline rfl (thn (ho pins s σ H _ I h) fun v s1 ⟨x, H1, I1, r1, ty, q1⟩ => ?_)
  obtain ⟨h1, h2⟩ := tyV_is I1 r1 ty
  refine ⟨T, id, pa, slot, hty, h1, h2, ?_⟩
  have hA := ha cpos pins s1 σ H1 _ I1 q1
  rw [hs] at hA ⊢
  refine Calls.callWith_builtin (by show (false || (backTo cpos (starEach es X.env)).any (·.1)) = false; rw [hplain] <;> rfl) (Calls.evalArgs_plain ?_)
  exact thn hA fun us s2 ⟨vs, H2, I2, r2, q2⟩ => hm pins s2 σ H2 x vs v us Q I2 r1 r2 q2
/- xs.append(e), list.index on a module's tuple .. are MtR facts of 06m -/
end
end L2

namespace L2
open PySem PySem.Spec PyProof.Rows

def MtM (X : Cx) (id : String) (r : V → List V → Hp → VK → Prop) : Prop :=
  ∀ (pins : List (Addr × Obj)) (s : Shared) (σ : St) (H : Hp) (x : V) (xs : List V) (v : Value) (us : List Value) (Q : VK), Inv X pins σ H s → RelV x v → Vals xs us → r x xs H Q →
    wpAny (model X.prog X.w) X.A (call (.builtin id) (v :: us)) (EP X pins σ Q) X.xe s

/-! ### lists of values -/
theorem Vals.one : ∀ {x : V} {us : List Value}, Vals [x] us → ∃ u, us = [u] ∧ RelV x u
  | _, _, .cons r .nil => ⟨_, rfl, r⟩
theorem Vals.zero : ∀ {us : List Value}, Vals [] us → us = []
  | _, .nil => rfl
section
variable {X : Cx} {pins : List (Addr × Obj)} {σ : St} {H : Hp} {s : Shared} {l b : Addr} {xs ys zs : List V}

/-! ### the two steps: a tracked list is rewritten, a new list is laid -/
theorem Inv.lset {its its' : List Value} {n : Nat} {f : Array Value → Array Value} {t' : Nat} (I : Inv X pins σ H s) (hH : H l = some (.lst xs))
    (e : s.heap.get? l = some { cls := .type "list", data := .seq its.toArray n }) (hf : f its.toArray = its'.toArray) (hv : Vals ys its') (hz : ys.length ≤ sizeLine) :
    Inv X pins σ (upd H l (.lst ys)) { s with heap := s.heap.update l (Obj.mapSeq f), toks := t' } := by
  have q := PySem.IsL.update e f
  rw [hf] at q
  refine I.write (x := l) (e := l) (by rw [hH]; exact trivial) (.inl rfl) (fun b' u hb hu => (Heap.get?_update_other s.heap (Obj.mapSeq f) (Ne.symm hb)).trans hu) ⟨_, q⟩ ?_
  exact ⟨hz, its', _, hv, q⟩
theorem Inv.lstM (I : Inv X pins σ H s) (hH : H l = some (.lst xs)) : xs.length ≤ sizeLine ∧ ∃ (its : List Value) (n : Nat), Vals xs its ∧ xs.length = its.length ∧ s.heap.get? l = some { cls := .type "list", data := .seq its.toArray n } := by
  obtain ⟨z, its, n, r, e⟩ := I.hok l _ hH
  exact ⟨z, its, n, r, r.length, e⟩

end

section
variable {X : Cx}

/-! ### methods -/
def rAppend : V → List V → Hp → VK → Prop := fun x vs H Q => ∃ l xs y, x = .ref l ∧ vs = [y] ∧ H l = some (.lst xs) ∧ xs.length < sizeLine ∧ Q .non (upd H l (.lst (xs ++ [y])))
theorem mt_append : MtM X "list.append" rAppend := by
  intro pins s σ H x vs v us Q I rx rv h
  obtain ⟨l, xs, y, rfl, rfl, hH, hz, q⟩ := h
  cases rx
  obtain ⟨u, rfl, ru⟩ := rv.one
  obtain ⟨z, its, n, r, hl, e⟩ := I.lstM hH
  refine call_meets F.slot_list_append ⟨_, e, rfl⟩ F.entry_list_append (F.args_list_append_2 _ _) (PySem.list_append l its.toArray n u (by rw [List.size_toArray]; omega)) ⟨e, ?_⟩
  refine ⟨.non, _, I.lset (its' := its ++ [u]) hH e (by simp) (r.append (.cons ru .nil)) ?_, rfl, q⟩
  rw [List.length_append, List.length_singleton]
  omega

/-! ### list + list, list += list, list * int -/
/-! ### del xs[i] -/
end

/-! ### xs[a:b] = ys -/
section
variable {prog : Program} {w : World} {A : Around} {E : Value → Shared → Prop} {s : Shared}
end

section
variable {X : Cx}
end
end L2

namespace L2
open PySem PySem.Spec PyProof.Rows

/-! ### lists of pairs as tables -/
section
variable {κ : Type} [DecidableEq κ]
def valV (kvs : List (κ × V)) (k : κ) : Option V := (kvs.find? fun kv => decide (kv.1 = k)).map (·.2)
/-- in its place, or at the end -/
def putK (kvs : List (κ × V)) (k : κ) (v : V) : List (κ × V) :=
  if (kvs.any fun kv => decide (kv.1 = k)) = true then kvs.map (fun kv => if kv.1 = k then (kv.1, v) else kv) else kvs ++ [(k, v)]
theorem valV_pos {p : κ × V} {r : List (κ × V)} {k : κ} (e : p.1 = k) : valV (p :: r) k = some p.2 := by simp [valV, List.find?_cons, e]
theorem valV_neg {p : κ × V} {r : List (κ × V)} {k : κ} (e : ¬ p.1 = k) : valV (p :: r) k = valV r k := by simp [valV, List.find?_cons, e]
theorem valV_any (k : κ) : ∀ kvs : List (κ × V), (kvs.any fun kv => decide (kv.1 = k)) = (valV kvs k).isSome
  | [] => rfl
  | p :: r => by
    rw [List.any_cons]
    by_cases e : p.1 = k
    · simp only [valV_pos e, decide_eq_true e, Bool.true_or, Option.isSome_some]
    · rw [valV_neg e, decide_eq_false e, Bool.false_or]; exact valV_any k r
theorem length_putK (kvs : List (κ × V)) (k : κ) (v : V) : (putK kvs k v).length ≤ kvs.length + 1 := by
  unfold putK
  split
  · rw [List.length_map]; omega
  · rw [List.length_append, List.length_cons, List.length_nil]; omega
theorem RelO.isSome_eq {o : Option V} {u : Option Value} (r : RelO o u) : o.isSome = u.isSome := by
  cases o with
  | none => cases u with
    | none => rfl
    | some _ => exact (show False from r).elim
  | some _ => cases u with
    | none => exact (show False from r).elim
    | some _ => rfl
theorem RelO.getD {o : Option V} {u : Option Value} {d : V} {d' : Value} (r : RelO o u) (rd : RelV d d') : RelV (o.getD d) (u.getD d') := by
  cases o with
  | none => cases u with
    | none => exact rd
    | some _ => exact (show False from r).elim
  | some _ => cases u with
    | none => exact (show False from r).elim
    | some _ => exact r

/-- raw tables of the same keys -/
theorem KV.val {kvs : List (κ × V)} {vs : List (κ × Value)} (r : KV kvs vs) (k : κ) : RelO (valV kvs k) (valueAt vs k) := by
  unfold KV at r
  induction r with
  | nil => exact True.intro
  | @cons p q ps qs h t ih =>
    obtain ⟨h1, h2⟩ := h
    by_cases e : p.1 = k
    · have e' : q.1 = k := h1.symm.trans e
      have b : valueAt (q :: qs) k = some q.2 := by simp [valueAt, List.find?_cons, e']
      rw [valV_pos e, b]; exact h2
    · have e' : ¬ q.1 = k := fun z => e (h1.trans z)
      have b : valueAt (q :: qs) k = valueAt qs k := by simp [valueAt, List.find?_cons, e']
      rw [valV_neg e, b]; exact ih
theorem KV.any {kvs : List (κ × V)} {vs : List (κ × Value)} (r : KV kvs vs) (k : κ) : (kvs.any fun kv => decide (kv.1 = k)) = vs.any fun kv => decide (kv.1 = k) := by
  unfold KV at r
  induction r with
  | nil => rfl
  | cons h t ih => rw [List.any_cons, List.any_cons, ih, h.1]
theorem KV.repl {kvs : List (κ × V)} {vs : List (κ × Value)} (r : KV kvs vs) (k : κ) {y : V} {u : Value} (ry : RelV y u) :
    KV (kvs.map fun kv => if kv.1 = k then (kv.1, y) else kv) (vs.map fun kv => if kv.1 = k then (kv.1, u) else kv) := by
  unfold KV at r ⊢
  induction r with
  | nil => exact .nil
  | @cons p q ps qs h t ih =>
    rw [List.map_cons, List.map_cons]
    refine .cons ?_ ih
    obtain ⟨h1, h2⟩ := h
    by_cases e : p.1 = k
    · rw [if_pos e, if_pos (h1.symm.trans e)]; exact ⟨h1, ry⟩
    · rw [if_neg e, if_neg (fun z => e (h1.trans z))]; exact ⟨h1, h2⟩
theorem KV.put {kvs : List (κ × V)} {vs : List (κ × Value)} (r : KV kvs vs) (k : κ) {y : V} {u : Value} (ry : RelV y u) : KV (putK kvs k y) (stored vs k u) := by
  unfold putK stored
  rw [r.any k]
  by_cases e : (vs.any fun kv => decide (kv.1 = k)) = true
  · rw [if_pos e, if_pos e]; exact r.repl k ry
  · rw [if_neg e, if_neg e]; exact Paired.snoc r ⟨rfl, ry⟩
theorem KV.keys {kvs : List (κ × V)} {vs : List (κ × Value)} (r : KV kvs vs) : kvs.map (·.1) = vs.map (·.1) := by
  unfold KV at r
  induction r with
  | nil => rfl
  | cons h t ih => rw [List.map_cons, List.map_cons, ih, h.1]
theorem KV.length {kvs : List (κ × V)} {vs : List (κ × Value)} (r : KV kvs vs) : kvs.length = vs.length := Paired.length r
end


/-! ### a tracked dict, its keys ints and texts or tuples of these -/
theorem kV_is {P : Program} {w : World} {k : Key} {u : Value} (r : RelV (kV k) u) : (mixKind P w).is k u = true := by
  cases k with
  | inl i => obtain ⟨t, e⟩ := (show ∃ t, u = Value.int i t from r); subst e; exact mixKind_int P w i t
  | inr x => obtain ⟨t, e⟩ := (show ∃ t, u = Value.str x t from r); subst e; exact mixKind_str P w x t
theorem items_are {P : Program} {w : World} : ∀ {ks : List Key} {us : List Value}, Vals (ks.map kV) us → ItemsAre (mixKind P w) ks us
  | [], _, r => by rw [List.map_nil] at r; cases r; exact .nil
  | k :: ks, _, r => by
    rw [List.map_cons] at r
    cases r with
    | cons h t => exact .cons (kV_is h) (items_are t)

/-- raw entries of a dict with tuple keys -/
abbrev KT (H : Hp) : List (List Key × V) → List (List Key × Addr × Value) → Prop := Paired fun p q => p.1 = q.1 ∧ H q.2.1 = some (.tup (p.1.map kV)) ∧ RelV p.2 q.2.2
theorem KT.val {H : Hp} {kvs : List (List Key × V)} {xs : List (List Key × Addr × Value)} (r : KT H kvs xs) (k : List Key) : RelO (valV kvs k) ((atKey xs k).map (·.2)) := by
  induction r with
  | nil => exact True.intro
  | @cons p q ps qs h t ih =>
    obtain ⟨h1, _, h2⟩ := h
    by_cases e : p.1 = k
    · have e' : q.1 = k := h1.symm.trans e
      have b : atKey (q :: qs) k = some q.2 := by simp [atKey, List.find?_cons, e']
      rw [valV_pos e, b]; exact h2
    · have e' : ¬ q.1 = k := fun z => e (h1.trans z)
      have b : atKey (q :: qs) k = atKey qs k := by simp [atKey, List.find?_cons, e']
      rw [valV_neg e, b]; exact ih
theorem KT.repl {H : Hp} {kvs : List (List Key × V)} {xs : List (List Key × Addr × Value)} (r : KT H kvs xs) (k : List Key) {y : V} {u : Value} (ry : RelV y u) :
    KT H (kvs.map fun kv => if kv.1 = k then (kv.1, y) else kv) (xs.map (putAt k u)) := by
  induction r with
  | nil => exact .nil
  | @cons p q ps qs h t ih =>
    rw [List.map_cons, List.map_cons]
    refine .cons ?_ ih
    obtain ⟨h1, h2, h3⟩ := h
    unfold putAt
    by_cases e : p.1 = k
    · rw [if_pos e, if_pos (h1.symm.trans e)]; exact ⟨h1, h2, ry⟩
    · rw [if_neg e, if_neg (fun z => e (h1.trans z))]; exact ⟨h1, h2, h3⟩
theorem KT.put {H : Hp} {kvs : List (List Key × V)} {xs : List (List Key × Addr × Value)} (r : KT H kvs xs) (k : List Key) {b : Addr} {y : V} {u : Value} (hb : H b = some (.tup (k.map kV))) (ry : RelV y u) :
    KT H (putK kvs k y) (storedH xs k b u) := by
  have e : (kvs.any fun kv => decide (kv.1 = k)) = (atKey xs k).isSome := by
    rw [valV_any, (r.val k).isSome_eq, Option.isSome_map]
  unfold putK storedH
  rw [e]
  by_cases q : (atKey xs k).isSome = true
  · rw [if_pos q, if_pos q]; exact r.repl k ry
  · rw [if_neg q, if_neg q]; exact Paired.snoc r ⟨rfl, hb, ry⟩
theorem KT.keeps {H H' : Hp} {kvs : List (List Key × V)} {xs : List (List Key × Addr × Value)} (r : KT H kvs xs) (ht : ∀ b ys, H b = some (.tup ys) → H' b = some (.tup ys)) : KT H' kvs xs :=
  Paired.mapP r fun _ _ z => ⟨z.1, ht _ _ z.2.1, z.2.2⟩

section
variable {P : Program} {w : World} {H : Hp} {h : Heap} {a : Addr}
theorem rd_of {u : HO} (ok : HOk P w H h) (e : Rd H a u) : ObjOk P w H h a u := e.ok ok
theorem dk_rd {kvs : List (Key × V)} (ok : HOk P w H h) (e : Rd H a (.dK kvs)) : kvs.length ≤ sizeLine ∧ (a == sysModules) = false ∧ ∃ vs, KV kvs vs ∧ h.DictOf (mixKind P w) a vs :=
  show ObjOk P w H h a (.dK kvs) from rd_of ok e
theorem dk_of {kvs : List (Key × V)} (ok : HOk P w H h) (e : H a = some (.dK kvs)) : kvs.length ≤ sizeLine ∧ (a == sysModules) = false ∧ ∃ vs, KV kvs vs ∧ h.DictOf (mixKind P w) a vs := dk_rd ok (.inl e)
/-- a tracked tuple of ints and texts is a key -/
theorem key_of {ks : List Key} (ok : HOk P w H h) (e : H a = some (.tup (ks.map kV))) : (tupleKind (mixKind P w)).is h ks a := by
  obtain ⟨_, its, r, o, h1, h2, _, n, h3⟩ := (show ObjOk P w H h a (.tup (ks.map kV)) from ok a _ e)
  exact ⟨o, its.toArray, n, h1, h2, h3, by simpa using items_are r⟩
theorem dt_rd {kvs : List (List Key × V)} (ok : HOk P w H h) (e : Rd H a (.dT kvs)) : kvs.length ≤ sizeLine ∧ (a == sysModules) = false ∧
    ∃ xs, KT H kvs xs ∧ h.DictOfH (tupleKind (mixKind P w)) a xs := by
  obtain ⟨z, y, xs, r, o, es, ep, h1, h2, h3, h4, h5⟩ := (show ObjOk P w H h a (.dT kvs) from rd_of ok e)
  refine ⟨z, y, xs, r, o, es, ep, h1, h2, h3, h4, fun x hx => ?_, h5⟩
  have all : ∀ {l : List (List Key × V)} {m : List (List Key × Addr × Value)}, KT H l m → ∀ x ∈ m, (tupleKind (mixKind P w)).is h x.1 x.2.1 := by
    intro l m q
    induction q with
    | nil => intro x hx; exact nomatch hx
    | @cons p q ps qs hq t ih =>
      intro x hx
      rcases List.mem_cons.mp hx with e | hx
      · subst e
        exact key_of ok (by rw [← hq.1]; exact hq.2.1)
      · exact ih x hx
  exact all r x hx
theorem dt_of {kvs : List (List Key × V)} (ok : HOk P w H h) (e : H a = some (.dT kvs)) : kvs.length ≤ sizeLine ∧ (a == sysModules) = false ∧
    ∃ xs, KT H kvs xs ∧ h.DictOfH (tupleKind (mixKind P w)) a xs := dt_rd ok (.inl e)
end

/-- what the dict at a holds at the key y -/
def DGet (H : Hp) (a : Addr) (y : V) (r : Option V) : Prop :=
  (∃ kvs k, Rd H a (.dK kvs) ∧ y = kV k ∧ r = valV kvs k) ∨ ∃ kvs k b, Rd H a (.dT kvs) ∧ y = .ref b ∧ H b = some (.tup (k.map kV)) ∧ r = valV kvs k
/-- the heap behind a[y] = v -/
def DPut (H : Hp) (a : Addr) (y v : V) (H' : Hp) : Prop :=
  (∃ kvs k, H a = some (.dK kvs) ∧ y = kV k ∧ kvs.length < sizeLine ∧ H' = upd H a (.dK (putK kvs k v))) ∨
  ∃ kvs k b, H a = some (.dT kvs) ∧ y = .ref b ∧ H b = some (.tup (k.map kV)) ∧ kvs.length < sizeLine ∧ H' = upd H a (.dT (putK kvs k v))
theorem DGet.k {H : Hp} {a : Addr} {kvs : List (Key × V)} {k : Key} (e : H a = some (.dK kvs)) : DGet H a (kV k) (valV kvs k) := .inl ⟨kvs, k, .inl e, rfl, rfl⟩
theorem DGet.t {H : Hp} {a b : Addr} {kvs : List (List Key × V)} {k : List Key} (e : H a = some (.dT kvs)) (eb : H b = some (.tup (k.map kV))) : DGet H a (.ref b) (valV kvs k) := .inr ⟨kvs, k, b, .inl e, rfl, eb, rfl⟩
theorem DPut.k {H : Hp} {a : Addr} {kvs : List (Key × V)} {k : Key} {v : V} (e : H a = some (.dK kvs)) (hl : kvs.length < sizeLine) : DPut H a (kV k) v (upd H a (.dK (putK kvs k v))) := .inl ⟨kvs, k, e, rfl, hl, rfl⟩
theorem DPut.t {H : Hp} {a b : Addr} {kvs : List (List Key × V)} {k : List Key} {v : V} (e : H a = some (.dT kvs)) (eb : H b = some (.tup (k.map kV))) (hl : kvs.length < sizeLine) :
    DPut H a (.ref b) v (upd H a (.dT (putK kvs k v))) := .inr ⟨kvs, k, b, e, rfl, eb, hl, rfl⟩


section
variable {X : Cx} {pins : List (Addr × Obj)} {σ : St} {H : Hp} {s : Shared} {a : Addr} {y v : V} {u r : Value} {o : Option V} {A : Around} {E : Value → Shared → Prop}

theorem Inv.big (I : Inv X pins σ H s) : sysModules < s.heap.objs.size := by
  have h : mainGlobals < s.heap.objs.size := (I.mod.glob.keeps I.bk).lt
  exact Nat.lt_trans (by decide) h

/-- d[y], there -/
theorem d_getItem {Q : Value → Shared → Prop} (hu : A.units + 1 < cLine) (I : Inv X pins σ H s) (g : DGet H a y (some v)) (ry : RelV y u) (h : ∀ w' s', Inv X pins σ H s' → RelV v w' → Q w' s') :
    wpAny (model X.prog X.w) A (getItem (.ref a) u) Q E s := by
  rcases g with ⟨kvs, k, e, ey, l⟩ | ⟨kvs, k, b, e, ey, eb, l⟩
  · subst ey
    obtain ⟨z, hd, vs, rel, dd⟩ := dk_rd I.hok e
    obtain ⟨w', hw, rw'⟩ := RelO.some_of (v := v) (o := valueAt vs k) (by rw [l]; exact rel.val k)
    exact wpAny_getItem_of (kV_is ry) dd.mapOf hw (h w' _ (I.tok _) rw')
  · subst ey
    cases (show u = Value.ref b from ry)
    obtain ⟨z, hd, xs, rel, dd⟩ := dt_rd I.hok e
    obtain ⟨w', hw, rw'⟩ := RelO.some_of (v := v) (o := (atKey xs k).map (·.2)) (by rw [l]; exact rel.val k)
    obtain ⟨p, hp, hp2⟩ := Option.map_eq_some_iff.mp hw
    refine wpAny_getItem_heap (tupleKind_room_in1 hu) (key_of I.hok eb) dd hp ?_
    rw [hp2]
    exact h w' _ (I.tok _) rw'
/-- y in d -/
theorem d_in {Q : Value → Shared → Prop} (hu : A.units + 1 < cLine) (I : Inv X pins σ H s) (g : DGet H a y o) (ry : RelV y u) (h : ∀ s', Inv X pins σ H s' → Q (.bool o.isSome) s') :
    wpAny (model X.prog X.w) A (compareOp .In u (.ref a)) Q E s := by
  rcases g with ⟨kvs, k, e, ey, l⟩ | ⟨kvs, k, b, e, ey, eb, l⟩
  · subst ey
    obtain ⟨z, hd, vs, rel, dd⟩ := dk_rd I.hok e
    refine wpAny_in_of (kV_is ry) hd dd.mapOf ?_
    rw [← (rel.val k).isSome_eq, ← l]
    exact h _ (I.tok _)
  · subst ey
    cases (show u = Value.ref b from ry)
    obtain ⟨z, hd, xs, rel, dd⟩ := dt_rd I.hok e
    refine wpAny_in_heap (tupleKind_room_in1 hu) (key_of I.hok eb) hd dd ?_
    have q := (rel.val k).isSome_eq
    rw [Option.isSome_map] at q
    rw [← q, ← l]
    exact h _ (I.tok _)
theorem d_notIn {Q : Value → Shared → Prop} (hu : A.units + 1 < cLine) (I : Inv X pins σ H s) (g : DGet H a y o) (ry : RelV y u) (h : ∀ s', Inv X pins σ H s' → Q (.bool (!o.isSome)) s') :
    wpAny (model X.prog X.w) A (compareOp .NotIn u (.ref a)) Q E s := by
  rcases g with ⟨kvs, k, e, ey, l⟩ | ⟨kvs, k, b, e, ey, eb, l⟩
  · subst ey
    obtain ⟨z, hd, vs, rel, dd⟩ := dk_rd I.hok e
    refine wpAny_notIn_of (kV_is ry) hd dd.mapOf ?_
    rw [← (rel.val k).isSome_eq, ← l]
    exact h _ (I.tok _)
  · subst ey
    cases (show u = Value.ref b from ry)
    obtain ⟨z, hd, xs, rel, dd⟩ := dt_rd I.hok e
    refine wpAny_notIn_heap (tupleKind_room_in1 hu) (key_of I.hok eb) hd dd ?_
    have q := (rel.val k).isSome_eq
    rw [Option.isSome_map] at q
    rw [← q, ← l]
    exact h _ (I.tok _)
/-- a dict's object is replaced -/
theorem d_write {h' : Heap} {t' : Nat} {ob : HO} (I : Inv X pins σ H s) (mu : Mut (H a)) (hs : Heap.SameBut a s.heap h') (he : ∃ q, h'.get? a = some q) (new : ObjOk X.prog X.w (upd H a ob) h' a ob) :
    Inv X pins σ (upd H a ob) { s with heap := h', toks := t' } :=
  I.write (x := a) (e := a) mu (.inl rfl) (fun b q hb z => (hs.2 b hb).trans z) he new
theorem dk_new {P : Program} {w : World} {H' : Hp} {h' : Heap} {kvs : List (Key × V)} {vs : List (Key × Value)} (z : kvs.length ≤ sizeLine) (hd : (a == sysModules) = false) (rel : KV kvs vs) (dd : h'.DictOf (mixKind P w) a vs) :
    ObjOk P w H' h' a (.dK kvs) := ⟨z, hd, vs, rel, dd⟩
/-- d[y] = v -/
theorem d_setItem {H' : Hp} {Q : Unit → Shared → Prop} (hu : A.units + 1 < cLine) (I : Inv X pins σ H s) (g : DPut H a y v H') (ry : RelV y u) (rv : RelV v r) (h : ∀ s', Inv X pins σ H' s' → Q () s') :
    wpAny (model X.prog X.w) A (setItem (.ref a) u r) Q E s := by
  rcases g with ⟨kvs, k, e, ey, l, eH⟩ | ⟨kvs, k, b, e, ey, eb, l, eH⟩
  · subst ey eH
    obtain ⟨z, hd, vs, rel, dd⟩ := dk_of I.hok e
    have hz : vs.length ≤ sizeLine := by rw [← rel.length]; exact z
    have hl : (putK kvs k v).length ≤ sizeLine := by have := length_putK kvs k v; omega
    refine wpAny_setItem_pairs (hsz := hz) (kV_is ry) dd fun h' dd' hs => h _ ?_
    have he : ∃ q, h'.get? a = some q := let ⟨q, _, _, hq, _⟩ := dd'; ⟨q, hq⟩
    exact d_write I (by rw [e]; exact True.intro) hs he (dk_new hl hd (rel.put k rv) dd')
  · subst ey eH
    cases (show u = Value.ref b from ry)
    obtain ⟨z, hd, xs, rel, dd⟩ := dt_of I.hok e
    have hz : xs.length ≤ sizeLine := by rw [← Paired.length rel]; exact z
    have hl : (putK kvs k v).length ≤ sizeLine := by have := length_putK kvs k v; omega
    refine wpAny_setItem_heap (hsz := hz) (tupleKind_room_in1 hu) (key_of I.hok eb) dd fun h' dd' hs => h _ ?_
    obtain ⟨q, es, ep, hq, h2, h3, h4, _, h5⟩ := dd'
    refine d_write I (by rw [e]; exact True.intro) hs ⟨q, hq⟩ ⟨hl, hd, _, (rel.put k eb rv).keeps fun c ys ec => ?_, q, es, ep, hq, h2, h3, h4, h5⟩
    rw [upd_ne (ne_of ec e (fun z => nomatch z))]
    exact ec
end

section
variable {X : Cx} {pins : List (Addr × Obj)} {σ : St} {H : Hp} {s : Shared} {a : Addr} {kvs : List (Key × V)} {k : Key} {u : Value} {A : Around} {E : Value → Shared → Prop}
end


/-! ### readings and rules -/
/-- the element of a subscription, not a slice -/
def NoSl (i : Expr) : Prop := ∀ ov iv, subscripted i false ov iv = operate [ov, iv] (getItem ov iv)
theorem subD_of {prog : Program} {w : World} {A : Around} {E : Value → Shared → Prop} {s : Shared} {env : Env} {value slice : Expr} {pos : Pos} {T id : String} {Q : Value → Shared → Prop}
    (hl : typeLookup (.type T) "__getitem__" = pure (some (.builtin id))) (hs : NoSl slice)
    (h : wpAny (model prog w) A (eval value env) (fun o s₁ => wpAny (model prog w) A (eval slice env) (fun i s₂ => s₂.TypeIs o T ∧ wpAny (model prog w) A (getItem o i) Q E s₂) E s₁) E s) :
    wpAny (model prog w) A (eval (.Subscript value slice pos) env) Q E s := by
  refine Subscript_ (wpAny_mono h (fun o s₁ h₁ => wpAny_mono h₁ (fun i s₂ h₂ => ?_) fun _ _ x => x) fun _ _ x => x)
  obtain ⟨hT, h₂⟩ := h₂
  unfold subscriptTail
  refine wpAny_bind ?_
  rw [getitemInPython_of_ne hT.not_modules]
  refine wpAny_bind (wpAny_specialOf hT hl ?_)
  have fin : wpAny (model prog w) A (subscripted slice false o i) (fun r s₃ => wpAny (model prog w) A (letTemporaryGo value o r >>= fun _ => pure r) Q E s₃) E s₂ := by
    rw [hs o i]
    exact wpAny_operating (wpAny_mono h₂ (fun r s₃ h₃ => wpAny_bind (wpAny_letTemporaryGo (wpAny_pure h₃))) fun _ _ x => x)
  first
    | exact wpAny_pure (wpAny_bind fin)
    | exact wpAny_bind (wpAny_pure (wpAny_bind fin))
    | exact wpAny_bind fin

theorem dict_typeIs {X : Cx} {pins : List (Addr × Obj)} {σ : St} {H : Hp} {s : Shared} {a : Addr} {y : V} {o : Option V} (I : Inv X pins σ H s) (g : DGet H a y o) : s.TypeIs (.ref a) "dict" := by
  rcases g with ⟨kvs, k, e, _, _⟩ | ⟨kvs, k, b, e, _, _, _⟩
  · obtain ⟨_, _, vs, _, dd⟩ := dk_rd I.hok e
    exact dd.typeIs
  · obtain ⟨_, _, xs, _, dd⟩ := dt_rd I.hok e
    exact dd.typeIs
/-- d[y] = v -/
def sDPut (td ty tv : TE) : TS := fun D σ H => tv σ H fun v H1 => td σ H1 fun x H2 => ty σ H2 fun y H3 => ∃ a H4, x = .ref a ∧ DPut H3 a y v H4 ∧ D.nx σ H4
section
variable {X : Cx} {o i e value : Expr} {pos pos' tpos : Pos} {td ty tv : TE}
theorem ps_dput (hu : X.A.units + 1 < cLine) (ho : PE X o td) (hi : PE X i ty) (hv : PE X value tv) (hs : swapsWith value (some (.Subscript o i pos')) pos.line X.env = pure false) :
    PS X (.Assign [.Subscript o i pos'] value pos) (sDPut td ty tv) := by
  intro pins s σ H D I h
  refine wpAny_Assign_Subscript (thn (hv pins s σ H _ I h) fun r s1 ⟨v, H1, I1, rv, q1⟩ => thn (ho pins s1 σ H1 _ I1 q1) fun u s2 ⟨x, H2, I2, rx, q2⟩ => thn (hi pins s2 σ H2 _ I2 q2) fun iv s3 ⟨y, H3, I3, ry, a, H4, ex, g, q3⟩ => ?_) hs
  subst ex
  obtain rfl : u = Value.ref a := rx
  exact d_setItem hu I3 g ry rv fun s4 I4 => ⟨σ, H4, I4, q3⟩
end


/-! ### displays -/
theorem dk_empty {P : Program} {w : World} {H : Hp} (h : Heap) (hb : sysModules < h.objs.size) : ObjOk P w H (h.push { cls := .type "dict", data := .dict #[] }) h.objs.size (.dK []) :=
  ⟨Nat.zero_le _, beq_eq_false_iff_ne.mpr (Ne.symm (Nat.ne_of_lt hb)), [], .nil, Heap.DictOf.new h⟩
/-- {}, to be a dict of the kind that is wanted -/
def tDNewK : TE := fun _ H Q => ∀ p, H p = none → Q (.ref p) (upd H p (.dK []))
section
variable {X : Cx} {pos : Pos}
theorem pe_dnewK : PE X (.Dict [] [] pos) tDNewK := fun pins s σ H Q I h =>
  wpAny_Dict_empty ⟨.ref s.heap.objs.size, _, I.laid (a := s.heap.objs.size) (o := .dK []) (t' := s.toks) (fun _ _ q => Heap.get?_push_of_some _ q) (Nat.le_refl _) (dk_empty s.heap I.big), rfl, h _ (I.hok.fresh (Nat.le_refl _))⟩
end

/-! ### methods -/
section
variable {X : Cx} {pins : List (Addr × Obj)} {σ : St} {H : Hp} {s : Shared} {a : Addr} {y d : V} {u r : Value} {o : Option V} {A : Around} {E : Value → Shared → Prop}
end

section
variable {X : Cx} {o e f : Expr} {apos cpos : Pos} {td ty tx : TE}
end

/-! ### dict(d): a copy -/
section
variable {X : Cx} {pins : List (Addr × Obj)} {σ : St} {H : Hp} {s : Shared} {a : Addr} {kvs : List (Key × V)} {A : Around} {E : Value → Shared → Prop}
theorem d_copyOf {Q : Value → Shared → Prop} (I : Inv X pins σ H s) (e : Rd H a (.dK kvs)) (h : ∀ p s', H p = none → Inv X pins σ (upd H p (.dK kvs)) s' → Q (.ref p) s') : wpAny (model X.prog X.w) A (call (.type "dict") [.ref a]) Q E s := by
  obtain ⟨z, hd, vs, rel, dd⟩ := dk_rd I.hok e
  refine kt_call_dict hd dd (by rw [← rel.length]; exact z) fun h' dd' hs => ?_
  refine h _ _ (I.hok.fresh (Nat.le_refl _)) (I.laid (a := s.heap.objs.size) (o := .dK kvs) (t' := s.toks) (fun b q hq => ?_) (Nat.le_refl _) (dk_new z (beq_eq_false_iff_ne.mpr (Ne.symm (Nat.ne_of_lt I.big))) rel dd'))
  exact (hs.2 b (Nat.ne_of_lt (Heap.lt_size hq))).trans (Heap.get?_push_of_some _ hq)
end


section
variable {X : Cx} {pins : List (Addr × Obj)} {σ : St} {H : Hp} {s : Shared} {a : Addr} {y : V} {u : Value} {A : Around} {E : Value → Shared → Prop}
end
end L2

namespace Att
open PySem PySem.W PySem.Calls PyProof.Rows

/-! ### the script -/
theorem ints_of_wellAll {P : Params} {h : Heap} : ∀ (ns : List Int) (vs : List Value), WellAll P h vs (ns.map WData.int) → IntsAre vs ns := by
  intro ns
  induction ns with
  | nil =>
    intro vs w
    rw [List.map_nil] at w
    cases w
    exact .nil
  | cons n ns ih =>
    intro vs w
    rw [List.map_cons] at w
    cases w with
    | cons a b =>
      cases a
      exact .cons _ _ (ih _ b)

theorem script_of {l : OpenLaw} {n : Nat} (hn : l.most = some n) {P : Params} {h : Heap} {args : List WData} {vals : List Value}
    (hpre : l.row.toRowW.claim.pre args = true) (hwl : WellAll P h vals args) :
    ∃ a vs ns, vals = [Value.ref a] ∧ args = [WData.list (ns.map WData.int)] ∧ h.get? a = some { cls := .type "list", data := .seq vs.toArray } ∧ IntsAre vs ns ∧ ns.length ≤ n := by
  have hsh : WShape.hasAll [] args [.list .int] = true := (pre_splitW hpre).1
  have hc : l.pre.holds [] { args := args } = true := (pre_splitW hpre).2
  obtain ⟨d, r, rfl, h1, h2⟩ := hasAllW_cons hsh
  obtain rfl := hasAllW_nil h2
  obtain ⟨xs, rfl, h3⟩ := hasW_list h1
  obtain ⟨ns, rfl⟩ := items_int h3
  have hlen : ns.length ≤ n := by
    unfold OpenLaw.pre at hc
    have h4 : (WTm.not (.lt (.lit (.int (n : Int))) (.len (.arg 0)))).holds [] { args := [.list (ns.map .int)] } = true := by
      have h4 := (holds_andW hc).1
      rw [hn] at h4
      exact h4
    have h5 := condW_of h4 (w_not (w_lt w_lit (w_len_list (w_arg rfl))))
    rw [List.length_map] at h5
    refine Nat.le_of_not_lt fun q => ?_
    have q' : (n : Int) < ((ns.length : Nat) : Int) := by omega
    first
      | (rw [decide_eq_true q'] at h5; exact absurd h5 (by decide))
      | (simp at h5; omega)
  cases hwl with
  | cons w1 w2 =>
    cases w2
    cases w1 with
    | list ho hall => exact ⟨_, _, ns, rfl, rfl, ho, ints_of_wellAll ns _ hall, hlen⟩

theorem post_true (l : OpenLaw) (args : List WData) : l.row.toRowW.claim.post args (.bool true) args = true :=
  postW_of (r := l.row.toRowW) (X := (true == true))
    (show WShape.has [] (.bool true) .bool = true by first | rfl | decide | simp [WShape.has, WShape.arms, WShape.armsAll])
    (show (WTm.eq .res (.lit (.bool true))).value [] { args := args, res := some (.bool true), after := args } = some (.bool (true == true)) from w_eq_bool (w_res rfl) w_lit) rfl

/-! ### the attachment: holds_open's last premise (the goal 'hc' behind k_head) from a wpAny of the law's body -/
/-- the same from a codeAny of the CALL (for a layer whose function contracts speak of calls) -/
theorem attach_call {l : OpenLaw} {n : Nat} {q : Program} {loose : List Str} {XP : (Str → Option Value) → Heap → Prop} {YP : World → Heap → Prop} {d : DefRec}
    (hn : l.most = some n) (hdf : d.params.defaults = [])
    (call : ∀ (w : World) (s₀ s₁ : Shared) (mg mb : Str → Option Value) (fa : Addr) (o : Obj) (pm cd doc : Value) (a : Addr) (vs : List Value) (ns : List Int),
      Ground q loose [] XP w s₀ mg mb s₁.heap → YP w s₁.heap →
      s₁.heap.get? fa = some o → o.data = .func (docDef d.name d.params d.body d.scope pm cd doc) → s₁.heap.CodeRec cd d.name → mg d.name = some (.ref fa) →
      s₁.heap.get? a = some { cls := .type "list", data := .seq vs.toArray } → IntsAre vs ns → ns.length ≤ n → s₁.gens = #[] →
      codeAny (model l.prog w) callerA (.call (.ref fa) ⟨[.ref a], []⟩) (fun r s' => r = .ok (.ret (.bool true)) ∧ OldK s₁.heap s'.heap ∧ s'.os = s₁.os ∧ AllBare s'.gens) s₁) :
    WalkO q loose XP YP l.row.toRowW d [] (fun f vs => PySem.call f vs) := by
  intro w s₀ s₁ mg mb G Y fa o pm cd doc dV kV ho hd hcd hD hmg hg args vals as hpre hlay hrd hwl hlo
  obtain rfl : dV = .none := Dflts.none hD hdf
  obtain rfl : kV = .none := Dflts.noKw hD
  obtain ⟨a, vs, ns, rfl, rfl, hobj, hints, hlen⟩ := script_of hn hpre hwl
  refine enter_call (codeAny_mono (call w s₀ s₁ mg mb fa o pm cd doc a vs ns G Y ho (fd_plain hd) hcd hmg hobj hints hlen hg) fun r s' hq => ?_)
  obtain ⟨rfl, h2, h3, h4⟩ := hq
  exact ⟨.inl ⟨.bool true, .bool true, [], rfl, fun _ => rfl, .bool true, post_true l _, fun _ => ⟨List.Pairwise.nil, fun _ hm => (nomatch hm)⟩⟩, h2, h3, h4⟩

/-! ### rules over ANY heap (no ledger) from facts about the written part K: the library's own take a ledger (News) for what they write -/
section
variable {prog : Program} {w : World} {A : Around} {E : Value → Shared → Prop} {s : Shared} {K : Frag}

/-! the whole heap as the ledger: makes every rule that writes through a ledger a rule over any heap -/
def ledger (h : Heap) (L d : Addr) : List (Addr × Obj) := (List.range h.objs.size).filterMap fun a => if a = L ∨ a = d then none else (h.get? a).map fun o => (a, o)
end
end Att

namespace L2
open PySem PySem.Spec PyProof.Rows

theorem vals_ints : ∀ {vs : List Value} {ns : List Int}, IntsAre vs ns → Vals (ns.map V.int) vs
  | _, _, .nil => .nil
  | _, _, .cons n t h => .cons ⟨t, rfl⟩ (vals_ints h)

/-- nothing is tracked but the script, known to the object (or it is an object of the module) -/
def Only (H : Hp) : Prop := ∀ b, H b = none ∨ ∃ o xs, H b = some (.frz o (.lst xs))

/-- THE HEAD: the law's promise, at the heap behind the top. F, the promise of the law's def, may use that base is part of the heap (so K.In base, base.Ns mainGlobals mg stand in Mod) -/
theorem law_call {P : Program} {w : World} {K : PySem.W.Frag} {mg mb : Str → Option Value} {CX : CXT} {k : Nat} {fa a : Addr} {fd : FuncData} {x : Str} {sp : Sp} {s₁ : Shared} {vs : List Value} {ns : List Int}
    (KX : K.In s₁.heap) (hns : s₁.heap.Ns mainGlobals mg) (hb : s₁.heap.Ns builtinsNs mb) (hbb : ∀ x : Str, x ≠ "__name__" → mb x = bootBuiltins x) (hlim : s₁.heap.NoLimit) (hg : s₁.gens = #[])
    (ha : s₁.heap.get? a = some { cls := .type "list", data := .seq vs.toArray }) (hi : IntsAre vs ns) (hl : ns.length ≤ sizeLine) (hr : Room k callerA)
    (F : ∀ base : Heap, K.In base → base.Ns mainGlobals mg → FnOk P w K mg base CX k fa fd [x] sp) (hbind : ∀ (s : Shared) (u : Value), BindsTo s fd ⟨[u], []⟩ [(x, u)])
    (hsp : ∀ H : Hp, Only H → SqL K H a (ns.map V.int) → sp [.ref a] H (fun v _ => v = .bl true) fun _ _ _ => False)
    (hCX : ∀ H e s', CX [] H s₁ (fun _ _ _ => False) e s' → False) :
    codeAny (model P w) callerA (.call (.ref fa) ⟨[.ref a], []⟩) (fun r s' => r = .ok (.ret (.bool true)) ∧ OldK s₁.heap s'.heap ∧ s'.os = s₁.os ∧ AllBare s'.gens) s₁ := by
  have rv := vals_ints hi
  have lenV := hi.length
  -- from an abstract heap in which nothing but the script may be tracked
  have core : ∀ H : Hp, Only H → SqL K H a (ns.map V.int) → HOk P w H s₁.heap → (∀ b, H b ≠ none → b = a) → (H a ≠ none → K.lookup a = none) →
      codeAny (model P w) callerA (.call (.ref fa) ⟨[.ref a], []⟩) (fun r s' => r = .ok (.ret (.bool true)) ∧ OldK s₁.heap s'.heap ∧ s'.os = s₁.os ∧ AllBare s'.gens) s₁ := by
    intro H hO hS hok hA hK
    have base_of : ∀ {b : Addr} {o : Obj}, s₁.heap.get? b = some o → H b = none → (hidT s₁.heap H).get? b = some o := fun e n => hidT_get e n
    have noA : ∀ {b : Addr} {o : Obj} {es : Array DictEntry} {ep : Nat}, s₁.heap.get? b = some o → o.data = .dict es ep → H b = none := fun {b o es ep} e d => by
      cases q : H b with
      | none => rfl
      | some u =>
        have e' : b = a := hA b (by rw [q]; simp)
        subst e'
        rw [ha] at e; cases e
        have d' : Data.seq vs.toArray _ = Data.dict es ep := d
        cases d'
    have nsK : ∀ {b : Addr} {m : Str → Option Value}, s₁.heap.Ns b m → (hidT s₁.heap H).Ns b m := fun {b m} ⟨o, es, ep, e, d, r⟩ => ⟨o, es, ep, base_of e (noA e d), d, r⟩
    have hKb : K.In (hidT s₁.heap H) := fun b o e => base_of (KX b o e) (by
      cases q : H b with
      | none => rfl
      | some u =>
        have e' : b = a := hA b (by rw [q]; simp)
        subst e'
        rw [hK (by rw [q]; simp)] at e; cases e)
    have hM : Mod K mg (hidT s₁.heap H) := ⟨hKb, nsK hns, ⟨mb, nsK hb, hbb⟩, let ⟨mc, h1, h2⟩ := hlim; ⟨mc, nsK h1, h2⟩⟩
    have e0 : Env0 P w K mg (hidT s₁.heap H) callerA [] s₁ H := ⟨rfl, hM, fun b o e => of_hidT e, Nat.le_of_eq (hidT_size _ _), trivial, fun b hb => absurd (show b ∈ ([] : List Addr) from hb) (by simp), hok, .of_eq hg⟩
    refine codeAny_mono ((F _ hKb (nsK hns)).run callerA [] s₁ H ⟨[.ref a], []⟩ [.ref a] [.ref a] _ _ hr e0 (hbind s₁ (.ref a)) (.cons rfl .nil) (hsp H hO hS)) fun r s' h => ?_
    cases r with
    | error e => exact (hCX H e s' h).elim
    | ok fl =>
      cases fl with
      | next => exact False.elim h
      | brk => exact False.elim h
      | cont => exact False.elim h
      | ret u =>
        obtain ⟨v, H', os, bare, un, hok', r', q⟩ := h
        have q' : v = .bl true := q
        subst q'
        obtain rfl : u = Value.bool true := r'
        refine ⟨rfl, OldK.of_keep fun b o e => ?_, os, bare⟩
        cases q : H b with
        | none => exact un.keep b o e q (by intro z; exact absurd (show b ∈ ([] : List Addr) from z) (by simp)) (by simp)
        | some u =>
          rcases hO b with z | ⟨ob, xs, z⟩
          · rw [q] at z; cases z
          · have z2 := un.frzs b ob _ z
            obtain ⟨e1, _⟩ := hok b _ z
            obtain ⟨e2, _⟩ := hok' b _ z2
            rw [e] at e1; cases e1
            exact e2
  cases hk : K.lookup a with
  | some o =>
    -- the script is one of the module's own objects
    have e := KX a o hk
    rw [ha] at e
    cases e
    refine core (fun _ => none) (fun _ => .inl rfl) (.inr ⟨_, vs.toArray, _, hk, rfl, rfl, rfl, by rw [List.size_toArray, lenV]; exact hl, by simpa using rv⟩) (fun b u z => by have z' : (none : Option HO) = some u := z; cases z') (fun b z => absurd rfl z) fun z => absurd rfl z
  | none =>
    refine core (fun b => if b = a then some (.frz { cls := .type "list", data := .seq vs.toArray } (.lst (ns.map V.int))) else none) (fun b => ?_) (.inl (.inr ⟨{ cls := .type "list", data := .seq vs.toArray }, if_pos rfl⟩)) (fun b u z => ?_) (fun b z => ?_) fun _ => hk
    · by_cases hb : b = a
      · exact .inr ⟨_, _, if_pos hb⟩
      · exact .inl (if_neg hb)
    · by_cases hb : b = a
      · have z' := (if_pos hb).symm.trans z
        cases z'
        subst hb
        exact ⟨ha, by rw [List.length_map]; exact hl, vs, _, rv, ha⟩
      · have z' := (if_neg hb).symm.trans z
        cases z'
    · by_cases hb : b = a
      · exact hb
      · exact absurd (if_neg hb) z
end L2

namespace L2
open PySem PySem.Spec PyProof.Rows

abbrev KOf {K : PySem.W.Frag} {h : Heap} (_ : K.In h) : PySem.W.Frag := K

/-- the goal that k_head leaves (case hc), from the law's promise. F gives the function object fd (K's own) once, then the promise over every base -/
theorem walk_of {l : PySem.W.OpenLaw} {n k : Nat} {q : Program} {loose : List Str} {XP : (Str → Option Value) → Heap → Prop} {YP : World → Heap → Prop} {d : DefRec} {K : Params → PySem.W.Frag} {CX : World → CXT} {sp : World → Sp} {x : Str}
    (hn : l.most = some n) (hn2 : n ≤ sizeLine) (hdf : d.params.defaults = []) (hr : Room k callerA)
    (hY : ∀ (w : World) (h : Heap), YP w h → (K w.params).In h)
    (F : ∀ (w : World) (mg : Str → Option Value) (fa : Addr) (h : Heap), (K w.params).In h → h.Ns mainGlobals mg → mg d.name = some (.ref fa) →
      ∃ fd : FuncData, (∀ (s : Shared) (u : Value), BindsTo s fd ⟨[u], []⟩ [(x, u)]) ∧
        ∀ base : Heap, (K w.params).In base → base.Ns mainGlobals mg → FnOk l.prog w (K w.params) mg base (CX w) k fa fd [x] (sp w))
    (hsp : ∀ (w : World) (H : Hp) (a : Addr) (ns : List Int), ns.length ≤ n → Only H → SqL (K w.params) H a (ns.map V.int) → sp w [.ref a] H (fun v _ => v = .bl true) fun _ _ _ => False)
    (hCX : ∀ (w : World) (H : Hp) (s : Shared) (e : Value) (s' : Shared), CX w [] H s (fun _ _ _ => False) e s' → False) :
    PySem.W.WalkO q loose XP YP l.row.toRowW d [] (fun f vs => PySem.call f vs) := by
  refine Att.attach_call hn hdf fun w s₀ s₁ mg mb fa o pm cd doc a vs ns G Y ho hd hcd hmg hobj hints hlen hg => ?_
  have KX := hY w _ Y
  obtain ⟨fd, hb, hF⟩ := F w mg fa _ KX G.T.g hmg
  exact law_call KX G.T.g G.T.b G.T.builtins G.T.nolimit hg hobj hints (Nat.le_trans hlen hn2) hr hF hb (fun H hO hS => hsp w H a ns hlen hO hS) fun H e s' => hCX w H s₁ e s'
end L2

/- THE LAST THEOREM (shape; LID, My.* are yours):
   My.Adr: a structure of the addresses that your layer names (classes, functions); My.Txt K t: a structure (Prop) of the equations over K;
   My.txt_mk : {K} {implicit addresses ..} (e1 : nsIn K mainGlobals "law" = some (some (.ref f))) (e2 : K.lookup f = some ⟨oc, od, .func (fnOf "law" "law" params body scope dV kV doc pm an cdv ct), sl⟩) (e3 : codeIn K cdv "law" = true) .. : ∃ t, My.Txt K t

set_option maxRecDepth 100000 in
set_option maxHeartbeats 0 in
theorem PySem.Challenge.cw_LID_holds : PySem.Challenge.rw_LID.Holds := by
  w_on; o_law; k_head; (case hw => w_witness2)
  k_fill
  refine L2.walk_of (l := PySem.Challenge.rw_LID) (n := 63) (k := 40) (x := "script") (CX := fun w => ..) (sp := fun _ => My.sp_law) rfl (by decide) rfl ⟨rfl, by decide, by decide⟩ (fun w h Y => PySem.W.kIn_of Y) ?F ?S ?C
  case F =>
    intro w mg fa h KX G hmg
    have T : ∃ t, My.Txt (L2.KOf KX) t := by
      dsimp only [L2.KOf]                          -- K must stand as «<heap const> w.params» for k_is
      refine' My.txt_mk ?e1 ?e2 ?e3 ..
      (case e1 => PySem.W.k_is)                    -- in the order: a name -> its address -> its object -> its parts
      (case e2 => PySem.W.k_is)
      ..
    obtain ⟨t, T⟩ := T
    have e0 := hmg.symm.trans (PySem.W.mg_of KX G T.law)
    cases e0                                       -- fa is the law's own address
    exact ⟨_, fun s u => .of_eq rfl, fun base kb nb => My.law_fn T kb nb⟩     -- if «.of_eq rfl» comes too early: refine' ⟨_, ?b, fun base kb nb => My.law_fn T kb nb⟩; exact fun s u => .of_eq rfl
  case S => exact fun w H a ns hl hO hS => ..
  case C => exact ..
(the tactic k_is has no namespace: write k_is) -/

/-! SHORT WORDS over the layer: a def of the text, its body, what a loop and a test want. -/
namespace L2
open PySem PySem.Spec PyProof.Rows

/-! ### the text by places -/
def defArgs (s : Stmt) : Arguments := match s with
  | .FunctionDef _ a _ _ _ _ _ _ _ _ => a
  | _ => { posonlyargs := [], args := [], vararg := none, kwonlyargs := [], kw_defaults := [], kwarg := none, defaults := [] }
def defBody (s : Stmt) : List Stmt := match s with
  | .FunctionDef _ _ b _ _ _ _ _ _ _ => b
  | _ => []
def defScope (s : Stmt) : Scope := match s with
  | .FunctionDef _ _ _ _ _ _ sc _ _ _ => sc
  | _ => { kind := .function, names := [], isGenerator := false, isCoroutine := false }

/-! ### no exception leaves a def -/
abbrev E0 : XK := fun _ _ _ => False
/-! ### a def (or method) of the text as it stands behind the top -/
structure Fun (K : PySem.W.Frag) (x qual : Str) (st : Stmt) (f : Addr) (fd : FuncData) : Prop where
  ex : ∃ (oc : Value) (od : Option Addr) (kV doc pm : Value) (an : Option Addr) (cdv ct : Value) (osl : Array (Option Value)),
    fd = PySem.W.fnOf x qual (defArgs st) (defBody st) (defScope st) .none kV doc pm an cdv ct ∧ K.lookup f = some ⟨oc, od, .func fd, osl⟩ ∧ PySem.W.codeIn K cdv qual = true
  kp : PySem.W.keepIn K (.ref f) = true
section
variable {P : Program} {w : World} {K : PySem.W.Frag} {mg : Str → Option Value} {base : Heap}
/-- how its arguments bind (no defaults): h is «fun _ _ _ _ _ _ us hl => match us, hl with | [_, _], _ => rfl», one _ a parameter -/
theorem Fun.binds {x qual : Str} {st : Stmt} {f : Addr} {fd : FuncData} {ps : List Str} (F : Fun K x qual st f fd)
    (h : ∀ (kV doc pm : Value) (an : Option Addr) (cdv ct : Value) (us : List Value), us.length = ps.length → bindArgs (PySem.W.fnOf x qual (defArgs st) (defBody st) (defScope st) .none kV doc pm an cdv ct) ⟨us, []⟩ = pure (ps.zip us)) : Binds K fd ps [] := by
  obtain ⟨oc, od, kV, doc, pm, an, cdv, ct, osl, rfl, lk, hcd⟩ := F.ex
  exact .all (h kV doc pm an cdv ct)
theorem fun_mk {x qual : Str} {st : Stmt} {f : Addr} {oc : Value} {od an : Option Addr} {osl : Array (Option Value)} {kV doc pm cdv ct : Value} (l : K.lookup f = some ⟨oc, od, .func (PySem.W.fnOf x qual (defArgs st) (defBody st) (defScope st) .none kV doc pm an cdv ct), osl⟩)
    (c : PySem.W.codeIn K cdv qual = true) (k : PySem.W.keepIn K (.ref f) = true) : Fun K x qual st f (PySem.W.fnOf x qual (defArgs st) (defBody st) (defScope st) .none kV doc pm an cdv ct) := ⟨⟨oc, od, kV, doc, pm, an, cdv, ct, osl, rfl, l, c⟩, k⟩
end
/-! ### expressions in short: the name that stands in the i-th slot -/
section
variable {X : Cx}
end

/-! ### tests -/
/-! ### heaps -/
/-- all that was tracked is as it was -/
def Same (H H' : Hp) : Prop := ∀ b o, H b = some o → H' b = some o
theorem Same.refl (H : Hp) : Same H H := fun _ _ h => h
theorem Same.trans {H H1 H2 : Hp} (a : Same H H1) (b : Same H1 H2) : Same H H2 := fun c o h => b c o (a c o h)
theorem Same.free {H H' : Hp} (e : Same H H') {l : Addr} (h : H' l = Option.none) : H l = Option.none := by
  cases q : H l with
  | none => rfl
  | some o =>
    rw [e l o q] at h
    cases h
theorem Same.seq {K : PySem.W.Frag} {H H' : Hp} {a : Addr} {xs : List V} (e : Same H H') (h : SqL K H a xs) : SqL K H' a xs := by
  rcases h with (h | ⟨o, h⟩) | h
  · exact .inl (.inl (e _ _ h))
  · exact .inl (.inr ⟨o, e _ _ h⟩)
  · exact .inr h

/-! ### a dict's pairs: keys that differ -/
section
variable {κ : Type} [DecidableEq κ]
end
end L2

namespace D3
open PySem PySem.Spec PyProof.Rows L2

/-! ### data: trees of values; lists and dicts as they stand -/
inductive D where
  | non | bl (b : Bool) | int (i : Int) | str (x : Str) | tup (xs : List D) | lst (xs : List D) | dct (kvs : List (Key × D)) | ty (n : String) | ob (a : Addr) | ins (c : Str) (fs : List (Str × D)) | fn (x : Str) | exn (c : Str) | set (ks : List Key)
/-- frozen (nobody changes it any more), fresh (nobody else has it), borrowed (a name of the frame owns it) -/
inductive Md where | fz | fr | bo
  deriving DecidableEq
inductive Res where
  | ok (m : Md) (d : D) | exc (c : Str) | stuck

/-- an error of the class at C -/
def xobj (a C : Addr) : HO := .ext fun h => ∃ o, h.get? a = some o ∧ o.cls = .ref C
def SetIs (S : Key → Bool) (ks : List Key) : Prop := ks.Nodup ∧ ∀ k, S k = true ↔ k ∈ ks
mutual
def RepV (K : PySem.W.Frag) (F : Hp) : D → V → Prop
  | .non, v => v = .non
  | .bl b, v => v = .bl b
  | .int i, v => v = .int i
  | .str x, v => v = .str x ∧ x.length ≤ sizeLine ∧ PyData.strOk x = true
  | .tup ds, v => ∃ a xs, v = .ref a ∧ SqT K F a xs ∧ RepL K F ds xs
  | .lst ds, v => ∃ a xs, v = .ref a ∧ SqL K F a xs ∧ RepL K F ds xs
  | .dct kvs, v => ∃ a xs, v = .ref a ∧ F a = some (.dK xs) ∧ RepK K F kvs xs
  | .ty n, v => v = .ty n
  | .ob a, v => v = .ref a
  | .ins c fs, v => ∃ a C dx gs, v = .ref a ∧ PySem.W.nsIn K mainGlobals c = some (some (.ref C)) ∧ F a = some (.ins C dx gs) ∧ RepF K F fs gs
  | .fn x, v => ∃ a, v = .ref a ∧ PySem.W.nsIn K mainGlobals x = some (some (.ref a))
  | .exn c, v => ∃ a C, v = .ref a ∧ PySem.W.nsIn K mainGlobals c = some (some (.ref C)) ∧ F a = some (xobj a C)
  | .set ks, v => ∃ a S, v = .ref a ∧ F a = some (.set S ks.length) ∧ SetIs S ks
def RepL (K : PySem.W.Frag) (F : Hp) : List D → List V → Prop
  | [], xs => xs = []
  | d :: ds, xs => ∃ y ys, xs = y :: ys ∧ RepV K F d y ∧ RepL K F ds ys
def RepK (K : PySem.W.Frag) (F : Hp) : List (Key × D) → List (Key × V) → Prop
  | [], xs => xs = []
  | (k, d) :: ds, xs => ∃ y ys, xs = (k, y) :: ys ∧ RepV K F d y ∧ RepK K F ds ys
def RepF (K : PySem.W.Frag) (F : Hp) : List (Str × D) → List (Str × V) → Prop
  | [], xs => xs = []
  | (k, d) :: ds, xs => ∃ y ys, xs = (k, y) :: ys ∧ RepV K F d y ∧ RepF K F ds ys
end

theorem Same.seqT {K : PySem.W.Frag} {H H' : Hp} {a : Addr} {xs : List V} (e : Same H H') (h : SqT K H a xs) : SqT K H' a xs := by
  rcases h with (h | ⟨o, h⟩) | h
  · exact .inl (.inl (e _ _ h))
  · exact .inl (.inr ⟨o, e _ _ h⟩)
  · exact .inr h

section
variable {K : PySem.W.Frag} {F F' : Hp}
mutual
theorem RepV.mono (s : Same F F') : ∀ (d : D) (v : V), RepV K F d v → RepV K F' d v
  | .non, _, h => by simpa only [RepV] using h
  | .bl _, _, h => by simpa only [RepV] using h
  | .int _, _, h => by simpa only [RepV] using h
  | .str _, _, h => by simpa only [RepV] using h
  | .tup ds, v, h => by
    simp only [RepV] at h ⊢
    obtain ⟨a, xs, e, q, r⟩ := h
    exact ⟨a, xs, e, Same.seqT s q, RepL.mono s ds xs r⟩
  | .lst ds, v, h => by
    simp only [RepV] at h ⊢
    obtain ⟨a, xs, e, q, r⟩ := h
    exact ⟨a, xs, e, s.seq q, RepL.mono s ds xs r⟩
  | .dct ds, v, h => by
    simp only [RepV] at h ⊢
    obtain ⟨a, xs, e, q, r⟩ := h
    exact ⟨a, xs, e, s _ _ q, RepK.mono s ds xs r⟩
  | .ty _, _, h => by simpa only [RepV] using h
  | .ob _, _, h => by simpa only [RepV] using h
  | .fn _, _, h => by simpa only [RepV] using h
  | .exn _, _, h => by
    simp only [RepV] at h ⊢
    obtain ⟨a, C, e, n, q⟩ := h
    exact ⟨a, C, e, n, s _ _ q⟩
  | .set _, _, h => by
    simp only [RepV] at h ⊢
    obtain ⟨a, S, e, q, r⟩ := h
    exact ⟨a, S, e, s _ _ q, r⟩
  | .ins c fs, v, h => by
    simp only [RepV] at h ⊢
    obtain ⟨a, C, dx, gs, e, n, q, r⟩ := h
    exact ⟨a, C, dx, gs, e, n, s _ _ q, RepF.mono s fs gs r⟩
theorem RepL.mono (s : Same F F') : ∀ (ds : List D) (xs : List V), RepL K F ds xs → RepL K F' ds xs
  | [], _, h => by simpa only [RepL] using h
  | d :: ds, xs, h => by
    simp only [RepL] at h ⊢
    obtain ⟨y, ys, e, q, r⟩ := h
    exact ⟨y, ys, e, RepV.mono s d y q, RepL.mono s ds ys r⟩
theorem RepK.mono (s : Same F F') : ∀ (ds : List (Key × D)) (xs : List (Key × V)), RepK K F ds xs → RepK K F' ds xs
  | [], _, h => by simpa only [RepK] using h
  | (k, d) :: ds, xs, h => by
    simp only [RepK] at h ⊢
    obtain ⟨y, ys, e, q, r⟩ := h
    exact ⟨y, ys, e, RepV.mono s d y q, RepK.mono s ds ys r⟩
theorem RepF.mono (s : Same F F') : ∀ (ds : List (Str × D)) (xs : List (Str × V)), RepF K F ds xs → RepF K F' ds xs
  | [], _, h => by simpa only [RepF] using h
  | (k, d) :: ds, xs, h => by
    simp only [RepF] at h ⊢
    obtain ⟨y, ys, e, q, r⟩ := h
    exact ⟨y, ys, e, RepV.mono s d y q, RepF.mono s ds ys r⟩
end
theorem RepF.look : ∀ {ds : List (Str × D)} {xs : List (Str × V)} {f : Str} {d : D}, RepF K F ds xs → ds.lookup f = some d → ∃ v, xs.lookup f = some v ∧ RepV K F d v
  | [], _, _, _, h, e => by cases e
  | (k, d') :: ds, _, f, d, h, e => by
    simp only [RepF] at h
    obtain ⟨y, ys, rfl, q, r⟩ := h
    rw [List.lookup_cons] at e ⊢
    split at e
    · cases e; exact ⟨y, rfl, q⟩
    · exact RepF.look r e
theorem RepL.length : ∀ {ds : List D} {xs : List V}, RepL K F ds xs → xs.length = ds.length
  | [], _, h => by simp only [RepL] at h; subst h; rfl
  | d :: ds, _, h => by
    simp only [RepL] at h
    obtain ⟨y, ys, rfl, _, r⟩ := h
    rw [List.length_cons, List.length_cons, RepL.length r]
theorem RepL.get : ∀ {ds : List D} {xs : List V} {i : Nat} {x : V}, RepL K F ds xs → xs[i]? = some x → ∃ d, ds[i]? = some d ∧ RepV K F d x
  | [], _, _, _, h, e => by simp only [RepL] at h; subst h; simp at e
  | d :: ds, _, 0, _, h, e => by
    simp only [RepL] at h
    obtain ⟨y, ys, rfl, r, _⟩ := h
    simp at e; subst e; exact ⟨d, rfl, r⟩
  | d :: ds, _, i + 1, _, h, e => by
    simp only [RepL] at h
    obtain ⟨y, ys, rfl, _, r⟩ := h
    obtain ⟨d', e', r'⟩ := RepL.get (i := i) r (by simpa using e)
    exact ⟨d', by simpa using e', r'⟩
theorem RepL.get' : ∀ {ds : List D} {xs : List V} {i : Nat} {d : D}, RepL K F ds xs → ds[i]? = some d → ∃ x, xs[i]? = some x ∧ RepV K F d x
  | [], _, _, _, h, e => by simp at e
  | d :: ds, _, 0, _, h, e => by
    simp only [RepL] at h
    obtain ⟨y, ys, rfl, r, _⟩ := h
    simp at e; subst e; exact ⟨y, rfl, r⟩
  | d :: ds, _, i + 1, _, h, e => by
    simp only [RepL] at h
    obtain ⟨y, ys, rfl, _, r⟩ := h
    obtain ⟨d', e', r'⟩ := RepL.get' (i := i) r (by simpa using e)
    exact ⟨d', by simpa using e', r'⟩
theorem RepL.append : ∀ {ds es : List D} {xs ys : List V}, RepL K F ds xs → RepL K F es ys → RepL K F (ds ++ es) (xs ++ ys)
  | [], _, _, _, h, r => by simp only [RepL] at h; subst h; exact r
  | d :: ds, _, _, _, h, r => by
    simp only [RepL] at h
    obtain ⟨y, ys, rfl, q, t⟩ := h
    show RepL K F (d :: (ds ++ _)) (y :: (ys ++ _))
    simp only [RepL]
    exact ⟨y, _, rfl, q, RepL.append t r⟩
theorem RepL.nil : RepL K F [] [] := by simp only [RepL]
theorem RepL.cons {d : D} {ds : List D} {x : V} {xs : List V} (h : RepV K F d x) (r : RepL K F ds xs) : RepL K F (d :: ds) (x :: xs) := by simp only [RepL]; exact ⟨x, xs, rfl, h, r⟩
end

/-- the list or dict at a in H, its contents frozen -/
def Top (K : PySem.W.Frag) (F H : Hp) (a : Addr) : D → Prop
  | .lst ds => ∃ xs, H a = some (.lst xs) ∧ RepL K F ds xs
  | .dct ds => ∃ xs, H a = some (.dK xs) ∧ RepK K F ds xs
  | .ins c fs => ∃ C dx gs, PySem.W.nsIn K mainGlobals c = some (some (.ref C)) ∧ H a = some (.ins C dx gs) ∧ RepF K F fs gs
  | .set ks => ∃ S, H a = some (.set S ks.length) ∧ SetIs S ks
  | _ => False
def Rp (K : PySem.W.Frag) (F H : Hp) (m : Md) (d : D) (v : V) : Prop :=
  match m with
  | .fz => RepV K F d v
  | _ => ∃ a, v = .ref a ∧ F a = none ∧ Top K F H a d
/-- from a state to a later one: nothing that stood is changed; what is newly frozen is new -/
structure Step (F H F' H' : Hp) : Prop where
  same : Same H H'
  fsame : Same F F'
  sub : Same F' H'
  new : ∀ a, F a = none → H a ≠ none → F' a = none
theorem Step.refl {F H : Hp} (h : Same F H) : Step F H F H := ⟨Same.refl _, Same.refl _, h, fun _ h _ => h⟩
theorem Step.trans {F H F1 H1 F2 H2 : Hp} (a : Step F H F1 H1) (b : Step F1 H1 F2 H2) : Step F H F2 H2 :=
  ⟨a.same.trans b.same, a.fsame.trans b.fsame, b.sub, fun x h1 h2 => b.new x (a.new x h1 h2) (by
    cases e : H x with
    | none => exact absurd e h2
    | some o => rw [a.same x o e]; exact fun z => nomatch z)⟩
/-- a new object, frozen at once -/
theorem Step.laid {F H : Hp} {p : Addr} (o : HO) (h : Same F H) (hp : H p = none) : Step F H (upd F p o) (upd H p o) := by
  have hf : F p = none := h.free hp
  refine ⟨fun b u e => ?_, fun b u e => ?_, fun b u e => ?_, fun a h1 h2 => ?_⟩
  · rw [upd_ne (ne_of_none e hp)]; exact e
  · rw [upd_ne (ne_of_none e hf)]; exact e
  · by_cases hb : b = p
    · subst hb; rw [upd_same] at e ⊢; exact e
    · rw [upd_ne hb] at e ⊢; exact h b u e
  · have : a ≠ p := by rintro rfl; exact h2 hp
    rw [upd_ne this]; exact h1
/-- a new object, not frozen -/
theorem Step.fresh {F H : Hp} {p : Addr} (o : HO) (h : Same F H) (hp : H p = none) : Step F H F (upd H p o) := by
  refine ⟨fun b u e => ?_, Same.refl _, fun b u e => ?_, fun a h1 _ => h1⟩
  · rw [upd_ne (ne_of_none e hp)]; exact e
  · rw [upd_ne (ne_of_none (h b u e) hp)]; exact h b u e
theorem Top.step {K : PySem.W.Frag} {F H F' H' : Hp} {a : Addr} {d : D} (st : Step F H F' H') (h : Top K F H a d) : Top K F' H' a d := by
  cases d with
  | lst ds => obtain ⟨xs, e, r⟩ := h; exact ⟨xs, st.same _ _ e, r.mono st.fsame _ _⟩
  | dct ds => obtain ⟨xs, e, r⟩ := h; exact ⟨xs, st.same _ _ e, r.mono st.fsame _ _⟩
  | ins c fs => obtain ⟨C, dx, gs, n, e, r⟩ := h; exact ⟨C, dx, gs, n, st.same _ _ e, r.mono st.fsame _ _⟩
  | set ks => obtain ⟨S, e, r⟩ := h; exact ⟨S, st.same _ _ e, r⟩
  | _ => exact h.elim
theorem Top.there {K : PySem.W.Frag} {F H : Hp} {a : Addr} {d : D} (h : Top K F H a d) : H a ≠ none := by
  cases d with
  | lst ds => obtain ⟨xs, e, r⟩ := h; rw [e]; exact fun z => nomatch z
  | dct ds => obtain ⟨xs, e, r⟩ := h; rw [e]; exact fun z => nomatch z
  | ins c fs => obtain ⟨C, dx, gs, n, e, r⟩ := h; rw [e]; exact fun z => nomatch z
  | set ks => obtain ⟨S, e, r⟩ := h; rw [e]; exact fun z => nomatch z
  | _ => exact h.elim
theorem Rp.step {K : PySem.W.Frag} {F H F' H' : Hp} {m : Md} {d : D} {v : V} (st : Step F H F' H') (h : Rp K F H m d v) : Rp K F' H' m d v := by
  cases m with
  | fz => exact RepV.mono st.fsame d v h
  | fr => obtain ⟨a, e, n, t⟩ := h; exact ⟨a, e, st.new a n t.there, t.step st⟩
  | bo => obtain ⟨a, e, n, t⟩ := h; exact ⟨a, e, st.new a n t.there, t.step st⟩
theorem Rp.seqL {K : PySem.W.Frag} {F H : Hp} {m : Md} {ds : List D} {v : V} (s : Same F H) (h : Rp K F H m (.lst ds) v) : ∃ a xs, v = .ref a ∧ SqL K H a xs ∧ RepL K F ds xs := by
  cases m with
  | fz =>
    have h : RepV K F (.lst ds) v := h
    simp only [RepV] at h
    obtain ⟨a, xs, e, q, r⟩ := h
    exact ⟨a, xs, e, s.seq q, r⟩
  | fr => obtain ⟨a, e, n, xs, q, r⟩ := h; exact ⟨a, xs, e, SqL.of q, r⟩
  | bo => obtain ⟨a, e, n, xs, q, r⟩ := h; exact ⟨a, xs, e, SqL.of q, r⟩
theorem Rp.seqT {K : PySem.W.Frag} {F H : Hp} {m : Md} {ds : List D} {v : V} (s : Same F H) (h : Rp K F H m (.tup ds) v) : ∃ a xs, v = .ref a ∧ SqT K H a xs ∧ RepL K F ds xs := by
  cases m with
  | fz =>
    have h : RepV K F (.tup ds) v := h
    simp only [RepV] at h
    obtain ⟨a, xs, e, q, r⟩ := h
    exact ⟨a, xs, e, Same.seqT s q, r⟩
  | fr => obtain ⟨a, e, n, q⟩ := h; exact q.elim
  | bo => obtain ⟨a, e, n, q⟩ := h; exact q.elim
theorem Rp.dict {K : PySem.W.Frag} {F H : Hp} {m : Md} {ds : List (Key × D)} {v : V} (s : Same F H) (h : Rp K F H m (.dct ds) v) : ∃ a xs, v = .ref a ∧ H a = some (.dK xs) ∧ RepK K F ds xs := by
  cases m with
  | fz =>
    have h : RepV K F (.dct ds) v := h
    simp only [RepV] at h
    obtain ⟨a, xs, e, q, r⟩ := h
    exact ⟨a, xs, e, s _ _ q, r⟩
  | fr => obtain ⟨a, e, n, xs, q, r⟩ := h; exact ⟨a, xs, e, q, r⟩
  | bo => obtain ⟨a, e, n, xs, q, r⟩ := h; exact ⟨a, xs, e, q, r⟩
theorem Rp.ins {K : PySem.W.Frag} {F H : Hp} {m : Md} {c : Str} {fs : List (Str × D)} {v : V} (s : Same F H) (h : Rp K F H m (.ins c fs) v) : ∃ a C dx gs, v = .ref a ∧ PySem.W.nsIn K mainGlobals c = some (some (.ref C)) ∧ H a = some (.ins C dx gs) ∧ RepF K F fs gs := by
  cases m with
  | fz =>
    have h : RepV K F (.ins c fs) v := h
    simp only [RepV] at h
    obtain ⟨a, C, dx, gs, e, n, q, r⟩ := h
    exact ⟨a, C, dx, gs, e, n, s _ _ q, r⟩
  | fr => obtain ⟨a, e, n, C, dx, gs, z, q, r⟩ := h; exact ⟨a, C, dx, gs, e, z, q, r⟩
  | bo => obtain ⟨a, e, n, C, dx, gs, z, q, r⟩ := h; exact ⟨a, C, dx, gs, e, z, q, r⟩
theorem Rp.flat {K : PySem.W.Frag} {F H : Hp} {m : Md} {d : D} {v : V} (h : Rp K F H m d v) (nl : ∀ a, v ≠ .ref a) : RepV K F d v := by
  cases m with
  | fz => exact h
  | fr => obtain ⟨a, e, n, q⟩ := h; exact absurd e (nl a)
  | bo => obtain ⟨a, e, n, q⟩ := h; exact absurd e (nl a)
theorem Rp.int {K : PySem.W.Frag} {F H : Hp} {m : Md} {i : Int} {v : V} (h : Rp K F H m (.int i) v) : v = .int i := by
  cases m with
  | fz => have h : RepV K F (.int i) v := h; simpa only [RepV] using h
  | fr => obtain ⟨a, e, n, q⟩ := h; exact q.elim
  | bo => obtain ⟨a, e, n, q⟩ := h; exact q.elim
theorem Rp.bl {K : PySem.W.Frag} {F H : Hp} {m : Md} {i : Bool} {v : V} (h : Rp K F H m (.bl i) v) : v = .bl i := by
  cases m with
  | fz => have h : RepV K F (.bl i) v := h; simpa only [RepV] using h
  | fr => obtain ⟨a, e, n, q⟩ := h; exact q.elim
  | bo => obtain ⟨a, e, n, q⟩ := h; exact q.elim
theorem Rp.non {K : PySem.W.Frag} {F H : Hp} {m : Md} {v : V} (h : Rp K F H m .non v) : v = .non := by
  cases m with
  | fz => have h : RepV K F .non v := h; simpa only [RepV] using h
  | fr => obtain ⟨a, e, n, q⟩ := h; exact q.elim
  | bo => obtain ⟨a, e, n, q⟩ := h; exact q.elim
theorem Rp.str {K : PySem.W.Frag} {F H : Hp} {m : Md} {x : Str} {v : V} (h : Rp K F H m (.str x) v) : v = .str x ∧ x.length ≤ sizeLine ∧ PyData.strOk x = true := by
  cases m with
  | fz => have h : RepV K F (.str x) v := h; simpa only [RepV] using h
  | fr => obtain ⟨a, e, n, q⟩ := h; exact q.elim
  | bo => obtain ⟨a, e, n, q⟩ := h; exact q.elim
theorem Rp.ty {K : PySem.W.Frag} {F H : Hp} {m : Md} {n : String} {v : V} (h : Rp K F H m (.ty n) v) : v = .ty n := by
  cases m with
  | fz => have h : RepV K F (.ty n) v := h; simpa only [RepV] using h
  | fr => obtain ⟨a, e, n, q⟩ := h; exact q.elim
  | bo => obtain ⟨a, e, n, q⟩ := h; exact q.elim
theorem Rp.ob {K : PySem.W.Frag} {F H : Hp} {m : Md} {n : Addr} {v : V} (h : Rp K F H m (.ob n) v) : v = .ref n := by
  cases m with
  | fz => have h : RepV K F (.ob n) v := h; simpa only [RepV] using h
  | fr => obtain ⟨a, e, n, q⟩ := h; exact q.elim
  | bo => obtain ⟨a, e, n, q⟩ := h; exact q.elim
theorem rp_ty {K : PySem.W.Frag} {F H : Hp} (i : String) : Rp K F H .fz (.ty i) (.ty i) := by show RepV K F _ _; simp only [RepV]
theorem rp_int {K : PySem.W.Frag} {F H : Hp} (i : Int) : Rp K F H .fz (.int i) (.int i) := by show RepV K F _ _; simp only [RepV]
theorem rp_bl {K : PySem.W.Frag} {F H : Hp} (i : Bool) : Rp K F H .fz (.bl i) (.bl i) := by show RepV K F _ _; simp only [RepV]
theorem rp_non {K : PySem.W.Frag} {F H : Hp} : Rp K F H .fz .non .non := by show RepV K F _ _; simp only [RepV]
theorem rp_str {K : PySem.W.Frag} {F H : Hp} {x : Str} (h : x.length ≤ sizeLine ∧ PyData.strOk x = true) : Rp K F H .fz (.str x) (.str x) := by show RepV K F _ _; simp only [RepV, true_and]; exact h

/-! ### the frame -/
/-- a name's value: owned (true) or frozen -/
abbrev Rho := List (Option (Bool × D))
structure RelSt (K : PySem.W.Frag) (F0 H0 F H : Hp) (σ : L2.St) (ρ : Rho) : Prop where
  st : Step F0 H0 F H
  slot : ∀ (i : Nat) (m : Bool) (d : D), ρ[i]? = some (some (m, d)) → ∃ v, σ[i]? = some (some v) ∧ Rp K F H (if m then .bo else .fz) d v ∧ (m = true → ∀ a, v = .ref a → H0 a = none)
  apart : ∀ (i j : Nat) (d d' : D) (a : Addr), i ≠ j → ρ[i]? = some (some (true, d)) → ρ[j]? = some (some (true, d')) → σ[i]? = some (some (.ref a)) → σ[j]? = some (some (.ref a)) → False
  len : σ.length = ρ.length
theorem RelSt.step {K : PySem.W.Frag} {F0 H0 F H F' H' : Hp} {σ : L2.St} {ρ : Rho} (r : RelSt K F0 H0 F H σ ρ) (st : Step F H F' H') : RelSt K F0 H0 F' H' σ ρ :=
  ⟨r.st.trans st, fun i m d e => by obtain ⟨v, e1, e2, e3⟩ := r.slot i m d e; exact ⟨v, e1, e2.step st, e3⟩, r.apart, r.len⟩
theorem RelSt.sub {K : PySem.W.Frag} {F0 H0 F H : Hp} {σ : L2.St} {ρ : Rho} (r : RelSt K F0 H0 F H σ ρ) : Same F H := r.st.sub

/-- what is wanted of an exception of that class: the names as they stand, the heap -/
abbrev XE := Str → L2.St → Hp → Prop
structure Cw where
  K : PySem.W.Frag
  F0 : Hp
  H0 : Hp
  EE : XE
/-- an expression by its value -/
def tG (C : Cw) (g : Rho → Res) : TE := fun σ H Q => ∃ ρ F, RelSt C.K C.F0 C.H0 F H σ ρ ∧ match g ρ with
  | .ok m d => ∀ v F' H', Step F H F' H' → Rp C.K F' H' m d v → (m = .fr → ∀ a, v = .ref a → H a = none) → Q v H'
  | .exc c => ∀ F' H', Step F H F' H' → C.EE c σ H'
  | .stuck => False
abbrev Cw.at (C : Cw) (X : Cx) : Cw := { C with K := X.K }
def PV (C : Cw) (X : Cx) (e : Expr) (g : Rho → Res) : Prop := PE X e (tG (C.at X) g)
theorem PE.imp {X : Cx} {e : Expr} {t t' : TE} (h : PE X e t) (i : ∀ σ H Q, t' σ H Q → t σ H Q) : PE X e t' := fun pins s σ H Q I q => h pins s σ H Q I (i σ H Q q)
end D3

namespace D3
open PySem PySem.Spec PyProof.Rows L2

def Res.thn (r : Res) (k : Md → D → Res) : Res := match r with
  | .ok m d => k m d
  | .exc c => .exc c
  | .stuck => .stuck
@[simp] theorem Res.thn_ok (m : Md) (d : D) (k : Md → D → Res) : (Res.ok m d).thn k = k m d := rfl
@[simp] theorem Res.thn_exc (c : Str) (k : Md → D → Res) : (Res.exc c).thn k = .exc c := rfl
@[simp] theorem Res.thn_stuck (k : Md → D → Res) : Res.stuck.thn k = .stuck := rfl
def Res.of : Option (Md × D) → Res
  | some (m, d) => .ok m d
  | none => .stuck
@[simp] theorem Res.of_some (m : Md) (d : D) : Res.of (some (m, d)) = .ok m d := rfl
@[simp] theorem Res.of_none : Res.of none = .stuck := rfl
/-- what a result asks of the state behind -/
def Want (C : Cw) (F H : Hp) (σ : L2.St) (r : Res) (Q : VK) : Prop := match r with
  | .ok m d => ∀ v F' H', Step F H F' H' → Rp C.K F' H' m d v → (m = .fr → ∀ a, v = .ref a → H a = none) → Q v H'
  | .exc c => ∀ F' H', Step F H F' H' → C.EE c σ H'
  | .stuck => False
theorem tG_eq {C : Cw} {g : Rho → Res} {σ : L2.St} {H : Hp} {Q : VK} : tG C g σ H Q = ∃ ρ F, RelSt C.K C.F0 C.H0 F H σ ρ ∧ Want C F H σ (g ρ) Q := by
  unfold tG Want
  rfl
theorem Want.step {C : Cw} {F H F1 H1 : Hp} {σ : L2.St} {r : Res} {Q : VK} (st : Step F H F1 H1) (h : Want C F H σ r Q) : Want C F1 H1 σ r Q := by
  cases r with
  | ok m d => exact fun v F' H' s2 rp hf => h v F' H' (st.trans s2) rp fun e a ea => st.same.free (hf e a ea)
  | exc c => exact fun F' H' s2 => h F' H' (st.trans s2)
  | stuck => exact h
section
variable {C : Cw} {X : Cx} {a b : Expr} {ga gb : Rho → Res} {pos : Pos}
/-! ### names, constants -/
def getS (ρ : Rho) (i : Nat) : Res := match ρ[i]? with
  | some (some (false, d)) => .ok .fz d
  | some (some (true, d)) => .ok .bo d
  | _ => .stuck
theorem pv_var (i : Nat) {x : Str} (h : PE X (.Name x pos) (tVar i)) : PV C X (.Name x pos) (fun ρ => getS ρ i) := by
  refine PE.imp h fun σ H Q q => ?_
  rw [tG_eq] at q
  obtain ⟨ρ, F, R, w⟩ := q
  unfold getS at w
  cases e : ρ[i]? with
  | none => rw [e] at w; exact w.elim
  | some o =>
    cases o with
    | none => rw [e] at w; exact w.elim
    | some p =>
      obtain ⟨m, d⟩ := p
      obtain ⟨v, e1, r, _⟩ := R.slot i m d e
      rw [e] at w
      cases m with
      | false => exact ⟨v, e1, w v F H (.refl R.sub) r (by intro z; cases z)⟩
      | true => exact ⟨v, e1, w v F H (.refl R.sub) r (by intro z; cases z)⟩
theorem pv_con {e : Expr} {v : V} (d : D) (h : PE X e (tC v)) (r : ∀ F H, Rp X.K F H .fz d v) : PV C X e (fun _ => .ok .fz d) := by
  refine PE.imp h fun σ H Q q => ?_
  rw [tG_eq] at q
  obtain ⟨ρ, F, R, w⟩ := q
  exact w v F H (.refl R.sub) (r F H) (by intro z; cases z)
theorem pv_int {i j} : PV C X (.Constant (.int i) j pos) (fun _ => .ok .fz (.int i)) := pv_con _ pe_int fun _ _ => rp_int i
theorem pv_bl {i j} : PV C X (.Constant (.bool i) j pos) (fun _ => .ok .fz (.bl i)) := pv_con _ pe_bl fun _ _ => rp_bl i
theorem pv_non {j} : PV C X (.Constant .none j pos) (fun _ => .ok .fz .non) := pv_con _ pe_non fun _ _ => rp_non
theorem pv_str {x : Str} {j} (h : (decide (x.length ≤ sizeLine) && PyData.strOk x) = true := by decide +kernel) : PV C X (.Constant (.str x) j pos) (fun _ => .ok .fz (.str x)) :=
  pv_con _ pe_str fun _ _ => rp_str (by rw [Bool.and_eq_true, decide_eq_true_eq] at h; exact h)

/-! ### two operands -/
def op2 (φ : Md → D → Md → D → Option (Md × D)) (x y : Res) : Res := x.thn fun m d => y.thn fun n e => Res.of (φ m d n e)
/-- an operation on values by data -/
def OpD (C : Cw) (X : Cx) (f : Value → Value → Sem Value) (φ : Md → D → Md → D → Option (Md × D)) : Prop :=
  ∃ r : R2, OpR X f r ∧ ∀ F H m x n y v u k d Q, Same F H → Rp X.K F H m x v → Rp X.K F H n y u → φ m x n y = some (k, d) →
    (∀ v' F' H', Step F H F' H' → Rp X.K F' H' k d v' → (k = .fr → ∀ a, v' = .ref a → H a = none) → Q v' H') → r v u H Q
theorem tG_op2 {φ : Md → D → Md → D → Option (Md × D)} {r : R2} (h : ∀ F H m x n y v u k d Q, Same F H → Rp C.K F H m x v → Rp C.K F H n y u → φ m x n y = some (k, d) →
    (∀ v' F' H', Step F H F' H' → Rp C.K F' H' k d v' → (k = .fr → ∀ a, v' = .ref a → H a = none) → Q v' H') → r v u H Q) {σ : L2.St} {H : Hp} {Q : VK}
    (q : tG C (fun ρ => op2 φ (ga ρ) (gb ρ)) σ H Q) : tOp r (tG C ga) (tG C gb) σ H Q := by
  unfold tOp
  rw [tG_eq] at q ⊢
  obtain ⟨ρ, F, R, w⟩ := q
  refine ⟨ρ, F, R, ?_⟩
  cases ea : ga ρ with
  | stuck => simp only [op2, ea, Res.thn] at w; exact w
  | exc c => simp only [op2, ea, Res.thn] at w; exact w
  | ok m d =>
    intro v F1 H1 s1 r1 _
    rw [tG_eq]
    refine ⟨ρ, F1, R.step s1, ?_⟩
    have w1 := w.step s1
    simp only [op2, ea, Res.thn] at w1
    cases eb : gb ρ with
    | stuck => rw [eb] at w1; exact w1
    | exc c => rw [eb] at w1; exact w1
    | ok n e =>
      rw [eb] at w1
      intro u F2 H2 s2 r2 _
      have w2 : Want C F2 H2 σ (Res.of (φ m d n e)) Q := Want.step s2 w1
      cases ef : φ m d n e with
      | none => rw [ef] at w2; exact w2.elim
      | some kd =>
        obtain ⟨k, d'⟩ := kd
        rw [ef] at w2
        exact h F2 H2 m d n e v u k d' Q s2.sub (r1.step s2) r2 ef w2
theorem pv_op {op : Operator} {φ} (o : OpD C X (binaryOp op) φ) (ha : PV C X a ga) (hb : PV C X b gb) : PV C X (.BinOp a op b pos) (fun ρ => op2 φ (ga ρ) (gb ρ)) := by
  obtain ⟨r, h1, h2⟩ := o
  exact PE.imp (pe_op h1 ha hb) fun σ H Q q => tG_op2 h2 q
theorem pv_cmp {op : CmpOp} {φ} (o : OpD C X (compareOp op) φ) (ha : PV C X a ga) (hb : PV C X b gb) (hm : behindInMarks op b = false) : PV C X (.Compare a [op] [b] pos) (fun ρ => op2 φ (ga ρ) (gb ρ)) := by
  obtain ⟨r, h1, h2⟩ := o
  exact PE.imp (pe_cmpR h1 ha hb hm) fun σ H Q q => tG_op2 h2 q
def orO (φ ψ : Md → D → Md → D → Option (Md × D)) : Md → D → Md → D → Option (Md × D) := fun m x n y => (φ m x n y).orElse fun _ => ψ m x n y
theorem OpD.or {f : Value → Value → Sem Value} {φ ψ} (h : OpD C X f φ) (h' : OpD C X f ψ) : OpD C X f (orO φ ψ) := by
  obtain ⟨r, h1, h2⟩ := h
  obtain ⟨r', h1', h2'⟩ := h'
  refine ⟨_, h1.or h1', fun F H m x n y v u k d Q s rx ry e w => ?_⟩
  unfold orO at e
  cases e1 : φ m x n y with
  | none => rw [e1] at e; exact .inr (h2' F H m x n y v u k d Q s rx ry e w)
  | some p => rw [e1] at e; cases e; exact .inl (h2 F H m x n y v u k d Q s rx ry e1 w)
/-- two ints -/
def fI (c : Int → Int → Bool) (g : Int → Int → D) : Md → D → Md → D → Option (Md × D) := fun _ x _ y => match x, y with
  | .int i, .int j => if c i j = true then some (.fz, g i j) else none
  | _, _ => none
theorem opd_I {f : Value → Value → Sem Value} {Cc : Int → Int → Prop} {c : Int → Int → Bool} {g : Int → Int → V} {g' : Int → Int → D} (o : OpR X f (rI Cc g)) (hc : ∀ i j, c i j = true → Cc i j) (hg : ∀ F H i j, Rp X.K F H .fz (g' i j) (g i j)) : OpD C X f (fI c g') := by
  refine ⟨_, o, fun F H m x n y v u k d Q s rx ry e w => ?_⟩
  unfold fI at e
  split at e
  · rename_i i j
    cases rx.int
    cases ry.int
    split at e
    · rename_i hcc
      cases e
      exact ⟨i, j, rfl, rfl, hc i j hcc, w _ F H (.refl s) (hg F H i j) (by intro z; cases z)⟩
    · cases e
  · cases e
theorem opd_I0 {f : Value → Value → Sem Value} {g : Int → Int → V} {g' : Int → Int → D} (o : OpR X f (rI0 g)) (hg : ∀ F H i j, Rp X.K F H .fz (g' i j) (g i j)) : OpD C X f (fI (fun _ _ => true) g') := by
  refine ⟨_, o, fun F H m x n y v u k d Q s rx ry e w => ?_⟩
  unfold fI at e
  split at e
  · rename_i i j
    cases rx.int
    cases ry.int
    rw [if_pos rfl] at e
    cases e
    exact ⟨i, j, rfl, rfl, w _ F H (.refl s) (hg F H i j) (by intro z; cases z)⟩
  · cases e
def bits (i : Int) : Bool := decide (i.natAbs.log2 < 9000)
theorem opd_add : OpD C X (binaryOp .Add) (fI (fun _ _ => true) fun i j => .int (i + j)) := opd_I0 op_add fun _ _ i j => rp_int _
theorem opd_sub : OpD C X (binaryOp .Sub) (fI (fun _ _ => true) fun i j => .int (i - j)) := opd_I0 op_sub fun _ _ i j => rp_int _
theorem mulOk_of {i j : Int} (h : (bits i && bits j) = true) : IntMulOk i j := by
  rw [Bool.and_eq_true] at h
  have b : ∀ {i : Int}, bits i = true → Builtin.Int.intBits i ≤ 2 ^ 20 := fun {i} h => by
    unfold bits at h
    have := of_decide_eq_true h
    unfold Builtin.Int.intBits
    split
    · exact Nat.zero_le _
    · have e : (2 : Nat) ^ 20 = 1048576 := by decide
      omega
  exact IntMulOk.of_bits (b h.1) (b h.2)
def w64 (i : Int) : Bool := decide (i.natAbs < 2 ^ 63)
theorem w64_bits {i : Int} (h : w64 i = true) : Builtin.Int.intBits i ≤ 64 := by
  have h := of_decide_eq_true h
  unfold Builtin.Int.intBits
  split
  · exact Nat.zero_le _
  · rename_i hz
    have : i.natAbs.log2 < 63 := (Nat.log2_lt (by simpa using hz)).mpr h
    omega
theorem opd_mul : OpD C X (binaryOp .Mult) (fI (fun i j => (bits i && bits j) || (w64 i || w64 j)) fun i j => .int (i * j)) :=
  opd_I (Cc := fun i j => IntMulOk i j) (opI fun _ _ _ _ _ _ _ hc q => mul_int q hc) (fun i j h => by
    rcases (Bool.or_eq_true _ _).mp h with h | h
    · exact mulOk_of h
    · rcases (Bool.or_eq_true _ _).mp h with h | h
      · exact IntMulOk.of_left (w64_bits h)
      · exact IntMulOk.of_right (w64_bits h)) fun _ _ i j => rp_int _
theorem opd_mod : OpD C X (binaryOp .Mod) (fI (fun _ j => decide (0 < j)) fun i j => .int (i % j)) := opd_I op_mod (fun i j h => of_decide_eq_true h) fun _ _ i j => rp_int _
theorem op_fdivB : OpR X (binaryOp .FloorDiv) (rI (fun _ j => 0 < j ∧ bits j = true) fun i j => .int (i / j)) := opI fun i j _ _ _ _ _ hc q => by
  obtain ⟨h1, h2⟩ := hc
  refine floordiv_int (by omega) ?_ (.inl (PyProof.noPylong_of_log2 (of_decide_eq_true h2)))
  rw [Int.fdiv_eq_ediv_of_nonneg i (by omega)]
  exact q
theorem opd_fdiv : OpD C X (binaryOp .FloorDiv) (fI (fun _ j => decide (0 < j) && bits j) fun i j => .int (i / j)) := opd_I op_fdivB (fun i j h => by rw [Bool.and_eq_true, decide_eq_true_eq] at h; exact h) fun _ _ i j => rp_int _
theorem opd_pow : OpD C X (binaryOp .Pow) (fI (fun i j => decide (0 ≤ j) && decide (j ≤ 1000000) && decide (i.natAbs < 2 ^ 64)) fun i j => .int (i ^ j.toNat)) :=
  opd_I op_pow (fun i j h => by simp only [Bool.and_eq_true, decide_eq_true_eq] at h; exact ⟨h.1.1, h.1.2, h.2⟩) fun _ _ i j => rp_int _
theorem opd_lt : OpD C X (compareOp .Lt) (fI (fun _ _ => true) fun i j => .bl (decide (i < j))) := opd_I0 op_lt fun _ _ i j => rp_bl _
theorem opd_le : OpD C X (compareOp .LtE) (fI (fun _ _ => true) fun i j => .bl (decide (i ≤ j))) := opd_I0 op_le fun _ _ i j => rp_bl _
theorem opd_gt : OpD C X (compareOp .Gt) (fI (fun _ _ => true) fun i j => .bl (decide (j < i))) := opd_I0 op_gt fun _ _ i j => rp_bl _
theorem opd_ge : OpD C X (compareOp .GtE) (fI (fun _ _ => true) fun i j => .bl (decide (j ≤ i))) := opd_I0 op_ge fun _ _ i j => rp_bl _
/-- two texts -/
def fS (c : Str → Str → Bool) (g : Str → Str → D) : Md → D → Md → D → Option (Md × D) := fun _ x _ y => match x, y with
  | .str i, .str j => if c i j = true then some (.fz, g i j) else none
  | _, _ => none
theorem strOk_append {x y : Str} (hx : PyData.strOk x = true) (hy : PyData.strOk y = true) : PyData.strOk (x ++ y) = true := by
  unfold PyData.strOk at *
  show (x.cps ++ y.cps).all _ = true
  rw [Array.all_append, hx, hy]; rfl
theorem opd_addS : OpD C X (binaryOp .Add) (fS (fun i j => decide (i.length + j.length ≤ sizeLine)) fun i j => .str (i ++ j)) := by
  refine ⟨_, op_add_str, fun F H m x n y v u k d Q s rx ry e w => ?_⟩
  unfold fS at e
  split at e
  · rename_i i j
    obtain ⟨rfl, h1⟩ := rx.str
    obtain ⟨rfl, h2⟩ := ry.str
    split at e
    · rename_i hc
      cases e
      have hc := of_decide_eq_true hc
      exact ⟨i, j, rfl, rfl, hc, w _ F H (.refl s) (rp_str ⟨by rw [strLen_append]; exact hc, strOk_append h1.2 h2.2⟩) (by intro z; cases z)⟩
    · cases e
  · cases e
def isIn (i j : Str) : Bool := !(Builtin.Str.occurrences j i 0 j.length 1).isEmpty
theorem opd_inS : OpD C X (compareOp .In) (fS (fun _ _ => true) fun i j => .bl (isIn i j)) := by
  refine ⟨_, op_in_str, fun F H m x n y v u k d Q s rx ry e w => ?_⟩
  unfold fS at e
  split at e
  · rename_i i j
    obtain ⟨rfl, h1⟩ := rx.str
    obtain ⟨rfl, h2⟩ := ry.str
    rw [if_pos rfl] at e
    cases e
    exact ⟨i, j, rfl, rfl, w _ F H (.refl s) (rp_bl _) (by intro z; cases z)⟩
  · cases e
theorem opd_notinS : OpD C X (compareOp .NotIn) (fS (fun _ _ => true) fun i j => .bl (!isIn i j)) := by
  refine ⟨_, op_notin_str, fun F H m x n y v u k d Q s rx ry e w => ?_⟩
  unfold fS at e
  split at e
  · rename_i i j
    obtain ⟨rfl, h1⟩ := rx.str
    obtain ⟨rfl, h2⟩ := ry.str
    rw [if_pos rfl] at e
    cases e
    exact ⟨i, j, rfl, rfl, w _ F H (.refl s) (rp_bl _) (by intro z; cases z)⟩
  · cases e
end
end D3

namespace D3
open PySem PySem.Spec PyProof.Rows L2
section
variable {C : Cw} {X : Cx} {a b c e : Expr} {ga gb gc g : Rho → Res} {pos : Pos}

/-! ### freezing a fresh value -/
def frzR : Res → Res
  | .ok .bo _ => .stuck
  | .ok _ d => .ok .fz d
  | r => r
theorem Step.freeze {F H F' H' : Hp} {x : Addr} {o : HO} (st : Step F H F' H') (hx : H x = none) (hx' : F' x = none) (ho : H' x = some o) : Step F H (upd F' x o) H' := by
  refine ⟨st.same, fun b u q => ?_, fun b u q => ?_, fun y h1 h2 => ?_⟩
  · rw [upd_ne (ne_of_none (st.fsame b u q) hx')]; exact st.fsame b u q
  · by_cases hb : b = x
    · subst hb; rw [upd_same] at q; rw [← q]; exact ho
    · rw [upd_ne hb] at q; exact st.sub b u q
  · have : y ≠ x := by rintro rfl; exact h2 hx
    rw [upd_ne this]; exact st.new y h1 h2
theorem Top.freeze {K : PySem.W.Frag} {F H : Hp} {x : Addr} {d : D} (hx : F x = none) (h : Top K F H x d) : ∃ o, H x = some o ∧ RepV K (upd F x o) d (.ref x) := by
  have s : ∀ o, Same F (upd F x o) := fun o b u q => by rw [upd_ne (ne_of_none q hx)]; exact q
  cases d with
  | lst ds =>
    obtain ⟨xs, q, r⟩ := h
    refine ⟨_, q, ?_⟩
    simp only [RepV]
    exact ⟨x, xs, rfl, SqL.of upd_same, r.mono (s _) _ _⟩
  | dct ds =>
    obtain ⟨xs, q, r⟩ := h
    refine ⟨_, q, ?_⟩
    simp only [RepV]
    exact ⟨x, xs, rfl, upd_same, r.mono (s _) _ _⟩
  | ins c fs =>
    obtain ⟨C, dx, gs, n, q, r⟩ := h
    refine ⟨_, q, ?_⟩
    simp only [RepV]
    exact ⟨x, C, dx, gs, rfl, n, upd_same, r.mono (s _) _ _⟩
  | set ks =>
    obtain ⟨S, q, r⟩ := h
    refine ⟨_, q, ?_⟩
    simp only [RepV]
    exact ⟨x, S, rfl, upd_same, r⟩
  | _ => exact h.elim
theorem Want.frz {F H : Hp} {σ : L2.St} {r : Res} {Q : VK} (w : Want C F H σ (frzR r) Q) : Want C F H σ r Q := by
  cases r with
  | exc c => exact w
  | stuck => exact w
  | ok m d =>
    cases m with
    | fz => exact w
    | bo => exact (show False from w).elim
    | fr =>
      intro v F' H' st rp fr
      obtain ⟨x, rfl, n, t⟩ := rp
      obtain ⟨o, ho, r⟩ := t.freeze n
      exact w (.ref x) (upd F' x o) H' (st.freeze (fr rfl x rfl) n ho) r (by intro z; cases z)
theorem pv_frz (h : PV C X e g) : PV C X e (fun ρ => frzR (g ρ)) := PE.imp h fun σ H Q q => by
  rw [tG_eq] at q ⊢
  obtain ⟨ρ, F, R, w⟩ := q
  try dsimp only at w
  exact ⟨ρ, F, R, w.frz⟩

/-! ### tests -/
def WantB (C : Cw) (F H : Hp) (σ : L2.St) (r : Res) (Q : Bool → Hp → Prop) : Prop := match r with
  | .ok _ (.bl b) => ∀ F' H', Step F H F' H' → Q b H'
  | .exc c => ∀ F' H', Step F H F' H' → C.EE c σ H'
  | _ => False
theorem WantB.step {F H F1 H1 : Hp} {σ : L2.St} {r : Res} {Q : Bool → Hp → Prop} (st : Step F H F1 H1) (h : WantB C F H σ r Q) : WantB C F1 H1 σ r Q := by
  cases r with
  | ok m d =>
    cases d with
    | bl b => exact fun F' H' s2 => h F' H' (st.trans s2)
    | _ => exact h
  | exc c => exact fun F' H' s2 => h F' H' (st.trans s2)
  | stuck => exact h
def tT (C : Cw) (g : Rho → Res) : TT := fun σ H Q => ∃ ρ F, RelSt C.K C.F0 C.H0 F H σ ρ ∧ WantB C F H σ (g ρ) Q
def PTv (C : Cw) (X : Cx) (e : Expr) (g : Rho → Res) : Prop := PT X e (tT (C.at X) g)
def PWv (C : Cw) (X : Cx) (e : Expr) (g : Rho → Res) : Prop := PW X e (tT (C.at X) g)
theorem PT.imp {X : Cx} {e : Expr} {t t' : TT} (h : PT X e t) (i : ∀ σ H Q, t' σ H Q → t σ H Q) : PT X e t' := fun pins s σ H Q I q => h pins s σ H Q I (i σ H Q q)
theorem PW.imp {X : Cx} {e : Expr} {t t' : TT} (h : PW X e t) (i : ∀ σ H Q, t' σ H Q → t σ H Q) : PW X e t' := fun whole pins s σ H Q I q => h whole pins s σ H Q I (i σ H Q q)
def truD : D → Option Bool
  | .non => some false
  | .bl b => some b
  | .int i => some (i != 0)
  | .str x => some ((x.length : Int) != 0)
  | .tup ds => some (!ds.isEmpty)
  | .lst ds => some (!ds.isEmpty)
  | .dct ds => some (!ds.isEmpty)
  | _ => none
def truR (r : Res) : Res := r.thn fun _ d => match truD d with | some b => .ok .fz (.bl b) | none => .stuck
theorem RepL.isEmpty {K : PySem.W.Frag} {F : Hp} {ds : List D} {xs : List V} (h : RepL K F ds xs) : ds.isEmpty = xs.isEmpty := by
  cases ds with
  | nil => simp only [RepL] at h; subst h; rfl
  | cons d ds => simp only [RepL] at h; obtain ⟨y, ys, rfl, _⟩ := h; rfl
theorem RepK.isEmpty {K : PySem.W.Frag} {F : Hp} {ds : List (Key × D)} {xs : List (Key × V)} (h : RepK K F ds xs) : ds.isEmpty = xs.isEmpty := by
  cases ds with
  | nil => simp only [RepK] at h; subst h; rfl
  | cons d ds => obtain ⟨k, d⟩ := d; simp only [RepK] at h; obtain ⟨y, ys, rfl, _⟩ := h; rfl
theorem truV_of {K : PySem.W.Frag} {F H : Hp} {m : Md} {d : D} {v : V} {k : Bool} (s : Same F H) (h : Rp K F H m d v) (e : truD d = some k) : TruV K v H k := by
  cases d with
  | non => cases h.non; cases e; rfl
  | bl b => cases h.bl; cases e; rfl
  | int i => cases h.int; cases e; rfl
  | str x => obtain ⟨rfl, hl, _⟩ := h.str; cases e; exact ⟨hl, rfl⟩
  | tup ds =>
    obtain ⟨a, xs, rfl, q, r⟩ := h.seqT s
    cases e
    exact .inr (.inl ⟨xs, q, by rw [r.isEmpty]⟩)
  | lst ds =>
    obtain ⟨a, xs, rfl, q, r⟩ := h.seqL s
    cases e
    exact .inl ⟨xs, q, by rw [r.isEmpty]⟩
  | dct ds =>
    obtain ⟨a, xs, rfl, q, r⟩ := h.dict s
    cases e
    exact .inr (.inr ⟨xs, q, by rw [r.isEmpty]⟩)
  | ty n => cases e
  | ob n => cases e
  | ins n => cases e
  | fn n => cases e
  | exn n => cases e
  | set n => cases e
/-- any expression whose test is its value's truth (he by fun _ => rfl) -/
theorem pt_tru (h : PV C X e g) (he : ∀ whole, isTrue e X.env whole = (do let v ← whole; standAt e.pos; holding [v] (truthy v)) := by intro _; rfl) : PTv C X e (fun ρ => truR (g ρ)) := by
  refine PT.imp (pt_truth h he) fun σ H Q q => ?_
  obtain ⟨ρ, F, R, w⟩ := q
  try dsimp only at w
  rw [tG_eq]
  refine ⟨ρ, F, R, ?_⟩
  cases er : g ρ with
  | stuck => rw [er] at w; exact w
  | exc c => rw [er] at w; exact w
  | ok m d =>
    rw [er] at w
    intro v F' H' st rp _
    have w : WantB (C.at X) F H σ (match truD d with | some b => .ok .fz (.bl b) | none => .stuck) Q := w
    cases ed : truD d with
    | none => rw [ed] at w; exact w.elim
    | some k => rw [ed] at w; exact ⟨k, truV_of st.sub rp ed, w F' H' st⟩
/-- a comparison as a test: its value is a bool -/
theorem pt_cmpv {op : CmpOp} {φ} (o : OpD C X (compareOp op) φ) (hb' : ∀ m x n y k d, φ m x n y = some (k, d) → ∃ t, k = .fz ∧ d = .bl t) (ha : PV C X a ga) (hb : PV C X b gb) (hm : behindInMarks op b = false) : PTv C X (.Compare a [op] [b] pos) (fun ρ => op2 φ (ga ρ) (gb ρ)) := by
  obtain ⟨r, h1, h2⟩ := o
  refine PT.imp (pt_cmpR h1 ha hb hm) fun σ H Q q => ?_
  obtain ⟨ρ, F, R, w⟩ := q
  try dsimp only at w
  unfold tTest
  refine tG_op2 h2 ?_
  rw [tG_eq]
  refine ⟨ρ, F, R, ?_⟩
  cases er : op2 φ (ga ρ) (gb ρ) with
  | stuck => rw [er] at w; exact w
  | exc c => rw [er] at w; exact w
  | ok m d =>
    rw [er] at w
    have : ∃ t, m = .fz ∧ d = .bl t := by
      unfold op2 at er
      cases e1 : ga ρ with
      | stuck => rw [e1] at er; cases er
      | exc c => rw [e1] at er; cases er
      | ok m1 d1 =>
        cases e2 : gb ρ with
        | stuck => rw [e1, e2] at er; cases er
        | exc c => rw [e1, e2] at er; cases er
        | ok m2 d2 =>
          rw [e1, e2] at er
          have er : Res.of (φ m1 d1 m2 d2) = .ok m d := er
          cases e3 : φ m1 d1 m2 d2 with
          | none => rw [e3] at er; cases er
          | some kd => rw [e3] at er; obtain ⟨k, d'⟩ := kd; cases er; exact hb' _ _ _ _ _ _ e3
    obtain ⟨t, rfl, rfl⟩ := this
    intro v F' H' st rp _
    cases rp.bl
    exact ⟨t, rfl, w F' H' st⟩
def andR (x : Res) (y : Res) : Res := x.thn fun _ d => match d with | .bl true => y | .bl false => .ok .fz (.bl false) | _ => .stuck
def orR (x : Res) (y : Res) : Res := x.thn fun _ d => match d with | .bl true => .ok .fz (.bl true) | .bl false => y | _ => .stuck
def notR (x : Res) : Res := x.thn fun _ d => match d with | .bl b => .ok .fz (.bl (!b)) | _ => .stuck
theorem pt_notv (ha : PTv C X a ga) : PTv C X (.UnaryOp .Not a pos) (fun ρ => notR (ga ρ)) := by
  refine PT.imp (pt_not ha) fun σ H Q q => ?_
  obtain ⟨ρ, F, R, w⟩ := q
  try dsimp only at w
  refine ⟨ρ, F, R, ?_⟩
  cases er : ga ρ with
  | stuck => rw [er] at w; exact w
  | exc c => rw [er] at w; exact w
  | ok m d =>
    rw [er] at w
    cases d with
    | bl b => exact w
    | _ => exact w
theorem pw_onev {op : BoolOp} (h : PTv C X a ga) : PWv C X (.BoolOp op [a] pos) ga := by
  cases op with
  | And => exact pw_and1 h
  | Or => exact pw_or1 h
theorem tT_and {σ : L2.St} {H : Hp} {Q : Bool → Hp → Prop} (q : tT C (fun ρ => andR (ga ρ) (gb ρ)) σ H Q) : tAnd (tT C ga) (tT C gb) σ H Q := by
  obtain ⟨ρ, F, R, w⟩ := q
  try dsimp only at w
  refine ⟨ρ, F, R, ?_⟩
  cases er : ga ρ with
  | stuck => rw [er] at w; exact w
  | exc c => rw [er] at w; exact w
  | ok m d =>
    rw [er] at w
    cases d with
    | bl b =>
      intro F' H' st
      cases b with
      | true =>
        rw [if_pos rfl]
        exact ⟨ρ, F', R.step st, WantB.step st w⟩
      | false =>
        rw [if_neg Bool.false_ne_true]
        exact w F' H' st
    | _ => exact w
theorem tT_or {σ : L2.St} {H : Hp} {Q : Bool → Hp → Prop} (q : tT C (fun ρ => orR (ga ρ) (gb ρ)) σ H Q) : tOr (tT C ga) (tT C gb) σ H Q := by
  obtain ⟨ρ, F, R, w⟩ := q
  try dsimp only at w
  refine ⟨ρ, F, R, ?_⟩
  cases er : ga ρ with
  | stuck => rw [er] at w; exact w
  | exc c => rw [er] at w; exact w
  | ok m d =>
    rw [er] at w
    cases d with
    | bl b =>
      intro F' H' st
      cases b with
      | true =>
        rw [if_pos rfl]
        exact w F' H' st
      | false =>
        rw [if_neg Bool.false_ne_true]
        exact ⟨ρ, F', R.step st, WantB.step st w⟩
    | _ => exact w
theorem pw_andv {rest : List Expr} (ha : PTv C X a ga) (hb : PWv C X (.BoolOp .And (b :: rest) pos) gb) : PWv C X (.BoolOp .And (a :: b :: rest) pos) (fun ρ => andR (ga ρ) (gb ρ)) := PW.imp (pw_and ha hb) fun _ _ _ q => tT_and q
theorem pw_orv {rest : List Expr} (ha : PTv C X a ga) (hb : PWv C X (.BoolOp .Or (b :: rest) pos) gb) : PWv C X (.BoolOp .Or (a :: b :: rest) pos) (fun ρ => orR (ga ρ) (gb ρ)) := PW.imp (pw_or ha hb) fun _ _ _ q => tT_or q
theorem pt_w (h : PWv C X e g) : PTv C X e g := PW.pt h
/-! .. as values -/
theorem pv_onev {op} (h : PV C X a ga) : PV C X (.BoolOp op [a] pos) ga := pe_one h
theorem pv_andv {rest : List Expr} (ha : PV C X a ga) (hb : PV C X (.BoolOp .And (b :: rest) pos) gb) : PV C X (.BoolOp .And (a :: b :: rest) pos) (fun ρ => andR (ga ρ) (gb ρ)) := by
  refine PE.imp (pe_and ha hb) fun σ H Q q => ?_
  unfold tAndV
  rw [tG_eq] at q ⊢
  obtain ⟨ρ, F, R, w⟩ := q
  try dsimp only at w
  refine ⟨ρ, F, R, ?_⟩
  cases er : ga ρ with
  | stuck => rw [er] at w; exact w
  | exc c => rw [er] at w; exact w
  | ok m d =>
    rw [er] at w
    cases d with
    | bl k =>
      intro v F' H' st rp _
      cases rp.bl
      refine ⟨k, rfl, ?_⟩
      cases k with
      | true =>
        rw [if_pos rfl, tG_eq]
        exact ⟨ρ, F', R.step st, Want.step st w⟩
      | false =>
        rw [if_neg Bool.false_ne_true]
        exact w (.bl false) F' H' st (rp_bl _) (by intro z; cases z)
    | _ => exact w.elim
theorem pv_orv {rest : List Expr} (ha : PV C X a ga) (hb : PV C X (.BoolOp .Or (b :: rest) pos) gb) : PV C X (.BoolOp .Or (a :: b :: rest) pos) (fun ρ => orR (ga ρ) (gb ρ)) := by
  refine PE.imp (pe_or ha hb) fun σ H Q q => ?_
  unfold tOrV
  rw [tG_eq] at q ⊢
  obtain ⟨ρ, F, R, w⟩ := q
  try dsimp only at w
  refine ⟨ρ, F, R, ?_⟩
  cases er : ga ρ with
  | stuck => rw [er] at w; exact w
  | exc c => rw [er] at w; exact w
  | ok m d =>
    rw [er] at w
    cases d with
    | bl k =>
      intro v F' H' st rp _
      cases rp.bl
      refine ⟨k, rfl, ?_⟩
      cases k with
      | true =>
        rw [if_pos rfl]
        exact w (.bl true) F' H' st (rp_bl _) (by intro z; cases z)
      | false =>
        rw [if_neg Bool.false_ne_true, tG_eq]
        exact ⟨ρ, F', R.step st, Want.step st w⟩
    | _ => exact w.elim
theorem pv_notv (ha : PV C X a ga) : PV C X (.UnaryOp .Not a pos) (fun ρ => notR (ga ρ)) := by
  refine PE.imp (pe_not ha) fun σ H Q q => ?_
  unfold tNotV
  rw [tG_eq] at q ⊢
  obtain ⟨ρ, F, R, w⟩ := q
  try dsimp only at w
  refine ⟨ρ, F, R, ?_⟩
  cases er : ga ρ with
  | stuck => rw [er] at w; exact w
  | exc c => rw [er] at w; exact w
  | ok m d =>
    rw [er] at w
    cases d with
    | bl k =>
      intro v F' H' st rp _
      cases rp.bl
      exact ⟨k, rfl, w _ F' H' st (rp_bl _) (by intro z; cases z)⟩
    | _ => exact w.elim
/-- one operand -/
def negR (x : Res) : Res := x.thn fun _ d => match d with | .int i => .ok .fz (.int (-i)) | _ => .stuck
theorem pv_neg (ha : PV C X a ga) : PV C X (.UnaryOp .USub a pos) (fun ρ => negR (ga ρ)) := by
  refine PE.imp (pe_un un_neg ha) fun σ H Q q => ?_
  unfold tUn
  rw [tG_eq] at q ⊢
  obtain ⟨ρ, F, R, w⟩ := q
  try dsimp only at w
  refine ⟨ρ, F, R, ?_⟩
  cases er : ga ρ with
  | stuck => rw [er] at w; exact w
  | exc c => rw [er] at w; exact w
  | ok m d =>
    rw [er] at w
    cases d with
    | int i =>
      intro v F' H' st rp _
      cases rp.int
      exact ⟨i, rfl, w _ F' H' st (rp_int _) (by intro z; cases z)⟩
    | _ => exact w.elim

/-! ### subscripts -/
def ixD : Md → D → Md → D → Option (Md × D) := fun _ x _ y => match x, y with
  | .lst ds, .int i => (atI ds i).map fun d => (.fz, d)
  | .tup ds, .int i => (atI ds i).map fun d => (.fz, d)
  | .str z, .int i => (atI z.cps.toList i).map fun c => (.fz, .str ⟨#[c]⟩)
  | _, _ => none
theorem RepL.atI {K : PySem.W.Frag} {F : Hp} {ds : List D} {xs : List V} {i : Int} {d : D} (h : RepL K F ds xs) (e : atI ds i = some d) : ∃ x, L2.atI xs i = some x ∧ RepV K F d x := by
  unfold L2.atI at *
  rw [h.length]
  cases q : ixN ds.length i with
  | none => rw [q] at e; cases e
  | some j => rw [q] at e; exact h.get' e
theorem ixD_rule {F H : Hp} {m n k : Md} {x y d : D} {v u : V} {Q : VK} (s : Same F H) (rx : Rp X.K F H m x v) (ry : Rp X.K F H n y u) (e : ixD m x n y = some (k, d))
    (w : ∀ v' F' H', Step F H F' H' → Rp X.K F' H' k d v' → (k = .fr → ∀ a, v' = .ref a → H a = none) → Q v' H') : rIx X.K v u H Q := by
  unfold ixD at e
  split at e
  · rename_i ds i
    cases ry.int
    obtain ⟨p, xs, rfl, hq, r⟩ := rx.seqL s
    cases ei : atI ds i with
    | none => rw [ei] at e; cases e
    | some d' =>
      rw [ei] at e; cases e
      obtain ⟨x', ex, rx'⟩ := r.atI ei
      exact .inl ⟨p, xs, i, x', rfl, rfl, hq, ex, w x' F H (.refl s) rx' (by intro z; cases z)⟩
  · rename_i ds i
    cases ry.int
    obtain ⟨p, xs, rfl, hq, r⟩ := rx.seqT s
    cases ei : atI ds i with
    | none => rw [ei] at e; cases e
    | some d' =>
      rw [ei] at e; cases e
      obtain ⟨x', ex, rx'⟩ := r.atI ei
      exact .inr (.inl ⟨p, xs, i, x', rfl, rfl, hq, ex, w x' F H (.refl s) rx' (by intro z; cases z)⟩)
  · rename_i z i
    cases ry.int
    obtain ⟨rfl, hl, hk⟩ := rx.str
    cases ei : atI z.cps.toList i with
    | none => rw [ei] at e; cases e
    | some c =>
      rw [ei] at e; cases e
      refine .inr (.inr ⟨z, i, c, rfl, rfl, hl, ei, w _ F H (.refl s) (rp_str ⟨?_, ?_⟩) (by intro z; cases z)⟩)
      · show 1 ≤ sizeLine; decide
      · obtain ⟨j, _, hj, _⟩ := atI_get ei
        unfold PyData.strOk at hk ⊢
        rw [Array.all_eq_true_iff_forall_mem] at hk
        have hc := hk c (by rw [← Array.mem_toList_iff]; exact List.mem_of_getElem? hj)
        simpa using hc
  · cases e
theorem pv_ix (ha : PV C X a ga) (hb : PV C X b gb) (hs : PlainIx b := by intro _ _; rfl) : PV C X (.Subscript a b pos) (fun ρ => op2 ixD (ga ρ) (gb ρ)) := by
  exact PE.imp (pe_ix ix_seq ha hb hs) fun σ H Q q => tG_op2 (fun F H m x n y v u k d Q s rx ry e w => ixD_rule s rx ry e w) q
/-! ### slices of texts -/
theorem sl_str : SlR X (fun x lo hi H Q => ∃ z, x = .str z ∧ z.length ≤ sizeLine ∧ Q (.str (Txt.slice z lo hi)) H) := by
  intro pins s σ H x v vl vu lo hi sl Q I rx hs pl pu h
  obtain ⟨z, rfl, hz, q⟩ := h
  obtain ⟨t, rfl⟩ := rx
  refine ⟨"str", _, PySem.F.slot_str_getitem.lookup, typeIs_str _ _ _, ?_⟩
  have fin : ∀ t' k, EP X pins σ Q (.str (Txt.slice z lo hi) t') { s with toks := k } := fun t' k => ⟨.str (Txt.slice z lo hi), H, I.tok _, ⟨_, rfl⟩, q⟩
  cases pl with
  | none =>
    cases pu with
    | none => exact wpAny_getItem_str_slice (l := none) (u := none) (st := none) hs rfl (post_val_or_str ⟨Nat.le_trans (Txt.slice_le z _ _) hz, fun t' k => fin t' k⟩)
    | int j tj => exact wpAny_getItem_str_slice (l := none) (u := some (j, tj)) (st := none) hs rfl (post_val_or_str ⟨Nat.le_trans (Txt.slice_le z _ _) hz, fun t' k => fin t' k⟩)
  | int i ti =>
    cases pu with
    | none => exact wpAny_getItem_str_slice (l := some (i, ti)) (u := none) (st := none) hs rfl (post_val_or_str ⟨Nat.le_trans (Txt.slice_le z _ _) hz, fun t' k => fin t' k⟩)
    | int j tj => exact wpAny_getItem_str_slice (l := some (i, ti)) (u := some (j, tj)) (st := none) hs rfl (post_val_or_str ⟨Nat.le_trans (Txt.slice_le z _ _) hz, fun t' k => fin t' k⟩)
theorem strOk_slice {z : Str} {lo hi : Option Int} (h : PyData.strOk z = true) : PyData.strOk (Txt.slice z lo hi) = true := by
  unfold Txt.slice
  split
  · exact h
  · unfold PyData.strOk at *
    rw [Array.all_eq_true_iff_forall_mem] at h ⊢
    intro c hc
    rw [← Array.mem_toList_iff, List.toList_toArray, List.mem_filterMap] at hc
    obtain ⟨j, _, hj⟩ := hc
    exact h c (Array.mem_of_getElem? hj)
def POv (C : Cw) (X : Cx) : Option Expr → Option (Rho → Res) → Prop
  | none, none => True
  | some e, some g => PV C X e g
  | _, _ => False
def partT (C : Cw) : Option (Rho → Res) → TO
  | none => tNoPart
  | some g => tPart (tG C g)
theorem po_of {e : Option Expr} {g : Option (Rho → Res)} (h : POv C X e g) : PO X e (partT (C.at X) g) := by
  cases e with
  | none => cases g with
    | none => exact po_none
    | some g => exact h.elim
  | some e => cases g with
    | none => exact h.elim
    | some g => exact po_some h
/-- the value of a part, then on -/
def partThn (g : Option (Rho → Res)) (ρ : Rho) (k : Option Int → Res) : Res := match g with
  | none => k none
  | some g => (g ρ).thn fun _ d => match d with | .int i => k (some i) | _ => .stuck
theorem want_part {F H : Hp} {σ : L2.St} {g : Option (Rho → Res)} {ρ : Rho} {k : Option Int → Res} {Q : VK} {R : Option Int → Hp → Prop} (RS : RelSt C.K C.F0 C.H0 F H σ ρ) (w : Want C F H σ (partThn g ρ k) Q)
    (h : ∀ i F' H', Step F H F' H' → RelSt C.K C.F0 C.H0 F' H' σ ρ → Want C F' H' σ (k i) Q → R i H') : partT C g σ H R := by
  cases g with
  | none => exact h none F H (.refl RS.sub) RS w
  | some g =>
    show tPart (tG C g) σ H R
    unfold tPart
    rw [tG_eq]
    refine ⟨ρ, F, RS, ?_⟩
    have w : Want C F H σ ((g ρ).thn fun _ d => match d with | .int i => k (some i) | _ => .stuck) Q := w
    cases er : g ρ with
    | stuck => rw [er] at w; exact w
    | exc c => rw [er] at w; exact w
    | ok m d =>
      rw [er] at w
      intro v F' H' st rp _
      cases d with
      | int i => cases rp.int; exact ⟨i, rfl, h (some i) F' H' st (RS.step st) (Want.step st w)⟩
      | _ => exact (show False from w).elim
/-! ### a text times a number -/
end
end D3

namespace D3
open PySem PySem.Spec PyProof.Rows L2

/-! ### argument lists -/
inductive ResL where
  | ok (xs : List (Md × D)) | exc (c : Str) | stuck
def RpL (K : PySem.W.Frag) (F H : Hp) : List (Md × D) → List V → Prop
  | [], vs => vs = []
  | (m, d) :: r, vs => ∃ v us, vs = v :: us ∧ Rp K F H m d v ∧ RpL K F H r us
def ResL.thn (r : ResL) (k : List (Md × D) → Res) : Res := match r with
  | .ok xs => k xs
  | .exc c => .exc c
  | .stuck => .stuck
@[simp] theorem ResL.thn_ok (xs : List (Md × D)) (k : List (Md × D) → Res) : (ResL.ok xs).thn k = k xs := rfl
@[simp] theorem ResL.thn_exc (c : Str) (k : List (Md × D) → Res) : (ResL.exc c).thn k = .exc c := rfl
@[simp] theorem ResL.thn_stuck (k : List (Md × D) → Res) : ResL.stuck.thn k = .stuck := rfl
def WantL (C : Cw) (F H : Hp) (σ : L2.St) (r : ResL) (Q : List V → Hp → Prop) : Prop := match r with
  | .ok xs => ∀ vs F' H', Step F H F' H' → RpL C.K F' H' xs vs → Q vs H'
  | .exc c => ∀ F' H', Step F H F' H' → C.EE c σ H'
  | .stuck => False
theorem WantL.step {C : Cw} {F H F1 H1 : Hp} {σ : L2.St} {r : ResL} {Q : List V → Hp → Prop} (st : Step F H F1 H1) (h : WantL C F H σ r Q) : WantL C F1 H1 σ r Q := by
  cases r with
  | ok m => exact fun v F' H' s2 rp => h v F' H' (st.trans s2) rp
  | exc c => exact fun F' H' s2 => h F' H' (st.trans s2)
  | stuck => exact h
def tAv (C : Cw) (g : Rho → ResL) : TA := fun σ H Q => ∃ ρ F, RelSt C.K C.F0 C.H0 F H σ ρ ∧ WantL C F H σ (g ρ) Q
def PAv (C : Cw) (X : Cx) (es : List Expr) (g : Rho → ResL) : Prop := PA X es (tAv (C.at X) g)
theorem PA.imp {X : Cx} {e : List Expr} {t t' : TA} (h : PA X e t) (i : ∀ σ H Q, t' σ H Q → t σ H Q) : PA X e t' := fun p pins s σ H Q I q => h p pins s σ H Q I (i σ H Q q)
def consL (x : Res) (y : ResL) : ResL := match x with
  | .ok m d => (match y with | .ok r => .ok ((m, d) :: r) | .exc c => .exc c | .stuck => .stuck)
  | .exc c => .exc c
  | .stuck => .stuck
@[simp] theorem consL_ok (m : Md) (d : D) (r : List (Md × D)) : consL (.ok m d) (.ok r) = .ok ((m, d) :: r) := rfl
section
variable {C : Cw} {X : Cx} {a b c e : Expr} {es : List Expr} {ga gb gc g : Rho → Res} {gs : Rho → ResL} {pos p : Pos} {x : Str}
theorem pav_nil : PAv C X [] (fun _ => .ok []) := PA.imp pa_nil fun σ H Q q => by
  obtain ⟨ρ, F, R, w⟩ := q
  exact w [] F H (.refl R.sub) rfl
theorem pav_cons (ha : PV C X e g) (hr : PAv C X es gs) (hs : starEach (e :: es) X.env = (false, eval e X.env) :: starEach es X.env := by rfl) : PAv C X (e :: es) (fun ρ => consL (g ρ) (gs ρ)) := by
  refine PA.imp (pa_cons ha hr hs) fun σ H Q q => ?_
  unfold tCons
  obtain ⟨ρ, F, R, w⟩ := q
  dsimp only at w
  rw [tG_eq]
  refine ⟨ρ, F, R, ?_⟩
  cases er : g ρ with
  | stuck => rw [er] at w; exact w
  | exc c => rw [er] at w; exact w
  | ok m d =>
    rw [er] at w
    intro v F1 H1 s1 r1 _
    refine ⟨ρ, F1, R.step s1, ?_⟩
    have w1 := WantL.step s1 w
    cases es' : gs ρ with
    | stuck => rw [es'] at w1; exact w1
    | exc c => rw [es'] at w1; exact w1
    | ok r =>
      rw [es'] at w1
      intro vs F2 H2 s2 r2
      exact w1 (v :: vs) F2 H2 s2 ⟨v, vs, rfl, r1.step s2, r2⟩
/-! ### displays -/
/-- all frozen: the data alone -/
def allFz : List (Md × D) → Option (List D)
  | [] => some []
  | (.fz, d) :: r => (allFz r).map (d :: ·)
  | _ :: _ => none
theorem RpL.fz {K : PySem.W.Frag} {F H : Hp} : ∀ {xs : List (Md × D)} {vs : List V} {ds : List D}, RpL K F H xs vs → allFz xs = some ds → RepL K F ds vs
  | [], _, _, h, e => by cases e; rw [show _ = [] from h]; exact RepL.nil
  | (.fz, d) :: r, _, _, h, e => by
    obtain ⟨v, us, rfl, r1, r2⟩ := h
    unfold allFz at e
    cases q : allFz r with
    | none => rw [q] at e; cases e
    | some ds' => rw [q] at e; cases e; exact RepL.cons r1 (RpL.fz r2 q)
  | (.fr, d) :: r, _, _, h, e => by cases e
  | (.bo, d) :: r, _, _, h, e => by cases e
def tupR (r : ResL) : Res := r.thn fun xs => match allFz xs with | some ds => if ds.length ≤ sizeLine then .ok .fz (.tup ds) else .stuck | none => .stuck
def lstR (r : ResL) : Res := r.thn fun xs => match allFz xs with | some ds => if ds.length ≤ sizeLine then .ok .fr (.lst ds) else .stuck | none => .stuck
theorem RepV.tup_of {K : PySem.W.Frag} {F : Hp} {p : Addr} {ds : List D} {xs : List V} (hp : F p = none) (r : RepL K F ds xs) : RepV K (upd F p (.tup xs)) (.tup ds) (.ref p) := by
  simp only [RepV]
  exact ⟨p, xs, rfl, SqT.of upd_same, r.mono (fun b u q => by rw [upd_ne (ne_of_none q hp)]; exact q) _ _⟩
theorem pv_tup {x1} (h : PAv C X es gs) : PV C X (.Tuple es x1 pos) (fun ρ => tupR (gs ρ)) := by
  refine PE.imp (pe_tup h) fun σ H Q q => ?_
  unfold tTup
  rw [tG_eq] at q
  obtain ⟨ρ, F, R, w⟩ := q
  refine ⟨ρ, F, R, ?_⟩
  cases er : gs ρ with
  | stuck => rw [er] at w; exact w
  | exc c => rw [er] at w; exact w
  | ok xs =>
    rw [er] at w
    intro vs F1 H1 s1 r1
    have w1 : Want (C.at X) F1 H1 σ (match allFz xs with | some ds => if ds.length ≤ sizeLine then .ok .fz (.tup ds) else .stuck | none => .stuck) Q := Want.step s1 w
    cases ef : allFz xs with
    | none => rw [ef] at w1; exact w1.elim
    | some ds =>
      rw [ef] at w1
      dsimp only at w1
      split at w1
      · rename_i hl
        have r2 := r1.fz ef
        refine ⟨by rw [r2.length]; exact hl, fun p hp => ?_⟩
        exact w1 (.ref p) _ _ (Step.laid (.tup vs) s1.sub hp) (RepV.tup_of (s1.sub.free hp) r2) (by intro z; cases z)
      · exact w1.elim
theorem pv_lst (h : PAv C X es gs) : PV C X (.List es pos) (fun ρ => lstR (gs ρ)) := by
  refine PE.imp (pe_lst h) fun σ H Q q => ?_
  unfold tLst
  rw [tG_eq] at q
  obtain ⟨ρ, F, R, w⟩ := q
  refine ⟨ρ, F, R, ?_⟩
  cases er : gs ρ with
  | stuck => rw [er] at w; exact w
  | exc c => rw [er] at w; exact w
  | ok xs =>
    rw [er] at w
    intro vs F1 H1 s1 r1
    have w1 : Want (C.at X) F1 H1 σ (match allFz xs with | some ds => if ds.length ≤ sizeLine then .ok .fr (.lst ds) else .stuck | none => .stuck) Q := Want.step s1 w
    cases ef : allFz xs with
    | none => rw [ef] at w1; exact w1.elim
    | some ds =>
      rw [ef] at w1
      dsimp only at w1
      split at w1
      · rename_i hl
        have r2 := r1.fz ef
        refine ⟨by rw [r2.length]; exact hl, fun p hp => ?_⟩
        refine w1 (.ref p) F1 _ (Step.fresh (.lst vs) s1.sub hp) ⟨p, rfl, s1.sub.free hp, vs, upd_same, r2⟩ fun _ a ea => by cases ea; exact hp
      · exact w1.elim
/-- {k: v}: one key, a text or an int -/
def keyD : D → Option Key
  | .int i => some (.inl i)
  | .str x => some (.inr x)
  | _ => none
theorem keyD_rep {K : PySem.W.Frag} {F H : Hp} {m : Md} {d : D} {k : Key} {v : V} (e : keyD d = some k) (r : Rp K F H m d v) : v = kV k := by
  cases d with
  | int i => cases e; exact r.int
  | str x => cases e; exact r.str.1
  | _ => cases e
/-! ### calls of what Python has -/
def CallD (X : Cx) (f : Value) (φ : List (Md × D) → Option (Md × D)) : Prop :=
  ∃ r : List V → Hp → VK → Prop, CallR X f r ∧ ∀ F H xs vs k d Q, Same F H → RpL X.K F H xs vs → φ xs = some (k, d) →
    (∀ v' F' H', Step F H F' H' → Rp X.K F' H' k d v' → (k = .fr → ∀ a, v' = .ref a → H a = none) → Q v' H') → r vs H Q
def callR (φ : List (Md × D) → Option (Md × D)) (r : ResL) : Res := r.thn fun xs => Res.of (φ xs)
theorem tG_call {φ : List (Md × D) → Option (Md × D)} {r : List V → Hp → VK → Prop} (h : ∀ F H xs vs k d Q, Same F H → RpL C.K F H xs vs → φ xs = some (k, d) →
    (∀ v' F' H', Step F H F' H' → Rp C.K F' H' k d v' → (k = .fr → ∀ a, v' = .ref a → H a = none) → Q v' H') → r vs H Q) {σ : L2.St} {H : Hp} {Q : VK}
    (q : tG C (fun ρ => callR φ (gs ρ)) σ H Q) : tCB r (tAv C gs) σ H Q := by
  unfold tCB
  rw [tG_eq] at q
  obtain ⟨ρ, F, R, w⟩ := q
  refine ⟨ρ, F, R, ?_⟩
  cases er : gs ρ with
  | stuck => rw [er] at w; exact w
  | exc c => rw [er] at w; exact w
  | ok xs =>
    rw [er] at w
    intro vs F1 H1 s1 r1
    have w1 : Want C F1 H1 σ (Res.of (φ xs)) Q := Want.step s1 w
    cases ef : φ xs with
    | none => rw [ef] at w1; exact w1.elim
    | some kd => obtain ⟨k, d⟩ := kd; rw [ef] at w1; exact h F1 H1 xs vs k d Q s1.sub r1 ef w1
theorem pv_callB {id : String} {φ} (o : CallD X (.builtin id) φ) (hg : Gl X x) (hm : X.mg x = none) (hv : bootBuiltins x = some (.builtin id)) (ha : PAv C X (e :: es) gs) (hn : x ≠ "__name__" := by decide) (hdb : (x == ("__debug__" : Str)) = false := by decide)
    (he : starEach (e :: es) X.env = (false, eval e X.env) :: starEach es X.env := by rfl) (hpl : (backTo pos (starEach es X.env)).any (·.1) = false := by rfl) : PV C X (.Call (.Name x p) (e :: es) [] pos) (fun ρ => callR φ (gs ρ)) := by
  obtain ⟨r, h1, h2⟩ := o
  exact PE.imp (pe_callB h1 hg hm hv ha hn hdb he hpl) fun σ H Q q => tG_call h2 q
/-! len -/
def lenD : List (Md × D) → Option (Md × D)
  | [(_, .str z)] => some (.fz, .int z.length)
  | [(_, .lst ds)] => some (.fz, .int ds.length)
  | [(_, .tup ds)] => some (.fz, .int ds.length)
  | _ => none
theorem RpL.one {K : PySem.W.Frag} {F H : Hp} {m : Md} {d : D} {vs : List V} (h : RpL K F H [(m, d)] vs) : ∃ v, vs = [v] ∧ Rp K F H m d v := by
  obtain ⟨v, us, rfl, r, e⟩ := h
  exact ⟨v, by rw [show us = [] from e], r⟩
theorem RpL.two {K : PySem.W.Frag} {F H : Hp} {m n : Md} {d e : D} {vs : List V} (h : RpL K F H [(m, d), (n, e)] vs) : ∃ v u, vs = [v, u] ∧ Rp K F H m d v ∧ Rp K F H n e u := by
  obtain ⟨v, us, rfl, r, v', us', rfl, r', e⟩ := h
  exact ⟨v, v', by rw [show us' = [] from e], r, r'⟩
theorem calld_len : CallD X (.builtin "len") lenD := by
  refine ⟨_, call_len, fun F H xs vs k d Q s rx e w => ?_⟩
  unfold lenD at e
  split at e
  · rename_i m z
    cases e
    obtain ⟨v, rfl, r⟩ := rx.one
    obtain ⟨rfl, hz, _⟩ := r.str
    exact ⟨_, z.length, rfl, ⟨hz, rfl⟩, w _ F H (.refl s) (rp_int _) (by intro z; cases z)⟩
  · rename_i m ds
    cases e
    obtain ⟨v, rfl, r⟩ := rx.one
    obtain ⟨a, xs, rfl, q, rl⟩ := r.seqL s
    exact ⟨_, xs.length, rfl, .inl ⟨xs, q, rfl⟩, by rw [rl.length]; exact w _ F H (.refl s) (rp_int _) (by intro z; cases z)⟩
  · rename_i m ds
    cases e
    obtain ⟨v, rfl, r⟩ := rx.one
    obtain ⟨a, xs, rfl, q, rl⟩ := r.seqT s
    exact ⟨_, xs.length, rfl, .inr ⟨xs, q, rfl⟩, by rw [rl.length]; exact w _ F H (.refl s) (rp_int _) (by intro z; cases z)⟩
  · cases e
/-! isinstance by a type of Python's own -/
def tyN : D → Option String
  | .non => some "NoneType" | .bl _ => some "bool" | .int _ => some "int" | .str _ => some "str" | .tup _ => some "tuple" | .lst _ => some "list" | .dct _ => some "dict" | _ => none
def isTy (t c : String) : Option Bool := if ["int", "bool", "str", "list", "tuple", "dict"].contains c = true then some (t == c || (t == "bool" && c == "int")) else none
def isiD : List (Md × D) → Option (Md × D)
  | [(_, d), (_, .ty c)] => match tyN d with | some t => (isTy t c).map fun b => (.fz, .bl b) | none => none
  | _ => none
theorem kit_of {K : PySem.W.Frag} {d : D} {t c : String} {b : Bool} (ht : tyN d = some t) (e : isTy t c = some b) : PySem.W.kitOne K (.type t) (.type c) = some b := by
  unfold isTy at e
  split at e
  · rename_i hc
    simp only [List.contains_cons, List.contains_nil, Bool.or_false, Bool.or_eq_true, beq_iff_eq] at hc
    cases e
    have ht' : t = "NoneType" ∨ t = "bool" ∨ t = "int" ∨ t = "str" ∨ t = "tuple" ∨ t = "list" ∨ t = "dict" := by
      cases d <;> cases ht <;> simp
    rcases hc with rfl | rfl | rfl | rfl | rfl | rfl <;> rcases ht' with rfl | rfl | rfl | rfl | rfl | rfl | rfl <;> rfl
  · cases e
theorem calld_isi : CallD X (.builtin "isinstance") isiD := by
  refine ⟨fun vs H Q => ∃ (F : Hp) (m : Md) (d : D) (v : V) (t c : String) (b : Bool), Same F H ∧ Rp X.K F H m d v ∧ vs = [v, .ty c] ∧ tyN d = some t ∧ isTy t c = some b ∧ Q (.bl b) H, ?_, ?_⟩
  · intro pins s σ H xs us Q I r h
    obtain ⟨F, m, d, v, t, c, b, sF, rp, rfl, ht, hb, q⟩ := h
    obtain ⟨u, u', rfl, ru, ru'⟩ := vals2 r
    cases (show u' = Value.type c from ru')
    have e := kit_of (K := X.K) ht hb
    have fin : ∀ tk, EP X pins σ Q (.bool b) { s with toks := tk } := fun tk => ⟨.bl b, H, I.tok _, rfl, q⟩
    cases d with
    | non => cases rp.non; cases ht; cases (show u = Value.none from ru); exact PySem.W.kia_one PySem.W.kitx_none I.kIn True.intro e (fun z => nomatch z) fin
    | bl y => cases rp.bl; cases ht; cases (show u = Value.bool y from ru); exact PySem.W.kia_one PySem.W.kitx_bool I.kIn True.intro e (fun z => nomatch z) fin
    | int i => cases rp.int; cases ht; obtain ⟨t, q⟩ := (show ∃ t, u = Value.int i t from ru); cases q; exact PySem.W.kia_one PySem.W.kitx_int I.kIn True.intro e (fun z => nomatch z) fin
    | str y => obtain ⟨rfl, _⟩ := rp.str; cases ht; obtain ⟨t, q⟩ := (show ∃ t, u = Value.str y t from ru); cases q; exact PySem.W.kia_one PySem.W.kitx_str I.kIn True.intro e (fun z => nomatch z) fin
    | tup ds =>
      obtain ⟨a, xs, rfl, hq, _⟩ := rp.seqT sF
      cases ht
      cases (show u = Value.ref a from ru)
      obtain ⟨its, _, ⟨o, h1, h2, _⟩, _⟩ := I.tuple hq
      exact PySem.W.kia_one PySem.W.kitx_tuple I.kIn ⟨o, h1, h2⟩ e (fun z => nomatch z) fin
    | lst ds =>
      obtain ⟨a, xs, rfl, hq, _⟩ := rp.seqL sF
      cases ht
      cases (show u = Value.ref a from ru)
      obtain ⟨its, _, ⟨o, n, h1, h2, _⟩, _⟩ := I.list hq
      exact PySem.W.kia_one PySem.W.kitx_list I.kIn ⟨o, h1, h2⟩ e (fun z => nomatch z) fin
    | dct ds =>
      obtain ⟨a, xs, rfl, hq, _⟩ := rp.dict sF
      cases ht
      cases (show u = Value.ref a from ru)
      obtain ⟨_, _, vs, _, p⟩ := (show ObjOk X.prog X.w H s.heap a (.dK xs) from I.hok a _ hq)
      obtain ⟨o, es, ep, h1, h2, _⟩ := p
      exact PySem.W.kia_one PySem.W.kitx_dict I.kIn ⟨o, h1, h2.1⟩ e (fun z => nomatch z) fin
    | _ => cases ht
  · intro F H xs vs k d Q s rx e w
    unfold isiD at e
    split at e
    · rename_i m d' n c
      obtain ⟨v, u, rfl, r1, r2⟩ := rx.two
      cases r2.ty
      cases et : tyN d' with
      | none => rw [et] at e; cases e
      | some t =>
        rw [et] at e
        dsimp only at e
        cases eb : isTy t c with
        | none => rw [eb] at e; cases e
        | some b => rw [eb] at e; cases e; exact ⟨F, m, d', v, t, c, b, s, r1, rfl, et, eb, w _ F H (.refl s) (rp_bl _) (by intro z; cases z)⟩
    · cases e
/-- the name of a type of Python's own, as a value -/
theorem pv_ty {T : String} (hg : Gl X x) (hm : X.mg x = none) (hv : bootBuiltins x = some (.type T)) (hn : x ≠ "__name__" := by decide) (hd : (x == ("__debug__" : Str)) = false := by decide) : PV C X (.Name x pos) (fun _ => .ok .fz (.ty T)) :=
  pv_con _ (pe_bltn (v := .ty T) hg hm hv rfl hn hd) fun _ _ => rp_ty T
/-- a module's value: a text, a number -/
theorem pv_globS {y : Str} {t : Tok} (hg : Gl X x) (hm : X.mg x = some (.str y t)) (h : (decide (y.length ≤ sizeLine) && PyData.strOk y) = true := by decide +kernel) (hd : (x == ("__debug__" : Str)) = false := by decide) : PV C X (.Name x pos) (fun _ => .ok .fz (.str y)) :=
  pv_con _ (pe_glob (v := .str y) hg hm ⟨t, rfl⟩ hd) fun _ _ => rp_str (by rw [Bool.and_eq_true, decide_eq_true_eq] at h; exact h)
theorem pv_globI {y : Int} {t : Tok} (hg : Gl X x) (hm : X.mg x = some (.int y t)) (hd : (x == ("__debug__" : Str)) = false := by decide) : PV C X (.Name x pos) (fun _ => .ok .fz (.int y)) :=
  pv_con _ (pe_glob (v := .int y) hg hm ⟨t, rfl⟩ hd) fun _ _ => rp_int _
/-! all, any over a list of bools -/
end
end D3

namespace D3
open PySem PySem.Spec PyProof.Rows L2

inductive SRes where
  | nx (ρ : Rho) | rt (m : Md) (d : D) | bk (ρ : Rho) | ct (ρ : Rho) | exc (c : Str) (ρ : Rho) | stuck
def WantS (C : Cw) (Fa : Hp) (r : SRes) (E : Ends) : Prop := match r with
  | .nx ρ => ∀ σ F H, Same Fa F → RelSt C.K C.F0 C.H0 F H σ ρ → E.nx σ H
  | .bk ρ => ∀ σ F H, Same Fa F → RelSt C.K C.F0 C.H0 F H σ ρ → E.bk σ H
  | .ct ρ => ∀ σ F H, Same Fa F → RelSt C.K C.F0 C.H0 F H σ ρ → E.ct σ H
  | .exc c ρ => ∀ σ F H, Same Fa F → RelSt C.K C.F0 C.H0 F H σ ρ → C.EE c σ H
  | .rt m d => ∀ v F H, Step C.F0 C.H0 F H → Rp C.K F H m d v → (m = .fr → ∀ a, v = .ref a → C.H0 a = none) → E.rt v H
  | .stuck => False
theorem WantS.mono {C : Cw} {F F1 : Hp} {r : SRes} {E : Ends} (s : Same F F1) (w : WantS C F r E) : WantS C F1 r E := by
  cases r with
  | nx ρ => exact fun σ F' H' z R => w σ F' H' (s.trans z) R
  | bk ρ => exact fun σ F' H' z R => w σ F' H' (s.trans z) R
  | ct ρ => exact fun σ F' H' z R => w σ F' H' (s.trans z) R
  | exc c ρ => exact fun σ F' H' z R => w σ F' H' (s.trans z) R
  | rt m d => exact w
  | stuck => exact w
def tH (C : Cw) (g : Rho → SRes) : TS := fun E σ H => ∃ ρ F, RelSt C.K C.F0 C.H0 F H σ ρ ∧ WantS C F (g ρ) E
def PSv (C : Cw) (X : Cx) (st : Stmt) (g : Rho → SRes) : Prop := PS X st (tH (C.at X) g)
def PBv (C : Cw) (X : Cx) (st : List Stmt) (g : Rho → SRes) : Prop := PSs X st (tH (C.at X) g)
theorem PS.imp {X : Cx} {e : Stmt} {t t' : TS} (h : PS X e t) (i : ∀ E σ H, t' E σ H → t E σ H) : PS X e t' := fun pins s σ H E I q => h pins s σ H E I (i E σ H q)
theorem PSs.imp {X : Cx} {e : List Stmt} {t t' : TS} (h : PSs X e t) (i : ∀ E σ H, t' E σ H → t E σ H) : PSs X e t' := fun pins s σ H E I q => h pins s σ H E I (i E σ H q)
def SRes.thn (r : SRes) (k : Rho → SRes) : SRes := match r with
  | .nx ρ => k ρ
  | r => r
@[simp] theorem SRes.thn_nx (ρ : Rho) (k : Rho → SRes) : (SRes.nx ρ).thn k = k ρ := rfl
@[simp] theorem SRes.thn_rt (m : Md) (d : D) (k : Rho → SRes) : (SRes.rt m d).thn k = .rt m d := rfl
@[simp] theorem SRes.thn_bk (ρ : Rho) (k : Rho → SRes) : (SRes.bk ρ).thn k = .bk ρ := rfl
@[simp] theorem SRes.thn_ct (ρ : Rho) (k : Rho → SRes) : (SRes.ct ρ).thn k = .ct ρ := rfl
@[simp] theorem SRes.thn_exc (c : Str) (ρ : Rho) (k : Rho → SRes) : (SRes.exc c ρ).thn k = .exc c ρ := rfl
@[simp] theorem SRes.thn_stuck (k : Rho → SRes) : SRes.stuck.thn k = .stuck := rfl
section
variable {C : Cw} {X : Cx} {a b c e : Expr} {es : List Expr} {ga gb gc g : Rho → Res} {gs : Rho → ResL} {pos p : Pos} {x : Str} {st : Stmt} {sts : List Stmt} {h1 h2 : Rho → SRes}
/-! ### blocks -/
theorem pbv_nil : PBv C X [] (fun ρ => .nx ρ) := PSs.imp pss_nil fun E σ H q => by
  obtain ⟨ρ, F, R, w⟩ := q
  exact w σ F H (Same.refl _) R
theorem tH_seq {E : Ends} {σ : L2.St} {H : Hp} (q : tH C (fun ρ => (h1 ρ).thn h2) E σ H) : tSeq (tH C h1) (tH C h2) E σ H := by
  obtain ⟨ρ, F, R, w⟩ := q
  refine ⟨ρ, F, R, ?_⟩
  dsimp only at w
  cases er : h1 ρ with
  | nx ρ' =>
    rw [er] at w
    exact fun σ' F' H' z R' => ⟨ρ', F', R', WantS.mono z w⟩
  | rt m d => rw [er] at w; exact w
  | bk ρ' => rw [er] at w; exact w
  | ct ρ' => rw [er] at w; exact w
  | exc c ρ' => rw [er] at w; exact w
  | stuck => rw [er] at w; exact w
theorem pbv_cons (ha : PSv C X st h1) (hb : PBv C X sts h2) : PBv C X (st :: sts) (fun ρ => (h1 ρ).thn h2) := PSs.imp (pss_cons ha hb) fun E σ H q => tH_seq q
/-! ### plain statements -/
/-- by a value -/
def Res.thS (r : Res) (ρ : Rho) (k : Md → D → SRes) : SRes := match r with
  | .ok m d => k m d
  | .exc c => .exc c ρ
  | .stuck => .stuck
@[simp] theorem Res.thS_ok (m : Md) (d : D) (ρ : Rho) (k : Md → D → SRes) : (Res.ok m d).thS ρ k = k m d := rfl
@[simp] theorem Res.thS_exc (c : Str) (ρ : Rho) (k : Md → D → SRes) : (Res.exc c).thS ρ k = .exc c ρ := rfl
@[simp] theorem Res.thS_stuck (ρ : Rho) (k : Md → D → SRes) : Res.stuck.thS ρ k = .stuck := rfl
theorem tG_thS {F : Hp} {σ : L2.St} {H : Hp} {ρ : Rho} {k : Md → D → SRes} {E : Ends} {Q : VK} (R : RelSt C.K C.F0 C.H0 F H σ ρ) (w : WantS C F ((g ρ).thS ρ k) E)
    (h : ∀ m d v F' H', WantS C F' (k m d) E → Step F H F' H' → RelSt C.K C.F0 C.H0 F' H' σ ρ → Rp C.K F' H' m d v → (m = .fr → ∀ a, v = .ref a → H a = none) → Q v H') : tG C g σ H Q := by
  rw [tG_eq]
  refine ⟨ρ, F, R, ?_⟩
  cases er : g ρ with
  | stuck => rw [er] at w; exact w
  | exc c => rw [er] at w; exact fun F' H' s => w σ F' H' s.fsame (R.step s)
  | ok m d => rw [er] at w; exact fun v F' H' s rp fr => h m d v F' H' (WantS.mono s.fsame w) s (R.step s) rp fr
theorem psv_expr (he : PV C X e g) (hs : swapsWith e none pos.line X.env = pure false := by rfl) : PSv C X (.Expr e pos) (fun ρ => (g ρ).thS ρ fun _ _ => .nx ρ) := PS.imp (ps_expr he hs) fun E σ H q => by
  obtain ⟨ρ, F, R, w⟩ := q
  exact tG_thS R w fun m d v F' H' w' s R' rp fr => w' σ F' H' (Same.refl _) R'
def retR (r : Res) (ρ : Rho) : SRes := r.thS ρ fun m d => match m with | .bo => .stuck | m => .rt m d
theorem psv_ret (he : PV C X e g) : PSv C X (.Return (some e) pos) (fun ρ => retR (g ρ) ρ) := PS.imp (ps_ret he) fun E σ H q => by
  obtain ⟨ρ, F, R, w⟩ := q
  refine tG_thS R w fun m d v F' H' w' s R' rp fr => ?_
  cases m with
  | bo => exact (show False from w').elim
  | fz => exact w' v F' H' R'.st rp (by intro z; cases z)
  | fr => exact w' v F' H' R'.st rp fun _ a ea => R.st.same.free (fr rfl a ea)
/-- a name that owns its list is told on -/
def retS (ρ : Rho) (i : Nat) : SRes := match ρ[i]? with
  | some (some (false, d)) => .rt .fz d
  | some (some (true, d)) => .rt .fr d
  | _ => .stuck
theorem psv_retV (i : Nat) (h : PE X (.Name x p) (tVar i)) : PSv C X (.Return (some (.Name x p)) pos) (fun ρ => retS ρ i) := PS.imp (ps_ret h) fun E σ H q => by
  obtain ⟨ρ, F, R, w⟩ := q
  dsimp only at w
  unfold retS at w
  cases e : ρ[i]? with
  | none => rw [e] at w; exact w.elim
  | some o =>
    cases o with
    | none => rw [e] at w; exact w.elim
    | some q =>
      obtain ⟨m, d⟩ := q
      obtain ⟨v, e1, r, hh⟩ := R.slot i m d e
      rw [e] at w
      cases m with
      | false => exact ⟨v, e1, w v F H R.st r (by intro z; cases z)⟩
      | true => exact ⟨v, e1, w v F H R.st r fun _ => hh rfl⟩
def ifS (t : Res) (ρ : Rho) (x y : SRes) : SRes := t.thS ρ fun _ d => match d with | .bl true => x | .bl false => y | _ => .stuck
theorem psv_if {s1 s2 : List Stmt} (hc : PTv C X c gc) (ha : PBv C X s1 h1) (hb : PBv C X s2 h2) : PSv C X (.If c s1 s2 pos) (fun ρ => ifS (gc ρ) ρ (h1 ρ) (h2 ρ)) := by
  refine PS.imp (ps_if hc ha hb) fun E σ H q => ?_
  obtain ⟨ρ, F, R, w⟩ := q
  dsimp only at w
  refine ⟨ρ, F, R, ?_⟩
  cases er : gc ρ with
  | stuck => rw [er] at w; exact w
  | exc c => rw [er] at w; exact fun F' H' s => w σ F' H' s.fsame (R.step s)
  | ok m d =>
    rw [er] at w
    cases d with
    | bl k =>
      intro F' H' s
      cases k with
      | true => rw [if_pos rfl]; exact ⟨ρ, F', R.step s, WantS.mono s.fsame w⟩
      | false => rw [if_neg Bool.false_ne_true]; exact ⟨ρ, F', R.step s, WantS.mono s.fsame w⟩
    | _ => exact w.elim
/-! ### names given -/
def setS (ρ : Rho) (i : Nat) (r : Res) : SRes := r.thS ρ fun m d => match m with
  | .fz => .nx (ρ.set i (some (false, d)))
  | .fr => .nx (ρ.set i (some (true, d)))
  | .bo => .stuck
theorem RelSt.set {K : PySem.W.Frag} {F0 H0 F H F' H' : Hp} {σ : L2.St} {ρ : Rho} {i : Nat} {m : Bool} {d : D} {v : V} (R0 : RelSt K F0 H0 F H σ ρ) (s : Step F H F' H') (rp : Rp K F' H' (if m then .bo else .fz) d v)
    (fr : m = true → ∀ a, v = .ref a → H a = none) : RelSt K F0 H0 F' H' (σ.set i (some v)) (ρ.set i (some (m, d))) := by
  have R := R0.step s
  refine ⟨R.st, fun j m' d' e => ?_, fun j k d1 d2 a hjk e1 e2 q1 q2 => ?_, by rw [List.length_set, List.length_set]; exact R.len⟩
  · by_cases hj : j = i
    · subst hj
      rw [List.getElem?_set] at e
      by_cases hl : j < ρ.length
      · rw [if_pos rfl, if_pos hl] at e
        cases e
        refine ⟨v, by rw [List.getElem?_set, if_pos rfl, if_pos (by rw [R.len]; exact hl)], rp, fun z a ea => R0.st.same.free (fr z a ea)⟩
      · rw [if_pos rfl, if_neg hl] at e; cases e
    · rw [List.getElem?_set_ne (fun z => hj z.symm)] at e ⊢
      exact R.slot j m' d' e
  · have old : ∀ (l : Nat) (d : D) (b : Addr), l ≠ i → ρ[l]? = some (some (true, d)) → σ[l]? = some (some (.ref b)) → H b ≠ none := fun l d b hl e q => by
      obtain ⟨u, q', r, _⟩ := R0.slot l true d e
      rw [q] at q'; cases q'
      obtain ⟨b', eb, _, t⟩ := r
      cases eb
      exact t.there
    by_cases hj : j = i
    · subst hj
      rw [List.getElem?_set_ne hjk] at e2 q2
      rw [List.getElem?_set] at e1 q1
      by_cases hl : j < ρ.length
      · rw [if_pos rfl, if_pos hl] at e1
        rw [if_pos rfl, if_pos (by rw [R.len]; exact hl)] at q1
        cases e1; cases q1
        exact old k d2 a (fun z => hjk z.symm) e2 q2 (fr rfl a rfl)
      · rw [if_pos rfl, if_neg hl] at e1; cases e1
    · by_cases hk : k = i
      · subst hk
        rw [List.getElem?_set_ne (fun z => hjk z.symm)] at e1 q1
        rw [List.getElem?_set] at e2 q2
        by_cases hl : k < ρ.length
        · rw [if_pos rfl, if_pos hl] at e2
          rw [if_pos rfl, if_pos (by rw [R.len]; exact hl)] at q2
          cases e2; cases q2
          exact old j d1 a hjk e1 q1 (fr rfl a rfl)
        · rw [if_pos rfl, if_neg hl] at e2; cases e2
      · rw [List.getElem?_set_ne (fun z => hj z.symm)] at e1 q1
        rw [List.getElem?_set_ne (fun z => hk z.symm)] at e2 q2
        exact R.apart j k d1 d2 a hjk e1 e2 q1 q2
theorem set_tG {g : Rho → Res} {i : Nat} {E : Ends} {σ : L2.St} {H : Hp} (q : tH (C.at X) (fun ρ => setS ρ i (g ρ)) E σ H) : tAsg (tG (C.at X) g) (gName i) E σ H := by
  obtain ⟨ρ, F, R, w⟩ := q
  dsimp only at w
  refine tG_thS R w fun m d v F' H' w' s R' rp fr => ?_
  cases m with
  | bo => exact (show False from w').elim
  | fz => exact w' _ F' H' (Same.refl _) (R.set (m := false) s rp (by intro z; cases z))
  | fr => exact w' _ F' H' (Same.refl _) (R.set (m := true) s rp fun _ a ea => fr rfl a ea)
theorem psv_set {i : Nat} {pos' : Pos} (hN : X.N.Nodup) (hi : X.N[i]? = some x) (hx : Loc X.env.scope x) (he : PV C X e g) (hs : swapsWith e (some (.Name x pos')) pos.line X.env = pure false := by rfl)
    (hf : X.fn x = true ∨ X.env.scope.names.lookup x = some .local := by first | exact .inl rfl | exact .inr rfl | assumption) : PSv C X (.Assign [.Name x pos'] e pos) (fun ρ => setS ρ i (g ρ)) := PS.imp (ps_set hN hi hx he hs hf) fun E σ H q => set_tG q
end
end D3

namespace D3
open PySem PySem.Spec PyProof.Rows L2

/-! ### the signs of a text -/
def Its (x : Str) : It := ⟨fun i _ => i < x.cps.size, fun i H v H' => H' = H ∧ ∃ c, x.cps[i]? = some c ∧ v = .str ⟨#[c]⟩, fun i _ => x.cps.size ≤ i⟩
theorem turn_strT {P : Program} {w : World} {K : PySem.W.Frag} {tg : Expr} (it : Addr) (x : Str) (t : Tok) (ty : String) (hty : ["enumerate", "zip", "dict_itemiterator", "dict_reverseitemiterator", "odict_iterator", "itertools.zip_longest", "itertools.pairwise"].contains ty = false)
    (W : ∀ A' : Around, A'.handled = none → Walks P w A' it [it] [it] x.cps.size (SignAt x) (fun i h => h.IsStrIter it ty x t i)) (Sf : ∀ (A : Around) (i : Nat) (s : Shared) (Q : Value → Shared → Prop) (E : Value → Shared → Prop), s.heap.IsStrIter it ty x t i → Q (.ref it) s → wpAny (model P w) A (pyIter (.ref it)) Q E s) :
    Turn P w K tg (Its x) [it] it (fun i h => i ≤ x.cps.size ∧ h.IsStrIter it ty x t i) where
  mem := by simp
  obj := fun i h st b hb => by
    have e : b = it := by simpa using hb
    subst e
    obtain ⟨_, o, e, c, d⟩ := st
    exact ⟨o, e, fun v z => by rw [d] at z; cases z⟩
  keep := fun i h h' st k => ⟨st.1, let ⟨o, e, r⟩ := st.2; ⟨o, k it (by simp) o e, r⟩⟩
  item := by
    intro X hP hw hK hc i pins s σ H E I hf st hg
    subst hP hw hK
    obtain ⟨f0, f1, f2, f3, f4, f5⟩ := hf it (by simp)
    refine (W X.A (I.ok.hd hc)).item i s _ _ hg st.2 fun v h' tk hv st' kk => ?_
    obtain ⟨c, u, hc', rfl⟩ := hv
    have I1 : Inv X pins σ H { s with heap := h', toks := tk } := I.turned (fun b o hb e => kk b o (by simpa using hb) e) f0 f1 f3 f4 f5
    obtain ⟨o, e, oc, d⟩ := id st'
    exact ⟨_, rfl, go_of (s := { s with heap := h', toks := tk }) e oc d hty ⟨.str ⟨#[c]⟩, H, I1, ⟨u, rfl⟩, ⟨rfl, c, hc', rfl⟩, ⟨hg, st'⟩, fun b hb => (hf b hb).1⟩⟩
  done := by
    intro X hP hw hK hc i pins s σ H E I hf st hg
    subst hP hw hK
    obtain ⟨f0, f1, f2, f3, f4, f5⟩ := hf it (by simp)
    have e : i = x.cps.size := Nat.le_antisymm st.1 hg
    subst e
    exact (W X.A (I.ok.hd hc)).done s _ _ st.2 fun h' tk kk => ⟨rfl, I.turned (fun b o hb e => kk b o (by simpa using hb) e) f0 f1 f3 f4 f5⟩
  self := fun A i s Q E st h => Sf A i s Q E st.2 h
/-! ### what a loop walks -/
def iStr (te : TE) : TI := fun σ H R => te σ H fun x H1 => ∃ z, x = .str z ∧ R (Its z) H1
theorem pi_str {X : Cx} {tg l : Expr} {tl : TE} (hl : PE X l tl) : PI X tg l (iStr tl) := by
  intro pins s σ H R I h
  refine thn (hl pins s σ H _ I h) fun v s1 ⟨x, H1, I1, r1, q1⟩ => ?_
  obtain ⟨z, e, q⟩ := q1
  subst e
  obtain ⟨t, rfl⟩ := r1
  have fin : ∀ (ty : String) (o : Obj), o = { cls := .type ty, data := .fields #[.str z t, .int ((0 : Nat) : Int) 0] } → (∀ b : Addr, b ∈ [s1.heap.objs.size] → FpOk X pins H1 b) ∧ Inv X pins σ H1 { s1 with heap := s1.heap.push o } ∧ (s1.heap.push o).IsStrIter s1.heap.objs.size ty z t 0 := fun ty o eo => by
    refine ⟨fun b hb => ?_, I1.kept (t' := s1.toks) fun b o e => Heap.get?_push_of_some _ e, ⟨o, Heap.get?_push_size _ (by rw [eo]; rfl), by rw [eo], by rw [eo]⟩⟩
    have e : b = s1.heap.objs.size := by simpa using hb
    subst e
    exact I1.fpOk (Nat.le_refl _) (I1.hok.fresh (Nat.le_refl _))
  cases ha : z.cps.all (· < 128)
  · refine wpAny_pyIter_wide ha ?_
    obtain ⟨f1, f2, f3⟩ := fin "str_iterator" _ rfl
    exact ⟨s1.heap.objs.size, [s1.heap.objs.size], _, Its z, H1, rfl, f2, turn_strT _ z t "str_iterator" (by decide) (fun A' hA => Walks.strWide hA _ z t) (fun A i s Q E st h => wpAny_pyIter_striter_wide st h), ⟨Nat.zero_le _, f3⟩, f1, q⟩
  · refine wpAny_pyIter_ascii ha ?_
    obtain ⟨f1, f2, f3⟩ := fin "str_ascii_iterator" _ rfl
    exact ⟨s1.heap.objs.size, [s1.heap.objs.size], _, Its z, H1, rfl, f2, turn_strT _ z t "str_ascii_iterator" (by decide) (fun A' hA => Walks.strAscii hA _ z t) (fun A i s Q E st h => wpAny_pyIter_striter_ascii st h), ⟨Nat.zero_le _, f3⟩, f1, q⟩
theorem PI.imp {X : Cx} {tg e : Expr} {t t' : TI} (h : PI X tg e t) (i : ∀ σ H R, t' σ H R → t σ H R) : PI X tg e t' := fun pins s σ H R I q => h pins s σ H R I (i σ H R q)
theorem PI.or {X : Cx} {tg e : Expr} {t t' : TI} (h : PI X tg e t) (h' : PI X tg e t') : PI X tg e (fun σ H R => t σ H R ∨ t' σ H R) := fun pins s σ H R I q => by
  rcases q with q | q
  · exact h pins s σ H R I q
  · exact h' pins s σ H R I q
/-- the iterator tells these data -/
structure IterOf (K : PySem.W.Frag) (F : Hp) (J : It) (ds : List D) : Prop where
  go : ∀ i H, Same F H → i < ds.length → J.go i H
  stop : ∀ i H, Same F H → ds.length ≤ i → J.stop i H
  yld : ∀ i Fc H x H', Same F Fc → Same Fc H → i < ds.length → J.yld i H x H' → ∃ F' d, ds[i]? = some d ∧ Step Fc H F' H' ∧ RepV K F' d x
def WantI (C : Cw) (F H : Hp) (σ : L2.St) (r : Res) (R : It → Hp → Prop) : Prop := match r with
  | .ok _ (.lst ds) => ∀ J F' H', Step F H F' H' → IterOf C.K F' J ds → R J H'
  | .exc c => ∀ F' H', Step F H F' H' → C.EE c σ H'
  | _ => False
def tIv (C : Cw) (g : Rho → Res) : TI := fun σ H R => ∃ ρ F, RelSt C.K C.F0 C.H0 F H σ ρ ∧ WantI C F H σ (g ρ) R
def PIv (C : Cw) (X : Cx) (tg e : Expr) (g : Rho → Res) : Prop := PI X tg e (tIv (C.at X) g)
def charsD (z : Str) : List D := z.cps.toList.map fun c => .str ⟨#[c]⟩
def itemsR (r : Res) : Res := r.thn fun _ d => match d with
  | .lst ds => .ok .fz (.lst ds)
  | .tup ds => .ok .fz (.lst ds)
  | .str z => .ok .fz (.lst (charsD z))
  | _ => .stuck
section
variable {C : Cw} {X : Cx} {tg e : Expr} {g : Rho → Res} {gs : Rho → ResL} {pos p : Pos}
theorem iterOf_tup {K : PySem.W.Frag} {F : Hp} {a : Addr} {ds : List D} {xs : List V} (hq : SqT K F a xs) (r : RepL K F ds xs) : IterOf K F (Itt K a) ds where
  go := fun i H s hi => by
    have hl : i < xs.length := by rw [r.length]; exact hi
    exact ⟨xs, xs[i], Same.seqT s hq, by simp [hl]⟩
  stop := fun i H s hi => ⟨xs, Same.seqT s hq, by rw [r.length]; exact hi⟩
  yld := fun i Fc H x H' s1 s2 hi y => by
    obtain ⟨rfl, y⟩ := y
    have hx := y xs (Same.seqT s2 (Same.seqT s1 hq))
    obtain ⟨d, e, rd⟩ := r.get hx
    exact ⟨Fc, d, e, .refl s2, rd.mono s1 _ _⟩
theorem iterOf_str {K : PySem.W.Frag} {F : Hp} {z : Str} (hk : PyData.strOk z = true) : IterOf K F (Its z) (charsD z) where
  go := fun i H s hi => by simpa [charsD, Its] using hi
  stop := fun i H s hi => by simpa [charsD, Its] using hi
  yld := fun i Fc H x H' s1 s2 hi y => by
    obtain ⟨rfl, c, hc, rfl⟩ := y
    refine ⟨Fc, .str ⟨#[c]⟩, by simp [charsD, hc], .refl s2, ?_⟩
    simp only [RepV, true_and]
    refine ⟨by show 1 ≤ sizeLine; decide, ?_⟩
    unfold PyData.strOk at hk ⊢
    rw [Array.all_eq_true_iff_forall_mem] at hk
    simpa using hk c (Array.mem_of_getElem? hc)
/-- a list, a tuple, a text -/
theorem piv_seq (h : PV C X e g) : PIv C X tg e (fun ρ => itemsR (frzR (g ρ))) := by
  have h := pv_frz h
  refine PI.imp (PI.or (pi_list h) (PI.or (pi_tup h) (pi_str h))) fun σ H R q => ?_
  obtain ⟨ρ, F, RS, w⟩ := q
  dsimp only at w
  cases er : frzR (g ρ) with
  | stuck => rw [er] at w; exact w.elim
  | exc c =>
    refine .inl ?_
    unfold iList
    rw [tG_eq]
    refine ⟨ρ, F, RS, ?_⟩
    rw [er] at w ⊢
    exact w
  | ok m d =>
    rw [er] at w
    have hm : m = .fz := by
      cases h : g ρ with
      | ok m' d' => rw [h] at er; cases m' <;> cases er <;> rfl
      | exc c => rw [h] at er; cases er
      | stuck => rw [h] at er; cases er
    subst hm
    cases d with
    | lst ds =>
      refine .inl ?_
      unfold iList
      rw [tG_eq]
      refine ⟨ρ, F, RS, ?_⟩
      rw [er]
      intro v F' H' st rp _
      have rp : RepV X.K F' (.lst ds) v := rp
      simp only [RepV] at rp
      obtain ⟨a, xs, rfl, hq, r⟩ := rp
      exact ⟨a, rfl, ⟨xs, st.sub.seq hq⟩, w _ F' H' st ⟨fun i H s hi => by
          have hl : i < xs.length := by rw [r.length]; exact hi
          exact ⟨xs, xs[i], s.seq hq, by simp [hl]⟩, fun i H s hi => ⟨xs, s.seq hq, by rw [r.length]; exact hi⟩, fun i Fc H x H' s1 s2 hi y => by
          obtain ⟨rfl, y⟩ := y
          have hx := y xs (s2.seq (s1.seq hq))
          obtain ⟨d, e, rd⟩ := r.get hx
          exact ⟨Fc, d, e, .refl s2, rd.mono s1 _ _⟩⟩⟩
    | tup ds =>
      refine .inr (.inl ?_)
      unfold iTup
      rw [tG_eq]
      refine ⟨ρ, F, RS, ?_⟩
      rw [er]
      intro v F' H' st rp _
      have rp : RepV X.K F' (.tup ds) v := rp
      simp only [RepV] at rp
      obtain ⟨a, xs, rfl, hq, r⟩ := rp
      exact ⟨a, rfl, ⟨xs, Same.seqT st.sub hq⟩, w _ F' H' st (iterOf_tup hq r)⟩
    | str z =>
      refine .inr (.inr ?_)
      unfold iStr
      rw [tG_eq]
      refine ⟨ρ, F, RS, ?_⟩
      rw [er]
      intro v F' H' st rp _
      obtain ⟨rfl, hz, hk⟩ := Rp.str rp
      exact ⟨z, rfl, w _ F' H' st (iterOf_str hk)⟩
    | _ => exact w.elim
/-- range(n) -/
def rangeD (lo hi : Int) : List D := (List.range (hi - lo).toNat).map fun i => .int (lo + (i : Nat))
def rng1R (r : ResL) : Res := r.thn fun xs => match xs with
  | [(_, .int n)] => if (decide (-(2 ^ 62) ≤ n) && decide (n < 2 ^ 62)) = true then .ok .fz (.lst (rangeD 0 n)) else .stuck
  | _ => .stuck
theorem iterOf_range {K : PySem.W.Frag} {F : Hp} {lo hi : Int} : IterOf K F (Itr lo (hi - lo).toNat) (rangeD lo hi) where
  go := fun i H s h => by simpa [rangeD, Itr] using h
  stop := fun i H s h => by simpa [rangeD, Itr] using h
  yld := fun i Fc H x H' s1 s2 h y => by
    obtain ⟨rfl, rfl⟩ := y
    have h' : i < (hi - lo).toNat := by simpa [rangeD] using h
    refine ⟨Fc, .int (lo + i), ?_, .refl s2, by simp only [RepV]⟩
    simp only [rangeD, List.getElem?_map, List.getElem?_range h', Option.map_some]
theorem piv_range1 {a : Expr} (hg : Gl X "range") (hm : X.mg "range" = none) (ha : PAv C X [a] gs) (hs : starEach [a] X.env = [(false, eval a X.env)] := by rfl) : PIv C X tg (.Call (.Name "range" p) [a] [] pos) (fun ρ => rng1R (gs ρ)) := by
  refine PI.imp (pi_range1 hg hm ha hs) fun σ H R q => ?_
  obtain ⟨ρ, F, RS, w⟩ := q
  dsimp only at w
  unfold iRng1
  refine ⟨ρ, F, RS, ?_⟩
  cases er : gs ρ with
  | stuck => rw [er] at w; exact w
  | exc c => rw [er] at w; exact w
  | ok xs =>
    rw [er] at w
    intro vs F' H' st rp
    unfold rng1R at w
    rw [ResL.thn_ok] at w
    split at w
    · rename_i m n
      split at w
      · rename_i hc
        rw [Bool.and_eq_true, decide_eq_true_eq, decide_eq_true_eq] at hc
        obtain ⟨v, rfl, r⟩ := rp.one
        cases r.int
        have := iterOf_range (K := X.K) (F := F') (lo := 0) (hi := n)
        rw [Int.sub_zero] at this
        exact ⟨n, rfl, hc.1, hc.2, w _ F' H' st this⟩
      · exact w.elim
    · exact w.elim
/-! ### for -/
/-- what a target does with an item: the names behind it -/
def PGv (C : Cw) (X : Cx) (tg : Expr) (k : D → Rho → Option Rho) : Prop := ∃ t : TG, PG X tg t ∧ ∀ F H σ ρ ρ' d v Q, RelSt X.K C.F0 C.H0 F H σ ρ → RepV X.K F d v → k d ρ = some ρ' →
  (∀ σ' F' H', Same F F' → RelSt X.K C.F0 C.H0 F' H' σ' ρ' → Q σ' H') → t v σ H Q
def forS (k : D → Rho → Option Rho) (body : Rho → SRes) : List D → Rho → SRes
  | [], ρ => .nx ρ
  | d :: ds, ρ => match k d ρ with
    | none => .stuck
    | some ρ1 => match body ρ1 with
      | .nx ρ2 => forS k body ds ρ2
      | .ct ρ2 => forS k body ds ρ2
      | .bk ρ2 => .nx ρ2
      | r => r
def forR (r : Res) (ρ : Rho) (k : D → Rho → Option Rho) (body : Rho → SRes) : SRes := r.thS ρ fun _ d => match d with | .lst ds => forS k body ds ρ | _ => .stuck
theorem psv_for {body : List Stmt} {k : D → Rho → Option Rho} {h1 : Rho → SRes} (hp : PassesOwn (model X.prog X.w) X.A X.env X.xe) (hc : X.calm = true) (hi : PIv C X tg e g) (hg : PGv C X tg k) (hb : PBv C X body h1)
    (hs : ∀ x, foldedSetIterable e X.env x = pure x := by intro _; rfl) : PSv C X (.For tg e body [] pos) (fun ρ => forR (g ρ) ρ k h1) := by
  obtain ⟨t, ht, hk⟩ := hg
  refine PS.imp (ps_for hp hc hi ht hb hs) fun E σ H q => ?_
  obtain ⟨ρ, F, RS, w⟩ := q
  dsimp only at w
  unfold tFor
  refine ⟨ρ, F, RS, ?_⟩
  cases er : g ρ with
  | stuck => rw [er] at w; exact w
  | exc c => rw [er] at w; exact fun F' H' s => w σ F' H' s.fsame (RS.step s)
  | ok m d =>
    rw [er] at w
    cases d with
    | lst ds =>
      intro J F1 H1 s1 hJ
      have w : WantS (C.at X) F1 (forS k h1 ds ρ) E := WantS.mono s1.fsame w
      refine ⟨fun i m σ' H' => m = ds.length - i ∧ i ≤ ds.length ∧ ∃ ρ' F', Same F1 F' ∧ RelSt X.K C.F0 C.H0 F' H' σ' ρ' ∧ WantS (C.at X) F' (forS k h1 (ds.drop i) ρ') E, ⟨ds.length, by simp, Nat.zero_le _, ρ, F1, Same.refl _, RS.step s1, by simpa using w⟩, ?_⟩
      rintro i m σ' H' ⟨rfl, hi, ρ', F', sF, R', w'⟩
      by_cases hlt : i < ds.length
      · refine .inr ⟨hJ.go i H' (sF.trans R'.sub) hlt, fun σ2 H2 => ∃ ρ2 F2, Same F1 F2 ∧ RelSt X.K C.F0 C.H0 F2 H2 σ2 ρ2 ∧ WantS (C.at X) F2 (forS k h1 (ds.drop (i + 1)) ρ2) E, fun σ2 H2 ⟨ρ2, F2, a, b, c⟩ => ⟨ds.length - (i + 1), by omega, rfl, hlt, ρ2, F2, a, b, c⟩, fun x H2 y => ?_⟩
        obtain ⟨F2, d, ed, s2, rd⟩ := hJ.yld i F' H' x H2 sF R'.sub hlt y
        have hd : ds.drop i = d :: ds.drop (i + 1) := by
          rw [List.drop_eq_getElem_cons hlt]
          rw [List.getElem?_eq_getElem hlt] at ed
          cases ed; rfl
        rw [hd] at w'
        unfold forS at w'
        cases ek : k d ρ' with
        | none => rw [ek] at w'; exact w'.elim
        | some ρ1 =>
          rw [ek] at w'
          dsimp only at w'
          refine hk F2 H2 σ' ρ' ρ1 d x _ (R'.step s2) rd ek fun σ3 F3 H3 z3 R3 => ?_
          have z13 : Same F1 F3 := (sF.trans s2.fsame).trans z3
          have w3 := WantS.mono (s2.fsame.trans z3) w'
          refine ⟨ρ1, F3, R3, ?_⟩
          cases eb : h1 ρ1 with
          | nx ρ2 => rw [eb] at w3; exact fun σ4 F4 H4 z4 R4 => ⟨ρ2, F4, z13.trans z4, R4, WantS.mono z4 w3⟩
          | ct ρ2 => rw [eb] at w3; exact fun σ4 F4 H4 z4 R4 => ⟨ρ2, F4, z13.trans z4, R4, WantS.mono z4 w3⟩
          | bk ρ2 => rw [eb] at w3; exact fun σ4 F4 H4 z4 R4 => w3 σ4 F4 H4 z4 R4
          | rt m d => rw [eb] at w3; exact w3
          | exc c ρ2 => rw [eb] at w3; exact w3
          | stuck => rw [eb] at w3; exact w3
      · have ei : i = ds.length := by omega
        subst ei
        refine .inl ⟨hJ.stop _ H' (sF.trans R'.sub) (Nat.le_refl _), ?_⟩
        rw [List.drop_length] at w'
        exact w' σ' F' H' (Same.refl _) R'
    | _ => exact w.elim
end
end D3

namespace L2
open PySem PySem.Spec PyProof.Rows
/-! ### the cells that a comprehension reads -/
theorem closureFor_ok {env : Env} : ∀ (names : List (Str × NameKind)) (acc : List (Str × Addr)), (∀ y ∈ names, y.2 = .free → ∃ c, env.cells.lookup y.1 = some c) → (∀ y c, acc.lookup y = some c → env.cells.lookup y = some c) →
    ∃ cl, (forIn names acc fun (x : Str × NameKind) (cs : List (Str × Addr)) => (if x.2 == .free then (do let c ← cellOf env x.1; pure (ForInStep.yield ((x.1, c) :: cs))) else pure (ForInStep.yield cs) : Sem (ForInStep (List (Str × Addr))))) = pure cl ∧
      (∀ y c, cl.lookup y = some c → env.cells.lookup y = some c) ∧ (∀ y c, acc.lookup y = some c → cl.lookup y = some c) ∧ ∀ y, (y, NameKind.free) ∈ names → ∃ c, cl.lookup y = some c
  | [], acc, _, ha => ⟨acc, by rw [List.forIn_nil], ha, fun _ _ h => h, fun _ h => by cases h⟩
  | (n, k) :: r, acc, h, ha => by
    rw [List.forIn_cons]
    by_cases hk : k = .free
    · subst hk
      obtain ⟨c, ec⟩ := h (n, .free) List.mem_cons_self rfl
      have hc : cellOf env n = pure c := by unfold cellOf; rw [ec]
      have e : ((if (NameKind.free == NameKind.free) = true then (do let c ← cellOf env n; pure (ForInStep.yield ((n, c) :: acc))) else pure (ForInStep.yield acc)) : Sem (ForInStep (List (Str × Addr)))) = pure (ForInStep.yield ((n, c) :: acc)) := by
        rw [if_pos (by decide), hc, pure_bind]
      obtain ⟨cl, e1, e2, e3, e4⟩ := closureFor_ok (env := env) r ((n, c) :: acc) (fun y hy => h y (List.mem_cons_of_mem _ hy)) (fun y c' q => by
        rw [List.lookup_cons] at q
        cases hyn : y == n with
        | true => rw [hyn] at q; cases q; rw [beq_iff_eq.mp hyn]; exact ec
        | false => rw [hyn] at q; exact ha y c' q)
      refine ⟨cl, ?_, e2, fun y c' q => ?_, fun y hy => ?_⟩
      · dsimp only
        rw [e, pure_bind]
        exact e1
      · cases hyn : y == n with
        | true =>
          have := beq_iff_eq.mp hyn
          subst this
          have q' := ha y c' q
          rw [ec] at q'; cases q'
          exact e3 y c (by rw [List.lookup_cons, hyn])
        | false => exact e3 y c' (by rw [List.lookup_cons, hyn]; exact q)
      · rcases List.mem_cons.mp hy with z | z
        · cases z
          exact ⟨c, e3 n c (by rw [List.lookup_cons, beq_self_eq_true])⟩
        · exact e4 y z
    · have e : ((if (k == NameKind.free) = true then (do let c ← cellOf env n; pure (ForInStep.yield ((n, c) :: acc))) else pure (ForInStep.yield acc)) : Sem (ForInStep (List (Str × Addr)))) = pure (ForInStep.yield acc) := by
        rw [if_neg (by simpa using hk)]
      obtain ⟨cl, e1, e2, e3, e4⟩ := closureFor_ok (env := env) r acc (fun y hy => h y (List.mem_cons_of_mem _ hy)) ha
      refine ⟨cl, ?_, e2, e3, fun y hy => ?_⟩
      · dsimp only
        rw [e, pure_bind]
        exact e1
      · rcases List.mem_cons.mp hy with z | z
        · cases z; exact absurd rfl hk
        · exact e4 y z
theorem closure_of {scope : Scope} {env : Env} (h : ∀ y ∈ scope.names, y.2 = .free → ∃ c, env.cells.lookup y.1 = some c) :
    ∃ cl, closureFor scope env = pure cl ∧ (∀ y c, cl.lookup y = some c → env.cells.lookup y = some c) ∧ ∀ y, (y, NameKind.free) ∈ scope.names → ∃ c, cl.lookup y = some c := by
  obtain ⟨cl, e1, e2, _, e4⟩ := closureFor_ok (env := env) scope.names [] h (fun y c q => by simp at q)
  refine ⟨cl, ?_, e2, e4⟩
  unfold closureFor
  rw [bind_pure]
  exact e1
/-- a name of the block: its kind there -/
theorem relabel_free {scope : Scope} {env : Env} (hcell : ∀ y ∈ scope.names, y.2 ≠ .cell) {x : Str} (h : (relabel scope env).names.lookup x = some .cell ∨ (relabel scope env).names.lookup x = some .free) : (x, NameKind.free) ∈ scope.names := by
  unfold relabel at h
  dsimp only at h
  have go : ∀ (l : List (Str × NameKind)), (∀ y ∈ l, y.2 ≠ .cell) → ((l.map fun (n, k) => if (k == NameKind.free && env.scope.kind == .function && env.kindOf n == some .cell) then (n, NameKind.cell) else (n, k)).lookup x = some .cell ∨ (l.map fun (n, k) => if (k == NameKind.free && env.scope.kind == .function && env.kindOf n == some .cell) then (n, NameKind.cell) else (n, k)).lookup x = some .free) → (x, NameKind.free) ∈ l := by
    intro l
    induction l with
    | nil => intro _ h; simp at h
    | cons y l ih =>
      intro hc h
      obtain ⟨n, k⟩ := y
      rw [List.map_cons] at h
      by_cases hx : x = n
      · subst hx
        have hk : k = .free := by
          by_cases hk : k = .free
          · exact hk
          · have e : (k == NameKind.free && env.scope.kind == .function && env.kindOf x == some .cell) = false := by
              have : (k == NameKind.free) = false := by simpa using hk
              rw [this]; rfl
            simp only [e, Bool.false_eq_true, if_false, List.lookup_cons, beq_self_eq_true] at h
            rcases h with h | h
            · cases h; exact absurd rfl (hc _ List.mem_cons_self)
            · cases h; exact absurd rfl hk
        subst hk
        exact List.mem_cons_self
      · have hb : (x == n) = false := by simpa using hx
        have hh : ∀ (kk : NameKind) (l' : List (Str × NameKind)), ((n, kk) :: l').lookup x = l'.lookup x := fun kk l' => by rw [List.lookup_cons, hb]
        by_cases hcond : (k == NameKind.free && env.scope.kind == .function && env.kindOf n == some .cell) = true
        · dsimp only at h
          rw [if_pos hcond, hh] at h
          exact List.mem_cons_of_mem _ (ih (fun y hy => hc y (List.mem_cons_of_mem _ hy)) h)
        dsimp only at h
        rw [if_neg hcond, hh] at h
        exact List.mem_cons_of_mem _ (ih (fun y hy => hc y (List.mem_cons_of_mem _ hy)) h)
  exact go scope.names hcell h
/-- the context of a comprehension's block -/
def compCx (X : Cx) (scope : Scope) (N : List Str) (cl : List (Str × Addr)) (C : Addr) (fp : List Addr) (s3 : Shared) (H3 : Hp) : Cx where
  prog := X.prog
  w := X.w
  K := X.K
  mg := X.mg
  base := X.base
  A := X.A
  N := N
  s₀ := s3
  H₀ := H3
  env := compEnvC scope cl C X.env
  outer := X.stack
  stack := X.stack
  ex := fp
  fn := fun _ => false
  calm := X.calm
  pn := []
  xe := fun _ _ => False
/-- the tests of a comprehension -/
def PIfs (X : Cx) (cs : List Expr) (t : TT) : Prop :=
  ∀ (pins : List (Addr × Obj)) (s : Shared) (σ : St) (H : Hp) (Q : Bool → Hp → Prop), Inv X pins σ H s → t σ H Q →
    wpAny (model X.prog X.w) X.A (forIn cs true fun c r => if r = true then do let ok ← isTrue c X.env (eval c X.env); pure (ForInStep.yield ok) else pure (ForInStep.yield r)) (TP X pins σ Q) X.xe s
theorem pifs_nil {X : Cx} : PIfs X [] (fun _ H Q => Q true H) := fun pins s σ H Q I h => by
  rw [List.forIn_nil]
  exact wpAny_pure ⟨H, I, h⟩
theorem forIn_no {X : Cx} : ∀ cs : List Expr, (forIn cs false fun c r => if r = true then do let ok ← isTrue c X.env (eval c X.env); pure (ForInStep.yield ok) else pure (ForInStep.yield r) : Sem Bool) = pure false
  | [] => by rw [List.forIn_nil]
  | c :: cs => by
    rw [List.forIn_cons, if_neg Bool.false_ne_true, pure_bind]
    exact forIn_no cs
theorem pifs_cons {X : Cx} {c : Expr} {cs : List Expr} {t u : TT} (hc : PT X c t) (hr : PIfs X cs u) : PIfs X (c :: cs) (tAnd t u) := fun pins s σ H Q I h => by
  rw [List.forIn_cons, if_pos rfl]
  refine wpAny_bind (wpAny_bind (thn (hc pins s σ H _ I h) fun b s1 ⟨H1, I1, q1⟩ => wpAny_pure ?_))
  cases b with
  | true => rw [if_pos rfl] at q1; exact hr pins s1 σ H1 Q I1 q1
  | false =>
    rw [if_neg Bool.false_ne_true] at q1
    dsimp only
    rw [forIn_no]
    exact wpAny_pure ⟨H1, I1, q1⟩

section
variable {prog : Program} {w : World} {A : Around} {R : Result → Shared → Prop} {s : Shared}
theorem compLoop_g {elt target iter : Expr} {ifs : List Expr} {scope : Scope} {pos : Pos} {it acc : Value} {env : Env} (I : Nat → Shared → Prop)
    (turn : ∀ n s, I n s → wpAny (model prog w) A (pyNext it) (fun r s1 => match r with
      | none => R (.ok .next) s1
      | some v => wpAny (model prog w) A (letOwnedTupleGo target it v) (fun _ s1' => wpAny (model prog w) A (assign target env v) (fun _ s2 =>
          wpAny (model prog w) A (forIn ifs true fun c r => if r = true then do let ok ← isTrue c env (eval c env); pure (ForInStep.yield ok) else pure (ForInStep.yield r)) (fun ok s3 =>
            if ok = true then wpAny (model prog w) A (eval elt env) (fun x s4 =>
              wpAny (model prog w) A (call (.builtin "list.append") [acc, x]) (fun _ s5 => ∃ m, m < n ∧ I m s5) (fun _ _ => False) s4) (fun _ _ => False) s3
            else ∃ m, m < n ∧ I m s3) (fun _ _ => False) s2) (fun _ _ => False) s1') (fun _ _ => False) s1) (fun _ _ => False) s)
    (n : Nat) (h : I n s) :
    codeAny (model prog w) A (.compLoop (.ListComp elt [⟨target, iter, ifs, 0⟩] scope pos) 0 it acc env) R s := by
  refine codeAny_loop rfl I (fun n s hI => ?_) n h
  show wpAny _ A ((compTurn (.ListComp elt [⟨target, iter, ifs, 0⟩] scope pos) 0 it acc env).onRaise (fun x => do noteFrame x env; theTreesLotGoes x)) _ _ s
  refine wpAny_noted ?_
  rw [compTurn_list]
  refine wpAny_bind (wpAny_standAt (wpAny_bind (wpAny_mono (turn n s hI) (fun r s1 h1 => ?_) fun _ _ h' => h'.elim)))
  cases r with
  | none => exact wpAny_pure h1
  | some v =>
    refine wpAny_bind (wpAny_mono h1 (fun _ s1' h1' => ?_) fun _ _ h' => h'.elim)
    refine wpAny_bind (wpAny_mono h1' (fun _ s2 h2 => wpAny_bind (wpAny_mono h2 (fun ok s3 h3 => ?_) fun _ _ h' => h'.elim)) fun _ _ h' => h'.elim)
    cases ok with
    | false => exact wpAny_pure ⟨rfl, h3⟩
    | true =>
      exact wpAny_bind (wpAny_bind (wpAny_mono h3 (fun x s4 h4 => wpAny_bind (wpAny_mono h4 (fun _ s5 h5 => wpAny_pure (wpAny_pure ⟨rfl, h5⟩)) fun _ _ h' => h'.elim)) fun _ _ h' => h'.elim))
end
/-- the values of the names that a block reads -/
def subS (caps : List Nat) (σ : St) : St := caps.map fun i => (σ[i]?).getD none
def Weak (σ σ' : St) : Prop := σ.length = σ'.length ∧ ∀ (j : Nat) v, σ[j]? = some (some v) → σ'[j]? = some (some v)
def tComp (caps : List Nat) (k : Nat) (wi : TI) (gt : TG) (tt : TT) (te : TE) : TE := fun σ H Q => wi σ H fun J H1 => ∀ D, H1 D = none →
  ∃ W : Nat → Nat → List V → Hp → Prop, (∃ m, W 0 m [] (upd H1 D (.lst []))) ∧ ∀ i m ys H, W i m ys H → H D = some (.lst ys) ∧
    ((J.stop i H ∧ Q (.ref D) H) ∨ (J.go i H ∧ ys.length < sizeLine ∧ ∀ x H', J.yld i H x H' → gt x (subS caps σ ++ List.replicate k none) H' fun σ2 H2 => Weak (subS caps σ ++ List.replicate k none) σ2 ∧ tt σ2 H2 fun b H3 =>
      if b = true then te σ2 H3 fun y H4 => H4 D = some (.lst ys) ∧ ∃ m', m' < m ∧ W (i + 1) m' (ys ++ [y]) (upd H4 D (.lst (ys ++ [y]))) else ∃ m', m' < m ∧ W (i + 1) m' ys H3))
/-- a list comprehension, used at its end as `use` says -/
theorem comp_core {X : Cx} {elt iter tg : Expr} {ifs : List Expr} {scope : Scope} {pos : Pos} {caps : List Nat} {capN tgN : List Str} {wi : TI} {gt : TG} {tt : TT} {te : TE} {use : Option (Value → Sem Unit)} {QQ : Value → Shared → Prop} {pins : List (Addr × Obj)} {s : Shared} {σ : St} {H : Hp} {Q : VK}
    (hc : X.calm = true) (hi : PI X tg iter wi) (hcell : ∀ y ∈ scope.names, y.2 ≠ .cell) (hkind : scope.kind = .function) (hnames : ∀ y ∈ scope.names, y.2 = .local → scope.names.lookup y.1 = some .local)
    (hfree : ∀ y ∈ scope.names, y.2 = .free → X.env.kindOf y.1 = some .cell ∨ X.env.kindOf y.1 = some .free)
    (hcapN : capN.map some = caps.map fun i => X.N[i]?) (hcapF : ∀ y ∈ capN, (y, NameKind.free) ∈ scope.names)
    (hcapK : ∀ y ∈ capN, (relabel scope X.env).names.lookup y = some .cell ∨ (relabel scope X.env).names.lookup y = some .free)
    (hg : ∀ cl C fp s3 H3, PG (compCx X scope (capN ++ tgN) cl C fp s3 H3) tg gt) (hf : ∀ cl C fp s3 H3, PIfs (compCx X scope (capN ++ tgN) cl C fp s3 H3) ifs tt) (he : ∀ cl C fp s3 H3, PE (compCx X scope (capN ++ tgN) cl C fp s3 H3) elt te)
    (hs : ∀ x, foldedSetIterable iter X.env x = pure x) (I : Inv X pins σ H s) (h : tComp caps tgN.length wi gt tt te σ H Q)
    (hend : ∀ (D Z : Addr) (s6 : Shared) (H5 : Hp), (∃ m, s6.heap.Ns Z m) → (∀ h'', Heap.SameBut Z s6.heap h'' → Inv X pins σ H5 { s6 with heap := h'' }) → H5 Z = none → X.s₀.heap.objs.size ≤ Z → Z ≠ X.env.locals → (∀ x c, X.env.cells.lookup x = some c → c ≠ Z) →
      (∀ p ∈ X.pn ++ pins, p.1 ≠ Z) → Q (.ref D) H5 → compPost (model X.prog X.w) X.A X.xe use QQ (.ref D) Z (.ok .next) s6) :
    wpAny (model X.prog X.w) X.A (comprehension (.ListComp elt [⟨tg, iter, ifs, 0⟩] scope pos) scope X.env (firstIterPos [⟨tg, iter, ifs, 0⟩] pos) (newList []) (firstAsync [⟨tg, iter, ifs, 0⟩]) (firstIter [⟨tg, iter, ifs, 0⟩] X.env) use) QQ X.xe s := by
  obtain ⟨cl, hclos, clsub, clhas⟩ := closure_of (scope := scope) (env := X.env) fun y hy hk => I.ok.has y.1 (hfree y hy hk)
  refine wpAny_comprehension_free (use := use) rfl hs hclos hkind hnames (thn (hi pins s σ H _ I h) fun v s1 h1 => thn h1 fun itv s2 h2 => ?_)
  obtain ⟨it, fp, tn, J, H2, e, I2, T, st2, f2, q⟩ := h2
  subst e
  refine wpAny_newObj_type ?_
  have hn : H2 s2.heap.objs.size = none := I2.hok.fresh (Nat.le_refl _)
  obtain ⟨W, ⟨m0, w0⟩, turn⟩ := q s2.heap.objs.size hn
  have I3 : Inv X pins σ (upd H2 s2.heap.objs.size (.lst [])) { s2 with heap := s2.heap.push { cls := .type "list", dict := none, data := .seq ([] : List Value).toArray } } :=
    I2.laid (t' := s2.toks) (fun b u e => Heap.get?_push_of_some _ e) (Nat.le_refl _) ⟨Nat.zero_le _, [], 0, .nil, Heap.get?_push_size _ rfl⟩
  generalize hs3 : ({ s2 with heap := s2.heap.push { cls := .type "list", dict := none, data := .seq ([] : List Value).toArray } } : Shared) = s3 at I3 ⊢
  generalize hH3 : upd H2 s2.heap.objs.size (.lst []) = H3 at I3 w0
  have fpl : ∀ b ∈ fp, b < s2.heap.objs.size := fun b hb => by
    obtain ⟨o, eo, _⟩ := T.obj 0 _ st2 b hb
    exact Heap.lt_size eo
  have sz3 : s3.heap.objs.size = s2.heap.objs.size + 1 := by rw [← hs3]; exact Heap.size_push _ _
  have keep23 : ∀ b o, s2.heap.get? b = some o → s3.heap.get? b = some o := fun b o e => by rw [← hs3]; exact Heap.get?_push_of_some _ e
  have hDf : s2.heap.objs.size ∉ fp := fun hb => Nat.lt_irrefl _ (fpl _ hb)
  refine wpAny_newFunctionEnv hcell (by intro y hy; simp at hy) (fun h4 hns hsb => ?_) hkind
  try dsimp only at hns hsb ⊢
  have keep34 : ∀ b o, s3.heap.get? b = some o → h4.get? b = some o := fun b o e => hsb.extBut b o (Nat.ne_of_lt (Heap.lt_size e)) (Heap.get?_push_of_some _ e)
  have nostk : ∀ b ∈ fp, b ∉ frs X.stack := fun b hb z => by
    obtain ⟨_, f1, f2', _⟩ := f2 b hb
    rcases List.mem_cons.mp (I2.stkSub b z) with q | q
    · exact f1 q
    · exact f2' q
  have okc : (compCx X scope (capN ++ tgN) cl s3.heap.objs.size fp s3 H3).Ok :=
    { mod := I3.ok.mod
      kind := hkind
      glob := I3.ok.glob
      blt := I3.ok.blt
      above := Nat.le_refl _
      inj := fun x y c h1 h2 => I3.ok.inj x y c (clsub x c h1) (clsub y c h2)
      has := fun x hx => clhas x (relabel_free hcell hx)
      cab := fun x c z => by cases z
      hd := I3.ok.hd
      frames := I3.ok.frames
      stk := .inl rfl
      exf := fun b hb => ⟨Nat.ne_of_lt (by show b < s3.heap.objs.size; rw [sz3]; exact Nat.lt_succ_of_lt (fpl b hb)), fun x c e => (f2 b hb).2.2.2.2.1 x c (clsub x c e)⟩
      bs := I3.bs
      bsz := Nat.le_trans I3.ok.bsz I3.sz
      noex := fun b o e hb => by
        obtain ⟨_, _, _, f3, _⟩ := f2 b hb
        rcases f3 with z | z
        · exact I2.ok.noex b o e z
        · exact absurd (Heap.lt_size (I2.ok.bs b o e).1) (Nat.not_lt.mpr z)
      exfs := nostk
      funs := I3.stack
      frf := I3.stkFree }
  have capLen : capN.length = caps.length := by
    have := congrArg List.length hcapN
    simpa using this
  generalize hσ0 : subS caps σ ++ List.replicate tgN.length none = σ0 at turn
  have Ic : Inv (compCx X scope (capN ++ tgN) cl s3.heap.objs.size fp s3 H3) [] σ0 H3 { s3 with heap := h4, toks := s3.toks + ([] : List (Str × Value)).length } := by
    refine ⟨okc, rfl, I3.bare, Un.kept keep34, ⟨_, hns, fun i y v h1 h2 h3 => ?_⟩, fun x c e => ?_, I3.hok.fresh (Nat.le_refl _), fun x c e => I3.freeC x c (clsub x c e), fun p hp => absurd (show p ∈ ([] : List (Addr × Obj)) from hp) (by simp), I3.hok.kept keep34, ?_⟩
    · by_cases hi : i < caps.length
      · have ey : capN[i]? = some y := by
          have h1 : (capN ++ tgN)[i]? = some y := h1
          rw [List.getElem?_append_left (by rw [capLen]; exact hi)] at h1; exact h1
        have hj : X.N[caps[i]]? = some y := by
          have e1 : (capN.map some)[i]? = (caps.map fun i => X.N[i]?)[i]? := by rw [hcapN]
          rw [List.getElem?_map, List.getElem?_map, ey, List.getElem?_eq_getElem hi] at e1
          simpa using e1.symm
        have ev : σ[caps[i]]? = some (some v) := by
          rw [← hσ0, List.getElem?_append_left (by simpa [subS] using hi)] at h2
          unfold subS at h2
          rw [List.getElem?_map, List.getElem?_eq_getElem hi] at h2
          simp only [Option.map_some, Option.some.injEq] at h2
          cases z : σ[caps[i]]? with
          | none => rw [z] at h2; cases h2
          | some o => rw [z] at h2; exact congrArg some h2
        have hyf := hcapF y (List.mem_of_getElem? ey)
        have hkX := hfree _ hyf rfl
        obtain ⟨m, _, hl⟩ := I3.loc
        obtain ⟨u, ru, lk⟩ := hl caps[i] y v hj ev (by rcases hkX with z | z; exact .inr (.inl z); exact .inr (.inr z))
        refine ⟨u, ru, .inr ⟨hcapK y (List.mem_of_getElem? ey), ?_⟩⟩
        rcases lk with ⟨hk, _⟩ | ⟨_, c, ec, ic⟩
        · rcases hkX with z | z
          · rw [show X.env.kindOf y = some .cell from z] at hk; cases hk
          · rw [show X.env.kindOf y = some .free from z] at hk; cases hk
        · obtain ⟨c', ec'⟩ := clhas y hyf
          have := clsub y c' ec'
          rw [ec] at this; cases this
          exact ⟨c, ec', ic.keeps keep34⟩
      · rw [← hσ0, List.getElem?_append_right (by simpa [subS] using hi), List.getElem?_replicate] at h2
        split at h2 <;> cases h2
    · obtain ⟨v, q⟩ := I3.cell x c (clsub x c e)
      exact ⟨v, q.keeps keep34⟩
    · rw [← hσ0]
      show (subS caps σ ++ List.replicate tgN.length none).length = (capN ++ tgN).length
      simp [subS, capLen]
  have fpc : ∀ {H' : Hp}, (∀ b ∈ fp, H' b = none) → ∀ b ∈ fp, FpOk (compCx X scope (capN ++ tgN) cl s3.heap.objs.size fp s3 H3) [] H' b := fun hn b hb =>
    ⟨hn b hb, (okc.exf b hb).1, nostk b hb, .inl hb, (okc.exf b hb).2, fun p hp => absurd (show p ∈ ([] : List (Addr × Obj)) from hp) (by simp)⟩
  have loop : codeAny (model X.prog X.w) X.A (.compLoop (.ListComp elt [⟨tg, iter, ifs, 0⟩] scope pos) 0 (.ref it) (.ref s2.heap.objs.size) (compEnvC scope cl s3.heap.objs.size X.env)) (compPost (model X.prog X.w) X.A X.xe use QQ (.ref s2.heap.objs.size) s3.heap.objs.size) { s3 with heap := h4, toks := s3.toks + ([] : List (Str × Value)).length } := by
    refine compLoop_g (fun n s' => ∃ i ys H', Inv (compCx X scope (capN ++ tgN) cl s3.heap.objs.size fp s3 H3) [] σ0 H' s' ∧ tn i s'.heap ∧ (∀ b ∈ fp, H' b = none) ∧ W i n ys H') ?_ m0
      ⟨0, [], H3, Ic, T.keep _ _ _ st2 (fun b hb o e => keep34 b o (keep23 b o e)), fun b hb => by rw [← hH3, upd_ne (by intro z; rw [z] at hb; exact hDf hb)]; exact (f2 b hb).1, w0⟩
    rintro n s5 ⟨i, ys, H5, I5, st5, fr5, w5⟩
    obtain ⟨hD, hw⟩ := turn i n ys H5 w5
    rcases hw with ⟨stop, qq⟩ | ⟨go, hlen, step⟩
    · refine thn (T.done (compCx X scope (capN ++ tgN) cl s3.heap.objs.size fp s3 H3) rfl rfl rfl hc i [] s5 σ0 H5 _ I5 (fpc fr5) st5 stop) fun r s6 ⟨hr, I6⟩ => ?_
      subst hr
      obtain ⟨m, hm, _⟩ := id I6.loc
      refine hend s2.heap.objs.size s3.heap.objs.size s6 H5 ⟨m, hm⟩ (fun h'' hsb2 => ?_) I6.free I3.sz (fun z => ?_) (fun x c ec z => ?_) (fun p hp z => ?_) qq
      rotate_left
      · obtain ⟨m, ⟨o, es, ep, ho, _⟩, _⟩ := id I3.loc
        rw [← z] at ho
        exact Nat.lt_irrefl _ (Heap.lt_size ho)
      · obtain ⟨v, o, ho, _⟩ := I3.cell x c ec
        rw [z] at ho
        exact Nat.lt_irrefl _ (Heap.lt_size ho)
      · have := (I3.pin p hp).1
        rw [z] at this
        exact Nat.lt_irrefl _ (Heap.lt_size this)
      have u := I6.base
      have neC : ∀ b o, s3.heap.get? b = some o → b ≠ s3.heap.objs.size := fun b o e => Nat.ne_of_lt (Heap.lt_size e)
      have un : Un (frs X.stack) fp H3 H5 s3.heap h'' := by
        refine ⟨fun b o e n hb hx => hsb2.extBut b o (neC b o e) (u.keep b o e n hb hx), fun b o e n hb hx => ?_, u.free, fun b o e hx => ?_, u.tups, u.frzs, u.tbls⟩
        · obtain ⟨sl, q⟩ := u.slot b o e n hb hx
          exact ⟨sl, hsb2.extBut b _ (neC b o e) q⟩
        · obtain ⟨o', q⟩ := u.there b o e hx
          exact ⟨o', hsb2.extBut b _ (neC b o e) q⟩
      have hok : HOk X.prog X.w H5 h'' := fun a o e => (I6.hok a o e).stay (fun b v hb q => hsb2.extBut b v (by
          intro z
          have fr := I6.free
          rcases hb with hb | hb
          · rw [hb] at z; rw [z] at e; rw [show H5 s3.heap.objs.size = none from fr] at e; cases e
          · rw [z, show H5 s3.heap.objs.size = none from fr] at hb; cases hb) q) (fun _ q => q) fun _ _ q => q
      have os6 := I6.os
      obtain ⟨hh, g6, d6, t6, o6⟩ := s6
      obtain rfl : o6 = s3.os := os6
      have I8 := I3.call (h' := h'') (g' := g6) (d' := d6) (t' := t6) (ch := fp) un hok I6.bare fun b hb => by
        obtain ⟨_, f1, _, f3, f4, f5⟩ := f2 b hb
        exact ⟨f3, f1, f4, f5⟩
      exact I8
    · refine thn (T.item (compCx X scope (capN ++ tgN) cl s3.heap.objs.size fp s3 H3) rfl rfl rfl hc i [] s5 σ0 H5 _ I5 (fpc fr5) st5 go) fun r s6 ⟨u, hr, h6⟩ => ?_
      subst hr
      refine thn h6 fun _ s7 ⟨x, H7, I7, r7, y7, st7, fr7⟩ => ?_
      have I7' := I7.pinned (fpc fr7) (T.obj _ _ st7)
      refine thn (hg cl s3.heap.objs.size fp s3 H3 _ s7 σ0 H7 x u _ I7' r7 (step x H7 y7)) fun _ s8 ⟨σ8, H8, I8, wk, q8⟩ => ?_
      have back : ∀ {H' : Hp} {s' : Shared} {m' : Nat} {ys' : List V}, Inv (compCx X scope (capN ++ tgN) cl s3.heap.objs.size fp s3 H3) ([] ++ pinsAt fp s7.heap) σ8 H' s' → m' < n → W (i + 1) m' ys' H' →
          ∃ m, m < n ∧ ∃ i ys H', Inv (compCx X scope (capN ++ tgN) cl s3.heap.objs.size fp s3 H3) [] σ0 H' s' ∧ tn i s'.heap ∧ (∀ b ∈ fp, H' b = none) ∧ W i m ys H' := fun {H' s' m' ys'} I' hm w' => by
        have pinned : ∀ b ∈ fp, ∀ o, s7.heap.get? b = some o → s'.heap.get? b = some o ∧ H' b = none := fun b hb o e => by
          have := I'.pin (b, o) (List.mem_append_right _ (List.mem_append_right _ (mem_pinsAt hb e)))
          exact ⟨this.1, this.2.1⟩
        refine ⟨m', hm, i + 1, ys', H', I'.unpinned.weak wk.1 wk.2, T.keep _ _ _ st7 fun b hb o e => (pinned b hb o e).1, fun b hb => ?_, w'⟩
        obtain ⟨o, e, _⟩ := T.obj _ _ st7 b hb
        exact (pinned b hb o e).2
      refine thn (hf cl s3.heap.objs.size fp s3 H3 _ s8 σ8 H8 _ I8 q8) fun b s9 ⟨H9, I9, q9⟩ => ?_
      cases b with
      | false =>
        rw [if_neg Bool.false_ne_true] at q9 ⊢
        obtain ⟨m', hm, w9⟩ := q9
        exact back I9 hm w9
      | true =>
        rw [if_pos rfl] at q9 ⊢
        refine thn (he cl s3.heap.objs.size fp s3 H3 _ s9 σ8 H9 _ I9 q9) fun y s10 ⟨yv, H10, I10, r10, hD10, m', hm, w10⟩ => ?_
        refine thn (mt_append (X := compCx X scope (capN ++ tgN) cl s3.heap.objs.size fp s3 H3) _ s10 σ8 H10 (.ref s2.heap.objs.size) [yv] (.ref s2.heap.objs.size) [y] (fun v H' => v = .non ∧ H' = upd H10 s2.heap.objs.size (.lst (ys ++ [yv]))) I10 rfl (.cons r10 .nil)
          ⟨s2.heap.objs.size, ys, yv, rfl, rfl, hD10, hlen, rfl, rfl⟩) fun _ s11 ⟨v, H11, I11, _, _, e11⟩ => ?_
        subst e11
        exact back I11 hm w10
  exact codeAny_compStart_list loop (T.self _ 0 _ _ _ (T.keep _ _ _ st2 (fun b hb o e => keep34 b o (keep23 b o e))) loop)
theorem pe_comp {X : Cx} {elt iter tg : Expr} {ifs : List Expr} {scope : Scope} {pos : Pos} {caps : List Nat} {capN tgN : List Str} {wi : TI} {gt : TG} {tt : TT} {te : TE}
    (hc : X.calm = true) (hi : PI X tg iter wi) (hcell : ∀ y ∈ scope.names, y.2 ≠ .cell) (hkind : scope.kind = .function) (hnames : ∀ y ∈ scope.names, y.2 = .local → scope.names.lookup y.1 = some .local)
    (hfree : ∀ y ∈ scope.names, y.2 = .free → X.env.kindOf y.1 = some .cell ∨ X.env.kindOf y.1 = some .free)
    (hcapN : capN.map some = caps.map fun i => X.N[i]?) (hcapF : ∀ y ∈ capN, (y, NameKind.free) ∈ scope.names)
    (hcapK : ∀ y ∈ capN, (relabel scope X.env).names.lookup y = some .cell ∨ (relabel scope X.env).names.lookup y = some .free)
    (hg : ∀ cl C fp s3 H3, PG (compCx X scope (capN ++ tgN) cl C fp s3 H3) tg gt) (hf : ∀ cl C fp s3 H3, PIfs (compCx X scope (capN ++ tgN) cl C fp s3 H3) ifs tt) (he : ∀ cl C fp s3 H3, PE (compCx X scope (capN ++ tgN) cl C fp s3 H3) elt te)
    (hs : ∀ x, foldedSetIterable iter X.env x = pure x := by intro _; rfl) :
    PE X (.ListComp elt [⟨tg, iter, ifs, 0⟩] scope pos) (tComp caps tgN.length wi gt tt te) := by
  intro pins s σ H Q I h
  rw [eval_ListComp]
  exact comp_core (use := none) hc hi hcell hkind hnames hfree hcapN hcapF hcapK hg hf he hs I h fun D Z s6 H5 hm hI _ _ _ _ _ q => by
    obtain ⟨m, hm⟩ := hm
    exact ⟨m, hm, fun h'' hs => ⟨.ref D, H5, hI h'' hs, rfl, q⟩⟩
/-- behind a block's own frame -/
theorem Inv.dropped {X : Cx} {pins : List (Addr × Obj)} {σ : St} {H : Hp} {s : Shared} {h'' : Heap} {Z : Addr} (I : Inv X pins σ H s) (hs : Heap.SameBut Z s.heap h'') (hz : H Z = none) (h0 : X.s₀.heap.objs.size ≤ Z) (h1 : Z ≠ X.env.locals) (h2 : ∀ x c, X.env.cells.lookup x = some c → c ≠ Z) (h3 : ∀ p ∈ X.pn ++ pins, p.1 ≠ Z) :
    Inv X pins σ H { s with heap := h'' } := by
  have un : Un (frs X.stack) [Z] H H s.heap h'' := by
    have k : ∀ b o, s.heap.get? b = some o → b ∉ [Z] → h''.get? b = some o := fun b o e hb => hs.extBut b o (fun z => hb (by rw [z]; exact List.mem_cons_self)) e
    exact ⟨fun b o e _ _ hx => k b o e hx, fun b o e _ _ hx => ⟨o.slots, k b o e hx⟩, fun _ _ _ n _ => n, fun b o e hx => ⟨o, k b o e hx⟩, fun _ _ q => q, fun _ _ _ q => q, fun _ ps q => ⟨#[], by simpa using q⟩⟩
  have hok : HOk X.prog X.w H h'' := fun a o e => (I.hok a o e).stay (fun b v hb q => hs.extBut b v (by
    rintro rfl
    rcases hb with hb | hb
    · rw [hb, e] at hz; cases hz
    · rw [hz] at hb; cases hb) q) (fun _ q => q) fun _ _ q => q
  obtain ⟨hh, g, d, t, o⟩ := s
  exact I.call (g' := g) (d' := d) (t' := t) (ch := [Z]) un hok I.bare fun b hb => by
    obtain rfl : b = Z := by simpa using hb
    exact ⟨.inr h0, h1, h2, h3⟩
/-- x = [.. for ..], x a local name: stored while the comprehension still stands -/
theorem ps_compA {i : Nat} {x : Str} {pos' spos : Pos} {X : Cx} {elt iter tg : Expr} {ifs : List Expr} {scope : Scope} {pos : Pos} {caps : List Nat} {capN tgN : List Str} {wi : TI} {gt : TG} {tt : TT} {te : TE}
    (hc : X.calm = true) (hi : PI X tg iter wi) (hcell : ∀ y ∈ scope.names, y.2 ≠ .cell) (hkind : scope.kind = .function) (hnames : ∀ y ∈ scope.names, y.2 = .local → scope.names.lookup y.1 = some .local)
    (hfree : ∀ y ∈ scope.names, y.2 = .free → X.env.kindOf y.1 = some .cell ∨ X.env.kindOf y.1 = some .free)
    (hcapN : capN.map some = caps.map fun i => X.N[i]?) (hcapF : ∀ y ∈ capN, (y, NameKind.free) ∈ scope.names)
    (hcapK : ∀ y ∈ capN, (relabel scope X.env).names.lookup y = some .cell ∨ (relabel scope X.env).names.lookup y = some .free)
    (hg : ∀ cl C fp s3 H3, PG (compCx X scope (capN ++ tgN) cl C fp s3 H3) tg gt) (hf : ∀ cl C fp s3 H3, PIfs (compCx X scope (capN ++ tgN) cl C fp s3 H3) ifs tt) (he : ∀ cl C fp s3 H3, PE (compCx X scope (capN ++ tgN) cl C fp s3 H3) elt te)
    (hN : X.N.Nodup) (hx : X.N[i]? = some x) (hk : X.env.scope.names.lookup x = some .local) (hsw : swapsWith (.ListComp elt [⟨tg, iter, ifs, 0⟩] scope pos) (some (.Name x pos')) spos.line X.env = pure true)
    (hs : ∀ x, foldedSetIterable iter X.env x = pure x := by intro _; rfl) :
    PS X (.Assign [.Name x pos'] (.ListComp elt [⟨tg, iter, ifs, 0⟩] scope pos) spos) (tAsg (tComp caps tgN.length wi gt tt te) (gName i)) := by
  intro pins s σ H En I h
  rw [exec_Assign_Name_used _ _ _ _ hsw]
  refine wpAny_bind (wpAny_standAt (wpAny_bind ?_))
  show wpAny _ X.A (comprehension (.ListComp elt [⟨tg, iter, ifs, 0⟩] scope pos) scope X.env (firstIterPos [⟨tg, iter, ifs, 0⟩] pos) (newList []) (firstAsync [⟨tg, iter, ifs, 0⟩]) (firstIter [⟨tg, iter, ifs, 0⟩] X.env) (some (assign (.Name x pos') X.env)) >>= _) _ _ s
  refine wpAny_bind (comp_core (use := some (assign (.Name x pos') X.env)) hc hi hcell hkind hnames hfree hcapN hcapF hcapK hg hf he hs I h fun D Z s6 H5 hm hI hz h0 h1 h2 h3 q => ?_)
  obtain ⟨m, hm⟩ := hm
  have I6 := hI s6.heap (Heap.SameBut.refl _ _)
  refine wpAny_assign_Name (store_ok2 I6 hN hx (.inl hk) (show RelV (.ref D) (.ref D) from rfl) (fun s' I' hch => ?_) (.inr hk))
  obtain ⟨a, sb, ha⟩ := hch
  have na : Z ≠ a := by
    rcases ha with rfl | ha
    · exact h1
    · exact fun z => h2 x a ha z.symm
  exact ⟨m, hm.sameBut sb na, fun h'' hs2 => wpAny_pure (wpAny_pure ⟨_, H5, I'.dropped hs2 hz h0 h1 h2 h3, q⟩)⟩
end L2

namespace D3
open PySem PySem.Spec PyProof.Rows L2
/-! ### list comprehensions -/
def subR (caps : List Nat) (ρ : Rho) : Rho := caps.map fun i => match ρ[i]? with | some (some (false, d)) => some (false, d) | _ => none
def compL (k : D → Rho → Option Rho) (t e : Rho → Res) (ρ0 : Rho) : List D → Option (List D)
  | [] => some []
  | d :: ds => match k d ρ0 with
    | none => none
    | some ρ1 => match t ρ1 with
      | .ok _ (.bl true) => (match frzR (e ρ1) with | .ok _ y => (compL k t e ρ0 ds).map (y :: ·) | _ => none)
      | .ok _ (.bl false) => compL k t e ρ0 ds
      | _ => none
def compR (src : Res) (ρ : Rho) (caps : List Nat) (n : Nat) (k : D → Rho → Option Rho) (t e : Rho → Res) : Res := src.thn fun _ d => match d with
  | .lst ds => if ds.length < sizeLine then (match compL k t e (subR caps ρ ++ List.replicate n none) ds with | some ys => .ok .fr (.lst ys) | none => .stuck) else .stuck
  | _ => .stuck
abbrev Cw.nox (C : Cw) : Cw := { C with EE := fun _ _ _ => False }
theorem Step.upd {F H F' H' : Hp} {x : Addr} {o : HO} (st : Step F H F' H') (hx : H x = none) (hx' : F' x = none) : Step F H F' (L2.upd H' x o) :=
  ⟨fun b u q => by rw [upd_ne (ne_of_none q hx)]; exact st.same b u q, st.fsame, fun b u q => by rw [upd_ne (ne_of_none q hx')]; exact st.sub b u q, st.new⟩
section
variable {C : Cw} {X : Cx} {e : Expr} {g : Rho → Res} {pos p : Pos}
theorem pifs_nilv : PIfs X [] (tT (C.at X) fun _ => .ok .fz (.bl true)) := fun pins s σ H Q I h => by
  obtain ⟨ρ, F, R, w⟩ := h
  exact pifs_nil pins s σ H Q I (w F H (.refl R.sub))
theorem pifs_consv {c : Expr} {cs : List Expr} {ga gb : Rho → Res} (hc : PTv C X c ga) (hr : PIfs X cs (tT (C.at X) gb)) : PIfs X (c :: cs) (tT (C.at X) fun ρ => andR (ga ρ) (gb ρ)) := fun pins s σ H Q I h =>
  pifs_cons hc hr pins s σ H Q I (tT_and h)
theorem relSt_sub {K : PySem.W.Frag} {F0 H0 F H : Hp} {σ : L2.St} {ρ : Rho} (caps : List Nat) (n : Nat) (R : RelSt K F0 H0 F H σ ρ) : RelSt K F0 H0 F H (subS caps σ ++ List.replicate n none) (subR caps ρ ++ List.replicate n none) := by
  have low : ∀ (i : Nat) (m : Bool) (d : D), (subR caps ρ ++ List.replicate n none)[i]? = some (some (m, d)) → m = false ∧ ∃ v, (subS caps σ ++ List.replicate n none)[i]? = some (some v) ∧ RepV K F d v := fun i m d e => by
    by_cases hi : i < caps.length
    · rw [List.getElem?_append_left (by simpa [subR] using hi)] at e
      rw [List.getElem?_append_left (by simpa [subS] using hi)]
      unfold subR at e
      unfold subS
      rw [List.getElem?_map, List.getElem?_eq_getElem hi] at e ⊢
      simp only [Option.map_some, Option.some.injEq] at e
      cases z : ρ[caps[i]]? with
      | none => rw [z] at e; cases e
      | some o =>
        rw [z] at e
        cases o with
        | none => cases e
        | some q =>
          obtain ⟨b, d'⟩ := q
          cases b with
          | true => cases e
          | false =>
            cases e
            obtain ⟨v, e1, r, _⟩ := R.slot _ _ _ z
            exact ⟨rfl, v, by simp [e1], r⟩
    · rw [List.getElem?_append_right (by simpa [subR] using hi), List.getElem?_replicate] at e
      split at e <;> cases e
  refine ⟨R.st, fun i m d e => ?_, fun i j d d' a _ e1 _ _ _ => ?_, by simp [subS, subR]⟩
  · obtain ⟨rfl, v, e1, r⟩ := low i m d e
    exact ⟨v, e1, r, by intro z; cases z⟩
  · have := (low i true d e1).1; cases this
end
end D3

namespace D3
open PySem PySem.Spec PyProof.Rows L2
/-! ### == and != of data -/
mutual
def toPy : D → Option PyData
  | .non => some .none
  | .bl b => some (.bool b)
  | .int i => some (.int i)
  | .str x => some (.str x)
  | .tup ds => (toPyL ds).map .tuple
  | .lst ds => (toPyL ds).map .list
  | _ => none
def toPyL : List D → Option (List PyData)
  | [] => some []
  | d :: ds => match toPy d, toPyL ds with
    | some p, some ps => some (p :: ps)
    | _, _ => none
end
section
variable {X : Cx} {pins : List (Addr × Obj)} {σ : L2.St} {F H : Hp} {s : Shared}
mutual
theorem reads_of (I : Inv X pins σ H s) (sF : Same F H) : ∀ (d : D) (p : PyData) (v : V) (u : Value), RepV X.K F d v → RelV v u → toPy d = some p → (∃ as, Reads s.heap u p as) ∧ p.canLay0 = true
  | .non, p, v, u, h, r, e => by simp only [RepV] at h; subst h; cases r; simp only [toPy] at e; cases e; exact ⟨⟨_, .none⟩, rfl⟩
  | .bl b, p, v, u, h, r, e => by simp only [RepV] at h; subst h; cases r; simp only [toPy] at e; cases e; exact ⟨⟨_, .bool b⟩, rfl⟩
  | .int i, p, v, u, h, r, e => by simp only [RepV] at h; subst h; obtain ⟨t, rfl⟩ := r; simp only [toPy] at e; cases e; exact ⟨⟨_, .int i t⟩, rfl⟩
  | .str x, p, v, u, h, r, e => by simp only [RepV] at h; obtain ⟨rfl, _, hk⟩ := h; obtain ⟨t, rfl⟩ := r; simp only [toPy] at e; cases e; exact ⟨⟨_, .str x t⟩, by simpa only [PyData.canLay0] using hk⟩
  | .tup ds, p, v, u, h, r, e => by
    simp only [RepV] at h
    obtain ⟨a, xs, rfl, q, rl⟩ := h
    cases r
    simp only [toPy] at e
    cases ep : toPyL ds with
    | none => rw [ep] at e; cases e
    | some ps =>
      rw [ep] at e; cases e
      obtain ⟨its, rv, ⟨o, h1, h2, n, h3⟩, _⟩ := I.tuple (Same.seqT sF q)
      obtain ⟨⟨as, ra⟩, hc⟩ := readsL_of I sF ds ps xs its rl rv ep
      exact ⟨⟨_, .tuple h1 h2 h3 (by simpa using ra)⟩, by simpa only [PyData.canLay0] using hc⟩
  | .lst ds, p, v, u, h, r, e => by
    simp only [RepV] at h
    obtain ⟨a, xs, rfl, q, rl⟩ := h
    cases r
    simp only [toPy] at e
    cases ep : toPyL ds with
    | none => rw [ep] at e; cases e
    | some ps =>
      rw [ep] at e; cases e
      obtain ⟨its, rv, ⟨o, n, h1, h2, _, h3⟩, _⟩ := I.list (sF.seq q)
      obtain ⟨⟨as, ra⟩, hc⟩ := readsL_of I sF ds ps xs its rl rv ep
      exact ⟨⟨_, .list h1 h2 h3 (by simpa using ra)⟩, by simpa only [PyData.canLay0] using hc⟩
  | .dct _, p, v, u, h, r, e => by simp only [toPy] at e; cases e
  | .ty _, p, v, u, h, r, e => by simp only [toPy] at e; cases e
  | .ob _, p, v, u, h, r, e => by simp only [toPy] at e; cases e
  | .ins _ _, p, v, u, h, r, e => by simp only [toPy] at e; cases e
  | .fn _, p, v, u, h, r, e => by simp only [toPy] at e; cases e
  | .exn _, p, v, u, h, r, e => by simp only [toPy] at e; cases e
  | .set _, p, v, u, h, r, e => by simp only [toPy] at e; cases e
theorem readsL_of (I : Inv X pins σ H s) (sF : Same F H) : ∀ (ds : List D) (ps : List PyData) (xs : List V) (us : List Value), RepL X.K F ds xs → Vals xs us → toPyL ds = some ps → (∃ as, ReadsAll s.heap us ps as) ∧ PyData.canLayAll0 ps = true
  | [], ps, xs, us, h, r, e => by simp only [RepL] at h; subst h; cases r; simp only [toPyL] at e; cases e; exact ⟨⟨_, .nil⟩, rfl⟩
  | d :: ds, ps, xs, us, h, r, e => by
    simp only [RepL] at h
    obtain ⟨y, ys, rfl, hd, hl⟩ := h
    cases r with
    | cons r1 r2 =>
      simp only [toPyL] at e
      cases e1 : toPy d with
      | none => rw [e1] at e; cases e
      | some p =>
        cases e2 : toPyL ds with
        | none => rw [e1, e2] at e; cases e
        | some ps' =>
          rw [e1, e2] at e; cases e
          obtain ⟨⟨as, ra⟩, hc⟩ := reads_of I sF d p y _ hd r1 e1
          obtain ⟨⟨bs, rb⟩, hc'⟩ := readsL_of I sF ds ps' ys _ hl r2 e2
          exact ⟨⟨_, .cons ra rb⟩, by simp only [PyData.canLayAll0, hc, hc', Bool.and_self]⟩
end
/-- also a list or dict that is not frozen -/
theorem reads_rp (I : Inv X pins σ H s) (sF : Same F H) {m : Md} {d : D} {p : PyData} {v : V} {u : Value} (h : Rp X.K F H m d v) (r : RelV v u) (e : toPy d = some p) : (∃ as, Reads s.heap u p as) ∧ p.canLay0 = true := by
  cases m with
  | fz => exact reads_of I sF d p v u h r e
  | _ =>
    obtain ⟨a, rfl, n, t⟩ := h
    cases d with
    | lst ds =>
      obtain ⟨xs, q, rl⟩ := t
      cases r
      simp only [toPy] at e
      cases ep : toPyL ds with
      | none => rw [ep] at e; cases e
      | some ps =>
        rw [ep] at e; cases e
        obtain ⟨its, rv, ⟨o, n, h1, h2, _, h3⟩, _⟩ := I.list (SqL.of q)
        obtain ⟨⟨as, ra⟩, hc⟩ := readsL_of I sF ds ps xs its rl rv ep
        exact ⟨⟨_, .list h1 h2 h3 (by simpa using ra)⟩, by simpa only [PyData.canLay0] using hc⟩
    | dct ds => simp only [toPy] at e; cases e
    | ins _ _ => simp only [toPy] at e; cases e
    | set _ => simp only [toPy] at e; cases e
    | _ => exact t.elim
end
def shal (p : PyData) : Bool := decide (p.depth ≤ 50)
def eqF (neg : Bool) : Md → D → Md → D → Option (Md × D) := fun _ x _ y => match toPy x, toPy y with
  | some p, some q => if (shal p && shal q) = true then some (.fz, .bl (if neg then !PyData.eqv p q else PyData.eqv p q)) else none
  | _, _ => none
section
variable {C : Cw} {X : Cx}
theorem opd_cmpD {f : Value → Value → Sem Value} {neg : Bool} (hu : X.A.units + 64 < cLine)
    (rule : ∀ (s : Shared) (a b : Value) (da db : PyData) (as bs : List Addr) (Q : Value → Shared → Prop), Reads s.heap a da as → Reads s.heap b db bs → da.canLay0 = true → db.canLay0 = true → X.A.units + min da.depth db.depth < cLine →
      Q (.bool (if neg then !PyData.eqv da db else PyData.eqv da db)) s → wpAny (model X.prog X.w) X.A (f a b) Q X.xe s) : OpD C X f (eqF neg) := by
  refine ⟨fun x y H Q => ∃ F m n d e p q, Same F H ∧ Rp X.K F H m d x ∧ Rp X.K F H n e y ∧ toPy d = some p ∧ toPy e = some q ∧ (shal p && shal q) = true ∧ Q (.bl (if neg then !PyData.eqv p q else PyData.eqv p q)) H, ?_, ?_⟩
  · intro pins s σ H x y v u Q I rx ry h
    obtain ⟨F, m, n, d, e, p, q, sF, hd, he, ep, eq, hs, hQ⟩ := h
    obtain ⟨⟨as, ra⟩, ca⟩ := reads_rp I sF hd rx ep
    obtain ⟨⟨bs, rb⟩, cb⟩ := reads_rp I sF he ry eq
    rw [Bool.and_eq_true] at hs
    have h1 := of_decide_eq_true hs.1
    refine rule s v u p q as bs _ ra rb ca cb (by have := Nat.min_le_left p.depth q.depth; omega) ⟨.bl _, H, I, rfl, hQ⟩
  · intro F H m x n y v u k d Q s rx ry e w
    unfold eqF at e
    split at e
    · rename_i p q ep eq
      split at e
      · rename_i hc
        cases e
        exact ⟨F, m, n, x, y, p, q, s, rx, ry, ep, eq, hc, w _ F H (.refl s) (rp_bl _) (by intro z; cases z)⟩
      · cases e
    · cases e
theorem opd_eq (hu : X.A.units + 64 < cLine) : OpD C X (compareOp .Eq) (eqF false) := opd_cmpD hu fun s a b da db as bs Q ra rb ca cb hd q => SeqAt.compareEq_reads ra rb ca cb hd q
theorem opd_ne (hu : X.A.units + 64 < cLine) : OpD C X (compareOp .NotEq) (eqF true) := opd_cmpD hu fun s a b da db as bs Q ra rb ca cb hd q => SeqAt.compareNe_reads ra rb ca cb hd q
end
end D3

namespace D3
open PySem PySem.Spec PyProof.Rows L2
/-! ### the methods of Python's own values -/
section
variable {C : Cw} {X : Cx} {o e : Expr} {es : List Expr} {go : Rho → Res} {gs : Rho → ResL} {apos cpos : Pos} {T id : String} {name : Str}
/-! join -/
end
/-! ### own defs -/
def spV (K : PySem.W.Frag) (mg : Str → Option Value) (n : Nat) (Φ : List D → Res) : Sp := fun vs H Q E => vs.length = n ∧ ∃ F ds, Same F H ∧ RepL K F ds vs ∧ match Φ ds with
  | .ok m d => m ≠ .bo ∧ ∀ v F' H', Step F H F' H' → Rp K F' H' m d v → (m = .fr → ∀ a, v = .ref a → H a = none) → Q v H'
  | .exc c => ∀ F' H' u, Step F H F' H' → mg c = some u → E u none H'
  | .stuck => False
structure FnV (P : Program) (w : World) (K : PySem.W.Frag) (mg : Str → Option Value) (base : Heap) (CX : CXT) (k : Nat) (x : Str) (n : Nat) (Φ : List D → Res) : Prop where
  ex : ∃ f fd ps, FnOk P w K mg base CX k f fd ps (spV K mg n Φ) ∧ mg x = some (.ref f) ∧ PySem.W.keepIn K (.ref f) = true ∧ Binds K fd ps []
def callF (n : Nat) (Φ : List D → Res) (r : ResL) : Res := r.thn fun xs => match allFz xs with
  | some ds => if ds.length = n then (match Φ ds with | .ok .bo _ => .stuck | r => r) else .stuck
  | none => .stuck
/-- what the body wants of a callee's exception -/
def XOk (CX : CXT) (C : Cw) (X : Cx) : Prop := ∀ (pins : List (Addr × Obj)) (σ : L2.St) (H : Hp) (s : Shared) (e : Value) (s' : Shared), Inv X pins σ H s → CX X.stack H s (fun u _ H' => ∃ c, X.mg c = some u ∧ C.EE c σ H') e s' → X.xe e s'
section
variable {C : Cw} {X : Cx} {e : Expr} {es : List Expr} {gs : Rho → ResL} {p pos : Pos} {x : Str} {k n : Nat} {Φ : List D → Res} {CX : CXT}
theorem run_V {f : Addr} {fd : FuncData} {ps : List Str} {pins : List (Addr × Obj)} {σ : L2.St} {H : Hp} {s : Shared} {Q : VK} {us : List Value} {vs : List V} {E : XK} (F : FnOk X.prog X.w X.K X.mg X.base CX k f fd ps (spV X.K X.mg n Φ)) (hr : Room k X.A) (hb : Binds X.K fd ps [])
    (hx : ∀ e s', CX X.stack H s E e s' → X.xe e s') (I : Inv X pins σ H s) (r : Vals vs us) (h : spV X.K X.mg n Φ vs H Q E) : wpAny (model X.prog X.w) X.A (call (.ref f) us) (EP X pins σ Q) X.xe s := by
  have hl : (us ++ []).length = ps.length := by rw [List.append_nil, ← r.length]; exact F.len _ _ _ _ h
  have hb' := hb s us I.kIn hl
  rw [List.append_nil] at hb'
  refine wpAny_call (codeAny_mono (F.run X.A X.stack s H ⟨us, []⟩ us vs Q E hr I.env0 hb' r h) fun r s' hq => ?_)
  cases r with
  | error e => exact hx e s' hq
  | ok fl =>
    cases fl with
    | ret u => exact I.after hq
    | next => exact False.elim hq
    | brk => exact False.elim hq
    | cont => exact False.elim hq
theorem pv_call (F : FnV X.prog X.w X.K X.mg X.base CX k x n Φ) (hr : Room k X.A) (hx : XOk CX (C.at X) X) (hg : Gl X x) (ha : PAv C X (e :: es) gs)
    (hdb : (x == ("__debug__" : Str)) = false := by decide) (he : starEach (e :: es) X.env = (false, eval e X.env) :: starEach es X.env := by rfl) (hpl : (backTo pos (starEach es X.env)).any (·.1) = false := by rfl) :
    PV C X (.Call (.Name x p) (e :: es) [] pos) (fun ρ => callF n Φ (gs ρ)) := by
  obtain ⟨f, fd, ps, FF, hm, hk, hb⟩ := F.ex
  intro pins s σ H Q I h
  rw [tG_eq] at h
  obtain ⟨ρ, F, R, w⟩ := h
  refine wpAny_Call_Name_kw (ld_glob I hg hm ?_ hdb)
  refine PySem.W.callWith_K (h₀ := X.base) I.ok.mod.kin hk (thn (ha pos pins s σ H (fun vs H1 => spV X.K X.mg n Φ vs H1 Q fun u _ H' => ∃ c, X.mg c = some u ∧ C.EE c σ H') I ?_) fun us s1 ⟨vs, H1, I1, r, q⟩ => ⟨I1.kIn, run_V FF hr hb (fun e s' hc => hx pins σ H1 s1 e s' I1 hc) I1 r q⟩) he hpl
  refine ⟨ρ, F, R, ?_⟩
  cases er : gs ρ with
  | stuck => rw [er] at w; exact w
  | exc c => rw [er] at w; exact w
  | ok xs =>
    rw [er] at w
    intro vs F1 H1 s1 r1
    have w1 : Want (C.at X) F1 H1 σ (callF n Φ (.ok xs)) Q := Want.step s1 w
    unfold callF at w1
    rw [ResL.thn_ok] at w1
    cases ef : allFz xs with
    | none => rw [ef] at w1; exact w1.elim
    | some ds =>
      rw [ef] at w1
      dsimp only at w1
      split at w1
      · rename_i hn
        have rl := r1.fz ef
        refine ⟨by rw [rl.length]; exact hn, F1, ds, s1.sub, rl, ?_⟩
        cases ep : Φ ds with
        | stuck => rw [ep] at w1; exact w1
        | exc c => rw [ep] at w1; exact fun F' H' u st hu => ⟨c, hu, w1 F' H' st⟩
        | ok m d =>
          rw [ep] at w1
          cases m with
          | bo => exact w1.elim
          | fz => exact ⟨by decide, w1⟩
          | fr => exact ⟨by decide, w1⟩
      · exact w1.elim
end
/-! ### a def by its body -/
def endR : SRes → Res
  | .nx _ => .ok .fz .non
  | .rt m d => .ok m d
  | .exc c _ => .exc c
  | _ => .stuck
def startR (n : Nat) (ds : List D) : Rho := ds.map (fun d => some (false, d)) ++ List.replicate (n - ds.length) none
theorem relSt_start {K : PySem.W.Frag} {F H : Hp} {N : List Str} {ds : List D} {vs : List V} (s : Same F H) (r : RepL K F ds vs) : RelSt K F H F H (start N vs) (startR N.length ds) := by
  have low : ∀ (i : Nat) (m : Bool) (d : D), (startR N.length ds)[i]? = some (some (m, d)) → m = false ∧ ∃ v, (start N vs)[i]? = some (some v) ∧ RepV K F d v := fun i m d e => by
    unfold startR at e
    unfold L2.start
    by_cases hi : i < ds.length
    · rw [List.getElem?_append_left (by simpa using hi), List.getElem?_map, List.getElem?_eq_getElem hi] at e
      cases e
      obtain ⟨v, ev, rv⟩ := r.get' (List.getElem?_eq_getElem hi)
      exact ⟨rfl, v, by rw [List.getElem?_append_left (by simpa [r.length] using hi), List.getElem?_map, ev]; rfl, rv⟩
    · rw [List.getElem?_append_right (by simpa using hi), List.getElem?_replicate] at e
      split at e <;> cases e
  refine ⟨.refl s, fun i m d e => ?_, fun i j d d' a _ e1 _ _ _ => ?_, by simp [L2.start, startR, r.length]⟩
  · obtain ⟨rfl, v, e1, rv⟩ := low i m d e
    exact ⟨v, e1, rv, by intro z; cases z⟩
  · have := (low i true d e1).1; cases this
/-! ### the law's own head -/
def lawIn (ns : List Int) : List D := [.lst (ns.map .int)]
theorem repL_ints {K : PySem.W.Frag} {F : Hp} : ∀ ns : List Int, RepL K F (ns.map D.int) (ns.map V.int)
  | [] => RepL.nil
  | n :: ns => RepL.cons (by simp only [RepV]) (repL_ints ns)
end D3

namespace D3
open PySem PySem.Spec PyProof.Rows L2
/-! ### short names for the writer of proofs -/
def noK : Md → D → Md → D → Option (Md × D) := fun _ _ _ _ => none
abbrev fAdd : Md → D → Md → D → Option (Md × D) := orO (fI (fun _ _ => true) fun i j => .int (i + j)) (fS (fun i j => decide (i.length + j.length ≤ sizeLine)) fun i j => .str (i ++ j))
abbrev fSub : Md → D → Md → D → Option (Md × D) := fI (fun _ _ => true) fun i j => .int (i - j)
abbrev fMul : Md → D → Md → D → Option (Md × D) := orO (fI (fun i j => (bits i && bits j) || (w64 i || w64 j)) fun i j => .int (i * j)) noK
abbrev fMod : Md → D → Md → D → Option (Md × D) := fI (fun _ j => decide (0 < j)) fun i j => .int (i % j)
abbrev fDiv : Md → D → Md → D → Option (Md × D) := fI (fun _ j => decide (0 < j) && bits j) fun i j => .int (i / j)
abbrev fPow : Md → D → Md → D → Option (Md × D) := fI (fun i j => decide (0 ≤ j) && decide (j ≤ 1000000) && decide (i.natAbs < 2 ^ 64)) fun i j => .int (i ^ j.toNat)
abbrev fLt : Md → D → Md → D → Option (Md × D) := fI (fun _ _ => true) fun i j => .bl (decide (i < j))
abbrev fLe : Md → D → Md → D → Option (Md × D) := fI (fun _ _ => true) fun i j => .bl (decide (i ≤ j))
abbrev fGt : Md → D → Md → D → Option (Md × D) := fI (fun _ _ => true) fun i j => .bl (decide (j < i))
abbrev fGe : Md → D → Md → D → Option (Md × D) := fI (fun _ _ => true) fun i j => .bl (decide (j ≤ i))
abbrev fEq : Md → D → Md → D → Option (Md × D) := orO (eqF false) noK
abbrev fNe : Md → D → Md → D → Option (Md × D) := orO (eqF true) noK
abbrev fIn : Md → D → Md → D → Option (Md × D) := fS (fun _ _ => true) fun i j => .bl (isIn i j)
abbrev fNotIn : Md → D → Md → D → Option (Md × D) := fS (fun _ _ => true) fun i j => .bl (!isIn i j)
def IsB (φ : Md → D → Md → D → Option (Md × D)) : Prop := ∀ m x n y k d, φ m x n y = some (k, d) → ∃ t, k = .fz ∧ d = .bl t
theorem isB_I {c : Int → Int → Bool} {g : Int → Int → Bool} : IsB (fI c fun i j => .bl (g i j)) := fun m x n y k d e => by
  unfold fI at e
  split at e
  · split at e
    · cases e; exact ⟨_, rfl, rfl⟩
    · cases e
  · cases e
theorem isB_S {c : Str → Str → Bool} {g : Str → Str → Bool} : IsB (fS c fun i j => .bl (g i j)) := fun m x n y k d e => by
  unfold fS at e
  split at e
  · split at e
    · cases e; exact ⟨_, rfl, rfl⟩
    · cases e
  · cases e
theorem isB_or {φ ψ} (h : IsB φ) (h' : IsB ψ) : IsB (orO φ ψ) := fun m x n y k d e => by
  unfold orO at e
  cases e1 : φ m x n y with
  | none => rw [e1] at e; exact h' _ _ _ _ _ _ e
  | some p => rw [e1] at e; cases e; exact h _ _ _ _ _ _ e1
theorem isB_eqF {neg : Bool} : IsB (eqF neg) := fun m x n y k d e => by
  unfold eqF at e
  split at e
  · split at e
    · cases e; exact ⟨_, rfl, rfl⟩
    · cases e
  · cases e
section
variable {C : Cw} {X : Cx}
theorem opd_noK {f : Value → Value → Sem Value} : OpD C X f noK := ⟨fun _ _ _ _ => False, fun _ _ _ _ _ _ _ _ _ _ _ _ h => h.elim, fun _ _ _ _ _ _ _ _ _ _ _ _ _ _ e _ => by cases e⟩
theorem o_add : OpD C X (binaryOp .Add) fAdd := opd_add.or opd_addS
theorem o_mul : OpD C X (binaryOp .Mult) fMul := opd_mul.or opd_noK
theorem o_eq (hu : X.A.units + 64 < cLine) : OpD C X (compareOp .Eq) fEq := (opd_eq hu).or opd_noK
theorem o_ne (hu : X.A.units + 64 < cLine) : OpD C X (compareOp .NotEq) fNe := (opd_ne hu).or opd_noK
/-- a def by its body -/
def phi (n N : Nat) (g : Rho → SRes) : List D → Res := fun ds => if ds.length = n then endR (g (startR N ds)) else .stuck
end
/-! comprehensions: one check -/
def relSc (scope sc : Scope) : List (Str × NameKind) := scope.names.map fun (n, k) => if (k == .free && sc.kind == .function && sc.names.lookup n == some .cell) then (n, .cell) else (n, k)
theorem bb_len : bootBuiltins "len" = some (.builtin "len") := by decide +kernel
theorem bb_isinstance : bootBuiltins "isinstance" = some (.builtin "isinstance") := by decide +kernel
theorem bb_int : bootBuiltins "int" = some (.type "int") := by decide +kernel
theorem bb_bool : bootBuiltins "bool" = some (.type "bool") := by decide +kernel
theorem bb_str : bootBuiltins "str" = some (.type "str") := by decide +kernel
theorem bb_tuple : bootBuiltins "tuple" = some (.type "tuple") := by decide +kernel
theorem bb_list : bootBuiltins "list" = some (.type "list") := by decide +kernel
theorem bb_dict : bootBuiltins "dict" = some (.type "dict") := by decide +kernel
end D3

namespace D3
open PySem PySem.Spec PyProof.Rows L2
/-! ### own classes: what stands there -/
structure CI where
  name : Str
  ups : List Str
  flds : List Str
  meths : List (Str × Str × Nat)
def notStar : Expr → Bool | .Starred .. => false | _ => true
def notSup : Expr → Bool | .Call (.Name x _) [] [] _ => x != "super" | _ => true
theorem star_cons {x : Expr} {es : List Expr} {env : Env} (h : notStar x = true) : starEach (x :: es) env = (false, eval x env) :: starEach es env := by
  cases x <;> first | rfl | cases h
theorem star_any (pos : Pos) (env : Env) : ∀ {es : List Expr}, (∀ x ∈ es, notStar x = true) → (backTo pos (starEach es env)).any (·.1) = false
  | [], _ => rfl
  | x :: es, h => by
    rw [star_cons (h x List.mem_cons_self)]
    show ((false || (backTo pos (starEach es env)).any (·.1)) = false)
    rw [star_any pos env fun y hy => h y (List.mem_cons_of_mem _ hy)]; rfl
theorem star_all (pos : Pos) (env : Env) : ∀ {es : List Expr}, (∀ x ∈ es, notStar x = true) → (backTo pos (starEach es env)).all (fun x => !x.1) = true
  | [], _ => rfl
  | x :: es, h => by
    rw [star_cons (h x List.mem_cons_self)]
    show ((true && (backTo pos (starEach es env)).all (fun x => !x.1)) = true)
    rw [star_all pos env fun y hy => h y (List.mem_cons_of_mem _ hy)]; rfl
theorem attrBase {o : Expr} {n : Str} {env : Env} {w : Sem Value} (h : notSup o = true) : attributeBase o n env w = w := by
  cases o with
  | Call f as ks pos =>
    cases f with
    | Name x p =>
      cases as with
      | nil =>
        cases ks with
        | nil =>
          show (if x != "super" || n == "__class__" || env.kindOf "super" != some .globalImplicit || env.kindOf "__class__" != some .free then w else _) = w
          have : (x != ("super" : Str)) = true := h
          rw [if_pos (by rw [this]; rfl)]
        | cons _ _ => rfl
      | cons _ _ => rfl
    | _ => rfl
  | _ => rfl
/-- the method m of the class c -/
structure MtV (P : Program) (w : World) (K : PySem.W.Frag) (mg : Str → Option Value) (base : Heap) (CX : CXT) (k : Nat) (c m : Str) (n : Nat) (Φ : List D → Res) : Prop where
  ex : ∃ C f fd ps, PySem.W.nsIn K mainGlobals c = some (some (.ref C)) ∧ Cls K C ∧ Meth K C m f ∧ FnOk P w K mg base CX k f fd ps (spV K mg n Φ) ∧ Binds K fd ps []
/-- a class's own attributes of its objects -/
structure FlV (K : PySem.W.Frag) (c f : Str) : Prop where
  ex : ∃ C, PySem.W.nsIn K mainGlobals c = some (some (.ref C)) ∧ Cls K C ∧ NoAttr K C f
def CI.meth (cl : List CI) (c m : Str) : Option (Str × Nat) := match cl.find? (fun i => i.name == c) with
  | some i => i.meths.lookup m
  | none => none
section
variable {C : Cw} {X : Cx} {o e : Expr} {es : List Expr} {go : Rho → Res} {gs : Rho → ResL} {apos pos : Pos} {m f : Str} {k : Nat} {Φ : Str → List D → Res} {CX : CXT} {cl : List CI}
end
end D3

namespace D3
open PySem PySem.Spec PyProof.Rows L2
/-! ### an owned thing changes -/
theorem RelSt.mut {K : PySem.W.Frag} {F0 H0 F H : Hp} {σ : L2.St} {ρ : Rho} {i : Nat} {d d' : D} {a : Addr} {o : HO} (R : RelSt K F0 H0 F H σ ρ) (e : ρ[i]? = some (some (true, d))) (ev : σ[i]? = some (some (.ref a)))
    (t : Top K F (upd H a o) a d') : RelSt K F0 H0 F (upd H a o) σ (ρ.set i (some (true, d'))) := by
  obtain ⟨v, ev', rp, hn⟩ := R.slot i true d e
  rw [ev] at ev'
  cases ev'
  have h0 : H0 a = none := hn rfl a rfl
  obtain ⟨a', ea, hf, tt⟩ := rp
  cases ea
  have hl : i < ρ.length := (List.getElem?_eq_some_iff.mp e).1
  have st : Step F0 H0 F (upd H a o) := ⟨fun b u q => by rw [upd_ne (ne_of_none q h0)]; exact R.st.same b u q, R.st.fsame, fun b u q => by rw [upd_ne (ne_of_none q hf)]; exact R.st.sub b u q, R.st.new⟩
  refine ⟨st, fun j m d2 e2 => ?_, fun j l d1 d2 b hjl e1 e2 q1 q2 => ?_, by rw [List.length_set]; exact R.len⟩
  · by_cases hj : j = i
    · subst hj
      rw [List.getElem?_set_self hl] at e2
      cases e2
      exact ⟨.ref a, ev, ⟨a, rfl, hf, t⟩, fun _ b eb => by cases eb; exact h0⟩
    · rw [List.getElem?_set_ne (fun z => hj z.symm)] at e2
      obtain ⟨u, eu, ru, hu⟩ := R.slot j m d2 e2
      refine ⟨u, eu, ?_, hu⟩
      cases m with
      | false => exact ru
      | true =>
        obtain ⟨b, eb, hb, tb⟩ := ru
        subst eb
        have hba : b ≠ a := fun z => by subst z; exact R.apart j i d2 d b hj e2 e eu ev
        refine ⟨b, rfl, hb, ?_⟩
        cases d2 with
        | lst ds => obtain ⟨xs, q, r⟩ := tb; exact ⟨xs, by rw [upd_ne hba]; exact q, r⟩
        | dct ds => obtain ⟨xs, q, r⟩ := tb; exact ⟨xs, by rw [upd_ne hba]; exact q, r⟩
        | ins c fs => obtain ⟨C, dx, gs, n, q, r⟩ := tb; exact ⟨C, dx, gs, n, by rw [upd_ne hba]; exact q, r⟩
        | set ks => obtain ⟨S, q, r⟩ := tb; exact ⟨S, by rw [upd_ne hba]; exact q, r⟩
        | _ => exact tb.elim
  · have back : ∀ (l : Nat) (d2 : D), (ρ.set i (some (true, d')))[l]? = some (some (true, d2)) → ∃ d3, ρ[l]? = some (some (true, d3)) := fun l d2 q => by
      by_cases hl' : l = i
      · subst hl'; exact ⟨d, e⟩
      · rw [List.getElem?_set_ne (fun z => hl' z.symm)] at q; exact ⟨d2, q⟩
    obtain ⟨d3, q3⟩ := back j d1 e1
    obtain ⟨d4, q4⟩ := back l d2 e2
    exact R.apart j l d3 d4 b hjl q3 q4 q1 q2
section
variable {C : Cw} {X : Cx} {e : Expr} {g : Rho → Res} {pos p pos' : Pos} {f x : Str} {cl : List CI}
end
/-! ### new objects -/
structure MkV0 (K : PySem.W.Frag) (mg : Str → Option Value) (c : Str) : Prop where
  ex : ∃ C, PySem.W.nsIn K mainGlobals c = some (some (.ref C)) ∧ mg c = some (.ref C) ∧ PySem.W.makesIn K C = true ∧ PySem.W.findIn K (.ref C) "__init__" = some (some (.builtin "object.__init__")) ∧ PySem.W.keepIn K (.ref C) = true
end D3

namespace D3
open PySem PySem.Spec PyProof.Rows L2
/-! ### objects made by an own __init__ -/
def spI (K : PySem.W.Frag) (mg : Str → Option Value) (c : Str) (n : Nat) (Φ : List D → Res) : Sp := fun vs H Q E => ∃ x us dx C H1 F ds, vs = .ref x :: us ∧ us.length = n ∧ PySem.W.nsIn K mainGlobals c = some (some (.ref C)) ∧
  H = upd (upd H1 dx (.own x)) x (.ins C dx []) ∧ H1 x = none ∧ H1 dx = none ∧ dx ≠ x ∧ Same F H1 ∧ RepL K F ds us ∧ match Φ ds with
  | .ok _ d => ∀ F' H', Step F H1 F' H' → Rp K F' H' .fr d (.ref x) → Q .non H'
  | .exc c => ∀ F' H' u, Step F H1 F' H' → mg c = some u → E u none H'
  | .stuck => False
structure InV (P : Program) (w : World) (K : PySem.W.Frag) (mg : Str → Option Value) (base : Heap) (CX : CXT) (k : Nat) (c : Str) (n : Nat) (Φ : List D → Res) : Prop where
  ex : ∃ C f fd ps, PySem.W.nsIn K mainGlobals c = some (some (.ref C)) ∧ mg c = some (.ref C) ∧ Mk K C f ∧ FnOk P w K mg base CX k f fd ps (spI K mg c n Φ) ∧ Binds K fd ps []
section
variable {C : Cw} {X : Cx} {e : Expr} {es : List Expr} {gs : Rho → ResL} {p pos : Pos} {x c : Str} {k n : Nat} {Φ : List D → Res} {CX : CXT}
end
end D3

namespace D3
open PySem PySem.Spec PyProof.Rows L2
/-! ### isinstance by an own class -/
/-- class c of the text: its answer for each of Python's own kinds is no; for the classes of cl by their ups -/
structure IsV (K : PySem.W.Frag) (mg : Str → Option Value) (cl : List CI) (c : Str) : Prop where
  ex : ∃ C, mg c = some (.ref C) ∧ (∀ t ∈ ["NoneType", "bool", "int", "str", "tuple", "list", "dict"], PySem.W.kitOne K (.type t) (.ref C) = some false) ∧
    ∀ i ∈ cl, ∃ C', PySem.W.nsIn K mainGlobals i.name = some (some (.ref C')) ∧ Cls K C' ∧ PySem.W.findIn K (.ref C') "__class__" = some (some (.builtin "object.__class__")) ∧
      PySem.W.specialIn K (.builtin "object.__class__") "__get__" = some (some (.builtin "getset_descriptor.__get__")) ∧ PySem.W.takesIn K (.builtin "object.__class__") = some true ∧ PySem.W.mroIn K C' (.type "object") = some true ∧
      PySem.W.kitOne K (.ref C') (.ref C) = some (i.ups.contains c)
section
variable {C : Cw} {X : Cx} {e : Expr} {g : Rho → Res} {p q pos : Pos} {c : Str} {cl : List CI}
end
end D3

namespace D3
open PySem PySem.Spec PyProof.Rows L2
section
variable {C : Cw} {X : Cx} {a b c e : Expr} {ga gb gc g : Rho → Res} {gs : Rho → ResL} {pos : Pos}
/-! ### is None -/
def isNonD : D → Bool | .non => true | _ => false
theorem rp_nonIff {K : PySem.W.Frag} {F H : Hp} {m : Md} {d : D} {v : V} (s : Same F H) (r : Rp K F H m d v) : decide (v = .non) = isNonD d := by
  cases d with
  | non => cases r.non; rfl
  | bl _ => cases r.bl; rfl
  | int _ => cases r.int; rfl
  | str _ => cases r.str.1; rfl
  | tup _ => obtain ⟨_, _, rfl, _⟩ := r.seqT s; rfl
  | lst _ => obtain ⟨_, _, rfl, _⟩ := r.seqL s; rfl
  | dct _ => obtain ⟨_, _, rfl, _⟩ := r.dict s; rfl
  | ty _ => cases r.ty; rfl
  | ob _ => cases r.ob; rfl
  | ins _ _ => obtain ⟨_, _, _, _, rfl, _⟩ := r.ins s; rfl
  | fn _ =>
    cases m with
    | fz => have r : RepV K F _ v := r; simp only [RepV] at r; obtain ⟨_, rfl, _⟩ := r; rfl
    | fr => obtain ⟨_, _, _, q⟩ := r; exact q.elim
    | bo => obtain ⟨_, _, _, q⟩ := r; exact q.elim
  | exn _ =>
    cases m with
    | fz => have r : RepV K F _ v := r; simp only [RepV] at r; obtain ⟨_, _, rfl, _⟩ := r; rfl
    | fr => obtain ⟨_, _, _, q⟩ := r; exact q.elim
    | bo => obtain ⟨_, _, _, q⟩ := r; exact q.elim
  | set _ =>
    cases m with
    | fz => have r : RepV K F _ v := r; simp only [RepV] at r; obtain ⟨_, _, rfl, _⟩ := r; rfl
    | fr => obtain ⟨_, rfl, _, _⟩ := r; rfl
    | bo => obtain ⟨_, rfl, _, _⟩ := r; rfl
def fIs (neg : Bool) : Md → D → Md → D → Option (Md × D) := fun _ x _ y => match y with
  | .non => some (.fz, .bl (if neg then !isNonD x else isNonD x))
  | _ => none
theorem opd_is : OpD C X (compareOp .Is) (fIs false) := by
  refine ⟨_, op_isN, fun F H m x n y v u k d Q s rx ry e w => ?_⟩
  unfold fIs at e
  split at e
  · cases e
    cases ry.non
    exact ⟨rfl, by rw [rp_nonIff s rx]; exact w _ F H (.refl s) (rp_bl _) (by intro z; cases z)⟩
  · cases e
theorem opd_isnot : OpD C X (compareOp .IsNot) (fIs true) := by
  refine ⟨_, op_notN, fun F H m x n y v u k d Q s rx ry e w => ?_⟩
  unfold fIs at e
  split at e
  · cases e
    cases ry.non
    exact ⟨rfl, by rw [rp_nonIff s rx]; exact w _ F H (.refl s) (rp_bl _) (by intro z; cases z)⟩
  · cases e
theorem isB_is {neg : Bool} : IsB (fIs neg) := fun m x n y k d e => by
  unfold fIs at e
  split at e
  · cases e; exact ⟨_, rfl, rfl⟩
  · cases e
/-! ### chains -/
/-! ### lists and tuples put together -/
theorem op_catL : OpR X (binaryOp .Add) (fun x y H Q => ∃ l b xs ys, x = .ref l ∧ y = .ref b ∧ SqL X.K H l xs ∧ SqL X.K H b ys ∧ xs.length + ys.length ≤ sizeLine ∧ ∀ p, H p = none → Q (.ref p) (upd H p (.lst (xs ++ ys)))) := by
  intro pins s σ H x y v u Q I rx ry h
  obtain ⟨l, b, xs, ys, rfl, rfl, hl, hb, hz, q⟩ := h
  cases rx
  cases ry
  obtain ⟨its, r1, p1, _⟩ := I.list hl
  obtain ⟨its2, r2, p2, _⟩ := I.list hb
  obtain ⟨⟨cls, dd, data, sl⟩, n, ho, hc, hd1, hd⟩ := p1
  obtain ⟨⟨cls2, dd2, data2, sl2⟩, n2, ho2, hc2, hd2', hd2⟩ := p2
  simp only at hc hd hc2 hd2
  subst hc hd hc2 hd2
  have e : its.toArray ++ its2.toArray = (its ++ its2).toArray := by simp
  have l1 := r1.length
  have l2 := r2.length
  refine concat_meets ⟨_, ho, rfl⟩ ⟨_, ho2, rfl⟩ noFill_list_add seq_list_add PySem.F.slot_list_add PySem.F.entry_list_add (PySem.F.args_list_add_2 _ _) (list_addW l b its.toArray its2.toArray n n2 dd dd2 sl sl2 (by simp; omega)) ⟨ho, ho2, ?_⟩
  rw [e]
  refine ⟨.ref s.heap.objs.size, _, I.laid (t' := s.toks) (o := .lst (xs ++ ys)) (fun b ob q => Heap.get?_push_of_some _ q) (Nat.le_refl _) ?_, rfl, q _ (I.hok.fresh (Nat.le_refl _))⟩
  exact ⟨by rw [List.length_append]; exact hz, _, 0, r1.append r2, Heap.get?_push_size _ rfl⟩
theorem op_catT' : OpR X (binaryOp .Add) (fun x y H Q => ∃ l b xs ys, x = .ref l ∧ y = .ref b ∧ SqT X.K H l xs ∧ SqT X.K H b ys ∧ xs.length + ys.length ≤ sizeLine ∧ (xs = [] → Q (.ref b) H) ∧ (xs ≠ [] → ys = [] → Q (.ref l) H) ∧
    (xs ≠ [] → ys ≠ [] → ∀ p, H p = none → Q (.ref p) (upd H p (.tup (xs ++ ys))))) := by
  intro pins s σ H x y v u Q I rx ry h
  obtain ⟨l, b, xs, ys, rfl, rfl, hl, hb, hz, q0, q1, q2⟩ := h
  cases rx
  cases ry
  obtain ⟨its, r1, p1, _⟩ := I.tuple hl
  obtain ⟨its2, r2, p2, _⟩ := I.tuple hb
  have n1 := r1.nil_iff
  have n2 := r2.nil_iff
  have l1 := r1.length
  have l2 := r2.length
  by_cases hv : its = []
  · obtain ⟨⟨cls, dd, data, sl⟩, ho, hc, n, hd⟩ := id p1
    obtain ⟨⟨cls2, dd2, data2, sl2⟩, ho2, hc2, n2', hd2⟩ := id p2
    simp only at hc hd hc2 hd2
    subst hc hd hc2 hd2
    exact concat_meets ⟨_, ho, rfl⟩ ⟨_, ho2, rfl⟩ noFill_tuple_add seq_tuple_add PySem.F.slot_tuple_add PySem.F.entry_tuple_add (PySem.F.args_tuple_add_2 _ _)
      (tuple_addW0 l b its.toArray its2.toArray n n2' dd dd2 sl sl2 (by simp [hv])) ⟨ho, ho2, ⟨.ref b, H, I, rfl, q0 (n1.mp hv)⟩⟩
  · refine HT.cat_tup p1 p2 hv (fun z => ⟨.ref l, H, I, rfl, q1 (fun w => hv (n1.mpr w)) (n2.mp z)⟩) (fun z => ?_) (by omega)
    refine ⟨.ref s.heap.objs.size, _, I.laid (t' := s.toks) (o := .tup (xs ++ ys)) (fun b ob q => Heap.get?_push_of_some _ q) (Nat.le_refl _) ?_, rfl, q2 (fun w => hv (n1.mpr w)) (fun w => z (n2.mpr w)) _ (I.hok.fresh (Nat.le_refl _))⟩
    exact ⟨by rw [List.length_append]; exact hz, _, r1.append r2, PlainTp.new _ _⟩
def catD : Md → D → Md → D → Option (Md × D) := fun m x n y => match x, y with
  | .lst xs, .lst ys => if xs.length + ys.length ≤ sizeLine then some (.fr, .lst (xs ++ ys)) else none
  | .tup xs, .tup ys => if xs.length + ys.length ≤ sizeLine then some (.fz, .tup (xs ++ ys)) else none
  | _, _ => none
theorem RepL.nilIff {K : PySem.W.Frag} {F : Hp} {ds : List D} {xs : List V} (h : RepL K F ds xs) : xs = [] ↔ ds = [] := by
  have := h.length
  constructor
  · intro e; subst e; cases ds with | nil => rfl | cons _ _ => simp at this
  · intro e; subst e; cases xs with | nil => rfl | cons _ _ => simp at this
theorem opd_cat : OpD C X (binaryOp .Add) catD := by
  refine ⟨_, op_catL.or op_catT', fun F H m x n y v u k d Q s rx ry e w => ?_⟩
  unfold catD at e
  split at e
  · rename_i xs ys
    split at e
    · rename_i hz
      cases e
      obtain ⟨a, us, rfl, q1, r1⟩ := rx.seqL s
      obtain ⟨b, vs, rfl, q2, r2⟩ := ry.seqL s
      refine .inl ⟨a, b, us, vs, rfl, rfl, q1, q2, by rw [r1.length, r2.length]; exact hz, fun p hp => ?_⟩
      exact w (.ref p) F _ (Step.fresh _ s hp) ⟨p, rfl, s.free hp, _, upd_same, r1.append r2⟩ fun _ a ea => by cases ea; exact hp
    · cases e
  · rename_i xs ys
    split at e
    · rename_i hz
      cases e
      have ex := rx
      have ey := ry
      obtain ⟨a, us, rfl, q1, r1⟩ := rx.seqT s
      obtain ⟨b, vs, rfl, q2, r2⟩ := ry.seqT s
      have fz : ∀ {m : Md} {zs : List D} {c : Addr}, Rp X.K F H m (.tup zs) (.ref c) → RepV X.K F (.tup zs) (.ref c) := fun {m zs c} h => by
        cases m with
        | fz => exact h
        | fr => obtain ⟨_, _, _, q⟩ := h; exact q.elim
        | bo => obtain ⟨_, _, _, q⟩ := h; exact q.elim
      refine .inr ⟨a, b, us, vs, rfl, rfl, q1, q2, by rw [r1.length, r2.length]; exact hz, fun z => ?_, fun _ z => ?_, fun _ _ p hp => ?_⟩
      · have : xs = [] := r1.nilIff.mp z
        subst this
        exact w (.ref b) F H (.refl s) (fz ey) (by intro z; cases z)
      · have : ys = [] := r2.nilIff.mp z
        subst this
        rw [List.append_nil] at w
        exact w (.ref a) F H (.refl s) (fz ex) (by intro z; cases z)
      · exact w (.ref p) _ _ (Step.laid (.tup (us ++ vs)) s hp) (RepV.tup_of (s.free hp) (r1.append r2)) (by intro z; cases z)
    · cases e
  · cases e
/-! ### in: a flat thing in a list or tuple of flat things -/
def flatD : D → Bool | .non | .bl _ | .int _ | .str _ => true | _ => false
def eqD : D → D → Bool
  | .non, .non => true
  | .bl a, .bl b => a == b
  | .bl a, .int b => (if a then 1 else 0) == b
  | .int a, .bl b => a == (if b then 1 else 0)
  | .int a, .int b => a == b
  | .str a, .str b => a == b
  | _, _ => false
def inSq (neg : Bool) : Md → D → Md → D → Option (Md × D) := fun _ x _ y => match y with
  | .lst ys => if (flatD x && ys.all flatD) = true then some (.fz, .bl (if neg then !(ys.any fun y => eqD y x) else (ys.any fun y => eqD y x))) else none
  | .tup ys => if (flatD x && ys.all flatD) = true then some (.fz, .bl (if neg then !(ys.any fun y => eqD y x) else (ys.any fun y => eqD y x))) else none
  | _ => none
def vOf : D → V | .non => .non | .bl b => .bl b | .int i => .int i | .str x => .str x | _ => .non
theorem rep_flat {K : PySem.W.Frag} {F H : Hp} {m : Md} {d : D} {v : V} (h : flatD d = true) (r : Rp K F H m d v) : v = vOf d := by
  cases d with
  | non => exact r.non
  | bl _ => exact r.bl
  | int _ => exact r.int
  | str _ => exact r.str.1
  | _ => cases h
theorem repL_flat {K : PySem.W.Frag} {F : Hp} : ∀ {ds : List D} {xs : List V}, ds.all flatD = true → RepL K F ds xs → xs = ds.map vOf
  | [], _, _, r => by simp only [RepL] at r; exact r
  | d :: ds, _, h, r => by
    simp only [RepL] at r
    obtain ⟨y, ys, rfl, r1, r2⟩ := r
    rw [List.all_cons, Bool.and_eq_true] at h
    rw [List.map_cons, rep_flat (H := F) (m := .fz) h.1 r1, repL_flat h.2 r2]
theorem flat_vOf {d : D} (h : flatD d = true) : flatV (vOf d) = true := by cases d <;> first | rfl | cases h
theorem eqV_vOf {x y : D} (hx : flatD x = true) (hy : flatD y = true) : eqV (vOf x) (vOf y) = eqD x y := by
  cases x <;> cases y <;> first | rfl | (cases hx; done) | (cases hy; done)
theorem any_vOf {x : D} (hx : flatD x = true) : ∀ {ds : List D}, ds.all flatD = true → inV (vOf x) (ds.map vOf) = ds.any fun y => eqD y x
  | [], _ => rfl
  | d :: ds, h => by
    rw [List.all_cons, Bool.and_eq_true] at h
    show (eqV (vOf d) (vOf x) || inV (vOf x) (ds.map vOf)) = (eqD d x || ds.any _)
    rw [eqV_vOf h.1 hx, any_vOf hx h.2]
theorem all_vOf : ∀ {ds : List D}, ds.all flatD = true → (ds.map vOf).all flatV = true
  | [], _ => rfl
  | d :: ds, h => by
    rw [List.all_cons, Bool.and_eq_true] at h
    rw [List.map_cons, List.all_cons, flat_vOf h.1, all_vOf h.2]; rfl
theorem opd_insq {neg : Bool} {f : Value → Value → Sem Value} (o : OpR X f (rIn X.K neg)) : OpD C X f (inSq neg) := by
  refine ⟨_, o, fun F H m x n y v u k d Q s rx ry e w => ?_⟩
  unfold inSq at e
  split at e
  · rename_i ys
    split at e
    · rename_i hf
      rw [Bool.and_eq_true] at hf
      cases e
      obtain ⟨b, vs, rfl, q2, r2⟩ := ry.seqL s
      have ev := rep_flat hf.1 rx
      have es := repL_flat hf.2 r2
      subst ev; subst es
      exact ⟨b, _, rfl, .inl q2, flat_vOf hf.1, all_vOf hf.2, by rw [any_vOf hf.1 hf.2]; exact w _ F H (.refl s) (rp_bl _) (by intro z; cases z)⟩
    · cases e
  · rename_i ys
    split at e
    · rename_i hf
      rw [Bool.and_eq_true] at hf
      cases e
      obtain ⟨b, vs, rfl, q2, r2⟩ := ry.seqT s
      have ev := rep_flat hf.1 rx
      have es := repL_flat hf.2 r2
      subst ev; subst es
      exact ⟨b, _, rfl, .inr q2, flat_vOf hf.1, all_vOf hf.2, by rw [any_vOf hf.1 hf.2]; exact w _ F H (.refl s) (rp_bl _) (by intro z; cases z)⟩
    · cases e
  · cases e
theorem isB_insq {neg : Bool} : IsB (inSq neg) := fun m x n y k d e => by
  unfold inSq at e
  split at e
  · split at e
    · cases e; exact ⟨_, rfl, rfl⟩
    · cases e
  · split at e
    · cases e; exact ⟨_, rfl, rfl⟩
    · cases e
  · cases e
/-! ### the types called: tuple, list, int, str; min, max of two -/
def tcTuple : List (Md × D) → Option (Md × D)
  | [(_, .lst ds)] => some (.fz, .tup ds)
  | [(.fz, .tup ds)] => some (.fz, .tup ds)
  | _ => none
def tcList : List (Md × D) → Option (Md × D)
  | [(_, .lst ds)] => some (.fr, .lst ds)
  | [(_, .tup ds)] => some (.fr, .lst ds)
  | _ => none
def tcInt : List (Md × D) → Option (Md × D)
  | [(_, .int i)] => some (.fz, .int i)
  | [(_, .bl b)] => some (.fz, .int (if b then 1 else 0))
  | _ => none
def small (i : Int) : Bool := decide (i.natAbs.log2 < 1920)
/-- the figures of a number -/
def numS (i : Int) : Str := Str.ofString (toString i)
def tcStr : List (Md × D) → Option (Md × D)
  | [(_, .int i)] => if small i = true then some (.fz, .str (numS i)) else none
  | _ => none
theorem calld_tuple : CallD X (.type "tuple") tcTuple := by
  refine ⟨_, call_tuple_of, fun F H xs vs k d Q s rx e w => ?_⟩
  unfold tcTuple at e
  split at e
  · rename_i m ds
    cases e
    obtain ⟨v, rfl, r⟩ := rx.one
    obtain ⟨a, xs, rfl, q, rl⟩ := r.seqL s
    exact ⟨a, xs, rfl, .inl ⟨q, fun l hl => w (.ref l) _ _ (Step.laid (.tup xs) s hl) (RepV.tup_of (s.free hl) rl) (by intro z; cases z)⟩⟩
  · rename_i ds
    cases e
    obtain ⟨v, rfl, r⟩ := rx.one
    have r0 := r
    obtain ⟨a, xs, rfl, q, rl⟩ := r.seqT s
    exact ⟨a, xs, rfl, .inr ⟨q, w (.ref a) F H (.refl s) r0 (by intro z; cases z)⟩⟩
  · cases e
theorem calld_list : CallD X (.type "list") tcList := by
  refine ⟨_, call_list_of, fun F H xs vs k d Q s rx e w => ?_⟩
  unfold tcList at e
  split at e
  · rename_i m ds
    cases e
    obtain ⟨v, rfl, r⟩ := rx.one
    obtain ⟨a, xs, rfl, q, rl⟩ := r.seqL s
    exact ⟨a, xs, rfl, .inl q, fun l hl => w (.ref l) F _ (Step.fresh _ s hl) ⟨l, rfl, s.free hl, xs, upd_same, rl⟩ fun _ a ea => by cases ea; exact hl⟩
  · rename_i m ds
    cases e
    obtain ⟨v, rfl, r⟩ := rx.one
    obtain ⟨a, xs, rfl, q, rl⟩ := r.seqT s
    exact ⟨a, xs, rfl, .inr q, fun l hl => w (.ref l) F _ (Step.fresh _ s hl) ⟨l, rfl, s.free hl, xs, upd_same, rl⟩ fun _ a ea => by cases ea; exact hl⟩
  · cases e
theorem calld_int : CallD X (.type "int") tcInt := by
  refine ⟨_, call_int1, fun F H xs vs k d Q s rx e w => ?_⟩
  unfold tcInt at e
  split at e
  · cases e
    obtain ⟨v, rfl, r⟩ := rx.one
    cases r.int
    exact .inl ⟨_, rfl, w _ F H (.refl s) (rp_int _) (by intro z; cases z)⟩
  · cases e
    obtain ⟨v, rfl, r⟩ := rx.one
    cases r.bl
    exact .inr ⟨_, rfl, w _ F H (.refl s) (rp_int _) (by intro z; cases z)⟩
  · cases e
end
end D3

namespace D3
open PySem PySem.Spec PyProof.Rows L2
theorem strOk_num (i : Int) : PyData.strOk (Str.ofString (toString i)) = true := by
  unfold PyData.strOk
  rw [Array.all_eq_true_iff_forall_mem]
  intro c hc
  have hc' : c ∈ (Str.ofString (toString i)).cps.toList := by rw [Array.mem_toList_iff]; exact hc
  have : ¬ (c ≠ 45 ∧ (c < 48 ∨ 57 < c)) := fun h => int_text_free' c h i hc'
  have hb : c < 58 := by omega
  simp
  omega
section
variable {X : Cx}
theorem calld_str : CallD X (.type "str") tcStr := by
  refine ⟨_, call_str_int, fun F H xs vs k d Q s rx e w => ?_⟩
  unfold tcStr at e
  split at e
  · rename_i m i
    split at e
    · rename_i hs
      cases e
      obtain ⟨v, rfl, r⟩ := rx.one
      cases r.int
      have hl : i.natAbs.log2 < 1920 := of_decide_eq_true hs
      have h1 : (numS i).length ≤ 1921 := int_text_len_1921 hl
      have hz : sizeLine = 16777216 := sizeLine_eq
      exact ⟨i, rfl, hl, w _ F H (.refl s) (rp_str ⟨by omega, strOk_num i⟩) (by intro z; cases z)⟩
    · cases e
  · cases e
end
/-! a type called -/
theorem pv_callTy {C : Cw} {X : Cx} {T : String} {φ} {x : Str} {e : Expr} {es : List Expr} {gs : Rho → ResL} {p pos : Pos} (o : CallD X (.type T) φ) (hg : Gl X x) (hm : X.mg x = none) (hv : bootBuiltins x = some (.type T)) (ha : PAv C X (e :: es) gs) (hn : x ≠ "__name__") (hdb : (x == ("__debug__" : Str)) = false)
    (hst : ∀ x ∈ e :: es, notStar x = true) : PV C X (.Call (.Name x p) (e :: es) [] pos) (fun ρ => callR φ (gs ρ)) := by
  obtain ⟨r, h1, h2⟩ := o
  exact PE.imp (pe_callTy h1 hg hm hv ha hn hdb (star_cons (hst e List.mem_cons_self)) (star_any _ _ fun y hy => hst y (List.mem_cons_of_mem _ hy))) fun σ H Q q => tG_call h2 q
end D3

namespace D3
open PySem PySem.Spec PyProof.Rows L2
/-! ### a list unpacked -/
section
variable {prog : Program} {w : World} {A : Around} {E : Value → Shared → Prop} {s : Shared}
theorem unpackItems_list {l : Addr} {items : Array Value} {Q : List Value → Shared → Prop} (hA : A.handled = none) (ht : s.heap.IsList l items)
    (h : ∀ h', Heap.ExtBut s.heap.objs.size s.heap h' → ∀ tk, Q items.toList { s with heap := h', toks := tk }) : wpAny (model prog w) A (unpackItems (.ref l) items.size none) Q E s := by
  unfold unpackItems notIterableAtAll
  refine wpAny_bind (wpAny_bind (wpAny_specialOf ht.typeIs PySem.F.slot_list_iter.lookup ?_))
  refine wpAny_pure ?_
  dsimp only
  rw [if_neg Bool.false_ne_true]
  refine wpAny_bind (wpAny_holding (wpAny_pyIter_list ht ?_))
  have hlt : l < s.heap.objs.size := by obtain ⟨o, e, _⟩ := ht; exact Heap.lt_size e
  have hne : l ≠ s.heap.objs.size := Nat.ne_of_lt hlt
  have keep : ∀ b o, s.heap.get? b = some o → (s.heap.push { cls := Value.type "list_iterator", data := Data.fields #[Value.ref l, Value.int 0 0] }).get? b = some o := fun b o q => Heap.get?_push_of_some _ q
  have ht' : (s.heap.push { cls := Value.type "list_iterator", data := Data.fields #[Value.ref l, Value.int 0 0] }).IsList l items := by
    obtain ⟨o, e, c⟩ := ht
    exact ⟨o, keep l o e, c⟩
  have hi' : (s.heap.push { cls := Value.type "list_iterator", data := Data.fields #[Value.ref l, Value.int 0 0] }).IsListIter s.heap.objs.size l 0 := ⟨_, Heap.get?_push_size _ rfl, rfl, rfl⟩
  refine wpAny_bind (wpAny_holding (PySem.W.kun_draw hne items.size 0 _ _ hi' ht' (by omega) fun h' hi hsb => ?_))
  have ei : List.take items.size (List.drop 0 items.toList) = items.toList := by rw [List.drop_zero]; exact List.take_of_length_le (by simp)
  rw [ei]
  rw [if_neg (by simp)]
  have hl2 : h'.IsList l items := by
    obtain ⟨o, e, c⟩ := ht'
    exact ⟨o, by rw [hsb.2 l hne]; exact e, c⟩
  rw [Nat.zero_add] at hi
  refine wpAny_bind (wpAny_holding ((Walks.list hA s.heap.objs.size l hne items).done _ _ _ ⟨hi, hl2⟩ fun h2 tk k2 => ?_))
  rw [if_neg (by simp)]
  refine wpAny_pure (h h2 (fun b o hb e => k2 b o (by simpa using hb) ?_) tk)
  show h'.get? b = some o
  rw [hsb.2 b hb]
  exact keep b o e
theorem assign_Tuple_list {env : Env} {elts : List Expr} {k : Nat} {pos : Pos} {l : Addr} {items : Array Value} {Q : Unit → Shared → Prop} (hA : A.handled = none) (ht : s.heap.IsList l items)
    (hn : (assignEach elts env).length = items.size) (hst : (assignEach elts env).findIdx? (·.1) = none)
    (h : ∀ h', Heap.ExtBut s.heap.objs.size s.heap h' → ∀ tk, wpAny (model prog w) A (assignInOrder ((assignEach elts env).map (·.2)) items.toList) Q E { s with heap := h', toks := tk }) :
    wpAny (model prog w) A (assign (.Tuple elts k pos) env (.ref l)) Q E s := by
  rw [assign_Tuple]
  refine wpAny_bind (wpAny_standAt ?_)
  unfold unpack
  rw [hst, hn]
  exact wpAny_bind (wpAny_holding (unpackItems_list hA ht h))
/-! ### a tuple cut whole is the tuple itself -/
theorem getItem_tuple_whole {t sl : Addr} {items : Array Value} {vl vu : Value} {lo hi : Option Int} {Q : Value → Shared → Prop} (ht : IsTup s.heap t items) (hs : s.heap.IsSliceOf sl vl vu .none) (pl : IsPart vl lo)
    (pu : IsPart vu hi) (h0 : HT.sIx items.size 0 lo = 0) (h1 : HT.sIx items.size items.size hi = items.size) (h : Q (.ref t) s) : wpAny (model prog w) A (getItem (.ref t) (.ref sl)) Q E s := by
  obtain ⟨os, hos, hcs, hds⟩ := id hs
  have tS : s.TypeIs (.ref sl) "slice" := ⟨os, hos, hcs⟩
  unfold getItem
  try with_reducible refine wpAny_holding ?_
  first | refine wpAny_bind (wpAny_pure ?_) | skip
  refine wpAny_bind (wpAny_sequenceKey ht.typeIs (by decide) (wpAny_bind (wpAny_callSpecial?_slot (name := Str.ofString "__getitem__") ht.typeIs PyProof.Rows.slot_tuple_getitem (wpAny_call_entry PyProof.Rows.slot_tuple_getitem ht.typeIs entry_tuple_getitem ?_ (args_tuple_getitem _ _)))))
  show wpAny _ _ (Builtin.Tuple.tupleItemsOf (.ref t) >>= _) _ _ s
  refine wpAny_bind (tupleItemsOf_ ht (wpAny_bind (wpAny_typeOf tS ?_)))
  rw [if_pos (by decide)]
  refine wpAny_bind (HT.sliceApplied_gen hs pl pu ?_)
  have yes : (((HT.sIx items.size 0 lo : Nat) : Int) == 0 && (1 : Int) == 1 && (HT.sIx items.size items.size hi - HT.sIx items.size 0 lo) == items.size) = true := by rw [h0, h1]; simp
  show wpAny _ _ (if (((HT.sIx items.size 0 lo : Nat) : Int) == 0 && (1 : Int) == 1 && (HT.sIx items.size items.size hi - HT.sIx items.size 0 lo) == items.size) = true then _ else _) _ _ s
  rw [if_pos yes]
  unfold Builtin.Tuple.tupleIsExact
  refine wpAny_bind (wpAny_bind (wpAny_typeOf ht.typeIs (wpAny_pure ?_)))
  rw [if_pos (by decide)]
  refine wpAny_bind (wpAny_rule ?_)
  first
    | exact wpAny_pure ⟨_, rfl, wpAny_pure h⟩
    | exact ⟨_, rfl, wpAny_pure h⟩
end
section
variable {X : Cx} {pos : Pos}
def rSlW (K : PySem.W.Frag) : V → Option Int → Option Int → Hp → VK → Prop := fun x lo hi H Q => ∃ a xs, x = .ref a ∧ SqT K H a xs ∧ (HT.sIx xs.length 0 lo = 0 ∧ HT.sIx xs.length xs.length hi = xs.length) ∧ Q x H
theorem sl_whole : SlR X (rSlW X.K) := by
  intro pins s σ H x v vl vu lo hi sl Q I rx hs pl pu h
  obtain ⟨a, xs, rfl, hx, hw, q⟩ := h
  cases rx
  obtain ⟨its, r, ht, hz⟩ := I.tuple hx
  have hlen : its.toArray.size = xs.length := by rw [List.size_toArray]; exact r.length.symm
  exact ⟨"tuple", _, PyProof.Rows.slot_tuple_getitem.lookup, ht.typeIs, getItem_tuple_whole ht hs pl pu (by rw [hlen]; exact hw.1) (by rw [hlen]; exact hw.2) ⟨.ref a, H, I, rfl, q⟩⟩
/-- (a, b, ..) = a tuple or a list of that length -/
def gSeq (K : PySem.W.Frag) (n : Nat) (t : TGs) : TG := fun v σ H Q => ∃ a xs, v = .ref a ∧ (SqT K H a xs ∨ SqL K H a xs) ∧ xs.length = n ∧ t xs σ H Q
theorem pg_seq {es : List Expr} {k : Nat} {t : TGs} {n : Nat} (hc : X.calm = true) (h : PGs X es t) (hn : (assignEach es X.env).length = n) (hst : (assignEach es X.env).findIdx? (·.1) = none) : PG X (.Tuple es k pos) (gSeq X.K n t) := by
  intro pins s σ H v u Q I r hw
  obtain ⟨a, xs, e1, hq, hl, hw⟩ := hw
  rcases hq with hq | hq
  · exact pg_tup hc h hn hst pins s σ H v u Q I r ⟨a, xs, e1, hq, hl, hw⟩
  · subst e1
    cases r
    obtain ⟨its, rv, ht, hz⟩ := I.list hq
    refine assign_Tuple_list (I.ok.hd hc) ht.isList (by simp [hn, ← hl, rv.length]) hst fun h' hx tk => ?_
    have I1 : Inv X pins σ H { s with heap := h', toks := tk } := I.kept (t' := tk) fun b o e => hx b o (Nat.ne_of_lt (Heap.lt_size e)) e
    exact h pins _ σ H xs _ Q I1 (by simpa using rv) hw
end
end D3

namespace D3
open PySem PySem.Spec PyProof.Rows L2
/-! ### targets: names, brackets of names -/
inductive Tg where
  | nm (i : Nat) | tp (ts : List Tg)
mutual
def setG : Tg → D → Rho → Option Rho
  | .nm i, d, ρ => some (ρ.set i (some (false, d)))
  | .tp ts, d, ρ => match d with
    | .tup ds => setGs ts ds ρ
    | .lst ds => setGs ts ds ρ
    | _ => none
def setGs : List Tg → List D → Rho → Option Rho
  | [], ds, ρ => if ds.isEmpty then some ρ else none
  | t :: ts, ds, ρ => match ds with
    | d :: ds => (match setG t d ρ with | some ρ1 => setGs ts ds ρ1 | none => none)
    | [] => none
end
mutual
def slotsG : Tg → List Nat
  | .nm i => [i]
  | .tp ts => slotsGs ts
def slotsGs : List Tg → List Nat
  | [] => []
  | t :: ts => slotsG t ++ slotsGs ts
end

mutual
def gOf (K : PySem.W.Frag) : Tg → TG
  | .nm i => gName i
  | .tp ts => gSeq K ts.length (gsOf K ts)
def gsOf (K : PySem.W.Frag) : List Tg → TGs
  | [] => gNil
  | t :: ts => gCons (gOf K t) (gsOf K ts)
end
def PGw (X : Cx) (tg : Expr) (t : Tg) : Prop := PG X tg (gOf X.K t)
def PGws (X : Cx) (tgs : List Expr) (ts : List Tg) : Prop := PGs X tgs (gsOf X.K ts)
def notStarT : Expr → Bool | .Starred .. => false | _ => true
theorem assignEach_cons {e : Expr} {es : List Expr} {env : Env} (h : notStarT e = true) : assignEach (e :: es) env = (false, assign e env) :: assignEach es env := by
  cases e <;> first | rfl | cases h
theorem setGs_len : ∀ {ts : List Tg} {ds : List D} {ρ ρ' : Rho}, setGs ts ds ρ = some ρ' → ds.length = ts.length
  | [], ds, ρ, ρ', e => by
    simp only [setGs] at e
    split at e
    · rename_i h; have : ds = [] := by simpa using h
      subst this; rfl
    · cases e
  | t :: ts, ds, ρ, ρ', e => by
    simp only [setGs] at e
    split at e
    · split at e
      · rw [List.length_cons, List.length_cons, setGs_len e]
      · cases e
    · cases e
mutual
theorem gOf_ok {K : PySem.W.Frag} {F0 H0 : Hp} : ∀ (t : Tg) {F H : Hp} {σ : L2.St} {ρ ρ' : Rho} {d : D} {v : V} {Q : L2.St → Hp → Prop}, RelSt K F0 H0 F H σ ρ → RepV K F d v → setG t d ρ = some ρ' →
    (∀ σ', RelSt K F0 H0 F H σ' ρ' → σ'.length = σ.length → (∀ j, j ∉ slotsG t → σ'[j]? = σ[j]?) → Q σ' H) → gOf K t v σ H Q
  | .nm i, F, H, σ, ρ, ρ', d, v, Q, R, r, e, w => by
    simp only [setG] at e
    cases e
    simp only [gOf]
    refine w _ (R.set (m := false) (.refl R.sub) r (by intro z; cases z)) (by rw [List.length_set]) fun j hj => ?_
    simp only [slotsG, List.mem_singleton] at hj
    rw [List.getElem?_set_ne (fun z => hj z.symm)]
  | .tp ts, F, H, σ, ρ, ρ', d, v, Q, R, r, e, w => by
    simp only [setG] at e
    split at e
    · rename_i ds
      simp only [RepV] at r
      obtain ⟨a, xs, rfl, hq, rl⟩ := r
      simp only [gOf]
      refine ⟨a, xs, rfl, .inl (Same.seqT R.sub hq), by rw [rl.length]; exact setGs_len e, gsOf_ok ts R rl e ?_⟩
      simp only [slotsG] at w
      exact w
    · rename_i ds
      simp only [RepV] at r
      obtain ⟨a, xs, rfl, hq, rl⟩ := r
      simp only [gOf]
      refine ⟨a, xs, rfl, .inr (R.sub.seq hq), by rw [rl.length]; exact setGs_len e, gsOf_ok ts R rl e ?_⟩
      simp only [slotsG] at w
      exact w
    · cases e
theorem gsOf_ok {K : PySem.W.Frag} {F0 H0 : Hp} : ∀ (ts : List Tg) {F H : Hp} {σ : L2.St} {ρ ρ' : Rho} {ds : List D} {vs : List V} {Q : L2.St → Hp → Prop}, RelSt K F0 H0 F H σ ρ → RepL K F ds vs → setGs ts ds ρ = some ρ' →
    (∀ σ', RelSt K F0 H0 F H σ' ρ' → σ'.length = σ.length → (∀ j, j ∉ slotsGs ts → σ'[j]? = σ[j]?) → Q σ' H) → gsOf K ts vs σ H Q
  | [], F, H, σ, ρ, ρ', ds, vs, Q, R, r, e, w => by
    simp only [setGs] at e
    split at e
    · cases e
      rename_i hd
      have : ds = [] := by simpa using hd
      subst this
      simp only [RepL] at r
      simp only [gsOf]
      exact ⟨r, w σ R rfl fun _ _ => rfl⟩
    · cases e
  | t :: ts, F, H, σ, ρ, ρ', ds, vs, Q, R, r, e, w => by
    simp only [setGs] at e
    split at e
    · rename_i d ds'
      split at e
      · rename_i ρ1 e1
        simp only [RepL] at r
        obtain ⟨y, ys, rfl, r1, r2⟩ := r
        simp only [gsOf]
        refine ⟨y, ys, rfl, gOf_ok t R r1 e1 fun σ1 R1 l1 k1 => gsOf_ok ts R1 r2 e fun σ2 R2 l2 k2 => w σ2 R2 (l2.trans l1) fun j hj => ?_⟩
        simp only [slotsGs, List.mem_append, not_or] at hj
        rw [k2 j hj.2, k1 j hj.1]
      · cases e
    · cases e
end
section
variable {C : Cw} {X : Cx} {pos : Pos}
theorem pgw_name {x : Str} {i : Nat} (hN : X.N.Nodup) (hi : X.N[i]? = some x) (hx : L2.Loc X.env.scope x) (hf : X.fn x = true ∨ X.env.scope.names.lookup x = some .local) : PGw X (.Name x pos) (.nm i) := by
  unfold PGw
  simp only [gOf]
  exact pg_name hN hi hx hf
theorem pgws_nil : PGws X [] [] := by unfold PGws; simp only [gsOf]; exact pgs_nil
theorem pgws_cons {e : Expr} {es : List Expr} {t : Tg} {ts : List Tg} (h1 : PGw X e t) (h2 : PGws X es ts) (hs : notStarT e = true) : PGws X (e :: es) (t :: ts) := by
  unfold PGws
  simp only [gsOf]
  exact pgs_cons h1 h2 (by rw [assignEach_cons hs]; rfl)
theorem star_none {es : List Expr} {env : Env} (hs : ∀ e ∈ es, notStarT e = true) : (assignEach es env).length = es.length ∧ (assignEach es env).findIdx? (·.1) = none := by
  induction es with
  | nil => exact ⟨rfl, rfl⟩
  | cons e es ih =>
    obtain ⟨h1, h2⟩ := ih fun x hx => hs x (List.mem_cons_of_mem _ hx)
    rw [assignEach_cons (hs e List.mem_cons_self)]
    refine ⟨by rw [List.length_cons, List.length_cons, h1], ?_⟩
    rw [List.findIdx?_cons]
    simp [h2]
theorem pgw_tup {es : List Expr} {ts : List Tg} {k : Nat} (hc : X.calm = true) (h : PGws X es ts) (hs : ∀ e ∈ es, notStarT e = true) (hl : es.length = ts.length) : PGw X (.Tuple es k pos) (.tp ts) := by
  have st := star_none (env := X.env) hs
  unfold PGw
  simp only [gOf]
  exact pg_seq (n := ts.length) hc h (by rw [st.1, hl]) st.2
theorem pgv_of {tg : Expr} {t : Tg} (h : PGw X tg t) : PGv C X tg (setG t) :=
  ⟨_, h, fun F H σ ρ ρ' d v Q R r e w => gOf_ok t R r e fun σ' R' _ _ => w σ' F H (Same.refl _) R'⟩
/-- a target given an expression's value -/
def asgS (t : Tg) (ρ : Rho) (r : Res) : SRes := (frzR r).thS ρ fun m d => match m with | .fz => (match setG t d ρ with | some ρ' => .nx ρ' | none => .stuck) | _ => .stuck
theorem psv_asg {tg e : Expr} {t : Tg} {g : Rho → Res} (he : PV C X e g) (hg : PGw X tg t) (hs : swapsWithSole [tg] e pos.line X.env = pure false) (hw : swappedStores [tg] e X.env = pure none) (hst : notStarT tg = true) : PSv C X (.Assign [tg] e pos) (fun ρ => asgS t ρ (g ρ)) := by
  refine PS.imp (ps_asg (pv_frz he) hg hs hw (by rw [assignEach_cons hst]; rfl)) fun En σ H qq => ?_
  obtain ⟨ρ, F, R, w⟩ := qq
  unfold asgS at w
  refine tG_thS R w fun m d v F' H' w' s R' rp fr => ?_
  cases m with
  | fr => exact (show False from w').elim
  | bo => exact (show False from w').elim
  | fz =>
  cases eg : setG t d ρ with
  | none => rw [eg] at w'; exact (show False from w').elim
  | some ρ' =>
    rw [eg] at w'
    have rv : RepV X.K F' d v := rp
    exact gOf_ok t R' rv eg fun σ' R'' _ _ => w' σ' F' H' (Same.refl _) R''
/-! ### while -/
/-! ### a, b = x, y -/
end
end D3

namespace D3
open PySem PySem.Spec PyProof.Rows L2
section
variable {C : Cw} {X : Cx} {e : Expr} {g : Rho → Res} {pos p : Pos}
theorem comp_tG {t : Tg} {tgN : List Str} {caps : List Nat} {gi gt ge : Rho → Res} (hsl : ∀ j ∈ slotsG t, caps.length ≤ j) {σ : L2.St} {H : Hp} {Q : VK} (q : tG (C.at X) (fun ρ => compR (gi ρ) ρ caps tgN.length (setG t) gt ge) σ H Q) :
    tComp caps tgN.length (tIv (C.at X) gi) (gOf X.K t) (tT (C.nox.at X) gt) (tG (C.nox.at X) fun ρ => frzR (ge ρ)) σ H Q := by
  rw [tG_eq] at q
  obtain ⟨ρ, F, RS, w⟩ := q
  unfold tComp
  refine ⟨ρ, F, RS, ?_⟩
  cases er : gi ρ with
  | stuck => rw [er] at w; exact w
  | exc c => rw [er] at w; exact w
  | ok m d =>
    rw [er] at w
    cases d with
    | lst ds =>
      unfold compR at w
      rw [Res.thn_ok] at w
      dsimp only at w
      split at w
      · rename_i hsz
        intro J F1 H1 s1 hJ Da hDa
        cases et : compL (setG t) gt ge (subR caps ρ ++ List.replicate tgN.length none) ds with
        | none => rw [et] at w; exact w.elim
        | some total =>
          rw [et] at w
          have hD0 : H Da = none := s1.same.free hDa
          have hF1 : F1 Da = none := s1.sub.free hDa
          have R0 := relSt_sub caps tgN.length RS
          refine ⟨fun i m ys H' => m = ds.length - i ∧ i ≤ ds.length ∧ H' Da = some (.lst ys) ∧ ∃ F' zs, Step F H F' H' ∧ Same F1 F' ∧ F' Da = none ∧ RepL X.K F' zs ys ∧ zs.length ≤ i ∧
            ∃ rest, compL (setG t) gt ge (subR caps ρ ++ List.replicate tgN.length none) (ds.drop i) = some rest ∧ total = zs ++ rest,
            ⟨ds.length, by simp, Nat.zero_le _, upd_same, F1, [], s1.upd hD0 hF1, Same.refl _, hF1, RepL.nil, Nat.le_refl _, total, by simpa using et, rfl⟩, ?_⟩
          rintro i m ys H' ⟨rfl, hile, hD, F', zs, st, sF, hFD, rz, hzl, rest, ec, etot⟩
          refine ⟨hD, ?_⟩
          by_cases hlt : i < ds.length
          · refine .inr ⟨hJ.go i H' (sF.trans st.sub) hlt, by rw [rz.length]; omega, fun v H2 y => ?_⟩
            obtain ⟨F2, d, ed, s2, rd⟩ := hJ.yld i F' H' v H2 sF st.sub hlt y
            have hd : ds.drop i = d :: ds.drop (i + 1) := by
              rw [List.drop_eq_getElem_cons hlt]
              rw [List.getElem?_eq_getElem hlt] at ed
              cases ed; rfl
            rw [hd] at ec
            unfold compL at ec
            have hD2 : H2 Da = some (.lst ys) := s2.same _ _ hD
            have hF2 : F2 Da = none := s2.new _ hFD (by rw [hD]; exact fun z => nomatch z)
            cases eg : setG t d (subR caps ρ ++ List.replicate tgN.length none) with
            | none => rw [eg] at ec; cases ec
            | some ρ1 =>
            rw [eg] at ec
            dsimp only at ec
            have R2 := (R0.step st).step s2
            refine gOf_ok t R2 rd eg fun σ1 R1 len1 keep1 => ?_
            refine ⟨⟨len1.symm, fun j u ej => ?_⟩, ρ1, F2, R1, ?_⟩
            · by_cases hj : j ∈ slotsG t
              · have := hsl j hj
                rw [List.getElem?_append_right (by simpa [subS] using this), List.getElem?_replicate] at ej
                split at ej <;> cases ej
              · rw [keep1 j hj]; exact ej
            cases ett : gt ρ1 with
            | stuck => rw [ett] at ec; cases ec
            | exc c => rw [ett] at ec; cases ec
            | ok mt dt =>
              cases dt with
              | bl b =>
                rw [ett] at ec
                intro F3 H3 s3
                have hD3 : H3 Da = some (.lst ys) := s3.same _ _ hD2
                have hF3 : F3 Da = none := s3.new _ hF2 (by rw [hD2]; exact fun z => nomatch z)
                cases b with
                | false =>
                  rw [if_neg Bool.false_ne_true]
                  exact ⟨ds.length - (i + 1), by omega, rfl, hlt, hD3, F3, zs, (st.trans s2).trans s3, (sF.trans s2.fsame).trans s3.fsame, hF3, rz.mono (s2.fsame.trans s3.fsame) _ _, Nat.le_succ_of_le hzl, rest, ec, etot⟩
                | true =>
                  rw [if_pos rfl, tG_eq]
                  refine ⟨_, F3, R1.step s3, ?_⟩
                  dsimp only at ec
                  cases ee : frzR (ge ρ1) with
                  | stuck => rw [ee] at ec; cases ec
                  | exc c => rw [ee] at ec; cases ec
                  | ok me ye =>
                    rw [ee] at ec
                    dsimp only at ec
                    have hme : me = .fz := by
                      cases h : ge ρ1 with
                      | ok m' d' => rw [h] at ee; cases m' <;> cases ee <;> rfl
                      | exc c => rw [h] at ee; cases ee
                      | stuck => rw [h] at ee; cases ee
                    subst hme
                    cases er2 : compL (setG t) gt ge (subR caps ρ ++ List.replicate tgN.length none) (ds.drop (i + 1)) with
                    | none => rw [er2] at ec; cases ec
                    | some rest' =>
                      rw [er2] at ec
                      cases ec
                      intro u F4 H4 s4 ru _
                      have hD4 : H4 Da = some (.lst ys) := s4.same _ _ hD3
                      have hF4 : F4 Da = none := s4.new _ hF3 (by rw [hD3]; exact fun z => nomatch z)
                      refine ⟨hD4, ds.length - (i + 1), by omega, rfl, hlt, upd_same, F4, zs ++ [ye], (((st.trans s2).trans s3).trans s4).upd hD0 hF4, ((sF.trans s2.fsame).trans s3.fsame).trans s4.fsame, hF4, ?_, by simp; omega, rest', er2, by rw [etot]; simp⟩
                      exact RepL.append (rz.mono ((s2.fsame.trans s3.fsame).trans s4.fsame) _ _) (RepL.cons ru RepL.nil)
              | _ => rw [ett] at ec; cases ec
          · have ei : i = ds.length := by omega
            subst ei
            rw [List.drop_length] at ec
            cases ec
            rw [List.append_nil] at etot
            subst etot
            exact .inl ⟨hJ.stop _ H' (sF.trans st.sub) (Nat.le_refl _), w (.ref Da) F' H' st ⟨Da, rfl, hFD, ys, hD, rz⟩ fun _ a ea => by cases ea; exact hD0⟩
      · exact w.elim
    | _ => exact w.elim
theorem pv_compT {iter elt tg : Expr} {t : Tg} {tgN : List Str} {ifs : List Expr} {scope : Scope} {caps : List Nat} {capN : List Str} {gi gt ge : Rho → Res}
    (hc : X.calm = true) (hi : PIv C X tg iter gi) (hcell : ∀ y ∈ scope.names, y.2 ≠ .cell) (hkind : scope.kind = .function) (hnames : ∀ y ∈ scope.names, y.2 = .local → scope.names.lookup y.1 = some .local)
    (hfree : ∀ y ∈ scope.names, y.2 = .free → X.env.kindOf y.1 = some .cell ∨ X.env.kindOf y.1 = some .free)
    (hcapN : capN.map some = caps.map fun i => X.N[i]?) (hcapF : ∀ y ∈ capN, (y, NameKind.free) ∈ scope.names)
    (hcapK : ∀ y ∈ capN, (relabel scope X.env).names.lookup y = some .cell ∨ (relabel scope X.env).names.lookup y = some .free)
    (hsl : ∀ j ∈ slotsG t, caps.length ≤ j) (hg : ∀ cl A fp s3 H3, PGw (compCx X scope (capN ++ tgN) cl A fp s3 H3) tg t)
    (hf : ∀ cl A fp s3 H3, PIfs (compCx X scope (capN ++ tgN) cl A fp s3 H3) ifs (tT (C.nox.at X) gt)) (he : ∀ cl A fp s3 H3, PV C.nox (compCx X scope (capN ++ tgN) cl A fp s3 H3) elt ge)
    (hs : ∀ x, foldedSetIterable iter X.env x = pure x := by intro _; rfl) :
    PV C X (.ListComp elt [⟨tg, iter, ifs, 0⟩] scope pos) (fun ρ => compR (gi ρ) ρ caps tgN.length (setG t) gt ge) := by
  have capLen : capN.length = caps.length := by simpa using congrArg List.length hcapN
  refine PE.imp (pe_comp (capN := capN) (tgN := tgN) (gt := gOf X.K t) (tt := tT (C.nox.at X) gt) (te := tG (C.nox.at X) fun ρ => frzR (ge ρ)) hc hi hcell hkind hnames hfree hcapN hcapF hcapK
    hg hf (fun cl A fp s3 H3 => pv_frz (he cl A fp s3 H3)) hs) fun σ H Q q => comp_tG hsl q
/-- x = [.. for ..] -/
theorem psv_setC (fz : Bool) {i : Nat} {x : Str} {pos' spos : Pos} {iter elt tg : Expr} {t : Tg} {tgN : List Str} {ifs : List Expr} {scope : Scope} {caps : List Nat} {capN : List Str} {gi gt ge : Rho → Res}
    (hc : X.calm = true) (hi : PIv C X tg iter gi) (hcell : ∀ y ∈ scope.names, y.2 ≠ .cell) (hkind : scope.kind = .function) (hnames : ∀ y ∈ scope.names, y.2 = .local → scope.names.lookup y.1 = some .local)
    (hfree : ∀ y ∈ scope.names, y.2 = .free → X.env.kindOf y.1 = some .cell ∨ X.env.kindOf y.1 = some .free)
    (hcapN : capN.map some = caps.map fun i => X.N[i]?) (hcapF : ∀ y ∈ capN, (y, NameKind.free) ∈ scope.names)
    (hcapK : ∀ y ∈ capN, (relabel scope X.env).names.lookup y = some .cell ∨ (relabel scope X.env).names.lookup y = some .free)
    (hsl : ∀ j ∈ slotsG t, caps.length ≤ j) (hg : ∀ cl A fp s3 H3, PGw (compCx X scope (capN ++ tgN) cl A fp s3 H3) tg t)
    (hf : ∀ cl A fp s3 H3, PIfs (compCx X scope (capN ++ tgN) cl A fp s3 H3) ifs (tT (C.nox.at X) gt)) (he : ∀ cl A fp s3 H3, PV C.nox (compCx X scope (capN ++ tgN) cl A fp s3 H3) elt ge)
    (hN : X.N.Nodup) (hx : X.N[i]? = some x) (hk : X.env.scope.names.lookup x = some .local) (hsw : swapsWith (.ListComp elt [⟨tg, iter, ifs, 0⟩] scope pos) (some (.Name x pos')) spos.line X.env = pure true)
    (hs : ∀ x, foldedSetIterable iter X.env x = pure x := by intro _; rfl) :
    PSv C X (.Assign [.Name x pos'] (.ListComp elt [⟨tg, iter, ifs, 0⟩] scope pos) spos) (fun ρ => setS ρ i (if fz = true then frzR (compR (gi ρ) ρ caps tgN.length (setG t) gt ge) else compR (gi ρ) ρ caps tgN.length (setG t) gt ge)) := by
  refine PS.imp (ps_compA (capN := capN) (tgN := tgN) (gt := gOf X.K t) (tt := tT (C.nox.at X) gt) (te := tG (C.nox.at X) fun ρ => frzR (ge ρ)) hc hi hcell hkind hnames hfree hcapN hcapF hcapK
    hg hf (fun cl A fp s3 H3 => pv_frz (he cl A fp s3 H3)) hN hx hk hsw hs) fun E σ H q => comp_tG hsl ?_
  cases fz with
  | false => exact set_tG q
  | true =>
    have q := set_tG q
    unfold tAsg at q
    rw [tG_eq] at q ⊢
    obtain ⟨ρ, F, R, w⟩ := q
    exact ⟨ρ, F, R, Want.frz w⟩
end
end D3

namespace D3
open PySem PySem.Spec PyProof.Rows L2
/-! ### a value within braces -/
def fmtD : D → Option Str
  | .str z => some z
  | .int i => if small i = true then some (numS i) else none
  | _ => none
def fmtR (r : Res) : Res := r.thn fun _ d => match fmtD d with | some z => .ok .fz (.str z) | none => .stuck
section
variable {C : Cw} {X : Cx} {e : Expr} {g : Rho → Res} {pos p : Pos}
theorem pv_fmt (he : PV C X e g) : PV C X (.FormattedValue e (-1) none pos) (fun ρ => fmtR (g ρ)) := by
  intro pins s σ H Q I q
  rw [tG_eq] at q
  obtain ⟨ρ, F, R, w⟩ := q
  refine FormattedValue_plain (thn (he pins s σ H (fun v H1 => ∃ F1 m d, Step F H F1 H1 ∧ Rp X.K F1 H1 m d v ∧ g ρ = .ok m d) I ?_) fun u s1 ⟨v, H1, I1, rv, F1, m, d, st1, rp, eg⟩ => ?_)
  · rw [tG_eq]
    refine ⟨ρ, F, R, ?_⟩
    cases er : g ρ with
    | stuck => rw [er] at w; exact w
    | exc c => rw [er] at w; exact w
    | ok m d => exact fun v F1 H1 s1 r1 _ => ⟨F1, m, d, s1, r1, rfl⟩
  · rw [eg] at w
    have w1 : Want (C.at X) F1 H1 σ (match fmtD d with | some z => .ok .fz (.str z) | none => .stuck) Q := Want.step st1 w
    cases d with
    | str z =>
      obtain ⟨rfl, hz, hk⟩ := rp.str
      obtain ⟨t, rfl⟩ := rv
      exact formatField_str (fun t' tk => ⟨.str z, H1, I1.tok _, ⟨_, rfl⟩, w1 _ F1 H1 (.refl st1.sub) (rp_str ⟨hz, hk⟩) (by intro z; cases z)⟩) hz
    | int i =>
      cases rp.int
      obtain ⟨t, rfl⟩ := rv
      unfold fmtD at w1
      dsimp only at w1
      split at w1
      · rename_i z hz
        split at hz
        · rename_i hs
          cases hz
          have hl : i.natAbs.log2 < 1920 := of_decide_eq_true hs
          have h1 : (numS i).length ≤ 1921 := int_text_len_1921 hl
          have hzz : sizeLine = 16777216 := sizeLine_eq
          exact formatField_int_small hl ⟨.str (numS i), H1, I1.tok _, ⟨_, rfl⟩, w1 _ F1 H1 (.refl st1.sub) (rp_str ⟨by omega, strOk_num i⟩) (by intro z; cases z)⟩
        · cases hz
      · exact w1.elim
    | _ => exact w1.elim
end
/-- the parts put together -/
def joinF (out : Str) : List (Rho → Res) → Rho → Res
  | [], _ => if out.length ≤ sizeLine then .ok .fz (.str out) else .stuck
  | g :: gs, ρ => (g ρ).thn fun _ d => match d with
    | .str y => if (out ++ y).length ≤ sizeLine then joinF (out ++ y) gs ρ else .stuck
    | _ => .stuck
inductive PVL (C : Cw) (X : Cx) : List Expr → List (Rho → Res) → Prop where
  | nil : PVL C X [] []
  | cons {e : Expr} {g : Rho → Res} {es : List Expr} {gs : List (Rho → Res)} (h : PV C X e g) (r : PVL C X es gs) : PVL C X (e :: es) (g :: gs)
theorem join_V {C : Cw} {X : Cx} : ∀ {es : List Expr} {gs : List (Rho → Res)}, PVL C X es gs → ∀ (out : Str) (pins : List (Addr × Obj)) (s : Shared) (σ : L2.St) (H F : Hp) (ρ : Rho) (Q : VK), PyData.strOk out = true → Inv X pins σ H s → RelSt X.K C.F0 C.H0 F H σ ρ → Want (C.at X) F H σ (joinF out gs ρ) Q →
    wpAny (model X.prog X.w) X.A (joinParts out (evalEach es X.env)) (EP X pins σ Q) X.xe s
  | _, _, .nil, out, pins, s, σ, H, F, ρ, Q, hk, I, R, w => by
    unfold joinF at w
    split at w
    · rename_i hl
      exact joinParts_nil ⟨.str out, H, I.tok _, ⟨_, rfl⟩, w _ F H (.refl R.sub) (rp_str ⟨hl, hk⟩) (by intro z; cases z)⟩ hl
    · exact w.elim
  | _, _, .cons (e := e) (g := g) (gs := gs) h r, out, pins, s, σ, H, F, ρ, Q, hk, I, R, w => by
    refine joinParts_cons (thn (h pins s σ H (fun v H1 => ∃ F1 m d, Step F H F1 H1 ∧ Rp X.K F1 H1 m d v ∧ g ρ = .ok m d) I ?_) fun u s1 ⟨v, H1, I1, rv, F1, m, d, st1, rp, eg⟩ => ?_)
    · rw [tG_eq]
      refine ⟨ρ, F, R, ?_⟩
      unfold joinF at w
      cases er : g ρ with
      | stuck => rw [er] at w; exact w
      | exc c => rw [er] at w; exact w
      | ok m d => exact fun v F1 H1 s1 r1 _ => ⟨F1, m, d, s1, r1, rfl⟩
    · unfold joinF at w
      rw [eg] at w
      cases d with
      | str y =>
        have w1 : Want (C.at X) F1 H1 σ (if (out ++ y).length ≤ sizeLine then joinF (out ++ y) gs ρ else .stuck) Q := Want.step st1 w
        split at w1
        · rename_i hl
          obtain ⟨rfl, hz, hy⟩ := rp.str
          obtain ⟨t, rfl⟩ := rv
          exact ⟨hl, join_V r (out ++ y) pins s1 σ H1 F1 ρ Q (strOk_append hk hy) I1 (R.step st1) w1⟩
        · exact w1.elim
      | _ => exact (show False from w).elim
theorem pv_fstr {C : Cw} {X : Cx} {e1 e2 : Expr} {es : List Expr} {gs : List (Rho → Res)} {pos : Pos} (h : PVL C X (e1 :: e2 :: es) gs) : PV C X (.JoinedStr (e1 :: e2 :: es) pos) (joinF Str.empty gs) := by
  intro pins s σ H Q I q
  rw [tG_eq] at q
  obtain ⟨ρ, F, R, w⟩ := q
  exact JoinedStr_many (join_V h Str.empty pins s σ H F ρ Q (by decide +kernel) I R w)
end D3

namespace D3
open PySem PySem.Spec PyProof.Rows L2
/-! ### < of tuples -/
section
open PySem.SeqAt
open PySem.AutoSeq1 (wpAny_loadPart')
open PySem.MeetsSeq PySem.MeetsSeq2 PySem.MeetsSeq3
end
section
variable {prog : Program} {w : World} {A : Around} {E : Value → Shared → Prop} {s : Shared}
end
end D3

namespace D3
open PySem PySem.Spec PyProof.Rows L2
section
variable {C : Cw} {X : Cx}
/-! ### < of texts, of tuples of flat things -/
/-! ### int of a text -/
def tcInt2 : List (Md × D) → Option (Md × D) := fun xs => match xs with
  | [(_, .str z)] => if z.length ≤ 640 then (PySem.intText? z).map fun n => (.fz, .int n) else none
  | _ => tcInt xs
theorem calld_int2 : CallD X (.type "int") tcInt2 := by
  obtain ⟨r, h1, h2⟩ := calld_int (X := X)
  refine ⟨fun xs H Q => r xs H Q ∨ ∃ z n, xs = [.str z] ∧ z.length ≤ 640 ∧ PySem.intText? z = some n ∧ Q (.int n) H, ?_, fun F H xs vs k d Q s rx e w => ?_⟩
  · intro pins s σ H xs us Q I rr h
    rcases h with h | ⟨z, n, rfl, hl, hn, q⟩
    · exact h1 pins s σ H xs us Q I rr h
    · obtain ⟨u, rfl, t, rfl⟩ := vals1 rr
      exact PySem.W.KIN.call_text hn hl ⟨.int n, H, I.tok _, ⟨_, rfl⟩, q⟩
  · unfold tcInt2 at e
    split at e
    · rename_i m z
      split at e
      · rename_i hl
        cases en : PySem.intText? z with
        | none => rw [en] at e; cases e
        | some n =>
          rw [en] at e
          cases e
          obtain ⟨v, rfl, r0⟩ := rx.one
          obtain ⟨rfl, _⟩ := r0.str
          exact .inr ⟨z, n, rfl, hl, en, w _ F H (.refl s) (rp_int _) (by intro z; cases z)⟩
      · cases e
    · exact .inl (h2 F H xs vs k d Q s rx e w)
/-! ### a text no times -/
end
end D3

namespace D3
open PySem PySem.Spec PyProof.Rows L2
section
open PySem.SeqAt
open PySem.AutoSeq1 (wpAny_loadPart')
open PySem.MeetsSeq PySem.MeetsSeq2 PySem.MeetsSeq3
variable {prog : Program} {w : World} {A : Around} {E : Value → Shared → Prop} {s : Shared}
/-- the next item of a tuple's iterator, asked from within a type of the kit -/
theorem nextT_item {it t : Addr} {i : Nat} {xs : Array Value} {x : Value} {Q : Value → Shared → Prop} (hi : s.heap.IsTupleIter it t i) (ht : IsTup s.heap t xs) (hx : xs[i]? = some x)
    (q : ∀ h', h'.IsTupleIter it t (i + 1) → Heap.SameBut it s.heap h' → Q x { s with heap := h' }) : wpAny (model prog w) A (Builtin.SmallTypes.nextOf (.ref it)) Q E s := by
  have ty := hi.typeIs
  obtain ⟨o, ho, hc, hd⟩ := hi
  obtain ⟨p, hp, _, n, hs⟩ := ht
  delta Builtin.SmallTypes.nextOf
  apply wpAny_bind
  apply wpAny_callSpecial?_slot (name := Str.ofString "__next__") ty F.slot_tuple_iterator_next
  refine wpAny_call_entry F.slot_tuple_iterator_next ty F.entry_tuple_iterator_next ?w (F.args_tuple_iterator_next_1 _)
  case w =>
    refine wpAny_bind (m := field (.ref it) 0) (wpAny_field ho hd (x := .ref t) rfl ?_)
    rw [show (Value.ref t == Value.none) = false from rfl, if_neg Bool.false_ne_true]
    refine wpAny_bind (m := field (.ref it) 1) (wpAny_field ho hd (x := .int i 0) rfl ?_)
    apply wpAny_bind
    apply wpAny_seqItems hp hs
    rw [Int.toNat_natCast]
    simp only [hx]
    apply wpAny_bind
    apply wpAny_setField ho hd (by simp)
    refine wpAny_pure ⟨x, rfl, wpAny_pure (q _ ⟨_, Heap.get?_update_self _ ho (Obj.isFreed_of_fields (Obj.data_mapFields hd _)), ?_, ?_⟩ (Heap.SameBut.update ..))⟩
    · rw [Obj.cls_mapFields, hc]
    · rw [Obj.data_mapFields hd]; simp [rawInt]
/-- no next item -/
theorem nextT_end {it t : Addr} {i : Nat} {xs : Array Value} {Q : Value → Shared → Prop} (h0 : A.handled = none) (hi : s.heap.IsTupleIter it t i) (ht : IsTup s.heap t xs) (hx : xs[i]? = none)
    (q : ∀ h' e, Heap.ExtBut it s.heap h' → (∃ o, h'.get? e = some o ∧ o.cls = .type "StopIteration") → E (.ref e) { s with heap := h' }) : wpAny (model prog w) A (Builtin.SmallTypes.nextOf (.ref it)) Q E s := by
  have ty := hi.typeIs
  obtain ⟨o, ho, hc, hd⟩ := hi
  obtain ⟨p, hp, _, n, hs⟩ := ht
  delta Builtin.SmallTypes.nextOf
  apply wpAny_bind
  apply wpAny_callSpecial?_slot (name := Str.ofString "__next__") ty F.slot_tuple_iterator_next
  refine wpAny_call_entry F.slot_tuple_iterator_next ty F.entry_tuple_iterator_next ?w (F.args_tuple_iterator_next_1 _)
  case w =>
    refine wpAny_bind (m := field (.ref it) 0) (wpAny_field ho hd (x := .ref t) rfl ?_)
    rw [show (Value.ref t == Value.none) = false from rfl, if_neg Bool.false_ne_true]
    refine wpAny_bind (m := field (.ref it) 1) (wpAny_field ho hd (x := .int i 0) rfl ?_)
    apply wpAny_bind
    apply wpAny_seqItems hp hs
    rw [Int.toNat_natCast]
    simp only [hx]
    apply wpAny_bind
    apply wpAny_rule
    apply wpAny_bind
    apply wpAny_setField ho hd (by simp)
    refine wpAny_bind (m := newExc (.type "StopIteration") []) ?_
    simp only [newExc, newTuple]
    apply wpAny_bind
    refine wpAny_newObj_type ?_ (by size_fits)
    apply wpAny_bind (m := firstArgMember _ _)
    refine wpAny_of_eq (a := .none) ?_ ?_
    · first | rfl | (unfold firstArgMember; rfl)
    refine wpAny_newObj_type (hd := by size_fits) ?_
    simp only [raiseNew]
    apply wpAny_bind
    apply wpAny_handled
    first | rw [show A.in1.handled = none from h0] | rw [h0]
    refine wpAny_throw ?_
    exact q _ _ ((Heap.SameBut.extBut (Heap.SameBut.update ..)).push _ |>.push _) ⟨_, Heap.get?_push_size _ rfl, rfl⟩
theorem tup_at {h h' : Heap} {a : Addr} {xs : Array Value} (x : IsTup h a xs) (k : ∀ o, h.get? a = some o → h'.get? a = some o) : IsTup h' a xs := by
  obtain ⟨o, ho, r⟩ := x
  exact ⟨o, k o ho, r⟩
/-! ### zip called -/
end
end D3

namespace D3
open PySem PySem.Spec PyProof.Rows L2
section
variable {X : Cx} {pins : List (Addr × Obj)} {σ : L2.St} {H : Hp} {s : Shared} {h' : Heap}
/-- records of ours have turned, a tuple has been laid -/
theorem inv_pair {t' : Nat} {its : List Addr} {n : Addr} {xs : List V} (I : Inv X pins σ H s) (k : ∀ b o, b ∉ its → s.heap.get? b = some o → h'.get? b = some o) (hf : ∀ b ∈ its, FpOk X pins H b)
    (hn : s.heap.objs.size ≤ n) (new : ∃ us, Vals xs us ∧ PlainTp h' n us.toArray) (hz : xs.length ≤ sizeLine) : Inv X pins σ (upd H n (.tup xs)) { s with heap := h', toks := t' } := by
  have fr : H n = none := I.hok.fresh hn
  have lt : ∀ {b o}, s.heap.get? b = some o → b ≠ n := fun e z => absurd (Heap.lt_size e) (by rw [z]; exact Nat.not_lt.mpr hn)
  have nb : ∀ {b u}, H b = some u → b ≠ n := fun e z => by rw [z, fr] at e; cases e
  have ni : ∀ {b u}, H b = some u → b ∉ its := fun e z => by rw [(hf _ z).1] at e; cases e
  refine I.call (g' := s.gens) (d' := s.drawn) (ch := its) ⟨fun b o e _ _ hx => k b o hx e, fun b o e _ _ hx => ⟨o.slots, k b o hx e⟩, fun b o e h0 _ => by rw [upd_ne (lt e)]; exact h0, fun b o e hx => ⟨o, k b o hx e⟩,
    fun b u e => by rw [upd_ne (nb e)]; exact e, fun b u v e => by rw [upd_ne (nb e)]; exact e, fun b u e => ⟨#[], by rw [upd_ne (nb e), e]; simp⟩⟩ (fun b u e => ?_) I.bare fun b hb => ?_
  · by_cases hb : b = n
    · subst hb
      rw [upd_same] at e
      cases e
      exact ⟨hz, new⟩
    · rw [upd_ne hb] at e
      refine (I.hok b u e).stay (fun c v hc q => k c v ?_ q) (fun c q => ?_) fun c v q => ?_
      · rcases hc with z | z
        · rw [z]; exact ni e
        · exact ni z
      · rw [upd_ne (nb q)]; exact q
      · rw [upd_ne (nb q)]; exact q
  · obtain ⟨f0, f1, f2, f3, f4, f5⟩ := hf b hb
    exact ⟨f3, f1, f4, f5⟩
theorem inv_turned {t' : Nat} {its : List Addr} (I : Inv X pins σ H s) (k : ∀ b o, b ∉ its → s.heap.get? b = some o → h'.get? b = some o) (hf : ∀ b ∈ its, FpOk X pins H b) : Inv X pins σ H { s with heap := h', toks := t' } := by
  have ni : ∀ {b u}, H b = some u → b ∉ its := fun e z => by rw [(hf _ z).1] at e; cases e
  refine I.call (g' := s.gens) (d' := s.drawn) (ch := its) ⟨fun b o e _ _ hx => k b o hx e, fun b o e _ _ hx => ⟨o.slots, k b o hx e⟩, fun b o e h0 _ => h0, fun b o e hx => ⟨o, k b o hx e⟩,
    fun b u e => e, fun b u v e => e, fun b u e => ⟨#[], by rw [e]; simp⟩⟩ (fun b u e => ?_) I.bare fun b hb => ?_
  · refine (I.hok b u e).stay (fun c v hc q => k c v ?_ q) (fun _ q => q) fun _ _ q => q
    rcases hc with z | z
    · rw [z]; exact ni e
    · exact ni z
  · obtain ⟨f0, f1, f2, f3, f4, f5⟩ := hf b hb
    exact ⟨f3, f1, f4, f5⟩
end
end D3

namespace D3
open PySem PySem.Spec PyProof.Rows L2
section
variable {C : Cw} {X : Cx} {tg e : Expr} {g : Rho → Res} {gs : Rho → ResL} {pos p : Pos}
end
end D3

namespace D3
open PySem PySem.Spec PyProof.Rows L2
open PySem.AutoSeq1 (wpAny_loadPart')
/-! ### enumerate of a list, of a tuple -/
theorem draws_tuple {prog : Program} {w : World} {A : Around} (hh : A.handled = none) (it t : Addr) (hne : t ≠ it) (items : Array Value) :
    Draws prog w A it [it, t] items.size (fun i v => items[i]? = some v) (fun i h => h.IsTupleIter it t i ∧ IsTup h t items) where
  live := fun _ _ st => let ⟨o, ho, _⟩ := st.1; ⟨o, ho⟩
  frame := fun _ _ _ st hk => ⟨st.1.at fun o e => hk it (by simp) o e, tup_at st.2 fun o e => hk t (by simp) o e⟩
  item := fun i s Q E hi st hQ => by
    refine nextT_item st.1 st.2 (x := items[i]) (by simp [hi]) fun h' hit' hs' => ?_
    exact hQ _ h' s.toks (by simp [hi]) ⟨hit', tup_at st.2 fun o e => hs'.extBut _ o hne e⟩ hs'
  done := fun s Q E st hE => nextT_end hh st.1 st.2 (by simp) hE
theorem meets_enumT (l : Addr) (items : Array Value) :
    Meets (Builtin.«enumerate.__new__» ⟨[.type "enumerate", .ref l], []⟩) (fun _ R s => s.heap.IsTuple l items ∧
      R (.ok (.ret (.ref (s.heap.push { cls := .type "tuple_iterator", data := .fields #[.ref l, .int 0 0] }).objs.size)))
        { s with heap := (s.heap.push { cls := .type "tuple_iterator", data := .fields #[.ref l, .int 0 0] }).push { cls := .type "enumerate", data := .fields #[.none, .bool false, .ref s.heap.objs.size, rawInt 0, .none, .none] } }) :=
  .of_wp fun prog w A R s h => by
    obtain ⟨hp, g, d, tk, os⟩ := s; obtain ⟨hL, h⟩ := h
    have hsub := sub_enumerate
    have hL : Heap.IsTuple (Shared.heap ⟨hp, g, d, tk, os⟩) l items := hL
    obtain ⟨o, ho, hc, n, hd⟩ := id hL
    wp_walk using wpAny_loadPart' ho
    refine wpAny_stack_any fun st => wpAny_pure ?_
    split
    · rename_i c _ _ _ _ _
      cases (c == Value.type "enumerate")
      · wp_walk using wpAny_loadPart' ho, wpAny_pyIter_tuple hL
        exact ⟨_, rfl, h⟩
      · wp_walk using wpAny_loadPart' ho, wpAny_pyIter_tuple hL
        exact ⟨_, rfl, h⟩
    · wp_walk using wpAny_loadPart' ho, wpAny_pyIter_tuple hL
      exact ⟨_, rfl, h⟩
section
variable {prog : Program} {w : World} {A : Around} {E : Value → Shared → Prop} {s : Shared}
theorem call_enumT {a : Addr} {us : Array Value} {Q : Value → Shared → Prop} (ha : s.heap.IsTuple a us)
    (q : ∀ g, IsEnum g (s.heap.objs.size + 1) s.heap.objs.size 0 .none → g.IsTupleIter s.heap.objs.size a 0 → (∀ c u, s.heap.get? c = some u → g.get? c = some u) → Q (.ref (s.heap.objs.size + 1)) { s with heap := g }) :
    wpAny (model prog w) A (call (.type "enumerate") [.ref a]) Q E s := by
  let i0 : Obj := { cls := .type "tuple_iterator", data := .fields #[.ref a, .int 0 0] }
  let e0 : Obj := { cls := .type "enumerate", data := .fields #[.none, .bool false, .ref s.heap.objs.size, rawInt 0, .none, .none] }
  have z1 : (s.heap.push i0).objs.size = s.heap.objs.size + 1 := Heap.size_push ..
  have g1 : ((s.heap.push i0).push e0).get? (s.heap.objs.size + 1) = some e0 := by rw [← z1]; exact Heap.get?_push_size _ rfl
  have g0 : ((s.heap.push i0).push e0).get? s.heap.objs.size = some i0 := Heap.get?_push_of_some _ (Heap.get?_push_size _ rfl)
  have up : ∀ c u, s.heap.get? c = some u → ((s.heap.push i0).push e0).get? c = some u := fun c u z => Heap.get?_push_of_some _ (Heap.get?_push_of_some _ z)
  have fin : (∃ o, ((s.heap.push i0).push e0).get? (s.heap.objs.size + 1) = some o ∧ o.cls = .type "enumerate") ∧ Q (.ref (s.heap.objs.size + 1)) { s with heap := (s.heap.push i0).push e0 } := ⟨⟨e0, g1, rfl⟩, q _ g1 ⟨i0, g0, rfl, rfl⟩ up⟩
  rw [← z1] at fin
  exact callType_new F.called_enumerate (by decide) (F.typeCall_enumerate_1 _) (F.newCall_enumerate_1 _) (fun o => F.args_object_init_2 o _) F.entry_enumerate_new (meets_enumT a us) ⟨ha, fin⟩
end
/-- pairs of a place and an item, each a new tuple; Sq: how the items lie -/
def Ite (Sq : Hp → List V → Prop) : It :=
  ⟨fun i H => ∃ xs x, Sq H xs ∧ xs[i]? = some x,
   fun i H v H' => ∃ p x, v = .ref p ∧ H p = none ∧ H' = upd H p (.tup [.int i, x]) ∧ ∀ xs, Sq H xs → xs[i]? = some x,
   fun i H => ∃ xs, Sq H xs ∧ xs.length ≤ i⟩
section
variable {P : Program} {w : World} {K : PySem.W.Frag} {elts : List Expr} {cx : Nat} {pos : Pos}
/-- one turn of enumerate, by what the iterator within draws -/
theorem turn_enumG {Sq : Hp → List V → Prop} (e it l : Addr) (hei : e ≠ it) (hel : e ≠ l) (hli : l ≠ it) (It' : Nat → Heap → Prop) (At : Heap → Array Value → Prop)
    (live : ∀ i h, It' i h → ∃ o, h.get? it = some o ∧ ∀ v, o.data ≠ .cell v) (keep : ∀ i h h', It' i h → (∀ o, h.get? it = some o → h'.get? it = some o) → It' i h')
    (dr : ∀ A : Around, A.handled = none → ∀ items : Array Value, Draws P w A it [it, l] items.size (fun i v => items[i]? = some v) (fun i h => It' i h ∧ At h items))
    (dn : ∀ (A : Around) (s : Shared) (items : Array Value) (k : Nat) (Q E : Value → Shared → Prop), A.handled = none → It' k s.heap → At s.heap items → items[k]? = none →
      (∀ h' x, Heap.ExtBut it s.heap h' → (∃ o, h'.get? x = some o ∧ o.cls = .type "StopIteration") → E (.ref x) { s with heap := h' }) → wpAny (model P w) A (Builtin.SmallTypes.nextOf (.ref it)) Q E s)
    (look : ∀ (X : Cx) (pins : List (Addr × Obj)) (s : Shared) (σ : L2.St) (H : Hp) (xs : List V), X.prog = P → X.w = w → X.K = K → Inv X pins σ H s → Sq H xs → ∃ us, Vals xs us ∧ At s.heap us.toArray)
    (inj : ∀ (X : Cx) (pins : List (Addr × Obj)) (s : Shared) (σ : L2.St) (H : Hp) (xs ys : List V), X.prog = P → X.w = w → X.K = K → Inv X pins σ H s → Sq H xs → Sq H ys → ys = xs) :
    Turn P w K (.Tuple elts cx pos) (Ite Sq) [e, it] e (fun k h => (∃ old, IsEnum h e it k old) ∧ It' k h) where
  mem := by simp
  obj := fun k h st b hb => by
    obtain ⟨⟨old, he⟩, hi⟩ := st
    simp only [List.mem_cons, List.mem_nil_iff, or_false] at hb
    rcases hb with rfl | rfl
    · exact ⟨_, he, fun v e => by cases e⟩
    · obtain ⟨o, e, d⟩ := live k h hi
      exact ⟨o, e, d⟩
  keep := fun k h h' st q => by
    obtain ⟨⟨old, he⟩, hi⟩ := st
    exact ⟨⟨old, q e (by simp) _ he⟩, keep k h h' hi fun o e => q it (by simp) o e⟩
  item := by
    intro X hP hw hK hc k pins s σ H E I hf st hg
    obtain ⟨⟨old, he⟩, hi⟩ := st
    obtain ⟨xs, x, ql, hx⟩ := hg
    obtain ⟨us, r1, p1⟩ := look X pins s σ H xs hP hw hK I ql
    obtain ⟨u, hu, ru⟩ := r1.get hx
    have hlt : k < us.toArray.size := by
      rw [List.size_toArray]
      exact (List.getElem?_eq_some_iff.mp hu).1
    refine wpAny_pyNext_enum_itemD (dr X.A.in1 (I.ok.hd hc) us.toArray) he ⟨hi, p1⟩ hlt hei (by simp [hei, hel]) fun x' h' tk hx' a1 a2 a3 a4 a5 => ?_
    have : x' = u := by
      rw [List.getElem?_toArray] at hx'
      rw [hu] at hx'
      exact (Option.some.inj hx').symm
    subst this
    refine ⟨_, rfl, wpAny_letOwnedTupleGo_enum (s := { s with heap := h', toks := tk + 1 }) a1 fun h2 b1 b2 => ?_⟩
    have en : s.heap.objs.size ≠ e := fun q => absurd (Heap.lt_size he) (by rw [← q]; exact Nat.lt_irrefl _)
    have up : ∀ b o, b ∉ [e, it] → s.heap.get? b = some o → h2.get? b = some o := fun b o hb z => by
      simp only [List.mem_cons, List.mem_nil_iff, or_false, not_or] at hb
      exact b2.extBut _ _ hb.1 (a5 b o hb.1 hb.2 z)
    have I2 := inv_pair (t' := tk + 1) (xs := [.int k, x]) I up hf (Nat.le_refl _) ⟨[.int k tk, x'], .cons ⟨tk, rfl⟩ (.cons ru .nil), ⟨_, b2.extBut _ _ en a3, rfl, rfl, _, rfl⟩⟩ (show 2 ≤ sizeLine by decide +kernel)
    refine ⟨.ref s.heap.objs.size, _, I2, rfl, ⟨_, x, rfl, I.hok.fresh (Nat.le_refl _), rfl, fun zs q => by rw [inj X pins s σ H xs zs hP hw hK I ql q]; exact hx⟩, ?_, fun b hb => ?_⟩
    · have ek : ((k : Int) + 1) = ((k + 1 : Nat) : Int) := by omega
      rw [ek] at b1
      exact ⟨⟨x', b1⟩, keep _ _ _ a2.1 fun o z => b2.extBut _ o hei.symm z⟩
    · have hb0 := hb
      obtain ⟨o, z⟩ : ∃ o, s.heap.get? b = some o := by
        simp only [List.mem_cons, List.mem_nil_iff, or_false] at hb
        rcases hb with rfl | rfl
        · exact ⟨_, he⟩
        · obtain ⟨o, z, _⟩ := live _ _ hi; exact ⟨o, z⟩
      rw [upd_ne fun q => absurd (Heap.lt_size z) (by rw [q]; exact Nat.lt_irrefl _)]
      exact (hf b hb0).1
  done := by
    intro X hP hw hK hc k pins s σ H E I hf st hg
    obtain ⟨⟨old, he⟩, hi⟩ := st
    obtain ⟨xs, ql, hn⟩ := hg
    obtain ⟨us, r1, p1⟩ := look X pins s σ H xs hP hw hK I ql
    have e1 := r1.length
    have te : s.TypeIs (.ref e) "enumerate" := ⟨_, he, rfl⟩
    delta pyNext
    apply wpAny_bind
    apply wpAny_attempt
    apply wpAny_callSpecial?_slot (name := Str.ofString "__next__") te F.slot_enumerate_next
    refine wpAny_call_entry F.slot_enumerate_next te F.entry_enumerate_next ?nx (F.args_enumerate_next_1 _)
    refine wpAny_bind (m := field (.ref e) 2) (wpAny_field he rfl (x := .ref it) rfl ?_)
    refine wpAny_bind (dn X.A.in1 s us.toArray k _ _ (I.ok.hd hc) hi p1 (by simp; omega) fun h' x he' hx' => ?_)
    obtain ⟨o, ho, hc'⟩ := hx'
    refine wpAny_bind (wpAny_isInstance (T := "StopIteration") (b := true) ⟨o, ho, hc'⟩ isSubtype_stop ?_)
    refine wpAny_pure ⟨rfl, inv_turned (t' := s.toks) I (fun b o hb z => he' b o (by
      simp only [List.mem_cons, List.mem_nil_iff, or_false, not_or] at hb
      exact hb.2) z) hf⟩
  self := fun _ _ _ _ _ st h => by
    obtain ⟨⟨old, he⟩, _⟩ := st
    exact wpAny_pyIter_enum he h
theorem turn_enumL (e it l : Addr) (hei : e ≠ it) (hel : e ≠ l) (hli : l ≠ it) : Turn P w K (.Tuple elts cx pos) (Ite fun H => SqL K H l) [e, it] e (fun k h => (∃ old, IsEnum h e it k old) ∧ h.IsListIter it l k) :=
  turn_enumG e it l hei hel hli (fun k h => h.IsListIter it l k) (fun h xs => h.IsList l xs) (fun i h st => by
      obtain ⟨o, e, _, d⟩ := st
      exact ⟨o, e, fun v q => by rw [d] at q; cases q⟩) (fun i h h' st k => st.at k) (fun A hA items => Draws.list hA it l hli items)
    (fun A s items k Q E hA st ha hx q => wpAny_nextOf_list_end hA st ha hx q)
    (fun X pins s σ H xs hP hw hK I q => by
      subst hK
      obtain ⟨us, r, p, _⟩ := I.list q
      exact ⟨us, r, p.isList⟩)
    (fun X pins s σ H xs ys hP hw hK I q q' => by subst hK; exact I.list_inj q' q)
theorem turn_enumT (e it l : Addr) (hei : e ≠ it) (hel : e ≠ l) (hli : l ≠ it) : Turn P w K (.Tuple elts cx pos) (Ite fun H => SqT K H l) [e, it] e (fun k h => (∃ old, IsEnum h e it k old) ∧ h.IsTupleIter it l k) :=
  turn_enumG e it l hei hel hli (fun k h => h.IsTupleIter it l k) (fun h xs => IsTup h l xs) (fun i h st => by
      obtain ⟨o, e, _, d⟩ := st
      exact ⟨o, e, fun v q => by rw [d] at q; cases q⟩) (fun i h h' st k => st.at k) (fun A hA items => draws_tuple hA it l hli items)
    (fun A s items k Q E hA st ha hx q => nextT_end hA st ha hx q)
    (fun X pins s σ H xs hP hw hK I q => by
      subst hK
      obtain ⟨us, r, p, _⟩ := I.tuple q
      exact ⟨us, r, p⟩)
    (fun X pins s σ H xs ys hP hw hK I q q' => by subst hK; exact I.tuple_inj q' q)
end
section
variable {C : Cw} {X : Cx} {tg e : Expr} {g : Rho → Res} {gs : Rho → ResL} {pos p : Pos}
theorem boot_enum : bootBuiltins ("enumerate" : Str) = some (.type "enumerate") := by first | rfl | decide +kernel | kernel_rfl
def iEnum (K : PySem.W.Frag) (ta : TA) : TI := fun σ H R => ta σ H fun vs H1 => ∃ a xs, vs = [.ref a] ∧ ((SqL K H1 a xs ∧ R (Ite fun H => SqL K H a) H1) ∨ (SqT K H1 a xs ∧ R (Ite fun H => SqT K H a) H1))
theorem pi_enum {a : Expr} {ta : TA} {elts : List Expr} {cx} {pp : Pos} (hg : Gl X "enumerate") (hm : X.mg "enumerate" = none) (ha : PA X [a] ta) (hs : starEach [a] X.env = [(false, eval a X.env)] := by rfl) :
    PI X (.Tuple elts cx pp) (.Call (.Name "enumerate" p) [a] [] pos) (iEnum X.K ta) := by
  intro pins s σ H R I h
  refine Call_ (ld_blt I hg hm boot_enum (PyProof.Rows.callWith_type1 (thn (ha pos pins s σ H _ I h) fun us s1 q1 => ?_) (by rw [hs]; rfl) (by rfl)))
  obtain ⟨vs, H1, I1, r1, l, xs, rfl, q⟩ := q1
  cases r1 with
  | cons r rr =>
    cases rr
    cases r
    have fb : ∀ b : Addr, s1.heap.objs.size ≤ b → FpOk X pins H1 b := fun b hb => I1.fpOk hb (I1.hok.fresh hb)
    have fin : ∀ b : Addr, b ∈ [s1.heap.objs.size + 1, s1.heap.objs.size] → FpOk X pins H1 b := fun b hb => by
      simp only [List.mem_cons, List.mem_nil_iff, or_false] at hb
      rcases hb with rfl | rfl
      · exact fb _ (Nat.le_succ _)
      · exact fb _ (Nat.le_refl _)
    rcases q with ⟨ql, q⟩ | ⟨ql, q⟩
    · obtain ⟨ls, _, p1, _⟩ := I1.list ql
      have ll : l < s1.heap.objs.size := by obtain ⟨o, n, e, _⟩ := id p1; exact Heap.lt_size e
      refine call_enumerate_list p1.isList fun h' a1 a2 a3 a4 => wpAny_pyIter_enum (s := { s1 with heap := h' }) a1 ?_
      exact ⟨_, [s1.heap.objs.size + 1, s1.heap.objs.size], _, _, H1, rfl, I1.kept (t' := s1.toks) a4, turn_enumL _ _ l (Nat.succ_ne_self _) (Nat.ne_of_gt (Nat.lt_succ_of_lt ll)) (Nat.ne_of_lt ll), ⟨⟨_, a1⟩, a2⟩, fin, q⟩
    · obtain ⟨ls, _, p1, _⟩ := I1.tuple ql
      have ll : l < s1.heap.objs.size := by obtain ⟨o, e, _⟩ := id p1; exact Heap.lt_size e
      refine call_enumT (show s1.heap.IsTuple l ls.toArray from p1) fun h' a1 a2 a4 => wpAny_pyIter_enum (s := { s1 with heap := h' }) a1 ?_
      exact ⟨_, [s1.heap.objs.size + 1, s1.heap.objs.size], _, _, H1, rfl, I1.kept (t' := s1.toks) a4, turn_enumT _ _ l (Nat.succ_ne_self _) (Nat.ne_of_gt (Nat.lt_succ_of_lt ll)) (Nat.ne_of_lt ll), ⟨⟨_, a1⟩, a2⟩, fin, q⟩
/-- the pairs -/
def enumD : Nat → List D → List D
  | _, [] => []
  | i, d :: ds => .tup [.int i, d] :: enumD (i + 1) ds
theorem enumD_len : ∀ {ds : List D} {i : Nat}, (enumD i ds).length = ds.length
  | [], _ => rfl
  | d :: ds, i => by simp only [enumD, List.length_cons, enumD_len]
theorem enumD_get : ∀ {ds : List D} {j i : Nat} {d : D}, ds[i]? = some d → (enumD j ds)[i]? = some (.tup [.int ((j + i : Nat) : Int), d])
  | [], _, _, _, h => by simp at h
  | x :: ds, j, 0, d, h => by simp at h; subst h; rfl
  | x :: ds, j, i + 1, d, h => by
    have := enumD_get (ds := ds) (j := j + 1) (i := i) (by simpa using h)
    have e : j + 1 + i = j + (i + 1) := by omega
    rw [e] at this
    simpa [enumD] using this
theorem iterOf_enum {K : PySem.W.Frag} {F : Hp} {Sq : Hp → List V → Prop} {ds : List D} {xs : List V} (qa : ∀ H, Same F H → Sq H xs) (ra : RepL K F ds xs) : IterOf K F (Ite Sq) (enumD 0 ds) where
  go := fun i H s hi => by
    rw [enumD_len] at hi
    have h1 : i < xs.length := by rw [ra.length]; omega
    exact ⟨xs, xs[i], qa H s, by simp [h1]⟩
  stop := fun i H s hi => by
    rw [enumD_len] at hi
    exact ⟨xs, qa H s, by rw [ra.length]; omega⟩
  yld := fun i Fc H x H' s1 s2 hi y => by
    rw [enumD_len] at hi
    obtain ⟨p, u, rfl, hp, rfl, hx⟩ := y
    have ex := hx xs (qa H (s1.trans s2))
    obtain ⟨u', e1, r1⟩ := ra.get' (List.getElem?_eq_getElem hi)
    rw [ex] at e1; cases e1
    refine ⟨_, _, enumD_get (List.getElem?_eq_getElem hi), Step.laid (.tup [.int i, u]) s2 hp, ?_⟩
    refine RepV.tup_of (s2.free hp) ?_
    simp only [RepL]
    exact ⟨.int i, [u], rfl, by simp only [RepV, Nat.zero_add], u, [], rfl, r1.mono s1 _ _, rfl⟩
def enumR (r : ResL) : Res := r.thn fun xs => match xs with
  | [(.fz, .lst ds)] => .ok .fz (.lst (enumD 0 ds))
  | [(.fz, .tup ds)] => .ok .fz (.lst (enumD 0 ds))
  | _ => .stuck
theorem piv_enum {a : Expr} {elts : List Expr} {cx} {pp : Pos} (hg : Gl X "enumerate") (hm : X.mg "enumerate" = none) (ha : PAv C X [a] gs) (hs : starEach [a] X.env = [(false, eval a X.env)] := by rfl) :
    PIv C X (.Tuple elts cx pp) (.Call (.Name "enumerate" p) [a] [] pos) (fun ρ => enumR (gs ρ)) := by
  refine PI.imp (pi_enum hg hm ha hs) fun σ H R q => ?_
  obtain ⟨ρ, F, RS, w⟩ := q
  dsimp only at w
  unfold iEnum
  refine ⟨ρ, F, RS, ?_⟩
  cases er : gs ρ with
  | stuck => rw [er] at w; exact w
  | exc c => rw [er] at w; exact w
  | ok xs =>
    rw [er] at w
    intro vs F' H' st rp
    unfold enumR at w
    rw [ResL.thn_ok] at w
    split at w
    · rename_i ds
      obtain ⟨v, rfl, r⟩ := rp.one
      have r : RepV X.K F' (.lst ds) v := r
      simp only [RepV] at r
      obtain ⟨a1, x1, rfl, q1, l1⟩ := r
      exact ⟨a1, x1, rfl, .inl ⟨st.sub.seq q1, w _ F' H' st (iterOf_enum (fun H s => s.seq q1) l1)⟩⟩
    · rename_i ds
      obtain ⟨v, rfl, r⟩ := rp.one
      have r : RepV X.K F' (.tup ds) v := r
      simp only [RepV] at r
      obtain ⟨a1, x1, rfl, q1, l1⟩ := r
      exact ⟨a1, x1, rfl, .inr ⟨Same.seqT st.sub q1, w _ F' H' st (iterOf_enum (fun H s => Same.seqT s q1) l1)⟩⟩
    · exact w.elim
end
end D3

namespace D3
open PySem PySem.Spec PySem.Calls PyProof.Rows L2 PySem.W
section
variable {prog : Program} {w : World} {A : Around} {E : Value → Shared → Prop} {s : Shared} {K : PySem.W.Frag} {x D : Addr} {ox : Obj} {od : Option Obj}
/-- an object of that class -/
def XAt (h : Heap) (x : Addr) (ox : Obj) (D : Addr) : Prop := h.get? x = some ox ∧ ox.cls = .ref D
theorem XAt.type {M : Model} {h : Heap} (I : XAt h x ox D) : Looks M h (typeOf (.ref x)) (.ref D) := I.2 ▸ (Looks.ld I.1).andThen .now
/-- what is known of a class of errors -/
structure XCls (K : PySem.W.Frag) (D : Addr) : Prop where
  ga : PySem.W.findIn K (.ref D) "__getattribute__" = some (some (.builtin "BaseException.__getattribute__"))
  gn : PySem.W.findIn K (.ref D) "__getattr__" = some none
  ca : PySem.W.findIn K (.ref D) "__class__" = some (some (.builtin "object.__class__"))
  bx : PySem.W.mroIn K D (.type "BaseException") = some true
  ob : PySem.W.mroIn K D (.type "object") = some true
  hn : PySem.W.specialIn K (.builtin "object.__class__") "__get__" = some (some (.builtin "getset_descriptor.__get__"))
  tk : PySem.W.takesIn K (.builtin "object.__class__") = some true
end
end D3

namespace D3
open PySem PySem.Spec PySem.Calls PyProof.Rows L2
/-! ### an error in flight -/
structure Fly (P : Program) (w : World) (outer : List Env) (H : Hp) (s : Shared) (H1 : Hp) (B hp : Heap) : Prop where
  un : Un (frs outer) [] H H1 s.heap hp
  ok : HOk P w H1 hp
  kb : ∀ b o, hp.get? b = some o → s.heap.get? b ≠ none → b ∉ frs outer → B.get? b = some o
  kh : ∀ b u, H1 b = some u → ∃ o, hp.get? b = some o ∧ B.get? b = some o
  fr : ∀ b ∈ frs outer, H b = none ∧ ∃ o, s.heap.get? b = some o ∧ ∀ vs, o.data ≠ .fields vs
section
variable {P : Program} {w : World} {outer : List Env} {H H1 : Hp} {s : Shared} {B hp h' : Heap}
theorem no_nil {b : Addr} : b ∉ ([] : List Addr) := by simp
theorem Fly.slots (f : Fly P w outer H s H1 B hp) (up : hp.UpToSlots h') {b : Addr} (hb : b ∈ frs outer) : ∃ o sl sl', s.heap.get? b = some o ∧ hp.get? b = some { o with slots := sl } ∧ h'.get? b = some { o with slots := sl' } := by
  obtain ⟨hn, o, e, nf⟩ := f.fr b hb
  obtain ⟨sl, e1⟩ := f.un.slot b o e hn hb no_nil
  obtain ⟨sl', e2⟩ := up b _ e1 nf
  exact ⟨o, sl, sl', e, e1, e2⟩
theorem Fly.on (f : Fly P w outer H s H1 B hp) (st : B.StaysIn h') (up : hp.UpToSlots h') : Fly P w outer H s H1 B h' where
  un := {
    keep := fun b o e n hb _ => st b o (f.kb b o (f.un.keep b o e n hb no_nil) (by rw [e]; exact fun z => nomatch z) hb)
    slot := fun b o e n hb _ => by
      obtain ⟨o', sl, sl', e0, _, e2⟩ := f.slots up hb
      rw [e] at e0; cases e0
      exact ⟨sl', e2⟩
    free := f.un.free
    there := fun b o e _ => by
      by_cases hb : b ∈ frs outer
      · obtain ⟨o', sl, sl', e0, _, e2⟩ := f.slots up hb
        exact ⟨_, e2⟩
      · obtain ⟨o', e1⟩ := f.un.there b o e no_nil
        exact ⟨o', st b o' (f.kb b o' e1 (by rw [e]; exact fun z => nomatch z) hb)⟩
    tups := f.un.tups
    frzs := f.un.frzs
    tbls := f.un.tbls }
  ok := fun a o e => (f.ok a o e).stay (fun b u hb q => by
      have : ∃ u', H1 b = some u' := by
        rcases hb with rfl | hb
        · exact ⟨o, e⟩
        · exact ⟨_, hb⟩
      obtain ⟨u', eu⟩ := this
      obtain ⟨o', e1, e2⟩ := f.kh b u' eu
      rw [q] at e1; cases e1
      exact st b u e2) (fun _ q => q) fun _ _ q => q
  kb := fun b o e ns hb => by
    cases e0 : s.heap.get? b with
    | none => exact absurd e0 ns
    | some o0 =>
      obtain ⟨o', e1⟩ := f.un.there b o0 e0 no_nil
      have e2 := f.kb b o' e1 ns hb
      have e3 := st b o' e2
      rw [e] at e3; cases e3
      exact e2
  kh := fun b u e => by
    obtain ⟨o, _, e2⟩ := f.kh b u e
    exact ⟨o, st b o e2, e2⟩
  fr := f.fr
end
/-- how an error lies behind a call -/
def CX1 (P : Program) (w : World) : CXT := fun outer H s E ev s' => ∃ (e C : Addr) (a0 : Value) (H1 : Hp) (B : Heap),
  ev = .ref e ∧ s'.os = s.os ∧ AllBare s'.gens ∧ Heap.FlyingW B outer e (.ref C) a0 s'.heap ∧ Fly P w outer H s H1 B s'.heap ∧ E (.ref C) none H1
section
variable {X : Cx} {pins : List (Addr × Obj)} {σ : L2.St} {H H1 : Hp} {s s' : Shared} {B hp : Heap} {E : XK}
theorem inv_frs (I : Inv X pins σ H s) : ∀ b ∈ frs X.stack, H b = none ∧ ∃ o, s.heap.get? b = some o ∧ ∀ vs, o.data ≠ .fields vs := fun b hb =>
  ⟨I.stkFree b hb, (I.stack.mem hb).2⟩
/-- behind a call that has raised: the caller's state, while the error flies -/
theorem Fly.inv (I : Inv X pins σ H s) (f : Fly X.prog X.w X.stack H s H1 B s'.heap) (ho : s'.os = s.os) (hg : AllBare s'.gens) : Inv X pins σ H1 s' :=
  Inv.call' (ch := []) I ho f.un f.ok hg (fun b z => absurd z no_nil)
/-- .. and one frame further -/
theorem Fly.out (I : Inv X pins σ H s) (f : Fly X.prog X.w X.stack H s H1 B s'.heap) (ho : s'.os = s.os) (hg : AllBare s'.gens) (hx : X.ex = []) (hs : X.stack = X.env :: X.outer) (hf : X.env.frame = some X.env.locals)
    {h' : Heap} (st : B.StaysIn h') (up : s'.heap.UpToSlots h') : Fly X.prog X.w X.outer X.H₀ X.s₀ H1 B h' := by
  have I1 := f.inv I ho hg
  have f1 := f.on st up
  have ub := I1.base
  rw [hx] at ub
  have old : ∀ b o, X.s₀.heap.get? b = some o → ∃ o', s.heap.get? b = some o' := fun b o e => I.base.there b o e (by rw [hx]; exact no_nil)
  have nl : ∀ b o, X.s₀.heap.get? b = some o → b ≠ X.env.locals := fun b o e z => absurd (Heap.lt_size e) (by rw [z]; exact Nat.not_lt.mpr I.ok.above)
  have sub : ∀ b, b ∉ frs X.outer → b ≠ X.env.locals → b ∉ frs X.stack := fun b h1 h2 z => by
    rcases List.mem_cons.mp (I.stkSub b z) with q | q
    · exact h2 q
    · exact h1 q
  have sup : ∀ b, b ∈ frs X.outer → b ∈ frs X.stack := fun b hb => by
    rw [hs]; unfold frs; rw [List.filterMap_cons, hf]; exact List.mem_cons_of_mem _ hb
  refine ⟨⟨fun b o e n hb _ => ?_, fun b o e n hb _ => ?_, ub.free, fun b o e _ => ?_, ub.tups, ub.frzs, ub.tbls⟩, f1.ok, fun b o e ns hb => ?_, f1.kh, fun b hb => ?_⟩
  · have e1 := ub.keep b o e n hb no_nil
    obtain ⟨o', e0⟩ := old b o e
    exact st b o (f.kb b o e1 (by rw [e0]; exact fun z => nomatch z) (sub b hb (nl b o e)))
  · obtain ⟨sl, e1⟩ := ub.slot b o e n hb no_nil
    obtain ⟨o', sl1, sl2, e0, e1', e2⟩ := f.slots up (sup b hb)
    have q := Option.some.inj (e1.symm.trans e1')
    refine ⟨sl2, ?_⟩
    rw [e2]
    obtain ⟨c1, d1, t1, l1⟩ := o
    obtain ⟨c2, d2, t2, l2⟩ := o'
    simp only [Obj.mk.injEq] at q
    obtain ⟨rfl, rfl, rfl, _⟩ := q
    rfl
  · obtain ⟨o', e0⟩ := old b o e
    exact f1.un.there b o' e0 no_nil
  · cases e0 : X.s₀.heap.get? b with
    | none => exact absurd e0 ns
    | some o0 =>
      obtain ⟨o', e1⟩ := old b o0 e0
      exact f1.kb b o e (by rw [e1]; exact fun z => nomatch z) (sub b hb (nl b o0 e0))
  · exact ⟨I.ok.frf b hb, (I.ok.funs.mem hb).2⟩
/-- the state at a raise, as one that flies: all but the frames is kept -/
def hidF (h : Heap) (l : List Env) : Heap := PySem.W.hideAll h (frs l)
theorem Fly.raise (I : Inv X pins σ H s) (hx : X.ex = []) (hs : X.stack = X.env :: X.outer) (hf : X.env.frame = some X.env.locals) {h' : Heap} (st : (hidF s.heap X.stack).StaysIn h') (up : s.heap.UpToSlots h') : Fly X.prog X.w X.outer X.H₀ X.s₀ H (hidF s.heap X.stack) h' := by
  have f : Fly X.prog X.w X.stack H s H (hidF s.heap X.stack) s.heap :=
    ⟨Un.refl, I.hok, fun b o e _ hb => PySem.W.hideAll_get _ e hb, fun b u e => by
      have hn : b ∉ frs X.stack := fun z => by rw [I.stkFree b z] at e; cases e
      have : ∃ o, s.heap.get? b = some o := by
        have := I.hok b u e
        cases u with
        | lst xs => obtain ⟨_, _, _, _, e⟩ := this; exact ⟨_, e⟩
        | tup xs => obtain ⟨_, _, _, o, e, _⟩ := this; exact ⟨_, e⟩
        | dK kvs => obtain ⟨_, _, _, _, o, _, _, e, _⟩ := this; exact ⟨_, e⟩
        | dT kvs => obtain ⟨_, _, _, _, o, _, _, e, _⟩ := this; exact ⟨_, e⟩
        | set S n => obtain ⟨o, _, _, _, e, _⟩ := this; exact ⟨_, e⟩
        | ins C dx fs => obtain ⟨_, _, _, e, _⟩ := this; exact ⟨_, e⟩
        | own y => obtain ⟨_, e⟩ := this; exact ⟨_, e⟩
        | xd fs => obtain ⟨_, ⟨_, _, _, e, _⟩, _⟩ := this; exact ⟨_, e⟩
        | rng lo hi => obtain ⟨_, _, _, e⟩ := this; exact ⟨_, e⟩
        | frz ob u => obtain ⟨e, _⟩ := this; exact ⟨_, e⟩
        | tbl ps => exact ⟨_, this⟩
        | met f y => exact ⟨_, this⟩
        | ext φ => obtain ⟨_, ⟨_, e⟩, _⟩ := this; exact ⟨_, e⟩
      obtain ⟨o, eo⟩ := this
      exact ⟨o, eo, PySem.W.hideAll_get _ eo hn⟩, inv_frs I⟩
  exact f.out I rfl I.bare hx hs hf st up
end
end D3

namespace D3
open PySem PySem.Spec PySem.Calls PyProof.Rows L2
/-! ### raise -/
/-- a class of errors of the text, straight or not under ValueError: what a raise wants -/
def vErr : List Value := [.type "ValueError", .type "Exception", .type "BaseException", .type "object"]
def RzCls (K : PySem.W.Frag) (C : Addr) : Prop := PySem.W.excIn K C vErr "ValueError.__new__" = true
/-- what the surroundings want of an error that is made here -/
def RzOk (C : Cw) (X : Cx) : Prop := ∀ (pins : List (Addr × Obj)) (σ : L2.St) (H : Hp) (s : Shared) (c : Str) (Cc : Addr) (vs : List Value) (h' : Heap) (e : Addr), Inv X pins σ H s → X.mg c = some (.ref Cc) → C.EE c σ H →
  Heap.MadeExcOf s.heap h' e (.ref Cc) vs → X.xe (.ref e) { s with heap := h' }
def rzR (c : Str) (ρ : Rho) : ResL → SRes
  | .ok xs => if xs.length ≤ sizeLine then .exc c ρ else .stuck
  | .exc c' => .exc c' ρ
  | .stuck => .stuck
/-- the object of such a class, over a heap -/
theorem rz_obj {K : PySem.W.Frag} {C : Addr} (q : RzCls K C) : ∃ bm N nm qn bs hd sn sub ab col dd k0 k1 k2 k3 k5, ∀ h : Heap, K.In h → h.get? C = some (excClassObj nm qn C N bs bm hd sn sub ab col dd k0 k1 k2 k3 k5 "ValueError.__new__") ∧
    h.Ns N (h.nsMap N) ∧ h.nsMap N "__init__" = none ∧ OwnTail h vErr bm := by
  unfold RzCls PySem.W.excIn at q
  split at q
  · rename_i dd cd sl ho
    split at q
    · rename_i C' bm k0 k1 k2 k3 n k5 hm hs
      rw [Bool.and_eq_true, Bool.and_eq_true, Bool.and_eq_true, Bool.and_eq_true, Bool.and_eq_true] at q
      obtain ⟨⟨⟨⟨⟨q1, q2⟩, q3⟩, q4⟩, q5⟩, q6⟩ := q
      obtain ⟨nm, bs, mro, ns, qn, hd, sn, sub, ab, col, del⟩ := cd
      have e1 : C' = C := beq_iff_eq.mp q1
      have e2 : n = "ValueError.__new__" := beq_iff_eq.mp q2
      have e3 : del = false := by simpa using q3
      have e4 : sl = #[k0, k1, k2, k3, some (.builtin n), k5] := Array.ext' hs
      have e5 : mro = .ref C' :: bm := hm
      subst e1 e2 e3 e4 e5
      refine ⟨bm, ns, nm, qn, bs, hd, sn, sub, ab, col, dd, k0, k1, k2, k3, k5, fun h X => ⟨X _ _ ho, .of_isNs (PySem.W.isNs_of_in X q5), PySem.W.nsMap_none_of_in X q5 (beq_iff_eq.mp q6), PySem.W.tail_of_in X q4⟩⟩
    · cases q
  · cases q
theorem rpl_len {K : PySem.W.Frag} {F H : Hp} : ∀ {xs : List (Md × D)} {vs : List V}, RpL K F H xs vs → vs.length = xs.length
  | [], _, h => by rw [show _ = [] from h]; rfl
  | _ :: _, _, h => by obtain ⟨v, us, rfl, _, r⟩ := h; rw [List.length_cons, List.length_cons, rpl_len r]
section
variable {C : Cw} {X : Cx} {e : Expr} {es : List Expr} {gs : Rho → ResL} {x : Str} {np cpos pos : Pos}
theorem psv_raise {Cc : Addr} (hm : X.mg x = some (.ref Cc)) (Z : RzCls X.K Cc) (hh : X.A.handled = none) (hr : RzOk C X) (hg : Gl X x) (ha : PAv C X (e :: es) gs) (hd : (x == ("__debug__" : Str)) = false) (hst : ∀ y ∈ e :: es, notStar y = true) :
    PSv C X (.Raise (some (.Call (.Name x np) (e :: es) [] cpos)) none pos) (fun ρ => rzR x ρ (gs ρ)) := by
  intro pins s σ H En I q
  obtain ⟨ρ, F, R, w⟩ := q
  obtain ⟨bm, N, nm, qn, bs, hdc, sn, sub, ab, col, dd, k0, k1, k2, k3, k5, hobj⟩ := rz_obj Z
  have vb := _root_.PySem.F.excBase_ValueError
  have B0 := hobj X.base I.mod.kin
  have st := star_cons (es := es) (env := X.env) (hst e List.mem_cons_self)
  refine wpAny_Raise_call_subU (C := Cc) (nm := nm) (q := qn) (N := N) (bs := bs) (bm := bm) (hdct := hdc) (sn := sn) (sub := sub) (ab := ab) (col := col) (dd := dd) (k0 := k0) (k1 := k1) (k2 := k2) (k3 := k3) (k5 := k5)
    vb vb.hasB vb (mN := X.base.nsMap N) (B0.2.2.2.hasType vb.hasBase) hh (star_any _ _ hst) B0.2.2.1 (ld_glob I hg hm ⟨rfl, ?_⟩ hd)
  rw [st]
  refine Calls.evalArgs_plain ?_
  have main := ha cpos pins s σ H (fun vs H1 => vs.length ≤ sizeLine ∧ C.EE x σ H1) I ?_
  · rw [st] at main
    refine wpAny_mono main (fun us s2 h2 => ?_) fun _ _ z => z
    obtain ⟨vs, H1, I1, r1, hl, he⟩ := h2
    have B1 := hobj s2.heap I1.kIn
    exact ⟨rfl, by rw [← r1.length]; exact hl, B1.1, B0.2.1.keeps I1.bk, B1.2.2.2, fun h' ex made => hr pins σ H1 s2 x Cc us h' ex I1 hm he made⟩
  · refine ⟨ρ, F, R, ?_⟩
    dsimp only at w
    cases er : gs ρ with
    | stuck => rw [er] at w; exact w
    | exc c => rw [er] at w; exact fun F' H' st => w σ F' H' st.fsame (R.step st)
    | ok xs =>
      rw [er] at w
      intro vs F' H' st rp
      have w : WantS (C.at X) F (if xs.length ≤ sizeLine then .exc x ρ else .stuck) En := w
      split at w
      · rename_i hl
        exact ⟨by rw [rpl_len rp]; exact hl, w σ F' H' st.fsame (R.step st)⟩
      · exact w.elim
/-! ### contexts: a def's body -/
structure FnCx (X : Cx) : Prop where
  hx : X.ex = []
  hs : X.stack = X.env :: X.outer
  hf : X.env.frame = some X.env.locals
end
section
variable {P : Program} {w : World} {K : PySem.W.Frag} {mg : Str → Option Value} {base : Heap} {N : List Str} {qual : Str} {scope : Scope} {f : Addr} {cdv : Value} {A : Around} {outer : List Env} {s : Shared} {H : Hp} {E : XK}
theorem fnCx : FnCx (cxOf (CX1 P w) P w K mg base N qual scope f cdv A outer s H E) := ⟨rfl, rfl, rfl⟩
/-- the wish about errors, by names of classes -/
def eeOf (mg : Str → Option Value) (E : XK) : XE := fun c _ H' => ∀ u, mg c = some u → E u none H'
theorem xok_fn {C : Cw} (hE : C.EE = eeOf mg E) : XOk (CX1 P w) C (cxOf (CX1 P w) P w K mg base N qual scope f cdv A outer s H E) := by
  intro pins σ H1 s1 ev s' I h
  obtain ⟨e, Cc, a0, H2, B, rfl, ho, hg, fl, fy, c, hm, he⟩ := h
  rw [hE] at he
  have I0 := I.ok.frames
  refine wpAny_leaves_onW I0 rfl fl fun h' fl' up => ?_
  exact ⟨e, Cc, a0, H2, B, rfl, ho.trans I.os, hg, fl', fy.out I ho hg rfl rfl rfl fl'.1 up, he _ hm⟩
theorem rzok_fn {C : Cw} (hE : C.EE = eeOf mg E) : RzOk C (cxOf (CX1 P w) P w K mg base N qual scope f cdv A outer s H E) := by
  intro pins σ H1 s1 c Cc vs h1 e I hm he made
  rw [hE] at he
  have I0 := I.ok.frames
  have hin : ∀ env ∈ (cxOf (CX1 P w) P w K mg base N qual scope f cdv A outer s H E).stack, ∀ a, env.frame = some a → a ∈ frs (cxOf (CX1 P w) P w K mg base N qual scope f cdv A outer s H E).stack := fun env he a ha => List.mem_filterMap.mpr ⟨env, he, ha⟩
  have FF : s1.heap.FunFrames (hidF s1.heap (cxOf (CX1 P w) P w K mg base N qual scope f cdv A outer s H E).stack) _ := PySem.W.funFrames_hide I.stack hin
  have st0 : (hidF s1.heap (cxOf (CX1 P w) P w K mg base N qual scope f cdv A outer s H E).stack).StaysIn s1.heap := fun b o q => PySem.W.of_hideAll _ q
  refine wpAny_leaves_madeW (s := { s1 with heap := h1 }) I0 rfl st0 FF made fun h' t fl _ _ up => ?_
  have up0 : s1.heap.UpToSlots h' := (Heap.UpToSlots.of_keeps made.keeps).trans up
  exact ⟨e, Cc, .ref t, H1, _, rfl, I.os, I.bare, fl, Fly.raise I rfl rfl rfl fl.1 up0, he _ hm⟩
end
end D3

namespace D3
open PySem PySem.Spec PySem.Calls PyProof.Rows L2
/-! ### try, except -/
structure HX where
  cls : Str
  slot : Option Nat
  g : Rho → SRes
/-- the classes of errors among one another -/
def XtOk (K : PySem.W.Frag) (mg : Str → Option Value) (xt : Str → Str → Option Bool) : Prop := ∀ c x b, xt c x = some b → ∃ C C2, PySem.W.nsIn K mainGlobals c = some (some (.ref C)) ∧ mg c = some (.ref C) ∧ mg x = some (.ref C2) ∧
  PySem.W.mroIn K C2 (.type "BaseException") = some true ∧ PySem.W.typeIn K (.ref C2) = some (.type "type") ∧ PySem.W.mroIn K C (.ref C2) = some b
section
variable {X : Cx} {pins : List (Addr × Obj)} {σ : L2.St} {H : Hp} {s : Shared} {e : Addr}
end
end D3

namespace D3
open PySem PySem.Spec PySem.Calls PyProof.Rows L2
section
variable {C : Cw} {X : Cx} {pins : List (Addr × Obj)} {σ : L2.St} {H H1 : Hp} {s s0 : Shared} {e Cc : Addr} {a0 : Value} {B : Heap}
theorem Fly.h1e (fl : Heap.FlyingW B X.stack e (.ref Cc) a0 s.heap) (fy : Fly X.prog X.w X.stack H s0 H1 B s.heap) : H1 e = none := by
  cases q : H1 e with
  | none => rfl
  | some u => obtain ⟨o, _, z⟩ := fy.kh e u q; rw [fl.2.1] at z; cases z
theorem Fly.s0e (fl : Heap.FlyingW B X.stack e (.ref Cc) a0 s.heap) (fy : Fly X.prog X.w X.stack H s0 H1 B s.heap) : s0.heap.get? e = none := by
  cases q : s0.heap.get? e with
  | none => rfl
  | some o =>
    exfalso
    by_cases hb : e ∈ frs X.stack
    · obtain ⟨o', sl, _, e0, e1, _⟩ := fy.slots (Heap.UpToSlots.refl _) hb
      obtain ⟨_, o2, e2, nf⟩ := fy.fr e hb
      rw [e0] at e2; cases e2
      obtain ⟨oe, vs, he, _, hd, _⟩ := fl.first
      rw [e1] at he; cases he
      exact nf vs hd
    · obtain ⟨o', e1⟩ := fy.un.there e o q no_nil
      have := fy.kb e o' e1 (by rw [q]; exact fun z => nomatch z) hb
      rw [fl.2.1] at this; cases this
/-- the error is tracked from now on -/
theorem Fly.held (I0 : Inv X pins σ H s0) (fl : Heap.FlyingW B X.stack e (.ref Cc) a0 s.heap) (fy : Fly X.prog X.w X.stack H s0 H1 B s.heap) (ho : s.os = s0.os) (hg : AllBare s.gens) : Inv X pins σ (upd H1 e (xobj e Cc)) s := by
  have h1 := Fly.h1e fl fy
  have h0 := Fly.s0e fl fy
  obtain ⟨oe, he, hc⟩ := fl.there
  have nb : ∀ {b u}, H1 b = some u → b ≠ e := fun q z => by rw [z, h1] at q; cases q
  refine Inv.call' (ch := []) I0 ho ⟨fy.un.keep, fy.un.slot, fun b o q n z => ?_, fy.un.there, fun b xs q => ?_, fun b o u q => ?_, fun b ps q => ?_⟩ (fun b u q => ?_) hg (fun b z => absurd z no_nil)
  · rw [upd_ne fun z => by rw [z, h0] at q; cases q]; exact fy.un.free b o q n z
  · have := fy.un.tups b xs q; rw [upd_ne (nb this)]; exact this
  · have := fy.un.frzs b o u q; rw [upd_ne (nb this)]; exact this
  · obtain ⟨more, this⟩ := fy.un.tbls b ps q; exact ⟨more, by rw [upd_ne (nb this)]; exact this⟩
  · by_cases hb : b = e
    · subst hb
      rw [upd_same] at q
      cases q
      exact ⟨⟨oe, he, hc⟩, ⟨oe, he⟩, fun h1 h2 p k => by obtain ⟨o, q, z⟩ := p; exact ⟨o, k o q, z⟩⟩
    · rw [upd_ne hb] at q
      exact (fy.ok b u q).stay (fun _ _ _ z => z) (fun c z => by rw [upd_ne (nb z)]; exact z) fun c xs z => by rw [upd_ne (nb z)]; exact z
end
end D3

namespace D3
open PySem PySem.Spec PySem.Calls PyProof.Rows L2
section
variable {C : Cw} {X : Cx} {pins : List (Addr × Obj)} {σ : L2.St} {H : Hp} {s : Shared} {D : Ends} {hs : List ExceptHandler} {hx : List HX} {xt : Str → Str → Option Bool}
end
/-! ### isinstance of an error -/
/-- a class by its name: one of the text, or one of Python's own -/
def ClsV (mg : Str → Option Value) (n : Str) (cv : V) : Prop := (∃ C, mg n = some (.ref C) ∧ cv = .ref C) ∨ (mg n = none ∧ n ≠ "__name__" ∧ ∃ T, bootBuiltins n = some (.type T) ∧ cv = .ty T)
def valV' : V → Value | .ref a => .ref a | .ty T => .type T | _ => .none
def XisOk (K : PySem.W.Frag) (mg : Str → Option Value) (xis : Str → Str → Option Bool) : Prop := ∀ c n b, xis c n = some b → ∃ C cv, PySem.W.nsIn K mainGlobals c = some (some (.ref C)) ∧ XCls K C ∧ ClsV mg n cv ∧ PySem.W.kitOne K (.ref C) (valV' cv) = some b
section
variable {C : Cw} {X : Cx} {e : Expr} {g : Rho → Res} {p q pos tp : Pos} {n : Str} {xis : Str → Str → Option Bool}
end
end D3

namespace D3
open PySem PySem.Spec PySem.Calls PyProof.Rows L2
/-! ### a def by its body, errors too -/
theorem fnok_phi {P : Program} {w : World} {K : PySem.W.Frag} {mg : Str → Option Value} {base : Heap} {x qual : Str} {st : Stmt} {f : Addr} {fd : FuncData} {N ps : List Str} {k : Nat} {g : Rho → SRes} (F : Fun K x qual st f fd) (S : FnScope N ps (defScope st))
    (hbody : ∀ (C : Cw) (cdv : Value) (A : Around) (outer : List Env) (s : Shared) (H : Hp) (E : XK), C.EE = eeOf mg E → Room k (A.deeper (envOfC qual (defScope st) s.heap.objs.size f cdv)) → PBv C (cxOf (CX1 P w) P w K mg base N qual (defScope st) f cdv A outer s H E) (defBody st) g) :
    FnOk P w K mg base (CX1 P w) (k + 1) f fd ps (spV K mg ps.length (phi ps.length N.length g)) := by
  obtain ⟨oc, od, kV, doc, pm, an, cdv, ct, osl, rfl, lk, hcd⟩ := F.ex
  refine fn_of lk hcd S (fun vs H Q E h => h.1) fun A outer s H vs Q E hr h => ?_
  obtain ⟨hl, F0, ds, sF, rl, h⟩ := h
  have hl' : ds.length = ps.length := by rw [← rl.length]; exact hl
  let C : Cw := ⟨K, F0, H, eeOf mg E⟩
  refine ⟨_, hbody C cdv A outer s H E rfl hr, startR N.length ds, F0, relSt_start sF rl, ?_⟩
  unfold phi at h
  rw [if_pos hl'] at h
  cases er : g (startR N.length ds) with
  | nx ρ => rw [er] at h; exact fun σ' F' H' _ R => h.2 .non F' H' R.st rp_non (by intro z; cases z)
  | rt m d => rw [er] at h; exact fun v F' H' s rp fr => h.2 v F' H' s rp fr
  | bk ρ => rw [er] at h; exact h.elim
  | ct ρ => rw [er] at h; exact h.elim
  | exc c ρ => rw [er] at h; exact fun σ' F' H' _ R u hu => h F' H' u R.st hu
  | stuck => rw [er] at h; exact h.elim
/-! ### xs.append(e), xs a list of one's own -/
def appS (ρ : Rho) (i : Nat) (r : Res) : SRes := match ρ[i]? with
  | some (some (true, .lst ds)) => (frzR r).thS ρ fun m d => match m with | .fz => if ds.length < sizeLine then .nx (ρ.set i (some (true, .lst (ds ++ [d])))) else .stuck | _ => .stuck
  | _ => .stuck
section
variable {C : Cw} {X : Cx} {e : Expr} {g : Rho → Res} {x : Str} {p ap cp pos : Pos}
theorem psv_app (i : Nat) (hv : PE X (.Name x p) (tVar i)) (he : PV C X e g) (hs : notStar e = true) (hline : ap.endLine = cp.line) :
    PSv C X (.Expr (.Call (.Attribute (.Name x p) "append" ap) [e] [] cp) pos) (fun ρ => appS ρ i (g ρ)) := by
  have h1 := pe_bm (X := X) (o := .Name x p) (e := e) (es := []) (apos := ap) (cpos := cp) PySem.F.plainAttrs_list PySem.F.slot_list_append PySem.F.type_list_append mt_append hv (pa_cons (pv_frz he) pa_nil (star_cons hs)) (attrBase rfl) (by
      rw [star_all _ _ (fun y hy => by simp only [List.mem_cons, List.mem_nil_iff, or_false] at hy; subst hy; exact hs)]; rfl) (beq_iff_eq.mpr hline) (star_cons hs) rfl
  refine PS.imp (ps_expr h1) fun E σ H q => ?_
  obtain ⟨ρ, F, R, w⟩ := q
  dsimp only at w
  unfold tDrop tBM
  cases e0 : ρ[i]? with
  | none => unfold appS at w; rw [e0] at w; exact w.elim
  | some o =>
    cases o with
    | none => unfold appS at w; rw [e0] at w; exact w.elim
    | some bd =>
      obtain ⟨b, d0⟩ := bd
      cases b with
      | false => unfold appS at w; rw [e0] at w; exact w.elim
      | true =>
        cases d0 with
        | lst ds =>
          unfold appS at w
          rw [e0] at w
          dsimp only at w
          obtain ⟨v0, ev0, rp0, hn0⟩ := R.slot i true _ e0
          obtain ⟨a, ea, hfa, xs, hh, rl⟩ := rp0
          subst ea
          refine ⟨.ref a, ev0, .inl ⟨rfl, xs, SqL.of hh⟩, ?_⟩
          unfold tCons
          refine tG_thS R w fun m d v F' H' w' s R' rp fr => ?_
          cases m with
          | fr => exact (show False from w').elim
          | bo => exact (show False from w').elim
          | fz =>
          dsimp only at w'
          split at w'
          · rename_i hl
            have hh' : H' a = some (.lst xs) := s.same _ _ hh
            refine ⟨a, xs, v, rfl, rfl, hh', by rw [rl.length]; exact hl, ?_⟩
            exact w' σ F' _ (Same.refl _) (R'.mut e0 ev0 ⟨_, upd_same, RepL.append (rl.mono s.fsame _ _) (RepL.cons rp RepL.nil)⟩)
          · exact w'.elim
        | _ => unfold appS at w; rw [e0] at w; exact w.elim
end
end D3

namespace D3
open PySem PySem.Spec PyProof.Rows L2
/-! ### min(xs, default=None), xs a list of ints -/
section
variable {prog : Program} {w : World} {A : Around} {R : Result → Shared → Prop} {J : Addr} {fp wr : List Addr} {n : Nat} {P : Nat → Value → Prop} {St : Nat → Heap → Prop} {ns : List Int} {S : Addr}
end
end D3

namespace D3
open PySem PySem.Spec PyProof.Rows L2
section
variable {prog : Program} {w : World} {A : Around} {E : Value → Shared → Prop} {s : Shared}
end
section
variable {C : Cw} {X : Cx} {e : Expr} {g : Rho → Res} {p q kp pos : Pos} {j}
end
end D3

namespace D3
open PySem PySem.Spec PyProof.Rows L2
/-! ### slices of texts, lists, tuples -/
theorem RepL.drop {K : PySem.W.Frag} {F : Hp} : ∀ (n : Nat) {ds : List D} {xs : List V}, RepL K F ds xs → RepL K F (ds.drop n) (xs.drop n)
  | 0, _, _, h => h
  | n + 1, [], xs, h => by
    simp only [RepL] at h
    subst h; simp [RepL]
  | n + 1, d :: ds, xs, h => by
    simp only [RepL] at h
    obtain ⟨v, vs, rfl, _, t⟩ := h
    exact RepL.drop n t
theorem RepL.take {K : PySem.W.Frag} {F : Hp} : ∀ (n : Nat) {ds : List D} {xs : List V}, RepL K F ds xs → RepL K F (ds.take n) (xs.take n)
  | 0, _, _, _ => by simp [RepL]
  | n + 1, [], xs, h => by
    simp only [RepL] at h
    subst h; simp [RepL]
  | n + 1, d :: ds, xs, h => by
    simp only [RepL] at h
    obtain ⟨v, vs, rfl, r, t⟩ := h
    simp only [List.take_succ_cons, RepL]
    exact ⟨v, _, rfl, r, RepL.take n t⟩
def cutD (xs : List D) (lo hi : Option Int) : List D := (xs.drop (HT.sIx xs.length 0 lo)).take (HT.sIx xs.length xs.length hi - HT.sIx xs.length 0 lo)
theorem RepL.cut {K : PySem.W.Frag} {F : Hp} {ds : List D} {xs : List V} (h : RepL K F ds xs) (lo hi : Option Int) : RepL K F (cutD ds lo hi) (cutV xs lo hi) := by
  unfold cutD cutV
  rw [h.length]
  exact (h.drop _).take _
def wholeCut (n : Nat) (lo hi : Option Int) : Bool := HT.sIx n 0 lo == 0 && HT.sIx n n hi == n
def slP (x : Res) (lo hi : Option (Rho → Res)) (ρ : Rho) : Res := x.thn fun m d => match d with
  | .str z => partThn lo ρ fun l => partThn hi ρ fun h => .ok .fz (.str (Txt.slice z l h))
  | .lst ds => partThn lo ρ fun l => partThn hi ρ fun h => .ok .fr (.lst (cutD ds l h))
  | .tup ds => partThn lo ρ fun l => partThn hi ρ fun h => if (wholeCut ds.length l h && m != .fz) = true then .stuck else .ok .fz (.tup (cutD ds l h))
  | _ => .stuck
section
variable {C : Cw} {X : Cx} {a : Expr} {ga : Rho → Res} {pos : Pos}
theorem pv_cut {lo hi : Option Expr} {gl gh : Option (Rho → Res)} {p2 : Pos} (ha : PV C X a ga) (hl : POv C X lo gl) (hh : POv C X hi gh) : PV C X (.Subscript a (.Slice lo hi none p2) pos) (fun ρ => slP (ga ρ) gl gh ρ) := by
  refine PE.imp (pe_slice (sl_str.or (sl_list.or (sl_tup.or sl_whole))) ha (po_of hl) (po_of hh)) fun σ H Q q => ?_
  unfold tSl
  rw [tG_eq] at q ⊢
  obtain ⟨ρ, F, R, w⟩ := q
  try dsimp only at w
  refine ⟨ρ, F, R, ?_⟩
  cases er : ga ρ with
  | stuck => rw [er] at w; exact w
  | exc c => rw [er] at w; exact w
  | ok m d =>
    rw [er] at w
    intro v F1 H1 s1 rp _
    cases d with
    | str z =>
      obtain ⟨rfl, hz, hk⟩ := rp.str
      have w1 : Want (C.at X) F1 H1 σ (partThn gl ρ fun l => partThn gh ρ fun h => .ok .fz (.str (Txt.slice z l h))) Q := Want.step s1 w
      refine want_part (R.step s1) w1 fun l F2 H2 s2 R2 w2 => want_part R2 w2 fun h F3 H3 s3 R3 w3 => .inl ?_
      exact ⟨z, rfl, hz, w3 _ F3 H3 (.refl R3.sub) (rp_str ⟨Nat.le_trans (Txt.slice_le z _ _) hz, strOk_slice hk⟩) (by intro z; cases z)⟩
    | lst ds =>
      have w1 : Want (C.at X) F1 H1 σ (partThn gl ρ fun l => partThn gh ρ fun h => .ok .fr (.lst (cutD ds l h))) Q := Want.step s1 w
      refine want_part (R.step s1) w1 fun l F2 H2 s2 R2 w2 => want_part R2 w2 fun h F3 H3 s3 R3 w3 => .inr (.inl ?_)
      obtain ⟨p, xs, rfl, hq, rl⟩ := ((rp.step s2).step s3).seqL R3.sub
      exact ⟨p, xs, rfl, hq, fun p' hp' => w3 (.ref p') F3 _ (Step.fresh _ R3.sub hp') ⟨p', rfl, R3.sub.free hp', _, upd_same, rl.cut l h⟩ fun _ a ea => by cases ea; exact hp'⟩
    | tup ds =>
      have w1 : Want (C.at X) F1 H1 σ (partThn gl ρ fun l => partThn gh ρ fun h => if (wholeCut ds.length l h && m != .fz) = true then .stuck else .ok .fz (.tup (cutD ds l h))) Q := Want.step s1 w
      refine want_part (R.step s1) w1 fun l F2 H2 s2 R2 w2 => want_part R2 w2 fun h F3 H3 s3 R3 w3 => .inr (.inr ?_)
      obtain ⟨p, xs, rfl, hq, rl⟩ := ((rp.step s2).step s3).seqT R3.sub
      have lw : wholeCut ds.length l h = true ↔ HT.sIx xs.length 0 l = 0 ∧ HT.sIx xs.length xs.length h = xs.length := by
        rw [rl.length]; unfold wholeCut; simp
      cases hw : wholeCut ds.length l h with
      | true =>
        cases m with
        | fz =>
          rw [hw, if_neg (by decide)] at w3
          have e := lw.mp hw
          have ec : cutD ds l h = ds := by
            unfold cutD
            rw [← rl.length, e.1, e.2, rl.length, List.drop_zero, Nat.sub_zero]
            exact List.take_length
          rw [ec] at w3
          exact .inr ⟨p, xs, rfl, hq, e, w3 (.ref p) F3 H3 (.refl R3.sub) ((rp.step s2).step s3) (by intro z; cases z)⟩
        | fr => rw [hw, if_pos (by decide)] at w3; exact w3.elim
        | bo => rw [hw, if_pos (by decide)] at w3; exact w3.elim
      | false =>
        rw [hw, if_neg (by simp)] at w3
        refine .inl ⟨p, xs, rfl, hq, fun z => ?_, fun p' hp' => w3 (.ref p') _ _ (Step.laid (.tup (cutV xs l h)) R3.sub hp') (RepV.tup_of (R3.sub.free hp') (rl.cut l h)) (by intro z; cases z)⟩
        rw [lw.mpr z] at hw
        cases hw
    | _ => exact (show False from w).elim
/-! ### startswith, removeprefix -/
end
end D3

namespace D3
open PySem PySem.Spec PyProof.Rows L2
section
variable {C : Cw} {X : Cx} {pos : Pos}
/-- {} -/
theorem pv_dnew : PV C X (.Dict [] [] pos) (fun _ => .ok .fr (.dct [])) := by
  refine PE.imp pe_dnewK fun σ H Q q => ?_
  rw [tG_eq] at q
  obtain ⟨ρ, F, R, w⟩ := q
  intro p hp
  exact w (.ref p) F _ (Step.fresh _ R.sub hp) ⟨p, rfl, R.sub.free hp, [], upd_same, by simp [RepK]⟩ fun _ a ea => by cases ea; exact hp
end
end D3

namespace D3
open PySem PySem.Spec PyProof.Rows L2
/-! ### dicts: what stands at a key -/
def getK (kvs : List (Key × D)) (k : Key) : Option D := (kvs.find? fun kv => decide (kv.1 = k)).map (·.2)
theorem RepK.val {K : PySem.W.Frag} {F : Hp} : ∀ {kvs : List (Key × D)} {xs : List (Key × V)} (k : Key), RepK K F kvs xs → match getK kvs k with | some d => ∃ v, valV xs k = some v ∧ RepV K F d v | none => valV xs k = none
  | [], xs, k, h => by
    simp only [RepK] at h
    subst h; rfl
  | (k', d) :: kvs, xs, k, h => by
    simp only [RepK] at h
    obtain ⟨y, ys, rfl, r, t⟩ := h
    by_cases e : k' = k
    · have e1 : getK ((k', d) :: kvs) k = some d := by simp [getK, List.find?_cons, e]
      rw [e1]
      exact ⟨y, valV_pos e, r⟩
    · have e1 : getK ((k', d) :: kvs) k = getK kvs k := by simp [getK, List.find?_cons, e]
      rw [e1, valV_neg (p := (k', y)) e]
      exact RepK.val k t
section
variable {X : Cx}
def rIxK : R2 := fun x y H Q => ∃ a v, x = .ref a ∧ DGet H a y (some v) ∧ Q v H
theorem ix_dict (hu : X.A.units + 1 < cLine) : IxR X rIxK := by
  intro value slice pins s σ H x y v u Q I rx ry h hsub
  obtain ⟨a, w', rfl, g, q⟩ := h
  cases (show v = Value.ref a from rx)
  have hT : s.TypeIs (.ref a) "dict" := dict_typeIs I g
  unfold subscriptTail
  refine wpAny_bind ?_
  rw [getitemInPython_of_ne hT.not_modules]
  refine wpAny_bind (wpAny_specialOf hT PySem.F.slot_dict_getitem.lookup ?_)
  have fin : wpAny (model X.prog X.w) X.A (subscripted slice false (.ref a) u) (fun r s3 => wpAny (model X.prog X.w) X.A (letTemporaryGo value (.ref a) r >>= fun _ => pure r) (EP X pins σ Q) X.xe s3) X.xe s := by
    rw [hsub]
    exact wpAny_operating (d_getItem hu I g ry fun z s3 I3 rz => wpAny_bind (wpAny_letTemporaryGo (wpAny_pure ⟨w', H, I3, rz, q⟩)))
  first
    | exact wpAny_pure (wpAny_bind fin)
    | exact wpAny_bind (wpAny_pure (wpAny_bind fin))
    | exact wpAny_bind fin
end
def ixK : Md → D → Md → D → Option (Md × D) := fun _ x _ y => match x, keyD y with
  | .dct kvs, some k => (getK kvs k).map fun d => (.fz, d)
  | _, _ => none
theorem dget_of {K : PySem.W.Frag} {F H : Hp} {m n : Md} {kvs : List (Key × D)} {y : D} {k : Key} {v u : V} (s : Same F H) (rx : Rp K F H m (.dct kvs) v) (ry : Rp K F H n y u) (ek : keyD y = some k) :
    ∃ a xs, v = .ref a ∧ H a = some (.dK xs) ∧ RepK K F kvs xs ∧ DGet H a u (valV xs k) := by
  obtain ⟨a, xs, rfl, hh, rk⟩ := rx.dict s
  exact ⟨a, xs, rfl, hh, rk, .inl ⟨xs, k, .inl hh, keyD_rep ek ry, rfl⟩⟩
section
variable {C : Cw} {X : Cx} {a b : Expr} {ga gb : Rho → Res} {pos : Pos}
/-! ### in, not in -/
def inK (neg : Bool) : Md → D → Md → D → Option (Md × D) := fun _ x _ y => match keyD x, y with
  | some k, .dct kvs => some (.fz, .bl (if neg then !(getK kvs k).isSome else (getK kvs k).isSome))
  | _, _ => none
theorem val_some {K : PySem.W.Frag} {F : Hp} {kvs : List (Key × D)} {xs : List (Key × V)} (k : Key) (h : RepK K F kvs xs) : (valV xs k).isSome = (getK kvs k).isSome := by
  have := RepK.val k h
  cases e : getK kvs k with
  | none =>
    rw [e] at this
    have this : valV xs k = none := this
    rw [this]; rfl
  | some d => rw [e] at this; obtain ⟨v, ev, _⟩ := this; rw [ev]; rfl
theorem opd_inK (hu : X.A.units + 1 < cLine) : OpD C X (compareOp .In) (inK false) := by
  refine ⟨fun x y H Q => ∃ a o, y = .ref a ∧ DGet H a x o ∧ Q (.bl o.isSome) H, ?_, ?_⟩
  · intro pins s σ H x y v u Q I rx ry h
    obtain ⟨a, o, rfl, g, q⟩ := h
    cases (show u = Value.ref a from ry)
    exact d_in hu I g rx fun s3 I3 => ⟨.bl o.isSome, H, I3, rfl, q⟩
  · intro F H m x n y v u k d Q s rx ry e w
    unfold inK at e
    split at e
    · rename_i ky kvs ek
      cases e
      obtain ⟨p, xs, rfl, hh, rk, g⟩ := dget_of s ry rx ek
      exact ⟨p, _, rfl, g, by rw [val_some ky rk]; exact w _ F H (.refl s) (rp_bl _) (by intro z; cases z)⟩
    · cases e
theorem opd_notinK (hu : X.A.units + 1 < cLine) : OpD C X (compareOp .NotIn) (inK true) := by
  refine ⟨fun x y H Q => ∃ a o, y = .ref a ∧ DGet H a x o ∧ Q (.bl (!o.isSome)) H, ?_, ?_⟩
  · intro pins s σ H x y v u Q I rx ry h
    obtain ⟨a, o, rfl, g, q⟩ := h
    cases (show u = Value.ref a from ry)
    exact d_notIn hu I g rx fun s3 I3 => ⟨.bl (!o.isSome), H, I3, rfl, q⟩
  · intro F H m x n y v u k d Q s rx ry e w
    unfold inK at e
    split at e
    · rename_i ky kvs ek
      cases e
      obtain ⟨p, xs, rfl, hh, rk, g⟩ := dget_of s ry rx ek
      exact ⟨p, _, rfl, g, by rw [val_some ky rk]; exact w _ F H (.refl s) (rp_bl _) (by intro z; cases z)⟩
    · cases e
/-! ### dict(d) -/
def tcDict : List (Md × D) → Option (Md × D)
  | [(_, .dct kvs)] => some (.fr, .dct kvs)
  | _ => none
theorem calld_dict : CallD X (.type "dict") tcDict := by
  refine ⟨fun vs H Q => ∃ a xs, vs = [.ref a] ∧ H a = some (.dK xs) ∧ ∀ p, H p = none → Q (.ref p) (upd H p (.dK xs)), ?_, ?_⟩
  · intro pins s σ H vs us Q I r h
    obtain ⟨a, xs, rfl, hh, q⟩ := h
    obtain ⟨u, rfl, ru⟩ := vals1 r
    cases (show u = Value.ref a from ru)
    exact d_copyOf I (.inl hh) fun p s' hp I' => ⟨.ref p, _, I', rfl, q p hp⟩
  · intro F H xs vs k d Q s rx e w
    unfold tcDict at e
    split at e
    · rename_i m kvs
      cases e
      obtain ⟨v, rfl, r⟩ := rx.one
      obtain ⟨a, ys, rfl, hh, rk⟩ := r.dict s
      exact ⟨a, ys, rfl, hh, fun p hp => w (.ref p) F _ (Step.fresh _ s hp) ⟨p, rfl, s.free hp, ys, upd_same, rk⟩ fun _ b eb => by cases eb; exact hp⟩
    · cases e
end
/-! ### d[k] = v, d a name of the frame that owns it -/
def putD (kvs : List (Key × D)) (k : Key) (d : D) : List (Key × D) := if (kvs.any fun kv => decide (kv.1 = k)) = true then kvs.map (fun kv => if kv.1 = k then (kv.1, d) else kv) else kvs ++ [(k, d)]
theorem RepK.keys {K : PySem.W.Frag} {F : Hp} : ∀ {kvs : List (Key × D)} {xs : List (Key × V)}, RepK K F kvs xs → xs.map (·.1) = kvs.map (·.1)
  | [], xs, h => by simp only [RepK] at h; subst h; rfl
  | (k, d) :: kvs, xs, h => by
    simp only [RepK] at h
    obtain ⟨y, ys, rfl, _, t⟩ := h
    simp [RepK.keys t]
theorem RepK.snoc {K : PySem.W.Frag} {F : Hp} {k : Key} {d : D} {v : V} (r : RepV K F d v) : ∀ {kvs : List (Key × D)} {xs : List (Key × V)}, RepK K F kvs xs → RepK K F (kvs ++ [(k, d)]) (xs ++ [(k, v)])
  | [], xs, h => by
    simp only [RepK] at h
    subst h
    simp only [List.nil_append, RepK]
    exact ⟨v, [], rfl, r, rfl⟩
  | (k', d') :: kvs, xs, h => by
    simp only [RepK] at h
    obtain ⟨y, ys, rfl, r', t⟩ := h
    simp only [List.cons_append, RepK]
    exact ⟨y, _, rfl, r', RepK.snoc r t⟩
theorem RepK.repl {K : PySem.W.Frag} {F : Hp} {k : Key} {d : D} {v : V} (r : RepV K F d v) : ∀ {kvs : List (Key × D)} {xs : List (Key × V)}, RepK K F kvs xs → RepK K F (kvs.map fun kv => if kv.1 = k then (kv.1, d) else kv) (xs.map fun kv => if kv.1 = k then (kv.1, v) else kv)
  | [], xs, h => by
    simp only [RepK] at h
    subst h; simp [RepK]
  | (k', d') :: kvs, xs, h => by
    simp only [RepK] at h
    obtain ⟨y, ys, rfl, r', t⟩ := h
    have ih := RepK.repl (k := k) r t
    by_cases e : k' = k
    · simp only [List.map_cons, e, if_true, RepK]
      exact ⟨v, _, rfl, r, ih⟩
    · simp only [List.map_cons, e, if_false, RepK]
      exact ⟨y, _, rfl, r', ih⟩
theorem RepK.put {K : PySem.W.Frag} {F : Hp} {k : Key} {d : D} {v : V} {kvs : List (Key × D)} {xs : List (Key × V)} (h : RepK K F kvs xs) (r : RepV K F d v) : RepK K F (putD kvs k d) (putK xs k v) := by
  have e : (xs.any fun kv => decide (kv.1 = k)) = (kvs.any fun kv => decide (kv.1 = k)) := by
    have := h.keys
    have a1 : ∀ {β : Type} (l : List (Key × β)), (l.any fun kv => decide (kv.1 = k)) = (l.map (·.1)).any (fun x => decide (x = k)) := fun l => by rw [List.any_map]; rfl
    rw [a1, a1, this]
  unfold putD putK
  rw [e]
  split
  · exact RepK.repl r h
  · exact RepK.snoc r h
theorem RepK.len {K : PySem.W.Frag} {F : Hp} {kvs : List (Key × D)} {xs : List (Key × V)} (h : RepK K F kvs xs) : xs.length = kvs.length := by
  have := congrArg List.length h.keys
  simpa using this
end D3

namespace D3
open PySem PySem.Spec PyProof.Rows L2
def dputS (ρ : Rho) (i : Nat) (rk rv : Res) : SRes := match ρ[i]? with
  | some (some (true, .dct kvs)) => (frzR rv).thS ρ fun m d => match m with
    | .fz => rk.thS ρ fun _ kd => (match keyD kd with
      | some k => if kvs.length < sizeLine then .nx (ρ.set i (some (true, .dct (putD kvs k d)))) else .stuck
      | none => .stuck)
    | _ => .stuck
  | _ => .stuck
section
variable {C : Cw} {X : Cx} {e ke : Expr} {g gk : Rho → Res} {x : Str} {p sp pos : Pos}
theorem psv_dput (i : Nat) (hu : X.A.units + 1 < cLine) (hv : PE X (.Name x p) (tVar i)) (hk : PV C X ke gk) (he : PV C X e g) (hsw : swapsWith e (some (.Subscript (.Name x p) ke sp)) pos.line X.env = pure false) :
    PSv C X (.Assign [.Subscript (.Name x p) ke sp] e pos) (fun ρ => dputS ρ i (gk ρ) (g ρ)) := by
  refine PS.imp (ps_dput hu hv hk (pv_frz he) hsw) fun E σ H q => ?_
  obtain ⟨ρ, F, R, w⟩ := q
  dsimp only at w
  unfold sDPut
  cases e0 : ρ[i]? with
  | none => unfold dputS at w; rw [e0] at w; exact w.elim
  | some o =>
    cases o with
    | none => unfold dputS at w; rw [e0] at w; exact w.elim
    | some bd =>
      obtain ⟨b, d0⟩ := bd
      cases b with
      | false => unfold dputS at w; rw [e0] at w; exact w.elim
      | true =>
        cases d0 with
        | dct kvs =>
          unfold dputS at w
          rw [e0] at w
          dsimp only at w
          obtain ⟨v0, ev0, rp0, hn0⟩ := R.slot i true _ e0
          obtain ⟨a, ea, hfa, xs, hh, rk⟩ := rp0
          subst ea
          refine tG_thS R w fun m d v F' H' w' s R' rp fr => ?_
          cases m with
          | fr => exact (show False from w').elim
          | bo => exact (show False from w').elim
          | fz =>
          dsimp only at w'
          refine ⟨.ref a, ev0, ?_⟩
          refine tG_thS R' w' fun m2 kd u F2 H2 w2 s2 R2 rp2 _ => ?_
          cases ek : keyD kd with
          | none => rw [ek] at w2; exact w2.elim
          | some k =>
            rw [ek] at w2
            dsimp only at w2
            split at w2
            · rename_i hl
              have hh2 : H2 a = some (.dK xs) := s2.same _ _ (s.same _ _ hh)
              refine ⟨a, _, rfl, .inl ⟨xs, k, hh2, keyD_rep ek rp2, by rw [rk.len]; exact hl, rfl⟩, ?_⟩
              exact w2 σ F2 _ (Same.refl _) (R2.mut e0 ev0 ⟨_, upd_same, RepK.put (rk.mono (s.fsame.trans s2.fsame) _ _) (RepV.mono s2.fsame _ _ rp)⟩)
            · exact w2.elim
        | _ => unfold dputS at w; rw [e0] at w; exact w.elim
end
end D3
namespace D3
open PySem PySem.Spec PyProof.Rows L2
section
variable {C : Cw} {X : Cx} {a b : Expr} {ga gb : Rho → Res} {pos : Pos}
/-- d[k] -/
theorem pv_dix (hu : X.A.units + 1 < cLine) (ha : PV C X a ga) (hb : PV C X b gb) (hs : PlainIx b) : PV C X (.Subscript a b pos) (fun ρ => op2 ixK (ga ρ) (gb ρ)) := by
  refine PE.imp (pe_ix (ix_dict hu) ha hb hs) fun σ H Q q => tG_op2 (fun F H m x n y v u k d Q s rx ry e w => ?_) q
  unfold ixK at e
  split at e
  · rename_i kvs ky ek
    obtain ⟨p, xs, rfl, hh, rk, g⟩ := dget_of s rx ry ek
    cases eg : getK kvs ky with
    | none => rw [eg] at e; cases e
    | some d' =>
      rw [eg] at e
      cases e
      have := RepK.val ky rk
      rw [eg] at this
      obtain ⟨v', ev, rv⟩ := this
      rw [ev] at g
      exact ⟨p, v', rfl, g, w v' F H (.refl s) rv (by intro z; cases z)⟩
  · cases e
/-- k in d, k not in d -/
theorem pv_din {neg : Bool} {op : CmpOp} (ho : op = if neg then .NotIn else .In) (hu : X.A.units + 1 < cLine) (ha : PV C X a ga) (hb : PV C X b gb) (hm : behindInMarks op b = false) : PV C X (.Compare a [op] [b] pos) (fun ρ => op2 (inK neg) (ga ρ) (gb ρ)) := by
  cases neg with
  | false => subst ho; exact pv_cmp (opd_inK hu) ha hb hm
  | true => subst ho; exact pv_cmp (opd_notinK hu) ha hb hm
end
end D3

namespace D3
open PySem PySem.Spec PyProof.Rows L2 PySem.SeqAt PySem.MeetsSeq
/-! ### t.index(x) of a tuple -/
theorem SqT.plain {X : Cx} {pins : List (Addr × Obj)} {σ : L2.St} {H : Hp} {s : Shared} {a : Addr} {xs : List V} (I : L2.Inv X pins σ H s) (h : SqT X.K H a xs) : ∃ its : List Value, Vals xs its ∧ PlainTp s.heap a its.toArray ∧ xs.length ≤ sizeLine := by
  rcases h with h | ⟨o, its, n, hk, hc, hd, hs, hz, r⟩
  · obtain ⟨z, its, r, p⟩ := h.ok I.hok
    exact ⟨its, r, p, z⟩
  · exact ⟨its.toList, r, ⟨o, I.kIn a o hk, hc, hd, n, by simpa using hs⟩, by rw [r.length, Array.length_toList]; exact hz⟩
section
variable {X : Cx} {o e : Expr} {apos cpos : Pos} {td ty : TE}
end
section
variable {C : Cw} {X : Cx} {o e : Expr} {apos cpos : Pos} {go g : Rho → Res}
end
end D3

namespace D3
open PySem PySem.Spec PyProof.Rows L2
/-! ### dicts compared: keys and data that can be laid out -/
def hitsD (kb : List (Key × D)) : List (Key × D) → Option Bool
  | [] => some true
  | (k, d) :: r => match getK kb k with
    | none => some false
    | some e => (match toPy d, toPy e with
      | some p, some q => if (shal p && shal q) = true then (hitsD kb r).map fun b => PyData.eqv p q && b else none
      | _, _ => none)
def eqN (neg : Bool) : Md → D → Md → D → Option (Md × D) := fun _ x _ y => match x, y with
  | .dct ka, .dct kb => (hitsD kb ka).map fun r => (.fz, .bl (if neg then !(ka.length == kb.length && r) else (ka.length == kb.length && r)))
  | _, _ => none
section
variable {C : Cw} {X : Cx}
theorem hits_of {pins : List (Addr × Obj)} {σ : L2.St} {F H : Hp} {s : Shared} (hu : X.A.units + 64 < cLine) (I : L2.Inv X pins σ H s) (sF : Same F H) {kb : List (Key × D)} {ys : List (Key × V)} {vb : List (Key × Value)} (rb : RepK X.K F kb ys) (kvb : KV ys vb) :
    ∀ {ka : List (Key × D)} {xs : List (Key × V)} {va : List (Key × Value)} {r : Bool}, RepK X.K F ka xs → KV xs va → hitsD kb ka = some r → PySem.W.KeqHits X.A.in1 s vb va r
  | [], xs, va, r, h, kv, e => by
    simp only [RepK] at h
    subst h
    cases kv
    cases e
    exact .nil
  | (k, d) :: ka, xs, va, r, h, kv, e => by
    simp only [RepK] at h
    obtain ⟨y, xs', rfl, ry, t⟩ := h
    cases kv with
    | cons h1 t1 =>
      rename_i q1 va'
      obtain ⟨k1, u1⟩ := q1
      obtain ⟨e1, r1⟩ := h1
      dsimp only at e1 r1
      subst e1
      unfold hitsD at e
      have hv := RepK.val k rb
      have hr := kvb.val k
      cases eg : getK kb k with
      | none =>
        rw [eg] at e hv
        cases e
        have hv : valV ys k = none := hv
        rw [hv] at hr
        exact .miss (RelO.none_of hr)
      | some ee =>
        rw [eg] at e hv
        obtain ⟨v2, ev2, rv2⟩ := hv
        rw [ev2] at hr
        obtain ⟨u2, eu2, ru2⟩ := RelO.some_of hr
        dsimp only at e
        split at e
        · rename_i p q ep eq
          split at e
          · rename_i hs
            cases eh : hitsD kb ka with
            | none => rw [eh] at e; cases e
            | some b =>
              rw [eh] at e
              cases e
              rw [Bool.and_eq_true] at hs
              have hs1 := of_decide_eq_true hs.1
              obtain ⟨⟨as, ra⟩, ca⟩ := reads_of I sF d p y u1 ry r1 ep
              obtain ⟨⟨bs, rb'⟩, cb⟩ := reads_of I sF ee q v2 u2 rv2 ru2 eq
              exact .hit eu2 (SeqAt.eqAt_reads p q X.A.in1 s u1 u2 as bs ra rb' ca cb (by show X.A.units + 1 + min p.depth q.depth < cLine; have := Nat.min_le_left p.depth q.depth; omega)) (hits_of hu I sF rb kvb t t1 eh)
          · cases e
        · cases e
theorem opd_cmpN {f : Value → Value → Sem Value} {neg : Bool} (hu : X.A.units + 64 < cLine)
    (rule : ∀ (s : Shared) (a b : Addr) (ka kb : List (Key × Value)) (r : Bool) (Q : Value → Shared → Prop), (a == sysModules) = false → (b == sysModules) = false → s.heap.DictOf (mixKind X.prog X.w) a ka → s.heap.DictOf (mixKind X.prog X.w) b kb → (ka.length = kb.length → PySem.W.KeqHits X.A.in1 s kb ka r) →
      Q (.bool (if neg then !(ka.length == kb.length && r) else (ka.length == kb.length && r))) s → wpAny (model X.prog X.w) X.A (f (.ref a) (.ref b)) Q X.xe s) : OpD C X f (eqN neg) := by
  refine ⟨fun x y H Q => ∃ F m n ka kb r, Same F H ∧ Rp X.K F H m (.dct ka) x ∧ Rp X.K F H n (.dct kb) y ∧ hitsD kb ka = some r ∧ Q (.bl (if neg then !(ka.length == kb.length && r) else (ka.length == kb.length && r))) H, ?_, ?_⟩
  · intro pins s σ H x y v u Q I rx ry h
    obtain ⟨F, m, n, ka, kb, r, sF, hd, he, eh, hQ⟩ := h
    obtain ⟨a, xs, rfl, ha, ra⟩ := hd.dict sF
    obtain ⟨b, ys, rfl, hb, rb⟩ := he.dict sF
    cases rx; cases ry
    obtain ⟨_, sa, va, rva, da⟩ := dk_of I.hok ha
    obtain ⟨_, sb, vb, rvb, db⟩ := dk_of I.hok hb
    have la : va.length = ka.length := by rw [← ra.len]; exact (Paired.length rva).symm
    have lb : vb.length = kb.length := by rw [← rb.len]; exact (Paired.length rvb).symm
    refine rule s a b va vb r _ sa sb da db (fun _ => hits_of hu I sF rb rvb ra rva eh) ⟨.bl _, H, I, rfl, ?_⟩
    rw [la, lb]; exact hQ
  · intro F H m x n y v u k d Q s rx ry e w
    unfold eqN at e
    split at e
    · rename_i ka kb
      cases eh : hitsD kb ka with
      | none => rw [eh] at e; cases e
      | some r =>
        rw [eh] at e
        cases e
        exact ⟨F, m, n, ka, kb, r, s, rx, ry, eh, w _ F H (.refl s) (rp_bl _) (by intro z; cases z)⟩
    · cases e
theorem opd_eqN (hu : X.A.units + 64 < cLine) : OpD C X (compareOp .Eq) (eqN false) := opd_cmpN hu fun s a b ka kb r Q sa sb da db hits q => PySem.W.keq_eq sa sb da db (by omega) hits q
theorem opd_neN (hu : X.A.units + 64 < cLine) : OpD C X (compareOp .NotEq) (eqN true) := opd_cmpN hu fun s a b ka kb r Q sa sb da db hits q => PySem.W.keq_ne sa sb da db (by omega) hits q
end
end D3

namespace D3
open PySem PySem.Spec PyProof.Rows L2
/-! ### a dict of defs at the top: its item, and the call of what a name holds -/
def TabE (w : World) (K : PySem.W.Frag) : List (Str × Str) → List DictEntry → Prop
  | [], es => es = []
  | (z, f) :: r, es => ∃ t a es', es = ⟨PyData.keyHash w.params z, .str z t, .ref a⟩ :: es' ∧ PySem.W.nsIn K mainGlobals f = some (some (.ref a)) ∧ TabE w K r es'
structure TabV (w : World) (K : PySem.W.Frag) (mg : Str → Option Value) (x : Str) (tb : List (Str × Str)) : Prop where
  ex : ∃ a ob es ep, mg x = some (.ref a) ∧ K.lookup a = some ob ∧ ob.ExactDict ∧ ob.data = .dict es ep ∧ TabE w K tb es.toList
  nd : (tb.map (·.1)).Nodup
theorem TabE.pairs {P : Program} {w : World} {K : PySem.W.Frag} : ∀ {tb : List (Str × Str)} {es : List DictEntry}, TabE w K tb es → ∃ kvs : List (Key × Value), Pairs (mixKind P w) es kvs ∧ kvs.map (·.1) = tb.map (fun p => .inr p.1) ∧
    (∀ e ∈ es, ∃ k, (mixKind P w).is k e.key = true ∧ e.hash = (mixKind P w).hash k) ∧ ∀ z f, tb.lookup z = some f → ∃ a, valueAt kvs (.inr z) = some (.ref a) ∧ PySem.W.nsIn K mainGlobals f = some (some (.ref a))
  | [], es, h => by
    have h : es = [] := h
    subst h
    refine ⟨[], .nil, rfl, fun e h => ?_, fun z f h => ?_⟩
    · cases h
    · cases h
  | (z, f) :: r, es, h => by
    obtain ⟨t, a, es', rfl, hn, hr⟩ := h
    obtain ⟨kvs, p1, p2, p3, p4⟩ := TabE.pairs (P := P) hr
    have hi : (mixKind P w).is (.inr z) (.str z t) = true := by
      show Value.isStrOf z (.str z t) = true
      simp [Value.isStrOf]
    refine ⟨(.inr z, .ref a) :: kvs, .cons hi rfl p1, by simp [p2], fun e he => ?_, fun z' f' hz => ?_⟩
    · rcases List.mem_cons.mp he with rfl | he
      · exact ⟨.inr z, hi, rfl⟩
      · exact p3 e he
    · rw [List.lookup_cons] at hz
      unfold valueAt
      by_cases e : z' = z
      · subst e
        rw [beq_self_eq_true] at hz
        cases hz
        exact ⟨a, by simp [List.find?_cons], hn⟩
      · have : (z' == z) = false := beq_eq_false_iff_ne.mpr e
        rw [this] at hz
        obtain ⟨a', q1, q2⟩ := p4 z' f' hz
        refine ⟨a', ?_, q2⟩
        unfold valueAt at q1
        simp [List.find?_cons]
        simpa [Ne.symm e] using q1
theorem tabE_nil {w : World} {K : PySem.W.Frag} : TabE w K [] [] := rfl
theorem tabE_cons {w : World} {K : PySem.W.Frag} {z f : Str} {r : List (Str × Str)} {es : List DictEntry} {a : Addr} {t : Tok} (hn : PySem.W.nsIn K mainGlobals f = some (some (.ref a))) (h : TabE w K r es) : TabE w K ((z, f) :: r) (⟨PyData.keyHash w.params z, .str z t, .ref a⟩ :: es) := ⟨t, a, es, rfl, hn, h⟩
abbrev Tbl := List (Str × Str)
abbrev Fns := List Str
def deedR (tb : List (Str × Str)) (r : Res) : Res := r.thn fun _ d => match d with
  | .str z => (match tb.lookup z with | some f => .ok .fz (.fn f) | none => .stuck)
  | _ => .stuck
def callV (Φ : Str → List D → Res) (fs : List Str) (n : Nat) (r : Res) (as : ResL) : Res := match r with
  | .ok .fz (.fn f) => if fs.contains f = true then callF n (Φ f) as else .stuck
  | _ => .stuck
section
variable {C : Cw} {X : Cx} {e b : Expr} {es : List Expr} {gs : Rho → ResL} {gb : Rho → Res} {p pos : Pos} {x : Str} {k n : Nat} {tb : List (Str × Str)}
theorem pv_deed (T : TabV X.w X.K X.mg x tb) (hg : Gl X x) (hb : PV C X b gb) (hs : NoSl b) (hd : (x == ("__debug__" : Str)) = false) : PV C X (.Subscript (.Name x p) b pos) (fun ρ => deedR tb (gb ρ)) := by
  obtain ⟨a, ob, es, ep, hm, hk, xd, hdt, te⟩ := T.ex
  intro pins s σ H Q I h
  rw [tG_eq] at h
  obtain ⟨ρ, F, R, w⟩ := h
  have hb' := hb pins s σ H (fun y H2 => ∃ z f, y = .str z ∧ tb.lookup z = some f ∧ ∀ fa, PySem.W.nsIn X.K mainGlobals f = some (some (.ref fa)) → Q (.ref fa) H2) I (by
    rw [tG_eq]
    refine ⟨ρ, F, R, ?_⟩
    cases er : gb ρ with
    | stuck => rw [er] at w; exact w
    | exc c => rw [er] at w; exact w
    | ok m d =>
      rw [er] at w
      intro v F1 H1 s1 r1 _
      have w1 : Want (C.at X) F1 H1 σ (deedR tb (.ok m d)) Q := Want.step s1 w
      unfold deedR at w1
      rw [Res.thn_ok] at w1
      cases d with
      | str z =>
        dsimp only at w1
        cases el : tb.lookup z with
        | none => rw [el] at w1; exact w1.elim
        | some f =>
          rw [el] at w1
          refine ⟨z, f, ?_, el, fun fa hf => w1 (.ref fa) F1 H1 (.refl s1.sub) (by show RepV _ _ _ _; simp only [RepV]; exact ⟨fa, rfl, hf⟩) (by intro z; cases z)⟩
          exact (keyD_rep (k := .inr z) rfl r1)
      | _ => exact w1.elim)
  refine subD_of PySem.F.slot_dict_getitem.lookup hs (ld_glob I hg hm (thn hb' fun iv s2 ⟨y, H2, I2, ry, z, f, ey, el, q⟩ => ?_) hd)
  subst ey
  obtain ⟨kvs, p1, p2, p3, p4⟩ := TabE.pairs (P := X.prog) te
  have hh : s2.heap.get? a = some ob := I2.kIn a ob hk
  have dd : s2.heap.DictOf (mixKind X.prog X.w) a kvs := ⟨ob, es, ep, hh, xd, hdt, fun e he => p3 e (by simpa using he), p1, by
    rw [p2]
    have := T.nd
    unfold List.Nodup at this ⊢
    rw [List.pairwise_map] at this ⊢
    exact this.imp fun h z => h (Sum.inr.inj z)⟩
  obtain ⟨fa, v1, v2⟩ := p4 z f el
  exact ⟨dd.typeIs, wpAny_getItem_of (kV_is (k := .inr z) ry) dd.mapOf v1 ⟨.ref fa, H2, I2.tok _, rfl, q fa v2⟩⟩
theorem pv_callv {i : Nat} {fs : List Str} {Φ : Str → List D → Res} {CX : CXT} (F : ∀ f, fs.contains f = true → FnV X.prog X.w X.K X.mg X.base CX k f n (Φ f)) (hr : Room k X.A) (hx : XOk CX (C.at X) X) (hv : PE X (.Name x p) (tVar i)) (ha : PAv C X (e :: es) gs)
    (he : starEach (e :: es) X.env = (false, eval e X.env) :: starEach es X.env) (hpl : (backTo pos (starEach es X.env)).any (·.1) = false) :
    PV C X (.Call (.Name x p) (e :: es) [] pos) (fun ρ => callV Φ fs n (getS ρ i) (gs ρ)) := by
  intro pins s σ H Q I h
  rw [tG_eq] at h
  obtain ⟨ρ, G, R, w⟩ := h
  unfold callV at w
  split at w
  rotate_left
  · exact w.elim
  rename_i f eg
  split at w
  rotate_left
  · exact w.elim
  rename_i hf
  obtain ⟨fa, fd, ps, FF, hm, hk, hb⟩ := (F f hf).ex
  have sl : ρ[i]? = some (some (false, .fn f)) := by
    unfold getS at eg
    split at eg
    · rename_i d q
      cases eg; exact q
    · cases eg
    · cases eg
  obtain ⟨v, ev, rv, _⟩ := R.slot i false (.fn f) sl
  have rv : RepV X.K G (.fn f) v := rv
  simp only [RepV] at rv
  obtain ⟨a, rfl, na⟩ := rv
  have ea : a = fa := by
    have := PySem.W.mg_of I.ok.mod.kin I.ok.mod.glob na
    rw [hm] at this
    cases this; rfl
  subst ea
  refine wpAny_Call_Name_kw (thn (hv pins s σ H (fun v' H' => v' = .ref a ∧ H' = H) I ⟨.ref a, ev, rfl, rfl⟩) fun u s0 ⟨v', H0, I0, ru, e1, e2⟩ => ?_)
  subst e1 e2
  obtain rfl : u = Value.ref a := ru
  refine PySem.W.callWith_K (h₀ := X.base) I0.ok.mod.kin hk (thn (ha pos pins s0 σ H0 (fun vs H1 => spV X.K X.mg n (Φ f) vs H1 Q fun u _ H' => ∃ c, X.mg c = some u ∧ C.EE c σ H') I0 ?_) fun us s1 ⟨vs, H1, I1, r, q⟩ => ⟨I1.kIn, run_V FF hr hb (fun e s' hc => hx pins σ H1 s1 e s' I1 hc) I1 r q⟩) he hpl
  refine ⟨ρ, G, R, ?_⟩
  cases er : gs ρ with
  | stuck => rw [er] at w; exact w
  | exc c => rw [er] at w; exact w
  | ok xs =>
    rw [er] at w
    intro vs F1 H1 s1 r1
    have w1 : Want (C.at X) F1 H1 σ (callF n (Φ f) (.ok xs)) Q := Want.step s1 w
    unfold callF at w1
    rw [ResL.thn_ok] at w1
    cases ef : allFz xs with
    | none => rw [ef] at w1; exact w1.elim
    | some ds =>
      rw [ef] at w1
      dsimp only at w1
      split at w1
      · rename_i hn
        have rl := r1.fz ef
        refine ⟨by rw [rl.length]; exact hn, F1, ds, s1.sub, rl, ?_⟩
        cases ep : Φ f ds with
        | stuck => rw [ep] at w1; exact w1
        | exc c => rw [ep] at w1; exact fun F' H' u st hu => ⟨c, hu, w1 F' H' st⟩
        | ok m d =>
          rw [ep] at w1
          cases m with
          | bo => exact w1.elim
          | fz => exact ⟨by decide, w1⟩
          | fr => exact ⟨by decide, w1⟩
      · exact w1.elim
end
end D3

namespace D3
open PySem PySem.Spec PyProof.Rows L2
/-! ### list(d): the keys in their order -/
def keyT : Key → D | .inl i => .int i | .inr x => .str x
def keyK : Key → Bool | .inl _ => true | .inr x => decide (x.length ≤ sizeLine) && PyData.strOk x
def tcKeys : List (Md × D) → Option (Md × D)
  | [(_, .dct kvs)] => if (kvs.all fun kv => keyK kv.1) = true then some (.fr, .lst (kvs.map fun kv => keyT kv.1)) else none
  | _ => none
section
variable {X : Cx}
theorem is_kV {P : Program} {w : World} {k : Key} {u : Value} (h : (mixKind P w).is k u = true) : RelV (kV k) u := by
  cases k with
  | inl i =>
    have h : Value.isInt i u = true := h
    cases u <;> simp [Value.isInt] at h
    subst h; exact ⟨_, rfl⟩
  | inr x =>
    have h : Value.isStrOf x u = true := h
    cases u <;> simp [Value.isStrOf] at h
    subst h; exact ⟨_, rfl⟩
theorem vals_keys {P : Program} {w : World} : ∀ {vs : List (Key × Value)} {us : List Value}, us.length = vs.length → (∀ (j : Nat) v, us[j]? = some v → ∃ k x, vs[j]? = some (k, x) ∧ (mixKind P w).is k v = true) → Vals (vs.map fun kv => kV kv.1) us
  | [], [], _, _ => .nil
  | [], _ :: _, h, _ => by simp at h
  | _ :: _, [], h, _ => by simp at h
  | kv :: vs, u :: us, h, q => by
    obtain ⟨k, x, e1, e2⟩ := q 0 u rfl
    cases e1
    exact .cons (is_kV e2) (vals_keys (by simpa using h) fun j v hv => q (j + 1) v hv)
theorem call_keys (hc : X.calm = true) : CallR X (.type "list") (fun xs H Q => ∃ p kvs, xs = [.ref p] ∧ H p = some (.dK kvs) ∧ ∀ l, H l = none → Q (.ref l) (upd H l (.lst (kvs.map fun kv => kV kv.1)))) := by
  intro pins s σ H xs us Q I r h
  obtain ⟨p, kvs, rfl, hp, q⟩ := h
  obtain ⟨u, rfl, rx⟩ := vals1 r
  cases rx
  obtain ⟨hz, hd, vs, rel, o, es, ep, dd⟩ := dk_of I.hok hp
  refine PySem.W.kdl_call (PySem.W.kdl_dict (knd := mixKind X.prog X.w) (kvs := vs) (ep := ep) hd) (I.ok.hd hc) ⟨o, es, dd⟩ (by rw [← rel.length]; exact hz) fun h' tk acc c' kp hg it => ?_
  have ek : vs.map (fun kv => kV kv.1) = kvs.map fun kv => kV kv.1 := by
    have := congrArg (List.map kV) rel.keys
    simpa [List.map_map, Function.comp_def] using this.symm
  have rv : Vals (kvs.map fun kv => kV kv.1) acc.toList := by
    rw [← ek]
    exact vals_keys (P := X.prog) (w := X.w) (by rw [Array.length_toList]; exact it.1) fun j v hv => it.2 j v (by simpa using hv)
  exact ⟨.ref s.heap.objs.size, _, I.laid (t' := tk) kp (Nat.le_refl _) (show ObjOk X.prog X.w _ h' _ (.lst (kvs.map fun kv => kV kv.1)) from ⟨by rw [List.length_map]; exact hz, acc.toList, c', rv, by simpa using hg⟩), rfl, q _ (I.hok.fresh (Nat.le_refl _))⟩
theorem repL_keys {K : PySem.W.Frag} {F : Hp} : ∀ {kvs : List (Key × D)} {xs : List (Key × V)}, RepK K F kvs xs → (kvs.all fun kv => keyK kv.1) = true → RepL K F (kvs.map fun kv => keyT kv.1) (xs.map fun kv => kV kv.1)
  | [], xs, h, _ => by simp only [RepK] at h; subst h; simp [RepL]
  | (k, d) :: kvs, xs, h, a => by
    simp only [RepK] at h
    obtain ⟨y, ys, rfl, _, t⟩ := h
    rw [List.all_cons, Bool.and_eq_true] at a
    simp only [List.map_cons, RepL]
    refine ⟨_, _, rfl, ?_, repL_keys t a.2⟩
    cases k with
    | inl i => simp only [keyT, RepV, kV]
    | inr x =>
      have a1 : (decide (x.length ≤ sizeLine) && PyData.strOk x) = true := a.1
      rw [Bool.and_eq_true, decide_eq_true_eq] at a1
      show RepV K F (.str x) (.str x)
      unfold RepV
      exact ⟨rfl, a1⟩
theorem calld_keys (hc : X.calm = true) : CallD X (.type "list") tcKeys := by
  refine ⟨_, call_keys hc, fun F H xs vs k d Q s rx e w => ?_⟩
  unfold tcKeys at e
  split at e
  · rename_i m kvs
    split at e
    · rename_i ha
      cases e
      obtain ⟨v, rfl, r⟩ := rx.one
      obtain ⟨a, xs, rfl, hh, rk⟩ := r.dict s
      exact ⟨a, xs, rfl, hh, fun l hl => w (.ref l) F _ (Step.fresh _ s hl) ⟨l, rfl, s.free hl, _, upd_same, repL_keys rk ha⟩ fun _ a ea => by cases ea; exact hl⟩
    · cases e
  · cases e
end
end D3

namespace D3
open PySem PySem.Spec PyProof.Rows L2
/-- a name gives up its right to change what it owns -/
theorem RelSt.frz {K : PySem.W.Frag} {F0 H0 F H : Hp} {σ : L2.St} {ρ : Rho} (R : RelSt K F0 H0 F H σ ρ) {i : Nat} {d : D} (e : ρ[i]? = some (some (true, d))) : ∃ F', Same F F' ∧ RelSt K F0 H0 F' H σ (ρ.set i (some (false, d))) := by
  obtain ⟨v, ev, rp, hn⟩ := R.slot i true d e
  obtain ⟨x, rfl, nx, t⟩ := rp
  obtain ⟨o, ho, r⟩ := t.freeze nx
  have sm : Same F (upd F x o) := fun b u q => by rw [upd_ne (ne_of_none q nx)]; exact q
  have hi : i < ρ.length := (List.getElem?_eq_some_iff.mp e).1
  refine ⟨upd F x o, sm, R.st.freeze (hn rfl x rfl) nx ho, fun j m d' ej => ?_, fun j k d1 d2 a hjk e1 e2 q1 q2 => ?_, by rw [List.length_set]; exact R.len⟩
  · by_cases hj : j = i
    · subst hj
      rw [List.getElem?_set_self hi] at ej
      cases ej
      exact ⟨.ref x, ev, r, by intro z; cases z⟩
    · rw [List.getElem?_set_ne (fun z => hj z.symm)] at ej
      obtain ⟨v', ev', rp', hn'⟩ := R.slot j m d' ej
      refine ⟨v', ev', ?_, hn'⟩
      cases m with
      | false => exact RepV.mono sm _ _ rp'
      | true =>
        obtain ⟨a, rfl, na, t'⟩ := rp'
        have ax : a ≠ x := fun z => by
          subst z
          exact R.apart j i d' d a hj ej e ev' ev
        refine ⟨a, rfl, by rw [upd_ne ax]; exact na, ?_⟩
        cases d' with
        | lst ds => obtain ⟨xs, q, rr⟩ := t'; exact ⟨xs, q, rr.mono sm _ _⟩
        | dct ds => obtain ⟨xs, q, rr⟩ := t'; exact ⟨xs, q, rr.mono sm _ _⟩
        | ins c fs => obtain ⟨C, dx, gs, n, q, rr⟩ := t'; exact ⟨C, dx, gs, n, q, rr.mono sm _ _⟩
        | set ks => obtain ⟨S, q, rr⟩ := t'; exact ⟨S, q, rr⟩
        | _ => exact t'.elim
  · have own : ∀ {j : Nat} {d1 : D}, (ρ.set i (some (false, d)))[j]? = some (some (true, d1)) → ρ[j]? = some (some (true, d1)) := fun {j d1} z => by
      by_cases hj : j = i
      · subst hj
        rw [List.getElem?_set_self hi] at z
        cases z
      · rw [List.getElem?_set_ne (fun y => hj y.symm)] at z; exact z
    exact R.apart j k d1 d2 a hjk (own e1) (own e2) q1 q2
def frzS (ρ : Rho) (i : Nat) : SRes := match ρ[i]? with
  | some (some (true, d)) => .nx (ρ.set i (some (false, d)))
  | _ => .stuck
theorem pbv_frz {C : Cw} {X : Cx} {sts : List Stmt} {i : Nat} {g : Rho → SRes} (h : PBv C X sts g) : PBv C X sts (fun ρ => (frzS ρ i).thn g) := by
  refine PSs.imp h fun E σ H q => ?_
  obtain ⟨ρ, F, R, w⟩ := q
  dsimp only at w
  unfold frzS at w
  split at w
  · rename_i d e
    obtain ⟨F', sm, R'⟩ := R.frz e
    exact ⟨_, F', R', WantS.mono sm w⟩
  · exact w.elim
end D3

set_option genSizeOfSpec false
set_option genInjectivity false
namespace D3
open PySem PySem.Spec PyProof.Rows L2
/-! ### a small language for what is read off the text, its matcher and its values -/
inductive KC where | s (y : Str) | i (n : Int) | t (tb : List (Str × Str))
  deriving DecidableEq
def KC.d : KC → D | .s y => .str y | .i n => .int n | .t _ => .non
inductive GV where | con (c : KC) | fn (n : Nat) | no | cls
  deriving DecidableEq
inductive Bn where | len | isinstance
  deriving DecidableEq
def Bn.name : Bn → Str
  | .len => "len" | .isinstance => "isinstance"
def Bn.f : Bn → List (Md × D) → Option (Md × D)
  | .len => lenD | .isinstance => isiD
def Bn.id : Bn → String
  | .len => "len" | .isinstance => "isinstance"
inductive Ty where | int | bool | str | tuple | list | dict
  deriving DecidableEq
def Ty.f : Ty → List (Md × D) → Option (Md × D)
  | .tuple => tcTuple | .list => tcList | .int => tcInt2 | .str => tcStr | .dict => tcDict | _ => fun _ => none
def Ty.id : Ty → String
  | .int => "int" | .bool => "bool" | .str => "str" | .tuple => "tuple" | .list => "list" | .dict => "dict"
/-- what is known of the whole text: the defs, the objects made, the classes -/
structure WD where
  Φ : Str → List D → Res
  I : Str → Option (List D → Res)
  cl : List CI
  xt : List ((Str × Str) × Bool)
  xi : List ((Str × Str) × Bool)
def WD.xf (W : WD) : Str → Str → Option Bool := fun c x => W.xt.lookup (c, x)
def WD.xg (W : WD) : Str → Str → Option Bool := fun c x => W.xi.lookup (c, x)
inductive E where
  | var (i : Nat) | non | bl (b : Bool) | int (i : Int) | str (x : Str)
  | glob (x : Str) (c : KC) | ty (t : Ty)
  | bin (op : Operator) (a b : E) | cmp (op : CmpOp) (a b : E)
  | andL (es : List E) | orL (es : List E) | not (a : E) | neg (a : E) | tru (a : E) | frz (a : E)
  | ix (a b : E) | slice (a : E) (lo hi : Option E)
  | tup (es : List E) | lst (es : List E)
  | call (f : Str) (n : Nat) (es : List E) | bcall (b : Bn) (es : List E)
  | items (a : E) | rng1 (a : E) | enum1 (a : E)
  | comp (elt it : E) (ts : List E) (caps : List Nat) (t : Tg) (n : Nat) | fmt (a : E) | fstr (es : List E)
  | tcall (t : Ty) (es : List E)
 
  | dlist (a : E) | deed (x : Str) (tb : Tbl) (a : E) | callv (i : Nat) (fs : Fns) (n : Nat) (es : List E)
  | dnew | dix (a b : E) | din (neg : Bool) (a b : E) | deq (neg : Bool) (a b : E)
 
def noF : Md → D → Md → D → Option (Md × D) := fun _ _ _ _ => none
def fBin : Operator → Md → D → Md → D → Option (Md × D)
  | .Add => orO fAdd catD | .Sub => fSub | .Mult => orO fMul noK | .Mod => fMod | .FloorDiv => fDiv | .Pow => fPow | _ => noF
def fCmp : CmpOp → Md → D → Md → D → Option (Md × D)
  | .Lt => orO fLt noK | .LtE => fLe | .Gt => fGt | .GtE => fGe | .Eq => fEq | .NotEq => fNe | .In => orO fIn (inSq false) | .NotIn => orO fNotIn (inSq true) | .Is => fIs false | .IsNot => fIs true
mutual
def evE (W : WD) : E → Rho → Res
  | .var i, ρ => getS ρ i
  | .non, _ => .ok .fz .non
  | .bl b, _ => .ok .fz (.bl b)
  | .int i, _ => .ok .fz (.int i)
  | .str x, _ => .ok .fz (.str x)
  | .glob _ c, _ => .ok .fz c.d
  | .ty t, _ => .ok .fz (.ty t.id)
  | .bin op a b, ρ => op2 (fBin op) (evE W a ρ) (evE W b ρ)
  | .cmp op a b, ρ => op2 (fCmp op) (evE W a ρ) (evE W b ρ)
  | .andL es, ρ => evA W es ρ
  | .orL es, ρ => evO' W es ρ
  | .not a, ρ => notR (evE W a ρ)
  | .neg a, ρ => negR (evE W a ρ)
  | .tru a, ρ => truR (evE W a ρ)
  | .frz a, ρ => frzR (evE W a ρ)
  | .ix a b, ρ => op2 ixD (evE W a ρ) (evE W b ρ)
  | .slice a lo hi, ρ => slP (evE W a ρ) (evO W lo) (evO W hi) ρ
  | .tup es, ρ => tupR (evEs W es ρ)
  | .lst es, ρ => lstR (evEs W es ρ)
  | .call f n es, ρ => callF n (W.Φ f) (evEs W es ρ)
  | .bcall b es, ρ => callR b.f (evEs W es ρ)
  | .items a, ρ => itemsR (frzR (evE W a ρ))
  | .rng1 a, ρ => rng1R (consL (evE W a ρ) (.ok []))
  | .enum1 a, ρ => enumR (consL (frzR (evE W a ρ)) (.ok []))
  | .comp elt it ts caps t n, ρ => compR (evE W it ρ) ρ caps n (setG t) (fun ρ => evF W ts ρ) (fun ρ => evE W elt ρ)
  | .fmt a, ρ => fmtR (evE W a ρ)
  | .fstr es, ρ => joinF Str.empty (evL W es) ρ
  | .tcall t es, ρ => callR t.f (evEs W es ρ)
  | .dnew, _ => .ok .fr (.dct [])
  | .dlist a, ρ => callR tcKeys (consL (evE W a ρ) (.ok []))
  | .deed _ tb a, ρ => deedR tb (evE W a ρ)
  | .callv i fs n es, ρ => callV W.Φ fs n (getS ρ i) (evEs W es ρ)
  | .dix a b, ρ => op2 ixK (evE W a ρ) (evE W b ρ)
  | .deq neg a b, ρ => op2 (eqN neg) (evE W a ρ) (evE W b ρ)
  | .din neg a b, ρ => op2 (inK neg) (evE W a ρ) (evE W b ρ)
def evEs (W : WD) : List E → Rho → ResL
  | [], _ => .ok []
  | e :: es, ρ => consL (evE W e ρ) (evEs W es ρ)
def evA (W : WD) : List E → Rho → Res
  | [], _ => .stuck
  | [e], ρ => evE W e ρ
  | e :: es, ρ => andR (evE W e ρ) (evA W es ρ)
def evO' (W : WD) : List E → Rho → Res
  | [], _ => .stuck
  | [e], ρ => evE W e ρ
  | e :: es, ρ => orR (evE W e ρ) (evO' W es ρ)
def evF (W : WD) : List E → Rho → Res
  | [], _ => .ok .fz (.bl true)
  | e :: es, ρ => andR (evE W e ρ) (evF W es ρ)
def evL (W : WD) : List E → List (Rho → Res)
  | [] => []
  | e :: es => evE W e :: evL W es
def evO (W : WD) : Option E → Option (Rho → Res)
  | none => none
  | some e => some (evE W e)
end
/-- the matcher's surroundings -/
structure MG where
  G : List (Str × GV)
  mk0 : List Str
  mki : List (Str × Str × Nat)
  iso : List Str
  xcs : List Str
  xns : List Str
structure MC where
  N : List Str
  sc : Scope
  g : MG
  fn : Bool
  calm : Bool
  rz : Bool
def MC.kind (m : MC) (x : Str) : Option NameKind := m.sc.names.lookup x
def MC.vis (m : MC) (x : Str) : Bool := (m.kind x == some .local || m.kind x == some .cell || m.kind x == some .free) && x != "__debug__" && x != "__classdict__"
def MC.glob (m : MC) (x : Str) (v : GV) : Bool := m.kind x == some .globalImplicit && m.g.G.lookup x == some v && x != "__debug__" && x != "__name__"
def MC.gk (m : MC) (x : Str) : Bool := m.kind x == some .globalImplicit && x != "__debug__"
def strK (x : Str) : Bool := decide (x.length ≤ sizeLine) && PyData.strOk x
def notSl : Expr → Bool | .Slice .. => false | _ => true
def isTupT : Expr → Bool | .Tuple .. => true | _ => false
def notSet : Expr → Bool | .Set .. => false | _ => true
def plainT : Expr → Bool | .UnaryOp .Not _ _ => false | .BoolOp .. => false | .IfExp .. => false | .Compare .. => false | _ => true
def MC.sub (m : MC) (scope : Scope) (capN tgN : List Str) : MC := { m with N := capN ++ tgN, sc := { scope with names := relSc scope m.sc }, fn := false, rz := false }
def MC.loc (m : MC) (i : Nat) (x : Str) : Bool := m.N[i]? == some x && (m.kind x == some .local || (m.fn && m.kind x == some .cell))
mutual
def mG (m : MC) : Tg → Expr → Bool
  | .nm i, e => match e with | .Name x _ => m.loc i x | _ => false
  | .tp ts, e => match e with | .Tuple es _ _ => m.calm && es.all notStarT && mGs m ts es | _ => false
def mGs (m : MC) : List Tg → List Expr → Bool
  | [], es => es.isEmpty
  | t :: ts, l => match l with | e :: es => mG m t e && mGs m ts es | _ => false
end
/-- the names of a target, from the left -/
def tgNames : Nat → Expr → List Str
  | _, .Name x _ => [x]
  | n + 1, .Tuple es _ _ => es.flatMap (tgNames n)
  | _, _ => []
def compOkT (scope sc : Scope) (N : List Str) (caps : List Nat) (capN tgN : List Str) : Bool :=
  scope.names.all (fun y => y.2 != .cell) && scope.kind == .function && scope.names.all (fun y => y.2 != .local || scope.names.lookup y.1 == some .local) &&
  scope.names.all (fun y => y.2 != .free || sc.names.lookup y.1 == some .cell || sc.names.lookup y.1 == some .free) && (capN.map some == caps.map fun i => N[i]?) && capN.all (fun y => scope.names.contains (y, .free)) &&
  capN.all (fun y => (relSc scope sc).lookup y == some .cell || (relSc scope sc).lookup y == some .free) && decide (capN ++ tgN).Nodup
def strK' : KC → Bool | .s y => strK y | .i _ => true | .t _ => false
mutual
def mE (m : MC) : E → Expr → Bool
  | .frz a, e => mE m a e
  | .var i, e => match e with | .Name x _ => m.N[i]? == some x && m.vis x | _ => false
  | .glob y c, e => match e with | .Name x _ => x == y && m.glob x (.con c) && strK' c | _ => false
  | .ty t, e => match e with | .Name x _ => x == (t.id : Str) && m.glob x .no | _ => false
  | .non, e => match e with | .Constant .none _ _ => true | _ => false
  | .bl c, e => match e with | .Constant (.bool b) _ _ => b == c | _ => false
  | .int c, e => match e with | .Constant (.int b) _ _ => b == c | _ => false
  | .str c, e => match e with | .Constant (.str b) _ _ => b == c && strK b | _ => false
  | .bin op a b, e => match e with | .BinOp x o y _ => o == op && (mE m a x && mE m b y) | _ => false
  | .cmp op a b, e => match e with | .Compare x [o] [y] _ => o == op && notSet y && (mE m a x && mE m b y) | _ => false
  | .andL es, e => match e with | .BoolOp .And xs _ => mEs m es xs | _ => false
  | .orL es, e => match e with | .BoolOp .Or xs _ => mEs m es xs | _ => false
  | .not a, e => match e with | .UnaryOp .Not x _ => mE m a x | _ => false
  | .neg a, e => match e with | .UnaryOp .USub x _ => mE m a x | _ => false
  | .slice a l h, e => match e with | .Subscript x (.Slice lo hi none _) _ => mE m a x && (mO m l lo && mO m h hi) | _ => false
  | .ix a b, e => match e with | .Subscript x y _ => notSl y && (mE m a x && mE m b y) | _ => false
  | .tup fs, e => match e with | .Tuple es _ _ => mEs m fs es | _ => false
  | .lst fs, e => match e with | .List es _ => mEs m fs es | _ => false
  | .call g n es, e => match e with | .Call (.Name f _) (x :: xs) [] _ => m.calm && f == g && m.glob f (.fn n) && mEs m es (x :: xs) | _ => false
  | .bcall b es, e => match e with | .Call (.Name f _) (x :: xs) [] _ => (m.calm || b == .len || b == .isinstance) && f == b.name && m.glob f .no && mEs m es (x :: xs) | _ => false
  | .tcall t es, e => match e with | .Call (.Name f _) (x :: xs) [] _ => f == (t.id : Str) && m.glob f .no && mEs m es (x :: xs) | _ => false
  | .dnew, e => match e with | .Dict [] [] _ => true | _ => false
  | .dlist a, e => match e with | .Call (.Name f _) [x] [] _ => m.calm && f == "list" && m.glob f .no && notStar x && mE m a x | _ => false
  | .deed y tb a, e => match e with | .Subscript (.Name x _) b _ => x == y && m.glob x (.con (.t tb)) && notSl b && mE m a b | _ => false
  | .callv i fs n es, e => match e with | .Call (.Name f _) (x :: xs) [] _ => m.calm && m.N[i]? == some f && m.vis f && fs.all (fun g => m.g.G.lookup g == some (.fn n)) && mEs m es (x :: xs) | _ => false
  | .deq neg a b, e => match e with | .Compare x [o] [y] _ => o == (if neg then .NotEq else .Eq) && notSet y && (mE m a x && mE m b y) | _ => false
  | .dix a b, e => match e with | .Subscript x y _ => notSl y && (mE m a x && mE m b y) | _ => false
  | .din neg a b, e => match e with | .Compare x [o] [y] _ => o == (if neg then .NotIn else .In) && notSet y && (mE m a x && mE m b y) | _ => false
  | .comp el it ts caps t n, e => match e with
    | .ListComp elt [⟨tg, iter, ifs, 0⟩] scope _ =>
      let capN := caps.filterMap fun i => m.N[i]?
      let tgN := tgNames 4 tg
      m.calm && compOkT scope m.sc m.N caps capN tgN && notSet iter && decide (tgN.length = n) && (slotsG t).all (fun j => decide (caps.length ≤ j)) && mG (m.sub scope capN tgN) t tg && (mI m tg it iter && (mE (m.sub scope capN tgN) el elt && mF (m.sub scope capN tgN) ts ifs))
    | _ => false
  | .fmt a, e => match e with | .FormattedValue x k none _ => k == -1 && mE m a x | _ => false
  | .fstr es, e => match e with | .JoinedStr (x :: y :: xs) _ => mEs m es (x :: y :: xs) | _ => false
  | .tru _, _ => false
  | .items _, _ => false
  | .rng1 _, _ => false
  | .enum1 _, _ => false
def mT (m : MC) : E → Expr → Bool
  | .tru a, e => plainT e && mE m a e
  | .deq neg a b, e => match e with | .Compare x [o] [y] _ => o == (if neg then .NotEq else .Eq) && notSet y && (mE m a x && mE m b y) | _ => false
  | .din neg a b, e => match e with | .Compare x [o] [y] _ => o == (if neg then .NotIn else .In) && notSet y && (mE m a x && mE m b y) | _ => false
  | .cmp op a b, e => match e with | .Compare x [o] [y] _ => o == op && notSet y && (mE m a x && mE m b y) | _ => false
  | .andL es, e => match e with | .BoolOp .And xs _ => mF m es xs | _ => false
  | .orL es, e => match e with | .BoolOp .Or xs _ => mF m es xs | _ => false
  | .not a, e => match e with | .UnaryOp .Not x _ => mT m a x | _ => false
  | _, _ => false
def mI (m : MC) (tg : Expr) : E → Expr → Bool
  | .items a, e => mE m a e
  | .rng1 a, e => match e with | .Call (.Name f _) [x] [] _ => f == "range" && m.glob f .no && notStar x && mE m a x | _ => false
  | .enum1 a, e => match e with | .Call (.Name f _) [x] [] _ => f == "enumerate" && isTupT tg && m.glob f .no && notStar x && mE m a x | _ => false
  | _, _ => false
def mEs (m : MC) : List E → List Expr → Bool
  | [], es => es.isEmpty
  | e :: es, l => match l with | x :: xs => notStar x && mE m e x && mEs m es xs | _ => false
def mO (m : MC) : Option E → Option Expr → Bool
  | none, e => e.isNone
  | some e, l => match l with | some x => mE m e x | _ => false
def mF (m : MC) : List E → List Expr → Bool
  | [], es => es.isEmpty
  | e :: es, l => match l with | x :: xs => mT m e x && mF m es xs | _ => false
end
/-- what a text's surroundings give -/
structure SX (k : Nat) (W : WD) (m : MC) (C : Cw) (X : Cx) : Prop where
  hN : X.N = m.N
  hs : X.env.scope = m.sc
  cm : m.calm = true → X.calm = true
  rm : m.calm = true → Room k X.A
  un : X.A.units + 64 < cLine
  xo : m.calm = true → XOk (CX1 X.prog X.w) (C.at X) X
  xt : XtOk X.K X.mg W.xf
  xi : XisOk X.K X.mg W.xg
  xc : ∀ c, c ∈ m.g.xcs → ∃ Cc, X.mg c = some (.ref Cc) ∧ RzCls X.K Cc
  xn : ∀ n, n ∈ m.g.xns → ∃ cv, ClsV X.mg n cv
  con : ∀ x c, m.g.G.lookup x = some (.con c) → match c with | .s y => ∃ t, X.mg x = some (.str y t) | .i n => ∃ t, X.mg x = some (.int n t) | .t tb => TabV X.w X.K X.mg x tb
  no : ∀ x, m.g.G.lookup x = some .no → X.mg x = none
  mk0 : ∀ c, c ∈ m.g.mk0 → MkV0 X.K X.mg c
  mki : ∀ c key n, (c, key, n) ∈ m.g.mki → ∀ Φ, W.I key = some Φ → ∃ j, j + 1 ≤ k ∧ InV X.prog X.w X.K X.mg X.base (CX1 X.prog X.w) j c n Φ
  iso : ∀ c, c ∈ m.g.iso → IsV X.K X.mg W.cl c
  fl : ∀ i f, i ∈ W.cl → f ∈ i.flds → FlV X.K i.name f
  mt : ∀ c m key n, CI.meth W.cl c m = some (key, n) → MtV X.prog X.w X.K X.mg X.base (CX1 X.prog X.w) k c m n (W.Φ key)
  fn : ∀ x n, m.g.G.lookup x = some (.fn n) → FnV X.prog X.w X.K X.mg X.base (CX1 X.prog X.w) k x n (W.Φ x)
  fnn : m.fn = true → ∀ x, X.fn x = true
section
variable {k : Nat} {W : WD} {m : MC} {C : Cw} {X : Cx} {x y : Expr}
theorem SX.gl (S : SX k W m C X) {z : Str} {v : GV} (h : m.glob z v = true) : Gl X z ∧ m.g.G.lookup z = some v ∧ (z == ("__debug__" : Str)) = false ∧ z ≠ "__name__" := by
  unfold MC.glob MC.kind at h
  simp only [Bool.and_eq_true, beq_iff_eq, bne_iff_ne] at h
  obtain ⟨⟨⟨h1, h2⟩, h3⟩, h4⟩ := h
  refine ⟨?_, h2, by simpa using h3, h4⟩
  show X.env.scope.names.lookup z = _
  rw [S.hs]; exact h1
theorem SX.gk (S : SX k W m C X) {z : Str} (h : m.gk z = true) : Gl X z ∧ (z == ("__debug__" : Str)) = false := by
  unfold MC.gk MC.kind at h
  simp only [Bool.and_eq_true, beq_iff_eq, bne_iff_ne] at h
  refine ⟨?_, by simpa using h.2⟩
  show X.env.scope.names.lookup z = _
  rw [S.hs]; exact h.1
theorem SX.vis (S : SX k W m C X) {z : Str} (h : m.vis z = true) : Vis X.env.scope z ∧ (z == ("__debug__" : Str)) = false ∧ (z == ("__classdict__" : Str)) = false := by
  unfold MC.vis MC.kind at h
  simp only [Bool.and_eq_true, Bool.or_eq_true, beq_iff_eq, bne_iff_ne] at h
  obtain ⟨⟨h1, h2⟩, h3⟩ := h
  refine ⟨?_, by simpa using h2, by simpa using h3⟩
  unfold Vis
  rw [S.hs]
  rcases h1 with (h1 | h1) | h1
  · exact .inl h1
  · exact .inr (.inl h1)
  · exact .inr (.inr h1)
theorem bn_boot (b : Bn) : bootBuiltins b.name = some (.builtin b.id) := by
  cases b
  · exact bb_len
  · exact bb_isinstance
theorem bn_call (b : Bn) {c : Bool} (hc : c = true → X.calm = true) (h : (c || b == .len || b == .isinstance) = true) : CallD X (.builtin b.id) b.f := by
  have hc : (b == .len || b == .isinstance) = false → X.calm = true := fun z => hc (by cases c with | true => rfl | false => rw [Bool.false_or] at h; rw [h] at z; cases z)
  cases b
  · exact calld_len
  · exact calld_isi
theorem no_call {f : Value} : CallD X f (fun _ => none) := ⟨fun _ _ _ => False, fun _ _ _ _ _ _ _ _ _ h => h.elim, fun _ _ _ _ _ _ _ _ _ e _ => by cases e⟩
theorem ty_call (t : Ty) : CallD X (.type t.id) t.f := by
  cases t
  · exact calld_int2
  · exact no_call
  · exact calld_str
  · exact calld_tuple
  · exact calld_list
  · exact calld_dict
theorem ty_boot (t : Ty) : bootBuiltins (t.id : Str) = some (.type t.id) := by
  cases t
  · exact bb_int
  · exact bb_bool
  · exact bb_str
  · exact bb_tuple
  · exact bb_list
  · exact bb_dict
theorem bin_op (op : Operator) : (∃ φ, fBin op = φ ∧ OpD C X (binaryOp op) φ) ∨ fBin op = noF := by
  cases op
  case Add => exact .inl ⟨_, rfl, o_add.or opd_cat⟩
  case Sub => exact .inl ⟨_, rfl, opd_sub⟩
  case Mult => exact .inl ⟨_, rfl, o_mul.or opd_noK⟩
  case Mod => exact .inl ⟨_, rfl, opd_mod⟩
  case FloorDiv => exact .inl ⟨_, rfl, opd_fdiv⟩
  case Pow => exact .inl ⟨_, rfl, opd_pow⟩
  all_goals exact .inr rfl
theorem isB_inK {neg : Bool} : IsB (inK neg) := fun m x n y k d e => by
  unfold inK at e
  split at e
  · cases e; exact ⟨_, rfl, rfl⟩
  · cases e
theorem isB_eqN {neg : Bool} : IsB (eqN neg) := fun m x n y k d e => by
  unfold eqN at e
  split at e
  · rename_i ka kb
    cases eh : hitsD kb ka with
    | none => rw [eh] at e; cases e
    | some r => rw [eh] at e; cases e; exact ⟨_, rfl, rfl⟩
  · cases e
theorem isB_noK : IsB noK := fun _ _ _ _ _ _ z => by cases z
theorem cmp_op (op : CmpOp) (hu : X.A.units + 64 < cLine) : (OpD C X (compareOp op) (fCmp op) ∧ IsB (fCmp op)) ∨ fCmp op = noF := by
  cases op
  case Lt => exact .inl ⟨opd_lt.or opd_noK, isB_or isB_I isB_noK⟩
  case LtE => exact .inl ⟨opd_le, isB_I⟩
  case Gt => exact .inl ⟨opd_gt, isB_I⟩
  case GtE => exact .inl ⟨opd_ge, isB_I⟩
  case Eq => exact .inl ⟨o_eq hu, isB_or isB_eqF isB_noK⟩
  case NotEq => exact .inl ⟨o_ne hu, isB_or isB_eqF isB_noK⟩
  case In => exact .inl ⟨opd_inS.or (opd_insq op_in_seq), isB_or isB_S isB_insq⟩
  case NotIn => exact .inl ⟨opd_notinS.or (opd_insq op_notIn_seq), isB_or isB_S isB_insq⟩
  case Is => exact .inl ⟨opd_is, isB_is⟩
  case IsNot => exact .inl ⟨opd_isnot, isB_is⟩
theorem noF_opd {f : Value → Value → Sem Value} : OpD C X f noF := ⟨fun _ _ _ _ => False, fun _ _ _ _ _ _ _ _ _ _ _ _ h => h.elim, fun _ _ _ _ _ _ _ _ _ _ _ _ _ _ e _ => by cases e⟩
theorem bin_opd (op : Operator) : OpD C X (binaryOp op) (fBin op) := by
  rcases bin_op (C := C) (X := X) op with ⟨φ, e, h⟩ | e
  · rw [e]; exact h
  · rw [e]; exact noF_opd
theorem cmp_opd (op : CmpOp) (hu : X.A.units + 64 < cLine) : OpD C X (compareOp op) (fCmp op) ∧ IsB (fCmp op) := by
  rcases cmp_op (C := C) op hu with h | e
  · exact h
  · rw [e]; exact ⟨noF_opd, fun _ _ _ _ _ _ z => by cases z⟩
theorem nomarkS (op : CmpOp) {e : Expr} (h : notSet e = true) : behindInMarks op e = false := by
  cases e <;> first | rfl | cases h
theorem nofold {e : Expr} {env : Env} (h : notSet e = true) : ∀ v, foldedSetIterable e env v = pure v := by
  intro v
  cases e <;> first | rfl | cases h
theorem plainIx {e : Expr} (h : notSl e = true) : PlainIx e := by
  intro o i
  cases e <;> first | rfl | cases h
theorem noSl {e : Expr} (h : notSl e = true) : NoSl e := by
  intro o i
  cases e <;> first | rfl | cases h
theorem plain_true {e : Expr} {env : Env} (h : plainT e = true) : ∀ whole, isTrue e env whole = (do let v ← whole; standAt e.pos; holding [v] (truthy v)) := by
  intro whole
  cases e
  case UnaryOp op _ _ => cases op <;> first | rfl | cases h
  all_goals first | rfl | cases h
theorem SX.sub (S : SX k W m C X) {scope : Scope} {capN tgN : List Str} (cl : List (Str × Addr)) (A : Addr) (fp : List Addr) (s3 : Shared) (H3 : Hp) : SX k W (m.sub scope capN tgN) C.nox (compCx X scope (capN ++ tgN) cl A fp s3 H3) := by
  refine ⟨rfl, ?_, S.cm, S.rm, S.un, fun _ pins σ H s e s' I h => ?_, S.xt, S.xi, S.xc, S.xn, S.con, S.no, S.mk0, S.mki, S.iso, S.fl, S.mt, S.fn, fun z => by cases z⟩
  rotate_left
  · obtain ⟨_, _, _, _, _, _, _, _, _, _, _, _, z⟩ := h
    exact z.elim
  show (compEnvC scope cl A X.env).scope = _
  unfold MC.sub
  rw [← S.hs]
  rfl
theorem SX.loc (S : SX k W m C X) {i : Nat} {z : Str} (h : m.loc i z = true) : X.N[i]? = some z ∧ L2.Loc X.env.scope z ∧ (X.fn z = true ∨ X.env.scope.names.lookup z = some .local) := by
  unfold MC.loc MC.kind at h
  simp only [Bool.and_eq_true, Bool.or_eq_true, beq_iff_eq] at h
  refine ⟨by rw [S.hN]; exact h.1, ?_, ?_⟩
  · unfold L2.Loc
    rw [S.hs]
    rcases h.2 with q | q
    · exact .inl q
    · exact .inr q.2
  · rw [S.hs]
    rcases h.2 with q | q
    · exact .inr q
    · exact .inl (S.fnn q.1 z)
mutual
theorem sG (S : SX k W m C X) (hN : m.N.Nodup) : ∀ (t : Tg) {e : Expr}, mG m t e = true → PGw X e t
  | .nm i, e, h => by
    simp only [mG] at h
    split at h
    · obtain ⟨a, b, c⟩ := S.loc h
      exact pgw_name (by rw [S.hN]; exact hN) a b c
    · cases h
  | .tp ts, e, h => by
    simp only [mG] at h
    split at h
    · rw [Bool.and_eq_true, Bool.and_eq_true, List.all_eq_true] at h
      obtain ⟨p, l⟩ := sGs S hN ts h.2 h.1.2
      exact pgw_tup (S.cm h.1.1) p h.1.2 l
    · cases h
theorem sGs (S : SX k W m C X) (hN : m.N.Nodup) : ∀ (ts : List Tg) {es : List Expr}, mGs m ts es = true → (∀ e ∈ es, notStarT e = true) → PGws X es ts ∧ es.length = ts.length
  | [], [], h, _ => ⟨pgws_nil, rfl⟩
  | [], _ :: _, h, _ => by simp [mGs] at h
  | t :: ts, [], h, _ => by simp [mGs] at h
  | t :: ts, e :: es, h, hs => by
    simp only [mGs, Bool.and_eq_true] at h
    obtain ⟨p, l⟩ := sGs S hN ts h.2 fun x hx => hs x (List.mem_cons_of_mem _ hx)
    exact ⟨pgws_cons (sG S hN t h.1) p (hs e List.mem_cons_self), by rw [List.length_cons, List.length_cons, l]⟩
end
end
end D3

namespace D3
open PySem PySem.Spec PyProof.Rows L2
theorem mEs_star {m : MC} : ∀ {fs : List E} {es : List Expr}, mEs m fs es = true → ∀ x ∈ es, notStar x = true
  | [], [], _ => fun x hx => by cases hx
  | [], _ :: _, h => by simp [mEs] at h
  | f :: fs, [], h => by simp [mEs] at h
  | f :: fs, e :: es, h => by
    simp only [mEs, Bool.and_eq_true] at h
    intro x hx
    rcases List.mem_cons.mp hx with rfl | hx
    · exact h.1.1
    · exact mEs_star h.2 x hx
set_option maxHeartbeats 4000000 in
mutual
theorem sE {k : Nat} {W : WD} : ∀ (f : E) {m : MC} {C : Cw} {X : Cx} {e : Expr}, SX k W m C X → mE m f e = true → PV C X e (evE W f)
  | .frz a, m, C, X, e, S, h => by exact pv_frz (sE a S h)
  | .var i, m, C, X, e, S, h => by
    conv at h => lhs; whnf
    split at h
    · simp only [Bool.and_eq_true, beq_iff_eq] at h
      obtain ⟨h1, h2, h3⟩ := S.vis h.2
      exact pv_var i (pe_var (by rw [S.hN]; exact h.1) h1 h2 h3)
    · cases h
  | .glob y c, m, C, X, e, S, h => by
    conv at h => lhs; whnf
    split at h
    · simp only [Bool.and_eq_true, beq_iff_eq] at h
      obtain ⟨⟨rfl, h1⟩, h2⟩ := h
      obtain ⟨g, l, hd, hn⟩ := S.gl h1
      have := S.con _ _ l
      cases c with
      | s y => obtain ⟨t, ht⟩ := this; exact pv_globS g ht h2 hd
      | i n => obtain ⟨t, ht⟩ := this; exact pv_globI g ht hd
      | t tb => cases h2
    · cases h
  | .ty t, m, C, X, e, S, h => by
    conv at h => lhs; whnf
    split at h
    · simp only [Bool.and_eq_true, beq_iff_eq] at h
      obtain ⟨rfl, h1⟩ := h
      obtain ⟨g, l, hd, hn⟩ := S.gl h1
      exact pv_ty g (S.no _ l) (ty_boot t) hn hd
    · cases h
  | .non, m, C, X, e, S, h => by
    conv at h => lhs; whnf
    split at h
    · exact pv_non
    · cases h
  | .bl c, m, C, X, e, S, h => by
    conv at h => lhs; whnf
    split at h
    · simp only [beq_iff_eq] at h; subst h; exact pv_bl
    · cases h
  | .int c, m, C, X, e, S, h => by
    conv at h => lhs; whnf
    split at h
    · simp only [beq_iff_eq] at h; subst h; exact pv_int
    · cases h
  | .str c, m, C, X, e, S, h => by
    conv at h => lhs; whnf
    split at h
    · simp only [Bool.and_eq_true, beq_iff_eq] at h; obtain ⟨rfl, h⟩ := h; exact pv_str h
    · cases h
  | .bin op a b, m, C, X, e, S, h => by
    conv at h => lhs; whnf
    split at h
    · simp only [Bool.and_eq_true, beq_iff_eq] at h
      obtain ⟨rfl, h1, h2⟩ := h
      exact pv_op (bin_opd _) (sE a S h1) (sE b S h2)
    · cases h
  | .cmp op a b, m, C, X, e, S, h => by
    conv at h => lhs; whnf
    split at h
    · simp only [Bool.and_eq_true, beq_iff_eq] at h
      obtain ⟨⟨rfl, hs⟩, h1, h2⟩ := h
      exact pv_cmp (cmp_opd _ S.un).1 (sE a S h1) (sE b S h2) (nomarkS _ hs)
    · cases h
  | .andL es, m, C, X, e, S, h => by
    conv at h => lhs; whnf
    split at h
    · exact sA es S h
    · cases h
  | .orL es, m, C, X, e, S, h => by
    conv at h => lhs; whnf
    split at h
    · exact sOr es S h
    · cases h
  | .not a, m, C, X, e, S, h => by
    conv at h => lhs; whnf
    split at h
    · exact pv_notv (sE a S h)
    · cases h
  | .neg a, m, C, X, e, S, h => by
    conv at h => lhs; whnf
    split at h
    · exact pv_neg (sE a S h)
    · cases h
  | .tru a, m, C, X, e, S, h => by cases h
  | .items a, m, C, X, e, S, h => by cases h
  | .rng1 a, m, C, X, e, S, h => by cases h
  | .enum1 a, m, C, X, e, S, h => by cases h
  | .dnew, m, C, X, e, S, h => by
    conv at h => lhs; whnf
    split at h
    · exact pv_dnew
    · cases h
  | .tcall t es, m, C, X, e, S, h => by
    conv at h => lhs; whnf
    split at h
    · simp only [Bool.and_eq_true, beq_iff_eq] at h
      obtain ⟨⟨rfl, h1⟩, h2⟩ := h
      obtain ⟨gl, l, hd, hn⟩ := S.gl h1
      exact pv_callTy (ty_call t) gl (S.no _ l) (ty_boot t) (sEs es S h2) hn hd (mEs_star h2)
    · cases h
  | .slice a l u, m, C, X, e, S, h => by
    conv at h => lhs; whnf
    split at h
    · simp only [Bool.and_eq_true] at h
      obtain ⟨h0, h1, h2⟩ := h
      exact pv_cut (sE a S h0) (sO l S h1) (sO u S h2)
    · cases h
  | .ix a b, m, C, X, e, S, h => by
    conv at h => lhs; whnf
    split at h
    · simp only [Bool.and_eq_true] at h
      obtain ⟨h0, h1, h2⟩ := h
      exact pv_ix (sE a S h1) (sE b S h2) (plainIx h0)
    · cases h
  | .dlist a, m, C, X, e, S, h => by
    conv at h => lhs; whnf
    split at h
    · simp only [Bool.and_eq_true, beq_iff_eq] at h
      obtain ⟨⟨⟨⟨hq, rfl⟩, h1⟩, hs⟩, h2⟩ := h
      obtain ⟨gl, l, hd, hn⟩ := S.gl h1
      exact pv_callTy (calld_keys (S.cm hq)) gl (S.no _ l) bb_list (pav_cons (sE a S h2) pav_nil (star_cons hs)) hn hd (fun y hy => by rw [List.mem_singleton] at hy; subst hy; exact hs)
    · cases h
  | .deed y tb a, m, C, X, e, S, h => by
    conv at h => lhs; whnf
    split at h
    · simp only [Bool.and_eq_true, beq_iff_eq] at h
      obtain ⟨⟨⟨rfl, h1⟩, h2⟩, h3⟩ := h
      obtain ⟨gl, l, hd, hn⟩ := S.gl h1
      exact pv_deed (S.con _ _ l) gl (sE a S h3) (noSl h2) hd
    · cases h
  | .callv i fs n es, m, C, X, e, S, h => by
    conv at h => lhs; whnf
    split at h
    · rename_i f p x xs cp
      simp only [Bool.and_eq_true, beq_iff_eq, List.all_eq_true] at h
      obtain ⟨⟨⟨⟨hq, h1⟩, h2⟩, h3⟩, h4⟩ := h
      obtain ⟨v1, v2, v3⟩ := S.vis h2
      have st := mEs_star h4
      exact pv_callv (fun g hg => S.fn g n (h3 g (List.contains_iff_mem.mp hg))) (S.rm hq) (S.xo hq) (pe_var (by rw [S.hN]; exact h1) v1 v2 v3) (sEs es S h4) (star_cons (st x List.mem_cons_self)) (star_any _ _ fun y hy => st y (List.mem_cons_of_mem _ hy))
    · cases h
  | .deq neg a b, m, C, X, e, S, h => by
    conv at h => lhs; whnf
    split at h
    · simp only [Bool.and_eq_true, beq_iff_eq] at h
      obtain ⟨⟨ho, hs⟩, h1, h2⟩ := h
      cases neg with
      | false => cases (show _ = CmpOp.Eq from ho); exact pv_cmp (opd_eqN S.un) (sE a S h1) (sE b S h2) (nomarkS _ hs)
      | true => cases (show _ = CmpOp.NotEq from ho); exact pv_cmp (opd_neN S.un) (sE a S h1) (sE b S h2) (nomarkS _ hs)
    · cases h
  | .dix a b, m, C, X, e, S, h => by
    conv at h => lhs; whnf
    split at h
    · simp only [Bool.and_eq_true] at h
      obtain ⟨h0, h1, h2⟩ := h
      exact pv_dix (Nat.lt_of_le_of_lt (Nat.add_le_add_left (by decide : 1 ≤ 64) _) S.un) (sE a S h1) (sE b S h2) (plainIx h0)
    · cases h
  | .din neg a b, m, C, X, e, S, h => by
    conv at h => lhs; whnf
    split at h
    · simp only [Bool.and_eq_true, beq_iff_eq] at h
      obtain ⟨⟨ho, hs⟩, h1, h2⟩ := h
      exact pv_din ho (Nat.lt_of_le_of_lt (Nat.add_le_add_left (by decide : 1 ≤ 64) _) S.un) (sE a S h1) (sE b S h2) (nomarkS _ hs)
    · cases h
  | .tup es, m, C, X, e, S, h => by
    conv at h => lhs; whnf
    split at h
    · exact pv_tup (sEs es S h)
    · cases h
  | .lst es, m, C, X, e, S, h => by
    conv at h => lhs; whnf
    split at h
    · exact pv_lst (sEs es S h)
    · cases h
  | .call g n es, m, C, X, e, S, h => by
    conv at h => lhs; whnf
    split at h
    · rename_i f p x xs cp
      simp only [Bool.and_eq_true, beq_iff_eq] at h
      obtain ⟨⟨⟨hq, rfl⟩, h1⟩, h2⟩ := h
      obtain ⟨gl, l, hd, hn⟩ := S.gl h1
      have st := mEs_star h2
      exact pv_call (S.fn _ _ l) (S.rm hq) (S.xo hq) gl (sEs es S h2) hd (star_cons (st x List.mem_cons_self)) (star_any _ _ fun y hy => st y (List.mem_cons_of_mem _ hy))
    · cases h
  | .bcall b es, m, C, X, e, S, h => by
    conv at h => lhs; whnf
    split at h
    · rename_i f p x xs cp
      rw [Bool.and_eq_true, Bool.and_eq_true, Bool.and_eq_true] at h
      obtain ⟨⟨⟨hq, hz⟩, h1⟩, h2⟩ := h
      cases (beq_iff_eq.mp hz)
      obtain ⟨gl, l, hd, hn⟩ := S.gl h1
      have st := mEs_star h2
      exact pv_callB (bn_call b S.cm hq) gl (S.no _ l) (bn_boot b) (sEs es S h2) hn hd (star_cons (st x List.mem_cons_self)) (star_any _ _ fun y hy => st y (List.mem_cons_of_mem _ hy))
    · cases h
  | .comp el it ts caps t n, m, C, X, e, S, h => by
    conv at h => lhs; whnf
    split at h
    · rename_i elt tg iter ifs scope cp
      simp only [Bool.and_eq_true, decide_eq_true_eq, List.all_eq_true] at h
      obtain ⟨⟨⟨⟨⟨⟨hq, ho⟩, hn⟩, hl⟩, hs⟩, hg⟩, h1, h2, h3⟩ := h
      unfold compOkT at ho
      simp only [Bool.and_eq_true, List.all_eq_true, Bool.or_eq_true, bne_iff_ne, beq_iff_eq, decide_eq_true_eq, List.contains_iff_mem] at ho
      obtain ⟨⟨⟨⟨⟨⟨⟨g1, g2⟩, g3⟩, g4⟩, g5⟩, g6⟩, g7⟩, g8⟩ := ho
      have er : (relabel scope X.env).names = relSc scope m.sc := by rw [← S.hs]; rfl
      have := pv_compT (pos := cp) (tgN := tgNames 4 tg) (t := t) (S.cm hq) (sI it S h1) g1 g2 (fun y hy e => (g3 y hy).resolve_left fun z => z e) (fun y hy e => by
          have := g4 y hy
          show X.env.scope.names.lookup y.1 = _ ∨ X.env.scope.names.lookup y.1 = _
          rw [S.hs]
          rcases this with (z | z) | z
          · exact absurd e z
          · exact .inl z
          · exact .inr z) (by rw [S.hN]; exact g5) g6 (fun y hy => by rw [er]; exact g7 y hy) (fun j hj => hs j hj) (fun cl A fp s3 H3 => sG (S.sub cl A fp s3 H3) g8 t hg)
          (fun cl A fp s3 H3 => sF ts (S.sub cl A fp s3 H3) h3) (fun cl A fp s3 H3 => sE el (S.sub cl A fp s3 H3) h2) (nofold hn)
      rw [hl] at this
      exact this
    · cases h
  | .fmt a, m, C, X, e, S, h => by
    conv at h => lhs; whnf
    split at h
    · simp only [Bool.and_eq_true, beq_iff_eq] at h
      obtain ⟨rfl, h⟩ := h
      exact pv_fmt (sE a S h)
    · cases h
  | .fstr es, m, C, X, e, S, h => by
    conv at h => lhs; whnf
    split at h
    · exact pv_fstr (sL es S h)
    · cases h
theorem sT {k : Nat} {W : WD} : ∀ (f : E) {m : MC} {C : Cw} {X : Cx} {e : Expr}, SX k W m C X → mT m f e = true → PTv C X e (evE W f)
  | .tru a, m, C, X, e, S, h => by
    simp only [mT, Bool.and_eq_true] at h
    exact pt_tru (sE a S h.2) (plain_true h.1)
  | .cmp op a b, m, C, X, e, S, h => by
    conv at h => lhs; whnf
    split at h
    · simp only [Bool.and_eq_true, beq_iff_eq] at h
      obtain ⟨⟨rfl, hs⟩, h1, h2⟩ := h
      exact pt_cmpv (cmp_opd _ S.un).1 (cmp_opd (C := C) _ S.un).2 (sE a S h1) (sE b S h2) (nomarkS _ hs)
    · cases h
  | .deq neg a b, m, C, X, e, S, h => by
    conv at h => lhs; whnf
    split at h
    · simp only [Bool.and_eq_true, beq_iff_eq] at h
      obtain ⟨⟨ho, hs⟩, h1, h2⟩ := h
      cases neg with
      | false => cases (show _ = CmpOp.Eq from ho); exact pt_cmpv (opd_eqN S.un) isB_eqN (sE a S h1) (sE b S h2) (nomarkS _ hs)
      | true => cases (show _ = CmpOp.NotEq from ho); exact pt_cmpv (opd_neN S.un) isB_eqN (sE a S h1) (sE b S h2) (nomarkS _ hs)
    · cases h
  | .din neg a b, m, C, X, e, S, h => by
    conv at h => lhs; whnf
    split at h
    · simp only [Bool.and_eq_true, beq_iff_eq] at h
      obtain ⟨⟨ho, hs⟩, h1, h2⟩ := h
      have hu : X.A.units + 1 < cLine := Nat.lt_of_le_of_lt (Nat.add_le_add_left (by decide : 1 ≤ 64) _) S.un
      cases neg with
      | false => cases (show _ = CmpOp.In from ho); exact pt_cmpv (opd_inK hu) isB_inK (sE a S h1) (sE b S h2) (nomarkS _ hs)
      | true => cases (show _ = CmpOp.NotIn from ho); exact pt_cmpv (opd_notinK hu) isB_inK (sE a S h1) (sE b S h2) (nomarkS _ hs)
    · cases h
  | .andL es, m, C, X, e, S, h => by
    conv at h => lhs; whnf
    split at h
    · exact pt_w (sWA es S h)
    · cases h
  | .orL es, m, C, X, e, S, h => by
    conv at h => lhs; whnf
    split at h
    · exact pt_w (sWO es S h)
    · cases h
  | .not a, m, C, X, e, S, h => by
    conv at h => lhs; whnf
    split at h
    · exact pt_notv (sT a S h)
    · cases h
  | .frz a, m, C, X, e, S, h => by cases h
  | .var i, m, C, X, e, S, h => by cases h
  | .glob y c, m, C, X, e, S, h => by cases h
  | .ty t, m, C, X, e, S, h => by cases h
  | .non, m, C, X, e, S, h => by cases h
  | .bl c, m, C, X, e, S, h => by cases h
  | .int c, m, C, X, e, S, h => by cases h
  | .str c, m, C, X, e, S, h => by cases h
  | .bin op a b, m, C, X, e, S, h => by cases h
  | .neg a, m, C, X, e, S, h => by cases h
  | .items a, m, C, X, e, S, h => by cases h
  | .rng1 a, m, C, X, e, S, h => by cases h
  | .enum1 a, m, C, X, e, S, h => by cases h
  | .dnew, m, C, X, e, S, h => by cases h
  | .dix a b, m, C, X, e, S, h => by cases h
  | .dlist a, m, C, X, e, S, h => by cases h
  | .deed x tb a, m, C, X, e, S, h => by cases h
  | .callv i fs n es, m, C, X, e, S, h => by cases h
  | .slice a l u, m, C, X, e, S, h => by cases h
  | .ix a b, m, C, X, e, S, h => by cases h
  | .tup es, m, C, X, e, S, h => by cases h
  | .lst es, m, C, X, e, S, h => by cases h
  | .call g n es, m, C, X, e, S, h => by cases h
  | .bcall b es, m, C, X, e, S, h => by cases h
  | .comp el it ts caps t n, m, C, X, e, S, h => by cases h
  | .fmt a, m, C, X, e, S, h => by cases h
  | .fstr es, m, C, X, e, S, h => by cases h
  | .tcall t es, m, C, X, e, S, h => by cases h
theorem sI {k : Nat} {W : WD} : ∀ (f : E) {m : MC} {C : Cw} {X : Cx} {tg e : Expr}, SX k W m C X → mI m tg f e = true → PIv C X tg e (evE W f)
  | .items a, m, C, X, tg, e, S, h => by
    conv at h => lhs; whnf
    exact piv_seq (sE a S h)
  | .rng1 a, m, C, X, tg, e, S, h => by
    conv at h => lhs; whnf
    split at h
    · simp only [Bool.and_eq_true, beq_iff_eq] at h
      obtain ⟨⟨⟨rfl, h1⟩, h2⟩, h3⟩ := h
      obtain ⟨gl, l, hd, hn⟩ := S.gl h1
      exact piv_range1 gl (S.no _ l) (pav_cons (sE a S h3) pav_nil (star_cons h2)) (star_cons h2)
    · cases h
  | .enum1 a, m, C, X, tg, e, S, h => by
    conv at h => lhs; whnf
    split at h
    · simp only [Bool.and_eq_true, beq_iff_eq] at h
      obtain ⟨⟨⟨⟨rfl, ht⟩, h1⟩, h2⟩, h3⟩ := h
      obtain ⟨gl, l, hd, hn⟩ := S.gl h1
      cases tg <;> first
        | (cases ht; done)
        | exact piv_enum gl (S.no _ l) (pav_cons (pv_frz (sE a S h3)) pav_nil (star_cons h2)) (star_cons h2)
    · cases h
  | .dnew, m, C, X, tg, e, S, h => by cases h
  | .dix a b, m, C, X, tg, e, S, h => by cases h
  | .dlist a, m, C, X, tg, e, S, h => by cases h
  | .deed x tb a, m, C, X, tg, e, S, h => by cases h
  | .callv i fs n es, m, C, X, tg, e, S, h => by cases h
  | .deq neg a b, m, C, X, tg, e, S, h => by cases h
  | .din neg a b, m, C, X, tg, e, S, h => by cases h
  | .frz a, m, C, X, tg, e, S, h => by cases h
  | .var i, m, C, X, tg, e, S, h => by cases h
  | .glob y c, m, C, X, tg, e, S, h => by cases h
  | .ty t, m, C, X, tg, e, S, h => by cases h
  | .non, m, C, X, tg, e, S, h => by cases h
  | .bl c, m, C, X, tg, e, S, h => by cases h
  | .int c, m, C, X, tg, e, S, h => by cases h
  | .str c, m, C, X, tg, e, S, h => by cases h
  | .bin op a b, m, C, X, tg, e, S, h => by cases h
  | .cmp op a b, m, C, X, tg, e, S, h => by cases h
  | .andL es, m, C, X, tg, e, S, h => by cases h
  | .orL es, m, C, X, tg, e, S, h => by cases h
  | .not a, m, C, X, tg, e, S, h => by cases h
  | .tru a, m, C, X, tg, e, S, h => by cases h
  | .neg a, m, C, X, tg, e, S, h => by cases h
  | .slice a l u, m, C, X, tg, e, S, h => by cases h
  | .ix a b, m, C, X, tg, e, S, h => by cases h
  | .tup es, m, C, X, tg, e, S, h => by cases h
  | .lst es, m, C, X, tg, e, S, h => by cases h
  | .call g n es, m, C, X, tg, e, S, h => by cases h
  | .bcall b es, m, C, X, tg, e, S, h => by cases h
  | .comp el it ts caps t n, m, C, X, tg, e, S, h => by cases h
  | .fmt a, m, C, X, tg, e, S, h => by cases h
  | .fstr es, m, C, X, tg, e, S, h => by cases h
  | .tcall t es, m, C, X, tg, e, S, h => by cases h
theorem sEs {k : Nat} {W : WD} : ∀ (fs : List E) {m : MC} {C : Cw} {X : Cx} {es : List Expr}, SX k W m C X → mEs m fs es = true → PAv C X es (evEs W fs)
  | [], m, C, X, [], S, h => by simp only [evEs]; exact pav_nil
  | [], m, C, X, _ :: _, S, h => by simp [mEs] at h
  | f :: fs, m, C, X, [], S, h => by simp [mEs] at h
  | f :: fs, m, C, X, e :: es, S, h => by
    simp only [mEs, Bool.and_eq_true] at h
    simp only [evEs]; exact pav_cons (sE f S h.1.2) (sEs fs S h.2) (star_cons h.1.1)
theorem sL {k : Nat} {W : WD} : ∀ (fs : List E) {m : MC} {C : Cw} {X : Cx} {es : List Expr}, SX k W m C X → mEs m fs es = true → PVL C X es (evL W fs)
  | [], m, C, X, [], S, h => by simp only [evL]; exact .nil
  | [], m, C, X, _ :: _, S, h => by simp [mEs] at h
  | f :: fs, m, C, X, [], S, h => by simp [mEs] at h
  | f :: fs, m, C, X, e :: es, S, h => by
    simp only [mEs, Bool.and_eq_true] at h
    simp only [evL]; exact .cons (sE f S h.1.2) (sL fs S h.2)
theorem sO {k : Nat} {W : WD} : ∀ (f : Option E) {m : MC} {C : Cw} {X : Cx} {e : Option Expr}, SX k W m C X → mO m f e = true → POv C X e (evO W f)
  | none, m, C, X, none, S, h => True.intro
  | none, m, C, X, some _, S, h => by simp [mO] at h
  | some f, m, C, X, none, S, h => by simp [mO] at h
  | some f, m, C, X, some e, S, h => by
    simp only [mO] at h
    simp only [evO]; exact sE f S h
theorem sA {k : Nat} {W : WD} : ∀ (fs : List E) {m : MC} {C : Cw} {X : Cx} {es : List Expr} {pos : Pos}, SX k W m C X → mEs m fs es = true → PV C X (.BoolOp .And es pos) (evA W fs)
  | [], m, C, X, [], pos, S, h => fun pins s σ H Q I q => by
    rw [tG_eq] at q
    obtain ⟨ρ, F, R, w⟩ := q
    exact w.elim
  | [], m, C, X, _ :: _, pos, S, h => by simp [mEs] at h
  | f :: fs, m, C, X, [], pos, S, h => by simp [mEs] at h
  | [f], m, C, X, [e], pos, S, h => by
    simp only [mEs, Bool.and_eq_true] at h
    simp only [evA]; exact pv_onev (sE f S h.1.2)
  | [f], m, C, X, e :: e2 :: es, pos, S, h => by simp [mEs] at h
  | f :: f2 :: fs, m, C, X, [e], pos, S, h => by simp [mEs] at h
  | f :: f2 :: fs, m, C, X, e :: e2 :: es, pos, S, h => by
    have h' := h
    simp only [mEs, Bool.and_eq_true] at h
    simp only [evA]; exact pv_andv (sE f S h.1.2) (sA (f2 :: fs) S (by simp only [mEs, Bool.and_eq_true]; exact h.2))
theorem sOr {k : Nat} {W : WD} : ∀ (fs : List E) {m : MC} {C : Cw} {X : Cx} {es : List Expr} {pos : Pos}, SX k W m C X → mEs m fs es = true → PV C X (.BoolOp .Or es pos) (evO' W fs)
  | [], m, C, X, [], pos, S, h => fun pins s σ H Q I q => by
    rw [tG_eq] at q
    obtain ⟨ρ, F, R, w⟩ := q
    exact w.elim
  | [], m, C, X, _ :: _, pos, S, h => by simp [mEs] at h
  | f :: fs, m, C, X, [], pos, S, h => by simp [mEs] at h
  | [f], m, C, X, [e], pos, S, h => by
    simp only [mEs, Bool.and_eq_true] at h
    simp only [evO']; exact pv_onev (sE f S h.1.2)
  | [f], m, C, X, e :: e2 :: es, pos, S, h => by simp [mEs] at h
  | f :: f2 :: fs, m, C, X, [e], pos, S, h => by simp [mEs] at h
  | f :: f2 :: fs, m, C, X, e :: e2 :: es, pos, S, h => by
    simp only [mEs, Bool.and_eq_true] at h
    simp only [evO']; exact pv_orv (sE f S h.1.2) (sOr (f2 :: fs) S (by simp only [mEs, Bool.and_eq_true]; exact h.2))
theorem sWA {k : Nat} {W : WD} : ∀ (fs : List E) {m : MC} {C : Cw} {X : Cx} {es : List Expr} {pos : Pos}, SX k W m C X → mF m fs es = true → PWv C X (.BoolOp .And es pos) (evA W fs)
  | [], m, C, X, [], pos, S, h => fun whole pins s σ H Q I q => by
    obtain ⟨ρ, F, R, w⟩ := q
    exact w.elim
  | [], m, C, X, _ :: _, pos, S, h => by simp [mF] at h
  | f :: fs, m, C, X, [], pos, S, h => by simp [mF] at h
  | [f], m, C, X, [e], pos, S, h => by
    simp only [mF, Bool.and_eq_true] at h
    simp only [evA]; exact pw_onev (sT f S h.1)
  | [f], m, C, X, e :: e2 :: es, pos, S, h => by simp [mF] at h
  | f :: f2 :: fs, m, C, X, [e], pos, S, h => by simp [mF] at h
  | f :: f2 :: fs, m, C, X, e :: e2 :: es, pos, S, h => by
    simp only [mF, Bool.and_eq_true] at h
    simp only [evA]; exact pw_andv (sT f S h.1) (sWA (f2 :: fs) S (by simp only [mF, Bool.and_eq_true]; exact h.2))
theorem sWO {k : Nat} {W : WD} : ∀ (fs : List E) {m : MC} {C : Cw} {X : Cx} {es : List Expr} {pos : Pos}, SX k W m C X → mF m fs es = true → PWv C X (.BoolOp .Or es pos) (evO' W fs)
  | [], m, C, X, [], pos, S, h => fun whole pins s σ H Q I q => by
    obtain ⟨ρ, F, R, w⟩ := q
    exact w.elim
  | [], m, C, X, _ :: _, pos, S, h => by simp [mF] at h
  | f :: fs, m, C, X, [], pos, S, h => by simp [mF] at h
  | [f], m, C, X, [e], pos, S, h => by
    simp only [mF, Bool.and_eq_true] at h
    simp only [evO']; exact pw_onev (sT f S h.1)
  | [f], m, C, X, e :: e2 :: es, pos, S, h => by simp [mF] at h
  | f :: f2 :: fs, m, C, X, [e], pos, S, h => by simp [mF] at h
  | f :: f2 :: fs, m, C, X, e :: e2 :: es, pos, S, h => by
    simp only [mF, Bool.and_eq_true] at h
    simp only [evO']; exact pw_orv (sT f S h.1) (sWO (f2 :: fs) S (by simp only [mF, Bool.and_eq_true]; exact h.2))
theorem sF {k : Nat} {W : WD} : ∀ (fs : List E) {m : MC} {C : Cw} {X : Cx} {es : List Expr}, SX k W m C X → mF m fs es = true → PIfs X es (tT (C.at X) (evF W fs))
  | [], m, C, X, [], S, h => by
    have : evF W [] = fun _ => .ok .fz (.bl true) := by funext ρ; simp only [evF]
    rw [this]; exact pifs_nilv
  | [], m, C, X, _ :: _, S, h => by simp [mF] at h
  | f :: fs, m, C, X, [], S, h => by simp [mF] at h
  | f :: fs, m, C, X, e :: es, S, h => by
    simp only [mF, Bool.and_eq_true] at h
    have : evF W (f :: fs) = fun ρ => andR (evE W f ρ) (evF W fs ρ) := by funext ρ; simp only [evF]
    rw [this]; exact pifs_consv (sT f S h.1) (sF fs S h.2)
end
end D3

set_option genSizeOfSpec false
set_option genInjectivity false
namespace D3
open PySem PySem.Spec PyProof.Rows L2
/-! ### statements -/
inductive S where
  | ret (e : E) | retV (i : Nat) | set (i : Nat) (e : E) | ite (c : E) (a b : List S) | for (it : E) (t : Tg) (body : List S)
  | expr (e : E) | asg (t : Tg) (e : E)
  | rz (c : Str) (es : List E) | app (i : Nat) (e : E) | setC (i : Nat) (fz : Bool) (e : E) | dput (i : Nat) (k e : E) | frzV (i : Nat)
mutual
def evS (W : WD) : S → Rho → SRes
  | .ret e, ρ => retR (evE W e ρ) ρ
  | .retV i, ρ => retS ρ i
  | .set i e, ρ => setS ρ i (evE W e ρ)
  | .ite c a b, ρ => ifS (evE W c ρ) ρ (evB W a ρ) (evB W b ρ)
  | .for it t body, ρ => forR (evE W it ρ) ρ (setG t) (evB W body)
  | .asg t e, ρ => asgS t ρ (evE W e ρ)
  | .expr e, ρ => (evE W e ρ).thS ρ fun _ _ => .nx ρ
  | .rz c es, ρ => rzR c ρ (evEs W es ρ)
  | .app i e, ρ => appS ρ i (evE W e ρ)
  | .frzV i, ρ => frzS ρ i
  | .dput i k e, ρ => dputS ρ i (evE W k ρ) (evE W e ρ)
  | .setC i fz e, ρ => setS ρ i (if fz = true then frzR (evE W e ρ) else evE W e ρ)
def evB (W : WD) : List S → Rho → SRes
  | [], ρ => .nx ρ
  | s :: r, ρ => (evS W s ρ).thn (evB W r)
end
def notComp : Expr → Bool | .ListComp .. => false | .SetComp .. => false | .DictComp .. => false | _ => true
def isComp : E → Bool | .comp .. => true | _ => false
def notTup : Expr → Bool | .Tuple .. => false | _ => true
mutual
def mS (m : MC) : S → Stmt → Bool
  | .ret f, st => match st with | .Return (some e) _ => mE m f e | _ => false
  | .retV i, st => match st with | .Return (some (.Name x _)) _ => m.N[i]? == some x && m.vis x | _ => false
  | .set i f, st => match st with | .Assign [.Name x _] e _ => m.loc i x && (notComp e || m.kind x == some .cell) && mE m f e | _ => false
  | .frzV _, _ => false
  | .dput i f g, st => match st with | .Assign [.Subscript (.Name x _) k _] e _ => m.N[i]? == some x && m.vis x && notComp e && mE m f k && mE m g e | _ => false
  | .setC i _ f, st => match st with
    | .Assign [.Name x px] (.ListComp elt gens scope cp) _ => m.N[i]? == some x && m.kind x == some .local && m.sc.kind == .function && px.line == cp.line && !(scope.names.any fun y => y.1 == x && (y.2 == .local || y.2 == .cell)) && isComp f && mE m f (.ListComp elt gens scope cp)
    | _ => false
  | .ite f a b, st => match st with | .If c x y _ => mT m f c && (mB m a x && mB m b y) | _ => false
  | .for f t b, st => match st with | .For tg e body [] _ => m.calm && mG m t tg && notSet e && (mI m tg f e && mB m b body) | _ => false
  | .asg t f, st => match st with | .Assign [tg] e _ => mG m t tg && notStarT tg && notComp e && notTup e && mE m f e | _ => false
  | .expr f, st => match st with | .Expr e _ => notComp e && mE m f e | _ => false
  | .rz c es, st => match st with | .Raise (some (.Call (.Name f _) (x :: xs) [] _)) none _ => m.calm && m.rz && f == c && m.gk f && m.g.xcs.contains f && mEs m es (x :: xs) | _ => false
  | .app i f, st => match st with | .Expr (.Call (.Attribute (.Name x _) a ap) [e] [] cp) _ => m.N[i]? == some x && m.vis x && a == "append" && ap.endLine == cp.line && notStar e && mE m f e | _ => false
def mB (m : MC) : List S → List Stmt → Bool
  | [], l => l.isEmpty
  | .frzV _ :: r, l => mB m r l
  | s :: r, l => match l with | st :: sts => mS m s st && mB m r sts | _ => false
end
theorem noswap {e : Expr} {t : Option Expr} {n : Nat} {env : Env} (h : notComp e = true) : swapsWith e t n env = pure false := by
  cases e <;> first | rfl | cases h
theorem noswap' {m : MC} {e : Expr} {x : Str} {p : Pos} {n : Nat} {env : Env} (hs : env.scope = m.sc) (h : (notComp e || m.kind x == some .cell) = true) : swapsWith e (some (.Name x p)) n env = pure false := by
  rw [Bool.or_eq_true, beq_iff_eq] at h
  rcases h with h | h
  · exact noswap h
  · have hk : env.kindOf x = some .cell := by
      show env.scope.names.lookup x = _
      rw [hs]; exact h
    unfold swapsWith
    have kc : (NameKind.cell == NameKind.local) = false := by decide
    cases e <;> first | rfl | (simp [hk, kc])
theorem noswapped {t : Expr} {e : Expr} {env : Env} (h : notTup e = true) : swappedStores [t] e env = pure none := by
  unfold swappedStores
  split
  · rename_i q
    split at q
    · cases h
    · cases h
    · cases q
  · rfl
section
variable {k : Nat} {W : WD} {m : MC} {C : Cw} {X : Cx}
/-- a body's own surroundings -/
structure SB (k : Nat) (W : WD) (m : MC) (C : Cw) (X : Cx) : Prop extends SX k W m C X where
  nd : m.N.Nodup
  hp : PassesOwn (model X.prog X.w) X.A X.env X.xe
  ro : m.rz = true → RzOk (C.at X) X ∧ FnCx X
end
theorem s_comp {k : Nat} {W : WD} {m : MC} {C : Cw} {X : Cx} (S : SB k W m C X) (fz : Bool) {i : Nat} {el it : E} {ts : List E} {caps : List Nat} {t : Tg} {n : Nat} {x : Str} {px cp sp : Pos} {elt : Expr} {gens : List Comprehension} {scope : Scope}
    (h1 : m.N[i]? = some x) (h2 : m.kind x = some .local) (h3 : m.sc.kind = .function) (h4 : px.line = cp.line) (h5 : (scope.names.any fun y => y.1 == x && (y.2 == .local || y.2 == .cell)) = false) (h : mE m (.comp el it ts caps t n) (.ListComp elt gens scope cp) = true) :
    PSv C X (.Assign [.Name x px] (.ListComp elt gens scope cp) sp) (fun ρ => setS ρ i (if fz = true then frzR (evE W (.comp el it ts caps t n) ρ) else evE W (.comp el it ts caps t n) ρ)) := by
  have hk : X.env.scope.names.lookup x = some .local := by rw [S.hs]; exact h2
  conv at h => lhs; whnf
  split at h
  · rename_i elt' tg iter ifs scope' cp' e
    cases e
    simp only [Bool.and_eq_true, decide_eq_true_eq, List.all_eq_true] at h
    obtain ⟨⟨⟨⟨⟨⟨hq, ho⟩, hn⟩, hl⟩, hs⟩, hg⟩, k1, k2, k3⟩ := h
    unfold compOkT at ho
    simp only [Bool.and_eq_true, List.all_eq_true, Bool.or_eq_true, bne_iff_ne, beq_iff_eq, decide_eq_true_eq, List.contains_iff_mem] at ho
    obtain ⟨⟨⟨⟨⟨⟨⟨g1, g2⟩, g3⟩, g4⟩, g5⟩, g6⟩, g7⟩, g8⟩ := ho
    have er : (relabel scope X.env).names = relSc scope m.sc := by rw [← S.hs]; rfl
    have bk : X.env.blockKind = .function := by unfold Env.blockKind; rw [S.hs, h3]; rfl
    have hsw : swapsWith (.ListComp elt [⟨tg, iter, ifs, 0⟩] scope cp) (some (.Name x px)) sp.line X.env = pure true := by
      have kx : X.env.kindOf x = some .local := hk
      unfold swapsWith
      have k1 : (ScopeKind.function == ScopeKind.function) = true := by decide
      have k2 : (some NameKind.local == some NameKind.local) = true := by decide
      simp only [bk, kx, Expr.pos, h4, h5, k1, k2, beq_self_eq_true]
      rfl
    have := psv_setC fz (pos := cp) (pos' := px) (spos := sp) (i := i) (x := x) (tgN := tgNames 4 tg) (t := t) (S.cm hq) (sI it S.toSX k1) g1 g2 (fun y hy e => (g3 y hy).resolve_left fun z => z e) (fun y hy e => by
        have := g4 y hy
        show X.env.scope.names.lookup y.1 = _ ∨ X.env.scope.names.lookup y.1 = _
        rw [S.hs]
        rcases this with (z | z) | z
        · exact absurd e z
        · exact .inl z
        · exact .inr z) (by rw [S.hN]; exact g5) g6 (fun y hy => by rw [er]; exact g7 y hy) (fun j hj => hs j hj) (fun cl A fp s3 H3 => sG (S.toSX.sub cl A fp s3 H3) g8 t hg)
        (fun cl A fp s3 H3 => sF ts (S.toSX.sub cl A fp s3 H3) k3) (fun cl A fp s3 H3 => sE el (S.toSX.sub cl A fp s3 H3) k2) (by rw [S.hN]; exact S.nd) (by rw [S.hN]; exact h1) hk hsw (nofold hn)
    rw [hl] at this
    exact this
  · cases h
set_option maxHeartbeats 4000000 in
mutual
theorem sS {k : Nat} {W : WD} {m : MC} {C : Cw} {X : Cx} (S : SB k W m C X) : ∀ (f : D3.S) {st : Stmt}, mS m f st = true → PSv C X st (evS W f)
  | .ret f, st, h => by
    conv at h => lhs; whnf
    split at h
    · exact psv_ret (sE f S.toSX h)
    · cases h
  | .retV i, st, h => by
    conv at h => lhs; whnf
    split at h
    · simp only [Bool.and_eq_true, beq_iff_eq] at h
      obtain ⟨h1, h2, h3⟩ := S.toSX.vis h.2
      exact psv_retV i (pe_var (by rw [S.hN]; exact h.1) h1 h2 h3)
    · cases h
  | .set i f, st, h => by
    conv at h => lhs; whnf
    split at h
    · simp only [Bool.and_eq_true] at h
      obtain ⟨⟨h1, h2⟩, h3⟩ := h
      obtain ⟨b, c, d⟩ := S.toSX.loc h1
      exact psv_set (by rw [S.hN]; exact S.nd) b c (sE f S.toSX h3) (noswap' S.hs h2) d
    · cases h
  | .frzV i, st, h => by cases h
  | .dput i f g, st, h => by
    conv at h => lhs; whnf
    split at h
    · simp only [Bool.and_eq_true, beq_iff_eq] at h
      obtain ⟨⟨⟨⟨h1, h2⟩, h3⟩, h4⟩, h5⟩ := h
      obtain ⟨v1, v2, v3⟩ := S.toSX.vis h2
      exact psv_dput i (Nat.lt_of_le_of_lt (Nat.add_le_add_left (by decide : 1 ≤ 64) _) S.un) (pe_var (by rw [S.hN]; exact h1) v1 v2 v3) (sE f S.toSX h4) (sE g S.toSX h5) (noswap h3)
    · cases h
  | .setC i fz f, st, h => by
    conv at h => lhs; whnf
    split at h
    · simp only [Bool.and_eq_true, beq_iff_eq, Bool.not_eq_true'] at h
      obtain ⟨⟨⟨⟨⟨⟨h1, h2⟩, h3⟩, h4⟩, h5⟩, h6⟩, h7⟩ := h
      cases f with
      | comp el it ts caps t n => exact s_comp S fz h1 h2 h3 h4 h5 h7
      | _ => cases h6
    · cases h
  | .ite f a b, st, h => by
    conv at h => lhs; whnf
    split at h
    · simp only [Bool.and_eq_true] at h
      obtain ⟨h1, h2, h3⟩ := h
      exact psv_if (sT f S.toSX h1) (sB S a h2) (sB S b h3)
    · cases h
  | .for f t b, st, h => by
    conv at h => lhs; whnf
    split at h
    · simp only [Bool.and_eq_true] at h
      obtain ⟨⟨⟨hq, h1⟩, h2⟩, h3, h4⟩ := h
      exact psv_for S.hp (S.cm hq) (sI f S.toSX h3) (pgv_of (sG S.toSX S.nd t h1)) (sB S b h4) (nofold h2)
    · cases h
  | .asg t f, st, h => by
    conv at h => lhs; whnf
    split at h
    · simp only [Bool.and_eq_true] at h
      obtain ⟨⟨⟨⟨h1, h2⟩, h3⟩, h4⟩, h5⟩ := h
      exact psv_asg (sE f S.toSX h5) (sG S.toSX S.nd t h1) (noswap h3) (noswapped h4) h2
    · cases h
  | .expr f, st, h => by
    conv at h => lhs; whnf
    split at h
    · simp only [Bool.and_eq_true] at h
      exact psv_expr (sE f S.toSX h.2) (noswap h.1)
    · cases h
  | .rz c es, st, h => by
    conv at h => lhs; whnf
    split at h
    · simp only [Bool.and_eq_true, beq_iff_eq, List.contains_iff_mem] at h
      obtain ⟨⟨⟨⟨⟨hq, hr⟩, rfl⟩, h1⟩, h2⟩, h3⟩ := h
      obtain ⟨gl, hd⟩ := S.toSX.gk h1
      obtain ⟨Cc, hm, Z⟩ := S.xc _ h2
      exact psv_raise hm Z (S.rm hq).hd (S.ro hr).1 gl (sEs es S.toSX h3) hd (mEs_star h3)
    · cases h
  | .app i f, st, h => by
    conv at h => lhs; whnf
    split at h
    · simp only [Bool.and_eq_true, beq_iff_eq] at h
      obtain ⟨⟨⟨⟨⟨h1, h2⟩, rfl⟩, h3⟩, h4⟩, h5⟩ := h
      obtain ⟨v1, v2, v3⟩ := S.toSX.vis h2
      exact psv_app i (pe_var (by rw [S.hN]; exact h1) v1 v2 v3) (sE f S.toSX h5) h4 h3
    · cases h
theorem sB {k : Nat} {W : WD} {m : MC} {C : Cw} {X : Cx} (S : SB k W m C X) : ∀ (f : List D3.S) {sts : List Stmt}, mB m f sts = true → PBv C X sts (evB W f)
  | [], [], h => by
    have : evB W [] = fun ρ => .nx ρ := by funext ρ; simp only [evB]
    rw [this]; exact pbv_nil
  | [], _ :: _, h => by simp [mB] at h
  | f :: fs, sts, h => by
    by_cases hf : ∃ i, f = .frzV i
    · obtain ⟨i, rfl⟩ := hf
      simp only [mB] at h
      have : evB W (.frzV i :: fs) = fun ρ => (frzS ρ i).thn (evB W fs) := by funext ρ; rfl
      rw [this]; exact pbv_frz (sB S fs h)
    · cases sts with
      | nil => cases f <;> first | exact absurd ⟨_, rfl⟩ hf | (simp [mB] at h)
      | cons st sts =>
        have h : (mS m f st && mB m fs sts) = true := by cases f <;> first | exact absurd ⟨_, rfl⟩ hf | exact h
        rw [Bool.and_eq_true] at h
        have : evB W (f :: fs) = fun ρ => (evS W f ρ).thn (evB W fs) := by funext ρ; simp only [evB]
        rw [this]; exact pbv_cons (sS S f h.1) (sB S fs h.2)
end
abbrev IB := Unit
/-! ### the defs of a text, by fuel -/
structure FD where
  ps : List Str
  N : List Str
  b : List D3.S
structure ID where
  c : Str
  ps : List Str
  N : List Str
  ib : IB
structure TB where
  T : List (Str × FD)
  I : List (Str × ID)
  cl : List CI
  xt : List ((Str × Str) × Bool)
  xi : List ((Str × Str) × Bool)
def phiI (W : WD) (i : ID) : List D → Res := fun _ => .stuck
def PhiF (t : TB) (W : WD) (f : Str) : List D → Res := match t.T.lookup f with
  | some d => phi d.ps.length d.N.length (evB W d.b)
  | none => fun _ => .stuck
def WT (t : TB) : Nat → WD
  | 0 => ⟨fun _ _ => .stuck, fun _ => none, t.cl, t.xt, t.xi⟩
  | 1 => ⟨fun f => PhiF t ⟨fun _ _ => .stuck, fun _ => none, t.cl, t.xt, t.xi⟩ f, fun _ => none, t.cl, t.xt, t.xi⟩
  | k + 2 => ⟨fun f => PhiF t (WT t (k + 1)) f, fun key => match t.I.lookup key with | some i => some (phiI (WT t k) i) | none => none, t.cl, t.xt, t.xi⟩
theorem WT_cl (t : TB) : ∀ k, (WT t k).cl = t.cl
  | 0 => rfl
  | 1 => rfl
  | k + 2 => rfl
theorem WT_xt (t : TB) : ∀ k, (WT t k).xt = t.xt
  | 0 => rfl
  | 1 => rfl
  | k + 2 => rfl
theorem WT_xi (t : TB) : ∀ k, (WT t k).xi = t.xi
  | 0 => rfl
  | 1 => rfl
  | k + 2 => rfl
theorem WT_Φ (t : TB) : ∀ k f, (WT t (k + 1)).Φ f = PhiF t (WT t k) f
  | 0, f => rfl
  | k + 1, f => rfl
def scOk (N ps : List Str) (sc : Scope) : Bool := sc.kind == .function && !sc.isCoroutine && !sc.isGenerator && decide N.Nodup && (N.take ps.length == ps) && ps.all (fun x => sc.names.lookup x == some .local || sc.names.lookup x == some .cell) && sc.names.all (fun y => y.2 != .free)
theorem scOk_of {N ps : List Str} {sc : Scope} (h : scOk N ps sc = true) : FnScope N ps sc := by
  unfold scOk at h
  simp only [Bool.and_eq_true, List.all_eq_true, Bool.or_eq_true, bne_iff_ne, beq_iff_eq, decide_eq_true_eq, Bool.not_eq_true'] at h
  obtain ⟨⟨⟨⟨⟨⟨h1, h2⟩, h3⟩, h4⟩, h5⟩, h6⟩, h7⟩ := h
  exact ⟨h1, h2, h3, h4, h5, h6, h7⟩
def fdOk (g : MG) (st : Stmt) (d : FD) : Bool := scOk d.N d.ps (defScope st) && mB ⟨d.N, defScope st, g, true, true, true⟩ d.b (defBody st)
def idOk (g : MG) (st : Stmt) (d : ID) : Bool := false
/-- a def that stands behind the top, at its address -/
def Stands (K : PySem.W.Frag) (g : MG) (fa : Str → Addr) (key : Str) (d : FD) : Prop :=
  ∃ name st fd, Fun K name key st (fa key) fd ∧ Binds K fd d.ps [] ∧ fdOk g st d = true
def StandAll (K : PySem.W.Frag) (g : MG) (fa : Str → Addr) : List (Str × FD) → Prop
  | [] => True
  | (x, d) :: r => Stands K g fa x d ∧ StandAll K g fa r
theorem StandAll.at {K : PySem.W.Frag} {g : MG} {fa : Str → Addr} : ∀ {T : List (Str × FD)} {x : Str} {d : FD}, StandAll K g fa T → T.lookup x = some d → Stands K g fa x d
  | [], _, _, _, e => by cases e
  | (y, d') :: r, x, d, h, e => by
    rw [List.lookup_cons] at e
    split at e
    · rename_i hb
      cases e
      rw [beq_iff_eq] at hb
      subst hb
      exact h.1
    · exact h.2.at e
def StandsI (K : PySem.W.Frag) (mg : Str → Option Value) (g : MG) (key : Str) (d : ID) : Prop :=
  ∃ name st C f fd, PySem.W.nsIn K mainGlobals d.c = some (some (.ref C)) ∧ mg d.c = some (.ref C) ∧ Mk K C f ∧ Fun K name key st f fd ∧ Binds K fd d.ps [] ∧ idOk g st d = true
def StandAllI (K : PySem.W.Frag) (mg : Str → Option Value) (g : MG) : List (Str × ID) → Prop
  | [] => True
  | (x, d) :: r => StandsI K mg g x d ∧ StandAllI K mg g r
theorem StandAllI.at {K : PySem.W.Frag} {mg : Str → Option Value} {g : MG} : ∀ {T : List (Str × ID)} {x : Str} {d : ID}, StandAllI K mg g T → T.lookup x = some d → StandsI K mg g x d
  | [], _, _, _, e => by cases e
  | (y, d') :: r, x, d, h, e => by
    rw [List.lookup_cons] at e
    split at e
    · rename_i hb
      cases e
      rw [beq_iff_eq] at hb
      subst hb
      exact h.1
    · exact h.2.at e
def GVOk (w : World) (K : PySem.W.Frag) (mg : Str → Option Value) (fa : Str → Addr) (x : Str) : GV → Prop
  | .con (.s y) => ∃ t, mg x = some (.str y t)
  | .con (.i n) => ∃ t, mg x = some (.int n t)
  | .con (.t tb) => TabV w K mg x tb
  | .no => mg x = none
  | .fn _ => mg x = some (.ref (fa x))
  | .cls => True
def GCon (w : World) (K : PySem.W.Frag) (mg : Str → Option Value) (fa : Str → Addr) : List (Str × GV) → Prop
  | [] => True
  | (x, v) :: r => GVOk w K mg fa x v ∧ GCon w K mg fa r
theorem GCon.at {w : World} {K : PySem.W.Frag} {mg : Str → Option Value} {fa : Str → Addr} : ∀ {G : List (Str × GV)} {x : Str} {v : GV}, GCon w K mg fa G → G.lookup x = some v → GVOk w K mg fa x v
  | [], _, _, _, e => by cases e
  | (y, v') :: r, x, v, h, e => by
    rw [List.lookup_cons] at e
    split at e
    · rename_i hb
      cases e
      rw [beq_iff_eq] at hb
      subst hb
      exact h.1
    · exact h.2.at e
def gOk (G : List (Str × GV)) (T : List (Str × FD)) : Bool := G.all fun (x, v) => match v with | .fn n => (match T.lookup x with | some d => d.ps.length == n | none => false) | _ => true
theorem gOk_at {T : List (Str × FD)} : ∀ {G : List (Str × GV)} {x : Str} {n : Nat}, gOk G T = true → G.lookup x = some (.fn n) → ∃ d, T.lookup x = some d ∧ d.ps.length = n
  | [], _, _, _, e => by cases e
  | (y, v') :: r, x, n, h, e => by
    unfold gOk at h
    rw [List.all_cons, Bool.and_eq_true] at h
    rw [List.lookup_cons] at e
    split at e
    · rename_i hb
      cases e
      rw [beq_iff_eq] at hb
      subst hb
      have h1 := h.1
      dsimp only at h1
      cases q : T.lookup x with
      | none => rw [q] at h1; cases h1
      | some d => rw [q] at h1; exact ⟨d, rfl, by simpa using h1⟩
    · exact gOk_at (G := r) h.2 e
/-- each class's methods: where each stands, and its number of parameters -/
def mtOk (cl : List CI) (T : List (Str × FD)) : Bool := cl.all fun i => i.meths.all fun (_, key, n) => match T.lookup key with | some d => d.ps.length == n | none => false
def mkiOk (mki : List (Str × Str × Nat)) (I : List (Str × ID)) : Bool := mki.all fun (c, key, n) => match I.lookup key with | some d => d.c == c && d.ps.length == n + 1 | none => false
def ClsM (K : PySem.W.Frag) (fa : Str → Addr) (C : Addr) : List (Str × Str × Nat) → Prop
  | [] => True
  | (m, key, _) :: r => Meth K C m (fa key) ∧ ClsM K fa C r
def ClsF (K : PySem.W.Frag) (C : Addr) : List Str → Prop
  | [] => True
  | f :: r => NoAttr K C f ∧ ClsF K C r
def ClsAll (K : PySem.W.Frag) (fa : Str → Addr) : List CI → Prop
  | [] => True
  | i :: r => (∃ C, PySem.W.nsIn K mainGlobals i.name = some (some (.ref C)) ∧ Cls K C ∧ ClsM K fa C i.meths ∧ ClsF K C i.flds) ∧ ClsAll K fa r
theorem ClsAll.at {K : PySem.W.Frag} {fa : Str → Addr} : ∀ {cl : List CI} {i : CI}, ClsAll K fa cl → i ∈ cl → ∃ C, PySem.W.nsIn K mainGlobals i.name = some (some (.ref C)) ∧ Cls K C ∧ ClsM K fa C i.meths ∧ ClsF K C i.flds
  | [], _, _, h => by cases h
  | j :: r, i, h, hi => by
    rcases List.mem_cons.mp hi with rfl | hi
    · exact h.1
    · exact h.2.at hi
theorem ClsF.at {K : PySem.W.Frag} {C : Addr} : ∀ {l : List Str} {f : Str}, ClsF K C l → f ∈ l → NoAttr K C f
  | [], _, _, h => by cases h
  | j :: r, i, h, hi => by
    rcases List.mem_cons.mp hi with rfl | hi
    · exact h.1
    · exact h.2.at hi
theorem ClsM.at {K : PySem.W.Frag} {fa : Str → Addr} {C : Addr} : ∀ {l : List (Str × Str × Nat)} {m key : Str} {n : Nat}, ClsM K fa C l → l.lookup m = some (key, n) → Meth K C m (fa key)
  | [], _, _, _, _, e => by cases e
  | (m', key', n') :: r, m, key, n, h, e => by
    rw [List.lookup_cons] at e
    split at e
    · rename_i hb
      cases e
      rw [beq_iff_eq] at hb
      subst hb
      exact h.1
    · exact h.2.at e
/-- all that the head must give -/
structure GF (w : World) (K : PySem.W.Frag) (mg : Str → Option Value) (g : MG) (t : TB) (fa : Str → Addr) : Prop where
  con : GCon w K mg fa g.G
  gok : gOk g.G t.T = true
  all : StandAll K g fa t.T
  alli : StandAllI K mg g t.I
  mk0 : ∀ c, c ∈ g.mk0 → MkV0 K mg c
  mkok : mkiOk g.mki t.I = true
  iso : ∀ c, c ∈ g.iso → IsV K mg t.cl c
  cls : ClsAll K fa t.cl
  mtok : mtOk t.cl t.T = true
  xtok : XtOk K mg (fun c x => t.xt.lookup (c, x))
  xiok : XisOk K mg (fun c x => t.xi.lookup (c, x))
  xcok : ∀ c, c ∈ g.xcs → ∃ Cc, mg c = some (.ref Cc) ∧ RzCls K Cc
  xnok : ∀ n, n ∈ g.xns → ∃ cv, ClsV mg n cv
theorem spV_stuck {K : PySem.W.Frag} {mg : Str → Option Value} {n : Nat} {Φ : List D → Res} {vs : List V} {H : Hp} {Q : VK} {E : XK} (hz : ∀ ds, Φ ds = .stuck) (h : spV K mg n Φ vs H Q E) : False := by
  obtain ⟨_, F, ds, _, _, h⟩ := h
  rw [hz] at h
  exact h
section
variable {P : Program} {w : World} {K : PySem.W.Frag} {mg : Str → Option Value} {base : Heap} {g : MG} {t : TB} {fa : Str → Addr}
/-- every def keeps its promise at every depth -/
structure AllOk (P : Program) (w : World) (K : PySem.W.Frag) (mg : Str → Option Value) (base : Heap) (t : TB) (fa : Str → Addr) (k : Nat) : Prop where
  fn : ∀ key d, t.T.lookup key = some d → ∃ fd, FnOk P w K mg base (CX1 P w) k (fa key) fd d.ps (spV K mg d.ps.length ((WT t k).Φ key)) ∧ Binds K fd d.ps [] ∧ PySem.W.keepIn K (.ref (fa key)) = true
  ini : ∀ key d Φ, t.I.lookup key = some d → (WT t k).I key = some Φ → ∃ j, j + 1 ≤ k ∧ InV P w K mg base (CX1 P w) j d.c (d.ps.length - 1) Φ
theorem sx_of (f : GF w K mg g t fa) {k : Nat} (A : AllOk P w K mg base t fa k) {N : List Str} {sc : Scope} {C : Cw} {X : Cx} (hP : X.prog = P) (hw : X.w = w) (hK : X.K = K) (hmg : X.mg = mg) (hb : X.base = base) (hN : X.N = N) (hs : X.env.scope = sc) (cm : X.calm = true) (rm : Room k X.A) (hfn : ∀ x, X.fn x = true) (xo : XOk (CX1 X.prog X.w) (C.at X) X) :
    SX k (WT t k) ⟨N, sc, g, true, true, true⟩ C X := by
  subst hP hw hK hmg hb
  refine ⟨hN, hs, fun _ => cm, fun _ => rm, rm.units, fun _ => xo, ?_, ?_, f.xcok, f.xnok, fun y c l => ?_, fun y l => f.con.at l, fun c hc => f.mk0 c hc, fun c key n hm Φ e => ?_, fun c hc => by rw [WT_cl]; exact f.iso c hc, fun i f' hi hf => ?_, fun c m key n e => ?_, fun y n l => ?_, fun _ => hfn⟩
  · unfold WD.xf; rw [WT_xt]; exact f.xtok
  · unfold WD.xg; rw [WT_xi]; exact f.xiok
  · have := f.con.at l
    cases c <;> exact this
  · have h1 := List.all_eq_true.mp f.mkok (c, key, n) hm
    dsimp only at h1
    cases q : t.I.lookup key with
    | none => rw [q] at h1; cases h1
    | some d =>
      rw [q] at h1
      simp only [Bool.and_eq_true, beq_iff_eq] at h1
      obtain ⟨j, hj, M⟩ := A.ini key d Φ q e
      rw [h1.1, h1.2] at M
      exact ⟨j, hj, M⟩
  · rw [WT_cl] at hi
    obtain ⟨C', h1, h2, _, h4⟩ := f.cls.at hi
    exact ⟨C', h1, h2, h4.at hf⟩
  · rw [WT_cl] at e
    unfold CI.meth at e
    split at e
    · rename_i i ei
      have hi := List.mem_of_find?_eq_some ei
      have hn : i.name = c := by simpa using List.find?_some ei
      obtain ⟨C', h1, h2, h3, _⟩ := f.cls.at hi
      have hmo := List.all_eq_true.mp (List.all_eq_true.mp f.mtok i hi) (m, key, n) (PySem.mem_of_lookup e)
      dsimp only at hmo
      cases q : t.T.lookup key with
      | none => rw [q] at hmo; cases hmo
      | some d =>
        rw [q] at hmo
        rw [beq_iff_eq] at hmo
        obtain ⟨fd, FO, hb, _⟩ := A.fn key d q
        rw [hmo] at FO
        exact ⟨C', fa key, fd, d.ps, by rw [← hn]; exact h1, h2, h3.at e, FO, hb⟩
    · cases e
  · obtain ⟨d, e, rfl⟩ := gOk_at f.gok l
    obtain ⟨fd, FO, hb, hk⟩ := A.fn y d e
    exact ⟨fa y, fd, d.ps, FO, f.con.at l, hk, hb⟩
theorem fn_step (f : GF w K mg g t fa) {k : Nat} (A : AllOk P w K mg base t fa k) {key : Str} {d : FD} {name : Str} {st : Stmt} {fd : FuncData} {a : Addr} (F : Fun K name key st a fd) (e : t.T.lookup key = some d) (ok : fdOk g st d = true) :
    FnOk P w K mg base (CX1 P w) (k + 1) a fd d.ps (spV K mg d.ps.length ((WT t (k + 1)).Φ key)) := by
  unfold fdOk at ok
  rw [Bool.and_eq_true] at ok
  have sc := scOk_of ok.1
  have : (WT t (k + 1)).Φ key = phi d.ps.length d.N.length (evB (WT t k) d.b) := by rw [WT_Φ]; unfold PhiF; rw [e]
  rw [this]
  exact fnok_phi (k := k) F sc fun C cdv A' outer s H En hE hr => sB (m := ⟨d.N, defScope st, g, true, true, true⟩) (X := cxOf (CX1 P w) P w K mg base d.N key (defScope st) a cdv A' outer s H En) ⟨sx_of f A rfl rfl rfl rfl rfl rfl rfl rfl hr (fun _ => rfl) (xok_fn (K := K) (H := H) (outer := outer) hE), sc.nd, PassesOwn.leaving, fun _ => ⟨rzok_fn (K := K) (H := H) (outer := outer) hE, fnCx⟩⟩ d.b ok.2
theorem init_step (f : GF w K mg g t fa) {k : Nat} (A : AllOk P w K mg base t fa k) {key : Str} {d : ID} (e : t.I.lookup key = some d) : InV P w K mg base (CX1 P w) (k + 1) d.c (d.ps.length - 1) (phiI (WT t k) d) := by
  obtain ⟨name, st, C2, a, fd, ns, hm, M, F, hb, ok⟩ := f.alli.at e
  cases ok
theorem all_ok (f : GF w K mg g t fa) : ∀ k, AllOk P w K mg base t fa k ∧ AllOk P w K mg base t fa (k + 1)
  | 0 => by
    have A0 : AllOk P w K mg base t fa 0 := ⟨fun key d e => by
      obtain ⟨name, st, fd, F, hb, _⟩ := f.all.at e
      exact ⟨fd, ⟨fun vs H Q En h => (spV_stuck (fun _ => rfl) h).elim, fun A outer s H args us vs Q En _ _ _ _ h => (spV_stuck (fun _ => rfl) h).elim⟩, hb, F.kp⟩, fun key d Φ _ e => by cases e⟩
    refine ⟨A0, fun key d e => ?_, fun key d Φ _ e => by cases e⟩
    obtain ⟨name, st, fd, F, hb, ok⟩ := f.all.at e
    exact ⟨fd, fn_step f A0 F e ok, hb, F.kp⟩
  | k + 1 => by
    obtain ⟨A0, A1⟩ := all_ok f k
    refine ⟨A1, fun key d e => ?_, fun key d Φ e ei => ?_⟩
    · obtain ⟨name, st, fd, F, hb, ok⟩ := f.all.at e
      exact ⟨fd, fn_step f A1 F e ok, hb, F.kp⟩
    · have ei : (match t.I.lookup key with | some i => some (phiI (WT t k) i) | none => none) = some Φ := ei
      rw [e] at ei
      cases ei
      exact ⟨k + 1, Nat.le_refl _, init_step f A0 e⟩
end
/-- the law's promise, without the module's names -/
def spLw (K : PySem.W.Frag) (Φ : List D → Res) : Sp := fun vs H Q E => ∃ a ns, vs = [.ref a] ∧ SqL K H a (ns.map V.int) ∧ Φ (lawIn ns) = .ok .fz (.bl true) ∧ ∀ H', Q (.bl true) H'
theorem fnok_lw {P : Program} {w : World} {K : PySem.W.Frag} {mg : Str → Option Value} {base : Heap} {CX : CXT} {k : Nat} {f : Addr} {fd : FuncData} {ps : List Str} {Φ : List D → Res} (h : FnOk P w K mg base CX k f fd ps (spV K mg 1 Φ)) : FnOk P w K mg base CX k f fd ps (spLw K Φ) :=
  h.imp fun vs H Q E ⟨a, ns, e, hq, hp, q⟩ => by
    subst e
    refine ⟨rfl, H, lawIn ns, Same.refl _, RepL.cons ?_ RepL.nil, ?_⟩
    · simp only [RepV]
      exact ⟨a, _, rfl, hq, repL_ints ns⟩
    · rw [hp]
      exact ⟨by decide, fun v F' H' s rp _ => by rw [rp.bl]; exact q H'⟩
theorem fnok_law {P : Program} {w : World} {K : PySem.W.Frag} {mg : Str → Option Value} {base : Heap} {g : MG} {t : TB} {fa : Str → Addr} (f : GF w K mg g t fa) (k : Nat) {a : Addr} {fd : FuncData} {d : FD} {st : Stmt} (F : Fun K "law" "law" st a fd) (e : t.T.lookup ("law" : Str) = some d) (ok : fdOk g st d = true) (hl : d.ps.length = 1) :
    FnOk P w K mg base (CX1 P w) (k + 1) a fd d.ps (spLw K ((WT t (k + 1)).Φ ("law" : Str))) := by
  have := fn_step (P := P) (w := w) (base := base) f (all_ok f k).1 F e ok
  rw [hl] at this
  exact fnok_lw this
end D3

namespace D3
open PySem L2
/-! ### values by what is written (for simp) -/
section
variable {W : WD} {ρ : Rho} {a b c : E} {es : List E}
@[simp] theorem e_var {i} : evE W (.var i) ρ = getS ρ i := Eq.trans rfl rfl
@[simp] theorem e_non : evE W .non ρ = .ok .fz .non := Eq.trans rfl rfl
@[simp] theorem e_bl {b} : evE W (.bl b) ρ = .ok .fz (.bl b) := Eq.trans rfl rfl
@[simp] theorem e_int {i} : evE W (.int i) ρ = .ok .fz (.int i) := Eq.trans rfl rfl
@[simp] theorem e_str {x} : evE W (.str x) ρ = .ok .fz (.str x) := Eq.trans rfl rfl
@[simp] theorem e_globS {x y} : evE W (.glob x (.s y)) ρ = .ok .fz (.str y) := Eq.trans rfl rfl
@[simp] theorem e_globI {x y} : evE W (.glob x (.i y)) ρ = .ok .fz (.int y) := Eq.trans rfl rfl
@[simp] theorem e_ty {t : Ty} : evE W (.ty t) ρ = .ok .fz (.ty t.id) := Eq.trans rfl rfl
@[simp] theorem e_bin {op} : evE W (.bin op a b) ρ = op2 (fBin op) (evE W a ρ) (evE W b ρ) := Eq.trans rfl rfl
@[simp] theorem e_cmp {op} : evE W (.cmp op a b) ρ = op2 (fCmp op) (evE W a ρ) (evE W b ρ) := Eq.trans rfl rfl
@[simp] theorem e_andL : evE W (.andL es) ρ = evA W es ρ := Eq.trans rfl rfl
@[simp] theorem e_orL : evE W (.orL es) ρ = evO' W es ρ := Eq.trans rfl rfl
@[simp] theorem e_not : evE W (.not a) ρ = notR (evE W a ρ) := Eq.trans rfl rfl
@[simp] theorem e_neg : evE W (.neg a) ρ = negR (evE W a ρ) := Eq.trans rfl rfl
@[simp] theorem e_tru : evE W (.tru a) ρ = truR (evE W a ρ) := Eq.trans rfl rfl
@[simp] theorem e_frz : evE W (.frz a) ρ = frzR (evE W a ρ) := Eq.trans rfl rfl
@[simp] theorem e_ix : evE W (.ix a b) ρ = op2 ixD (evE W a ρ) (evE W b ρ) := Eq.trans rfl rfl
@[simp] theorem e_slice {l h} : evE W (.slice a l h) ρ = slP (evE W a ρ) (evO W l) (evO W h) ρ := Eq.trans rfl rfl
@[simp] theorem e_tup : evE W (.tup es) ρ = tupR (evEs W es ρ) := Eq.trans rfl rfl
@[simp] theorem e_lst : evE W (.lst es) ρ = lstR (evEs W es ρ) := Eq.trans rfl rfl
@[simp] theorem e_call {f n} : evE W (.call f n es) ρ = callF n (W.Φ f) (evEs W es ρ) := Eq.trans rfl rfl
@[simp] theorem e_bcall {f : Bn} : evE W (.bcall f es) ρ = callR f.f (evEs W es ρ) := Eq.trans rfl rfl
@[simp] theorem e_items : evE W (.items a) ρ = itemsR (frzR (evE W a ρ)) := Eq.trans rfl rfl
@[simp] theorem e_rng1 : evE W (.rng1 a) ρ = rng1R (consL (evE W a ρ) (.ok [])) := Eq.trans rfl rfl
@[simp] theorem e_enum1 : evE W (.enum1 a) ρ = enumR (consL (frzR (evE W a ρ)) (.ok [])) := Eq.trans rfl rfl
@[simp] theorem e_dnew : evE W .dnew ρ = .ok .fr (.dct []) := Eq.trans rfl rfl
@[simp] theorem e_dlist : evE W (.dlist a) ρ = callR tcKeys (consL (evE W a ρ) (.ok [])) := Eq.trans rfl rfl
@[simp] theorem e_deed {x tb} : evE W (.deed x tb a) ρ = deedR tb (evE W a ρ) := Eq.trans rfl rfl
@[simp] theorem e_callv {i fs n} : evE W (.callv i fs n es) ρ = callV W.Φ fs n (getS ρ i) (evEs W es ρ) := Eq.trans rfl rfl
@[simp] theorem e_dix : evE W (.dix a b) ρ = op2 ixK (evE W a ρ) (evE W b ρ) := Eq.trans rfl rfl
@[simp] theorem e_deq {neg} : evE W (.deq neg a b) ρ = op2 (eqN neg) (evE W a ρ) (evE W b ρ) := Eq.trans rfl rfl
@[simp] theorem e_din {neg} : evE W (.din neg a b) ρ = op2 (inK neg) (evE W a ρ) (evE W b ρ) := Eq.trans rfl rfl
@[simp] theorem e_comp {ts : List E} {caps t n} : evE W (.comp a b ts caps t n) ρ = compR (evE W b ρ) ρ caps n (setG t) (fun ρ => evF W ts ρ) (fun ρ => evE W a ρ) := Eq.trans rfl rfl
@[simp] theorem e_fmt : evE W (.fmt a) ρ = fmtR (evE W a ρ) := Eq.trans rfl rfl
@[simp] theorem e_fstr : evE W (.fstr es) ρ = joinF Str.empty (evL W es) ρ := Eq.trans rfl rfl
@[simp] theorem el_nil : evL W [] = [] := by simp only [evL]
@[simp] theorem el_cons : evL W (a :: es) = evE W a :: evL W es := by simp only [evL]
@[simp] theorem sg_nm {i : Nat} {d : D} : setG (.nm i) d ρ = some (ρ.set i (some (false, d))) := by simp only [setG]
@[simp] theorem sg_tp {ts : List Tg} {ds : List D} : setG (.tp ts) (.tup ds) ρ = setGs ts ds ρ := by simp only [setG]
@[simp] theorem sg_tpl {ts : List Tg} {ds : List D} : setG (.tp ts) (.lst ds) ρ = setGs ts ds ρ := by simp only [setG]
@[simp] theorem sgs_nil : setGs [] [] ρ = some ρ := by simp [setGs]
@[simp] theorem sgs_cons {t : Tg} {ts : List Tg} {d : D} {ds : List D} : setGs (t :: ts) (d :: ds) ρ = (setG t d ρ).bind (setGs ts ds) := by
  simp only [setGs]
  cases setG t d ρ <;> rfl
@[simp] theorem fmt_s {m : Md} {z : Str} : fmtR (.ok m (.str z)) = .ok .fz (.str z) := rfl
@[simp] theorem e_tcall {t : Ty} : evE W (.tcall t es) ρ = callR t.f (evEs W es ρ) := Eq.trans rfl rfl
@[simp] theorem es_nil : evEs W [] ρ = .ok [] := by simp only [evEs]
@[simp] theorem es_cons : evEs W (a :: es) ρ = consL (evE W a ρ) (evEs W es ρ) := by simp only [evEs]
@[simp] theorem ea_one : evA W [a] ρ = evE W a ρ := by simp only [evA]
@[simp] theorem ea_cons : evA W (a :: b :: es) ρ = andR (evE W a ρ) (evA W (b :: es) ρ) := by simp only [evA]
@[simp] theorem eo_one : evO' W [a] ρ = evE W a ρ := by simp only [evO']
@[simp] theorem eo_cons : evO' W (a :: b :: es) ρ = orR (evE W a ρ) (evO' W (b :: es) ρ) := by simp only [evO']
@[simp] theorem ef_nil : evF W [] ρ = .ok .fz (.bl true) := by simp only [evF]
@[simp] theorem ef_cons : evF W (a :: es) ρ = andR (evE W a ρ) (evF W es ρ) := by simp only [evF]
@[simp] theorem eo_none : evO W none = none := by simp only [evO]
@[simp] theorem eo_some : evO W (some a) = some (evE W a) := by simp only [evO]
@[simp] theorem s_ret : evS W (.ret a) ρ = retR (evE W a ρ) ρ := Eq.trans rfl rfl
@[simp] theorem s_retV {i} : evS W (.retV i) ρ = retS ρ i := Eq.trans rfl rfl
@[simp] theorem s_set {i} : evS W (.set i a) ρ = setS ρ i (evE W a ρ) := Eq.trans rfl rfl
@[simp] theorem s_ite {x y : List S} : evS W (.ite a x y) ρ = ifS (evE W a ρ) ρ (evB W x ρ) (evB W y ρ) := Eq.trans rfl rfl
@[simp] theorem s_for {t : Tg} {y : List S} : evS W (.for a t y) ρ = forR (evE W a ρ) ρ (setG t) (evB W y) := Eq.trans rfl rfl
@[simp] theorem s_asg {t : Tg} : evS W (.asg t a) ρ = asgS t ρ (evE W a ρ) := Eq.trans rfl rfl
@[simp] theorem s_expr : evS W (.expr a) ρ = (evE W a ρ).thS ρ fun _ _ => .nx ρ := Eq.trans rfl rfl
@[simp] theorem s_rz {c} : evS W (.rz c es) ρ = rzR c ρ (evEs W es ρ) := Eq.trans rfl rfl
@[simp] theorem s_app {i} : evS W (.app i a) ρ = appS ρ i (evE W a ρ) := Eq.trans rfl rfl
@[simp] theorem s_frzV {i} : evS W (.frzV i) ρ = frzS ρ i := Eq.trans rfl rfl
@[simp] theorem s_dput {i} : evS W (.dput i a b) ρ = dputS ρ i (evE W a ρ) (evE W b ρ) := Eq.trans rfl rfl
@[simp] theorem s_setC {i} : evS W (.setC i false a) ρ = setS ρ i (evE W a ρ) := Eq.trans rfl rfl
@[simp] theorem s_setCf {i} : evS W (.setC i true a) ρ = setS ρ i (frzR (evE W a ρ)) := Eq.trans rfl rfl
@[simp] theorem b_nil : evB W [] ρ = .nx ρ := by simp only [evB]
@[simp] theorem b_cons {s : S} {r : List S} : evB W (s :: r) ρ = (evS W s ρ).thn (evB W r) := by simp only [evB]
end
section
variable {m n : Md} {i j : Int} {ρ : Rho} {d : D}
@[simp] theorem x_add : op2 (fBin .Add) (.ok m (.int i)) (.ok n (.int j)) = .ok .fz (.int (i + j)) := rfl
@[simp] theorem x_sub : op2 (fBin .Sub) (.ok m (.int i)) (.ok n (.int j)) = .ok .fz (.int (i - j)) := rfl
@[simp] theorem x_lt : op2 (fCmp .Lt) (.ok m (.int i)) (.ok n (.int j)) = .ok .fz (.bl (decide (i < j))) := rfl
@[simp] theorem x_le : op2 (fCmp .LtE) (.ok m (.int i)) (.ok n (.int j)) = .ok .fz (.bl (decide (i ≤ j))) := rfl
@[simp] theorem x_gt : op2 (fCmp .Gt) (.ok m (.int i)) (.ok n (.int j)) = .ok .fz (.bl (decide (j < i))) := rfl
@[simp] theorem x_ge : op2 (fCmp .GtE) (.ok m (.int i)) (.ok n (.int j)) = .ok .fz (.bl (decide (j ≤ i))) := rfl
@[simp] theorem x_mod (h : 0 < j) : op2 (fBin .Mod) (.ok m (.int i)) (.ok n (.int j)) = .ok .fz (.int (i % j)) := by
  show Res.of (if decide (0 < j) = true then _ else _) = _
  rw [if_pos (decide_eq_true h)]; rfl
theorem x_div (h : 0 < j) (hb : bits j = true) : op2 (fBin .FloorDiv) (.ok m (.int i)) (.ok n (.int j)) = .ok .fz (.int (i / j)) := by
  show Res.of (if (decide (0 < j) && bits j) = true then _ else _) = _
  rw [if_pos (by rw [hb, decide_eq_true h]; rfl)]; rfl
theorem bits_of (h : i.natAbs < 10 ^ 2000) : bits i = true := by
  unfold bits
  refine decide_eq_true ?_
  by_cases h0 : i.natAbs = 0
  · rw [h0]; decide
  · refine (Nat.log2_lt h0).mpr (Nat.lt_trans h ?_)
    decide +kernel
theorem bits_le {N : Nat} (h : i.natAbs ≤ N) (hN : N < 10 ^ 2000 := by decide +kernel) : bits i = true := bits_of (Nat.lt_of_le_of_lt h hN)
@[simp] theorem x_divS (h : 0 < j) (hb : j.natAbs ≤ 1000000000) : op2 (fBin .FloorDiv) (.ok m (.int i)) (.ok n (.int j)) = .ok .fz (.int (i / j)) := x_div h (bits_le hb)
theorem x_mulC (h : ((bits i && bits j) || (w64 i || w64 j)) = true) : op2 (fBin .Mult) (.ok m (.int i)) (.ok n (.int j)) = .ok .fz (.int (i * j)) := by
  show Res.of (((if ((bits i && bits j) || (w64 i || w64 j)) = true then _ else _ : Option (Md × D)).orElse _).orElse _) = _
  rw [if_pos h]; rfl
theorem x_mulL (h : i.natAbs < 9000000000000000000) : op2 (fBin .Mult) (.ok m (.int i)) (.ok n (.int j)) = .ok .fz (.int (i * j)) := x_mulC (by
  have : w64 i = true := decide_eq_true (by omega)
  rw [this]; simp)
theorem op2_of {φ : Md → D → Md → D → Option (Md × D)} {x y d : D} {k : Md} (h : φ m x n y = some (k, d)) : op2 φ (.ok m x) (.ok n y) = .ok k d := by
  show Res.of (φ m x n y) = _
  rw [h]; rfl
@[simp] theorem x_eqI : op2 (fCmp .Eq) (.ok m (.int i)) (.ok n (.int j)) = .ok .fz (.bl (i == j)) := op2_of rfl
@[simp] theorem x_neI : op2 (fCmp .NotEq) (.ok m (.int i)) (.ok n (.int j)) = .ok .fz (.bl (i != j)) := op2_of rfl
@[simp] theorem x_eqB {a b : Bool} : op2 (fCmp .Eq) (.ok m (.bl a)) (.ok n (.bl b)) = .ok .fz (.bl (a == b)) := op2_of rfl
@[simp] theorem x_neB {a b : Bool} : op2 (fCmp .NotEq) (.ok m (.bl a)) (.ok n (.bl b)) = .ok .fz (.bl (a != b)) := op2_of rfl
@[simp] theorem x_eqS {a b : Str} : op2 (fCmp .Eq) (.ok m (.str a)) (.ok n (.str b)) = .ok .fz (.bl (a == b)) := op2_of (by rfl)
@[simp] theorem x_neS {a b : Str} : op2 (fCmp .NotEq) (.ok m (.str a)) (.ok n (.str b)) = .ok .fz (.bl (a != b)) := op2_of (by rfl)
@[simp] theorem x_inS {a b : Str} : op2 (fCmp .In) (.ok m (.str a)) (.ok n (.str b)) = .ok .fz (.bl (isIn a b)) := op2_of rfl
@[simp] theorem x_notinS {a b : Str} : op2 (fCmp .NotIn) (.ok m (.str a)) (.ok n (.str b)) = .ok .fz (.bl (!isIn a b)) := op2_of rfl
@[simp] theorem x_addS {a b : Str} (h : a.length + b.length ≤ sizeLine) : op2 (fBin .Add) (.ok m (.str a)) (.ok n (.str b)) = .ok .fz (.str (a ++ b)) :=
  op2_of (by
    have : fS (fun i j => decide (i.length + j.length ≤ sizeLine)) (fun i j => D.str (i ++ j)) m (.str a) n (.str b) = some (Md.fz, D.str (a ++ b)) := by
      show (if decide (a.length + b.length ≤ sizeLine) = true then some (Md.fz, D.str (a ++ b)) else none) = _
      rw [if_pos (decide_eq_true h)]
    show orO (orO (fI (fun _ _ => true) fun i j => .int (i + j)) (fS (fun i j => decide (i.length + j.length ≤ sizeLine)) fun i j => .str (i ++ j))) catD m (.str a) n (.str b) = _
    simp only [orO, this]
    rfl)
@[simp] theorem x_isN {d : D} : op2 (fCmp .Is) (.ok m d) (.ok n .non) = .ok .fz (.bl (isNonD d)) := op2_of rfl
@[simp] theorem x_isnotN {d : D} : op2 (fCmp .IsNot) (.ok m d) (.ok n .non) = .ok .fz (.bl (!isNonD d)) := op2_of rfl
@[simp] theorem x_catL {x y : List D} (h : x.length + y.length ≤ sizeLine) : op2 (fBin .Add) (.ok m (.lst x)) (.ok n (.lst y)) = .ok .fr (.lst (x ++ y)) := op2_of (by
  show (if x.length + y.length ≤ sizeLine then some (Md.fr, D.lst (x ++ y)) else none) = _
  rw [if_pos h])
@[simp] theorem x_catT {x y : List D} (h : x.length + y.length ≤ sizeLine) : op2 (fBin .Add) (.ok m (.tup x)) (.ok n (.tup y)) = .ok .fz (.tup (x ++ y)) := op2_of (by
  show (if x.length + y.length ≤ sizeLine then some (Md.fz, D.tup (x ++ y)) else none) = _
  rw [if_pos h])
@[simp] theorem isn_n : isNonD .non = true := rfl
@[simp] theorem isn_i {i : Int} : isNonD (.int i) = false := rfl
@[simp] theorem isn_b {i : Bool} : isNonD (.bl i) = false := rfl
@[simp] theorem isn_s {i : Str} : isNonD (.str i) = false := rfl
@[simp] theorem isn_t {i : List D} : isNonD (.tup i) = false := rfl
@[simp] theorem isn_l {i : List D} : isNonD (.lst i) = false := rfl
@[simp] theorem x_andT {y : Res} : andR (.ok m (.bl true)) y = y := rfl
@[simp] theorem x_andF {y : Res} : andR (.ok m (.bl false)) y = .ok .fz (.bl false) := rfl
@[simp] theorem x_orT {y : Res} : orR (.ok m (.bl true)) y = .ok .fz (.bl true) := rfl
@[simp] theorem x_orF {y : Res} : orR (.ok m (.bl false)) y = y := rfl
@[simp] theorem x_and {a b : Bool} : andR (.ok m (.bl a)) (.ok .fz (.bl b)) = .ok .fz (.bl (a && b)) := by cases a <;> rfl
@[simp] theorem x_or {a b : Bool} : orR (.ok m (.bl a)) (.ok .fz (.bl b)) = .ok .fz (.bl (a || b)) := by cases a <;> rfl
@[simp] theorem x_not {a : Bool} : notR (.ok m (.bl a)) = .ok .fz (.bl (!a)) := rfl
@[simp] theorem x_tru {a : Bool} : truR (.ok m (.bl a)) = .ok .fz (.bl a) := rfl
@[simp] theorem x_truI : truR (.ok m (.int i)) = .ok .fz (.bl (i != 0)) := rfl
@[simp] theorem x_neg : negR (.ok m (.int i)) = .ok .fz (.int (-i)) := rfl
@[simp] theorem x_ifT {x y : SRes} : ifS (.ok m (.bl true)) ρ x y = x := rfl
@[simp] theorem x_ifF {x y : SRes} : ifS (.ok m (.bl false)) ρ x y = y := rfl
@[simp] theorem x_frz : frzR (.ok .fz d) = .ok .fz d := rfl
@[simp] theorem x_frr : frzR (.ok .fr d) = .ok .fz d := rfl
@[simp] theorem x_set {k : Nat} : setS ρ k (.ok .fz d) = .nx (ρ.set k (some (false, d))) := rfl
@[simp] theorem x_setr {k : Nat} : setS ρ k (.ok .fr d) = .nx (ρ.set k (some (true, d))) := rfl
@[simp] theorem x_ret : retR (.ok .fz d) ρ = .rt .fz d := rfl
@[simp] theorem x_retr : retR (.ok .fr d) ρ = .rt .fr d := rfl
@[simp] theorem g_0 {r : Rho} : getS (some (false, d) :: r) 0 = .ok .fz d := rfl
@[simp] theorem g_0b {r : Rho} : getS (some (true, d) :: r) 0 = .ok .bo d := rfl
@[simp] theorem g_s {x : Option (Bool × D)} {r : Rho} {i : Nat} : getS (x :: r) (i + 1) = getS r i := rfl
@[simp] theorem g_1 {x : Option (Bool × D)} {r : Rho} : getS (x :: r) 1 = getS r 0 := rfl
@[simp] theorem rs_0 {r : Rho} : retS (some (false, d) :: r) 0 = .rt .fz d := rfl
@[simp] theorem rs_0b {r : Rho} : retS (some (true, d) :: r) 0 = .rt .fr d := rfl
@[simp] theorem rs_1 {x : Option (Bool × D)} {r : Rho} : retS (x :: r) 1 = retS r 0 := rfl
@[simp] theorem rs_s {x : Option (Bool × D)} {r : Rho} {i : Nat} : retS (x :: r) (i + 1) = retS r i := rfl
@[simp] theorem r_set0 {x y : Option (Bool × D)} {r : Rho} : (x :: r).set 0 y = y :: r := rfl
@[simp] theorem x_callR {f : List (Md × D) → Option (Md × D)} {xs : List (Md × D)} : callR f (.ok xs) = Res.of (f xs) := rfl
@[simp] theorem bn_len : Bn.f .len = lenD := rfl
@[simp] theorem bn_isi : Bn.f .isinstance = isiD := rfl
@[simp] theorem ty_int : Ty.f .int = tcInt2 := rfl
@[simp] theorem ty_str : Ty.f .str = tcStr := rfl
@[simp] theorem ty_tuple : Ty.f .tuple = tcTuple := rfl
@[simp] theorem ty_dict : Ty.f .dict = tcDict := rfl
@[simp] theorem ty_list : Ty.f .list = tcList := rfl
@[simp] theorem tci_i {i : Int} : tcInt2 [(m, .int i)] = some (.fz, .int i) := rfl
@[simp] theorem tci_b {i : Bool} : tcInt2 [(m, .bl i)] = some (.fz, .int (if i then 1 else 0)) := rfl
@[simp] theorem tct_l {i : List D} : tcTuple [(m, .lst i)] = some (.fz, .tup i) := rfl
@[simp] theorem tct_t {i : List D} : tcTuple [(.fz, .tup i)] = some (.fz, .tup i) := rfl
@[simp] theorem tcl_l {i : List D} : tcList [(m, .lst i)] = some (.fr, .lst i) := rfl
@[simp] theorem tcl_t {i : List D} : tcList [(m, .tup i)] = some (.fr, .lst i) := rfl
@[simp] theorem tcs_i {i : Int} (h : small i = true) : tcStr [(m, .int i)] = some (.fz, .str (numS i)) := by show (if small i = true then _ else _) = _; rw [if_pos h]
@[simp] theorem len_s {z : Str} : lenD [(m, .str z)] = some (.fz, .int z.length) := rfl
@[simp] theorem len_l {z : List D} : lenD [(m, .lst z)] = some (.fz, .int z.length) := rfl
@[simp] theorem len_t {z : List D} : lenD [(m, .tup z)] = some (.fz, .int z.length) := rfl
@[simp] theorem itm_l {z : List D} : itemsR (.ok m (.lst z)) = .ok .fz (.lst z) := rfl
@[simp] theorem itm_t {z : List D} : itemsR (.ok m (.tup z)) = .ok .fz (.lst z) := rfl
@[simp] theorem itm_s {z : Str} : itemsR (.ok m (.str z)) = .ok .fz (.lst (charsD z)) := rfl
end
@[simp] theorem WT_xf {t : TB} {k : Nat} : (WT t k).xf = fun c x => t.xt.lookup (c, x) := by unfold WD.xf; rw [WT_xt]
@[simp] theorem WT_xg {t : TB} {k : Nat} : (WT t k).xg = fun c x => t.xi.lookup (c, x) := by unfold WD.xg; rw [WT_xi]
@[simp] theorem x_rz {c : Str} {ρ : Rho} {xs : List (Md × D)} (h : xs.length ≤ sizeLine) : rzR c ρ (.ok xs) = .exc c ρ := by
  show (if xs.length ≤ sizeLine then _ else _) = _
  rw [if_pos h]
section
variable {c x : Str} {ρ ρ' : Rho} {m : Md} {d : D} {xt : Str → Str → Option Bool} {hs : List HX} {g : Rho → SRes}
@[simp] theorem x_frx : frzR (.exc c) = .exc c := rfl
@[simp] theorem x_setx {k : Nat} : setS ρ k (.exc c) = .exc c ρ := rfl
@[simp] theorem x_retx : retR (.exc c) ρ = .exc c ρ := rfl
end
theorem xt_nil {K : PySem.W.Frag} {mg : Str → Option Value} : XtOk K mg (fun c x => ([] : List ((Str × Str) × Bool)).lookup (c, x)) := fun c x b h => by cases h
theorem xi_nil {K : PySem.W.Frag} {mg : Str → Option Value} : XisOk K mg (fun c x => ([] : List ((Str × Str) × Bool)).lookup (c, x)) := fun c x b h => by cases h
theorem phi_ok {n N : Nat} {g : Rho → SRes} {ds : List D} {m : Md} {d : D} (hl : ds.length = n) (h : g (startR N ds) = .rt m d) : phi n N g ds = .ok m d := by
  unfold phi
  rw [if_pos hl, h]; rfl
theorem callF_ok {n : Nat} {Φ : List D → Res} {xs : List (Md × D)} {ds : List D} {d : D} (hl : ds.length = n) (ha : allFz xs = some ds) (h : Φ ds = .ok .fz d) : callF n Φ (.ok xs) = .ok .fz d := by
  show (match allFz xs with | some ds => if ds.length = n then (match Φ ds with | .ok .bo _ => Res.stuck | r => r) else .stuck | none => .stuck) = _
  rw [ha]
  show (if ds.length = n then _ else _) = _
  rw [if_pos hl, h]
@[simp] theorem call1 {Φ : List D → Res} {a d : D} (h : Φ [a] = .ok .fz d) : callF 1 Φ (.ok [(.fz, a)]) = .ok .fz d := callF_ok (ds := [a]) rfl rfl h
@[simp] theorem call2 {Φ : List D → Res} {a b d : D} (h : Φ [a, b] = .ok .fz d) : callF 2 Φ (.ok [(.fz, a), (.fz, b)]) = .ok .fz d := callF_ok (ds := [a, b]) rfl rfl h
@[simp] theorem call3 {Φ : List D → Res} {a b c d : D} (h : Φ [a, b, c] = .ok .fz d) : callF 3 Φ (.ok [(.fz, a), (.fz, b), (.fz, c)]) = .ok .fz d := callF_ok (ds := [a, b, c]) rfl rfl h
theorem len1 {α : Type} {P : List α → Prop} (h : ∀ a, P [a]) : ∀ us : List α, us.length = 1 → P us
  | [a], _ => h a
theorem len2 {α : Type} {P : List α → Prop} (h : ∀ a b, P [a, b]) : ∀ us : List α, us.length = 2 → P us
  | [a, b], _ => h a b
theorem len3 {α : Type} {P : List α → Prop} (h : ∀ a b c, P [a, b, c]) : ∀ us : List α, us.length = 3 → P us
  | [a, b, c], _ => h a b c
theorem len5 {α : Type} {P : List α → Prop} (h : ∀ a b c d e, P [a, b, c, d, e]) : ∀ us : List α, us.length = 5 → P us
  | [a, b, c, d, e], _ => h a b c d e
theorem mem_cons {α : Type} {P : α → Prop} {a : α} {l : List α} (h : P a) (r : ∀ c, c ∈ l → P c) : ∀ c, c ∈ a :: l → P c := fun c hc => by
  rcases List.mem_cons.mp hc with rfl | hc
  · exact h
  · exact r c hc
@[simp] theorem wt_cl {t : TB} {k : Nat} : (WT t k).cl = t.cl := WT_cl t k
theorem wt_Φ {t : TB} {k : Nat} {f : Str} {d : FD} (h : t.T.lookup f = some d) : (WT t (k + 1)).Φ f = phi d.ps.length d.N.length (evB (WT t k) d.b) := by
  rw [WT_Φ]; unfold PhiF; rw [h]
@[simp] theorem call4 {Φ : List D → Res} {a b c e d : D} (h : Φ [a, b, c, e] = .ok .fz d) : callF 4 Φ (.ok [(.fz, a), (.fz, b), (.fz, c), (.fz, e)]) = .ok .fz d := callF_ok (ds := [a, b, c, e]) rfl rfl h
theorem b_app {W : WD} : ∀ {x y : List D3.S} {ρ : Rho}, evB W (x ++ y) ρ = (evB W x ρ).thn (evB W y)
  | [], y, ρ => by simp
  | s :: x, y, ρ => by
    show evB W (s :: (x ++ y)) ρ = _
    rw [b_cons, b_cons]
    cases evS W s ρ with
    | nx ρ' => exact b_app
    | _ => rfl
/-! ### loops -/
theorem forS_inv {k : D → Rho → Option Rho} {body : Rho → SRes} (I : Rho → Prop) : ∀ {ds : List D} {ρ : Rho}, (∀ d ∈ ds, ∀ ρ, I ρ → ∃ ρ1 ρ2, k d ρ = some ρ1 ∧ (body ρ1 = .nx ρ2 ∨ body ρ1 = .ct ρ2) ∧ I ρ2) → I ρ → ∃ ρ', forS k body ds ρ = .nx ρ' ∧ I ρ'
  | [], ρ, _, h => ⟨ρ, rfl, h⟩
  | d :: ds, ρ, hs, h => by
    obtain ⟨ρ1, ρ2, e1, e2, h2⟩ := hs d List.mem_cons_self ρ h
    obtain ⟨ρ', e3, h3⟩ := forS_inv I (fun d hd => hs d (List.mem_cons_of_mem _ hd)) h2
    refine ⟨ρ', ?_, h3⟩
    unfold forS
    rw [e1]
    dsimp only
    rcases e2 with e2 | e2 <;> rw [e2] <;> exact e3
theorem forR_inv {k : D → Rho → Option Rho} {body : Rho → SRes} {m : Md} {ds : List D} {ρ : Rho} (I : Rho → Prop) (hs : ∀ d ∈ ds, ∀ ρ, I ρ → ∃ ρ1 ρ2, k d ρ = some ρ1 ∧ (body ρ1 = .nx ρ2 ∨ body ρ1 = .ct ρ2) ∧ I ρ2) (h : I ρ) :
    ∃ ρ', forR (.ok m (.lst ds)) ρ k body = .nx ρ' ∧ I ρ' := forS_inv I hs h
/-! ### the greatest divisor -/
end D3

namespace K41
open PySem L2 D3
def b_plain_L1 : List D3.S := [.ite (.not (.tru (.call "plain" 1 [(.var 1)]))) [.ret (.bl false)] []]
def b_columns_of_pick_L1 : List D3.S := [.expr (.call "refuse_missing" 2 [(.var 2), (.ix (.var 1) (.int 0))])]
def b_kept_L1 : List D3.S := [.expr (.call "refuse_missing" 2 [(.var 3), (.var 1)]),
      .expr (.call "refuse_twice" 2 [(.var 0), (.var 2)])]
def b_columns_of_call_L1 : List D3.S := [.expr (.call "refuse_twice" 2 [(.var 2), (.var 3)])]
def b_columns_of_leave_L1 : List D3.S := [.ite (.cmp .NotIn (.var 4) (.var 2)) [.rz "Unlike" [(.fstr [(.str "the column "), (.fmt (.var 4)), (.str " of what is left out isn't there")])]] []]
def b__law_names_L1 : List D3.S := [.set 9 (.ix (.lst [(.int 26), (.int 36)]) (.tcall .int [(.cmp .Gt (.var 8) (.int 0))])),
      .set 10 (.frz (.bin .FloorDiv (.bin .FloorDiv (.var 0) (.int 7)) (.bin .Add (.var 8) (.int 1)))),
      .ite (.cmp .Eq (.var 8) (.var 4)) [.set 10 (.frz (.bin .Add (.bin .FloorDiv (.var 0) (.int 240)) (.bin .Mult (.int 5) (.var 6))))] [],
      .set 7 (.frz (.bin .Add (.var 7) (.ix (.var 2) (.bin .Mod (.var 10) (.var 9)))))]
def b__law_names_L2 : List D3.S := [.set 7 (.str ""),
      .for (.rng1 (.var 3)) (.nm 8) b__law_names_L1,
      .app 5 (.var 7)]
def b__law_alike_L1 : List D3.S := [.ite (.not (.tru (.call "_law_alike" 2 [(.ix (.var 0) (.var 2)), (.ix (.var 1) (.var 2))]))) [.ret (.bl false)] []]
def b_law_L1 : List D3.S := [.set 6 (.frz (.bin .Mod (.bin .FloorDiv (.call "_law_cell_at" 2 [(.var 0), (.int 3)]) (.bin .Add (.var 5) (.int 1))) (.int 7))),
      .set 7 (.frz (.bin .Add (.slice (.var 2) (some (.var 6)) (some (.int 7))) (.slice (.var 2) none (some (.var 6))))),
      .dput 4 (.ix (.var 3) (.var 5)) (.tcall .tuple [(.slice (.var 7) none (some (.bin .Add (.int 2) (.bin .Mod (.bin .FloorDiv (.var 1) (.ix (.lst [(.int 1), (.int 3), (.int 9)]) (.var 5))) (.int 3)))))])]
def b_law_L2 : List D3.S := [.asg (.tp [(.nm 8), (.nm 9)]) (.call "_law_step" 5 [(.var 8), (.var 9), (.var 11), (.var 4), (.var 2)]),
      .ite (.cmp .Eq (.ix (.var 8) (.int 0)) (.str "leave")) [.set 10 (.bl false)] []]
def b_refuse_twice : List D3.S := [.ite (.cmp .In (.ix (.var 0) (.var 1)) (.slice (.var 0) none (some (.var 1)))) [.rz "Twice" [(.fstr [(.str "the column "), (.fmt (.ix (.var 0) (.var 1))), (.str " was there ahead")])]] []]
def b_columns_in : List D3.S := [.set 1 (.ix (.var 0) (.int 0)),
      .ite (.cmp .Eq (.var 1) (.str "not")) [.ret (.call "columns_in" 1 [(.ix (.var 0) (.int 1))])] [],
      .ite (.cmp .In (.var 1) (.tup [(.str "both"), (.str "either")])) [.ret (.bin .Add (.call "columns_in" 1 [(.ix (.var 0) (.int 1))]) (.call "columns_in" 1 [(.ix (.var 0) (.int 2))]))] [],
      .ret (.comp (.ix (.var 0) (.int 1)) (.items (.slice (.var 0) (some (.int 1)) none)) [(.cmp .Eq (.ix (.var 0) (.int 0)) (.str "of"))] [] (.nm 0) 1)]
def b_askings_within : List D3.S := [.ite (.cmp .Eq (.ix (.var 0) (.int 0)) (.str "table")) [.ret (.tup [])] [],
      .ite (.cmp .In (.ix (.var 0) (.int 0)) (.tup [(.str "join"), (.str "pour"), (.str "leave")])) [.ret (.tup [(.ix (.var 0) (.int 1)), (.ix (.var 0) (.int 2))])] [],
      .ret (.tup [(.ix (.var 0) (.int 1))])]
def b_plain : List D3.S := [.ite (.cmp .Eq (.ix (.var 0) (.int 0)) (.str "leave")) [.ret (.bl false)] [],
      .for (.items (.call "askings_within" 1 [(.var 0)])) (.nm 1) b_plain_L1,
      .ret (.bl true)]
def b_refuse_missing : List D3.S := [.ite (.cmp .NotIn (.var 0) (.var 1)) [.rz "NoColumn" [(.fstr [(.str "there is no column "), (.fmt (.var 0))])]] []]
def b_columns_of_pick : List D3.S := [.for (.items (.call "columns_in" 1 [(.ix (.var 0) (.int 2))])) (.nm 2) b_columns_of_pick_L1,
      .ret (.ix (.var 1) (.int 0))]
def b_kept : List D3.S := [.for (.enum1 (.var 0)) (.tp [(.nm 2), (.nm 3)]) b_kept_L1,
      .retV 0]
def b_columns_of_keep : List D3.S := [.ret (.call "kept" 2 [(.ix (.var 0) (.int 2)), (.ix (.var 1) (.int 0))])]
def b_totalled : List D3.S := [.expr (.call "refuse_missing" 2 [(.var 0), (.var 2)]),
      .ret (.call "kept" 2 [(.var 1), (.var 2)])]
def b_columns_of_total : List D3.S := [.ret (.call "totalled" 3 [(.ix (.var 0) (.int 2)), (.ix (.var 0) (.int 3)), (.ix (.var 1) (.int 0))])]
def b_columns_of_call : List D3.S := [.set 2 (.ix (.var 0) (.int 2)),
      .ite (.cmp .NotEq (.bcall .len [(.var 2)]) (.bcall .len [(.ix (.var 1) (.int 0))])) [.rz "Unlike" [(.str "a call has as many columns as the asking within")]] [],
      .for (.rng1 (.bcall .len [(.var 2)])) (.nm 3) b_columns_of_call_L1,
      .retV 2]
def b_columns_of_join : List D3.S := [.asg (.tp [(.nm 2), (.nm 3)]) (.var 1),
      .ret (.bin .Add (.var 2) (.tcall .tuple [(.comp (.var 1) (.items (.var 3)) [(.cmp .NotIn (.var 1) (.var 0))] [2] (.nm 1) 1)]))]
def b_columns_of_pour : List D3.S := [.asg (.tp [(.nm 2), (.nm 3)]) (.var 1),
      .ite (.cmp .NotEq (.var 2) (.var 3)) [.rz "Unlike" [(.str "both askings of a pour have the same columns in the same order")]] [],
      .retV 2]
def b_columns_of_leave : List D3.S := [.asg (.tp [(.nm 2), (.nm 3)]) (.var 1),
      .for (.items (.var 3)) (.nm 4) b_columns_of_leave_L1,
      .retV 2]
def b_columns_of : List D3.S := [.ite (.cmp .Eq (.ix (.var 0) (.int 0)) (.str "table")) [.ret (.call "columns_of_table" 2 [(.ix (.var 0) (.int 1)), (.var 1)])] [],
      .setC 2 true (.comp (.call "columns_of" 2 [(.var 1), (.var 0)]) (.items (.call "askings_within" 1 [(.var 0)])) [] [1] (.nm 1) 1),
      .set 3 (.deed "DEEDS" [("pick", "columns_of_pick"), ("keep", "columns_of_keep"), ("call", "columns_of_call"), ("join", "columns_of_join"), ("pour", "columns_of_pour"), ("total", "columns_of_total"), ("leave", "columns_of_leave")] (.ix (.var 0) (.int 0))),
      .ret (.callv 3 ["columns_of_pick", "columns_of_keep", "columns_of_call", "columns_of_join", "columns_of_pour", "columns_of_total", "columns_of_leave"] 2 [(.var 0), (.var 2)])]
def b_columns_of_table : List D3.S := [.ite (.din true (.var 0) (.var 1)) [.rz "NoTable" [(.fstr [(.str "there is no table "), (.fmt (.var 0))])]] [],
      .ret (.dix (.var 1) (.var 0))]
def b__law_cell_at : List D3.S := [.ite (.cmp .Lt (.var 1) (.bcall .len [(.var 0)])) [.ret (.ix (.var 0) (.var 1))] [],
      .ret (.int 0)]
def b__law_names : List D3.S := [.set 2 (.str "abcdefghijklmnopqrstuvwxyz0123456789"),
      .set 3 (.ix (.lst [(.int 1), (.int 2), (.int 3), (.int 5), (.int 8), (.int 40)]) (.bin .Mod (.var 0) (.int 6))),
      .set 4 (.frz (.bin .Mod (.bin .FloorDiv (.var 0) (.int 6)) (.var 3))),
      .set 5 (.lst []),
      .for (.rng1 (.var 1)) (.nm 6) b__law_names_L2,
      .retV 5]
def b__law_alike : List D3.S := [.ite (.cmp .Is (.var 1) .non) [.ret (.cmp .Is (.var 0) .non)] [],
      .ite (.tru (.bcall .isinstance [(.var 1), (.ty .bool)])) [.ret (.andL [(.bcall .isinstance [(.var 0), (.ty .bool)]), (.cmp .Eq (.var 0) (.var 1))])] [],
      .ite (.tru (.bcall .isinstance [(.var 1), (.ty .int)])) [.ret (.andL [(.bcall .isinstance [(.var 0), (.ty .int)]), (.not (.bcall .isinstance [(.var 0), (.ty .bool)])), (.cmp .Eq (.var 0) (.var 1))])] [],
      .ite (.tru (.bcall .isinstance [(.var 1), (.ty .str)])) [.ret (.andL [(.bcall .isinstance [(.var 0), (.ty .str)]), (.cmp .Eq (.var 0) (.var 1))])] [],
      .ite (.tru (.bcall .isinstance [(.var 1), (.ty .list)])) [.ite (.orL [(.not (.tru (.bcall .isinstance [(.var 0), (.ty .list)]))), (.cmp .NotEq (.bcall .len [(.var 0)]) (.bcall .len [(.var 1)]))]) [.ret (.bl false)] []] [.ite (.orL [(.not (.tru (.bcall .isinstance [(.var 0), (.ty .tuple)]))), (.cmp .NotEq (.bcall .len [(.var 0)]) (.bcall .len [(.var 1)]))]) [.ret (.bl false)] []],
      .for (.rng1 (.bcall .len [(.var 1)])) (.nm 2) b__law_alike_L1,
      .ret (.bl true)]
def b__law_kept : List D3.S := [.set 2 (.frz (.bin .Mod (.var 1) (.bin .Add (.bcall .len [(.var 0)]) (.int 1)))),
      .set 3 (.frz (.bin .Add (.slice (.var 0) (some (.var 2)) none) (.slice (.var 0) none (some (.var 2))))),
      .ret (.slice (.var 3) (some (.bin .Mod (.bin .FloorDiv (.var 1) (.int 7)) (.int 2))) none)]
def b__law_as : List D3.S := [.set 3 (.dix (.var 1) (.var 0)),
      .ret (.tup [(.str "call"), (.tup [(.str "keep"), (.tup [(.str "table"), (.var 0)]), (.frz (.slice (.var 3) none (some (.bcall .len [(.var 2)]))))]), (.var 2)])]
def b__law_picked : List D3.S := [.set 3 (.tup [(.str "just"), (.frz (.bin .Mod (.var 2) (.bin .Pow (.int 10) (.int 30))))]),
      .ite (.cmp .NotEq (.var 1) (.tup [])) [.set 3 (.tup [(.str "of"), (.ix (.var 1) (.bin .Mod (.bin .FloorDiv (.var 2) (.int 3)) (.bcall .len [(.var 1)])))])] [],
      .set 4 (.tup [(.str "under"), (.var 3), (.tup [(.str "just"), (.str "a")])]),
      .ite (.cmp .Eq (.bin .Mod (.var 2) (.int 3)) (.int 0)) [.set 4 (.tup [(.str "both"), (.tup [(.str "not"), (.var 4)]), (.tup [(.str "same"), (.tup [(.str "just"), (.frz (.bin .Mod (.neg (.var 2)) (.int 7)))]), (.var 3)])])] [],
      .ret (.tup [(.str "pick"), (.var 0), (.var 4)])]
def b__law_joined : List D3.S := [.ite (.cmp .Eq (.var 4) (.int 0)) [.ret (.tup [(.tup [(.str "join"), (.var 0), (.tup [(.str "table"), (.var 2)])]), (.frz (.bin .Add (.var 1) (.tcall .tuple [(.comp (.var 1) (.items (.var 3)) [(.cmp .NotIn (.var 1) (.var 0))] [1] (.nm 1) 1)])))])] [],
      .ret (.tup [(.tup [(.str "join"), (.tup [(.str "table"), (.var 2)]), (.var 0)]), (.frz (.bin .Add (.var 3) (.tcall .tuple [(.comp (.var 1) (.items (.var 1)) [(.cmp .NotIn (.var 1) (.var 0))] [3] (.nm 1) 1)])))])]
def b__law_beside : List D3.S := [.ite (.andL [(.cmp .Lt (.bin .Mod (.var 4) (.int 3)) (.int 2)), (.cmp .LtE (.bcall .len [(.var 1)]) (.bcall .len [(.dix (.var 3) (.var 2))]))]) [.set 5 (.frz (.call "_law_as" 3 [(.var 2), (.var 3), (.var 1)])),
      .set 6 (.ix (.lst [(.tup [(.var 0), (.var 5)]), (.tup [(.var 5), (.var 0)])]) (.bin .Mod (.bin .FloorDiv (.var 4) (.int 3)) (.int 2))),
      .ret (.tup [(.ix (.lst [(.frz (.bin .Add (.tup [(.str "pour")]) (.var 6))), (.frz (.bin .Add (.tup [(.str "leave")]) (.var 6)))]) (.bin .Mod (.var 4) (.int 3))), (.var 1)])] [],
      .set 7 (.frz (.slice (.call "_law_kept" 2 [(.var 1), (.frz (.bin .FloorDiv (.var 4) (.int 6)))]) none (some (.bcall .len [(.dix (.var 3) (.var 2))])))),
      .ret (.tup [(.tup [(.str "leave"), (.var 0), (.frz (.call "_law_as" 3 [(.var 2), (.var 3), (.var 7)]))]), (.var 1)])]
def b__law_step : List D3.S := [.set 5 (.frz (.bin .Mod (.var 2) (.int 7))),
      .set 6 (.frz (.bin .FloorDiv (.var 2) (.int 7))),
      .set 7 (.ix (.dlist (.var 3)) (.bin .Mod (.var 6) (.int 3))),
      .ite (.cmp .Eq (.var 5) (.int 0)) [.ret (.tup [(.frz (.call "_law_picked" 3 [(.var 0), (.var 1), (.var 6)])), (.var 1)])] [],
      .ite (.cmp .Eq (.var 5) (.int 1)) [.set 8 (.frz (.call "_law_kept" 2 [(.var 1), (.var 6)])),
      .ret (.tup [(.tup [(.str "keep"), (.var 0), (.var 8)]), (.var 8)])] [],
      .ite (.cmp .Eq (.var 5) (.int 2)) [.set 9 (.frz (.tcall .tuple [(.comp (.ix (.var 0) (.bin .Mod (.bin .Add (.var 2) (.bin .FloorDiv (.var 1) (.int 2))) (.int 11))) (.rng1 (.bcall .len [(.var 1)])) [] [4, 6] (.nm 2) 1)])),
      .ite (.cmp .Eq (.bin .Mod (.var 6) (.int 2)) (.int 0)) [.set 9 (.frz (.bin .Add (.slice (.var 1) (some (.int 1)) none) (.slice (.var 1) none (some (.int 1)))))] [],
      .ret (.tup [(.tup [(.str "call"), (.var 0), (.var 9)]), (.var 9)])] [],
      .ite (.cmp .Eq (.var 5) (.int 3)) [.ret (.call "_law_joined" 5 [(.var 0), (.var 1), (.var 7), (.dix (.var 3) (.var 7)), (.frz (.bin .Mod (.bin .FloorDiv (.var 6) (.int 3)) (.int 2)))])] [],
      .ite (.andL [(.cmp .Eq (.var 5) (.int 4)), (.cmp .NotEq (.var 1) (.tup []))]) [.set 8 (.frz (.call "_law_kept" 2 [(.var 1), (.var 6)])),
      .ret (.tup [(.tup [(.str "total"), (.var 0), (.ix (.var 1) (.bin .Mod (.bin .FloorDiv (.var 6) (.int 14)) (.bcall .len [(.var 1)]))), (.var 8)]), (.var 8)])] [],
      .ret (.call "_law_beside" 5 [(.var 0), (.var 1), (.var 7), (.var 3), (.frz (.bin .FloorDiv (.var 6) (.int 3)))])]
def b_law : List D3.S := [.set 1 (.frz (.call "_law_cell_at" 2 [(.var 0), (.int 0)])),
      .set 2 (.frz (.call "_law_names" 2 [(.frz (.call "_law_cell_at" 2 [(.var 0), (.int 1)])), (.int 11)])),
      .set 3 (.frz (.call "_law_names" 2 [(.frz (.call "_law_cell_at" 2 [(.var 0), (.int 2)])), (.int 3)])),
      .set 4 .dnew,
      .for (.rng1 (.int 3)) (.nm 5) b_law_L1,
      .frzV 4,
      .set 8 (.tup [(.str "table"), (.ix (.var 3) (.bin .Mod (.bin .FloorDiv (.var 1) (.int 27)) (.int 3)))]),
      .set 9 (.dix (.var 4) (.ix (.var 3) (.bin .Mod (.bin .FloorDiv (.var 1) (.int 27)) (.int 3)))),
      .set 10 (.bl true),
      .for (.items (.slice (.var 0) (some (.int 4)) (some (.int 16)))) (.nm 11) b_law_L2,
      .set 12 (.frz (.tcall .dict [(.var 4)])),
      .ite (.orL [(.not (.tru (.call "_law_alike" 2 [(.frz (.call "columns_of" 2 [(.var 8), (.var 12)])), (.var 9)]))), (.not (.tru (.call "_law_alike" 2 [(.frz (.call "plain" 1 [(.var 8)])), (.var 10)])))]) [.ret (.bl false)] [],
      .ite (.deq true (.var 12) (.var 4)) [.ret (.bl false)] [],
      .ret (.andL [(.call "_law_alike" 2 [(.frz (.call "columns_of" 2 [(.var 8), (.var 12)])), (.var 9)]), (.call "_law_alike" 2 [(.frz (.call "plain" 1 [(.var 8)])), (.var 10)])])]
def d_refuse_twice : FD := ⟨["columns", "at"], ["columns", "at"], b_refuse_twice⟩
def d_columns_in : FD := ⟨["test"], ["test", "word"], b_columns_in⟩
def d_askings_within : FD := ⟨["asking"], ["asking"], b_askings_within⟩
def d_plain : FD := ⟨["asking"], ["asking", "one"], b_plain⟩
def d_refuse_missing : FD := ⟨["column", "columns"], ["column", "columns"], b_refuse_missing⟩
def d_columns_of_pick : FD := ⟨["asking", "within"], ["asking", "within", "column"], b_columns_of_pick⟩
def d_kept : FD := ⟨["columns", "within"], ["columns", "within", "at", "column"], b_kept⟩
def d_columns_of_keep : FD := ⟨["asking", "within"], ["asking", "within"], b_columns_of_keep⟩
def d_totalled : FD := ⟨["column", "columns", "within"], ["column", "columns", "within"], b_totalled⟩
def d_columns_of_total : FD := ⟨["asking", "within"], ["asking", "within"], b_columns_of_total⟩
def d_columns_of_call : FD := ⟨["asking", "within"], ["asking", "within", "columns", "at"], b_columns_of_call⟩
def d_columns_of_join : FD := ⟨["asking", "within"], ["asking", "within", "one", "other"], b_columns_of_join⟩
def d_columns_of_pour : FD := ⟨["asking", "within"], ["asking", "within", "one", "other"], b_columns_of_pour⟩
def d_columns_of_leave : FD := ⟨["asking", "within"], ["asking", "within", "one", "other", "column"], b_columns_of_leave⟩
def d_columns_of : FD := ⟨["asking", "shapes"], ["asking", "shapes", "within", "deed"], b_columns_of⟩
def d_columns_of_table : FD := ⟨["name", "shapes"], ["name", "shapes"], b_columns_of_table⟩
def d__law_cell_at : FD := ⟨["_law_script", "_law_k"], ["_law_script", "_law_k"], b__law_cell_at⟩
def d__law_names : FD := ⟨["_law_cell", "_law_many"], ["_law_cell", "_law_many", "_law_letters", "_law_size", "_law_at", "_law_names_here", "_law_k", "_law_name", "_law_j", "_law_most", "_law_drift"], b__law_names⟩
def d__law_alike : FD := ⟨["_law_found", "_law_due"], ["_law_found", "_law_due", "_law_k"], b__law_alike⟩
def d__law_kept : FD := ⟨["_law_columns", "_law_c"], ["_law_columns", "_law_c", "_law_turn", "_law_spun"], b__law_kept⟩
def d__law_as : FD := ⟨["_law_name", "_law_shapes", "_law_columns"], ["_law_name", "_law_shapes", "_law_columns", "_law_own"], b__law_as⟩
def d__law_picked : FD := ⟨["_law_asking", "_law_columns", "_law_c"], ["_law_asking", "_law_columns", "_law_c", "_law_part", "_law_test"], b__law_picked⟩
def d__law_joined : FD := ⟨["_law_asking", "_law_columns", "_law_name", "_law_own", "_law_side"], ["_law_asking", "_law_columns", "_law_name", "_law_own", "_law_side"], b__law_joined⟩
def d__law_beside : FD := ⟨["_law_asking", "_law_columns", "_law_name", "_law_shapes", "_law_c"], ["_law_asking", "_law_columns", "_law_name", "_law_shapes", "_law_c", "_law_other", "_law_pair", "_law_some"], b__law_beside⟩
def d__law_step : FD := ⟨["_law_asking", "_law_columns", "_law_cell", "_law_shapes", "_law_names_here"], ["_law_asking", "_law_columns", "_law_cell", "_law_shapes", "_law_names_here", "_law_way", "_law_c", "_law_name", "_law_saved", "_law_fresh"], b__law_step⟩
def d_law : FD := ⟨["_law_script"], ["_law_script", "_law_head", "_law_names_here", "_law_words", "_law_shapes", "_law_k", "_law_turn", "_law_row", "_law_asking", "_law_columns", "_law_flat", "_law_cell", "_law_handed"], b_law⟩
def T : List (Str × FD) := [(("refuse_twice" : Str), d_refuse_twice), (("columns_in" : Str), d_columns_in), (("askings_within" : Str), d_askings_within), (("plain" : Str), d_plain), (("refuse_missing" : Str), d_refuse_missing), (("columns_of_pick" : Str), d_columns_of_pick), (("kept" : Str), d_kept), (("columns_of_keep" : Str), d_columns_of_keep), (("totalled" : Str), d_totalled), (("columns_of_total" : Str), d_columns_of_total), (("columns_of_call" : Str), d_columns_of_call), (("columns_of_join" : Str), d_columns_of_join), (("columns_of_pour" : Str), d_columns_of_pour), (("columns_of_leave" : Str), d_columns_of_leave), (("columns_of" : Str), d_columns_of), (("columns_of_table" : Str), d_columns_of_table), (("_law_cell_at" : Str), d__law_cell_at), (("_law_names" : Str), d__law_names), (("_law_alike" : Str), d__law_alike), (("_law_kept" : Str), d__law_kept), (("_law_as" : Str), d__law_as), (("_law_picked" : Str), d__law_picked), (("_law_joined" : Str), d__law_joined), (("_law_beside" : Str), d__law_beside), (("_law_step" : Str), d__law_step), (("law" : Str), d_law)]
def TT : TB := ⟨T, [], [], [], []⟩
def GG : MG := ⟨[(("DEEDS" : Str), (GV.con (.t [("pick", "columns_of_pick"), ("keep", "columns_of_keep"), ("call", "columns_of_call"), ("join", "columns_of_join"), ("pour", "columns_of_pour"), ("total", "columns_of_total"), ("leave", "columns_of_leave")]))), (("NoColumn" : Str), (GV.cls)), (("NoTable" : Str), (GV.cls)), (("Twice" : Str), (GV.cls)), (("Unlike" : Str), (GV.cls)), (("_law_alike" : Str), (GV.fn 2)), (("_law_as" : Str), (GV.fn 3)), (("_law_beside" : Str), (GV.fn 5)), (("_law_cell_at" : Str), (GV.fn 2)), (("_law_joined" : Str), (GV.fn 5)), (("_law_kept" : Str), (GV.fn 2)), (("_law_names" : Str), (GV.fn 2)), (("_law_picked" : Str), (GV.fn 3)), (("_law_step" : Str), (GV.fn 5)), (("askings_within" : Str), (GV.fn 1)), (("bool" : Str), (GV.no)), (("columns_in" : Str), (GV.fn 1)), (("columns_of" : Str), (GV.fn 2)), (("columns_of_call" : Str), (GV.fn 2)), (("columns_of_join" : Str), (GV.fn 2)), (("columns_of_keep" : Str), (GV.fn 2)), (("columns_of_leave" : Str), (GV.fn 2)), (("columns_of_pick" : Str), (GV.fn 2)), (("columns_of_pour" : Str), (GV.fn 2)), (("columns_of_table" : Str), (GV.fn 2)), (("columns_of_total" : Str), (GV.fn 2)), (("dict" : Str), (GV.no)), (("enumerate" : Str), (GV.no)), (("int" : Str), (GV.no)), (("isinstance" : Str), (GV.no)), (("kept" : Str), (GV.fn 2)), (("len" : Str), (GV.no)), (("list" : Str), (GV.no)), (("plain" : Str), (GV.fn 1)), (("range" : Str), (GV.no)), (("refuse_missing" : Str), (GV.fn 2)), (("refuse_twice" : Str), (GV.fn 2)), (("str" : Str), (GV.no)), (("totalled" : Str), (GV.fn 3)), (("tuple" : Str), (GV.no))], [], [], [], ["Twice", "NoColumn", "Unlike", "NoTable"], []⟩
def top (i : Nat) : Stmt := PySem.Challenge.pw_whencewise_k41_columns.main.body.getD i (.Pass ⟨0, 0, 0, 0⟩)
abbrev s_refuse_twice : Stmt := top 7
abbrev s_columns_in : Stmt := top 9
abbrev s_askings_within : Stmt := top 11
abbrev s_plain : Stmt := top 12
abbrev s_refuse_missing : Stmt := top 13
abbrev s_columns_of_pick : Stmt := top 14
abbrev s_kept : Stmt := top 15
abbrev s_columns_of_keep : Stmt := top 16
abbrev s_totalled : Stmt := top 17
abbrev s_columns_of_total : Stmt := top 18
abbrev s_columns_of_call : Stmt := top 19
abbrev s_columns_of_join : Stmt := top 20
abbrev s_columns_of_pour : Stmt := top 21
abbrev s_columns_of_leave : Stmt := top 22
abbrev s_columns_of : Stmt := top 24
abbrev s_columns_of_table : Stmt := top 25
abbrev s__law_cell_at : Stmt := top 27
abbrev s__law_names : Stmt := top 28
abbrev s__law_alike : Stmt := top 29
abbrev s__law_kept : Stmt := top 30
abbrev s__law_as : Stmt := top 31
abbrev s__law_picked : Stmt := top 32
abbrev s__law_joined : Stmt := top 33
abbrev s__law_beside : Stmt := top 34
abbrev s__law_step : Stmt := top 35
abbrev s_law : Stmt := top 36
theorem u_refuse_twice (k : Nat) : (WT TT (k + 1)).Φ "refuse_twice" = phi 2 2 (evB (WT TT k) b_refuse_twice) := wt_Φ (d := d_refuse_twice) rfl
theorem u_columns_in (k : Nat) : (WT TT (k + 1)).Φ "columns_in" = phi 1 2 (evB (WT TT k) b_columns_in) := wt_Φ (d := d_columns_in) rfl
theorem u_askings_within (k : Nat) : (WT TT (k + 1)).Φ "askings_within" = phi 1 1 (evB (WT TT k) b_askings_within) := wt_Φ (d := d_askings_within) rfl
theorem u_plain (k : Nat) : (WT TT (k + 1)).Φ "plain" = phi 1 2 (evB (WT TT k) b_plain) := wt_Φ (d := d_plain) rfl
theorem u_refuse_missing (k : Nat) : (WT TT (k + 1)).Φ "refuse_missing" = phi 2 2 (evB (WT TT k) b_refuse_missing) := wt_Φ (d := d_refuse_missing) rfl
theorem u_columns_of_pick (k : Nat) : (WT TT (k + 1)).Φ "columns_of_pick" = phi 2 3 (evB (WT TT k) b_columns_of_pick) := wt_Φ (d := d_columns_of_pick) rfl
theorem u_kept (k : Nat) : (WT TT (k + 1)).Φ "kept" = phi 2 4 (evB (WT TT k) b_kept) := wt_Φ (d := d_kept) rfl
theorem u_columns_of_keep (k : Nat) : (WT TT (k + 1)).Φ "columns_of_keep" = phi 2 2 (evB (WT TT k) b_columns_of_keep) := wt_Φ (d := d_columns_of_keep) rfl
theorem u_totalled (k : Nat) : (WT TT (k + 1)).Φ "totalled" = phi 3 3 (evB (WT TT k) b_totalled) := wt_Φ (d := d_totalled) rfl
theorem u_columns_of_total (k : Nat) : (WT TT (k + 1)).Φ "columns_of_total" = phi 2 2 (evB (WT TT k) b_columns_of_total) := wt_Φ (d := d_columns_of_total) rfl
theorem u_columns_of_call (k : Nat) : (WT TT (k + 1)).Φ "columns_of_call" = phi 2 4 (evB (WT TT k) b_columns_of_call) := wt_Φ (d := d_columns_of_call) rfl
theorem u_columns_of_join (k : Nat) : (WT TT (k + 1)).Φ "columns_of_join" = phi 2 4 (evB (WT TT k) b_columns_of_join) := wt_Φ (d := d_columns_of_join) rfl
theorem u_columns_of_pour (k : Nat) : (WT TT (k + 1)).Φ "columns_of_pour" = phi 2 4 (evB (WT TT k) b_columns_of_pour) := wt_Φ (d := d_columns_of_pour) rfl
theorem u_columns_of_leave (k : Nat) : (WT TT (k + 1)).Φ "columns_of_leave" = phi 2 5 (evB (WT TT k) b_columns_of_leave) := wt_Φ (d := d_columns_of_leave) rfl
theorem u_columns_of (k : Nat) : (WT TT (k + 1)).Φ "columns_of" = phi 2 4 (evB (WT TT k) b_columns_of) := wt_Φ (d := d_columns_of) rfl
theorem u_columns_of_table (k : Nat) : (WT TT (k + 1)).Φ "columns_of_table" = phi 2 2 (evB (WT TT k) b_columns_of_table) := wt_Φ (d := d_columns_of_table) rfl
theorem u__law_cell_at (k : Nat) : (WT TT (k + 1)).Φ "_law_cell_at" = phi 2 2 (evB (WT TT k) b__law_cell_at) := wt_Φ (d := d__law_cell_at) rfl
theorem u__law_names (k : Nat) : (WT TT (k + 1)).Φ "_law_names" = phi 2 11 (evB (WT TT k) b__law_names) := wt_Φ (d := d__law_names) rfl
theorem u__law_alike (k : Nat) : (WT TT (k + 1)).Φ "_law_alike" = phi 2 3 (evB (WT TT k) b__law_alike) := wt_Φ (d := d__law_alike) rfl
theorem u__law_kept (k : Nat) : (WT TT (k + 1)).Φ "_law_kept" = phi 2 4 (evB (WT TT k) b__law_kept) := wt_Φ (d := d__law_kept) rfl
theorem u__law_as (k : Nat) : (WT TT (k + 1)).Φ "_law_as" = phi 3 4 (evB (WT TT k) b__law_as) := wt_Φ (d := d__law_as) rfl
theorem u__law_picked (k : Nat) : (WT TT (k + 1)).Φ "_law_picked" = phi 3 5 (evB (WT TT k) b__law_picked) := wt_Φ (d := d__law_picked) rfl
theorem u__law_joined (k : Nat) : (WT TT (k + 1)).Φ "_law_joined" = phi 5 5 (evB (WT TT k) b__law_joined) := wt_Φ (d := d__law_joined) rfl
theorem u__law_beside (k : Nat) : (WT TT (k + 1)).Φ "_law_beside" = phi 5 8 (evB (WT TT k) b__law_beside) := wt_Φ (d := d__law_beside) rfl
theorem u__law_step (k : Nat) : (WT TT (k + 1)).Φ "_law_step" = phi 5 10 (evB (WT TT k) b__law_step) := wt_Φ (d := d__law_step) rfl
theorem u_law (k : Nat) : (WT TT (k + 1)).Φ "law" = phi 1 13 (evB (WT TT k) b_law) := wt_Φ (d := d_law) rfl
theorem ok_g : gOk GG.G TT.T = true := by decide +kernel
theorem ok_mt : mtOk TT.cl TT.T = true := by decide +kernel
theorem ok_mk : mkiOk GG.mki TT.I = true := by decide +kernel
theorem ok_refuse_twice : fdOk GG s_refuse_twice d_refuse_twice = true := by decide +kernel
theorem ok_columns_in : fdOk GG s_columns_in d_columns_in = true := by decide +kernel
theorem ok_askings_within : fdOk GG s_askings_within d_askings_within = true := by decide +kernel
theorem ok_plain : fdOk GG s_plain d_plain = true := by decide +kernel
theorem ok_refuse_missing : fdOk GG s_refuse_missing d_refuse_missing = true := by decide +kernel
theorem ok_columns_of_pick : fdOk GG s_columns_of_pick d_columns_of_pick = true := by decide +kernel
theorem ok_kept : fdOk GG s_kept d_kept = true := by decide +kernel
theorem ok_columns_of_keep : fdOk GG s_columns_of_keep d_columns_of_keep = true := by decide +kernel
theorem ok_totalled : fdOk GG s_totalled d_totalled = true := by decide +kernel
theorem ok_columns_of_total : fdOk GG s_columns_of_total d_columns_of_total = true := by decide +kernel
theorem ok_columns_of_call : fdOk GG s_columns_of_call d_columns_of_call = true := by decide +kernel
theorem ok_columns_of_join : fdOk GG s_columns_of_join d_columns_of_join = true := by decide +kernel
theorem ok_columns_of_pour : fdOk GG s_columns_of_pour d_columns_of_pour = true := by decide +kernel
theorem ok_columns_of_leave : fdOk GG s_columns_of_leave d_columns_of_leave = true := by decide +kernel
theorem ok_columns_of : fdOk GG s_columns_of d_columns_of = true := by decide +kernel
theorem ok_columns_of_table : fdOk GG s_columns_of_table d_columns_of_table = true := by decide +kernel
theorem ok__law_cell_at : fdOk GG s__law_cell_at d__law_cell_at = true := by decide +kernel
theorem ok__law_names : fdOk GG s__law_names d__law_names = true := by decide +kernel
theorem ok__law_alike : fdOk GG s__law_alike d__law_alike = true := by decide +kernel
theorem ok__law_kept : fdOk GG s__law_kept d__law_kept = true := by decide +kernel
theorem ok__law_as : fdOk GG s__law_as d__law_as = true := by decide +kernel
theorem ok__law_picked : fdOk GG s__law_picked d__law_picked = true := by decide +kernel
theorem ok__law_joined : fdOk GG s__law_joined d__law_joined = true := by decide +kernel
theorem ok__law_beside : fdOk GG s__law_beside d__law_beside = true := by decide +kernel
theorem ok__law_step : fdOk GG s__law_step d__law_step = true := by decide +kernel
theorem ok_law : fdOk GG s_law d_law = true := by decide +kernel
set_option maxHeartbeats 0 in
theorem all_mk {l : PySem.W.OpenLaw} {w : World} {K : PySem.W.Frag} {h : Heap} {mg : Str → Option Value} {fa : Addr} (k : Nat) (X : K.In h) (G : h.Ns mainGlobals mg) (hfa : mg "law" = some (.ref fa))
    {f0 : Addr} {od0 an0 : Option Addr} {sl0 : Array (Option Value)} {oc0 kV0 dc0 pm0 cd0 ct0 : Value} (a0 : PySem.W.nsIn K mainGlobals "refuse_twice" = some (some (.ref f0)))
    (l0 : K.lookup f0 = some ⟨oc0, od0, .func (PySem.W.fnOf "refuse_twice" "refuse_twice" (defArgs s_refuse_twice) (defBody s_refuse_twice) (defScope s_refuse_twice) .none kV0 dc0 pm0 an0 cd0 ct0), sl0⟩)
    (c0 : PySem.W.codeIn K cd0 "refuse_twice" = true)
    (k0 : PySem.W.keepIn K (.ref f0) = true)
    {f1 : Addr} {od1 an1 : Option Addr} {sl1 : Array (Option Value)} {oc1 kV1 dc1 pm1 cd1 ct1 : Value} (a1 : PySem.W.nsIn K mainGlobals "columns_in" = some (some (.ref f1)))
    (l1 : K.lookup f1 = some ⟨oc1, od1, .func (PySem.W.fnOf "columns_in" "columns_in" (defArgs s_columns_in) (defBody s_columns_in) (defScope s_columns_in) .none kV1 dc1 pm1 an1 cd1 ct1), sl1⟩)
    (c1 : PySem.W.codeIn K cd1 "columns_in" = true)
    (k1 : PySem.W.keepIn K (.ref f1) = true)
    {f2 : Addr} {od2 an2 : Option Addr} {sl2 : Array (Option Value)} {oc2 kV2 dc2 pm2 cd2 ct2 : Value} (a2 : PySem.W.nsIn K mainGlobals "askings_within" = some (some (.ref f2)))
    (l2 : K.lookup f2 = some ⟨oc2, od2, .func (PySem.W.fnOf "askings_within" "askings_within" (defArgs s_askings_within) (defBody s_askings_within) (defScope s_askings_within) .none kV2 dc2 pm2 an2 cd2 ct2), sl2⟩)
    (c2 : PySem.W.codeIn K cd2 "askings_within" = true)
    (k2 : PySem.W.keepIn K (.ref f2) = true)
    {f3 : Addr} {od3 an3 : Option Addr} {sl3 : Array (Option Value)} {oc3 kV3 dc3 pm3 cd3 ct3 : Value} (a3 : PySem.W.nsIn K mainGlobals "plain" = some (some (.ref f3)))
    (l3 : K.lookup f3 = some ⟨oc3, od3, .func (PySem.W.fnOf "plain" "plain" (defArgs s_plain) (defBody s_plain) (defScope s_plain) .none kV3 dc3 pm3 an3 cd3 ct3), sl3⟩)
    (c3 : PySem.W.codeIn K cd3 "plain" = true)
    (k3 : PySem.W.keepIn K (.ref f3) = true)
    {f4 : Addr} {od4 an4 : Option Addr} {sl4 : Array (Option Value)} {oc4 kV4 dc4 pm4 cd4 ct4 : Value} (a4 : PySem.W.nsIn K mainGlobals "refuse_missing" = some (some (.ref f4)))
    (l4 : K.lookup f4 = some ⟨oc4, od4, .func (PySem.W.fnOf "refuse_missing" "refuse_missing" (defArgs s_refuse_missing) (defBody s_refuse_missing) (defScope s_refuse_missing) .none kV4 dc4 pm4 an4 cd4 ct4), sl4⟩)
    (c4 : PySem.W.codeIn K cd4 "refuse_missing" = true)
    (k4 : PySem.W.keepIn K (.ref f4) = true)
    {f5 : Addr} {od5 an5 : Option Addr} {sl5 : Array (Option Value)} {oc5 kV5 dc5 pm5 cd5 ct5 : Value} (a5 : PySem.W.nsIn K mainGlobals "columns_of_pick" = some (some (.ref f5)))
    (l5 : K.lookup f5 = some ⟨oc5, od5, .func (PySem.W.fnOf "columns_of_pick" "columns_of_pick" (defArgs s_columns_of_pick) (defBody s_columns_of_pick) (defScope s_columns_of_pick) .none kV5 dc5 pm5 an5 cd5 ct5), sl5⟩)
    (c5 : PySem.W.codeIn K cd5 "columns_of_pick" = true)
    (k5 : PySem.W.keepIn K (.ref f5) = true)
    {f6 : Addr} {od6 an6 : Option Addr} {sl6 : Array (Option Value)} {oc6 kV6 dc6 pm6 cd6 ct6 : Value} (a6 : PySem.W.nsIn K mainGlobals "kept" = some (some (.ref f6)))
    (l6 : K.lookup f6 = some ⟨oc6, od6, .func (PySem.W.fnOf "kept" "kept" (defArgs s_kept) (defBody s_kept) (defScope s_kept) .none kV6 dc6 pm6 an6 cd6 ct6), sl6⟩)
    (c6 : PySem.W.codeIn K cd6 "kept" = true)
    (k6 : PySem.W.keepIn K (.ref f6) = true)
    {f7 : Addr} {od7 an7 : Option Addr} {sl7 : Array (Option Value)} {oc7 kV7 dc7 pm7 cd7 ct7 : Value} (a7 : PySem.W.nsIn K mainGlobals "columns_of_keep" = some (some (.ref f7)))
    (l7 : K.lookup f7 = some ⟨oc7, od7, .func (PySem.W.fnOf "columns_of_keep" "columns_of_keep" (defArgs s_columns_of_keep) (defBody s_columns_of_keep) (defScope s_columns_of_keep) .none kV7 dc7 pm7 an7 cd7 ct7), sl7⟩)
    (c7 : PySem.W.codeIn K cd7 "columns_of_keep" = true)
    (k7 : PySem.W.keepIn K (.ref f7) = true)
    {f8 : Addr} {od8 an8 : Option Addr} {sl8 : Array (Option Value)} {oc8 kV8 dc8 pm8 cd8 ct8 : Value} (a8 : PySem.W.nsIn K mainGlobals "totalled" = some (some (.ref f8)))
    (l8 : K.lookup f8 = some ⟨oc8, od8, .func (PySem.W.fnOf "totalled" "totalled" (defArgs s_totalled) (defBody s_totalled) (defScope s_totalled) .none kV8 dc8 pm8 an8 cd8 ct8), sl8⟩)
    (c8 : PySem.W.codeIn K cd8 "totalled" = true)
    (k8 : PySem.W.keepIn K (.ref f8) = true)
    {f9 : Addr} {od9 an9 : Option Addr} {sl9 : Array (Option Value)} {oc9 kV9 dc9 pm9 cd9 ct9 : Value} (a9 : PySem.W.nsIn K mainGlobals "columns_of_total" = some (some (.ref f9)))
    (l9 : K.lookup f9 = some ⟨oc9, od9, .func (PySem.W.fnOf "columns_of_total" "columns_of_total" (defArgs s_columns_of_total) (defBody s_columns_of_total) (defScope s_columns_of_total) .none kV9 dc9 pm9 an9 cd9 ct9), sl9⟩)
    (c9 : PySem.W.codeIn K cd9 "columns_of_total" = true)
    (k9 : PySem.W.keepIn K (.ref f9) = true)
    {f10 : Addr} {od10 an10 : Option Addr} {sl10 : Array (Option Value)} {oc10 kV10 dc10 pm10 cd10 ct10 : Value} (a10 : PySem.W.nsIn K mainGlobals "columns_of_call" = some (some (.ref f10)))
    (l10 : K.lookup f10 = some ⟨oc10, od10, .func (PySem.W.fnOf "columns_of_call" "columns_of_call" (defArgs s_columns_of_call) (defBody s_columns_of_call) (defScope s_columns_of_call) .none kV10 dc10 pm10 an10 cd10 ct10), sl10⟩)
    (c10 : PySem.W.codeIn K cd10 "columns_of_call" = true)
    (k10 : PySem.W.keepIn K (.ref f10) = true)
    {f11 : Addr} {od11 an11 : Option Addr} {sl11 : Array (Option Value)} {oc11 kV11 dc11 pm11 cd11 ct11 : Value} (a11 : PySem.W.nsIn K mainGlobals "columns_of_join" = some (some (.ref f11)))
    (l11 : K.lookup f11 = some ⟨oc11, od11, .func (PySem.W.fnOf "columns_of_join" "columns_of_join" (defArgs s_columns_of_join) (defBody s_columns_of_join) (defScope s_columns_of_join) .none kV11 dc11 pm11 an11 cd11 ct11), sl11⟩)
    (c11 : PySem.W.codeIn K cd11 "columns_of_join" = true)
    (k11 : PySem.W.keepIn K (.ref f11) = true)
    {f12 : Addr} {od12 an12 : Option Addr} {sl12 : Array (Option Value)} {oc12 kV12 dc12 pm12 cd12 ct12 : Value} (a12 : PySem.W.nsIn K mainGlobals "columns_of_pour" = some (some (.ref f12)))
    (l12 : K.lookup f12 = some ⟨oc12, od12, .func (PySem.W.fnOf "columns_of_pour" "columns_of_pour" (defArgs s_columns_of_pour) (defBody s_columns_of_pour) (defScope s_columns_of_pour) .none kV12 dc12 pm12 an12 cd12 ct12), sl12⟩)
    (c12 : PySem.W.codeIn K cd12 "columns_of_pour" = true)
    (k12 : PySem.W.keepIn K (.ref f12) = true)
    {f13 : Addr} {od13 an13 : Option Addr} {sl13 : Array (Option Value)} {oc13 kV13 dc13 pm13 cd13 ct13 : Value} (a13 : PySem.W.nsIn K mainGlobals "columns_of_leave" = some (some (.ref f13)))
    (l13 : K.lookup f13 = some ⟨oc13, od13, .func (PySem.W.fnOf "columns_of_leave" "columns_of_leave" (defArgs s_columns_of_leave) (defBody s_columns_of_leave) (defScope s_columns_of_leave) .none kV13 dc13 pm13 an13 cd13 ct13), sl13⟩)
    (c13 : PySem.W.codeIn K cd13 "columns_of_leave" = true)
    (k13 : PySem.W.keepIn K (.ref f13) = true)
    {f14 : Addr} {od14 an14 : Option Addr} {sl14 : Array (Option Value)} {oc14 kV14 dc14 pm14 cd14 ct14 : Value} (a14 : PySem.W.nsIn K mainGlobals "columns_of" = some (some (.ref f14)))
    (l14 : K.lookup f14 = some ⟨oc14, od14, .func (PySem.W.fnOf "columns_of" "columns_of" (defArgs s_columns_of) (defBody s_columns_of) (defScope s_columns_of) .none kV14 dc14 pm14 an14 cd14 ct14), sl14⟩)
    (c14 : PySem.W.codeIn K cd14 "columns_of" = true)
    (k14 : PySem.W.keepIn K (.ref f14) = true)
    {f15 : Addr} {od15 an15 : Option Addr} {sl15 : Array (Option Value)} {oc15 kV15 dc15 pm15 cd15 ct15 : Value} (a15 : PySem.W.nsIn K mainGlobals "columns_of_table" = some (some (.ref f15)))
    (l15 : K.lookup f15 = some ⟨oc15, od15, .func (PySem.W.fnOf "columns_of_table" "columns_of_table" (defArgs s_columns_of_table) (defBody s_columns_of_table) (defScope s_columns_of_table) .none kV15 dc15 pm15 an15 cd15 ct15), sl15⟩)
    (c15 : PySem.W.codeIn K cd15 "columns_of_table" = true)
    (k15 : PySem.W.keepIn K (.ref f15) = true)
    {f16 : Addr} {od16 an16 : Option Addr} {sl16 : Array (Option Value)} {oc16 kV16 dc16 pm16 cd16 ct16 : Value} (a16 : PySem.W.nsIn K mainGlobals "_law_cell_at" = some (some (.ref f16)))
    (l16 : K.lookup f16 = some ⟨oc16, od16, .func (PySem.W.fnOf "_law_cell_at" "_law_cell_at" (defArgs s__law_cell_at) (defBody s__law_cell_at) (defScope s__law_cell_at) .none kV16 dc16 pm16 an16 cd16 ct16), sl16⟩)
    (c16 : PySem.W.codeIn K cd16 "_law_cell_at" = true)
    (k16 : PySem.W.keepIn K (.ref f16) = true)
    {f17 : Addr} {od17 an17 : Option Addr} {sl17 : Array (Option Value)} {oc17 kV17 dc17 pm17 cd17 ct17 : Value} (a17 : PySem.W.nsIn K mainGlobals "_law_names" = some (some (.ref f17)))
    (l17 : K.lookup f17 = some ⟨oc17, od17, .func (PySem.W.fnOf "_law_names" "_law_names" (defArgs s__law_names) (defBody s__law_names) (defScope s__law_names) .none kV17 dc17 pm17 an17 cd17 ct17), sl17⟩)
    (c17 : PySem.W.codeIn K cd17 "_law_names" = true)
    (k17 : PySem.W.keepIn K (.ref f17) = true)
    {f18 : Addr} {od18 an18 : Option Addr} {sl18 : Array (Option Value)} {oc18 kV18 dc18 pm18 cd18 ct18 : Value} (a18 : PySem.W.nsIn K mainGlobals "_law_alike" = some (some (.ref f18)))
    (l18 : K.lookup f18 = some ⟨oc18, od18, .func (PySem.W.fnOf "_law_alike" "_law_alike" (defArgs s__law_alike) (defBody s__law_alike) (defScope s__law_alike) .none kV18 dc18 pm18 an18 cd18 ct18), sl18⟩)
    (c18 : PySem.W.codeIn K cd18 "_law_alike" = true)
    (k18 : PySem.W.keepIn K (.ref f18) = true)
    {f19 : Addr} {od19 an19 : Option Addr} {sl19 : Array (Option Value)} {oc19 kV19 dc19 pm19 cd19 ct19 : Value} (a19 : PySem.W.nsIn K mainGlobals "_law_kept" = some (some (.ref f19)))
    (l19 : K.lookup f19 = some ⟨oc19, od19, .func (PySem.W.fnOf "_law_kept" "_law_kept" (defArgs s__law_kept) (defBody s__law_kept) (defScope s__law_kept) .none kV19 dc19 pm19 an19 cd19 ct19), sl19⟩)
    (c19 : PySem.W.codeIn K cd19 "_law_kept" = true)
    (k19 : PySem.W.keepIn K (.ref f19) = true)
    {f20 : Addr} {od20 an20 : Option Addr} {sl20 : Array (Option Value)} {oc20 kV20 dc20 pm20 cd20 ct20 : Value} (a20 : PySem.W.nsIn K mainGlobals "_law_as" = some (some (.ref f20)))
    (l20 : K.lookup f20 = some ⟨oc20, od20, .func (PySem.W.fnOf "_law_as" "_law_as" (defArgs s__law_as) (defBody s__law_as) (defScope s__law_as) .none kV20 dc20 pm20 an20 cd20 ct20), sl20⟩)
    (c20 : PySem.W.codeIn K cd20 "_law_as" = true)
    (k20 : PySem.W.keepIn K (.ref f20) = true)
    {f21 : Addr} {od21 an21 : Option Addr} {sl21 : Array (Option Value)} {oc21 kV21 dc21 pm21 cd21 ct21 : Value} (a21 : PySem.W.nsIn K mainGlobals "_law_picked" = some (some (.ref f21)))
    (l21 : K.lookup f21 = some ⟨oc21, od21, .func (PySem.W.fnOf "_law_picked" "_law_picked" (defArgs s__law_picked) (defBody s__law_picked) (defScope s__law_picked) .none kV21 dc21 pm21 an21 cd21 ct21), sl21⟩)
    (c21 : PySem.W.codeIn K cd21 "_law_picked" = true)
    (k21 : PySem.W.keepIn K (.ref f21) = true)
    {f22 : Addr} {od22 an22 : Option Addr} {sl22 : Array (Option Value)} {oc22 kV22 dc22 pm22 cd22 ct22 : Value} (a22 : PySem.W.nsIn K mainGlobals "_law_joined" = some (some (.ref f22)))
    (l22 : K.lookup f22 = some ⟨oc22, od22, .func (PySem.W.fnOf "_law_joined" "_law_joined" (defArgs s__law_joined) (defBody s__law_joined) (defScope s__law_joined) .none kV22 dc22 pm22 an22 cd22 ct22), sl22⟩)
    (c22 : PySem.W.codeIn K cd22 "_law_joined" = true)
    (k22 : PySem.W.keepIn K (.ref f22) = true)
    {f23 : Addr} {od23 an23 : Option Addr} {sl23 : Array (Option Value)} {oc23 kV23 dc23 pm23 cd23 ct23 : Value} (a23 : PySem.W.nsIn K mainGlobals "_law_beside" = some (some (.ref f23)))
    (l23 : K.lookup f23 = some ⟨oc23, od23, .func (PySem.W.fnOf "_law_beside" "_law_beside" (defArgs s__law_beside) (defBody s__law_beside) (defScope s__law_beside) .none kV23 dc23 pm23 an23 cd23 ct23), sl23⟩)
    (c23 : PySem.W.codeIn K cd23 "_law_beside" = true)
    (k23 : PySem.W.keepIn K (.ref f23) = true)
    {f24 : Addr} {od24 an24 : Option Addr} {sl24 : Array (Option Value)} {oc24 kV24 dc24 pm24 cd24 ct24 : Value} (a24 : PySem.W.nsIn K mainGlobals "_law_step" = some (some (.ref f24)))
    (l24 : K.lookup f24 = some ⟨oc24, od24, .func (PySem.W.fnOf "_law_step" "_law_step" (defArgs s__law_step) (defBody s__law_step) (defScope s__law_step) .none kV24 dc24 pm24 an24 cd24 ct24), sl24⟩)
    (c24 : PySem.W.codeIn K cd24 "_law_step" = true)
    (k24 : PySem.W.keepIn K (.ref f24) = true)
    {f25 : Addr} {od25 an25 : Option Addr} {sl25 : Array (Option Value)} {oc25 kV25 dc25 pm25 cd25 ct25 : Value} (a25 : PySem.W.nsIn K mainGlobals "law" = some (some (.ref f25)))
    (l25 : K.lookup f25 = some ⟨oc25, od25, .func (PySem.W.fnOf "law" "law" (defArgs s_law) (defBody s_law) (defScope s_law) .none kV25 dc25 pm25 an25 cd25 ct25), sl25⟩)
    (c25 : PySem.W.codeIn K cd25 "law" = true)
    (k25 : PySem.W.keepIn K (.ref f25) = true)
    {a_DEEDS : Addr} (u_DEEDS : PySem.W.nsIn K mainGlobals "DEEDS" = some (some (.ref a_DEEDS)))
    {t_DEEDS_0 t_DEEDS_1 t_DEEDS_2 t_DEEDS_3 t_DEEDS_4 t_DEEDS_5 t_DEEDS_6 : Tok} {e_DEEDS : Nat} (v_DEEDS : K.lookup a_DEEDS = some ⟨.type "dict", none, .dict #[⟨PyData.keyHash w.params "pick", .str "pick" t_DEEDS_0, .ref f5⟩, ⟨PyData.keyHash w.params "keep", .str "keep" t_DEEDS_1, .ref f7⟩, ⟨PyData.keyHash w.params "call", .str "call" t_DEEDS_2, .ref f10⟩, ⟨PyData.keyHash w.params "join", .str "join" t_DEEDS_3, .ref f11⟩, ⟨PyData.keyHash w.params "pour", .str "pour" t_DEEDS_4, .ref f12⟩, ⟨PyData.keyHash w.params "total", .str "total" t_DEEDS_5, .ref f9⟩, ⟨PyData.keyHash w.params "leave", .str "leave" t_DEEDS_6, .ref f13⟩] e_DEEDS, #[]⟩)
    (u_bool : PySem.W.nsIn K mainGlobals "bool" = some none)
    (u_dict : PySem.W.nsIn K mainGlobals "dict" = some none)
    (u_enumerate : PySem.W.nsIn K mainGlobals "enumerate" = some none)
    (u_int : PySem.W.nsIn K mainGlobals "int" = some none)
    (u_isinstance : PySem.W.nsIn K mainGlobals "isinstance" = some none)
    (u_len : PySem.W.nsIn K mainGlobals "len" = some none)
    (u_list : PySem.W.nsIn K mainGlobals "list" = some none)
    (u_range : PySem.W.nsIn K mainGlobals "range" = some none)
    (u_str : PySem.W.nsIn K mainGlobals "str" = some none)
    (u_tuple : PySem.W.nsIn K mainGlobals "tuple" = some none)
    {C_Twice : Addr} (aC_Twice : PySem.W.nsIn K mainGlobals "Twice" = some (some (.ref C_Twice)))
    {C_NoTable : Addr} (aC_NoTable : PySem.W.nsIn K mainGlobals "NoTable" = some (some (.ref C_NoTable)))
    {C_NoColumn : Addr} (aC_NoColumn : PySem.W.nsIn K mainGlobals "NoColumn" = some (some (.ref C_NoColumn)))
    {C_Unlike : Addr} (aC_Unlike : PySem.W.nsIn K mainGlobals "Unlike" = some (some (.ref C_Unlike)))
    (og : PySem.W.specialIn K (.builtin "object.__class__") "__get__" = some (some (.builtin "getset_descriptor.__get__")))
    (ot : PySem.W.takesIn K (.builtin "object.__class__") = some true)
    (rz_Twice : PySem.W.excIn K C_Twice [.type "ValueError", .type "Exception", .type "BaseException", .type "object"] "ValueError.__new__" = true)
    (ga_Twice : PySem.W.findIn K (.ref C_Twice) "__getattribute__" = some (some (.builtin "BaseException.__getattribute__")))
    (gn_Twice : PySem.W.findIn K (.ref C_Twice) "__getattr__" = some none)
    (xa_Twice : PySem.W.findIn K (.ref C_Twice) "__class__" = some (some (.builtin "object.__class__")))
    (xb_Twice : PySem.W.mroIn K C_Twice (.type "BaseException") = some true)
    (xo_Twice : PySem.W.mroIn K C_Twice (.type "object") = some true)
    (rz_NoColumn : PySem.W.excIn K C_NoColumn [.type "ValueError", .type "Exception", .type "BaseException", .type "object"] "ValueError.__new__" = true)
    (ga_NoColumn : PySem.W.findIn K (.ref C_NoColumn) "__getattribute__" = some (some (.builtin "BaseException.__getattribute__")))
    (gn_NoColumn : PySem.W.findIn K (.ref C_NoColumn) "__getattr__" = some none)
    (xa_NoColumn : PySem.W.findIn K (.ref C_NoColumn) "__class__" = some (some (.builtin "object.__class__")))
    (xb_NoColumn : PySem.W.mroIn K C_NoColumn (.type "BaseException") = some true)
    (xo_NoColumn : PySem.W.mroIn K C_NoColumn (.type "object") = some true)
    (rz_Unlike : PySem.W.excIn K C_Unlike [.type "ValueError", .type "Exception", .type "BaseException", .type "object"] "ValueError.__new__" = true)
    (ga_Unlike : PySem.W.findIn K (.ref C_Unlike) "__getattribute__" = some (some (.builtin "BaseException.__getattribute__")))
    (gn_Unlike : PySem.W.findIn K (.ref C_Unlike) "__getattr__" = some none)
    (xa_Unlike : PySem.W.findIn K (.ref C_Unlike) "__class__" = some (some (.builtin "object.__class__")))
    (xb_Unlike : PySem.W.mroIn K C_Unlike (.type "BaseException") = some true)
    (xo_Unlike : PySem.W.mroIn K C_Unlike (.type "object") = some true)
    (rz_NoTable : PySem.W.excIn K C_NoTable [.type "ValueError", .type "Exception", .type "BaseException", .type "object"] "ValueError.__new__" = true)
    (ga_NoTable : PySem.W.findIn K (.ref C_NoTable) "__getattribute__" = some (some (.builtin "BaseException.__getattribute__")))
    (gn_NoTable : PySem.W.findIn K (.ref C_NoTable) "__getattr__" = some none)
    (xa_NoTable : PySem.W.findIn K (.ref C_NoTable) "__class__" = some (some (.builtin "object.__class__")))
    (xb_NoTable : PySem.W.mroIn K C_NoTable (.type "BaseException") = some true)
    (xo_NoTable : PySem.W.mroIn K C_NoTable (.type "object") = some true)
    : ∃ fd : FuncData, (∀ (s : Shared) (v : Value), BindsTo s fd ⟨[v], []⟩ [("_law_script", v)]) ∧ ∀ base : Heap, K.In base → base.Ns mainGlobals mg → FnOk l.prog w K mg base (CX1 l.prog w) (k + 1) fa fd ["_law_script"] (spLw K ((WT TT (k + 1)).Φ ("law" : Str))) := by
  have e := hfa.symm.trans (PySem.W.mg_of X G a25)
  cases e
  have F0 := fun_mk (st := s_refuse_twice) l0 c0 k0
  have b0 := F0.binds (ps := ["columns", "at"]) fun _ _ _ _ _ _ => len2 fun _ _ => rfl
  have F1 := fun_mk (st := s_columns_in) l1 c1 k1
  have b1 := F1.binds (ps := ["test"]) fun _ _ _ _ _ _ => len1 fun _ => rfl
  have F2 := fun_mk (st := s_askings_within) l2 c2 k2
  have b2 := F2.binds (ps := ["asking"]) fun _ _ _ _ _ _ => len1 fun _ => rfl
  have F3 := fun_mk (st := s_plain) l3 c3 k3
  have b3 := F3.binds (ps := ["asking"]) fun _ _ _ _ _ _ => len1 fun _ => rfl
  have F4 := fun_mk (st := s_refuse_missing) l4 c4 k4
  have b4 := F4.binds (ps := ["column", "columns"]) fun _ _ _ _ _ _ => len2 fun _ _ => rfl
  have F5 := fun_mk (st := s_columns_of_pick) l5 c5 k5
  have b5 := F5.binds (ps := ["asking", "within"]) fun _ _ _ _ _ _ => len2 fun _ _ => rfl
  have F6 := fun_mk (st := s_kept) l6 c6 k6
  have b6 := F6.binds (ps := ["columns", "within"]) fun _ _ _ _ _ _ => len2 fun _ _ => rfl
  have F7 := fun_mk (st := s_columns_of_keep) l7 c7 k7
  have b7 := F7.binds (ps := ["asking", "within"]) fun _ _ _ _ _ _ => len2 fun _ _ => rfl
  have F8 := fun_mk (st := s_totalled) l8 c8 k8
  have b8 := F8.binds (ps := ["column", "columns", "within"]) fun _ _ _ _ _ _ => len3 fun _ _ _ => rfl
  have F9 := fun_mk (st := s_columns_of_total) l9 c9 k9
  have b9 := F9.binds (ps := ["asking", "within"]) fun _ _ _ _ _ _ => len2 fun _ _ => rfl
  have F10 := fun_mk (st := s_columns_of_call) l10 c10 k10
  have b10 := F10.binds (ps := ["asking", "within"]) fun _ _ _ _ _ _ => len2 fun _ _ => rfl
  have F11 := fun_mk (st := s_columns_of_join) l11 c11 k11
  have b11 := F11.binds (ps := ["asking", "within"]) fun _ _ _ _ _ _ => len2 fun _ _ => rfl
  have F12 := fun_mk (st := s_columns_of_pour) l12 c12 k12
  have b12 := F12.binds (ps := ["asking", "within"]) fun _ _ _ _ _ _ => len2 fun _ _ => rfl
  have F13 := fun_mk (st := s_columns_of_leave) l13 c13 k13
  have b13 := F13.binds (ps := ["asking", "within"]) fun _ _ _ _ _ _ => len2 fun _ _ => rfl
  have F14 := fun_mk (st := s_columns_of) l14 c14 k14
  have b14 := F14.binds (ps := ["asking", "shapes"]) fun _ _ _ _ _ _ => len2 fun _ _ => rfl
  have F15 := fun_mk (st := s_columns_of_table) l15 c15 k15
  have b15 := F15.binds (ps := ["name", "shapes"]) fun _ _ _ _ _ _ => len2 fun _ _ => rfl
  have F16 := fun_mk (st := s__law_cell_at) l16 c16 k16
  have b16 := F16.binds (ps := ["_law_script", "_law_k"]) fun _ _ _ _ _ _ => len2 fun _ _ => rfl
  have F17 := fun_mk (st := s__law_names) l17 c17 k17
  have b17 := F17.binds (ps := ["_law_cell", "_law_many"]) fun _ _ _ _ _ _ => len2 fun _ _ => rfl
  have F18 := fun_mk (st := s__law_alike) l18 c18 k18
  have b18 := F18.binds (ps := ["_law_found", "_law_due"]) fun _ _ _ _ _ _ => len2 fun _ _ => rfl
  have F19 := fun_mk (st := s__law_kept) l19 c19 k19
  have b19 := F19.binds (ps := ["_law_columns", "_law_c"]) fun _ _ _ _ _ _ => len2 fun _ _ => rfl
  have F20 := fun_mk (st := s__law_as) l20 c20 k20
  have b20 := F20.binds (ps := ["_law_name", "_law_shapes", "_law_columns"]) fun _ _ _ _ _ _ => len3 fun _ _ _ => rfl
  have F21 := fun_mk (st := s__law_picked) l21 c21 k21
  have b21 := F21.binds (ps := ["_law_asking", "_law_columns", "_law_c"]) fun _ _ _ _ _ _ => len3 fun _ _ _ => rfl
  have F22 := fun_mk (st := s__law_joined) l22 c22 k22
  have b22 := F22.binds (ps := ["_law_asking", "_law_columns", "_law_name", "_law_own", "_law_side"]) fun _ _ _ _ _ _ => len5 fun _ _ _ _ _ => rfl
  have F23 := fun_mk (st := s__law_beside) l23 c23 k23
  have b23 := F23.binds (ps := ["_law_asking", "_law_columns", "_law_name", "_law_shapes", "_law_c"]) fun _ _ _ _ _ _ => len5 fun _ _ _ _ _ => rfl
  have F24 := fun_mk (st := s__law_step) l24 c24 k24
  have b24 := F24.binds (ps := ["_law_asking", "_law_columns", "_law_cell", "_law_shapes", "_law_names_here"]) fun _ _ _ _ _ _ => len5 fun _ _ _ _ _ => rfl
  have F25 := fun_mk (st := s_law) l25 c25 k25
  have b25 := F25.binds (ps := ["_law_script"]) fun _ _ _ _ _ _ => len1 fun _ => rfl
  let ff : Str → Addr := fun x => (([(("refuse_twice" : Str), f0), (("columns_in" : Str), f1), (("askings_within" : Str), f2), (("plain" : Str), f3), (("refuse_missing" : Str), f4), (("columns_of_pick" : Str), f5), (("kept" : Str), f6), (("columns_of_keep" : Str), f7), (("totalled" : Str), f8), (("columns_of_total" : Str), f9), (("columns_of_call" : Str), f10), (("columns_of_join" : Str), f11), (("columns_of_pour" : Str), f12), (("columns_of_leave" : Str), f13), (("columns_of" : Str), f14), (("columns_of_table" : Str), f15), (("_law_cell_at" : Str), f16), (("_law_names" : Str), f17), (("_law_alike" : Str), f18), (("_law_kept" : Str), f19), (("_law_as" : Str), f20), (("_law_picked" : Str), f21), (("_law_joined" : Str), f22), (("_law_beside" : Str), f23), (("_law_step" : Str), f24), (("law" : Str), fa)] : List (Str × Addr)).lookup x).getD 0
  have hc : GCon w K mg ff GG.G := ⟨⟨⟨a_DEEDS, _, _, _, PySem.W.mg_of X G u_DEEDS, v_DEEDS, ⟨rfl, rfl, rfl⟩, rfl, tabE_cons a5 (tabE_cons a7 (tabE_cons a10 (tabE_cons a11 (tabE_cons a12 (tabE_cons a9 (tabE_cons a13 (tabE_nil)))))))⟩, by decide +kernel⟩, True.intro, True.intro, True.intro, True.intro, PySem.W.mg_of X G a18, PySem.W.mg_of X G a20, PySem.W.mg_of X G a23, PySem.W.mg_of X G a16, PySem.W.mg_of X G a22, PySem.W.mg_of X G a19, PySem.W.mg_of X G a17, PySem.W.mg_of X G a21, PySem.W.mg_of X G a24, PySem.W.mg_of X G a2, PySem.W.mg_none_of X G u_bool, PySem.W.mg_of X G a1, PySem.W.mg_of X G a14, PySem.W.mg_of X G a10, PySem.W.mg_of X G a11, PySem.W.mg_of X G a7, PySem.W.mg_of X G a13, PySem.W.mg_of X G a5, PySem.W.mg_of X G a12, PySem.W.mg_of X G a15, PySem.W.mg_of X G a9, PySem.W.mg_none_of X G u_dict, PySem.W.mg_none_of X G u_enumerate, PySem.W.mg_none_of X G u_int, PySem.W.mg_none_of X G u_isinstance, PySem.W.mg_of X G a6, PySem.W.mg_none_of X G u_len, PySem.W.mg_none_of X G u_list, PySem.W.mg_of X G a3, PySem.W.mg_none_of X G u_range, PySem.W.mg_of X G a4, PySem.W.mg_of X G a0, PySem.W.mg_none_of X G u_str, PySem.W.mg_of X G a8, PySem.W.mg_none_of X G u_tuple, True.intro⟩
  have hT : StandAll K GG ff T := ⟨⟨_, _, _, F0, b0, ok_refuse_twice⟩, ⟨_, _, _, F1, b1, ok_columns_in⟩, ⟨_, _, _, F2, b2, ok_askings_within⟩, ⟨_, _, _, F3, b3, ok_plain⟩, ⟨_, _, _, F4, b4, ok_refuse_missing⟩, ⟨_, _, _, F5, b5, ok_columns_of_pick⟩, ⟨_, _, _, F6, b6, ok_kept⟩, ⟨_, _, _, F7, b7, ok_columns_of_keep⟩, ⟨_, _, _, F8, b8, ok_totalled⟩, ⟨_, _, _, F9, b9, ok_columns_of_total⟩, ⟨_, _, _, F10, b10, ok_columns_of_call⟩, ⟨_, _, _, F11, b11, ok_columns_of_join⟩, ⟨_, _, _, F12, b12, ok_columns_of_pour⟩, ⟨_, _, _, F13, b13, ok_columns_of_leave⟩, ⟨_, _, _, F14, b14, ok_columns_of⟩, ⟨_, _, _, F15, b15, ok_columns_of_table⟩, ⟨_, _, _, F16, b16, ok__law_cell_at⟩, ⟨_, _, _, F17, b17, ok__law_names⟩, ⟨_, _, _, F18, b18, ok__law_alike⟩, ⟨_, _, _, F19, b19, ok__law_kept⟩, ⟨_, _, _, F20, b20, ok__law_as⟩, ⟨_, _, _, F21, b21, ok__law_picked⟩, ⟨_, _, _, F22, b22, ok__law_joined⟩, ⟨_, _, _, F23, b23, ok__law_beside⟩, ⟨_, _, _, F24, b24, ok__law_step⟩, ⟨_, _, _, F25, b25, ok_law⟩, True.intro⟩
  have hI : StandAllI K mg GG TT.I := True.intro
  have hC : ClsAll K ff TT.cl := True.intro
  have h0 : ∀ c, c ∈ GG.mk0 → MkV0 K mg c := fun _ h => nomatch h
  have h1 : ∀ c, c ∈ GG.iso → IsV K mg TT.cl c := fun _ h => nomatch h
  refine ⟨_, fun s v => .of_eq (by exact rfl : bindArgs (PySem.W.fnOf "law" "law" (defArgs s_law) (defBody s_law) (defScope s_law) .none kV25 dc25 pm25 an25 cd25 ct25) ⟨[v], []⟩ = _), fun base _ _ => ?_⟩
  have x1 : XtOk K mg (fun c x => TT.xt.lookup (c, x)) := xt_nil
  have x2 : XisOk K mg (fun c x => TT.xi.lookup (c, x)) := xi_nil
  have x3 : ∀ c, c ∈ GG.xcs → ∃ Cc, mg c = some (.ref Cc) ∧ RzCls K Cc := mem_cons (⟨C_Twice, PySem.W.mg_of X G aC_Twice, rz_Twice⟩) (mem_cons (⟨C_NoColumn, PySem.W.mg_of X G aC_NoColumn, rz_NoColumn⟩) (mem_cons (⟨C_Unlike, PySem.W.mg_of X G aC_Unlike, rz_Unlike⟩) (mem_cons (⟨C_NoTable, PySem.W.mg_of X G aC_NoTable, rz_NoTable⟩) (fun _ h => nomatch h))))
  have x4 : ∀ n, n ∈ GG.xns → ∃ cv, ClsV mg n cv := fun _ h => nomatch h
  exact fnok_law (d := d_law) ⟨hc, ok_g, hT, hI, h0, ok_mk, h1, hC, ok_mt, x1, x2, x3, x4⟩ k F25 rfl ok_law rfl
end K41

namespace K41
open PySem L2 D3
theorem ix_l {ds : List D} {m m' : Md} {i : Int} {d : D} (h : atI ds i = some d) : op2 ixD (.ok m (.lst ds)) (.ok m' (.int i)) = .ok .fz d := op2_of (by show (atI ds i).map _ = _; rw [h]; rfl)
theorem ix_t {ds : List D} {m m' : Md} {i : Int} {d : D} (h : atI ds i = some d) : op2 ixD (.ok m (.tup ds)) (.ok m' (.int i)) = .ok .fz d := op2_of (by show (atI ds i).map _ = _; rw [h]; rfl)
theorem ix_s {z : Str} {m m' : Md} {i : Int} {c : Nat} (h : atI z.cps.toList i = some c) : op2 ixD (.ok m (.str z)) (.ok m' (.int i)) = .ok .fz (.str ⟨#[c]⟩) := op2_of (by show (atI z.cps.toList i).map _ = _; rw [h]; rfl)
theorem atI_mod {α : Type} (xs : List α) (v : Int) (n : Int) (hn : n = xs.length) (h : 0 < n) : ∃ c, c ∈ xs ∧ atI xs (v % n) = some c := by
  have h0 := Int.emod_nonneg v (show n ≠ 0 by omega)
  have h1 := Int.emod_lt_of_pos v h
  obtain ⟨j, hj⟩ := Int.eq_ofNat_of_zero_le h0
  have hl : j < xs.length := by omega
  exact ⟨xs[j], List.getElem_mem hl, by rw [hj]; exact atI_nat (List.getElem?_eq_getElem hl)⟩
/-- the cell of a script -/
def ce (ns : List Int) (i : Int) : Int := if 0 ≤ i then (ns[i.toNat]?).getD 0 else 0
theorem cell (k : Nat) (ns : List Int) {i : Int} (h0 : 0 ≤ i) : (WT TT (k + 1)).Φ "_law_cell_at" [.lst (ns.map .int), .int i] = .ok .fz (.int (ce ns i)) := by
  rw [u__law_cell_at]
  refine phi_ok rfl ?_
  show evB _ b__law_cell_at [some (false, .lst (ns.map .int)), some (false, .int i)] = _
  obtain ⟨j, rfl⟩ := Int.eq_ofNat_of_zero_le h0
  unfold ce
  rw [if_pos h0]
  by_cases h : j < ns.length
  · have hx : op2 ixD (.ok .fz (.lst (ns.map .int))) (.ok .fz (.int j)) = .ok .fz (.int ns[j]) := ix_l (atI_nat (by rw [List.getElem?_map, List.getElem?_eq_getElem h]; rfl))
    have h' : ((j : Int) < (ns.length : Int)) := by omega
    simp [b__law_cell_at, h', hx, h]
  · have h' : ¬ ((j : Int) < (ns.length : Int)) := by omega
    simp [b__law_cell_at, h', List.getElem?_eq_none (Nat.le_of_not_lt h)]
theorem cellC (k : Nat) (ns : List Int) {i : Int} (h0 : 0 ≤ i) : callF 2 ((WT TT (k + 1)).Φ "_law_cell_at") (.ok [(.fz, .lst (ns.map .int)), (.fz, .int i)]) = .ok .fz (.int (ce ns i)) := call2 (cell k ns h0)
theorem rngI {n : Int} (h0 : 0 ≤ n) (h1 : n ≤ 1000) {m : Md} : rng1R (.ok [(m, .int n)]) = .ok .fz (.lst (rangeD 0 n)) := by
  unfold rng1R
  rw [ResL.thn_ok]
  dsimp only
  rw [if_pos]
  simp only [Bool.and_eq_true, decide_eq_true_eq]
  omega
theorem mem_range {d : D} {n : Int} (h : d ∈ rangeD 0 n) : ∃ i : Nat, (i : Int) < n ∧ d = .int i := by
  simp only [rangeD, List.mem_map, List.mem_range] at h
  obtain ⟨i, hi, rfl⟩ := h
  exact ⟨i, by omega, by simp⟩
/-! ### alike: a plain thing with itself -/
inductive Pl : Nat → D → Prop
  | non (n : Nat) : Pl n .non
  | bl (n : Nat) (b : Bool) : Pl n (.bl b)
  | int (n : Nat) (i : Int) : Pl n (.int i)
  | str (n : Nat) (z : Str) : Pl n (.str z)
  | tup (n : Nat) (ds : List D) (hl : ds.length ≤ 900) (h : ∀ d ∈ ds, Pl n d) : Pl (n + 1) (.tup ds)
  | lst (n : Nat) (ds : List D) (hl : ds.length ≤ 900) (h : ∀ d ∈ ds, Pl n d) : Pl (n + 1) (.lst ds)
theorem al_non (k : Nat) : (WT TT (k + 1)).Φ "_law_alike" [.non, .non] = .ok .fz (.bl true) := by
  rw [u__law_alike]
  refine phi_ok rfl ?_
  show evB _ b__law_alike [some (false, .non), some (false, .non), none] = _
  simp [b__law_alike]
theorem al_bl (k : Nat) (b : Bool) : (WT TT (k + 1)).Φ "_law_alike" [.bl b, .bl b] = .ok .fz (.bl true) := by
  rw [u__law_alike]
  refine phi_ok rfl ?_
  show evB _ b__law_alike [some (false, .bl b), some (false, .bl b), none] = _
  have i1 : isiD [(.fz, .bl b), (.fz, .ty "bool")] = some (.fz, .bl true) := rfl
  simp [b__law_alike, i1, Ty.id]
theorem al_int (k : Nat) (i : Int) : (WT TT (k + 1)).Φ "_law_alike" [.int i, .int i] = .ok .fz (.bl true) := by
  rw [u__law_alike]
  refine phi_ok rfl ?_
  show evB _ b__law_alike [some (false, .int i), some (false, .int i), none] = _
  have i1 : isiD [(.fz, .int i), (.fz, .ty "bool")] = some (.fz, .bl false) := rfl
  have i2 : isiD [(.fz, .int i), (.fz, .ty "int")] = some (.fz, .bl true) := rfl
  simp [b__law_alike, i1, i2, Ty.id]
theorem al_str (k : Nat) (z : Str) : (WT TT (k + 1)).Φ "_law_alike" [.str z, .str z] = .ok .fz (.bl true) := by
  rw [u__law_alike]
  refine phi_ok rfl ?_
  show evB _ b__law_alike [some (false, .str z), some (false, .str z), none] = _
  have i1 : isiD [(.fz, .str z), (.fz, .ty "bool")] = some (.fz, .bl false) := rfl
  have i2 : isiD [(.fz, .str z), (.fz, .ty "int")] = some (.fz, .bl false) := rfl
  have i3 : isiD [(.fz, .str z), (.fz, .ty "str")] = some (.fz, .bl true) := rfl
  simp [b__law_alike, i1, i2, i3, Ty.id]
theorem al_loop (k : Nat) {ds : List D} {c : D} (hx : ∀ i : Nat, ∀ hi : i < ds.length, op2 ixD (.ok .fz c) (.ok .fz (.int (i : Int))) = .ok .fz ds[i]) (hp : ∀ d ∈ ds, (WT TT k).Φ "_law_alike" [d, d] = .ok .fz (.bl true)) :
    ∃ x, forR (.ok .fz (.lst (rangeD 0 (ds.length : Int)))) [some (false, c), some (false, c), none] (setG (.nm 2)) (evB (WT TT k) b__law_alike_L1) = .nx [some (false, c), some (false, c), x] := by
  obtain ⟨ρ', e, x, rfl⟩ := forR_inv (m := .fz) (ds := rangeD 0 (ds.length : Int)) (k := setG (.nm 2)) (body := evB (WT TT k) b__law_alike_L1) (ρ := [some (false, c), some (false, c), none])
    (fun ρ => ∃ x, ρ = [some (false, c), some (false, c), x]) (fun d hd ρ hρ => by
      obtain ⟨x, rfl⟩ := hρ
      obtain ⟨i, hi, rfl⟩ := mem_range hd
      have hi' : i < ds.length := by omega
      have xx := hx i hi'
      have a' : callF 2 ((WT TT k).Φ "_law_alike") (.ok [(.fz, ds[i]), (.fz, ds[i])]) = .ok .fz (.bl true) := call2 (hp ds[i] (List.getElem_mem hi'))
      refine ⟨[some (false, c), some (false, c), some (false, .int (i : Int))], [some (false, c), some (false, c), some (false, .int (i : Int))], by simp, .inl ?_, _, rfl⟩
      simp [b__law_alike_L1, xx, a']) ⟨_, rfl⟩
  exact ⟨x, e⟩
theorem al_pre {k : Nat} {c : D} (h0 : isNonD c = false) (i1 : isiD [(.fz, c), (.fz, .ty "bool")] = some (.fz, .bl false)) (i2 : isiD [(.fz, c), (.fz, .ty "int")] = some (.fz, .bl false)) (i3 : isiD [(.fz, c), (.fz, .ty "str")] = some (.fz, .bl false)) :
    evB (WT TT k) (b__law_alike.take 4) [some (false, c), some (false, c), none] = .nx [some (false, c), some (false, c), none] := by
  simp [b__law_alike, h0, i1, i2, i3, Ty.id]
theorem al_mid {k : Nat} {c : D} {n : Int} {b : Bool} (i4 : isiD [(.fz, c), (.fz, .ty "list")] = some (.fz, .bl b)) (i5 : isiD [(.fz, c), (.fz, .ty "tuple")] = some (.fz, .bl !b)) (hn : lenD [(.fz, c)] = some (.fz, .int n)) :
    evB (WT TT k) ((b__law_alike.drop 4).take 1) [some (false, c), some (false, c), none] = .nx [some (false, c), some (false, c), none] := by
  cases b with
  | true => simp [b__law_alike, i4, hn, Ty.id]
  | false => simp [b__law_alike, i4, i5, hn, Ty.id]
theorem al_end {k : Nat} {c : D} {n : Nat} {x : Option (Bool × D)} (hn : lenD [(.fz, c)] = some (.fz, .int (n : Int))) (hl : n ≤ 900) (e : forR (.ok .fz (.lst (rangeD 0 (n : Int)))) [some (false, c), some (false, c), none] (setG (.nm 2)) (evB (WT TT k) b__law_alike_L1) = .nx [some (false, c), some (false, c), x]) :
    evB (WT TT k) (b__law_alike.drop 5) [some (false, c), some (false, c), none] = .rt .fz (.bl true) := by
  have er := rngI (m := .fz) (n := (n : Int)) (by omega) (by omega)
  simp [b__law_alike, hn, er, e]
theorem al_all {k : Nat} {c : D} {n : Nat} {b : Bool} {x : Option (Bool × D)} (h0 : isNonD c = false) (i1 : isiD [(.fz, c), (.fz, .ty "bool")] = some (.fz, .bl false)) (i2 : isiD [(.fz, c), (.fz, .ty "int")] = some (.fz, .bl false)) (i3 : isiD [(.fz, c), (.fz, .ty "str")] = some (.fz, .bl false))
    (i4 : isiD [(.fz, c), (.fz, .ty "list")] = some (.fz, .bl b)) (i5 : isiD [(.fz, c), (.fz, .ty "tuple")] = some (.fz, .bl !b)) (hn : lenD [(.fz, c)] = some (.fz, .int (n : Int))) (hl : n ≤ 900)
    (e : forR (.ok .fz (.lst (rangeD 0 (n : Int)))) [some (false, c), some (false, c), none] (setG (.nm 2)) (evB (WT TT k) b__law_alike_L1) = .nx [some (false, c), some (false, c), x]) : (WT TT (k + 1)).Φ "_law_alike" [c, c] = .ok .fz (.bl true) := by
  rw [u__law_alike]
  refine phi_ok rfl ?_
  show evB (WT TT k) b__law_alike [some (false, c), some (false, c), none] = _
  have ea : b__law_alike = b__law_alike.take 4 ++ ((b__law_alike.drop 4).take 1 ++ b__law_alike.drop 5) := rfl
  rw [ea, b_app, al_pre h0 i1 i2 i3]
  show evB (WT TT k) ((b__law_alike.drop 4).take 1 ++ b__law_alike.drop 5) [some (false, c), some (false, c), none] = _
  rw [b_app, al_mid i4 i5 hn]
  exact al_end hn hl e
theorem al_tup (k : Nat) {ds : List D} (hl : ds.length ≤ 900) (hp : ∀ d ∈ ds, (WT TT k).Φ "_law_alike" [d, d] = .ok .fz (.bl true)) : (WT TT (k + 1)).Φ "_law_alike" [.tup ds, .tup ds] = .ok .fz (.bl true) := by
  obtain ⟨x, e⟩ := al_loop k (c := .tup ds) (fun i hi => ix_t (atI_nat (List.getElem?_eq_getElem hi))) hp
  exact al_all (b := false) rfl rfl rfl rfl rfl rfl rfl hl e
theorem al_lst (k : Nat) {ds : List D} (hl : ds.length ≤ 900) (hp : ∀ d ∈ ds, (WT TT k).Φ "_law_alike" [d, d] = .ok .fz (.bl true)) : (WT TT (k + 1)).Φ "_law_alike" [.lst ds, .lst ds] = .ok .fz (.bl true) := by
  obtain ⟨x, e⟩ := al_loop k (c := .lst ds) (fun i hi => ix_l (atI_nat (List.getElem?_eq_getElem hi))) hp
  exact al_all (b := true) rfl rfl rfl rfl rfl rfl rfl hl e
theorem alike : ∀ (n : Nat) {d : D}, Pl n d → ∀ K, n < K → (WT TT K).Φ "_law_alike" [d, d] = .ok .fz (.bl true)
  | n, _, .non _, K + 1, _ => al_non K
  | n, _, .bl _ b, K + 1, _ => al_bl K b
  | n, _, .int _ i, K + 1, _ => al_int K i
  | n, _, .str _ z, K + 1, _ => al_str K z
  | n + 1, _, .tup _ ds hl h, K + 1, hk => al_tup K hl fun d hd => alike n (h d hd) K (by omega)
  | n + 1, _, .lst _ ds hl h, K + 1, hk => al_lst K hl fun d hd => alike n (h d hd) K (by omega)
end K41

namespace K41
open PySem L2 D3
inductive Pt where | of (k : Nat) | just (v : D)
inductive Ts where | atom (s : Bool) (p q : Pt) | no (t : Ts) | two (e : Bool) (a b : Ts)
def nth (f : List Str) (k : Nat) : Str := f.getD k Str.empty
def ptD (f : List Str) : Pt → D
  | .of k => .tup [.str "of", .str (nth f k)]
  | .just v => .tup [.str "just", v]
def tsD (f : List Str) : Ts → D
  | .atom s p q => .tup [.str (if s then "same" else "under"), ptD f p, ptD f q]
  | .no t => .tup [.str "not", tsD f t]
  | .two e a b => .tup [.str (if e then "either" else "both"), tsD f a, tsD f b]
def Ts.dep : Ts → Nat
  | .atom .. => 0
  | .no t => t.dep + 1
  | .two _ a b => max a.dep b.dep + 1
theorem i0 {a b : D} {m m' : Md} : op2 ixD (.ok m (.tup [a, b])) (.ok m' (.int 0)) = .ok .fz a := ix_t (atI_nat (j := 0) rfl)
theorem i1 {a b : D} {m m' : Md} : op2 ixD (.ok m (.tup [a, b])) (.ok m' (.int 1)) = .ok .fz b := ix_t (atI_nat (j := 1) rfl)
theorem j0 {a b c : D} {m m' : Md} : op2 ixD (.ok m (.tup [a, b, c])) (.ok m' (.int 0)) = .ok .fz a := ix_t (atI_nat (j := 0) rfl)
theorem j1 {a b c : D} {m m' : Md} : op2 ixD (.ok m (.tup [a, b, c])) (.ok m' (.int 1)) = .ok .fz b := ix_t (atI_nat (j := 1) rfl)
theorem j2 {a b c : D} {m m' : Md} : op2 ixD (.ok m (.tup [a, b, c])) (.ok m' (.int 2)) = .ok .fz c := ix_t (atI_nat (j := 2) rfl)
theorem wd {a b : String} (h : (Str.ofString a == Str.ofString b) = false := by decide +kernel) : (Str.ofString a == Str.ofString b) = false := h
def cl (f : List Str) : Pt → List D
  | .of k => [.str (nth f k)]
  | .just _ => []
def cols (f : List Str) : Ts → List D
  | .atom _ p q => cl f p ++ cl f q
  | .no t => cols f t
  | .two _ a b => cols f a ++ cols f b
def wordIn (w : Str) : Bool := w == Str.ofString "both" || w == Str.ofString "either"
theorem in_be {w : Str} {m m' : Md} : op2 (fCmp .In) (.ok m (.str w)) (.ok m' (.tup [.str (Str.ofString "both"), .str (Str.ofString "either")])) = .ok .fz (.bl (wordIn w)) := by
  refine op2_of ?_
  show some (Md.fz, D.bl (eqD (.str (Str.ofString "both")) (.str w) || (eqD (.str (Str.ofString "either")) (.str w) || false))) = _
  congr 3
  simp only [eqD, wordIn, Bool.or_false]
  rw [Bool.eq_iff_iff]
  simp only [Bool.or_eq_true, beq_iff_eq]
  exact ⟨fun h => h.imp Eq.symm Eq.symm, fun h => h.imp Eq.symm Eq.symm⟩
theorem be : tupR (.ok [(.fz, .str (Str.ofString "both")), (.fz, .str (Str.ofString "either"))]) = .ok .fz (.tup [.str (Str.ofString "both"), .str (Str.ofString "either")]) := by rfl
theorem w1 : wordIn (Str.ofString "same") = false := by decide +kernel
theorem w2 : wordIn (Str.ofString "under") = false := by decide +kernel
theorem w3 : wordIn (Str.ofString "both") = true := by decide +kernel
theorem w4 : wordIn (Str.ofString "either") = true := by decide +kernel
theorem t2 {a b : D} : tupR (.ok [(.fz, a), (.fz, b)]) = .ok .fz (.tup [a, b]) := by rfl
theorem t3 {a b c : D} : tupR (.ok [(.fz, a), (.fz, b), (.fz, c)]) = .ok .fz (.tup [a, b, c]) := by rfl
theorem callG {n : Nat} {Φ : List D → Res} {xs : List (Md × D)} {ds : List D} {d : D} (hl : ds.length = n) (ha : allFz xs = some ds) (h : Φ ds = .ok .fr d) : callF n Φ (.ok xs) = .ok .fr d := by
  show (match allFz xs with | some ds => if ds.length = n then (match Φ ds with | .ok .bo _ => Res.stuck | r => r) else .stuck | none => .stuck) = _
  rw [ha]
  show (if ds.length = n then (match Φ ds with | .ok .bo _ => Res.stuck | r => r) else .stuck) = _
  rw [if_pos hl, h]
theorem callG1 {Φ : List D → Res} {a d : D} (h : Φ [a] = .ok .fr d) : callF 1 Φ (.ok [(.fz, a)]) = .ok .fr d := callG (ds := [a]) rfl rfl h
theorem cn_no (k : Nat) {f : List Str} {t : Ts} {c : List D} (h : (WT TT k).Φ "columns_in" [tsD f t] = .ok .fr (.lst c)) : (WT TT (k + 1)).Φ "columns_in" [tsD f (.no t)] = .ok .fr (.lst c) := by
  have c1 : callF 1 ((WT TT k).Φ "columns_in") (.ok [(.fz, tsD f t)]) = .ok .fr (.lst c) := callG1 h
  rw [u_columns_in]
  refine phi_ok rfl ?_
  show evB (WT TT k) b_columns_in [some (false, .tup [.str "not", tsD f t]), none] = _
  generalize tsD f t = d at *
  simp [b_columns_in, i0, i1, c1]
theorem cn_two (k : Nat) {f : List Str} {e : Bool} {t u : Ts} {b c : List D} (h : (WT TT k).Φ "columns_in" [tsD f t] = .ok .fr (.lst b)) (h' : (WT TT k).Φ "columns_in" [tsD f u] = .ok .fr (.lst c)) (hs : b.length + c.length ≤ sizeLine) :
    (WT TT (k + 1)).Φ "columns_in" [tsD f (.two e t u)] = .ok .fr (.lst (b ++ c)) := by
  have c1 : callF 1 ((WT TT k).Φ "columns_in") (.ok [(.fz, tsD f t)]) = .ok .fr (.lst b) := callG1 h
  have c2 : callF 1 ((WT TT k).Φ "columns_in") (.ok [(.fz, tsD f u)]) = .ok .fr (.lst c) := callG1 h'
  rw [u_columns_in]
  refine phi_ok rfl ?_
  show evB (WT TT k) b_columns_in [some (false, .tup [.str (if e then "either" else "both"), tsD f t, tsD f u]), none] = _
  generalize tsD f t = d at *
  generalize tsD f u = d' at *
  cases e with
  | true => simp [b_columns_in, j0, j1, j2, wd (a := "either") (b := "not"), be, in_be, w4, c1, c2, x_catL hs]
  | false => simp [b_columns_in, j0, j1, j2, wd (a := "both") (b := "not"), be, in_be, w3, c1, c2, x_catL hs]
theorem cut1 {W : WD} {ρ : Rho} {a b c : D} {m : Md} : slP (.ok m (.tup [a, b, c])) (some fun ρ => evE W (.int 1) ρ) none ρ = .ok .fz (.tup [b, c]) := by
  simp only [slP, Res.thn_ok, partThn, e_int]
  rfl
def tst (W : WD) : Rho → Res := fun ρ => evF W [.cmp .Eq (.ix (.var 0) (.int 0)) (.str "of")] ρ
def elt (W : WD) : Rho → Res := fun ρ => evE W (.ix (.var 0) (.int 1)) ρ
theorem cl_one {W : WD} {f : List Str} (p : Pt) {ds ys : List D} (h : compL (setG (.nm 0)) (tst W) (elt W) [none] ds = some ys) : compL (setG (.nm 0)) (tst W) (elt W) [none] (ptD f p :: ds) = some (cl f p ++ ys) := by
  have k : setG (.nm 0) (ptD f p) [none] = some [some (false, ptD f p)] := rfl
  rw [compL, k]
  dsimp only
  cases p with
  | of j =>
    have t : tst W [some (false, ptD f (.of j))] = .ok .fz (.bl true) := by simp [tst, ptD, i0]
    have e : elt W [some (false, ptD f (.of j))] = .ok .fz (.str (nth f j)) := by simp [elt, ptD, i1]
    rw [t, e, h]; rfl
  | just v =>
    have t : tst W [some (false, ptD f (.just v))] = .ok .fz (.bl false) := by simp [tst, ptD, i0, wd (a := "just") (b := "of")]
    rw [t, h]; rfl
theorem cl_two {W : WD} {ρ : Rho} {f : List Str} (p q : Pt) {m : Md} : compR (.ok m (.lst [ptD f p, ptD f q])) ρ [] 1 (setG (.nm 0)) (tst W) (elt W) = .ok .fr (.lst (cl f p ++ cl f q)) := by
  have h0 : compL (setG (.nm 0)) (tst W) (elt W) [none] [] = some [] := rfl
  have h := cl_one (W := W) (f := f) p (cl_one (W := W) (f := f) q h0)
  rw [List.append_nil] at h
  show (if [ptD f p, ptD f q].length < sizeLine then (match compL (setG (.nm 0)) (tst W) (elt W) [none] [ptD f p, ptD f q] with | some ys => Res.ok .fr (.lst ys) | none => .stuck) else .stuck) = _
  rw [h, if_pos (show [ptD f p, ptD f q].length < sizeLine from (by decide +kernel : 2 < sizeLine))]
theorem last {W : WD} {f : List Str} {w : Str} {p q : Pt} {x : Option (Bool × D)} : evE W (.comp (.ix (.var 0) (.int 1)) (.items (.slice (.var 0) (some (.int 1)) none)) [(.cmp .Eq (.ix (.var 0) (.int 0)) (.str "of"))] [] (.nm 0) 1) [some (false, .tup [.str w, ptD f p, ptD f q]), x] = .ok .fr (.lst (cl f p ++ cl f q)) := by
  rw [e_comp, e_items, e_slice]
  have e : itemsR (frzR (slP (evE W (.var 0) [some (false, .tup [.str w, ptD f p, ptD f q]), x]) (evO W (some (.int 1))) (evO W none) [some (false, .tup [.str w, ptD f p, ptD f q]), x])) = .ok .fz (.lst [ptD f p, ptD f q]) := by
    have := cut1 (W := W) (ρ := [some (false, .tup [.str w, ptD f p, ptD f q]), x]) (a := .str w) (b := ptD f p) (c := ptD f q) (m := .fz)
    simp only [evO]
    rw [show evE W (.var 0) [some (false, .tup [.str w, ptD f p, ptD f q]), x] = .ok .fz (.tup [.str w, ptD f p, ptD f q]) by simp]
    rw [this]; rfl
  rw [e]
  exact cl_two p q
theorem cn_atom (k : Nat) {f : List Str} {s : Bool} {p q : Pt} : (WT TT (k + 1)).Φ "columns_in" [tsD f (.atom s p q)] = .ok .fr (.lst (cl f p ++ cl f q)) := by
  rw [u_columns_in]
  refine phi_ok rfl ?_
  show evB (WT TT k) b_columns_in [some (false, .tup [.str (if s then "same" else "under"), ptD f p, ptD f q]), none] = _
  have l := fun w x => last (W := WT TT k) (f := f) (w := w) (p := p) (q := q) (x := x)
  unfold b_columns_in
  generalize E.comp (.ix (.var 0) (.int 1)) (.items (.slice (.var 0) (some (.int 1)) none)) [(.cmp .Eq (.ix (.var 0) (.int 0)) (.str "of"))] [] (.nm 0) 1 = z at *
  cases s with
  | true => simp [j0, wd (a := "same") (b := "not"), be, in_be, w1, l]
  | false => simp [j0, wd (a := "under") (b := "not"), be, in_be, w2, l]
theorem mx1 (k n m : Nat) : ∃ j, k + max n m = j + n := ⟨k + max n m - n, by omega⟩
theorem mx2 (k n m : Nat) : ∃ j, k + max n m = j + m := ⟨k + max n m - m, by omega⟩
theorem columns_k {f : List Str} : ∀ (t : Ts) (k : Nat), (cols f t).length ≤ sizeLine → (WT TT (k + t.dep + 1)).Φ "columns_in" [tsD f t] = .ok .fr (.lst (cols f t))
  | .atom s p q, k, _ => cn_atom k
  | .no t, k, hl => cn_no (k + t.dep + 1) (columns_k t k hl)
  | .two e a b, k, hl => by
    have el : (cols f a).length + (cols f b).length ≤ sizeLine := by rw [← List.length_append]; exact hl
    have q1 : (WT TT (k + max a.dep b.dep + 1)).Φ "columns_in" [tsD f a] = .ok .fr (.lst (cols f a)) := by obtain ⟨j, e⟩ := mx1 k a.dep b.dep; rw [e]; exact columns_k a j (Nat.le_trans (Nat.le_add_right _ _) el)
    have q2 : (WT TT (k + max a.dep b.dep + 1)).Φ "columns_in" [tsD f b] = .ok .fr (.lst (cols f b)) := by obtain ⟨j, e⟩ := mx2 k a.dep b.dep; rw [e]; exact columns_k b j (Nat.le_trans (Nat.le_add_left _ _) el)
    exact cn_two (k + max a.dep b.dep + 1) q1 q2 el
theorem columns {f : List Str} (t : Ts) (K : Nat) (hK : t.dep + 1 ≤ K) (hl : (cols f t).length ≤ sizeLine) : (WT TT K).Φ "columns_in" [tsD f t] = .ok .fr (.lst (cols f t)) := by
  have := columns_k t (K - t.dep - 1) hl
  rw [show K - t.dep - 1 + t.dep + 1 = K by omega] at this
  exact this
end K41

namespace K41
open PySem L2 D3
theorem snoc_len {z : Str} {g : Nat} : (z ++ ⟨#[g]⟩ : Str).length = z.length + 1 := by
  show (z.cps ++ #[g]).size = _
  rw [Array.size_append]; rfl
theorem l1 {a : D} : lstR (.ok [(.fz, a)]) = .ok .fr (.lst [a]) := by rfl
theorem l0 : lstR (.ok []) = .ok .fr (.lst []) := by rfl
theorem forS_ix {k : D → Rho → Option Rho} {body : Rho → SRes} (I : Nat → Rho → Prop) : ∀ (ds : List D) (i : Nat) {ρ : Rho}, (∀ j d, ds[j]? = some d → ∀ ρ, I (i + j) ρ → ∃ ρ1 ρ2, k d ρ = some ρ1 ∧ body ρ1 = .nx ρ2 ∧ I (i + j + 1) ρ2) → I i ρ → ∃ ρ', forS k body ds ρ = .nx ρ' ∧ I (i + ds.length) ρ'
  | [], i, ρ, _, h => ⟨ρ, rfl, h⟩
  | d :: ds, i, ρ, hs, h => by
    obtain ⟨ρ1, ρ2, e1, e2, h2⟩ := hs 0 d rfl ρ h
    obtain ⟨ρ', e3, h3⟩ := forS_ix (k := k) (body := body) I ds (i + 1) (fun j d hd ρ hρ => by
      have := hs (j + 1) d (by rw [List.getElem?_cons_succ]; exact hd) ρ (by rw [show i + (j + 1) = i + 1 + j by omega]; exact hρ)
      rw [show i + (j + 1) + 1 = i + 1 + j + 1 by omega] at this
      exact this) h2
    refine ⟨ρ', ?_, by rw [show i + (d :: ds).length = i + 1 + ds.length by rw [List.length_cons]; omega]; exact h3⟩
    unfold forS
    rw [e1]
    dsimp only
    rw [e2]; exact e3
theorem range_ix {n j : Nat} {d : D} (h : (rangeD 0 (n : Int))[j]? = some d) : j < n ∧ d = .int (j : Int) := by
  simp only [rangeD, List.getElem?_map] at h
  by_cases hj : j < n
  · refine ⟨hj, ?_⟩
    rw [List.getElem?_range (by omega)] at h
    simp at h
    exact h.symm
  · rw [List.getElem?_eq_none (by simp; omega)] at h
    cases h
theorem range_len (n : Nat) : (rangeD 0 (n : Int)).length = n := by simp [rangeD]
def L36 : Str := Str.ofString "abcdefghijklmnopqrstuvwxyz0123456789"
def mst (j : Nat) : Int := if j = 0 then 26 else 36
theorem m_l : lstR (.ok [(.fz, .int 26), (.fz, .int 36)]) = .ok .fr (.lst [.int 26, .int 36]) := by rfl
theorem mst_pos (j : Nat) : 0 < mst j ∧ mst j ≤ 36 := by unfold mst; split <;> decide
theorem l36 : (L36.cps.toList).length = 36 := by decide +kernel
theorem sgn36 (v : Int) (j : Nat) : ∃ g, L36.cps.toList[(v % mst j).toNat]? = some g ∧ ∀ m m' : Md, op2 ixD (.ok m (.str L36)) (.ok m' (.int (v % mst j))) = .ok .fz (.str ⟨#[g]⟩) := by
  obtain ⟨p, q⟩ := mst_pos j
  have h0 := Int.emod_nonneg v (show mst j ≠ 0 by omega)
  have h1 := Int.emod_lt_of_pos v p
  have hl := l36
  obtain ⟨i, hi⟩ := Int.eq_ofNat_of_zero_le h0
  have hx : i < L36.cps.toList.length := by omega
  refine ⟨L36.cps.toList[i], by rw [hi]; exact List.getElem?_eq_getElem hx, fun m m' => ?_⟩
  rw [hi]
  exact ix_s (atI_nat (List.getElem?_eq_getElem hx))
theorem m_ix2 (j : Nat) : op2 ixD (.ok .fr (.lst [.int 26, .int 36])) (.ok .fz (.int (if 0 < j then 1 else 0))) = .ok .fz (.int (mst j)) := by
  cases j with
  | zero => exact ix_l (atI_nat (j := 0) rfl)
  | succ j =>
    rw [if_pos (Nat.succ_pos j)]
    exact ix_l (atI_nat (j := 1) rfl)
/-- the sign that tells the k-th name from the others -/
def tell (c : Int) (a k : Nat) : Option Nat := L36.cps.toList[((c / 240 + 5 * (k : Int)) % mst a).toNat]?
def inv (c : Int) (a k j : Nat) (z : Str) : Prop := z.length = j ∧ (a < j → z.cps.toList[a]? = tell c a k) ∧ PyData.strOk z = true
theorem l36s : ∀ g ∈ L36.cps.toList, g < 1114112 := by decide +kernel
theorem inv_step {c : Int} {a k j : Nat} {z : Str} {g : Nat} (h : inv c a k j z) (hg : a = j → tell c a k = some g) (hb : g < 1114112) : inv c a k (j + 1) (z ++ ⟨#[g]⟩) := by
  have ec : (z ++ ⟨#[g]⟩ : Str).cps.toList = z.cps.toList ++ [g] := by show (z.cps ++ #[g]).toList = _; simp
  have el : z.cps.toList.length = j := by rw [Array.length_toList]; exact h.1
  refine ⟨by rw [snoc_len, h.1], fun ha => ?_, ?_⟩
  rotate_left
  · have := h.2.2
    unfold PyData.strOk at this ⊢
    show (z.cps ++ #[g]).all _ = true
    rw [Array.all_append, this]
    simp [hb]
  rw [ec]
  by_cases e : a = j
  · rw [List.getElem?_append_right (by omega), hg e]
    rw [show a - z.cps.toList.length = 0 by omega]; rfl
  · rw [List.getElem?_append_left (by omega)]
    exact h.2.1 (by omega)
theorem inner (K : Nat) {c : Int} {a k s : Nat} (hs : s ≤ 40) (x1 : Option (Bool × D)) (x5 : Option (Bool × D)) (x8 x9 x10 : Option (Bool × D)) :
    ∃ z y8 y9 y10, inv c a k s z ∧ forR (.ok .fz (.lst (rangeD 0 (s : Int)))) [some (false, .int c), x1, some (false, .str L36), some (false, .int (s : Int)), some (false, .int (a : Int)), x5, some (false, .int (k : Int)), some (false, .str (Str.ofString "")), x8, x9, x10] (setG (.nm 8)) (evB (WT TT K) b__law_names_L1)
      = .nx [some (false, .int c), x1, some (false, .str L36), some (false, .int (s : Int)), some (false, .int (a : Int)), x5, some (false, .int (k : Int)), some (false, .str z), y8, y9, y10] := by
  obtain ⟨ρ', e, I⟩ := forS_ix (k := setG (.nm 8)) (body := evB (WT TT K) b__law_names_L1)
    (fun j ρ => ∃ z y8 y9 y10, inv c a k j z ∧ ρ = [some (false, .int c), x1, some (false, .str L36), some (false, .int (s : Int)), some (false, .int (a : Int)), x5, some (false, .int (k : Int)), some (false, .str z), y8, y9, y10])
    (rangeD 0 (s : Int)) 0 (ρ := [some (false, .int c), x1, some (false, .str L36), some (false, .int (s : Int)), some (false, .int (a : Int)), x5, some (false, .int (k : Int)), some (false, .str (Str.ofString "")), x8, x9, x10])
    (fun j d hd ρ hρ => by
      obtain ⟨z, y8, y9, y10, hz, rfl⟩ := hρ
      obtain ⟨hj, rfl⟩ := range_ix hd
      rw [Nat.zero_add] at hz ⊢
      have d1 : op2 (fBin .FloorDiv) (.ok .fz (.int (c / 7))) (.ok .fz (.int ((j : Int) + 1))) = .ok .fz (.int (c / 7 / ((j : Int) + 1))) := x_divS (by omega) (by omega)
      have m1 : op2 (fBin .Mult) (.ok .fz (.int 5)) (.ok .fz (.int (k : Int))) = .ok .fz (.int (5 * (k : Int))) := x_mulL (by decide)
      have hsz : sizeLine = 16777216 := sizeLine_eq
      have mp := (mst_pos j).1
      by_cases e : j = a
      · obtain ⟨g, hg, eg⟩ := sgn36 (c / 240 + 5 * (k : Int)) j
        have hla : z.length + (⟨#[g]⟩ : Str).length ≤ sizeLine := by
          have : (⟨#[g]⟩ : Str).length = 1 := rfl
          have := hz.1; omega
        have eb : ((j : Int) == (a : Int)) = true := by rw [e]; exact beq_self_eq_true _
        refine ⟨[some (false, .int c), x1, some (false, .str L36), some (false, .int (s : Int)), some (false, .int (a : Int)), x5, some (false, .int (k : Int)), some (false, .str z), some (false, .int (j : Int)), y9, y10], [some (false, .int c), x1, some (false, .str L36), some (false, .int (s : Int)), some (false, .int (a : Int)), x5, some (false, .int (k : Int)), some (false, .str (z ++ ⟨#[g]⟩)), some (false, .int (j : Int)), some (false, .int (mst j)), some (false, .int (c / 240 + 5 * (k : Int)))], by simp, ?_, _, _, _, _, inv_step hz (fun h => by unfold tell; rw [h]; exact hg) (l36s g (List.mem_of_getElem? hg)), rfl⟩
        have mm := x_mod (m := .fz) (n := .fz) (i := c / 240 + 5 * (k : Int)) mp
        have mi := m_ix2 j
        simp [b__law_names_L1, Ty.f, m_l, mi, d1, m1, eb, mm, eg, x_addS hla]
      · obtain ⟨g, hg, eg⟩ := sgn36 (c / 7 / ((j : Int) + 1)) j
        have hla : z.length + (⟨#[g]⟩ : Str).length ≤ sizeLine := by
          have : (⟨#[g]⟩ : Str).length = 1 := rfl
          have := hz.1; omega
        have eb : ((j : Int) == (a : Int)) = false := beq_eq_false_iff_ne.mpr (by omega)
        refine ⟨[some (false, .int c), x1, some (false, .str L36), some (false, .int (s : Int)), some (false, .int (a : Int)), x5, some (false, .int (k : Int)), some (false, .str z), some (false, .int (j : Int)), y9, y10], [some (false, .int c), x1, some (false, .str L36), some (false, .int (s : Int)), some (false, .int (a : Int)), x5, some (false, .int (k : Int)), some (false, .str (z ++ ⟨#[g]⟩)), some (false, .int (j : Int)), some (false, .int (mst j)), some (false, .int (c / 7 / ((j : Int) + 1)))], by simp, ?_, _, _, _, _, inv_step hz (fun h => absurd h.symm e) (l36s g (List.mem_of_getElem? hg)), rfl⟩
        have mm := x_mod (m := .fz) (n := .fz) (i := c / 7 / ((j : Int) + 1)) mp
        have mi := m_ix2 j
        simp [b__law_names_L1, Ty.f, m_l, mi, d1, m1, eb, mm, eg, x_addS hla])
    ⟨_, _, _, _, ⟨by decide +kernel, fun h => absurd h (Nat.not_lt_zero _), by decide +kernel⟩, rfl⟩
  rw [Nat.zero_add, range_len] at I
  obtain ⟨z, y8, y9, y10, hz, rfl⟩ := I
  exact ⟨z, y8, y9, y10, hz, e⟩
end K41

namespace K41
open PySem L2 D3
/-- the names are unlike by their sign at the place a -/
theorem tell_inj {c : Int} {a k k' : Nat} (hk : k < 11) (hk' : k' < 11) (h : tell c a k = tell c a k') : k = k' := by
  have nd : ∀ i < 36, ∀ j < 36, L36.cps.toList[i]? = L36.cps.toList[j]? → i = j := by decide +kernel
  obtain ⟨p, q⟩ := mst_pos a
  have a0 := Int.emod_nonneg (c / 240 + 5 * (k : Int)) (show mst a ≠ 0 by omega)
  have a1 := Int.emod_lt_of_pos (c / 240 + 5 * (k : Int)) p
  have b0 := Int.emod_nonneg (c / 240 + 5 * (k' : Int)) (show mst a ≠ 0 by omega)
  have b1 := Int.emod_lt_of_pos (c / 240 + 5 * (k' : Int)) p
  have e := nd _ (by omega) _ (by omega) h
  have e' : (c / 240 + 5 * (k : Int)) % mst a = (c / 240 + 5 * (k' : Int)) % mst a := by omega
  have hm : mst a = 26 ∨ mst a = 36 := by unfold mst; split <;> simp
  clear e h a0 a1 b0 b1 p q
  rcases hm with hm | hm <;> rw [hm] at e' <;> omega
theorem turn_a {W : WD} {s : Nat} (hs : s ≤ 40) {z : Str} {x0 x1 x2 x4 x5 x6 x7 x8 x9 x10 y8 y9 y10 : Option (Bool × D)}
    (e : forR (.ok .fz (.lst (rangeD 0 (s : Int)))) [x0, x1, x2, some (false, .int (s : Int)), x4, x5, x6, some (false, .str (Str.ofString "")), x8, x9, x10] (setG (.nm 8)) (evB W b__law_names_L1) = .nx [x0, x1, x2, some (false, .int (s : Int)), x4, x5, x6, some (false, .str z), y8, y9, y10]) :
    evB W (b__law_names_L2.take 2) [x0, x1, x2, some (false, .int (s : Int)), x4, x5, x6, x7, x8, x9, x10] = .nx [x0, x1, x2, some (false, .int (s : Int)), x4, x5, x6, some (false, .str z), y8, y9, y10] := by
  have er := rngI (m := .fz) (n := (s : Int)) (by omega) (by omega)
  have ea : b__law_names_L2.take 2 = [.set 7 (.str (Str.ofString "")), .for (.rng1 (.var 3)) (.nm 8) b__law_names_L1] := rfl
  rw [ea]
  generalize rangeD 0 (s : Int) = R at *
  generalize b__law_names_L1 = B at *
  generalize Str.ofString "" = E0 at *
  have st : [x0, x1, x2, some (false, .int (s : Int)), x4, x5, x6, x7, x8, x9, x10].set 7 (some (false, D.str E0)) = [x0, x1, x2, some (false, .int (s : Int)), x4, x5, x6, some (false, .str E0), x8, x9, x10] := rfl
  have g3 : getS [x0, x1, x2, some (false, .int (s : Int)), x4, x5, x6, some (false, .str E0), x8, x9, x10] 3 = .ok .fz (.int (s : Int)) := rfl
  have c1 : consL (.ok .fz (.int (s : Int))) (.ok []) = .ok [(.fz, .int (s : Int))] := rfl
  rw [b_cons, s_set, e_str, x_set, SRes.thn_nx, st, b_cons, s_for, e_rng1, e_var, g3, c1, er, e, SRes.thn_nx, b_nil]

def strK' (x : Str) : Prop := x.length ≤ 40 ∧ PyData.strOk x = true
def told (c : Int) (a : Nat) (zs : List Str) : Prop := ∀ k, k < zs.length → strK' (nth zs k) ∧ (nth zs k).cps.toList[a]? = tell c a k
theorem told_snoc {c : Int} {a : Nat} {zs : List Str} {y : Str} (h : told c a zs) (h1 : strK' y) (h2 : y.cps.toList[a]? = tell c a zs.length) : told c a (zs ++ [y]) := by
  intro k hk
  rw [List.length_append] at hk
  unfold nth
  rw [List.getD_eq_getElem?_getD]
  by_cases e : k < zs.length
  · rw [List.getElem?_append_left e, ← List.getD_eq_getElem?_getD]
    exact h k e
  · have : k = zs.length := by simp at hk; omega
    subst this
    rw [List.getElem?_append_right (Nat.le_refl _), Nat.sub_self]
    exact ⟨h1, h2⟩
theorem turn_b {W : WD} {ds : List D} {z : Str} {x0 x1 x2 x3 x4 x6 y8 y9 y10 : Option (Bool × D)} (hl : ds.length < sizeLine) :
    evB W (b__law_names_L2.drop 2) [x0, x1, x2, x3, x4, some (true, .lst ds), x6, some (false, .str z), y8, y9, y10] = .nx [x0, x1, x2, x3, x4, some (true, .lst (ds ++ [.str z])), x6, some (false, .str z), y8, y9, y10] := by
  have ea : b__law_names_L2.drop 2 = [.app 5 (.var 7)] := rfl
  rw [ea, b_cons, s_app, e_var]
  show (if ds.length < sizeLine then _ else _ : SRes).thn _ = _
  rw [if_pos hl, SRes.thn_nx, b_nil]
  rfl
theorem turn (K : Nat) {c : Int} {a s : Nat} {zs : List Str} (hs : s ≤ 40) (ha : a < s) (hz : told c a zs) (hk : zs.length < 11) (x1 x7 x8 x9 x10 : Option (Bool × D)) :
    ∃ y y7 y8 y9 y10, told c a (zs ++ [y]) ∧ evB (WT TT K) b__law_names_L2 [some (false, .int c), x1, some (false, .str L36), some (false, .int (s : Int)), some (false, .int (a : Int)), some (true, .lst (zs.map .str)), some (false, .int (zs.length : Int)), x7, x8, x9, x10]
      = .nx [some (false, .int c), x1, some (false, .str L36), some (false, .int (s : Int)), some (false, .int (a : Int)), some (true, .lst ((zs ++ [y]).map .str)), some (false, .int (zs.length : Int)), y7, y8, y9, y10] := by
  obtain ⟨z, y8, y9, y10, hi, e⟩ := inner K (c := c) (a := a) (k := zs.length) hs x1 (some (true, .lst (zs.map .str))) x8 x9 x10
  have hsz : sizeLine = 16777216 := sizeLine_eq
  have hl : (zs.map D.str).length < sizeLine := by rw [List.length_map]; omega
  refine ⟨z, some (false, .str z), y8, y9, y10, told_snoc hz ⟨by have := hi.1; show z.length ≤ 40; omega, hi.2.2⟩ (hi.2.1 ha), ?_⟩
  have ea : b__law_names_L2 = b__law_names_L2.take 2 ++ b__law_names_L2.drop 2 := rfl
  rw [ea, b_app, turn_a hs e, SRes.thn_nx, turn_b hl, List.map_append]
  rfl
def six : List D := [.int 1, .int 2, .int 3, .int 5, .int 8, .int 40]
theorem six_l : lstR (.ok [(.fz, .int 1), (.fz, .int 2), (.fz, .int 3), (.fz, .int 5), (.fz, .int 8), (.fz, .int 40)]) = .ok .fr (.lst six) := by rfl
theorem six_n {d : D} (h : d ∈ six) : ∃ s : Nat, 0 < s ∧ s ≤ 40 ∧ d = .int (s : Int) := by
  simp only [six, List.mem_cons, List.not_mem_nil, or_false] at h
  rcases h with rfl | rfl | rfl | rfl | rfl | rfl
  · exact ⟨1, by decide, by decide, rfl⟩
  · exact ⟨2, by decide, by decide, rfl⟩
  · exact ⟨3, by decide, by decide, rfl⟩
  · exact ⟨5, by decide, by decide, rfl⟩
  · exact ⟨8, by decide, by decide, rfl⟩
  · exact ⟨40, by decide, by decide, rfl⟩
theorem nm_pre {W : WD} (c : Int) (N : Int) : ∃ s a : Nat, s ≤ 40 ∧ a < s ∧ evB W (b__law_names.take 4) [some (false, .int c), some (false, .int N), none, none, none, none, none, none, none, none, none] = .nx [some (false, .int c), some (false, .int N), some (false, .str L36), some (false, .int (s : Int)), some (false, .int (a : Int)), some (true, .lst []), none, none, none, none, none] := by
  obtain ⟨d, hd, ed⟩ := atI_mod six c 6 rfl (by decide)
  obtain ⟨s, h0, h1, rfl⟩ := six_n hd
  have ex := ix_l (m := .fr) (m' := .fz) ed
  have a0 := Int.emod_nonneg (c / 6) (show (s : Int) ≠ 0 by omega)
  have a1 := Int.emod_lt_of_pos (c / 6) (show (0 : Int) < (s : Int) by omega)
  obtain ⟨a, ha⟩ := Int.eq_ofNat_of_zero_le a0
  have em : op2 (fBin .Mod) (.ok .fz (.int (c / 6))) (.ok .fz (.int (s : Int))) = .ok .fz (.int (a : Int)) := by rw [x_mod (by omega), ha]
  refine ⟨s, a, h1, by omega, ?_⟩
  have ea : b__law_names.take 4 = [.set 2 (.str L36),
      .set 3 (.ix (.lst [(.int 1), (.int 2), (.int 3), (.int 5), (.int 8), (.int 40)]) (.bin .Mod (.var 0) (.int 6))),
      .set 4 (.frz (.bin .Mod (.bin .FloorDiv (.var 0) (.int 6)) (.var 3))),
      .set 5 (.lst [])] := rfl
  rw [ea]
  generalize L36 = l
  simp [six_l, ex, em, l0]
theorem nm_loop (K : Nat) {c : Int} {a s : Nat} (hs : s ≤ 40) (ha : a < s) (x1 : Option (Bool × D)) {n : Nat} (hn : n ≤ 11) :
    ∃ zs y6 y7 y8 y9 y10, zs.length = n ∧ told c a zs ∧ forR (.ok .fz (.lst (rangeD 0 (n : Int)))) [some (false, .int c), x1, some (false, .str L36), some (false, .int (s : Int)), some (false, .int (a : Int)), some (true, .lst []), none, none, none, none, none] (setG (.nm 6)) (evB (WT TT K) b__law_names_L2)
      = .nx [some (false, .int c), x1, some (false, .str L36), some (false, .int (s : Int)), some (false, .int (a : Int)), some (true, .lst (zs.map .str)), y6, y7, y8, y9, y10] := by
  obtain ⟨ρ', e, I⟩ := forS_ix (k := setG (.nm 6)) (body := evB (WT TT K) b__law_names_L2)
    (fun j ρ => ∃ zs x6 x7 x8 x9 x10, zs.length = j ∧ told c a zs ∧ ρ = [some (false, .int c), x1, some (false, .str L36), some (false, .int (s : Int)), some (false, .int (a : Int)), some (true, .lst (zs.map .str)), x6, x7, x8, x9, x10])
    (rangeD 0 (n : Int)) 0 (ρ := [some (false, .int c), x1, some (false, .str L36), some (false, .int (s : Int)), some (false, .int (a : Int)), some (true, .lst []), none, none, none, none, none])
    (fun j d hd ρ hρ => by
      obtain ⟨zs, x6, x7, x8, x9, x10, hz, ht, rfl⟩ := hρ
      obtain ⟨hj, rfl⟩ := range_ix hd
      rw [Nat.zero_add] at hz ⊢
      subst hz
      obtain ⟨y, y7, y8, y9, y10, hy, ey⟩ := turn K hs ha ht (by omega) x1 x7 x8 x9 x10
      refine ⟨[some (false, .int c), x1, some (false, .str L36), some (false, .int (s : Int)), some (false, .int (a : Int)), some (true, .lst (zs.map .str)), some (false, .int (zs.length : Int)), x7, x8, x9, x10], _, by rw [sg_nm]; rfl, ey, zs ++ [y], _, y7, y8, y9, y10, by rw [List.length_append]; rfl, hy, rfl⟩)
    ⟨[], none, none, none, none, none, rfl, fun k hk => absurd hk (Nat.not_lt_zero _), rfl⟩
  rw [Nat.zero_add, range_len] at I
  obtain ⟨zs, y6, y7, y8, y9, y10, hz, ht, rfl⟩ := I
  exact ⟨zs, y6, y7, y8, y9, y10, hz, ht, e⟩
theorem nm_end {W : WD} {x0 x2 x3 x4 y5 y6 y7 y8 y9 y10 : Option (Bool × D)} {zs : List D} {n : Nat} (hn : n ≤ 11)
    (e : forR (.ok .fz (.lst (rangeD 0 (n : Int)))) [x0, some (false, .int (n : Int)), x2, x3, x4, y5, none, none, none, none, none] (setG (.nm 6)) (evB W b__law_names_L2) = .nx [x0, some (false, .int (n : Int)), x2, x3, x4, some (true, .lst zs), y6, y7, y8, y9, y10]) :
    evB W (b__law_names.drop 4) [x0, some (false, .int (n : Int)), x2, x3, x4, y5, none, none, none, none, none] = .rt .fr (.lst zs) := by
  have er := rngI (m := .fz) (n := (n : Int)) (by omega) (by omega)
  have ea : b__law_names.drop 4 = [.for (.rng1 (.var 1)) (.nm 6) b__law_names_L2, .retV 5] := rfl
  rw [ea]
  generalize rangeD 0 (n : Int) = R at *
  generalize b__law_names_L2 = B at *
  have g1 : getS [x0, some (false, .int (n : Int)), x2, x3, x4, y5, none, none, none, none, none] 1 = .ok .fz (.int (n : Int)) := rfl
  have c1 : consL (.ok .fz (.int (n : Int))) (.ok []) = .ok [(.fz, .int (n : Int))] := rfl
  rw [b_cons, s_for, e_rng1, e_var, g1, c1, er, e, SRes.thn_nx, b_cons, s_retV]
  rfl
theorem nth_at {F : List Str} {k : Nat} (hk : k < F.length) : nth F k = F[k] := by unfold nth; rw [List.getD_eq_getElem?_getD, List.getElem?_eq_getElem hk]; rfl
theorem told_nd {c : Int} {a : Nat} {zs : List Str} (h : told c a zs) (hl : zs.length ≤ 11) : zs.Nodup := by
  refine List.pairwise_iff_getElem.mpr fun i j hi hj hij e => ?_
  have h1 := (h i hi).2
  have h2 := (h j hj).2
  rw [nth_at hi, e, ← nth_at hj, h2] at h1
  have := tell_inj (c := c) (a := a) (by omega) (by omega) h1
  omega
theorem names (K : Nat) (c : Int) {n : Nat} (hn : n ≤ 11) : ∃ zs : List Str, zs.length = n ∧ zs.Nodup ∧ (∀ z ∈ zs, strK' z) ∧ (WT TT (K + 1)).Φ "_law_names" [.int c, .int (n : Int)] = .ok .fr (.lst (zs.map .str)) := by
  obtain ⟨s, a, hs, ha, e1⟩ := nm_pre (W := WT TT K) c (n : Int)
  obtain ⟨zs, y6, y7, y8, y9, y10, hz, ht, e2⟩ := nm_loop K (c := c) hs ha (some (false, .int (n : Int))) hn
  refine ⟨zs, hz, told_nd ht (by omega), fun z hm => ?_, ?_⟩
  · obtain ⟨j, hj, rfl⟩ := List.mem_iff_getElem.mp hm
    have := (ht j hj).1
    rw [nth_at hj] at this; exact this
  rw [u__law_names]
  refine phi_ok rfl ?_
  show evB (WT TT K) b__law_names [some (false, .int c), some (false, .int (n : Int)), none, none, none, none, none, none, none, none, none] = _
  have ea : b__law_names = b__law_names.take 4 ++ b__law_names.drop 4 := rfl
  rw [ea, b_app, e1, SRes.thn_nx]
  exact nm_end hn e2
end K41

namespace K41
open PySem L2 D3
theorem phi_nx {n N : Nat} {g : Rho → SRes} {ds : List D} {ρ : Rho} (hl : ds.length = n) (h : g (startR N ds) = .nx ρ) : phi n N g ds = .ok .fz .non := by
  unfold phi
  rw [if_pos hl, h]; rfl
/-- a tuple of names -/
abbrev Tp (C : List Str) : D := .tup (C.map .str)
theorem flat_T {C : List Str} : (C.map D.str).all flatD = true := by rw [List.all_map]; exact List.all_eq_true.mpr fun _ _ => rfl
theorem any_T {C : List Str} {z : Str} : ((C.map D.str).any fun y => eqD y (.str z)) = decide (z ∈ C) := by
  rw [Bool.eq_iff_iff, List.any_map, List.any_eq_true, decide_eq_true_eq]
  constructor
  · rintro ⟨y, hy, e⟩
    have e : (y == z) = true := e
    rw [beq_iff_eq] at e
    subst e; exact hy
  · exact fun h => ⟨z, h, by show (z == z) = true; exact beq_self_eq_true z⟩
theorem in_T {m m' : Md} {z : Str} {C : List Str} : op2 (fCmp .In) (.ok m (.str z)) (.ok m' (Tp C)) = .ok .fz (.bl (decide (z ∈ C))) := by
  refine op2_of ?_
  show (if (flatD (.str z) && (C.map D.str).all flatD) = true then some (Md.fz, D.bl (if false = true then _ else ((C.map D.str).any fun y => eqD y (.str z)))) else none) = _
  rw [flat_T, any_T]; rfl
theorem notin_T {m m' : Md} {z : Str} {C : List Str} : op2 (fCmp .NotIn) (.ok m (.str z)) (.ok m' (Tp C)) = .ok .fz (.bl (!decide (z ∈ C))) := by
  refine op2_of ?_
  show (if (flatD (.str z) && (C.map D.str).all flatD) = true then some (Md.fz, D.bl (if true = true then !((C.map D.str).any fun y => eqD y (.str z)) else _)) else none) = _
  rw [flat_T, any_T]; rfl
theorem toPy_T : ∀ C : List Str, toPyL (C.map D.str) = some (C.map PyData.str)
  | [] => rfl
  | z :: C => by
    show (match toPy (.str z), toPyL (C.map D.str) with | some p, some ps => some (p :: ps) | _, _ => none) = _
    rw [toPy_T C]; rfl
theorem dep_T : ∀ C : List Str, PyData.depthAll (C.map PyData.str) = 0
  | [] => by simp [PyData.depthAll]
  | z :: C => by simp [PyData.depthAll, PyData.depth, dep_T C]
theorem shal_T {C : List Str} : shal (.tuple (C.map .str)) = true := by
  unfold shal
  simp [PyData.depth, dep_T]
theorem eqv_T : ∀ C : List Str, PyData.eqvAll (C.map PyData.str) (C.map PyData.str) = true
  | [] => by simp [PyData.eqvAll]
  | z :: C => by simp [PyData.eqvAll, PyData.eqv, eqv_T C]
theorem ne_T {m m' : Md} {C : List Str} : op2 (fCmp .NotEq) (.ok m (Tp C)) (.ok m' (Tp C)) = .ok .fz (.bl false) := by
  refine op2_of ?_
  simp [fCmp, fNe, orO, eqF, toPy, toPy_T, shal_T, PyData.eqv, eqv_T]
theorem ne_0 {m m' : Md} {C : List Str} : op2 (fCmp .NotEq) (.ok m (Tp C)) (.ok m' (.tup [])) = .ok .fz (.bl (!C.isEmpty)) := by
  refine op2_of ?_
  have s0 : shal (.tuple []) = true := shal_T (C := [])
  cases C with
  | nil => simp [fCmp, fNe, orO, eqF, toPy, toPyL, s0, PyData.eqv, PyData.eqvAll]
  | cons z C =>
    have := shal_T (C := z :: C)
    rw [List.map_cons] at this
    simp [fCmp, fNe, orO, eqF, toPy, toPyL, toPy_T, s0, this, PyData.eqv, PyData.eqvAll]
section
variable {W : WD} {ρ : Rho} {ds : List D} {e : E} {i : Nat} {m : Md}
theorem cut_hi : cutD ds none (some (i : Int)) = ds.take i := by
  unfold cutD
  rw [HT.sIx_none, HT.sIx_nat, List.drop_zero, Nat.sub_zero]
  by_cases h : i ≤ ds.length
  · rw [Nat.min_eq_left h]
  · rw [Nat.min_eq_right (by omega), List.take_length, List.take_of_length_le (by omega)]
theorem cut_lo : cutD ds (some (i : Int)) none = ds.drop i := by
  unfold cutD
  rw [HT.sIx_none, HT.sIx_nat]
  by_cases h : i ≤ ds.length
  · rw [Nat.min_eq_left h]
    exact List.take_of_length_le (by rw [List.length_drop]; omega)
  · rw [Nat.min_eq_right (by omega), List.drop_length, List.drop_of_length_le (by omega)]; simp
theorem sl_hi (h : evE W e ρ = .ok m (.int (i : Int))) : slP (.ok .fz (.tup ds)) (evO W none) (evO W (some e)) ρ = .ok .fz (.tup (ds.take i)) := by
  simp only [evO, slP, Res.thn_ok, partThn, h]
  rw [if_neg (by simp), cut_hi]
theorem sl_lo (h : evE W e ρ = .ok m (.int (i : Int))) : slP (.ok .fz (.tup ds)) (evO W (some e)) (evO W none) ρ = .ok .fz (.tup (ds.drop i)) := by
  simp only [evO, slP, Res.thn_ok, partThn, h]
  rw [if_neg (by simp), cut_lo]
theorem sll_hi {m' : Md} (h : evE W e ρ = .ok m (.int (i : Int))) : slP (.ok m' (.lst ds)) (evO W none) (evO W (some e)) ρ = .ok .fr (.lst (ds.take i)) := by
  simp only [evO, slP, Res.thn_ok, partThn, h]
  rw [cut_hi]
end
/-! ### refusals that don't come -/
theorem missing (k : Nat) {z : Str} {C : List Str} (h : z ∈ C) : (WT TT (k + 1)).Φ "refuse_missing" [.str z, Tp C] = .ok .fz .non := by
  rw [u_refuse_missing]
  refine phi_nx (ρ := [some (false, .str z), some (false, Tp C)]) rfl ?_
  show evB _ b_refuse_missing [some (false, .str z), some (false, Tp C)] = _
  have e := notin_T (m := .fz) (m' := .fz) (z := z) (C := C)
  rw [decide_eq_true h] at e
  generalize Tp C = t at *
  simp [b_refuse_missing, e]
theorem at_T {C : List Str} {i : Nat} (hi : i < C.length) {m m' : Md} : op2 ixD (.ok m (Tp C)) (.ok m' (.int (i : Int))) = .ok .fz (.str C[i]) := ix_t (atI_nat (by rw [List.getElem?_map, List.getElem?_eq_getElem hi]; rfl))
theorem twice (k : Nat) {C : List Str} (hn : C.Nodup) {i : Nat} (hi : i < C.length) : (WT TT (k + 1)).Φ "refuse_twice" [Tp C, .int (i : Int)] = .ok .fz .non := by
  rw [u_refuse_twice]
  refine phi_nx (ρ := [some (false, Tp C), some (false, .int (i : Int))]) rfl ?_
  show evB _ b_refuse_twice [some (false, Tp C), some (false, .int (i : Int))] = _
  have nm : ¬ C[i] ∈ C.take i := fun h => by
    obtain ⟨j, hj, e⟩ := List.mem_iff_getElem.mp h
    rw [List.getElem_take] at e
    rw [List.length_take] at hj
    have := (List.getElem_inj hn).mp e
    omega
  have e1 := at_T hi (m := .fz) (m' := .fz)
  have e2 : slP (.ok .fz (Tp C)) (evO (WT TT k) none) (evO (WT TT k) (some (.var 1))) [some (false, Tp C), some (false, .int (i : Int))] = .ok .fz (Tp (C.take i)) := by
    rw [sl_hi (m := .fz) (i := i) rfl, ← List.map_take]
  have e3 := in_T (m := .fz) (m' := .fz) (z := C[i]) (C := C.take i)
  rw [decide_eq_false nm] at e3
  generalize hA : evO (WT TT k) none = A at *
  generalize hB : evO (WT TT k) (some (.var 1)) = B at *
  generalize Tp (C.take i) = t at *
  generalize Tp C = t' at *
  generalize C[i] = z at *
  simp [b_refuse_twice, e1, hA, hB, e2, e3]
theorem enum_ix : ∀ {ds : List D} {i j : Nat} {d : D}, (enumD i ds)[j]? = some d → ∃ x, ds[j]? = some x ∧ d = .tup [.int ((i + j : Nat) : Int), x]
  | [], i, j, d, h => by simp [enumD] at h
  | x :: ds, i, 0, d, h => by simp [enumD] at h; exact ⟨x, rfl, h.symm⟩
  | x :: ds, i, j + 1, d, h => by
    simp only [enumD, List.getElem?_cons_succ] at h
    obtain ⟨y, hy, e⟩ := enum_ix h
    exact ⟨y, by rw [List.getElem?_cons_succ]; exact hy, by rw [e, show i + 1 + j = i + (j + 1) by omega]⟩
theorem kept (k : Nat) {K C : List Str} (hn : K.Nodup) (hs : ∀ z ∈ K, z ∈ C) : (WT TT (k + 2)).Φ "kept" [Tp K, Tp C] = .ok .fz (Tp K) := by
  rw [u_kept]
  refine phi_ok rfl ?_
  show evB (WT TT (k + 1)) b_kept [some (false, Tp K), some (false, Tp C), none, none] = _
  obtain ⟨ρ', e, I⟩ := forS_ix (k := setG (.tp [.nm 2, .nm 3])) (body := evB (WT TT (k + 1)) b_kept_L1) (fun _ ρ => ∃ x y, ρ = [some (false, Tp K), some (false, Tp C), x, y])
    (enumD 0 (K.map .str)) 0 (ρ := [some (false, Tp K), some (false, Tp C), none, none])
    (fun j d hd ρ hρ => by
      obtain ⟨x, y, rfl⟩ := hρ
      obtain ⟨v, hv, rfl⟩ := enum_ix hd
      rw [List.getElem?_map] at hv
      obtain ⟨z, hz, rfl⟩ := Option.map_eq_some_iff.mp hv
      obtain ⟨hj, ez⟩ := List.getElem?_eq_some_iff.mp hz
      have c1 : callF 2 ((WT TT (k + 1)).Φ "refuse_missing") (.ok [(.fz, .str z), (.fz, Tp C)]) = .ok .fz .non := call2 (missing k (hs z (by rw [← ez]; exact List.getElem_mem hj)))
      have c2 : callF 2 ((WT TT (k + 1)).Φ "refuse_twice") (.ok [(.fz, Tp K), (.fz, .int (j : Int))]) = .ok .fz .non := call2 (twice k hn hj)
      rw [Nat.zero_add]
      refine ⟨[some (false, Tp K), some (false, Tp C), some (false, .int (j : Int)), some (false, .str z)], [some (false, Tp K), some (false, Tp C), some (false, .int (j : Int)), some (false, .str z)], by simp, ?_, _, _, rfl⟩
      generalize Tp C = t at *
      generalize Tp K = t' at *
      simp [b_kept_L1, c1, c2])
    ⟨none, none, rfl⟩
  obtain ⟨x, y, rfl⟩ := I
  have ef : enumR (.ok [(.fz, Tp K)]) = .ok .fz (.lst (enumD 0 (K.map .str))) := rfl
  have e' : forR (.ok .fz (.lst (enumD 0 (K.map .str)))) [some (false, Tp K), some (false, Tp C), none, none] (setG (.tp [.nm 2, .nm 3])) (evB (WT TT (k + 1)) b_kept_L1) = _ := e
  generalize enumD 0 (K.map .str) = R at *
  generalize Tp C = t at *
  generalize Tp K = t' at *
  simp [b_kept, ef, e']
end K41

namespace K41
open PySem L2 D3
theorem h0 {a : D} {m m' : Md} : op2 ixD (.ok m (.lst [a])) (.ok m' (.int 0)) = .ok .fz a := ix_l (atI_nat (j := 0) rfl)
theorem f0 {a b c d : D} {m m' : Md} : op2 ixD (.ok m (.tup [a, b, c, d])) (.ok m' (.int 0)) = .ok .fz a := ix_t (atI_nat (j := 0) rfl)
theorem f1 {a b c d : D} {m m' : Md} : op2 ixD (.ok m (.tup [a, b, c, d])) (.ok m' (.int 1)) = .ok .fz b := ix_t (atI_nat (j := 1) rfl)
theorem f2 {a b c d : D} {m m' : Md} : op2 ixD (.ok m (.tup [a, b, c, d])) (.ok m' (.int 2)) = .ok .fz c := ix_t (atI_nat (j := 2) rfl)
theorem f3 {a b c d : D} {m m' : Md} : op2 ixD (.ok m (.tup [a, b, c, d])) (.ok m' (.int 3)) = .ok .fz d := ix_t (atI_nat (j := 3) rfl)
theorem forS_all {k : D → Rho → Option Rho} {body : Rho → SRes} (I : Rho → Prop) {ds : List D} {ρ : Rho} (h : ∀ d ∈ ds, ∀ ρ, I ρ → ∃ ρ1 ρ2, k d ρ = some ρ1 ∧ body ρ1 = .nx ρ2 ∧ I ρ2) (h0 : I ρ) : ∃ ρ', forS k body ds ρ = .nx ρ' ∧ I ρ' := by
  obtain ⟨ρ', e, q⟩ := forS_ix (k := k) (body := body) (fun _ => I) ds 0 (ρ := ρ) (fun j d hd ρ hρ => h d (List.mem_of_getElem? hd) ρ hρ) h0
  exact ⟨ρ', e, q⟩
/-! ### the columns of each deed -/
theorem c_pick (k : Nat) {d t : D} {L C : List Str} (hc : (WT TT (k + 1)).Φ "columns_in" [t] = .ok .fr (.lst (L.map .str))) (hs : ∀ z ∈ L, z ∈ C) : (WT TT (k + 2)).Φ "columns_of_pick" [.tup [.str "pick", d, t], .lst [Tp C]] = .ok .fz (Tp C) := by
  rw [u_columns_of_pick]
  refine phi_ok rfl ?_
  show evB (WT TT (k + 1)) b_columns_of_pick [some (false, .tup [.str "pick", d, t]), some (false, .lst [Tp C]), none] = _
  have x2 : op2 ixD (.ok .fz (.tup [.str "pick", d, t])) (.ok .fz (.int 2)) = .ok .fz t := j2
  generalize D.tup [.str "pick", d, t] = A at *
  have c0 : callF 1 ((WT TT (k + 1)).Φ "columns_in") (.ok [(.fz, t)]) = .ok .fr (.lst (L.map .str)) := callG1 hc
  obtain ⟨ρ', e, x, rfl⟩ := forS_all (k := setG (.nm 2)) (body := evB (WT TT (k + 1)) b_columns_of_pick_L1) (ds := L.map .str) (ρ := [some (false, A), some (false, .lst [Tp C]), none]) (fun ρ => ∃ x, ρ = [some (false, A), some (false, .lst [Tp C]), x])
    (fun d hd ρ hρ => by
      obtain ⟨x, rfl⟩ := hρ
      obtain ⟨z, hz, rfl⟩ := List.mem_map.mp hd
      have c1 : callF 2 ((WT TT (k + 1)).Φ "refuse_missing") (.ok [(.fz, .str z), (.fz, Tp C)]) = .ok .fz .non := call2 (missing k (hs z hz))
      refine ⟨[some (false, A), some (false, .lst [Tp C]), some (false, .str z)], [some (false, A), some (false, .lst [Tp C]), some (false, .str z)], by simp, ?_, _, rfl⟩
      generalize Tp C = t at *
      simp [b_columns_of_pick_L1, h0, c1]) ⟨none, rfl⟩
  have e' : forR (.ok .fz (.lst (L.map .str))) [some (false, A), some (false, .lst [Tp C]), none] (setG (.nm 2)) (evB (WT TT (k + 1)) b_columns_of_pick_L1) = _ := e
  generalize L.map D.str = R at *
  generalize Tp C = t at *
  simp [b_columns_of_pick, x2, c0, e', h0]
theorem c_keep (k : Nat) {d : D} {K C : List Str} (hn : K.Nodup) (hs : ∀ z ∈ K, z ∈ C) : (WT TT (k + 3)).Φ "columns_of_keep" [.tup [.str "keep", d, Tp K], .lst [Tp C]] = .ok .fz (Tp K) := by
  rw [u_columns_of_keep]
  refine phi_ok rfl ?_
  show evB (WT TT (k + 2)) b_columns_of_keep [some (false, .tup [.str "keep", d, Tp K]), some (false, .lst [Tp C])] = _
  have c1 : callF 2 ((WT TT (k + 2)).Φ "kept") (.ok [(.fz, Tp K), (.fz, Tp C)]) = .ok .fz (Tp K) := call2 (kept k hn hs)
  generalize Tp C = t at *
  generalize Tp K = t' at *
  simp [b_columns_of_keep, j2, h0, c1]
theorem c_total (k : Nat) {d : D} {z : Str} {K C : List Str} (hz : z ∈ C) (hn : K.Nodup) (hs : ∀ z ∈ K, z ∈ C) : (WT TT (k + 4)).Φ "columns_of_total" [.tup [.str "total", d, .str z, Tp K], .lst [Tp C]] = .ok .fz (Tp K) := by
  have a : (WT TT (k + 3)).Φ "totalled" [.str z, Tp K, Tp C] = .ok .fz (Tp K) := by
    rw [u_totalled]
    refine phi_ok rfl ?_
    show evB (WT TT (k + 2)) b_totalled [some (false, .str z), some (false, Tp K), some (false, Tp C)] = _
    have c1 : callF 2 ((WT TT (k + 2)).Φ "kept") (.ok [(.fz, Tp K), (.fz, Tp C)]) = .ok .fz (Tp K) := call2 (kept k hn hs)
    have c2 : callF 2 ((WT TT (k + 2)).Φ "refuse_missing") (.ok [(.fz, .str z), (.fz, Tp C)]) = .ok .fz .non := call2 (missing (k + 1) hz)
    generalize Tp C = t at *
    generalize Tp K = t' at *
    simp [b_totalled, c1, c2]
  rw [u_columns_of_total]
  refine phi_ok rfl ?_
  show evB (WT TT (k + 3)) b_columns_of_total [some (false, .tup [.str "total", d, .str z, Tp K]), some (false, .lst [Tp C])] = _
  have c1 : callF 3 ((WT TT (k + 3)).Φ "totalled") (.ok [(.fz, .str z), (.fz, Tp K), (.fz, Tp C)]) = .ok .fz (Tp K) := call3 a
  generalize Tp C = t at *
  generalize Tp K = t' at *
  simp [b_columns_of_total, f2, f3, h0, c1]
theorem len_T {C : List Str} {m : Md} : lenD [(m, Tp C)] = some (.fz, .int (C.length : Int)) := by
  show some (Md.fz, D.int ((C.map D.str).length : Int)) = _
  rw [List.length_map]
theorem c_call (k : Nat) {d : D} {K C : List Str} (hn : K.Nodup) (hl : K.length = C.length) (hb : K.length ≤ 900) : (WT TT (k + 2)).Φ "columns_of_call" [.tup [.str "call", d, Tp K], .lst [Tp C]] = .ok .fz (Tp K) := by
  rw [u_columns_of_call]
  refine phi_ok rfl ?_
  show evB (WT TT (k + 1)) b_columns_of_call [some (false, .tup [.str "call", d, Tp K]), some (false, .lst [Tp C]), none, none] = _
  have x2 : op2 ixD (.ok .fz (.tup [.str "call", d, Tp K])) (.ok .fz (.int 2)) = .ok .fz (Tp K) := j2
  generalize D.tup [.str "call", d, Tp K] = A at *
  obtain ⟨ρ', e, x, rfl⟩ := forS_all (k := setG (.nm 3)) (body := evB (WT TT (k + 1)) b_columns_of_call_L1) (ds := rangeD 0 (K.length : Int)) (ρ := [some (false, A), some (false, .lst [Tp C]), some (false, Tp K), none]) (fun ρ => ∃ x, ρ = [some (false, A), some (false, .lst [Tp C]), some (false, Tp K), x])
    (fun d hd ρ hρ => by
      obtain ⟨x, rfl⟩ := hρ
      obtain ⟨i, hi, rfl⟩ := mem_range hd
      have c2 : callF 2 ((WT TT (k + 1)).Φ "refuse_twice") (.ok [(.fz, Tp K), (.fz, .int (i : Int))]) = .ok .fz .non := call2 (twice k hn (by omega))
      refine ⟨[some (false, A), some (false, .lst [Tp C]), some (false, Tp K), some (false, .int (i : Int))], [some (false, A), some (false, .lst [Tp C]), some (false, Tp K), some (false, .int (i : Int))], by simp, ?_, _, rfl⟩
      generalize Tp C = t at *
      generalize Tp K = t' at *
      simp [b_columns_of_call_L1, c2]) ⟨none, rfl⟩
  have e' : forR (.ok .fz (.lst (rangeD 0 (K.length : Int)))) [some (false, A), some (false, .lst [Tp C]), some (false, Tp K), none] (setG (.nm 3)) (evB (WT TT (k + 1)) b_columns_of_call_L1) = _ := e
  have er := rngI (m := .fz) (n := (K.length : Int)) (by omega) (by omega)
  have l1 := len_T (C := C) (m := .fz)
  have l2 := len_T (C := K) (m := .fz)
  rw [← hl] at l1
  generalize rangeD 0 (K.length : Int) = R at *
  generalize Tp C = t at *
  generalize Tp K = t' at *
  have p1 : evB (WT TT (k + 1)) (b_columns_of_call.take 2) [some (false, A), some (false, .lst [t]), none, none] = .nx [some (false, A), some (false, .lst [t]), some (false, t'), none] := by
    clear e e' er
    generalize (K.length : Int) = n at *
    simp [b_columns_of_call, x2, h0, l1, l2]
  have ea : b_columns_of_call = b_columns_of_call.take 2 ++ [.for (.rng1 (.bcall .len [(.var 2)])) (.nm 3) b_columns_of_call_L1, .retV 2] := rfl
  rw [ea, b_app, p1, SRes.thn_nx]
  clear e ea p1
  generalize b_columns_of_call_L1 = B at *
  have g : rng1R (consL (evE (WT TT (k + 1)) (.bcall .len [(.var 2)]) [some (false, A), some (false, .lst [t]), some (false, t'), none]) (.ok [])) = .ok .fz (.lst R) := by
    rw [← er]
    have : evE (WT TT (k + 1)) (.bcall .len [(.var 2)]) [some (false, A), some (false, .lst [t]), some (false, t'), none] = .ok .fz (.int (K.length : Int)) := by simp [l2]
    rw [this]; rfl
  rw [b_cons, s_for, e_rng1, g, e', SRes.thn_nx, b_cons, s_retV]
  rfl
def dif (C' C : List Str) : List Str := C'.filter fun z => !decide (z ∈ C)
theorem comp_dif {W : WD} {C : List Str} : ∀ C' : List Str, compL (setG (.nm 1)) (fun ρ => evF W [.cmp .NotIn (.var 1) (.var 0)] ρ) (fun ρ => evE W (.var 1) ρ) [some (false, Tp C), none] (C'.map .str) = some ((dif C' C).map .str)
  | [] => rfl
  | z :: C' => by
    have ih := comp_dif (W := W) (C := C) C'
    have k : setG (.nm 1) (.str z) [some (false, Tp C), none] = some [some (false, Tp C), some (false, .str z)] := rfl
    have e := notin_T (m := .fz) (m' := .fz) (z := z) (C := C)
    have t : evF W [.cmp .NotIn (.var 1) (.var 0)] [some (false, Tp C), some (false, .str z)] = .ok .fz (.bl (!decide (z ∈ C))) := by
      generalize Tp C = t at *
      simp [e]
    rw [List.map_cons, compL, k]
    dsimp only
    rw [t, ih]
    unfold dif
    rw [List.filter_cons]
    cases decide (z ∈ C) with
    | true => rfl
    | false => rfl
theorem comp_not {W : WD} {C C' : List Str} {ρ : Rho} {caps : List Nat} {m : Md} (hs : C'.length < sizeLine) (hρ : subR caps ρ = [some (false, Tp C)]) :
    compR (.ok m (.lst (C'.map .str))) ρ caps 1 (setG (.nm 1)) (fun ρ => evF W [.cmp .NotIn (.var 1) (.var 0)] ρ) (fun ρ => evE W (.var 1) ρ) = .ok .fr (.lst ((dif C' C).map .str)) := by
  show (if (C'.map D.str).length < sizeLine then (match compL (setG (.nm 1)) (fun ρ => evF W [.cmp .NotIn (.var 1) (.var 0)] ρ) (fun ρ => evE W (.var 1) ρ) (subR caps ρ ++ [none]) (C'.map .str) with | some ys => Res.ok .fr (.lst ys) | none => .stuck) else .stuck) = _
  rw [hρ, if_pos (by rw [List.length_map]; exact hs)]
  show (match compL (setG (.nm 1)) (fun ρ => evF W [.cmp .NotIn (.var 1) (.var 0)] ρ) (fun ρ => evE W (.var 1) ρ) [some (false, Tp C), none] (C'.map .str) with | some ys => Res.ok .fr (.lst ys) | none => .stuck) = _
  rw [comp_dif]
theorem cat_T {C C' : List Str} {m m' : Md} (h : C.length + C'.length ≤ sizeLine) : op2 (fBin .Add) (.ok m (Tp C)) (.ok m' (Tp C')) = .ok .fz (Tp (C ++ C')) := by
  rw [x_catT (by rw [List.length_map, List.length_map]; exact h), ← List.map_append]
theorem dif_le {C C' : List Str} : (dif C' C).length ≤ C'.length := List.length_filter_le _ _
theorem c_join (k : Nat) {A : D} {C C' : List Str} (hs : C.length + C'.length < sizeLine) : (WT TT (k + 1)).Φ "columns_of_join" [A, .lst [Tp C, Tp C']] = .ok .fz (Tp (C ++ dif C' C)) := by
  rw [u_columns_of_join]
  refine phi_ok rfl ?_
  show evB (WT TT k) b_columns_of_join [some (false, A), some (false, .lst [Tp C, Tp C']), none, none] = _
  have dl := dif_le (C := C) (C' := C')
  have e1 := comp_not (W := WT TT k) (C := C) (C' := C') (m := .fz) (caps := [2]) (ρ := [some (false, A), some (false, .lst [Tp C, Tp C']), some (false, Tp C), some (false, Tp C')]) (by omega) rfl
  have e2 := cat_T (C := C) (C' := dif C' C) (m := .fz) (m' := .fz) (by omega)
  have ea : b_columns_of_join = [.asg (.tp [(.nm 2), (.nm 3)]) (.var 1)] ++ b_columns_of_join.drop 1 := rfl
  have p1 : evB (WT TT k) [.asg (.tp [(.nm 2), (.nm 3)]) (.var 1)] [some (false, A), some (false, .lst [Tp C, Tp C']), none, none] = .nx [some (false, A), some (false, .lst [Tp C, Tp C']), some (false, Tp C), some (false, Tp C')] := by
    generalize Tp C = t
    generalize Tp C' = t'
    simp [asgS]
  rw [ea, b_app, p1, SRes.thn_nx]
  show evB (WT TT k) [.ret (.bin .Add (.var 2) (.tcall .tuple [(.comp (.var 1) (.items (.var 3)) [(.cmp .NotIn (.var 1) (.var 0))] [2] (.nm 1) 1)]))] _ = _
  rw [b_cons, s_ret, e_bin, e_tcall, es_cons, es_nil, e_comp, e_items, e_var, e_var]
  show (retR (op2 (fBin .Add) (.ok .fz (Tp C)) (callR (Ty.f .tuple) (consL (compR (.ok .fz (.lst (C'.map .str))) _ [2] 1 (setG (.nm 1)) _ _) (.ok [])))) _).thn _ = _
  rw [e1]
  show (retR (op2 (fBin .Add) (.ok .fz (Tp C)) (.ok .fz (Tp (dif C' C)))) _).thn _ = _
  rw [e2]
  rfl
theorem c_pour (k : Nat) {A : D} {C : List Str} : (WT TT (k + 1)).Φ "columns_of_pour" [A, .lst [Tp C, Tp C]] = .ok .fz (Tp C) := by
  rw [u_columns_of_pour]
  refine phi_ok rfl ?_
  show evB (WT TT k) b_columns_of_pour [some (false, A), some (false, .lst [Tp C, Tp C]), none, none] = _
  have e := ne_T (C := C) (m := .fz) (m' := .fz)
  generalize Tp C = t at *
  simp [b_columns_of_pour, asgS, e]
theorem c_leave (k : Nat) {A : D} {C C' : List Str} (hs : ∀ z ∈ C', z ∈ C) : (WT TT (k + 1)).Φ "columns_of_leave" [A, .lst [Tp C, Tp C']] = .ok .fz (Tp C) := by
  rw [u_columns_of_leave]
  refine phi_ok rfl ?_
  show evB (WT TT k) b_columns_of_leave [some (false, A), some (false, .lst [Tp C, Tp C']), none, none, none] = _
  obtain ⟨ρ', e, x, rfl⟩ := forS_all (k := setG (.nm 4)) (body := evB (WT TT k) b_columns_of_leave_L1) (ds := C'.map .str) (ρ := [some (false, A), some (false, .lst [Tp C, Tp C']), some (false, Tp C), some (false, Tp C'), none]) (fun ρ => ∃ x, ρ = [some (false, A), some (false, .lst [Tp C, Tp C']), some (false, Tp C), some (false, Tp C'), x])
    (fun d hd ρ hρ => by
      obtain ⟨x, rfl⟩ := hρ
      obtain ⟨z, hz, rfl⟩ := List.mem_map.mp hd
      have e := notin_T (m := .fz) (m' := .fz) (z := z) (C := C)
      rw [decide_eq_true (hs z hz)] at e
      refine ⟨[some (false, A), some (false, .lst [Tp C, Tp C']), some (false, Tp C), some (false, Tp C'), some (false, .str z)], [some (false, A), some (false, .lst [Tp C, Tp C']), some (false, Tp C), some (false, Tp C'), some (false, .str z)], by simp, ?_, _, rfl⟩
      generalize Tp C = t at *
      generalize Tp C' = t' at *
      simp [b_columns_of_leave_L1, e]) ⟨none, rfl⟩
  have e' : forR (.ok .fz (.lst (C'.map .str))) [some (false, A), some (false, .lst [Tp C, Tp C']), some (false, Tp C), some (false, Tp C'), none] (setG (.nm 4)) (evB (WT TT k) b_columns_of_leave_L1) = _ := e
  have ei : itemsR (.ok .fz (Tp C')) = .ok .fz (.lst (C'.map .str)) := rfl
  generalize C'.map D.str = R at *
  generalize Tp C = t at *
  generalize Tp C' = t' at *
  simp [b_columns_of_leave, asgS, ei, e']
end K41

namespace K41
open PySem L2 D3
/-- an asking, its columns, whether it is plain, how deep it is -/
inductive Ask (M : List (Key × D)) : D → List Str → Bool → Nat → Prop
  | table {w : Str} {C : List Str} (h : getK M (.inr w) = some (Tp C)) : Ask M (.tup [.str "table", .str w]) C true 0
  | pick {d : D} {C L f : List Str} {b : Bool} {n : Nat} {t : Ts} (h : Ask M d C b n) (hd : t.dep ≤ 3) (hL : cols f t = L.map .str) (hl : L.length ≤ 900) (hs : ∀ z ∈ L, z ∈ C) : Ask M (.tup [.str "pick", d, tsD f t]) C b (n + 1)
  | keep {d : D} {C K : List Str} {b : Bool} {n : Nat} (h : Ask M d C b n) (hn : K.Nodup) (hs : ∀ z ∈ K, z ∈ C) : Ask M (.tup [.str "keep", d, Tp K]) K b (n + 1)
  | call {d : D} {C K : List Str} {b : Bool} {n : Nat} (h : Ask M d C b n) (hn : K.Nodup) (hl : K.length = C.length) (hb : K.length ≤ 900) : Ask M (.tup [.str "call", d, Tp K]) K b (n + 1)
  | total {d : D} {z : Str} {C K : List Str} {b : Bool} {n : Nat} (h : Ask M d C b n) (hz : z ∈ C) (hn : K.Nodup) (hs : ∀ z ∈ K, z ∈ C) : Ask M (.tup [.str "total", d, .str z, Tp K]) K b (n + 1)
  | join {d d' : D} {C C' : List Str} {b b' : Bool} {n n' : Nat} (h : Ask M d C b n) (h' : Ask M d' C' b' n') (hs : C.length + C'.length < sizeLine) : Ask M (.tup [.str "join", d, d']) (C ++ dif C' C) (b && b') (max n n' + 1)
  | pour {d d' : D} {C : List Str} {b b' : Bool} {n n' : Nat} (h : Ask M d C b n) (h' : Ask M d' C b' n') : Ask M (.tup [.str "pour", d, d']) C (b && b') (max n n' + 1)
  | leave {d d' : D} {C C' : List Str} {b b' : Bool} {n n' : Nat} (h : Ask M d C b n) (h' : Ask M d' C' b' n') (hs : ∀ z ∈ C', z ∈ C) : Ask M (.tup [.str "leave", d, d']) C false (max n n' + 1)
def jpl : List Str := [Str.ofString "join", Str.ofString "pour", Str.ofString "leave"]
theorem in3 {m m' : Md} {z : Str} : op2 (fCmp .In) (.ok m (.str z)) (.ok m' (.tup [.str (Str.ofString "join"), .str (Str.ofString "pour"), .str (Str.ofString "leave")])) = .ok .fz (.bl (decide (z ∈ jpl))) := in_T (C := jpl)
theorem tu0 : tupR (.ok []) = .ok .fz (.tup []) := by rfl
theorem tu1 {a : D} : tupR (.ok [(.fz, a)]) = .ok .fz (.tup [a]) := by rfl
theorem w_table (k : Nat) {x : D} : (WT TT (k + 1)).Φ "askings_within" [.tup [.str "table", x]] = .ok .fz (.tup []) := by
  rw [u_askings_within]
  refine phi_ok rfl ?_
  show evB _ b_askings_within [some (false, .tup [.str "table", x])] = _
  simp [b_askings_within, i0, tu0]
theorem w_one (k : Nat) {A x : D} {w : Str} (h1 : op2 ixD (.ok .fz A) (.ok .fz (.int 0)) = .ok .fz (.str w)) (h2 : op2 ixD (.ok .fz A) (.ok .fz (.int 1)) = .ok .fz x) (hw : (w == Str.ofString "table") = false) (hj : decide (w ∈ jpl) = false) : (WT TT (k + 1)).Φ "askings_within" [A] = .ok .fz (.tup [x]) := by
  rw [u_askings_within]
  refine phi_ok rfl ?_
  show evB _ b_askings_within [some (false, A)] = _
  have e3 := in3 (m := .fz) (m' := .fz) (z := w)
  rw [hj] at e3
  simp [b_askings_within, h1, h2, hw, t3, e3, tu1]
theorem w_two (k : Nat) {x y : D} {w : Str} (hw : (w == Str.ofString "table") = false) (hj : decide (w ∈ jpl) = true) : (WT TT (k + 1)).Φ "askings_within" [.tup [.str w, x, y]] = .ok .fz (.tup [x, y]) := by
  rw [u_askings_within]
  refine phi_ok rfl ?_
  show evB _ b_askings_within [some (false, .tup [.str w, x, y])] = _
  have e3 := in3 (m := .fz) (m' := .fz) (z := w)
  rw [hj] at e3
  simp [b_askings_within, j0, j1, j2, hw, t3, e3, t2]
/-! ### columns_of -/
theorem getK_dix {M : List (Key × D)} {w : Str} {d : D} (h : getK M (.inr w) = some d) {m m' : Md} : op2 ixK (.ok m (.dct M)) (.ok m' (.str w)) = .ok .fz d := op2_of (by
  show (getK M (.inr w)).map _ = _
  rw [h]; rfl)
theorem getK_din {M : List (Key × D)} {w : Str} {d : D} (h : getK M (.inr w) = some d) {m m' : Md} : op2 (inK true) (.ok m (.str w)) (.ok m' (.dct M)) = .ok .fz (.bl false) := op2_of (by
  show some (Md.fz, D.bl (if true = true then !(getK M (.inr w)).isSome else _)) = _
  rw [h]; rfl)
theorem co_table (k : Nat) {M : List (Key × D)} {w : Str} {d : D} (h : getK M (.inr w) = some d) : (WT TT (k + 2)).Φ "columns_of" [.tup [.str "table", .str w], .dct M] = .ok .fz d := by
  have a : (WT TT (k + 1)).Φ "columns_of_table" [.str w, .dct M] = .ok .fz d := by
    rw [u_columns_of_table]
    refine phi_ok rfl ?_
    show evB _ b_columns_of_table [some (false, .str w), some (false, .dct M)] = _
    simp [b_columns_of_table, getK_din h, getK_dix h]
  rw [u_columns_of]
  refine phi_ok rfl ?_
  show evB (WT TT (k + 1)) b_columns_of [some (false, .tup [.str "table", .str w]), some (false, .dct M), none, none] = _
  have c1 : callF 2 ((WT TT (k + 1)).Φ "columns_of_table") (.ok [(.fz, .str w), (.fz, .dct M)]) = .ok .fz d := call2 a
  simp [b_columns_of, i0, i1, c1]
def deeds : List (Str × Str) := [("pick", "columns_of_pick"), ("keep", "columns_of_keep"), ("call", "columns_of_call"), ("join", "columns_of_join"), ("pour", "columns_of_pour"), ("total", "columns_of_total"), ("leave", "columns_of_leave")]
def dfs : List Str := ["columns_of_pick", "columns_of_keep", "columns_of_call", "columns_of_join", "columns_of_pour", "columns_of_total", "columns_of_leave"]
theorem comp_co {W : WD} {M : D} : ∀ (xs ys : List D), xs.length = ys.length → (∀ (i : Nat) (h : i < xs.length) (h' : i < ys.length), W.Φ "columns_of" [xs[i], M] = .ok .fz ys[i]) →
    compL (setG (.nm 1)) (fun ρ => evF W [] ρ) (fun ρ => evE W (.call "columns_of" 2 [(.var 1), (.var 0)]) ρ) [some (false, M), none] xs = some ys
  | [], [], _, _ => rfl
  | [], _ :: _, h, _ => by simp at h
  | _ :: _, [], h, _ => by simp at h
  | x :: xs, y :: ys, h, q => by
    have ih := comp_co (W := W) (M := M) xs ys (by simpa using h) fun i h1 h2 => q (i + 1) (by simpa using h1) (by simpa using h2)
    have k : setG (.nm 1) x [some (false, M), none] = some [some (false, M), some (false, x)] := rfl
    have q0 : W.Φ "columns_of" [x, M] = .ok .fz y := q 0 (by simp) (by simp)
    have e : evE W (.call "columns_of" 2 [(.var 1), (.var 0)]) [some (false, M), some (false, x)] = .ok .fz y := by
      have c1 : callF 2 (W.Φ "columns_of") (.ok [(.fz, x), (.fz, M)]) = .ok .fz y := call2 q0
      simp [c1]
    rw [compL, k]
    dsimp only
    rw [ef_nil]
    dsimp only
    rw [e, ih]; rfl
/-- one deed -/
theorem co_deed (k : Nat) {A M r : D} {w f : Str} {xs ys : List D} (h1 : op2 ixD (.ok .fz A) (.ok .fz (.int 0)) = .ok .fz (.str w)) (hw : (w == Str.ofString "table") = false) (hf : deeds.lookup w = some f) (hf' : dfs.contains f = true)
    (hx : (WT TT k).Φ "askings_within" [A] = .ok .fz (.tup xs)) (hl : xs.length = ys.length) (hs : xs.length < sizeLine) (hq : ∀ (i : Nat) (h : i < xs.length) (h' : i < ys.length), (WT TT k).Φ "columns_of" [xs[i], M] = .ok .fz ys[i])
    (hr : (WT TT k).Φ f [A, .lst ys] = .ok .fz r) : (WT TT (k + 1)).Φ "columns_of" [A, M] = .ok .fz r := by
  have cx : callF 1 ((WT TT k).Φ "askings_within") (.ok [(.fz, A)]) = .ok .fz (.tup xs) := call1 hx
  have cr : callF 2 ((WT TT k).Φ f) (.ok [(.fz, A), (.fz, .lst ys)]) = .ok .fz r := call2 hr
  have cl := comp_co (W := WT TT k) (M := M) xs ys hl hq
  rw [u_columns_of]
  refine phi_ok rfl ?_
  show evB (WT TT k) b_columns_of [some (false, A), some (false, M), none, none] = _
  generalize WT TT k = W at *
  have ea : b_columns_of = b_columns_of.take 1 ++ ([.setC 2 true (.comp (.call "columns_of" 2 [(.var 1), (.var 0)]) (.items (.call "askings_within" 1 [(.var 0)])) [] [1] (.nm 1) 1)] ++ [.set 3 (.deed "DEEDS" deeds (.ix (.var 0) (.int 0))), .ret (.callv 3 dfs 2 [(.var 0), (.var 2)])]) := rfl
  have p1 : evB W (b_columns_of.take 1) [some (false, A), some (false, M), none, none] = .nx [some (false, A), some (false, M), none, none] := by
    simp [b_columns_of, h1, hw]
  have p2 : evB W [.setC 2 true (.comp (.call "columns_of" 2 [(.var 1), (.var 0)]) (.items (.call "askings_within" 1 [(.var 0)])) [] [1] (.nm 1) 1)] [some (false, A), some (false, M), none, none] = .nx [some (false, A), some (false, M), some (false, .lst ys), none] := by
    have ei : evE W (.items (.call "askings_within" 1 [(.var 0)])) [some (false, A), some (false, M), none, none] = .ok .fz (.lst xs) := by simp [cx]
    rw [b_cons, s_setCf, e_comp, ei]
    have ec : compR (.ok .fz (.lst xs)) [some (false, A), some (false, M), none, none] [1] 1 (setG (.nm 1)) (fun ρ => evF W [] ρ) (fun ρ => evE W (.call "columns_of" 2 [(.var 1), (.var 0)]) ρ) = .ok .fr (.lst ys) := by
      show (if xs.length < sizeLine then (match compL (setG (.nm 1)) (fun ρ => evF W [] ρ) (fun ρ => evE W (.call "columns_of" 2 [(.var 1), (.var 0)]) ρ) [some (false, M), none] xs with | some ys => Res.ok .fr (.lst ys) | none => .stuck) else .stuck) = _
      rw [if_pos hs, cl]
    rw [ec]
    show (SRes.nx _).thn _ = _
    rw [SRes.thn_nx, b_nil]
    rfl
  rw [ea, b_app, p1, SRes.thn_nx, b_app, p2, SRes.thn_nx]
  clear ea p1 p2 cl hq
  have d1 : deedR deeds (.ok .fz (.str w)) = .ok .fz (.fn f) := by
    show (match deeds.lookup w with | some f => Res.ok .fz (.fn f) | none => .stuck) = _
    rw [hf]
  have d2 : callV W.Φ dfs 2 (.ok .fz (.fn f)) (.ok [(.fz, A), (.fz, .lst ys)]) = .ok .fz r := by
    show (if dfs.contains f = true then callF 2 (W.Φ f) (.ok [(.fz, A), (.fz, .lst ys)]) else .stuck) = _
    rw [if_pos hf', cr]
  generalize deeds = T1 at *
  generalize dfs = T2 at *
  simp [h1, d1, d2]
end K41

namespace K41
open PySem L2 D3
theorem wn {w : Str} (h : (w == Str.ofString "table") = false := by decide +kernel) : (w == Str.ofString "table") = false := h
theorem one_q {W : WD} {M x y : D} (h : W.Φ "columns_of" [x, M] = .ok .fz y) : ∀ (i : Nat) (h1 : i < [x].length) (h2 : i < [y].length), W.Φ "columns_of" [[x][i], M] = .ok .fz [y][i]
  | 0, _, _ => h
  | i + 1, h1, _ => absurd h1 (by simp)
theorem two_q {W : WD} {M x y x' y' : D} (h : W.Φ "columns_of" [x, M] = .ok .fz y) (h' : W.Φ "columns_of" [x', M] = .ok .fz y') : ∀ (i : Nat) (h1 : i < [x, x'].length) (h2 : i < [y, y'].length), W.Φ "columns_of" [[x, x'][i], M] = .ok .fz [y, y'][i]
  | 0, _, _ => h
  | 1, _, _ => h'
  | i + 2, h1, _ => absurd h1 (by simp)
theorem s1 : 1 < sizeLine := by have := sizeLine_eq; omega
theorem s2 : 2 < sizeLine := by have := sizeLine_eq; omega
theorem dp {d k n : Nat} (h : d ≤ 3) : d + 1 ≤ k + n + 6 := Nat.le_trans (Nat.succ_le_succ h) (Nat.le_trans (by decide : 4 ≤ 6) (Nat.le_add_left 6 (k + n)))
theorem ns {n : Nat} (h : n ≤ 900) : n ≤ sizeLine := Nat.le_trans h (by have := sizeLine_eq; omega)
theorem cols_k {M : List (Key × D)} {d : D} {C : List Str} {b : Bool} {n : Nat} (h : Ask M d C b n) : ∀ k, (WT TT (k + n + 7)).Φ "columns_of" [d, .dct M] = .ok .fz (Tp C) := by
  induction h with
  | table h => exact fun k => co_table (k + 5) h
  | @pick d C L f b n t h hd hL hl hs ih =>
    intro k
    have hc := columns (f := f) t (k + n + 6) (dp hd) (by rw [hL, List.length_map]; exact ns hl)
    rw [hL] at hc
    exact co_deed (k + n + 7) (w := Str.ofString "pick") (f := Str.ofString "columns_of_pick") (xs := [d]) (ys := [Tp C]) j0 wn (by decide +kernel) (by decide +kernel) (w_one (k + n + 6) (w := Str.ofString "pick") j0 j1 wn (by decide +kernel)) rfl s1 (one_q (ih k)) (c_pick (k + n + 5) hc hs)
  | @keep d C K' b n h hn hs ih => exact fun k => co_deed (k + n + 7) (w := Str.ofString "keep") (f := Str.ofString "columns_of_keep") (xs := [d]) (ys := [Tp C]) j0 wn (by decide +kernel) (by decide +kernel) (w_one (k + n + 6) (w := Str.ofString "keep") j0 j1 wn (by decide +kernel)) rfl s1 (one_q (ih k)) (c_keep (k + n + 4) hn hs)
  | @call d C K' b n h hn hl hb ih => exact fun k => co_deed (k + n + 7) (w := Str.ofString "call") (f := Str.ofString "columns_of_call") (xs := [d]) (ys := [Tp C]) j0 wn (by decide +kernel) (by decide +kernel) (w_one (k + n + 6) (w := Str.ofString "call") j0 j1 wn (by decide +kernel)) rfl s1 (one_q (ih k)) (c_call (k + n + 5) hn hl hb)
  | @total d z C K' b n h hz hn hs ih => exact fun k => co_deed (k + n + 7) (w := Str.ofString "total") (f := Str.ofString "columns_of_total") (xs := [d]) (ys := [Tp C]) f0 wn (by decide +kernel) (by decide +kernel) (w_one (k + n + 6) (w := Str.ofString "total") f0 f1 wn (by decide +kernel)) rfl s1 (one_q (ih k)) (c_total (k + n + 3) hz hn hs)
  | @join d d' C C' b b' n n' h h' hs ih ih' =>
    intro k
    have q1 : (WT TT (k + max n n' + 7)).Φ "columns_of" [d, .dct M] = .ok .fz (Tp C) := by obtain ⟨j, e⟩ := mx1 k n n'; rw [e]; exact ih j
    have q2 : (WT TT (k + max n n' + 7)).Φ "columns_of" [d', .dct M] = .ok .fz (Tp C') := by obtain ⟨j, e⟩ := mx2 k n n'; rw [e]; exact ih' j
    exact co_deed (k + max n n' + 7) (w := Str.ofString "join") (f := Str.ofString "columns_of_join") (xs := [d, d']) (ys := [Tp C, Tp C']) j0 wn (by decide +kernel) (by decide +kernel) (w_two (k + max n n' + 6) (w := Str.ofString "join") wn (by decide +kernel)) rfl s2 (two_q q1 q2) (c_join (k + max n n' + 6) hs)
  | @pour d d' C b b' n n' h h' ih ih' =>
    intro k
    have q1 : (WT TT (k + max n n' + 7)).Φ "columns_of" [d, .dct M] = .ok .fz (Tp C) := by obtain ⟨j, e⟩ := mx1 k n n'; rw [e]; exact ih j
    have q2 : (WT TT (k + max n n' + 7)).Φ "columns_of" [d', .dct M] = .ok .fz (Tp C) := by obtain ⟨j, e⟩ := mx2 k n n'; rw [e]; exact ih' j
    exact co_deed (k + max n n' + 7) (w := Str.ofString "pour") (f := Str.ofString "columns_of_pour") (xs := [d, d']) (ys := [Tp C, Tp C]) j0 wn (by decide +kernel) (by decide +kernel) (w_two (k + max n n' + 6) (w := Str.ofString "pour") wn (by decide +kernel)) rfl s2 (two_q q1 q2) (c_pour (k + max n n' + 6))
  | @leave d d' C C' b b' n n' h h' hs ih ih' =>
    intro k
    have q1 : (WT TT (k + max n n' + 7)).Φ "columns_of" [d, .dct M] = .ok .fz (Tp C) := by obtain ⟨j, e⟩ := mx1 k n n'; rw [e]; exact ih j
    have q2 : (WT TT (k + max n n' + 7)).Φ "columns_of" [d', .dct M] = .ok .fz (Tp C') := by obtain ⟨j, e⟩ := mx2 k n n'; rw [e]; exact ih' j
    exact co_deed (k + max n n' + 7) (w := Str.ofString "leave") (f := Str.ofString "columns_of_leave") (xs := [d, d']) (ys := [Tp C, Tp C']) j0 wn (by decide +kernel) (by decide +kernel) (w_two (k + max n n' + 6) (w := Str.ofString "leave") wn (by decide +kernel)) rfl s2 (two_q q1 q2) (c_leave (k + max n n' + 6) hs)
theorem cols_ok {M : List (Key × D)} {d : D} {C : List Str} {b : Bool} {n : Nat} (h : Ask M d C b n) (hn : n ≤ 14) : (WT TT 30).Φ "columns_of" [d, .dct M] = .ok .fz (Tp C) := by
  have := cols_k h (23 - n)
  rw [show 23 - n + n + 7 = 30 by omega] at this
  exact this
/-! ### plain -/
theorem pl_turn {W : WD} {A x : D} {b : Bool} (h : W.Φ "plain" [x] = .ok .fz (.bl b)) : evB W b_plain_L1 [some (false, A), some (false, x)] = if b = true then .nx [some (false, A), some (false, x)] else .rt .fz (.bl false) := by
  have c1 : callF 1 (W.Φ "plain") (.ok [(.fz, x)]) = .ok .fz (.bl b) := call1 h
  cases b <;> simp [b_plain_L1, c1]
theorem pl_loop {W : WD} {A : D} : ∀ (xs : List (D × Bool)), (∀ p ∈ xs, W.Φ "plain" [p.1] = .ok .fz (.bl p.2)) → ∀ x1, ∃ y, forS (setG (.nm 1)) (evB W b_plain_L1) (xs.map (·.1)) [some (false, A), x1] = if xs.all (·.2) = true then .nx [some (false, A), y] else .rt .fz (.bl false)
  | [], _, x1 => ⟨x1, rfl⟩
  | (x, b) :: xs, h, x1 => by
    have e := pl_turn (W := W) (A := A) (h (x, b) List.mem_cons_self)
    dsimp only at e
    have k : setG (.nm 1) x [some (false, A), x1] = some [some (false, A), some (false, x)] := rfl
    cases b with
    | false =>
      refine ⟨none, ?_⟩
      rw [if_neg Bool.false_ne_true] at e
      rw [List.map_cons, forS, k]
      dsimp only
      rw [e]; rfl
    | true =>
      obtain ⟨y, ey⟩ := pl_loop xs (fun p hp => h p (List.mem_cons_of_mem _ hp)) (some (false, x))
      refine ⟨y, ?_⟩
      rw [if_pos rfl] at e
      rw [List.map_cons, forS, k]
      dsimp only
      rw [e]
      dsimp only
      rw [ey, List.all_cons, Bool.true_and]
theorem pl_leave (k : Nat) {x y : D} : (WT TT (k + 1)).Φ "plain" [.tup [.str "leave", x, y]] = .ok .fz (.bl false) := by
  rw [u_plain]
  refine phi_ok rfl ?_
  show evB (WT TT k) b_plain [some (false, .tup [.str "leave", x, y]), none] = _
  simp [b_plain, j0]
theorem pl_deed (k : Nat) {A : D} {w : Str} (xs : List (D × Bool)) (h1 : op2 ixD (.ok .fz A) (.ok .fz (.int 0)) = .ok .fz (.str w)) (hw : (w == Str.ofString "leave") = false) (hx : (WT TT k).Φ "askings_within" [A] = .ok .fz (.tup (xs.map (·.1))))
    (hp : ∀ p ∈ xs, (WT TT k).Φ "plain" [p.1] = .ok .fz (.bl p.2)) : (WT TT (k + 1)).Φ "plain" [A] = .ok .fz (.bl (xs.all (·.2))) := by
  have cx : callF 1 ((WT TT k).Φ "askings_within") (.ok [(.fz, A)]) = .ok .fz (.tup (xs.map (·.1))) := call1 hx
  obtain ⟨y, e⟩ := pl_loop (W := WT TT k) (A := A) xs hp none
  rw [u_plain]
  refine phi_ok rfl ?_
  show evB (WT TT k) b_plain [some (false, A), none] = _
  have e' : forR (.ok .fz (.lst (xs.map (·.1)))) [some (false, A), none] (setG (.nm 1)) (evB (WT TT k) b_plain_L1) = _ := e
  generalize xs.map (·.1) = R at *
  generalize xs.all (·.2) = b at *
  cases b with
  | true => simp [b_plain, h1, hw, cx, e']
  | false => simp [b_plain, h1, hw, cx, e']
theorem ln {w : Str} (h : (w == Str.ofString "leave") = false := by decide +kernel) : (w == Str.ofString "leave") = false := h
theorem one_p {W : WD} {x : D} {b : Bool} (h : W.Φ "plain" [x] = .ok .fz (.bl b)) : ∀ p ∈ [(x, b)], W.Φ "plain" [p.1] = .ok .fz (.bl p.2) := fun p hp => by rw [List.mem_singleton] at hp; subst hp; exact h
theorem two_p {W : WD} {x y : D} {b c : Bool} (h : W.Φ "plain" [x] = .ok .fz (.bl b)) (h' : W.Φ "plain" [y] = .ok .fz (.bl c)) : ∀ p ∈ [(x, b), (y, c)], W.Φ "plain" [p.1] = .ok .fz (.bl p.2) := fun p hp => by
  rcases List.mem_cons.mp hp with rfl | hp
  · exact h
  · exact one_p h' p hp
theorem all1 {d : D} {b : Bool} : [(d, b)].all (·.2) = b := by simp
theorem all2 {d e : D} {b c : Bool} : [(d, b), (e, c)].all (·.2) = (b && c) := by simp
theorem plain_k {M : List (Key × D)} {d : D} {C : List Str} {b : Bool} {n : Nat} (h : Ask M d C b n) : ∀ k, (WT TT (k + n + 2)).Φ "plain" [d] = .ok .fz (.bl b) := by
  induction h with
  | @table w C h => exact fun k => pl_deed (k + 1) (w := Str.ofString "table") [] i0 ln (w_table k) (fun _ h => by cases h)
  | @pick d C L f b n t h hd hL hl hs ih =>
    intro k
    rw [← all1 (d := d) (b := b)]
    exact pl_deed (k + n + 2) (w := Str.ofString "pick") [(d, b)] j0 ln (w_one (k + n + 1) (w := Str.ofString "pick") j0 j1 wn (by decide +kernel)) (one_p (ih k))
  | @keep d C K' b n h hn hs ih =>
    intro k
    rw [← all1 (d := d) (b := b)]
    exact pl_deed (k + n + 2) (w := Str.ofString "keep") [(d, b)] j0 ln (w_one (k + n + 1) (w := Str.ofString "keep") j0 j1 wn (by decide +kernel)) (one_p (ih k))
  | @call d C K' b n h hn hl hb ih =>
    intro k
    rw [← all1 (d := d) (b := b)]
    exact pl_deed (k + n + 2) (w := Str.ofString "call") [(d, b)] j0 ln (w_one (k + n + 1) (w := Str.ofString "call") j0 j1 wn (by decide +kernel)) (one_p (ih k))
  | @total d z C K' b n h hz hn hs ih =>
    intro k
    rw [← all1 (d := d) (b := b)]
    exact pl_deed (k + n + 2) (w := Str.ofString "total") [(d, b)] f0 ln (w_one (k + n + 1) (w := Str.ofString "total") f0 f1 wn (by decide +kernel)) (one_p (ih k))
  | @join d d' C C' b b' n n' h h' hs ih ih' =>
    intro k
    rw [← all2 (d := d) (b := b) (e := d') (c := b')]
    have q1 : (WT TT (k + max n n' + 2)).Φ "plain" [d] = .ok .fz (.bl b) := by obtain ⟨j, e⟩ := mx1 k n n'; rw [e]; exact ih j
    have q2 : (WT TT (k + max n n' + 2)).Φ "plain" [d'] = .ok .fz (.bl b') := by obtain ⟨j, e⟩ := mx2 k n n'; rw [e]; exact ih' j
    exact pl_deed (k + max n n' + 2) (w := Str.ofString "join") [(d, b), (d', b')] j0 ln (w_two (k + max n n' + 1) (w := Str.ofString "join") wn (by decide +kernel)) (two_p q1 q2)
  | @pour d d' C b b' n n' h h' ih ih' =>
    intro k
    rw [← all2 (d := d) (b := b) (e := d') (c := b')]
    have q1 : (WT TT (k + max n n' + 2)).Φ "plain" [d] = .ok .fz (.bl b) := by obtain ⟨j, e⟩ := mx1 k n n'; rw [e]; exact ih j
    have q2 : (WT TT (k + max n n' + 2)).Φ "plain" [d'] = .ok .fz (.bl b') := by obtain ⟨j, e⟩ := mx2 k n n'; rw [e]; exact ih' j
    exact pl_deed (k + max n n' + 2) (w := Str.ofString "pour") [(d, b), (d', b')] j0 ln (w_two (k + max n n' + 1) (w := Str.ofString "pour") wn (by decide +kernel)) (two_p q1 q2)
  | @leave d d' C C' b b' n n' h h' hs ih ih' => exact fun k => pl_leave (k + max n n' + 2)
theorem plain_ok {M : List (Key × D)} {d : D} {C : List Str} {b : Bool} {n : Nat} (h : Ask M d C b n) (hn : n ≤ 14) : (WT TT 30).Φ "plain" [d] = .ok .fz (.bl b) := by
  have := plain_k h (28 - n)
  rw [show 28 - n + n + 2 = 30 by omega] at this
  exact this
end K41

namespace K41
open PySem L2 D3
theorem md {c n : Int} (h : 0 < n) : ∃ j : Nat, c % n = (j : Int) ∧ (j : Int) < n := by
  have h0 := Int.emod_nonneg c (show n ≠ 0 by omega)
  have h1 := Int.emod_lt_of_pos c h
  exact ⟨(c % n).toNat, by omega, by omega⟩
theorem sl_hiT {W : WD} {ρ : Rho} {C : List Str} {e : E} {i : Nat} {m : Md} (h : evE W e ρ = .ok m (.int (i : Int))) : slP (.ok .fz (Tp C)) (evO W none) (evO W (some e)) ρ = .ok .fz (Tp (C.take i)) := by
  rw [sl_hi h, ← List.map_take]
theorem sl_loT {W : WD} {ρ : Rho} {C : List Str} {e : E} {i : Nat} {m : Md} (h : evE W e ρ = .ok m (.int (i : Int))) : slP (.ok .fz (Tp C)) (evO W (some e)) (evO W none) ρ = .ok .fz (Tp (C.drop i)) := by
  rw [sl_lo h, ← List.map_drop]
theorem spin_nd {C : List Str} (hn : C.Nodup) (j : Nat) : (C.drop j ++ C.take j).Nodup := by
  have : (C.drop j ++ C.take j).Perm C := List.perm_append_comm.trans (by rw [List.take_append_drop])
  exact this.symm.nodup hn
theorem spin_mem {C : List Str} {j : Nat} {z : Str} (h : z ∈ C.drop j ++ C.take j) : z ∈ C := by
  rcases List.mem_append.mp h with h | h
  · exact List.mem_of_mem_drop h
  · exact List.mem_of_mem_take h
theorem spin_len {C : List Str} {j : Nat} : (C.drop j ++ C.take j).length = C.length := by
  rw [List.length_append, List.length_drop, List.length_take]; omega
/-- turned, and cut by one or not -/
theorem lkept (k : Nat) {C : List Str} (hn : C.Nodup) (hb : C.length ≤ 900) (c : Int) : ∃ K : List Str, K.Nodup ∧ (∀ z ∈ K, z ∈ C) ∧ K.length ≤ C.length ∧ (WT TT (k + 1)).Φ "_law_kept" [Tp C, .int c] = .ok .fz (Tp K) := by
  obtain ⟨j, ej, hj⟩ := md (c := c) (n := (C.length : Int) + 1) (by omega)
  obtain ⟨i, ei, hi⟩ := md (c := c / 7) (n := 2) (by omega)
  refine ⟨(C.drop j ++ C.take j).drop i, (spin_nd hn j).sublist (List.drop_sublist _ _), fun z hz => spin_mem (List.mem_of_mem_drop hz), by rw [List.length_drop, spin_len]; omega, ?_⟩
  rw [u__law_kept]
  refine phi_ok rfl ?_
  show evB (WT TT k) b__law_kept [some (false, Tp C), some (false, .int c), none, none] = _
  have hsz : sizeLine = 16777216 := sizeLine_eq
  have lt := len_T (C := C) (m := .fz)
  have em : op2 (fBin .Mod) (.ok .fz (.int c)) (.ok .fz (.int ((C.length : Int) + 1))) = .ok .fz (.int (j : Int)) := by rw [x_mod (by omega), ej]
  have ct := cat_T (C := C.drop j) (C' := C.take j) (m := .fz) (m' := .fz) (by rw [List.length_drop, List.length_take]; omega)
  have q1 : ∀ ρ : Rho, ρ[2]? = some (some (false, .int (j : Int))) → slP (.ok .fz (Tp C)) (evO (WT TT k) (some (.var 2))) (evO (WT TT k) none) ρ = .ok .fz (Tp (C.drop j)) := fun ρ h => sl_loT (m := .fz) (by rw [e_var]; unfold getS; rw [h])
  have q2 : ∀ ρ : Rho, ρ[2]? = some (some (false, .int (j : Int))) → slP (.ok .fz (Tp C)) (evO (WT TT k) none) (evO (WT TT k) (some (.var 2))) ρ = .ok .fz (Tp (C.take j)) := fun ρ h => sl_hiT (m := .fz) (by rw [e_var]; unfold getS; rw [h])
  have q3 : ∀ ρ : Rho, ρ[1]? = some (some (false, .int c)) → slP (.ok .fz (Tp (C.drop j ++ C.take j))) (evO (WT TT k) (some (.bin .Mod (.bin .FloorDiv (.var 1) (.int 7)) (.int 2)))) (evO (WT TT k) none) ρ = .ok .fz (Tp ((C.drop j ++ C.take j).drop i)) := fun ρ h => sl_loT (m := .fz) (by
    rw [← ei]
    have : getS ρ 1 = .ok .fz (.int c) := by unfold getS; rw [h]
    simp [this])
  have p1 := q1 [some (false, Tp C), some (false, .int c), some (false, .int (j : Int)), none] rfl
  have p2 := q2 [some (false, Tp C), some (false, .int c), some (false, .int (j : Int)), none] rfl
  have p3 := q3 [some (false, Tp C), some (false, .int c), some (false, .int (j : Int)), some (false, Tp (C.drop j ++ C.take j))] rfl
  generalize hA : evO (WT TT k) none = A at *
  generalize hB : evO (WT TT k) (some (.var 2)) = B at *
  generalize hD : evO (WT TT k) (some (.bin .Mod (.bin .FloorDiv (.var 1) (.int 7)) (.int 2))) = D' at *
  clear q1 q2 q3
  generalize Tp ((C.drop j ++ C.take j).drop i) = t4 at *
  generalize Tp (C.drop j ++ C.take j) = t3 at *
  generalize Tp (C.drop j) = t1 at *
  generalize Tp (C.take j) = t2 at *
  generalize Tp C = t0 at *
  simp [b__law_kept, lt, em, hA, hB, hD, p1, p2, p3, ct]
theorem law_as (k : Nat) {M : List (Key × D)} {w : Str} {C S : List Str} (hw : getK M (.inr w) = some (Tp S)) (hS : S.Nodup) (hC : C.Nodup) (hl : C.length ≤ S.length) (hb : C.length ≤ 900) :
    ∃ d, Ask M d C true 2 ∧ (WT TT (k + 1)).Φ "_law_as" [.str w, .dct M, Tp C] = .ok .fz d := by
  refine ⟨.tup [.str "call", .tup [.str "keep", .tup [.str "table", .str w], Tp (S.take C.length)], Tp C], ?_, ?_⟩
  · exact .call (.keep (.table hw) (hS.sublist (List.take_sublist _ _)) fun z hz => List.mem_of_mem_take hz) hC (by rw [List.length_take]; omega) hb
  rw [u__law_as]
  refine phi_ok rfl ?_
  show evB (WT TT k) b__law_as [some (false, .str w), some (false, .dct M), some (false, Tp C), none] = _
  have e1 := getK_dix hw (m := .fz) (m' := .fz)
  have lt := len_T (C := C) (m := .fz)
  have p1 : slP (.ok .fz (Tp S)) (evO (WT TT k) none) (evO (WT TT k) (some (.bcall .len [(.var 2)]))) [some (false, .str w), some (false, .dct M), some (false, Tp C), some (false, Tp S)] = .ok .fz (Tp (S.take C.length)) := sl_hiT (m := .fz) (by
    generalize Tp C = t at *
    simp [lt])
  generalize hA : evO (WT TT k) none = A at *
  generalize hB : evO (WT TT k) (some (.bcall .len [(.var 2)])) = B at *
  generalize Tp (S.take C.length) = u1 at *
  generalize Tp S = u2 at *
  generalize Tp C = u at *
  simp [b__law_as, e1, hA, hB, p1, t2, t3]
def ten30 : Int := 10 ^ 30
theorem pow30 : op2 (fBin .Pow) (.ok .fz (.int 10)) (.ok .fz (.int 30)) = .ok .fz (.int ten30) := by rfl
theorem p30 : 0 < ten30 := by decide +kernel
/-- a pick of a drawn test -/
theorem picked (k : Nat) {A : D} {C : List Str} (c : Int) : ∃ (t : Ts) (L : List Str), t.dep ≤ 3 ∧ cols C t = L.map .str ∧ L.length ≤ 900 ∧ (∀ z ∈ L, z ∈ C) ∧ (WT TT (k + 1)).Φ "_law_picked" [A, Tp C, .int c] = .ok .fz (.tup [.str "pick", A, tsD C t]) := by
  suffices q : ∃ (p : Pt) (L : List Str), cl C p = L.map .str ∧ L.length ≤ 1 ∧ (∀ z ∈ L, z ∈ C) ∧ evB (WT TT k) (b__law_picked.take 2) [some (false, A), some (false, Tp C), some (false, .int c), none, none] = .nx [some (false, A), some (false, Tp C), some (false, .int c), some (false, ptD C p), none] by
    obtain ⟨p, L, h1, h2, h3, e⟩ := q
    have ea : b__law_picked = b__law_picked.take 2 ++ b__law_picked.drop 2 := rfl
    have ja : ptD C (.just (.str "a")) = .tup [.str "just", .str "a"] := rfl
    by_cases h : c % 3 = 0
    · refine ⟨.two false (.no (.atom false p (.just (.str "a")))) (.atom true (.just (.int (-c % 7))) p), L ++ L, by show max (0 + 1) 0 + 1 ≤ 3; decide, ?_, by rw [List.length_append]; omega, fun z hz => h3 z (by simpa using hz), ?_⟩
      · show (cl C p ++ []) ++ ([] ++ cl C p) = _
        rw [h1, List.append_nil, List.nil_append, List.map_append]
      rw [u__law_picked]
      refine phi_ok rfl ?_
      show evB (WT TT k) b__law_picked [some (false, A), some (false, Tp C), some (false, .int c), none, none] = .rt .fz (.tup [.str "pick", A, .tup [.str "both", .tup [.str "not", .tup [.str "under", ptD C p, .tup [.str "just", .str "a"]]], .tup [.str "same", .tup [.str "just", .int (-c % 7)], ptD C p]]])
      rw [ea, b_app, e, SRes.thn_nx]
      generalize Tp C = t
      generalize ptD C p = pd
      simp [b__law_picked, h, t2, t3]
    · refine ⟨.atom false p (.just (.str "a")), L, Nat.zero_le _, ?_, by omega, h3, ?_⟩
      · show cl C p ++ [] = _
        rw [h1, List.append_nil]
      rw [u__law_picked]
      refine phi_ok rfl ?_
      show evB (WT TT k) b__law_picked [some (false, A), some (false, Tp C), some (false, .int c), none, none] = .rt .fz (.tup [.str "pick", A, .tup [.str "under", ptD C p, .tup [.str "just", .str "a"]]])
      have h' : (c % 3 == 0) = false := beq_eq_false_iff_ne.mpr h
      rw [ea, b_app, e, SRes.thn_nx]
      generalize Tp C = t
      generalize ptD C p = pd
      simp [b__law_picked, h', t2, t3]
  have e30 := x_mod (m := .fz) (n := .fz) (i := c) p30
  have n0 := ne_0 (C := C) (m := .fz) (m' := .fz)
  by_cases h0 : C.isEmpty = true
  · refine ⟨.just (.int (c % ten30)), [], rfl, by simp, fun z hz => absurd hz (by simp), ?_⟩
    rw [h0] at n0
    show _ = SRes.nx [some (false, A), some (false, Tp C), some (false, .int c), some (false, .tup [.str "just", .int (c % ten30)]), none]
    generalize Tp C = t at *
    simp [b__law_picked, pow30, e30, n0, t2, tu0]
  · have hl : 0 < C.length := by
      cases C with
      | nil => exact absurd rfl h0
      | cons _ _ => simp
    have h0' : C.isEmpty = false := by simpa using h0
    rw [h0'] at n0
    obtain ⟨j, ej, hj⟩ := md (c := c / 3) (n := (C.length : Int)) (by omega)
    have hj' : j < C.length := by omega
    have em : op2 (fBin .Mod) (.ok .fz (.int (c / 3))) (.ok .fz (.int (C.length : Int))) = .ok .fz (.int (j : Int)) := by rw [x_mod (by omega), ej]
    have lt := len_T (C := C) (m := .fz)
    have ea := at_T hj' (m := .fz) (m' := .fz)
    rw [← nth_at hj'] at ea
    refine ⟨.of j, [nth C j], rfl, by simp, fun z hz => by rw [List.mem_singleton] at hz; subst hz; rw [nth_at hj']; exact List.getElem_mem hj', ?_⟩
    show _ = SRes.nx [some (false, A), some (false, Tp C), some (false, .int c), some (false, .tup [.str "of", .str (nth C j)]), none]
    generalize Tp C = t at *
    generalize nth C j = z at *
    simp [b__law_picked, pow30, e30, n0, t2, tu0, lt, em, ea]
end K41

namespace K41
open PySem L2 D3
theorem dif_mem {C S : List Str} {z : Str} (h : z ∈ dif S C) : z ∈ S ∧ ¬ z ∈ C := by
  unfold dif at h
  rw [List.mem_filter] at h
  exact ⟨h.1, by simpa using h.2⟩
theorem join_nd {C S : List Str} (hC : C.Nodup) (hS : S.Nodup) : (C ++ dif S C).Nodup :=
  List.nodup_append.mpr ⟨hC, hS.sublist List.filter_sublist, fun a ha b hb e => (dif_mem hb).2 (e ▸ ha)⟩
theorem join_mem {C S N : List Str} (hC : ∀ z ∈ C, z ∈ N) (hS : ∀ z ∈ S, z ∈ N) : ∀ z ∈ C ++ dif S C, z ∈ N := fun z h => by
  rcases List.mem_append.mp h with h | h
  · exact hC z h
  · exact hS z (dif_mem h).1
theorem ex_join {W : WD} {ρ : Rho} {i j : Nat} {C S : List Str} (hs : C.length + S.length < sizeLine) (hi : getS ρ i = .ok .fz (Tp C)) (hj : getS ρ j = .ok .fz (Tp S)) (hc : subR [i] ρ = [some (false, Tp C)]) :
    evE W (.bin .Add (.var i) (.tcall .tuple [(.comp (.var 1) (.items (.var j)) [(.cmp .NotIn (.var 1) (.var 0))] [i] (.nm 1) 1)])) ρ = .ok .fz (Tp (C ++ dif S C)) := by
  have dl := dif_le (C := C) (C' := S)
  have e1 := comp_not (W := W) (C := C) (C' := S) (m := .fz) (caps := [i]) (ρ := ρ) (by omega) hc
  have e2 := cat_T (C := C) (C' := dif S C) (m := .fz) (m' := .fz) (by omega)
  rw [e_bin, e_tcall, es_cons, es_nil, e_comp, e_items, e_var, e_var, hi, hj]
  show op2 (fBin .Add) (.ok .fz (Tp C)) (callR (Ty.f .tuple) (consL (compR (.ok .fz (.lst (S.map .str))) _ [i] 1 (setG (.nm 1)) _ _) (.ok []))) = _
  rw [e1]
  exact e2
theorem joined (k : Nat) {A : D} {w : Str} {C S : List Str} (hs : C.length + S.length < sizeLine) (side : Bool) : (WT TT (k + 1)).Φ "_law_joined" [A, Tp C, .str w, Tp S, .int (if side = true then 1 else 0)]
      = .ok .fz (if side = true then .tup [.tup [.str "join", .tup [.str "table", .str w], A], Tp (S ++ dif C S)] else .tup [.tup [.str "join", A, .tup [.str "table", .str w]], Tp (C ++ dif S C)]) := by
  rw [u__law_joined]
  refine phi_ok rfl ?_
  show evB (WT TT k) b__law_joined [some (false, A), some (false, Tp C), some (false, .str w), some (false, Tp S), some (false, .int (if side = true then 1 else 0))] = _
  have e1 := ex_join (W := WT TT k) (ρ := [some (false, A), some (false, Tp C), some (false, .str w), some (false, Tp S), some (false, .int (if side = true then 1 else 0))]) (i := 1) (j := 3) hs rfl rfl rfl
  have e2 := ex_join (W := WT TT k) (ρ := [some (false, A), some (false, Tp C), some (false, .str w), some (false, Tp S), some (false, .int (if side = true then 1 else 0))]) (i := 3) (j := 1) (C := S) (S := C) (by omega) rfl rfl rfl
  unfold b__law_joined
  generalize E.bin .Add (.var 1) (.tcall .tuple [(.comp (.var 1) (.items (.var 3)) [(.cmp .NotIn (.var 1) (.var 0))] [1] (.nm 1) 1)]) = X1 at *
  generalize E.bin .Add (.var 3) (.tcall .tuple [(.comp (.var 1) (.items (.var 1)) [(.cmp .NotIn (.var 1) (.var 0))] [3] (.nm 1) 1)]) = X2 at *
  generalize Tp (C ++ dif S C) = u1 at *
  generalize Tp (S ++ dif C S) = u2 at *
  generalize Tp C = u3 at *
  generalize Tp S = u4 at *
  cases side with
  | true => simp at e1 e2; simp [e1, e2, t2, t3]
  | false => simp at e1 e2; simp [e1, e2, t2, t3]
theorem pk2 {a b : D} {m m' : Md} (c : Int) : ∃ s : Bool, op2 ixD (.ok m (.lst [a, b])) (.ok m' (.int (c % 2))) = .ok .fz (if s = true then b else a) := by
  have h : c % 2 = 0 ∨ c % 2 = 1 := by omega
  rcases h with h | h
  · exact ⟨false, by rw [h]; exact ix_l (atI_nat (j := 0) rfl)⟩
  · exact ⟨true, by rw [h]; exact ix_l (atI_nat (j := 1) rfl)⟩
theorem l2 {a b : D} : lstR (.ok [(.fz, a), (.fz, b)]) = .ok .fr (.lst [a, b]) := by rfl
theorem cat12 {a x y : D} {m m' : Md} : op2 (fBin .Add) (.ok m (.tup [a])) (.ok m' (.tup [x, y])) = .ok .fz (.tup [a, x, y]) := by
  rw [x_catT (by have := sizeLine_eq; simp; omega)]; rfl
def after (b : Bool) (w : Str) : Bool := b && !(w == Str.ofString "leave")
theorem beside1 (k : Nat) {M : List (Key × D)} {A : D} {w : Str} {C S : List Str} {b : Bool} {n : Nat} (hA : Ask M A C b n) (hw : getK M (.inr w) = some (Tp S)) (hS : S.Nodup) (hC : C.Nodup) (hb : C.length ≤ 900) {c : Int} (h3 : c % 3 < 2) (hl : C.length ≤ S.length) :
    ∃ A' b' n' w', Ask M A' C b' n' ∧ n' ≤ max n 2 + 1 ∧ op2 ixD (.ok .fz A') (.ok .fz (.int 0)) = .ok .fz (.str w') ∧ b' = after b w' ∧ (WT TT (k + 2)).Φ "_law_beside" [A, Tp C, .str w, .dct M, .int c] = .ok .fz (.tup [A', Tp C]) := by
  obtain ⟨d, hd, ed⟩ := law_as k hw hS hC hl hb
  have cd : callF 3 ((WT TT (k + 1)).Φ "_law_as") (.ok [(.fz, .str w), (.fz, .dct M), (.fz, Tp C)]) = .ok .fz d := call3 ed
  obtain ⟨s, es⟩ := pk2 (a := .tup [A, d]) (b := .tup [d, A]) (m := .fr) (m' := .fz) (c / 3)
  obtain ⟨x, y, b1, b2, n1, n2, hx, hy, hb12, hn12, exy⟩ : ∃ x y b1 b2 n1 n2, Ask M x C b1 n1 ∧ Ask M y C b2 n2 ∧ (b1 && b2) = b ∧ max n1 n2 ≤ max n 2 ∧ (if s = true then D.tup [d, A] else .tup [A, d]) = .tup [x, y] := by
    cases s with
    | true => exact ⟨d, A, true, b, 2, n, hd, hA, rfl, by omega, rfl⟩
    | false => exact ⟨A, d, b, true, n, 2, hA, hd, by cases b <;> rfl, by omega, rfl⟩
  rw [exy] at es
  have gw := getK_dix hw (m := .fz) (m' := .fz)
  have lc := len_T (C := C) (m := .fz)
  have ls := len_T (C := S) (m := .fz)
  have hle : (C.length : Int) ≤ (S.length : Int) := by omega
  have h : c % 3 = 0 ∨ c % 3 = 1 := by omega
  rcases h with h | h
  · refine ⟨.tup [.str "pour", x, y], _, _, "pour", .pour hx hy, by omega, j0, by rw [hb12]; unfold after; rw [show (Str.ofString "pour" == Str.ofString "leave") = false by decide +kernel]; simp, ?_⟩
    rw [u__law_beside]
    refine phi_ok rfl ?_
    show evB (WT TT (k + 1)) b__law_beside [some (false, A), some (false, Tp C), some (false, .str w), some (false, .dct M), some (false, .int c), none, none, none] = _
    have ep : op2 ixD (.ok .fr (.lst [.tup [.str (Str.ofString "pour"), x, y], .tup [.str (Str.ofString "leave"), x, y]])) (.ok .fz (.int 0)) = .ok .fz (.tup [.str (Str.ofString "pour"), x, y]) := ix_l (atI_nat (j := 0) rfl)
    generalize Tp C = u3 at *
    generalize Tp S = u4 at *
    simp [b__law_beside, h, lc, ls, gw, hle, cd, l2, t2, es, tu1, cat12, ep]
  · refine ⟨.tup [.str "leave", x, y], _, _, "leave", .leave hx hy (fun z hz => hz), by omega, j0, by unfold after; rw [show (Str.ofString "leave" == Str.ofString "leave") = true by decide +kernel]; simp, ?_⟩
    rw [u__law_beside]
    refine phi_ok rfl ?_
    show evB (WT TT (k + 1)) b__law_beside [some (false, A), some (false, Tp C), some (false, .str w), some (false, .dct M), some (false, .int c), none, none, none] = _
    have ep : op2 ixD (.ok .fr (.lst [.tup [.str (Str.ofString "pour"), x, y], .tup [.str (Str.ofString "leave"), x, y]])) (.ok .fz (.int 1)) = .ok .fz (.tup [.str (Str.ofString "leave"), x, y]) := ix_l (atI_nat (j := 1) rfl)
    generalize Tp C = u3 at *
    generalize Tp S = u4 at *
    simp [b__law_beside, h, lc, ls, gw, hle, cd, l2, t2, es, tu1, cat12, ep]
theorem beside2 (k : Nat) {M : List (Key × D)} {A : D} {w : Str} {C S : List Str} {b : Bool} {n : Nat} (hA : Ask M A C b n) (hw : getK M (.inr w) = some (Tp S)) (hS : S.Nodup) (hC : C.Nodup) (hb : C.length ≤ 900) {c : Int} (h3 : (decide (c % 3 < 2) && decide (C.length ≤ S.length)) = false) :
    ∃ A' b' n' w', Ask M A' C b' n' ∧ n' ≤ max n 2 + 1 ∧ op2 ixD (.ok .fz A') (.ok .fz (.int 0)) = .ok .fz (.str w') ∧ b' = after b w' ∧ (WT TT (k + 2)).Φ "_law_beside" [A, Tp C, .str w, .dct M, .int c] = .ok .fz (.tup [A', Tp C]) := by
  obtain ⟨K, k1, k2, k3, ek⟩ := lkept k hC hb (c / 6)
  have ck : callF 2 ((WT TT (k + 1)).Φ "_law_kept") (.ok [(.fz, Tp C), (.fz, .int (c / 6))]) = .ok .fz (Tp K) := call2 ek
  obtain ⟨d, hd, ed⟩ := law_as k (C := K.take S.length) hw hS (k1.sublist (List.take_sublist _ _)) (by rw [List.length_take]; omega) (by rw [List.length_take]; omega)
  have cd : callF 3 ((WT TT (k + 1)).Φ "_law_as") (.ok [(.fz, .str w), (.fz, .dct M), (.fz, Tp (K.take S.length))]) = .ok .fz d := call3 ed
  have gw := getK_dix hw (m := .fz) (m' := .fz)
  have lc := len_T (C := C) (m := .fz)
  have ls := len_T (C := S) (m := .fz)
  refine ⟨.tup [.str "leave", A, d], _, _, "leave", .leave hA hd (fun z hz => k2 z (List.mem_of_mem_take hz)), by omega, j0, by unfold after; rw [show (Str.ofString "leave" == Str.ofString "leave") = true by decide +kernel]; simp, ?_⟩
  rw [u__law_beside]
  refine phi_ok rfl ?_
  show evB (WT TT (k + 1)) b__law_beside [some (false, A), some (false, Tp C), some (false, .str w), some (false, .dct M), some (false, .int c), none, none, none] = _
  have p1 : slP (.ok .fz (Tp K)) (evO (WT TT (k + 1)) none) (evO (WT TT (k + 1)) (some (.bcall .len [(.dix (.var 3) (.var 2))]))) [some (false, A), some (false, Tp C), some (false, .str w), some (false, .dct M), some (false, .int c), none, none, none] = .ok .fz (Tp (K.take S.length)) := sl_hiT (m := .fz) (by
    generalize Tp C = u3 at *
    generalize Tp S = u4 at *
    simp [gw, ls])
  generalize hA' : evO (WT TT (k + 1)) none = X1 at *
  generalize hB' : evO (WT TT (k + 1)) (some (.bcall .len [(.dix (.var 3) (.var 2))])) = X2 at *
  generalize Tp (K.take S.length) = u1 at *
  generalize Tp K = u2 at *
  generalize Tp C = u3 at *
  generalize Tp S = u4 at *
  simp [b__law_beside, lc, ls, gw, h3, ck, cd, hA', hB', p1, t2, t3]
end K41

namespace K41
open PySem L2 D3
theorem nd_map {F : List Str} (hF : F.Nodup) {φ : Nat → Nat} {w : Nat} (hb : ∀ k, k < w → φ k < F.length) (hi : ∀ i j, i < j → j < w → φ i ≠ φ j) : ((List.range w).map fun k => nth F (φ k)).Nodup := by
  refine List.pairwise_iff_getElem.mpr fun i j h1 h2 hij e => ?_
  simp only [List.length_map, List.length_range] at h1 h2
  rw [List.getElem_map, List.getElem_range, List.getElem_map, List.getElem_range, nth_at (hb i h1), nth_at (hb j h2)] at e
  exact hi i j hij h2 ((List.getElem_inj hF).mp e)
theorem compL_map {k : D → Rho → Option Rho} {t e : Rho → Res} {ρ0 : Rho} (φ : D → D) : ∀ ds : List D, (∀ d ∈ ds, ∃ ρ1, k d ρ0 = some ρ1 ∧ t ρ1 = .ok .fz (.bl true) ∧ frzR (e ρ1) = .ok .fz (φ d)) → compL k t e ρ0 ds = some (ds.map φ)
  | [], _ => rfl
  | d :: ds, h => by
    obtain ⟨ρ1, h1, h2, h3⟩ := h d List.mem_cons_self
    have e1 := compL_map φ ds fun d hd => h d (List.mem_cons_of_mem _ hd)
    rw [compL, h1]; dsimp only; rw [h2]; dsimp only; rw [h3, e1]; rfl
theorem nd_le : ∀ (l N : List Str), l.Nodup → (∀ x ∈ l, x ∈ N) → l.length ≤ N.length
  | [], N, _, _ => Nat.zero_le _
  | x :: l, N, hn, hs => by
    rw [List.nodup_cons] at hn
    have hx := hs x List.mem_cons_self
    have := nd_le l (N.erase x) hn.2 fun y hy => (List.mem_erase_of_ne (show y ≠ x from fun e => hn.1 (e ▸ hy))).mpr (hs y (List.mem_cons_of_mem _ hy))
    rw [List.length_erase_of_mem hx] at this
    have : 0 < N.length := List.length_pos_of_mem hx
    rw [List.length_cons]; omega
structure Sh (M : List (Key × D)) (N : List Str) : Prop where
  ex : ∃ ws : List Str, ws.length = 3 ∧ tcKeys [(.fz, .dct M)] = some (.fr, .lst (ws.map .str)) ∧ ∀ w ∈ ws, ∃ S, getK M (.inr w) = some (Tp S) ∧ S.Nodup ∧ (∀ z ∈ S, z ∈ N) ∧ S.length ≤ 4
  nd : N.Nodup
  len : N.length = 11
/-- what a step leaves -/
def Left (M : List (Key × D)) (N : List Str) (b : Bool) (n : Nat) (r : Res) : Prop := ∃ A' C' b' n' w', Ask M A' C' b' n' ∧ n' ≤ max n 2 + 1 ∧ op2 ixD (.ok .fz A') (.ok .fz (.int 0)) = .ok .fz (.str w') ∧ b' = after b w' ∧ C'.Nodup ∧ (∀ z ∈ C', z ∈ N) ∧ r = .ok .fz (.tup [A', Tp C'])
section
variable {M : List (Key × D)} {N C S : List Str} {A : D} {b : Bool} {n : Nat} {w : Str} {cell c : Int}
abbrev ρs (A : D) (C : List Str) (cell : Int) (M : List (Key × D)) (N : List Str) (v c : Int) (w : Str) : Rho := [some (false, A), some (false, Tp C), some (false, .int cell), some (false, .dct M), some (false, .lst (N.map .str)), some (false, .int v), some (false, .int c), some (false, .str w), none, none]
theorem aft {w : Str} (h : (w == Str.ofString "leave") = false := by decide +kernel) : b = after b w := by unfold after; rw [h]; simp
theorem rt_left {r : SRes} (h : ∃ A' C' b' n' w', Ask M A' C' b' n' ∧ n' ≤ max n 2 + 1 ∧ op2 ixD (.ok .fz A') (.ok .fz (.int 0)) = .ok .fz (.str w') ∧ b' = after b w' ∧ C'.Nodup ∧ (∀ z ∈ C', z ∈ N) ∧ r = .rt .fz (.tup [A', Tp C'])) : ∃ d, r = .rt .fz d ∧ Left M N b n (.ok .fz d) := by
  obtain ⟨A', C', b', n', w', h1, h2, h3, h4, h5, h6, rfl⟩ := h
  exact ⟨_, rfl, A', C', b', n', w', h1, h2, h3, h4, h5, h6, rfl⟩
theorem way0 (k : Nat) (hA : Ask M A C b n) (hC : C.Nodup) (hN : ∀ z ∈ C, z ∈ N) : ∃ d, evB (WT TT (k + 1)) (b__law_step.drop 3) (ρs A C cell M N 0 c w) = .rt .fz d ∧ Left M N b n (.ok .fz d) := by
  obtain ⟨t, L, h1, h2, h3, h4, e⟩ := picked k (A := A) (C := C) c
  have c1 : callF 3 ((WT TT (k + 1)).Φ "_law_picked") (.ok [(.fz, A), (.fz, Tp C), (.fz, .int c)]) = .ok .fz (.tup [.str "pick", A, tsD C t]) := call3 e
  refine rt_left ⟨.tup [.str "pick", A, tsD C t], C, b, n + 1, "pick", .pick hA h1 h2 h3 h4, by omega, j0, aft, hC, hN, ?_⟩
  unfold ρs
  generalize D.tup [.str "pick", A, tsD C t] = A' at *
  generalize Tp C = u at *
  generalize N.map D.str = v at *
  simp [b__law_step, c1, t2]
theorem way1 (k : Nat) (hA : Ask M A C b n) (hC : C.Nodup) (hb : C.length ≤ 900) (hN : ∀ z ∈ C, z ∈ N) : ∃ d, evB (WT TT (k + 1)) (b__law_step.drop 3) (ρs A C cell M N 1 c w) = .rt .fz d ∧ Left M N b n (.ok .fz d) := by
  obtain ⟨K, k1, k2, k3, ek⟩ := lkept k hC hb c
  have ck : callF 2 ((WT TT (k + 1)).Φ "_law_kept") (.ok [(.fz, Tp C), (.fz, .int c)]) = .ok .fz (Tp K) := call2 ek
  refine rt_left ⟨.tup [.str "keep", A, Tp K], K, b, n + 1, "keep", .keep hA k1 k2, by omega, j0, aft, k1, fun z hz => hN z (k2 z hz), ?_⟩
  unfold ρs
  generalize Tp K = u' at *
  generalize Tp C = u at *
  generalize N.map D.str = v at *
  simp [b__law_step, ck, t2, t3]
theorem way3 (k : Nat) (hA : Ask M A C b n) (hw : getK M (.inr w) = some (Tp S)) (hS : S.Nodup) (hSN : ∀ z ∈ S, z ∈ N) (hC : C.Nodup) (hs : C.length + S.length < sizeLine) (hN : ∀ z ∈ C, z ∈ N) : ∃ d, evB (WT TT (k + 1)) (b__law_step.drop 3) (ρs A C cell M N 3 c w) = .rt .fz d ∧ Left M N b n (.ok .fz d) := by
  have gw := getK_dix hw (m := .fz) (m' := .fz)
  have h : c / 3 % 2 = 0 ∨ c / 3 % 2 = 1 := by omega
  rcases h with h | h
  · have ej := joined k (A := A) (w := w) hs false
    have cj : callF 5 ((WT TT (k + 1)).Φ "_law_joined") (.ok [(.fz, A), (.fz, Tp C), (.fz, .str w), (.fz, Tp S), (.fz, .int 0)]) = .ok .fz (.tup [.tup [.str "join", A, .tup [.str "table", .str w]], Tp (C ++ dif S C)]) := callF_ok (ds := [A, Tp C, .str w, Tp S, .int 0]) rfl rfl ej
    refine rt_left ⟨.tup [.str "join", A, .tup [.str "table", .str w]], C ++ dif S C, _, _, "join", .join hA (.table hw) hs, by omega, j0, by rw [Bool.and_true]; exact aft, join_nd hC hS, join_mem hN hSN, ?_⟩
    unfold ρs
    generalize Tp (C ++ dif S C) = u1 at *
    generalize D.tup [.str "join", A, .tup [.str "table", .str w]] = A' at *
    generalize Tp C = u at *
    generalize Tp S = u' at *
    generalize N.map D.str = v at *
    simp [b__law_step, gw, h, cj]
  · have ej := joined k (A := A) (w := w) hs true
    have cj : callF 5 ((WT TT (k + 1)).Φ "_law_joined") (.ok [(.fz, A), (.fz, Tp C), (.fz, .str w), (.fz, Tp S), (.fz, .int 1)]) = .ok .fz (.tup [.tup [.str "join", .tup [.str "table", .str w], A], Tp (S ++ dif C S)]) := callF_ok (ds := [A, Tp C, .str w, Tp S, .int 1]) rfl rfl ej
    refine rt_left ⟨.tup [.str "join", .tup [.str "table", .str w], A], S ++ dif C S, _, _, "join", .join (.table hw) hA (by omega), by omega, j0, by rw [Bool.true_and]; exact aft, join_nd hS hC, join_mem hSN hN, ?_⟩
    unfold ρs
    generalize Tp (S ++ dif C S) = u1 at *
    generalize D.tup [.str "join", .tup [.str "table", .str w], A] = A' at *
    generalize Tp C = u at *
    generalize Tp S = u' at *
    generalize N.map D.str = v at *
    simp [b__law_step, gw, h, cj]
theorem way4 (k : Nat) (hA : Ask M A C b n) (h0 : C.isEmpty = false) (hC : C.Nodup) (hb : C.length ≤ 900) (hN : ∀ z ∈ C, z ∈ N) : ∃ d, evB (WT TT (k + 1)) (b__law_step.drop 3) (ρs A C cell M N 4 c w) = .rt .fz d ∧ Left M N b n (.ok .fz d) := by
  obtain ⟨K, k1, k2, k3, ek⟩ := lkept k hC hb c
  have ck : callF 2 ((WT TT (k + 1)).Φ "_law_kept") (.ok [(.fz, Tp C), (.fz, .int c)]) = .ok .fz (Tp K) := call2 ek
  have n0 := ne_0 (C := C) (m := .fz) (m' := .fz)
  rw [h0] at n0
  have hl : 0 < C.length := by
    cases C with
    | nil => cases h0
    | cons _ _ => simp
  obtain ⟨j, ej, hj⟩ := md (c := c / 14) (n := (C.length : Int)) (by omega)
  have hj' : j < C.length := by omega
  have em : op2 (fBin .Mod) (.ok .fz (.int (c / 14))) (.ok .fz (.int (C.length : Int))) = .ok .fz (.int (j : Int)) := by rw [x_mod (by omega), ej]
  have lt := len_T (C := C) (m := .fz)
  have ea := at_T hj' (m := .fz) (m' := .fz)
  have t4 : ∀ {a b c d : D}, tupR (.ok [(.fz, a), (.fz, b), (.fz, c), (.fz, d)]) = .ok .fz (.tup [a, b, c, d]) := by intros; rfl
  refine rt_left ⟨.tup [.str "total", A, .str C[j], Tp K], K, b, n + 1, "total", .total hA (List.getElem_mem hj') k1 k2, by omega, f0, aft, k1, fun z hz => hN z (k2 z hz), ?_⟩
  unfold ρs
  generalize C[j] = z at *
  generalize Tp K = u' at *
  generalize Tp C = u at *
  generalize N.map D.str = v at *
  simp [b__law_step, ck, n0, tu0, lt, em, ea, t2, t4]
end
end K41

namespace K41
open PySem L2 D3
section
variable {M : List (Key × D)} {N C S : List Str} {A : D} {b : Bool} {n : Nat} {w : Str} {cell c : Int}
def fr (N : List Str) (c : Int) (l : Nat) : List Str := (List.range l).map fun (k : Nat) => nth N (((k : Int) + c / 2) % 11).toNat
theorem fr_nd (hn : N.Nodup) (hl : N.length = 11) {l : Nat} (h : l ≤ 11) : (fr N c l).Nodup :=
  nd_map hn (w := l) (φ := fun k => (((k : Int) + c / 2) % 11).toNat) (fun k hk => by rw [hl]; have := Int.emod_lt_of_pos ((k : Int) + c / 2) (show (0 : Int) < 11 by decide); have := Int.emod_nonneg ((k : Int) + c / 2) (show (11 : Int) ≠ 0 by decide); omega) fun i j hij hj => by omega
theorem fr_len {l : Nat} : (fr N c l).length = l := by simp [fr]
theorem fr_mem (hl : N.length = 11) {l : Nat} : ∀ z ∈ fr N c l, z ∈ N := fun z hz => by
  obtain ⟨k, _, rfl⟩ := List.mem_map.mp hz
  have h1 := Int.emod_lt_of_pos ((k : Int) + c / 2) (show (0 : Int) < 11 by decide)
  have h2 := Int.emod_nonneg ((k : Int) + c / 2) (show (11 : Int) ≠ 0 by decide)
  rw [nth_at (by omega)]
  exact List.getElem_mem _
theorem comp_fr {W : WD} {l : Nat} (hl : N.length = 11) : compL (setG (.nm 2)) (fun ρ => evF W [] ρ) (fun ρ => evE W (.ix (.var 0) (.bin .Mod (.bin .Add (.var 2) (.bin .FloorDiv (.var 1) (.int 2))) (.int 11))) ρ) [some (false, .lst (N.map .str)), some (false, .int c), none] (rangeD 0 (l : Int)) = some ((fr N c l).map .str) := by
  have em : (fr N c l).map D.str = (rangeD 0 (l : Int)).map fun d => match d with | .int i => .str (nth N ((i + c / 2) % 11).toNat) | _ => .non := by
    unfold fr rangeD
    rw [List.map_map, List.map_map]
    simp [Function.comp_def]
  rw [em]
  refine compL_map _ _ fun d hd => ?_
  obtain ⟨i, hi, rfl⟩ := mem_range hd
  have h1 := Int.emod_lt_of_pos ((i : Int) + c / 2) (show (0 : Int) < 11 by decide)
  have h2 := Int.emod_nonneg ((i : Int) + c / 2) (show (11 : Int) ≠ 0 by decide)
  obtain ⟨j, ej⟩ := Int.eq_ofNat_of_zero_le h2
  have hj : j < N.length := by omega
  have ex : op2 ixD (.ok .fz (.lst (N.map .str))) (.ok .fz (.int (((i : Int) + c / 2) % 11))) = .ok .fz (.str (nth N (((i : Int) + c / 2) % 11).toNat)) := by
    rw [ej, Int.toNat_natCast, nth_at hj]
    exact ix_l (atI_nat (by rw [List.getElem?_map, List.getElem?_eq_getElem hj]; rfl))
  refine ⟨[some (false, .lst (N.map .str)), some (false, .int c), some (false, .int (i : Int))], by rw [sg_nm]; rfl, by rw [ef_nil], ?_⟩
  generalize N.map D.str = v at *
  simp [ex]
theorem way2 (k : Nat) (hA : Ask M A C b n) (hC : C.Nodup) (hb : C.length ≤ 11) (hN : ∀ z ∈ C, z ∈ N) (hn : N.Nodup) (hl : N.length = 11) : ∃ d, evB (WT TT (k + 1)) (b__law_step.drop 3) (ρs A C cell M N 2 c w) = .rt .fz d ∧ Left M N b n (.ok .fz d) := by
  have hsz : sizeLine = 16777216 := sizeLine_eq
  suffices q : ∃ F : List Str, F.Nodup ∧ F.length = C.length ∧ (∀ z ∈ F, z ∈ N) ∧ evB (WT TT (k + 1)) (b__law_step.drop 3) (ρs A C cell M N 2 c w) = .rt .fz (.tup [.tup [.str "call", A, Tp F], Tp F]) by
    obtain ⟨F, q1, q2, q3, e⟩ := q
    exact rt_left ⟨.tup [.str "call", A, Tp F], F, b, n + 1, "call", .call hA q1 q2 (by omega), by omega, j0, aft, q1, q3, e⟩
  have er := rngI (m := .fz) (n := (C.length : Int)) (by omega) (by omega)
  have lt := len_T (C := C) (m := .fz)
  have ec : evE (WT TT (k + 1)) (.tcall .tuple [(.comp (.ix (.var 0) (.bin .Mod (.bin .Add (.var 2) (.bin .FloorDiv (.var 1) (.int 2))) (.int 11))) (.rng1 (.bcall .len [(.var 1)])) [] [4, 6] (.nm 2) 1)]) (ρs A C cell M N 2 c w) = .ok .fz (Tp (fr N c C.length)) := by
    have ei : evE (WT TT (k + 1)) (.rng1 (.bcall .len [(.var 1)])) (ρs A C cell M N 2 c w) = .ok .fz (.lst (rangeD 0 (C.length : Int))) := by
      unfold ρs
      generalize Tp C = u at *
      generalize rangeD 0 (C.length : Int) = R at *
      generalize N.map D.str = v at *
      simp [lt, er]
    have cc : compR (.ok .fz (.lst (rangeD 0 (C.length : Int)))) (ρs A C cell M N 2 c w) [4, 6] 1 (setG (.nm 2)) (fun ρ => evF (WT TT (k + 1)) [] ρ) (fun ρ => evE (WT TT (k + 1)) (.ix (.var 0) (.bin .Mod (.bin .Add (.var 2) (.bin .FloorDiv (.var 1) (.int 2))) (.int 11))) ρ) = .ok .fr (.lst ((fr N c C.length).map .str)) := by
      show (if (rangeD 0 (C.length : Int)).length < sizeLine then (match compL (setG (.nm 2)) (fun ρ => evF (WT TT (k + 1)) [] ρ) (fun ρ => evE (WT TT (k + 1)) (.ix (.var 0) (.bin .Mod (.bin .Add (.var 2) (.bin .FloorDiv (.var 1) (.int 2))) (.int 11))) ρ) [some (false, .lst (N.map .str)), some (false, .int c), none] (rangeD 0 (C.length : Int)) with | some ys => Res.ok .fr (.lst ys) | none => .stuck) else .stuck) = _
      rw [if_pos (by rw [range_len]; omega), comp_fr hl]
    rw [e_tcall, es_cons, es_nil, e_comp, ei, cc]
    rfl
  have cut1 : ∀ ρ : Rho, slP (.ok .fz (Tp C)) (evO (WT TT (k + 1)) (some (.int 1))) (evO (WT TT (k + 1)) none) ρ = .ok .fz (Tp (C.drop 1)) := fun ρ => sl_loT (m := .fz) (i := 1) (by rw [e_int]; rfl)
  have cut2 : ∀ ρ : Rho, slP (.ok .fz (Tp C)) (evO (WT TT (k + 1)) none) (evO (WT TT (k + 1)) (some (.int 1))) ρ = .ok .fz (Tp (C.take 1)) := fun ρ => sl_hiT (m := .fz) (i := 1) (by rw [e_int]; rfl)
  have ct := cat_T (C := C.drop 1) (C' := C.take 1) (m := .fz) (m' := .fz) (by rw [List.length_drop, List.length_take]; omega)
  suffices q : ∃ F : List Str, F.Nodup ∧ F.length = C.length ∧ (∀ z ∈ F, z ∈ N) ∧ evB (WT TT (k + 1)) [.ite (.cmp .Eq (.bin .Mod (.var 6) (.int 2)) (.int 0)) [.set 9 (.frz (.bin .Add (.slice (.var 1) (some (.int 1)) none) (.slice (.var 1) none (some (.int 1)))))] [], .ret (.tup [(.tup [(.str "call"), (.var 0), (.var 9)]), (.var 9)])]
      [some (false, A), some (false, Tp C), some (false, .int cell), some (false, .dct M), some (false, .lst (N.map .str)), some (false, .int 2), some (false, .int c), some (false, .str w), none, some (false, Tp (fr N c C.length))] = .rt .fz (.tup [.tup [.str "call", A, Tp F], Tp F]) by
    obtain ⟨F, q1, q2, q3, e⟩ := q
    refine ⟨F, q1, q2, q3, ?_⟩
    have ea : b__law_step.drop 3 = (b__law_step.drop 3).take 2 ++ (.ite (.cmp .Eq (.var 5) (.int 2)) (.set 9 (.frz (.tcall .tuple [(.comp (.ix (.var 0) (.bin .Mod (.bin .Add (.var 2) (.bin .FloorDiv (.var 1) (.int 2))) (.int 11))) (.rng1 (.bcall .len [(.var 1)])) [] [4, 6] (.nm 2) 1)])) ::
      [.ite (.cmp .Eq (.bin .Mod (.var 6) (.int 2)) (.int 0)) [.set 9 (.frz (.bin .Add (.slice (.var 1) (some (.int 1)) none) (.slice (.var 1) none (some (.int 1)))))] [], .ret (.tup [(.tup [(.str "call"), (.var 0), (.var 9)]), (.var 9)])]) [] :: b__law_step.drop 6) := rfl
    have p1 : evB (WT TT (k + 1)) ((b__law_step.drop 3).take 2) (ρs A C cell M N 2 c w) = .nx (ρs A C cell M N 2 c w) := by
      unfold ρs
      clear ec cut1 cut2 ct e
      generalize Tp C = u at *
      generalize N.map D.str = v at *
      simp [b__law_step]
    have p2 : evE (WT TT (k + 1)) (.cmp .Eq (.var 5) (.int 2)) (ρs A C cell M N 2 c w) = .ok .fz (.bl true) := by
      unfold ρs
      simp
    have st : (ρs A C cell M N 2 c w).set 9 (some (false, Tp (fr N c C.length))) = [some (false, A), some (false, Tp C), some (false, .int cell), some (false, .dct M), some (false, .lst (N.map .str)), some (false, .int 2), some (false, .int c), some (false, .str w), none, some (false, Tp (fr N c C.length))] := rfl
    rw [ea, b_app, p1, SRes.thn_nx]
    clear ea p1
    generalize b__law_step.drop 6 = Z
    rw [b_cons, s_ite, p2, x_ifT, b_cons, s_set, e_frz, ec, x_frz, x_set, SRes.thn_nx, st, e, SRes.thn_rt]
  clear ec er lt
  generalize hP : evO (WT TT (k + 1)) (some (.int 1)) = P at *
  generalize hQ : evO (WT TT (k + 1)) none = Q at *
  by_cases h : c % 2 = 0
  · refine ⟨C.drop 1 ++ C.take 1, spin_nd hC 1, spin_len, fun z hz => hN z (spin_mem hz), ?_⟩
    generalize Tp (fr N c C.length) = u1 at *
    generalize Tp (C.drop 1 ++ C.take 1) = u2 at *
    generalize Tp (C.drop 1) = u3 at *
    generalize Tp (C.take 1) = u4 at *
    generalize Tp C = u at *
    generalize N.map D.str = v at *
    simp [h, hP, hQ, cut1, cut2, ct, t2, t3]
  · refine ⟨fr N c C.length, fr_nd hn hl hb, fr_len, fr_mem hl, ?_⟩
    have h' : c % 2 = 1 := by omega
    generalize Tp (fr N c C.length) = u1 at *
    generalize Tp C = u at *
    generalize N.map D.str = v at *
    simp [h', t2, t3]
theorem way_b (k : Nat) (hA : Ask M A C b n) (hw : getK M (.inr w) = some (Tp S)) (hS : S.Nodup) (hC : C.Nodup) (hb : C.length ≤ 900) (hN : ∀ z ∈ C, z ∈ N) {v : Int} (hv : (v == 0) = false ∧ (v == 1) = false ∧ (v == 2) = false ∧ (v == 3) = false) (h4 : ((v == 4) && !C.isEmpty) = false) :
    ∃ d, evB (WT TT (k + 2)) (b__law_step.drop 3) (ρs A C cell M N v c w) = .rt .fz d ∧ Left M N b n (.ok .fz d) := by
  obtain ⟨A', b', n', w', q1, q2, q3, q4, q5⟩ : ∃ A' b' n' w', Ask M A' C b' n' ∧ n' ≤ max n 2 + 1 ∧ op2 ixD (.ok .fz A') (.ok .fz (.int 0)) = .ok .fz (.str w') ∧ b' = after b w' ∧ (WT TT (k + 2)).Φ "_law_beside" [A, Tp C, .str w, .dct M, .int (c / 3)] = .ok .fz (.tup [A', Tp C]) := by
    by_cases h : c / 3 % 3 < 2 ∧ C.length ≤ S.length
    · exact beside1 k hA hw hS hC hb h.1 h.2
    · exact beside2 k hA hw hS hC hb (by
        rw [Bool.and_eq_false_iff, decide_eq_false_iff_not, decide_eq_false_iff_not]
        by_cases h1 : c / 3 % 3 < 2
        · exact .inr fun h2 => h ⟨h1, h2⟩
        · exact .inl h1)
  have cb : callF 5 ((WT TT (k + 2)).Φ "_law_beside") (.ok [(.fz, A), (.fz, Tp C), (.fz, .str w), (.fz, .dct M), (.fz, .int (c / 3))]) = .ok .fz (.tup [A', Tp C]) := callF_ok (ds := [A, Tp C, .str w, .dct M, .int (c / 3)]) rfl rfl q5
  refine rt_left ⟨A', C, b', n', w', q1, q2, q3, q4, hC, hN, ?_⟩
  have n0 := ne_0 (C := C) (m := .fz) (m' := .fz)
  obtain ⟨v0, v1, v2, v3⟩ := hv
  generalize hz : (!C.isEmpty) = z at *
  unfold ρs
  generalize Tp C = u at *
  generalize N.map D.str = v' at *
  cases h5 : (v == 4) with
  | true =>
    rw [h5, Bool.true_and] at h4
    subst h4
    simp [b__law_step, v0, v1, v2, v3, h5, n0, tu0, cb]
  | false => simp [b__law_step, v0, v1, v2, v3, h5, n0, tu0, cb]
end
end K41

namespace K41
open PySem L2 D3
section
variable {M : List (Key × D)} {N C : List Str} {A : D} {b : Bool} {n : Nat} {cell : Int}
theorem st_pre {W : WD} {w : Str} {ws : List Str} (hk : tcKeys [(.fz, .dct M)] = some (.fr, .lst (ws.map .str))) (hw : atI ws (cell / 7 % 3) = some w) (hl : ws.length = 3) :
    evB W (b__law_step.take 3) [some (false, A), some (false, Tp C), some (false, .int cell), some (false, .dct M), some (false, .lst (N.map .str)), none, none, none, none, none] = .nx (ρs A C cell M N (cell % 7) (cell / 7) w) := by
  obtain ⟨j, ej, hj⟩ := md (c := cell / 7) (n := 3) (by decide)
  have ex : op2 ixD (.ok .fr (.lst (ws.map .str))) (.ok .fz (.int (cell / 7 % 3))) = .ok .fz (.str w) := by
    rw [ej] at hw ⊢
    have hj' : j < ws.length := by omega
    have : ws[j]? = some w := by
      rw [← hw]
      exact (atI_nat (List.getElem?_eq_getElem hj')).symm ▸ List.getElem?_eq_getElem hj'
    exact ix_l (atI_nat (by rw [List.getElem?_map, this]; rfl))
  unfold ρs
  generalize Tp C = u at *
  generalize N.map D.str = v at *
  generalize ws.map D.str = v' at *
  simp [b__law_step, hk, ex]
theorem step (k : Nat) (sh : Sh M N) (hA : Ask M A C b n) (hC : C.Nodup) (hN : ∀ z ∈ C, z ∈ N) (cell : Int) : Left M N b n ((WT TT (k + 3)).Φ "_law_step" [A, Tp C, .int cell, .dct M, .lst (N.map .str)]) := by
  have hb : C.length ≤ 11 := by rw [← sh.len]; exact nd_le C N hC hN
  have hsz : sizeLine = 16777216 := sizeLine_eq
  obtain ⟨ws, hl, hk, hS⟩ := sh.ex
  obtain ⟨w, hw, ew⟩ := atI_mod ws (cell / 7) 3 (by rw [hl]; rfl) (by decide)
  obtain ⟨S, s1, s2, s3, s4⟩ := hS w hw
  have p := st_pre (W := WT TT (k + 2)) (A := A) (C := C) (N := N) hk ew hl
  suffices q : ∃ d, evB (WT TT (k + 2)) (b__law_step.drop 3) (ρs A C cell M N (cell % 7) (cell / 7) w) = .rt .fz d ∧ Left M N b n (.ok .fz d) by
    obtain ⟨d, e, r⟩ := q
    have : (WT TT (k + 3)).Φ "_law_step" [A, Tp C, .int cell, .dct M, .lst (N.map .str)] = .ok .fz d := by
      rw [u__law_step]
      refine phi_ok rfl ?_
      show evB (WT TT (k + 2)) b__law_step [some (false, A), some (false, Tp C), some (false, .int cell), some (false, .dct M), some (false, .lst (N.map .str)), none, none, none, none, none] = _
      have ea : b__law_step = b__law_step.take 3 ++ b__law_step.drop 3 := rfl
      rw [ea, b_app, p, SRes.thn_nx, e]
    rw [this]; exact r
  have h : cell % 7 = 0 ∨ cell % 7 = 1 ∨ cell % 7 = 2 ∨ cell % 7 = 3 ∨ cell % 7 = 4 ∨ cell % 7 = 5 ∨ cell % 7 = 6 := by omega
  rcases h with h | h | h | h | h | h | h <;> rw [h]
  · exact way0 (k + 1) hA hC hN
  · exact way1 (k + 1) hA hC (by omega) hN
  · exact way2 (k + 1) hA hC hb hN sh.nd sh.len
  · exact way3 (k + 1) hA s1 s2 s3 hC (by omega) hN
  · cases h0 : C.isEmpty with
    | false => exact way4 (k + 1) hA h0 hC (by omega) hN
    | true => exact way_b k hA s1 s2 hC (by omega) hN ⟨by decide, by decide, by decide, by decide⟩ (by rw [h0]; rfl)
  · exact way_b k hA s1 s2 hC (by omega) hN ⟨by decide, by decide, by decide, by decide⟩ rfl
  · exact way_b k hA s1 s2 hC (by omega) hN ⟨by decide, by decide, by decide, by decide⟩ rfl
end
end K41

namespace K41
open PySem L2 D3
/-! ### the shapes -/
section
variable {N ws : List Str} {h : Int} {M : List (Key × D)} {x0 x6 x7 r8 r9 r10 r11 r12 : Option (Bool × D)}
theorem sll {W : WD} {ρ : Rho} {ds : List D} {e e' : E} {i j : Nat} {m m' : Md} (h : evE W e ρ = .ok m (.int (i : Int))) (h' : evE W e' ρ = .ok m' (.int (j : Int))) {m0 : Md} : slP (.ok m0 (.lst ds)) (evO W (some e)) (evO W (some e')) ρ = .ok .fr (.lst (cutD ds (some (i : Int)) (some (j : Int)))) := by
  simp only [evO, slP, Res.thn_ok, partThn, h, h']
theorem cut_both {ds : List D} {i j : Nat} (hi : i ≤ j) (hj : j ≤ ds.length) : cutD ds (some (i : Int)) (some (j : Int)) = (ds.take j).drop i := by
  unfold cutD
  rw [HT.sIx_nat, HT.sIx_nat, Nat.min_eq_left (show i ≤ ds.length by omega), Nat.min_eq_left hj, List.drop_take]
theorem lay {W : WD} {S : D} {t3 : Int} (hn : N.Nodup) (hl : N.length = 11) (hw : ws.length = 3) (c3 : callF 2 (W.Φ "_law_cell_at") (.ok [(.fz, S), (.fz, .int 3)]) = .ok .fz (.int t3)) (hM : M.length < sizeLine) {i : Nat} (hi : i < 3) :
    ∃ R y6 y7, R.Nodup ∧ (∀ z ∈ R, z ∈ N) ∧ R.length ≤ 4 ∧ evB W b_law_L1 [some (false, S), some (false, .int h), some (false, .lst (N.map .str)), some (false, .lst (ws.map .str)), some (true, .dct M), some (false, .int (i : Int)), x6, x7, r8, r9, r10, r11, r12]
      = .nx [some (false, S), some (false, .int h), some (false, .lst (N.map .str)), some (false, .lst (ws.map .str)), some (true, .dct (putD M (.inr (nth ws i)) (Tp R))), some (false, .int (i : Int)), y6, y7, r8, r9, r10, r11, r12] := by
  have hsz : sizeLine = 16777216 := sizeLine_eq
  obtain ⟨t, et, ht⟩ := md (c := t3 / ((i : Int) + 1)) (n := 7) (by decide)
  have d1 : op2 (fBin .FloorDiv) (.ok .fz (.int t3)) (.ok .fz (.int ((i : Int) + 1))) = .ok .fz (.int (t3 / ((i : Int) + 1))) := x_divS (by omega) (by omega)
  have m1 : op2 (fBin .Mod) (.ok .fz (.int (t3 / ((i : Int) + 1)))) (.ok .fz (.int 7)) = .ok .fz (.int (t : Int)) := by rw [x_mod (by decide), et]
  -- the row
  have h7 : (N.take 7).Nodup := hn.sublist (List.take_sublist _ _)
  have eR : ((N.map D.str).take 7).drop t ++ (N.map D.str).take t = ((N.take 7).drop t ++ (N.take 7).take t).map D.str := by
    rw [List.map_append, List.map_drop, List.map_take, List.map_take, List.map_take, List.take_take, Nat.min_eq_left (by omega)]
  generalize eF : (N.take 7).drop t ++ (N.take 7).take t = F at *
  have fn : F.Nodup := by rw [← eF]; exact spin_nd h7 t
  have fm : ∀ z ∈ F, z ∈ N := fun z hz => by rw [← eF] at hz; exact List.mem_of_mem_take (spin_mem hz)
  obtain ⟨g, hg, eg⟩ : ∃ g : Int, (0 < g ∧ g ≤ 9) ∧ op2 ixD (.ok .fr (.lst [.int 1, .int 3, .int 9])) (.ok .fz (.int (i : Int))) = .ok .fz (.int g) := by
    match i, hi with
    | 0, _ => exact ⟨1, by decide, ix_l (atI_nat (j := 0) rfl)⟩
    | 1, _ => exact ⟨3, by decide, ix_l (atI_nat (j := 1) rfl)⟩
    | 2, _ => exact ⟨9, by decide, ix_l (atI_nat (j := 2) rfl)⟩
  obtain ⟨q, eq, hq⟩ := md (c := h / g) (n := 3) (by decide)
  have d2 : op2 (fBin .FloorDiv) (.ok .fz (.int h)) (.ok .fz (.int g)) = .ok .fz (.int (h / g)) := x_divS hg.1 (by omega)
  have l3 : lstR (.ok [(.fz, .int 1), (.fz, .int 3), (.fz, .int 9)]) = .ok .fr (.lst [.int 1, .int 3, .int 9]) := by rfl
  have ew : op2 ixD (.ok .fz (.lst (ws.map .str))) (.ok .fz (.int (i : Int))) = .ok .fz (.str (nth ws i)) := ix_l (atI_nat (by rw [List.getElem?_map, List.getElem?_eq_getElem (by omega), ← nth_at (by omega)]; rfl))
  refine ⟨F.take (2 + q), some (false, .int (t : Int)), some (false, .lst (F.map .str)), fn.sublist (List.take_sublist _ _), fun z hz => fm z (List.mem_of_mem_take hz), by rw [List.length_take]; omega, ?_⟩
  have q1 : ∀ ρ : Rho, ρ[6]? = some (some (false, .int (t : Int))) → slP (.ok .fz (.lst (N.map .str))) (evO W (some (.var 6))) (evO W (some (.int 7))) ρ = .ok .fr (.lst (((N.map .str).take 7).drop t)) := fun ρ hρ => by
    rw [sll (m := .fz) (m' := .fz) (i := t) (j := 7) (by rw [e_var]; unfold getS; rw [hρ]) (by rw [e_int]; rfl), cut_both (by omega) (by rw [List.length_map]; omega)]
  have q2 : ∀ ρ : Rho, ρ[6]? = some (some (false, .int (t : Int))) → slP (.ok .fz (.lst (N.map .str))) (evO W none) (evO W (some (.var 6))) ρ = .ok .fr (.lst ((N.map .str).take t)) := fun ρ hρ => sll_hi (m := .fz) (by rw [e_var]; unfold getS; rw [hρ])
  have ca := x_catL (m := .fr) (n := .fr) (x := ((N.map D.str).take 7).drop t) (y := (N.map .str).take t) (by rw [List.length_drop, List.length_take, List.length_take, List.length_map]; omega)
  rw [eR] at ca
  have q3 : ∀ ρ : Rho, ρ[1]? = some (some (false, .int h)) → ρ[5]? = some (some (false, .int (i : Int))) → slP (.ok .fz (.lst (F.map .str))) (evO W none) (evO W (some (.bin .Add (.int 2) (.bin .Mod (.bin .FloorDiv (.var 1) (.ix (.lst [(.int 1), (.int 3), (.int 9)]) (.var 5))) (.int 3))))) ρ = .ok .fr (.lst ((F.take (2 + q)).map .str)) := fun ρ h1 h5 => by
    rw [List.map_take]
    refine sll_hi (m := .fz) ?_
    have g1 : getS ρ 1 = .ok .fz (.int h) := by unfold getS; rw [h1]
    have g5 : getS ρ 5 = .ok .fz (.int (i : Int)) := by unfold getS; rw [h5]
    rw [show ((2 + q : Nat) : Int) = 2 + (q : Int) by omega, ← eq]
    simp [g1, g5, l3, eg, d2]
  have p1 := q1 [some (false, S), some (false, .int h), some (false, .lst (N.map .str)), some (false, .lst (ws.map .str)), some (true, .dct M), some (false, .int (i : Int)), some (false, .int (t : Int)), x7, r8, r9, r10, r11, r12] rfl
  have p2 := q2 [some (false, S), some (false, .int h), some (false, .lst (N.map .str)), some (false, .lst (ws.map .str)), some (true, .dct M), some (false, .int (i : Int)), some (false, .int (t : Int)), x7, r8, r9, r10, r11, r12] rfl
  have p3 := q3 [some (false, S), some (false, .int h), some (false, .lst (N.map .str)), some (false, .lst (ws.map .str)), some (true, .dct M), some (false, .int (i : Int)), some (false, .int (t : Int)), some (false, .lst (F.map .str)), r8, r9, r10, r11, r12] rfl rfl
  clear q1 q2 q3 eR
  have ea : b_law_L1 = b_law_L1.take 2 ++ [.dput 4 (.ix (.var 3) (.var 5)) (.tcall .tuple [(.slice (.var 7) none (some (.bin .Add (.int 2) (.bin .Mod (.bin .FloorDiv (.var 1) (.ix (.lst [(.int 1), (.int 3), (.int 9)]) (.var 5))) (.int 3)))))])] := rfl
  have b1 : evB W (b_law_L1.take 2) [some (false, S), some (false, .int h), some (false, .lst (N.map .str)), some (false, .lst (ws.map .str)), some (true, .dct M), some (false, .int (i : Int)), x6, x7, r8, r9, r10, r11, r12] = .nx [some (false, S), some (false, .int h), some (false, .lst (N.map .str)), some (false, .lst (ws.map .str)), some (true, .dct M), some (false, .int (i : Int)), some (false, .int (t : Int)), some (false, .lst (F.map .str)), r8, r9, r10, r11, r12] := by
    clear p3
    generalize hA : evO W (some (.var 6)) = A at *
    generalize hB : evO W (some (.int 7)) = B at *
    generalize hC : evO W none = C at *
    generalize F.map D.str = v1 at *
    generalize ((N.map D.str).take 7).drop t = v2 at *
    generalize (N.map D.str).take t = v3 at *
    generalize N.map D.str = v4 at *
    generalize ws.map D.str = v5 at *
    simp [b_law_L1, c3, d1, m1, hA, hB, hC, p1, p2, ca]
  rw [ea, b_app, b1, SRes.thn_nx]
  clear ea b1 p1 p2 ca
  have ek : evE W (.ix (.var 3) (.var 5)) [some (false, S), some (false, .int h), some (false, .lst (N.map .str)), some (false, .lst (ws.map .str)), some (true, .dct M), some (false, .int (i : Int)), some (false, .int (t : Int)), some (false, .lst (F.map .str)), r8, r9, r10, r11, r12] = .ok .fz (.str (nth ws i)) := by
    generalize ws.map D.str = v5 at *
    generalize N.map D.str = v4 at *
    simp [ew]
  have ev : evE W (.tcall .tuple [(.slice (.var 7) none (some (.bin .Add (.int 2) (.bin .Mod (.bin .FloorDiv (.var 1) (.ix (.lst [(.int 1), (.int 3), (.int 9)]) (.var 5))) (.int 3)))))]) [some (false, S), some (false, .int h), some (false, .lst (N.map .str)), some (false, .lst (ws.map .str)), some (true, .dct M), some (false, .int (i : Int)), some (false, .int (t : Int)), some (false, .lst (F.map .str)), r8, r9, r10, r11, r12] = .ok .fz (Tp (F.take (2 + q))) := by
    rw [e_tcall, es_cons, es_nil, e_slice, e_var]
    show callR (Ty.f .tuple) (consL (slP (.ok .fz (.lst (F.map .str))) _ _ _) (.ok [])) = _
    rw [p3]
    rfl
  rw [b_cons, s_dput, ek, ev]
  show (if M.length < sizeLine then SRes.nx (List.set [some (false, S), some (false, .int h), some (false, .lst (N.map .str)), some (false, .lst (ws.map .str)), some (true, .dct M), some (false, .int (i : Int)), some (false, .int (t : Int)), some (false, .lst (F.map .str)), r8, r9, r10, r11, r12] 4 (some (true, .dct (putD M (.inr (nth ws i)) (Tp (F.take (2 + q))))))) else .stuck).thn _ = _
  rw [if_pos hM, SRes.thn_nx, b_nil]
  rfl
end
theorem put_new {M : List (Key × D)} {k : Key} {d : D} (h : ∀ kv ∈ M, kv.1 ≠ k) : putD M k d = M ++ [(k, d)] := by
  unfold putD
  rw [if_neg]
  rw [List.any_eq_true]
  rintro ⟨kv, hkv, e⟩
  exact h kv hkv (of_decide_eq_true e)
theorem hits_T {kb : List (Key × D)} : ∀ r : List (Key × D), (∀ kv ∈ r, getK kb kv.1 = some kv.2 ∧ ∃ S, kv.2 = Tp S) → hitsD kb r = some true
  | [], _ => rfl
  | (k, d) :: r, h => by
    obtain ⟨h1, S, h2⟩ := h (k, d) List.mem_cons_self
    have ih := hits_T r fun kv hkv => h kv (List.mem_cons_of_mem _ hkv)
    dsimp only at h1 h2
    subst h2
    unfold hitsD
    rw [h1, ih]
    simp [toPy, toPy_T, shal_T, PyData.eqv, eqv_T]
def sh3 (w0 w1 w2 : Str) (S0 S1 S2 : List Str) : List (Key × D) := [(.inr w0, Tp S0), (.inr w1, Tp S1), (.inr w2, Tp S2)]
theorem sh3_get {w0 w1 w2 : Str} {S0 S1 S2 : List Str} (h01 : w0 ≠ w1) (h02 : w0 ≠ w2) (h12 : w1 ≠ w2) : getK (sh3 w0 w1 w2 S0 S1 S2) (.inr w0) = some (Tp S0) ∧ getK (sh3 w0 w1 w2 S0 S1 S2) (.inr w1) = some (Tp S1) ∧ getK (sh3 w0 w1 w2 S0 S1 S2) (.inr w2) = some (Tp S2) := by
  refine ⟨?_, ?_, ?_⟩ <;> simp [getK, sh3, List.find?_cons, h01, h02, h12]
theorem sh3_keys {w0 w1 w2 : Str} {S0 S1 S2 : List Str} (h0 : strK' w0) (h1 : strK' w1) (h2 : strK' w2) : tcKeys [(.fz, .dct (sh3 w0 w1 w2 S0 S1 S2))] = some (.fr, .lst ([w0, w1, w2].map .str)) := by
  have hsz : sizeLine = 16777216 := sizeLine_eq
  have k : ∀ w, strK' w → keyK (.inr w) = true := fun w hw => by
    show (decide (w.length ≤ sizeLine) && PyData.strOk w) = true
    rw [hw.2, decide_eq_true (by have := hw.1; omega)]; rfl
  show (if ((sh3 w0 w1 w2 S0 S1 S2).all fun kv => keyK kv.1) = true then some (Md.fr, D.lst ((sh3 w0 w1 w2 S0 S1 S2).map fun kv => keyT kv.1)) else none) = _
  rw [if_pos (by simp [sh3, k _ h0, k _ h1, k _ h2])]
  rfl
end K41

namespace K41
open PySem L2 D3
theorem forS_rem {k : D → Rho → Option Rho} {body : Rho → SRes} (I : Nat → Rho → Prop) : ∀ {ds : List D} {ρ : Rho}, (∀ n, ∀ d ∈ ds, ∀ ρ, I (n + 1) ρ → ∃ ρ1 ρ2, k d ρ = some ρ1 ∧ body ρ1 = .nx ρ2 ∧ I n ρ2) → I ds.length ρ → ∃ ρ', forS k body ds ρ = .nx ρ' ∧ I 0 ρ'
  | [], ρ, _, h => ⟨ρ, rfl, h⟩
  | d :: ds, ρ, hs, h => by
    obtain ⟨ρ1, ρ2, e1, e2, h2⟩ := hs ds.length d List.mem_cons_self ρ h
    obtain ⟨ρ', e3, h3⟩ := forS_rem I (fun n d hd => hs n d (List.mem_cons_of_mem _ hd)) h2
    refine ⟨ρ', ?_, h3⟩
    unfold forS
    rw [e1]
    dsimp only
    rw [e2]; exact e3
section
variable {W : WD} {S : D} {h c1 c2 : Int} {r3 r4 r5 r6 r7 r8 r9 r10 r11 r12 : Option (Bool × D)}
theorem la {L1 L2 : List D} (e0 : callF 2 (W.Φ "_law_cell_at") (.ok [(.fz, S), (.fz, .int 0)]) = .ok .fz (.int h)) (e1 : callF 2 (W.Φ "_law_cell_at") (.ok [(.fz, S), (.fz, .int 1)]) = .ok .fz (.int c1)) (e2 : callF 2 (W.Φ "_law_cell_at") (.ok [(.fz, S), (.fz, .int 2)]) = .ok .fz (.int c2))
    (n1 : callF 2 (W.Φ "_law_names") (.ok [(.fz, .int c1), (.fz, .int 11)]) = .ok .fr (.lst L1)) (n2 : callF 2 (W.Φ "_law_names") (.ok [(.fz, .int c2), (.fz, .int 3)]) = .ok .fr (.lst L2)) {x1 x2 x3 : Option (Bool × D)} :
    evB W (b_law.take 3) [some (false, S), x1, x2, x3, r4, r5, r6, r7, r8, r9, r10, r11, r12] = .nx [some (false, S), some (false, .int h), some (false, .lst L1), some (false, .lst L2), r4, r5, r6, r7, r8, r9, r10, r11, r12] := by
  have ea : b_law.take 3 = [.set 1 (.frz (.call "_law_cell_at" 2 [(.var 0), (.int 0)])), .set 2 (.frz (.call "_law_names" 2 [(.frz (.call "_law_cell_at" 2 [(.var 0), (.int 1)])), (.int 11)])), .set 3 (.frz (.call "_law_names" 2 [(.frz (.call "_law_cell_at" 2 [(.var 0), (.int 2)])), (.int 3)]))] := rfl
  rw [ea]
  clear ea
  simp [e0, e1, e2, n1, n2]
theorem range3 : rangeD 0 3 = [.int ((0 : Nat) : Int), .int ((1 : Nat) : Int), .int ((2 : Nat) : Int)] := rfl
theorem ld {N : List Str} {w0 w1 w2 : Str} {t3 : Int} (hn : N.Nodup) (hl : N.length = 11) (h01 : w0 ≠ w1) (h02 : w0 ≠ w2) (h12 : w1 ≠ w2) (c3 : callF 2 (W.Φ "_law_cell_at") (.ok [(.fz, S), (.fz, .int 3)]) = .ok .fz (.int t3)) :
    ∃ S0 S1 S2 y5 y6 y7, (∀ R ∈ [S0, S1, S2], R.Nodup ∧ (∀ z ∈ R, z ∈ N) ∧ R.length ≤ 4) ∧ evB W ((b_law.drop 3).take 3) [some (false, S), some (false, .int h), some (false, .lst (N.map .str)), some (false, .lst ([w0, w1, w2].map .str)), r4, r5, r6, r7, r8, r9, r10, r11, r12]
      = .nx [some (false, S), some (false, .int h), some (false, .lst (N.map .str)), some (false, .lst ([w0, w1, w2].map .str)), some (false, .dct (sh3 w0 w1 w2 S0 S1 S2)), y5, y6, y7, r8, r9, r10, r11, r12] := by
  have hsz : sizeLine = 16777216 := sizeLine_eq
  obtain ⟨S0, a6, a7, p0, q0, l0, e0⟩ := lay (W := W) (S := S) (h := h) (M := []) (N := N) (ws := [w0, w1, w2]) (x6 := r6) (x7 := r7) (r8 := r8) (r9 := r9) (r10 := r10) (r11 := r11) (r12 := r12) hn hl rfl c3 (by simp; omega) (i := 0) (by decide)
  rw [put_new (by simp)] at e0
  obtain ⟨S1, b6, b7, p1, q1, l1, e1⟩ := lay (W := W) (S := S) (h := h) (M := [] ++ [(.inr (nth [w0, w1, w2] 0), Tp S0)]) (N := N) (ws := [w0, w1, w2]) (x6 := a6) (x7 := a7) (r8 := r8) (r9 := r9) (r10 := r10) (r11 := r11) (r12 := r12) hn hl rfl c3 (by simp; omega) (i := 1) (by decide)
  have n0 : nth [w0, w1, w2] 0 = w0 := rfl
  have n1 : nth [w0, w1, w2] 1 = w1 := rfl
  have n2 : nth [w0, w1, w2] 2 = w2 := rfl
  rw [put_new (by rw [n0, n1]; simp [h01])] at e1
  obtain ⟨S2, d6, d7, p2, q2, l2, e2⟩ := lay (W := W) (S := S) (h := h) (M := [] ++ [(.inr (nth [w0, w1, w2] 0), Tp S0)] ++ [(.inr (nth [w0, w1, w2] 1), Tp S1)]) (N := N) (ws := [w0, w1, w2]) (x6 := b6) (x7 := b7) (r8 := r8) (r9 := r9) (r10 := r10) (r11 := r11) (r12 := r12) hn hl rfl c3 (by simp; omega) (i := 2) (by decide)
  rw [put_new (by rw [n0, n1, n2]; simp [h02, h12])] at e2
  refine ⟨S0, S1, S2, some (false, .int ((2 : Nat) : Int)), d6, d7, fun R hR => ?_, ?_⟩
  · simp only [List.mem_cons, List.not_mem_nil, or_false] at hR
    rcases hR with rfl | rfl | rfl
    · exact ⟨p0, q0, l0⟩
    · exact ⟨p1, q1, l1⟩
    · exact ⟨p2, q2, l2⟩
  rw [n0] at e0
  rw [n0, n1] at e1
  rw [n0, n1, n2] at e2
  have er := rngI (m := .fz) (n := 3) (by decide) (by decide)
  have ea : (b_law.drop 3).take 3 = [.set 4 .dnew, .for (.rng1 (.int 3)) (.nm 5) b_law_L1, .frzV 4] := rfl
  rw [ea]
  clear ea
  have ef : forR (.ok .fz (.lst (rangeD 0 3))) [some (false, S), some (false, .int h), some (false, .lst (N.map .str)), some (false, .lst ([w0, w1, w2].map .str)), some (true, .dct []), r5, r6, r7, r8, r9, r10, r11, r12] (setG (.nm 5)) (evB W b_law_L1) = .nx [some (false, S), some (false, .int h), some (false, .lst (N.map .str)), some (false, .lst ([w0, w1, w2].map .str)), some (true, .dct (sh3 w0 w1 w2 S0 S1 S2)), some (false, .int ((2 : Nat) : Int)), d6, d7, r8, r9, r10, r11, r12] := by
    rw [range3]
    show forS (setG (.nm 5)) (evB W b_law_L1) [.int ((0 : Nat) : Int), .int ((1 : Nat) : Int), .int ((2 : Nat) : Int)] _ = _
    have st : ∀ (i : Int) (M : D) (x5 x6 x7 : Option (Bool × D)), setG (.nm 5) (.int i) [some (false, S), some (false, .int h), some (false, .lst (N.map .str)), some (false, .lst ([w0, w1, w2].map .str)), some (true, M), x5, x6, x7, r8, r9, r10, r11, r12] = some [some (false, S), some (false, .int h), some (false, .lst (N.map .str)), some (false, .lst ([w0, w1, w2].map .str)), some (true, M), some (false, .int i), x6, x7, r8, r9, r10, r11, r12] := fun i M x5 x6 x7 => rfl
    rw [forS, st]
    dsimp only
    rw [e0]
    dsimp only
    rw [forS, st]
    dsimp only
    rw [e1]
    dsimp only
    rw [forS, st]
    dsimp only
    rw [e2]
    dsimp only
    rw [forS]
    rfl
  generalize rangeD 0 (3 : Int) = R at *
  generalize b_law_L1 = B at *
  generalize sh3 w0 w1 w2 S0 S1 S2 = M at *
  generalize [w0, w1, w2].map D.str = v5 at *
  generalize N.map D.str = v4 at *
  have st : [some (false, S), some (false, .int h), some (false, .lst v4), some (false, .lst v5), r4, r5, r6, r7, r8, r9, r10, r11, r12].set 4 (some (true, D.dct [])) = [some (false, S), some (false, .int h), some (false, .lst v4), some (false, .lst v5), some (true, .dct []), r5, r6, r7, r8, r9, r10, r11, r12] := rfl
  have g : rng1R (consL (evE W (.int 3) [some (false, S), some (false, .int h), some (false, .lst v4), some (false, .lst v5), some (true, .dct []), r5, r6, r7, r8, r9, r10, r11, r12]) (.ok [])) = .ok .fz (.lst R) := by rw [e_int]; exact er
  rw [b_cons, s_set, e_dnew, x_setr, SRes.thn_nx, st, b_cons, s_for, e_rng1, g, ef, SRes.thn_nx, b_cons, s_frzV]
  have fr : frzS [some (false, S), some (false, .int h), some (false, .lst v4), some (false, .lst v5), some (true, .dct M), some (false, .int ((2 : Nat) : Int)), d6, d7, r8, r9, r10, r11, r12] 4 = .nx [some (false, S), some (false, .int h), some (false, .lst v4), some (false, .lst v5), some (false, .dct M), some (false, .int ((2 : Nat) : Int)), d6, d7, r8, r9, r10, r11, r12] := rfl
  rw [fr, SRes.thn_nx, b_nil]
theorem le {M : List (Key × D)} {v4 v5 : List D} {w : Str} {C : List Str} (hw : op2 ixD (.ok .fz (.lst v5)) (.ok .fz (.int (h / 27 % 3))) = .ok .fz (.str w)) (hg : getK M (.inr w) = some (Tp C)) :
    evB W ((b_law.drop 6).take 3) [some (false, S), some (false, .int h), some (false, .lst v4), some (false, .lst v5), some (false, .dct M), r5, r6, r7, r8, r9, r10, r11, r12]
      = .nx [some (false, S), some (false, .int h), some (false, .lst v4), some (false, .lst v5), some (false, .dct M), r5, r6, r7, some (false, .tup [.str "table", .str w]), some (false, Tp C), some (false, .bl true), r11, r12] := by
  have ea : (b_law.drop 6).take 3 = [.set 8 (.tup [(.str "table"), (.ix (.var 3) (.bin .Mod (.bin .FloorDiv (.var 1) (.int 27)) (.int 3)))]), .set 9 (.dix (.var 4) (.ix (.var 3) (.bin .Mod (.bin .FloorDiv (.var 1) (.int 27)) (.int 3)))), .set 10 (.bl true)] := rfl
  rw [ea]
  clear ea
  have gd := getK_dix hg (m := .fz) (m' := .fz)
  generalize Tp C = u at *
  simp [hw, gd, t2]
end
theorem cut_len (xs : List D) : (cutD xs (some 4) (some 16)).length ≤ 12 := by
  unfold cutD
  have e1 : HT.sIx xs.length 0 (some 4) = min 4 xs.length := HT.sIx_nat _ _ 4
  have e2 : HT.sIx xs.length xs.length (some 16) = min 16 xs.length := HT.sIx_nat _ _ 16
  rw [e1, e2, List.length_take]
  omega
theorem cut_mem {ns : List Int} {d : D} (h : d ∈ cutD (ns.map D.int) (some 4) (some 16)) : ∃ c, d = .int c := by
  have := List.mem_of_mem_drop (List.mem_of_mem_take h)
  obtain ⟨c, _, rfl⟩ := List.mem_map.mp this
  exact ⟨c, rfl⟩
theorem lturn (k : Nat) {M : List (Key × D)} {N C : List Str} {A S : D} {b : Bool} {n : Nat} (sh : Sh M N) (hA : Ask M A C b n) (hC : C.Nodup) (hN : ∀ z ∈ C, z ∈ N) (cell : Int) {x1 x3 x5 x6 x7 r12 : Option (Bool × D)} :
    ∃ A' C' b' n', Ask M A' C' b' n' ∧ n' ≤ max n 2 + 1 ∧ C'.Nodup ∧ (∀ z ∈ C', z ∈ N) ∧ evB (WT TT (k + 3)) b_law_L2 [some (false, S), x1, some (false, .lst (N.map .str)), x3, some (false, .dct M), x5, x6, x7, some (false, A), some (false, Tp C), some (false, .bl b), some (false, .int cell), r12]
      = .nx [some (false, S), x1, some (false, .lst (N.map .str)), x3, some (false, .dct M), x5, x6, x7, some (false, A'), some (false, Tp C'), some (false, .bl b'), some (false, .int cell), r12] := by
  obtain ⟨A', C', b', n', w', q1, q2, q3, q4, q5, q6, q7⟩ := step k sh hA hC hN cell
  have c1 : callF 5 ((WT TT (k + 3)).Φ "_law_step") (.ok [(.fz, A), (.fz, Tp C), (.fz, .int cell), (.fz, .dct M), (.fz, .lst (N.map .str))]) = .ok .fz (.tup [A', Tp C']) := callF_ok (ds := [A, Tp C, .int cell, .dct M, .lst (N.map .str)]) rfl rfl q7
  refine ⟨A', C', b', n', q1, q2, q5, q6, ?_⟩
  rw [q4]
  clear q7
  unfold after
  generalize Tp C' = u' at *
  generalize Tp C = u at *
  generalize N.map D.str = v at *
  cases hw : (w' == Str.ofString "leave") with
  | true => simp [b_law_L2, asgS, c1, q3, hw]
  | false => simp [b_law_L2, asgS, c1, q3, hw]
end K41

namespace K41
open PySem L2 D3
theorem lloop (k : Nat) {M : List (Key × D)} {N C : List Str} {A : D} {b : Bool} {ns : List Int} (sh : Sh M N) (hA : Ask M A C b 0) (hC : C.Nodup) (hN : ∀ z ∈ C, z ∈ N) {x1 x3 x5 x6 x7 r11 r12 : Option (Bool × D)} :
    ∃ A' C' b' n' y11, Ask M A' C' b' n' ∧ n' ≤ 14 ∧ C'.Nodup ∧ (∀ z ∈ C', z ∈ N) ∧ evB (WT TT (k + 3)) ((b_law.drop 9).take 1) [some (false, .lst (ns.map .int)), x1, some (false, .lst (N.map .str)), x3, some (false, .dct M), x5, x6, x7, some (false, A), some (false, Tp C), some (false, .bl b), r11, r12]
      = .nx [some (false, .lst (ns.map .int)), x1, some (false, .lst (N.map .str)), x3, some (false, .dct M), x5, x6, x7, some (false, A'), some (false, Tp C'), some (false, .bl b'), y11, r12] := by
  obtain ⟨ρ', e, I⟩ := forS_rem (k := setG (.nm 11)) (body := evB (WT TT (k + 3)) b_law_L2) (ds := cutD (ns.map D.int) (some 4) (some 16)) (ρ := [some (false, .lst (ns.map .int)), x1, some (false, .lst (N.map .str)), x3, some (false, .dct M), x5, x6, x7, some (false, A), some (false, Tp C), some (false, .bl b), r11, r12])
    (fun r ρ => ∃ A C b n y, Ask M A C b n ∧ C.Nodup ∧ (∀ z ∈ C, z ∈ N) ∧ max n 2 + r ≤ 14 ∧ ρ = [some (false, .lst (ns.map .int)), x1, some (false, .lst (N.map .str)), x3, some (false, .dct M), x5, x6, x7, some (false, A), some (false, Tp C), some (false, .bl b), y, r12])
    (fun r d hd ρ hρ => by
      obtain ⟨A, C, b, n, y, h1, h2, h3, h4, rfl⟩ := hρ
      obtain ⟨c, rfl⟩ := cut_mem hd
      obtain ⟨A', C', b', n', q1, q2, q3, q4, q5⟩ := lturn k (S := .lst (ns.map .int)) sh h1 h2 h3 c (x1 := x1) (x3 := x3) (x5 := x5) (x6 := x6) (x7 := x7) (r12 := r12)
      exact ⟨_, _, by rw [sg_nm]; rfl, q5, A', C', b', n', _, q1, q3, q4, by omega, rfl⟩)
    ⟨A, C, b, 0, r11, hA, hC, hN, by have := cut_len (ns.map D.int); omega, rfl⟩
  obtain ⟨A', C', b', n', y, q1, q2, q3, q4, rfl⟩ := I
  refine ⟨A', C', b', n', y, q1, by omega, q2, q3, ?_⟩
  have ea : (b_law.drop 9).take 1 = [.for (.items (.slice (.var 0) (some (.int 4)) (some (.int 16)))) (.nm 11) b_law_L2] := rfl
  rw [ea]
  clear ea
  have sl : evE (WT TT (k + 3)) (.items (.slice (.var 0) (some (.int 4)) (some (.int 16)))) [some (false, .lst (ns.map .int)), x1, some (false, .lst (N.map .str)), x3, some (false, .dct M), x5, x6, x7, some (false, A), some (false, Tp C), some (false, .bl b), r11, r12] = .ok .fz (.lst (cutD (ns.map D.int) (some 4) (some 16))) := by
    rw [e_items, e_slice, e_var]
    show itemsR (frzR (slP (.ok .fz (.lst (ns.map .int))) _ _ _)) = _
    rw [sll (m := .fz) (m' := .fz) (i := 4) (j := 16) (by rw [e_int]; rfl) (by rw [e_int]; rfl)]
    rfl
  have e' : forR (.ok .fz (.lst (cutD (ns.map D.int) (some 4) (some 16)))) [some (false, .lst (ns.map .int)), x1, some (false, .lst (N.map .str)), x3, some (false, .dct M), x5, x6, x7, some (false, A), some (false, Tp C), some (false, .bl b), r11, r12] (setG (.nm 11)) (evB (WT TT (k + 3)) b_law_L2) = _ := e
  rw [b_cons, s_for, sl, e', SRes.thn_nx, b_nil]
theorem lend {W : WD} {A M' : D} {M : List (Key × D)} {C : D} {b : Bool} {x0 x1 x2 x3 x5 x6 x7 x11 r12 : Option (Bool × D)} (c1 : callF 2 (W.Φ "columns_of") (.ok [(.fz, A), (.fz, .dct M)]) = .ok .fz C) (c2 : callF 1 (W.Φ "plain") (.ok [(.fz, A)]) = .ok .fz (.bl b))
    (a1 : callF 2 (W.Φ "_law_alike") (.ok [(.fz, C), (.fz, C)]) = .ok .fz (.bl true)) (a2 : callF 2 (W.Φ "_law_alike") (.ok [(.fz, .bl b), (.fz, .bl b)]) = .ok .fz (.bl true)) (hq : op2 (eqN true) (.ok .fz (.dct M)) (.ok .fz (.dct M)) = .ok .fz (.bl false)) :
    evB W (b_law.drop 10) [x0, x1, x2, x3, some (false, .dct M), x5, x6, x7, some (false, A), some (false, C), some (false, .bl b), x11, r12] = .rt .fz (.bl true) := by
  have ea : b_law.drop 10 = [.set 12 (.frz (.tcall .dict [(.var 4)])),
      .ite (.orL [(.not (.tru (.call "_law_alike" 2 [(.frz (.call "columns_of" 2 [(.var 8), (.var 12)])), (.var 9)]))), (.not (.tru (.call "_law_alike" 2 [(.frz (.call "plain" 1 [(.var 8)])), (.var 10)])))]) [.ret (.bl false)] [],
      .ite (.deq true (.var 12) (.var 4)) [.ret (.bl false)] [],
      .ret (.andL [(.call "_law_alike" 2 [(.frz (.call "columns_of" 2 [(.var 8), (.var 12)])), (.var 9)]), (.call "_law_alike" 2 [(.frz (.call "plain" 1 [(.var 8)])), (.var 10)])])] := rfl
  rw [ea]
  clear ea
  have dc : tcDict [(.fz, .dct M)] = some (.fr, .dct M) := rfl
  simp [dc, c1, c2, a1, a2, hq]
def kk : Nat := 30
theorem main (ns : List Int) (hn : ns.length ≤ 63) : (WT TT (kk + 1)).Φ ("law" : Str) (lawIn ns) = .ok .fz (.bl true) := by
  rw [u_law]
  refine phi_ok rfl ?_
  show evB (WT TT 30) b_law [some (false, .lst (ns.map .int)), none, none, none, none, none, none, none, none, none, none, none, none] = _
  have c0 := cellC 29 ns (i := 0) (by decide)
  have c1 := cellC 29 ns (i := 1) (by decide)
  have c2 := cellC 29 ns (i := 2) (by decide)
  have c3 := cellC 29 ns (i := 3) (by decide)
  obtain ⟨N, n1, n2, _, n4⟩ := names 29 (ce ns 1) (n := 11) (by decide)
  obtain ⟨ws, v1, v2, v3, v4⟩ := names 29 (ce ns 2) (n := 3) (by decide)
  have m1 : callF 2 ((WT TT 30).Φ "_law_names") (.ok [(.fz, .int (ce ns 1)), (.fz, .int 11)]) = .ok .fr (.lst (N.map .str)) := callG (ds := [.int (ce ns 1), .int 11]) rfl rfl n4
  have m2 : callF 2 ((WT TT 30).Φ "_law_names") (.ok [(.fz, .int (ce ns 2)), (.fz, .int 3)]) = .ok .fr (.lst (ws.map .str)) := callG (ds := [.int (ce ns 2), .int 3]) rfl rfl v4
  obtain ⟨w0, w1, w2, rfl⟩ : ∃ w0 w1 w2, ws = [w0, w1, w2] := by
    match ws, v1 with
    | [a, b, c], _ => exact ⟨a, b, c, rfl⟩
  have nd : w0 ≠ w1 ∧ w0 ≠ w2 ∧ w1 ≠ w2 := by
    simp [List.nodup_cons] at v2
    exact ⟨v2.1.1, v2.1.2, v2.2⟩
  obtain ⟨h01, h02, h12⟩ := nd
  generalize ce ns 0 = h at *
  have e1 := la c0 c1 c2 m1 m2 (x1 := none) (x2 := none) (x3 := none) (r4 := none) (r5 := none) (r6 := none) (r7 := none) (r8 := none) (r9 := none) (r10 := none) (r11 := none) (r12 := none)
  obtain ⟨S0, S1, S2, y5, y6, y7, hS, e2⟩ := ld (W := WT TT 30) (S := .lst (ns.map .int)) (h := h) n2 n1 h01 h02 h12 c3 (r4 := none) (r5 := none) (r6 := none) (r7 := none) (r8 := none) (r9 := none) (r10 := none) (r11 := none) (r12 := none)
  obtain ⟨g0, g1, g2⟩ := sh3_get (S0 := S0) (S1 := S1) (S2 := S2) h01 h02 h12
  have k3 := sh3_keys (S0 := S0) (S1 := S1) (S2 := S2) (v3 w0 (by simp)) (v3 w1 (by simp)) (v3 w2 (by simp))
  have s0 := hS S0 (by simp)
  have s1 := hS S1 (by simp)
  have s2 := hS S2 (by simp)
  have all : ∀ w ∈ [w0, w1, w2], ∃ R, getK (sh3 w0 w1 w2 S0 S1 S2) (.inr w) = some (Tp R) ∧ R.Nodup ∧ (∀ z ∈ R, z ∈ N) ∧ R.length ≤ 4 := fun w hw => by
    simp only [List.mem_cons, List.not_mem_nil, or_false] at hw
    rcases hw with rfl | rfl | rfl
    · exact ⟨S0, g0, s0⟩
    · exact ⟨S1, g1, s1⟩
    · exact ⟨S2, g2, s2⟩
  have sh : Sh (sh3 w0 w1 w2 S0 S1 S2) N := ⟨⟨[w0, w1, w2], rfl, k3, all⟩, n2, n1⟩
  obtain ⟨w, hw, ew⟩ := atI_mod [w0, w1, w2] (h / 27) 3 rfl (by decide)
  obtain ⟨C, cg, cn, cs, _⟩ := all w hw
  have ex : op2 ixD (.ok .fz (.lst ([w0, w1, w2].map .str))) (.ok .fz (.int (h / 27 % 3))) = .ok .fz (.str w) := by
    obtain ⟨j, ej, hj⟩ := md (c := h / 27) (n := 3) (by decide)
    rw [ej] at ew ⊢
    have hj' : j < [w0, w1, w2].length := by simp; omega
    have : [w0, w1, w2][j]? = some w := by
      rw [← ew]
      exact (atI_nat (List.getElem?_eq_getElem hj')).symm ▸ List.getElem?_eq_getElem hj'
    exact ix_l (atI_nat (by rw [List.getElem?_map, this]; rfl))
  have hq : op2 (eqN true) (.ok .fz (.dct (sh3 w0 w1 w2 S0 S1 S2))) (.ok .fz (.dct (sh3 w0 w1 w2 S0 S1 S2))) = .ok .fz (.bl false) := op2_of (by
    have : hitsD (sh3 w0 w1 w2 S0 S1 S2) (sh3 w0 w1 w2 S0 S1 S2) = some true := hits_T _ fun kv hkv => by
      simp only [sh3, List.mem_cons, List.not_mem_nil, or_false] at hkv
      rcases hkv with rfl | rfl | rfl
      · exact ⟨g0, S0, rfl⟩
      · exact ⟨g1, S1, rfl⟩
      · exact ⟨g2, S2, rfl⟩
    show (hitsD _ _).map _ = _
    rw [this]; simp)
  generalize sh3 w0 w1 w2 S0 S1 S2 = M at *
  have e3 := le (W := WT TT 30) (S := .lst (ns.map .int)) (v4 := N.map .str) ex cg (r5 := y5) (r6 := y6) (r7 := y7) (r8 := none) (r9 := none) (r10 := none) (r11 := none) (r12 := none)
  obtain ⟨A', C', b', n', y11, q1, q2, q3, q4, e4⟩ := lloop 27 (ns := ns) sh (.table cg) cn cs (x1 := some (false, .int h)) (x3 := some (false, .lst ([w0, w1, w2].map .str))) (x5 := y5) (x6 := y6) (x7 := y7) (r11 := none) (r12 := none)
  have hb : C'.length ≤ 11 := by rw [← n1]; exact nd_le C' N q3 q4
  have p1 := cols_ok q1 q2
  have p2 := plain_ok q1 q2
  have a1 := alike 1 (.tup 0 (C'.map .str) (by rw [List.length_map]; omega) fun d hd => by obtain ⟨z, _, rfl⟩ := List.mem_map.mp hd; exact .str _ _) 30 (by decide)
  have a2 := alike 0 (.bl 0 b') 30 (by decide)
  have e5 := lend (W := WT TT 30) (M' := .non) (M := M) (x0 := some (false, .lst (ns.map .int))) (x1 := some (false, .int h)) (x2 := some (false, .lst (N.map .str))) (x3 := some (false, .lst ([w0, w1, w2].map .str))) (x5 := y5) (x6 := y6) (x7 := y7) (x11 := y11) (r12 := none) (call2 p1) (call1 p2) (call2 a1) (call2 a2) hq
  have ea : b_law = b_law.take 3 ++ ((b_law.drop 3).take 3 ++ ((b_law.drop 6).take 3 ++ ((b_law.drop 9).take 1 ++ b_law.drop 10))) := rfl
  rw [ea, b_app, e1, SRes.thn_nx, b_app, e2, SRes.thn_nx, b_app, e3, SRes.thn_nx, b_app, e4, SRes.thn_nx]
  exact e5
end K41

namespace K41
open PySem L2 D3
theorem walk {l : PySem.W.OpenLaw} {q : Program} {loose : List Str} {XP : (Str → Option Value) → Heap → Prop} {YP : World → Heap → Prop} {d : DefRec} {K : Params → PySem.W.Frag} (hn : l.most = some 63) (hdf : d.params.defaults = [])
    (hY : ∀ (w : World) (h : Heap), YP w h → (K w.params).In h)
    (F : ∀ (w : World) (mg : Str → Option Value) (fa : Addr) (h : Heap), (K w.params).In h → h.Ns mainGlobals mg → mg d.name = some (.ref fa) →
      ∃ fd : FuncData, (∀ (s : Shared) (u : Value), BindsTo s fd ⟨[u], []⟩ [("_law_script", u)]) ∧ ∀ base : Heap, (K w.params).In base → base.Ns mainGlobals mg → FnOk l.prog w (K w.params) mg base (CX1 l.prog w) (kk + 1) fa fd ["_law_script"] (spLw (K w.params) ((WT TT (kk + 1)).Φ ("law" : Str)))) :
    PySem.W.WalkO q loose XP YP l.row.toRowW d [] (fun f vs => PySem.call f vs) :=
  L2.walk_of (n := 63) (k := kk + 1) (x := "_law_script") (CX := fun w => CX1 l.prog w) (sp := fun w => spLw (K w.params) ((WT TT (kk + 1)).Φ ("law" : Str))) hn (by decide) hdf ⟨rfl, by decide, by decide⟩ hY F (fun _ _ a ns hl _ hS => ⟨a, ns, rfl, hS, main ns hl, fun _ => rfl⟩) fun _ _ _ _ _ z => by obtain ⟨_, _, _, _, _, _, _, _, _, _, z⟩ := z; exact z
end K41
open PySem PySem.W PyProof.Rows
set_option maxRecDepth 100000 in
set_option maxHeartbeats 0 in
theorem PySem.Challenge.cw_whencewise_k41_columns_holds : PySem.Challenge.rw_whencewise_k41_columns.Holds := by
  w_on; o_law; k_head; (case hw => w_witness2)
  k_fill
  refine K41.walk (l := PySem.Challenge.rw_whencewise_k41_columns) rfl rfl (fun w h Y => PySem.W.kIn_of Y) ?F
  case F =>
    intro w mg fa h KX G hmg
    refine' K41.all_mk K41.kk KX G hmg ?a0 ?l0 ?c0 ?k0 ?a1 ?l1 ?c1 ?k1 ?a2 ?l2 ?c2 ?k2 ?a3 ?l3 ?c3 ?k3 ?a4 ?l4 ?c4 ?k4 ?a5 ?l5 ?c5 ?k5 ?a6 ?l6 ?c6 ?k6 ?a7 ?l7 ?c7 ?k7 ?a8 ?l8 ?c8 ?k8 ?a9 ?l9 ?c9 ?k9 ?a10 ?l10 ?c10 ?k10 ?a11 ?l11 ?c11 ?k11 ?a12 ?l12 ?c12 ?k12 ?a13 ?l13 ?c13 ?k13 ?a14 ?l14 ?c14 ?k14 ?a15 ?l15 ?c15 ?k15 ?a16 ?l16 ?c16 ?k16 ?a17 ?l17 ?c17 ?k17 ?a18 ?l18 ?c18 ?k18 ?a19 ?l19 ?c19 ?k19 ?a20 ?l20 ?c20 ?k20 ?a21 ?l21 ?c21 ?k21 ?a22 ?l22 ?c22 ?k22 ?a23 ?l23 ?c23 ?k23 ?a24 ?l24 ?c24 ?k24 ?a25 ?l25 ?c25 ?k25 ?u_DEEDS ?v_DEEDS ?u_bool ?u_dict ?u_enumerate ?u_int ?u_isinstance ?u_len ?u_list ?u_range ?u_str ?u_tuple ?aC_Twice ?aC_NoTable ?aC_NoColumn ?aC_Unlike ?og ?ot ?rz_Twice ?ga_Twice ?gn_Twice ?xa_Twice ?xb_Twice ?xo_Twice ?rz_NoColumn ?ga_NoColumn ?gn_NoColumn ?xa_NoColumn ?xb_NoColumn ?xo_NoColumn ?rz_Unlike ?ga_Unlike ?gn_Unlike ?xa_Unlike ?xb_Unlike ?xo_Unlike ?rz_NoTable ?ga_NoTable ?gn_NoTable ?xa_NoTable ?xb_NoTable ?xo_NoTable
    (case a0 => k_is)
    (case l0 => k_is)
    (case c0 => k_is)
    (case k0 => k_is)
    (case a1 => k_is)
    (case l1 => k_is)
    (case c1 => k_is)
    (case k1 => k_is)
    (case a2 => k_is)
    (case l2 => k_is)
    (case c2 => k_is)
    (case k2 => k_is)
    (case a3 => k_is)
    (case l3 => k_is)
    (case c3 => k_is)
    (case k3 => k_is)
    (case a4 => k_is)
    (case l4 => k_is)
    (case c4 => k_is)
    (case k4 => k_is)
    (case a5 => k_is)
    (case l5 => k_is)
    (case c5 => k_is)
    (case k5 => k_is)
    (case a6 => k_is)
    (case l6 => k_is)
    (case c6 => k_is)
    (case k6 => k_is)
    (case a7 => k_is)
    (case l7 => k_is)
    (case c7 => k_is)
    (case k7 => k_is)
    (case a8 => k_is)
    (case l8 => k_is)
    (case c8 => k_is)
    (case k8 => k_is)
    (case a9 => k_is)
    (case l9 => k_is)
    (case c9 => k_is)
    (case k9 => k_is)
    (case a10 => k_is)
    (case l10 => k_is)
    (case c10 => k_is)
    (case k10 => k_is)
    (case a11 => k_is)
    (case l11 => k_is)
    (case c11 => k_is)
    (case k11 => k_is)
    (case a12 => k_is)
    (case l12 => k_is)
    (case c12 => k_is)
    (case k12 => k_is)
    (case a13 => k_is)
    (case l13 => k_is)
    (case c13 => k_is)
    (case k13 => k_is)
    (case a14 => k_is)
    (case l14 => k_is)
    (case c14 => k_is)
    (case k14 => k_is)
    (case a15 => k_is)
    (case l15 => k_is)
    (case c15 => k_is)
    (case k15 => k_is)
    (case a16 => k_is)
    (case l16 => k_is)
    (case c16 => k_is)
    (case k16 => k_is)
    (case a17 => k_is)
    (case l17 => k_is)
    (case c17 => k_is)
    (case k17 => k_is)
    (case a18 => k_is)
    (case l18 => k_is)
    (case c18 => k_is)
    (case k18 => k_is)
    (case a19 => k_is)
    (case l19 => k_is)
    (case c19 => k_is)
    (case k19 => k_is)
    (case a20 => k_is)
    (case l20 => k_is)
    (case c20 => k_is)
    (case k20 => k_is)
    (case a21 => k_is)
    (case l21 => k_is)
    (case c21 => k_is)
    (case k21 => k_is)
    (case a22 => k_is)
    (case l22 => k_is)
    (case c22 => k_is)
    (case k22 => k_is)
    (case a23 => k_is)
    (case l23 => k_is)
    (case c23 => k_is)
    (case k23 => k_is)
    (case a24 => k_is)
    (case l24 => k_is)
    (case c24 => k_is)
    (case k24 => k_is)
    (case a25 => k_is)
    (case l25 => k_is)
    (case c25 => k_is)
    (case k25 => k_is)
    (case u_DEEDS => k_is)
    (case v_DEEDS => k_is)
    (case u_bool => k_is)
    (case u_dict => k_is)
    (case u_enumerate => k_is)
    (case u_int => k_is)
    (case u_isinstance => k_is)
    (case u_len => k_is)
    (case u_list => k_is)
    (case u_range => k_is)
    (case u_str => k_is)
    (case u_tuple => k_is)
    (case aC_Twice => k_is)
    (case aC_NoTable => k_is)
    (case aC_NoColumn => k_is)
    (case aC_Unlike => k_is)
    (case og => k_is)
    (case ot => k_is)
    (case rz_Twice => k_exc)
    (case ga_Twice => k_is)
    (case gn_Twice => k_is)
    (case xa_Twice => k_is)
    (case xb_Twice => k_is)
    (case xo_Twice => k_is)
    (case rz_NoColumn => k_exc)
    (case ga_NoColumn => k_is)
    (case gn_NoColumn => k_is)
    (case xa_NoColumn => k_is)
    (case xb_NoColumn => k_is)
    (case xo_NoColumn => k_is)
    (case rz_Unlike => k_exc)
    (case ga_Unlike => k_is)
    (case gn_Unlike => k_is)
    (case xa_Unlike => k_is)
    (case xb_Unlike => k_is)
    (case xo_Unlike => k_is)
    (case rz_NoTable => k_exc)
    (case ga_NoTable => k_is)
    (case gn_NoTable => k_is)
    (case xa_NoTable => k_is)
    (case xb_NoTable => k_is)
    (case xo_NoTable => k_is)
