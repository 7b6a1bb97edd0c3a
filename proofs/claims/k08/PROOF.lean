import PyProof.Rows.All
import Wide.All
import OpenK.AllK
import Wide.FinOn
import Lean
import PyProof.EqAt
import PyProof.EqKinds
import PyProof.TupleCall
import PySem.Challenge.RW_whencewise_k08_wheels
set_option Elab.async false
set_option linter.all false
set_option maxRecDepth 100000
/-! THE HAND LAYER, for ints, bools, texts, own classes, LISTS and tuples (index, slices, in, append, pop ..), calls, loops. Paste it whole ahead of your own text; what your proof does not reach may be deleted. -/
namespace L2
open PySem PySem.Spec PyProof.Rows

/-- a key: an int or a str -/
abbrev Key := Sum Int Str
def keyIs : Key → Value → Bool
  | .inl k, v => Value.isInt k v
  | .inr x, v => Value.isStrOf x v
def keyH (w : World) : Key → Int
  | .inl k => hashInt k
  | .inr x => hashStr w x
theorem keyIs_shape : ∀ {k : Key} {v : Value}, keyIs k v = true → (∃ i t, k = Sum.inl i ∧ v = Value.int i t) ∨ (∃ x t, k = Sum.inr x ∧ v = Value.str x t)
  | .inl i, v, h => by
    obtain ⟨t, e⟩ := Value.isInt_shape (k := i) (v := v) h
    exact .inl ⟨i, t, rfl, e⟩
  | .inr x, v, h => by
    obtain ⟨t, e⟩ := Value.isStrOf_shape (x := x) (v := v) h
    exact .inr ⟨x, t, rfl, e⟩
theorem key_ll (a b : Int) : decide ((Sum.inl a : Key) = Sum.inl b) = (a == b) := by
  by_cases e : a = b
  · subst e; simp
  · have h : ¬ (Sum.inl a : Key) = Sum.inl b := fun q => e (Sum.inl.inj q)
    rw [decide_eq_false h]
    exact (beq_eq_false_iff_ne.mpr e).symm
theorem key_rr (a b : Str) : decide ((Sum.inr a : Key) = Sum.inr b) = decide (a = b) := by
  by_cases e : a = b
  · subst e; simp
  · have h : ¬ (Sum.inr a : Key) = Sum.inr b := fun q => e (Sum.inr.inj q)
    rw [decide_eq_false h, decide_eq_false e]
theorem key_lr (a : Int) (b : Str) : decide ((Sum.inl a : Key) = Sum.inr b) = false := decide_eq_false (fun q => nomatch q)
theorem key_rl (a : Str) (b : Int) : decide ((Sum.inr a : Key) = Sum.inl b) = false := decide_eq_false (fun q => nomatch q)

def mixKind (prog : Program) (w : World) : PySem.KeyKind prog w Key where
  is := keyIs
  hash := keyH w
  inj := fun v a b ha hb => by
    rcases keyIs_shape ha with ⟨i, t, rfl, rfl⟩ | ⟨x, t, rfl, rfl⟩
    · rcases keyIs_shape hb with ⟨j, u, rfl, e⟩ | ⟨y, u, rfl, e⟩
      · injection e with e1 _; rw [e1]
      · exact nomatch e
    · rcases keyIs_shape hb with ⟨j, u, rfl, e⟩ | ⟨y, u, rfl, e⟩
      · exact nomatch e
      · injection e with e1 _; rw [e1]
  byValue := fun k v h => by
    rcases keyIs_shape h with ⟨i, t, rfl, rfl⟩ | ⟨x, t, rfl, rfl⟩ <;> rfl
  pyHash := fun hv h => by
    rcases keyIs_shape hv with ⟨i, t, rfl, rfl⟩ | ⟨x, t, rfl, rfl⟩
    · exact wpAny_pyHash_int h
    · exact wpAny_pyHash_str h
  eqBool := fun hu hv h => by
    rcases keyIs_shape hu with ⟨i, t, rfl, rfl⟩ | ⟨x, t, rfl, rfl⟩
    · rcases keyIs_shape hv with ⟨j, u, rfl, rfl⟩ | ⟨y, u, rfl, rfl⟩
      · rw [key_ll] at h; exact wpAny_eqBool_int h
      · rw [key_lr] at h; exact SeqAt.EqAt.int_str i t y u _ _ _ _ h
    · rcases keyIs_shape hv with ⟨j, u, rfl, rfl⟩ | ⟨y, u, rfl, rfl⟩
      · rw [key_rl] at h; exact SeqAt.EqAt.str_int x t j u _ _ _ _ h
      · rw [key_rr] at h; exact wpAny_eqBool_str h
  «strs» := fun k x t v h => by
    rcases keyIs_shape h with ⟨i, u, rfl, e⟩ | ⟨y, u, rfl, e⟩
    · exact nomatch e
    · injection e with e1 _
      subst e1
      cases v <;> rfl

end L2

namespace L2
open PySem PySem.Spec PyProof.Rows

/-- a value, without the heap -/
inductive V where
  | non | bl (b : Bool) | int (i : Int) | str (x : Str) | byt (b : Array UInt8) | flt (b : UInt64) | ref (a : Addr) | ty (n : String)
  deriving DecidableEq

def RelV : V → Value → Prop
  | .non, u => u = Value.none
  | .bl b, u => u = Value.bool b
  | .int i, u => ∃ t, u = Value.int i t
  | .str x, u => ∃ t, u = Value.str x t
  | .byt b, u => ∃ t, u = Value.bytes b t
  | .flt b, u => ∃ t, u = Value.float b t
  | .ref a, u => u = Value.ref a
  | .ty n, u => u = Value.type n

abbrev Vals : List V → List Value → Prop := Paired RelV
theorem Vals.length {xs : List V} {us : List Value} (r : Vals xs us) : xs.length = us.length := Paired.length r
theorem Vals.get : ∀ {xs : List V} {us : List Value} {i : Nat} {x : V}, Vals xs us → xs[i]? = some x → ∃ u, us[i]? = some u ∧ RelV x u
  | _, _, _, _, .nil, e => by simp at e
  | _, _, 0, _, .cons r _, e => by simp at e; subst e; exact ⟨_, rfl, r⟩
  | _, _, i + 1, x, .cons _ t, e => by
    obtain ⟨u, h1, h2⟩ := Vals.get (i := i) (x := x) t (by simpa using e)
    exact ⟨u, by simpa using h1, h2⟩
theorem Vals.set {x : V} {u : Value} (r : RelV x u) : ∀ {xs : List V} {us : List Value} (i : Nat), Vals xs us → Vals (xs.set i x) (us.set i u)
  | _, _, _, .nil => .nil
  | _, _, 0, .cons _ t => .cons r t
  | _, _, i + 1, .cons q t => .cons q (Vals.set r i t)
theorem Vals.append : ∀ {xs ys : List V} {us ws : List Value}, Vals xs us → Vals ys ws → Vals (xs ++ ys) (us ++ ws)
  | _, _, _, _, .nil, s => s
  | _, _, _, _, .cons r t, s => .cons r (Vals.append t s)
theorem Vals.take : ∀ {xs : List V} {us : List Value} (n : Nat), Vals xs us → Vals (xs.take n) (us.take n)
  | _, _, 0, _ => .nil
  | _, _, _ + 1, .nil => .nil
  | _, _, n + 1, .cons r t => .cons r (Vals.take n t)
theorem Vals.drop : ∀ {xs : List V} {us : List Value} (n : Nat), Vals xs us → Vals (xs.drop n) (us.drop n)
  | _, _, 0, r => r
  | _, _, _ + 1, .nil => .nil
  | _, _, n + 1, .cons _ t => Vals.drop n t
theorem Vals.none_of : ∀ {xs : List V} {us : List Value} {i : Nat}, Vals xs us → xs[i]? = none → us[i]? = none := fun {xs us i} r e => by
  have h1 := r.length
  have h2 : xs.length ≤ i := List.getElem?_eq_none_iff.mp e
  exact List.getElem?_eq_none_iff.mpr (by omega)

def RelO : Option V → Option Value → Prop
  | some v, some u => RelV v u
  | none, none => True
  | _, _ => False
def KV {κ : Type} : List (κ × V) → List (κ × Value) → Prop := Paired fun (p : κ × V) (q : κ × Value) => p.1 = q.1 ∧ RelV p.2 q.2

/-- a key of a dict (00_mix): an int or a text -/
def kV : Key → V
  | .inl i => .int i
  | .inr x => .str x

/-- what stands at a tracked address -/
inductive HO where
  /-- a list -/
  | lst (xs : List V)
  /-- a tuple (never changes) -/
  | tup (xs : List V)
  /-- a dict whose keys are ints and texts; one whose keys are tuples of ints and texts (the empty one is both) -/
  | dK (kvs : List (Key × V)) | dT (kvs : List (List Key × V))
  /-- a set of ints: its members, its size -/
  | set (S : Key → Bool) (n : Nat)
  /-- an instance of the class at C, its dict at dx, its attributes -/
  | ins (C dx : Addr) (fs : List (Str × V))
  /-- the dict of the instance at x -/
  | own (x : Addr)
  /-- the dict of an exception -/
  | xd (fs : List (Str × V))
  /-- a bound method, f of x -/
  | met (f x : Addr)
  /-- a range object lo, lo + 1, .. below hi -/
  | rng (lo hi : Int)
  /-- a thing that is known to the object (the script; a dict while a loop walks it): read, never written while it is so -/
  | frz (o : Obj) (u : HO)
  /-- a code object's table -/
  | tbl (ps : Array Value)
  /-- any other thing, by what is true of its one object (a def of one's own: SetO a S n := HO.ext fun h => ..) -/
  | ext (φ : Heap → Prop)

abbrev Hp := Addr → Option HO
def upd (H : Hp) (a : Addr) (o : HO) : Hp := fun b => if b = a then some o else H b
theorem upd_same {H : Hp} {a : Addr} {o : HO} : upd H a o a = some o := by unfold upd; rw [if_pos rfl]
theorem upd_ne {H : Hp} {a b : Addr} {o : HO} (h : b ≠ a) : upd H a o b = H b := by unfold upd; rw [if_neg h]
theorem ne_of_none {H : Hp} {a b : Addr} {o : HO} (h : H a = some o) (h' : H b = none) : a ≠ b := by
  intro e; subst e; rw [h] at h'; cases h'

section
variable (P : Program) (w : World)
def ObjOk (H : Hp) (h : Heap) (a : Addr) : HO → Prop
  | .lst xs => xs.length ≤ sizeLine ∧ ∃ (its : List Value) (n : Nat), Vals xs its ∧ h.get? a = some { cls := .type "list", data := .seq its.toArray n }
  | .tup xs => xs.length ≤ sizeLine ∧ ∃ its : List Value, Vals xs its ∧ IsTup h a its.toArray
  | .dK kvs => kvs.length ≤ sizeLine ∧ (a == sysModules) = false ∧ ∃ vs, KV kvs vs ∧ h.DictOf (mixKind P w) a vs
  | .dT kvs => kvs.length ≤ sizeLine ∧ (a == sysModules) = false ∧ ∃ xs : List (List Key × Addr × Value),
      Paired (fun (p : List Key × V) (q : List Key × Addr × Value) => p.1 = q.1 ∧ H q.2.1 = some (.tup (p.1.map kV)) ∧ RelV p.2 q.2.2) kvs xs ∧
      ∃ o es ep, h.get? a = some o ∧ o.ExactDict ∧ o.data = .dict es ep ∧ es.toList = xs.map (entryOfKey (tupleKind (mixKind P w))) ∧ (xs.map (·.1)).Nodup
  | .set S n => h.SetOf (mixKind P w) a S n
  | .ins C dx fs => H dx = some (.own a) ∧ fs.length ≤ 1000 ∧ dx ≠ a ∧ h.get? a = some (PySem.W.instObj C dx) ∧
      ∃ mA, h.Ns1 dx mA ∧ (∀ f, RelO (fs.lookup f) (mA f)) ∧ PySem.Within mA (fs.map (·.1))
  | .own _ => ∃ o, h.get? a = some o
  | .xd fs => ∃ mA, h.Ns1 a mA ∧ ∀ f, RelO (fs.lookup f) (mA f)
  | .rng lo hi => ∃ t u v, h.get? a = some { cls := .type "range", data := .fields #[.int lo t, .int hi u, .int 1 v] }
  | .frz o u => h.get? a = some o ∧ ObjOk H h a u
  | .tbl ps => h.get? a = some { cls := .none, data := .fields ps }
  | .met f x => h.get? a = some (PySem.W.methodObj (.ref f) (.ref x))
  | .ext φ => φ h ∧ (∃ o, h.get? a = some o) ∧ ∀ h1 h2 : Heap, φ h1 → (∀ o, h1.get? a = some o → h2.get? a = some o) → φ h2
/-- the abstract heap is held -/
def HOk (H : Hp) (h : Heap) : Prop := ∀ a o, H a = some o → ObjOk P w H h a o
end

section
variable {P : Program} {w : World} {H H' : Hp} {h h' : Heap} {a : Addr} {o : HO}
theorem ObjOk.lt (x : ObjOk P w H h a o) : a < h.objs.size := by
  cases o with
  | lst xs => obtain ⟨_, _, _, _, e⟩ := x; exact Heap.lt_size e
  | tup xs => obtain ⟨_, _, _, p⟩ := x; exact p.lt
  | dK kvs => obtain ⟨_, _, _, _, o, _, _, e, _⟩ := x; exact Heap.lt_size e
  | dT kvs => obtain ⟨_, _, _, _, o, _, _, e, _⟩ := x; exact Heap.lt_size e
  | set S n => obtain ⟨o, _, _, _, e, _⟩ := x; exact Heap.lt_size e
  | ins C dx fs => obtain ⟨_, _, _, e, _⟩ := x; exact Heap.lt_size e
  | own y => obtain ⟨_, e⟩ := x; exact Heap.lt_size e
  | xd fs => obtain ⟨_, ⟨_, _, _, e, _⟩, _⟩ := x; exact Heap.lt_size e
  | rng lo hi => obtain ⟨_, _, _, e⟩ := x; exact Heap.lt_size e
  | frz ob u => obtain ⟨e, _⟩ := x; exact Heap.lt_size e
  | tbl ps => exact Heap.lt_size (show h.get? a = some _ from x)
  | met f y => exact Heap.lt_size (show h.get? a = some _ from x)
  | ext φ => obtain ⟨_, ⟨_, e⟩, _⟩ := x; exact Heap.lt_size e
theorem Paired.mapP {α β : Type} {F G : α → β → Prop} : ∀ {l₁ : List α} {l₂ : List β}, Paired F l₁ l₂ → (∀ a b, F a b → G a b) → Paired G l₁ l₂
  | _, _, .nil, _ => .nil
  | _, _, .cons r t, f => .cons (f _ _ r) (Paired.mapP t f)
/-- what an object's description leans on: its own object, its own dict, the tuples -/
theorem ObjOk.stay (x : ObjOk P w H h a o) (k : ∀ b u, (b = a ∨ H b = some (.own a)) → h.get? b = some u → h'.get? b = some u)
    (ho : ∀ b, H b = some (.own a) → H' b = some (.own a)) (ht : ∀ b xs, H b = some (.tup xs) → H' b = some (.tup xs)) : ObjOk P w H' h' a o := by
  induction o with
  | lst xs => obtain ⟨z, its, n, r, e⟩ := x; exact ⟨z, its, n, r, k _ _ (.inl rfl) e⟩
  | tup xs => obtain ⟨z, its, r, ob, e, c⟩ := x; exact ⟨z, its, r, ob, k _ _ (.inl rfl) e, c⟩
  | dK kvs => obtain ⟨z, y, vs, r, ob, es, ep, e, c⟩ := x; exact ⟨z, y, vs, r, ob, es, ep, k _ _ (.inl rfl) e, c⟩
  | dT kvs =>
    obtain ⟨z, y, xs, r, ob, es, ep, e, c⟩ := x
    exact ⟨z, y, xs, Paired.mapP r fun p q z => ⟨z.1, ht _ _ z.2.1, z.2.2⟩, ob, es, ep, k _ _ (.inl rfl) e, c⟩
  | set S n => obtain ⟨ob, es, ep, t, e, c⟩ := x; exact ⟨ob, es, ep, t, k _ _ (.inl rfl) e, c⟩
  | ins C dx fs =>
    obtain ⟨d, z, ne, e, mA, ⟨od, es, ep, e2, c⟩, r⟩ := x
    exact ⟨ho _ d, z, ne, k _ _ (.inl rfl) e, mA, ⟨od, es, ep, k _ _ (.inr d) e2, c⟩, r⟩
  | own y => obtain ⟨ob, e⟩ := x; exact ⟨ob, k _ _ (.inl rfl) e⟩
  | xd fs => obtain ⟨mA, ⟨od, es, ep, e, c⟩, r⟩ := x; exact ⟨mA, ⟨od, es, ep, k _ _ (.inl rfl) e, c⟩, r⟩
  | rng lo hi => obtain ⟨t, u, v, e⟩ := x; exact ⟨t, u, v, k _ _ (.inl rfl) e⟩
  | frz ob u ih => obtain ⟨e, q⟩ := x; exact ⟨k _ _ (.inl rfl) e, ih q⟩
  | tbl ps =>
    have e : h.get? a = some { cls := .none, data := .fields ps } := x
    show h'.get? a = some { cls := .none, data := .fields ps }
    exact k a _ (.inl rfl) e
  | met f y =>
    have e : h.get? a = some (PySem.W.methodObj (.ref f) (.ref y)) := x
    show h'.get? a = some (PySem.W.methodObj (.ref f) (.ref y))
    exact k a _ (.inl rfl) e
  | ext φ => obtain ⟨p, ⟨o, e⟩, st⟩ := x; exact ⟨st _ _ p fun o q => k _ _ (.inl rfl) q, ⟨o, k _ _ (.inl rfl) e⟩, st⟩
theorem HOk.lt (x : HOk P w H h) (e : H a = some o) : a < h.objs.size := (x a o e).lt
theorem HOk.fresh (x : HOk P w H h) (e : h.objs.size ≤ a) : H a = none := by
  cases q : H a with
  | none => rfl
  | some u => exact absurd (Nat.lt_of_lt_of_le (x.lt q) e) (Nat.lt_irrefl _)
/-- every object of the heap is kept -/
theorem HOk.kept (x : HOk P w H h) (k : ∀ b u, h.get? b = some u → h'.get? b = some u) : HOk P w H h' := fun a o e =>
  (x a o e).stay (fun b u _ q => k b u q) (fun _ q => q) fun _ _ q => q
/-- a new object is laid and tracked -/
theorem HOk.laid (x : HOk P w H h) (k : ∀ b u, h.get? b = some u → h'.get? b = some u) (hp : h.objs.size ≤ a) (new : ObjOk P w (upd H a o) h' a o) : HOk P w (upd H a o) h' := fun b u e => by
  have hn := x.fresh hp
  by_cases hb : b = a
  · subst hb; rw [upd_same] at e; cases e; exact new
  · rw [upd_ne hb] at e
    exact (x b u e).stay (fun c v _ q => k c v q) (fun c q => by rw [upd_ne (ne_of_none q hn)]; exact q) fun c xs q => by rw [upd_ne (ne_of_none q hn)]; exact q
end

/-- what may be read as u: it is u, or a known u -/
def Rd (H : Hp) (a : Addr) (u : HO) : Prop := H a = some u ∨ ∃ o, H a = some (.frz o u)
theorem Rd.of {H : Hp} {a : Addr} {u : HO} (h : H a = some u) : Rd H a u := .inl h
theorem Rd.ok {P : Program} {w : World} {H : Hp} {h : Heap} {a : Addr} {u : HO} (r : Rd H a u) (x : HOk P w H h) : ObjOk P w H h a u := by
  rcases r with r | ⟨o, r⟩
  · exact x a u r
  · obtain ⟨_, q⟩ := x a _ r
    exact q
/-- what may be written -/
def Mut : Option HO → Prop
  | some (.lst _) => True
  | some (.dK _) => True
  | some (.dT _) => True
  | some (.set _ _) => True
  | some (.ins _ _ _) => True
  | some (.ext _) => True
  | _ => False
section
variable {P : Program} {w : World} {H : Hp} {h h' : Heap} {x e : Addr} {o' : HO}
/-- the object at e is changed: x itself, or the dict of the instance x -/
theorem HOk.write (ok : HOk P w H h) (mu : Mut (H x)) (he : e = x ∨ H e = some (.own x)) (k : ∀ b u, b ≠ e → h.get? b = some u → h'.get? b = some u) (heo : ∃ u, h'.get? e = some u)
    (new : ObjOk P w (upd H x o') h' x o') : HOk P w (upd H x o') h' := fun b u q => by
  have nown : ∀ c y, H c = some (.own y) → c ≠ x := fun c y r z => by subst z; rw [r] at mu; exact mu
  have ntup : ∀ c xs, H c = some (.tup xs) → c ≠ x := fun c xs r z => by subst z; rw [r] at mu; exact mu
  by_cases hb : b = x
  · subst hb; rw [upd_same] at q; cases q; exact new
  · rw [upd_ne hb] at q
    by_cases hbe : b = e
    · have q' : H b = some (.own x) := by
        rcases he with z | z
        · exact absurd (hbe.trans z) hb
        · rw [hbe]; exact z
      rw [q] at q'; cases q'
      obtain ⟨v, hv⟩ := heo
      exact ⟨v, by rw [hbe]; exact hv⟩
    · refine (ok b u q).stay (fun c v hc r => k c v ?_ r) (fun c r => by rw [upd_ne (nown c b r)]; exact r) fun c xs r => by rw [upd_ne (ntup c xs r)]; exact r
      rcases hc with rfl | hc
      · exact hbe
      · rintro rfl
        rcases he with z | z
        · exact nown c b hc z
        · rw [hc] at z; cases z; exact hb rfl
end

/-! ### kept unless tracked; of the frames at fs (the callers') the slots may change (an exception that passes writes there); of the records at ex (iterators) nothing is said -/
structure Un (fs ex : List Addr) (H H' : Hp) (h h' : Heap) : Prop where
  keep : ∀ b o, h.get? b = some o → H b = none → b ∉ fs → b ∉ ex → h'.get? b = some o
  slot : ∀ b o, h.get? b = some o → H b = none → b ∈ fs → b ∉ ex → ∃ sl, h'.get? b = some { o with slots := sl }
  free : ∀ b o, h.get? b = some o → H b = none → b ∉ ex → H' b = none
  there : ∀ b o, h.get? b = some o → b ∉ ex → ∃ o', h'.get? b = some o'
  tups : ∀ b xs, H b = some (.tup xs) → H' b = some (.tup xs)
  frzs : ∀ b o u, H b = some (.frz o u) → H' b = some (.frz o u)
  tbls : ∀ b ps, H b = some (.tbl ps) → ∃ more, H' b = some (.tbl (ps ++ more))
section
variable {fs fs' ex ex' : List Addr} {H H1 H2 : Hp} {h h1 h2 h' : Heap} {a x e : Addr} {o : HO}
theorem Un.any (u : Un fs ex H H1 h h1) {b : Addr} {ob : Obj} (q : h.get? b = some ob) (n : H b = none) (hx : b ∉ ex) : ∃ sl, h1.get? b = some { ob with slots := sl } := by
  by_cases hb : b ∈ fs
  · exact u.slot b ob q n hb hx
  · exact ⟨ob.slots, u.keep b ob q n hb hx⟩
theorem Un.trans (a : Un fs ex H H1 h h1) (b : Un fs ex H1 H2 h1 h2) : Un fs ex H H2 h h2 where
  keep := fun c ob q n hc hx => b.keep c ob (a.keep c ob q n hc hx) (a.free c ob q n hx) hc hx
  slot := fun c ob q n hc hx => by
    obtain ⟨sl, e1⟩ := a.slot c ob q n hc hx
    obtain ⟨sl', e2⟩ := b.slot c _ e1 (a.free c ob q n hx) hc hx
    exact ⟨sl', e2⟩
  free := fun c ob q n hx => by
    obtain ⟨o', e1⟩ := a.there c ob q hx
    exact b.free c o' e1 (a.free c ob q n hx) hx
  there := fun c ob q hx => by
    obtain ⟨o', e1⟩ := a.there c ob q hx
    exact b.there c o' e1 hx
  tups := fun c xs q => b.tups c xs (a.tups c xs q)
  frzs := fun c ob xs q => b.frzs c ob xs (a.frzs c ob xs q)
  tbls := fun c ps q => by
    obtain ⟨m1, e1⟩ := a.tbls c ps q
    obtain ⟨m2, e2⟩ := b.tbls c _ e1
    exact ⟨m1 ++ m2, by rw [e2, Array.append_assoc]⟩
theorem Un.kept (k : ∀ b u, h.get? b = some u → h'.get? b = some u) : Un fs ex H H h h' :=
  ⟨fun b ob q _ _ _ => k b ob q, fun b ob q _ _ _ => ⟨ob.slots, k b ob q⟩, fun _ _ _ n _ => n, fun b ob q _ => ⟨ob, k b ob q⟩, fun _ _ q => q, fun _ _ _ q => q, fun _ ps q => ⟨#[], by rw [q]; simp⟩⟩
theorem Un.refl : Un fs ex H H h h := Un.kept fun _ _ q => q
theorem Un.laid (k : ∀ b u, h.get? b = some u → h'.get? b = some u) (hp : h.objs.size ≤ a) (hn : H a = none) : Un fs ex H (upd H a o) h h' where
  keep := fun b u q _ _ _ => k b u q
  slot := fun b u q _ _ _ => ⟨u.slots, k b u q⟩
  free := fun b u q n _ => by rw [upd_ne (Nat.ne_of_lt (Nat.lt_of_lt_of_le (Heap.lt_size q) hp))]; exact n
  there := fun b u q _ => ⟨u, k b u q⟩
  tups := fun b xs q => by rw [upd_ne (ne_of_none q hn)]; exact q
  frzs := fun b u xs q => by rw [upd_ne (ne_of_none q hn)]; exact q
  tbls := fun b ps q => ⟨#[], by rw [upd_ne (ne_of_none q hn), q]; simp⟩
theorem Un.write (mu : Mut (H x)) (he : e = x ∨ H e = some (.own x)) (k : ∀ b u, b ≠ e → h.get? b = some u → h'.get? b = some u) (heo : ∃ u, h'.get? e = some u) : Un fs ex H (upd H x o) h h' := by
  have hx : ∀ b, H b = none → b ≠ x := fun b n z => by subst z; rw [n] at mu; exact mu
  have hb : ∀ b, H b = none → b ≠ e := fun b n z => by
    subst z
    rcases he with r | r
    · exact hx b n r
    · rw [n] at r; cases r
  have hm : ∀ b u, H b = some u → ¬ Mut (some u) → b ≠ x := fun b u q nm z => by subst z; rw [q] at mu; exact nm mu
  refine ⟨fun b u q n _ _ => k b u (hb b n) q, fun b u q n _ _ => ⟨u.slots, k b u (hb b n) q⟩, fun b u q n _ => by rw [upd_ne (hx b n)]; exact n, fun b u q _ => ?_,
    fun b xs q => by rw [upd_ne (hm b _ q fun z => z)]; exact q, fun b u xs q => by rw [upd_ne (hm b _ q fun z => z)]; exact q, fun b ps q => ⟨#[], by rw [upd_ne (hm b _ q fun z => z), q]; simp⟩⟩
  by_cases hbe : b = e
  · subst hbe; exact heo
  · exact ⟨u, k b u hbe q⟩
theorem Un.mono (u : Un fs ex H H1 h h1) (hs : ∀ b ∈ fs, b ∈ fs') (hx : ∀ b ∈ ex, b ∈ ex') : Un fs' ex' H H1 h h1 :=
  ⟨fun b ob q n hb he => u.keep b ob q n (fun z => hb (hs b z)) fun z => he (hx b z), fun _ _ q n _ he => u.any q n fun z => he (hx _ z), fun b ob q n he => u.free b ob q n fun z => he (hx b z), fun b ob q he => u.there b ob q fun z => he (hx b z), u.tups, u.frzs, u.tbls⟩
end

/-! ### the heap without what is tracked -/
def trk (h : Heap) (H : Hp) : List Addr := (List.range h.objs.size).filter fun a => (H a).isSome
def hidT (h : Heap) (H : Hp) : Heap := PySem.W.hideAll h (trk h H)
theorem hidT_size (h : Heap) (H : Hp) : (hidT h H).objs.size = h.objs.size := PySem.W.hideAll_size _ _
theorem hidT_get {h : Heap} {H : Hp} {b : Addr} {o : Obj} (e : h.get? b = some o) (n : H b = none) : (hidT h H).get? b = some o :=
  PySem.W.hideAll_get _ e fun hm => by
    have q : (H b).isSome = true := (List.mem_filter.mp hm).2
    rw [n] at q; simp at q
theorem of_hidT {h : Heap} {H : Hp} {b : Addr} {o : Obj} (e : (hidT h H).get? b = some o) : h.get? b = some o ∧ H b = none := by
  have e' : h.get? b = some o := PySem.W.of_hideAll (trk h H) e
  refine ⟨e', ?_⟩
  cases q : H b with
  | none => rfl
  | some x =>
    have hm : b ∈ trk h H := List.mem_filter.mpr ⟨List.mem_range.mpr (Heap.lt_size e'), by simp [q]⟩
    have z : (hidT h H).get? b = none := PySem.W.hideAll_none (trk h H) hm
    rw [z] at e; cases e

/-! ### OpenK's ledger, filled with every new object but one -/
def allNews (g h : Heap) (L : Addr) : List (Addr × Obj) := (List.range h.objs.size).filterMap fun a => if a = L ∨ (g.get? a).isSome = true then none else (h.get? a).map fun o => (a, o)
def rest (g h : Heap) (L d : Addr) : List (Addr × Obj) := (allNews g h L).filter fun p => decide (p.1 ≠ d)
end L2

namespace L2
open PySem PySem.Spec PyProof.Rows

/-- the module's facts, over the base: the heap at the law's entry without what is tracked there -/
structure Mod (K : PySem.W.Frag) (mg : Str → Option Value) (base : Heap) : Prop where
  kin : K.In base
  glob : base.Ns mainGlobals mg
  blt : ∃ mb, base.Ns builtinsNs mb ∧ ∀ x : Str, x ≠ "__name__" → mb x = bootBuiltins x
  nolimit : base.NoLimit

/-- the context: a def's body (or a comprehension's block) running. base: fixed through the whole law; s₀, H₀: the entry; outer: the frames whose slots others may change (a def's callers); stack: all frames that run;
   ex: iterators that were made ahead of the entry and are walked here (a comprehension's); fn: the names whose cells were made at the entry (a def: all; a comprehension's block: its own); calm: not within an except suite; pn: pins that every state bears; xe: what is wanted of an exception that leaves the code -/
structure Cx where
  prog : Program
  w : World
  K : PySem.W.Frag
  mg : Str → Option Value
  base : Heap
  A : Around
  N : List Str
  s₀ : Shared
  H₀ : Hp
  env : Env
  outer : List Env
  stack : List Env
  ex : List Addr
  fn : Str → Bool
  calm : Bool
  pn : List (Addr × Obj)
  xe : Value → Shared → Prop
/-- the callers' frames -/
def frs (l : List Env) : List Addr := l.filterMap (·.frame)
abbrev Cx.fs (X : Cx) : List Addr := frs X.outer

def Vis (sc : Scope) (x : Str) : Prop := sc.names.lookup x = some .local ∨ sc.names.lookup x = some .cell ∨ sc.names.lookup x = some .free
def Loc (sc : Scope) (x : Str) : Prop := sc.names.lookup x = some .local ∨ sc.names.lookup x = some .cell
def Look (env : Env) (h : Heap) (m : Str → Option Value) (x : Str) (u : Value) : Prop :=
  (env.kindOf x = some .local ∧ m x = some u) ∨ ((env.kindOf x = some .cell ∨ env.kindOf x = some .free) ∧ ∃ c, env.cells.lookup x = some c ∧ h.IsCell c (some u))

structure Cx.Ok (X : Cx) : Prop where
  mod : Mod X.K X.mg X.base
  kind : X.env.scope.kind = .function
  glob : X.env.globals = mainGlobals
  blt : X.env.builtins = builtinsNs
  above : X.s₀.heap.objs.size ≤ X.env.locals
  inj : ∀ x y c, X.env.cells.lookup x = some c → X.env.cells.lookup y = some c → x = y
  has : ∀ x, (X.env.kindOf x = some .cell ∨ X.env.kindOf x = some .free) → ∃ c, X.env.cells.lookup x = some c
  cab : ∀ x c, X.fn x = true → X.env.cells.lookup x = some c → X.s₀.heap.objs.size ≤ c
  hd : X.calm = true → X.A.handled = none
  frames : X.A.frames = some X.stack
  stk : X.stack = X.outer ∨ (X.stack = X.env :: X.outer ∧ X.env.frame = some X.env.locals)
  exf : ∀ b ∈ X.ex, b ≠ X.env.locals ∧ ∀ x c, X.env.cells.lookup x = some c → c ≠ b
  bs : ∀ b o, X.base.get? b = some o → X.s₀.heap.get? b = some o ∧ X.H₀ b = none
  bsz : X.base.objs.size ≤ X.s₀.heap.objs.size
  noex : ∀ b o, X.base.get? b = some o → b ∉ X.ex
  exfs : ∀ b ∈ X.ex, b ∉ X.fs
  funs : X.s₀.heap.FunFrames X.base X.outer
  frf : ∀ b ∈ X.fs, X.H₀ b = none

structure Inv (X : Cx) (pins : List (Addr × Obj)) (σ : List (Option V)) (H : Hp) (s : Shared) : Prop where
  ok : X.Ok
  os : s.os = X.s₀.os
  bare : AllBare s.gens
  base : Un X.fs X.ex X.H₀ H X.s₀.heap s.heap
  loc : ∃ m, s.heap.Ns X.env.locals m ∧ ∀ (i : Nat) (x : Str) (v : V), X.N[i]? = some x → σ[i]? = some (some v) → Vis X.env.scope x → ∃ u, RelV v u ∧ Look X.env s.heap m x u
  cell : ∀ x c, X.env.cells.lookup x = some c → ∃ v, s.heap.IsCell c v
  free : H X.env.locals = none
  freeC : ∀ x c, X.env.cells.lookup x = some c → H c = none
  pin : ∀ p ∈ X.pn ++ pins, s.heap.get? p.1 = some p.2 ∧ H p.1 = none ∧ p.1 ≠ X.env.locals ∧ p.1 ∉ X.fs ∧ ∀ v, p.2.data ≠ .cell v
  hok : HOk X.prog X.w H s.heap
  len : σ.length = X.N.length

section
variable {X : Cx} {pins : List (Addr × Obj)} {σ : List (Option V)} {H H' : Hp} {s : Shared} {h' : Heap}

theorem Cx.Ok.nofr (ok : X.Ok) {b : Addr} {o : Obj} (e : X.base.get? b = some o) : b ∉ X.fs := fun hb => by
  have := (ok.funs.mem hb).1
  rw [e] at this; cases this
theorem Inv.bs (I : Inv X pins σ H s) : ∀ b o, X.base.get? b = some o → s.heap.get? b = some o ∧ H b = none := fun b o e =>
  ⟨I.base.keep b o (I.ok.bs b o e).1 (I.ok.bs b o e).2 (I.ok.nofr e) (I.ok.noex b o e), I.base.free b o (I.ok.bs b o e).1 (I.ok.bs b o e).2 (I.ok.noex b o e)⟩
theorem Inv.bk (I : Inv X pins σ H s) : ∀ b o, X.base.get? b = some o → s.heap.get? b = some o := fun b o e => (I.bs b o e).1
theorem Inv.mod (I : Inv X pins σ H s) : Mod X.K X.mg X.base := I.ok.mod
theorem Inv.kIn (I : Inv X pins σ H s) : X.K.In s.heap := I.ok.mod.kin.keeps I.bk
theorem Inv.nolimit (I : Inv X pins σ H s) : s.heap.NoLimit := I.ok.mod.nolimit.keeps I.bk
/-- the frame over the base: for OpenK's rules (K.In X.base is I.mod.kin) -/
theorem Inv.fr (I : Inv X pins σ H s) : ∃ m, Fr X.base X.env.locals s.heap m :=
  let ⟨m, hn, _⟩ := I.loc
  ⟨m, hn, I.bk, Nat.le_trans I.ok.bsz I.ok.above⟩
theorem Inv.lt (I : Inv X pins σ H s) : X.env.locals < s.heap.objs.size := let ⟨_, hn, _⟩ := I.loc; hn.lt
theorem Inv.sz (I : Inv X pins σ H s) : X.s₀.heap.objs.size ≤ s.heap.objs.size := Nat.le_trans I.ok.above (Nat.le_of_lt I.lt)
theorem Inv.nofs (I : Inv X pins σ H s) {a : Addr} (h : s.heap.objs.size ≤ a) : a ∉ X.fs := fun hb => by
  obtain ⟨_, o, ho, _⟩ := I.ok.funs.mem hb
  exact absurd (Nat.lt_of_lt_of_le (Heap.lt_size ho) (Nat.le_trans I.sz h)) (Nat.lt_irrefl _)
theorem Inv.cne (I : Inv X pins σ H s) : ∀ x c, X.env.cells.lookup x = some c → c ≠ X.env.locals := fun x c e z => by
  obtain ⟨v, o, ho, hd⟩ := I.cell x c e
  obtain ⟨m, ⟨o', es, ep, ho', hd', _⟩, _⟩ := I.loc
  rw [z, ho'] at ho; cases ho; rw [hd'] at hd; cases hd
theorem Inv.funs (I : Inv X pins σ H s) : s.heap.FunFrames X.base X.outer := by
  have all : ∀ (l : List Env), (∀ b ∈ frs l, b ∈ X.fs) → X.s₀.heap.FunFrames X.base l → s.heap.FunFrames X.base l := by
    intro l
    induction l with
    | nil => intro _ _; trivial
    | cons env r ih =>
      intro hs hl
      obtain ⟨hk, ⟨L, o, hf, hn, ho, hd⟩, hr⟩ := hl
      have hL : L ∈ X.fs := hs L (by unfold frs; rw [List.filterMap_cons, hf]; exact List.mem_cons_self)
      obtain ⟨sl, e⟩ := I.base.slot L o ho (I.ok.frf L hL) hL fun z => I.ok.exfs L z hL
      exact ⟨hk, ⟨L, _, hf, hn, e, hd⟩, ih (fun b hb => hs b (by unfold frs; rw [List.filterMap_cons, hf]; exact List.mem_cons_of_mem _ hb)) hr⟩
  exact all X.outer (fun _ hb => hb) I.ok.funs

/-- the frames that run, for a call -/
theorem Inv.stack (I : Inv X pins σ H s) : s.heap.FunFrames X.base X.stack := by
  rcases I.ok.stk with e | ⟨e, hf⟩
  · rw [e]; exact I.funs
  · rw [e]
    obtain ⟨m, hn, _⟩ := I.loc
    refine .cons (by rw [I.ok.kind]; decide) hf hn ?_ I.funs
    exact Heap.get?_none_of_le (Nat.le_trans I.ok.bsz I.ok.above)
theorem Inv.stkSub (I : Inv X pins σ H s) : ∀ b ∈ frs X.stack, b ∈ X.env.locals :: X.fs := fun b hb => by
  rcases I.ok.stk with e | ⟨e, hf⟩
  · rw [e] at hb; exact List.mem_cons_of_mem _ hb
  · rw [e] at hb
    unfold frs at hb
    rw [List.filterMap_cons, hf] at hb
    exact hb
theorem Inv.stkFree (I : Inv X pins σ H s) : ∀ b ∈ frs X.stack, H b = none := fun b hb => by
  rcases List.mem_cons.mp (I.stkSub b hb) with e | hb
  · rw [e]; exact I.free
  · obtain ⟨_, o, ho, _⟩ := I.ok.funs.mem hb
    exact I.base.free b o ho (I.ok.frf b hb) fun z => I.ok.exfs b z hb

/-- THE STEP: the untracked objects but the frame and the records at ch are kept (the callers' frames up to slots), the frame's map is kept, the new abstract heap is held -/
theorem Inv.step {g' : Array GenState} {t' : Nat} {d' : Drawn} {ch : List Addr} (I : Inv X pins σ H s)
    (hch : ∀ b ∈ ch, (b ∈ X.ex ∨ X.s₀.heap.objs.size ≤ b) ∧ b ≠ X.env.locals ∧ (∀ x c, X.env.cells.lookup x = some c → c ≠ b) ∧ ∀ p ∈ X.pn ++ pins, p.1 ≠ b)
    (keep : ∀ b o, b ≠ X.env.locals → b ∉ X.fs → b ∉ ch → s.heap.get? b = some o → H b = none → h'.get? b = some o)
    (slot : ∀ b o, b ≠ X.env.locals → b ∈ X.fs → b ∉ ch → s.heap.get? b = some o → H b = none → ∃ sl, h'.get? b = some { o with slots := sl }) (free : ∀ b o, b ∉ ch → s.heap.get? b = some o → H b = none → H' b = none)
    (there : ∀ b o, b ∉ ch → s.heap.get? b = some o → ∃ o', h'.get? b = some o')
    (tups : ∀ b xs, H b = some (.tup xs) → H' b = some (.tup xs)) (frzs : ∀ b o u, H b = some (.frz o u) → H' b = some (.frz o u)) (tbls : ∀ b ps, H b = some (.tbl ps) → ∃ more, H' b = some (.tbl (ps ++ more)))
    (ns : ∀ m, s.heap.Ns X.env.locals m → h'.Ns X.env.locals m) (hok : HOk X.prog X.w H' h') (hg : AllBare g') :
    Inv X pins σ H' { s with heap := h', gens := g', drawn := d', toks := t' } := by
  have neL : ∀ b o, X.s₀.heap.get? b = some o → b ≠ X.env.locals := fun b o e => Nat.ne_of_lt (Nat.lt_of_lt_of_le (Heap.lt_size e) I.ok.above)
  have neC : ∀ b o, X.s₀.heap.get? b = some o → b ∉ X.ex → b ∉ ch := fun b o e hx hb => by
    rcases (hch b hb).1 with z | z
    · exact hx z
    · exact absurd (Nat.lt_of_lt_of_le (Heap.lt_size e) z) (Nat.lt_irrefl _)
  have cellK : ∀ x c, X.env.cells.lookup x = some c → ∀ v, s.heap.IsCell c v → h'.IsCell c v := fun x c e v ⟨o, ho, hd⟩ => by
    have nch : c ∉ ch := fun z => (hch c z).2.2.1 x c e rfl
    by_cases hc : c ∈ X.fs
    · obtain ⟨sl, q⟩ := slot c o (I.cne x c e) hc nch ho (I.freeC x c e)
      exact ⟨_, q, hd⟩
    · exact ⟨o, keep c o (I.cne x c e) hc nch ho (I.freeC x c e), hd⟩
  refine ⟨I.ok, I.os, hg, ⟨fun b o e n hb hx => ?_, fun b o e n hb hx => ?_, fun b o e n hx => ?_, fun b o e hx => ?_, fun b xs e => tups b xs (I.base.tups b xs e), fun b o xs e => frzs b o xs (I.base.frzs b o xs e), fun b ps e => ?_⟩, ?_, fun x c e => ?_, ?_, fun x c e => ?_, fun p hp => ?_, hok, I.len⟩
  · exact keep b o (neL b o e) hb (neC b o e hx) (I.base.keep b o e n hb hx) (I.base.free b o e n hx)
  · obtain ⟨sl, e1⟩ := I.base.slot b o e n hb hx
    obtain ⟨sl', e2⟩ := slot b _ (neL b o e) hb (neC b o e hx) e1 (I.base.free b o e n hx)
    exact ⟨sl', e2⟩
  · obtain ⟨o', e1⟩ := I.base.there b o e hx
    exact free b o' (neC b o e hx) e1 (I.base.free b o e n hx)
  · obtain ⟨o', e1⟩ := I.base.there b o e hx
    exact there b o' (neC b o e hx) e1
  · obtain ⟨m1, e1⟩ := I.base.tbls b ps e
    obtain ⟨m2, e2⟩ := tbls b _ e1
    exact ⟨m1 ++ m2, by rw [e2, Array.append_assoc]⟩
  · obtain ⟨m, hn, hl⟩ := I.loc
    refine ⟨m, ns m hn, fun i x v e1 e2 e3 => ?_⟩
    obtain ⟨u, r, l⟩ := hl i x v e1 e2 e3
    refine ⟨u, r, ?_⟩
    rcases l with l | ⟨k, c, e, z⟩
    · exact .inl l
    · exact .inr ⟨k, c, e, cellK x c e _ z⟩
  · obtain ⟨v, z⟩ := I.cell x c e
    exact ⟨v, cellK x c e v z⟩
  · obtain ⟨m, ⟨o, _, _, ho, _⟩, _⟩ := I.loc
    exact free _ o (fun z => (hch _ z).2.1 rfl) ho I.free
  · obtain ⟨v, o, ho, hd⟩ := I.cell x c e
    exact free c o (fun z => (hch c z).2.2.1 x c e rfl) ho (I.freeC x c e)
  · obtain ⟨e, n, ne, nf, d⟩ := I.pin p hp
    have nch : p.1 ∉ ch := fun z => (hch p.1 z).2.2.2 p hp rfl
    exact ⟨keep p.1 p.2 ne nf nch e n, free p.1 p.2 nch e n, ne, nf, d⟩
/-- .. where the frame's own object is kept too -/
theorem Inv.un {t' : Nat} (I : Inv X pins σ H s) (u : Un X.fs [] H H' s.heap h') (hok : HOk X.prog X.w H' h') : Inv X pins σ H' { s with heap := h', toks := t' } := by
  obtain ⟨m, ⟨o, es, ep, ho, r⟩, _⟩ := id I.loc
  obtain ⟨sl, hL⟩ := u.any ho I.free (by simp)
  exact I.step (g' := s.gens) (d' := s.drawn) (ch := []) (fun _ z => nomatch z) (fun b o _ hb _ e n => u.keep b o e n hb (by simp)) (fun b o _ hb _ e n => u.slot b o e n hb (by simp)) (fun b o _ e n => u.free b o e n (by simp)) (fun b o _ e => u.there b o e (by simp)) u.tups u.frzs u.tbls (fun m' hm => by
    obtain ⟨o', es', ep', ho', r'⟩ := hm
    rw [ho] at ho'; cases ho'
    exact ⟨_, es', ep', hL, r'⟩) hok I.bare
/-- behind a call (or a comprehension's block): the slots of this frame may have changed too, the records at ch may have turned -/
theorem Inv.call {g' : Array GenState} {t' : Nat} {d' : Drawn} {ch : List Addr} (I : Inv X pins σ H s) (u : Un (frs X.stack) ch H H' s.heap h') (hok : HOk X.prog X.w H' h') (hg : AllBare g')
    (hch : ∀ b ∈ ch, (b ∈ X.ex ∨ X.s₀.heap.objs.size ≤ b) ∧ b ≠ X.env.locals ∧ (∀ x c, X.env.cells.lookup x = some c → c ≠ b) ∧ ∀ p ∈ X.pn ++ pins, p.1 ≠ b) :
    Inv X pins σ H' { s with heap := h', gens := g', drawn := d', toks := t' } := by
  obtain ⟨m, ⟨o, es, ep, ho, r⟩, _⟩ := id I.loc
  obtain ⟨sl, hL⟩ := u.any ho I.free fun z => (hch _ z).2.1 rfl
  exact I.step (ch := ch) hch (fun b o hL hb hc e n => u.keep b o e n (fun z => (List.mem_cons.mp (I.stkSub b z)).elim hL hb) hc) (fun b o _ _ hc e n => u.any e n hc) (fun b o hc e n => u.free b o e n hc) (fun b o hc e => u.there b o e hc) u.tups u.frzs u.tbls (fun m' hm => by
    obtain ⟨o', es', ep', ho', r'⟩ := hm
    rw [ho] at ho'; cases ho'
    exact ⟨_, es', ep', hL, r'⟩) hok hg
/-- an untracked record of ours (an iterator) has turned -/
theorem Inv.turned {t' : Nat} {it : Addr} (I : Inv X pins σ H s) (k : ∀ b o, b ≠ it → s.heap.get? b = some o → h'.get? b = some o) (hn : H it = none) (hL : it ≠ X.env.locals)
    (h1 : it ∈ X.ex ∨ X.s₀.heap.objs.size ≤ it) (h2 : ∀ x c, X.env.cells.lookup x = some c → c ≠ it) (h3 : ∀ p ∈ X.pn ++ pins, p.1 ≠ it) : Inv X pins σ H { s with heap := h', toks := t' } := by
  have nit : ∀ b u, H b = some u → b ≠ it := fun b u e z => by rw [z, hn] at e; cases e
  refine I.step (g' := s.gens) (d' := s.drawn) (ch := [it]) (fun b hb => ?_) (fun b o _ _ hc e _ => k b o (fun z => hc (by simp [z])) e) (fun b o _ _ hc e _ => ⟨o.slots, k b o (fun z => hc (by simp [z])) e⟩) (fun _ _ _ _ n => n)
    (fun b o hc e => ⟨o, k b o (fun z => hc (by simp [z])) e⟩) (fun _ _ e => e) (fun _ _ _ e => e) (fun b ps e => ⟨#[], by rw [e]; simp⟩) (fun m hm => ?_) (fun b u e => ?_) I.bare
  · have e : b = it := by simpa using hb
    subst e
    exact ⟨h1, hL, h2, h3⟩
  · obtain ⟨o, es, ep, ho, r⟩ := hm
    exact ⟨o, es, ep, k _ o (Ne.symm hL) ho, r⟩
  · refine (I.hok b u e).stay (fun c v hc q => k c v ?_ q) (fun _ q => q) fun _ _ q => q
    rcases hc with z | z
    · rw [z]; exact nit b u e
    · exact nit c _ z
theorem Inv.tok (I : Inv X pins σ H s) (t : Nat) : Inv X pins σ H { s with toks := t } := I.un (h' := s.heap) (t' := t) Un.refl I.hok
/-- all objects kept -/
theorem Inv.kept {t' : Nat} (I : Inv X pins σ H s) (k : ∀ b u, s.heap.get? b = some u → h'.get? b = some u) : Inv X pins σ H { s with heap := h', toks := t' } := I.un (Un.kept k) (I.hok.kept k)
/-- a new object laid and tracked -/
theorem Inv.laid {a : Addr} {o : HO} {t' : Nat} (I : Inv X pins σ H s) (k : ∀ b u, s.heap.get? b = some u → h'.get? b = some u) (hp : s.heap.objs.size ≤ a) (new : ObjOk X.prog X.w (upd H a o) h' a o) :
    Inv X pins σ (upd H a o) { s with heap := h', toks := t' } := I.un (Un.laid k hp (I.hok.fresh hp)) (I.hok.laid k hp new)
/-- an object written -/
theorem Inv.write {x e : Addr} {o : HO} {t' : Nat} (I : Inv X pins σ H s) (mu : Mut (H x)) (he : e = x ∨ H e = some (.own x)) (k : ∀ b u, b ≠ e → s.heap.get? b = some u → h'.get? b = some u) (heo : ∃ u, h'.get? e = some u)
    (new : ObjOk X.prog X.w (upd H x o) h' x o) : Inv X pins σ (upd H x o) { s with heap := h', toks := t' } := I.un (Un.write mu he k heo) (I.hok.write mu he k heo new)
theorem Inv.pins_of {pins' : List (Addr × Obj)} (I : Inv X pins σ H s) (h : ∀ p ∈ pins', s.heap.get? p.1 = some p.2 ∧ H p.1 = none ∧ p.1 ≠ X.env.locals ∧ p.1 ∉ X.fs ∧ ∀ v, p.2.data ≠ .cell v) : Inv X pins' σ H s :=
  ⟨I.ok, I.os, I.bare, I.base, I.loc, I.cell, I.free, I.freeC, fun p hp => (List.mem_append.mp hp).elim (fun z => I.pin p (List.mem_append_left _ z)) (h p), I.hok, I.len⟩

theorem nodup_ix {N : List Str} (hN : N.Nodup) {i j : Nat} {x : Str} (a : N[i]? = some x) (b : N[j]? = some x) : i = j := by
  obtain ⟨h1, e1⟩ := List.getElem?_eq_some_iff.mp a
  obtain ⟨h2, e2⟩ := List.getElem?_eq_some_iff.mp b
  exact (List.getElem_inj hN).mp (e1.trans e2.symm)

/-- a name is stored; what changed -/
theorem store_ok2 {M : Model} {A : Around} {E : Value → Shared → Prop} {i : Nat} {x : Str} {v : V} {u : Value} {Q : Unit → Shared → Prop} (I : Inv X pins σ H s) (hN : X.N.Nodup) (hi : X.N[i]? = some x) (hx : Loc X.env.scope x) (r : RelV v u)
    (h : ∀ s', Inv X pins (σ.set i (some v)) H s' → (∃ a, Heap.SameBut a s.heap s'.heap ∧ (a = X.env.locals ∨ X.env.cells.lookup x = some a)) → Q () s') (hf : X.fn x = true ∨ X.env.scope.names.lookup x = some .local := by first | exact .inl rfl | exact .inr rfl | assumption) : wpAny M A (storeName X.env x u) Q E s := by
  obtain ⟨m, hn, hl⟩ := id I.loc
  have hcls : (X.env.scope.kind == .class || (X.env.scope.kind == .module && X.env.locals != X.env.globals)) = false := by rw [I.ok.kind]; rfl
  have hiσ : i < σ.length := by rw [I.len]; exact (List.getElem?_eq_some_iff.mp hi).1
  have cne := I.cne
  have tracked : ∀ {a : Addr} {h' : Heap}, (∃ o, s.heap.get? a = some o ∧ H a = none) → Heap.SameBut a s.heap h' → HOk X.prog X.w H h' := fun {a h'} ha hs b ob e => by
    obtain ⟨_, _, hfree⟩ := ha
    refine (I.hok b ob e).stay (fun c w' hc q => (hs.2 c ?_).trans q) (fun _ q => q) fun _ _ q => q
    rintro rfl
    rcases hc with rfl | hc
    · rw [hfree] at e; cases e
    · rw [hfree] at hc; cases hc
  rcases hx with hk | hk
  · refine wpAny_storeName_local hk hn (fun h' hn' hs => ?_) hcls
    obtain ⟨oL, _, _, hoL, _⟩ := id hn
    refine h _ ⟨I.ok, I.os, I.bare, ⟨fun b o e n hb hx => ?_, fun b o e n hb hx => ?_, I.base.free, fun b o e hx => ?_, I.base.tups, I.base.frzs, I.base.tbls⟩, ⟨_, hn', fun j y v' e1 e2 e3 => ?_⟩, fun y c e => ?_, I.free, I.freeC, fun p hp => ?_, tracked ⟨oL, hoL, I.free⟩ hs, by simpa using I.len⟩ ⟨_, hs, .inl rfl⟩
    · exact (hs.2 b (Nat.ne_of_lt (Nat.lt_of_lt_of_le (Heap.lt_size e) I.ok.above))).trans (I.base.keep b o e n hb hx)
    · obtain ⟨sl, e1⟩ := I.base.slot b o e n hb hx
      exact ⟨sl, (hs.2 b (Nat.ne_of_lt (Nat.lt_of_lt_of_le (Heap.lt_size e) I.ok.above))).trans e1⟩
    · obtain ⟨o', e1⟩ := I.base.there b o e hx
      exact ⟨o', (hs.2 b (Nat.ne_of_lt (Nat.lt_of_lt_of_le (Heap.lt_size e) I.ok.above))).trans e1⟩
    · by_cases hj : j = i
      · subst hj
        rw [hi] at e1; cases e1
        rw [List.getElem?_set_self hiσ] at e2
        cases e2
        exact ⟨u, r, .inl ⟨hk, by simp⟩⟩
      · rw [List.getElem?_set_ne (Ne.symm hj)] at e2
        obtain ⟨u', r', q⟩ := hl j y v' e1 e2 e3
        refine ⟨u', r', ?_⟩
        rcases q with ⟨k, e⟩ | ⟨k, c, e, z⟩
        · refine .inl ⟨k, ?_⟩
          have : y ≠ x := fun e => hj (nodup_ix hN e1 (e ▸ hi))
          simp [this, e]
        · exact .inr ⟨k, c, e, z.sameBut hs (cne y c e)⟩
    · obtain ⟨w', z⟩ := I.cell y c e
      exact ⟨w', z.sameBut hs (cne y c e)⟩
    · obtain ⟨e, n, ne, nf, d⟩ := I.pin p hp
      exact ⟨(hs.2 p.1 ne).trans e, n, ne, nf, d⟩
  · have hfn : X.fn x = true := by
      rcases hf with z | z
      · exact z
      · rw [z] at hk; cases hk
    obtain ⟨c, hc⟩ := I.ok.has x (.inl hk)
    obtain ⟨w', z⟩ := I.cell x c hc
    refine wpAny_storeName_cell I.ok.kind hk hc z (fun h' hc' hs => ?_)
    obtain ⟨oc, hoc, hocd⟩ := id z
    refine h { s with heap := h' } ⟨I.ok, I.os, I.bare, ⟨fun b o e n hb hx => ?_, fun b o e n hb hx => ?_, I.base.free, fun b o e hx => ?_, I.base.tups, I.base.frzs, I.base.tbls⟩, ⟨m, hn.sameBut hs (Ne.symm (cne x c hc)), fun j y v' e1 e2 e3 => ?_⟩, fun y c' e => ?_, I.free, I.freeC, fun p hp => ?_, tracked ⟨oc, hoc, I.freeC x c hc⟩ hs, by simpa using I.len⟩ ⟨c, hs, .inr hc⟩
    · exact (hs.2 b (Nat.ne_of_lt (Nat.lt_of_lt_of_le (Heap.lt_size e) (I.ok.cab x c hfn hc)))).trans (I.base.keep b o e n hb hx)
    · obtain ⟨sl, e1⟩ := I.base.slot b o e n hb hx
      exact ⟨sl, (hs.2 b (Nat.ne_of_lt (Nat.lt_of_lt_of_le (Heap.lt_size e) (I.ok.cab x c hfn hc)))).trans e1⟩
    · obtain ⟨o', e1⟩ := I.base.there b o e hx
      exact ⟨o', (hs.2 b (Nat.ne_of_lt (Nat.lt_of_lt_of_le (Heap.lt_size e) (I.ok.cab x c hfn hc)))).trans e1⟩
    · by_cases hj : j = i
      · subst hj
        rw [hi] at e1; cases e1
        rw [List.getElem?_set_self hiσ] at e2
        cases e2
        exact ⟨u, r, .inr ⟨.inl hk, c, hc, hc'⟩⟩
      · rw [List.getElem?_set_ne (Ne.symm hj)] at e2
        obtain ⟨u', r', q⟩ := hl j y v' e1 e2 e3
        refine ⟨u', r', ?_⟩
        rcases q with q | ⟨k, c', e, z'⟩
        · exact .inl q
        · refine .inr ⟨k, c', e, z'.sameBut hs ?_⟩
          rintro rfl
          exact hj (nodup_ix hN e1 (I.ok.inj _ _ _ e hc ▸ hi))
    · by_cases hcc : c' = c
      · subst hcc; exact ⟨_, hc'⟩
      · obtain ⟨w2, z2⟩ := I.cell y c' e
        exact ⟨w2, z2.sameBut hs hcc⟩
    · obtain ⟨e, n, ne, nf, d⟩ := I.pin p hp
      refine ⟨(hs.2 p.1 ?_).trans e, n, ne, nf, d⟩
      intro q
      rw [q, hoc] at e
      have q' : oc = p.2 := Option.some.inj e
      exact d w' (by rw [← q']; exact hocd)
theorem store_ok {M : Model} {A : Around} {E : Value → Shared → Prop} {i : Nat} {x : Str} {v : V} {u : Value} {Q : Unit → Shared → Prop} (I : Inv X pins σ H s) (hN : X.N.Nodup) (hi : X.N[i]? = some x) (hx : Loc X.env.scope x) (r : RelV v u)
    (h : ∀ s', Inv X pins (σ.set i (some v)) H s' → Q () s') (hf : X.fn x = true ∨ X.env.scope.names.lookup x = some .local := by first | exact .inl rfl | exact .inr rfl | assumption) : wpAny M A (storeName X.env x u) Q E s :=
  store_ok2 I hN hi hx r (fun s' I' _ => h s' I') hf
/-- behind a call or a block, the state as it is -/
theorem Inv.call' {s' : Shared} {ch : List Addr} (I : Inv X pins σ H s) (ho : s'.os = s.os) (u : Un (frs X.stack) ch H H' s.heap s'.heap) (hok : HOk X.prog X.w H' s'.heap) (hg : AllBare s'.gens)
    (hch : ∀ b ∈ ch, (b ∈ X.ex ∨ X.s₀.heap.objs.size ≤ b) ∧ b ≠ X.env.locals ∧ (∀ x c, X.env.cells.lookup x = some c → c ≠ b) ∧ ∀ p ∈ X.pn ++ pins, p.1 ≠ b) : Inv X pins σ H' s' := by
  obtain ⟨h', g', d', t', o'⟩ := s'
  have e : o' = s.os := ho
  subst e
  exact I.call (g' := g') (t' := t') (d' := d') u hok hg hch
end

/-! ### the judgements -/
/-- an exception: its class, its own dict's address (where it has one), the abstract heap behind it -/
abbrev XK := Value → Option Addr → Hp → Prop
abbrev St := List (Option V)
abbrev VK := V → Hp → Prop
/-- an expression's reading; a test's; an argument list's -/
abbrev TE := St → Hp → VK → Prop
abbrev TT := St → Hp → (Bool → Hp → Prop) → Prop
abbrev TA := St → Hp → (List V → Hp → Prop) → Prop
/-- what is wanted behind a statement -/
structure Ends where
  nx : St → Hp → Prop
  rt : VK
  bk : St → Hp → Prop := fun _ _ => False
  ct : St → Hp → Prop := fun _ _ => False
abbrev TS := Ends → St → Hp → Prop

def EP (X : Cx) (pins : List (Addr × Obj)) (σ : St) (Q : VK) (u : Value) (s' : Shared) : Prop := ∃ v H', Inv X pins σ H' s' ∧ RelV v u ∧ Q v H'
def TP (X : Cx) (pins : List (Addr × Obj)) (σ : St) (Q : Bool → Hp → Prop) (b : Bool) (s' : Shared) : Prop := ∃ H', Inv X pins σ H' s' ∧ Q b H'
def AP (X : Cx) (pins : List (Addr × Obj)) (σ : St) (Q : List V → Hp → Prop) (us : List Value) (s' : Shared) : Prop := ∃ vs H', Inv X pins σ H' s' ∧ Vals vs us ∧ Q vs H'
def SP (X : Cx) (pins : List (Addr × Obj)) (D : Ends) (f : Flow) (s' : Shared) : Prop :=
  match f with
  | .next => ∃ σ' H', Inv X pins σ' H' s' ∧ D.nx σ' H'
  | .brk => ∃ σ' H', Inv X pins σ' H' s' ∧ D.bk σ' H'
  | .cont => ∃ σ' H', Inv X pins σ' H' s' ∧ D.ct σ' H'
  | .ret u => ∃ v σ' H', Inv X pins σ' H' s' ∧ RelV v u ∧ D.rt v H'

def PE (X : Cx) (e : Expr) (t : TE) : Prop :=
  ∀ (pins : List (Addr × Obj)) (s : Shared) (σ : St) (H : Hp) (Q : VK), Inv X pins σ H s → t σ H Q → wpAny (model X.prog X.w) X.A (eval e X.env) (EP X pins σ Q) X.xe s
def PT (X : Cx) (e : Expr) (t : TT) : Prop :=
  ∀ (pins : List (Addr × Obj)) (s : Shared) (σ : St) (H : Hp) (Q : Bool → Hp → Prop), Inv X pins σ H s → t σ H Q → wpAny (model X.prog X.w) X.A (isTrue e X.env (eval e X.env)) (TP X pins σ Q) X.xe s
/-- a test whatever its 'whole' is (and, or) -/
def PW (X : Cx) (e : Expr) (t : TT) : Prop :=
  ∀ (whole : Sem Value) (pins : List (Addr × Obj)) (s : Shared) (σ : St) (H : Hp) (Q : Bool → Hp → Prop), Inv X pins σ H s → t σ H Q → wpAny (model X.prog X.w) X.A (isTrue e X.env whole) (TP X pins σ Q) X.xe s
theorem PW.pt {X : Cx} {e : Expr} {t : TT} (h : PW X e t) : PT X e t := h _
/-- an argument list (no star), from the left -/
def PA (X : Cx) (es : List Expr) (t : TA) : Prop :=
  ∀ (pos : Pos) (pins : List (Addr × Obj)) (s : Shared) (σ : St) (H : Hp) (Q : List V → Hp → Prop), Inv X pins σ H s → t σ H Q → wpAny (model X.prog X.w) X.A (spliced (backTo pos (starEach es X.env))) (AP X pins σ Q) X.xe s
def PS (X : Cx) (st : Stmt) (t : TS) : Prop :=
  ∀ (pins : List (Addr × Obj)) (s : Shared) (σ : St) (H : Hp) (D : Ends), Inv X pins σ H s → t D σ H → wpAny (model X.prog X.w) X.A (exec st X.env) (SP X pins D) X.xe s
def PSs (X : Cx) (st : List Stmt) (t : TS) : Prop :=
  ∀ (pins : List (Addr × Obj)) (s : Shared) (σ : St) (H : Hp) (D : Ends), Inv X pins σ H s → t D σ H → wpAny (model X.prog X.w) X.A (execs st X.env) (SP X pins D) X.xe s
/-- weaken the end -/
theorem thn {α : Type} {t : Sem α} {Q Q' : α → Shared → Prop} {M : Model} {A : Around} {E : Value → Shared → Prop} {s : Shared} (h : wpAny M A t Q E s) (hQ : ∀ a s, Q a s → Q' a s) : wpAny M A t Q' E s := wpAny_mono h hQ fun _ _ x => x
end L2

namespace L2
open PySem PySem.Spec PyProof.Rows
section
variable {X : Cx}

/-- two expressions in a row -/
theorem bin {a b : Expr} {ta tb : TE} (ha : PE X a ta) (hb : PE X b tb) {pins : List (Addr × Obj)} {s : Shared} {σ : St} {H : Hp} {R : V → V → Hp → Prop} (I : Inv X pins σ H s) (h : ta σ H fun x H1 => tb σ H1 fun y H2 => R x y H2)
    {α : Type} {Q : α → Shared → Prop} {f : Value → Value → Sem α}
    (hf : ∀ v u s2 x y H2, Inv X pins σ H2 s2 → RelV x v → RelV y u → R x y H2 → wpAny (model X.prog X.w) X.A (f v u) Q X.xe s2) :
    wpAny (model X.prog X.w) X.A (eval a X.env) (fun v s₁ => wpAny (model X.prog X.w) X.A (eval b X.env) (fun u s₂ => wpAny (model X.prog X.w) X.A (f v u) Q X.xe s₂) X.xe s₁) X.xe s := by
  refine thn (ha pins s σ H _ I h) fun v s1 ⟨x, H1, I1, r1, q1⟩ => ?_
  refine thn (hb pins s1 σ H1 _ I1 q1) fun u s2 ⟨y, H2, I2, r2, q2⟩ => ?_
  exact hf v u s2 x y H2 I2 r1 r2 q2

/-! ### names and constants -/
def tVar (i : Nat) : TE := fun σ H Q => ∃ v, σ[i]? = some (some v) ∧ Q v H
def tC (v : V) : TE := fun _ H Q => Q v H
theorem pe_var {i : Nat} {x : Str} {pos : Pos} (hN : X.N[i]? = some x) (hv : Vis X.env.scope x) (hd : (x == ("__debug__" : Str)) = false := by decide) (hcd : (x == ("__classdict__" : Str)) = false := by decide) : PE X (.Name x pos) (tVar i) := by
  intro pins s σ H Q I h
  obtain ⟨v, e, h⟩ := h
  obtain ⟨m, hn, hl⟩ := I.loc
  obtain ⟨u, r, l⟩ := hl i x v hN e hv
  have fin : EP X pins σ Q u s := ⟨v, H, I, r, h⟩
  rcases l with ⟨hk, hm⟩ | ⟨hk, c, hc, hcell⟩
  · exact wpAny_Name (wpAny_loadName_local I.ok.kind hk hn hm fin) hd
  · rcases hk with hk | hk
    · exact wpAny_Name (wpAny_loadName_cell I.ok.kind hk hc hcell fin) hd
    · exact wpAny_Name (wpAny_loadName_free I.ok.kind hk hc hcell fin hcd) hd
theorem pe_int {i j pos} : PE X (.Constant (.int i) j pos) (tC (.int i)) := fun _ _ _ H _ I h => wpAny_Constant_int ⟨.int i, H, I.tok _, ⟨_, rfl⟩, h⟩
theorem pe_bl {b j pos} : PE X (.Constant (.bool b) j pos) (tC (.bl b)) := fun _ _ _ H _ I h => Constant_bool ⟨.bl b, H, I, rfl, h⟩
theorem pe_non {j pos} : PE X (.Constant .none j pos) (tC .non) := fun _ _ _ H _ I h => Constant_none ⟨.non, H, I, rfl, h⟩
theorem pe_str {x j pos} : PE X (.Constant (.str x) j pos) (tC (.str x)) := fun _ _ _ H _ I h => Calls.Constant_str ⟨.str x, H, I.tok _, ⟨_, rfl⟩, h⟩

/-- a global name of the def -/
def Gl (X : Cx) (x : Str) : Prop := X.env.kindOf x = some .globalImplicit
theorem ld_glob {E : Value → Shared → Prop} {pins : List (Addr × Obj)} {s : Shared} {σ : St} {H : Hp} {x : Str} {u : Value} {pos : Pos} {Q : Value → Shared → Prop} (I : Inv X pins σ H s) (hg : Gl X x) (hm : X.mg x = some u) (h : Q u s)
    (hd : (x == ("__debug__" : Str)) = false := by decide) : wpAny (model X.prog X.w) X.A (eval (.Name x pos) X.env) Q E s :=
  Calls.Name_function_global I.ok.kind hg (Calls.loadGlobal_global (by rw [I.ok.glob]; exact I.mod.glob.keeps I.bk) hm h) hd
theorem ld_blt {E : Value → Shared → Prop} {pins : List (Addr × Obj)} {s : Shared} {σ : St} {H : Hp} {x : Str} {u : Value} {pos : Pos} {Q : Value → Shared → Prop} (I : Inv X pins σ H s) (hg : Gl X x) (hm : X.mg x = none) (hv : bootBuiltins x = some u) (h : Q u s)
    (hn : x ≠ "__name__" := by decide) (hd : (x == ("__debug__" : Str)) = false := by decide) : wpAny (model X.prog X.w) X.A (eval (.Name x pos) X.env) Q E s := by
  obtain ⟨mb, h1, h2⟩ := I.mod.blt
  exact Calls.Name_function_global I.ok.kind hg (Calls.loadGlobal_builtin (by rw [I.ok.glob]; exact I.mod.glob.keeps I.bk) hm (by rw [I.ok.blt]; exact h1.keeps I.bk) ((h2 x hn).trans hv) h) hd
/-- a module's constant, a class, a function, as a value -/
theorem pe_glob {x : Str} {v : V} {u : Value} {pos : Pos} (hg : Gl X x) (hm : X.mg x = some u) (r : RelV v u) (hd : (x == ("__debug__" : Str)) = false := by decide) : PE X (.Name x pos) (tC v) :=
  fun _ _ _ H _ I h => ld_glob I hg hm ⟨v, H, I, r, h⟩ hd
theorem pe_bltn {x : Str} {v : V} {u : Value} {pos : Pos} (hg : Gl X x) (hm : X.mg x = none) (hv : bootBuiltins x = some u) (r : RelV v u) (hn : x ≠ "__name__" := by decide) (hd : (x == ("__debug__" : Str)) = false := by decide) : PE X (.Name x pos) (tC v) :=
  fun _ _ _ H _ I h => ld_blt I hg hm hv ⟨v, H, I, r, h⟩ hn hd

/-! ### arithmetic -/
variable {a b : Expr} {ta tb : TE} {pos : Pos}
/-! ### comparisons -/
/-! ### and, or, not -/
variable {tA tB' : TT} {rest : List Expr}
def tAnd (t u : TT) : TT := fun σ H Q => t σ H fun c H1 => if c = true then u σ H1 Q else Q false H1
def tOr (t u : TT) : TT := fun σ H Q => t σ H fun c H1 => if c = true then Q true H1 else u σ H1 Q
def tNot (t : TT) : TT := fun σ H Q => t σ H fun c H1 => Q (!c) H1
theorem pw_and1 (ha : PT X a tA) : PW X (.BoolOp .And [a] pos) tA := by
  intro wh pins s σ H Q I h
  refine isTrue_and (thn (ha pins s σ H Q I h) fun c s1 e => ?_)
  cases c with
  | true => exact isTrue_and_nil e
  | false => exact e
theorem pw_or1 (ha : PT X a tA) : PW X (.BoolOp .Or [a] pos) tA := by
  intro wh pins s σ H Q I h
  refine isTrue_or (thn (ha pins s σ H Q I h) fun c s1 e => ?_)
  cases c with
  | false => exact isTrue_or_nil e
  | true => exact e
theorem pw_and (ha : PT X a tA) (hb : PW X (.BoolOp .And (b :: rest) pos) tB') : PW X (.BoolOp .And (a :: b :: rest) pos) (tAnd tA tB') := by
  intro wh pins s σ H Q I h
  refine isTrue_and (thn (ha pins s σ H _ I h) fun c s1 ⟨H1, I1, q1⟩ => ?_)
  cases c with
  | true => exact hb wh pins s1 σ H1 Q I1 q1
  | false => exact ⟨H1, I1, q1⟩
theorem pw_or (ha : PT X a tA) (hb : PW X (.BoolOp .Or (b :: rest) pos) tB') : PW X (.BoolOp .Or (a :: b :: rest) pos) (tOr tA tB') := by
  intro wh pins s σ H Q I h
  refine isTrue_or (thn (ha pins s σ H _ I h) fun c s1 ⟨H1, I1, q1⟩ => ?_)
  cases c with
  | true => exact ⟨H1, I1, q1⟩
  | false => exact hb wh pins s1 σ H1 Q I1 q1
theorem pt_not (ha : PT X a tA) : PT X (.UnaryOp .Not a pos) (tNot tA) := by
  intro pins s σ H Q I h
  exact isTrue_not (ha pins s σ H (fun c H1 => Q (!c) H1) I h)
/-- .. as values (bools) -/
def tAndV (ta tb : TE) : TE := fun σ H Q => ta σ H fun x H1 => ∃ c, x = .bl c ∧ if c = true then tb σ H1 Q else Q (.bl false) H1
def tOrV (ta tb : TE) : TE := fun σ H Q => ta σ H fun x H1 => ∃ c, x = .bl c ∧ if c = true then Q (.bl true) H1 else tb σ H1 Q
def tNotV (ta : TE) : TE := fun σ H Q => ta σ H fun x H1 => ∃ c, x = .bl c ∧ Q (.bl (!c)) H1
theorem pe_one {op} {t : TE} (h : PE X a t) : PE X (.BoolOp op [a] pos) t := fun pins s σ H Q I hw => BoolOp_one (h pins s σ H Q I hw)
theorem pe_and (ha : PE X a ta) (hb : PE X (.BoolOp .And (b :: rest) pos) tb) : PE X (.BoolOp .And (a :: b :: rest) pos) (tAndV ta tb) := by
  intro pins s σ H Q I h
  refine BoolOp_and (thn (ha pins s σ H _ I h) fun v s1 ⟨x, H1, I1, r1, q1⟩ => ?_)
  obtain ⟨c, rfl, q1⟩ := q1
  cases r1
  refine wpAny_truthy_bool ?_
  cases c with
  | true => exact hb pins s1 σ H1 Q I1 q1
  | false => exact ⟨.bl false, H1, I1, rfl, q1⟩
theorem pe_or (ha : PE X a ta) (hb : PE X (.BoolOp .Or (b :: rest) pos) tb) : PE X (.BoolOp .Or (a :: b :: rest) pos) (tOrV ta tb) := by
  intro pins s σ H Q I h
  refine BoolOp_or (thn (ha pins s σ H _ I h) fun v s1 ⟨x, H1, I1, r1, q1⟩ => ?_)
  obtain ⟨c, rfl, q1⟩ := q1
  cases r1
  refine wpAny_truthy_bool ?_
  cases c with
  | false => exact hb pins s1 σ H1 Q I1 q1
  | true => exact ⟨.bl true, H1, I1, rfl, q1⟩
theorem pe_not (ha : PE X a ta) : PE X (.UnaryOp .Not a pos) (tNotV ta) := by
  intro pins s σ H Q I h
  refine UnaryOp_ (thn (ha pins s σ H _ I h) fun v s1 ⟨x, H1, I1, r1, q1⟩ => ?_)
  obtain ⟨c, rfl, q1⟩ := q1
  cases r1
  exact not_of (wpAny_truthy_bool ⟨.bl (!c), H1, I1, rfl, q1⟩)
end
end L2

namespace L2
open PySem PySem.Spec PyProof.Rows

/-! ### a list, a tuple that is read: tracked, frozen, or an object of the module -/
def SqL (K : PySem.W.Frag) (H : Hp) (a : Addr) (xs : List V) : Prop :=
  Rd H a (.lst xs) ∨
    ∃ (o : Obj) (its : Array Value) (n : Nat), K.lookup a = some o ∧ o.cls = .type "list" ∧ o.dict = none ∧ o.data = .seq its n ∧ its.size ≤ sizeLine ∧ Vals xs its.toList
def SqT (K : PySem.W.Frag) (H : Hp) (a : Addr) (xs : List V) : Prop :=
  Rd H a (.tup xs) ∨
    ∃ (o : Obj) (its : Array Value) (n : Nat), K.lookup a = some o ∧ o.cls = .type "tuple" ∧ o.data = .seq its n ∧ its.size ≤ sizeLine ∧ Vals xs its.toList
def absV : Value → Option V
  | .none => some .non
  | .bool b => some (.bl b)
  | .int i _ => some (.int i)
  | .str x _ => some (.str x)
  | .bytes b _ => some (.byt b)
  | .float b _ => some (.flt b)
  | .ref a => some (.ref a)
  | .type n => some (.ty n)
  | _ => none
theorem RelV.abs {x : V} {u : Value} (r : RelV x u) : absV u = some x := by
  cases x with
  | non => cases r; rfl
  | bl _ => cases r; rfl
  | int _ => obtain ⟨t, rfl⟩ := r; rfl
  | str _ => obtain ⟨t, rfl⟩ := r; rfl
  | byt _ => obtain ⟨t, rfl⟩ := r; rfl
  | flt _ => obtain ⟨t, rfl⟩ := r; rfl
  | ref _ => cases r; rfl
  | ty _ => cases r; rfl
theorem RelV.inj {x y : V} {u : Value} (r : RelV x u) (q : RelV y u) : x = y := Option.some.inj (r.abs.symm.trans q.abs)
theorem Vals.inj : ∀ {xs ys : List V} {us : List Value}, Vals xs us → Vals ys us → xs = ys
  | _, _, _, .nil, .nil => rfl
  | _, _, _, .cons r t, .cons r' t' => by rw [r.inj r', Vals.inj t t']
section
variable {X : Cx} {pins : List (Addr × Obj)} {σ : St} {H : Hp} {s : Shared} {a : Addr} {xs ys : List V}
theorem SqL.of {K : PySem.W.Frag} (h : H a = some (.lst xs)) : SqL K H a xs := .inl (.inl h)
theorem SqT.of {K : PySem.W.Frag} (h : H a = some (.tup xs)) : SqT K H a xs := .inl (.inl h)
theorem Inv.list (I : Inv X pins σ H s) (h : SqL X.K H a xs) : ∃ its : List Value, Vals xs its ∧ PlainL s.heap a its.toArray ∧ xs.length ≤ sizeLine := by
  rcases h with h | ⟨o, its, n, hk, hc, hd, hs, hz, r⟩
  · obtain ⟨z, its, n, r, e⟩ := h.ok I.hok
    exact ⟨its, r, ⟨_, n, e, rfl, rfl, rfl⟩, z⟩
  · refine ⟨its.toList, r, ⟨o, n, I.kIn a o hk, hc, hd, by simpa using hs⟩, ?_⟩
    have e := r.length
    simp only [Array.length_toList] at e
    omega
theorem Inv.tuple (I : Inv X pins σ H s) (h : SqT X.K H a xs) : ∃ its : List Value, Vals xs its ∧ IsTup s.heap a its.toArray ∧ xs.length ≤ sizeLine := by
  rcases h with h | ⟨o, its, n, hk, hc, hs, hz, r⟩
  · obtain ⟨z, its, r, p⟩ := h.ok I.hok
    exact ⟨its, r, p, z⟩
  · refine ⟨its.toList, r, ⟨o, I.kIn a o hk, hc, n, by simpa using hs⟩, ?_⟩
    have e := r.length
    simp only [Array.length_toList] at e
    omega
theorem Inv.list_inj (I : Inv X pins σ H s) (h : SqL X.K H a xs) (h' : SqL X.K H a ys) : xs = ys := by
  obtain ⟨its, r, ⟨o, n, e, _, _, d⟩, _⟩ := I.list h
  obtain ⟨its', r', ⟨o', n', e', _, _, d'⟩, _⟩ := I.list h'
  rw [e] at e'; cases e'
  rw [d] at d'
  injection d' with d1 _
  have : its = its' := by simpa using congrArg Array.toList d1
  subst this
  exact r.inj r'
theorem Inv.tuple_inj (I : Inv X pins σ H s) (h : SqT X.K H a xs) (h' : SqT X.K H a ys) : xs = ys := by
  obtain ⟨its, r, ⟨o, e, _, n, d⟩, _⟩ := I.tuple h
  obtain ⟨its', r', ⟨o', e', _, n', d'⟩, _⟩ := I.tuple h'
  rw [e] at e'; cases e'
  rw [d] at d'
  injection d' with d1 _
  have : its = its' := by simpa using congrArg Array.toList d1
  subst this
  exact r.inj r'
end

/-! ### another wish about exceptions -/
abbrev Cx.wish (X : Cx) (E : Value → Shared → Prop) : Cx := { X with xe := E }
/-- no exception leaves -/
abbrev Cx.nox (X : Cx) : Cx := X.wish fun _ _ => False
theorem Cx.Ok.wish {X : Cx} (ok : X.Ok) (E : Value → Shared → Prop) : (X.wish E).Ok :=
  ⟨ok.mod, ok.kind, ok.glob, ok.blt, ok.above, ok.inj, ok.has, ok.cab, ok.hd, ok.frames, ok.stk, ok.exf, ok.bs, ok.bsz, ok.noex, ok.exfs, ok.funs, ok.frf⟩
theorem Cx.Ok.unwish {X : Cx} {E : Value → Shared → Prop} (ok : (X.wish E).Ok) : X.Ok :=
  ⟨ok.mod, ok.kind, ok.glob, ok.blt, ok.above, ok.inj, ok.has, ok.cab, ok.hd, ok.frames, ok.stk, ok.exf, ok.bs, ok.bsz, ok.noex, ok.exfs, ok.funs, ok.frf⟩
section
variable {X : Cx} {pins : List (Addr × Obj)} {σ : St} {H : Hp} {s : Shared} {E : Value → Shared → Prop}
theorem Inv.wish (I : Inv X pins σ H s) (E : Value → Shared → Prop) : Inv (X.wish E) pins σ H s := ⟨I.ok.wish E, I.os, I.bare, I.base, I.loc, I.cell, I.free, I.freeC, I.pin, I.hok, I.len⟩
theorem Inv.unwish (I : Inv (X.wish E) pins σ H s) : Inv X pins σ H s := ⟨I.ok.unwish, I.os, I.bare, I.base, I.loc, I.cell, I.free, I.freeC, I.pin, I.hok, I.len⟩
theorem SP.unwish {D : Ends} {f : Flow} {s' : Shared} (h : SP (X.wish E) pins D f s') : SP X pins D f s' := by
  cases f with
  | next => obtain ⟨σ', H', I, q⟩ := h; exact ⟨σ', H', I.unwish, q⟩
  | brk => obtain ⟨σ', H', I, q⟩ := h; exact ⟨σ', H', I.unwish, q⟩
  | cont => obtain ⟨σ', H', I, q⟩ := h; exact ⟨σ', H', I.unwish, q⟩
  | ret u => obtain ⟨v, σ', H', I, r, q⟩ := h; exact ⟨v, σ', H', I.unwish, r, q⟩
theorem PE.nox {e : Expr} {t : TE} (h : PE X.nox e t) : PE X e t := fun pins s σ H Q I hw =>
  wpAny_mono (h pins s σ H Q (I.wish _) hw) (fun _ _ ⟨v, H', I', r, q⟩ => ⟨v, H', I'.unwish, r, q⟩) fun _ _ z => False.elim z
theorem PT.nox {e : Expr} {t : TT} (h : PT X.nox e t) : PT X e t := fun pins s σ H Q I hw =>
  wpAny_mono (h pins s σ H Q (I.wish _) hw) (fun _ _ ⟨H', I', q⟩ => ⟨H', I'.unwish, q⟩) fun _ _ z => False.elim z
theorem PSs.nox {st : List Stmt} {t : TS} (h : PSs X.nox st t) : PSs X st t := fun pins s σ H D I hw =>
  wpAny_mono (h pins s σ H D (I.wish _) hw) (fun _ _ q => q.unwish) fun _ _ z => False.elim z
end

/-! ### blocks and small statements -/
section
variable {X : Cx} {st : Stmt} {rest : List Stmt} {t u : TS} {e : Expr} {te : TE} {pos : Pos}
def tNext : TS := fun D σ H => D.nx σ H
def tSeq (t u : TS) : TS := fun D σ H => t { D with nx := u D } σ H
theorem pss_nil : PSs X [] tNext := fun _ _ σ H _ I h => wpAny_execs_nil ⟨σ, H, I, h⟩
theorem pss_cons (h1 : PS X st t) (h2 : PSs X rest u) : PSs X (st :: rest) (tSeq t u) := by
  intro pins s σ H D I h
  refine wpAny_execs_cons (thn (h1 pins s σ H { D with nx := u D } I h) fun f s1 q => ?_)
  cases f with
  | next =>
    obtain ⟨σ', H', I', q⟩ := q
    exact h2 pins s1 σ' H' D I' q
  | ret v => exact q
  | brk => exact q
  | cont => exact q
/-- in a def's body nothing is shown -/
theorem Inv.quiet {pins : List (Addr × Obj)} {σ : St} {H : Hp} {s : Shared} (I : Inv X pins σ H s) : interactive X.env = false := by simp [interactive, I.ok.kind]
/-- an expression whose value is dropped -/
def tDrop (te : TE) : TS := fun D σ H => te σ H fun _ H1 => D.nx σ H1
theorem ps_expr (he : PE X e te) (hs : swapsWith e none pos.line X.env = pure false := by rfl) : PS X (.Expr e pos) (tDrop te) := by
  intro pins s σ H D I h
  exact wpAny_Expr_any (thn (he pins s σ H _ I h) fun v s1 ⟨x, H1, I1, r1, q1⟩ => ⟨σ, H1, I1, q1⟩) I.quiet hs
def tRet (te : TE) : TS := fun D σ H => te σ H D.rt
theorem ps_ret (he : PE X e te) : PS X (.Return (some e) pos) (tRet te) := by
  intro pins s σ H D I h
  exact wpAny_Return_some (thn (he pins s σ H _ I h) fun v s1 ⟨x, H1, I1, r1, q1⟩ => ⟨x, σ, H1, I1, r1, q1⟩)
def tIfS (c : TT) (t u : TS) : TS := fun D σ H => c σ H fun b H1 => if b = true then t D σ H1 else u D σ H1
theorem ps_if {c : Expr} {a b : List Stmt} {tc : TT} (hc : PT X c tc) (ha : PSs X a t) (hb : PSs X b u) : PS X (.If c a b pos) (tIfS tc t u) := by
  intro pins s σ H D I h
  refine wpAny_If (thn (hc pins s σ H _ I h) fun d s1 ⟨H1, I1, q1⟩ => ?_)
  cases d with
  | true => exact ha pins s1 σ H1 D I1 q1
  | false => exact hb pins s1 σ H1 D I1 q1
end

/-! ### targets -/
abbrev TG := V → St → Hp → (St → Hp → Prop) → Prop
abbrev TGs := List V → St → Hp → (St → Hp → Prop) → Prop
def PG (X : Cx) (target : Expr) (t : TG) : Prop :=
  ∀ (pins : List (Addr × Obj)) (s : Shared) (σ : St) (H : Hp) (v : V) (u : Value) (Q : St → Hp → Prop), Inv X pins σ H s → RelV v u → t v σ H Q →
    wpAny (model X.prog X.w) X.A (assign target X.env u) (fun _ s' => ∃ σ' H', Inv X pins σ' H' s' ∧ Q σ' H') X.xe s
/-- several targets, one after another -/
def PGs (X : Cx) (ts : List Expr) (t : TGs) : Prop :=
  ∀ (pins : List (Addr × Obj)) (s : Shared) (σ : St) (H : Hp) (vs : List V) (us : List Value) (Q : St → Hp → Prop), Inv X pins σ H s → Vals vs us → t vs σ H Q →
    wpAny (model X.prog X.w) X.A (assignInOrder ((assignEach ts X.env).map (·.2)) us) (fun _ s' => ∃ σ' H', Inv X pins σ' H' s' ∧ Q σ' H') X.xe s
section
variable {X : Cx} {pos : Pos}
def gName (i : Nat) : TG := fun v σ H Q => Q (σ.set i (some v)) H
theorem pg_name {i : Nat} {x : Str} (hN : X.N.Nodup) (hi : X.N[i]? = some x) (hx : Loc X.env.scope x) (hf : X.fn x = true ∨ X.env.scope.names.lookup x = some .local := by first | exact .inl rfl | exact .inr rfl | assumption) : PG X (.Name x pos) (gName i) := by
  intro pins s σ H v u Q I r h
  exact wpAny_assign_Name (store_ok I hN hi hx r (fun s' I' => ⟨_, H, I', h⟩) hf)
def gNil : TGs := fun vs σ H Q => vs = [] ∧ Q σ H
def gCons (t : TG) (u : TGs) : TGs := fun vs σ H Q => ∃ v r, vs = v :: r ∧ t v σ H fun σ' H' => u r σ' H' Q
theorem pgs_nil : PGs X [] gNil := by
  intro pins s σ H vs us Q I r h
  obtain ⟨e, h⟩ := h
  subst e
  cases r
  exact assignInOrder_nil ⟨σ, H, I, h⟩
theorem pgs_cons {e : Expr} {es : List Expr} {t : TG} {u : TGs} (h1 : PG X e t) (h2 : PGs X es u)
    (hs : (assignEach (e :: es) X.env).map (·.2) = assign e X.env :: (assignEach es X.env).map (·.2) := by rfl) : PGs X (e :: es) (gCons t u) := by
  intro pins s σ H vs us Q I r h
  obtain ⟨v, vr, e1, h⟩ := h
  subst e1
  cases r with
  | cons r rr =>
    rw [hs]
    refine assignInOrder_cons (thn (h1 pins s σ H _ _ _ I r h) fun _ s1 ⟨σ1, H1, I1, q1⟩ => ?_)
    exact h2 pins s1 σ1 H1 _ _ Q I1 rr q1
/-- (a, b, ..) = a tuple of that length -/
def gTup (K : PySem.W.Frag) (n : Nat) (t : TGs) : TG := fun v σ H Q => ∃ a xs, v = .ref a ∧ SqT K H a xs ∧ xs.length = n ∧ t xs σ H Q
theorem pg_tup {es : List Expr} {k : Nat} {t : TGs} {n : Nat} (hc : X.calm = true) (h : PGs X es t)
    (hn : (assignEach es X.env).length = n := by rfl) (hst : (assignEach es X.env).findIdx? (·.1) = none := by rfl) : PG X (.Tuple es k pos) (gTup X.K n t) := by
  intro pins s σ H v u Q I r hw
  obtain ⟨a, xs, e1, hq, hl, hw⟩ := hw
  subst e1
  cases r
  obtain ⟨its, rv, ht, hz⟩ := I.tuple hq
  refine assign_Tuple_tuple (I.ok.hd hc) ht (by simp [hn, ← hl, rv.length]) hst fun h' hx => ?_
  have I1 : Inv X pins σ H { s with heap := h' } := I.kept (t' := s.toks) fun b o e => hx b o (Nat.ne_of_lt (Heap.lt_size e)) e
  exact h pins _ σ H xs _ Q I1 (by simpa using rv) hw
/-- target = value -/
def tAsg (te : TE) (g : TG) : TS := fun D σ H => te σ H fun x H1 => g x σ H1 D.nx
/-- name = value -/
theorem ps_set {i : Nat} {x : Str} {e : Expr} {te : TE} {pos' : Pos} (hN : X.N.Nodup) (hi : X.N[i]? = some x) (hx : Loc X.env.scope x) (he : PE X e te) (hs : swapsWith e (some (.Name x pos')) pos.line X.env = pure false := by rfl) (hf : X.fn x = true ∨ X.env.scope.names.lookup x = some .local := by first | exact .inl rfl | exact .inr rfl | assumption) :
    PS X (.Assign [.Name x pos'] e pos) (tAsg te (gName i)) := by
  intro pins s σ H D I h
  refine wpAny_Assign_Name (thn (he pins s σ H _ I h) fun v s1 ⟨y, H1, I1, r1, q1⟩ => ?_) hs
  exact store_ok I1 hN hi hx r1 (fun s2 I2 => ⟨_, H1, I2, q1⟩) hf
end

/-! ### while -/
section
variable {X : Cx} {pos : Pos}
end

/-! ### what a loop or a comprehension walks -/
/-- at turn i: it yields x (the heap may grow), or it stops -/
structure It where
  go : Nat → Hp → Prop
  yld : Nat → Hp → V → Hp → Prop
  stop : Nat → Hp → Prop
/-- the iterator's own objects may turn: they are not the frame's, not pinned, younger than the entry (or a comprehension's own) -/
def FpOk (X : Cx) (pins : List (Addr × Obj)) (H : Hp) (b : Addr) : Prop :=
  H b = none ∧ b ≠ X.env.locals ∧ b ∉ X.fs ∧ (b ∈ X.ex ∨ X.s₀.heap.objs.size ≤ b) ∧ (∀ x c, X.env.cells.lookup x = some c → c ≠ b) ∧ ∀ p ∈ X.pn ++ pins, p.1 ≠ b
theorem Inv.fpOk {X : Cx} {pins : List (Addr × Obj)} {σ : St} {H H' : Hp} {s : Shared} {b : Addr} (I : Inv X pins σ H s) (hb : s.heap.objs.size ≤ b) (hn : H' b = none) : FpOk X pins H' b := by
  refine ⟨hn, Nat.ne_of_gt (Nat.lt_of_lt_of_le I.lt hb), I.nofs hb, .inr (Nat.le_trans I.sz hb), fun x c e z => ?_, fun p hp z => ?_⟩
  · obtain ⟨v, q⟩ := I.cell x c e
    exact absurd (Nat.lt_of_lt_of_le q.lt (by rw [z]; exact hb)) (Nat.lt_irrefl _)
  · exact absurd (Nat.lt_of_lt_of_le (Heap.lt_size (I.pin p hp).1) (by rw [z]; exact hb)) (Nat.lt_irrefl _)
structure Turn (P : Program) (w : World) (K : PySem.W.Frag) (tg : Expr) (J : It) (fp : List Addr) (it : Addr) (tn : Nat → Heap → Prop) : Prop where
  mem : it ∈ fp
  obj : ∀ i h, tn i h → ∀ b ∈ fp, ∃ o, h.get? b = some o ∧ ∀ v, o.data ≠ .cell v
  keep : ∀ i h h', tn i h → (∀ b ∈ fp, ∀ o, h.get? b = some o → h'.get? b = some o) → tn i h'
  item : ∀ (X : Cx), X.prog = P → X.w = w → X.K = K → X.calm = true → ∀ (i : Nat) (pins : List (Addr × Obj)) (s : Shared) (σ : St) (H : Hp) (E : Value → Shared → Prop), Inv X pins σ H s → (∀ b ∈ fp, FpOk X pins H b) → tn i s.heap → J.go i H →
    wpAny (model P w) X.A (pyNext (.ref it)) (fun r s1 => ∃ u, r = some u ∧
      wpAny (model P w) X.A (letOwnedTupleGo tg (.ref it) u) (fun _ s2 => ∃ x H', Inv X pins σ H' s2 ∧ RelV x u ∧ J.yld i H x H' ∧ tn (i + 1) s2.heap ∧ ∀ b ∈ fp, H' b = none) E s1) E s
  done : ∀ (X : Cx), X.prog = P → X.w = w → X.K = K → X.calm = true → ∀ (i : Nat) (pins : List (Addr × Obj)) (s : Shared) (σ : St) (H : Hp) (E : Value → Shared → Prop), Inv X pins σ H s → (∀ b ∈ fp, FpOk X pins H b) → tn i s.heap → J.stop i H →
    wpAny (model P w) X.A (pyNext (.ref it)) (fun r s1 => r = none ∧ Inv X pins σ H s1) E s
  self : ∀ (A : Around) (i : Nat) (s : Shared) (Q : Value → Shared → Prop) (E : Value → Shared → Prop), tn i s.heap → Q (.ref it) s → wpAny (model P w) A (pyIter (.ref it)) Q E s
abbrev TI := St → Hp → (It → Hp → Prop) → Prop
/-- an iterator has come -/
def PIE (X : Cx) (pins : List (Addr × Obj)) (σ : St) (tg : Expr) (R : It → Hp → Prop) (itv : Value) (s2 : Shared) : Prop :=
  ∃ (it : Addr) (fp : List Addr) (tn : Nat → Heap → Prop) (J : It) (H' : Hp), itv = .ref it ∧ Inv X pins σ H' s2 ∧ Turn X.prog X.w X.K tg J fp it tn ∧ tn 0 s2.heap ∧ (∀ b ∈ fp, FpOk X pins H' b) ∧ R J H'
def PI (X : Cx) (tg iter : Expr) (wi : TI) : Prop :=
  ∀ (pins : List (Addr × Obj)) (s : Shared) (σ : St) (H : Hp) (R : It → Hp → Prop), Inv X pins σ H s → wi σ H R →
    wpAny (model X.prog X.w) X.A (eval iter X.env) (fun v s1 => wpAny (model X.prog X.w) X.A (pyIter v) (PIE X pins σ tg R) X.xe s1) X.xe s

/-- the step ahead of the store is nothing for an iterator that keeps no tuple -/
theorem go_of {M : Model} {A : Around} {E : Value → Shared → Prop} {s : Shared} {tg : Expr} {it : Addr} {u : Value} {o : Obj} {n : String} {vs : Array Value} {Q : Unit → Shared → Prop} (ho : s.heap.get? it = some o) (hc : o.cls = .type n) (hd : o.data = .fields vs)
    (hn : ["enumerate", "zip", "dict_itemiterator", "dict_reverseitemiterator", "odict_iterator", "itertools.zip_longest", "itertools.pairwise"].contains n = false) (hQ : Q () s) : wpAny M A (letOwnedTupleGo tg (.ref it) u) Q E s := by
  unfold letOwnedTupleGo
  cases tg <;> first
    | exact wpAny_pure hQ
    | (cases u <;> first
        | exact wpAny_pure hQ
        | (refine wpAny_bind (wpAny_load ho ?_)
           rw [hc, hd]
           show wpAny M A (if (["enumerate", "zip", "dict_itemiterator", "dict_reverseitemiterator", "odict_iterator", "itertools.zip_longest", "itertools.pairwise"].contains n && vs[0]? == some (rawInt _)) = true then _ else _) Q E s
           rw [if_neg (by intro h; rw [hn, Bool.false_and] at h; cases h)]
           exact wpAny_pure hQ))

/-- the list at a, as it stands at each turn (a loop may append to it) -/
def Itl (K : PySem.W.Frag) (a : Addr) : It :=
  ⟨fun i H => ∃ xs x, SqL K H a xs ∧ xs[i]? = some x, fun i H x H' => H' = H ∧ ∀ xs, SqL K H a xs → xs[i]? = some x, fun i H => ∃ xs, SqL K H a xs ∧ xs.length ≤ i⟩
def Itt (K : PySem.W.Frag) (a : Addr) : It :=
  ⟨fun i H => ∃ xs x, SqT K H a xs ∧ xs[i]? = some x, fun i H x H' => H' = H ∧ ∀ xs, SqT K H a xs → xs[i]? = some x, fun i H => ∃ xs, SqT K H a xs ∧ xs.length ≤ i⟩
theorem turn_list {P : Program} {w : World} {K : PySem.W.Frag} {tg : Expr} (a it : Addr) : Turn P w K tg (Itl K a) [it] it (fun i h => h.IsListIter it a i) where
  mem := by simp
  obj := fun i h st b hb => by
    have e : b = it := by simpa using hb
    subst e
    obtain ⟨o, e, c, d⟩ := st
    exact ⟨o, e, fun v z => by rw [d] at z; cases z⟩
  keep := fun i h h' st k => st.at fun o e => k it (by simp) o e
  item := by
    intro X hP hw hK hc i pins s σ H E I hf st hg
    subst hP hw hK
    obtain ⟨xs, x, hq, hx⟩ := hg
    obtain ⟨its, rv, p, hz⟩ := I.list hq
    obtain ⟨u, hu, ru⟩ := rv.get hx
    obtain ⟨f0, f1, f2, f3, f4, f5⟩ := hf it (by simp)
    refine wpAny_pyNext_list_item st p.isList (x := u) (by simpa using hu) fun h' st' sb => ?_
    have I1 : Inv X pins σ H { s with heap := h' } := I.turned (t' := s.toks) (fun b o hb e => (sb.2 b hb).trans e) f0 f1 f3 f4 f5
    obtain ⟨o, e, c, d⟩ := id st'
    exact ⟨u, rfl, go_of (s := { s with heap := h' }) e c d (by decide) ⟨x, H, I1, ru, ⟨rfl, fun ys hy => by rw [I.list_inj hy hq]; exact hx⟩, st', fun b hb => (hf b hb).1⟩⟩
  done := by
    intro X hP hw hK hc i pins s σ H E I hf st hg
    subst hP hw hK
    obtain ⟨xs, hq, hx⟩ := hg
    obtain ⟨its, rv, p, hz⟩ := I.list hq
    obtain ⟨f0, f1, f2, f3, f4, f5⟩ := hf it (by simp)
    have hl := rv.length
    exact wpAny_pyNext_list_end (I.ok.hd hc) st p.isList (by simp; omega) fun h' eb => ⟨rfl, I.turned (t' := s.toks) (fun b o hb e => eb b o hb e) f0 f1 f3 f4 f5⟩
  self := fun _ _ _ _ _ st h => wpAny_pyIter_listiter st h
theorem turn_tuple {P : Program} {w : World} {K : PySem.W.Frag} {tg : Expr} (a it : Addr) : Turn P w K tg (Itt K a) [it] it (fun i h => h.IsTupleIter it a i) where
  mem := by simp
  obj := fun i h st b hb => by
    have e : b = it := by simpa using hb
    subst e
    obtain ⟨o, e, c, d⟩ := st
    exact ⟨o, e, fun v z => by rw [d] at z; cases z⟩
  keep := fun i h h' st k => st.at fun o e => k it (by simp) o e
  item := by
    intro X hP hw hK hc i pins s σ H E I hf st hg
    subst hP hw hK
    obtain ⟨xs, x, hq, hx⟩ := hg
    obtain ⟨its, rv, p, hz⟩ := I.tuple hq
    obtain ⟨u, hu, ru⟩ := rv.get hx
    obtain ⟨f0, f1, f2, f3, f4, f5⟩ := hf it (by simp)
    refine wpAny_pyNext_tuple_item st (show s.heap.IsTuple a its.toArray from p) (x := u) (by simpa using hu) fun h' st' sb => ?_
    have I1 : Inv X pins σ H { s with heap := h' } := I.turned (t' := s.toks) (fun b o hb e => (sb.2 b hb).trans e) f0 f1 f3 f4 f5
    obtain ⟨o, e, c, d⟩ := id st'
    exact ⟨u, rfl, go_of (s := { s with heap := h' }) e c d (by decide) ⟨x, H, I1, ru, ⟨rfl, fun ys hy => by rw [I.tuple_inj hy hq]; exact hx⟩, st', fun b hb => (hf b hb).1⟩⟩
  done := by
    intro X hP hw hK hc i pins s σ H E I hf st hg
    subst hP hw hK
    obtain ⟨xs, hq, hx⟩ := hg
    obtain ⟨its, rv, p, hz⟩ := I.tuple hq
    obtain ⟨f0, f1, f2, f3, f4, f5⟩ := hf it (by simp)
    have hl := rv.length
    exact wpAny_pyNext_tuple_end (I.ok.hd hc) st (show s.heap.IsTuple a its.toArray from p) (by simp; omega) fun h' eb => ⟨rfl, I.turned (t' := s.toks) (fun b o hb e => eb b o hb e) f0 f1 f3 f4 f5⟩
  self := fun _ _ _ _ _ st h => wpAny_pyIter_tupleiter st h
end L2

namespace L2
open PySem PySem.Spec PyProof.Rows
section
variable {X : Cx} {tg : Expr}
def iList (K : PySem.W.Frag) (tl : TE) : TI := fun σ H R => tl σ H fun x H1 => ∃ a, x = .ref a ∧ (∃ xs, SqL K H1 a xs) ∧ R (Itl K a) H1
def iTup (K : PySem.W.Frag) (tl : TE) : TI := fun σ H R => tl σ H fun x H1 => ∃ a, x = .ref a ∧ (∃ xs, SqT K H1 a xs) ∧ R (Itt K a) H1
theorem pi_list {l : Expr} {tl : TE} (hl : PE X l tl) : PI X tg l (iList X.K tl) := by
  intro pins s σ H R I h
  refine thn (hl pins s σ H _ I h) fun v s1 ⟨x, H1, I1, r1, q1⟩ => ?_
  obtain ⟨a, e, ⟨xs, hq⟩, q⟩ := q1
  subst e
  cases r1
  obtain ⟨its, rv, p, hz⟩ := I1.list hq
  refine wpAny_pyIter_list p.isList ?_
  refine ⟨s1.heap.objs.size, [s1.heap.objs.size], _, _, H1, rfl, I1.kept (t' := s1.toks) fun b o e => Heap.get?_push_of_some _ e, turn_list a _, ⟨_, Heap.get?_push_size _ rfl, rfl, rfl⟩, fun b hb => ?_, q⟩
  have e : b = s1.heap.objs.size := by simpa using hb
  subst e
  exact I1.fpOk (Nat.le_refl _) (I1.hok.fresh (Nat.le_refl _))
theorem pi_tup {l : Expr} {tl : TE} (hl : PE X l tl) : PI X tg l (iTup X.K tl) := by
  intro pins s σ H R I h
  refine thn (hl pins s σ H _ I h) fun v s1 ⟨x, H1, I1, r1, q1⟩ => ?_
  obtain ⟨a, e, ⟨xs, hq⟩, q⟩ := q1
  subst e
  cases r1
  obtain ⟨its, rv, p, hz⟩ := I1.tuple hq
  refine wpAny_pyIter_tuple (show s1.heap.IsTuple a its.toArray from p) ?_
  refine ⟨s1.heap.objs.size, [s1.heap.objs.size], _, _, H1, rfl, I1.kept (t' := s1.toks) fun b o e => Heap.get?_push_of_some _ e, turn_tuple a _, ⟨_, Heap.get?_push_size _ rfl, rfl, rfl⟩, fun b hb => ?_, q⟩
  have e : b = s1.heap.objs.size := by simpa using hb
  subst e
  exact I1.fpOk (Nat.le_refl _) (I1.hok.fresh (Nat.le_refl _))
/-! ### for -/
/-- W: the invariant by the turn and a measure; N: what the body is to reach -/
def tFor (wi : TI) (g : TG) (tb : TS) : TS := fun D σ H => wi σ H fun J H1 => ∃ W : Nat → Nat → St → Hp → Prop, (∃ m, W 0 m σ H1) ∧ ∀ i m σ H, W i m σ H →
  (J.stop i H ∧ D.nx σ H) ∨ (J.go i H ∧ ∃ N : St → Hp → Prop, (∀ σ' H', N σ' H' → ∃ m', m' < m ∧ W (i + 1) m' σ' H') ∧ ∀ x H', J.yld i H x H' → g x σ H' fun σ2 H2 => tb { D with nx := N, ct := N, bk := D.nx } σ2 H2)
/-- the records at fp as they stand -/
def pinsAt (fp : List Addr) (h : Heap) : List (Addr × Obj) := fp.filterMap fun b => (h.get? b).map fun o => (b, o)
theorem mem_pinsAt {fp : List Addr} {h : Heap} {b : Addr} {o : Obj} (hb : b ∈ fp) (e : h.get? b = some o) : (b, o) ∈ pinsAt fp h := List.mem_filterMap.mpr ⟨b, hb, by rw [e]; rfl⟩
theorem of_pinsAt {fp : List Addr} {h : Heap} {p : Addr × Obj} (hp : p ∈ pinsAt fp h) : p.1 ∈ fp ∧ h.get? p.1 = some p.2 := by
  obtain ⟨b, hb, e⟩ := List.mem_filterMap.mp hp
  cases q : h.get? b with
  | none => rw [q] at e; cases e
  | some o =>
    rw [q] at e
    have e' : (b, o) = p := Option.some.inj e
    subst e'
    exact ⟨hb, q⟩
theorem Inv.pinned {pins : List (Addr × Obj)} {σ : St} {H : Hp} {s : Shared} {fp : List Addr} (I : Inv X pins σ H s) (hf : ∀ b ∈ fp, FpOk X pins H b) (ho : ∀ b ∈ fp, ∃ o, s.heap.get? b = some o ∧ ∀ v, o.data ≠ .cell v) : Inv X (pins ++ pinsAt fp s.heap) σ H s :=
  I.pins_of fun p hp => (List.mem_append.mp hp).elim (fun z => I.pin p (List.mem_append_right _ z)) fun z => by
    obtain ⟨hb, e⟩ := of_pinsAt z
    obtain ⟨f0, f1, f2, _⟩ := hf p.1 hb
    obtain ⟨o, e', d⟩ := ho p.1 hb
    rw [e] at e'; cases e'
    exact ⟨e, f0, f1, f2, d⟩
theorem Inv.unpinned {pins pl : List (Addr × Obj)} {σ : St} {H : Hp} {s : Shared} (I : Inv X (pins ++ pl) σ H s) : Inv X pins σ H s := I.pins_of fun p hp => I.pin p (List.mem_append_right _ (List.mem_append_left _ hp))
theorem ps_for {iter : Expr} {body : List Stmt} {wi : TI} {g : TG} {tb : TS} {pos : Pos} (hp : PassesOwn (model X.prog X.w) X.A X.env X.xe) (hc : X.calm = true) (hi : PI X tg iter wi) (hg : PG X tg g) (hb : PSs X body tb)
    (hs : ∀ x, foldedSetIterable iter X.env x = pure x := by intro _; rfl) : PS X (.For tg iter body [] pos) (tFor wi g tb) := by
  intro pins s σ H D I h
  refine wpAny_For (thn (hi pins s σ H _ I h) fun v s1 h1 => thn h1 fun itv s2 h2 => ?_) hs
  obtain ⟨it, fp, tn, J, H2, e, I2, T, st2, f2, W, ⟨m0, w0⟩, turn⟩ := h2
  subst e
  -- what stays true of the iterator's objects through the loop
  have stat : ∀ {H' : Hp}, (∀ b ∈ fp, H' b = none) → ∀ b ∈ fp, FpOk X pins H' b := fun hn b hb => ⟨hn b hb, (f2 b hb).2⟩
  refine codeAny_forLoop_any (fun n s' => ∃ i σ' H', Inv X pins σ' H' s' ∧ tn i s'.heap ∧ (∀ b ∈ fp, H' b = none) ∧ W i n σ' H') ?_ m0 ⟨0, σ, H2, I2, st2, fun b hb => (f2 b hb).1, w0⟩
  rintro n s3 ⟨i, σ3, H3, I3, st3, fr3, w3⟩
  rcases turn i n σ3 H3 w3 with ⟨stop, qn⟩ | ⟨go, N, hN, step⟩
  · refine wpAny_passesOwn hp (thn (T.done X rfl rfl rfl hc i pins s3 σ3 H3 X.xe I3 (stat fr3) st3 stop) fun r s4 ⟨hr, I4⟩ => ?_)
    subst hr
    exact wpAny_execs_nil ⟨σ3, H3, I4, qn⟩
  · refine wpAny_passesOwn hp (thn (T.item X rfl rfl rfl hc i pins s3 σ3 H3 X.xe I3 (stat fr3) st3 go) fun r s4 ⟨u, hr, h4⟩ => ?_)
    subst hr
    refine wpAny_passesOwn hp (thn h4 fun _ s5 ⟨x, H5, I5, r5, y5, st5, fr5⟩ => ?_)
    have I5' := I5.pinned (stat fr5) (T.obj _ _ st5)
    refine wpAny_passesOwn hp (thn (hg _ s5 σ3 H5 x u _ I5' r5 (step x H5 y5)) fun _ s6 ⟨σ6, H6, I6, q6⟩ => ?_)
    refine wpAny_passesOwn hp (thn (hb _ s6 σ6 H6 _ I6 q6) fun f s7 q7 => ?_)
    have again : ∀ {σ7 : St} {H7 : Hp}, Inv X (pins ++ pinsAt fp s5.heap) σ7 H7 s7 → N σ7 H7 → ∃ m, m < n ∧ ∃ i σ' H', Inv X pins σ' H' s7 ∧ tn i s7.heap ∧ (∀ b ∈ fp, H' b = none) ∧ W i m σ' H' := fun {σ7 H7} I7 n7 => by
      obtain ⟨m', hm, w7⟩ := hN σ7 H7 n7
      refine ⟨m', hm, i + 1, σ7, H7, I7.unpinned, T.keep _ _ _ st5 fun b hb o e => (I7.pin (b, o) (List.mem_append_right _ (List.mem_append_right _ (mem_pinsAt hb e)))).1, fun b hb => ?_, w7⟩
      obtain ⟨o, e, d⟩ := T.obj _ _ st5 b hb
      exact (I7.pin (b, o) (List.mem_append_right _ (List.mem_append_right _ (mem_pinsAt hb e)))).2.1
    cases f with
    | next => obtain ⟨σ7, H7, I7, n7⟩ := q7; exact again I7 n7
    | cont => obtain ⟨σ7, H7, I7, n7⟩ := q7; exact again I7 n7
    | brk => obtain ⟨σ7, H7, I7, q7⟩ := q7; exact ⟨σ7, H7, I7.unpinned, q7⟩
    | ret v => obtain ⟨x7, σ7, H7, I7, r7, q7⟩ := q7; exact ⟨x7, σ7, H7, I7.unpinned, r7, q7⟩
end

/-! ### the forms one uses -/
end L2

namespace L2
open PySem PySem.Spec PyProof.Rows

abbrev R2 := V → V → Hp → VK → Prop
/-- a two-place operation on values: f is binaryOp op, inplaceOp op or compareOp op -/
def OpR (X : Cx) (f : Value → Value → Sem Value) (r : R2) : Prop :=
  ∀ (pins : List (Addr × Obj)) (s : Shared) (σ : St) (H : Hp) (x y : V) (v u : Value) (Q : VK), Inv X pins σ H s → RelV x v → RelV y u → r x y H Q →
    wpAny (model X.prog X.w) X.A (f v u) (EP X pins σ Q) X.xe s
/-- a one-place operation -/
def UnR (X : Cx) (f : Value → Sem Value) (r : V → Hp → VK → Prop) : Prop :=
  ∀ (pins : List (Addr × Obj)) (s : Shared) (σ : St) (H : Hp) (x : V) (v : Value) (Q : VK), Inv X pins σ H s → RelV x v → r x H Q →
    wpAny (model X.prog X.w) X.A (f v) (EP X pins σ Q) X.xe s
/-- a call of a value that is known (a builtin, a type) with values -/
def CallR (X : Cx) (f : Value) (r : List V → Hp → VK → Prop) : Prop :=
  ∀ (pins : List (Addr × Obj)) (s : Shared) (σ : St) (H : Hp) (xs : List V) (us : List Value) (Q : VK), Inv X pins σ H s → Vals xs us → r xs H Q →
    wpAny (model X.prog X.w) X.A (call f us) (EP X pins σ Q) X.xe s
/-- a value's truth -/
def TruR (X : Cx) (r : V → Hp → (Bool → Hp → Prop) → Prop) : Prop :=
  ∀ (pins : List (Addr × Obj)) (s : Shared) (σ : St) (H : Hp) (x : V) (v : Value) (Q : Bool → Hp → Prop), Inv X pins σ H s → RelV x v → r x H Q →
    wpAny (model X.prog X.w) X.A (truthy v) (TP X pins σ Q) X.xe s

def tOp (r : R2) (ta tb : TE) : TE := fun σ H Q => ta σ H fun x H1 => tb σ H1 fun y H2 => r x y H2 Q
def tUn (r : V → Hp → VK → Prop) (ta : TE) : TE := fun σ H Q => ta σ H fun x H1 => r x H1 Q
/-- ints in, under C, and a value out -/
def rI (C : Int → Int → Prop) (g : Int → Int → V) : R2 := fun x y H Q => ∃ i j, x = .int i ∧ y = .int j ∧ C i j ∧ Q (g i j) H
def rI0 (g : Int → Int → V) : R2 := fun x y H Q => ∃ i j, x = .int i ∧ y = .int j ∧ Q (g i j) H
def rU (g : Int → V) : V → Hp → VK → Prop := fun x H Q => ∃ i, x = .int i ∧ Q (g i) H

section
variable {X : Cx} {a b c : Expr} {ta tb tc : TE} {pos : Pos}

theorem binT (ha : PE X a ta) (hb : PE X b tb) {pins : List (Addr × Obj)} {s : Shared} {σ : St} {H : Hp} {R : V → V → Hp → Prop} (I : Inv X pins σ H s)
    (h : ta σ H fun x H1 => tb σ H1 fun y H2 => R x y H2) {Q : Value → Shared → Prop} {f : Value → Value → Sem Value}
    (hf : ∀ v u s2 x y H2, Inv X pins σ H2 s2 → RelV x v → RelV y u → R x y H2 → wpAny (model X.prog X.w) X.A (f v u) Q X.xe s2) :
    wpAny (model X.prog X.w) X.A (eval a X.env) (fun v s₁ => wpAny (model X.prog X.w) X.A (eval b X.env) (fun u s₂ => wpAny (model X.prog X.w) X.A (f v u) Q X.xe s₂) X.xe s₁) X.xe s := by
  refine thn (ha pins s σ H _ I h) fun v s1 ⟨x, H1, I1, r1, q1⟩ => ?_
  refine thn (hb pins s1 σ H1 _ I1 q1) fun u s2 ⟨y, H2, I2, r2, q2⟩ => ?_
  exact hf v u s2 x y H2 I2 r1 r2 q2

theorem pe_op {op : Operator} {r : R2} (ho : OpR X (binaryOp op) r) (ha : PE X a ta) (hb : PE X b tb) : PE X (.BinOp a op b pos) (tOp r ta tb) := by
  intro pins s σ H Q I h
  exact wpAny_BinOp (binT ha hb I h fun v u s2 x y H2 I2 rx ry q => ho pins s2 σ H2 x y v u Q I2 rx ry q)
theorem pe_un {op : UnaryOp} {r : V → Hp → VK → Prop} (ho : UnR X (unaryOp op) r) (ha : PE X a ta) : PE X (.UnaryOp op a pos) (tUn r ta) := by
  intro pins s σ H Q I h
  exact UnaryOp_ (thn (ha pins s σ H _ I h) fun v s1 ⟨x, H1, I1, r1, q1⟩ => ho pins s1 σ H1 x v Q I1 r1 q1)
/-! ### ints -/
theorem opI {f : Value → Value → Sem Value} {C : Int → Int → Prop} {g : Int → Int → Int}
    (rule : ∀ (i j : Int) (t u : Tok) (s : Shared) (Q : Value → Shared → Prop) (E : Value → Shared → Prop), C i j → Q (.int (g i j) s.toks) { s with toks := s.toks + 1 } → wpAny (model X.prog X.w) X.A (f (.int i t) (.int j u)) Q E s) :
    OpR X f (rI C fun i j => .int (g i j)) := by
  intro pins s σ H x y v u Q I rx ry h
  obtain ⟨i, j, rfl, rfl, hc, q⟩ := h
  obtain ⟨t, rfl⟩ := rx
  obtain ⟨t', rfl⟩ := ry
  exact rule i j t t' s _ _ hc ⟨.int (g i j), H, I.tok _, ⟨_, rfl⟩, q⟩
theorem opI0 {f : Value → Value → Sem Value} {g : Int → Int → Int}
    (rule : ∀ (i j : Int) (t u : Tok) (s : Shared) (Q : Value → Shared → Prop) (E : Value → Shared → Prop), Q (.int (g i j) s.toks) { s with toks := s.toks + 1 } → wpAny (model X.prog X.w) X.A (f (.int i t) (.int j u)) Q E s) :
    OpR X f (rI0 fun i j => .int (g i j)) := by
  intro pins s σ H x y v u Q I rx ry h
  obtain ⟨i, j, rfl, rfl, q⟩ := h
  obtain ⟨t, rfl⟩ := rx
  obtain ⟨t', rfl⟩ := ry
  exact rule i j t t' s _ _ ⟨.int (g i j), H, I.tok _, ⟨_, rfl⟩, q⟩
theorem opB0 {f : Value → Value → Sem Value} {g : Int → Int → Bool}
    (rule : ∀ (i j : Int) (t u : Tok) (s : Shared) (Q : Value → Shared → Prop) (E : Value → Shared → Prop), Q (.bool (g i j)) s → wpAny (model X.prog X.w) X.A (f (.int i t) (.int j u)) Q E s) :
    OpR X f (rI0 fun i j => .bl (g i j)) := by
  intro pins s σ H x y v u Q I rx ry h
  obtain ⟨i, j, rfl, rfl, q⟩ := h
  obtain ⟨t, rfl⟩ := rx
  obtain ⟨t', rfl⟩ := ry
  exact rule i j t t' s _ _ ⟨.bl (g i j), H, I, rfl, q⟩

def CPow (i j : Int) : Prop := 0 ≤ j ∧ j ≤ 1000000 ∧ i.natAbs < 2 ^ 64
def CMul (i j : Int) : Prop := (-(2 ^ 64) < i ∧ i < 2 ^ 64) ∨ (-(2 ^ 64) < j ∧ j < 2 ^ 64)
theorem CMul.ok {i j : Int} (h : CMul i j) : IntMulOk i j := by
  rcases h with ⟨h1, h2⟩ | ⟨h1, h2⟩
  · exact .of_left (intBits_le_64 h1 h2)
  · exact .of_right (intBits_le_64 h1 h2)
theorem op_add : OpR X (binaryOp .Add) (rI0 fun i j => .int (i + j)) := opI0 fun _ _ _ _ _ _ _ q => add_int q
theorem op_sub : OpR X (binaryOp .Sub) (rI0 fun i j => .int (i - j)) := opI0 fun _ _ _ _ _ _ _ q => sub_int q
/-- % by a positive divisor of any size -/
theorem op_mod : OpR X (binaryOp .Mod) (rI (fun _ j => 0 < j) fun i j => .int (i % j)) := opI fun i j _ _ _ _ _ hc q => by
  have h1 : (0 : Int) < j := hc
  exact mod_int' (by omega) (by rw [Int.fmod_eq_emod_of_nonneg i (by omega)]; exact q)
theorem op_pow : OpR X (binaryOp .Pow) (rI CPow fun i j => .int (i ^ j.toNat)) := opI fun _ _ _ _ _ _ _ hc q => pow_int_small hc.1 hc.2.1 hc.2.2 q
theorem unI {f : Value → Sem Value} {g : Int → Int}
    (rule : ∀ (i : Int) (t : Tok) (s : Shared) (Q : Value → Shared → Prop) (E : Value → Shared → Prop), Q (.int (g i) s.toks) { s with toks := s.toks + 1 } → wpAny (model X.prog X.w) X.A (f (.int i t)) Q E s) :
    UnR X f (rU fun i => .int (g i)) := by
  intro pins s σ H x v Q I rx h
  obtain ⟨i, rfl, q⟩ := h
  obtain ⟨t, rfl⟩ := rx
  exact rule i t s _ _ ⟨.int (g i), H, I.tok _, ⟨_, rfl⟩, q⟩
theorem un_neg : UnR X (unaryOp .USub) (rU fun i => .int (-i)) := unI fun _ _ _ _ _ q => neg_int q
/-! ### bools among ints: n += (a < b) -/
end

/-! ### comparisons -/
section
variable {X : Cx} {a b c : Expr} {ta tb tc : TE} {pos : Pos}
theorem fin_bl {pins : List (Addr × Obj)} {σ : St} {H : Hp} {s : Shared} {Q : VK} {k k' : Bool} (I : Inv X pins σ H s) (q : Q (.bl k) H) (e : k = k') : EP X pins σ Q (.bool k') s := by
  subst e
  exact ⟨.bl k, H, I, rfl, q⟩
theorem op_lt : OpR X (compareOp .Lt) (rI0 fun i j => .bl (decide (i < j))) := opB0 fun _ _ _ _ _ _ _ q => lt_int q
theorem op_le : OpR X (compareOp .LtE) (rI0 fun i j => .bl (decide (i ≤ j))) := opB0 fun _ _ _ _ _ _ _ q => le_int q
theorem op_gt : OpR X (compareOp .Gt) (rI0 fun i j => .bl (decide (j < i))) := opB0 fun _ _ _ _ _ _ _ q => gt_int q
theorem op_ge : OpR X (compareOp .GtE) (rI0 fun i j => .bl (decide (j ≤ i))) := opB0 fun _ _ _ _ _ _ _ q => ge_int q
/-- the one string within the other -/
theorem op_in_str : OpR X (compareOp .In) (fun x y H Q => ∃ i j, x = .str i ∧ y = .str j ∧ Q (.bl (!(Builtin.Str.occurrences j i 0 j.length 1).isEmpty)) H) := by
  intro pins s σ H x y v u Q I rx ry h
  obtain ⟨i, j, rfl, rfl, q⟩ := h
  obtain ⟨t, rfl⟩ := rx
  obtain ⟨t', rfl⟩ := ry
  exact in_str (fin_bl I q rfl)

/-- is None, is not None: the right side a value none -/
theorem op_isN : OpR X (compareOp .Is) (fun x y H Q => y = .non ∧ Q (.bl (decide (x = .non))) H) := by
  intro pins s σ H x y v u Q I rx ry h
  obtain ⟨rfl, q⟩ := h
  cases ry
  refine is_none_gen (fin_bl I q ?_)
  cases x <;> first
    | (cases rx; rfl)
    | (obtain ⟨t, rfl⟩ := rx; rfl)
theorem op_notN : OpR X (compareOp .IsNot) (fun x y H Q => y = .non ∧ Q (.bl (!decide (x = .non))) H) := by
  intro pins s σ H x y v u Q I rx ry h
  obtain ⟨rfl, q⟩ := h
  cases ry
  refine isnot_none_gen (fin_bl I q ?_)
  cases x <;> first
    | (cases rx; rfl)
    | (obtain ⟨t, rfl⟩ := rx; rfl)

theorem op_notin_str : OpR X (compareOp .NotIn) (fun x y H Q => ∃ i j, x = .str i ∧ y = .str j ∧ Q (.bl (!(!(Builtin.Str.occurrences j i 0 j.length 1).isEmpty))) H) := by
  intro pins s σ H x y v u Q I rx ry h
  obtain ⟨i, j, rfl, rfl, q⟩ := h
  obtain ⟨t, rfl⟩ := rx
  obtain ⟨t', rfl⟩ := ry
  exact notIn_str (fin_bl I q rfl)
/-- two rules for one operation: by cases -/
theorem OpR.or {f : Value → Value → Sem Value} {r r' : R2} (h : OpR X f r) (h' : OpR X f r') : OpR X f (fun x y H Q => r x y H Q ∨ r' x y H Q) := by
  intro pins s σ H x y v u Q I rx ry q
  rcases q with q | q
  · exact h pins s σ H x y v u Q I rx ry q
  · exact h' pins s σ H x y v u Q I rx ry q

theorem nomark (b : Expr) {op : CmpOp} (h : op ≠ .In := by decide) (h2 : op ≠ .NotIn := by decide) : behindInMarks op b = false := by
  have e1 : (op == CmpOp.In) = false := by cases op <;> first | rfl | exact absurd rfl h
  have e2 : (op == CmpOp.NotIn) = false := by cases op <;> first | rfl | exact absurd rfl h2
  cases b <;> simp [behindInMarks, e1, e2]
/-- a comparison as a value; hm: nomark b, or (for in, not in) by with_unfolding_all rfl -/
theorem pe_cmpR {op : CmpOp} {r : R2} (ho : OpR X (compareOp op) r) (ha : PE X a ta) (hb : PE X b tb) (hm : behindInMarks op b = false) : PE X (.Compare a [op] [b] pos) (tOp r ta tb) := by
  intro pins s σ H Q I h
  exact wpAny_Compare1 (binT ha hb I h fun v u s2 x y H2 I2 rx ry q => ho pins s2 σ H2 x y v u Q I2 rx ry q) hm
/-- a reading of a value as a test -/
def tTest (t : TE) : TT := fun σ H Q => t σ H fun x H' => ∃ k, x = .bl k ∧ Q k H'
theorem pt_cmpR {op : CmpOp} {r : R2} (ho : OpR X (compareOp op) r) (ha : PE X a ta) (hb : PE X b tb) (hm : behindInMarks op b = false) : PT X (.Compare a [op] [b] pos) (tTest (tOp r ta tb)) := by
  intro pins s σ H Q I h
  refine wpAny_isTrue_Compare1 (thn (ha pins s σ H _ I h) fun v s1 ⟨x, H1, I1, r1, q1⟩ => thn (hb pins s1 σ H1 _ I1 q1) fun u s2 ⟨y, H2, I2, r2, q2⟩ =>
    thn (ho pins s2 σ H2 x y v u _ I2 r1 r2 q2) fun c s3 ⟨z, H3, I3, r3, k, e, q3⟩ => ?_) hm
  subst e
  cases r3
  exact wpAny_truthy_bool ⟨H3, I3, q3⟩
/-- a op1 b op2 c -/
def tChain (r r' : R2) (ta tb tc : TE) : TE := fun σ H Q => ta σ H fun x H1 => tb σ H1 fun y H2 => r x y H2 fun z H3 => ∃ k, z = .bl k ∧
  (if k = true then tc σ H3 fun w' H4 => r' y w' H4 Q else Q (.bl false) H3)
theorem pe_chain {op op' : CmpOp} {r r' : R2} (ho : OpR X (compareOp op) r) (ho' : OpR X (compareOp op') r') (ha : PE X a ta) (hb : PE X b tb) (hc : PE X c tc)
    (hm : lastMarks [op, op'] [b, c] = false := by with_unfolding_all rfl) : PE X (.Compare a [op, op'] [b, c] pos) (tChain r r' ta tb tc) := by
  intro pins s σ H Q I h
  refine Compare_chain (thn (ha pins s σ H _ I h) fun v s1 ⟨x, H1, I1, r1, q1⟩ => chain_link (thn (hb pins s1 σ H1 _ I1 q1) fun u s2 ⟨y, H2, I2, r2, q2⟩ =>
    thn (ho pins s2 σ H2 x y v u _ I2 r1 r2 q2) fun d s3 ⟨z, H3, I3, r3, k, e, q3⟩ => ?_)) hm
  subst e
  cases r3
  refine wpAny_truthy_bool ?_
  cases k with
  | false => exact ite_ff ⟨.bl false, H3, I3, rfl, q3⟩
  | true => exact ite_tt (chain_last (thn (hc pins s3 σ H3 _ I3 q3) fun w' s4 ⟨z', H4, I4, r4, q4⟩ => ho' pins s4 σ H4 y z' u w' Q I4 r2 r4 q4))
theorem pt_chain {op op' : CmpOp} {r r' : R2} (ho : OpR X (compareOp op) r) (ho' : OpR X (compareOp op') r') (ha : PE X a ta) (hb : PE X b tb) (hc : PE X c tc)
    (hm : lastMarks [op, op'] [b, c] = false := by with_unfolding_all rfl) : PT X (.Compare a [op, op'] [b, c] pos) (tTest (tChain r r' ta tb tc)) := by
  intro pins s σ H Q I h
  refine isTrue_chain (thn (ha pins s σ H _ I h) fun v s1 ⟨x, H1, I1, r1, q1⟩ => test_link (thn (hb pins s1 σ H1 _ I1 q1) fun u s2 ⟨y, H2, I2, r2, q2⟩ =>
    thn (ho pins s2 σ H2 x y v u _ I2 r1 r2 q2) fun d s3 ⟨z, H3, I3, r3, k, e, q3⟩ => ?_)) hm
  subst e
  cases r3
  refine wpAny_truthy_bool ?_
  cases k with
  | false =>
    obtain ⟨k', e', q'⟩ := q3
    cases e'
    exact ite_ff ⟨H3, I3, q'⟩
  | true =>
    refine ite_tt (test_last (thn (hc pins s3 σ H3 _ I3 q3) fun w' s4 ⟨z', H4, I4, r4, q4⟩ => thn (ho' pins s4 σ H4 y z' u w' _ I4 r2 r4 q4) fun d' s5 ⟨z2, H5, I5, r5, k2, e2, q5⟩ => ?_))
    subst e2
    cases r5
    exact wpAny_truthy_bool ⟨H5, I5, q5⟩

/-! ### truth -/
/-- a value's truth by the abstract heap -/
def TruV (K : PySem.W.Frag) (x : V) (H : Hp) (k : Bool) : Prop :=
  match x with
  | .non => k = false
  | .bl b => k = b
  | .int i => k = (i != 0)
  | .str y => y.length ≤ sizeLine ∧ k = ((y.length : Int) != 0)
  | .byt y => y.size ≤ sizeLine ∧ k = ((y.size : Int) != 0)
  | .ref p => (∃ xs, SqL K H p xs ∧ k = !xs.isEmpty) ∨ (∃ xs, SqT K H p xs ∧ k = !xs.isEmpty) ∨ ∃ kvs, H p = some (.dK kvs) ∧ k = !kvs.isEmpty
  | _ => False
theorem isEmpty_kv {κ : Type} {kvs : List (κ × V)} {vs : List (κ × Value)} (r : KV kvs vs) : (!vs.isEmpty) = !kvs.isEmpty := by
  cases r <;> rfl
theorem isEmpty_of {xs : List V} {its : List Value} (r : Vals xs its) : (!its.toArray.isEmpty) = !xs.isEmpty := by
  cases r <;> simp
theorem line63 : (sizeLine : Nat) < 2 ^ 63 := by rw [sizeLine_eq]; decide
theorem tru_ok : TruR X (fun x H Q => ∃ k, TruV X.K x H k ∧ Q k H) := by
  intro pins s σ H x v Q I rx h
  obtain ⟨k, e, q⟩ := h
  have hl := line63
  have hs : sizeLine = 16777216 := sizeLine_eq
  cases x with
  | non =>
    cases rx
    have e' : k = false := e
    subst e'
    exact truthy_none ⟨H, I, q⟩
  | bl b =>
    cases rx
    have e' : k = b := e
    subst e'
    exact wpAny_truthy_bool ⟨H, I, q⟩
  | int i =>
    obtain ⟨t, rfl⟩ := rx
    have e' : k = (i != 0) := e
    subst e'
    exact PySem.P.truthy_int ⟨H, I, q⟩
  | str y =>
    obtain ⟨t, rfl⟩ := rx
    obtain ⟨hy, e'⟩ : y.length ≤ sizeLine ∧ k = ((y.length : Int) != 0) := e
    subst e'
    exact PySem.P.truthy_str (by omega) ⟨H, I.tok _, q⟩
  | byt y =>
    obtain ⟨t, rfl⟩ := rx
    obtain ⟨hy, e'⟩ : y.size ≤ sizeLine ∧ k = ((y.size : Int) != 0) := e
    subst e'
    exact PySem.W.truthy_bytes (by omega) ⟨H, I.tok _, q⟩
  | ref p =>
    cases rx
    have e' : (∃ xs, SqL X.K H p xs ∧ k = !xs.isEmpty) ∨ (∃ xs, SqT X.K H p xs ∧ k = !xs.isEmpty) ∨ ∃ kvs, H p = some (.dK kvs) ∧ k = !kvs.isEmpty := e
    rcases e' with ⟨xs, hx, e'⟩ | ⟨xs, hx, e'⟩ | ⟨kvs, hx, e'⟩
    · subst e'
      obtain ⟨its, r, pl, hz⟩ := I.list hx
      have hlen := r.length
      exact wpAny_truthy_list pl.isList (by simp only [List.size_toArray]; omega) ⟨H, I.tok _, by rw [isEmpty_of r]; exact q⟩
    · subst e'
      obtain ⟨its, r, pl, hz⟩ := I.tuple hx
      have hlen := r.length
      exact truthy_tuple pl (by simp only [List.size_toArray]; omega) ⟨H, I.tok _, by rw [isEmpty_of r]; exact q⟩
    · subst e'
      obtain ⟨hz, hS, vs, r, m⟩ : kvs.length ≤ sizeLine ∧ (p == sysModules) = false ∧ ∃ vs, KV kvs vs ∧ s.heap.DictOf (mixKind X.prog X.w) p vs := I.hok p _ hx
      have hlen : kvs.length = vs.length := Paired.length r
      exact wpAny_truthy_dict hS m (by omega) ⟨H, I.tok _, by rw [isEmpty_kv r]; exact q⟩
  | _ => exact (show False from e).elim
/-- any expression whose test is its value's truth (a name, a call, a subscript, a field ..: he by fun _ => rfl) -/
theorem pt_truth (ha : PE X a ta) (he : ∀ whole, isTrue a X.env whole = (do let v ← whole; standAt a.pos; holding [v] (truthy v))) :
    PT X a (fun σ H Q => ta σ H fun x H' => ∃ k, TruV X.K x H' k ∧ Q k H') := by
  intro pins s σ H Q I h
  exact isTrue_plain (thn (ha pins s σ H _ I h) fun v s1 ⟨x, H1, I1, r1, q1⟩ => tru_ok pins s1 σ H1 x v Q I1 r1 q1) (he _)

/-! ### strs and bytes -/
theorem op_add_str : OpR X (binaryOp .Add) (fun x y H Q => ∃ i j, x = .str i ∧ y = .str j ∧ i.length + j.length ≤ sizeLine ∧ Q (.str (i ++ j)) H) := by
  intro pins s σ H x y v u Q I rx ry h
  obtain ⟨i, j, rfl, rfl, hz, q⟩ := h
  obtain ⟨t, rfl⟩ := rx
  obtain ⟨t', rfl⟩ := ry
  exact add_str (fun t' tk => ⟨.str (i ++ j), H, I.tok _, ⟨_, rfl⟩, q⟩) hz
/-! ### scalar builtins, by CallR -/
theorem vals1 {x : V} {us : List Value} (r : Vals [x] us) : ∃ u, us = [u] ∧ RelV x u := by
  cases r with
  | cons r1 r2 => cases r2; exact ⟨_, rfl, r1⟩
theorem vals2 {x y : V} {us : List Value} (r : Vals [x, y] us) : ∃ u w', us = [u, w'] ∧ RelV x u ∧ RelV y w' := by
  cases r with
  | cons r1 r2 =>
    cases r2 with
    | cons r3 r4 => cases r4; exact ⟨_, _, rfl, r1, r3⟩
theorem call_int1 : CallR X (.type "int") (fun xs H Q => (∃ i, xs = [.int i] ∧ Q (.int i) H) ∨ ∃ k, xs = [.bl k] ∧ Q (.int (if k then 1 else 0)) H) := by
  intro pins s σ H xs us Q I r h
  rcases h with ⟨i, rfl, q⟩ | ⟨k, rfl, q⟩
  · obtain ⟨u, rfl, t, rfl⟩ := vals1 r
    exact call_int_int ⟨.int i, H, I, ⟨_, rfl⟩, q⟩
  · obtain ⟨u, rfl, r1⟩ := vals1 r
    cases r1
    exact call_int_bool ⟨.int (if k then 1 else 0), H, I.tok _, ⟨_, rfl⟩, q⟩
theorem call_str_int : CallR X (.type "str") (fun xs H Q => ∃ i, xs = [.int i] ∧ i.natAbs.log2 < 1920 ∧ Q (.str (toString i)) H) := by
  intro pins s σ H xs us Q I r h
  obtain ⟨i, rfl, hz, q⟩ := h
  obtain ⟨u, rfl, t, rfl⟩ := vals1 r
  exact PySem.P.str_of_int hz ⟨.str _, H, I.tok _, ⟨_, rfl⟩, q⟩
/-- len of a str, a bytes, a list, a tuple -/
def LenV (K : PySem.W.Frag) (x : V) (H : Hp) (n : Nat) : Prop :=
  match x with
  | .str y => y.length ≤ sizeLine ∧ n = y.length
  | .byt y => y.size ≤ sizeLine ∧ n = y.size
  | .ref p => (∃ xs, SqL K H p xs ∧ n = xs.length) ∨ ∃ xs, SqT K H p xs ∧ n = xs.length
  | _ => False
theorem call_len : CallR X (.builtin "len") (fun xs H Q => ∃ x n, xs = [x] ∧ LenV X.K x H n ∧ Q (.int n) H) := by
  intro pins s σ H xs us Q I r h
  obtain ⟨x, n, rfl, e, q⟩ := h
  obtain ⟨u, rfl, rx⟩ := vals1 r
  have hl := line63
  have hs : sizeLine = 16777216 := sizeLine_eq
  cases x with
  | str y =>
    obtain ⟨t, rfl⟩ := rx
    obtain ⟨hy, e'⟩ : y.length ≤ sizeLine ∧ n = y.length := e
    subst e'
    exact len_str (by omega) ⟨.int _, H, I.tok _, ⟨_, rfl⟩, q⟩
  | byt y =>
    obtain ⟨t, rfl⟩ := rx
    obtain ⟨hy, e'⟩ : y.size ≤ sizeLine ∧ n = y.size := e
    subst e'
    exact PySem.W.len_bytes (by omega) ⟨.int _, H, I.tok _, ⟨_, rfl⟩, q⟩
  | ref p =>
    cases rx
    have e' : (∃ xs, SqL X.K H p xs ∧ n = xs.length) ∨ ∃ xs, SqT X.K H p xs ∧ n = xs.length := e
    rcases e' with ⟨xs, hx, e'⟩ | ⟨xs, hx, e'⟩
    · subst e'
      obtain ⟨its, r', pl, hz⟩ := I.list hx
      have hlen := r'.length
      exact Calls.call_len_list pl.isList (by simp only [List.size_toArray]; omega) ⟨.int xs.length, H, I.tok _, ⟨_, by simp only [List.size_toArray]; rw [hlen]⟩, q⟩
    · subst e'
      obtain ⟨its, r', pl, hz⟩ := I.tuple hx
      have hlen := r'.length
      exact len_tuple pl (by simp only [List.size_toArray]; omega) ⟨.int xs.length, H, I.tok _, ⟨_, by simp only [List.size_toArray]; rw [hlen]⟩, q⟩
  | _ => exact (show False from e).elim
end
end L2

namespace L2
open PySem PySem.Spec PyProof.Rows

/-! ### an instance, its attributes a map -/
structure ObjM (h : Heap) (x dx C : Addr) (mA : Str → Option Value) : Prop where
  obj : h.get? x = some (PySem.W.instObj C dx)
  ns : h.Ns1 dx mA
  ne : dx ≠ x

theorem lookIn_ns {h : Heap} {dx : Addr} {mA : Str → Option Value} (n : h.Ns1 dx mA) : ∃ od, h.get? dx = some od ∧ ∀ name, PySem.W.lookIn name od = some (mA name) := by
  obtain ⟨o, es, ep, ho, hd, hk, _, hm⟩ := n
  refine ⟨o, ho, fun name => ?_⟩
  have e := hm name
  unfold nsFind findBy at e
  rw [← Array.find?_toList] at e
  unfold PySem.W.lookIn
  rw [hd]
  dsimp only
  split
  · rename_i y q
    rw [q] at e
    exact congrArg some e
  · rename_i q
    rw [q] at e
    have a : es.toList.any (·.refKey) = false := by
      rw [List.any_eq_false]
      intro y hy
      obtain ⟨z, t, hkey⟩ := hk y (Array.mem_toList_iff.mp hy)
      simp [DictEntry.refKey, hkey]
    have a' : ¬ es.toList.any (·.refKey) = true := by rw [a]; exact Bool.false_ne_true
    rw [if_neg a']
    exact congrArg some e

theorem ObjM.look {h : Heap} {x dx C : Addr} {mA : Str → Option Value} (I : ObjM h x dx C mA) : ∃ od, PySem.W.InstAt h x (PySem.W.instObj C dx) C (some od) ∧ ∀ name, PySem.W.lookIn name od = some (mA name) :=
  let ⟨od, ho, hl⟩ := lookIn_ns I.ns
  ⟨od, ⟨I.obj, rfl, rfl, ho⟩, hl⟩

section
variable {prog : Program} {w : World} {A : Around} {E : Value → Shared → Prop} {s : Shared} {K : PySem.W.Frag} {x dx C f : Addr} {mA : Str → Option Value} {name : Str} {v : Value}

theorem get_map {expr : Bool} {Q : Value → Shared → Prop} (X : K.In s.heap) (I : ObjM s.heap x dx C mA) (hg : PySem.W.plainGet K C name = true) (hh : PySem.W.hasDictIn K C = true)
    (ha : PySem.W.findIn K (.ref C) name = some none) (hv : mA name = some v) (hv' : PySem.W.handedIn v = true) (h : Q v { s with toks := s.toks + 1 }) :
    wpAny (model prog w) A (getAttr (.ref x) name expr) Q E s := by
  obtain ⟨od, J, hl⟩ := I.look
  exact PySem.W.get_value X J (PySem.W.plainGet_of hg).1 (PySem.W.findObj_own hh ha rfl (by rw [hl, hv])) hv' h

theorem get_meth {pl : Sem Bool} {Q : Value × List Value → Shared → Prop} (X : K.In s.heap) (I : ObjM s.heap x dx C mA) (hg : PySem.W.plainGet K C name = true)
    (hf : PySem.W.findIn K (.ref C) name = some (some (.ref f))) (ht : PySem.W.isFn K (.ref f) = true) (hv : mA name = none) (h : Q (.ref f, [.ref x]) s) :
    wpAny (model prog w) A (getMethod (.ref x) name pl) Q E s := by
  obtain ⟨od, J, hl⟩ := I.look
  exact PySem.W.method_fn X J (PySem.W.plainGet_of hg).1 (PySem.W.plainGet_of hg).2 hf (beq_iff_eq.mp ht) (by show (PySem.W.lookIn name od).map (·.isSome) = some false; rw [hl, hv]; rfl) h

theorem set_map {ns : List Str} {Q : Unit → Shared → Prop} (X : K.In s.heap) (I : ObjM s.heap x dx C mA)
    (hs : PySem.W.findIn K (.ref C) "__setattr__" = some (some (.builtin "object.__setattr__"))) (hp : PySem.W.plainOver K C = true) (ht : PySem.W.takerIn K C name = some none) (hh : PySem.W.hasDictIn K C = true)
    (hw : PySem.Within mA ns) (hsz : ns.length ≤ sizeLine)
    (h : ∀ h', ObjM h' x dx C (fun y => if y = name then some v else mA y) → Heap.SameBut dx s.heap h' → Q () { s with heap := h', toks := s.toks + 2 }) :
    wpAny (model prog w) A (setAttr (.ref x) name v) Q E s := by
  obtain ⟨od, J, hl⟩ := I.look
  refine PySem.W.set_plain X J hs (PySem.W.osa_open (s := { s with toks := s.toks + 1 }) (r := none) X J hp ht fun b => ?_)
  obtain ⟨cd, hc, hd'⟩ := PySem.W.any_some hh
  have hx : s.heap.get? x = some ⟨.ref C, some dx, .plain, #[]⟩ := I.obj
  refine wpAny_bind (wpAny_pure (wpAny_bind (wpAny_bind (wpAny_loadPart hx (wpAny_bind (PySem.W.Looks.here (s := { s with toks := s.toks + 1 }) (PySem.W.looks_clsIn X hc) ?_))))))
  rw [hd']
  refine wpAny_pure (a := some dx) (wpAny_bind (wpAny_pure (wpAny_bind ?_)))
  refine wpAny_nsSet1 (s := { s with toks := s.toks + 1 }) I.ns fun h' hn2 hs2 => ?_
  obtain ⟨oD, esD, epD, hoD, hdD, hcD⟩ := hn2.count (PySem.Within.cons name v hw)
  refine wpAny_bind (wpAny_lookBehind hoD (by rw [hdD]; exact pastItsLine_dict (Nat.le_trans hcD (by rw [List.length_cons]; omega))) ?_)
  exact wpAny_pure (h _ ⟨(hs2.2 _ (Ne.symm I.ne)).trans I.obj, hn2, I.ne⟩ hs2)

/-- C(..): the dict at the heap's end, the instance behind it; then its __init__ -/
theorem make_map {R : Result → Shared → Prop} {vs : List Value} {kw : List (Str × Value)} (X : K.In s.heap) (hm : PySem.W.makesIn K C = true)
    (hi : PySem.W.findIn K (.ref C) "__init__" = some (some (.ref f))) (hf : PySem.W.typeIn K (.ref f) = some (.type "function"))
    (h : codeAny (model prog w) (A.under (.builtin "type.__call__" ⟨.ref C :: vs, kw⟩)) (.call (.ref f) ⟨.ref (s.heap.objs.size + 1) :: vs, kw⟩) (PySem.W.InitBack (s.heap.objs.size + 1) R)
      { s with heap := (s.heap.push PySem.W.emptyDict).push (PySem.W.instObj C s.heap.objs.size) }) :
    codeAny (model prog w) A (.call (.ref C) ⟨vs, kw⟩) R s := by
  obtain ⟨hh, g, d, t, os⟩ := s
  exact PySem.W.make_core (PySem.W.makes_of X hm) (PySem.W.looks_findIn X hi) (fun self => PySem.W.bind_fn X self hf) (.inl rfl) h
end

/-! ### the attributes as a list of pairs -/
def putF (f : Str) (v : V) : List (Str × V) → List (Str × V)
  | [] => [(f, v)]
  | (g, x) :: r => if g = f then (g, v) :: r else (g, x) :: putF f v r
theorem lookup_putF (f g : Str) (v : V) : ∀ fs : List (Str × V), (putF f v fs).lookup g = if g = f then some v else fs.lookup g
  | [] => by
    show List.lookup g [(f, v)] = _
    by_cases h : g = f
    · have hb : (g == f) = true := beq_iff_eq.mpr h
      simp only [List.lookup, hb, if_pos h]
    · have hb : (g == f) = false := beq_eq_false_iff_ne.mpr h
      simp only [List.lookup, hb, if_neg h]
  | (k, x) :: r => by
    have ih := lookup_putF f g v r
    rw [show putF f v ((k, x) :: r) = (if k = f then (k, v) :: r else (k, x) :: putF f v r) from rfl]
    by_cases hk : k = f
    · rw [if_pos hk]
      by_cases h : g = k
      · have hb : (g == k) = true := beq_iff_eq.mpr h
        simp only [List.lookup, hb, if_pos (h.trans hk)]
      · have hb : (g == k) = false := beq_eq_false_iff_ne.mpr h
        simp only [List.lookup, hb, if_neg (fun e : g = f => h (e.trans hk.symm))]
    · rw [if_neg hk]
      by_cases h : g = k
      · have hb : (g == k) = true := beq_iff_eq.mpr h
        simp only [List.lookup, hb, if_neg (fun e : g = f => hk (h.symm.trans e))]
      · have hb : (g == k) = false := beq_eq_false_iff_ne.mpr h
        simp only [List.lookup, hb]
        exact ih
theorem keys_putF (f : Str) (v : V) : ∀ fs : List (Str × V), f ∈ (putF f v fs).map (·.1) ∧ ∀ g, g ∈ fs.map (·.1) → g ∈ (putF f v fs).map (·.1)
  | [] => ⟨by simp [putF], fun g h => by simp at h⟩
  | (k, x) :: r => by
    obtain ⟨i1, i2⟩ := keys_putF f v r
    rw [show putF f v ((k, x) :: r) = (if k = f then (k, v) :: r else (k, x) :: putF f v r) from rfl]
    by_cases hk : k = f
    · rw [if_pos hk]
      subst hk
      exact ⟨by simp, fun g h => by simpa using h⟩
    · rw [if_neg hk]
      refine ⟨?_, fun g h => ?_⟩
      · rw [List.map_cons]
        exact List.mem_cons_of_mem _ i1
      · rw [List.map_cons] at h ⊢
        rcases List.mem_cons.mp h with e | e
        · exact List.mem_cons.mpr (.inl e)
        · exact List.mem_cons_of_mem _ (i2 g e)
theorem length_putF (f : Str) (v : V) : ∀ fs : List (Str × V), (putF f v fs).length ≤ fs.length + 1
  | [] => by simp [putF]
  | (k, x) :: r => by
    have ih := length_putF f v r
    rw [show putF f v ((k, x) :: r) = (if k = f then (k, v) :: r else (k, x) :: putF f v r) from rfl]
    by_cases hk : k = f
    · rw [if_pos hk, List.length_cons, List.length_cons]; omega
    · rw [if_neg hk, List.length_cons, List.length_cons]; omega

theorem RelO.some_of {v : V} {o : Option Value} (r : RelO (some v) o) : ∃ u, o = some u ∧ RelV v u := by
  cases o with
  | none => exact (show False from r).elim
  | some u => exact ⟨u, rfl, r⟩
theorem RelO.none_of {o : Option Value} (r : RelO none o) : o = none := by
  cases o with
  | none => rfl
  | some u => exact (show False from r).elim
theorem handed_of {v : V} {u : Value} (r : RelV v u) : PySem.W.handedIn u = true := by
  cases v with
  | non => cases (show u = Value.none from r); rfl
  | bl b => cases (show u = Value.bool b from r); rfl
  | int i => obtain ⟨t, e⟩ := (show ∃ t, u = Value.int i t from r); cases e; rfl
  | str x => obtain ⟨t, e⟩ := (show ∃ t, u = Value.str x t from r); cases e; rfl
  | byt b => obtain ⟨t, e⟩ := (show ∃ t, u = Value.bytes b t from r); cases e; rfl
  | flt b => obtain ⟨t, e⟩ := (show ∃ t, u = Value.float b t from r); cases e; rfl
  | ref a => cases (show u = Value.ref a from r); rfl
  | ty n => cases (show u = Value.type n from r); rfl

section
variable {P : Program} {w : World} {H H' : Hp} {h h' : Heap} {a C dx : Addr} {fs fs' : List (Str × V)}
theorem ins_get (hok : HOk P w H h) (e : H a = some (.ins C dx fs)) : ∃ mA, ObjM h a dx C mA ∧ (∀ f, RelO (fs.lookup f) (mA f)) ∧ PySem.Within mA (fs.map (·.1)) ∧ fs.length ≤ 1000 ∧ H dx = some (.own a) := by
  obtain ⟨d, z, ne, ob, mA, n, r, q⟩ := (show ObjOk P w H h a (.ins C dx fs) from hok a _ e)
  exact ⟨mA, ⟨ob, n, ne⟩, r, q, z, d⟩
end

/-! ### what of the text a class must have -/
structure Cls (K : PySem.W.Frag) (C : Addr) : Prop where
  pg : PySem.W.plainGet K C Str.empty = true
  hd : PySem.W.hasDictIn K C = true
  po : PySem.W.plainOver K C = true
  sa : PySem.W.findIn K (.ref C) "__setattr__" = some (some (.builtin "object.__setattr__"))
theorem Cls.get {K : PySem.W.Frag} {C : Addr} (c : Cls K C) (f : Str) : PySem.W.plainGet K C f = true := c.pg
/-- no class of it has the name -/
def NoAttr (K : PySem.W.Frag) (C : Addr) (f : Str) : Prop := PySem.W.findIn K (.ref C) f = some none
theorem NoAttr.taker {K : PySem.W.Frag} {C : Addr} {f : Str} (n : NoAttr K C f) : PySem.W.takerIn K C f = some none := by
  unfold PySem.W.takerIn
  rw [show PySem.W.findIn K (.ref C) f = some none from n]
  rfl
/-- a constant of the class -/
structure Con (K : PySem.W.Frag) (C : Addr) (f : Str) (v : V) (u : Value) : Prop where
  at_ : PySem.W.findIn K (.ref C) f = some (some u)
  rel : RelV v u
  get : PySem.W.specialIn K u "__get__" = some none
  cp : PySem.W.copiedNames.contains f = false
/-- a method: a plain def of the class or of one above it -/
structure Meth (K : PySem.W.Frag) (C : Addr) (m : Str) (f : Addr) : Prop where
  at_ : PySem.W.findIn K (.ref C) m = some (some (.ref f))
  fn : PySem.W.isFn K (.ref f) = true
  kp : PySem.W.keepIn K (.ref f) = true

section
variable {X : Cx} {pins : List (Addr × Obj)} {σ : St} {H : Hp} {s : Shared} {a C dx : Addr} {fs : List (Str × V)} {f : Str} {v : V} {A : Around} {E : Value → Shared → Prop}

theorem getattr_ok {b : Bool} {Q : Value → Shared → Prop} (I : Inv X pins σ H s) (e : H a = some (.ins C dx fs)) (c : Cls X.K C) (n : NoAttr X.K C f) (l : fs.lookup f = some v)
    (h : ∀ u s', Inv X pins σ H s' → RelV v u → Q u s') : wpAny (model X.prog X.w) A (getAttr (.ref a) f b) Q E s := by
  obtain ⟨mA, O, r, _, _, _⟩ := ins_get I.hok e
  obtain ⟨u, hu, ru⟩ := RelO.some_of (v := v) (o := mA f) (by rw [← l]; exact r f)
  exact get_map I.kIn O (c.get f) c.hd n hu (handed_of ru) (h u _ (I.tok _) ru)

theorem getmeth_ok {m : Str} {g : Addr} {pl : Sem Bool} {Q : Value × List Value → Shared → Prop} (I : Inv X pins σ H s) (e : H a = some (.ins C dx fs)) (c : Cls X.K C) (k : Meth X.K C m g) (l : fs.lookup m = none)
    (h : Q (.ref g, [.ref a]) s) : wpAny (model X.prog X.w) A (getMethod (.ref a) m pl) Q E s := by
  obtain ⟨mA, O, r, _, _, _⟩ := ins_get I.hok e
  have hn : mA m = none := RelO.none_of (by rw [← l]; exact r m)
  exact get_meth I.kIn O (c.get m) k.at_ k.fn hn h

theorem setattr_ok {y : V} {u : Value} {Q : Unit → Shared → Prop} (I : Inv X pins σ H s) (e : H a = some (.ins C dx fs)) (c : Cls X.K C) (n : NoAttr X.K C f) (hl : fs.length < 1000) (ry : RelV y u)
    (h : ∀ s', Inv X pins σ (upd H a (.ins C dx (putF f y fs))) s' → Q () s') : wpAny (model X.prog X.w) A (setAttr (.ref a) f u) Q E s := by
  obtain ⟨mA, O, r, wi, _, ho⟩ := ins_get I.hok e
  have hz : (fs.map (·.1)).length ≤ sizeLine := by rw [List.length_map, sizeLine_eq]; omega
  refine set_map I.kIn O c.sa c.po n.taker c.hd wi hz fun h' O' sb => h _ ?_
  have hd : ∃ o, h'.get? dx = some o := let ⟨o, _, _, e', _⟩ := O'.ns; ⟨o, e'⟩
  refine I.write (x := a) (e := dx) (by rw [e]; exact True.intro) (.inr ho) (fun b q hb z => (sb.2 b hb).trans z) hd ?_
  refine ⟨by rw [upd_ne O.ne]; exact ho, ?_, O.ne, O'.obj, _, O'.ns, fun g => ?_, fun g hg => ?_⟩
  · have := length_putF f y fs; omega
  · show RelO ((putF f y fs).lookup g) (if g = f then some u else mA g)
    rw [lookup_putF]
    by_cases q : g = f
    · rw [if_pos q, if_pos q]; exact ry
    · rw [if_neg q, if_neg q]; exact r g
  · by_cases q : g = f
    · rw [q]; exact (keys_putF f y fs).1
    · refine (keys_putF f y fs).2 g (wi g fun z => hg ?_)
      show (if g = f then some u else mA g) = none
      rw [if_neg q]; exact z

/-- a new instance, tracked, without attributes -/
theorem Inv.made (I : Inv X pins σ H s) : Inv X pins σ (upd (upd H s.heap.objs.size (.own (s.heap.objs.size + 1))) (s.heap.objs.size + 1) (.ins C s.heap.objs.size []))
    { s with heap := (s.heap.push PySem.W.emptyDict).push (PySem.W.instObj C s.heap.objs.size) } := by
  have e1 : (s.heap.push PySem.W.emptyDict).get? s.heap.objs.size = some PySem.W.emptyDict := Heap.get?_push_size s.heap rfl
  have e2 : ((s.heap.push PySem.W.emptyDict).push (PySem.W.instObj C s.heap.objs.size)).get? (s.heap.objs.size + 1) = some (PySem.W.instObj C s.heap.objs.size) := by
    have := Heap.get?_push_size (s.heap.push PySem.W.emptyDict) (o := PySem.W.instObj C s.heap.objs.size) rfl
    rwa [Heap.size_push] at this
  have e3 : (s.heap.push PySem.W.emptyDict).Ns s.heap.objs.size (fun _ => none) := ⟨PySem.W.emptyDict, #[], _, e1, rfl, (fun e he => absurd he (by simp)), fun _ => rfl⟩
  have I1 := I.laid (a := s.heap.objs.size) (o := .own (s.heap.objs.size + 1)) (h' := s.heap.push PySem.W.emptyDict) (t' := s.toks) (fun b u q => Heap.get?_push_of_some _ q) (Nat.le_refl _) ⟨_, e1⟩
  refine I1.laid (a := s.heap.objs.size + 1) (o := .ins C s.heap.objs.size []) (t' := s.toks) (fun b u q => Heap.get?_push_of_some _ q) (Nat.le_of_eq (Heap.size_push _ _)) ?_
  have ne : s.heap.objs.size ≠ s.heap.objs.size + 1 := Nat.ne_of_lt (Nat.lt_succ_self _)
  refine ⟨by rw [upd_ne ne, upd_same], Nat.zero_le _, ne, e2, fun _ => none, (Heap.Ns1.of_empty e3).at fun o q => Heap.get?_push_of_some _ q, fun _ => True.intro, fun y hy => absurd rfl hy⟩

/-- e.f where nothing but the object is asked: through attributeBase (super) and the last hold -/
theorem attr_of {prog : Program} {w : World} {env : Env} {e : Expr} {f : Str} {pos : Pos} {s : Shared} {Q : Value → Shared → Prop} (hb : attributeBase e f env (eval e env) = eval e env)
    (h : wpAny (model prog w) A (eval e env) (fun o s₁ => wpAny (model prog w) A (getAttr o f true) Q E s₁) E s) : wpAny (model prog w) A (eval (.Attribute e f pos) env) Q E s :=
  Attribute_any_ h (by rw [arm_eval_Attribute, hb])
end

/-! ### readings and rules -/
/-- e.f, an attribute of the instance -/
def tFld (K : PySem.W.Frag) (ta : TE) (f : Str) : TE := fun σ H Q => ta σ H fun x H1 => ∃ a C dx fs v, x = .ref a ∧ H1 a = some (.ins C dx fs) ∧ Cls K C ∧ NoAttr K C f ∧ fs.lookup f = some v ∧ Q v H1
/-- e.f = value -/
def sFld (K : PySem.W.Frag) (ta tv : TE) (f : Str) : TS := fun D σ H => tv σ H fun y H1 => ta σ H1 fun x H2 => ∃ a C dx fs, x = .ref a ∧ H2 a = some (.ins C dx fs) ∧ Cls K C ∧ NoAttr K C f ∧ fs.length < 1000 ∧
  D.nx σ (upd H2 a (.ins C dx (putF f y fs)))
section
variable {X : Cx} {o e value : Expr} {f : Str} {pos pos' tpos : Pos} {ta tv : TE}
theorem pe_fld (he : PE X e ta) (hb : attributeBase e f X.env (eval e X.env) = eval e X.env) : PE X (.Attribute e f pos) (tFld X.K ta f) := by
  intro pins s σ H Q I h
  refine attr_of hb (thn (he pins s σ H _ I h) fun u s1 ⟨x, H1, I1, rx, a, C, dx, fs, v, ex, ea, c, n, l, q⟩ => ?_)
  subst ex
  obtain rfl : u = Value.ref a := rx
  exact getattr_ok I1 ea c n l fun u' s2 I2 ru => ⟨v, H1, I2, ru, q⟩
theorem ps_fld (ha : PE X o ta) (hv : PE X value tv) (hs : swapsWith value (some (.Attribute o f pos')) pos.line X.env = pure false) : PS X (.Assign [.Attribute o f pos'] value pos) (sFld X.K ta tv f) := by
  intro pins s σ H D I h
  refine plainObj_wpAny_Assign_Attribute (thn (hv pins s σ H _ I h) fun u s1 ⟨y, H1, I1, ry, q⟩ => thn (ha pins s1 σ H1 _ I1 q) fun ov s2 ⟨x, H2, I2, rx, a, C, dx, fs, ex, ea, c, n, l, q2⟩ => ?_) hs
  subst ex
  obtain rfl : ov = Value.ref a := rx
  exact setattr_ok I2 ea c n l ry fun s3 I3 => ⟨σ, _, I3, q2⟩
/-- what is between an instance and its method: the tree of a method call -/
theorem methcall_of {pl : Sem Bool} {m : Str} {apos : Pos} {args : List Expr} {pins : List (Addr × Obj)} {s : Shared} {σ : St} {H : Hp} {Q : Value → Shared → Prop} {te : TE} (he : PE X e te) (I : Inv X pins σ H s)
    (h : te σ H fun x H1 => ∃ a C dx fs g, x = .ref a ∧ H1 a = some (.ins C dx fs) ∧ Cls X.K C ∧ Meth X.K C m g ∧ fs.lookup m = none ∧
      ∀ s1, Inv X pins σ H1 s1 → wpAny (model X.prog X.w) X.A (callWith pos (.ref g) [.ref a] (backTo pos (starEach args X.env)) (backToKw pos (keywordEach [] X.env))) Q X.xe s1)
    (ht : eval (.Call (.Attribute e m apos) args [] pos) X.env = (do
      let ov ← eval e X.env
      standAt apos.atName
      let (f, first) ← holding [ov] (getMethod ov m pl)
      callWith pos f first (backTo pos (starEach args X.env)) (backToKw pos (keywordEach [] X.env)))) :
    wpAny (model X.prog X.w) X.A (eval (.Call (.Attribute e m apos) args [] pos) X.env) Q X.xe s := by
  refine PySem.W.methodCall_KW (pl := pl) (thn (he pins s σ H _ I h) fun u s1 ⟨x, H1, I1, rx, a, C, dx, fs, g, ex, ea, c, k, l, q⟩ => ?_) ht
  subst ex
  obtain rfl : u = Value.ref a := rx
  exact getmeth_ok I1 ea c k l (q s1 I1)
end

/-! ### isinstance -/
section
variable {X : Cx} {pins : List (Addr × Obj)} {σ : St} {H : Hp} {s : Shared} {A : Around} {E : Value → Shared → Prop} {Q : Value → Shared → Prop} {c : Value} {b : Bool}
/-- the type of a value, as the fragment's deciders take it; for an instance its class -/
inductive TyOf (K : PySem.W.Frag) (H : Hp) : V → Value → Prop where
  | non : TyOf K H .non (.type "NoneType")
  | bl (x : Bool) : TyOf K H (.bl x) (.type "bool")
  | int (i : Int) : TyOf K H (.int i) (.type "int")
  | str (x : Str) : TyOf K H (.str x) (.type "str")
  | flt (x : UInt64) : TyOf K H (.flt x) (.type "float")
  | lst {a : Addr} {xs : List V} (e : H a = some (.lst xs)) : TyOf K H (.ref a) (.type "list")
  | frz {a : Addr} {o : Obj} {xs : List V} (e : H a = some (.frz o (.lst xs))) : TyOf K H (.ref a) (.type "list")
  | tup {a : Addr} {xs : List V} (e : H a = some (.tup xs)) : TyOf K H (.ref a) (.type "tuple")
  | dK {a : Addr} {kvs : List (Key × V)} (e : H a = some (.dK kvs)) : TyOf K H (.ref a) (.type "dict")
  | dT {a : Addr} {kvs : List (List Key × V)} (e : H a = some (.dT kvs)) : TyOf K H (.ref a) (.type "dict")
  | ins {a C dx : Addr} {fs : List (Str × V)} (e : H a = some (.ins C dx fs)) (cl : Cls K C) (ha : PySem.W.findIn K (.ref C) "__class__" = some (some (.builtin "object.__class__")))
      (hn : PySem.W.specialIn K (.builtin "object.__class__") "__get__" = some (some (.builtin "getset_descriptor.__get__"))) (htk : PySem.W.takesIn K (.builtin "object.__class__") = some true)
      (hm : PySem.W.mroIn K C (.type "object") = some true) : TyOf K H (.ref a) (.ref C)
/-- isinstance(x, c) for one class c, a built-in or an own one: kitOne's answer -/
theorem isinst_ok {x : V} {u t : Value} (I : Inv X pins σ H s) (rx : RelV x u) (ty : TyOf X.K H x t) (e : PySem.W.kitOne X.K t c = some b) (h : ∀ tk, Q (.bool b) { s with toks := tk }) :
    wpAny (model X.prog X.w) A (call (.builtin "isinstance") [u, c]) Q E s := by
  cases ty with
  | non => cases (show u = Value.none from rx); exact PySem.W.kia_one PySem.W.kitx_none I.kIn True.intro e (fun z => nomatch z) h
  | bl y => cases (show u = Value.bool y from rx); exact PySem.W.kia_one PySem.W.kitx_bool I.kIn True.intro e (fun z => nomatch z) h
  | int i => obtain ⟨t, q⟩ := (show ∃ t, u = Value.int i t from rx); cases q; exact PySem.W.kia_one PySem.W.kitx_int I.kIn True.intro e (fun z => nomatch z) h
  | str y => obtain ⟨t, q⟩ := (show ∃ t, u = Value.str y t from rx); cases q; exact PySem.W.kia_one PySem.W.kitx_str I.kIn True.intro e (fun z => nomatch z) h
  | flt y => obtain ⟨t, q⟩ := (show ∃ t, u = Value.float y t from rx); cases q; exact PySem.W.kia_one PySem.W.kitx_float I.kIn True.intro e (fun z => nomatch z) h
  | @lst a xs ea =>
    cases (show u = Value.ref a from rx)
    obtain ⟨_, _, n, _, h1⟩ := (show ObjOk X.prog X.w H s.heap a (.lst xs) from I.hok a _ ea)
    exact PySem.W.kia_one PySem.W.kitx_list I.kIn ⟨_, h1, rfl⟩ e (fun z => nomatch z) h
  | @frz a ob xs ea =>
    cases (show u = Value.ref a from rx)
    obtain ⟨_, _, _, n, _, h1⟩ := (show ObjOk X.prog X.w H s.heap a (.frz ob (.lst xs)) from I.hok a _ ea)
    exact PySem.W.kia_one PySem.W.kitx_list I.kIn ⟨_, h1, rfl⟩ e (fun z => nomatch z) h
  | @tup a xs ea =>
    cases (show u = Value.ref a from rx)
    obtain ⟨_, _, _, p⟩ := (show ObjOk X.prog X.w H s.heap a (.tup xs) from I.hok a _ ea)
    obtain ⟨o, h1, h2, _⟩ := p
    exact PySem.W.kia_one PySem.W.kitx_tuple I.kIn ⟨o, h1, h2⟩ e (fun z => nomatch z) h
  | @dK a kvs ea =>
    cases (show u = Value.ref a from rx)
    obtain ⟨_, _, vs, _, p⟩ := (show ObjOk X.prog X.w H s.heap a (.dK kvs) from I.hok a _ ea)
    obtain ⟨o, es, ep, h1, h2, _⟩ := p
    exact PySem.W.kia_one PySem.W.kitx_dict I.kIn ⟨o, h1, h2.1⟩ e (fun z => nomatch z) h
  | @dT a kvs ea =>
    cases (show u = Value.ref a from rx)
    obtain ⟨_, _, xs, _, o, es, ep, h1, h2, _⟩ := (show ObjOk X.prog X.w H s.heap a (.dT kvs) from I.hok a _ ea)
    exact PySem.W.kia_one PySem.W.kitx_dict I.kIn ⟨o, h1, h2.1⟩ e (fun z => nomatch z) h
  | @ins a C dx fs ea cl ha hn htk hm =>
    cases (show u = Value.ref a from rx)
    obtain ⟨mA, O, _⟩ := ins_get I.hok ea
    obtain ⟨od, J, _⟩ := O.look
    exact PySem.W.kia_one (PySem.W.kitx_own (cl.get _) cl.hd ha hn htk hm) I.kIn J e (fun z => nomatch z) h
end
end L2

namespace L2
open PySem PySem.Spec PyProof.Rows

/-! ### room -/
structure Room (k : Nat) (A : Around) : Prop where
  hd : A.handled = none
  dp : A.depth + 3 * k + 5 < recursionLimit
  un : A.units + 16 * k + 200 < cLine
theorem Room.mono {j k : Nat} {A : Around} (r : Room k A) (h : j ≤ k) : Room j A := ⟨r.hd, by have := r.dp; omega, by have := r.un; omega⟩
theorem Room.deeper {k : Nat} {A : Around} (r : Room (k + 1) A) (env : Env) : Room k (A.deeper env) :=
  ⟨r.hd, by have := r.dp; show A.depth + 1 + 3 * k + 5 < _; omega, by have := r.un; show A.units + 3 + 16 * k + 200 < _; omega⟩
theorem Room.in1 {k : Nat} {A : Around} (r : Room (k + 1) A) : Room k A.in1 :=
  ⟨r.hd, by have := r.dp; show A.depth + 3 * k + 5 < _; omega, by have := r.un; show A.units + 1 + 16 * k + 200 < _; omega⟩
theorem make_depth {A : Around} {C : Addr} {us : List Value} {kw : List (Str × Value)} : (A.under (.builtin "type.__call__" ⟨.ref C :: us, kw⟩)).depth = A.depth + 1 := by
  first | rfl | simp [Around.under, Code.weight, Code.isCreation, Code.isGuard, Code.isCaller, Code.frames, Code.isFrame, guardIds]
theorem make_units {A : Around} {C : Addr} {us : List Value} {kw : List (Str × Value)} : (A.under (.builtin "type.__call__" ⟨.ref C :: us, kw⟩)).units = A.units + 1 := by
  first | rfl | simp [Around.under, Code.cUnits, Code.frames, Code.isFrame]
theorem Room.make {k : Nat} {A : Around} (r : Room (k + 1) A) (C : Addr) (us : List Value) (kw : List (Str × Value)) : Room k (A.under (.builtin "type.__call__" ⟨.ref C :: us, kw⟩)) :=
  ⟨r.hd, by have := r.dp; rw [make_depth]; omega, by have := r.un; rw [make_units]; omega⟩
theorem Room.depth {k : Nat} {A : Around} (r : Room k A) : A.depth < recursionLimit := by have := r.dp; omega
theorem Room.units {k : Nat} {A : Around} (r : Room k A) : A.units + 64 < cLine := by have := r.un; omega
/-! ### argument lists and displays -/
def tNil : TA := fun _ H Q => Q [] H
def tCons (ta : TE) (tr : TA) : TA := fun σ H Q => ta σ H fun x H1 => tr σ H1 fun xs H2 => Q (x :: xs) H2
section
variable {X : Cx} {e : Expr} {es : List Expr} {te : TE} {t : TA} {pos : Pos}
theorem pa_nil : PA X [] tNil := fun _ _ _ _ H Q I h => Calls.spliced_nil ⟨[], H, I, .nil, h⟩
theorem pa_cons (ha : PE X e te) (hr : PA X es t) (hs : starEach (e :: es) X.env = (false, eval e X.env) :: starEach es X.env := by rfl) : PA X (e :: es) (tCons te t) := by
  intro pos pins s σ H Q I h
  rw [hs]
  show wpAny _ _ (spliced ((false, eval e X.env) :: backTo pos (starEach es X.env))) _ _ s
  refine Calls.spliced_cons (thn (ha pins s σ H _ I h) fun u s1 ⟨x, H1, I1, r1, q1⟩ => ?_)
  exact thn (hr pos pins s1 σ H1 _ I1 q1) fun us s2 ⟨xs, H2, I2, r2, q2⟩ => ⟨x :: xs, H2, I2, .cons r1 r2, q2⟩

/-- a tuple, a list of written items -/
def tTup (t : TA) : TE := fun σ H Q => t σ H fun xs H1 => xs.length ≤ sizeLine ∧ ∀ p, H1 p = none → Q (.ref p) (upd H1 p (.tup xs))
def tLst (t : TA) : TE := fun σ H Q => t σ H fun xs H1 => xs.length ≤ sizeLine ∧ ∀ p, H1 p = none → Q (.ref p) (upd H1 p (.lst xs))
theorem pe_tup {x1} (h : PA X es t) : PE X (.Tuple es x1 pos) (tTup t) := by
  intro pins s σ H Q I hq
  refine wpAny_Tuple_spliced (thn (h pos pins s σ H _ I hq) fun us s1 ⟨xs, H1, I1, r, z, q⟩ => ⟨by rw [← r.length]; exact z, ?_⟩)
  have hf : H1 s1.heap.objs.size = none := I1.hok.fresh (Nat.le_refl _)
  refine ⟨.ref s1.heap.objs.size, upd H1 s1.heap.objs.size (.tup xs), I1.laid (t' := s1.toks) (fun b u e => Heap.get?_push_of_some _ e) (Nat.le_refl _) ?_, rfl, q _ hf⟩
  exact ⟨z, us, r, ⟨_, Heap.get?_push_size _ rfl, rfl, _, rfl⟩⟩
theorem pe_lst (h : PA X es t) : PE X (.List es pos) (tLst t) := by
  intro pins s σ H Q I hq
  refine wpAny_List_spliced (thn (h pos pins s σ H _ I hq) fun us s1 ⟨xs, H1, I1, r, z, q⟩ => ⟨by rw [← r.length]; exact z, ?_⟩)
  have hf : H1 s1.heap.objs.size = none := I1.hok.fresh (Nat.le_refl _)
  refine ⟨.ref s1.heap.objs.size, upd H1 s1.heap.objs.size (.lst xs), I1.laid (t' := s1.toks) (fun b u e => Heap.get?_push_of_some _ e) (Nat.le_refl _) ?_, rfl, q _ hf⟩
  exact ⟨z, us, 0, r, Heap.get?_push_size _ rfl⟩
end

/-! ### what a def promises -/
/-- a def's promise: the bound arguments in the parameters' order, the heap, the wanted end, the wanted exception -/
abbrev Sp := List V → Hp → VK → XK → Prop
/-- how an exception lies behind a call (file 08 gives it): the callers' frames, abstract heap and state ahead of the call, the wish, the exception, the state -/
abbrev CXT := List Env → Hp → Shared → XK → Value → Shared → Prop

/-- the state at a call -/
structure Env0 (P : Program) (w : World) (K : PySem.W.Frag) (mg : Str → Option Value) (base : Heap) (A : Around) (outer : List Env) (s : Shared) (H : Hp) : Prop where
  frames : A.frames = some outer
  mod : Mod K mg base
  bs : ∀ b o, base.get? b = some o → s.heap.get? b = some o ∧ H b = none
  bsz : base.objs.size ≤ s.heap.objs.size
  funs : s.heap.FunFrames base outer
  frf : ∀ b ∈ frs outer, H b = none
  hok : HOk P w H s.heap
  bare : AllBare s.gens
/-- a call's end -/
def CE (outer : List Env) (P : Program) (w : World) (H : Hp) (s : Shared) (Q : VK) (u : Value) (s' : Shared) : Prop :=
  ∃ v H', s'.os = s.os ∧ AllBare s'.gens ∧ Un (frs outer) [] H H' s.heap s'.heap ∧ HOk P w H' s'.heap ∧ RelV v u ∧ Q v H'
def CR (CX : CXT) (outer : List Env) (P : Program) (w : World) (H : Hp) (s : Shared) (Q : VK) (E : XK) (r : Result) (s' : Shared) : Prop :=
  match r with
  | .ok (.ret u) => CE outer P w H s Q u s'
  | .ok _ => False
  | .error e => CX outer H s E e s'
structure FnOk (P : Program) (w : World) (K : PySem.W.Frag) (mg : Str → Option Value) (base : Heap) (CX : CXT) (k : Nat) (f : Addr) (fd : FuncData) (ps : List Str) (sp : Sp) : Prop where
  len : ∀ vs H Q E, sp vs H Q E → vs.length = ps.length
  run : ∀ (A : Around) (outer : List Env) (s : Shared) (H : Hp) (args : Args) (us : List Value) (vs : List V) (Q : VK) (E : XK), Room k A → Env0 P w K mg base A outer s H → BindsTo s fd args (ps.zip us) → Vals vs us → sp vs H Q E →
    codeAny (model P w) A (.call (.ref f) args) (CR CX outer P w H s Q E) s
theorem FnOk.mono {P : Program} {w : World} {K : PySem.W.Frag} {mg : Str → Option Value} {base : Heap} {CX : CXT} {j k : Nat} {f : Addr} {fd : FuncData} {ps : List Str} {sp : Sp} (F : FnOk P w K mg base CX j f fd ps sp) (h : j ≤ k) :
    FnOk P w K mg base CX k f fd ps sp := ⟨F.len, fun A outer s H args us vs Q E hr => F.run A outer s H args us vs Q E (hr.mono h)⟩
/-- a weaker promise -/
theorem FnOk.imp {P : Program} {w : World} {K : PySem.W.Frag} {mg : Str → Option Value} {base : Heap} {CX : CXT} {k : Nat} {f : Addr} {fd : FuncData} {ps : List Str} {sp sp' : Sp} (F : FnOk P w K mg base CX k f fd ps sp)
    (h : ∀ vs H Q E, sp' vs H Q E → sp vs H Q E) : FnOk P w K mg base CX k f fd ps sp' :=
  ⟨fun vs H Q E q => F.len vs H Q E (h _ _ _ _ q), fun A outer s H args us vs Q E hr he hb hv hs => F.run A outer s H args us vs Q E hr he hb hv (h _ _ _ _ hs)⟩

theorem Env0.make {P : Program} {w : World} {K : PySem.W.Frag} {mg : Str → Option Value} {base : Heap} {A : Around} {outer : List Env} {s : Shared} {H : Hp} (e : Env0 P w K mg base A outer s H) (C : Addr) (us : List Value) (kw : List (Str × Value)) :
    Env0 P w K mg base (A.under (.builtin "type.__call__" ⟨.ref C :: us, kw⟩)) outer s H := ⟨by first | exact e.frames | (simpa [Around.under, Code.envs, Code.isFrame, pushEnvs] using e.frames), e.mod, e.bs, e.bsz, e.funs, e.frf, e.hok, e.bare⟩
theorem Env0.in1 {P : Program} {w : World} {K : PySem.W.Frag} {mg : Str → Option Value} {base : Heap} {A : Around} {outer : List Env} {s : Shared} {H : Hp} (e : Env0 P w K mg base A outer s H) :
    Env0 P w K mg base A.in1 outer s H := ⟨e.frames, e.mod, e.bs, e.bsz, e.funs, e.frf, e.hok, e.bare⟩

section
variable {X : Cx} {pins : List (Addr × Obj)} {σ : St} {H : Hp} {s s' : Shared}
/-- from a body: what a callee wants -/
theorem Inv.env0 (I : Inv X pins σ H s) : Env0 X.prog X.w X.K X.mg X.base X.A X.stack s H :=
  ⟨I.ok.frames, I.ok.mod, I.bs, Nat.le_trans I.ok.bsz I.sz, I.stack, I.stkFree, I.hok, I.bare⟩
/-- behind a call -/
theorem Inv.after {Q : VK} {u : Value} (I : Inv X pins σ H s) (h : CE X.stack X.prog X.w H s Q u s') : EP X pins σ Q u s' := by
  obtain ⟨v, H', os, bare, un, hok, r, q⟩ := h
  obtain ⟨hh, g, d, t, os'⟩ := s'
  obtain rfl : os' = s.os := os
  exact ⟨v, H', I.call (h' := hh) (g' := g) (d' := d) (t' := t) (ch := []) un hok bare (fun b z => absurd z (by simp)), r, q⟩
end

/-! ### calls -/
/-- how the parameters are bound: us the positional arguments, kw the keywords' values by name, ds the defaults that fill up -/
def Binds (K : PySem.W.Frag) (fd : FuncData) (ps : List Str) (ds : List Value) : Prop :=
  ∀ (s : Shared) (us : List Value), K.In s.heap → (us ++ ds).length = ps.length → BindsTo s fd ⟨us, []⟩ (ps.zip (us ++ ds))
/-- every parameter is given -/
theorem Binds.all {K : PySem.W.Frag} {fd : FuncData} {ps : List Str} (h : ∀ us : List Value, us.length = ps.length → bindArgs fd ⟨us, []⟩ = pure (ps.zip us)) : Binds K fd ps [] := fun s us _ hl => by
  rw [List.append_nil] at hl ⊢
  exact .of_eq (h us hl)

section
variable {X : Cx} {CX : CXT} {k : Nat} {f C : Addr} {fd : FuncData} {ps : List Str} {sp : Sp} {dvs : List V} {ds : List Value} {E : XK} {x m : Str} {p pos apos : Pos} {e o : Expr} {es : List Expr} {ta : TE} {t : TA}

/-- what a class must have to be made -/
structure Mk (K : PySem.W.Frag) (C f : Addr) : Prop where
  makes : PySem.W.makesIn K C = true
  init : PySem.W.findIn K (.ref C) "__init__" = some (some (.ref f))
  fn : PySem.W.isFn K (.ref f) = true
  kp : PySem.W.keepIn K (.ref C) = true

end

/-! ### keywords -/
section
variable {X : Cx} {CX : CXT} {k : Nat} {f C : Addr} {fd : FuncData} {ps ks : List Str} {sp : Sp} {E : XK} {x m : Str} {p pos apos kpos : Pos} {e o : Expr} {es : List Expr} {kws : List Keyword} {te ta : TE} {t tk : TA} {nm : Option Str}
/-- how a call with keywords binds: g puts the positional values us and the keywords' values ws (names ks) in the parameters' order, defaults among them -/
structure KBinds (K : PySem.W.Frag) (fd : FuncData) (ps ks : List Str) (g : List Value → List Value → List Value) (gV : List V → List V → List V) : Prop where
  to : ∀ (s : Shared) (us ws : List Value), K.In s.heap → (g us ws).length = ps.length → BindsTo s fd ⟨us, ks.zip ws⟩ (ps.zip (g us ws))
  rel : ∀ {vs : List V} {us : List Value} {zs : List V} {ws : List Value}, Vals vs us → Vals zs ws → Vals (gV vs zs) (g us ws)
variable {g : List Value → List Value → List Value} {gV : List V → List V → List V}
end

/-! ### a def's body keeps its promise -/
/-- names: the parameters first -/
structure FnScope (N P : List Str) (sc : Scope) : Prop where
  kind : sc.kind = .function
  co : sc.isCoroutine = false
  gen : sc.isGenerator = false
  nd : N.Nodup
  pre : N.take P.length = P
  par : ∀ x ∈ P, sc.names.lookup x = some .local ∨ sc.names.lookup x = some .cell
  nofree : ∀ y ∈ sc.names, y.2 ≠ .free

theorem bindL_out {kindOf : Str → Option NameKind} {x : Str} : ∀ {binds : List (Str × Value)} {m : Str → Option Value}, (∀ v, (x, v) ∉ binds) → bindL kindOf binds m x = m x
  | [], _, _ => rfl
  | (n, v) :: r, m, h => by
    unfold bindL
    rw [bindL_out fun w hw => h w (List.mem_cons_of_mem _ hw)]
    split
    · have : x ≠ n := by rintro rfl; exact h v List.mem_cons_self
      simp [this]
    · rfl
theorem bindC_out {kindOf : Str → Option NameKind} {x : Str} : ∀ {binds : List (Str × Value)} {m : Str → Option Value}, (∀ v, (x, v) ∉ binds) → bindC kindOf binds m x = m x
  | [], _, _ => rfl
  | (n, v) :: r, m, h => by
    unfold bindC
    rw [bindC_out fun w hw => h w (List.mem_cons_of_mem _ hw)]
    split
    · rfl
    · have : x ≠ n := by rintro rfl; exact h v List.mem_cons_self
      simp [this]
theorem bindL_get {kindOf : Str → Option NameKind} {x : Str} {v : Value} : ∀ {P : List Str} {vs : List Value} {i : Nat} {m : Str → Option Value}, P.Nodup → P[i]? = some x → vs[i]? = some v → kindOf x = some .local →
    bindL kindOf (P.zip vs) m x = some v
  | [], _, _, _, _, h, _, _ => by simp at h
  | _ :: _, [], _, _, _, _, h, _ => by simp at h
  | p :: P, w :: vs, 0, m, nd, h1, h2, hk => by
    simp at h1 h2; subst h1; subst h2
    show bindL kindOf ((p, w) :: P.zip vs) m p = _
    unfold bindL
    rw [bindL_out fun v hv => (List.nodup_cons.mp nd).1 (List.of_mem_zip hv).1, if_pos hk]
    simp
  | p :: P, w :: vs, i + 1, m, nd, h1, h2, hk => by
    show bindL kindOf ((p, w) :: P.zip vs) m x = _
    unfold bindL
    exact bindL_get (i := i) (List.nodup_cons.mp nd).2 (by simpa using h1) (by simpa using h2) hk
theorem bindC_get {kindOf : Str → Option NameKind} {x : Str} {v : Value} : ∀ {P : List Str} {vs : List Value} {i : Nat} {m : Str → Option Value}, P.Nodup → P[i]? = some x → vs[i]? = some v → kindOf x ≠ some .local →
    bindC kindOf (P.zip vs) m x = some v
  | [], _, _, _, _, h, _, _ => by simp at h
  | _ :: _, [], _, _, _, _, h, _ => by simp at h
  | p :: P, w :: vs, 0, m, nd, h1, h2, hk => by
    simp at h1 h2; subst h1; subst h2
    show bindC kindOf ((p, w) :: P.zip vs) m p = _
    unfold bindC
    rw [bindC_out fun v hv => (List.nodup_cons.mp nd).1 (List.of_mem_zip hv).1, if_neg hk]
    simp
  | p :: P, w :: vs, i + 1, m, nd, h1, h2, hk => by
    show bindC kindOf ((p, w) :: P.zip vs) m x = _
    unfold bindC
    exact bindC_get (i := i) (List.nodup_cons.mp nd).2 (by simpa using h1) (by simpa using h2) hk

/-- the names' values at the entry -/
def start (N : List Str) (vs : List V) : St := vs.map some ++ List.replicate (N.length - vs.length) none

/-- the context of a def's body, at its entry; an exception leaves the frame, then lies as CX says -/
def cxOf (CX : CXT) (P : Program) (w : World) (K : PySem.W.Frag) (mg : Str → Option Value) (base : Heap) (N : List Str) (qual : Str) (scope : Scope) (f : Addr) (cd : Value) (A : Around) (outer : List Env) (s : Shared) (H : Hp) (E : XK) : Cx where
  prog := P
  w := w
  K := K
  mg := mg
  base := base
  A := A.deeper (envOfC qual scope s.heap.objs.size f cd)
  N := N
  s₀ := s
  H₀ := H
  env := envOfC qual scope s.heap.objs.size f cd
  outer := outer
  stack := envOfC qual scope s.heap.objs.size f cd :: outer
  ex := []
  calm := true
  fn := fun _ => true
  pn := []
  xe := fun e s' => wpAny (model P w) (A.deeper (envOfC qual scope s.heap.objs.size f cd)) (leaving (envOfC qual scope s.heap.objs.size f cd) e) (fun _ s'' => CX outer H s E e s'') (fun e' s'' => CX outer H s E e' s'') s'

theorem cell_has {sc : Scope} {n : Nat} {x : Str} (h : sc.names.lookup x = some .cell) : ∃ c, (cellsFrom n sc.names []).lookup x = some c := by
  have q := PySem.W.cellsFrom_some sc.names n [] (.inl h)
  exact Option.isSome_iff_exists.mp q

theorem inv_start {CX : CXT} {P : Program} {w : World} {K : PySem.W.Frag} {mg : Str → Option Value} {base : Heap} {N ps : List Str} {qual : Str} {scope : Scope} {f : Addr} {cd : Value} {A : Around} {outer : List Env} {s s1 : Shared} {H : Hp} {E : XK} {us : List Value} {vs : List V}
    (S : FnScope N ps scope) (hd : A.handled = none) (e0 : Env0 P w K mg base A outer s H) (hl : vs.length = ps.length) (r : Vals vs us)
    (x : InCallC s s.heap.objs.size (bindL (envOfC qual scope s.heap.objs.size f cd).kindOf (ps.zip us) fun _ => none) (cellsFrom (s.heap.objs.size + 1) scope.names []) (bindC (envOfC qual scope s.heap.objs.size f cd).kindOf (ps.zip us) fun _ => none) s1) :
    Inv (cxOf CX P w K mg base N qual scope f cd A outer s H E) [] (start N vs) H s1 := by
  have hpl : ps.length ≤ N.length := by have := congrArg List.length S.pre; rw [List.length_take] at this; omega
  obtain ⟨h1, tk, rfl, hk⟩ := x.done
  have noA : ∀ b : Addr, b ∉ (cxOf CX P w K mg base N qual scope f cd A outer s H E).ex := fun b z => absurd (show b ∈ ([] : List Addr) from z) (by simp)
  refine ⟨⟨e0.mod, S.kind, rfl, rfl, Nat.le_refl _, fun y z c h1 h2 => ?_, fun y hy => ?_, fun y c _ h => ?_, fun _ => hd, Around.frames_deeper e0.frames, .inr ⟨rfl, rfl⟩, fun b z => absurd z (noA b), e0.bs, e0.bsz, fun b _ _ => noA b, fun b z => absurd z (noA b), e0.funs, e0.frf⟩,
    rfl, e0.bare, Un.kept hk, ⟨_, x.toInCall.ns, fun i y v h1 h2 h3 => ?_⟩, fun y c h => ⟨_, x.cell y c h⟩, e0.hok.fresh (Nat.le_refl _), fun y c h => ?_, fun p hp => absurd (show p ∈ ([] : List (Addr × Obj)) from hp) (by simp), e0.hok.kept hk, ?_⟩
  · exact name_of_addr x.apart (PySem.mem_of_lookup h1) (PySem.mem_of_lookup h2)
  · have hy : scope.names.lookup y = some .cell ∨ scope.names.lookup y = some .free := hy
    rcases hy with hy | hy
    · exact cell_has hy
    · exact absurd rfl (S.nofree _ (PySem.mem_of_lookup hy))
  · exact Nat.le_of_lt (x.above y c (PySem.mem_of_lookup h))
  · have hi : i < vs.length := by
      unfold start at h2
      by_cases hi : i < vs.length
      · exact hi
      · rw [List.getElem?_append_right (by simpa using hi)] at h2
        rw [List.getElem?_replicate] at h2
        split at h2 <;> cases h2
    have ha : vs[i]? = some v := by
      unfold start at h2
      rw [List.getElem?_append_left (by simpa using hi), List.getElem?_map] at h2
      cases e : vs[i]? with
      | none => rw [e] at h2; cases h2
      | some a => rw [e] at h2; cases h2; rfl
    obtain ⟨u, hu, rv⟩ := r.get ha
    have hp : ps[i]? = some y := by
      rw [← S.pre, List.getElem?_take_of_lt (by omega)]; exact h1
    have ndP : ps.Nodup := by rw [← S.pre]; exact S.nd.sublist (List.take_sublist _ _)
    refine ⟨u, rv, ?_⟩
    rcases S.par y (List.mem_of_getElem? hp) with k | k
    · exact .inl ⟨k, bindL_get ndP hp hu k⟩
    · obtain ⟨c, e⟩ := cell_has (n := s.heap.objs.size + 1) k
      refine .inr ⟨.inl k, c, e, ?_⟩
      have q := x.cell y c e
      rw [bindC_get ndP hp hu (by show scope.names.lookup y ≠ _; rw [k]; decide)] at q
      exact q
  · exact e0.hok.fresh (Nat.le_of_lt (x.above y c (PySem.mem_of_lookup h)))
  · unfold start
    show _ = N.length
    rw [List.length_append, List.length_map, List.length_replicate]
    omega

/-- THE RULE: a def (or a method) of the text, by its body. The body's reading t is chosen for each entry; it is run at the parameters' values -/
theorem fn_of {CX : CXT} {P : Program} {w : World} {K : PySem.W.Frag} {mg : Str → Option Value} {base : Heap} {k : Nat} {f : Addr} {name qual : Str} {params : Arguments} {body : List Stmt} {scope : Scope} {dV kV doc pm cdv ct oc : Value} {an od : Option Addr}
    {osl : Array (Option Value)} {N ps : List Str} {sp : Sp} (lk : K.lookup f = some ⟨oc, od, .func (PySem.W.fnOf name qual params body scope dV kV doc pm an cdv ct), osl⟩) (hcd : PySem.W.codeIn K cdv qual = true) (S : FnScope N ps scope)
    (len : ∀ vs H Q E, sp vs H Q E → vs.length = ps.length)
    (hbody : ∀ (A : Around) (outer : List Env) (s : Shared) (H : Hp) (vs : List V) (Q : VK) (E : XK), Room k (A.deeper (envOfC qual scope s.heap.objs.size f cdv)) → sp vs H Q E →
      ∃ t, PSs (cxOf CX P w K mg base N qual scope f cdv A outer s H E) body t ∧ t { nx := fun _ H' => Q .non H', rt := Q } (start N vs) H) :
    FnOk P w K mg base CX (k + 1) f (PySem.W.fnOf name qual params body scope dV kV doc pm an cdv ct) ps sp := by
  refine ⟨len, fun A outer s H args us vs Q E hr e0 hb r hsp => ?_⟩
  have hl := len _ _ _ _ hsp
  have KX : K.In s.heap := e0.mod.kin.keeps fun b o e => (e0.bs b o e).1
  have lim : s.heap.NoLimit := e0.mod.nolimit.keeps fun b o e => (e0.bs b o e).1
  have hkind : ∀ y ∈ ps.zip us, scope.names.lookup y.1 = some .local ∨ (scope.names.lookup y.1 = some .cell ∧ ((cellsFrom (s.heap.objs.size + 1) scope.names []).lookup y.1).isSome = true) := fun ⟨n, v⟩ hy => by
    rcases S.par n (List.of_mem_zip hy).1 with q | q
    · exact .inl q
    · exact .inr ⟨q, PySem.W.cellsFrom_some _ _ _ (.inl q)⟩
  refine codeAny_call_function hr.depth (KX _ _ lk) rfl S.co S.gen rfl (PySem.W.codeRec_of KX hcd) (hb _ _ _ _ ?_)
  refine wpAny_newFunctionEnv_cells S.kind hkind fun env he s1 x => ?_
  subst he
  refine ⟨lim.keeps x.toInCall.keep, codeAny_func ?_⟩
  obtain ⟨t, ht, hq⟩ := hbody A outer s H vs Q E (hr.deeper _) hsp
  have I : Inv (cxOf CX P w K mg base N qual scope f cdv A outer s H E) [] (start N vs) H s1 := inv_start S hr.hd e0 hl r x
  refine wpAny_mono (ht [] s1 (start N vs) H _ I hq) (fun fl s' hs => ?_) fun e s' hs => hs
  have fin : ∀ {σ' : St} {H' : Hp} {v : V} {u : Value}, Inv (cxOf CX P w K mg base N qual scope f cdv A outer s H E) [] σ' H' s' → RelV v u → Q v H' → CE outer P w H s Q u s' :=
    fun {σ' H' v u} J rv q => ⟨v, H', J.os, J.bare, J.base, J.hok, rv, q⟩
  cases fl with
  | ret u =>
    obtain ⟨v, σ', H', J, rv, q⟩ := hs
    exact fin J rv q
  | next =>
    obtain ⟨σ', H', J, q⟩ := hs
    exact fin (v := V.non) (u := Value.none) J rfl q
  | brk =>
    obtain ⟨_, _, _, q⟩ := hs
    exact False.elim q
  | cont =>
    obtain ⟨_, _, _, q⟩ := hs
    exact False.elim q
end L2

namespace L2
open PySem PySem.Spec PyProof.Rows
section
variable {X : Cx} {x : Str} {p pos : Pos} {e : Expr} {es : List Expr} {t : TA} {id T : String} {r : List V → Hp → VK → Prop}

def tCB (r : List V → Hp → VK → Prop) (t : TA) : TE := fun σ H Q => t σ H fun vs H1 => r vs H1 Q
/-- f(e, ..), f a built-in function -/
theorem pe_callB (hc : CallR X (.builtin id) r) (hg : Gl X x) (hm : X.mg x = none) (hv : bootBuiltins x = some (.builtin id)) (ha : PA X (e :: es) t) (hn : x ≠ "__name__" := by decide) (hdb : (x == ("__debug__" : Str)) = false := by decide)
    (he : starEach (e :: es) X.env = (false, eval e X.env) :: starEach es X.env := by rfl) (hpl : (backTo pos (starEach es X.env)).any (·.1) = false := by rfl) : PE X (.Call (.Name x p) (e :: es) [] pos) (tCB r t) := by
  intro pins s σ H Q I h
  refine wpAny_Call_Name_kw (ld_blt I hg hm hv ?_ hn hdb)
  exact PyProof.Rows.callWith_builtin1 (thn (ha pos pins s σ H _ I h) fun us s1 ⟨vs, H1, I1, r1, q1⟩ => hc pins s1 σ H1 vs us Q I1 r1 q1) he hpl
/-- T(e, ..), T a built-in type -/
theorem pe_callTy (hc : CallR X (.type T) r) (hg : Gl X x) (hm : X.mg x = none) (hv : bootBuiltins x = some (.type T)) (ha : PA X (e :: es) t) (hn : x ≠ "__name__" := by decide) (hdb : (x == ("__debug__" : Str)) = false := by decide)
    (he : starEach (e :: es) X.env = (false, eval e X.env) :: starEach es X.env := by rfl) (hpl : (backTo pos (starEach es X.env)).any (·.1) = false := by rfl) : PE X (.Call (.Name x p) (e :: es) [] pos) (tCB r t) := by
  intro pins s σ H Q I h
  refine wpAny_Call_Name_kw (ld_blt I hg hm hv ?_ hn hdb)
  exact PyProof.Rows.callWith_type1 (thn (ha pos pins s σ H _ I h) fun us s1 ⟨vs, H1, I1, r1, q1⟩ => hc pins s1 σ H1 vs us Q I1 r1 q1) he hpl
end
end L2

namespace HT
open PySem PyProof.Rows

section
open PySem.SeqAt
open PySem.AutoSeq1 (wpAny_loadPart')
open PySem.MeetsSeq PySem.MeetsSeq2 PySem.MeetsSeq3

end

section
variable {prog : Program} {w : World} {A : Around} {E : Value → Shared → Prop} {s : Shared}

/-! ### t[a:b], not the whole -/
end
end HT

namespace L2
open PySem PySem.Spec PyProof.Rows

/-! ### the parts of a slice -/
abbrev TO := St → Hp → (Option Int → Hp → Prop) → Prop
section
variable {X : Cx} {e : Expr} {te : TE} {lo hi : Option Expr} {tl th : TO} {pos p2 : Pos}

/-- what a slice of a value is, by values: the slice object stands at sl -/
def SlR (X : Cx) (r : V → Option Int → Option Int → Hp → VK → Prop) : Prop :=
  ∀ (pins : List (Addr × Obj)) (s : Shared) (σ : St) (H : Hp) (x : V) (v vl vu : Value) (lo hi : Option Int) (sl : Addr) (Q : VK), Inv X pins σ H s → RelV x v → s.heap.IsSliceOf sl vl vu .none → IsPart vl lo → IsPart vu hi → r x lo hi H Q →
    ∃ T id, typeLookup (.type T) "__getitem__" = pure (some (.builtin id)) ∧ s.TypeIs v T ∧ wpAny (model X.prog X.w) X.A (getItem v (.ref sl)) (EP X pins σ Q) X.xe s
theorem SlR.or {r r' : V → Option Int → Option Int → Hp → VK → Prop} (h : SlR X r) (h' : SlR X r') : SlR X (fun x lo hi H Q => r x lo hi H Q ∨ r' x lo hi H Q) := by
  intro pins s σ H x v vl vu lo hi sl Q I rx hs pl pu q
  rcases q with q | q
  · exact h pins s σ H x v vl vu lo hi sl Q I rx hs pl pu q
  · exact h' pins s σ H x v vl vu lo hi sl Q I rx hs pl pu q
/-! ### t < u, t + u -/
end
end L2

namespace L2
open PySem PySem.Spec PyProof.Rows

/-! ### places -/
/-- the place that an index of any sign means -/
def ixN (n : Nat) (i : Int) : Option Nat := if 0 ≤ i then (if i < n then some i.toNat else none) else if -(n : Int) ≤ i then some (i + n).toNat else none
def atI {α : Type} (xs : List α) (i : Int) : Option α := (ixN xs.length i).bind fun j => xs[j]?
theorem ixN_seq {n : Nat} {i : Int} {j : Nat} (h : ixN n i = some j) : seqIndex? i n = some j ∧ j < n ∧ -(n : Int) ≤ i ∧ i < n := by
  unfold ixN at h
  by_cases h0 : 0 ≤ i
  · rw [if_pos h0] at h
    by_cases h1 : i < n
    · rw [if_pos h1] at h
      have e : i.toNat = j := Option.some.inj h
      exact ⟨by rw [seqIndex_of h0 h1, e], by omega, by omega, h1⟩
    · rw [if_neg h1] at h; cases h
  · rw [if_neg h0] at h
    by_cases h1 : -(n : Int) ≤ i
    · rw [if_pos h1] at h
      have e : (i + n).toNat = j := Option.some.inj h
      exact ⟨by rw [seqIndex_neg (by omega) h1, e], by omega, h1, by omega⟩
    · rw [if_neg h1] at h; cases h
theorem atI_get {α : Type} {xs : List α} {i : Int} {v : α} (h : atI xs i = some v) : ∃ j, seqIndex? i xs.length = some j ∧ xs[j]? = some v ∧ j < xs.length ∧ -(xs.length : Int) ≤ i ∧ i < xs.length := by
  unfold atI at h
  cases e : ixN xs.length i with
  | none => rw [e] at h; cases h
  | some j =>
    rw [e] at h
    obtain ⟨h1, h2, h3, h4⟩ := ixN_seq e
    exact ⟨j, h1, h, h2, h3, h4⟩
theorem atI_nat {α : Type} {xs : List α} {j : Nat} {v : α} (h : xs[j]? = some v) : atI xs (j : Int) = some v := by
  have hj : j < xs.length := (List.getElem?_eq_some_iff.mp h).1
  have e : ixN xs.length (j : Int) = some j := by
    unfold ixN
    rw [if_pos (by omega), if_pos (by omega)]; simp
  unfold atI; rw [e]; exact h
/-! ### what may be subscripted -/
/-- what stands as an index of a plain subscript -/
def PlainIx (b : Expr) : Prop := ∀ o i, subscripted b false o i = operate [o, i] (getItem o i)
/-- a subscript by values -/
def IxR (X : Cx) (r : R2) : Prop :=
  ∀ (value slice : Expr) (pins : List (Addr × Obj)) (s : Shared) (σ : St) (H : Hp) (x y : V) (v u : Value) (Q : VK), Inv X pins σ H s → RelV x v → RelV y u → r x y H Q →
    subscripted slice false v u = operate [v, u] (getItem v u) → wpAny (model X.prog X.w) X.A (subscriptTail value slice v u) (EP X pins σ Q) X.xe s
/-- a call of a builtin's method by values: the receiver, the arguments -/
def MtR (X : Cx) (id : String) (r : V → List V → Hp → VK → Prop) : Prop :=
  ∀ (pins : List (Addr × Obj)) (s : Shared) (σ : St) (H : Hp) (x : V) (xs : List V) (v : Value) (us : List Value) (Q : VK), Inv X pins σ H s → RelV x v → Vals xs us → r x xs H Q →
    wpAny (model X.prog X.w) X.A (call (.builtin id) (v :: us)) (EP X pins σ Q) X.xe s
section
variable {X : Cx} {a b : Expr} {ta tb : TE} {pos : Pos}
theorem IxR.or {r r' : R2} (h : IxR X r) (h' : IxR X r') : IxR X (fun x y H Q => r x y H Q ∨ r' x y H Q) := by
  intro value slice pins s σ H x y v u Q I rx ry q hs
  rcases q with q | q
  · exact h value slice pins s σ H x y v u Q I rx ry q hs
  · exact h' value slice pins s σ H x y v u Q I rx ry q hs
theorem MtR.or {id : String} {r r' : V → List V → Hp → VK → Prop} (h : MtR X id r) (h' : MtR X id r') : MtR X id (fun x xs H Q => r x xs H Q ∨ r' x xs H Q) := by
  intro pins s σ H x xs v us Q I rx rs q
  rcases q with q | q
  · exact h pins s σ H x xs v us Q I rx rs q
  · exact h' pins s σ H x xs v us Q I rx rs q
/-- a[b] -/
theorem pe_ix {r : R2} (hr : IxR X r) (ha : PE X a ta) (hb : PE X b tb) (hs : PlainIx b) : PE X (.Subscript a b pos) (tOp r ta tb) := by
  intro pins s σ H Q I h
  exact Subscript_ (binT ha hb I h fun v u s2 x y H2 I2 rx ry q => hr a b pins s2 σ H2 x y v u Q I2 rx ry q (hs _ _))

def rIxL (K : PySem.W.Frag) : R2 := fun x y H Q => ∃ p xs i v, x = .ref p ∧ y = .int i ∧ SqL K H p xs ∧ atI xs i = some v ∧ Q v H
def rIxT (K : PySem.W.Frag) : R2 := fun x y H Q => ∃ p xs i v, x = .ref p ∧ y = .int i ∧ SqT K H p xs ∧ atI xs i = some v ∧ Q v H
def rIxS : R2 := fun x y H Q => ∃ z i c, x = .str z ∧ y = .int i ∧ z.length ≤ sizeLine ∧ atI z.cps.toList i = some c ∧ Q (.str ⟨#[c]⟩) H
theorem ix_list : IxR X (rIxL X.K) := by
  intro value slice pins s σ H x y v u Q I rx ry h hs
  obtain ⟨p, xs, i, z, rfl, rfl, hq, he, q⟩ := h
  cases rx
  obtain ⟨t, rfl⟩ := ry
  obtain ⟨its, r, pl, hz⟩ := I.list hq
  obtain ⟨j, h1, h2, h3, h4, h5⟩ := atI_get he
  obtain ⟨w, ew, rw'⟩ := r.get h2
  have hl := r.length
  have hn := line63
  have fin : EP X pins σ Q w s := ⟨z, H, I, rw', q⟩
  by_cases h0 : 0 ≤ i
  · have hj : i.toNat = j := by
      rw [seqIndex_of h0 h5] at h1
      exact Option.some.inj h1
    exact item_listR pl.isList h0 (by omega) (by rw [hj]; simpa using ew) fin hs
  · have hj : (i + (its.toArray.size : Int)).toNat = j := by
      rw [seqIndex_neg (by omega) h4] at h1
      rw [List.size_toArray, ← hl]
      exact Option.some.inj h1
    exact subscriptTail_builtinR (x := w) pl.isList.typeIs slot_list_getitem.lookup
      (wpAny_getItem_list_neg (Q := fun r s' => r = w ∧ EP X pins σ Q r s') pl.isList (by omega) (by rw [List.size_toArray] <;> omega) (by omega) (by rw [hj]; simpa using ew) ⟨rfl, fin⟩) hs
theorem ix_tup : IxR X (rIxT X.K) := by
  intro value slice pins s σ H x y v u Q I rx ry h hs
  obtain ⟨p, xs, i, z, rfl, rfl, hq, he, q⟩ := h
  cases rx
  obtain ⟨t, rfl⟩ := ry
  obtain ⟨its, r, pl, hz⟩ := I.tuple hq
  obtain ⟨j, h1, h2, h3, h4, h5⟩ := atI_get he
  obtain ⟨w, ew, rw'⟩ := r.get h2
  have hl := r.length
  have hn := line63
  have fin : EP X pins σ Q w s := ⟨z, H, I, rw', q⟩
  exact subscriptTail_builtinR (x := w) pl.typeIs slot_tuple_getitem.lookup
    (getItem_tuple (j := j) (Q := fun r s' => r = w ∧ EP X pins σ Q r s') pl (by omega) (by omega) (by rw [List.size_toArray, ← hl]; exact h1) (by simpa using ew) ⟨rfl, fin⟩) hs
theorem ix_str : IxR X rIxS := by
  intro value slice pins s σ H x y v u Q I rx ry h hs
  obtain ⟨z, i, c, rfl, rfl, hz, he, q⟩ := h
  obtain ⟨t, rfl⟩ := rx
  obtain ⟨t', rfl⟩ := ry
  obtain ⟨j, h1, h2, h3, h4, h5⟩ := atI_get he
  have hl : z.cps.toList.length = z.length := by simp [Str.length]
  rw [hl] at h1 h4 h5
  have hn := line63
  exact tail_any (typeIs_str s z t) slot_str_getitem.lookup (getItem_str (c := c) (by
    have e1 : decide (i < -(2 ^ 63 : Int)) = false := decide_eq_false (by omega)
    have e2 : decide (i ≥ 2 ^ 63) = false := decide_eq_false (by omega)
    rw [e1, e2, Bool.or_false]) (by rw [h1]; simpa using h2) ⟨.str ⟨#[c]⟩, H, I.tok _, ⟨_, rfl⟩, q⟩) hs
/-- list, tuple or str -/
def rIx (K : PySem.W.Frag) : R2 := fun x y H Q => rIxL K x y H Q ∨ rIxT K x y H Q ∨ rIxS x y H Q
theorem ix_seq : IxR X (rIx X.K) := ix_list.or (ix_tup.or ix_str)

/-! ### xs[i] = v, any sign -/
theorem Inv.lst {pins : List (Addr × Obj)} {σ : St} {H : Hp} {s : Shared} {p : Addr} {xs : List V} (I : Inv X pins σ H s) (h : H p = some (.lst xs)) :
    ∃ (its : List Value) (n : Nat), Vals xs its ∧ s.heap.get? p = some { cls := .type "list", data := .seq its.toArray n } ∧ xs.length ≤ sizeLine := by
  obtain ⟨z, its, n, r, e⟩ := I.hok p _ h
  exact ⟨its, n, r, e, z⟩
/-! ### slices -/
/-! ### in, not in: flat items -/
/-! ### len, list(x), tuple(x) of any list or tuple that is read -/
theorem CallR.or {f : Value} {r r' : List V → Hp → VK → Prop} (h : CallR X f r) (h' : CallR X f r') : CallR X f (fun xs H Q => r xs H Q ∨ r' xs H Q) := by
  intro pins s σ H xs us Q I rs q
  rcases q with q | q
  · exact h pins s σ H xs us Q I rs q
  · exact h' pins s σ H xs us Q I rs q
theorem call_list_of : CallR X (.type "list") (fun xs H Q => ∃ p ys, xs = [.ref p] ∧ (SqL X.K H p ys ∨ SqT X.K H p ys) ∧ ∀ l, H l = none → Q (.ref l) (upd H l (.lst ys))) := by
  intro pins s σ H xs us Q I r h
  obtain ⟨p, ys, rfl, hq, q⟩ := h
  obtain ⟨u, rfl, rx⟩ := vals1 r
  cases rx
  have fin : ∀ (its : List Value), Vals ys its → ys.length ≤ sizeLine → ∀ (h' : Heap) (c' : Nat), (∀ b o', s.heap.get? b = some o' → h'.get? b = some o') →
      h'.get? s.heap.objs.size = some { cls := .type "list", dict := none, data := .seq its.toArray c', slots := #[] } → EP X pins σ Q (.ref s.heap.objs.size) { s with heap := h' } := fun its r' hz h' c' kp e =>
    ⟨.ref s.heap.objs.size, _, I.laid (t' := s.toks) kp (Nat.le_refl _) (show ObjOk X.prog X.w _ h' _ (.lst ys) from ⟨hz, its, c', r', e⟩), rfl, q _ (I.hok.fresh (Nat.le_refl _))⟩
  rcases hq with hq | hq
  · obtain ⟨its, r', pl, hz⟩ := I.list hq
    have hlen := r'.length
    obtain ⟨o, ho, hc, n, hd⟩ := pl.isList
    exact call_list_seq p (.inl rfl) ho hc hd (fun h' c' kp e => fin its r' hz h' c' kp e) (by simp only [List.size_toArray] <;> omega)
  · obtain ⟨its, r', pl, hz⟩ := I.tuple hq
    have hlen := r'.length
    obtain ⟨o, ho, hc, n, hd⟩ := pl
    exact call_list_seq p (.inr rfl) ho hc hd (fun h' c' kp e => fin its r' hz h' c' kp e) (by simp only [List.size_toArray] <;> omega)
theorem call_tuple_of : CallR X (.type "tuple") (fun xs H Q => ∃ p ys, xs = [.ref p] ∧ ((SqL X.K H p ys ∧ ∀ l, H l = none → Q (.ref l) (upd H l (.tup ys))) ∨ (SqT X.K H p ys ∧ Q (.ref p) H))) := by
  intro pins s σ H xs us Q I r h
  obtain ⟨p, ys, rfl, h⟩ := h
  obtain ⟨u, rfl, rx⟩ := vals1 r
  cases rx
  rcases h with ⟨hq, q⟩ | ⟨hq, q⟩
  · obtain ⟨its, r', pl, hz⟩ := I.list hq
    have hlen := r'.length
    refine call_tuple_list pl.isList (fun h' kp => ?_) (by simp only [List.size_toArray] <;> omega)
    have I1 : Inv X pins σ H { s with heap := h' } := I.kept (t' := s.toks) kp
    have I2 : Inv X pins σ (upd H h'.objs.size (.tup ys)) { s with heap := h'.push { cls := .type "tuple", data := .seq its.toArray } } :=
      I1.laid (t' := s.toks) (fun b o e => Heap.get?_push_of_some _ e) (Nat.le_refl _) (show ObjOk X.prog X.w _ _ _ (.tup ys) from ⟨hz, its, r', IsTup.new _ _⟩)
    exact ⟨.ref h'.objs.size, _, I2, rfl, q _ (I1.hok.fresh (Nat.le_refl _))⟩
  · obtain ⟨its, r', pl, hz⟩ := I.tuple hq
    exact call_tuple_same pl ⟨.ref p, H, I, rfl, q⟩

/-! ### the call of a builtin's method: o.m(..) -/
variable {o e : Expr} {es : List Expr} {to : TE} {t : TA} {name : Str} {apos cpos : Pos} {T id : String} {r : V → List V → Hp → VK → Prop}
/- xs.append(e), list.index on a module's tuple .. are MtR facts of 06m -/
end
end L2

namespace L2
open PySem PySem.Spec PyProof.Rows

/-! ### lists of values -/
theorem Vals.one : ∀ {x : V} {us : List Value}, Vals [x] us → ∃ u, us = [u] ∧ RelV x u
  | _, _, .cons r .nil => ⟨_, rfl, r⟩
theorem Vals.two : ∀ {x y : V} {us : List Value}, Vals [x, y] us → ∃ u v, us = [u, v] ∧ RelV x u ∧ RelV y v
  | _, _, _, .cons r (.cons q .nil) => ⟨_, _, rfl, r, q⟩
theorem Vals.zero : ∀ {us : List Value}, Vals [] us → us = []
  | _, .nil => rfl
section
variable {X : Cx} {pins : List (Addr × Obj)} {σ : St} {H : Hp} {s : Shared} {l b : Addr} {xs ys zs : List V}

/-! ### the two steps: a tracked list is rewritten, a new list is laid -/
theorem Inv.fresh (I : Inv X pins σ H s) : H s.heap.objs.size = none := I.hok.fresh (Nat.le_refl _)
end

section
variable {X : Cx}

/-! ### methods -/
/-! ### list + list, list += list, list * int -/
/-! ### del xs[i] -/
end

/-! ### xs[a:b] = ys -/
section
variable {prog : Program} {w : World} {A : Around} {E : Value → Shared → Prop} {s : Shared}
end

section
variable {X : Cx}
end
end L2

namespace L2
open PySem PySem.Spec PyProof.Rows

/-! ### lists of pairs as tables -/
section
variable {κ : Type} [DecidableEq κ]
def valV (kvs : List (κ × V)) (k : κ) : Option V := (kvs.find? fun kv => decide (kv.1 = k)).map (·.2)
/-- in its place, or at the end -/
def putK (kvs : List (κ × V)) (k : κ) (v : V) : List (κ × V) :=
  if (kvs.any fun kv => decide (kv.1 = k)) = true then kvs.map (fun kv => if kv.1 = k then (kv.1, v) else kv) else kvs ++ [(k, v)]
def dropK (kvs : List (κ × V)) (k : κ) : List (κ × V) := kvs.filter fun kv => decide (kv.1 ≠ k)

theorem valV_pos {p : κ × V} {r : List (κ × V)} {k : κ} (e : p.1 = k) : valV (p :: r) k = some p.2 := by simp [valV, List.find?_cons, e]
theorem valV_neg {p : κ × V} {r : List (κ × V)} {k : κ} (e : ¬ p.1 = k) : valV (p :: r) k = valV r k := by simp [valV, List.find?_cons, e]
theorem valV_any (k : κ) : ∀ kvs : List (κ × V), (kvs.any fun kv => decide (kv.1 = k)) = (valV kvs k).isSome
  | [] => rfl
  | p :: r => by
    rw [List.any_cons]
    by_cases e : p.1 = k
    · simp only [valV_pos e, decide_eq_true e, Bool.true_or, Option.isSome_some]
    · rw [valV_neg e, decide_eq_false e, Bool.false_or]; exact valV_any k r
theorem RelO.isSome_eq {o : Option V} {u : Option Value} (r : RelO o u) : o.isSome = u.isSome := by
  cases o with
  | none => cases u with
    | none => rfl
    | some _ => exact (show False from r).elim
  | some _ => cases u with
    | none => exact (show False from r).elim
    | some _ => rfl
theorem RelO.getD {o : Option V} {u : Option Value} {d : V} {d' : Value} (r : RelO o u) (rd : RelV d d') : RelV (o.getD d) (u.getD d') := by
  cases o with
  | none => cases u with
    | none => exact rd
    | some _ => exact (show False from r).elim
  | some _ => cases u with
    | none => exact (show False from r).elim
    | some _ => exact r

/-- raw tables of the same keys -/
theorem KV.val {kvs : List (κ × V)} {vs : List (κ × Value)} (r : KV kvs vs) (k : κ) : RelO (valV kvs k) (valueAt vs k) := by
  unfold KV at r
  induction r with
  | nil => exact True.intro
  | @cons p q ps qs h t ih =>
    obtain ⟨h1, h2⟩ := h
    by_cases e : p.1 = k
    · have e' : q.1 = k := h1.symm.trans e
      have b : valueAt (q :: qs) k = some q.2 := by simp [valueAt, List.find?_cons, e']
      rw [valV_pos e, b]; exact h2
    · have e' : ¬ q.1 = k := fun z => e (h1.trans z)
      have b : valueAt (q :: qs) k = valueAt qs k := by simp [valueAt, List.find?_cons, e']
      rw [valV_neg e, b]; exact ih
theorem KV.any {kvs : List (κ × V)} {vs : List (κ × Value)} (r : KV kvs vs) (k : κ) : (kvs.any fun kv => decide (kv.1 = k)) = vs.any fun kv => decide (kv.1 = k) := by
  unfold KV at r
  induction r with
  | nil => rfl
  | cons h t ih => rw [List.any_cons, List.any_cons, ih, h.1]
theorem KV.repl {kvs : List (κ × V)} {vs : List (κ × Value)} (r : KV kvs vs) (k : κ) {y : V} {u : Value} (ry : RelV y u) :
    KV (kvs.map fun kv => if kv.1 = k then (kv.1, y) else kv) (vs.map fun kv => if kv.1 = k then (kv.1, u) else kv) := by
  unfold KV at r ⊢
  induction r with
  | nil => exact .nil
  | @cons p q ps qs h t ih =>
    rw [List.map_cons, List.map_cons]
    refine .cons ?_ ih
    obtain ⟨h1, h2⟩ := h
    by_cases e : p.1 = k
    · rw [if_pos e, if_pos (h1.symm.trans e)]; exact ⟨h1, ry⟩
    · rw [if_neg e, if_neg (fun z => e (h1.trans z))]; exact ⟨h1, h2⟩
theorem KV.put {kvs : List (κ × V)} {vs : List (κ × Value)} (r : KV kvs vs) (k : κ) {y : V} {u : Value} (ry : RelV y u) : KV (putK kvs k y) (stored vs k u) := by
  unfold putK stored
  rw [r.any k]
  by_cases e : (vs.any fun kv => decide (kv.1 = k)) = true
  · rw [if_pos e, if_pos e]; exact r.repl k ry
  · rw [if_neg e, if_neg e]; exact Paired.snoc r ⟨rfl, ry⟩
theorem KV.drop {kvs : List (κ × V)} {vs : List (κ × Value)} (r : KV kvs vs) (k : κ) : KV (dropK kvs k) (without vs k) := by
  unfold KV at r ⊢
  unfold dropK without
  induction r with
  | nil => exact .nil
  | @cons p q ps qs h t ih =>
    obtain ⟨h1, h2⟩ := h
    rw [List.filter_cons, List.filter_cons]
    by_cases e : p.1 = k
    · have a : ¬ decide (p.1 ≠ k) = true := by simp [e]
      have b : ¬ decide (q.1 ≠ k) = true := by simp [h1.symm.trans e]
      rw [if_neg a, if_neg b]; exact ih
    · have e' : ¬ q.1 = k := fun z => e (h1.trans z)
      have a : decide (p.1 ≠ k) = true := by simp [e]
      have b : decide (q.1 ≠ k) = true := by simp [e']
      rw [if_pos a, if_pos b]; exact .cons ⟨h1, h2⟩ ih
theorem KV.keys {kvs : List (κ × V)} {vs : List (κ × Value)} (r : KV kvs vs) : kvs.map (·.1) = vs.map (·.1) := by
  unfold KV at r
  induction r with
  | nil => rfl
  | cons h t ih => rw [List.map_cons, List.map_cons, ih, h.1]
theorem KV.length {kvs : List (κ × V)} {vs : List (κ × Value)} (r : KV kvs vs) : kvs.length = vs.length := Paired.length r
end


/-! ### a tracked dict, its keys ints and texts or tuples of these -/
/-- raw entries of a dict with tuple keys -/
abbrev KT (H : Hp) : List (List Key × V) → List (List Key × Addr × Value) → Prop := Paired fun p q => p.1 = q.1 ∧ H q.2.1 = some (.tup (p.1.map kV)) ∧ RelV p.2 q.2.2
theorem KT.val {H : Hp} {kvs : List (List Key × V)} {xs : List (List Key × Addr × Value)} (r : KT H kvs xs) (k : List Key) : RelO (valV kvs k) ((atKey xs k).map (·.2)) := by
  induction r with
  | nil => exact True.intro
  | @cons p q ps qs h t ih =>
    obtain ⟨h1, _, h2⟩ := h
    by_cases e : p.1 = k
    · have e' : q.1 = k := h1.symm.trans e
      have b : atKey (q :: qs) k = some q.2 := by simp [atKey, List.find?_cons, e']
      rw [valV_pos e, b]; exact h2
    · have e' : ¬ q.1 = k := fun z => e (h1.trans z)
      have b : atKey (q :: qs) k = atKey qs k := by simp [atKey, List.find?_cons, e']
      rw [valV_neg e, b]; exact ih
theorem KT.repl {H : Hp} {kvs : List (List Key × V)} {xs : List (List Key × Addr × Value)} (r : KT H kvs xs) (k : List Key) {y : V} {u : Value} (ry : RelV y u) :
    KT H (kvs.map fun kv => if kv.1 = k then (kv.1, y) else kv) (xs.map (putAt k u)) := by
  induction r with
  | nil => exact .nil
  | @cons p q ps qs h t ih =>
    rw [List.map_cons, List.map_cons]
    refine .cons ?_ ih
    obtain ⟨h1, h2, h3⟩ := h
    unfold putAt
    by_cases e : p.1 = k
    · rw [if_pos e, if_pos (h1.symm.trans e)]; exact ⟨h1, h2, ry⟩
    · rw [if_neg e, if_neg (fun z => e (h1.trans z))]; exact ⟨h1, h2, h3⟩
theorem KT.put {H : Hp} {kvs : List (List Key × V)} {xs : List (List Key × Addr × Value)} (r : KT H kvs xs) (k : List Key) {b : Addr} {y : V} {u : Value} (hb : H b = some (.tup (k.map kV))) (ry : RelV y u) :
    KT H (putK kvs k y) (storedH xs k b u) := by
  have e : (kvs.any fun kv => decide (kv.1 = k)) = (atKey xs k).isSome := by
    rw [valV_any, (r.val k).isSome_eq, Option.isSome_map]
  unfold putK storedH
  rw [e]
  by_cases q : (atKey xs k).isSome = true
  · rw [if_pos q, if_pos q]; exact r.repl k ry
  · rw [if_neg q, if_neg q]; exact Paired.snoc r ⟨rfl, hb, ry⟩
theorem KT.keeps {H H' : Hp} {kvs : List (List Key × V)} {xs : List (List Key × Addr × Value)} (r : KT H kvs xs) (ht : ∀ b ys, H b = some (.tup ys) → H' b = some (.tup ys)) : KT H' kvs xs :=
  Paired.mapP r fun _ _ z => ⟨z.1, ht _ _ z.2.1, z.2.2⟩

section
variable {P : Program} {w : World} {H : Hp} {h : Heap} {a : Addr}
end

/-- what the dict at a holds at the key y -/
def DGet (H : Hp) (a : Addr) (y : V) (r : Option V) : Prop :=
  (∃ kvs k, Rd H a (.dK kvs) ∧ y = kV k ∧ r = valV kvs k) ∨ ∃ kvs k b, Rd H a (.dT kvs) ∧ y = .ref b ∧ H b = some (.tup (k.map kV)) ∧ r = valV kvs k
/-- the heap behind a[y] = v -/
def DPut (H : Hp) (a : Addr) (y v : V) (H' : Hp) : Prop :=
  (∃ kvs k, H a = some (.dK kvs) ∧ y = kV k ∧ kvs.length < sizeLine ∧ H' = upd H a (.dK (putK kvs k v))) ∨
  ∃ kvs k b, H a = some (.dT kvs) ∧ y = .ref b ∧ H b = some (.tup (k.map kV)) ∧ kvs.length < sizeLine ∧ H' = upd H a (.dT (putK kvs k v))
theorem DGet.k {H : Hp} {a : Addr} {kvs : List (Key × V)} {k : Key} (e : H a = some (.dK kvs)) : DGet H a (kV k) (valV kvs k) := .inl ⟨kvs, k, .inl e, rfl, rfl⟩
theorem DGet.t {H : Hp} {a b : Addr} {kvs : List (List Key × V)} {k : List Key} (e : H a = some (.dT kvs)) (eb : H b = some (.tup (k.map kV))) : DGet H a (.ref b) (valV kvs k) := .inr ⟨kvs, k, b, .inl e, rfl, eb, rfl⟩
theorem DPut.k {H : Hp} {a : Addr} {kvs : List (Key × V)} {k : Key} {v : V} (e : H a = some (.dK kvs)) (hl : kvs.length < sizeLine) : DPut H a (kV k) v (upd H a (.dK (putK kvs k v))) := .inl ⟨kvs, k, e, rfl, hl, rfl⟩
theorem DPut.t {H : Hp} {a b : Addr} {kvs : List (List Key × V)} {k : List Key} {v : V} (e : H a = some (.dT kvs)) (eb : H b = some (.tup (k.map kV))) (hl : kvs.length < sizeLine) :
    DPut H a (.ref b) v (upd H a (.dT (putK kvs k v))) := .inr ⟨kvs, k, b, e, rfl, eb, hl, rfl⟩


section
variable {X : Cx} {pins : List (Addr × Obj)} {σ : St} {H : Hp} {s : Shared} {a : Addr} {y v : V} {u r : Value} {o : Option V} {A : Around} {E : Value → Shared → Prop}

end

section
variable {X : Cx} {pins : List (Addr × Obj)} {σ : St} {H : Hp} {s : Shared} {a : Addr} {kvs : List (Key × V)} {k : Key} {u : Value} {A : Around} {E : Value → Shared → Prop}
end


/-! ### readings and rules -/
section
variable {X : Cx} {o i e value : Expr} {pos pos' tpos : Pos} {td ty tv : TE}
end


/-! ### displays -/
section
variable {X : Cx} {pos : Pos}
end

/-! ### methods -/
/-- a method call o.m(e) of a built-in, with one argument: what must be seen of the text -/
structure M1 (X : Cx) (o : Expr) (m : Str) (apos : Pos) (e : Expr) (cpos : Pos) : Prop where
  base : attributeBase o m X.env (eval o X.env) = eval o X.env
  few : ((backTo cpos (starEach [e] X.env)).all (fun x => !x.1) && (backToKw cpos (keywordEach [] X.env)).all (fun x => x.1.isSome)
    && decide (([e] : List Expr).length + ([] : List Keyword).length + (if ([] : List Keyword).isEmpty then 0 else 1) < 30)) = true
  line : (apos.endLine == cpos.line) = true
  trees : backTo cpos (starEach [e] X.env) = [(false, eval e X.env)]
structure M2 (X : Cx) (o : Expr) (m : Str) (apos : Pos) (e f : Expr) (cpos : Pos) : Prop where
  base : attributeBase o m X.env (eval o X.env) = eval o X.env
  few : ((backTo cpos (starEach [e, f] X.env)).all (fun x => !x.1) && (backToKw cpos (keywordEach [] X.env)).all (fun x => x.1.isSome)
    && decide (([e, f] : List Expr).length + ([] : List Keyword).length + (if ([] : List Keyword).isEmpty then 0 else 1) < 30)) = true
  line : (apos.endLine == cpos.line) = true
  trees : backTo cpos (starEach [e, f] X.env) = [(false, eval e X.env), (false, eval f X.env)]

section
variable {X : Cx} {pins : List (Addr × Obj)} {σ : St} {H : Hp} {s : Shared} {a : Addr} {y d : V} {u r : Value} {o : Option V} {A : Around} {E : Value → Shared → Prop}
end

section
variable {X : Cx} {o e f : Expr} {apos cpos : Pos} {td ty tx : TE}
end

/-! ### dict(d): a copy -/
section
variable {X : Cx} {pins : List (Addr × Obj)} {σ : St} {H : Hp} {s : Shared} {a : Addr} {kvs : List (Key × V)} {A : Around} {E : Value → Shared → Prop}
end


section
variable {X : Cx} {pins : List (Addr × Obj)} {σ : St} {H : Hp} {s : Shared} {a : Addr} {y : V} {u : Value} {A : Around} {E : Value → Shared → Prop}
end
end L2

namespace Att
open PySem PySem.W PySem.Calls PyProof.Rows

/-! ### the script -/
theorem ints_of_wellAll {P : Params} {h : Heap} : ∀ (ns : List Int) (vs : List Value), WellAll P h vs (ns.map WData.int) → IntsAre vs ns := by
  intro ns
  induction ns with
  | nil =>
    intro vs w
    rw [List.map_nil] at w
    cases w
    exact .nil
  | cons n ns ih =>
    intro vs w
    rw [List.map_cons] at w
    cases w with
    | cons a b =>
      cases a
      exact .cons _ _ (ih _ b)

theorem script_of {l : OpenLaw} {n : Nat} (hn : l.most = some n) {P : Params} {h : Heap} {args : List WData} {vals : List Value}
    (hpre : l.row.toRowW.claim.pre args = true) (hwl : WellAll P h vals args) :
    ∃ a vs ns, vals = [Value.ref a] ∧ args = [WData.list (ns.map WData.int)] ∧ h.get? a = some { cls := .type "list", data := .seq vs.toArray } ∧ IntsAre vs ns ∧ ns.length ≤ n := by
  have hsh : WShape.hasAll [] args [.list .int] = true := (pre_splitW hpre).1
  have hc : l.pre.holds [] { args := args } = true := (pre_splitW hpre).2
  obtain ⟨d, r, rfl, h1, h2⟩ := hasAllW_cons hsh
  obtain rfl := hasAllW_nil h2
  obtain ⟨xs, rfl, h3⟩ := hasW_list h1
  obtain ⟨ns, rfl⟩ := items_int h3
  have hlen : ns.length ≤ n := by
    unfold OpenLaw.pre at hc
    have h4 : (WTm.not (.lt (.lit (.int (n : Int))) (.len (.arg 0)))).holds [] { args := [.list (ns.map .int)] } = true := by
      have h4 := (holds_andW hc).1
      rw [hn] at h4
      exact h4
    have h5 := condW_of h4 (w_not (w_lt w_lit (w_len_list (w_arg rfl))))
    rw [List.length_map] at h5
    refine Nat.le_of_not_lt fun q => ?_
    have q' : (n : Int) < ((ns.length : Nat) : Int) := by omega
    first
      | (rw [decide_eq_true q'] at h5; exact absurd h5 (by decide))
      | (simp at h5; omega)
  cases hwl with
  | cons w1 w2 =>
    cases w2
    cases w1 with
    | list ho hall => exact ⟨_, _, ns, rfl, rfl, ho, ints_of_wellAll ns _ hall, hlen⟩

theorem post_true (l : OpenLaw) (args : List WData) : l.row.toRowW.claim.post args (.bool true) args = true :=
  postW_of (r := l.row.toRowW) (X := (true == true))
    (show WShape.has [] (.bool true) .bool = true by first | rfl | decide | simp [WShape.has, WShape.arms, WShape.armsAll])
    (show (WTm.eq .res (.lit (.bool true))).value [] { args := args, res := some (.bool true), after := args } = some (.bool (true == true)) from w_eq_bool (w_res rfl) w_lit) rfl

/-! ### the attachment: holds_open's last premise (the goal 'hc' behind k_head) from a wpAny of the law's body -/
/-- the same from a codeAny of the CALL (for a layer whose function contracts speak of calls) -/
theorem attach_call {l : OpenLaw} {n : Nat} {q : Program} {loose : List Str} {XP : (Str → Option Value) → Heap → Prop} {YP : World → Heap → Prop} {d : DefRec}
    (hn : l.most = some n) (hdf : d.params.defaults = [])
    (call : ∀ (w : World) (s₀ s₁ : Shared) (mg mb : Str → Option Value) (fa : Addr) (o : Obj) (pm cd doc : Value) (a : Addr) (vs : List Value) (ns : List Int),
      Ground q loose [] XP w s₀ mg mb s₁.heap → YP w s₁.heap →
      s₁.heap.get? fa = some o → o.data = .func (docDef d.name d.params d.body d.scope pm cd doc) → s₁.heap.CodeRec cd d.name → mg d.name = some (.ref fa) →
      s₁.heap.get? a = some { cls := .type "list", data := .seq vs.toArray } → IntsAre vs ns → ns.length ≤ n → s₁.gens = #[] →
      codeAny (model l.prog w) callerA (.call (.ref fa) ⟨[.ref a], []⟩) (fun r s' => r = .ok (.ret (.bool true)) ∧ OldK s₁.heap s'.heap ∧ s'.os = s₁.os ∧ AllBare s'.gens) s₁) :
    WalkO q loose XP YP l.row.toRowW d [] (fun f vs => PySem.call f vs) := by
  intro w s₀ s₁ mg mb G Y fa o pm cd doc dV kV ho hd hcd hD hmg hg args vals as hpre hlay hrd hwl hlo
  obtain rfl : dV = .none := Dflts.none hD hdf
  obtain rfl : kV = .none := Dflts.noKw hD
  obtain ⟨a, vs, ns, rfl, rfl, hobj, hints, hlen⟩ := script_of hn hpre hwl
  refine enter_call (codeAny_mono (call w s₀ s₁ mg mb fa o pm cd doc a vs ns G Y ho (fd_plain hd) hcd hmg hobj hints hlen hg) fun r s' hq => ?_)
  obtain ⟨rfl, h2, h3, h4⟩ := hq
  exact ⟨.inl ⟨.bool true, .bool true, [], rfl, fun _ => rfl, .bool true, post_true l _, fun _ => ⟨List.Pairwise.nil, fun _ hm => (nomatch hm)⟩⟩, h2, h3, h4⟩

/-! ### rules over ANY heap (no ledger) from facts about the written part K: the library's own take a ledger (News) for what they write -/
section
variable {prog : Program} {w : World} {A : Around} {E : Value → Shared → Prop} {s : Shared} {K : Frag}

/-! the whole heap as the ledger: makes every rule that writes through a ledger a rule over any heap -/
def ledger (h : Heap) (L d : Addr) : List (Addr × Obj) := (List.range h.objs.size).filterMap fun a => if a = L ∨ a = d then none else (h.get? a).map fun o => (a, o)
end
end Att

namespace L2
open PySem PySem.Spec PyProof.Rows

theorem vals_ints : ∀ {vs : List Value} {ns : List Int}, IntsAre vs ns → Vals (ns.map V.int) vs
  | _, _, .nil => .nil
  | _, _, .cons n t h => .cons ⟨t, rfl⟩ (vals_ints h)

/-- nothing is tracked but the script, known to the object (or it is an object of the module) -/
def Only (H : Hp) : Prop := ∀ b, H b = none ∨ ∃ o xs, H b = some (.frz o (.lst xs))

/-- THE HEAD: the law's promise, at the heap behind the top. F, the promise of the law's def, may use that base is part of the heap (so K.In base, base.Ns mainGlobals mg stand in Mod) -/
theorem law_call {P : Program} {w : World} {K : PySem.W.Frag} {mg mb : Str → Option Value} {CX : CXT} {k : Nat} {fa a : Addr} {fd : FuncData} {x : Str} {sp : Sp} {s₁ : Shared} {vs : List Value} {ns : List Int}
    (KX : K.In s₁.heap) (hns : s₁.heap.Ns mainGlobals mg) (hb : s₁.heap.Ns builtinsNs mb) (hbb : ∀ x : Str, x ≠ "__name__" → mb x = bootBuiltins x) (hlim : s₁.heap.NoLimit) (hg : s₁.gens = #[])
    (ha : s₁.heap.get? a = some { cls := .type "list", data := .seq vs.toArray }) (hi : IntsAre vs ns) (hl : ns.length ≤ sizeLine) (hr : Room k callerA)
    (F : ∀ base : Heap, K.In base → base.Ns mainGlobals mg → FnOk P w K mg base CX k fa fd [x] sp) (hbind : ∀ (s : Shared) (u : Value), BindsTo s fd ⟨[u], []⟩ [(x, u)])
    (hsp : ∀ H : Hp, Only H → SqL K H a (ns.map V.int) → sp [.ref a] H (fun v _ => v = .bl true) fun _ _ _ => False)
    (hCX : ∀ H e s', CX [] H s₁ (fun _ _ _ => False) e s' → False) :
    codeAny (model P w) callerA (.call (.ref fa) ⟨[.ref a], []⟩) (fun r s' => r = .ok (.ret (.bool true)) ∧ OldK s₁.heap s'.heap ∧ s'.os = s₁.os ∧ AllBare s'.gens) s₁ := by
  have rv := vals_ints hi
  have lenV := hi.length
  -- from an abstract heap in which nothing but the script may be tracked
  have core : ∀ H : Hp, Only H → SqL K H a (ns.map V.int) → HOk P w H s₁.heap → (∀ b, H b ≠ none → b = a) → (H a ≠ none → K.lookup a = none) →
      codeAny (model P w) callerA (.call (.ref fa) ⟨[.ref a], []⟩) (fun r s' => r = .ok (.ret (.bool true)) ∧ OldK s₁.heap s'.heap ∧ s'.os = s₁.os ∧ AllBare s'.gens) s₁ := by
    intro H hO hS hok hA hK
    have base_of : ∀ {b : Addr} {o : Obj}, s₁.heap.get? b = some o → H b = none → (hidT s₁.heap H).get? b = some o := fun e n => hidT_get e n
    have noA : ∀ {b : Addr} {o : Obj} {es : Array DictEntry} {ep : Nat}, s₁.heap.get? b = some o → o.data = .dict es ep → H b = none := fun {b o es ep} e d => by
      cases q : H b with
      | none => rfl
      | some u =>
        have e' : b = a := hA b (by rw [q]; simp)
        subst e'
        rw [ha] at e; cases e
        have d' : Data.seq vs.toArray _ = Data.dict es ep := d
        cases d'
    have nsK : ∀ {b : Addr} {m : Str → Option Value}, s₁.heap.Ns b m → (hidT s₁.heap H).Ns b m := fun {b m} ⟨o, es, ep, e, d, r⟩ => ⟨o, es, ep, base_of e (noA e d), d, r⟩
    have hKb : K.In (hidT s₁.heap H) := fun b o e => base_of (KX b o e) (by
      cases q : H b with
      | none => rfl
      | some u =>
        have e' : b = a := hA b (by rw [q]; simp)
        subst e'
        rw [hK (by rw [q]; simp)] at e; cases e)
    have hM : Mod K mg (hidT s₁.heap H) := ⟨hKb, nsK hns, ⟨mb, nsK hb, hbb⟩, let ⟨mc, h1, h2⟩ := hlim; ⟨mc, nsK h1, h2⟩⟩
    have e0 : Env0 P w K mg (hidT s₁.heap H) callerA [] s₁ H := ⟨rfl, hM, fun b o e => of_hidT e, Nat.le_of_eq (hidT_size _ _), trivial, fun b hb => absurd (show b ∈ ([] : List Addr) from hb) (by simp), hok, .of_eq hg⟩
    refine codeAny_mono ((F _ hKb (nsK hns)).run callerA [] s₁ H ⟨[.ref a], []⟩ [.ref a] [.ref a] _ _ hr e0 (hbind s₁ (.ref a)) (.cons rfl .nil) (hsp H hO hS)) fun r s' h => ?_
    cases r with
    | error e => exact (hCX H e s' h).elim
    | ok fl =>
      cases fl with
      | next => exact False.elim h
      | brk => exact False.elim h
      | cont => exact False.elim h
      | ret u =>
        obtain ⟨v, H', os, bare, un, hok', r', q⟩ := h
        have q' : v = .bl true := q
        subst q'
        obtain rfl : u = Value.bool true := r'
        refine ⟨rfl, OldK.of_keep fun b o e => ?_, os, bare⟩
        cases q : H b with
        | none => exact un.keep b o e q (by intro z; exact absurd (show b ∈ ([] : List Addr) from z) (by simp)) (by simp)
        | some u =>
          rcases hO b with z | ⟨ob, xs, z⟩
          · rw [q] at z; cases z
          · have z2 := un.frzs b ob _ z
            obtain ⟨e1, _⟩ := hok b _ z
            obtain ⟨e2, _⟩ := hok' b _ z2
            rw [e] at e1; cases e1
            exact e2
  cases hk : K.lookup a with
  | some o =>
    -- the script is one of the module's own objects
    have e := KX a o hk
    rw [ha] at e
    cases e
    refine core (fun _ => none) (fun _ => .inl rfl) (.inr ⟨_, vs.toArray, _, hk, rfl, rfl, rfl, by rw [List.size_toArray, lenV]; exact hl, by simpa using rv⟩) (fun b u z => by have z' : (none : Option HO) = some u := z; cases z') (fun b z => absurd rfl z) fun z => absurd rfl z
  | none =>
    refine core (fun b => if b = a then some (.frz { cls := .type "list", data := .seq vs.toArray } (.lst (ns.map V.int))) else none) (fun b => ?_) (.inl (.inr ⟨{ cls := .type "list", data := .seq vs.toArray }, if_pos rfl⟩)) (fun b u z => ?_) (fun b z => ?_) fun _ => hk
    · by_cases hb : b = a
      · exact .inr ⟨_, _, if_pos hb⟩
      · exact .inl (if_neg hb)
    · by_cases hb : b = a
      · have z' := (if_pos hb).symm.trans z
        cases z'
        subst hb
        exact ⟨ha, by rw [List.length_map]; exact hl, vs, _, rv, ha⟩
      · have z' := (if_neg hb).symm.trans z
        cases z'
    · by_cases hb : b = a
      · exact hb
      · exact absurd (if_neg hb) z
end L2

namespace L2
open PySem PySem.Spec PyProof.Rows

abbrev KOf {K : PySem.W.Frag} {h : Heap} (_ : K.In h) : PySem.W.Frag := K

/-- the goal that k_head leaves (case hc), from the law's promise. F gives the function object fd (K's own) once, then the promise over every base -/
theorem walk_of {l : PySem.W.OpenLaw} {n k : Nat} {q : Program} {loose : List Str} {XP : (Str → Option Value) → Heap → Prop} {YP : World → Heap → Prop} {d : DefRec} {K : Params → PySem.W.Frag} {CX : World → CXT} {sp : World → Sp} {x : Str}
    (hn : l.most = some n) (hn2 : n ≤ sizeLine) (hdf : d.params.defaults = []) (hr : Room k callerA)
    (hY : ∀ (w : World) (h : Heap), YP w h → (K w.params).In h)
    (F : ∀ (w : World) (mg : Str → Option Value) (fa : Addr) (h : Heap), (K w.params).In h → h.Ns mainGlobals mg → mg d.name = some (.ref fa) →
      ∃ fd : FuncData, (∀ (s : Shared) (u : Value), BindsTo s fd ⟨[u], []⟩ [(x, u)]) ∧
        ∀ base : Heap, (K w.params).In base → base.Ns mainGlobals mg → FnOk l.prog w (K w.params) mg base (CX w) k fa fd [x] (sp w))
    (hsp : ∀ (w : World) (H : Hp) (a : Addr) (ns : List Int), ns.length ≤ n → Only H → SqL (K w.params) H a (ns.map V.int) → sp w [.ref a] H (fun v _ => v = .bl true) fun _ _ _ => False)
    (hCX : ∀ (w : World) (H : Hp) (s : Shared) (e : Value) (s' : Shared), CX w [] H s (fun _ _ _ => False) e s' → False) :
    PySem.W.WalkO q loose XP YP l.row.toRowW d [] (fun f vs => PySem.call f vs) := by
  refine Att.attach_call hn hdf fun w s₀ s₁ mg mb fa o pm cd doc a vs ns G Y ho hd hcd hmg hobj hints hlen hg => ?_
  have KX := hY w _ Y
  obtain ⟨fd, hb, hF⟩ := F w mg fa _ KX G.T.g hmg
  exact law_call KX G.T.g G.T.b G.T.builtins G.T.nolimit hg hobj hints (Nat.le_trans hlen hn2) hr hF hb (fun H hO hS => hsp w H a ns hlen hO hS) fun H e s' => hCX w H s₁ e s'
end L2

/- THE LAST THEOREM (shape; LID, My.* are yours):
   My.Adr: a structure of the addresses that your layer names (classes, functions); My.Txt K t: a structure (Prop) of the equations over K;
   My.txt_mk : {K} {implicit addresses ..} (e1 : nsIn K mainGlobals "law" = some (some (.ref f))) (e2 : K.lookup f = some ⟨oc, od, .func (fnOf "law" "law" params body scope dV kV doc pm an cdv ct), sl⟩) (e3 : codeIn K cdv "law" = true) .. : ∃ t, My.Txt K t

set_option maxRecDepth 100000 in
set_option maxHeartbeats 0 in
theorem PySem.Challenge.cw_LID_holds : PySem.Challenge.rw_LID.Holds := by
  w_on; o_law; k_head; (case hw => w_witness2)
  k_fill
  refine L2.walk_of (l := PySem.Challenge.rw_LID) (n := 63) (k := 40) (x := "script") (CX := fun w => ..) (sp := fun _ => My.sp_law) rfl (by decide) rfl ⟨rfl, by decide, by decide⟩ (fun w h Y => PySem.W.kIn_of Y) ?F ?S ?C
  case F =>
    intro w mg fa h KX G hmg
    have T : ∃ t, My.Txt (L2.KOf KX) t := by
      dsimp only [L2.KOf]                          -- K must stand as «<heap const> w.params» for k_is
      refine' My.txt_mk ?e1 ?e2 ?e3 ..
      (case e1 => PySem.W.k_is)                    -- in the order: a name -> its address -> its object -> its parts
      (case e2 => PySem.W.k_is)
      ..
    obtain ⟨t, T⟩ := T
    have e0 := hmg.symm.trans (PySem.W.mg_of KX G T.law)
    cases e0                                       -- fa is the law's own address
    exact ⟨_, fun s u => .of_eq rfl, fun base kb nb => My.law_fn T kb nb⟩     -- if «.of_eq rfl» comes too early: refine' ⟨_, ?b, fun base kb nb => My.law_fn T kb nb⟩; exact fun s u => .of_eq rfl
  case S => exact fun w H a ns hl hO hS => ..
  case C => exact ..
(the tactic k_is has no namespace: write k_is) -/

/-! SHORT WORDS over the layer: a def of the text, its body, what a loop and a test want. -/
namespace L2
open PySem PySem.Spec PyProof.Rows

/-! ### the text by places -/
def defArgs (s : Stmt) : Arguments := match s with
  | .FunctionDef _ a _ _ _ _ _ _ _ _ => a
  | _ => { posonlyargs := [], args := [], vararg := none, kwonlyargs := [], kw_defaults := [], kwarg := none, defaults := [] }
def defBody (s : Stmt) : List Stmt := match s with
  | .FunctionDef _ _ b _ _ _ _ _ _ _ => b
  | _ => []
def defScope (s : Stmt) : Scope := match s with
  | .FunctionDef _ _ _ _ _ _ sc _ _ _ => sc
  | _ => { kind := .function, names := [], isGenerator := false, isCoroutine := false }

/-! ### no exception leaves a def -/
abbrev CX0 : CXT := fun _ _ _ _ _ _ => False
/-! ### a def (or method) of the text as it stands behind the top -/
structure Fun (K : PySem.W.Frag) (x qual : Str) (st : Stmt) (f : Addr) (fd : FuncData) : Prop where
  ex : ∃ (oc : Value) (od : Option Addr) (kV doc pm : Value) (an : Option Addr) (cdv ct : Value) (osl : Array (Option Value)),
    fd = PySem.W.fnOf x qual (defArgs st) (defBody st) (defScope st) .none kV doc pm an cdv ct ∧ K.lookup f = some ⟨oc, od, .func fd, osl⟩ ∧ PySem.W.codeIn K cdv qual = true
  kp : PySem.W.keepIn K (.ref f) = true
section
variable {P : Program} {w : World} {K : PySem.W.Frag} {mg : Str → Option Value} {base : Heap}
/-- THE RULE for a def: its body as a term of rules, and the reading of that term -/
theorem Fun.ok {x qual : Str} {st : Stmt} {f : Addr} {fd : FuncData} {N ps : List Str} {k : Nat} {sp : Sp} (F : Fun K x qual st f fd) (S : FnScope N ps (defScope st)) (len : ∀ vs H Q E, sp vs H Q E → vs.length = ps.length)
    (hbody : ∀ (cdv : Value) (A : Around) (outer : List Env) (s : Shared) (H : Hp) (vs : List V) (Q : VK) (E : XK), Room k (A.deeper (envOfC qual (defScope st) s.heap.objs.size f cdv)) → sp vs H Q E →
      ∃ t, PSs (cxOf CX0 P w K mg base N qual (defScope st) f cdv A outer s H E).nox (defBody st) t ∧ t { nx := fun _ H' => Q .non H', rt := Q } (start N vs) H) : FnOk P w K mg base CX0 (k + 1) f fd ps sp := by
  obtain ⟨oc, od, kV, doc, pm, an, cdv, ct, osl, rfl, lk, hcd⟩ := F.ex
  refine fn_of lk hcd S len fun A outer s H vs Q E hr hsp => ?_
  obtain ⟨t, h, q⟩ := hbody cdv A outer s H vs Q E hr hsp
  exact ⟨t, h.nox, q⟩
/-- how its arguments bind (no defaults): h is «fun _ _ _ _ _ _ us hl => match us, hl with | [_, _], _ => rfl», one _ a parameter -/
theorem Fun.binds {x qual : Str} {st : Stmt} {f : Addr} {fd : FuncData} {ps : List Str} (F : Fun K x qual st f fd)
    (h : ∀ (kV doc pm : Value) (an : Option Addr) (cdv ct : Value) (us : List Value), us.length = ps.length → bindArgs (PySem.W.fnOf x qual (defArgs st) (defBody st) (defScope st) .none kV doc pm an cdv ct) ⟨us, []⟩ = pure (ps.zip us)) : Binds K fd ps [] := by
  obtain ⟨oc, od, kV, doc, pm, an, cdv, ct, osl, rfl, lk, hcd⟩ := F.ex
  exact .all (h kV doc pm an cdv ct)
theorem fun_mk {x qual : Str} {st : Stmt} {f : Addr} {oc : Value} {od an : Option Addr} {osl : Array (Option Value)} {kV doc pm cdv ct : Value} (l : K.lookup f = some ⟨oc, od, .func (PySem.W.fnOf x qual (defArgs st) (defBody st) (defScope st) .none kV doc pm an cdv ct), osl⟩)
    (c : PySem.W.codeIn K cdv qual = true) (k : PySem.W.keepIn K (.ref f) = true) : Fun K x qual st f (PySem.W.fnOf x qual (defArgs st) (defBody st) (defScope st) .none kV doc pm an cdv ct) := ⟨⟨oc, od, kV, doc, pm, an, cdv, ct, osl, rfl, l, c⟩, k⟩
end
/-! ### expressions in short: the name that stands in the i-th slot -/
section
variable {X : Cx}
end

/-! ### tests -/
/-! ### heaps -/
/-- all that was tracked is as it was -/
def Same (H H' : Hp) : Prop := ∀ b o, H b = some o → H' b = some o
theorem Same.refl (H : Hp) : Same H H := fun _ _ h => h
theorem Same.trans {H H1 H2 : Hp} (a : Same H H1) (b : Same H1 H2) : Same H H2 := fun c o h => b c o (a c o h)
theorem Same.free {H H' : Hp} (e : Same H H') {l : Addr} (h : H' l = Option.none) : H l = Option.none := by
  cases q : H l with
  | none => rfl
  | some o =>
    rw [e l o q] at h
    cases h
theorem Same.seq {K : PySem.W.Frag} {H H' : Hp} {a : Addr} {xs : List V} (e : Same H H') (h : SqL K H a xs) : SqL K H' a xs := by
  rcases h with (h | ⟨o, h⟩) | h
  · exact .inl (.inl (e _ _ h))
  · exact .inl (.inr ⟨o, e _ _ h⟩)
  · exact .inr h

/-! ### a dict's pairs: keys that differ -/
section
variable {κ : Type} [DecidableEq κ]
end
end L2

namespace D3
open PySem PySem.Spec PyProof.Rows L2

/-! ### data: trees of values; lists and dicts as they stand -/
inductive D where
  | non | bl (b : Bool) | int (i : Int) | str (x : Str) | tup (xs : List D) | lst (xs : List D) | dct (kvs : List (Key × D)) | ty (n : String) | ob (a : Addr) | ins (c : Str) (fs : List (Str × D)) | fn (x : Str) | exn (c : Str) | set (ks : List Key)
/-- frozen (nobody changes it any more), fresh (nobody else has it), borrowed (a name of the frame owns it) -/
inductive Md where | fz | fr | bo
  deriving DecidableEq
inductive Res where
  | ok (m : Md) (d : D) | exc (c : Str) | stuck

/-- an error of the class at C -/
def xobj (a C : Addr) : HO := .ext fun h => ∃ o, h.get? a = some o ∧ o.cls = .ref C
def SetIs (S : Key → Bool) (ks : List Key) : Prop := ks.Nodup ∧ ∀ k, S k = true ↔ k ∈ ks
mutual
def RepV (K : PySem.W.Frag) (F : Hp) : D → V → Prop
  | .non, v => v = .non
  | .bl b, v => v = .bl b
  | .int i, v => v = .int i
  | .str x, v => v = .str x ∧ x.length ≤ sizeLine ∧ PyData.strOk x = true
  | .tup ds, v => ∃ a xs, v = .ref a ∧ SqT K F a xs ∧ RepL K F ds xs
  | .lst ds, v => ∃ a xs, v = .ref a ∧ SqL K F a xs ∧ RepL K F ds xs
  | .dct kvs, v => ∃ a xs, v = .ref a ∧ F a = some (.dK xs) ∧ RepK K F kvs xs
  | .ty n, v => v = .ty n
  | .ob a, v => v = .ref a
  | .ins c fs, v => ∃ a C dx gs, v = .ref a ∧ PySem.W.nsIn K mainGlobals c = some (some (.ref C)) ∧ F a = some (.ins C dx gs) ∧ RepF K F fs gs
  | .fn x, v => ∃ a, v = .ref a ∧ PySem.W.nsIn K mainGlobals x = some (some (.ref a))
  | .exn c, v => ∃ a C, v = .ref a ∧ PySem.W.nsIn K mainGlobals c = some (some (.ref C)) ∧ F a = some (xobj a C)
  | .set ks, v => ∃ a S, v = .ref a ∧ F a = some (.set S ks.length) ∧ SetIs S ks
def RepL (K : PySem.W.Frag) (F : Hp) : List D → List V → Prop
  | [], xs => xs = []
  | d :: ds, xs => ∃ y ys, xs = y :: ys ∧ RepV K F d y ∧ RepL K F ds ys
def RepK (K : PySem.W.Frag) (F : Hp) : List (Key × D) → List (Key × V) → Prop
  | [], xs => xs = []
  | (k, d) :: ds, xs => ∃ y ys, xs = (k, y) :: ys ∧ RepV K F d y ∧ RepK K F ds ys
def RepF (K : PySem.W.Frag) (F : Hp) : List (Str × D) → List (Str × V) → Prop
  | [], xs => xs = []
  | (k, d) :: ds, xs => ∃ y ys, xs = (k, y) :: ys ∧ RepV K F d y ∧ RepF K F ds ys
end

theorem Same.seqT {K : PySem.W.Frag} {H H' : Hp} {a : Addr} {xs : List V} (e : Same H H') (h : SqT K H a xs) : SqT K H' a xs := by
  rcases h with (h | ⟨o, h⟩) | h
  · exact .inl (.inl (e _ _ h))
  · exact .inl (.inr ⟨o, e _ _ h⟩)
  · exact .inr h

section
variable {K : PySem.W.Frag} {F F' : Hp}
mutual
theorem RepV.mono (s : Same F F') : ∀ (d : D) (v : V), RepV K F d v → RepV K F' d v
  | .non, _, h => by simpa only [RepV] using h
  | .bl _, _, h => by simpa only [RepV] using h
  | .int _, _, h => by simpa only [RepV] using h
  | .str _, _, h => by simpa only [RepV] using h
  | .tup ds, v, h => by
    simp only [RepV] at h ⊢
    obtain ⟨a, xs, e, q, r⟩ := h
    exact ⟨a, xs, e, Same.seqT s q, RepL.mono s ds xs r⟩
  | .lst ds, v, h => by
    simp only [RepV] at h ⊢
    obtain ⟨a, xs, e, q, r⟩ := h
    exact ⟨a, xs, e, s.seq q, RepL.mono s ds xs r⟩
  | .dct ds, v, h => by
    simp only [RepV] at h ⊢
    obtain ⟨a, xs, e, q, r⟩ := h
    exact ⟨a, xs, e, s _ _ q, RepK.mono s ds xs r⟩
  | .ty _, _, h => by simpa only [RepV] using h
  | .ob _, _, h => by simpa only [RepV] using h
  | .fn _, _, h => by simpa only [RepV] using h
  | .exn _, _, h => by
    simp only [RepV] at h ⊢
    obtain ⟨a, C, e, n, q⟩ := h
    exact ⟨a, C, e, n, s _ _ q⟩
  | .set _, _, h => by
    simp only [RepV] at h ⊢
    obtain ⟨a, S, e, q, r⟩ := h
    exact ⟨a, S, e, s _ _ q, r⟩
  | .ins c fs, v, h => by
    simp only [RepV] at h ⊢
    obtain ⟨a, C, dx, gs, e, n, q, r⟩ := h
    exact ⟨a, C, dx, gs, e, n, s _ _ q, RepF.mono s fs gs r⟩
theorem RepL.mono (s : Same F F') : ∀ (ds : List D) (xs : List V), RepL K F ds xs → RepL K F' ds xs
  | [], _, h => by simpa only [RepL] using h
  | d :: ds, xs, h => by
    simp only [RepL] at h ⊢
    obtain ⟨y, ys, e, q, r⟩ := h
    exact ⟨y, ys, e, RepV.mono s d y q, RepL.mono s ds ys r⟩
theorem RepK.mono (s : Same F F') : ∀ (ds : List (Key × D)) (xs : List (Key × V)), RepK K F ds xs → RepK K F' ds xs
  | [], _, h => by simpa only [RepK] using h
  | (k, d) :: ds, xs, h => by
    simp only [RepK] at h ⊢
    obtain ⟨y, ys, e, q, r⟩ := h
    exact ⟨y, ys, e, RepV.mono s d y q, RepK.mono s ds ys r⟩
theorem RepF.mono (s : Same F F') : ∀ (ds : List (Str × D)) (xs : List (Str × V)), RepF K F ds xs → RepF K F' ds xs
  | [], _, h => by simpa only [RepF] using h
  | (k, d) :: ds, xs, h => by
    simp only [RepF] at h ⊢
    obtain ⟨y, ys, e, q, r⟩ := h
    exact ⟨y, ys, e, RepV.mono s d y q, RepF.mono s ds ys r⟩
end
theorem RepF.look : ∀ {ds : List (Str × D)} {xs : List (Str × V)} {f : Str} {d : D}, RepF K F ds xs → ds.lookup f = some d → ∃ v, xs.lookup f = some v ∧ RepV K F d v
  | [], _, _, _, h, e => by cases e
  | (k, d') :: ds, _, f, d, h, e => by
    simp only [RepF] at h
    obtain ⟨y, ys, rfl, q, r⟩ := h
    rw [List.lookup_cons] at e ⊢
    split at e
    · cases e; exact ⟨y, rfl, q⟩
    · exact RepF.look r e
theorem RepF.lookN : ∀ {ds : List (Str × D)} {xs : List (Str × V)} {f : Str}, RepF K F ds xs → ds.lookup f = none → xs.lookup f = none
  | [], _, _, h, e => by simp only [RepF] at h; subst h; rfl
  | (k, d') :: ds, _, f, h, e => by
    simp only [RepF] at h
    obtain ⟨y, ys, rfl, q, r⟩ := h
    rw [List.lookup_cons] at e ⊢
    split at e
    · cases e
    · exact RepF.lookN r e
theorem RepF.length : ∀ {ds : List (Str × D)} {xs : List (Str × V)}, RepF K F ds xs → xs.length = ds.length
  | [], _, h => by simp only [RepF] at h; subst h; rfl
  | (k, d') :: ds, _, h => by
    simp only [RepF] at h
    obtain ⟨y, ys, rfl, q, r⟩ := h
    rw [List.length_cons, List.length_cons, RepF.length r]
theorem RepL.length : ∀ {ds : List D} {xs : List V}, RepL K F ds xs → xs.length = ds.length
  | [], _, h => by simp only [RepL] at h; subst h; rfl
  | d :: ds, _, h => by
    simp only [RepL] at h
    obtain ⟨y, ys, rfl, _, r⟩ := h
    rw [List.length_cons, List.length_cons, RepL.length r]
theorem RepL.get : ∀ {ds : List D} {xs : List V} {i : Nat} {x : V}, RepL K F ds xs → xs[i]? = some x → ∃ d, ds[i]? = some d ∧ RepV K F d x
  | [], _, _, _, h, e => by simp only [RepL] at h; subst h; simp at e
  | d :: ds, _, 0, _, h, e => by
    simp only [RepL] at h
    obtain ⟨y, ys, rfl, r, _⟩ := h
    simp at e; subst e; exact ⟨d, rfl, r⟩
  | d :: ds, _, i + 1, _, h, e => by
    simp only [RepL] at h
    obtain ⟨y, ys, rfl, _, r⟩ := h
    obtain ⟨d', e', r'⟩ := RepL.get (i := i) r (by simpa using e)
    exact ⟨d', by simpa using e', r'⟩
theorem RepL.get' : ∀ {ds : List D} {xs : List V} {i : Nat} {d : D}, RepL K F ds xs → ds[i]? = some d → ∃ x, xs[i]? = some x ∧ RepV K F d x
  | [], _, _, _, h, e => by simp at e
  | d :: ds, _, 0, _, h, e => by
    simp only [RepL] at h
    obtain ⟨y, ys, rfl, r, _⟩ := h
    simp at e; subst e; exact ⟨y, rfl, r⟩
  | d :: ds, _, i + 1, _, h, e => by
    simp only [RepL] at h
    obtain ⟨y, ys, rfl, _, r⟩ := h
    obtain ⟨d', e', r'⟩ := RepL.get' (i := i) r (by simpa using e)
    exact ⟨d', by simpa using e', r'⟩
theorem RepL.append : ∀ {ds es : List D} {xs ys : List V}, RepL K F ds xs → RepL K F es ys → RepL K F (ds ++ es) (xs ++ ys)
  | [], _, _, _, h, r => by simp only [RepL] at h; subst h; exact r
  | d :: ds, _, _, _, h, r => by
    simp only [RepL] at h
    obtain ⟨y, ys, rfl, q, t⟩ := h
    show RepL K F (d :: (ds ++ _)) (y :: (ys ++ _))
    simp only [RepL]
    exact ⟨y, _, rfl, q, RepL.append t r⟩
theorem RepL.nil : RepL K F [] [] := by simp only [RepL]
theorem RepL.cons {d : D} {ds : List D} {x : V} {xs : List V} (h : RepV K F d x) (r : RepL K F ds xs) : RepL K F (d :: ds) (x :: xs) := by simp only [RepL]; exact ⟨x, xs, rfl, h, r⟩
end

/-- the list or dict at a in H, its contents frozen -/
def Top (K : PySem.W.Frag) (F H : Hp) (a : Addr) : D → Prop
  | .lst ds => ∃ xs, H a = some (.lst xs) ∧ RepL K F ds xs
  | .dct ds => ∃ xs, H a = some (.dK xs) ∧ RepK K F ds xs
  | .ins c fs => ∃ C dx gs, PySem.W.nsIn K mainGlobals c = some (some (.ref C)) ∧ H a = some (.ins C dx gs) ∧ RepF K F fs gs
  | .set ks => ∃ S, H a = some (.set S ks.length) ∧ SetIs S ks
  | _ => False
def Rp (K : PySem.W.Frag) (F H : Hp) (m : Md) (d : D) (v : V) : Prop :=
  match m with
  | .fz => RepV K F d v
  | _ => ∃ a, v = .ref a ∧ F a = none ∧ Top K F H a d
/-- from a state to a later one: nothing that stood is changed; what is newly frozen is new -/
structure Step (F H F' H' : Hp) : Prop where
  same : Same H H'
  fsame : Same F F'
  sub : Same F' H'
  new : ∀ a, F a = none → H a ≠ none → F' a = none
theorem Step.refl {F H : Hp} (h : Same F H) : Step F H F H := ⟨Same.refl _, Same.refl _, h, fun _ h _ => h⟩
theorem Step.trans {F H F1 H1 F2 H2 : Hp} (a : Step F H F1 H1) (b : Step F1 H1 F2 H2) : Step F H F2 H2 :=
  ⟨a.same.trans b.same, a.fsame.trans b.fsame, b.sub, fun x h1 h2 => b.new x (a.new x h1 h2) (by
    cases e : H x with
    | none => exact absurd e h2
    | some o => rw [a.same x o e]; exact fun z => nomatch z)⟩
/-- a new object, frozen at once -/
theorem Step.laid {F H : Hp} {p : Addr} (o : HO) (h : Same F H) (hp : H p = none) : Step F H (upd F p o) (upd H p o) := by
  have hf : F p = none := h.free hp
  refine ⟨fun b u e => ?_, fun b u e => ?_, fun b u e => ?_, fun a h1 h2 => ?_⟩
  · rw [upd_ne (ne_of_none e hp)]; exact e
  · rw [upd_ne (ne_of_none e hf)]; exact e
  · by_cases hb : b = p
    · subst hb; rw [upd_same] at e ⊢; exact e
    · rw [upd_ne hb] at e ⊢; exact h b u e
  · have : a ≠ p := by rintro rfl; exact h2 hp
    rw [upd_ne this]; exact h1
/-- a new object, not frozen -/
theorem Step.fresh {F H : Hp} {p : Addr} (o : HO) (h : Same F H) (hp : H p = none) : Step F H F (upd H p o) := by
  refine ⟨fun b u e => ?_, Same.refl _, fun b u e => ?_, fun a h1 _ => h1⟩
  · rw [upd_ne (ne_of_none e hp)]; exact e
  · rw [upd_ne (ne_of_none (h b u e) hp)]; exact h b u e
theorem Top.step {K : PySem.W.Frag} {F H F' H' : Hp} {a : Addr} {d : D} (st : Step F H F' H') (h : Top K F H a d) : Top K F' H' a d := by
  cases d with
  | lst ds => obtain ⟨xs, e, r⟩ := h; exact ⟨xs, st.same _ _ e, r.mono st.fsame _ _⟩
  | dct ds => obtain ⟨xs, e, r⟩ := h; exact ⟨xs, st.same _ _ e, r.mono st.fsame _ _⟩
  | ins c fs => obtain ⟨C, dx, gs, n, e, r⟩ := h; exact ⟨C, dx, gs, n, st.same _ _ e, r.mono st.fsame _ _⟩
  | set ks => obtain ⟨S, e, r⟩ := h; exact ⟨S, st.same _ _ e, r⟩
  | _ => exact h.elim
theorem Top.there {K : PySem.W.Frag} {F H : Hp} {a : Addr} {d : D} (h : Top K F H a d) : H a ≠ none := by
  cases d with
  | lst ds => obtain ⟨xs, e, r⟩ := h; rw [e]; exact fun z => nomatch z
  | dct ds => obtain ⟨xs, e, r⟩ := h; rw [e]; exact fun z => nomatch z
  | ins c fs => obtain ⟨C, dx, gs, n, e, r⟩ := h; rw [e]; exact fun z => nomatch z
  | set ks => obtain ⟨S, e, r⟩ := h; rw [e]; exact fun z => nomatch z
  | _ => exact h.elim
theorem Rp.step {K : PySem.W.Frag} {F H F' H' : Hp} {m : Md} {d : D} {v : V} (st : Step F H F' H') (h : Rp K F H m d v) : Rp K F' H' m d v := by
  cases m with
  | fz => exact RepV.mono st.fsame d v h
  | fr => obtain ⟨a, e, n, t⟩ := h; exact ⟨a, e, st.new a n t.there, t.step st⟩
  | bo => obtain ⟨a, e, n, t⟩ := h; exact ⟨a, e, st.new a n t.there, t.step st⟩
theorem Rp.seqL {K : PySem.W.Frag} {F H : Hp} {m : Md} {ds : List D} {v : V} (s : Same F H) (h : Rp K F H m (.lst ds) v) : ∃ a xs, v = .ref a ∧ SqL K H a xs ∧ RepL K F ds xs := by
  cases m with
  | fz =>
    have h : RepV K F (.lst ds) v := h
    simp only [RepV] at h
    obtain ⟨a, xs, e, q, r⟩ := h
    exact ⟨a, xs, e, s.seq q, r⟩
  | fr => obtain ⟨a, e, n, xs, q, r⟩ := h; exact ⟨a, xs, e, SqL.of q, r⟩
  | bo => obtain ⟨a, e, n, xs, q, r⟩ := h; exact ⟨a, xs, e, SqL.of q, r⟩
theorem Rp.seqT {K : PySem.W.Frag} {F H : Hp} {m : Md} {ds : List D} {v : V} (s : Same F H) (h : Rp K F H m (.tup ds) v) : ∃ a xs, v = .ref a ∧ SqT K H a xs ∧ RepL K F ds xs := by
  cases m with
  | fz =>
    have h : RepV K F (.tup ds) v := h
    simp only [RepV] at h
    obtain ⟨a, xs, e, q, r⟩ := h
    exact ⟨a, xs, e, Same.seqT s q, r⟩
  | fr => obtain ⟨a, e, n, q⟩ := h; exact q.elim
  | bo => obtain ⟨a, e, n, q⟩ := h; exact q.elim
theorem Rp.dict {K : PySem.W.Frag} {F H : Hp} {m : Md} {ds : List (Key × D)} {v : V} (s : Same F H) (h : Rp K F H m (.dct ds) v) : ∃ a xs, v = .ref a ∧ H a = some (.dK xs) ∧ RepK K F ds xs := by
  cases m with
  | fz =>
    have h : RepV K F (.dct ds) v := h
    simp only [RepV] at h
    obtain ⟨a, xs, e, q, r⟩ := h
    exact ⟨a, xs, e, s _ _ q, r⟩
  | fr => obtain ⟨a, e, n, xs, q, r⟩ := h; exact ⟨a, xs, e, q, r⟩
  | bo => obtain ⟨a, e, n, xs, q, r⟩ := h; exact ⟨a, xs, e, q, r⟩
theorem Rp.ins {K : PySem.W.Frag} {F H : Hp} {m : Md} {c : Str} {fs : List (Str × D)} {v : V} (s : Same F H) (h : Rp K F H m (.ins c fs) v) : ∃ a C dx gs, v = .ref a ∧ PySem.W.nsIn K mainGlobals c = some (some (.ref C)) ∧ H a = some (.ins C dx gs) ∧ RepF K F fs gs := by
  cases m with
  | fz =>
    have h : RepV K F (.ins c fs) v := h
    simp only [RepV] at h
    obtain ⟨a, C, dx, gs, e, n, q, r⟩ := h
    exact ⟨a, C, dx, gs, e, n, s _ _ q, r⟩
  | fr => obtain ⟨a, e, n, C, dx, gs, z, q, r⟩ := h; exact ⟨a, C, dx, gs, e, z, q, r⟩
  | bo => obtain ⟨a, e, n, C, dx, gs, z, q, r⟩ := h; exact ⟨a, C, dx, gs, e, z, q, r⟩
theorem Rp.flat {K : PySem.W.Frag} {F H : Hp} {m : Md} {d : D} {v : V} (h : Rp K F H m d v) (nl : ∀ a, v ≠ .ref a) : RepV K F d v := by
  cases m with
  | fz => exact h
  | fr => obtain ⟨a, e, n, q⟩ := h; exact absurd e (nl a)
  | bo => obtain ⟨a, e, n, q⟩ := h; exact absurd e (nl a)
theorem Rp.int {K : PySem.W.Frag} {F H : Hp} {m : Md} {i : Int} {v : V} (h : Rp K F H m (.int i) v) : v = .int i := by
  cases m with
  | fz => have h : RepV K F (.int i) v := h; simpa only [RepV] using h
  | fr => obtain ⟨a, e, n, q⟩ := h; exact q.elim
  | bo => obtain ⟨a, e, n, q⟩ := h; exact q.elim
theorem Rp.bl {K : PySem.W.Frag} {F H : Hp} {m : Md} {i : Bool} {v : V} (h : Rp K F H m (.bl i) v) : v = .bl i := by
  cases m with
  | fz => have h : RepV K F (.bl i) v := h; simpa only [RepV] using h
  | fr => obtain ⟨a, e, n, q⟩ := h; exact q.elim
  | bo => obtain ⟨a, e, n, q⟩ := h; exact q.elim
theorem Rp.non {K : PySem.W.Frag} {F H : Hp} {m : Md} {v : V} (h : Rp K F H m .non v) : v = .non := by
  cases m with
  | fz => have h : RepV K F .non v := h; simpa only [RepV] using h
  | fr => obtain ⟨a, e, n, q⟩ := h; exact q.elim
  | bo => obtain ⟨a, e, n, q⟩ := h; exact q.elim
theorem Rp.str {K : PySem.W.Frag} {F H : Hp} {m : Md} {x : Str} {v : V} (h : Rp K F H m (.str x) v) : v = .str x ∧ x.length ≤ sizeLine ∧ PyData.strOk x = true := by
  cases m with
  | fz => have h : RepV K F (.str x) v := h; simpa only [RepV] using h
  | fr => obtain ⟨a, e, n, q⟩ := h; exact q.elim
  | bo => obtain ⟨a, e, n, q⟩ := h; exact q.elim
theorem Rp.ty {K : PySem.W.Frag} {F H : Hp} {m : Md} {n : String} {v : V} (h : Rp K F H m (.ty n) v) : v = .ty n := by
  cases m with
  | fz => have h : RepV K F (.ty n) v := h; simpa only [RepV] using h
  | fr => obtain ⟨a, e, n, q⟩ := h; exact q.elim
  | bo => obtain ⟨a, e, n, q⟩ := h; exact q.elim
theorem Rp.ob {K : PySem.W.Frag} {F H : Hp} {m : Md} {n : Addr} {v : V} (h : Rp K F H m (.ob n) v) : v = .ref n := by
  cases m with
  | fz => have h : RepV K F (.ob n) v := h; simpa only [RepV] using h
  | fr => obtain ⟨a, e, n, q⟩ := h; exact q.elim
  | bo => obtain ⟨a, e, n, q⟩ := h; exact q.elim
theorem rp_ty {K : PySem.W.Frag} {F H : Hp} (i : String) : Rp K F H .fz (.ty i) (.ty i) := by show RepV K F _ _; simp only [RepV]
theorem rp_int {K : PySem.W.Frag} {F H : Hp} (i : Int) : Rp K F H .fz (.int i) (.int i) := by show RepV K F _ _; simp only [RepV]
theorem rp_bl {K : PySem.W.Frag} {F H : Hp} (i : Bool) : Rp K F H .fz (.bl i) (.bl i) := by show RepV K F _ _; simp only [RepV]
theorem rp_non {K : PySem.W.Frag} {F H : Hp} : Rp K F H .fz .non .non := by show RepV K F _ _; simp only [RepV]
theorem rp_str {K : PySem.W.Frag} {F H : Hp} {x : Str} (h : x.length ≤ sizeLine ∧ PyData.strOk x = true) : Rp K F H .fz (.str x) (.str x) := by show RepV K F _ _; simp only [RepV, true_and]; exact h

/-! ### the frame -/
/-- a name's value: owned (true) or frozen -/
abbrev Rho := List (Option (Bool × D))
structure RelSt (K : PySem.W.Frag) (F0 H0 F H : Hp) (σ : L2.St) (ρ : Rho) : Prop where
  st : Step F0 H0 F H
  slot : ∀ (i : Nat) (m : Bool) (d : D), ρ[i]? = some (some (m, d)) → ∃ v, σ[i]? = some (some v) ∧ Rp K F H (if m then .bo else .fz) d v ∧ (m = true → ∀ a, v = .ref a → H0 a = none)
  apart : ∀ (i j : Nat) (d d' : D) (a : Addr), i ≠ j → ρ[i]? = some (some (true, d)) → ρ[j]? = some (some (true, d')) → σ[i]? = some (some (.ref a)) → σ[j]? = some (some (.ref a)) → False
  len : σ.length = ρ.length
theorem RelSt.step {K : PySem.W.Frag} {F0 H0 F H F' H' : Hp} {σ : L2.St} {ρ : Rho} (r : RelSt K F0 H0 F H σ ρ) (st : Step F H F' H') : RelSt K F0 H0 F' H' σ ρ :=
  ⟨r.st.trans st, fun i m d e => by obtain ⟨v, e1, e2, e3⟩ := r.slot i m d e; exact ⟨v, e1, e2.step st, e3⟩, r.apart, r.len⟩
theorem RelSt.sub {K : PySem.W.Frag} {F0 H0 F H : Hp} {σ : L2.St} {ρ : Rho} (r : RelSt K F0 H0 F H σ ρ) : Same F H := r.st.sub

/-- what is wanted of an exception of that class: the names as they stand, the heap -/
abbrev XE := Str → L2.St → Hp → Prop
structure Cw where
  K : PySem.W.Frag
  F0 : Hp
  H0 : Hp
  EE : XE
/-- an expression by its value -/
def tG (C : Cw) (g : Rho → Res) : TE := fun σ H Q => ∃ ρ F, RelSt C.K C.F0 C.H0 F H σ ρ ∧ match g ρ with
  | .ok m d => ∀ v F' H', Step F H F' H' → Rp C.K F' H' m d v → (m = .fr → ∀ a, v = .ref a → H a = none) → Q v H'
  | .exc c => ∀ F' H', Step F H F' H' → C.EE c σ H'
  | .stuck => False
abbrev Cw.at (C : Cw) (X : Cx) : Cw := { C with K := X.K }
def PV (C : Cw) (X : Cx) (e : Expr) (g : Rho → Res) : Prop := PE X e (tG (C.at X) g)
theorem PE.imp {X : Cx} {e : Expr} {t t' : TE} (h : PE X e t) (i : ∀ σ H Q, t' σ H Q → t σ H Q) : PE X e t' := fun pins s σ H Q I q => h pins s σ H Q I (i σ H Q q)
end D3

namespace D3
open PySem PySem.Spec PyProof.Rows L2

def Res.thn (r : Res) (k : Md → D → Res) : Res := match r with
  | .ok m d => k m d
  | .exc c => .exc c
  | .stuck => .stuck
@[simp] theorem Res.thn_ok (m : Md) (d : D) (k : Md → D → Res) : (Res.ok m d).thn k = k m d := rfl
@[simp] theorem Res.thn_exc (c : Str) (k : Md → D → Res) : (Res.exc c).thn k = .exc c := rfl
@[simp] theorem Res.thn_stuck (k : Md → D → Res) : Res.stuck.thn k = .stuck := rfl
def Res.of : Option (Md × D) → Res
  | some (m, d) => .ok m d
  | none => .stuck
@[simp] theorem Res.of_some (m : Md) (d : D) : Res.of (some (m, d)) = .ok m d := rfl
@[simp] theorem Res.of_none : Res.of none = .stuck := rfl
/-- what a result asks of the state behind -/
def Want (C : Cw) (F H : Hp) (σ : L2.St) (r : Res) (Q : VK) : Prop := match r with
  | .ok m d => ∀ v F' H', Step F H F' H' → Rp C.K F' H' m d v → (m = .fr → ∀ a, v = .ref a → H a = none) → Q v H'
  | .exc c => ∀ F' H', Step F H F' H' → C.EE c σ H'
  | .stuck => False
theorem tG_eq {C : Cw} {g : Rho → Res} {σ : L2.St} {H : Hp} {Q : VK} : tG C g σ H Q = ∃ ρ F, RelSt C.K C.F0 C.H0 F H σ ρ ∧ Want C F H σ (g ρ) Q := by
  unfold tG Want
  rfl
theorem Want.step {C : Cw} {F H F1 H1 : Hp} {σ : L2.St} {r : Res} {Q : VK} (st : Step F H F1 H1) (h : Want C F H σ r Q) : Want C F1 H1 σ r Q := by
  cases r with
  | ok m d => exact fun v F' H' s2 rp hf => h v F' H' (st.trans s2) rp fun e a ea => st.same.free (hf e a ea)
  | exc c => exact fun F' H' s2 => h F' H' (st.trans s2)
  | stuck => exact h
section
variable {C : Cw} {X : Cx} {a b : Expr} {ga gb : Rho → Res} {pos : Pos}
/-! ### names, constants -/
def getS (ρ : Rho) (i : Nat) : Res := match ρ[i]? with
  | some (some (false, d)) => .ok .fz d
  | some (some (true, d)) => .ok .bo d
  | _ => .stuck
theorem pv_var (i : Nat) {x : Str} (h : PE X (.Name x pos) (tVar i)) : PV C X (.Name x pos) (fun ρ => getS ρ i) := by
  refine PE.imp h fun σ H Q q => ?_
  rw [tG_eq] at q
  obtain ⟨ρ, F, R, w⟩ := q
  unfold getS at w
  cases e : ρ[i]? with
  | none => rw [e] at w; exact w.elim
  | some o =>
    cases o with
    | none => rw [e] at w; exact w.elim
    | some p =>
      obtain ⟨m, d⟩ := p
      obtain ⟨v, e1, r, _⟩ := R.slot i m d e
      rw [e] at w
      cases m with
      | false => exact ⟨v, e1, w v F H (.refl R.sub) r (by intro z; cases z)⟩
      | true => exact ⟨v, e1, w v F H (.refl R.sub) r (by intro z; cases z)⟩
theorem pv_con {e : Expr} {v : V} (d : D) (h : PE X e (tC v)) (r : ∀ F H, Rp X.K F H .fz d v) : PV C X e (fun _ => .ok .fz d) := by
  refine PE.imp h fun σ H Q q => ?_
  rw [tG_eq] at q
  obtain ⟨ρ, F, R, w⟩ := q
  exact w v F H (.refl R.sub) (r F H) (by intro z; cases z)
theorem pv_int {i j} : PV C X (.Constant (.int i) j pos) (fun _ => .ok .fz (.int i)) := pv_con _ pe_int fun _ _ => rp_int i
theorem pv_bl {i j} : PV C X (.Constant (.bool i) j pos) (fun _ => .ok .fz (.bl i)) := pv_con _ pe_bl fun _ _ => rp_bl i
theorem pv_non {j} : PV C X (.Constant .none j pos) (fun _ => .ok .fz .non) := pv_con _ pe_non fun _ _ => rp_non
theorem pv_str {x : Str} {j} (h : (decide (x.length ≤ sizeLine) && PyData.strOk x) = true := by decide +kernel) : PV C X (.Constant (.str x) j pos) (fun _ => .ok .fz (.str x)) :=
  pv_con _ pe_str fun _ _ => rp_str (by rw [Bool.and_eq_true, decide_eq_true_eq] at h; exact h)

/-! ### two operands -/
def op2 (φ : Md → D → Md → D → Option (Md × D)) (x y : Res) : Res := x.thn fun m d => y.thn fun n e => Res.of (φ m d n e)
/-- an operation on values by data -/
def OpD (C : Cw) (X : Cx) (f : Value → Value → Sem Value) (φ : Md → D → Md → D → Option (Md × D)) : Prop :=
  ∃ r : R2, OpR X f r ∧ ∀ F H m x n y v u k d Q, Same F H → Rp X.K F H m x v → Rp X.K F H n y u → φ m x n y = some (k, d) →
    (∀ v' F' H', Step F H F' H' → Rp X.K F' H' k d v' → (k = .fr → ∀ a, v' = .ref a → H a = none) → Q v' H') → r v u H Q
theorem tG_op2 {φ : Md → D → Md → D → Option (Md × D)} {r : R2} (h : ∀ F H m x n y v u k d Q, Same F H → Rp C.K F H m x v → Rp C.K F H n y u → φ m x n y = some (k, d) →
    (∀ v' F' H', Step F H F' H' → Rp C.K F' H' k d v' → (k = .fr → ∀ a, v' = .ref a → H a = none) → Q v' H') → r v u H Q) {σ : L2.St} {H : Hp} {Q : VK}
    (q : tG C (fun ρ => op2 φ (ga ρ) (gb ρ)) σ H Q) : tOp r (tG C ga) (tG C gb) σ H Q := by
  unfold tOp
  rw [tG_eq] at q ⊢
  obtain ⟨ρ, F, R, w⟩ := q
  refine ⟨ρ, F, R, ?_⟩
  cases ea : ga ρ with
  | stuck => simp only [op2, ea, Res.thn] at w; exact w
  | exc c => simp only [op2, ea, Res.thn] at w; exact w
  | ok m d =>
    intro v F1 H1 s1 r1 _
    rw [tG_eq]
    refine ⟨ρ, F1, R.step s1, ?_⟩
    have w1 := w.step s1
    simp only [op2, ea, Res.thn] at w1
    cases eb : gb ρ with
    | stuck => rw [eb] at w1; exact w1
    | exc c => rw [eb] at w1; exact w1
    | ok n e =>
      rw [eb] at w1
      intro u F2 H2 s2 r2 _
      have w2 : Want C F2 H2 σ (Res.of (φ m d n e)) Q := Want.step s2 w1
      cases ef : φ m d n e with
      | none => rw [ef] at w2; exact w2.elim
      | some kd =>
        obtain ⟨k, d'⟩ := kd
        rw [ef] at w2
        exact h F2 H2 m d n e v u k d' Q s2.sub (r1.step s2) r2 ef w2
theorem pv_op {op : Operator} {φ} (o : OpD C X (binaryOp op) φ) (ha : PV C X a ga) (hb : PV C X b gb) : PV C X (.BinOp a op b pos) (fun ρ => op2 φ (ga ρ) (gb ρ)) := by
  obtain ⟨r, h1, h2⟩ := o
  exact PE.imp (pe_op h1 ha hb) fun σ H Q q => tG_op2 h2 q
theorem pv_cmp {op : CmpOp} {φ} (o : OpD C X (compareOp op) φ) (ha : PV C X a ga) (hb : PV C X b gb) (hm : behindInMarks op b = false) : PV C X (.Compare a [op] [b] pos) (fun ρ => op2 φ (ga ρ) (gb ρ)) := by
  obtain ⟨r, h1, h2⟩ := o
  exact PE.imp (pe_cmpR h1 ha hb hm) fun σ H Q q => tG_op2 h2 q
def orO (φ ψ : Md → D → Md → D → Option (Md × D)) : Md → D → Md → D → Option (Md × D) := fun m x n y => (φ m x n y).orElse fun _ => ψ m x n y
theorem OpD.or {f : Value → Value → Sem Value} {φ ψ} (h : OpD C X f φ) (h' : OpD C X f ψ) : OpD C X f (orO φ ψ) := by
  obtain ⟨r, h1, h2⟩ := h
  obtain ⟨r', h1', h2'⟩ := h'
  refine ⟨_, h1.or h1', fun F H m x n y v u k d Q s rx ry e w => ?_⟩
  unfold orO at e
  cases e1 : φ m x n y with
  | none => rw [e1] at e; exact .inr (h2' F H m x n y v u k d Q s rx ry e w)
  | some p => rw [e1] at e; cases e; exact .inl (h2 F H m x n y v u k d Q s rx ry e1 w)
/-- two ints -/
def fI (c : Int → Int → Bool) (g : Int → Int → D) : Md → D → Md → D → Option (Md × D) := fun _ x _ y => match x, y with
  | .int i, .int j => if c i j = true then some (.fz, g i j) else none
  | _, _ => none
theorem opd_I {f : Value → Value → Sem Value} {Cc : Int → Int → Prop} {c : Int → Int → Bool} {g : Int → Int → V} {g' : Int → Int → D} (o : OpR X f (rI Cc g)) (hc : ∀ i j, c i j = true → Cc i j) (hg : ∀ F H i j, Rp X.K F H .fz (g' i j) (g i j)) : OpD C X f (fI c g') := by
  refine ⟨_, o, fun F H m x n y v u k d Q s rx ry e w => ?_⟩
  unfold fI at e
  split at e
  · rename_i i j
    cases rx.int
    cases ry.int
    split at e
    · rename_i hcc
      cases e
      exact ⟨i, j, rfl, rfl, hc i j hcc, w _ F H (.refl s) (hg F H i j) (by intro z; cases z)⟩
    · cases e
  · cases e
theorem opd_I0 {f : Value → Value → Sem Value} {g : Int → Int → V} {g' : Int → Int → D} (o : OpR X f (rI0 g)) (hg : ∀ F H i j, Rp X.K F H .fz (g' i j) (g i j)) : OpD C X f (fI (fun _ _ => true) g') := by
  refine ⟨_, o, fun F H m x n y v u k d Q s rx ry e w => ?_⟩
  unfold fI at e
  split at e
  · rename_i i j
    cases rx.int
    cases ry.int
    rw [if_pos rfl] at e
    cases e
    exact ⟨i, j, rfl, rfl, w _ F H (.refl s) (hg F H i j) (by intro z; cases z)⟩
  · cases e
def bits (i : Int) : Bool := decide (i.natAbs.log2 < 9000)
theorem opd_add : OpD C X (binaryOp .Add) (fI (fun _ _ => true) fun i j => .int (i + j)) := opd_I0 op_add fun _ _ i j => rp_int _
theorem opd_sub : OpD C X (binaryOp .Sub) (fI (fun _ _ => true) fun i j => .int (i - j)) := opd_I0 op_sub fun _ _ i j => rp_int _
theorem mulOk_of {i j : Int} (h : (bits i && bits j) = true) : IntMulOk i j := by
  rw [Bool.and_eq_true] at h
  have b : ∀ {i : Int}, bits i = true → Builtin.Int.intBits i ≤ 2 ^ 20 := fun {i} h => by
    unfold bits at h
    have := of_decide_eq_true h
    unfold Builtin.Int.intBits
    split
    · exact Nat.zero_le _
    · have e : (2 : Nat) ^ 20 = 1048576 := by decide
      omega
  exact IntMulOk.of_bits (b h.1) (b h.2)
def w64 (i : Int) : Bool := decide (i.natAbs < 2 ^ 63)
theorem w64_bits {i : Int} (h : w64 i = true) : Builtin.Int.intBits i ≤ 64 := by
  have h := of_decide_eq_true h
  unfold Builtin.Int.intBits
  split
  · exact Nat.zero_le _
  · rename_i hz
    have : i.natAbs.log2 < 63 := (Nat.log2_lt (by simpa using hz)).mpr h
    omega
theorem opd_mul : OpD C X (binaryOp .Mult) (fI (fun i j => (bits i && bits j) || (w64 i || w64 j)) fun i j => .int (i * j)) :=
  opd_I (Cc := fun i j => IntMulOk i j) (opI fun _ _ _ _ _ _ _ hc q => mul_int q hc) (fun i j h => by
    rcases (Bool.or_eq_true _ _).mp h with h | h
    · exact mulOk_of h
    · rcases (Bool.or_eq_true _ _).mp h with h | h
      · exact IntMulOk.of_left (w64_bits h)
      · exact IntMulOk.of_right (w64_bits h)) fun _ _ i j => rp_int _
theorem opd_mod : OpD C X (binaryOp .Mod) (fI (fun _ j => decide (0 < j)) fun i j => .int (i % j)) := opd_I op_mod (fun i j h => of_decide_eq_true h) fun _ _ i j => rp_int _
theorem op_fdivB : OpR X (binaryOp .FloorDiv) (rI (fun _ j => 0 < j ∧ bits j = true) fun i j => .int (i / j)) := opI fun i j _ _ _ _ _ hc q => by
  obtain ⟨h1, h2⟩ := hc
  refine floordiv_int (by omega) ?_ (.inl (PyProof.noPylong_of_log2 (of_decide_eq_true h2)))
  rw [Int.fdiv_eq_ediv_of_nonneg i (by omega)]
  exact q
theorem opd_fdiv : OpD C X (binaryOp .FloorDiv) (fI (fun _ j => decide (0 < j) && bits j) fun i j => .int (i / j)) := opd_I op_fdivB (fun i j h => by rw [Bool.and_eq_true, decide_eq_true_eq] at h; exact h) fun _ _ i j => rp_int _
theorem opd_pow : OpD C X (binaryOp .Pow) (fI (fun i j => decide (0 ≤ j) && decide (j ≤ 1000000) && decide (i.natAbs < 2 ^ 64)) fun i j => .int (i ^ j.toNat)) :=
  opd_I op_pow (fun i j h => by simp only [Bool.and_eq_true, decide_eq_true_eq] at h; exact ⟨h.1.1, h.1.2, h.2⟩) fun _ _ i j => rp_int _
theorem opd_lt : OpD C X (compareOp .Lt) (fI (fun _ _ => true) fun i j => .bl (decide (i < j))) := opd_I0 op_lt fun _ _ i j => rp_bl _
theorem opd_le : OpD C X (compareOp .LtE) (fI (fun _ _ => true) fun i j => .bl (decide (i ≤ j))) := opd_I0 op_le fun _ _ i j => rp_bl _
theorem opd_gt : OpD C X (compareOp .Gt) (fI (fun _ _ => true) fun i j => .bl (decide (j < i))) := opd_I0 op_gt fun _ _ i j => rp_bl _
theorem opd_ge : OpD C X (compareOp .GtE) (fI (fun _ _ => true) fun i j => .bl (decide (j ≤ i))) := opd_I0 op_ge fun _ _ i j => rp_bl _
/-- two texts -/
def fS (c : Str → Str → Bool) (g : Str → Str → D) : Md → D → Md → D → Option (Md × D) := fun _ x _ y => match x, y with
  | .str i, .str j => if c i j = true then some (.fz, g i j) else none
  | _, _ => none
theorem strOk_append {x y : Str} (hx : PyData.strOk x = true) (hy : PyData.strOk y = true) : PyData.strOk (x ++ y) = true := by
  unfold PyData.strOk at *
  show (x.cps ++ y.cps).all _ = true
  rw [Array.all_append, hx, hy]; rfl
theorem opd_addS : OpD C X (binaryOp .Add) (fS (fun i j => decide (i.length + j.length ≤ sizeLine)) fun i j => .str (i ++ j)) := by
  refine ⟨_, op_add_str, fun F H m x n y v u k d Q s rx ry e w => ?_⟩
  unfold fS at e
  split at e
  · rename_i i j
    obtain ⟨rfl, h1⟩ := rx.str
    obtain ⟨rfl, h2⟩ := ry.str
    split at e
    · rename_i hc
      cases e
      have hc := of_decide_eq_true hc
      exact ⟨i, j, rfl, rfl, hc, w _ F H (.refl s) (rp_str ⟨by rw [strLen_append]; exact hc, strOk_append h1.2 h2.2⟩) (by intro z; cases z)⟩
    · cases e
  · cases e
def isIn (i j : Str) : Bool := !(Builtin.Str.occurrences j i 0 j.length 1).isEmpty
theorem opd_inS : OpD C X (compareOp .In) (fS (fun _ _ => true) fun i j => .bl (isIn i j)) := by
  refine ⟨_, op_in_str, fun F H m x n y v u k d Q s rx ry e w => ?_⟩
  unfold fS at e
  split at e
  · rename_i i j
    obtain ⟨rfl, h1⟩ := rx.str
    obtain ⟨rfl, h2⟩ := ry.str
    rw [if_pos rfl] at e
    cases e
    exact ⟨i, j, rfl, rfl, w _ F H (.refl s) (rp_bl _) (by intro z; cases z)⟩
  · cases e
theorem opd_notinS : OpD C X (compareOp .NotIn) (fS (fun _ _ => true) fun i j => .bl (!isIn i j)) := by
  refine ⟨_, op_notin_str, fun F H m x n y v u k d Q s rx ry e w => ?_⟩
  unfold fS at e
  split at e
  · rename_i i j
    obtain ⟨rfl, h1⟩ := rx.str
    obtain ⟨rfl, h2⟩ := ry.str
    rw [if_pos rfl] at e
    cases e
    exact ⟨i, j, rfl, rfl, w _ F H (.refl s) (rp_bl _) (by intro z; cases z)⟩
  · cases e
end
end D3

namespace D3
open PySem PySem.Spec PyProof.Rows L2
section
variable {C : Cw} {X : Cx} {a b c e : Expr} {ga gb gc g : Rho → Res} {pos : Pos}

/-! ### freezing a fresh value -/
def frzR : Res → Res
  | .ok .bo _ => .stuck
  | .ok _ d => .ok .fz d
  | r => r
theorem Step.freeze {F H F' H' : Hp} {x : Addr} {o : HO} (st : Step F H F' H') (hx : H x = none) (hx' : F' x = none) (ho : H' x = some o) : Step F H (upd F' x o) H' := by
  refine ⟨st.same, fun b u q => ?_, fun b u q => ?_, fun y h1 h2 => ?_⟩
  · rw [upd_ne (ne_of_none (st.fsame b u q) hx')]; exact st.fsame b u q
  · by_cases hb : b = x
    · subst hb; rw [upd_same] at q; rw [← q]; exact ho
    · rw [upd_ne hb] at q; exact st.sub b u q
  · have : y ≠ x := by rintro rfl; exact h2 hx
    rw [upd_ne this]; exact st.new y h1 h2
theorem Top.freeze {K : PySem.W.Frag} {F H : Hp} {x : Addr} {d : D} (hx : F x = none) (h : Top K F H x d) : ∃ o, H x = some o ∧ RepV K (upd F x o) d (.ref x) := by
  have s : ∀ o, Same F (upd F x o) := fun o b u q => by rw [upd_ne (ne_of_none q hx)]; exact q
  cases d with
  | lst ds =>
    obtain ⟨xs, q, r⟩ := h
    refine ⟨_, q, ?_⟩
    simp only [RepV]
    exact ⟨x, xs, rfl, SqL.of upd_same, r.mono (s _) _ _⟩
  | dct ds =>
    obtain ⟨xs, q, r⟩ := h
    refine ⟨_, q, ?_⟩
    simp only [RepV]
    exact ⟨x, xs, rfl, upd_same, r.mono (s _) _ _⟩
  | ins c fs =>
    obtain ⟨C, dx, gs, n, q, r⟩ := h
    refine ⟨_, q, ?_⟩
    simp only [RepV]
    exact ⟨x, C, dx, gs, rfl, n, upd_same, r.mono (s _) _ _⟩
  | set ks =>
    obtain ⟨S, q, r⟩ := h
    refine ⟨_, q, ?_⟩
    simp only [RepV]
    exact ⟨x, S, rfl, upd_same, r⟩
  | _ => exact h.elim
theorem Want.frz {F H : Hp} {σ : L2.St} {r : Res} {Q : VK} (w : Want C F H σ (frzR r) Q) : Want C F H σ r Q := by
  cases r with
  | exc c => exact w
  | stuck => exact w
  | ok m d =>
    cases m with
    | fz => exact w
    | bo => exact (show False from w).elim
    | fr =>
      intro v F' H' st rp fr
      obtain ⟨x, rfl, n, t⟩ := rp
      obtain ⟨o, ho, r⟩ := t.freeze n
      exact w (.ref x) (upd F' x o) H' (st.freeze (fr rfl x rfl) n ho) r (by intro z; cases z)
theorem pv_frz (h : PV C X e g) : PV C X e (fun ρ => frzR (g ρ)) := PE.imp h fun σ H Q q => by
  rw [tG_eq] at q ⊢
  obtain ⟨ρ, F, R, w⟩ := q
  try dsimp only at w
  exact ⟨ρ, F, R, w.frz⟩

/-! ### tests -/
def WantB (C : Cw) (F H : Hp) (σ : L2.St) (r : Res) (Q : Bool → Hp → Prop) : Prop := match r with
  | .ok _ (.bl b) => ∀ F' H', Step F H F' H' → Q b H'
  | .exc c => ∀ F' H', Step F H F' H' → C.EE c σ H'
  | _ => False
theorem WantB.step {F H F1 H1 : Hp} {σ : L2.St} {r : Res} {Q : Bool → Hp → Prop} (st : Step F H F1 H1) (h : WantB C F H σ r Q) : WantB C F1 H1 σ r Q := by
  cases r with
  | ok m d =>
    cases d with
    | bl b => exact fun F' H' s2 => h F' H' (st.trans s2)
    | _ => exact h
  | exc c => exact fun F' H' s2 => h F' H' (st.trans s2)
  | stuck => exact h
def tT (C : Cw) (g : Rho → Res) : TT := fun σ H Q => ∃ ρ F, RelSt C.K C.F0 C.H0 F H σ ρ ∧ WantB C F H σ (g ρ) Q
def PTv (C : Cw) (X : Cx) (e : Expr) (g : Rho → Res) : Prop := PT X e (tT (C.at X) g)
def PWv (C : Cw) (X : Cx) (e : Expr) (g : Rho → Res) : Prop := PW X e (tT (C.at X) g)
theorem PT.imp {X : Cx} {e : Expr} {t t' : TT} (h : PT X e t) (i : ∀ σ H Q, t' σ H Q → t σ H Q) : PT X e t' := fun pins s σ H Q I q => h pins s σ H Q I (i σ H Q q)
theorem PW.imp {X : Cx} {e : Expr} {t t' : TT} (h : PW X e t) (i : ∀ σ H Q, t' σ H Q → t σ H Q) : PW X e t' := fun whole pins s σ H Q I q => h whole pins s σ H Q I (i σ H Q q)
def truD : D → Option Bool
  | .non => some false
  | .bl b => some b
  | .int i => some (i != 0)
  | .str x => some ((x.length : Int) != 0)
  | .tup ds => some (!ds.isEmpty)
  | .lst ds => some (!ds.isEmpty)
  | .dct ds => some (!ds.isEmpty)
  | _ => none
def truR (r : Res) : Res := r.thn fun _ d => match truD d with | some b => .ok .fz (.bl b) | none => .stuck
theorem RepL.isEmpty {K : PySem.W.Frag} {F : Hp} {ds : List D} {xs : List V} (h : RepL K F ds xs) : ds.isEmpty = xs.isEmpty := by
  cases ds with
  | nil => simp only [RepL] at h; subst h; rfl
  | cons d ds => simp only [RepL] at h; obtain ⟨y, ys, rfl, _⟩ := h; rfl
theorem RepK.isEmpty {K : PySem.W.Frag} {F : Hp} {ds : List (Key × D)} {xs : List (Key × V)} (h : RepK K F ds xs) : ds.isEmpty = xs.isEmpty := by
  cases ds with
  | nil => simp only [RepK] at h; subst h; rfl
  | cons d ds => obtain ⟨k, d⟩ := d; simp only [RepK] at h; obtain ⟨y, ys, rfl, _⟩ := h; rfl
theorem truV_of {K : PySem.W.Frag} {F H : Hp} {m : Md} {d : D} {v : V} {k : Bool} (s : Same F H) (h : Rp K F H m d v) (e : truD d = some k) : TruV K v H k := by
  cases d with
  | non => cases h.non; cases e; rfl
  | bl b => cases h.bl; cases e; rfl
  | int i => cases h.int; cases e; rfl
  | str x => obtain ⟨rfl, hl, _⟩ := h.str; cases e; exact ⟨hl, rfl⟩
  | tup ds =>
    obtain ⟨a, xs, rfl, q, r⟩ := h.seqT s
    cases e
    exact .inr (.inl ⟨xs, q, by rw [r.isEmpty]⟩)
  | lst ds =>
    obtain ⟨a, xs, rfl, q, r⟩ := h.seqL s
    cases e
    exact .inl ⟨xs, q, by rw [r.isEmpty]⟩
  | dct ds =>
    obtain ⟨a, xs, rfl, q, r⟩ := h.dict s
    cases e
    exact .inr (.inr ⟨xs, q, by rw [r.isEmpty]⟩)
  | ty n => cases e
  | ob n => cases e
  | ins n => cases e
  | fn n => cases e
  | exn n => cases e
  | set n => cases e
/-- any expression whose test is its value's truth (he by fun _ => rfl) -/
theorem pt_tru (h : PV C X e g) (he : ∀ whole, isTrue e X.env whole = (do let v ← whole; standAt e.pos; holding [v] (truthy v)) := by intro _; rfl) : PTv C X e (fun ρ => truR (g ρ)) := by
  refine PT.imp (pt_truth h he) fun σ H Q q => ?_
  obtain ⟨ρ, F, R, w⟩ := q
  try dsimp only at w
  rw [tG_eq]
  refine ⟨ρ, F, R, ?_⟩
  cases er : g ρ with
  | stuck => rw [er] at w; exact w
  | exc c => rw [er] at w; exact w
  | ok m d =>
    rw [er] at w
    intro v F' H' st rp _
    have w : WantB (C.at X) F H σ (match truD d with | some b => .ok .fz (.bl b) | none => .stuck) Q := w
    cases ed : truD d with
    | none => rw [ed] at w; exact w.elim
    | some k => rw [ed] at w; exact ⟨k, truV_of st.sub rp ed, w F' H' st⟩
/-- a comparison as a test: its value is a bool -/
theorem pt_cmpv {op : CmpOp} {φ} (o : OpD C X (compareOp op) φ) (hb' : ∀ m x n y k d, φ m x n y = some (k, d) → ∃ t, k = .fz ∧ d = .bl t) (ha : PV C X a ga) (hb : PV C X b gb) (hm : behindInMarks op b = false) : PTv C X (.Compare a [op] [b] pos) (fun ρ => op2 φ (ga ρ) (gb ρ)) := by
  obtain ⟨r, h1, h2⟩ := o
  refine PT.imp (pt_cmpR h1 ha hb hm) fun σ H Q q => ?_
  obtain ⟨ρ, F, R, w⟩ := q
  try dsimp only at w
  unfold tTest
  refine tG_op2 h2 ?_
  rw [tG_eq]
  refine ⟨ρ, F, R, ?_⟩
  cases er : op2 φ (ga ρ) (gb ρ) with
  | stuck => rw [er] at w; exact w
  | exc c => rw [er] at w; exact w
  | ok m d =>
    rw [er] at w
    have : ∃ t, m = .fz ∧ d = .bl t := by
      unfold op2 at er
      cases e1 : ga ρ with
      | stuck => rw [e1] at er; cases er
      | exc c => rw [e1] at er; cases er
      | ok m1 d1 =>
        cases e2 : gb ρ with
        | stuck => rw [e1, e2] at er; cases er
        | exc c => rw [e1, e2] at er; cases er
        | ok m2 d2 =>
          rw [e1, e2] at er
          have er : Res.of (φ m1 d1 m2 d2) = .ok m d := er
          cases e3 : φ m1 d1 m2 d2 with
          | none => rw [e3] at er; cases er
          | some kd => rw [e3] at er; obtain ⟨k, d'⟩ := kd; cases er; exact hb' _ _ _ _ _ _ e3
    obtain ⟨t, rfl, rfl⟩ := this
    intro v F' H' st rp _
    cases rp.bl
    exact ⟨t, rfl, w F' H' st⟩
def andR (x : Res) (y : Res) : Res := x.thn fun _ d => match d with | .bl true => y | .bl false => .ok .fz (.bl false) | _ => .stuck
def orR (x : Res) (y : Res) : Res := x.thn fun _ d => match d with | .bl true => .ok .fz (.bl true) | .bl false => y | _ => .stuck
def notR (x : Res) : Res := x.thn fun _ d => match d with | .bl b => .ok .fz (.bl (!b)) | _ => .stuck
theorem pt_notv (ha : PTv C X a ga) : PTv C X (.UnaryOp .Not a pos) (fun ρ => notR (ga ρ)) := by
  refine PT.imp (pt_not ha) fun σ H Q q => ?_
  obtain ⟨ρ, F, R, w⟩ := q
  try dsimp only at w
  refine ⟨ρ, F, R, ?_⟩
  cases er : ga ρ with
  | stuck => rw [er] at w; exact w
  | exc c => rw [er] at w; exact w
  | ok m d =>
    rw [er] at w
    cases d with
    | bl b => exact w
    | _ => exact w
theorem pw_onev {op : BoolOp} (h : PTv C X a ga) : PWv C X (.BoolOp op [a] pos) ga := by
  cases op with
  | And => exact pw_and1 h
  | Or => exact pw_or1 h
theorem tT_and {σ : L2.St} {H : Hp} {Q : Bool → Hp → Prop} (q : tT C (fun ρ => andR (ga ρ) (gb ρ)) σ H Q) : tAnd (tT C ga) (tT C gb) σ H Q := by
  obtain ⟨ρ, F, R, w⟩ := q
  try dsimp only at w
  refine ⟨ρ, F, R, ?_⟩
  cases er : ga ρ with
  | stuck => rw [er] at w; exact w
  | exc c => rw [er] at w; exact w
  | ok m d =>
    rw [er] at w
    cases d with
    | bl b =>
      intro F' H' st
      cases b with
      | true =>
        rw [if_pos rfl]
        exact ⟨ρ, F', R.step st, WantB.step st w⟩
      | false =>
        rw [if_neg Bool.false_ne_true]
        exact w F' H' st
    | _ => exact w
theorem tT_or {σ : L2.St} {H : Hp} {Q : Bool → Hp → Prop} (q : tT C (fun ρ => orR (ga ρ) (gb ρ)) σ H Q) : tOr (tT C ga) (tT C gb) σ H Q := by
  obtain ⟨ρ, F, R, w⟩ := q
  try dsimp only at w
  refine ⟨ρ, F, R, ?_⟩
  cases er : ga ρ with
  | stuck => rw [er] at w; exact w
  | exc c => rw [er] at w; exact w
  | ok m d =>
    rw [er] at w
    cases d with
    | bl b =>
      intro F' H' st
      cases b with
      | true =>
        rw [if_pos rfl]
        exact w F' H' st
      | false =>
        rw [if_neg Bool.false_ne_true]
        exact ⟨ρ, F', R.step st, WantB.step st w⟩
    | _ => exact w
theorem pw_andv {rest : List Expr} (ha : PTv C X a ga) (hb : PWv C X (.BoolOp .And (b :: rest) pos) gb) : PWv C X (.BoolOp .And (a :: b :: rest) pos) (fun ρ => andR (ga ρ) (gb ρ)) := PW.imp (pw_and ha hb) fun _ _ _ q => tT_and q
theorem pw_orv {rest : List Expr} (ha : PTv C X a ga) (hb : PWv C X (.BoolOp .Or (b :: rest) pos) gb) : PWv C X (.BoolOp .Or (a :: b :: rest) pos) (fun ρ => orR (ga ρ) (gb ρ)) := PW.imp (pw_or ha hb) fun _ _ _ q => tT_or q
theorem pt_w (h : PWv C X e g) : PTv C X e g := PW.pt h
/-! .. as values -/
theorem pv_onev {op} (h : PV C X a ga) : PV C X (.BoolOp op [a] pos) ga := pe_one h
theorem pv_andv {rest : List Expr} (ha : PV C X a ga) (hb : PV C X (.BoolOp .And (b :: rest) pos) gb) : PV C X (.BoolOp .And (a :: b :: rest) pos) (fun ρ => andR (ga ρ) (gb ρ)) := by
  refine PE.imp (pe_and ha hb) fun σ H Q q => ?_
  unfold tAndV
  rw [tG_eq] at q ⊢
  obtain ⟨ρ, F, R, w⟩ := q
  try dsimp only at w
  refine ⟨ρ, F, R, ?_⟩
  cases er : ga ρ with
  | stuck => rw [er] at w; exact w
  | exc c => rw [er] at w; exact w
  | ok m d =>
    rw [er] at w
    cases d with
    | bl k =>
      intro v F' H' st rp _
      cases rp.bl
      refine ⟨k, rfl, ?_⟩
      cases k with
      | true =>
        rw [if_pos rfl, tG_eq]
        exact ⟨ρ, F', R.step st, Want.step st w⟩
      | false =>
        rw [if_neg Bool.false_ne_true]
        exact w (.bl false) F' H' st (rp_bl _) (by intro z; cases z)
    | _ => exact w.elim
theorem pv_orv {rest : List Expr} (ha : PV C X a ga) (hb : PV C X (.BoolOp .Or (b :: rest) pos) gb) : PV C X (.BoolOp .Or (a :: b :: rest) pos) (fun ρ => orR (ga ρ) (gb ρ)) := by
  refine PE.imp (pe_or ha hb) fun σ H Q q => ?_
  unfold tOrV
  rw [tG_eq] at q ⊢
  obtain ⟨ρ, F, R, w⟩ := q
  try dsimp only at w
  refine ⟨ρ, F, R, ?_⟩
  cases er : ga ρ with
  | stuck => rw [er] at w; exact w
  | exc c => rw [er] at w; exact w
  | ok m d =>
    rw [er] at w
    cases d with
    | bl k =>
      intro v F' H' st rp _
      cases rp.bl
      refine ⟨k, rfl, ?_⟩
      cases k with
      | true =>
        rw [if_pos rfl]
        exact w (.bl true) F' H' st (rp_bl _) (by intro z; cases z)
      | false =>
        rw [if_neg Bool.false_ne_true, tG_eq]
        exact ⟨ρ, F', R.step st, Want.step st w⟩
    | _ => exact w.elim
theorem pv_notv (ha : PV C X a ga) : PV C X (.UnaryOp .Not a pos) (fun ρ => notR (ga ρ)) := by
  refine PE.imp (pe_not ha) fun σ H Q q => ?_
  unfold tNotV
  rw [tG_eq] at q ⊢
  obtain ⟨ρ, F, R, w⟩ := q
  try dsimp only at w
  refine ⟨ρ, F, R, ?_⟩
  cases er : ga ρ with
  | stuck => rw [er] at w; exact w
  | exc c => rw [er] at w; exact w
  | ok m d =>
    rw [er] at w
    cases d with
    | bl k =>
      intro v F' H' st rp _
      cases rp.bl
      exact ⟨k, rfl, w _ F' H' st (rp_bl _) (by intro z; cases z)⟩
    | _ => exact w.elim
/-- one operand -/
def negR (x : Res) : Res := x.thn fun _ d => match d with | .int i => .ok .fz (.int (-i)) | _ => .stuck
theorem pv_neg (ha : PV C X a ga) : PV C X (.UnaryOp .USub a pos) (fun ρ => negR (ga ρ)) := by
  refine PE.imp (pe_un un_neg ha) fun σ H Q q => ?_
  unfold tUn
  rw [tG_eq] at q ⊢
  obtain ⟨ρ, F, R, w⟩ := q
  try dsimp only at w
  refine ⟨ρ, F, R, ?_⟩
  cases er : ga ρ with
  | stuck => rw [er] at w; exact w
  | exc c => rw [er] at w; exact w
  | ok m d =>
    rw [er] at w
    cases d with
    | int i =>
      intro v F' H' st rp _
      cases rp.int
      exact ⟨i, rfl, w _ F' H' st (rp_int _) (by intro z; cases z)⟩
    | _ => exact w.elim

/-! ### subscripts -/
def ixD : Md → D → Md → D → Option (Md × D) := fun _ x _ y => match x, y with
  | .lst ds, .int i => (atI ds i).map fun d => (.fz, d)
  | .tup ds, .int i => (atI ds i).map fun d => (.fz, d)
  | .str z, .int i => (atI z.cps.toList i).map fun c => (.fz, .str ⟨#[c]⟩)
  | _, _ => none
theorem RepL.atI {K : PySem.W.Frag} {F : Hp} {ds : List D} {xs : List V} {i : Int} {d : D} (h : RepL K F ds xs) (e : atI ds i = some d) : ∃ x, L2.atI xs i = some x ∧ RepV K F d x := by
  unfold L2.atI at *
  rw [h.length]
  cases q : ixN ds.length i with
  | none => rw [q] at e; cases e
  | some j => rw [q] at e; exact h.get' e
theorem pv_ix (ha : PV C X a ga) (hb : PV C X b gb) (hs : PlainIx b := by intro _ _; rfl) : PV C X (.Subscript a b pos) (fun ρ => op2 ixD (ga ρ) (gb ρ)) := by
  refine PE.imp (pe_ix ix_seq ha hb hs) fun σ H Q q => tG_op2 (fun F H m x n y v u k d Q s rx ry e w => ?_) q
  unfold ixD at e
  split at e
  · rename_i ds i
    cases ry.int
    obtain ⟨p, xs, rfl, hq, r⟩ := rx.seqL s
    cases ei : atI ds i with
    | none => rw [ei] at e; cases e
    | some d' =>
      rw [ei] at e; cases e
      obtain ⟨x', ex, rx'⟩ := r.atI ei
      exact .inl ⟨p, xs, i, x', rfl, rfl, hq, ex, w x' F H (.refl s) rx' (by intro z; cases z)⟩
  · rename_i ds i
    cases ry.int
    obtain ⟨p, xs, rfl, hq, r⟩ := rx.seqT s
    cases ei : atI ds i with
    | none => rw [ei] at e; cases e
    | some d' =>
      rw [ei] at e; cases e
      obtain ⟨x', ex, rx'⟩ := r.atI ei
      exact .inr (.inl ⟨p, xs, i, x', rfl, rfl, hq, ex, w x' F H (.refl s) rx' (by intro z; cases z)⟩)
  · rename_i z i
    cases ry.int
    obtain ⟨rfl, hl, hk⟩ := rx.str
    cases ei : atI z.cps.toList i with
    | none => rw [ei] at e; cases e
    | some c =>
      rw [ei] at e; cases e
      refine .inr (.inr ⟨z, i, c, rfl, rfl, hl, ei, w _ F H (.refl s) (rp_str ⟨?_, ?_⟩) (by intro z; cases z)⟩)
      · show 1 ≤ sizeLine; decide
      · obtain ⟨j, _, hj, _⟩ := atI_get ei
        unfold PyData.strOk at hk ⊢
        rw [Array.all_eq_true_iff_forall_mem] at hk
        have hc := hk c (by rw [← Array.mem_toList_iff]; exact List.mem_of_getElem? hj)
        simpa using hc
  · cases e
/-! ### slices of texts -/
def POv (C : Cw) (X : Cx) : Option Expr → Option (Rho → Res) → Prop
  | none, none => True
  | some e, some g => PV C X e g
  | _, _ => False
/-! ### a text times a number -/
end
end D3

namespace D3
open PySem PySem.Spec PyProof.Rows L2

/-! ### argument lists -/
inductive ResL where
  | ok (xs : List (Md × D)) | exc (c : Str) | stuck
def RpL (K : PySem.W.Frag) (F H : Hp) : List (Md × D) → List V → Prop
  | [], vs => vs = []
  | (m, d) :: r, vs => ∃ v us, vs = v :: us ∧ Rp K F H m d v ∧ RpL K F H r us
theorem RpL.step {K : PySem.W.Frag} {F H F' H' : Hp} (st : Step F H F' H') : ∀ {xs : List (Md × D)} {vs : List V}, RpL K F H xs vs → RpL K F' H' xs vs
  | [], _, h => h
  | (m, d) :: r, _, h => by obtain ⟨v, us, e, r1, r2⟩ := h; exact ⟨v, us, e, r1.step st, RpL.step st r2⟩
def ResL.thn (r : ResL) (k : List (Md × D) → Res) : Res := match r with
  | .ok xs => k xs
  | .exc c => .exc c
  | .stuck => .stuck
@[simp] theorem ResL.thn_ok (xs : List (Md × D)) (k : List (Md × D) → Res) : (ResL.ok xs).thn k = k xs := rfl
@[simp] theorem ResL.thn_exc (c : Str) (k : List (Md × D) → Res) : (ResL.exc c).thn k = .exc c := rfl
@[simp] theorem ResL.thn_stuck (k : List (Md × D) → Res) : ResL.stuck.thn k = .stuck := rfl
def WantL (C : Cw) (F H : Hp) (σ : L2.St) (r : ResL) (Q : List V → Hp → Prop) : Prop := match r with
  | .ok xs => ∀ vs F' H', Step F H F' H' → RpL C.K F' H' xs vs → Q vs H'
  | .exc c => ∀ F' H', Step F H F' H' → C.EE c σ H'
  | .stuck => False
theorem WantL.step {C : Cw} {F H F1 H1 : Hp} {σ : L2.St} {r : ResL} {Q : List V → Hp → Prop} (st : Step F H F1 H1) (h : WantL C F H σ r Q) : WantL C F1 H1 σ r Q := by
  cases r with
  | ok m => exact fun v F' H' s2 rp => h v F' H' (st.trans s2) rp
  | exc c => exact fun F' H' s2 => h F' H' (st.trans s2)
  | stuck => exact h
def tAv (C : Cw) (g : Rho → ResL) : TA := fun σ H Q => ∃ ρ F, RelSt C.K C.F0 C.H0 F H σ ρ ∧ WantL C F H σ (g ρ) Q
def PAv (C : Cw) (X : Cx) (es : List Expr) (g : Rho → ResL) : Prop := PA X es (tAv (C.at X) g)
theorem PA.imp {X : Cx} {e : List Expr} {t t' : TA} (h : PA X e t) (i : ∀ σ H Q, t' σ H Q → t σ H Q) : PA X e t' := fun p pins s σ H Q I q => h p pins s σ H Q I (i σ H Q q)
def consL (x : Res) (y : ResL) : ResL := match x with
  | .ok m d => (match y with | .ok r => .ok ((m, d) :: r) | .exc c => .exc c | .stuck => .stuck)
  | .exc c => .exc c
  | .stuck => .stuck
@[simp] theorem consL_ok (m : Md) (d : D) (r : List (Md × D)) : consL (.ok m d) (.ok r) = .ok ((m, d) :: r) := rfl
section
variable {C : Cw} {X : Cx} {a b c e : Expr} {es : List Expr} {ga gb gc g : Rho → Res} {gs : Rho → ResL} {pos p : Pos} {x : Str}
theorem pav_nil : PAv C X [] (fun _ => .ok []) := PA.imp pa_nil fun σ H Q q => by
  obtain ⟨ρ, F, R, w⟩ := q
  exact w [] F H (.refl R.sub) rfl
theorem pav_cons (ha : PV C X e g) (hr : PAv C X es gs) (hs : starEach (e :: es) X.env = (false, eval e X.env) :: starEach es X.env := by rfl) : PAv C X (e :: es) (fun ρ => consL (g ρ) (gs ρ)) := by
  refine PA.imp (pa_cons ha hr hs) fun σ H Q q => ?_
  unfold tCons
  obtain ⟨ρ, F, R, w⟩ := q
  dsimp only at w
  rw [tG_eq]
  refine ⟨ρ, F, R, ?_⟩
  cases er : g ρ with
  | stuck => rw [er] at w; exact w
  | exc c => rw [er] at w; exact w
  | ok m d =>
    rw [er] at w
    intro v F1 H1 s1 r1 _
    refine ⟨ρ, F1, R.step s1, ?_⟩
    have w1 := WantL.step s1 w
    cases es' : gs ρ with
    | stuck => rw [es'] at w1; exact w1
    | exc c => rw [es'] at w1; exact w1
    | ok r =>
      rw [es'] at w1
      intro vs F2 H2 s2 r2
      exact w1 (v :: vs) F2 H2 s2 ⟨v, vs, rfl, r1.step s2, r2⟩
/-! ### displays -/
/-- all frozen: the data alone -/
def allFz : List (Md × D) → Option (List D)
  | [] => some []
  | (.fz, d) :: r => (allFz r).map (d :: ·)
  | _ :: _ => none
theorem RpL.fz {K : PySem.W.Frag} {F H : Hp} : ∀ {xs : List (Md × D)} {vs : List V} {ds : List D}, RpL K F H xs vs → allFz xs = some ds → RepL K F ds vs
  | [], _, _, h, e => by cases e; rw [show _ = [] from h]; exact RepL.nil
  | (.fz, d) :: r, _, _, h, e => by
    obtain ⟨v, us, rfl, r1, r2⟩ := h
    unfold allFz at e
    cases q : allFz r with
    | none => rw [q] at e; cases e
    | some ds' => rw [q] at e; cases e; exact RepL.cons r1 (RpL.fz r2 q)
  | (.fr, d) :: r, _, _, h, e => by cases e
  | (.bo, d) :: r, _, _, h, e => by cases e
def tupR (r : ResL) : Res := r.thn fun xs => match allFz xs with | some ds => if ds.length ≤ sizeLine then .ok .fz (.tup ds) else .stuck | none => .stuck
def lstR (r : ResL) : Res := r.thn fun xs => match allFz xs with | some ds => if ds.length ≤ sizeLine then .ok .fr (.lst ds) else .stuck | none => .stuck
theorem RepV.tup_of {K : PySem.W.Frag} {F : Hp} {p : Addr} {ds : List D} {xs : List V} (hp : F p = none) (r : RepL K F ds xs) : RepV K (upd F p (.tup xs)) (.tup ds) (.ref p) := by
  simp only [RepV]
  exact ⟨p, xs, rfl, SqT.of upd_same, r.mono (fun b u q => by rw [upd_ne (ne_of_none q hp)]; exact q) _ _⟩
theorem pv_tup {x1} (h : PAv C X es gs) : PV C X (.Tuple es x1 pos) (fun ρ => tupR (gs ρ)) := by
  refine PE.imp (pe_tup h) fun σ H Q q => ?_
  unfold tTup
  rw [tG_eq] at q
  obtain ⟨ρ, F, R, w⟩ := q
  refine ⟨ρ, F, R, ?_⟩
  cases er : gs ρ with
  | stuck => rw [er] at w; exact w
  | exc c => rw [er] at w; exact w
  | ok xs =>
    rw [er] at w
    intro vs F1 H1 s1 r1
    have w1 : Want (C.at X) F1 H1 σ (match allFz xs with | some ds => if ds.length ≤ sizeLine then .ok .fz (.tup ds) else .stuck | none => .stuck) Q := Want.step s1 w
    cases ef : allFz xs with
    | none => rw [ef] at w1; exact w1.elim
    | some ds =>
      rw [ef] at w1
      dsimp only at w1
      split at w1
      · rename_i hl
        have r2 := r1.fz ef
        refine ⟨by rw [r2.length]; exact hl, fun p hp => ?_⟩
        exact w1 (.ref p) _ _ (Step.laid (.tup vs) s1.sub hp) (RepV.tup_of (s1.sub.free hp) r2) (by intro z; cases z)
      · exact w1.elim
theorem pv_lst (h : PAv C X es gs) : PV C X (.List es pos) (fun ρ => lstR (gs ρ)) := by
  refine PE.imp (pe_lst h) fun σ H Q q => ?_
  unfold tLst
  rw [tG_eq] at q
  obtain ⟨ρ, F, R, w⟩ := q
  refine ⟨ρ, F, R, ?_⟩
  cases er : gs ρ with
  | stuck => rw [er] at w; exact w
  | exc c => rw [er] at w; exact w
  | ok xs =>
    rw [er] at w
    intro vs F1 H1 s1 r1
    have w1 : Want (C.at X) F1 H1 σ (match allFz xs with | some ds => if ds.length ≤ sizeLine then .ok .fr (.lst ds) else .stuck | none => .stuck) Q := Want.step s1 w
    cases ef : allFz xs with
    | none => rw [ef] at w1; exact w1.elim
    | some ds =>
      rw [ef] at w1
      dsimp only at w1
      split at w1
      · rename_i hl
        have r2 := r1.fz ef
        refine ⟨by rw [r2.length]; exact hl, fun p hp => ?_⟩
        refine w1 (.ref p) F1 _ (Step.fresh (.lst vs) s1.sub hp) ⟨p, rfl, s1.sub.free hp, vs, upd_same, r2⟩ fun _ a ea => by cases ea; exact hp
      · exact w1.elim
/-! ### calls of what Python has -/
def CallD (X : Cx) (f : Value) (φ : List (Md × D) → Option (Md × D)) : Prop :=
  ∃ r : List V → Hp → VK → Prop, CallR X f r ∧ ∀ F H xs vs k d Q, Same F H → RpL X.K F H xs vs → φ xs = some (k, d) →
    (∀ v' F' H', Step F H F' H' → Rp X.K F' H' k d v' → (k = .fr → ∀ a, v' = .ref a → H a = none) → Q v' H') → r vs H Q
def callR (φ : List (Md × D) → Option (Md × D)) (r : ResL) : Res := r.thn fun xs => Res.of (φ xs)
theorem tG_call {φ : List (Md × D) → Option (Md × D)} {r : List V → Hp → VK → Prop} (h : ∀ F H xs vs k d Q, Same F H → RpL C.K F H xs vs → φ xs = some (k, d) →
    (∀ v' F' H', Step F H F' H' → Rp C.K F' H' k d v' → (k = .fr → ∀ a, v' = .ref a → H a = none) → Q v' H') → r vs H Q) {σ : L2.St} {H : Hp} {Q : VK}
    (q : tG C (fun ρ => callR φ (gs ρ)) σ H Q) : tCB r (tAv C gs) σ H Q := by
  unfold tCB
  rw [tG_eq] at q
  obtain ⟨ρ, F, R, w⟩ := q
  refine ⟨ρ, F, R, ?_⟩
  cases er : gs ρ with
  | stuck => rw [er] at w; exact w
  | exc c => rw [er] at w; exact w
  | ok xs =>
    rw [er] at w
    intro vs F1 H1 s1 r1
    have w1 : Want C F1 H1 σ (Res.of (φ xs)) Q := Want.step s1 w
    cases ef : φ xs with
    | none => rw [ef] at w1; exact w1.elim
    | some kd => obtain ⟨k, d⟩ := kd; rw [ef] at w1; exact h F1 H1 xs vs k d Q s1.sub r1 ef w1
theorem pv_callB {id : String} {φ} (o : CallD X (.builtin id) φ) (hg : Gl X x) (hm : X.mg x = none) (hv : bootBuiltins x = some (.builtin id)) (ha : PAv C X (e :: es) gs) (hn : x ≠ "__name__" := by decide) (hdb : (x == ("__debug__" : Str)) = false := by decide)
    (he : starEach (e :: es) X.env = (false, eval e X.env) :: starEach es X.env := by rfl) (hpl : (backTo pos (starEach es X.env)).any (·.1) = false := by rfl) : PV C X (.Call (.Name x p) (e :: es) [] pos) (fun ρ => callR φ (gs ρ)) := by
  obtain ⟨r, h1, h2⟩ := o
  exact PE.imp (pe_callB h1 hg hm hv ha hn hdb he hpl) fun σ H Q q => tG_call h2 q
def CallD.or' (φ ψ : List (Md × D) → Option (Md × D)) : List (Md × D) → Option (Md × D) := fun xs => (φ xs).orElse fun _ => ψ xs
theorem CallD.or {f : Value} {φ ψ} (h : CallD X f φ) (h' : CallD X f ψ) : CallD X f (CallD.or' φ ψ) := by
  obtain ⟨r, h1, h2⟩ := h
  obtain ⟨r', h1', h2'⟩ := h'
  refine ⟨_, CallR.or h1 h1', fun F H xs vs k d Q s rx e w => ?_⟩
  unfold CallD.or' at e
  cases e1 : φ xs with
  | none => rw [e1] at e; exact .inr (h2' F H xs vs k d Q s rx e w)
  | some p => rw [e1] at e; cases e; exact .inl (h2 F H xs vs k d Q s rx e1 w)
/-! len -/
def lenD : List (Md × D) → Option (Md × D)
  | [(_, .str z)] => some (.fz, .int z.length)
  | [(_, .lst ds)] => some (.fz, .int ds.length)
  | [(_, .tup ds)] => some (.fz, .int ds.length)
  | _ => none
theorem RpL.one {K : PySem.W.Frag} {F H : Hp} {m : Md} {d : D} {vs : List V} (h : RpL K F H [(m, d)] vs) : ∃ v, vs = [v] ∧ Rp K F H m d v := by
  obtain ⟨v, us, rfl, r, e⟩ := h
  exact ⟨v, by rw [show us = [] from e], r⟩
theorem RpL.two {K : PySem.W.Frag} {F H : Hp} {m n : Md} {d e : D} {vs : List V} (h : RpL K F H [(m, d), (n, e)] vs) : ∃ v u, vs = [v, u] ∧ Rp K F H m d v ∧ Rp K F H n e u := by
  obtain ⟨v, us, rfl, r, v', us', rfl, r', e⟩ := h
  exact ⟨v, v', by rw [show us' = [] from e], r, r'⟩
theorem calld_len : CallD X (.builtin "len") lenD := by
  refine ⟨_, call_len, fun F H xs vs k d Q s rx e w => ?_⟩
  unfold lenD at e
  split at e
  · rename_i m z
    cases e
    obtain ⟨v, rfl, r⟩ := rx.one
    obtain ⟨rfl, hz, _⟩ := r.str
    exact ⟨_, z.length, rfl, ⟨hz, rfl⟩, w _ F H (.refl s) (rp_int _) (by intro z; cases z)⟩
  · rename_i m ds
    cases e
    obtain ⟨v, rfl, r⟩ := rx.one
    obtain ⟨a, xs, rfl, q, rl⟩ := r.seqL s
    exact ⟨_, xs.length, rfl, .inl ⟨xs, q, rfl⟩, by rw [rl.length]; exact w _ F H (.refl s) (rp_int _) (by intro z; cases z)⟩
  · rename_i m ds
    cases e
    obtain ⟨v, rfl, r⟩ := rx.one
    obtain ⟨a, xs, rfl, q, rl⟩ := r.seqT s
    exact ⟨_, xs.length, rfl, .inr ⟨xs, q, rfl⟩, by rw [rl.length]; exact w _ F H (.refl s) (rp_int _) (by intro z; cases z)⟩
  · cases e
/-! isinstance by a type of Python's own -/
def tyN : D → Option String
  | .non => some "NoneType" | .bl _ => some "bool" | .int _ => some "int" | .str _ => some "str" | .tup _ => some "tuple" | .lst _ => some "list" | .dct _ => some "dict" | _ => none
def isTy (t c : String) : Option Bool := if ["int", "bool", "str", "list", "tuple", "dict"].contains c = true then some (t == c || (t == "bool" && c == "int")) else none
def isiD : List (Md × D) → Option (Md × D)
  | [(_, d), (_, .ty c)] => match tyN d with | some t => (isTy t c).map fun b => (.fz, .bl b) | none => none
  | _ => none
theorem kit_of {K : PySem.W.Frag} {d : D} {t c : String} {b : Bool} (ht : tyN d = some t) (e : isTy t c = some b) : PySem.W.kitOne K (.type t) (.type c) = some b := by
  unfold isTy at e
  split at e
  · rename_i hc
    simp only [List.contains_cons, List.contains_nil, Bool.or_false, Bool.or_eq_true, beq_iff_eq] at hc
    cases e
    have ht' : t = "NoneType" ∨ t = "bool" ∨ t = "int" ∨ t = "str" ∨ t = "tuple" ∨ t = "list" ∨ t = "dict" := by
      cases d <;> cases ht <;> simp
    rcases hc with rfl | rfl | rfl | rfl | rfl | rfl <;> rcases ht' with rfl | rfl | rfl | rfl | rfl | rfl | rfl <;> rfl
  · cases e
theorem calld_isi : CallD X (.builtin "isinstance") isiD := by
  refine ⟨fun vs H Q => ∃ (F : Hp) (m : Md) (d : D) (v : V) (t c : String) (b : Bool), Same F H ∧ Rp X.K F H m d v ∧ vs = [v, .ty c] ∧ tyN d = some t ∧ isTy t c = some b ∧ Q (.bl b) H, ?_, ?_⟩
  · intro pins s σ H xs us Q I r h
    obtain ⟨F, m, d, v, t, c, b, sF, rp, rfl, ht, hb, q⟩ := h
    obtain ⟨u, u', rfl, ru, ru'⟩ := vals2 r
    cases (show u' = Value.type c from ru')
    have e := kit_of (K := X.K) ht hb
    have fin : ∀ tk, EP X pins σ Q (.bool b) { s with toks := tk } := fun tk => ⟨.bl b, H, I.tok _, rfl, q⟩
    cases d with
    | non => cases rp.non; cases ht; cases (show u = Value.none from ru); exact PySem.W.kia_one PySem.W.kitx_none I.kIn True.intro e (fun z => nomatch z) fin
    | bl y => cases rp.bl; cases ht; cases (show u = Value.bool y from ru); exact PySem.W.kia_one PySem.W.kitx_bool I.kIn True.intro e (fun z => nomatch z) fin
    | int i => cases rp.int; cases ht; obtain ⟨t, q⟩ := (show ∃ t, u = Value.int i t from ru); cases q; exact PySem.W.kia_one PySem.W.kitx_int I.kIn True.intro e (fun z => nomatch z) fin
    | str y => obtain ⟨rfl, _⟩ := rp.str; cases ht; obtain ⟨t, q⟩ := (show ∃ t, u = Value.str y t from ru); cases q; exact PySem.W.kia_one PySem.W.kitx_str I.kIn True.intro e (fun z => nomatch z) fin
    | tup ds =>
      obtain ⟨a, xs, rfl, hq, _⟩ := rp.seqT sF
      cases ht
      cases (show u = Value.ref a from ru)
      obtain ⟨its, _, ⟨o, h1, h2, _⟩, _⟩ := I.tuple hq
      exact PySem.W.kia_one PySem.W.kitx_tuple I.kIn ⟨o, h1, h2⟩ e (fun z => nomatch z) fin
    | lst ds =>
      obtain ⟨a, xs, rfl, hq, _⟩ := rp.seqL sF
      cases ht
      cases (show u = Value.ref a from ru)
      obtain ⟨its, _, ⟨o, n, h1, h2, _⟩, _⟩ := I.list hq
      exact PySem.W.kia_one PySem.W.kitx_list I.kIn ⟨o, h1, h2⟩ e (fun z => nomatch z) fin
    | dct ds =>
      obtain ⟨a, xs, rfl, hq, _⟩ := rp.dict sF
      cases ht
      cases (show u = Value.ref a from ru)
      obtain ⟨_, _, vs, _, p⟩ := (show ObjOk X.prog X.w H s.heap a (.dK xs) from I.hok a _ hq)
      obtain ⟨o, es, ep, h1, h2, _⟩ := p
      exact PySem.W.kia_one PySem.W.kitx_dict I.kIn ⟨o, h1, h2.1⟩ e (fun z => nomatch z) fin
    | _ => cases ht
  · intro F H xs vs k d Q s rx e w
    unfold isiD at e
    split at e
    · rename_i m d' n c
      obtain ⟨v, u, rfl, r1, r2⟩ := rx.two
      cases r2.ty
      cases et : tyN d' with
      | none => rw [et] at e; cases e
      | some t =>
        rw [et] at e
        dsimp only at e
        cases eb : isTy t c with
        | none => rw [eb] at e; cases e
        | some b => rw [eb] at e; cases e; exact ⟨F, m, d', v, t, c, b, s, r1, rfl, et, eb, w _ F H (.refl s) (rp_bl _) (by intro z; cases z)⟩
    · cases e
/-- the name of a type of Python's own, as a value -/
theorem pv_ty {T : String} (hg : Gl X x) (hm : X.mg x = none) (hv : bootBuiltins x = some (.type T)) (hn : x ≠ "__name__" := by decide) (hd : (x == ("__debug__" : Str)) = false := by decide) : PV C X (.Name x pos) (fun _ => .ok .fz (.ty T)) :=
  pv_con _ (pe_bltn (v := .ty T) hg hm hv rfl hn hd) fun _ _ => rp_ty T
/-- a module's value: a text, a number -/
theorem pv_globS {y : Str} {t : Tok} (hg : Gl X x) (hm : X.mg x = some (.str y t)) (h : (decide (y.length ≤ sizeLine) && PyData.strOk y) = true := by decide +kernel) (hd : (x == ("__debug__" : Str)) = false := by decide) : PV C X (.Name x pos) (fun _ => .ok .fz (.str y)) :=
  pv_con _ (pe_glob (v := .str y) hg hm ⟨t, rfl⟩ hd) fun _ _ => rp_str (by rw [Bool.and_eq_true, decide_eq_true_eq] at h; exact h)
theorem pv_globI {y : Int} {t : Tok} (hg : Gl X x) (hm : X.mg x = some (.int y t)) (hd : (x == ("__debug__" : Str)) = false := by decide) : PV C X (.Name x pos) (fun _ => .ok .fz (.int y)) :=
  pv_con _ (pe_glob (v := .int y) hg hm ⟨t, rfl⟩ hd) fun _ _ => rp_int _
/-! all, any over a list of bools -/
end
end D3

namespace D3
open PySem PySem.Spec PyProof.Rows L2

inductive SRes where
  | nx (ρ : Rho) | rt (m : Md) (d : D) | bk (ρ : Rho) | ct (ρ : Rho) | exc (c : Str) (ρ : Rho) | stuck
def WantS (C : Cw) (Fa : Hp) (r : SRes) (E : Ends) : Prop := match r with
  | .nx ρ => ∀ σ F H, Same Fa F → RelSt C.K C.F0 C.H0 F H σ ρ → E.nx σ H
  | .bk ρ => ∀ σ F H, Same Fa F → RelSt C.K C.F0 C.H0 F H σ ρ → E.bk σ H
  | .ct ρ => ∀ σ F H, Same Fa F → RelSt C.K C.F0 C.H0 F H σ ρ → E.ct σ H
  | .exc c ρ => ∀ σ F H, Same Fa F → RelSt C.K C.F0 C.H0 F H σ ρ → C.EE c σ H
  | .rt m d => ∀ v F H, Step C.F0 C.H0 F H → Rp C.K F H m d v → (m = .fr → ∀ a, v = .ref a → C.H0 a = none) → E.rt v H
  | .stuck => False
theorem WantS.mono {C : Cw} {F F1 : Hp} {r : SRes} {E : Ends} (s : Same F F1) (w : WantS C F r E) : WantS C F1 r E := by
  cases r with
  | nx ρ => exact fun σ F' H' z R => w σ F' H' (s.trans z) R
  | bk ρ => exact fun σ F' H' z R => w σ F' H' (s.trans z) R
  | ct ρ => exact fun σ F' H' z R => w σ F' H' (s.trans z) R
  | exc c ρ => exact fun σ F' H' z R => w σ F' H' (s.trans z) R
  | rt m d => exact w
  | stuck => exact w
def tH (C : Cw) (g : Rho → SRes) : TS := fun E σ H => ∃ ρ F, RelSt C.K C.F0 C.H0 F H σ ρ ∧ WantS C F (g ρ) E
def PSv (C : Cw) (X : Cx) (st : Stmt) (g : Rho → SRes) : Prop := PS X st (tH (C.at X) g)
def PBv (C : Cw) (X : Cx) (st : List Stmt) (g : Rho → SRes) : Prop := PSs X st (tH (C.at X) g)
theorem PS.imp {X : Cx} {e : Stmt} {t t' : TS} (h : PS X e t) (i : ∀ E σ H, t' E σ H → t E σ H) : PS X e t' := fun pins s σ H E I q => h pins s σ H E I (i E σ H q)
theorem PSs.imp {X : Cx} {e : List Stmt} {t t' : TS} (h : PSs X e t) (i : ∀ E σ H, t' E σ H → t E σ H) : PSs X e t' := fun pins s σ H E I q => h pins s σ H E I (i E σ H q)
def SRes.thn (r : SRes) (k : Rho → SRes) : SRes := match r with
  | .nx ρ => k ρ
  | r => r
@[simp] theorem SRes.thn_nx (ρ : Rho) (k : Rho → SRes) : (SRes.nx ρ).thn k = k ρ := rfl
@[simp] theorem SRes.thn_rt (m : Md) (d : D) (k : Rho → SRes) : (SRes.rt m d).thn k = .rt m d := rfl
@[simp] theorem SRes.thn_bk (ρ : Rho) (k : Rho → SRes) : (SRes.bk ρ).thn k = .bk ρ := rfl
@[simp] theorem SRes.thn_ct (ρ : Rho) (k : Rho → SRes) : (SRes.ct ρ).thn k = .ct ρ := rfl
@[simp] theorem SRes.thn_exc (c : Str) (ρ : Rho) (k : Rho → SRes) : (SRes.exc c ρ).thn k = .exc c ρ := rfl
@[simp] theorem SRes.thn_stuck (k : Rho → SRes) : SRes.stuck.thn k = .stuck := rfl
section
variable {C : Cw} {X : Cx} {a b c e : Expr} {es : List Expr} {ga gb gc g : Rho → Res} {gs : Rho → ResL} {pos p : Pos} {x : Str} {st : Stmt} {sts : List Stmt} {h1 h2 : Rho → SRes}
/-! ### blocks -/
theorem pbv_nil : PBv C X [] (fun ρ => .nx ρ) := PSs.imp pss_nil fun E σ H q => by
  obtain ⟨ρ, F, R, w⟩ := q
  exact w σ F H (Same.refl _) R
theorem tH_seq {E : Ends} {σ : L2.St} {H : Hp} (q : tH C (fun ρ => (h1 ρ).thn h2) E σ H) : tSeq (tH C h1) (tH C h2) E σ H := by
  obtain ⟨ρ, F, R, w⟩ := q
  refine ⟨ρ, F, R, ?_⟩
  dsimp only at w
  cases er : h1 ρ with
  | nx ρ' =>
    rw [er] at w
    exact fun σ' F' H' z R' => ⟨ρ', F', R', WantS.mono z w⟩
  | rt m d => rw [er] at w; exact w
  | bk ρ' => rw [er] at w; exact w
  | ct ρ' => rw [er] at w; exact w
  | exc c ρ' => rw [er] at w; exact w
  | stuck => rw [er] at w; exact w
theorem pbv_cons (ha : PSv C X st h1) (hb : PBv C X sts h2) : PBv C X (st :: sts) (fun ρ => (h1 ρ).thn h2) := PSs.imp (pss_cons ha hb) fun E σ H q => tH_seq q
/-! ### plain statements -/
/-- by a value -/
def Res.thS (r : Res) (ρ : Rho) (k : Md → D → SRes) : SRes := match r with
  | .ok m d => k m d
  | .exc c => .exc c ρ
  | .stuck => .stuck
@[simp] theorem Res.thS_ok (m : Md) (d : D) (ρ : Rho) (k : Md → D → SRes) : (Res.ok m d).thS ρ k = k m d := rfl
@[simp] theorem Res.thS_exc (c : Str) (ρ : Rho) (k : Md → D → SRes) : (Res.exc c).thS ρ k = .exc c ρ := rfl
@[simp] theorem Res.thS_stuck (ρ : Rho) (k : Md → D → SRes) : Res.stuck.thS ρ k = .stuck := rfl
theorem tG_thS {F : Hp} {σ : L2.St} {H : Hp} {ρ : Rho} {k : Md → D → SRes} {E : Ends} {Q : VK} (R : RelSt C.K C.F0 C.H0 F H σ ρ) (w : WantS C F ((g ρ).thS ρ k) E)
    (h : ∀ m d v F' H', WantS C F' (k m d) E → Step F H F' H' → RelSt C.K C.F0 C.H0 F' H' σ ρ → Rp C.K F' H' m d v → (m = .fr → ∀ a, v = .ref a → H a = none) → Q v H') : tG C g σ H Q := by
  rw [tG_eq]
  refine ⟨ρ, F, R, ?_⟩
  cases er : g ρ with
  | stuck => rw [er] at w; exact w
  | exc c => rw [er] at w; exact fun F' H' s => w σ F' H' s.fsame (R.step s)
  | ok m d => rw [er] at w; exact fun v F' H' s rp fr => h m d v F' H' (WantS.mono s.fsame w) s (R.step s) rp fr
theorem psv_expr (he : PV C X e g) (hs : swapsWith e none pos.line X.env = pure false := by rfl) : PSv C X (.Expr e pos) (fun ρ => (g ρ).thS ρ fun _ _ => .nx ρ) := PS.imp (ps_expr he hs) fun E σ H q => by
  obtain ⟨ρ, F, R, w⟩ := q
  exact tG_thS R w fun m d v F' H' w' s R' rp fr => w' σ F' H' (Same.refl _) R'
def retR (r : Res) (ρ : Rho) : SRes := r.thS ρ fun m d => match m with | .bo => .stuck | m => .rt m d
theorem psv_ret (he : PV C X e g) : PSv C X (.Return (some e) pos) (fun ρ => retR (g ρ) ρ) := PS.imp (ps_ret he) fun E σ H q => by
  obtain ⟨ρ, F, R, w⟩ := q
  refine tG_thS R w fun m d v F' H' w' s R' rp fr => ?_
  cases m with
  | bo => exact (show False from w').elim
  | fz => exact w' v F' H' R'.st rp (by intro z; cases z)
  | fr => exact w' v F' H' R'.st rp fun _ a ea => R.st.same.free (fr rfl a ea)
/-- a name that owns its list is told on -/
def retS (ρ : Rho) (i : Nat) : SRes := match ρ[i]? with
  | some (some (false, d)) => .rt .fz d
  | some (some (true, d)) => .rt .fr d
  | _ => .stuck
theorem psv_retV (i : Nat) (h : PE X (.Name x p) (tVar i)) : PSv C X (.Return (some (.Name x p)) pos) (fun ρ => retS ρ i) := PS.imp (ps_ret h) fun E σ H q => by
  obtain ⟨ρ, F, R, w⟩ := q
  dsimp only at w
  unfold retS at w
  cases e : ρ[i]? with
  | none => rw [e] at w; exact w.elim
  | some o =>
    cases o with
    | none => rw [e] at w; exact w.elim
    | some q =>
      obtain ⟨m, d⟩ := q
      obtain ⟨v, e1, r, hh⟩ := R.slot i m d e
      rw [e] at w
      cases m with
      | false => exact ⟨v, e1, w v F H R.st r (by intro z; cases z)⟩
      | true => exact ⟨v, e1, w v F H R.st r fun _ => hh rfl⟩
def ifS (t : Res) (ρ : Rho) (x y : SRes) : SRes := t.thS ρ fun _ d => match d with | .bl true => x | .bl false => y | _ => .stuck
theorem psv_if {s1 s2 : List Stmt} (hc : PTv C X c gc) (ha : PBv C X s1 h1) (hb : PBv C X s2 h2) : PSv C X (.If c s1 s2 pos) (fun ρ => ifS (gc ρ) ρ (h1 ρ) (h2 ρ)) := by
  refine PS.imp (ps_if hc ha hb) fun E σ H q => ?_
  obtain ⟨ρ, F, R, w⟩ := q
  dsimp only at w
  refine ⟨ρ, F, R, ?_⟩
  cases er : gc ρ with
  | stuck => rw [er] at w; exact w
  | exc c => rw [er] at w; exact fun F' H' s => w σ F' H' s.fsame (R.step s)
  | ok m d =>
    rw [er] at w
    cases d with
    | bl k =>
      intro F' H' s
      cases k with
      | true => rw [if_pos rfl]; exact ⟨ρ, F', R.step s, WantS.mono s.fsame w⟩
      | false => rw [if_neg Bool.false_ne_true]; exact ⟨ρ, F', R.step s, WantS.mono s.fsame w⟩
    | _ => exact w.elim
/-! ### names given -/
def setS (ρ : Rho) (i : Nat) (r : Res) : SRes := r.thS ρ fun m d => match m with
  | .fz => .nx (ρ.set i (some (false, d)))
  | .fr => .nx (ρ.set i (some (true, d)))
  | .bo => .stuck
theorem RelSt.set {K : PySem.W.Frag} {F0 H0 F H F' H' : Hp} {σ : L2.St} {ρ : Rho} {i : Nat} {m : Bool} {d : D} {v : V} (R0 : RelSt K F0 H0 F H σ ρ) (s : Step F H F' H') (rp : Rp K F' H' (if m then .bo else .fz) d v)
    (fr : m = true → ∀ a, v = .ref a → H a = none) : RelSt K F0 H0 F' H' (σ.set i (some v)) (ρ.set i (some (m, d))) := by
  have R := R0.step s
  refine ⟨R.st, fun j m' d' e => ?_, fun j k d1 d2 a hjk e1 e2 q1 q2 => ?_, by rw [List.length_set, List.length_set]; exact R.len⟩
  · by_cases hj : j = i
    · subst hj
      rw [List.getElem?_set] at e
      by_cases hl : j < ρ.length
      · rw [if_pos rfl, if_pos hl] at e
        cases e
        refine ⟨v, by rw [List.getElem?_set, if_pos rfl, if_pos (by rw [R.len]; exact hl)], rp, fun z a ea => R0.st.same.free (fr z a ea)⟩
      · rw [if_pos rfl, if_neg hl] at e; cases e
    · rw [List.getElem?_set_ne (fun z => hj z.symm)] at e ⊢
      exact R.slot j m' d' e
  · have old : ∀ (l : Nat) (d : D) (b : Addr), l ≠ i → ρ[l]? = some (some (true, d)) → σ[l]? = some (some (.ref b)) → H b ≠ none := fun l d b hl e q => by
      obtain ⟨u, q', r, _⟩ := R0.slot l true d e
      rw [q] at q'; cases q'
      obtain ⟨b', eb, _, t⟩ := r
      cases eb
      exact t.there
    by_cases hj : j = i
    · subst hj
      rw [List.getElem?_set_ne hjk] at e2 q2
      rw [List.getElem?_set] at e1 q1
      by_cases hl : j < ρ.length
      · rw [if_pos rfl, if_pos hl] at e1
        rw [if_pos rfl, if_pos (by rw [R.len]; exact hl)] at q1
        cases e1; cases q1
        exact old k d2 a (fun z => hjk z.symm) e2 q2 (fr rfl a rfl)
      · rw [if_pos rfl, if_neg hl] at e1; cases e1
    · by_cases hk : k = i
      · subst hk
        rw [List.getElem?_set_ne (fun z => hjk z.symm)] at e1 q1
        rw [List.getElem?_set] at e2 q2
        by_cases hl : k < ρ.length
        · rw [if_pos rfl, if_pos hl] at e2
          rw [if_pos rfl, if_pos (by rw [R.len]; exact hl)] at q2
          cases e2; cases q2
          exact old j d1 a hjk e1 q1 (fr rfl a rfl)
        · rw [if_pos rfl, if_neg hl] at e2; cases e2
      · rw [List.getElem?_set_ne (fun z => hj z.symm)] at e1 q1
        rw [List.getElem?_set_ne (fun z => hk z.symm)] at e2 q2
        exact R.apart j k d1 d2 a hjk e1 e2 q1 q2
theorem set_tG {g : Rho → Res} {i : Nat} {E : Ends} {σ : L2.St} {H : Hp} (q : tH (C.at X) (fun ρ => setS ρ i (g ρ)) E σ H) : tAsg (tG (C.at X) g) (gName i) E σ H := by
  obtain ⟨ρ, F, R, w⟩ := q
  dsimp only at w
  refine tG_thS R w fun m d v F' H' w' s R' rp fr => ?_
  cases m with
  | bo => exact (show False from w').elim
  | fz => exact w' _ F' H' (Same.refl _) (R.set (m := false) s rp (by intro z; cases z))
  | fr => exact w' _ F' H' (Same.refl _) (R.set (m := true) s rp fun _ a ea => fr rfl a ea)
theorem psv_set {i : Nat} {pos' : Pos} (hN : X.N.Nodup) (hi : X.N[i]? = some x) (hx : Loc X.env.scope x) (he : PV C X e g) (hs : swapsWith e (some (.Name x pos')) pos.line X.env = pure false := by rfl)
    (hf : X.fn x = true ∨ X.env.scope.names.lookup x = some .local := by first | exact .inl rfl | exact .inr rfl | assumption) : PSv C X (.Assign [.Name x pos'] e pos) (fun ρ => setS ρ i (g ρ)) := PS.imp (ps_set hN hi hx he hs hf) fun E σ H q => set_tG q
end
end D3

namespace D3
open PySem PySem.Spec PyProof.Rows L2

/-! ### the signs of a text -/
def Its (x : Str) : It := ⟨fun i _ => i < x.cps.size, fun i H v H' => H' = H ∧ ∃ c, x.cps[i]? = some c ∧ v = .str ⟨#[c]⟩, fun i _ => x.cps.size ≤ i⟩
theorem turn_strT {P : Program} {w : World} {K : PySem.W.Frag} {tg : Expr} (it : Addr) (x : Str) (t : Tok) (ty : String) (hty : ["enumerate", "zip", "dict_itemiterator", "dict_reverseitemiterator", "odict_iterator", "itertools.zip_longest", "itertools.pairwise"].contains ty = false)
    (W : ∀ A' : Around, A'.handled = none → Walks P w A' it [it] [it] x.cps.size (SignAt x) (fun i h => h.IsStrIter it ty x t i)) (Sf : ∀ (A : Around) (i : Nat) (s : Shared) (Q : Value → Shared → Prop) (E : Value → Shared → Prop), s.heap.IsStrIter it ty x t i → Q (.ref it) s → wpAny (model P w) A (pyIter (.ref it)) Q E s) :
    Turn P w K tg (Its x) [it] it (fun i h => i ≤ x.cps.size ∧ h.IsStrIter it ty x t i) where
  mem := by simp
  obj := fun i h st b hb => by
    have e : b = it := by simpa using hb
    subst e
    obtain ⟨_, o, e, c, d⟩ := st
    exact ⟨o, e, fun v z => by rw [d] at z; cases z⟩
  keep := fun i h h' st k => ⟨st.1, let ⟨o, e, r⟩ := st.2; ⟨o, k it (by simp) o e, r⟩⟩
  item := by
    intro X hP hw hK hc i pins s σ H E I hf st hg
    subst hP hw hK
    obtain ⟨f0, f1, f2, f3, f4, f5⟩ := hf it (by simp)
    refine (W X.A (I.ok.hd hc)).item i s _ _ hg st.2 fun v h' tk hv st' kk => ?_
    obtain ⟨c, u, hc', rfl⟩ := hv
    have I1 : Inv X pins σ H { s with heap := h', toks := tk } := I.turned (fun b o hb e => kk b o (by simpa using hb) e) f0 f1 f3 f4 f5
    obtain ⟨o, e, oc, d⟩ := id st'
    exact ⟨_, rfl, go_of (s := { s with heap := h', toks := tk }) e oc d hty ⟨.str ⟨#[c]⟩, H, I1, ⟨u, rfl⟩, ⟨rfl, c, hc', rfl⟩, ⟨hg, st'⟩, fun b hb => (hf b hb).1⟩⟩
  done := by
    intro X hP hw hK hc i pins s σ H E I hf st hg
    subst hP hw hK
    obtain ⟨f0, f1, f2, f3, f4, f5⟩ := hf it (by simp)
    have e : i = x.cps.size := Nat.le_antisymm st.1 hg
    subst e
    exact (W X.A (I.ok.hd hc)).done s _ _ st.2 fun h' tk kk => ⟨rfl, I.turned (fun b o hb e => kk b o (by simpa using hb) e) f0 f1 f3 f4 f5⟩
  self := fun A i s Q E st h => Sf A i s Q E st.2 h
/-! ### what a loop walks -/
def iStr (te : TE) : TI := fun σ H R => te σ H fun x H1 => ∃ z, x = .str z ∧ R (Its z) H1
theorem pi_str {X : Cx} {tg l : Expr} {tl : TE} (hl : PE X l tl) : PI X tg l (iStr tl) := by
  intro pins s σ H R I h
  refine thn (hl pins s σ H _ I h) fun v s1 ⟨x, H1, I1, r1, q1⟩ => ?_
  obtain ⟨z, e, q⟩ := q1
  subst e
  obtain ⟨t, rfl⟩ := r1
  have fin : ∀ (ty : String) (o : Obj), o = { cls := .type ty, data := .fields #[.str z t, .int ((0 : Nat) : Int) 0] } → (∀ b : Addr, b ∈ [s1.heap.objs.size] → FpOk X pins H1 b) ∧ Inv X pins σ H1 { s1 with heap := s1.heap.push o } ∧ (s1.heap.push o).IsStrIter s1.heap.objs.size ty z t 0 := fun ty o eo => by
    refine ⟨fun b hb => ?_, I1.kept (t' := s1.toks) fun b o e => Heap.get?_push_of_some _ e, ⟨o, Heap.get?_push_size _ (by rw [eo]; rfl), by rw [eo], by rw [eo]⟩⟩
    have e : b = s1.heap.objs.size := by simpa using hb
    subst e
    exact I1.fpOk (Nat.le_refl _) (I1.hok.fresh (Nat.le_refl _))
  cases ha : z.cps.all (· < 128)
  · refine wpAny_pyIter_wide ha ?_
    obtain ⟨f1, f2, f3⟩ := fin "str_iterator" _ rfl
    exact ⟨s1.heap.objs.size, [s1.heap.objs.size], _, Its z, H1, rfl, f2, turn_strT _ z t "str_iterator" (by decide) (fun A' hA => Walks.strWide hA _ z t) (fun A i s Q E st h => wpAny_pyIter_striter_wide st h), ⟨Nat.zero_le _, f3⟩, f1, q⟩
  · refine wpAny_pyIter_ascii ha ?_
    obtain ⟨f1, f2, f3⟩ := fin "str_ascii_iterator" _ rfl
    exact ⟨s1.heap.objs.size, [s1.heap.objs.size], _, Its z, H1, rfl, f2, turn_strT _ z t "str_ascii_iterator" (by decide) (fun A' hA => Walks.strAscii hA _ z t) (fun A i s Q E st h => wpAny_pyIter_striter_ascii st h), ⟨Nat.zero_le _, f3⟩, f1, q⟩
theorem PI.imp {X : Cx} {tg e : Expr} {t t' : TI} (h : PI X tg e t) (i : ∀ σ H R, t' σ H R → t σ H R) : PI X tg e t' := fun pins s σ H R I q => h pins s σ H R I (i σ H R q)
theorem PI.or {X : Cx} {tg e : Expr} {t t' : TI} (h : PI X tg e t) (h' : PI X tg e t') : PI X tg e (fun σ H R => t σ H R ∨ t' σ H R) := fun pins s σ H R I q => by
  rcases q with q | q
  · exact h pins s σ H R I q
  · exact h' pins s σ H R I q
/-- the iterator tells these data -/
structure IterOf (K : PySem.W.Frag) (F : Hp) (J : It) (ds : List D) : Prop where
  go : ∀ i H, Same F H → i < ds.length → J.go i H
  stop : ∀ i H, Same F H → ds.length ≤ i → J.stop i H
  yld : ∀ i Fc H x H', Same F Fc → Same Fc H → i < ds.length → J.yld i H x H' → ∃ F' d, ds[i]? = some d ∧ Step Fc H F' H' ∧ RepV K F' d x
def WantI (C : Cw) (F H : Hp) (σ : L2.St) (r : Res) (R : It → Hp → Prop) : Prop := match r with
  | .ok _ (.lst ds) => ∀ J F' H', Step F H F' H' → IterOf C.K F' J ds → R J H'
  | .exc c => ∀ F' H', Step F H F' H' → C.EE c σ H'
  | _ => False
def tIv (C : Cw) (g : Rho → Res) : TI := fun σ H R => ∃ ρ F, RelSt C.K C.F0 C.H0 F H σ ρ ∧ WantI C F H σ (g ρ) R
def PIv (C : Cw) (X : Cx) (tg e : Expr) (g : Rho → Res) : Prop := PI X tg e (tIv (C.at X) g)
def charsD (z : Str) : List D := z.cps.toList.map fun c => .str ⟨#[c]⟩
def itemsR (r : Res) : Res := r.thn fun _ d => match d with
  | .lst ds => .ok .fz (.lst ds)
  | .tup ds => .ok .fz (.lst ds)
  | .str z => .ok .fz (.lst (charsD z))
  | _ => .stuck
section
variable {C : Cw} {X : Cx} {tg e : Expr} {g : Rho → Res} {gs : Rho → ResL} {pos p : Pos}
theorem iterOf_tup {K : PySem.W.Frag} {F : Hp} {a : Addr} {ds : List D} {xs : List V} (hq : SqT K F a xs) (r : RepL K F ds xs) : IterOf K F (Itt K a) ds where
  go := fun i H s hi => by
    have hl : i < xs.length := by rw [r.length]; exact hi
    exact ⟨xs, xs[i], Same.seqT s hq, by simp [hl]⟩
  stop := fun i H s hi => ⟨xs, Same.seqT s hq, by rw [r.length]; exact hi⟩
  yld := fun i Fc H x H' s1 s2 hi y => by
    obtain ⟨rfl, y⟩ := y
    have hx := y xs (Same.seqT s2 (Same.seqT s1 hq))
    obtain ⟨d, e, rd⟩ := r.get hx
    exact ⟨Fc, d, e, .refl s2, rd.mono s1 _ _⟩
theorem iterOf_str {K : PySem.W.Frag} {F : Hp} {z : Str} (hk : PyData.strOk z = true) : IterOf K F (Its z) (charsD z) where
  go := fun i H s hi => by simpa [charsD, Its] using hi
  stop := fun i H s hi => by simpa [charsD, Its] using hi
  yld := fun i Fc H x H' s1 s2 hi y => by
    obtain ⟨rfl, c, hc, rfl⟩ := y
    refine ⟨Fc, .str ⟨#[c]⟩, by simp [charsD, hc], .refl s2, ?_⟩
    simp only [RepV, true_and]
    refine ⟨by show 1 ≤ sizeLine; decide, ?_⟩
    unfold PyData.strOk at hk ⊢
    rw [Array.all_eq_true_iff_forall_mem] at hk
    simpa using hk c (Array.mem_of_getElem? hc)
/-- a list, a tuple, a text -/
theorem piv_seq (h : PV C X e g) : PIv C X tg e (fun ρ => itemsR (frzR (g ρ))) := by
  have h := pv_frz h
  refine PI.imp (PI.or (pi_list h) (PI.or (pi_tup h) (pi_str h))) fun σ H R q => ?_
  obtain ⟨ρ, F, RS, w⟩ := q
  dsimp only at w
  cases er : frzR (g ρ) with
  | stuck => rw [er] at w; exact w.elim
  | exc c =>
    refine .inl ?_
    unfold iList
    rw [tG_eq]
    refine ⟨ρ, F, RS, ?_⟩
    rw [er] at w ⊢
    exact w
  | ok m d =>
    rw [er] at w
    have hm : m = .fz := by
      cases h : g ρ with
      | ok m' d' => rw [h] at er; cases m' <;> cases er <;> rfl
      | exc c => rw [h] at er; cases er
      | stuck => rw [h] at er; cases er
    subst hm
    cases d with
    | lst ds =>
      refine .inl ?_
      unfold iList
      rw [tG_eq]
      refine ⟨ρ, F, RS, ?_⟩
      rw [er]
      intro v F' H' st rp _
      have rp : RepV X.K F' (.lst ds) v := rp
      simp only [RepV] at rp
      obtain ⟨a, xs, rfl, hq, r⟩ := rp
      exact ⟨a, rfl, ⟨xs, st.sub.seq hq⟩, w _ F' H' st ⟨fun i H s hi => by
          have hl : i < xs.length := by rw [r.length]; exact hi
          exact ⟨xs, xs[i], s.seq hq, by simp [hl]⟩, fun i H s hi => ⟨xs, s.seq hq, by rw [r.length]; exact hi⟩, fun i Fc H x H' s1 s2 hi y => by
          obtain ⟨rfl, y⟩ := y
          have hx := y xs (s2.seq (s1.seq hq))
          obtain ⟨d, e, rd⟩ := r.get hx
          exact ⟨Fc, d, e, .refl s2, rd.mono s1 _ _⟩⟩⟩
    | tup ds =>
      refine .inr (.inl ?_)
      unfold iTup
      rw [tG_eq]
      refine ⟨ρ, F, RS, ?_⟩
      rw [er]
      intro v F' H' st rp _
      have rp : RepV X.K F' (.tup ds) v := rp
      simp only [RepV] at rp
      obtain ⟨a, xs, rfl, hq, r⟩ := rp
      exact ⟨a, rfl, ⟨xs, Same.seqT st.sub hq⟩, w _ F' H' st (iterOf_tup hq r)⟩
    | str z =>
      refine .inr (.inr ?_)
      unfold iStr
      rw [tG_eq]
      refine ⟨ρ, F, RS, ?_⟩
      rw [er]
      intro v F' H' st rp _
      obtain ⟨rfl, hz, hk⟩ := Rp.str rp
      exact ⟨z, rfl, w _ F' H' st (iterOf_str hk)⟩
    | _ => exact w.elim
/-- range(n) -/
def rangeD (lo hi : Int) : List D := (List.range (hi - lo).toNat).map fun i => .int (lo + (i : Nat))
def rng1R (r : ResL) : Res := r.thn fun xs => match xs with
  | [(_, .int n)] => if (decide (-(2 ^ 62) ≤ n) && decide (n < 2 ^ 62)) = true then .ok .fz (.lst (rangeD 0 n)) else .stuck
  | _ => .stuck
/-! ### for -/
/-- what a target does with an item: the names behind it -/
def PGv (C : Cw) (X : Cx) (tg : Expr) (k : D → Rho → Option Rho) : Prop := ∃ t : TG, PG X tg t ∧ ∀ F H σ ρ ρ' d v Q, RelSt X.K C.F0 C.H0 F H σ ρ → RepV X.K F d v → k d ρ = some ρ' →
  (∀ σ' F' H', Same F F' → RelSt X.K C.F0 C.H0 F' H' σ' ρ' → Q σ' H') → t v σ H Q
def forS (k : D → Rho → Option Rho) (body : Rho → SRes) : List D → Rho → SRes
  | [], ρ => .nx ρ
  | d :: ds, ρ => match k d ρ with
    | none => .stuck
    | some ρ1 => match body ρ1 with
      | .nx ρ2 => forS k body ds ρ2
      | .ct ρ2 => forS k body ds ρ2
      | .bk ρ2 => .nx ρ2
      | r => r
def forR (r : Res) (ρ : Rho) (k : D → Rho → Option Rho) (body : Rho → SRes) : SRes := r.thS ρ fun _ d => match d with | .lst ds => forS k body ds ρ | _ => .stuck
theorem psv_for {body : List Stmt} {k : D → Rho → Option Rho} {h1 : Rho → SRes} (hp : PassesOwn (model X.prog X.w) X.A X.env X.xe) (hc : X.calm = true) (hi : PIv C X tg e g) (hg : PGv C X tg k) (hb : PBv C X body h1)
    (hs : ∀ x, foldedSetIterable e X.env x = pure x := by intro _; rfl) : PSv C X (.For tg e body [] pos) (fun ρ => forR (g ρ) ρ k h1) := by
  obtain ⟨t, ht, hk⟩ := hg
  refine PS.imp (ps_for hp hc hi ht hb hs) fun E σ H q => ?_
  obtain ⟨ρ, F, RS, w⟩ := q
  dsimp only at w
  unfold tFor
  refine ⟨ρ, F, RS, ?_⟩
  cases er : g ρ with
  | stuck => rw [er] at w; exact w
  | exc c => rw [er] at w; exact fun F' H' s => w σ F' H' s.fsame (RS.step s)
  | ok m d =>
    rw [er] at w
    cases d with
    | lst ds =>
      intro J F1 H1 s1 hJ
      have w : WantS (C.at X) F1 (forS k h1 ds ρ) E := WantS.mono s1.fsame w
      refine ⟨fun i m σ' H' => m = ds.length - i ∧ i ≤ ds.length ∧ ∃ ρ' F', Same F1 F' ∧ RelSt X.K C.F0 C.H0 F' H' σ' ρ' ∧ WantS (C.at X) F' (forS k h1 (ds.drop i) ρ') E, ⟨ds.length, by simp, Nat.zero_le _, ρ, F1, Same.refl _, RS.step s1, by simpa using w⟩, ?_⟩
      rintro i m σ' H' ⟨rfl, hi, ρ', F', sF, R', w'⟩
      by_cases hlt : i < ds.length
      · refine .inr ⟨hJ.go i H' (sF.trans R'.sub) hlt, fun σ2 H2 => ∃ ρ2 F2, Same F1 F2 ∧ RelSt X.K C.F0 C.H0 F2 H2 σ2 ρ2 ∧ WantS (C.at X) F2 (forS k h1 (ds.drop (i + 1)) ρ2) E, fun σ2 H2 ⟨ρ2, F2, a, b, c⟩ => ⟨ds.length - (i + 1), by omega, rfl, hlt, ρ2, F2, a, b, c⟩, fun x H2 y => ?_⟩
        obtain ⟨F2, d, ed, s2, rd⟩ := hJ.yld i F' H' x H2 sF R'.sub hlt y
        have hd : ds.drop i = d :: ds.drop (i + 1) := by
          rw [List.drop_eq_getElem_cons hlt]
          rw [List.getElem?_eq_getElem hlt] at ed
          cases ed; rfl
        rw [hd] at w'
        unfold forS at w'
        cases ek : k d ρ' with
        | none => rw [ek] at w'; exact w'.elim
        | some ρ1 =>
          rw [ek] at w'
          dsimp only at w'
          refine hk F2 H2 σ' ρ' ρ1 d x _ (R'.step s2) rd ek fun σ3 F3 H3 z3 R3 => ?_
          have z13 : Same F1 F3 := (sF.trans s2.fsame).trans z3
          have w3 := WantS.mono (s2.fsame.trans z3) w'
          refine ⟨ρ1, F3, R3, ?_⟩
          cases eb : h1 ρ1 with
          | nx ρ2 => rw [eb] at w3; exact fun σ4 F4 H4 z4 R4 => ⟨ρ2, F4, z13.trans z4, R4, WantS.mono z4 w3⟩
          | ct ρ2 => rw [eb] at w3; exact fun σ4 F4 H4 z4 R4 => ⟨ρ2, F4, z13.trans z4, R4, WantS.mono z4 w3⟩
          | bk ρ2 => rw [eb] at w3; exact fun σ4 F4 H4 z4 R4 => w3 σ4 F4 H4 z4 R4
          | rt m d => rw [eb] at w3; exact w3
          | exc c ρ2 => rw [eb] at w3; exact w3
          | stuck => rw [eb] at w3; exact w3
      · have ei : i = ds.length := by omega
        subst ei
        refine .inl ⟨hJ.stop _ H' (sF.trans R'.sub) (Nat.le_refl _), ?_⟩
        rw [List.drop_length] at w'
        exact w' σ' F' H' (Same.refl _) R'
    | _ => exact w.elim
end
end D3

namespace L2
open PySem PySem.Spec PyProof.Rows
/-! ### the cells that a comprehension reads -/
/-- the context of a comprehension's block -/
def compCx (X : Cx) (scope : Scope) (N : List Str) (cl : List (Str × Addr)) (C : Addr) (fp : List Addr) (s3 : Shared) (H3 : Hp) : Cx where
  prog := X.prog
  w := X.w
  K := X.K
  mg := X.mg
  base := X.base
  A := X.A
  N := N
  s₀ := s3
  H₀ := H3
  env := compEnvC scope cl C X.env
  outer := X.stack
  stack := X.stack
  ex := fp
  fn := fun _ => false
  calm := X.calm
  pn := []
  xe := fun _ _ => False
/-- the tests of a comprehension -/
def PIfs (X : Cx) (cs : List Expr) (t : TT) : Prop :=
  ∀ (pins : List (Addr × Obj)) (s : Shared) (σ : St) (H : Hp) (Q : Bool → Hp → Prop), Inv X pins σ H s → t σ H Q →
    wpAny (model X.prog X.w) X.A (forIn cs true fun c r => if r = true then do let ok ← isTrue c X.env (eval c X.env); pure (ForInStep.yield ok) else pure (ForInStep.yield r)) (TP X pins σ Q) X.xe s
theorem pifs_nil {X : Cx} : PIfs X [] (fun _ H Q => Q true H) := fun pins s σ H Q I h => by
  rw [List.forIn_nil]
  exact wpAny_pure ⟨H, I, h⟩
theorem forIn_no {X : Cx} : ∀ cs : List Expr, (forIn cs false fun c r => if r = true then do let ok ← isTrue c X.env (eval c X.env); pure (ForInStep.yield ok) else pure (ForInStep.yield r) : Sem Bool) = pure false
  | [] => by rw [List.forIn_nil]
  | c :: cs => by
    rw [List.forIn_cons, if_neg Bool.false_ne_true, pure_bind]
    exact forIn_no cs
theorem pifs_cons {X : Cx} {c : Expr} {cs : List Expr} {t u : TT} (hc : PT X c t) (hr : PIfs X cs u) : PIfs X (c :: cs) (tAnd t u) := fun pins s σ H Q I h => by
  rw [List.forIn_cons, if_pos rfl]
  refine wpAny_bind (wpAny_bind (thn (hc pins s σ H _ I h) fun b s1 ⟨H1, I1, q1⟩ => wpAny_pure ?_))
  cases b with
  | true => rw [if_pos rfl] at q1; exact hr pins s1 σ H1 Q I1 q1
  | false =>
    rw [if_neg Bool.false_ne_true] at q1
    dsimp only
    rw [forIn_no]
    exact wpAny_pure ⟨H1, I1, q1⟩

section
variable {prog : Program} {w : World} {A : Around} {R : Result → Shared → Prop} {s : Shared}
end
/-- behind a block's own frame -/
theorem Inv.dropped {X : Cx} {pins : List (Addr × Obj)} {σ : St} {H : Hp} {s : Shared} {h'' : Heap} {Z : Addr} (I : Inv X pins σ H s) (hs : Heap.SameBut Z s.heap h'') (hz : H Z = none) (h0 : X.s₀.heap.objs.size ≤ Z) (h1 : Z ≠ X.env.locals) (h2 : ∀ x c, X.env.cells.lookup x = some c → c ≠ Z) (h3 : ∀ p ∈ X.pn ++ pins, p.1 ≠ Z) :
    Inv X pins σ H { s with heap := h'' } := by
  have un : Un (frs X.stack) [Z] H H s.heap h'' := by
    have k : ∀ b o, s.heap.get? b = some o → b ∉ [Z] → h''.get? b = some o := fun b o e hb => hs.extBut b o (fun z => hb (by rw [z]; exact List.mem_cons_self)) e
    exact ⟨fun b o e _ _ hx => k b o e hx, fun b o e _ _ hx => ⟨o.slots, k b o e hx⟩, fun _ _ _ n _ => n, fun b o e hx => ⟨o, k b o e hx⟩, fun _ _ q => q, fun _ _ _ q => q, fun _ ps q => ⟨#[], by simpa using q⟩⟩
  have hok : HOk X.prog X.w H h'' := fun a o e => (I.hok a o e).stay (fun b v hb q => hs.extBut b v (by
    rintro rfl
    rcases hb with hb | hb
    · rw [hb, e] at hz; cases hz
    · rw [hz] at hb; cases hb) q) (fun _ q => q) fun _ _ q => q
  obtain ⟨hh, g, d, t, o⟩ := s
  exact I.call (g' := g) (d' := d) (t' := t) (ch := [Z]) un hok I.bare fun b hb => by
    obtain rfl : b = Z := by simpa using hb
    exact ⟨.inr h0, h1, h2, h3⟩
end L2

namespace D3
open PySem PySem.Spec PyProof.Rows L2
/-! ### list comprehensions -/
abbrev Cw.nox (C : Cw) : Cw := { C with EE := fun _ _ _ => False }
theorem Step.upd {F H F' H' : Hp} {x : Addr} {o : HO} (st : Step F H F' H') (hx : H x = none) (hx' : F' x = none) : Step F H F' (L2.upd H' x o) :=
  ⟨fun b u q => by rw [upd_ne (ne_of_none q hx)]; exact st.same b u q, st.fsame, fun b u q => by rw [upd_ne (ne_of_none q hx')]; exact st.sub b u q, st.new⟩
section
variable {C : Cw} {X : Cx} {e : Expr} {g : Rho → Res} {pos p : Pos}
theorem pifs_nilv : PIfs X [] (tT (C.at X) fun _ => .ok .fz (.bl true)) := fun pins s σ H Q I h => by
  obtain ⟨ρ, F, R, w⟩ := h
  exact pifs_nil pins s σ H Q I (w F H (.refl R.sub))
theorem pifs_consv {c : Expr} {cs : List Expr} {ga gb : Rho → Res} (hc : PTv C X c ga) (hr : PIfs X cs (tT (C.at X) gb)) : PIfs X (c :: cs) (tT (C.at X) fun ρ => andR (ga ρ) (gb ρ)) := fun pins s σ H Q I h =>
  pifs_cons hc hr pins s σ H Q I (tT_and h)
end
end D3

namespace D3
open PySem PySem.Spec PyProof.Rows L2
/-! ### == and != of data -/
mutual
def toPy : D → Option PyData
  | .non => some .none
  | .bl b => some (.bool b)
  | .int i => some (.int i)
  | .str x => some (.str x)
  | .tup ds => (toPyL ds).map .tuple
  | .lst ds => (toPyL ds).map .list
  | _ => none
def toPyL : List D → Option (List PyData)
  | [] => some []
  | d :: ds => match toPy d, toPyL ds with
    | some p, some ps => some (p :: ps)
    | _, _ => none
end
section
variable {X : Cx} {pins : List (Addr × Obj)} {σ : L2.St} {F H : Hp} {s : Shared}
mutual
theorem reads_of (I : Inv X pins σ H s) (sF : Same F H) : ∀ (d : D) (p : PyData) (v : V) (u : Value), RepV X.K F d v → RelV v u → toPy d = some p → (∃ as, Reads s.heap u p as) ∧ p.canLay0 = true
  | .non, p, v, u, h, r, e => by simp only [RepV] at h; subst h; cases r; simp only [toPy] at e; cases e; exact ⟨⟨_, .none⟩, rfl⟩
  | .bl b, p, v, u, h, r, e => by simp only [RepV] at h; subst h; cases r; simp only [toPy] at e; cases e; exact ⟨⟨_, .bool b⟩, rfl⟩
  | .int i, p, v, u, h, r, e => by simp only [RepV] at h; subst h; obtain ⟨t, rfl⟩ := r; simp only [toPy] at e; cases e; exact ⟨⟨_, .int i t⟩, rfl⟩
  | .str x, p, v, u, h, r, e => by simp only [RepV] at h; obtain ⟨rfl, _, hk⟩ := h; obtain ⟨t, rfl⟩ := r; simp only [toPy] at e; cases e; exact ⟨⟨_, .str x t⟩, by simpa only [PyData.canLay0] using hk⟩
  | .tup ds, p, v, u, h, r, e => by
    simp only [RepV] at h
    obtain ⟨a, xs, rfl, q, rl⟩ := h
    cases r
    simp only [toPy] at e
    cases ep : toPyL ds with
    | none => rw [ep] at e; cases e
    | some ps =>
      rw [ep] at e; cases e
      obtain ⟨its, rv, ⟨o, h1, h2, n, h3⟩, _⟩ := I.tuple (Same.seqT sF q)
      obtain ⟨⟨as, ra⟩, hc⟩ := readsL_of I sF ds ps xs its rl rv ep
      exact ⟨⟨_, .tuple h1 h2 h3 (by simpa using ra)⟩, by simpa only [PyData.canLay0] using hc⟩
  | .lst ds, p, v, u, h, r, e => by
    simp only [RepV] at h
    obtain ⟨a, xs, rfl, q, rl⟩ := h
    cases r
    simp only [toPy] at e
    cases ep : toPyL ds with
    | none => rw [ep] at e; cases e
    | some ps =>
      rw [ep] at e; cases e
      obtain ⟨its, rv, ⟨o, n, h1, h2, _, h3⟩, _⟩ := I.list (sF.seq q)
      obtain ⟨⟨as, ra⟩, hc⟩ := readsL_of I sF ds ps xs its rl rv ep
      exact ⟨⟨_, .list h1 h2 h3 (by simpa using ra)⟩, by simpa only [PyData.canLay0] using hc⟩
  | .dct _, p, v, u, h, r, e => by simp only [toPy] at e; cases e
  | .ty _, p, v, u, h, r, e => by simp only [toPy] at e; cases e
  | .ob _, p, v, u, h, r, e => by simp only [toPy] at e; cases e
  | .ins _ _, p, v, u, h, r, e => by simp only [toPy] at e; cases e
  | .fn _, p, v, u, h, r, e => by simp only [toPy] at e; cases e
  | .exn _, p, v, u, h, r, e => by simp only [toPy] at e; cases e
  | .set _, p, v, u, h, r, e => by simp only [toPy] at e; cases e
theorem readsL_of (I : Inv X pins σ H s) (sF : Same F H) : ∀ (ds : List D) (ps : List PyData) (xs : List V) (us : List Value), RepL X.K F ds xs → Vals xs us → toPyL ds = some ps → (∃ as, ReadsAll s.heap us ps as) ∧ PyData.canLayAll0 ps = true
  | [], ps, xs, us, h, r, e => by simp only [RepL] at h; subst h; cases r; simp only [toPyL] at e; cases e; exact ⟨⟨_, .nil⟩, rfl⟩
  | d :: ds, ps, xs, us, h, r, e => by
    simp only [RepL] at h
    obtain ⟨y, ys, rfl, hd, hl⟩ := h
    cases r with
    | cons r1 r2 =>
      simp only [toPyL] at e
      cases e1 : toPy d with
      | none => rw [e1] at e; cases e
      | some p =>
        cases e2 : toPyL ds with
        | none => rw [e1, e2] at e; cases e
        | some ps' =>
          rw [e1, e2] at e; cases e
          obtain ⟨⟨as, ra⟩, hc⟩ := reads_of I sF d p y _ hd r1 e1
          obtain ⟨⟨bs, rb⟩, hc'⟩ := readsL_of I sF ds ps' ys _ hl r2 e2
          exact ⟨⟨_, .cons ra rb⟩, by simp only [PyData.canLayAll0, hc, hc', Bool.and_self]⟩
end
/-- also a list or dict that is not frozen -/
theorem reads_rp (I : Inv X pins σ H s) (sF : Same F H) {m : Md} {d : D} {p : PyData} {v : V} {u : Value} (h : Rp X.K F H m d v) (r : RelV v u) (e : toPy d = some p) : (∃ as, Reads s.heap u p as) ∧ p.canLay0 = true := by
  cases m with
  | fz => exact reads_of I sF d p v u h r e
  | _ =>
    obtain ⟨a, rfl, n, t⟩ := h
    cases d with
    | lst ds =>
      obtain ⟨xs, q, rl⟩ := t
      cases r
      simp only [toPy] at e
      cases ep : toPyL ds with
      | none => rw [ep] at e; cases e
      | some ps =>
        rw [ep] at e; cases e
        obtain ⟨its, rv, ⟨o, n, h1, h2, _, h3⟩, _⟩ := I.list (SqL.of q)
        obtain ⟨⟨as, ra⟩, hc⟩ := readsL_of I sF ds ps xs its rl rv ep
        exact ⟨⟨_, .list h1 h2 h3 (by simpa using ra)⟩, by simpa only [PyData.canLay0] using hc⟩
    | dct ds => simp only [toPy] at e; cases e
    | ins _ _ => simp only [toPy] at e; cases e
    | set _ => simp only [toPy] at e; cases e
    | _ => exact t.elim
end
def shal (p : PyData) : Bool := decide (p.depth ≤ 50)
def eqF (neg : Bool) : Md → D → Md → D → Option (Md × D) := fun _ x _ y => match toPy x, toPy y with
  | some p, some q => if (shal p && shal q) = true then some (.fz, .bl (if neg then !PyData.eqv p q else PyData.eqv p q)) else none
  | _, _ => none
section
variable {C : Cw} {X : Cx}
theorem opd_cmpD {f : Value → Value → Sem Value} {neg : Bool} (hu : X.A.units + 64 < cLine)
    (rule : ∀ (s : Shared) (a b : Value) (da db : PyData) (as bs : List Addr) (Q : Value → Shared → Prop), Reads s.heap a da as → Reads s.heap b db bs → da.canLay0 = true → db.canLay0 = true → X.A.units + min da.depth db.depth < cLine →
      Q (.bool (if neg then !PyData.eqv da db else PyData.eqv da db)) s → wpAny (model X.prog X.w) X.A (f a b) Q X.xe s) : OpD C X f (eqF neg) := by
  refine ⟨fun x y H Q => ∃ F m n d e p q, Same F H ∧ Rp X.K F H m d x ∧ Rp X.K F H n e y ∧ toPy d = some p ∧ toPy e = some q ∧ (shal p && shal q) = true ∧ Q (.bl (if neg then !PyData.eqv p q else PyData.eqv p q)) H, ?_, ?_⟩
  · intro pins s σ H x y v u Q I rx ry h
    obtain ⟨F, m, n, d, e, p, q, sF, hd, he, ep, eq, hs, hQ⟩ := h
    obtain ⟨⟨as, ra⟩, ca⟩ := reads_rp I sF hd rx ep
    obtain ⟨⟨bs, rb⟩, cb⟩ := reads_rp I sF he ry eq
    rw [Bool.and_eq_true] at hs
    have h1 := of_decide_eq_true hs.1
    refine rule s v u p q as bs _ ra rb ca cb (by have := Nat.min_le_left p.depth q.depth; omega) ⟨.bl _, H, I, rfl, hQ⟩
  · intro F H m x n y v u k d Q s rx ry e w
    unfold eqF at e
    split at e
    · rename_i p q ep eq
      split at e
      · rename_i hc
        cases e
        exact ⟨F, m, n, x, y, p, q, s, rx, ry, ep, eq, hc, w _ F H (.refl s) (rp_bl _) (by intro z; cases z)⟩
      · cases e
    · cases e
theorem opd_eq (hu : X.A.units + 64 < cLine) : OpD C X (compareOp .Eq) (eqF false) := opd_cmpD hu fun s a b da db as bs Q ra rb ca cb hd q => SeqAt.compareEq_reads ra rb ca cb hd q
theorem opd_ne (hu : X.A.units + 64 < cLine) : OpD C X (compareOp .NotEq) (eqF true) := opd_cmpD hu fun s a b da db as bs Q ra rb ca cb hd q => SeqAt.compareNe_reads ra rb ca cb hd q
end
end D3

namespace D3
open PySem PySem.Spec PyProof.Rows L2
/-! ### the methods of Python's own values -/
section
variable {C : Cw} {X : Cx} {o e : Expr} {es : List Expr} {go : Rho → Res} {gs : Rho → ResL} {apos cpos : Pos} {T id : String} {name : Str}
/-! join -/
def strsD : List D → Option (List Str)
  | [] => some []
  | .str x :: r => (strsD r).map (x :: ·)
  | _ => none
def joinD : Md → D → List (Md × D) → Option (Md × D) := fun _ x xs => match x, xs with
  | .str z, [(_, .lst ds)] => (match strsD ds with
    | some ys => if (ys.map (·.length)).sum + ys.length * z.length ≤ sizeLine then some (.fz, .str (Txt.join z ys)) else none
    | none => none)
  | _, _ => none
end
/-! ### own defs -/
def spV (K : PySem.W.Frag) (mg : Str → Option Value) (n : Nat) (Φ : List D → Res) : Sp := fun vs H Q E => vs.length = n ∧ ∃ F ds, Same F H ∧ RepL K F ds vs ∧ match Φ ds with
  | .ok m d => m ≠ .bo ∧ ∀ v F' H', Step F H F' H' → Rp K F' H' m d v → (m = .fr → ∀ a, v = .ref a → H a = none) → Q v H'
  | .exc c => ∀ F' H' u, Step F H F' H' → mg c = some u → E u none H'
  | .stuck => False
structure FnV (P : Program) (w : World) (K : PySem.W.Frag) (mg : Str → Option Value) (base : Heap) (CX : CXT) (k : Nat) (x : Str) (n : Nat) (Φ : List D → Res) : Prop where
  ex : ∃ f fd ps, FnOk P w K mg base CX k f fd ps (spV K mg n Φ) ∧ mg x = some (.ref f) ∧ PySem.W.keepIn K (.ref f) = true ∧ Binds K fd ps []
theorem FnV.mono {P : Program} {w : World} {K : PySem.W.Frag} {mg : Str → Option Value} {base : Heap} {CX : CXT} {j k : Nat} {x : Str} {n : Nat} {Φ : List D → Res} (F : FnV P w K mg base CX j x n Φ) (h : j ≤ k) : FnV P w K mg base CX k x n Φ := by
  obtain ⟨f, fd, ps, a, r⟩ := F.ex
  exact ⟨f, fd, ps, a.mono h, r⟩
def callF (n : Nat) (Φ : List D → Res) (r : ResL) : Res := r.thn fun xs => match allFz xs with
  | some ds => if ds.length = n then (match Φ ds with | .ok .bo _ => .stuck | r => r) else .stuck
  | none => .stuck
/-- what the body wants of a callee's exception -/
def XOk (CX : CXT) (C : Cw) (X : Cx) : Prop := ∀ (pins : List (Addr × Obj)) (σ : L2.St) (H : Hp) (s : Shared) (e : Value) (s' : Shared), Inv X pins σ H s → CX X.stack H s (fun u _ H' => ∃ c, X.mg c = some u ∧ C.EE c σ H') e s' → X.xe e s'
section
variable {C : Cw} {X : Cx} {e : Expr} {es : List Expr} {gs : Rho → ResL} {p pos : Pos} {x : Str} {k n : Nat} {Φ : List D → Res} {CX : CXT}
theorem run_V {f : Addr} {fd : FuncData} {ps : List Str} {pins : List (Addr × Obj)} {σ : L2.St} {H : Hp} {s : Shared} {Q : VK} {us : List Value} {vs : List V} {E : XK} (F : FnOk X.prog X.w X.K X.mg X.base CX k f fd ps (spV X.K X.mg n Φ)) (hr : Room k X.A) (hb : Binds X.K fd ps [])
    (hx : ∀ e s', CX X.stack H s E e s' → X.xe e s') (I : Inv X pins σ H s) (r : Vals vs us) (h : spV X.K X.mg n Φ vs H Q E) : wpAny (model X.prog X.w) X.A (call (.ref f) us) (EP X pins σ Q) X.xe s := by
  have hl : (us ++ []).length = ps.length := by rw [List.append_nil, ← r.length]; exact F.len _ _ _ _ h
  have hb' := hb s us I.kIn hl
  rw [List.append_nil] at hb'
  refine wpAny_call (codeAny_mono (F.run X.A X.stack s H ⟨us, []⟩ us vs Q E hr I.env0 hb' r h) fun r s' hq => ?_)
  cases r with
  | error e => exact hx e s' hq
  | ok fl =>
    cases fl with
    | ret u => exact I.after hq
    | next => exact False.elim hq
    | brk => exact False.elim hq
    | cont => exact False.elim hq
theorem pv_call (F : FnV X.prog X.w X.K X.mg X.base CX k x n Φ) (hr : Room k X.A) (hx : XOk CX (C.at X) X) (hg : Gl X x) (ha : PAv C X (e :: es) gs)
    (hdb : (x == ("__debug__" : Str)) = false := by decide) (he : starEach (e :: es) X.env = (false, eval e X.env) :: starEach es X.env := by rfl) (hpl : (backTo pos (starEach es X.env)).any (·.1) = false := by rfl) :
    PV C X (.Call (.Name x p) (e :: es) [] pos) (fun ρ => callF n Φ (gs ρ)) := by
  obtain ⟨f, fd, ps, FF, hm, hk, hb⟩ := F.ex
  intro pins s σ H Q I h
  rw [tG_eq] at h
  obtain ⟨ρ, F, R, w⟩ := h
  refine wpAny_Call_Name_kw (ld_glob I hg hm ?_ hdb)
  refine PySem.W.callWith_K (h₀ := X.base) I.ok.mod.kin hk (thn (ha pos pins s σ H (fun vs H1 => spV X.K X.mg n Φ vs H1 Q fun u _ H' => ∃ c, X.mg c = some u ∧ C.EE c σ H') I ?_) fun us s1 ⟨vs, H1, I1, r, q⟩ => ⟨I1.kIn, run_V FF hr hb (fun e s' hc => hx pins σ H1 s1 e s' I1 hc) I1 r q⟩) he hpl
  refine ⟨ρ, F, R, ?_⟩
  cases er : gs ρ with
  | stuck => rw [er] at w; exact w
  | exc c => rw [er] at w; exact w
  | ok xs =>
    rw [er] at w
    intro vs F1 H1 s1 r1
    have w1 : Want (C.at X) F1 H1 σ (callF n Φ (.ok xs)) Q := Want.step s1 w
    unfold callF at w1
    rw [ResL.thn_ok] at w1
    cases ef : allFz xs with
    | none => rw [ef] at w1; exact w1.elim
    | some ds =>
      rw [ef] at w1
      dsimp only at w1
      split at w1
      · rename_i hn
        have rl := r1.fz ef
        refine ⟨by rw [rl.length]; exact hn, F1, ds, s1.sub, rl, ?_⟩
        cases ep : Φ ds with
        | stuck => rw [ep] at w1; exact w1
        | exc c => rw [ep] at w1; exact fun F' H' u st hu => ⟨c, hu, w1 F' H' st⟩
        | ok m d =>
          rw [ep] at w1
          cases m with
          | bo => exact w1.elim
          | fz => exact ⟨by decide, w1⟩
          | fr => exact ⟨by decide, w1⟩
      · exact w1.elim
end
/-! ### a def by its body -/
def endR : SRes → Res
  | .nx _ => .ok .fz .non
  | .rt m d => .ok m d
  | .exc c _ => .exc c
  | _ => .stuck
def startR (n : Nat) (ds : List D) : Rho := ds.map (fun d => some (false, d)) ++ List.replicate (n - ds.length) none
theorem relSt_start {K : PySem.W.Frag} {F H : Hp} {N : List Str} {ds : List D} {vs : List V} (s : Same F H) (r : RepL K F ds vs) : RelSt K F H F H (start N vs) (startR N.length ds) := by
  have low : ∀ (i : Nat) (m : Bool) (d : D), (startR N.length ds)[i]? = some (some (m, d)) → m = false ∧ ∃ v, (start N vs)[i]? = some (some v) ∧ RepV K F d v := fun i m d e => by
    unfold startR at e
    unfold L2.start
    by_cases hi : i < ds.length
    · rw [List.getElem?_append_left (by simpa using hi), List.getElem?_map, List.getElem?_eq_getElem hi] at e
      cases e
      obtain ⟨v, ev, rv⟩ := r.get' (List.getElem?_eq_getElem hi)
      exact ⟨rfl, v, by rw [List.getElem?_append_left (by simpa [r.length] using hi), List.getElem?_map, ev]; rfl, rv⟩
    · rw [List.getElem?_append_right (by simpa using hi), List.getElem?_replicate] at e
      split at e <;> cases e
  refine ⟨.refl s, fun i m d e => ?_, fun i j d d' a _ e1 _ _ _ => ?_, by simp [L2.start, startR, r.length]⟩
  · obtain ⟨rfl, v, e1, rv⟩ := low i m d e
    exact ⟨v, e1, rv, by intro z; cases z⟩
  · have := (low i true d e1).1; cases this
/-! ### the law's own head -/
def lawIn (ns : List Int) : List D := [.lst (ns.map .int)]
theorem repL_ints {K : PySem.W.Frag} {F : Hp} : ∀ ns : List Int, RepL K F (ns.map D.int) (ns.map V.int)
  | [] => RepL.nil
  | n :: ns => RepL.cons (by simp only [RepV]) (repL_ints ns)
end D3

namespace D3
open PySem PySem.Spec PyProof.Rows L2
/-! ### short names for the writer of proofs -/
def noK : Md → D → Md → D → Option (Md × D) := fun _ _ _ _ => none
abbrev fAdd : Md → D → Md → D → Option (Md × D) := orO (fI (fun _ _ => true) fun i j => .int (i + j)) (fS (fun i j => decide (i.length + j.length ≤ sizeLine)) fun i j => .str (i ++ j))
abbrev fSub : Md → D → Md → D → Option (Md × D) := fI (fun _ _ => true) fun i j => .int (i - j)
abbrev fMul : Md → D → Md → D → Option (Md × D) := orO (fI (fun i j => (bits i && bits j) || (w64 i || w64 j)) fun i j => .int (i * j)) noK
abbrev fMod : Md → D → Md → D → Option (Md × D) := fI (fun _ j => decide (0 < j)) fun i j => .int (i % j)
abbrev fDiv : Md → D → Md → D → Option (Md × D) := fI (fun _ j => decide (0 < j) && bits j) fun i j => .int (i / j)
abbrev fPow : Md → D → Md → D → Option (Md × D) := fI (fun i j => decide (0 ≤ j) && decide (j ≤ 1000000) && decide (i.natAbs < 2 ^ 64)) fun i j => .int (i ^ j.toNat)
abbrev fLt : Md → D → Md → D → Option (Md × D) := fI (fun _ _ => true) fun i j => .bl (decide (i < j))
abbrev fLe : Md → D → Md → D → Option (Md × D) := fI (fun _ _ => true) fun i j => .bl (decide (i ≤ j))
abbrev fGt : Md → D → Md → D → Option (Md × D) := fI (fun _ _ => true) fun i j => .bl (decide (j < i))
abbrev fGe : Md → D → Md → D → Option (Md × D) := fI (fun _ _ => true) fun i j => .bl (decide (j ≤ i))
abbrev fEq : Md → D → Md → D → Option (Md × D) := orO (eqF false) noK
abbrev fNe : Md → D → Md → D → Option (Md × D) := orO (eqF true) noK
abbrev fIn : Md → D → Md → D → Option (Md × D) := fS (fun _ _ => true) fun i j => .bl (isIn i j)
abbrev fNotIn : Md → D → Md → D → Option (Md × D) := fS (fun _ _ => true) fun i j => .bl (!isIn i j)
def IsB (φ : Md → D → Md → D → Option (Md × D)) : Prop := ∀ m x n y k d, φ m x n y = some (k, d) → ∃ t, k = .fz ∧ d = .bl t
theorem isB_I {c : Int → Int → Bool} {g : Int → Int → Bool} : IsB (fI c fun i j => .bl (g i j)) := fun m x n y k d e => by
  unfold fI at e
  split at e
  · split at e
    · cases e; exact ⟨_, rfl, rfl⟩
    · cases e
  · cases e
theorem isB_S {c : Str → Str → Bool} {g : Str → Str → Bool} : IsB (fS c fun i j => .bl (g i j)) := fun m x n y k d e => by
  unfold fS at e
  split at e
  · split at e
    · cases e; exact ⟨_, rfl, rfl⟩
    · cases e
  · cases e
theorem isB_or {φ ψ} (h : IsB φ) (h' : IsB ψ) : IsB (orO φ ψ) := fun m x n y k d e => by
  unfold orO at e
  cases e1 : φ m x n y with
  | none => rw [e1] at e; exact h' _ _ _ _ _ _ e
  | some p => rw [e1] at e; cases e; exact h _ _ _ _ _ _ e1
theorem isB_eqF {neg : Bool} : IsB (eqF neg) := fun m x n y k d e => by
  unfold eqF at e
  split at e
  · split at e
    · cases e; exact ⟨_, rfl, rfl⟩
    · cases e
  · cases e
section
variable {C : Cw} {X : Cx}
theorem opd_noK {f : Value → Value → Sem Value} : OpD C X f noK := ⟨fun _ _ _ _ => False, fun _ _ _ _ _ _ _ _ _ _ _ _ h => h.elim, fun _ _ _ _ _ _ _ _ _ _ _ _ _ _ e _ => by cases e⟩
theorem o_add : OpD C X (binaryOp .Add) fAdd := opd_add.or opd_addS
theorem o_mul : OpD C X (binaryOp .Mult) fMul := opd_mul.or opd_noK
theorem o_eq (hu : X.A.units + 64 < cLine) : OpD C X (compareOp .Eq) fEq := (opd_eq hu).or opd_noK
theorem o_ne (hu : X.A.units + 64 < cLine) : OpD C X (compareOp .NotEq) fNe := (opd_ne hu).or opd_noK
/-- a def by its body -/
def phi (n N : Nat) (g : Rho → SRes) : List D → Res := fun ds => if ds.length = n then endR (g (startR N ds)) else .stuck
end
/-! comprehensions: one check -/
def relSc (scope sc : Scope) : List (Str × NameKind) := scope.names.map fun (n, k) => if (k == .free && sc.kind == .function && sc.names.lookup n == some .cell) then (n, .cell) else (n, k)
theorem bb_len : bootBuiltins "len" = some (.builtin "len") := by decide +kernel
theorem bb_isinstance : bootBuiltins "isinstance" = some (.builtin "isinstance") := by decide +kernel
theorem bb_int : bootBuiltins "int" = some (.type "int") := by decide +kernel
theorem bb_bool : bootBuiltins "bool" = some (.type "bool") := by decide +kernel
theorem bb_str : bootBuiltins "str" = some (.type "str") := by decide +kernel
theorem bb_tuple : bootBuiltins "tuple" = some (.type "tuple") := by decide +kernel
theorem bb_list : bootBuiltins "list" = some (.type "list") := by decide +kernel
theorem bb_dict : bootBuiltins "dict" = some (.type "dict") := by decide +kernel
end D3

namespace D3
open PySem PySem.Spec PyProof.Rows L2
/-! ### own classes: what stands there -/
structure CI where
  name : Str
  ups : List Str
  flds : List Str
  meths : List (Str × Str × Nat)
def notStar : Expr → Bool | .Starred .. => false | _ => true
def notSup : Expr → Bool | .Call (.Name x _) [] [] _ => x != "super" | _ => true
theorem star_cons {x : Expr} {es : List Expr} {env : Env} (h : notStar x = true) : starEach (x :: es) env = (false, eval x env) :: starEach es env := by
  cases x <;> first | rfl | cases h
theorem star_any (pos : Pos) (env : Env) : ∀ {es : List Expr}, (∀ x ∈ es, notStar x = true) → (backTo pos (starEach es env)).any (·.1) = false
  | [], _ => rfl
  | x :: es, h => by
    rw [star_cons (h x List.mem_cons_self)]
    show ((false || (backTo pos (starEach es env)).any (·.1)) = false)
    rw [star_any pos env fun y hy => h y (List.mem_cons_of_mem _ hy)]; rfl
theorem star_all (pos : Pos) (env : Env) : ∀ {es : List Expr}, (∀ x ∈ es, notStar x = true) → (backTo pos (starEach es env)).all (fun x => !x.1) = true
  | [], _ => rfl
  | x :: es, h => by
    rw [star_cons (h x List.mem_cons_self)]
    show ((true && (backTo pos (starEach es env)).all (fun x => !x.1)) = true)
    rw [star_all pos env fun y hy => h y (List.mem_cons_of_mem _ hy)]; rfl
theorem attrBase {o : Expr} {n : Str} {env : Env} {w : Sem Value} (h : notSup o = true) : attributeBase o n env w = w := by
  cases o with
  | Call f as ks pos =>
    cases f with
    | Name x p =>
      cases as with
      | nil =>
        cases ks with
        | nil =>
          show (if x != "super" || n == "__class__" || env.kindOf "super" != some .globalImplicit || env.kindOf "__class__" != some .free then w else _) = w
          have : (x != ("super" : Str)) = true := h
          rw [if_pos (by rw [this]; rfl)]
        | cons _ _ => rfl
      | cons _ _ => rfl
    | _ => rfl
  | _ => rfl
theorem meth_eval {o : Expr} {m : Str} {apos pos : Pos} {args : List Expr} {env : Env} (hb : notSup o = true) (hst : ∀ x ∈ args, notStar x = true) (hn : args.length < 30) (hl : apos.endLine = pos.line) :
    eval (.Call (.Attribute o m apos) args [] pos) env = (do
      let ov ← eval o env
      standAt apos.atName
      let (f, first) ← holding [ov] (getMethod ov m (do return (← importBound o env).getD true))
      callWith pos f first (backTo pos (starEach args env)) (backToKw pos (keywordEach [] env))) := by
  have few : methodCallForm (args.length + ([] : List Keyword).length) (backTo pos (starEach args env)) (backToKw pos (keywordEach [] env)) = true := by
    unfold methodCallForm
    rw [star_all pos env hst]
    show (true && true && decide (args.length + 0 + 0 < 30)) = true
    rw [decide_eq_true (by omega)]; rfl
  show (do
    let ov ← attributeBase o m env (eval o env)
    standAt apos.atName
    methodCall o m apos pos env ov (args.length + ([] : List Keyword).length) (backTo pos (starEach args env)) (backToKw pos (keywordEach [] env))) = _
  rw [attrBase hb]
  unfold methodCall
  rw [few]
  have hp : methodCallPos true o env apos pos = pure pos := by
    unfold methodCallPos
    rw [if_pos (by rw [hl]; simp)]
  rw [hp]
  show (do
    let ov ← eval o env
    standAt apos.atName
    let (f, first) ← holding [ov] (getMethod ov m (do return (← importBound o env).getD true))
    let callPos ← pure pos
    callWith callPos f first (backTo pos (starEach args env)) (backToKw pos (keywordEach [] env))) = _
  simp only [pure_bind]
/-- the method m of the class c -/
structure MtV (P : Program) (w : World) (K : PySem.W.Frag) (mg : Str → Option Value) (base : Heap) (CX : CXT) (k : Nat) (c m : Str) (n : Nat) (Φ : List D → Res) : Prop where
  ex : ∃ C f fd ps, PySem.W.nsIn K mainGlobals c = some (some (.ref C)) ∧ Cls K C ∧ Meth K C m f ∧ FnOk P w K mg base CX k f fd ps (spV K mg n Φ) ∧ Binds K fd ps []
/-- a class's own attributes of its objects -/
structure FlV (K : PySem.W.Frag) (c f : Str) : Prop where
  ex : ∃ C, PySem.W.nsIn K mainGlobals c = some (some (.ref C)) ∧ Cls K C ∧ NoAttr K C f
def CI.meth (cl : List CI) (c m : Str) : Option (Str × Nat) := match cl.find? (fun i => i.name == c) with
  | some i => i.meths.lookup m
  | none => none
def fldR (cl : List CI) (f : Str) (r : Res) : Res := r.thn fun _ d => match d with
  | .ins c fs => (match cl.find? (fun i => i.name == c) with
    | some i => if i.flds.contains f = true then (match fs.lookup f with | some d => .ok .fz d | none => .stuck) else .stuck
    | none => .stuck)
  | _ => .stuck
def methR (cl : List CI) (Φ : Str → List D → Res) (m : Str) (o : Res) (as : ResL) : Res := o.thn fun md d => match md, d with
  | .fz, .ins c fs => (match CI.meth cl c m with
    | some (key, n) => if fs.lookup m = none then callF n (Φ key) (consL (.ok .fz (.ins c fs)) as) else .stuck
    | none => .stuck)
  | _, _ => .stuck
section
variable {C : Cw} {X : Cx} {o e : Expr} {es : List Expr} {go : Rho → Res} {gs : Rho → ResL} {apos pos : Pos} {m f : Str} {k : Nat} {Φ : Str → List D → Res} {CX : CXT} {cl : List CI}
theorem pv_fld (hF : ∀ i f, i ∈ cl → f ∈ i.flds → FlV X.K i.name f) (ho : PV C X o go) (hb : notSup o = true) : PV C X (.Attribute o f pos) (fun ρ => fldR cl f (go ρ)) := by
  refine PE.imp (pe_fld ho (attrBase hb)) fun σ H Q q => ?_
  unfold tFld
  rw [tG_eq] at q ⊢
  obtain ⟨ρ, F, R, w⟩ := q
  refine ⟨ρ, F, R, ?_⟩
  cases er : go ρ with
  | stuck => rw [er] at w; exact w
  | exc c => rw [er] at w; exact w
  | ok md d =>
    rw [er] at w
    intro v F1 H1 s1 r1 _
    have w1 : Want (C.at X) F1 H1 σ (fldR cl f (.ok md d)) Q := Want.step s1 w
    unfold fldR at w1
    rw [Res.thn_ok] at w1
    cases d with
    | ins c fs =>
      dsimp only at w1
      cases ef : cl.find? (fun i => i.name == c) with
      | none => rw [ef] at w1; exact w1.elim
      | some i =>
        rw [ef] at w1
        dsimp only at w1
        split at w1
        · rename_i hf
          cases el : fs.lookup f with
          | none => rw [el] at w1; exact w1.elim
          | some d' =>
            rw [el] at w1
            have hi : i.name = c := by simpa using List.find?_some ef
            obtain ⟨C', n1, cl', na⟩ := (hF i f (List.mem_of_find?_eq_some ef) (by simpa using hf)).ex
            rw [hi] at n1
            obtain ⟨a, C2, dx, gs', ev, n2, ea, rf⟩ := r1.ins s1.sub
            rw [n1] at n2; cases n2
            obtain ⟨u, lu, ru⟩ := rf.look el
            exact ⟨a, C', dx, gs', u, ev, ea, cl', na, lu, w1 u F1 H1 (.refl s1.sub) ru (by intro z; cases z)⟩
        · exact w1.elim
    | _ => exact w1.elim
theorem methcall_V (hM : ∀ c m key n, CI.meth cl c m = some (key, n) → MtV X.prog X.w X.K X.mg X.base CX k c m n (Φ key)) (hr : Room k X.A) (hx : XOk CX (C.at X) X) (ho : PV C X o go) (ha : PAv C X es gs) (hb : notSup o = true) (hst : ∀ x ∈ es, notStar x = true) (hn : es.length < 30) (hl : apos.endLine = pos.line) (hes : es = [] → gs = fun _ => .ok []) :
    PV C X (.Call (.Attribute o m apos) es [] pos) (fun ρ => methR cl Φ m (go ρ) (gs ρ)) := by
  intro pins s σ H Q I q
  rw [tG_eq] at q
  obtain ⟨ρ, F, R, w⟩ := q
  refine methcall_of (pl := (do return (← importBound o X.env).getD true)) ho I ?_ (meth_eval hb hst hn hl)
  show tG (C.at X) go σ H _
  rw [tG_eq]
  refine ⟨ρ, F, R, ?_⟩
  cases er : go ρ with
  | stuck => rw [er] at w; exact w
  | exc c => rw [er] at w; exact w
  | ok md d =>
    rw [er] at w
    intro v F1 H1 s1 r1 _
    have w1 : Want (C.at X) F1 H1 σ (methR cl Φ m (.ok md d) (gs ρ)) Q := Want.step s1 w
    unfold methR at w1
    rw [Res.thn_ok] at w1
    cases md with
    | fr => exact w1.elim
    | bo => exact w1.elim
    | fz =>
    cases d with
    | ins c fs =>
      dsimp only at w1
      cases em : CI.meth cl c m with
      | none => rw [em] at w1; exact w1.elim
      | some kn =>
        obtain ⟨key, n⟩ := kn
        rw [em] at w1
        dsimp only at w1
        split at w1
        · rename_i hnl
          obtain ⟨C', f', fd, ps, n1, cl', me, FO, hbd⟩ := (hM c m key n em).ex
          have r1' := r1
          obtain ⟨a, C2, dx, gs', ev, n2, ea, rf⟩ := r1.ins s1.sub
          rw [n1] at n2; cases n2
          subst ev
          refine ⟨a, C', dx, gs', f', rfl, ea, cl', me, rf.lookN hnl, fun s1' I1 => ?_⟩
          have fin : ∀ (vs : List V) (us : List Value) (s2 : Shared) (F2 H2 : Hp) (xs : List (Md × D)), Step F1 H1 F2 H2 → RpL X.K F2 H2 xs vs → Inv X pins σ H2 s2 → Vals vs us → gs ρ = .ok xs → wpAny (model X.prog X.w) X.A (call (.ref f') (.ref a :: us)) (EP X pins σ Q) X.xe s2 := by
            intro vs us s2 F2 H2 xs s2' rl I2 rv eg
            rw [eg] at w1
            have w2 : Want (C.at X) F2 H2 σ (callF n (Φ key) (consL (.ok .fz (.ins c fs)) (.ok xs))) Q := Want.step s2' w1
            rw [consL_ok] at w2
            unfold callF at w2
            rw [ResL.thn_ok] at w2
            have rl2 : RpL X.K F2 H2 ((.fz, .ins c fs) :: xs) (.ref a :: vs) := ⟨_, _, rfl, r1'.step s2', rl⟩
            cases ef : allFz ((.fz, .ins c fs) :: xs) with
            | none => rw [ef] at w2; exact w2.elim
            | some ds =>
              rw [ef] at w2
              dsimp only at w2
              split at w2
              · rename_i hnn
                have rl3 := rl2.fz ef
                refine run_V (E := fun u _ H' => ∃ c, X.mg c = some u ∧ C.EE c σ H') (vs := .ref a :: vs) (us := .ref a :: us) FO hr hbd (fun e s' hc => hx pins σ H2 s2 e s' I2 hc) I2 (.cons rfl rv) ⟨by rw [rl3.length]; exact hnn, F2, ds, s2'.sub, rl3, ?_⟩
                cases ep : Φ key ds with
                | stuck => rw [ep] at w2; exact w2
                | exc c => rw [ep] at w2; exact fun F' H' u st hu => ⟨c, hu, w2 F' H' st⟩
                | ok m d =>
                  rw [ep] at w2
                  cases m with
                  | bo => exact w2.elim
                  | fz => exact ⟨by decide, w2⟩
                  | fr => exact ⟨by decide, w2⟩
              · exact w2.elim
          cases es with
          | nil =>
            refine PySem.W.callWith_K0 (first := [.ref a]) I1.kIn me.kp ?_
            have eg : gs ρ = .ok [] := by rw [hes rfl]
            exact fin [] [] s1' F1 H1 [] (.refl s1.sub) rfl I1 .nil eg
          | cons e es =>
            refine PySem.W.callWith_K (first := [.ref a]) (h₀ := X.base) I.ok.mod.kin me.kp (thn (ha pos pins s1' σ H1 (fun vs H2 => ∃ F2 xs, Step F1 H1 F2 H2 ∧ RpL X.K F2 H2 xs vs ∧ gs ρ = .ok xs) I1 ?_) fun us s2 ⟨vs, H2, I2, r, F2, xs, st2, rl, eg⟩ => ⟨I2.kIn, ?_⟩) (star_cons (hst e List.mem_cons_self)) (star_any _ _ fun y hy => hst y (List.mem_cons_of_mem _ hy))
            · refine ⟨ρ, F1, R.step s1, ?_⟩
              cases eg : gs ρ with
              | stuck => rw [eg] at w1; exact w1
              | exc c => rw [eg] at w1; exact w1
              | ok xs => exact fun vs F2 H2 s2 rl => ⟨F2, xs, s2, rl, rfl⟩
            · exact fin vs us s2 F2 H2 xs st2 rl I2 r eg
        · exact w1.elim
    | _ => exact w1.elim
end
end D3

namespace D3
open PySem PySem.Spec PyProof.Rows L2
/-! ### an owned thing changes -/
def putFD (f : Str) (v : D) : List (Str × D) → List (Str × D)
  | [] => [(f, v)]
  | (g, u) :: r => if g = f then (g, v) :: r else (g, u) :: putFD f v r
theorem RepF.put {K : PySem.W.Frag} {F : Hp} {f : Str} {d : D} {v : V} (rv : RepV K F d v) : ∀ {fs : List (Str × D)} {gs : List (Str × V)}, RepF K F fs gs → RepF K F (putFD f d fs) (putF f v gs)
  | [], _, h => by
    simp only [RepF] at h; subst h
    show RepF K F [(f, d)] [(f, v)]
    simp only [RepF]
    exact ⟨v, [], rfl, rv, rfl⟩
  | (g, u) :: r, _, h => by
    simp only [RepF] at h
    obtain ⟨y, ys, rfl, q, t⟩ := h
    unfold putFD putF
    by_cases hg : g = f
    · rw [if_pos hg, if_pos hg]
      simp only [RepF]
      exact ⟨v, ys, rfl, rv, t⟩
    · rw [if_neg hg, if_neg hg]
      simp only [RepF]
      exact ⟨y, _, rfl, q, RepF.put rv t⟩
section
variable {C : Cw} {X : Cx} {e : Expr} {g : Rho → Res} {pos p pos' : Pos} {f x : Str} {cl : List CI}
end
/-! ### new objects -/
structure MkV0 (K : PySem.W.Frag) (mg : Str → Option Value) (c : Str) : Prop where
  ex : ∃ C, PySem.W.nsIn K mainGlobals c = some (some (.ref C)) ∧ mg c = some (.ref C) ∧ PySem.W.makesIn K C = true ∧ PySem.W.findIn K (.ref C) "__init__" = some (some (.builtin "object.__init__")) ∧ PySem.W.keepIn K (.ref C) = true
theorem step_made {F H : Hp} {a dx C : Addr} (s : Same F H) (ha : H a = none) (hd : H dx = none) (hne : dx ≠ a) : Step F H F (upd (upd H dx (.own a)) a (.ins C dx [])) := by
  have s1 := Step.fresh (.own a) s hd
  refine s1.trans (Step.fresh _ s1.sub ?_)
  rw [upd_ne (fun z => hne z.symm)]; exact ha
end D3

namespace D3
open PySem PySem.Spec PyProof.Rows L2
/-! ### objects made by an own __init__ -/
def spI (K : PySem.W.Frag) (mg : Str → Option Value) (c : Str) (n : Nat) (Φ : List D → Res) : Sp := fun vs H Q E => ∃ x us dx C H1 F ds, vs = .ref x :: us ∧ us.length = n ∧ PySem.W.nsIn K mainGlobals c = some (some (.ref C)) ∧
  H = upd (upd H1 dx (.own x)) x (.ins C dx []) ∧ H1 x = none ∧ H1 dx = none ∧ dx ≠ x ∧ Same F H1 ∧ RepL K F ds us ∧ match Φ ds with
  | .ok _ d => ∀ F' H', Step F H1 F' H' → Rp K F' H' .fr d (.ref x) → Q .non H'
  | .exc c => ∀ F' H' u, Step F H1 F' H' → mg c = some u → E u none H'
  | .stuck => False
structure InV (P : Program) (w : World) (K : PySem.W.Frag) (mg : Str → Option Value) (base : Heap) (CX : CXT) (k : Nat) (c : Str) (n : Nat) (Φ : List D → Res) : Prop where
  ex : ∃ C f fd ps, PySem.W.nsIn K mainGlobals c = some (some (.ref C)) ∧ mg c = some (.ref C) ∧ Mk K C f ∧ FnOk P w K mg base CX k f fd ps (spI K mg c n Φ) ∧ Binds K fd ps []
def makeR (n : Nat) (Φ : List D → Res) (r : ResL) : Res := r.thn fun xs => match allFz xs with
  | some ds => if ds.length = n then (match Φ ds with | .ok _ d => .ok .fr d | r => r) else .stuck
  | none => .stuck
section
variable {C : Cw} {X : Cx} {e : Expr} {es : List Expr} {gs : Rho → ResL} {p pos : Pos} {x c : Str} {k n : Nat} {Φ : List D → Res} {CX : CXT}
theorem run_make_V {C' f : Addr} {fd : FuncData} {ps : List Str} {pins : List (Addr × Obj)} {σ : L2.St} {F H : Hp} {s : Shared} {Q : VK} {us : List Value} {vs : List V} {ds : List D} (ns : PySem.W.nsIn X.K mainGlobals c = some (some (.ref C'))) (M : Mk X.K C' f) (FO : FnOk X.prog X.w X.K X.mg X.base CX k f fd ps (spI X.K X.mg c n Φ)) (hr : Room (k + 1) X.A) (hb : Binds X.K fd ps [])
    (hx : XOk CX (C.at X) X) (I : Inv X pins σ H s) (r : Vals vs us) (sF : Same F H) (rl : RepL X.K F ds vs) (hn : ds.length = n) (w : Want (C.at X) F H σ (match Φ ds with | .ok _ d => .ok .fr d | r => r) Q) : wpAny (model X.prog X.w) X.A (call (.ref C') us) (EP X pins σ Q) X.xe s := by
  have hfx : H (s.heap.objs.size + 1) = none := I.hok.fresh (Nat.le_succ _)
  have hfd : H s.heap.objs.size = none := I.hok.fresh (Nat.le_refl _)
  have hne : s.heap.objs.size ≠ s.heap.objs.size + 1 := Nat.ne_of_lt (Nat.lt_succ_self _)
  have I2 := Inv.made (C := C') I
  have hsp : spI X.K X.mg c n Φ (V.ref (s.heap.objs.size + 1) :: vs) (upd (upd H s.heap.objs.size (.own (s.heap.objs.size + 1))) (s.heap.objs.size + 1) (.ins C' s.heap.objs.size [])) (fun v H2 => v = .non ∧ Q (.ref (s.heap.objs.size + 1)) H2) (fun u _ H' => ∃ c, X.mg c = some u ∧ C.EE c σ H') := by
    refine ⟨_, vs, s.heap.objs.size, C', H, F, ds, rfl, by rw [rl.length]; exact hn, ns, rfl, hfx, hfd, hne, sF, rl, ?_⟩
    cases ep : Φ ds with
    | stuck => rw [ep] at w; exact w
    | exc c => rw [ep] at w; exact fun F' H' u st hu => ⟨c, hu, w F' H' st⟩
    | ok m d => rw [ep] at w; exact fun F' H' st rp => ⟨rfl, w _ F' H' st rp fun _ a ea => by cases ea; exact hfx⟩
  have r2 : Vals (V.ref (s.heap.objs.size + 1) :: vs) (Value.ref (s.heap.objs.size + 1) :: us) := .cons rfl r
  have hl : (Value.ref (s.heap.objs.size + 1) :: us ++ []).length = ps.length := by
    have e := r2.length
    rw [FO.len _ _ _ _ hsp] at e
    rw [List.append_nil]; exact e.symm
  have hb' := hb _ (Value.ref (s.heap.objs.size + 1) :: us) I2.kIn hl
  rw [List.append_nil] at hb'
  refine wpAny_call (make_map (f := f) I.kIn M.makes M.init (beq_iff_eq.mp M.fn) (codeAny_mono (FO.run _ X.stack _ _ ⟨Value.ref (s.heap.objs.size + 1) :: us, []⟩ (Value.ref (s.heap.objs.size + 1) :: us) _ _ _ (hr.make C' us [])
    (I2.env0.make C' us []) hb' r2 hsp) fun r s' hq' => ?_))
  cases r with
  | error e =>
    exact hx pins σ _ _ e s' I2 hq'
  | ok fl =>
    cases fl with
    | ret u =>
      obtain ⟨v, H', I3, rv, ev, q3⟩ := I2.after hq'
      subst ev
      exact ⟨rv, ⟨V.ref (s.heap.objs.size + 1), H', I3, rfl, q3⟩⟩
    | next => exact False.elim hq'
    | brk => exact False.elim hq'
    | cont => exact False.elim hq'
theorem pv_make (M : InV X.prog X.w X.K X.mg X.base CX k c n Φ) (hr : Room (k + 1) X.A) (hx : XOk CX (C.at X) X) (hg : Gl X c) (ha : PAv C X (e :: es) gs) (hdb : (c == ("__debug__" : Str)) = false) (hst : ∀ x ∈ e :: es, notStar x = true) :
    PV C X (.Call (.Name c p) (e :: es) [] pos) (fun ρ => makeR n Φ (gs ρ)) := by
  obtain ⟨C', f, fd, ps, ns, hm, M, FO, hb⟩ := M.ex
  intro pins s σ H Q I h
  rw [tG_eq] at h
  obtain ⟨ρ, F, R, w⟩ := h
  refine wpAny_Call_Name_kw (ld_glob I hg hm ?_ hdb)
  refine PySem.W.callWith_K (h₀ := X.base) I.ok.mod.kin M.kp (thn (ha pos pins s σ H (fun vs H1 => ∃ F1 xs, Step F H F1 H1 ∧ RpL X.K F1 H1 xs vs ∧ gs ρ = .ok xs) I ?_) fun us s1 ⟨vs, H1, I1, r, F1, xs, st1, rl, eg⟩ => ⟨I1.kIn, ?_⟩) (star_cons (hst e List.mem_cons_self)) (star_any _ _ fun y hy => hst y (List.mem_cons_of_mem _ hy))
  · refine ⟨ρ, F, R, ?_⟩
    cases eg : gs ρ with
    | stuck => rw [eg] at w; exact w
    | exc c => rw [eg] at w; exact w
    | ok xs => exact fun vs F2 H2 s2 rl => ⟨F2, xs, s2, rl, rfl⟩
  · rw [eg] at w
    have w1 : Want (C.at X) F1 H1 σ (makeR n Φ (.ok xs)) Q := Want.step st1 w
    unfold makeR at w1
    rw [ResL.thn_ok] at w1
    cases ef : allFz xs with
    | none => rw [ef] at w1; exact w1.elim
    | some ds =>
      rw [ef] at w1
      dsimp only at w1
      split at w1
      · rename_i hn
        exact run_make_V ns M FO hr hb hx I1 r st1.sub (rl.fz ef) hn w1
      · exact w1.elim
end
end D3

namespace D3
open PySem PySem.Spec PyProof.Rows L2
/-! ### isinstance by an own class -/
/-- class c of the text: its answer for each of Python's own kinds is no; for the classes of cl by their ups -/
structure IsV (K : PySem.W.Frag) (mg : Str → Option Value) (cl : List CI) (c : Str) : Prop where
  ex : ∃ C, mg c = some (.ref C) ∧ (∀ t ∈ ["NoneType", "bool", "int", "str", "tuple", "list", "dict"], PySem.W.kitOne K (.type t) (.ref C) = some false) ∧
    ∀ i ∈ cl, ∃ C', PySem.W.nsIn K mainGlobals i.name = some (some (.ref C')) ∧ Cls K C' ∧ PySem.W.findIn K (.ref C') "__class__" = some (some (.builtin "object.__class__")) ∧
      PySem.W.specialIn K (.builtin "object.__class__") "__get__" = some (some (.builtin "getset_descriptor.__get__")) ∧ PySem.W.takesIn K (.builtin "object.__class__") = some true ∧ PySem.W.mroIn K C' (.type "object") = some true ∧
      PySem.W.kitOne K (.ref C') (.ref C) = some (i.ups.contains c)
def isoR (cl : List CI) (c : Str) (r : Res) : Res := r.thn fun _ d => match d with
  | .ins x _ => (match cl.find? (fun i => i.name == x) with | some i => .ok .fz (.bl (i.ups.contains c)) | none => .stuck)
  | d => (match tyN d with | some _ => .ok .fz (.bl false) | none => .stuck)
section
variable {C : Cw} {X : Cx} {e : Expr} {g : Rho → Res} {p q pos : Pos} {c : Str} {cl : List CI}
/-- isinstance(e, c) -/
theorem pv_isi (hI : IsV X.K X.mg cl c) (hg : Gl X "isinstance") (hn : X.mg "isinstance" = none) (hgc : Gl X c) (hdb : (c == ("__debug__" : Str)) = false) (he : PV C X e g) (hs : notStar e = true) :
    PV C X (.Call (.Name "isinstance" p) [e, .Name c q] [] pos) (fun ρ => isoR cl c (g ρ)) := by
  obtain ⟨C', hm, hty, hcl⟩ := hI.ex
  have ha : PA X [e, .Name c q] (tCons (tG (C.at X) g) (tCons (tC (.ref C')) tNil)) := pa_cons he (pa_cons (pe_glob (v := .ref C') hgc hm rfl hdb) pa_nil) (star_cons hs)
  have hc : CallR X (.builtin "isinstance") (fun vs H Q => ∃ v t b, vs = [v, .ref C'] ∧ (∃ (F : Hp) (m : Md) (d : D), Same F H ∧ Rp X.K F H m d v ∧ isoR cl c (.ok m d) = .ok .fz (.bl b)) ∧ t = () ∧ Q (.bl b) H) := by
    intro pins s σ H vs us Q I r h
    obtain ⟨v, _, b, rfl, ⟨F, m, d, sF, rp, hb⟩, _, hq⟩ := h
    obtain ⟨u, u', rfl, ru, ru'⟩ := vals2 r
    cases (show u' = Value.ref C' from ru')
    have fin : ∀ tk, EP X pins σ Q (.bool b) { s with toks := tk } := fun tk => ⟨.bl b, H, I.tok _, rfl, hq⟩
    unfold isoR at hb
    rw [Res.thn_ok] at hb
    cases d with
    | non => cases hb; cases rp.non; cases (show u = Value.none from ru); exact PySem.W.kia_one PySem.W.kitx_none I.kIn True.intro (hty _ (by decide)) (fun z => nomatch z) fin
    | bl y => cases hb; cases rp.bl; cases (show u = Value.bool y from ru); exact PySem.W.kia_one PySem.W.kitx_bool I.kIn True.intro (hty _ (by decide)) (fun z => nomatch z) fin
    | int i => cases hb; cases rp.int; obtain ⟨t, q⟩ := (show ∃ t, u = Value.int i t from ru); cases q; exact PySem.W.kia_one PySem.W.kitx_int I.kIn True.intro (hty _ (by decide)) (fun z => nomatch z) fin
    | str y => cases hb; obtain ⟨rfl, _⟩ := rp.str; obtain ⟨t, q⟩ := (show ∃ t, u = Value.str y t from ru); cases q; exact PySem.W.kia_one PySem.W.kitx_str I.kIn True.intro (hty _ (by decide)) (fun z => nomatch z) fin
    | tup ds =>
      cases hb
      obtain ⟨a, xs, rfl, hq', _⟩ := rp.seqT sF
      cases (show u = Value.ref a from ru)
      obtain ⟨its, _, ⟨o, h1, h2, _⟩, _⟩ := I.tuple hq'
      exact PySem.W.kia_one PySem.W.kitx_tuple I.kIn ⟨o, h1, h2⟩ (hty _ (by decide)) (fun z => nomatch z) fin
    | lst ds =>
      cases hb
      obtain ⟨a, xs, rfl, hq', _⟩ := rp.seqL sF
      cases (show u = Value.ref a from ru)
      obtain ⟨its, _, ⟨o, n, h1, h2, _⟩, _⟩ := I.list hq'
      exact PySem.W.kia_one PySem.W.kitx_list I.kIn ⟨o, h1, h2⟩ (hty _ (by decide)) (fun z => nomatch z) fin
    | dct ds =>
      cases hb
      obtain ⟨a, xs, rfl, hq', _⟩ := rp.dict sF
      cases (show u = Value.ref a from ru)
      obtain ⟨_, _, vs, _, p⟩ := (show ObjOk X.prog X.w H s.heap a (.dK xs) from I.hok a _ hq')
      obtain ⟨o, es, ep, h1, h2, _⟩ := p
      exact PySem.W.kia_one PySem.W.kitx_dict I.kIn ⟨o, h1, h2.1⟩ (hty _ (by decide)) (fun z => nomatch z) fin
    | ins x fs =>
      dsimp only at hb
      cases ef : cl.find? (fun i => i.name == x) with
      | none => rw [ef] at hb; cases hb
      | some i =>
        rw [ef] at hb
        cases hb
        have hi : i.name = x := by simpa using List.find?_some ef
        obtain ⟨C2, n1, cc, f1, f2, f3, f4, f5⟩ := hcl i (List.mem_of_find?_eq_some ef)
        rw [hi] at n1
        obtain ⟨a, C3, dx, gs, rfl, n2, ea, _⟩ := rp.ins sF
        rw [n1] at n2; cases n2
        exact isinst_ok I ru (.ins ea cc f1 f2 f3 f4) f5 fin
    | ty n => cases hb
    | exn n => cases hb
    | set n => cases hb
    | ob a => cases hb
    | fn a => cases hb
  refine PE.imp (pe_callB hc hg hn bb_isinstance ha (by decide) (by decide) (star_cons hs) rfl) fun σ H Q qq => ?_
  rw [tG_eq] at qq
  obtain ⟨ρ, F, R, w⟩ := qq
  unfold tCB tCons
  rw [tG_eq]
  refine ⟨ρ, F, R, ?_⟩
  cases er : g ρ with
  | stuck => rw [er] at w; exact w
  | exc c => rw [er] at w; exact w
  | ok m d =>
    rw [er] at w
    intro v F1 H1 s1 r1 _
    have w1 : Want (C.at X) F1 H1 σ (isoR cl c (.ok m d)) Q := Want.step s1 w
    cases eb : isoR cl c (.ok m d) with
    | stuck => rw [eb] at w1; exact w1.elim
    | exc c' =>
      exfalso
      unfold isoR at eb
      rw [Res.thn_ok] at eb
      cases d with
      | ins x fs => dsimp only at eb; cases ef : cl.find? (fun i => i.name == x) <;> rw [ef] at eb <;> cases eb
      | _ => cases eb
    | ok m' d' =>
      have : ∃ b, m' = .fz ∧ d' = .bl b := by
        unfold isoR at eb
        rw [Res.thn_ok] at eb
        cases d with
        | ins x fs => dsimp only at eb; cases ef : cl.find? (fun i => i.name == x) with
          | none => rw [ef] at eb; cases eb
          | some i => rw [ef] at eb; cases eb; exact ⟨_, rfl, rfl⟩
        | non => cases eb; exact ⟨_, rfl, rfl⟩
        | bl _ => cases eb; exact ⟨_, rfl, rfl⟩
        | int _ => cases eb; exact ⟨_, rfl, rfl⟩
        | str _ => cases eb; exact ⟨_, rfl, rfl⟩
        | tup _ => cases eb; exact ⟨_, rfl, rfl⟩
        | lst _ => cases eb; exact ⟨_, rfl, rfl⟩
        | dct _ => cases eb; exact ⟨_, rfl, rfl⟩
        | _ => cases eb
      obtain ⟨b, rfl, rfl⟩ := this
      rw [eb] at w1
      exact ⟨v, (), b, rfl, ⟨F1, m, d, s1.sub, r1, eb⟩, rfl, w1 _ F1 H1 (.refl s1.sub) (rp_bl _) (by intro z; cases z)⟩
end
end D3

namespace D3
open PySem PySem.Spec PyProof.Rows L2
section
variable {C : Cw} {X : Cx} {a b c e : Expr} {ga gb gc g : Rho → Res} {gs : Rho → ResL} {pos : Pos}
/-! ### is None -/
def isNonD : D → Bool | .non => true | _ => false
theorem rp_nonIff {K : PySem.W.Frag} {F H : Hp} {m : Md} {d : D} {v : V} (s : Same F H) (r : Rp K F H m d v) : decide (v = .non) = isNonD d := by
  cases d with
  | non => cases r.non; rfl
  | bl _ => cases r.bl; rfl
  | int _ => cases r.int; rfl
  | str _ => cases r.str.1; rfl
  | tup _ => obtain ⟨_, _, rfl, _⟩ := r.seqT s; rfl
  | lst _ => obtain ⟨_, _, rfl, _⟩ := r.seqL s; rfl
  | dct _ => obtain ⟨_, _, rfl, _⟩ := r.dict s; rfl
  | ty _ => cases r.ty; rfl
  | ob _ => cases r.ob; rfl
  | ins _ _ => obtain ⟨_, _, _, _, rfl, _⟩ := r.ins s; rfl
  | fn _ =>
    cases m with
    | fz => have r : RepV K F _ v := r; simp only [RepV] at r; obtain ⟨_, rfl, _⟩ := r; rfl
    | fr => obtain ⟨_, _, _, q⟩ := r; exact q.elim
    | bo => obtain ⟨_, _, _, q⟩ := r; exact q.elim
  | exn _ =>
    cases m with
    | fz => have r : RepV K F _ v := r; simp only [RepV] at r; obtain ⟨_, _, rfl, _⟩ := r; rfl
    | fr => obtain ⟨_, _, _, q⟩ := r; exact q.elim
    | bo => obtain ⟨_, _, _, q⟩ := r; exact q.elim
  | set _ =>
    cases m with
    | fz => have r : RepV K F _ v := r; simp only [RepV] at r; obtain ⟨_, _, rfl, _⟩ := r; rfl
    | fr => obtain ⟨_, rfl, _, _⟩ := r; rfl
    | bo => obtain ⟨_, rfl, _, _⟩ := r; rfl
def fIs (neg : Bool) : Md → D → Md → D → Option (Md × D) := fun _ x _ y => match y with
  | .non => some (.fz, .bl (if neg then !isNonD x else isNonD x))
  | _ => none
theorem opd_is : OpD C X (compareOp .Is) (fIs false) := by
  refine ⟨_, op_isN, fun F H m x n y v u k d Q s rx ry e w => ?_⟩
  unfold fIs at e
  split at e
  · cases e
    cases ry.non
    exact ⟨rfl, by rw [rp_nonIff s rx]; exact w _ F H (.refl s) (rp_bl _) (by intro z; cases z)⟩
  · cases e
theorem opd_isnot : OpD C X (compareOp .IsNot) (fIs true) := by
  refine ⟨_, op_notN, fun F H m x n y v u k d Q s rx ry e w => ?_⟩
  unfold fIs at e
  split at e
  · cases e
    cases ry.non
    exact ⟨rfl, by rw [rp_nonIff s rx]; exact w _ F H (.refl s) (rp_bl _) (by intro z; cases z)⟩
  · cases e
theorem isB_is {neg : Bool} : IsB (fIs neg) := fun m x n y k d e => by
  unfold fIs at e
  split at e
  · cases e; exact ⟨_, rfl, rfl⟩
  · cases e
/-! ### chains -/
def chainR (φ ψ : Md → D → Md → D → Option (Md × D)) (x y z : Res) : Res := x.thn fun m d => y.thn fun n e => (Res.of (φ m d n e)).thn fun _ t => match t with
  | .bl true => z.thn fun k f => Res.of (ψ n e k f)
  | .bl false => .ok .fz (.bl false)
  | _ => .stuck
theorem tG_chain {φ ψ : Md → D → Md → D → Option (Md × D)} {r r' : R2} (hφ : IsB φ)
    (h : ∀ F H m x n y v u k d Q, Same F H → Rp C.K F H m x v → Rp C.K F H n y u → φ m x n y = some (k, d) → (∀ v' F' H', Step F H F' H' → Rp C.K F' H' k d v' → (k = .fr → ∀ a, v' = .ref a → H a = none) → Q v' H') → r v u H Q)
    (h' : ∀ F H m x n y v u k d Q, Same F H → Rp C.K F H m x v → Rp C.K F H n y u → ψ m x n y = some (k, d) → (∀ v' F' H', Step F H F' H' → Rp C.K F' H' k d v' → (k = .fr → ∀ a, v' = .ref a → H a = none) → Q v' H') → r' v u H Q)
    {σ : L2.St} {H : Hp} {Q : VK} (q : tG C (fun ρ => chainR φ ψ (ga ρ) (gb ρ) (gc ρ)) σ H Q) : tChain r r' (tG C ga) (tG C gb) (tG C gc) σ H Q := by
  unfold tChain
  rw [tG_eq] at q ⊢
  obtain ⟨ρ, F, R, w⟩ := q
  refine ⟨ρ, F, R, ?_⟩
  cases ea : ga ρ with
  | stuck => simp only [chainR, ea, Res.thn] at w; exact w
  | exc c => simp only [chainR, ea, Res.thn] at w; exact w
  | ok m d =>
    intro v F1 H1 s1 r1 _
    rw [tG_eq]
    refine ⟨ρ, F1, R.step s1, ?_⟩
    have w1 : Want C F1 H1 σ (chainR φ ψ (ga ρ) (gb ρ) (gc ρ)) Q := w.step s1
    rw [ea] at w1
    cases eb : gb ρ with
    | stuck => rw [eb] at w1; exact w1
    | exc c => rw [eb] at w1; exact w1
    | ok n e =>
      rw [eb] at w1
      intro u F2 H2 s2 r2 _
      have w2 : Want C F2 H2 σ ((Res.of (φ m d n e)).thn fun _ t => match t with | .bl true => (gc ρ).thn fun k f => Res.of (ψ n e k f) | .bl false => .ok .fz (.bl false) | _ => .stuck) Q := Want.step s2 w1
      cases ef : φ m d n e with
      | none => rw [ef] at w2; exact w2.elim
      | some kd =>
        obtain ⟨k, d'⟩ := kd
        rw [ef] at w2
        obtain ⟨t, rfl, rfl⟩ := hφ _ _ _ _ _ _ ef
        refine h F2 H2 m d n e v u _ _ _ s2.sub (r1.step s2) r2 ef fun v' F3 H3 s3 r3 _ => ?_
        cases r3.bl
        refine ⟨t, rfl, ?_⟩
        cases t with
        | false =>
          rw [if_neg Bool.false_ne_true]
          exact w2 (.bl false) F3 H3 s3 (rp_bl _) (by intro z; cases z)
        | true =>
          rw [if_pos rfl, tG_eq]
          refine ⟨ρ, F3, ((R.step s1).step s2).step s3, ?_⟩
          have w3 : Want C F3 H3 σ ((gc ρ).thn fun k f => Res.of (ψ n e k f)) Q := Want.step s3 w2
          cases ec : gc ρ with
          | stuck => rw [ec] at w3; exact w3
          | exc c => rw [ec] at w3; exact w3
          | ok k f =>
            rw [ec] at w3
            intro w' F4 H4 s4 r4 _
            have w4 : Want C F4 H4 σ (Res.of (ψ n e k f)) Q := Want.step s4 w3
            cases eg : ψ n e k f with
            | none => rw [eg] at w4; exact w4.elim
            | some kd =>
              obtain ⟨k', d''⟩ := kd
              rw [eg] at w4
              exact h' F4 H4 n e k f u w' k' d'' Q s4.sub ((r2.step s3).step s4) r4 eg w4
theorem pv_chain {op op' : CmpOp} {φ ψ} (o : OpD C X (compareOp op) φ) (o' : OpD C X (compareOp op') ψ) (hφ : IsB φ) (ha : PV C X a ga) (hb : PV C X b gb) (hc : PV C X c gc) (hm : behindInMarks op' c = false) :
    PV C X (.Compare a [op, op'] [b, c] pos) (fun ρ => chainR φ ψ (ga ρ) (gb ρ) (gc ρ)) := by
  obtain ⟨r, h1, h2⟩ := o
  obtain ⟨r', h1', h2'⟩ := o'
  exact PE.imp (pe_chain h1 h1' ha hb hc hm) fun σ H Q q => tG_chain hφ h2 h2' q
theorem chain_bl {φ ψ : Md → D → Md → D → Option (Md × D)} (hψ : IsB ψ) {x y z : Res} {m : Md} {d : D} (h : chainR φ ψ x y z = .ok m d) : ∃ t, m = .fz ∧ d = .bl t := by
  unfold chainR at h
  cases x with
  | stuck => cases h
  | exc _ => cases h
  | ok m1 d1 =>
    cases y with
    | stuck => cases h
    | exc _ => cases h
    | ok m2 d2 =>
      simp only [Res.thn_ok] at h
      cases e : φ m1 d1 m2 d2 with
      | none => rw [e] at h; cases h
      | some kd =>
        obtain ⟨k, t⟩ := kd
        rw [e] at h
        simp only [Res.of_some, Res.thn_ok] at h
        split at h
        · cases z with
          | stuck => cases h
          | exc _ => cases h
          | ok m3 d3 =>
            simp only [Res.thn_ok] at h
            cases e2 : ψ m2 d2 m3 d3 with
            | none => rw [e2] at h; cases h
            | some kd => obtain ⟨k', t'⟩ := kd; rw [e2] at h; cases h; exact hψ _ _ _ _ _ _ e2
        · cases h; exact ⟨_, rfl, rfl⟩
        · cases h
theorem pt_chainv {op op' : CmpOp} {φ ψ} (o : OpD C X (compareOp op) φ) (o' : OpD C X (compareOp op') ψ) (hφ : IsB φ) (hψ : IsB ψ) (ha : PV C X a ga) (hb : PV C X b gb) (hc : PV C X c gc) (hm : behindInMarks op' c = false) :
    PTv C X (.Compare a [op, op'] [b, c] pos) (fun ρ => chainR φ ψ (ga ρ) (gb ρ) (gc ρ)) := by
  obtain ⟨r, h1, h2⟩ := o
  obtain ⟨r', h1', h2'⟩ := o'
  refine PT.imp (pt_chain h1 h1' ha hb hc hm) fun σ H Q q => ?_
  obtain ⟨ρ, F, R, w⟩ := q
  unfold tTest
  refine tG_chain hφ h2 h2' ?_
  rw [tG_eq]
  refine ⟨ρ, F, R, ?_⟩
  dsimp only at w ⊢
  cases er : chainR φ ψ (ga ρ) (gb ρ) (gc ρ) with
  | stuck => rw [er] at w; exact w
  | exc c => rw [er] at w; exact w
  | ok m d =>
    rw [er] at w
    obtain ⟨t, rfl, rfl⟩ := chain_bl hψ er
    intro v F' H' st rp _
    cases rp.bl
    exact ⟨t, rfl, w F' H' st⟩
/-! ### lists and tuples put together -/
/-! ### in: a flat thing in a list or tuple of flat things -/
/-! ### the types called: tuple, list, int, str; min, max of two -/
def tcTuple : List (Md × D) → Option (Md × D)
  | [(_, .lst ds)] => some (.fz, .tup ds)
  | [(.fz, .tup ds)] => some (.fz, .tup ds)
  | _ => none
def tcList : List (Md × D) → Option (Md × D)
  | [(_, .lst ds)] => some (.fr, .lst ds)
  | [(_, .tup ds)] => some (.fr, .lst ds)
  | _ => none
def tcInt : List (Md × D) → Option (Md × D)
  | [(_, .int i)] => some (.fz, .int i)
  | [(_, .bl b)] => some (.fz, .int (if b then 1 else 0))
  | _ => none
def small (i : Int) : Bool := decide (i.natAbs.log2 < 1920)
/-- the figures of a number -/
def numS (i : Int) : Str := Str.ofString (toString i)
def tcStr : List (Md × D) → Option (Md × D)
  | [(_, .int i)] => if small i = true then some (.fz, .str (numS i)) else none
  | _ => none
theorem calld_tuple : CallD X (.type "tuple") tcTuple := by
  refine ⟨_, call_tuple_of, fun F H xs vs k d Q s rx e w => ?_⟩
  unfold tcTuple at e
  split at e
  · rename_i m ds
    cases e
    obtain ⟨v, rfl, r⟩ := rx.one
    obtain ⟨a, xs, rfl, q, rl⟩ := r.seqL s
    exact ⟨a, xs, rfl, .inl ⟨q, fun l hl => w (.ref l) _ _ (Step.laid (.tup xs) s hl) (RepV.tup_of (s.free hl) rl) (by intro z; cases z)⟩⟩
  · rename_i ds
    cases e
    obtain ⟨v, rfl, r⟩ := rx.one
    have r0 := r
    obtain ⟨a, xs, rfl, q, rl⟩ := r.seqT s
    exact ⟨a, xs, rfl, .inr ⟨q, w (.ref a) F H (.refl s) r0 (by intro z; cases z)⟩⟩
  · cases e
theorem calld_list : CallD X (.type "list") tcList := by
  refine ⟨_, call_list_of, fun F H xs vs k d Q s rx e w => ?_⟩
  unfold tcList at e
  split at e
  · rename_i m ds
    cases e
    obtain ⟨v, rfl, r⟩ := rx.one
    obtain ⟨a, xs, rfl, q, rl⟩ := r.seqL s
    exact ⟨a, xs, rfl, .inl q, fun l hl => w (.ref l) F _ (Step.fresh _ s hl) ⟨l, rfl, s.free hl, xs, upd_same, rl⟩ fun _ a ea => by cases ea; exact hl⟩
  · rename_i m ds
    cases e
    obtain ⟨v, rfl, r⟩ := rx.one
    obtain ⟨a, xs, rfl, q, rl⟩ := r.seqT s
    exact ⟨a, xs, rfl, .inr q, fun l hl => w (.ref l) F _ (Step.fresh _ s hl) ⟨l, rfl, s.free hl, xs, upd_same, rl⟩ fun _ a ea => by cases ea; exact hl⟩
  · cases e
theorem calld_int : CallD X (.type "int") tcInt := by
  refine ⟨_, call_int1, fun F H xs vs k d Q s rx e w => ?_⟩
  unfold tcInt at e
  split at e
  · cases e
    obtain ⟨v, rfl, r⟩ := rx.one
    cases r.int
    exact .inl ⟨_, rfl, w _ F H (.refl s) (rp_int _) (by intro z; cases z)⟩
  · cases e
    obtain ⟨v, rfl, r⟩ := rx.one
    cases r.bl
    exact .inr ⟨_, rfl, w _ F H (.refl s) (rp_int _) (by intro z; cases z)⟩
  · cases e
end
end D3

namespace D3
open PySem PySem.Spec PyProof.Rows L2
theorem strOk_num (i : Int) : PyData.strOk (Str.ofString (toString i)) = true := by
  unfold PyData.strOk
  rw [Array.all_eq_true_iff_forall_mem]
  intro c hc
  have hc' : c ∈ (Str.ofString (toString i)).cps.toList := by rw [Array.mem_toList_iff]; exact hc
  have : ¬ (c ≠ 45 ∧ (c < 48 ∨ 57 < c)) := fun h => int_text_free' c h i hc'
  have hb : c < 58 := by omega
  simp
  omega
section
variable {X : Cx}
theorem calld_str : CallD X (.type "str") tcStr := by
  refine ⟨_, call_str_int, fun F H xs vs k d Q s rx e w => ?_⟩
  unfold tcStr at e
  split at e
  · rename_i m i
    split at e
    · rename_i hs
      cases e
      obtain ⟨v, rfl, r⟩ := rx.one
      cases r.int
      have hl : i.natAbs.log2 < 1920 := of_decide_eq_true hs
      have h1 : (numS i).length ≤ 1921 := int_text_len_1921 hl
      have hz : sizeLine = 16777216 := sizeLine_eq
      exact ⟨i, rfl, hl, w _ F H (.refl s) (rp_str ⟨by omega, strOk_num i⟩) (by intro z; cases z)⟩
    · cases e
  · cases e
end
/-! a type called -/
theorem pv_callTy {C : Cw} {X : Cx} {T : String} {φ} {x : Str} {e : Expr} {es : List Expr} {gs : Rho → ResL} {p pos : Pos} (o : CallD X (.type T) φ) (hg : Gl X x) (hm : X.mg x = none) (hv : bootBuiltins x = some (.type T)) (ha : PAv C X (e :: es) gs) (hn : x ≠ "__name__") (hdb : (x == ("__debug__" : Str)) = false)
    (hst : ∀ x ∈ e :: es, notStar x = true) : PV C X (.Call (.Name x p) (e :: es) [] pos) (fun ρ => callR φ (gs ρ)) := by
  obtain ⟨r, h1, h2⟩ := o
  exact PE.imp (pe_callTy h1 hg hm hv ha hn hdb (star_cons (hst e List.mem_cons_self)) (star_any _ _ fun y hy => hst y (List.mem_cons_of_mem _ hy))) fun σ H Q q => tG_call h2 q
end D3

namespace D3
open PySem PySem.Spec PyProof.Rows L2
/-! ### targets: names, brackets of names -/
inductive Tg where
  | nm (i : Nat) | tp (ts : List Tg)
mutual
def setG : Tg → D → Rho → Option Rho
  | .nm i, d, ρ => some (ρ.set i (some (false, d)))
  | .tp ts, d, ρ => match d with
    | .tup ds => setGs ts ds ρ
    | _ => none
def setGs : List Tg → List D → Rho → Option Rho
  | [], ds, ρ => if ds.isEmpty then some ρ else none
  | t :: ts, ds, ρ => match ds with
    | d :: ds => (match setG t d ρ with | some ρ1 => setGs ts ds ρ1 | none => none)
    | [] => none
end
mutual
def slotsG : Tg → List Nat
  | .nm i => [i]
  | .tp ts => slotsGs ts
def slotsGs : List Tg → List Nat
  | [] => []
  | t :: ts => slotsG t ++ slotsGs ts
end

mutual
def gOf (K : PySem.W.Frag) : Tg → TG
  | .nm i => gName i
  | .tp ts => gTup K ts.length (gsOf K ts)
def gsOf (K : PySem.W.Frag) : List Tg → TGs
  | [] => gNil
  | t :: ts => gCons (gOf K t) (gsOf K ts)
end
def PGw (X : Cx) (tg : Expr) (t : Tg) : Prop := PG X tg (gOf X.K t)
def PGws (X : Cx) (tgs : List Expr) (ts : List Tg) : Prop := PGs X tgs (gsOf X.K ts)
def notStarT : Expr → Bool | .Starred .. => false | _ => true
theorem assignEach_cons {e : Expr} {es : List Expr} {env : Env} (h : notStarT e = true) : assignEach (e :: es) env = (false, assign e env) :: assignEach es env := by
  cases e <;> first | rfl | cases h
theorem setGs_len : ∀ {ts : List Tg} {ds : List D} {ρ ρ' : Rho}, setGs ts ds ρ = some ρ' → ds.length = ts.length
  | [], ds, ρ, ρ', e => by
    simp only [setGs] at e
    split at e
    · rename_i h; have : ds = [] := by simpa using h
      subst this; rfl
    · cases e
  | t :: ts, ds, ρ, ρ', e => by
    simp only [setGs] at e
    split at e
    · split at e
      · rw [List.length_cons, List.length_cons, setGs_len e]
      · cases e
    · cases e
mutual
theorem gOf_ok {K : PySem.W.Frag} {F0 H0 : Hp} : ∀ (t : Tg) {F H : Hp} {σ : L2.St} {ρ ρ' : Rho} {d : D} {v : V} {Q : L2.St → Hp → Prop}, RelSt K F0 H0 F H σ ρ → RepV K F d v → setG t d ρ = some ρ' →
    (∀ σ', RelSt K F0 H0 F H σ' ρ' → σ'.length = σ.length → (∀ j, j ∉ slotsG t → σ'[j]? = σ[j]?) → Q σ' H) → gOf K t v σ H Q
  | .nm i, F, H, σ, ρ, ρ', d, v, Q, R, r, e, w => by
    simp only [setG] at e
    cases e
    simp only [gOf]
    refine w _ (R.set (m := false) (.refl R.sub) r (by intro z; cases z)) (by rw [List.length_set]) fun j hj => ?_
    simp only [slotsG, List.mem_singleton] at hj
    rw [List.getElem?_set_ne (fun z => hj z.symm)]
  | .tp ts, F, H, σ, ρ, ρ', d, v, Q, R, r, e, w => by
    simp only [setG] at e
    split at e
    · rename_i ds
      simp only [RepV] at r
      obtain ⟨a, xs, rfl, hq, rl⟩ := r
      simp only [gOf]
      refine ⟨a, xs, rfl, Same.seqT R.sub hq, by rw [rl.length]; exact setGs_len e, gsOf_ok ts R rl e ?_⟩
      simp only [slotsG] at w
      exact w
    · cases e
theorem gsOf_ok {K : PySem.W.Frag} {F0 H0 : Hp} : ∀ (ts : List Tg) {F H : Hp} {σ : L2.St} {ρ ρ' : Rho} {ds : List D} {vs : List V} {Q : L2.St → Hp → Prop}, RelSt K F0 H0 F H σ ρ → RepL K F ds vs → setGs ts ds ρ = some ρ' →
    (∀ σ', RelSt K F0 H0 F H σ' ρ' → σ'.length = σ.length → (∀ j, j ∉ slotsGs ts → σ'[j]? = σ[j]?) → Q σ' H) → gsOf K ts vs σ H Q
  | [], F, H, σ, ρ, ρ', ds, vs, Q, R, r, e, w => by
    simp only [setGs] at e
    split at e
    · cases e
      rename_i hd
      have : ds = [] := by simpa using hd
      subst this
      simp only [RepL] at r
      simp only [gsOf]
      exact ⟨r, w σ R rfl fun _ _ => rfl⟩
    · cases e
  | t :: ts, F, H, σ, ρ, ρ', ds, vs, Q, R, r, e, w => by
    simp only [setGs] at e
    split at e
    · rename_i d ds'
      split at e
      · rename_i ρ1 e1
        simp only [RepL] at r
        obtain ⟨y, ys, rfl, r1, r2⟩ := r
        simp only [gsOf]
        refine ⟨y, ys, rfl, gOf_ok t R r1 e1 fun σ1 R1 l1 k1 => gsOf_ok ts R1 r2 e fun σ2 R2 l2 k2 => w σ2 R2 (l2.trans l1) fun j hj => ?_⟩
        simp only [slotsGs, List.mem_append, not_or] at hj
        rw [k2 j hj.2, k1 j hj.1]
      · cases e
    · cases e
end
section
variable {C : Cw} {X : Cx} {pos : Pos}
theorem pgw_name {x : Str} {i : Nat} (hN : X.N.Nodup) (hi : X.N[i]? = some x) (hx : L2.Loc X.env.scope x) (hf : X.fn x = true ∨ X.env.scope.names.lookup x = some .local) : PGw X (.Name x pos) (.nm i) := by
  unfold PGw
  simp only [gOf]
  exact pg_name hN hi hx hf
theorem pgws_nil : PGws X [] [] := by unfold PGws; simp only [gsOf]; exact pgs_nil
theorem pgws_cons {e : Expr} {es : List Expr} {t : Tg} {ts : List Tg} (h1 : PGw X e t) (h2 : PGws X es ts) (hs : notStarT e = true) : PGws X (e :: es) (t :: ts) := by
  unfold PGws
  simp only [gsOf]
  exact pgs_cons h1 h2 (by rw [assignEach_cons hs]; rfl)
theorem star_none {es : List Expr} {env : Env} (hs : ∀ e ∈ es, notStarT e = true) : (assignEach es env).length = es.length ∧ (assignEach es env).findIdx? (·.1) = none := by
  induction es with
  | nil => exact ⟨rfl, rfl⟩
  | cons e es ih =>
    obtain ⟨h1, h2⟩ := ih fun x hx => hs x (List.mem_cons_of_mem _ hx)
    rw [assignEach_cons (hs e List.mem_cons_self)]
    refine ⟨by rw [List.length_cons, List.length_cons, h1], ?_⟩
    rw [List.findIdx?_cons]
    simp [h2]
theorem pgw_tup {es : List Expr} {ts : List Tg} {k : Nat} (hc : X.calm = true) (h : PGws X es ts) (hs : ∀ e ∈ es, notStarT e = true) (hl : es.length = ts.length) : PGw X (.Tuple es k pos) (.tp ts) := by
  have st := star_none (env := X.env) hs
  unfold PGw
  simp only [gOf]
  exact pg_tup (n := ts.length) hc h (by rw [st.1, hl]) st.2
theorem pgv_of {tg : Expr} {t : Tg} (h : PGw X tg t) : PGv C X tg (setG t) :=
  ⟨_, h, fun F H σ ρ ρ' d v Q R r e w => gOf_ok t R r e fun σ' R' _ _ => w σ' F H (Same.refl _) R'⟩
/-! ### while -/
/-! ### a, b = x, y -/
end
end D3

namespace D3
open PySem PySem.Spec PyProof.Rows L2
section
variable {C : Cw} {X : Cx} {e : Expr} {g : Rho → Res} {pos p : Pos}
end
end D3

namespace D3
open PySem PySem.Spec PyProof.Rows L2
/-! ### a value within braces -/
section
variable {C : Cw} {X : Cx} {e : Expr} {g : Rho → Res} {pos p : Pos}
end
inductive PVL (C : Cw) (X : Cx) : List Expr → List (Rho → Res) → Prop where
  | nil : PVL C X [] []
  | cons {e : Expr} {g : Rho → Res} {es : List Expr} {gs : List (Rho → Res)} (h : PV C X e g) (r : PVL C X es gs) : PVL C X (e :: es) (g :: gs)
end D3

namespace D3
open PySem PySem.Spec PyProof.Rows L2
/-! ### < of tuples -/
inductive LtI (A : Around) (s : Shared) : List Value → List Value → Bool → Prop where
  | nn : LtI A s [] [] false
  | nc {w : Value} {ws : List Value} : LtI A s [] (w :: ws) true
  | cn {v : Value} {vs : List Value} : LtI A s (v :: vs) [] false
  | eq {v w : Value} {vs ws : List Value} {b : Bool} (h : SeqAt.EqAt A s v w true) (r : LtI A s vs ws b) : LtI A s (v :: vs) (w :: ws) b
  | ne {v w : Value} {vs ws : List Value} {b : Bool} (h : SeqAt.EqAt A s v w false) (l : ∀ (prog : Program) (w' : World) (E : Value → Shared → Prop) (Q : Value → Shared → Prop), Q (.bool b) s → wpAny (model prog w') A (richCompare .Lt v w) Q E s) : LtI A s (v :: vs) (w :: ws) b
section
open PySem.SeqAt
open PySem.AutoSeq1 (wpAny_loadPart')
open PySem.MeetsSeq PySem.MeetsSeq2 PySem.MeetsSeq3
end
section
variable {prog : Program} {w : World} {A : Around} {E : Value → Shared → Prop} {s : Shared}
end
end D3

namespace D3
open PySem PySem.Spec PyProof.Rows L2
section
variable {C : Cw} {X : Cx}
/-! ### < of texts, of tuples of flat things -/
/-! ### int of a text -/
def tcInt2 : List (Md × D) → Option (Md × D) := fun xs => match xs with
  | [(_, .str z)] => if z.length ≤ 640 then (PySem.intText? z).map fun n => (.fz, .int n) else none
  | _ => tcInt xs
theorem calld_int2 : CallD X (.type "int") tcInt2 := by
  obtain ⟨r, h1, h2⟩ := calld_int (X := X)
  refine ⟨fun xs H Q => r xs H Q ∨ ∃ z n, xs = [.str z] ∧ z.length ≤ 640 ∧ PySem.intText? z = some n ∧ Q (.int n) H, ?_, fun F H xs vs k d Q s rx e w => ?_⟩
  · intro pins s σ H xs us Q I rr h
    rcases h with h | ⟨z, n, rfl, hl, hn, q⟩
    · exact h1 pins s σ H xs us Q I rr h
    · obtain ⟨u, rfl, t, rfl⟩ := vals1 rr
      exact PySem.W.KIN.call_text hn hl ⟨.int n, H, I.tok _, ⟨_, rfl⟩, q⟩
  · unfold tcInt2 at e
    split at e
    · rename_i m z
      split at e
      · rename_i hl
        cases en : PySem.intText? z with
        | none => rw [en] at e; cases e
        | some n =>
          rw [en] at e
          cases e
          obtain ⟨v, rfl, r0⟩ := rx.one
          obtain ⟨rfl, _⟩ := r0.str
          exact .inr ⟨z, n, rfl, hl, en, w _ F H (.refl s) (rp_int _) (by intro z; cases z)⟩
      · cases e
    · exact .inl (h2 F H xs vs k d Q s rx e w)
/-! ### a text no times -/
end
end D3

namespace D3
open PySem PySem.Spec PyProof.Rows L2
section
open PySem.SeqAt
open PySem.AutoSeq1 (wpAny_loadPart')
open PySem.MeetsSeq PySem.MeetsSeq2 PySem.MeetsSeq3
variable {prog : Program} {w : World} {A : Around} {E : Value → Shared → Prop} {s : Shared}
/-- the next item of a tuple's iterator, asked from within a type of the kit -/
theorem nextT_item {it t : Addr} {i : Nat} {xs : Array Value} {x : Value} {Q : Value → Shared → Prop} (hi : s.heap.IsTupleIter it t i) (ht : IsTup s.heap t xs) (hx : xs[i]? = some x)
    (q : ∀ h', h'.IsTupleIter it t (i + 1) → Heap.SameBut it s.heap h' → Q x { s with heap := h' }) : wpAny (model prog w) A (Builtin.SmallTypes.nextOf (.ref it)) Q E s := by
  have ty := hi.typeIs
  obtain ⟨o, ho, hc, hd⟩ := hi
  obtain ⟨p, hp, _, n, hs⟩ := ht
  delta Builtin.SmallTypes.nextOf
  apply wpAny_bind
  apply wpAny_callSpecial?_slot (name := Str.ofString "__next__") ty F.slot_tuple_iterator_next
  refine wpAny_call_entry F.slot_tuple_iterator_next ty F.entry_tuple_iterator_next ?w (F.args_tuple_iterator_next_1 _)
  case w =>
    refine wpAny_bind (m := field (.ref it) 0) (wpAny_field ho hd (x := .ref t) rfl ?_)
    rw [show (Value.ref t == Value.none) = false from rfl, if_neg Bool.false_ne_true]
    refine wpAny_bind (m := field (.ref it) 1) (wpAny_field ho hd (x := .int i 0) rfl ?_)
    apply wpAny_bind
    apply wpAny_seqItems hp hs
    rw [Int.toNat_natCast]
    simp only [hx]
    apply wpAny_bind
    apply wpAny_setField ho hd (by simp)
    refine wpAny_pure ⟨x, rfl, wpAny_pure (q _ ⟨_, Heap.get?_update_self _ ho (Obj.isFreed_of_fields (Obj.data_mapFields hd _)), ?_, ?_⟩ (Heap.SameBut.update ..))⟩
    · rw [Obj.cls_mapFields, hc]
    · rw [Obj.data_mapFields hd]; simp [rawInt]
/-- no next item -/
theorem nextT_end {it t : Addr} {i : Nat} {xs : Array Value} {Q : Value → Shared → Prop} (h0 : A.handled = none) (hi : s.heap.IsTupleIter it t i) (ht : IsTup s.heap t xs) (hx : xs[i]? = none)
    (q : ∀ h' e, Heap.ExtBut it s.heap h' → (∃ o, h'.get? e = some o ∧ o.cls = .type "StopIteration") → E (.ref e) { s with heap := h' }) : wpAny (model prog w) A (Builtin.SmallTypes.nextOf (.ref it)) Q E s := by
  have ty := hi.typeIs
  obtain ⟨o, ho, hc, hd⟩ := hi
  obtain ⟨p, hp, _, n, hs⟩ := ht
  delta Builtin.SmallTypes.nextOf
  apply wpAny_bind
  apply wpAny_callSpecial?_slot (name := Str.ofString "__next__") ty F.slot_tuple_iterator_next
  refine wpAny_call_entry F.slot_tuple_iterator_next ty F.entry_tuple_iterator_next ?w (F.args_tuple_iterator_next_1 _)
  case w =>
    refine wpAny_bind (m := field (.ref it) 0) (wpAny_field ho hd (x := .ref t) rfl ?_)
    rw [show (Value.ref t == Value.none) = false from rfl, if_neg Bool.false_ne_true]
    refine wpAny_bind (m := field (.ref it) 1) (wpAny_field ho hd (x := .int i 0) rfl ?_)
    apply wpAny_bind
    apply wpAny_seqItems hp hs
    rw [Int.toNat_natCast]
    simp only [hx]
    apply wpAny_bind
    apply wpAny_rule
    apply wpAny_bind
    apply wpAny_setField ho hd (by simp)
    refine wpAny_bind (m := newExc (.type "StopIteration") []) ?_
    simp only [newExc, newTuple]
    apply wpAny_bind
    refine wpAny_newObj_type ?_ (by size_fits)
    apply wpAny_bind (m := firstArgMember _ _)
    refine wpAny_of_eq (a := .none) ?_ ?_
    · first | rfl | (unfold firstArgMember; rfl)
    refine wpAny_newObj_type (hd := by size_fits) ?_
    simp only [raiseNew]
    apply wpAny_bind
    apply wpAny_handled
    first | rw [show A.in1.handled = none from h0] | rw [h0]
    refine wpAny_throw ?_
    exact q _ _ ((Heap.SameBut.extBut (Heap.SameBut.update ..)).push _ |>.push _) ⟨_, Heap.get?_push_size _ rfl, rfl⟩
theorem tup_at {h h' : Heap} {a : Addr} {xs : Array Value} (x : IsTup h a xs) (k : ∀ o, h.get? a = some o → h'.get? a = some o) : IsTup h' a xs := by
  obtain ⟨o, ho, r⟩ := x
  exact ⟨o, k o ho, r⟩
/-! ### zip called -/
end
end D3

namespace D3
open PySem PySem.Spec PyProof.Rows L2
section
variable {X : Cx} {pins : List (Addr × Obj)} {σ : L2.St} {H : Hp} {s : Shared} {h' : Heap}
/-- records of ours have turned, a tuple has been laid -/
theorem inv_pair {t' : Nat} {its : List Addr} {n : Addr} {xs : List V} (I : Inv X pins σ H s) (k : ∀ b o, b ∉ its → s.heap.get? b = some o → h'.get? b = some o) (hf : ∀ b ∈ its, FpOk X pins H b)
    (hn : s.heap.objs.size ≤ n) (new : ∃ us, Vals xs us ∧ IsTup h' n us.toArray) (hz : xs.length ≤ sizeLine) : Inv X pins σ (upd H n (.tup xs)) { s with heap := h', toks := t' } := by
  have fr : H n = none := I.hok.fresh hn
  have lt : ∀ {b o}, s.heap.get? b = some o → b ≠ n := fun e z => absurd (Heap.lt_size e) (by rw [z]; exact Nat.not_lt.mpr hn)
  have nb : ∀ {b u}, H b = some u → b ≠ n := fun e z => by rw [z, fr] at e; cases e
  have ni : ∀ {b u}, H b = some u → b ∉ its := fun e z => by rw [(hf _ z).1] at e; cases e
  refine I.call (g' := s.gens) (d' := s.drawn) (ch := its) ⟨fun b o e _ _ hx => k b o hx e, fun b o e _ _ hx => ⟨o.slots, k b o hx e⟩, fun b o e h0 _ => by rw [upd_ne (lt e)]; exact h0, fun b o e hx => ⟨o, k b o hx e⟩,
    fun b u e => by rw [upd_ne (nb e)]; exact e, fun b u v e => by rw [upd_ne (nb e)]; exact e, fun b u e => ⟨#[], by rw [upd_ne (nb e), e]; simp⟩⟩ (fun b u e => ?_) I.bare fun b hb => ?_
  · by_cases hb : b = n
    · subst hb
      rw [upd_same] at e
      cases e
      exact ⟨hz, new⟩
    · rw [upd_ne hb] at e
      refine (I.hok b u e).stay (fun c v hc q => k c v ?_ q) (fun c q => ?_) fun c v q => ?_
      · rcases hc with z | z
        · rw [z]; exact ni e
        · exact ni z
      · rw [upd_ne (nb q)]; exact q
      · rw [upd_ne (nb q)]; exact q
  · obtain ⟨f0, f1, f2, f3, f4, f5⟩ := hf b hb
    exact ⟨f3, f1, f4, f5⟩
theorem inv_turned {t' : Nat} {its : List Addr} (I : Inv X pins σ H s) (k : ∀ b o, b ∉ its → s.heap.get? b = some o → h'.get? b = some o) (hf : ∀ b ∈ its, FpOk X pins H b) : Inv X pins σ H { s with heap := h', toks := t' } := by
  have ni : ∀ {b u}, H b = some u → b ∉ its := fun e z => by rw [(hf _ z).1] at e; cases e
  refine I.call (g' := s.gens) (d' := s.drawn) (ch := its) ⟨fun b o e _ _ hx => k b o hx e, fun b o e _ _ hx => ⟨o.slots, k b o hx e⟩, fun b o e h0 _ => h0, fun b o e hx => ⟨o, k b o hx e⟩,
    fun b u e => e, fun b u v e => e, fun b u e => ⟨#[], by rw [e]; simp⟩⟩ (fun b u e => ?_) I.bare fun b hb => ?_
  · refine (I.hok b u e).stay (fun c v hc q => k c v ?_ q) (fun _ q => q) fun _ _ q => q
    rcases hc with z | z
    · rw [z]; exact ni e
    · exact ni z
  · obtain ⟨f0, f1, f2, f3, f4, f5⟩ := hf b hb
    exact ⟨f3, f1, f4, f5⟩
end
end D3

namespace D3
open PySem PySem.Spec PyProof.Rows L2
section
variable {C : Cw} {X : Cx} {tg e : Expr} {g : Rho → Res} {gs : Rho → ResL} {pos p : Pos}
end
end D3

namespace D3
open PySem PySem.Spec PyProof.Rows L2
open PySem.AutoSeq1 (wpAny_loadPart')
/-! ### enumerate of a list, of a tuple -/
theorem draws_tuple {prog : Program} {w : World} {A : Around} (hh : A.handled = none) (it t : Addr) (hne : t ≠ it) (items : Array Value) :
    Draws prog w A it [it, t] items.size (fun i v => items[i]? = some v) (fun i h => h.IsTupleIter it t i ∧ IsTup h t items) where
  live := fun _ _ st => let ⟨o, ho, _⟩ := st.1; ⟨o, ho⟩
  frame := fun _ _ _ st hk => ⟨st.1.at fun o e => hk it (by simp) o e, tup_at st.2 fun o e => hk t (by simp) o e⟩
  item := fun i s Q E hi st hQ => by
    refine nextT_item st.1 st.2 (x := items[i]) (by simp [hi]) fun h' hit' hs' => ?_
    exact hQ _ h' s.toks (by simp [hi]) ⟨hit', tup_at st.2 fun o e => hs'.extBut _ o hne e⟩ hs'
  done := fun s Q E st hE => nextT_end hh st.1 st.2 (by simp) hE
theorem meets_enumT (l : Addr) (items : Array Value) :
    Meets (Builtin.«enumerate.__new__» ⟨[.type "enumerate", .ref l], []⟩) (fun _ R s => s.heap.IsTuple l items ∧
      R (.ok (.ret (.ref (s.heap.push { cls := .type "tuple_iterator", data := .fields #[.ref l, .int 0 0] }).objs.size)))
        { s with heap := (s.heap.push { cls := .type "tuple_iterator", data := .fields #[.ref l, .int 0 0] }).push { cls := .type "enumerate", data := .fields #[.none, .bool false, .ref s.heap.objs.size, rawInt 0, .none, .none] } }) :=
  .of_wp fun prog w A R s h => by
    obtain ⟨hp, g, d, tk, os⟩ := s; obtain ⟨hL, h⟩ := h
    have hsub := sub_enumerate
    have hL : Heap.IsTuple (Shared.heap ⟨hp, g, d, tk, os⟩) l items := hL
    obtain ⟨o, ho, hc, n, hd⟩ := id hL
    wp_walk using wpAny_loadPart' ho
    refine wpAny_stack_any fun st => wpAny_pure ?_
    split
    · rename_i c _ _ _ _ _
      cases (c == Value.type "enumerate")
      · wp_walk using wpAny_loadPart' ho, wpAny_pyIter_tuple hL
        exact ⟨_, rfl, h⟩
      · wp_walk using wpAny_loadPart' ho, wpAny_pyIter_tuple hL
        exact ⟨_, rfl, h⟩
    · wp_walk using wpAny_loadPart' ho, wpAny_pyIter_tuple hL
      exact ⟨_, rfl, h⟩
section
variable {prog : Program} {w : World} {A : Around} {E : Value → Shared → Prop} {s : Shared}
theorem call_enumT {a : Addr} {us : Array Value} {Q : Value → Shared → Prop} (ha : s.heap.IsTuple a us)
    (q : ∀ g, IsEnum g (s.heap.objs.size + 1) s.heap.objs.size 0 .none → g.IsTupleIter s.heap.objs.size a 0 → (∀ c u, s.heap.get? c = some u → g.get? c = some u) → Q (.ref (s.heap.objs.size + 1)) { s with heap := g }) :
    wpAny (model prog w) A (call (.type "enumerate") [.ref a]) Q E s := by
  let i0 : Obj := { cls := .type "tuple_iterator", data := .fields #[.ref a, .int 0 0] }
  let e0 : Obj := { cls := .type "enumerate", data := .fields #[.none, .bool false, .ref s.heap.objs.size, rawInt 0, .none, .none] }
  have z1 : (s.heap.push i0).objs.size = s.heap.objs.size + 1 := Heap.size_push ..
  have g1 : ((s.heap.push i0).push e0).get? (s.heap.objs.size + 1) = some e0 := by rw [← z1]; exact Heap.get?_push_size _ rfl
  have g0 : ((s.heap.push i0).push e0).get? s.heap.objs.size = some i0 := Heap.get?_push_of_some _ (Heap.get?_push_size _ rfl)
  have up : ∀ c u, s.heap.get? c = some u → ((s.heap.push i0).push e0).get? c = some u := fun c u z => Heap.get?_push_of_some _ (Heap.get?_push_of_some _ z)
  have fin : (∃ o, ((s.heap.push i0).push e0).get? (s.heap.objs.size + 1) = some o ∧ o.cls = .type "enumerate") ∧ Q (.ref (s.heap.objs.size + 1)) { s with heap := (s.heap.push i0).push e0 } := ⟨⟨e0, g1, rfl⟩, q _ g1 ⟨i0, g0, rfl, rfl⟩ up⟩
  rw [← z1] at fin
  exact callType_new F.called_enumerate (by decide) (F.typeCall_enumerate_1 _) (F.newCall_enumerate_1 _) (fun o => F.args_object_init_2 o _) F.entry_enumerate_new (meets_enumT a us) ⟨ha, fin⟩
end
/-- pairs of a place and an item, each a new tuple; Sq: how the items lie -/
def Ite (Sq : Hp → List V → Prop) : It :=
  ⟨fun i H => ∃ xs x, Sq H xs ∧ xs[i]? = some x,
   fun i H v H' => ∃ p x, v = .ref p ∧ H p = none ∧ H' = upd H p (.tup [.int i, x]) ∧ ∀ xs, Sq H xs → xs[i]? = some x,
   fun i H => ∃ xs, Sq H xs ∧ xs.length ≤ i⟩
section
variable {P : Program} {w : World} {K : PySem.W.Frag} {elts : List Expr} {cx : Nat} {pos : Pos}
/-- one turn of enumerate, by what the iterator within draws -/
theorem turn_enumG {Sq : Hp → List V → Prop} (e it l : Addr) (hei : e ≠ it) (hel : e ≠ l) (hli : l ≠ it) (It' : Nat → Heap → Prop) (At : Heap → Array Value → Prop)
    (live : ∀ i h, It' i h → ∃ o, h.get? it = some o ∧ ∀ v, o.data ≠ .cell v) (keep : ∀ i h h', It' i h → (∀ o, h.get? it = some o → h'.get? it = some o) → It' i h')
    (dr : ∀ A : Around, A.handled = none → ∀ items : Array Value, Draws P w A it [it, l] items.size (fun i v => items[i]? = some v) (fun i h => It' i h ∧ At h items))
    (dn : ∀ (A : Around) (s : Shared) (items : Array Value) (k : Nat) (Q E : Value → Shared → Prop), A.handled = none → It' k s.heap → At s.heap items → items[k]? = none →
      (∀ h' x, Heap.ExtBut it s.heap h' → (∃ o, h'.get? x = some o ∧ o.cls = .type "StopIteration") → E (.ref x) { s with heap := h' }) → wpAny (model P w) A (Builtin.SmallTypes.nextOf (.ref it)) Q E s)
    (look : ∀ (X : Cx) (pins : List (Addr × Obj)) (s : Shared) (σ : L2.St) (H : Hp) (xs : List V), X.prog = P → X.w = w → X.K = K → Inv X pins σ H s → Sq H xs → ∃ us, Vals xs us ∧ At s.heap us.toArray)
    (inj : ∀ (X : Cx) (pins : List (Addr × Obj)) (s : Shared) (σ : L2.St) (H : Hp) (xs ys : List V), X.prog = P → X.w = w → X.K = K → Inv X pins σ H s → Sq H xs → Sq H ys → ys = xs) :
    Turn P w K (.Tuple elts cx pos) (Ite Sq) [e, it] e (fun k h => (∃ old, IsEnum h e it k old) ∧ It' k h) where
  mem := by simp
  obj := fun k h st b hb => by
    obtain ⟨⟨old, he⟩, hi⟩ := st
    simp only [List.mem_cons, List.mem_nil_iff, or_false] at hb
    rcases hb with rfl | rfl
    · exact ⟨_, he, fun v e => by cases e⟩
    · obtain ⟨o, e, d⟩ := live k h hi
      exact ⟨o, e, d⟩
  keep := fun k h h' st q => by
    obtain ⟨⟨old, he⟩, hi⟩ := st
    exact ⟨⟨old, q e (by simp) _ he⟩, keep k h h' hi fun o e => q it (by simp) o e⟩
  item := by
    intro X hP hw hK hc k pins s σ H E I hf st hg
    obtain ⟨⟨old, he⟩, hi⟩ := st
    obtain ⟨xs, x, ql, hx⟩ := hg
    obtain ⟨us, r1, p1⟩ := look X pins s σ H xs hP hw hK I ql
    obtain ⟨u, hu, ru⟩ := r1.get hx
    have hlt : k < us.toArray.size := by
      rw [List.size_toArray]
      exact (List.getElem?_eq_some_iff.mp hu).1
    refine wpAny_pyNext_enum_itemD (dr X.A.in1 (I.ok.hd hc) us.toArray) he ⟨hi, p1⟩ hlt hei (by simp [hei, hel]) fun x' h' tk hx' a1 a2 a3 a4 a5 => ?_
    have : x' = u := by
      rw [List.getElem?_toArray] at hx'
      rw [hu] at hx'
      exact (Option.some.inj hx').symm
    subst this
    refine ⟨_, rfl, wpAny_letOwnedTupleGo_enum (s := { s with heap := h', toks := tk + 1 }) a1 fun h2 b1 b2 => ?_⟩
    have en : s.heap.objs.size ≠ e := fun q => absurd (Heap.lt_size he) (by rw [← q]; exact Nat.lt_irrefl _)
    have up : ∀ b o, b ∉ [e, it] → s.heap.get? b = some o → h2.get? b = some o := fun b o hb z => by
      simp only [List.mem_cons, List.mem_nil_iff, or_false, not_or] at hb
      exact b2.extBut _ _ hb.1 (a5 b o hb.1 hb.2 z)
    have I2 := inv_pair (t' := tk + 1) (xs := [.int k, x]) I up hf (Nat.le_refl _) ⟨[.int k tk, x'], .cons ⟨tk, rfl⟩ (.cons ru .nil), ⟨_, b2.extBut _ _ en a3, rfl, _, rfl⟩⟩ (show 2 ≤ sizeLine by decide +kernel)
    refine ⟨.ref s.heap.objs.size, _, I2, rfl, ⟨_, x, rfl, I.hok.fresh (Nat.le_refl _), rfl, fun zs q => by rw [inj X pins s σ H xs zs hP hw hK I ql q]; exact hx⟩, ?_, fun b hb => ?_⟩
    · have ek : ((k : Int) + 1) = ((k + 1 : Nat) : Int) := by omega
      rw [ek] at b1
      exact ⟨⟨x', b1⟩, keep _ _ _ a2.1 fun o z => b2.extBut _ o hei.symm z⟩
    · have hb0 := hb
      obtain ⟨o, z⟩ : ∃ o, s.heap.get? b = some o := by
        simp only [List.mem_cons, List.mem_nil_iff, or_false] at hb
        rcases hb with rfl | rfl
        · exact ⟨_, he⟩
        · obtain ⟨o, z, _⟩ := live _ _ hi; exact ⟨o, z⟩
      rw [upd_ne fun q => absurd (Heap.lt_size z) (by rw [q]; exact Nat.lt_irrefl _)]
      exact (hf b hb0).1
  done := by
    intro X hP hw hK hc k pins s σ H E I hf st hg
    obtain ⟨⟨old, he⟩, hi⟩ := st
    obtain ⟨xs, ql, hn⟩ := hg
    obtain ⟨us, r1, p1⟩ := look X pins s σ H xs hP hw hK I ql
    have e1 := r1.length
    have te : s.TypeIs (.ref e) "enumerate" := ⟨_, he, rfl⟩
    delta pyNext
    apply wpAny_bind
    apply wpAny_attempt
    apply wpAny_callSpecial?_slot (name := Str.ofString "__next__") te F.slot_enumerate_next
    refine wpAny_call_entry F.slot_enumerate_next te F.entry_enumerate_next ?nx (F.args_enumerate_next_1 _)
    refine wpAny_bind (m := field (.ref e) 2) (wpAny_field he rfl (x := .ref it) rfl ?_)
    refine wpAny_bind (dn X.A.in1 s us.toArray k _ _ (I.ok.hd hc) hi p1 (by simp; omega) fun h' x he' hx' => ?_)
    obtain ⟨o, ho, hc'⟩ := hx'
    refine wpAny_bind (wpAny_isInstance (T := "StopIteration") (b := true) ⟨o, ho, hc'⟩ isSubtype_stop ?_)
    refine wpAny_pure ⟨rfl, inv_turned (t' := s.toks) I (fun b o hb z => he' b o (by
      simp only [List.mem_cons, List.mem_nil_iff, or_false, not_or] at hb
      exact hb.2) z) hf⟩
  self := fun _ _ _ _ _ st h => by
    obtain ⟨⟨old, he⟩, _⟩ := st
    exact wpAny_pyIter_enum he h
theorem turn_enumL (e it l : Addr) (hei : e ≠ it) (hel : e ≠ l) (hli : l ≠ it) : Turn P w K (.Tuple elts cx pos) (Ite fun H => SqL K H l) [e, it] e (fun k h => (∃ old, IsEnum h e it k old) ∧ h.IsListIter it l k) :=
  turn_enumG e it l hei hel hli (fun k h => h.IsListIter it l k) (fun h xs => h.IsList l xs) (fun i h st => by
      obtain ⟨o, e, _, d⟩ := st
      exact ⟨o, e, fun v q => by rw [d] at q; cases q⟩) (fun i h h' st k => st.at k) (fun A hA items => Draws.list hA it l hli items)
    (fun A s items k Q E hA st ha hx q => wpAny_nextOf_list_end hA st ha hx q)
    (fun X pins s σ H xs hP hw hK I q => by
      subst hK
      obtain ⟨us, r, p, _⟩ := I.list q
      exact ⟨us, r, p.isList⟩)
    (fun X pins s σ H xs ys hP hw hK I q q' => by subst hK; exact I.list_inj q' q)
theorem turn_enumT (e it l : Addr) (hei : e ≠ it) (hel : e ≠ l) (hli : l ≠ it) : Turn P w K (.Tuple elts cx pos) (Ite fun H => SqT K H l) [e, it] e (fun k h => (∃ old, IsEnum h e it k old) ∧ h.IsTupleIter it l k) :=
  turn_enumG e it l hei hel hli (fun k h => h.IsTupleIter it l k) (fun h xs => IsTup h l xs) (fun i h st => by
      obtain ⟨o, e, _, d⟩ := st
      exact ⟨o, e, fun v q => by rw [d] at q; cases q⟩) (fun i h h' st k => st.at k) (fun A hA items => draws_tuple hA it l hli items)
    (fun A s items k Q E hA st ha hx q => nextT_end hA st ha hx q)
    (fun X pins s σ H xs hP hw hK I q => by
      subst hK
      obtain ⟨us, r, p, _⟩ := I.tuple q
      exact ⟨us, r, p⟩)
    (fun X pins s σ H xs ys hP hw hK I q q' => by subst hK; exact I.tuple_inj q' q)
end
section
variable {C : Cw} {X : Cx} {tg e : Expr} {g : Rho → Res} {gs : Rho → ResL} {pos p : Pos}
theorem boot_enum : bootBuiltins ("enumerate" : Str) = some (.type "enumerate") := by first | rfl | decide +kernel | kernel_rfl
def iEnum (K : PySem.W.Frag) (ta : TA) : TI := fun σ H R => ta σ H fun vs H1 => ∃ a xs, vs = [.ref a] ∧ ((SqL K H1 a xs ∧ R (Ite fun H => SqL K H a) H1) ∨ (SqT K H1 a xs ∧ R (Ite fun H => SqT K H a) H1))
theorem pi_enum {a : Expr} {ta : TA} {elts : List Expr} {cx} {pp : Pos} (hg : Gl X "enumerate") (hm : X.mg "enumerate" = none) (ha : PA X [a] ta) (hs : starEach [a] X.env = [(false, eval a X.env)] := by rfl) :
    PI X (.Tuple elts cx pp) (.Call (.Name "enumerate" p) [a] [] pos) (iEnum X.K ta) := by
  intro pins s σ H R I h
  refine Call_ (ld_blt I hg hm boot_enum (PyProof.Rows.callWith_type1 (thn (ha pos pins s σ H _ I h) fun us s1 q1 => ?_) (by rw [hs]; rfl) (by rfl)))
  obtain ⟨vs, H1, I1, r1, l, xs, rfl, q⟩ := q1
  cases r1 with
  | cons r rr =>
    cases rr
    cases r
    have fb : ∀ b : Addr, s1.heap.objs.size ≤ b → FpOk X pins H1 b := fun b hb => I1.fpOk hb (I1.hok.fresh hb)
    have fin : ∀ b : Addr, b ∈ [s1.heap.objs.size + 1, s1.heap.objs.size] → FpOk X pins H1 b := fun b hb => by
      simp only [List.mem_cons, List.mem_nil_iff, or_false] at hb
      rcases hb with rfl | rfl
      · exact fb _ (Nat.le_succ _)
      · exact fb _ (Nat.le_refl _)
    rcases q with ⟨ql, q⟩ | ⟨ql, q⟩
    · obtain ⟨ls, _, p1, _⟩ := I1.list ql
      have ll : l < s1.heap.objs.size := by obtain ⟨o, n, e, _⟩ := id p1; exact Heap.lt_size e
      refine call_enumerate_list p1.isList fun h' a1 a2 a3 a4 => wpAny_pyIter_enum (s := { s1 with heap := h' }) a1 ?_
      exact ⟨_, [s1.heap.objs.size + 1, s1.heap.objs.size], _, _, H1, rfl, I1.kept (t' := s1.toks) a4, turn_enumL _ _ l (Nat.succ_ne_self _) (Nat.ne_of_gt (Nat.lt_succ_of_lt ll)) (Nat.ne_of_lt ll), ⟨⟨_, a1⟩, a2⟩, fin, q⟩
    · obtain ⟨ls, _, p1, _⟩ := I1.tuple ql
      have ll : l < s1.heap.objs.size := by obtain ⟨o, e, _⟩ := id p1; exact Heap.lt_size e
      refine call_enumT (show s1.heap.IsTuple l ls.toArray from p1) fun h' a1 a2 a4 => wpAny_pyIter_enum (s := { s1 with heap := h' }) a1 ?_
      exact ⟨_, [s1.heap.objs.size + 1, s1.heap.objs.size], _, _, H1, rfl, I1.kept (t' := s1.toks) a4, turn_enumT _ _ l (Nat.succ_ne_self _) (Nat.ne_of_gt (Nat.lt_succ_of_lt ll)) (Nat.ne_of_lt ll), ⟨⟨_, a1⟩, a2⟩, fin, q⟩
/-- the pairs -/
def enumD : Nat → List D → List D
  | _, [] => []
  | i, d :: ds => .tup [.int i, d] :: enumD (i + 1) ds
theorem enumD_len : ∀ {ds : List D} {i : Nat}, (enumD i ds).length = ds.length
  | [], _ => rfl
  | d :: ds, i => by simp only [enumD, List.length_cons, enumD_len]
theorem enumD_get : ∀ {ds : List D} {j i : Nat} {d : D}, ds[i]? = some d → (enumD j ds)[i]? = some (.tup [.int ((j + i : Nat) : Int), d])
  | [], _, _, _, h => by simp at h
  | x :: ds, j, 0, d, h => by simp at h; subst h; rfl
  | x :: ds, j, i + 1, d, h => by
    have := enumD_get (ds := ds) (j := j + 1) (i := i) (by simpa using h)
    have e : j + 1 + i = j + (i + 1) := by omega
    rw [e] at this
    simpa [enumD] using this
theorem iterOf_enum {K : PySem.W.Frag} {F : Hp} {Sq : Hp → List V → Prop} {ds : List D} {xs : List V} (qa : ∀ H, Same F H → Sq H xs) (ra : RepL K F ds xs) : IterOf K F (Ite Sq) (enumD 0 ds) where
  go := fun i H s hi => by
    rw [enumD_len] at hi
    have h1 : i < xs.length := by rw [ra.length]; omega
    exact ⟨xs, xs[i], qa H s, by simp [h1]⟩
  stop := fun i H s hi => by
    rw [enumD_len] at hi
    exact ⟨xs, qa H s, by rw [ra.length]; omega⟩
  yld := fun i Fc H x H' s1 s2 hi y => by
    rw [enumD_len] at hi
    obtain ⟨p, u, rfl, hp, rfl, hx⟩ := y
    have ex := hx xs (qa H (s1.trans s2))
    obtain ⟨u', e1, r1⟩ := ra.get' (List.getElem?_eq_getElem hi)
    rw [ex] at e1; cases e1
    refine ⟨_, _, enumD_get (List.getElem?_eq_getElem hi), Step.laid (.tup [.int i, u]) s2 hp, ?_⟩
    refine RepV.tup_of (s2.free hp) ?_
    simp only [RepL]
    exact ⟨.int i, [u], rfl, by simp only [RepV, Nat.zero_add], u, [], rfl, r1.mono s1 _ _, rfl⟩
def enumR (r : ResL) : Res := r.thn fun xs => match xs with
  | [(.fz, .lst ds)] => .ok .fz (.lst (enumD 0 ds))
  | [(.fz, .tup ds)] => .ok .fz (.lst (enumD 0 ds))
  | _ => .stuck
theorem piv_enum {a : Expr} {elts : List Expr} {cx} {pp : Pos} (hg : Gl X "enumerate") (hm : X.mg "enumerate" = none) (ha : PAv C X [a] gs) (hs : starEach [a] X.env = [(false, eval a X.env)] := by rfl) :
    PIv C X (.Tuple elts cx pp) (.Call (.Name "enumerate" p) [a] [] pos) (fun ρ => enumR (gs ρ)) := by
  refine PI.imp (pi_enum hg hm ha hs) fun σ H R q => ?_
  obtain ⟨ρ, F, RS, w⟩ := q
  dsimp only at w
  unfold iEnum
  refine ⟨ρ, F, RS, ?_⟩
  cases er : gs ρ with
  | stuck => rw [er] at w; exact w
  | exc c => rw [er] at w; exact w
  | ok xs =>
    rw [er] at w
    intro vs F' H' st rp
    unfold enumR at w
    rw [ResL.thn_ok] at w
    split at w
    · rename_i ds
      obtain ⟨v, rfl, r⟩ := rp.one
      have r : RepV X.K F' (.lst ds) v := r
      simp only [RepV] at r
      obtain ⟨a1, x1, rfl, q1, l1⟩ := r
      exact ⟨a1, x1, rfl, .inl ⟨st.sub.seq q1, w _ F' H' st (iterOf_enum (fun H s => s.seq q1) l1)⟩⟩
    · rename_i ds
      obtain ⟨v, rfl, r⟩ := rp.one
      have r : RepV X.K F' (.tup ds) v := r
      simp only [RepV] at r
      obtain ⟨a1, x1, rfl, q1, l1⟩ := r
      exact ⟨a1, x1, rfl, .inr ⟨Same.seqT st.sub q1, w _ F' H' st (iterOf_enum (fun H s => Same.seqT s q1) l1)⟩⟩
    · exact w.elim
end
end D3

namespace D3
open PySem PySem.Spec PySem.Calls PyProof.Rows L2 PySem.W
section
variable {prog : Program} {w : World} {A : Around} {E : Value → Shared → Prop} {s : Shared} {K : PySem.W.Frag} {x D : Addr} {ox : Obj} {od : Option Obj}
/-- an object of that class -/
def XAt (h : Heap) (x : Addr) (ox : Obj) (D : Addr) : Prop := h.get? x = some ox ∧ ox.cls = .ref D
theorem XAt.type {M : Model} {h : Heap} (I : XAt h x ox D) : Looks M h (typeOf (.ref x)) (.ref D) := I.2 ▸ (Looks.ld I.1).andThen .now
/-- what is known of a class of errors -/
structure XCls (K : PySem.W.Frag) (D : Addr) : Prop where
  ga : PySem.W.findIn K (.ref D) "__getattribute__" = some (some (.builtin "BaseException.__getattribute__"))
  gn : PySem.W.findIn K (.ref D) "__getattr__" = some none
  ca : PySem.W.findIn K (.ref D) "__class__" = some (some (.builtin "object.__class__"))
  bx : PySem.W.mroIn K D (.type "BaseException") = some true
  ob : PySem.W.mroIn K D (.type "object") = some true
  hn : PySem.W.specialIn K (.builtin "object.__class__") "__get__" = some (some (.builtin "getset_descriptor.__get__"))
  tk : PySem.W.takesIn K (.builtin "object.__class__") = some true
theorem xcls_bind (v : Value) : bindSpecial (.builtin "BaseException.__getattribute__") v = pure (.builtin "BaseException.__getattribute__", [v]) := F.excAttr_ValueError.ga.bind v
theorem xcls_check {nameV : Value} {Q : Unit → Shared → Prop} (X : K.In s.heap) (I : XAt s.heap x ox D) (Z : XCls K D) (h : Q () s) :
    wpAny (model prog w) A (checkBuiltinCall "BaseException.__getattribute__" ⟨[.ref x, nameV], []⟩) Q E s := by
  have k1 : builtinKind "BaseException.__getattribute__" = some .slot ∧ splitId "BaseException.__getattribute__" = some ("BaseException", "__getattribute__") := by decide +kernel
  have ha := F.args_bexc_ga (.ref x) nameV
  have L0 := I.type (M := model prog w)
  have L1 := PySem.W.looks_mroIn (M := model prog w) X Z.bx
  obtain ⟨hh, g, d, t, os⟩ := s
  simp only [checkBuiltinCall, k1.1, k1.2]
  refine wpAny_bind ?_
  unfold isInstance
  refine wpAny_bind (L0.at (L1.at ?_))
  repeat (first | wp_step)
  exact h
theorem xcls_find {M : Model} {h : Heap} (X : K.In h) (Z : XCls K D) : Looks M h (Builtin.ObjectAttr.find (.ref x) (.ref D) "__class__") (.bind (.builtin "getset_descriptor.__get__") (.builtin "object.__class__")) := by
  have L1 := PySem.W.looks_findIn (M := M) X Z.ca
  have L2 := PySem.W.looks_specialIn (M := M) X Z.hn
  have L3 := PySem.W.looks_takesIn (M := M) X Z.tk
  unfold Builtin.ObjectAttr.find
  refine L1.andThen ?_
  refine Looks.andThen (a := some (.builtin "getset_descriptor.__get__")) (by exact L2) ?_
  have L4 : Looks M h (Builtin.ObjectAttr.dataDescriptor? (some (.builtin "object.__class__")) (some (.builtin "getset_descriptor.__get__"))) (some (.builtin "getset_descriptor.__get__", .builtin "object.__class__")) := by
    unfold Builtin.ObjectAttr.dataDescriptor?
    refine L3.andThen ?_
    rw [if_pos rfl]
    exact .now
  refine L4.andThen ?_
  exact Looks.tag .now
theorem xcls_get {R : Result → Shared → Prop} {tp : Value} (X : K.In s.heap) (I : XAt s.heap x ox D) (hm : PySem.W.mroIn K D (.type "object") = some true)
    (h : R (.ok (.ret (.ref D))) s) : codeAny (model prog w) A (.call (.builtin "getset_descriptor.__get__") ⟨[.builtin "object.__class__", .ref x, tp], []⟩) R s := by
  obtain ⟨hh, g, dr, t, os⟩ := s
  have L0 := I.type (M := model prog w)
  have L1 := PySem.W.looks_mroIn (M := model prog w) X hm
  refine codeAny_call_builtin KF.slot_gs.plain KF.entry_gs ?_
  refine KF.slot_gs.check _ _ _ _ _ _ _ _ KF.type_class (KF.args_gs _ _ _) ?_
  unfold Builtin.«getset_descriptor.__get__» Builtin.Getset_descriptor.descrGet
  rw [dga_obj]
  refine wpAny_bind (wpAny_pure ?_)
  unfold Builtin.Getset_descriptor.descrGetter Builtin.Getset_descriptor.descrCheckInstance Builtin.Getset_descriptor.descrNameAndClass isInstance
  simp only [KF.owner_class]
  repeat lk
  refine ⟨Code.quiet_builtin _ (by decide +kernel), ?_⟩
  refine codeAny_builtin KF.entry_class ?_
  unfold Builtin.«object.__class__»; unfold shownTypeOf
  repeat lk
  exact h
theorem xcls_entry {tk : Tok} {Q : Fin → Shared → Prop} (X : K.In s.heap) (I : XAt s.heap x ox D) (Z : XCls K D) (h : Q (.done (.ret (.ref D))) s) :
    wpAny (model prog w) A (Builtin.«object.__getattribute__» ⟨[.ref x, .str "__class__" tk], []⟩) Q E s := by
  have L0 := I.type (M := model prog w)
  have L1 := xcls_find (x := x) (M := model prog w) X Z
  unfold Builtin.«object.__getattribute__»
  refine wpAny_bind (m := slotArgs _ _ _) (wpAny_of_eq (a := (.ref x, [.str "__class__" tk])) (by first | rfl | kernel_rfl) ?_)
  refine wpAny_bind (m := Builtin.ObjectAttr.attrName _) (wpAny_of_eq (a := Str.ofString "__class__") (by first | rfl | kernel_rfl) ?_)
  refine wpAny_bind (L0.at (wpAny_bind (L1.at ?_)))
  dsimp only
  unfold Builtin.ObjectAttr.bindTo
  dsimp only
  refine wpAny_bind (wpAny_holding (wpAny_call (xcls_get X I Z.ob ?_)))
  exact wpAny_pure h
theorem xcls_ga {fill expr : Bool} {tk : Tok} {Q : Value → Shared → Prop} (X : K.In s.heap) (I : XAt s.heap x ox D) (Z : XCls K D) (h : Q (.ref D) s) :
    wpAny (model prog w) A (getAttrBy (.ref x) (.str "__class__" tk) fill expr) Q E s := by
  have L0 := I.type (M := model prog w)
  have L1 := PySem.W.looks_findIn (M := model prog w) X Z.ga
  have L2 := PySem.W.looks_findIn (M := model prog w) X Z.gn
  have c0 : (expr && onTheHeap (.builtin "BaseException.__getattribute__")) = false := by cases expr <;> rfl
  have c1 : (onTheHeap (.ref D) && Value.builtin "BaseException.__getattribute__" == .builtin "object.__getattribute__") = false := by
    rw [show (Value.builtin "BaseException.__getattribute__" == .builtin "object.__getattribute__") = false by decide +kernel]; rfl
  unfold getAttrBy
  refine wpAny_holding (wpAny_bind (L0.at (wpAny_bind (L1.at ?_))))
  dsimp only
  rw [if_neg (by rw [c1]; exact Bool.false_ne_true)]
  unfold getAttrByItsOwn hookBefore
  rw [if_pos (by rfl)]
  refine wpAny_bind (L2.at (wpAny_bind (wpAny_attempt (wpAny_holding ?_))))
  unfold callGetattribute
  rw [if_neg (by rw [c0]; exact Bool.false_ne_true)]
  unfold boundAndCalled
  rw [xcls_bind]
  refine wpAny_bind (wpAny_pure (wpAny_call (codeAny_call_builtin F.excAttr_ValueError.ga.plain F.entry_bexc_ga (xcls_check X I Z (xcls_entry X I Z ?_)))))
  exact wpAny_of_eq (PySem.W.handedOut_of rfl) h
theorem xcls_class {Q : Option Value → Shared → Prop} (X : K.In s.heap) (I : XAt s.heap x ox D) (Z : XCls K D) (h : Q (some (.ref D)) { s with toks := s.toks + 1 }) :
    wpAny (model prog w) A (getAttr? (.ref x) "__class__") Q E s := by
  unfold getAttr? getAttrBy?
  refine wpAny_bind (wpAny_mkText (wpAny_bind (wpAny_attempt (xcls_ga (s := { s with toks := s.toks + 1 }) X I Z (wpAny_pure h)))))
theorem kitx_exc (Z : XCls K D) : PySem.W.KitX K (.ref x) (.ref D) (fun h => XAt h x ox D) where
  ty := fun _ _ _ I => I.type
  it := fun _ _ X _ => by
    have := Z.ob
    unfold PySem.W.mroIn at this
    obtain ⟨cdD, hcD, _⟩ := Option.bind_eq_some_iff.mp this
    unfold PySem.W.clsIn at hcD
    split at hcD
    · rename_i c' d' cd' sl' ho
      intro A' Q' E' s' k q
      unfold isType loadHead
      exact wpAny_bind (wpAny_loadPart (k _ _ (X _ _ ho)) (wpAny_pure q))
    · cases hcD
  ne := fun h tp dd its n sl X htp => by
    have := Z.ob
    unfold PySem.W.mroIn at this
    obtain ⟨cdD, hcD, _⟩ := Option.bind_eq_some_iff.mp this
    refine Bool.eq_false_iff.mpr fun q => ?_
    have e : D = tp := Value.ref.inj (beq_iff_eq.mp q)
    subst e
    unfold PySem.W.clsIn at hcD
    split at hcD
    · rename_i c' d' cd' sl' ho
      have z := (X _ _ ho).symm.trans htp
      cases z
    · cases hcD
  ca := fun X I k => xcls_class X I Z k
/-- does an error of that class match another class? -/
theorem xmatch {e C2 : Addr} {b : Bool} {Q : Bool → Shared → Prop} (X : K.In s.heap) (I : XAt s.heap e ox D) (h2 : PySem.W.mroIn K C2 (.type "BaseException") = some true) (hty : PySem.W.typeIn K (.ref C2) = some (.type "type")) (hb : PySem.W.mroIn K D (.ref C2) = some b) (h : Q b s) :
    wpAny (model prog w) A (excMatches (.ref e) (.ref C2)) Q E s := by
  have L0 := I.type (M := model prog w)
  have L1 := PySem.W.looks_typeIn (M := model prog w) X hty
  have L3 := PySem.W.looks_mroIn (M := model prog w) X h2
  have L4 := PySem.W.looks_mroIn (M := model prog w) X hb
  have L5 : Looks (model prog w) s.heap (isType (.ref C2)) true := by
    unfold PySem.W.mroIn at h2
    obtain ⟨cdD, hcD, _⟩ := Option.bind_eq_some_iff.mp h2
    unfold PySem.W.clsIn at hcD
    split at hcD
    · rename_i c' d' cd' sl' ho
      intro A' Q' E' s' k q
      unfold isType loadHead
      exact wpAny_bind (wpAny_loadPart (k _ _ (X _ _ ho)) (wpAny_pure q))
    · cases hcD
  unfold excMatches
  refine wpAny_bind ?_
  unfold isInstance
  refine wpAny_bind (L1.at (wpAny_of_eq tc_notTuple ?_))
  rw [if_neg Bool.false_ne_true]
  refine wpAny_bind (wpAny_pure ?_)
  dsimp only
  rw [List.forIn_cons]
  refine wpAny_bind (wpAny_bind (wpAny_bind ?_))
  unfold isExcClass
  refine wpAny_bind (L5.at ?_)
  rw [if_pos rfl]
  refine L3.at ?_
  rw [Bool.not_true, if_neg Bool.false_ne_true]
  refine wpAny_pure ?_
  dsimp only
  rw [List.forIn_nil]
  refine wpAny_pure (wpAny_bind (L0.at ?_))
  rw [List.forIn_cons]
  refine wpAny_bind (wpAny_bind (wpAny_bind (L4.at ?_)))
  cases b with
  | true => rw [if_pos rfl]; exact wpAny_pure (wpAny_pure (wpAny_pure h))
  | false =>
    rw [if_neg Bool.false_ne_true]
    refine wpAny_pure ?_
    dsimp only
    rw [List.forIn_nil]
    exact wpAny_pure (wpAny_pure h)
end
end D3

namespace D3
open PySem PySem.Spec PySem.Calls PyProof.Rows L2
/-! ### an error in flight -/
structure Fly (P : Program) (w : World) (outer : List Env) (H : Hp) (s : Shared) (H1 : Hp) (B hp : Heap) : Prop where
  un : Un (frs outer) [] H H1 s.heap hp
  ok : HOk P w H1 hp
  kb : ∀ b o, hp.get? b = some o → s.heap.get? b ≠ none → b ∉ frs outer → B.get? b = some o
  kh : ∀ b u, H1 b = some u → ∃ o, hp.get? b = some o ∧ B.get? b = some o
  fr : ∀ b ∈ frs outer, H b = none ∧ ∃ o, s.heap.get? b = some o ∧ ∀ vs, o.data ≠ .fields vs
section
variable {P : Program} {w : World} {outer : List Env} {H H1 : Hp} {s : Shared} {B hp h' : Heap}
theorem no_nil {b : Addr} : b ∉ ([] : List Addr) := by simp
theorem Fly.slots (f : Fly P w outer H s H1 B hp) (up : hp.UpToSlots h') {b : Addr} (hb : b ∈ frs outer) : ∃ o sl sl', s.heap.get? b = some o ∧ hp.get? b = some { o with slots := sl } ∧ h'.get? b = some { o with slots := sl' } := by
  obtain ⟨hn, o, e, nf⟩ := f.fr b hb
  obtain ⟨sl, e1⟩ := f.un.slot b o e hn hb no_nil
  obtain ⟨sl', e2⟩ := up b _ e1 nf
  exact ⟨o, sl, sl', e, e1, e2⟩
theorem Fly.on (f : Fly P w outer H s H1 B hp) (st : B.StaysIn h') (up : hp.UpToSlots h') : Fly P w outer H s H1 B h' where
  un := {
    keep := fun b o e n hb _ => st b o (f.kb b o (f.un.keep b o e n hb no_nil) (by rw [e]; exact fun z => nomatch z) hb)
    slot := fun b o e n hb _ => by
      obtain ⟨o', sl, sl', e0, _, e2⟩ := f.slots up hb
      rw [e] at e0; cases e0
      exact ⟨sl', e2⟩
    free := f.un.free
    there := fun b o e _ => by
      by_cases hb : b ∈ frs outer
      · obtain ⟨o', sl, sl', e0, _, e2⟩ := f.slots up hb
        exact ⟨_, e2⟩
      · obtain ⟨o', e1⟩ := f.un.there b o e no_nil
        exact ⟨o', st b o' (f.kb b o' e1 (by rw [e]; exact fun z => nomatch z) hb)⟩
    tups := f.un.tups
    frzs := f.un.frzs
    tbls := f.un.tbls }
  ok := fun a o e => (f.ok a o e).stay (fun b u hb q => by
      have : ∃ u', H1 b = some u' := by
        rcases hb with rfl | hb
        · exact ⟨o, e⟩
        · exact ⟨_, hb⟩
      obtain ⟨u', eu⟩ := this
      obtain ⟨o', e1, e2⟩ := f.kh b u' eu
      rw [q] at e1; cases e1
      exact st b u e2) (fun _ q => q) fun _ _ q => q
  kb := fun b o e ns hb => by
    cases e0 : s.heap.get? b with
    | none => exact absurd e0 ns
    | some o0 =>
      obtain ⟨o', e1⟩ := f.un.there b o0 e0 no_nil
      have e2 := f.kb b o' e1 ns hb
      have e3 := st b o' e2
      rw [e] at e3; cases e3
      exact e2
  kh := fun b u e => by
    obtain ⟨o, _, e2⟩ := f.kh b u e
    exact ⟨o, st b o e2, e2⟩
  fr := f.fr
end
/-- how an error lies behind a call -/
def CX1 (P : Program) (w : World) : CXT := fun outer H s E ev s' => ∃ (e C : Addr) (a0 : Value) (H1 : Hp) (B : Heap),
  ev = .ref e ∧ s'.os = s.os ∧ AllBare s'.gens ∧ Heap.FlyingW B outer e (.ref C) a0 s'.heap ∧ Fly P w outer H s H1 B s'.heap ∧ E (.ref C) none H1
section
variable {X : Cx} {pins : List (Addr × Obj)} {σ : L2.St} {H H1 : Hp} {s s' : Shared} {B hp : Heap} {E : XK}
theorem inv_frs (I : Inv X pins σ H s) : ∀ b ∈ frs X.stack, H b = none ∧ ∃ o, s.heap.get? b = some o ∧ ∀ vs, o.data ≠ .fields vs := fun b hb =>
  ⟨I.stkFree b hb, (I.stack.mem hb).2⟩
/-- behind a call that has raised: the caller's state, while the error flies -/
theorem Fly.inv (I : Inv X pins σ H s) (f : Fly X.prog X.w X.stack H s H1 B s'.heap) (ho : s'.os = s.os) (hg : AllBare s'.gens) : Inv X pins σ H1 s' :=
  Inv.call' (ch := []) I ho f.un f.ok hg (fun b z => absurd z no_nil)
/-- .. and one frame further -/
theorem Fly.out (I : Inv X pins σ H s) (f : Fly X.prog X.w X.stack H s H1 B s'.heap) (ho : s'.os = s.os) (hg : AllBare s'.gens) (hx : X.ex = []) (hs : X.stack = X.env :: X.outer) (hf : X.env.frame = some X.env.locals)
    {h' : Heap} (st : B.StaysIn h') (up : s'.heap.UpToSlots h') : Fly X.prog X.w X.outer X.H₀ X.s₀ H1 B h' := by
  have I1 := f.inv I ho hg
  have f1 := f.on st up
  have ub := I1.base
  rw [hx] at ub
  have old : ∀ b o, X.s₀.heap.get? b = some o → ∃ o', s.heap.get? b = some o' := fun b o e => I.base.there b o e (by rw [hx]; exact no_nil)
  have nl : ∀ b o, X.s₀.heap.get? b = some o → b ≠ X.env.locals := fun b o e z => absurd (Heap.lt_size e) (by rw [z]; exact Nat.not_lt.mpr I.ok.above)
  have sub : ∀ b, b ∉ frs X.outer → b ≠ X.env.locals → b ∉ frs X.stack := fun b h1 h2 z => by
    rcases List.mem_cons.mp (I.stkSub b z) with q | q
    · exact h2 q
    · exact h1 q
  have sup : ∀ b, b ∈ frs X.outer → b ∈ frs X.stack := fun b hb => by
    rw [hs]; unfold frs; rw [List.filterMap_cons, hf]; exact List.mem_cons_of_mem _ hb
  refine ⟨⟨fun b o e n hb _ => ?_, fun b o e n hb _ => ?_, ub.free, fun b o e _ => ?_, ub.tups, ub.frzs, ub.tbls⟩, f1.ok, fun b o e ns hb => ?_, f1.kh, fun b hb => ?_⟩
  · have e1 := ub.keep b o e n hb no_nil
    obtain ⟨o', e0⟩ := old b o e
    exact st b o (f.kb b o e1 (by rw [e0]; exact fun z => nomatch z) (sub b hb (nl b o e)))
  · obtain ⟨sl, e1⟩ := ub.slot b o e n hb no_nil
    obtain ⟨o', sl1, sl2, e0, e1', e2⟩ := f.slots up (sup b hb)
    have q := Option.some.inj (e1.symm.trans e1')
    refine ⟨sl2, ?_⟩
    rw [e2]
    obtain ⟨c1, d1, t1, l1⟩ := o
    obtain ⟨c2, d2, t2, l2⟩ := o'
    simp only [Obj.mk.injEq] at q
    obtain ⟨rfl, rfl, rfl, _⟩ := q
    rfl
  · obtain ⟨o', e0⟩ := old b o e
    exact f1.un.there b o' e0 no_nil
  · cases e0 : X.s₀.heap.get? b with
    | none => exact absurd e0 ns
    | some o0 =>
      obtain ⟨o', e1⟩ := old b o0 e0
      exact f1.kb b o e (by rw [e1]; exact fun z => nomatch z) (sub b hb (nl b o0 e0))
  · exact ⟨I.ok.frf b hb, (I.ok.funs.mem hb).2⟩
/-- the state at a raise, as one that flies: all but the frames is kept -/
def hidF (h : Heap) (l : List Env) : Heap := PySem.W.hideAll h (frs l)
theorem Fly.raise (I : Inv X pins σ H s) (hx : X.ex = []) (hs : X.stack = X.env :: X.outer) (hf : X.env.frame = some X.env.locals) {h' : Heap} (st : (hidF s.heap X.stack).StaysIn h') (up : s.heap.UpToSlots h') : Fly X.prog X.w X.outer X.H₀ X.s₀ H (hidF s.heap X.stack) h' := by
  have f : Fly X.prog X.w X.stack H s H (hidF s.heap X.stack) s.heap :=
    ⟨Un.refl, I.hok, fun b o e _ hb => PySem.W.hideAll_get _ e hb, fun b u e => by
      have hn : b ∉ frs X.stack := fun z => by rw [I.stkFree b z] at e; cases e
      have : ∃ o, s.heap.get? b = some o := by
        have := I.hok b u e
        cases u with
        | lst xs => obtain ⟨_, _, _, _, e⟩ := this; exact ⟨_, e⟩
        | tup xs => obtain ⟨_, _, _, o, e, _⟩ := this; exact ⟨_, e⟩
        | dK kvs => obtain ⟨_, _, _, _, o, _, _, e, _⟩ := this; exact ⟨_, e⟩
        | dT kvs => obtain ⟨_, _, _, _, o, _, _, e, _⟩ := this; exact ⟨_, e⟩
        | set S n => obtain ⟨o, _, _, _, e, _⟩ := this; exact ⟨_, e⟩
        | ins C dx fs => obtain ⟨_, _, _, e, _⟩ := this; exact ⟨_, e⟩
        | own y => obtain ⟨_, e⟩ := this; exact ⟨_, e⟩
        | xd fs => obtain ⟨_, ⟨_, _, _, e, _⟩, _⟩ := this; exact ⟨_, e⟩
        | rng lo hi => obtain ⟨_, _, _, e⟩ := this; exact ⟨_, e⟩
        | frz ob u => obtain ⟨e, _⟩ := this; exact ⟨_, e⟩
        | tbl ps => exact ⟨_, this⟩
        | met f y => exact ⟨_, this⟩
        | ext φ => obtain ⟨_, ⟨_, e⟩, _⟩ := this; exact ⟨_, e⟩
      obtain ⟨o, eo⟩ := this
      exact ⟨o, eo, PySem.W.hideAll_get _ eo hn⟩, inv_frs I⟩
  exact f.out I rfl I.bare hx hs hf st up
end
end D3

namespace D3
open PySem PySem.Spec PySem.Calls PyProof.Rows L2
/-! ### raise -/
/-- a class of errors of the text, straight or not under ValueError: what a raise wants -/
def vErr : List Value := [.type "ValueError", .type "Exception", .type "BaseException", .type "object"]
def RzCls (K : PySem.W.Frag) (C : Addr) : Prop := PySem.W.excIn K C vErr "ValueError.__new__" = true
/-- what the surroundings want of an error that is made here -/
def RzOk (C : Cw) (X : Cx) : Prop := ∀ (pins : List (Addr × Obj)) (σ : L2.St) (H : Hp) (s : Shared) (c : Str) (Cc : Addr) (vs : List Value) (h' : Heap) (e : Addr), Inv X pins σ H s → X.mg c = some (.ref Cc) → C.EE c σ H →
  Heap.MadeExcOf s.heap h' e (.ref Cc) vs → X.xe (.ref e) { s with heap := h' }
def rzR (c : Str) (ρ : Rho) : ResL → SRes
  | .ok xs => if xs.length ≤ sizeLine then .exc c ρ else .stuck
  | .exc c' => .exc c' ρ
  | .stuck => .stuck
/-- the object of such a class, over a heap -/
theorem rz_obj {K : PySem.W.Frag} {C : Addr} (q : RzCls K C) : ∃ bm N nm qn bs hd sn sub ab col dd k0 k1 k2 k3 k5, ∀ h : Heap, K.In h → h.get? C = some (excClassObj nm qn C N bs bm hd sn sub ab col dd k0 k1 k2 k3 k5 "ValueError.__new__") ∧
    h.Ns N (h.nsMap N) ∧ h.nsMap N "__init__" = none ∧ OwnTail h vErr bm := by
  unfold RzCls PySem.W.excIn at q
  split at q
  · rename_i dd cd sl ho
    split at q
    · rename_i C' bm k0 k1 k2 k3 n k5 hm hs
      rw [Bool.and_eq_true, Bool.and_eq_true, Bool.and_eq_true, Bool.and_eq_true, Bool.and_eq_true] at q
      obtain ⟨⟨⟨⟨⟨q1, q2⟩, q3⟩, q4⟩, q5⟩, q6⟩ := q
      obtain ⟨nm, bs, mro, ns, qn, hd, sn, sub, ab, col, del⟩ := cd
      have e1 : C' = C := beq_iff_eq.mp q1
      have e2 : n = "ValueError.__new__" := beq_iff_eq.mp q2
      have e3 : del = false := by simpa using q3
      have e4 : sl = #[k0, k1, k2, k3, some (.builtin n), k5] := Array.ext' hs
      have e5 : mro = .ref C' :: bm := hm
      subst e1 e2 e3 e4 e5
      refine ⟨bm, ns, nm, qn, bs, hd, sn, sub, ab, col, dd, k0, k1, k2, k3, k5, fun h X => ⟨X _ _ ho, .of_isNs (PySem.W.isNs_of_in X q5), PySem.W.nsMap_none_of_in X q5 (beq_iff_eq.mp q6), PySem.W.tail_of_in X q4⟩⟩
    · cases q
  · cases q
theorem rpl_len {K : PySem.W.Frag} {F H : Hp} : ∀ {xs : List (Md × D)} {vs : List V}, RpL K F H xs vs → vs.length = xs.length
  | [], _, h => by rw [show _ = [] from h]; rfl
  | _ :: _, _, h => by obtain ⟨v, us, rfl, _, r⟩ := h; rw [List.length_cons, List.length_cons, rpl_len r]
section
variable {C : Cw} {X : Cx} {e : Expr} {es : List Expr} {gs : Rho → ResL} {x : Str} {np cpos pos : Pos}
theorem psv_raise {Cc : Addr} (hm : X.mg x = some (.ref Cc)) (Z : RzCls X.K Cc) (hh : X.A.handled = none) (hr : RzOk C X) (hg : Gl X x) (ha : PAv C X (e :: es) gs) (hd : (x == ("__debug__" : Str)) = false) (hst : ∀ y ∈ e :: es, notStar y = true) :
    PSv C X (.Raise (some (.Call (.Name x np) (e :: es) [] cpos)) none pos) (fun ρ => rzR x ρ (gs ρ)) := by
  intro pins s σ H En I q
  obtain ⟨ρ, F, R, w⟩ := q
  obtain ⟨bm, N, nm, qn, bs, hdc, sn, sub, ab, col, dd, k0, k1, k2, k3, k5, hobj⟩ := rz_obj Z
  have vb := _root_.PySem.F.excBase_ValueError
  have B0 := hobj X.base I.mod.kin
  have st := star_cons (es := es) (env := X.env) (hst e List.mem_cons_self)
  refine wpAny_Raise_call_subU (C := Cc) (nm := nm) (q := qn) (N := N) (bs := bs) (bm := bm) (hdct := hdc) (sn := sn) (sub := sub) (ab := ab) (col := col) (dd := dd) (k0 := k0) (k1 := k1) (k2 := k2) (k3 := k3) (k5 := k5)
    vb vb.hasB vb (mN := X.base.nsMap N) (B0.2.2.2.hasType vb.hasBase) hh (star_any _ _ hst) B0.2.2.1 (ld_glob I hg hm ⟨rfl, ?_⟩ hd)
  rw [st]
  refine Calls.evalArgs_plain ?_
  have main := ha cpos pins s σ H (fun vs H1 => vs.length ≤ sizeLine ∧ C.EE x σ H1) I ?_
  · rw [st] at main
    refine wpAny_mono main (fun us s2 h2 => ?_) fun _ _ z => z
    obtain ⟨vs, H1, I1, r1, hl, he⟩ := h2
    have B1 := hobj s2.heap I1.kIn
    exact ⟨rfl, by rw [← r1.length]; exact hl, B1.1, B0.2.1.keeps I1.bk, B1.2.2.2, fun h' ex made => hr pins σ H1 s2 x Cc us h' ex I1 hm he made⟩
  · refine ⟨ρ, F, R, ?_⟩
    dsimp only at w
    cases er : gs ρ with
    | stuck => rw [er] at w; exact w
    | exc c => rw [er] at w; exact fun F' H' st => w σ F' H' st.fsame (R.step st)
    | ok xs =>
      rw [er] at w
      intro vs F' H' st rp
      have w : WantS (C.at X) F (if xs.length ≤ sizeLine then .exc x ρ else .stuck) En := w
      split at w
      · rename_i hl
        exact ⟨by rw [rpl_len rp]; exact hl, w σ F' H' st.fsame (R.step st)⟩
      · exact w.elim
/-! ### contexts: a def's body -/
structure FnCx (X : Cx) : Prop where
  hx : X.ex = []
  hs : X.stack = X.env :: X.outer
  hf : X.env.frame = some X.env.locals
end
section
variable {P : Program} {w : World} {K : PySem.W.Frag} {mg : Str → Option Value} {base : Heap} {N : List Str} {qual : Str} {scope : Scope} {f : Addr} {cdv : Value} {A : Around} {outer : List Env} {s : Shared} {H : Hp} {E : XK}
theorem fnCx : FnCx (cxOf (CX1 P w) P w K mg base N qual scope f cdv A outer s H E) := ⟨rfl, rfl, rfl⟩
/-- the wish about errors, by names of classes -/
def eeOf (mg : Str → Option Value) (E : XK) : XE := fun c _ H' => ∀ u, mg c = some u → E u none H'
theorem xok_fn {C : Cw} (hE : C.EE = eeOf mg E) : XOk (CX1 P w) C (cxOf (CX1 P w) P w K mg base N qual scope f cdv A outer s H E) := by
  intro pins σ H1 s1 ev s' I h
  obtain ⟨e, Cc, a0, H2, B, rfl, ho, hg, fl, fy, c, hm, he⟩ := h
  rw [hE] at he
  have I0 := I.ok.frames
  refine wpAny_leaves_onW I0 rfl fl fun h' fl' up => ?_
  exact ⟨e, Cc, a0, H2, B, rfl, ho.trans I.os, hg, fl', fy.out I ho hg rfl rfl rfl fl'.1 up, he _ hm⟩
theorem rzok_fn {C : Cw} (hE : C.EE = eeOf mg E) : RzOk C (cxOf (CX1 P w) P w K mg base N qual scope f cdv A outer s H E) := by
  intro pins σ H1 s1 c Cc vs h1 e I hm he made
  rw [hE] at he
  have I0 := I.ok.frames
  have hin : ∀ env ∈ (cxOf (CX1 P w) P w K mg base N qual scope f cdv A outer s H E).stack, ∀ a, env.frame = some a → a ∈ frs (cxOf (CX1 P w) P w K mg base N qual scope f cdv A outer s H E).stack := fun env he a ha => List.mem_filterMap.mpr ⟨env, he, ha⟩
  have FF : s1.heap.FunFrames (hidF s1.heap (cxOf (CX1 P w) P w K mg base N qual scope f cdv A outer s H E).stack) _ := PySem.W.funFrames_hide I.stack hin
  have st0 : (hidF s1.heap (cxOf (CX1 P w) P w K mg base N qual scope f cdv A outer s H E).stack).StaysIn s1.heap := fun b o q => PySem.W.of_hideAll _ q
  refine wpAny_leaves_madeW (s := { s1 with heap := h1 }) I0 rfl st0 FF made fun h' t fl _ _ up => ?_
  have up0 : s1.heap.UpToSlots h' := (Heap.UpToSlots.of_keeps made.keeps).trans up
  exact ⟨e, Cc, .ref t, H1, _, rfl, I.os, I.bare, fl, Fly.raise I rfl rfl rfl fl.1 up0, he _ hm⟩
end
end D3

namespace D3
open PySem PySem.Spec PySem.Calls PyProof.Rows L2
/-! ### try, except -/
structure HX where
  cls : Str
  slot : Option Nat
  g : Rho → SRes
def unS {α : Type} (i : Option Nat) (ρ : List (Option α)) : List (Option α) := match i with | none => ρ | some i => ρ.set i none
def inR (i : Option Nat) (c : Str) (ρ : Rho) : Rho := match i with | none => ρ | some i => ρ.set i (some (false, .exn c))
def unR (i : Option Nat) : SRes → SRes
  | .nx ρ => .nx (unS i ρ)
  | .bk ρ => .bk (unS i ρ)
  | .ct ρ => .ct (unS i ρ)
  | .rt m d => .rt m d
  | _ => .stuck
def hndR (xt : Str → Str → Option Bool) (c : Str) (ρ : Rho) : List HX → SRes
  | [] => .stuck
  | h :: r => match xt c h.cls with
    | some true => unR h.slot (h.g (inR h.slot c ρ))
    | some false => hndR xt c ρ r
    | none => .stuck
def tryR (xt : Str → Str → Option Bool) (hs : List HX) : SRes → SRes
  | .exc c ρ => hndR xt c ρ hs
  | r => r
/-- the classes of errors among one another -/
def XtOk (K : PySem.W.Frag) (mg : Str → Option Value) (xt : Str → Str → Option Bool) : Prop := ∀ c x b, xt c x = some b → ∃ C C2, PySem.W.nsIn K mainGlobals c = some (some (.ref C)) ∧ mg c = some (.ref C) ∧ mg x = some (.ref C2) ∧
  PySem.W.mroIn K C2 (.type "BaseException") = some true ∧ PySem.W.typeIn K (.ref C2) = some (.type "type") ∧ PySem.W.mroIn K C (.ref C2) = some b
/-- within a handler -/
abbrev mkX (X : Cx) (e : Addr) : Cx := { X with A := X.A.mark (some (.ref e)), calm := false, xe := fun _ _ => False }
section
variable {X : Cx} {pins : List (Addr × Obj)} {σ : L2.St} {H : Hp} {s : Shared} {e : Addr}
theorem ok_mk (o : X.Ok) : (mkX X e).Ok :=
  ⟨o.mod, o.kind, o.glob, o.blt, o.above, o.inj, o.has, o.cab, fun z => (Bool.false_ne_true z).elim, o.frames, o.stk, o.exf, o.bs, o.bsz, o.noex, o.exfs, o.funs, o.frf⟩
theorem inv_mk (I : Inv X pins σ H s) : Inv (mkX X e) pins σ H s := ⟨ok_mk I.ok, I.os, I.bare, I.base, I.loc, I.cell, I.free, I.freeC, I.pin, I.hok, I.len⟩
theorem inv_of_mk (o : X.Ok) (I : Inv (mkX X e) pins σ H s) : Inv X pins σ H s := ⟨o, I.os, I.bare, I.base, I.loc, I.cell, I.free, I.freeC, I.pin, I.hok, I.len⟩
/-- a name goes -/
theorem unbind_ok {M : Model} {A : Around} {E : Value → Shared → Prop} {i : Nat} {x : Str} {pos : Pos} {Q : Unit → Shared → Prop} (I : Inv X pins σ H s) (hN : X.N.Nodup) (hi : X.N[i]? = some x) (hx : X.env.scope.names.lookup x = some .local)
    (h : ∀ s', Inv X pins (σ.set i none) H s' → Q () s') : wpAny M A (do bindName X.env x .none; unbindBehindTheSuite X.env x pos) Q E s := by
  refine wpAny_bind (wpAny_bindName (store_ok (v := .non) I hN hi (.inl hx) rfl (fun s1 I1 => ?_) (.inr hx)))
  unfold unbindBehindTheSuite
  refine wpAny_onRaise ?_
  obtain ⟨m, hn, hl⟩ := id I1.loc
  have hiσ : i < σ.length := by rw [I.len]; exact (List.getElem?_eq_some_iff.mp hi).1
  have hcls : (X.env.scope.kind == .class || (X.env.scope.kind == .module && X.env.locals != X.env.globals)) = false := by rw [I.ok.kind]; rfl
  obtain ⟨u, ru, lk⟩ := hl i x .non hi (by rw [List.getElem?_set_self hiσ]) (.inl hx)
  have hv : m x = some u := by
    rcases lk with ⟨_, q⟩ | ⟨k, _⟩
    · exact q
    · exfalso
      have hx' : X.env.kindOf x = some .local := hx
      rcases k with k | k <;> rw [hx'] at k <;> cases k
  refine wpAny_unbindName_local hx hn hv hcls fun h' u' hn' hs => h _ ?_
  obtain ⟨oL, _, _, hoL, _⟩ := id hn
  have cne := I1.cne
  refine ⟨I1.ok, I1.os, I1.bare, ⟨fun b o e n hb hx => ?_, fun b o e n hb hx => ?_, I1.base.free, fun b o e hx => ?_, I1.base.tups, I1.base.frzs, I1.base.tbls⟩, ⟨_, hn', fun j y v' e1 e2 e3 => ?_⟩, fun y c e => ?_, I1.free, I1.freeC, fun p hp => ?_, fun b ob e => ?_, by simpa using I.len⟩
  · exact (hs.2 b (Nat.ne_of_lt (Nat.lt_of_lt_of_le (Heap.lt_size e) I1.ok.above))).trans (I1.base.keep b o e n hb hx)
  · obtain ⟨sl, e1⟩ := I1.base.slot b o e n hb hx
    exact ⟨sl, (hs.2 b (Nat.ne_of_lt (Nat.lt_of_lt_of_le (Heap.lt_size e) I1.ok.above))).trans e1⟩
  · obtain ⟨o', e1⟩ := I1.base.there b o e hx
    exact ⟨o', (hs.2 b (Nat.ne_of_lt (Nat.lt_of_lt_of_le (Heap.lt_size e) I1.ok.above))).trans e1⟩
  · by_cases hj : j = i
    · subst hj
      rw [List.getElem?_set_self hiσ] at e2
      cases e2
    · rw [List.getElem?_set_ne (Ne.symm hj)] at e2
      obtain ⟨u2, r2, q⟩ := hl j y v' e1 (by rw [List.getElem?_set_ne (Ne.symm hj)]; exact e2) e3
      refine ⟨u2, r2, ?_⟩
      rcases q with ⟨k, e⟩ | ⟨k, c, e, z⟩
      · refine .inl ⟨k, ?_⟩
        have : y ≠ x := fun e => hj (nodup_ix hN e1 (e ▸ hi))
        simp [this, e]
      · exact .inr ⟨k, c, e, z.sameBut hs (cne y c e)⟩
  · obtain ⟨w', z⟩ := I1.cell y c e
    exact ⟨w', z.sameBut hs (cne y c e)⟩
  · obtain ⟨e, n, ne, nf, d⟩ := I1.pin p hp
    exact ⟨(hs.2 p.1 ne).trans e, n, ne, nf, d⟩
  · refine (I1.hok b ob e).stay (fun c w' hc q => (hs.2 c ?_).trans q) (fun _ q => q) fun _ _ q => q
    rintro rfl
    have fr := I1.free
    rcases hc with z | hc
    · rw [z] at fr; rw [fr] at e; cases e
    · rw [fr] at hc; cases hc
theorem relSt_un {K : PySem.W.Frag} {F0 H0 F H : Hp} {σ : L2.St} {ρ : Rho} (i : Nat) (R : RelSt K F0 H0 F H σ ρ) : RelSt K F0 H0 F H (σ.set i none) (ρ.set i none) := by
  have back : ∀ (l : Nat) (m : Bool) (d : D), (ρ.set i none)[l]? = some (some (m, d)) → l ≠ i ∧ ρ[l]? = some (some (m, d)) := fun l m d q => by
    by_cases hl : l = i
    · subst hl
      rw [List.getElem?_set] at q
      split at q
      · split at q <;> cases q
      · exact absurd rfl (by assumption)
    · rw [List.getElem?_set_ne (fun z => hl z.symm)] at q; exact ⟨hl, q⟩
  refine ⟨R.st, fun l m d e => ?_, fun l j d d' a hlj e1 e2 q1 q2 => ?_, by simp [R.len]⟩
  · obtain ⟨hl, q⟩ := back l m d e
    rw [List.getElem?_set_ne (fun z => hl z.symm)]
    exact R.slot l m d q
  · obtain ⟨h1, k1⟩ := back l true d e1
    obtain ⟨h2, k2⟩ := back j true d' e2
    rw [List.getElem?_set_ne (fun z => h1 z.symm)] at q1
    rw [List.getElem?_set_ne (fun z => h2 z.symm)] at q2
    exact R.apart l j d d' a hlj k1 k2 q1 q2
end
end D3

namespace D3
open PySem PySem.Spec PySem.Calls PyProof.Rows L2
/-- handlers, read -/
inductive HsOk (C : Cw) (X : Cx) : List ExceptHandler → List HX → Prop
  | nil : HsOk C X [] []
  | plain {x : Str} {np hp : Pos} {b : Stmt} {suite : List Stmt} {g : Rho → SRes} {r : List ExceptHandler} {r' : List HX} : Gl X x → (x == ("__debug__" : Str)) = false → (∀ e, PBv C.nox (mkX X e) (b :: suite) g) → HsOk C X r r' →
      HsOk C X (.ExceptHandler (some (.Name x np)) none (b :: suite) hp :: r) (⟨x, none, g⟩ :: r')
  | named {x n : Str} {i : Nat} {np hp : Pos} {b : Stmt} {suite : List Stmt} {g : Rho → SRes} {r : List ExceptHandler} {r' : List HX} : Gl X x → (x == ("__debug__" : Str)) = false → X.N[i]? = some n → X.env.scope.names.lookup n = some .local →
      (∀ e, PBv C.nox (mkX X e) (b :: suite) g) → HsOk C X r r' → HsOk C X (.ExceptHandler (some (.Name x np)) (some n) (b :: suite) hp :: r) (⟨x, some i, g⟩ :: r')
section
variable {C : Cw} {X : Cx} {pins : List (Addr × Obj)} {σ : L2.St} {H H1 : Hp} {s s0 : Shared} {e Cc : Addr} {a0 : Value} {B : Heap}
theorem Fly.h1e (fl : Heap.FlyingW B X.stack e (.ref Cc) a0 s.heap) (fy : Fly X.prog X.w X.stack H s0 H1 B s.heap) : H1 e = none := by
  cases q : H1 e with
  | none => rfl
  | some u => obtain ⟨o, _, z⟩ := fy.kh e u q; rw [fl.2.1] at z; cases z
theorem Fly.s0e (fl : Heap.FlyingW B X.stack e (.ref Cc) a0 s.heap) (fy : Fly X.prog X.w X.stack H s0 H1 B s.heap) : s0.heap.get? e = none := by
  cases q : s0.heap.get? e with
  | none => rfl
  | some o =>
    exfalso
    by_cases hb : e ∈ frs X.stack
    · obtain ⟨o', sl, _, e0, e1, _⟩ := fy.slots (Heap.UpToSlots.refl _) hb
      obtain ⟨_, o2, e2, nf⟩ := fy.fr e hb
      rw [e0] at e2; cases e2
      obtain ⟨oe, vs, he, _, hd, _⟩ := fl.first
      rw [e1] at he; cases he
      exact nf vs hd
    · obtain ⟨o', e1⟩ := fy.un.there e o q no_nil
      have := fy.kb e o' e1 (by rw [q]; exact fun z => nomatch z) hb
      rw [fl.2.1] at this; cases this
/-- the error is tracked from now on -/
theorem Fly.held (I0 : Inv X pins σ H s0) (fl : Heap.FlyingW B X.stack e (.ref Cc) a0 s.heap) (fy : Fly X.prog X.w X.stack H s0 H1 B s.heap) (ho : s.os = s0.os) (hg : AllBare s.gens) : Inv X pins σ (upd H1 e (xobj e Cc)) s := by
  have h1 := Fly.h1e fl fy
  have h0 := Fly.s0e fl fy
  obtain ⟨oe, he, hc⟩ := fl.there
  have nb : ∀ {b u}, H1 b = some u → b ≠ e := fun q z => by rw [z, h1] at q; cases q
  refine Inv.call' (ch := []) I0 ho ⟨fy.un.keep, fy.un.slot, fun b o q n z => ?_, fy.un.there, fun b xs q => ?_, fun b o u q => ?_, fun b ps q => ?_⟩ (fun b u q => ?_) hg (fun b z => absurd z no_nil)
  · rw [upd_ne fun z => by rw [z, h0] at q; cases q]; exact fy.un.free b o q n z
  · have := fy.un.tups b xs q; rw [upd_ne (nb this)]; exact this
  · have := fy.un.frzs b o u q; rw [upd_ne (nb this)]; exact this
  · obtain ⟨more, this⟩ := fy.un.tbls b ps q; exact ⟨more, by rw [upd_ne (nb this)]; exact this⟩
  · by_cases hb : b = e
    · subst hb
      rw [upd_same] at q
      cases q
      exact ⟨⟨oe, he, hc⟩, ⟨oe, he⟩, fun h1 h2 p k => by obtain ⟨o, q, z⟩ := p; exact ⟨o, k o q, z⟩⟩
    · rw [upd_ne hb] at q
      exact (fy.ok b u q).stay (fun _ _ _ z => z) (fun c z => by rw [upd_ne (nb z)]; exact z) fun c xs z => by rw [upd_ne (nb z)]; exact z
/-- what is wanted behind a handler's suite -/
def unE (i : Option Nat) (D : Ends) : Ends := { nx := fun σ H => D.nx (unS i σ) H, rt := D.rt, bk := fun σ H => D.bk (unS i σ) H, ct := fun σ H => D.ct (unS i σ) H }
theorem want_un {F : Hp} {r : SRes} {D : Ends} (i : Option Nat) (w : WantS C F (unR i r) D) : WantS C.nox F r (unE i D) := by
  have un : ∀ {σ F' H' ρ}, RelSt C.K C.F0 C.H0 F' H' σ ρ → RelSt C.K C.F0 C.H0 F' H' (unS i σ) (unS i ρ) := fun R => by
    cases i with
    | none => exact R
    | some i => exact relSt_un i R
  cases r with
  | nx ρ => exact fun σ F' H' z R => w _ F' H' z (un R)
  | bk ρ => exact fun σ F' H' z R => w _ F' H' z (un R)
  | ct ρ => exact fun σ F' H' z R => w _ F' H' z (un R)
  | rt m d => exact w
  | exc c ρ => exact w.elim
  | stuck => exact w
theorem handle_ok {xt : Str → Str → Option Bool} (hxt : XtOk X.K X.mg xt) (hN : X.N.Nodup) {c : Str} {ρ : Rho} {F : Hp} {D : Ends} (I0 : Inv X pins σ H s0) (hm : X.mg c = some (.ref Cc)) (R : RelSt X.K C.F0 C.H0 F H1 σ ρ) :
    ∀ {hs : List ExceptHandler} {hx : List HX} {s : Shared}, HsOk C X hs hx → Heap.FlyingW B X.stack e (.ref Cc) a0 s.heap → Fly X.prog X.w X.stack H s0 H1 B s.heap → s.os = s0.os → AllBare s.gens → WantS (C.at X) F (hndR xt c ρ hx) D →
      wpAny (model X.prog X.w) X.A (handleBy (.ref e) X.env hs) (SP X pins D) X.xe s := by
  have test : ∀ {x : Str} {np hp : Pos} {s : Shared} {b : Bool} {C2 : Addr} {RR : Result → Shared → Prop}, Gl X x → (x == ("__debug__" : Str)) = false → Heap.FlyingW B X.stack e (.ref Cc) a0 s.heap → Fly X.prog X.w X.stack H s0 H1 B s.heap → s.os = s0.os → AllBare s.gens →
      X.mg x = some (.ref C2) → PySem.W.mroIn X.K C2 (.type "BaseException") = some true → PySem.W.typeIn X.K (.ref C2) = some (.type "type") → PySem.W.mroIn X.K Cc (.ref C2) = some b → RR (.ok (if b then .brk else .next)) s →
      codeAny (model X.prog X.w) (X.A.mark (some (.ref e))) (.handlers (.ref e) [.ExceptHandler (some (.Name x np)) none [] hp] X.env) RR s := by
    intro x np hp s b C2 RR hg hd fl fy ho hb m2 x1 x2 x3 q
    have I := fy.inv I0 ho hb
    obtain ⟨oe, he, hc⟩ := fl.there
    exact codeAny_handlers_test (ld_glob (X := mkX X e) (inv_mk I) hg m2 (xmatch I.kIn ⟨he, hc⟩ x1 x2 x3 q) hd)
  intro hs hx s hk
  induction hk generalizing s with
  | nil => intro _ _ _ _ w; exact w.elim
  | @plain x np hp b suite g r r' hg hd hsu _ ih =>
    intro fl fy ho hb w
    unfold hndR at w
    dsimp only at w
    cases ex : xt c x with
    | none => rw [ex] at w; exact w.elim
    | some bb =>
      rw [ex] at w
      obtain ⟨C1, C2, _, m1, m2, x1, x2, x3⟩ := hxt c x bb ex
      rw [hm] at m1; cases m1
      refine wpAny_handleBy_cons (test hg hd fl fy ho hb m2 x1 x2 x3 ?_) (by intro q; cases q)
      cases bb with
      | false => exact ih fl fy ho hb w
      | true =>
        refine codeAny_handlers_suite (lands_againW fl fun h6 fl6 up6 => ?_)
        have fy6 := fy.on fl6.1 up6
        have I6 : Inv X pins σ H1 { s with heap := h6 } := fy6.inv I0 (s' := { s with heap := h6 }) ho hb
        refine wpAny_mono (hsu e pins { s with heap := h6 } σ H1 (unE none D) (inv_mk I6) ⟨ρ, F, R, want_un none w⟩) (fun f s7 h7 => ?_) fun _ _ z => z.elim
        cases f with
        | next => obtain ⟨σ', H', J, q⟩ := h7; exact ⟨σ', H', inv_of_mk I0.ok J, q⟩
        | brk => obtain ⟨σ', H', J, q⟩ := h7; exact ⟨σ', H', inv_of_mk I0.ok J, q⟩
        | cont => obtain ⟨σ', H', J, q⟩ := h7; exact ⟨σ', H', inv_of_mk I0.ok J, q⟩
        | ret u => obtain ⟨v, σ', H', J, r, q⟩ := h7; exact ⟨v, σ', H', inv_of_mk I0.ok J, r, q⟩
  | @named x n i np hp b suite g r r' hg hd hi hl hsu _ ih =>
    intro fl fy ho hb w
    unfold hndR at w
    dsimp only at w
    cases ex : xt c x with
    | none => rw [ex] at w; exact w.elim
    | some bb =>
      rw [ex] at w
      obtain ⟨C1, C2, n1, m1, m2, x1, x2, x3⟩ := hxt c x bb ex
      rw [hm] at m1; cases m1
      refine wpAny_handleBy_cons (test hg hd fl fy ho hb m2 x1 x2 x3 ?_) (by intro q; cases q)
      cases bb with
      | false => exact ih fl fy ho hb w
      | true =>
        refine codeAny_handlers_suite_as (lands_againW fl fun h6 fl6 up6 => ?_)
        have fy6 := fy.on fl6.1 up6
        have I6 : Inv X pins σ (upd H1 e (xobj e Cc)) { s with heap := h6 } := Fly.held (s := { s with heap := h6 }) I0 fl6 fy6 ho hb
        have st : Step F H1 (upd F e (xobj e Cc)) (upd H1 e (xobj e Cc)) := Step.laid _ R.sub (Fly.h1e fl fy)
        have rp : Rp X.K (upd F e (xobj e Cc)) (upd H1 e (xobj e Cc)) .fz (.exn c) (.ref e) := by
          show RepV X.K _ _ _
          simp only [RepV]
          exact ⟨e, Cc, rfl, n1, upd_same⟩
        have R7 := R.set (i := i) (m := false) st rp (by intro z; cases z)
        refine store_ok (v := .ref e) I6 hN hi (.inl hl) rfl (fun s7 I7 => ?_) (.inr hl)
        refine wpAny_mono (hsu e pins s7 _ _ (unE (some i) D) (inv_mk I7) ⟨_, _, R7, want_un (some i) (WantS.mono st.fsame w)⟩) (fun f s8 h8 => ?_) fun _ _ z => z.elim
        cases f with
        | next => obtain ⟨σ', H', J, q⟩ := h8; exact unbind_ok (inv_of_mk I0.ok J) hN hi hl fun s9 J9 => ⟨_, H', J9, q⟩
        | brk => obtain ⟨σ', H', J, q⟩ := h8; exact unbind_ok (inv_of_mk I0.ok J) hN hi hl fun s9 J9 => ⟨_, H', J9, q⟩
        | cont => obtain ⟨σ', H', J, q⟩ := h8; exact unbind_ok (inv_of_mk I0.ok J) hN hi hl fun s9 J9 => ⟨_, H', J9, q⟩
        | ret u => obtain ⟨v, σ', H', J, r, q⟩ := h8; exact unbind_ok (inv_of_mk I0.ok J) hN hi hl fun s9 J9 => ⟨v, _, H', J9, r, q⟩
end
end D3

namespace D3
open PySem PySem.Spec PySem.Calls PyProof.Rows L2
/-- within a try's body -/
abbrev tryX (X : Cx) (pins : List (Addr × Obj)) (D : Ends) (hs : List ExceptHandler) : Cx := { X with pn := X.pn ++ pins, xe := fun e s₁ => wpAny (model X.prog X.w) X.A (noteFrame e X.env) (fun _ s₂ =>
  wpAny (model X.prog X.w) X.A (setFlight e none) (fun _ s₃ => wpAny (model X.prog X.w) X.A (handleBy e X.env hs) (SP X pins D) X.xe s₃) X.xe s₂) X.xe s₁ }
abbrev tryC (C : Cw) (X : Cx) (xt : Str → Str → Option Bool) (hx : List HX) (D : Ends) : Cw := { C with EE := fun c σ H => ∃ ρ' F', RelSt X.K C.F0 C.H0 F' H σ ρ' ∧ WantS (C.at X) F' (hndR xt c ρ' hx) D }
section
variable {C : Cw} {X : Cx} {pins : List (Addr × Obj)} {σ : L2.St} {H : Hp} {s : Shared} {D : Ends} {hs : List ExceptHandler} {hx : List HX} {xt : Str → Str → Option Bool}
theorem ok_try (o : X.Ok) : (tryX X pins D hs).Ok := ⟨o.mod, o.kind, o.glob, o.blt, o.above, o.inj, o.has, o.cab, o.hd, o.frames, o.stk, o.exf, o.bs, o.bsz, o.noex, o.exfs, o.funs, o.frf⟩
theorem inv_try (I : Inv X pins σ H s) : Inv (tryX X pins D hs) [] σ H s := ⟨ok_try I.ok, I.os, I.bare, I.base, I.loc, I.cell, I.free, I.freeC, fun p hp => I.pin p (by rw [List.append_nil] at hp; exact hp), I.hok, I.len⟩
theorem inv_of_try {pins' : List (Addr × Obj)} (o : X.Ok) (I : Inv (tryX X pins D hs) pins' σ H s) : Inv X pins σ H s := ⟨o, I.os, I.bare, I.base, I.loc, I.cell, I.free, I.freeC, fun p hp => I.pin p (List.mem_append_left _ hp), I.hok, I.len⟩
theorem xok_try (FX : FnCx X) (o : X.Ok) (hxt : XtOk X.K X.mg xt) (hN : X.N.Nodup) (hk : HsOk C X hs hx) : XOk (CX1 X.prog X.w) (tryC C X xt hx D) (tryX X pins D hs) := by
  intro pins' σ H s ev s' I h
  obtain ⟨e, Cc, a0, H1, B, rfl, ho, hg, fl, fy, c, hm, ρ', F', R', w'⟩ := h
  have J := inv_of_try o I
  have fr : X.A.frames = some (X.env :: X.outer) := by rw [← FX.hs]; exact o.frames
  have fl0 : Heap.FlyingW B (X.env :: X.outer) e (.ref Cc) a0 s'.heap := by rw [← FX.hs]; exact fl
  refine wpAny_looks_onW fr FX.hf fl0 fun h4 held up4 => wpAny_landsW held fun h5 fl5 up5 => ?_
  have fl6 : Heap.FlyingW B X.stack e (.ref Cc) a0 h5 := by rw [FX.hs]; exact fl5
  exact handle_ok (C := C) hxt hN J hm R' hk (s := { s' with heap := h5 }) fl6 ((fy.on held.1 up4).on fl5.1 up5) ho hg w'
theorem psv_try {h0 : ExceptHandler} {hr : List ExceptHandler} {body : List Stmt} {pos : Pos} {gb : Rho → SRes} (FX : FnCx X) (hxt : XtOk X.K X.mg xt) (hN : X.N.Nodup) (hk : HsOk C X (h0 :: hr) hx)
    (hb : ∀ (o : X.Ok) (pins : List (Addr × Obj)) (D : Ends), PBv (tryC C X xt hx D) (tryX X pins D (h0 :: hr)) body gb) : PSv C X (.Try body (h0 :: hr) [] [] pos) (fun ρ => tryR xt hx (gb ρ)) := by
  intro pins s σ H D I q
  obtain ⟨ρ, F, R, w⟩ := q
  dsimp only at w
  refine wpAny_Try_except ?_
  have main := hb I.ok pins D [] s σ H D (inv_try I) ⟨ρ, F, R, ?_⟩
  · refine wpAny_mono main (fun f s1 h1 => ?_) fun _ _ z => z
    cases f with
    | next => obtain ⟨σ', H', J, q⟩ := h1; exact wpAny_execs_nil ⟨σ', H', inv_of_try I.ok J, q⟩
    | brk => obtain ⟨σ', H', J, q⟩ := h1; exact ⟨σ', H', inv_of_try I.ok J, q⟩
    | cont => obtain ⟨σ', H', J, q⟩ := h1; exact ⟨σ', H', inv_of_try I.ok J, q⟩
    | ret u => obtain ⟨v, σ', H', J, r, q⟩ := h1; exact ⟨v, σ', H', inv_of_try I.ok J, r, q⟩
  · cases er : gb ρ with
    | nx ρ' => rw [er] at w; exact w
    | bk ρ' => rw [er] at w; exact w
    | ct ρ' => rw [er] at w; exact w
    | rt m d => rw [er] at w; exact w
    | stuck => rw [er] at w; exact w
    | exc c ρ' => rw [er] at w; exact fun σ' F' H' z R' => ⟨ρ', F', R', WantS.mono z w⟩
end
/-! ### isinstance of an error -/
/-- a class by its name: one of the text, or one of Python's own -/
def ClsV (mg : Str → Option Value) (n : Str) (cv : V) : Prop := (∃ C, mg n = some (.ref C) ∧ cv = .ref C) ∨ (mg n = none ∧ n ≠ "__name__" ∧ ∃ T, bootBuiltins n = some (.type T) ∧ cv = .ty T)
def valV' : V → Value | .ref a => .ref a | .ty T => .type T | _ => .none
def XisOk (K : PySem.W.Frag) (mg : Str → Option Value) (xis : Str → Str → Option Bool) : Prop := ∀ c n b, xis c n = some b → ∃ C cv, PySem.W.nsIn K mainGlobals c = some (some (.ref C)) ∧ XCls K C ∧ ClsV mg n cv ∧ PySem.W.kitOne K (.ref C) (valV' cv) = some b
def isxAny (xis : Str → Str → Option Bool) (c : Str) : List Str → Option Bool
  | [] => some false
  | n :: r => match xis c n with
    | some true => some true
    | some false => isxAny xis c r
    | none => none
def isx1R (xis : Str → Str → Option Bool) (n : Str) (r : Res) : Res := r.thn fun _ d => match d with
  | .exn c => (match xis c n with | some b => .ok .fz (.bl b) | none => .stuck)
  | _ => .stuck
def isxTR (xis : Str → Str → Option Bool) (ns : List Str) (r : Res) : Res := r.thn fun _ d => match d with
  | .exn c => (match isxAny xis c ns with | some b => .ok .fz (.bl b) | none => .stuck)
  | _ => .stuck
section
variable {C : Cw} {X : Cx} {e : Expr} {g : Rho → Res} {p q pos tp : Pos} {n : Str} {xis : Str → Str → Option Bool}
theorem pe_cls {cv : V} (h : ClsV X.mg n cv) (hg : Gl X n) (hd : (n == ("__debug__" : Str)) = false) : PE X (.Name n q) (tC cv) := by
  rcases h with ⟨C', hm, rfl⟩ | ⟨hm, hn, T, hv, rfl⟩
  · exact pe_glob hg hm rfl hd
  · exact pe_bltn hg hm hv rfl hn hd
theorem rp_exn {K : PySem.W.Frag} {F H : Hp} {m : Md} {c : Str} {v : V} (s : Same F H) (h : Rp K F H m (.exn c) v) : ∃ a C, v = .ref a ∧ PySem.W.nsIn K mainGlobals c = some (some (.ref C)) ∧ H a = some (xobj a C) := by
  cases m with
  | fz =>
    have h : RepV K F (.exn c) v := h
    simp only [RepV] at h
    obtain ⟨a, C, e, n, q⟩ := h
    exact ⟨a, C, e, n, s _ _ q⟩
  | fr => obtain ⟨_, _, _, q⟩ := h; exact q.elim
  | bo => obtain ⟨_, _, _, q⟩ := h; exact q.elim
theorem clsV_rel {cv : V} {u : Value} (h : ClsV X.mg n cv) (r : RelV cv u) : u = valV' cv := by
  rcases h with ⟨C', hm, rfl⟩ | ⟨hm, hn, T, hv, rfl⟩
  · exact r
  · exact r
theorem clsV_inj {cv cv' : V} (h : ClsV X.mg n cv) (h' : ClsV X.mg n cv') : cv = cv' := by
  rcases h with ⟨C1, hm, rfl⟩ | ⟨hm, hn, T, hv, rfl⟩ <;> rcases h' with ⟨C2, hm', rfl⟩ | ⟨hm', hn', T', hv', rfl⟩
  · rw [hm] at hm'; cases hm'; rfl
  · rw [hm] at hm'; cases hm'
  · rw [hm] at hm'; cases hm'
  · rw [hv] at hv'; cases hv'; rfl
/-- isinstance(e, n) -/
theorem pv_isx1 (hX : XisOk X.K X.mg xis) (hcv : ∃ cv, ClsV X.mg n cv) (hg : Gl X "isinstance") (hn : X.mg "isinstance" = none) (hgc : Gl X n) (hdb : (n == ("__debug__" : Str)) = false) (he : PV C X e g) (hs : notStar e = true) :
    PV C X (.Call (.Name "isinstance" p) [e, .Name n q] [] pos) (fun ρ => isx1R xis n (g ρ)) := by
  obtain ⟨cv, hcv⟩ := hcv
  have ha : PA X [e, .Name n q] (tCons (tG (C.at X) g) (tCons (tC cv) tNil)) := pa_cons he (pa_cons (pe_cls hcv hgc hdb) pa_nil) (star_cons hs)
  have hc : CallR X (.builtin "isinstance") (fun vs H Q => ∃ a C' b, vs = [.ref a, cv] ∧ H a = some (xobj a C') ∧ XCls X.K C' ∧ PySem.W.kitOne X.K (.ref C') (valV' cv) = some b ∧ Q (.bl b) H) := by
    intro pins s σ H vs us Q I r h
    obtain ⟨a, C', b, rfl, ho, Z, hb, hq⟩ := h
    obtain ⟨u, u', rfl, ru, ru'⟩ := vals2 r
    cases (show u = Value.ref a from ru)
    have eu := clsV_rel hcv ru'
    subst eu
    obtain ⟨⟨o, h1, h2⟩, _⟩ := (show ObjOk X.prog X.w H s.heap a (xobj a C') from I.hok a _ ho)
    exact PySem.W.kia_one (kitx_exc (ox := o) Z) I.kIn ⟨h1, h2⟩ hb (fun z => nomatch z) fun tk => ⟨.bl b, H, I.tok _, rfl, hq⟩
  refine PE.imp (pe_callB hc hg hn bb_isinstance ha (by decide) (by decide) (star_cons hs) (star_any _ _ fun y hy => by simp only [List.mem_cons, List.mem_nil_iff, or_false] at hy; subst hy; rfl)) fun σ H Q q => ?_
  rw [tG_eq] at q
  obtain ⟨ρ, F, R, w⟩ := q
  unfold tCB tCons
  rw [tG_eq]
  refine ⟨ρ, F, R, ?_⟩
  cases er : g ρ with
  | stuck => rw [er] at w; exact w
  | exc c => rw [er] at w; exact w
  | ok m d =>
    rw [er] at w
    intro v F1 H1 s1 r1 _
    have w1 : Want (C.at X) F1 H1 σ (isx1R xis n (.ok m d)) Q := Want.step s1 w
    cases d with
    | exn c =>
      have w1 : Want (C.at X) F1 H1 σ (match xis c n with | some b => .ok .fz (.bl b) | none => .stuck) Q := w1
      cases ex : xis c n with
      | none => rw [ex] at w1; exact w1.elim
      | some b =>
        rw [ex] at w1
        obtain ⟨C', cv', n1, Z, hcv', kb⟩ := hX c n b ex
        cases clsV_inj hcv hcv'
        obtain ⟨a, C2, rfl, n2, ho⟩ := rp_exn s1.sub r1
        rw [n1] at n2; cases n2
        exact ⟨a, C', b, rfl, ho, Z, kb, w1 _ F1 H1 (.refl s1.sub) (rp_bl _) (by intro z; cases z)⟩
    | _ => exact w1.elim
def ClsVs (mg : Str → Option Value) : List Str → List V → Prop
  | [], vs => vs = []
  | n :: r, vs => ∃ v us, vs = v :: us ∧ ClsV mg n v ∧ ClsVs mg r us
def tCs : List V → TA
  | [] => tNil
  | v :: vs => tCons (tC v) (tCs vs)
theorem pa_clss : ∀ {ns : List Str} {es : List Expr} {vs : List V}, ClsVs X.mg ns vs → (∀ n ∈ ns, Gl X n ∧ (n == ("__debug__" : Str)) = false) → es.length = ns.length → (∀ (i : Nat) (n : Str), ns[i]? = some n → ∃ q, es[i]? = some (Expr.Name n q)) → PA X es (tCs vs)
  | [], [], vs, h, _, _, _ => by rw [show vs = [] from h]; exact pa_nil
  | [], _ :: _, _, _, _, hl, _ => by simp at hl
  | _ :: _, [], _, _, _, hl, _ => by simp at hl
  | n :: ns, e :: es, vs, h, hg, hl, hi => by
    obtain ⟨v, us, rfl, hv, hr⟩ := h
    obtain ⟨q, eq⟩ := hi 0 n rfl
    have : e = .Name n q := by simpa using eq
    subst this
    obtain ⟨g1, g2⟩ := hg n List.mem_cons_self
    exact pa_cons (pe_cls hv g1 g2) (pa_clss hr (fun m hm => hg m (List.mem_cons_of_mem _ hm)) (by simpa using hl) fun i m em => by have := hi (i + 1) m (by simpa using em); simpa using this) (star_cons rfl)
theorem tCs_ok {σ : L2.St} {H : Hp} {Q : List V → Hp → Prop} : ∀ {vs : List V} (pre : List V), Q (pre ++ vs) H → tCs vs σ H (fun xs H' => Q (pre ++ xs) H')
  | [], pre, h => h
  | v :: vs, pre, h => by
    show tCs vs σ H (fun xs H' => Q (pre ++ v :: xs) H')
    have := tCs_ok (σ := σ) (vs := vs) (Q := Q) (pre ++ [v]) (by simpa using h)
    simpa using this
theorem tCs_all {σ : L2.St} {H : Hp} {vs : List V} {Q : List V → Hp → Prop} (h : Q vs H) : tCs vs σ H Q := tCs_ok (Q := Q) [] h
theorem kitAny_of {Cc : Addr} {c : Str} (hX : XisOk X.K X.mg xis) (n1 : PySem.W.nsIn X.K mainGlobals c = some (some (.ref Cc))) : ∀ {ns : List Str} {vs : List V} {us : List Value} {b : Bool}, ClsVs X.mg ns vs → Vals vs us → isxAny xis c ns = some b → PySem.W.kitAny X.K (.ref Cc) us = some b
  | [], vs, us, b, h, r, e => by rw [show vs = [] from h] at r; cases r; exact e
  | n :: ns, vs, us, b, h, r, e => by
    obtain ⟨v, vs', rfl, hv, hr⟩ := h
    cases r with
    | cons r1 r2 =>
      cases clsV_rel hv r1
      unfold isxAny at e
      unfold PySem.W.kitAny
      cases ex : xis c n with
      | none => rw [ex] at e; cases e
      | some bb =>
        rw [ex] at e
        obtain ⟨C', cv', n2, Z, hcv', kb⟩ := hX c n bb ex
        rw [n1] at n2; cases n2
        cases clsV_inj hv hcv'
        rw [kb]
        cases bb with
        | true => exact e
        | false => exact kitAny_of hX n1 hr r2 e
theorem isxAny_cls {c : Str} (hX : XisOk X.K X.mg xis) : ∀ {ns : List Str} {b : Bool}, ns ≠ [] → isxAny xis c ns = some b → ∃ C, PySem.W.nsIn X.K mainGlobals c = some (some (.ref C)) ∧ XCls X.K C
  | [], _, h, _ => absurd rfl h
  | n :: ns, b, _, e => by
    unfold isxAny at e
    cases ex : xis c n with
    | none => rw [ex] at e; cases e
    | some bb => obtain ⟨C', cv', n2, Z, _⟩ := hX c n bb ex; exact ⟨C', n2, Z⟩
/-- isinstance(e, (n, ..)) -/
theorem pv_isxT {ns : List Str} {es : List Expr} {kk} (hX : XisOk X.K X.mg xis) (hne : ns ≠ []) (hcv : ∃ vs, ClsVs X.mg ns vs) (hz : ns.length ≤ 100) (hg : Gl X "isinstance") (hn : X.mg "isinstance" = none) (hgc : ∀ n ∈ ns, Gl X n ∧ (n == ("__debug__" : Str)) = false)
    (hl : es.length = ns.length) (hi : ∀ (i : Nat) (n : Str), ns[i]? = some n → ∃ q, es[i]? = some (Expr.Name n q)) (he : PV C X e g) (hs : notStar e = true) :
    PV C X (.Call (.Name "isinstance" p) [e, .Tuple es kk tp] [] pos) (fun ρ => isxTR xis ns (g ρ)) := by
  obtain ⟨cvs, hcv⟩ := hcv
  have hlen : cvs.length = ns.length := by
    have : ∀ {ns : List Str} {vs : List V}, ClsVs X.mg ns vs → vs.length = ns.length := by
      intro ns
      induction ns with
      | nil => intro vs h; rw [show vs = [] from h]; rfl
      | cons n r ih => intro vs h; obtain ⟨v, us, rfl, _, h⟩ := h; rw [List.length_cons, List.length_cons, ih h]
    exact this hcv
  have ha : PA X [e, .Tuple es kk tp] (tCons (tG (C.at X) g) (tCons (tTup (tCs cvs)) tNil)) := pa_cons he (pa_cons (pe_tup (pa_clss hcv hgc hl hi)) pa_nil (star_cons rfl)) (star_cons hs)
  have hc : CallR X (.builtin "isinstance") (fun vs H Q => ∃ a t C' c b, vs = [.ref a, .ref t] ∧ H a = some (xobj a C') ∧ PySem.W.nsIn X.K mainGlobals c = some (some (.ref C')) ∧ XCls X.K C' ∧ H t = some (.tup cvs) ∧ isxAny xis c ns = some b ∧ Q (.bl b) H) := by
    intro pins s σ H vs us Q I r h
    obtain ⟨a, t, C', c, b, rfl, ho, n1, Z, ht, hb, hq⟩ := h
    obtain ⟨u, u', rfl, ru, ru'⟩ := vals2 r
    cases (show u = Value.ref a from ru)
    cases (show u' = Value.ref t from ru')
    obtain ⟨⟨o, h1, h2⟩, _⟩ := (show ObjOk X.prog X.w H s.heap a (xobj a C') from I.hok a _ ho)
    obtain ⟨_, its, rv, ot, e1, e2, nn, e3⟩ := (show ObjOk X.prog X.w H s.heap t (.tup cvs) from I.hok t _ ht)
    obtain ⟨oc, od, oda, osl⟩ := ot
    have e2 : oc = .type "tuple" := e2
    have e3 : oda = .seq its.toArray nn := e3
    subst e2 e3
    exact PySem.W.kia_tup (kitx_exc (ox := o) Z) I.kIn ⟨h1, h2⟩ e1 (kitAny_of hX n1 hcv rv hb) (fun z => nomatch z) fun tk => ⟨.bl b, H, I.tok _, rfl, hq⟩
  refine PE.imp (pe_callB hc hg hn bb_isinstance ha (by decide) (by decide) (star_cons hs) (star_any _ _ fun y hy => by simp only [List.mem_cons, List.mem_nil_iff, or_false] at hy; subst hy; rfl)) fun σ H Q q => ?_
  rw [tG_eq] at q
  obtain ⟨ρ, F, R, w⟩ := q
  unfold tCB tCons
  rw [tG_eq]
  refine ⟨ρ, F, R, ?_⟩
  cases er : g ρ with
  | stuck => rw [er] at w; exact w
  | exc c => rw [er] at w; exact w
  | ok m d =>
    rw [er] at w
    intro v F1 H1 s1 r1 _
    have w1 : Want (C.at X) F1 H1 σ (isxTR xis ns (.ok m d)) Q := Want.step s1 w
    cases d with
    | exn c =>
      have w1 : Want (C.at X) F1 H1 σ (match isxAny xis c ns with | some b => .ok .fz (.bl b) | none => .stuck) Q := w1
      cases ex : isxAny xis c ns with
      | none => rw [ex] at w1; exact w1.elim
      | some b =>
        rw [ex] at w1
        obtain ⟨C', n1, Z⟩ := isxAny_cls hX hne ex
        obtain ⟨a, C2, rfl, n2, ho⟩ := rp_exn s1.sub r1
        rw [n1] at n2; cases n2
        unfold tTup
        refine tCs_all ⟨?_, fun t ht => ?_⟩
        · show cvs.length ≤ sizeLine
          rw [hlen, sizeLine_eq]; omega
        · have hat : a ≠ t := fun z => by rw [z, ht] at ho; cases ho
          exact ⟨a, t, C', c, b, rfl, by rw [upd_ne hat]; exact ho, n1, Z, upd_same, ex, w1 _ _ _ (Step.laid (.tup cvs) s1.sub ht) (rp_bl _) (by intro z; cases z)⟩
    | _ => exact w1.elim
end
end D3

namespace D3
open PySem PySem.Spec PySem.Calls PyProof.Rows L2
/-! ### a def by its body, errors too -/
theorem fnok_phi {P : Program} {w : World} {K : PySem.W.Frag} {mg : Str → Option Value} {base : Heap} {x qual : Str} {st : Stmt} {f : Addr} {fd : FuncData} {N ps : List Str} {k : Nat} {g : Rho → SRes} (F : Fun K x qual st f fd) (S : FnScope N ps (defScope st))
    (hbody : ∀ (C : Cw) (cdv : Value) (A : Around) (outer : List Env) (s : Shared) (H : Hp) (E : XK), C.EE = eeOf mg E → Room k (A.deeper (envOfC qual (defScope st) s.heap.objs.size f cdv)) → PBv C (cxOf (CX1 P w) P w K mg base N qual (defScope st) f cdv A outer s H E) (defBody st) g) :
    FnOk P w K mg base (CX1 P w) (k + 1) f fd ps (spV K mg ps.length (phi ps.length N.length g)) := by
  obtain ⟨oc, od, kV, doc, pm, an, cdv, ct, osl, rfl, lk, hcd⟩ := F.ex
  refine fn_of lk hcd S (fun vs H Q E h => h.1) fun A outer s H vs Q E hr h => ?_
  obtain ⟨hl, F0, ds, sF, rl, h⟩ := h
  have hl' : ds.length = ps.length := by rw [← rl.length]; exact hl
  let C : Cw := ⟨K, F0, H, eeOf mg E⟩
  refine ⟨_, hbody C cdv A outer s H E rfl hr, startR N.length ds, F0, relSt_start sF rl, ?_⟩
  unfold phi at h
  rw [if_pos hl'] at h
  cases er : g (startR N.length ds) with
  | nx ρ => rw [er] at h; exact fun σ' F' H' _ R => h.2 .non F' H' R.st rp_non (by intro z; cases z)
  | rt m d => rw [er] at h; exact fun v F' H' s rp fr => h.2 v F' H' s rp fr
  | bk ρ => rw [er] at h; exact h.elim
  | ct ρ => rw [er] at h; exact h.elim
  | exc c ρ => rw [er] at h; exact fun σ' F' H' _ R u hu => h F' H' u R.st hu
  | stuck => rw [er] at h; exact h.elim
/-! ### xs.append(e), xs a list of one's own -/
section
variable {C : Cw} {X : Cx} {e : Expr} {g : Rho → Res} {x : Str} {p ap cp pos : Pos}
end
end D3

namespace D3
open PySem PySem.Spec PyProof.Rows L2
/-! ### min(xs, default=None), xs a list of ints -/
section
variable {prog : Program} {w : World} {A : Around} {R : Result → Shared → Prop} {J : Addr} {fp wr : List Addr} {n : Nat} {P : Nat → Value → Prop} {St : Nat → Heap → Prop} {ns : List Int} {S : Addr}
end
end D3

namespace D3
open PySem PySem.Spec PyProof.Rows L2
section
variable {prog : Program} {w : World} {A : Around} {E : Value → Shared → Prop} {s : Shared}
end
section
variable {C : Cw} {X : Cx} {e : Expr} {g : Rho → Res} {p q kp pos : Pos} {j}
end
end D3

namespace D3
open PySem PySem.Spec PyProof.Rows L2
/-! ### slices of texts, lists, tuples -/
theorem RepL.drop {K : PySem.W.Frag} {F : Hp} : ∀ (n : Nat) {ds : List D} {xs : List V}, RepL K F ds xs → RepL K F (ds.drop n) (xs.drop n)
  | 0, _, _, h => h
  | n + 1, [], xs, h => by
    simp only [RepL] at h
    subst h; simp [RepL]
  | n + 1, d :: ds, xs, h => by
    simp only [RepL] at h
    obtain ⟨v, vs, rfl, _, t⟩ := h
    exact RepL.drop n t
theorem RepL.take {K : PySem.W.Frag} {F : Hp} : ∀ (n : Nat) {ds : List D} {xs : List V}, RepL K F ds xs → RepL K F (ds.take n) (xs.take n)
  | 0, _, _, _ => by simp [RepL]
  | n + 1, [], xs, h => by
    simp only [RepL] at h
    subst h; simp [RepL]
  | n + 1, d :: ds, xs, h => by
    simp only [RepL] at h
    obtain ⟨v, vs, rfl, r, t⟩ := h
    simp only [List.take_succ_cons, RepL]
    exact ⟨v, _, rfl, r, RepL.take n t⟩
section
variable {C : Cw} {X : Cx} {a : Expr} {ga : Rho → Res} {pos : Pos}
/-! ### startswith, removeprefix -/
def swD : Md → D → List (Md × D) → Option (Md × D) := fun _ x xs => match x, xs with
  | .str z, [(_, .str y)] => some (.fz, .bl (Txt.startswith z y))
  | _, _ => none
def rpD : Md → D → List (Md × D) → Option (Md × D) := fun _ x xs => match x, xs with
  | .str z, [(_, .str y)] => some (.fz, .str (Txt.removeprefix z y))
  | _, _ => none
end
end D3

namespace D3
open PySem PySem.Spec PyProof.Rows L2
section
variable {C : Cw} {X : Cx} {pos : Pos}
end
end D3

set_option genSizeOfSpec false
set_option genInjectivity false
namespace D3
open PySem PySem.Spec PyProof.Rows L2
/-! ### a small language for what is read off the text, its matcher and its values -/
inductive KC where | s (y : Str) | i (n : Int)
  deriving DecidableEq
def KC.d : KC → D | .s y => .str y | .i n => .int n
inductive GV where | con (c : KC) | fn (n : Nat) | no | cls
  deriving DecidableEq
inductive Bn where | len | isinstance
  deriving DecidableEq
def Bn.name : Bn → Str
  | .len => "len" | .isinstance => "isinstance"
def Bn.f : Bn → List (Md × D) → Option (Md × D)
  | .len => lenD | .isinstance => isiD
def Bn.id : Bn → String
  | .len => "len" | .isinstance => "isinstance"
inductive Ty where | int | bool | str | tuple | list | dict
  deriving DecidableEq
def Ty.f : Ty → List (Md × D) → Option (Md × D)
  | .tuple => tcTuple | .list => tcList | .int => tcInt2 | .str => tcStr | _ => fun _ => none
def Ty.id : Ty → String
  | .int => "int" | .bool => "bool" | .str => "str" | .tuple => "tuple" | .list => "list" | .dict => "dict"
inductive Mt where | join | startswith | removeprefix
  deriving DecidableEq
def Mt.name : Mt → Str | .join => "join" | .startswith => "startswith" | .removeprefix => "removeprefix"
def Mt.ty : Mt → String | .join => "str" | .startswith => "str" | .removeprefix => "str"
def Mt.f : Mt → Md → D → List (Md × D) → Option (Md × D) | .join => joinD | .startswith => swD | .removeprefix => rpD
/-- what is known of the whole text: the defs, the objects made, the classes -/
structure WD where
  Φ : Str → List D → Res
  I : Str → Option (List D → Res)
  cl : List CI
  xt : List ((Str × Str) × Bool)
  xi : List ((Str × Str) × Bool)
def WD.xf (W : WD) : Str → Str → Option Bool := fun c x => W.xt.lookup (c, x)
def WD.xg (W : WD) : Str → Str → Option Bool := fun c x => W.xi.lookup (c, x)
inductive E where
  | var (i : Nat) | non | bl (b : Bool) | int (i : Int) | str (x : Str)
  | glob (x : Str) (c : KC) | ty (t : Ty)
  | bin (op : Operator) (a b : E) | cmp (op : CmpOp) (a b : E)
  | andL (es : List E) | orL (es : List E) | not (a : E) | neg (a : E) | tru (a : E) | frz (a : E)
  | ix (a b : E)
  | tup (es : List E) | lst (es : List E)
  | call (f : Str) (n : Nat) (es : List E) | bcall (b : Bn) (es : List E)
  | items (a : E) | enum1 (a : E)
 
  | chain (op op' : CmpOp) (a b c : E) | tcall (t : Ty) (es : List E)
  | isx1 (a : E) (n : Str) | isxT (a : E) (ns : List Str)
 
  | isi (a : E) (c : Str) | fld (a : E) (f : Str) | meth (o : E) (m : Str) (es : List E) | make (c key : Str) (n : Nat) (es : List E)
def noF : Md → D → Md → D → Option (Md × D) := fun _ _ _ _ => none
def fBin : Operator → Md → D → Md → D → Option (Md × D)
  | .Add => orO fAdd noK | .Sub => fSub | .Mult => orO fMul noK | .Mod => fMod | .FloorDiv => fDiv | .Pow => fPow | _ => noF
def fCmp : CmpOp → Md → D → Md → D → Option (Md × D)
  | .Lt => orO fLt noK | .LtE => fLe | .Gt => fGt | .GtE => fGe | .Eq => fEq | .NotEq => fNe | .In => orO fIn noK | .NotIn => orO fNotIn noK | .Is => fIs false | .IsNot => fIs true
mutual
def evE (W : WD) : E → Rho → Res
  | .var i, ρ => getS ρ i
  | .non, _ => .ok .fz .non
  | .bl b, _ => .ok .fz (.bl b)
  | .int i, _ => .ok .fz (.int i)
  | .str x, _ => .ok .fz (.str x)
  | .glob _ c, _ => .ok .fz c.d
  | .ty t, _ => .ok .fz (.ty t.id)
  | .bin op a b, ρ => op2 (fBin op) (evE W a ρ) (evE W b ρ)
  | .cmp op a b, ρ => op2 (fCmp op) (evE W a ρ) (evE W b ρ)
  | .andL es, ρ => evA W es ρ
  | .orL es, ρ => evO' W es ρ
  | .not a, ρ => notR (evE W a ρ)
  | .neg a, ρ => negR (evE W a ρ)
  | .tru a, ρ => truR (evE W a ρ)
  | .frz a, ρ => frzR (evE W a ρ)
  | .ix a b, ρ => op2 ixD (evE W a ρ) (evE W b ρ)
  | .tup es, ρ => tupR (evEs W es ρ)
  | .lst es, ρ => lstR (evEs W es ρ)
  | .call f n es, ρ => callF n (W.Φ f) (evEs W es ρ)
  | .bcall b es, ρ => callR b.f (evEs W es ρ)
  | .items a, ρ => itemsR (frzR (evE W a ρ))
  | .enum1 a, ρ => enumR (consL (frzR (evE W a ρ)) (.ok []))
  | .isx1 a n, ρ => isx1R W.xg n (evE W a ρ)
  | .isxT a ns, ρ => isxTR W.xg ns (evE W a ρ)
  | .chain op op' a b c, ρ => chainR (fCmp op) (fCmp op') (evE W a ρ) (evE W b ρ) (evE W c ρ)
  | .tcall t es, ρ => callR t.f (evEs W es ρ)
  | .isi a c, ρ => isoR W.cl c (evE W a ρ)
  | .fld a f, ρ => fldR W.cl f (evE W a ρ)
  | .meth o m es, ρ => methR W.cl W.Φ m (evE W o ρ) (evEs W es ρ)
  | .make c key n es, ρ => match W.I key with | some Φ => makeR n Φ (evEs W es ρ) | none => .stuck
def evEs (W : WD) : List E → Rho → ResL
  | [], _ => .ok []
  | e :: es, ρ => consL (evE W e ρ) (evEs W es ρ)
def evA (W : WD) : List E → Rho → Res
  | [], _ => .stuck
  | [e], ρ => evE W e ρ
  | e :: es, ρ => andR (evE W e ρ) (evA W es ρ)
def evO' (W : WD) : List E → Rho → Res
  | [], _ => .stuck
  | [e], ρ => evE W e ρ
  | e :: es, ρ => orR (evE W e ρ) (evO' W es ρ)
def evF (W : WD) : List E → Rho → Res
  | [], _ => .ok .fz (.bl true)
  | e :: es, ρ => andR (evE W e ρ) (evF W es ρ)
def evL (W : WD) : List E → List (Rho → Res)
  | [] => []
  | e :: es => evE W e :: evL W es
def evO (W : WD) : Option E → Option (Rho → Res)
  | none => none
  | some e => some (evE W e)
end
/-- the matcher's surroundings -/
structure MG where
  G : List (Str × GV)
  mk0 : List Str
  mki : List (Str × Str × Nat)
  iso : List Str
  xcs : List Str
  xns : List Str
structure MC where
  N : List Str
  sc : Scope
  g : MG
  fn : Bool
  calm : Bool
  rz : Bool
def MC.kind (m : MC) (x : Str) : Option NameKind := m.sc.names.lookup x
def MC.vis (m : MC) (x : Str) : Bool := (m.kind x == some .local || m.kind x == some .cell || m.kind x == some .free) && x != "__debug__" && x != "__classdict__"
def MC.glob (m : MC) (x : Str) (v : GV) : Bool := m.kind x == some .globalImplicit && m.g.G.lookup x == some v && x != "__debug__" && x != "__name__"
def MC.gk (m : MC) (x : Str) : Bool := m.kind x == some .globalImplicit && x != "__debug__"
def strK (x : Str) : Bool := decide (x.length ≤ sizeLine) && PyData.strOk x
def notSl : Expr → Bool | .Slice .. => false | _ => true
def isTupT : Expr → Bool | .Tuple .. => true | _ => false
def notSet : Expr → Bool | .Set .. => false | _ => true
def plainT : Expr → Bool | .UnaryOp .Not _ _ => false | .BoolOp .. => false | .IfExp .. => false | .Compare .. => false | _ => true
def MC.sub (m : MC) (scope : Scope) (capN tgN : List Str) : MC := { m with N := capN ++ tgN, sc := { scope with names := relSc scope m.sc }, fn := false, rz := false }
def MC.loc (m : MC) (i : Nat) (x : Str) : Bool := m.N[i]? == some x && (m.kind x == some .local || (m.fn && m.kind x == some .cell))
mutual
def mG (m : MC) : Tg → Expr → Bool
  | .nm i, e => match e with | .Name x _ => m.loc i x | _ => false
  | .tp ts, e => match e with | .Tuple es _ _ => m.calm && es.all notStarT && mGs m ts es | _ => false
def mGs (m : MC) : List Tg → List Expr → Bool
  | [], es => es.isEmpty
  | t :: ts, l => match l with | e :: es => mG m t e && mGs m ts es | _ => false
end
def namesAre : List Str → List Expr → Bool
  | [], es => es.isEmpty
  | n :: ns, l => match l with | .Name x _ :: es => x == n && namesAre ns es | _ => false
def strK' : KC → Bool | .s y => strK y | .i _ => true
mutual
def mE (m : MC) : E → Expr → Bool
  | .frz a, e => mE m a e
  | .var i, e => match e with | .Name x _ => m.N[i]? == some x && m.vis x | _ => false
  | .glob y c, e => match e with | .Name x _ => x == y && m.glob x (.con c) && strK' c | _ => false
  | .ty t, e => match e with | .Name x _ => x == (t.id : Str) && m.glob x .no | _ => false
  | .non, e => match e with | .Constant .none _ _ => true | _ => false
  | .bl c, e => match e with | .Constant (.bool b) _ _ => b == c | _ => false
  | .int c, e => match e with | .Constant (.int b) _ _ => b == c | _ => false
  | .str c, e => match e with | .Constant (.str b) _ _ => b == c && strK b | _ => false
  | .bin op a b, e => match e with | .BinOp x o y _ => o == op && (mE m a x && mE m b y) | _ => false
  | .cmp op a b, e => match e with | .Compare x [o] [y] _ => o == op && notSet y && (mE m a x && mE m b y) | _ => false
  | .andL es, e => match e with | .BoolOp .And xs _ => mEs m es xs | _ => false
  | .orL es, e => match e with | .BoolOp .Or xs _ => mEs m es xs | _ => false
  | .not a, e => match e with | .UnaryOp .Not x _ => mE m a x | _ => false
  | .neg a, e => match e with | .UnaryOp .USub x _ => mE m a x | _ => false
  | .ix a b, e => match e with | .Subscript x y _ => notSl y && (mE m a x && mE m b y) | _ => false
  | .tup fs, e => match e with | .Tuple es _ _ => mEs m fs es | _ => false
  | .lst fs, e => match e with | .List es _ => mEs m fs es | _ => false
  | .call g n es, e => match e with | .Call (.Name f _) (x :: xs) [] _ => m.calm && f == g && m.glob f (.fn n) && mEs m es (x :: xs) | _ => false
  | .bcall b es, e => match e with | .Call (.Name f _) (x :: xs) [] _ => (m.calm || b == .len || b == .isinstance) && f == b.name && m.glob f .no && mEs m es (x :: xs) | _ => false
  | .chain op op' a b c, e => match e with | .Compare x [o, o'] [y, z] _ => o == op && o' == op' && notSet z && (mE m a x && (mE m b y && mE m c z)) | _ => false
  | .tcall t es, e => match e with | .Call (.Name f _) (x :: xs) [] _ => f == (t.id : Str) && m.glob f .no && mEs m es (x :: xs) | _ => false
  | .isi a c, e => match e with | .Call (.Name f _) [x, .Name d _] [] _ => f == "isinstance" && m.glob f .no && d == c && m.glob d .cls && m.g.iso.contains d && notStar x && mE m a x | _ => false
  | .fld a f, e => match e with | .Attribute x g _ => g == f && notSup x && mE m a x | _ => false
  | .meth a f es, e => match e with | .Call (.Attribute o g ap) xs [] cp => m.calm && g == f && ap.endLine == cp.line && decide (xs.length < 30) && notSup o && (mE m a o && mEs m es xs) | _ => false
  | .make c key n es, e => match e with | .Call (.Name f _) (x :: xs) [] _ => m.calm && f == c && m.glob f .cls && m.g.mki.contains (f, key, n) && mEs m es (x :: xs) | _ => false
  | .isx1 a n, e => match e with | .Call (.Name f _) [x, .Name d _] [] _ => f == "isinstance" && m.glob f .no && d == n && m.gk d && m.g.xns.contains d && notStar x && mE m a x | _ => false
  | .isxT a ns, e => match e with | .Call (.Name f _) [x, .Tuple es _ _] [] _ => f == "isinstance" && m.glob f .no && !ns.isEmpty && decide (ns.length ≤ 100) && namesAre ns es && ns.all (fun d => m.gk d && m.g.xns.contains d) && notStar x && mE m a x | _ => false
  | .tru _, _ => false
  | .items _, _ => false
  | .enum1 _, _ => false
def mT (m : MC) : E → Expr → Bool
  | .tru a, e => plainT e && mE m a e
  | .cmp op a b, e => match e with | .Compare x [o] [y] _ => o == op && notSet y && (mE m a x && mE m b y) | _ => false
  | .chain op op' a b c, e => match e with | .Compare x [o, o'] [y, z] _ => o == op && o' == op' && notSet z && (mE m a x && (mE m b y && mE m c z)) | _ => false
  | .andL es, e => match e with | .BoolOp .And xs _ => mF m es xs | _ => false
  | .orL es, e => match e with | .BoolOp .Or xs _ => mF m es xs | _ => false
  | .not a, e => match e with | .UnaryOp .Not x _ => mT m a x | _ => false
  | _, _ => false
def mI (m : MC) (tg : Expr) : E → Expr → Bool
  | .items a, e => mE m a e
  | .enum1 a, e => match e with | .Call (.Name f _) [x] [] _ => f == "enumerate" && isTupT tg && m.glob f .no && notStar x && mE m a x | _ => false
  | _, _ => false
def mEs (m : MC) : List E → List Expr → Bool
  | [], es => es.isEmpty
  | e :: es, l => match l with | x :: xs => notStar x && mE m e x && mEs m es xs | _ => false
def mO (m : MC) : Option E → Option Expr → Bool
  | none, e => e.isNone
  | some e, l => match l with | some x => mE m e x | _ => false
def mF (m : MC) : List E → List Expr → Bool
  | [], es => es.isEmpty
  | e :: es, l => match l with | x :: xs => mT m e x && mF m es xs | _ => false
end
/-- what a text's surroundings give -/
structure SX (k : Nat) (W : WD) (m : MC) (C : Cw) (X : Cx) : Prop where
  hN : X.N = m.N
  hs : X.env.scope = m.sc
  cm : m.calm = true → X.calm = true
  rm : m.calm = true → Room k X.A
  un : X.A.units + 64 < cLine
  xo : m.calm = true → XOk (CX1 X.prog X.w) (C.at X) X
  xt : XtOk X.K X.mg W.xf
  xi : XisOk X.K X.mg W.xg
  xc : ∀ c, c ∈ m.g.xcs → ∃ Cc, X.mg c = some (.ref Cc) ∧ RzCls X.K Cc
  xn : ∀ n, n ∈ m.g.xns → ∃ cv, ClsV X.mg n cv
  con : ∀ x c, m.g.G.lookup x = some (.con c) → match c with | .s y => ∃ t, X.mg x = some (.str y t) | .i n => ∃ t, X.mg x = some (.int n t)
  no : ∀ x, m.g.G.lookup x = some .no → X.mg x = none
  mk0 : ∀ c, c ∈ m.g.mk0 → MkV0 X.K X.mg c
  mki : ∀ c key n, (c, key, n) ∈ m.g.mki → ∀ Φ, W.I key = some Φ → ∃ j, j + 1 ≤ k ∧ InV X.prog X.w X.K X.mg X.base (CX1 X.prog X.w) j c n Φ
  iso : ∀ c, c ∈ m.g.iso → IsV X.K X.mg W.cl c
  fl : ∀ i f, i ∈ W.cl → f ∈ i.flds → FlV X.K i.name f
  mt : ∀ c m key n, CI.meth W.cl c m = some (key, n) → MtV X.prog X.w X.K X.mg X.base (CX1 X.prog X.w) k c m n (W.Φ key)
  fn : ∀ x n, m.g.G.lookup x = some (.fn n) → FnV X.prog X.w X.K X.mg X.base (CX1 X.prog X.w) k x n (W.Φ x)
  fnn : m.fn = true → ∀ x, X.fn x = true
section
variable {k : Nat} {W : WD} {m : MC} {C : Cw} {X : Cx} {x y : Expr}
theorem SX.gl (S : SX k W m C X) {z : Str} {v : GV} (h : m.glob z v = true) : Gl X z ∧ m.g.G.lookup z = some v ∧ (z == ("__debug__" : Str)) = false ∧ z ≠ "__name__" := by
  unfold MC.glob MC.kind at h
  simp only [Bool.and_eq_true, beq_iff_eq, bne_iff_ne] at h
  obtain ⟨⟨⟨h1, h2⟩, h3⟩, h4⟩ := h
  refine ⟨?_, h2, by simpa using h3, h4⟩
  show X.env.scope.names.lookup z = _
  rw [S.hs]; exact h1
theorem SX.gk (S : SX k W m C X) {z : Str} (h : m.gk z = true) : Gl X z ∧ (z == ("__debug__" : Str)) = false := by
  unfold MC.gk MC.kind at h
  simp only [Bool.and_eq_true, beq_iff_eq, bne_iff_ne] at h
  refine ⟨?_, by simpa using h.2⟩
  show X.env.scope.names.lookup z = _
  rw [S.hs]; exact h.1
theorem SX.vis (S : SX k W m C X) {z : Str} (h : m.vis z = true) : Vis X.env.scope z ∧ (z == ("__debug__" : Str)) = false ∧ (z == ("__classdict__" : Str)) = false := by
  unfold MC.vis MC.kind at h
  simp only [Bool.and_eq_true, Bool.or_eq_true, beq_iff_eq, bne_iff_ne] at h
  obtain ⟨⟨h1, h2⟩, h3⟩ := h
  refine ⟨?_, by simpa using h2, by simpa using h3⟩
  unfold Vis
  rw [S.hs]
  rcases h1 with (h1 | h1) | h1
  · exact .inl h1
  · exact .inr (.inl h1)
  · exact .inr (.inr h1)
theorem bn_boot (b : Bn) : bootBuiltins b.name = some (.builtin b.id) := by
  cases b
  · exact bb_len
  · exact bb_isinstance
theorem bn_call (b : Bn) {c : Bool} (hc : c = true → X.calm = true) (h : (c || b == .len || b == .isinstance) = true) : CallD X (.builtin b.id) b.f := by
  have hc : (b == .len || b == .isinstance) = false → X.calm = true := fun z => hc (by cases c with | true => rfl | false => rw [Bool.false_or] at h; rw [h] at z; cases z)
  cases b
  · exact calld_len
  · exact calld_isi
theorem no_call {f : Value} : CallD X f (fun _ => none) := ⟨fun _ _ _ => False, fun _ _ _ _ _ _ _ _ _ h => h.elim, fun _ _ _ _ _ _ _ _ _ e _ => by cases e⟩
theorem ty_call (t : Ty) : CallD X (.type t.id) t.f := by
  cases t
  · exact calld_int2
  · exact no_call
  · exact calld_str
  · exact calld_tuple
  · exact calld_list
  · exact no_call
theorem ty_boot (t : Ty) : bootBuiltins (t.id : Str) = some (.type t.id) := by
  cases t
  · exact bb_int
  · exact bb_bool
  · exact bb_str
  · exact bb_tuple
  · exact bb_list
  · exact bb_dict
theorem bin_op (op : Operator) : (∃ φ, fBin op = φ ∧ OpD C X (binaryOp op) φ) ∨ fBin op = noF := by
  cases op
  case Add => exact .inl ⟨_, rfl, o_add.or opd_noK⟩
  case Sub => exact .inl ⟨_, rfl, opd_sub⟩
  case Mult => exact .inl ⟨_, rfl, o_mul.or opd_noK⟩
  case Mod => exact .inl ⟨_, rfl, opd_mod⟩
  case FloorDiv => exact .inl ⟨_, rfl, opd_fdiv⟩
  case Pow => exact .inl ⟨_, rfl, opd_pow⟩
  all_goals exact .inr rfl
theorem isB_noK : IsB noK := fun _ _ _ _ _ _ z => by cases z
theorem cmp_op (op : CmpOp) (hu : X.A.units + 64 < cLine) : (OpD C X (compareOp op) (fCmp op) ∧ IsB (fCmp op)) ∨ fCmp op = noF := by
  cases op
  case Lt => exact .inl ⟨opd_lt.or opd_noK, isB_or isB_I isB_noK⟩
  case LtE => exact .inl ⟨opd_le, isB_I⟩
  case Gt => exact .inl ⟨opd_gt, isB_I⟩
  case GtE => exact .inl ⟨opd_ge, isB_I⟩
  case Eq => exact .inl ⟨o_eq hu, isB_or isB_eqF isB_noK⟩
  case NotEq => exact .inl ⟨o_ne hu, isB_or isB_eqF isB_noK⟩
  case In => exact .inl ⟨opd_inS.or opd_noK, isB_or isB_S isB_noK⟩
  case NotIn => exact .inl ⟨opd_notinS.or opd_noK, isB_or isB_S isB_noK⟩
  case Is => exact .inl ⟨opd_is, isB_is⟩
  case IsNot => exact .inl ⟨opd_isnot, isB_is⟩
theorem noF_opd {f : Value → Value → Sem Value} : OpD C X f noF := ⟨fun _ _ _ _ => False, fun _ _ _ _ _ _ _ _ _ _ _ _ h => h.elim, fun _ _ _ _ _ _ _ _ _ _ _ _ _ _ e _ => by cases e⟩
theorem bin_opd (op : Operator) : OpD C X (binaryOp op) (fBin op) := by
  rcases bin_op (C := C) (X := X) op with ⟨φ, e, h⟩ | e
  · rw [e]; exact h
  · rw [e]; exact noF_opd
theorem cmp_opd (op : CmpOp) (hu : X.A.units + 64 < cLine) : OpD C X (compareOp op) (fCmp op) ∧ IsB (fCmp op) := by
  rcases cmp_op (C := C) op hu with h | e
  · exact h
  · rw [e]; exact ⟨noF_opd, fun _ _ _ _ _ _ z => by cases z⟩
theorem nomarkS (op : CmpOp) {e : Expr} (h : notSet e = true) : behindInMarks op e = false := by
  cases e <;> first | rfl | cases h
theorem nofold {e : Expr} {env : Env} (h : notSet e = true) : ∀ v, foldedSetIterable e env v = pure v := by
  intro v
  cases e <;> first | rfl | cases h
theorem plainIx {e : Expr} (h : notSl e = true) : PlainIx e := by
  intro o i
  cases e <;> first | rfl | cases h
theorem plain_true {e : Expr} {env : Env} (h : plainT e = true) : ∀ whole, isTrue e env whole = (do let v ← whole; standAt e.pos; holding [v] (truthy v)) := by
  intro whole
  cases e
  case UnaryOp op _ _ => cases op <;> first | rfl | cases h
  all_goals first | rfl | cases h
theorem SX.sub (S : SX k W m C X) {scope : Scope} {capN tgN : List Str} (cl : List (Str × Addr)) (A : Addr) (fp : List Addr) (s3 : Shared) (H3 : Hp) : SX k W (m.sub scope capN tgN) C.nox (compCx X scope (capN ++ tgN) cl A fp s3 H3) := by
  refine ⟨rfl, ?_, S.cm, S.rm, S.un, fun _ pins σ H s e s' I h => ?_, S.xt, S.xi, S.xc, S.xn, S.con, S.no, S.mk0, S.mki, S.iso, S.fl, S.mt, S.fn, fun z => by cases z⟩
  rotate_left
  · obtain ⟨_, _, _, _, _, _, _, _, _, _, _, _, z⟩ := h
    exact z.elim
  show (compEnvC scope cl A X.env).scope = _
  unfold MC.sub
  rw [← S.hs]
  rfl
theorem SX.loc (S : SX k W m C X) {i : Nat} {z : Str} (h : m.loc i z = true) : X.N[i]? = some z ∧ L2.Loc X.env.scope z ∧ (X.fn z = true ∨ X.env.scope.names.lookup z = some .local) := by
  unfold MC.loc MC.kind at h
  simp only [Bool.and_eq_true, Bool.or_eq_true, beq_iff_eq] at h
  refine ⟨by rw [S.hN]; exact h.1, ?_, ?_⟩
  · unfold L2.Loc
    rw [S.hs]
    rcases h.2 with q | q
    · exact .inl q
    · exact .inr q.2
  · rw [S.hs]
    rcases h.2 with q | q
    · exact .inr q
    · exact .inl (S.fnn q.1 z)
mutual
theorem sG (S : SX k W m C X) (hN : m.N.Nodup) : ∀ (t : Tg) {e : Expr}, mG m t e = true → PGw X e t
  | .nm i, e, h => by
    simp only [mG] at h
    split at h
    · obtain ⟨a, b, c⟩ := S.loc h
      exact pgw_name (by rw [S.hN]; exact hN) a b c
    · cases h
  | .tp ts, e, h => by
    simp only [mG] at h
    split at h
    · rw [Bool.and_eq_true, Bool.and_eq_true, List.all_eq_true] at h
      obtain ⟨p, l⟩ := sGs S hN ts h.2 h.1.2
      exact pgw_tup (S.cm h.1.1) p h.1.2 l
    · cases h
theorem sGs (S : SX k W m C X) (hN : m.N.Nodup) : ∀ (ts : List Tg) {es : List Expr}, mGs m ts es = true → (∀ e ∈ es, notStarT e = true) → PGws X es ts ∧ es.length = ts.length
  | [], [], h, _ => ⟨pgws_nil, rfl⟩
  | [], _ :: _, h, _ => by simp [mGs] at h
  | t :: ts, [], h, _ => by simp [mGs] at h
  | t :: ts, e :: es, h, hs => by
    simp only [mGs, Bool.and_eq_true] at h
    obtain ⟨p, l⟩ := sGs S hN ts h.2 fun x hx => hs x (List.mem_cons_of_mem _ hx)
    exact ⟨pgws_cons (sG S hN t h.1) p (hs e List.mem_cons_self), by rw [List.length_cons, List.length_cons, l]⟩
end
end
end D3

namespace D3
open PySem PySem.Spec PyProof.Rows L2
theorem mEs_star {m : MC} : ∀ {fs : List E} {es : List Expr}, mEs m fs es = true → ∀ x ∈ es, notStar x = true
  | [], [], _ => fun x hx => by cases hx
  | [], _ :: _, h => by simp [mEs] at h
  | f :: fs, [], h => by simp [mEs] at h
  | f :: fs, e :: es, h => by
    simp only [mEs, Bool.and_eq_true] at h
    intro x hx
    rcases List.mem_cons.mp hx with rfl | hx
    · exact h.1.1
    · exact mEs_star h.2 x hx
theorem pv_never {C : Cw} {X : Cx} {e : Expr} : PV C X e (fun _ => .stuck) := fun pins s σ H Q I q => by
  rw [tG_eq] at q
  obtain ⟨ρ, F, R, w⟩ := q
  exact w.elim
theorem clsVs_of {X : Cx} : ∀ {ns : List Str}, (∀ n ∈ ns, ∃ cv, ClsV X.mg n cv) → ∃ vs, ClsVs X.mg ns vs
  | [], _ => ⟨[], rfl⟩
  | n :: ns, h => by
    obtain ⟨v, hv⟩ := h n List.mem_cons_self
    obtain ⟨vs, hr⟩ := clsVs_of fun m hm => h m (List.mem_cons_of_mem _ hm)
    exact ⟨v :: vs, v, vs, rfl, hv, hr⟩
theorem namesAre_len : ∀ {ns : List Str} {es : List Expr}, namesAre ns es = true → es.length = ns.length
  | [], [], _ => rfl
  | [], _ :: _, h => by simp [namesAre] at h
  | n :: ns, [], h => by simp [namesAre] at h
  | n :: ns, e :: es, h => by
    unfold namesAre at h
    split at h
    · rename_i q
      cases q
      rw [Bool.and_eq_true] at h
      rw [List.length_cons, List.length_cons, namesAre_len h.2]
    · cases h
theorem namesAre_at : ∀ {ns : List Str} {es : List Expr} {i : Nat} {n : Str}, namesAre ns es = true → ns[i]? = some n → ∃ q, es[i]? = some (Expr.Name n q)
  | [], _, _, _, _, e => by simp at e
  | n :: ns, [], _, _, h, _ => by simp [namesAre] at h
  | n :: ns, e :: es, i, z, h, hi => by
    unfold namesAre at h
    split at h
    · rename_i x p es' q
      cases q
      rw [Bool.and_eq_true, beq_iff_eq] at h
      cases i with
      | zero =>
        have : n = z := by simpa using hi
        exact ⟨p, by simp [h.1, this]⟩
      | succ i =>
        obtain ⟨q, e2⟩ := namesAre_at (i := i) h.2 (by simpa using hi)
        exact ⟨q, by simpa using e2⟩
    · cases h
set_option maxHeartbeats 4000000 in
mutual
theorem sE {k : Nat} {W : WD} : ∀ (f : E) {m : MC} {C : Cw} {X : Cx} {e : Expr}, SX k W m C X → mE m f e = true → PV C X e (evE W f)
  | .frz a, m, C, X, e, S, h => by simp only [mE] at h; simp only [evE]; exact pv_frz (sE a S h)
  | .var i, m, C, X, e, S, h => by
    simp only [mE] at h
    split at h
    · simp only [Bool.and_eq_true, beq_iff_eq] at h
      obtain ⟨h1, h2, h3⟩ := S.vis h.2
      simp only [evE]
      exact pv_var i (pe_var (by rw [S.hN]; exact h.1) h1 h2 h3)
    · cases h
  | .glob y c, m, C, X, e, S, h => by
    simp only [mE] at h
    split at h
    · simp only [Bool.and_eq_true, beq_iff_eq] at h
      obtain ⟨⟨rfl, h1⟩, h2⟩ := h
      obtain ⟨g, l, hd, hn⟩ := S.gl h1
      have := S.con _ _ l
      cases c with
      | s y => obtain ⟨t, ht⟩ := this; simp only [evE, KC.d]; exact pv_globS g ht h2 hd
      | i n => obtain ⟨t, ht⟩ := this; simp only [evE, KC.d]; exact pv_globI g ht hd
    · cases h
  | .ty t, m, C, X, e, S, h => by
    simp only [mE] at h
    split at h
    · simp only [Bool.and_eq_true, beq_iff_eq] at h
      obtain ⟨rfl, h1⟩ := h
      obtain ⟨g, l, hd, hn⟩ := S.gl h1
      simp only [evE]; exact pv_ty g (S.no _ l) (ty_boot t) hn hd
    · cases h
  | .non, m, C, X, e, S, h => by
    simp only [mE] at h
    split at h
    · simp only [evE]; exact pv_non
    · cases h
  | .bl c, m, C, X, e, S, h => by
    simp only [mE] at h
    split at h
    · simp only [beq_iff_eq] at h; subst h; simp only [evE]; exact pv_bl
    · cases h
  | .int c, m, C, X, e, S, h => by
    simp only [mE] at h
    split at h
    · simp only [beq_iff_eq] at h; subst h; simp only [evE]; exact pv_int
    · cases h
  | .str c, m, C, X, e, S, h => by
    simp only [mE] at h
    split at h
    · simp only [Bool.and_eq_true, beq_iff_eq] at h; obtain ⟨rfl, h⟩ := h; simp only [evE]; exact pv_str h
    · cases h
  | .bin op a b, m, C, X, e, S, h => by
    simp only [mE] at h
    split at h
    · simp only [Bool.and_eq_true, beq_iff_eq] at h
      obtain ⟨rfl, h1, h2⟩ := h
      simp only [evE]; exact pv_op (bin_opd _) (sE a S h1) (sE b S h2)
    · cases h
  | .cmp op a b, m, C, X, e, S, h => by
    simp only [mE] at h
    split at h
    · simp only [Bool.and_eq_true, beq_iff_eq] at h
      obtain ⟨⟨rfl, hs⟩, h1, h2⟩ := h
      simp only [evE]; exact pv_cmp (cmp_opd _ S.un).1 (sE a S h1) (sE b S h2) (nomarkS _ hs)
    · cases h
  | .andL es, m, C, X, e, S, h => by
    simp only [mE] at h
    split at h
    · simp only [evE]; exact sA es S h
    · cases h
  | .orL es, m, C, X, e, S, h => by
    simp only [mE] at h
    split at h
    · simp only [evE]; exact sOr es S h
    · cases h
  | .not a, m, C, X, e, S, h => by
    simp only [mE] at h
    split at h
    · simp only [evE]; exact pv_notv (sE a S h)
    · cases h
  | .neg a, m, C, X, e, S, h => by
    simp only [mE] at h
    split at h
    · simp only [evE]; exact pv_neg (sE a S h)
    · cases h
  | .tru a, m, C, X, e, S, h => by simp [mE] at h
  | .items a, m, C, X, e, S, h => by simp [mE] at h
  | .enum1 a, m, C, X, e, S, h => by simp [mE] at h
  | .isx1 a n, m, C, X, e, S, h => by
    simp only [mE] at h
    split at h
    · simp only [Bool.and_eq_true, beq_iff_eq, List.contains_iff_mem] at h
      obtain ⟨⟨⟨⟨⟨⟨rfl, h1⟩, rfl⟩, h2⟩, h3⟩, h4⟩, h5⟩ := h
      obtain ⟨gl, l, hd, hn⟩ := S.gl h1
      obtain ⟨gl2, hd2⟩ := S.gk h2
      simp only [evE]
      exact pv_isx1 S.xi (S.xn _ h3) gl (S.no _ l) gl2 hd2 (sE a S h5) h4
    · cases h
  | .isxT a ns, m, C, X, e, S, h => by
    simp only [mE] at h
    split at h
    · simp only [Bool.and_eq_true, beq_iff_eq, decide_eq_true_eq, List.all_eq_true, Bool.not_eq_true'] at h
      obtain ⟨⟨⟨⟨⟨⟨⟨rfl, h1⟩, h2⟩, h3⟩, h4⟩, h5⟩, h6⟩, h7⟩ := h
      obtain ⟨gl, l, hd, hn⟩ := S.gl h1
      simp only [evE]
      refine pv_isxT S.xi (by intro z; subst z; cases h2) (clsVs_of fun n hn => S.xn n (List.contains_iff_mem.mp (h5 n hn).2)) h3 gl (S.no _ l) (fun n hn => S.gk (h5 n hn).1) (namesAre_len h4) (fun i n hi => namesAre_at h4 hi) (sE a S h7) h6
    · cases h
  | .chain op op' a b c, m, C, X, e, S, h => by
    simp only [mE] at h
    split at h
    · simp only [Bool.and_eq_true, beq_iff_eq] at h
      obtain ⟨⟨⟨rfl, rfl⟩, hs⟩, h1, h2, h3⟩ := h
      simp only [evE]; exact pv_chain (cmp_opd _ S.un).1 (cmp_opd _ S.un).1 (cmp_opd (C := C) _ S.un).2 (sE a S h1) (sE b S h2) (sE c S h3) (nomarkS _ hs)
    · cases h
  | .tcall t es, m, C, X, e, S, h => by
    simp only [mE] at h
    split at h
    · simp only [Bool.and_eq_true, beq_iff_eq] at h
      obtain ⟨⟨rfl, h1⟩, h2⟩ := h
      obtain ⟨gl, l, hd, hn⟩ := S.gl h1
      simp only [evE]
      exact pv_callTy (ty_call t) gl (S.no _ l) (ty_boot t) (sEs es S h2) hn hd (mEs_star h2)
    · cases h
  | .isi a c, m, C, X, e, S, h => by
    simp only [mE] at h
    split at h
    · simp only [Bool.and_eq_true, beq_iff_eq, List.contains_iff_mem] at h
      obtain ⟨⟨⟨⟨⟨⟨rfl, h1⟩, rfl⟩, h2⟩, h3⟩, h4⟩, h5⟩ := h
      obtain ⟨gl, l, hd, hn⟩ := S.gl h1
      obtain ⟨gl2, l2, hd2, hn2⟩ := S.gl h2
      simp only [evE]
      exact pv_isi (S.iso _ h3) gl (S.no _ l) gl2 hd2 (sE a S h5) h4
    · cases h
  | .fld a f, m, C, X, e, S, h => by
    simp only [mE] at h
    split at h
    · simp only [Bool.and_eq_true, beq_iff_eq] at h
      obtain ⟨⟨rfl, h1⟩, h2⟩ := h
      simp only [evE]; exact pv_fld S.fl (sE a S h2) h1
    · cases h
  | .meth a f es, m, C, X, e, S, h => by
    simp only [mE] at h
    split at h
    · simp only [Bool.and_eq_true, beq_iff_eq, decide_eq_true_eq] at h
      obtain ⟨⟨⟨⟨⟨hq, rfl⟩, h1⟩, h2⟩, h3⟩, h4, h5⟩ := h
      simp only [evE]
      exact methcall_V S.mt (S.rm hq) (S.xo hq) (sE a S h4) (sEs es S h5) h3 (mEs_star h5) h2 h1 fun e0 => by
        subst e0
        cases es with
        | nil => funext ρ; simp only [evEs]
        | cons _ _ => simp [mEs] at h5
    · cases h
  | .make c key n es, m, C, X, e, S, h => by
    simp only [mE] at h
    split at h
    · rename_i f p x xs cp
      simp only [Bool.and_eq_true, beq_iff_eq, List.contains_iff_mem] at h
      obtain ⟨⟨⟨⟨hq, rfl⟩, h1⟩, h2⟩, h3⟩ := h
      obtain ⟨gl, l, hd, hn⟩ := S.gl h1
      cases ei : W.I key with
      | none =>
        have : evE W (.make f key n es) = fun _ => .stuck := by funext ρ; simp only [evE, ei]
        rw [this]; exact pv_never
      | some Φ =>
        obtain ⟨j, hj, M⟩ := S.mki _ _ _ h2 Φ ei
        have : evE W (.make f key n es) = fun ρ => makeR n Φ (evEs W es ρ) := by funext ρ; simp only [evE, ei]
        rw [this]; exact pv_make M ((S.rm hq).mono hj) (S.xo hq) gl (sEs es S h3) hd (mEs_star h3)
    · cases h
  | .ix a b, m, C, X, e, S, h => by
    simp only [mE] at h
    split at h
    · simp only [Bool.and_eq_true] at h
      obtain ⟨h0, h1, h2⟩ := h
      simp only [evE]; exact pv_ix (sE a S h1) (sE b S h2) (plainIx h0)
    · cases h
  | .tup es, m, C, X, e, S, h => by
    simp only [mE] at h
    split at h
    · simp only [evE]; exact pv_tup (sEs es S h)
    · cases h
  | .lst es, m, C, X, e, S, h => by
    simp only [mE] at h
    split at h
    · simp only [evE]; exact pv_lst (sEs es S h)
    · cases h
  | .call g n es, m, C, X, e, S, h => by
    simp only [mE] at h
    split at h
    · rename_i f p x xs cp
      simp only [Bool.and_eq_true, beq_iff_eq] at h
      obtain ⟨⟨⟨hq, rfl⟩, h1⟩, h2⟩ := h
      obtain ⟨gl, l, hd, hn⟩ := S.gl h1
      have st := mEs_star h2
      simp only [evE]
      exact pv_call (S.fn _ _ l) (S.rm hq) (S.xo hq) gl (sEs es S h2) hd (star_cons (st x List.mem_cons_self)) (star_any _ _ fun y hy => st y (List.mem_cons_of_mem _ hy))
    · cases h
  | .bcall b es, m, C, X, e, S, h => by
    simp only [mE] at h
    split at h
    · rename_i f p x xs cp
      rw [Bool.and_eq_true, Bool.and_eq_true, Bool.and_eq_true] at h
      obtain ⟨⟨⟨hq, hz⟩, h1⟩, h2⟩ := h
      cases (beq_iff_eq.mp hz)
      obtain ⟨gl, l, hd, hn⟩ := S.gl h1
      have st := mEs_star h2
      simp only [evE]
      exact pv_callB (bn_call b S.cm hq) gl (S.no _ l) (bn_boot b) (sEs es S h2) hn hd (star_cons (st x List.mem_cons_self)) (star_any _ _ fun y hy => st y (List.mem_cons_of_mem _ hy))
    · cases h
theorem sT {k : Nat} {W : WD} : ∀ (f : E) {m : MC} {C : Cw} {X : Cx} {e : Expr}, SX k W m C X → mT m f e = true → PTv C X e (evE W f)
  | .tru a, m, C, X, e, S, h => by
    simp only [mT, Bool.and_eq_true] at h
    simp only [evE]; exact pt_tru (sE a S h.2) (plain_true h.1)
  | .cmp op a b, m, C, X, e, S, h => by
    simp only [mT] at h
    split at h
    · simp only [Bool.and_eq_true, beq_iff_eq] at h
      obtain ⟨⟨rfl, hs⟩, h1, h2⟩ := h
      simp only [evE]; exact pt_cmpv (cmp_opd _ S.un).1 (cmp_opd (C := C) _ S.un).2 (sE a S h1) (sE b S h2) (nomarkS _ hs)
    · cases h
  | .andL es, m, C, X, e, S, h => by
    simp only [mT] at h
    split at h
    · simp only [evE]; exact pt_w (sWA es S h)
    · cases h
  | .orL es, m, C, X, e, S, h => by
    simp only [mT] at h
    split at h
    · simp only [evE]; exact pt_w (sWO es S h)
    · cases h
  | .not a, m, C, X, e, S, h => by
    simp only [mT] at h
    split at h
    · simp only [evE]; exact pt_notv (sT a S h)
    · cases h
  | .frz a, m, C, X, e, S, h => by simp [mT] at h
  | .var i, m, C, X, e, S, h => by simp [mT] at h
  | .glob y c, m, C, X, e, S, h => by simp [mT] at h
  | .ty t, m, C, X, e, S, h => by simp [mT] at h
  | .non, m, C, X, e, S, h => by simp [mT] at h
  | .bl c, m, C, X, e, S, h => by simp [mT] at h
  | .int c, m, C, X, e, S, h => by simp [mT] at h
  | .str c, m, C, X, e, S, h => by simp [mT] at h
  | .bin op a b, m, C, X, e, S, h => by simp [mT] at h
  | .neg a, m, C, X, e, S, h => by simp [mT] at h
  | .items a, m, C, X, e, S, h => by simp [mT] at h
  | .enum1 a, m, C, X, e, S, h => by simp [mT] at h
  | .isx1 a n, m, C, X, e, S, h => by simp [mT] at h
  | .isxT a n, m, C, X, e, S, h => by simp [mT] at h
  | .ix a b, m, C, X, e, S, h => by simp [mT] at h
  | .tup es, m, C, X, e, S, h => by simp [mT] at h
  | .lst es, m, C, X, e, S, h => by simp [mT] at h
  | .call g n es, m, C, X, e, S, h => by simp [mT] at h
  | .bcall b es, m, C, X, e, S, h => by simp [mT] at h
  | .tcall t es, m, C, X, e, S, h => by simp [mT] at h
  | .isi a c, m, C, X, e, S, h => by simp [mT] at h
  | .fld a f, m, C, X, e, S, h => by simp [mT] at h
  | .meth o f es, m, C, X, e, S, h => by simp [mT] at h
  | .make c key n es, m, C, X, e, S, h => by simp [mT] at h
  | .chain op op' a b c, m, C, X, e, S, h => by
    simp only [mT] at h
    split at h
    · simp only [Bool.and_eq_true, beq_iff_eq] at h
      obtain ⟨⟨⟨rfl, rfl⟩, hs⟩, h1, h2, h3⟩ := h
      simp only [evE]; exact pt_chainv (cmp_opd _ S.un).1 (cmp_opd _ S.un).1 (cmp_opd (C := C) _ S.un).2 (cmp_opd (C := C) _ S.un).2 (sE a S h1) (sE b S h2) (sE c S h3) (nomarkS _ hs)
    · cases h
theorem sI {k : Nat} {W : WD} : ∀ (f : E) {m : MC} {C : Cw} {X : Cx} {tg e : Expr}, SX k W m C X → mI m tg f e = true → PIv C X tg e (evE W f)
  | .items a, m, C, X, tg, e, S, h => by
    simp only [mI] at h
    simp only [evE]; exact piv_seq (sE a S h)
  | .enum1 a, m, C, X, tg, e, S, h => by
    simp only [mI] at h
    split at h
    · simp only [Bool.and_eq_true, beq_iff_eq] at h
      obtain ⟨⟨⟨⟨rfl, ht⟩, h1⟩, h2⟩, h3⟩ := h
      obtain ⟨gl, l, hd, hn⟩ := S.gl h1
      simp only [evE]
      cases tg <;> first
        | (cases ht; done)
        | exact piv_enum gl (S.no _ l) (pav_cons (pv_frz (sE a S h3)) pav_nil (star_cons h2)) (star_cons h2)
    · cases h
  | .isx1 a n, m, C, X, tg, e, S, h => by simp [mI] at h
  | .isxT a n, m, C, X, tg, e, S, h => by simp [mI] at h
  | .frz a, m, C, X, tg, e, S, h => by simp [mI] at h
  | .var i, m, C, X, tg, e, S, h => by simp [mI] at h
  | .glob y c, m, C, X, tg, e, S, h => by simp [mI] at h
  | .ty t, m, C, X, tg, e, S, h => by simp [mI] at h
  | .non, m, C, X, tg, e, S, h => by simp [mI] at h
  | .bl c, m, C, X, tg, e, S, h => by simp [mI] at h
  | .int c, m, C, X, tg, e, S, h => by simp [mI] at h
  | .str c, m, C, X, tg, e, S, h => by simp [mI] at h
  | .bin op a b, m, C, X, tg, e, S, h => by simp [mI] at h
  | .cmp op a b, m, C, X, tg, e, S, h => by simp [mI] at h
  | .andL es, m, C, X, tg, e, S, h => by simp [mI] at h
  | .orL es, m, C, X, tg, e, S, h => by simp [mI] at h
  | .not a, m, C, X, tg, e, S, h => by simp [mI] at h
  | .tru a, m, C, X, tg, e, S, h => by simp [mI] at h
  | .neg a, m, C, X, tg, e, S, h => by simp [mI] at h
  | .ix a b, m, C, X, tg, e, S, h => by simp [mI] at h
  | .tup es, m, C, X, tg, e, S, h => by simp [mI] at h
  | .lst es, m, C, X, tg, e, S, h => by simp [mI] at h
  | .call g n es, m, C, X, tg, e, S, h => by simp [mI] at h
  | .bcall b es, m, C, X, tg, e, S, h => by simp [mI] at h
  | .tcall t es, m, C, X, tg, e, S, h => by simp [mI] at h
  | .isi a c, m, C, X, tg, e, S, h => by simp [mI] at h
  | .fld a f, m, C, X, tg, e, S, h => by simp [mI] at h
  | .meth o f es, m, C, X, tg, e, S, h => by simp [mI] at h
  | .make c key n es, m, C, X, tg, e, S, h => by simp [mI] at h
  | .chain op op' a b c, m, C, X, tg, e, S, h => by simp [mI] at h
theorem sEs {k : Nat} {W : WD} : ∀ (fs : List E) {m : MC} {C : Cw} {X : Cx} {es : List Expr}, SX k W m C X → mEs m fs es = true → PAv C X es (evEs W fs)
  | [], m, C, X, [], S, h => by simp only [evEs]; exact pav_nil
  | [], m, C, X, _ :: _, S, h => by simp [mEs] at h
  | f :: fs, m, C, X, [], S, h => by simp [mEs] at h
  | f :: fs, m, C, X, e :: es, S, h => by
    simp only [mEs, Bool.and_eq_true] at h
    simp only [evEs]; exact pav_cons (sE f S h.1.2) (sEs fs S h.2) (star_cons h.1.1)
theorem sL {k : Nat} {W : WD} : ∀ (fs : List E) {m : MC} {C : Cw} {X : Cx} {es : List Expr}, SX k W m C X → mEs m fs es = true → PVL C X es (evL W fs)
  | [], m, C, X, [], S, h => by simp only [evL]; exact .nil
  | [], m, C, X, _ :: _, S, h => by simp [mEs] at h
  | f :: fs, m, C, X, [], S, h => by simp [mEs] at h
  | f :: fs, m, C, X, e :: es, S, h => by
    simp only [mEs, Bool.and_eq_true] at h
    simp only [evL]; exact .cons (sE f S h.1.2) (sL fs S h.2)
theorem sO {k : Nat} {W : WD} : ∀ (f : Option E) {m : MC} {C : Cw} {X : Cx} {e : Option Expr}, SX k W m C X → mO m f e = true → POv C X e (evO W f)
  | none, m, C, X, none, S, h => True.intro
  | none, m, C, X, some _, S, h => by simp [mO] at h
  | some f, m, C, X, none, S, h => by simp [mO] at h
  | some f, m, C, X, some e, S, h => by
    simp only [mO] at h
    simp only [evO]; exact sE f S h
theorem sA {k : Nat} {W : WD} : ∀ (fs : List E) {m : MC} {C : Cw} {X : Cx} {es : List Expr} {pos : Pos}, SX k W m C X → mEs m fs es = true → PV C X (.BoolOp .And es pos) (evA W fs)
  | [], m, C, X, [], pos, S, h => fun pins s σ H Q I q => by
    rw [tG_eq] at q
    obtain ⟨ρ, F, R, w⟩ := q
    exact w.elim
  | [], m, C, X, _ :: _, pos, S, h => by simp [mEs] at h
  | f :: fs, m, C, X, [], pos, S, h => by simp [mEs] at h
  | [f], m, C, X, [e], pos, S, h => by
    simp only [mEs, Bool.and_eq_true] at h
    simp only [evA]; exact pv_onev (sE f S h.1.2)
  | [f], m, C, X, e :: e2 :: es, pos, S, h => by simp [mEs] at h
  | f :: f2 :: fs, m, C, X, [e], pos, S, h => by simp [mEs] at h
  | f :: f2 :: fs, m, C, X, e :: e2 :: es, pos, S, h => by
    have h' := h
    simp only [mEs, Bool.and_eq_true] at h
    simp only [evA]; exact pv_andv (sE f S h.1.2) (sA (f2 :: fs) S (by simp only [mEs, Bool.and_eq_true]; exact h.2))
theorem sOr {k : Nat} {W : WD} : ∀ (fs : List E) {m : MC} {C : Cw} {X : Cx} {es : List Expr} {pos : Pos}, SX k W m C X → mEs m fs es = true → PV C X (.BoolOp .Or es pos) (evO' W fs)
  | [], m, C, X, [], pos, S, h => fun pins s σ H Q I q => by
    rw [tG_eq] at q
    obtain ⟨ρ, F, R, w⟩ := q
    exact w.elim
  | [], m, C, X, _ :: _, pos, S, h => by simp [mEs] at h
  | f :: fs, m, C, X, [], pos, S, h => by simp [mEs] at h
  | [f], m, C, X, [e], pos, S, h => by
    simp only [mEs, Bool.and_eq_true] at h
    simp only [evO']; exact pv_onev (sE f S h.1.2)
  | [f], m, C, X, e :: e2 :: es, pos, S, h => by simp [mEs] at h
  | f :: f2 :: fs, m, C, X, [e], pos, S, h => by simp [mEs] at h
  | f :: f2 :: fs, m, C, X, e :: e2 :: es, pos, S, h => by
    simp only [mEs, Bool.and_eq_true] at h
    simp only [evO']; exact pv_orv (sE f S h.1.2) (sOr (f2 :: fs) S (by simp only [mEs, Bool.and_eq_true]; exact h.2))
theorem sWA {k : Nat} {W : WD} : ∀ (fs : List E) {m : MC} {C : Cw} {X : Cx} {es : List Expr} {pos : Pos}, SX k W m C X → mF m fs es = true → PWv C X (.BoolOp .And es pos) (evA W fs)
  | [], m, C, X, [], pos, S, h => fun whole pins s σ H Q I q => by
    obtain ⟨ρ, F, R, w⟩ := q
    exact w.elim
  | [], m, C, X, _ :: _, pos, S, h => by simp [mF] at h
  | f :: fs, m, C, X, [], pos, S, h => by simp [mF] at h
  | [f], m, C, X, [e], pos, S, h => by
    simp only [mF, Bool.and_eq_true] at h
    simp only [evA]; exact pw_onev (sT f S h.1)
  | [f], m, C, X, e :: e2 :: es, pos, S, h => by simp [mF] at h
  | f :: f2 :: fs, m, C, X, [e], pos, S, h => by simp [mF] at h
  | f :: f2 :: fs, m, C, X, e :: e2 :: es, pos, S, h => by
    simp only [mF, Bool.and_eq_true] at h
    simp only [evA]; exact pw_andv (sT f S h.1) (sWA (f2 :: fs) S (by simp only [mF, Bool.and_eq_true]; exact h.2))
theorem sWO {k : Nat} {W : WD} : ∀ (fs : List E) {m : MC} {C : Cw} {X : Cx} {es : List Expr} {pos : Pos}, SX k W m C X → mF m fs es = true → PWv C X (.BoolOp .Or es pos) (evO' W fs)
  | [], m, C, X, [], pos, S, h => fun whole pins s σ H Q I q => by
    obtain ⟨ρ, F, R, w⟩ := q
    exact w.elim
  | [], m, C, X, _ :: _, pos, S, h => by simp [mF] at h
  | f :: fs, m, C, X, [], pos, S, h => by simp [mF] at h
  | [f], m, C, X, [e], pos, S, h => by
    simp only [mF, Bool.and_eq_true] at h
    simp only [evO']; exact pw_onev (sT f S h.1)
  | [f], m, C, X, e :: e2 :: es, pos, S, h => by simp [mF] at h
  | f :: f2 :: fs, m, C, X, [e], pos, S, h => by simp [mF] at h
  | f :: f2 :: fs, m, C, X, e :: e2 :: es, pos, S, h => by
    simp only [mF, Bool.and_eq_true] at h
    simp only [evO']; exact pw_orv (sT f S h.1) (sWO (f2 :: fs) S (by simp only [mF, Bool.and_eq_true]; exact h.2))
theorem sF {k : Nat} {W : WD} : ∀ (fs : List E) {m : MC} {C : Cw} {X : Cx} {es : List Expr}, SX k W m C X → mF m fs es = true → PIfs X es (tT (C.at X) (evF W fs))
  | [], m, C, X, [], S, h => by
    have : evF W [] = fun _ => .ok .fz (.bl true) := by funext ρ; simp only [evF]
    rw [this]; exact pifs_nilv
  | [], m, C, X, _ :: _, S, h => by simp [mF] at h
  | f :: fs, m, C, X, [], S, h => by simp [mF] at h
  | f :: fs, m, C, X, e :: es, S, h => by
    simp only [mF, Bool.and_eq_true] at h
    have : evF W (f :: fs) = fun ρ => andR (evE W f ρ) (evF W fs ρ) := by funext ρ; simp only [evF]
    rw [this]; exact pifs_consv (sT f S h.1) (sF fs S h.2)
end
end D3

set_option genSizeOfSpec false
set_option genInjectivity false
namespace D3
open PySem PySem.Spec PyProof.Rows L2
/-! ### statements -/
mutual
inductive S where
  | ret (e : E) | retV (i : Nat) | set (i : Nat) (e : E) | ite (c : E) (a b : List S) | for (it : E) (t : Tg) (body : List S)
  | expr (e : E)
  | rz (c : Str) (es : List E) | tr (b : List S) (hs : List Hn)
inductive Hn where
  | mk (c : Str) (i : Option Nat) (b : List S)
end
mutual
def evS (W : WD) : S → Rho → SRes
  | .ret e, ρ => retR (evE W e ρ) ρ
  | .retV i, ρ => retS ρ i
  | .set i e, ρ => setS ρ i (evE W e ρ)
  | .ite c a b, ρ => ifS (evE W c ρ) ρ (evB W a ρ) (evB W b ρ)
  | .for it t body, ρ => forR (evE W it ρ) ρ (setG t) (evB W body)
  | .expr e, ρ => (evE W e ρ).thS ρ fun _ _ => .nx ρ
  | .rz c es, ρ => rzR c ρ (evEs W es ρ)
  | .tr b hs, ρ => tryR W.xf (evHs W hs) (evB W b ρ)
def evH (W : WD) : Hn → HX
  | .mk c i b => ⟨c, i, evB W b⟩
def evHs (W : WD) : List Hn → List HX
  | [] => []
  | h :: r => evH W h :: evHs W r
def evB (W : WD) : List S → Rho → SRes
  | [], ρ => .nx ρ
  | s :: r, ρ => (evS W s ρ).thn (evB W r)
end
def notComp : Expr → Bool | .ListComp .. => false | .SetComp .. => false | .DictComp .. => false | _ => true
mutual
def mS (m : MC) : S → Stmt → Bool
  | .ret f, st => match st with | .Return (some e) _ => mE m f e | _ => false
  | .retV i, st => match st with | .Return (some (.Name x _)) _ => m.N[i]? == some x && m.vis x | _ => false
  | .set i f, st => match st with | .Assign [.Name x _] e _ => m.loc i x && (notComp e || m.kind x == some .cell) && mE m f e | _ => false
  | .ite f a b, st => match st with | .If c x y _ => mT m f c && (mB m a x && mB m b y) | _ => false
  | .for f t b, st => match st with | .For tg e body [] _ => m.calm && mG m t tg && notSet e && (mI m tg f e && mB m b body) | _ => false
  | .expr f, st => match st with | .Expr e _ => notComp e && mE m f e | _ => false
  | .rz c es, st => match st with | .Raise (some (.Call (.Name f _) (x :: xs) [] _)) none _ => m.calm && m.rz && f == c && m.gk f && m.g.xcs.contains f && mEs m es (x :: xs) | _ => false
  | .tr b hs, st => match st with | .Try body (h :: hr) [] [] _ => m.calm && m.rz && mB { m with rz := false } b body && mHs m hs (h :: hr) | _ => false
def mH (m : MC) : Hn → ExceptHandler → Bool
  | .mk c i b, h => match h with
    | .ExceptHandler (some (.Name x _)) nm (s :: su) _ => x == c && m.gk x && (match i, nm with | none, none => true | some i, some n => m.N[i]? == some n && m.kind n == some .local | _, _ => false) && mB { m with calm := false, rz := false } b (s :: su)
    | _ => false
def mHs (m : MC) : List Hn → List ExceptHandler → Bool
  | [], l => l.isEmpty
  | h :: r, l => match l with | e :: es => mH m h e && mHs m r es | _ => false
def mB (m : MC) : List S → List Stmt → Bool
  | [], l => l.isEmpty
  | s :: r, l => match l with | st :: sts => mS m s st && mB m r sts | _ => false
end
theorem noswap {e : Expr} {t : Option Expr} {n : Nat} {env : Env} (h : notComp e = true) : swapsWith e t n env = pure false := by
  cases e <;> first | rfl | cases h
theorem noswap' {m : MC} {e : Expr} {x : Str} {p : Pos} {n : Nat} {env : Env} (hs : env.scope = m.sc) (h : (notComp e || m.kind x == some .cell) = true) : swapsWith e (some (.Name x p)) n env = pure false := by
  rw [Bool.or_eq_true, beq_iff_eq] at h
  rcases h with h | h
  · exact noswap h
  · have hk : env.kindOf x = some .cell := by
      show env.scope.names.lookup x = _
      rw [hs]; exact h
    unfold swapsWith
    have kc : (NameKind.cell == NameKind.local) = false := by decide
    cases e <;> first | rfl | (simp [hk, kc])
section
variable {k : Nat} {W : WD} {m : MC} {C : Cw} {X : Cx}
/-- a body's own surroundings -/
structure SB (k : Nat) (W : WD) (m : MC) (C : Cw) (X : Cx) : Prop extends SX k W m C X where
  nd : m.N.Nodup
  hp : PassesOwn (model X.prog X.w) X.A X.env X.xe
  ro : m.rz = true → RzOk (C.at X) X ∧ FnCx X
end
set_option maxHeartbeats 4000000 in
mutual
theorem sS {k : Nat} {W : WD} {m : MC} {C : Cw} {X : Cx} (S : SB k W m C X) : ∀ (f : D3.S) {st : Stmt}, mS m f st = true → PSv C X st (evS W f)
  | .ret f, st, h => by
    simp only [mS] at h
    split at h
    · simp only [evS]; exact psv_ret (sE f S.toSX h)
    · cases h
  | .retV i, st, h => by
    simp only [mS] at h
    split at h
    · simp only [Bool.and_eq_true, beq_iff_eq] at h
      obtain ⟨h1, h2, h3⟩ := S.toSX.vis h.2
      simp only [evS]
      exact psv_retV i (pe_var (by rw [S.hN]; exact h.1) h1 h2 h3)
    · cases h
  | .set i f, st, h => by
    simp only [mS] at h
    split at h
    · simp only [Bool.and_eq_true] at h
      obtain ⟨⟨h1, h2⟩, h3⟩ := h
      obtain ⟨b, c, d⟩ := S.toSX.loc h1
      simp only [evS]; exact psv_set (by rw [S.hN]; exact S.nd) b c (sE f S.toSX h3) (noswap' S.hs h2) d
    · cases h
  | .ite f a b, st, h => by
    simp only [mS] at h
    split at h
    · simp only [Bool.and_eq_true] at h
      obtain ⟨h1, h2, h3⟩ := h
      simp only [evS]; exact psv_if (sT f S.toSX h1) (sB S a h2) (sB S b h3)
    · cases h
  | .for f t b, st, h => by
    simp only [mS] at h
    split at h
    · simp only [Bool.and_eq_true] at h
      obtain ⟨⟨⟨hq, h1⟩, h2⟩, h3, h4⟩ := h
      simp only [evS]; exact psv_for S.hp (S.cm hq) (sI f S.toSX h3) (pgv_of (sG S.toSX S.nd t h1)) (sB S b h4) (nofold h2)
    · cases h
  | .expr f, st, h => by
    simp only [mS] at h
    split at h
    · simp only [Bool.and_eq_true] at h
      simp only [evS]; exact psv_expr (sE f S.toSX h.2) (noswap h.1)
    · cases h
  | .rz c es, st, h => by
    simp only [mS] at h
    split at h
    · simp only [Bool.and_eq_true, beq_iff_eq, List.contains_iff_mem] at h
      obtain ⟨⟨⟨⟨⟨hq, hr⟩, rfl⟩, h1⟩, h2⟩, h3⟩ := h
      obtain ⟨gl, hd⟩ := S.toSX.gk h1
      obtain ⟨Cc, hm, Z⟩ := S.xc _ h2
      simp only [evS]
      exact psv_raise hm Z (S.rm hq).hd (S.ro hr).1 gl (sEs es S.toSX h3) hd (mEs_star h3)
    · cases h
  | .tr b hs, st, h => by
    simp only [mS] at h
    split at h
    · rename_i body h0 hr0 pos
      simp only [Bool.and_eq_true] at h
      obtain ⟨⟨⟨hq, hr⟩, h1⟩, h2⟩ := h
      have hN : X.N.Nodup := by rw [S.hN]; exact S.nd
      have FX := (S.ro hr).2
      have hk := sHs S hs h2
      simp only [evS]
      refine psv_try FX S.xt hN hk fun o pins D => ?_
      refine sB (m := { m with rz := false }) (C := tryC C X W.xf (evHs W hs) D) (X := tryX X pins D (h0 :: hr0)) ⟨⟨S.hN, S.hs, S.cm, S.rm, S.un, fun _ => ?_, S.xt, S.xi, S.xc, S.xn, S.con, S.no, S.mk0, S.mki, S.iso, S.fl, S.mt, S.fn, S.fnn⟩, S.nd, PassesOwn.looking, fun z => by cases z⟩ b h1
      exact xok_try FX o S.xt hN hk
    · cases h
theorem sHs {k : Nat} {W : WD} {m : MC} {C : Cw} {X : Cx} (S : SB k W m C X) : ∀ (hs : List Hn) {es : List ExceptHandler}, mHs m hs es = true → HsOk C X es (evHs W hs)
  | [], [], _ => by simp only [evHs]; exact .nil
  | [], _ :: _, h => by simp [mHs] at h
  | _ :: _, [], h => by simp [mHs] at h
  | .mk c i b :: r, e :: es, h => by
    simp only [mHs, Bool.and_eq_true] at h
    have hr := sHs S r h.2
    have h1 := h.1
    simp only [mH] at h1
    simp only [evHs, evH]
    split at h1
    · rename_i x np nm s su hp
      simp only [Bool.and_eq_true, beq_iff_eq] at h1
      obtain ⟨⟨⟨rfl, hg⟩, hi⟩, hb⟩ := h1
      obtain ⟨gl, hd⟩ := S.toSX.gk hg
      have suite : ∀ ex, PBv C.nox (mkX X ex) (s :: su) (evB W b) := fun ex =>
        sB (m := { m with calm := false, rz := false }) (C := C.nox) (X := mkX X ex) ⟨⟨S.hN, S.hs, fun z => (by cases z), fun z => (by cases z), S.un, fun z => (by cases z), S.xt, S.xi, S.xc, S.xn, S.con, S.no, S.mk0, S.mki, S.iso, S.fl, S.mt, S.fn, S.fnn⟩, S.nd, PassesOwn.never, fun z => by cases z⟩ b hb
      cases i with
      | none =>
        cases nm with
        | none => exact .plain gl hd suite hr
        | some n => cases hi
      | some i =>
        cases nm with
        | none => cases hi
        | some n =>
          rw [Bool.and_eq_true, beq_iff_eq, beq_iff_eq] at hi
          exact .named gl hd (by rw [S.hN]; exact hi.1) (by rw [S.hs]; exact hi.2) suite hr
    · cases h1
theorem sB {k : Nat} {W : WD} {m : MC} {C : Cw} {X : Cx} (S : SB k W m C X) : ∀ (f : List D3.S) {sts : List Stmt}, mB m f sts = true → PBv C X sts (evB W f)
  | [], [], h => by
    have : evB W [] = fun ρ => .nx ρ := by funext ρ; simp only [evB]
    rw [this]; exact pbv_nil
  | [], _ :: _, h => by simp [mB] at h
  | f :: fs, [], h => by simp [mB] at h
  | f :: fs, st :: sts, h => by
    simp only [mB, Bool.and_eq_true] at h
    have : evB W (f :: fs) = fun ρ => (evS W f ρ).thn (evB W fs) := by funext ρ; simp only [evB]
    rw [this]; exact pbv_cons (sS S f h.1) (sB S fs h.2)
end
/-! ### __init__ bodies: guards, then self.f = e -/
inductive IB where
  | done | guard (c : E) (b : List D3.S) (r : IB) | fset (f : Str) (e : E) (r : IB)
inductive IR where | ok (fs : List (Str × D)) | exc (c : Str) | stuck
def evIB (W : WD) (c : Str) : IB → Rho → List (Str × D) → IR
  | .done, _, fs => .ok fs
  | .guard t b r, ρ, fs => match evE W t ρ with
    | .ok _ (.bl false) => evIB W c r ρ fs
    | .ok _ (.bl true) => (match evB W b ρ with | .exc x _ => .exc x | _ => .stuck)
    | _ => .stuck
  | .fset f e r, ρ, fs => match evE W e ρ with
    | .ok .fz d => (match W.cl.find? (fun i => i.name == c) with
      | some j => if (j.flds.contains f && decide (fs.length < 1000)) = true then evIB W c r ρ (putFD f d fs) else .stuck
      | none => .stuck)
    | _ => .stuck
def mIB (m : MC) : IB → List Stmt → Bool
  | .done, l => l.isEmpty
  | .guard c b r, l => match l with | .If t x [] _ :: sts => mT m c t && mB m b x && mIB m r sts | _ => false
  | .fset f e r, l => match l with | .Assign [.Attribute (.Name x _) g _] v _ :: sts => m.N[0]? == some x && m.vis x && g == f && notComp v && mE m e v && mIB m r sts | _ => false
/-- what is wanted ahead of the rest of an __init__ -/
def tIB (C : Cw) (W : WD) (c : Str) (ib : IB) : TS := fun En σ H => ∃ ρ F fs x dx C' gs, RelSt C.K C.F0 C.H0 F H σ ρ ∧ σ[0]? = some (some (.ref x)) ∧ (∀ (i : Nat) (d : D), ρ[i]? ≠ some (some (true, d))) ∧ C.H0 x = none ∧ F x = none ∧ H x = some (.ins C' dx gs) ∧
  PySem.W.nsIn C.K mainGlobals c = some (some (.ref C')) ∧ RepF C.K F fs gs ∧ match evIB W c ib ρ fs with
  | .ok fs' => ∀ F' H' gs', Step C.F0 C.H0 F' H' → F' x = none → H' x = some (.ins C' dx gs') → RepF C.K F' fs' gs' → En.nx σ H'
  | .exc c' => ∀ σ' F' H', Step C.F0 C.H0 F' H' → C.EE c' σ' H'
  | .stuck => False
theorem sIB {k : Nat} {W : WD} {m : MC} {C : Cw} {X : Cx} (S : SB k W m C X) (c : Str) : ∀ (ib : IB) {sts : List Stmt}, mIB m ib sts = true → PSs X sts (tIB (C.at X) W c ib)
  | .done, [], h => PSs.imp pss_nil fun En σ H q => by
    obtain ⟨ρ, F, fs, x, dx, C', gs, R, e0, _, h0, hf, hh, ns, rf, w⟩ := q
    exact w F H gs R.st hf hh rf
  | .done, _ :: _, h => by simp [mIB] at h
  | .guard t b r, sts, h => by
    unfold mIB at h
    split at h
    · simp only [Bool.and_eq_true] at h
      refine PSs.imp (pss_cons (ps_if (sT t S.toSX h.1.1) (sB S b h.1.2) pss_nil) (sIB S c r h.2)) fun En σ H q => ?_
      obtain ⟨ρ, F, fs, x, dx, C', gs, R, e0, e0', h0, hf, hh, ns, rf, w⟩ := q
      refine ⟨ρ, F, R, ?_⟩
      unfold evIB at w
      cases et : evE W t ρ with
      | stuck => rw [et] at w; exact w.elim
      | exc c' => rw [et] at w; exact w.elim
      | ok m' d' =>
        cases d' with
        | bl bb =>
          intro F' H' st
          cases bb with
          | false =>
            rw [et] at w
            rw [if_neg Bool.false_ne_true]
            exact ⟨ρ, F', fs, x, dx, C', gs, R.step st, e0, e0', h0, st.new x hf (by rw [hh]; exact fun z => nomatch z), st.same _ _ hh, ns, rf.mono st.fsame _ _, w⟩
          | true =>
            rw [et] at w
            rw [if_pos rfl]
            refine ⟨ρ, F', R.step st, ?_⟩
            dsimp only at w
            cases eb : evB W b ρ with
            | exc c' ρ' => rw [eb] at w; exact fun σ2 F2 H2 _ R2 => w σ2 F2 H2 R2.st
            | _ => rw [eb] at w; exact w.elim
        | _ => rw [et] at w; exact w.elim
    · cases h
  | .fset f e r, sts, h => by
    unfold mIB at h
    split at h
    · rename_i x0 p0 g0 p1 v0 p2 sts0
      simp only [Bool.and_eq_true, beq_iff_eq] at h
      obtain ⟨⟨⟨⟨⟨h1, h2⟩, hgf⟩, h3⟩, h4⟩, h5⟩ := h
      subst hgf
      obtain ⟨v1, v2, v3⟩ := S.toSX.vis h2
      refine PSs.imp (pss_cons (ps_fld (pe_var (i := 0) (by rw [S.hN]; exact h1) v1 v2 v3) (sE e S.toSX h4) (noswap h3)) (sIB S c r h5)) fun En σ H q => ?_
      obtain ⟨ρ, F, fs, x, dx, C', gs, R, e0, e0', h0, hf, hh, ns, rf, w⟩ := q
      unfold evIB at w
      cases et : evE W e ρ with
      | stuck => rw [et] at w; exact w.elim
      | exc c' => rw [et] at w; exact w.elim
      | ok md d =>
        rw [et] at w
        cases md with
        | fr => exact w.elim
        | bo => exact w.elim
        | fz =>
        dsimp only at w
        cases ej : W.cl.find? (fun i => i.name == c) with
        | none => rw [ej] at w; exact w.elim
        | some j =>
          rw [ej] at w
          dsimp only at w
          by_cases hc : (j.flds.contains g0 && decide (fs.length < 1000)) = true
          · rw [if_pos hc] at w
            rw [Bool.and_eq_true, decide_eq_true_eq] at hc
            show tG (C.at X) (evE W e) σ H _
            rw [tG_eq]
            refine ⟨ρ, F, R, ?_⟩
            rw [et]
            intro v F1 H1 s1 rp _
            have hj : j.name = c := by simpa using List.find?_some ej
            obtain ⟨C2, n1, cl', na⟩ := (S.fl j _ (List.mem_of_find?_eq_some ej) (by simpa using hc.1)).ex
            rw [hj] at n1
            have ns' : PySem.W.nsIn X.K mainGlobals c = some (some (.ref C')) := ns
            rw [n1] at ns'; cases ns'
            have hh1 : H1 x = some (.ins C' dx gs) := s1.same _ _ hh
            have hf1 : F1 x = none := s1.new x hf (by rw [hh]; exact fun z => nomatch z)
            refine ⟨.ref x, e0, x, C', dx, gs, rfl, hh1, cl', na, by rw [rf.length]; exact hc.2, ?_⟩
            have R1 := R.step s1
            have st : Step C.F0 C.H0 F1 (upd H1 x (.ins C' dx (putF g0 v gs))) := R1.st.upd h0 hf1
            refine ⟨ρ, F1, putFD g0 d fs, x, dx, C', _, ⟨st, fun i b d' ei => ?_, fun i l d1 d2 a hil q1 q2 => ?_, R1.len⟩, e0, e0', h0, hf1, upd_same, ns, RepF.put rp (rf.mono s1.fsame _ _), w⟩
            · obtain ⟨u, eu, ru, hu⟩ := R1.slot i b d' ei
              refine ⟨u, eu, ?_, hu⟩
              cases b with
              | false => exact ru
              | true => exact absurd ei (e0' i d')
            · exact R1.apart i l d1 d2 a hil q1 q2
          · rw [if_neg hc] at w; exact w.elim
    · cases h
/-! ### the defs of a text, by fuel -/
structure FD where
  ps : List Str
  N : List Str
  b : List D3.S
structure ID where
  c : Str
  ps : List Str
  N : List Str
  ib : IB
structure TB where
  T : List (Str × FD)
  I : List (Str × ID)
  cl : List CI
  xt : List ((Str × Str) × Bool)
  xi : List ((Str × Str) × Bool)
def phiI (W : WD) (i : ID) : List D → Res := fun ds => if ds.length + 1 = i.ps.length then (match evIB W i.c i.ib (none :: startR (i.N.length - 1) ds) [] with
  | .ok fs => .ok .fr (.ins i.c fs)
  | .exc c => .exc c
  | .stuck => .stuck) else .stuck
def PhiF (t : TB) (W : WD) (f : Str) : List D → Res := match t.T.lookup f with
  | some d => phi d.ps.length d.N.length (evB W d.b)
  | none => fun _ => .stuck
def WT (t : TB) : Nat → WD
  | 0 => ⟨fun _ _ => .stuck, fun _ => none, t.cl, t.xt, t.xi⟩
  | 1 => ⟨fun f => PhiF t ⟨fun _ _ => .stuck, fun _ => none, t.cl, t.xt, t.xi⟩ f, fun _ => none, t.cl, t.xt, t.xi⟩
  | k + 2 => ⟨fun f => PhiF t (WT t (k + 1)) f, fun key => match t.I.lookup key with | some i => some (phiI (WT t k) i) | none => none, t.cl, t.xt, t.xi⟩
theorem WT_cl (t : TB) : ∀ k, (WT t k).cl = t.cl
  | 0 => rfl
  | 1 => rfl
  | k + 2 => rfl
theorem WT_xt (t : TB) : ∀ k, (WT t k).xt = t.xt
  | 0 => rfl
  | 1 => rfl
  | k + 2 => rfl
theorem WT_xi (t : TB) : ∀ k, (WT t k).xi = t.xi
  | 0 => rfl
  | 1 => rfl
  | k + 2 => rfl
theorem WT_Φ (t : TB) : ∀ k f, (WT t (k + 1)).Φ f = PhiF t (WT t k) f
  | 0, f => rfl
  | k + 1, f => rfl
def scOk (N ps : List Str) (sc : Scope) : Bool := sc.kind == .function && !sc.isCoroutine && !sc.isGenerator && decide N.Nodup && (N.take ps.length == ps) && ps.all (fun x => sc.names.lookup x == some .local || sc.names.lookup x == some .cell) && sc.names.all (fun y => y.2 != .free)
theorem scOk_of {N ps : List Str} {sc : Scope} (h : scOk N ps sc = true) : FnScope N ps sc := by
  unfold scOk at h
  simp only [Bool.and_eq_true, List.all_eq_true, Bool.or_eq_true, bne_iff_ne, beq_iff_eq, decide_eq_true_eq, Bool.not_eq_true'] at h
  obtain ⟨⟨⟨⟨⟨⟨h1, h2⟩, h3⟩, h4⟩, h5⟩, h6⟩, h7⟩ := h
  exact ⟨h1, h2, h3, h4, h5, h6, h7⟩
def fdOk (g : MG) (st : Stmt) (d : FD) : Bool := scOk d.N d.ps (defScope st) && mB ⟨d.N, defScope st, g, true, true, true⟩ d.b (defBody st)
def idOk (g : MG) (st : Stmt) (d : ID) : Bool := scOk d.N d.ps (defScope st) && mIB ⟨d.N, defScope st, g, true, true, true⟩ d.ib (defBody st) && decide (0 < d.ps.length)
/-- a def that stands behind the top, at its address -/
def Stands (K : PySem.W.Frag) (g : MG) (fa : Str → Addr) (key : Str) (d : FD) : Prop :=
  ∃ name st fd, Fun K name key st (fa key) fd ∧ Binds K fd d.ps [] ∧ fdOk g st d = true
def StandAll (K : PySem.W.Frag) (g : MG) (fa : Str → Addr) : List (Str × FD) → Prop
  | [] => True
  | (x, d) :: r => Stands K g fa x d ∧ StandAll K g fa r
theorem StandAll.at {K : PySem.W.Frag} {g : MG} {fa : Str → Addr} : ∀ {T : List (Str × FD)} {x : Str} {d : FD}, StandAll K g fa T → T.lookup x = some d → Stands K g fa x d
  | [], _, _, _, e => by cases e
  | (y, d') :: r, x, d, h, e => by
    rw [List.lookup_cons] at e
    split at e
    · rename_i hb
      cases e
      rw [beq_iff_eq] at hb
      subst hb
      exact h.1
    · exact h.2.at e
def StandsI (K : PySem.W.Frag) (mg : Str → Option Value) (g : MG) (key : Str) (d : ID) : Prop :=
  ∃ name st C f fd, PySem.W.nsIn K mainGlobals d.c = some (some (.ref C)) ∧ mg d.c = some (.ref C) ∧ Mk K C f ∧ Fun K name key st f fd ∧ Binds K fd d.ps [] ∧ idOk g st d = true
def StandAllI (K : PySem.W.Frag) (mg : Str → Option Value) (g : MG) : List (Str × ID) → Prop
  | [] => True
  | (x, d) :: r => StandsI K mg g x d ∧ StandAllI K mg g r
theorem StandAllI.at {K : PySem.W.Frag} {mg : Str → Option Value} {g : MG} : ∀ {T : List (Str × ID)} {x : Str} {d : ID}, StandAllI K mg g T → T.lookup x = some d → StandsI K mg g x d
  | [], _, _, _, e => by cases e
  | (y, d') :: r, x, d, h, e => by
    rw [List.lookup_cons] at e
    split at e
    · rename_i hb
      cases e
      rw [beq_iff_eq] at hb
      subst hb
      exact h.1
    · exact h.2.at e
def GVOk (mg : Str → Option Value) (fa : Str → Addr) (x : Str) : GV → Prop
  | .con (.s y) => ∃ t, mg x = some (.str y t)
  | .con (.i n) => ∃ t, mg x = some (.int n t)
  | .no => mg x = none
  | .fn _ => mg x = some (.ref (fa x))
  | .cls => True
def GCon (mg : Str → Option Value) (fa : Str → Addr) : List (Str × GV) → Prop
  | [] => True
  | (x, v) :: r => GVOk mg fa x v ∧ GCon mg fa r
theorem GCon.at {mg : Str → Option Value} {fa : Str → Addr} : ∀ {G : List (Str × GV)} {x : Str} {v : GV}, GCon mg fa G → G.lookup x = some v → GVOk mg fa x v
  | [], _, _, _, e => by cases e
  | (y, v') :: r, x, v, h, e => by
    rw [List.lookup_cons] at e
    split at e
    · rename_i hb
      cases e
      rw [beq_iff_eq] at hb
      subst hb
      exact h.1
    · exact h.2.at e
def gOk (G : List (Str × GV)) (T : List (Str × FD)) : Bool := G.all fun (x, v) => match v with | .fn n => (match T.lookup x with | some d => d.ps.length == n | none => false) | _ => true
theorem gOk_at {T : List (Str × FD)} : ∀ {G : List (Str × GV)} {x : Str} {n : Nat}, gOk G T = true → G.lookup x = some (.fn n) → ∃ d, T.lookup x = some d ∧ d.ps.length = n
  | [], _, _, _, e => by cases e
  | (y, v') :: r, x, n, h, e => by
    unfold gOk at h
    rw [List.all_cons, Bool.and_eq_true] at h
    rw [List.lookup_cons] at e
    split at e
    · rename_i hb
      cases e
      rw [beq_iff_eq] at hb
      subst hb
      have h1 := h.1
      dsimp only at h1
      cases q : T.lookup x with
      | none => rw [q] at h1; cases h1
      | some d => rw [q] at h1; exact ⟨d, rfl, by simpa using h1⟩
    · exact gOk_at (G := r) h.2 e
/-- each class's methods: where each stands, and its number of parameters -/
def mtOk (cl : List CI) (T : List (Str × FD)) : Bool := cl.all fun i => i.meths.all fun (_, key, n) => match T.lookup key with | some d => d.ps.length == n | none => false
def mkiOk (mki : List (Str × Str × Nat)) (I : List (Str × ID)) : Bool := mki.all fun (c, key, n) => match I.lookup key with | some d => d.c == c && d.ps.length == n + 1 | none => false
def ClsM (K : PySem.W.Frag) (fa : Str → Addr) (C : Addr) : List (Str × Str × Nat) → Prop
  | [] => True
  | (m, key, _) :: r => Meth K C m (fa key) ∧ ClsM K fa C r
def ClsF (K : PySem.W.Frag) (C : Addr) : List Str → Prop
  | [] => True
  | f :: r => NoAttr K C f ∧ ClsF K C r
def ClsAll (K : PySem.W.Frag) (fa : Str → Addr) : List CI → Prop
  | [] => True
  | i :: r => (∃ C, PySem.W.nsIn K mainGlobals i.name = some (some (.ref C)) ∧ Cls K C ∧ ClsM K fa C i.meths ∧ ClsF K C i.flds) ∧ ClsAll K fa r
theorem ClsAll.at {K : PySem.W.Frag} {fa : Str → Addr} : ∀ {cl : List CI} {i : CI}, ClsAll K fa cl → i ∈ cl → ∃ C, PySem.W.nsIn K mainGlobals i.name = some (some (.ref C)) ∧ Cls K C ∧ ClsM K fa C i.meths ∧ ClsF K C i.flds
  | [], _, _, h => by cases h
  | j :: r, i, h, hi => by
    rcases List.mem_cons.mp hi with rfl | hi
    · exact h.1
    · exact h.2.at hi
theorem ClsF.at {K : PySem.W.Frag} {C : Addr} : ∀ {l : List Str} {f : Str}, ClsF K C l → f ∈ l → NoAttr K C f
  | [], _, _, h => by cases h
  | j :: r, i, h, hi => by
    rcases List.mem_cons.mp hi with rfl | hi
    · exact h.1
    · exact h.2.at hi
theorem ClsM.at {K : PySem.W.Frag} {fa : Str → Addr} {C : Addr} : ∀ {l : List (Str × Str × Nat)} {m key : Str} {n : Nat}, ClsM K fa C l → l.lookup m = some (key, n) → Meth K C m (fa key)
  | [], _, _, _, _, e => by cases e
  | (m', key', n') :: r, m, key, n, h, e => by
    rw [List.lookup_cons] at e
    split at e
    · rename_i hb
      cases e
      rw [beq_iff_eq] at hb
      subst hb
      exact h.1
    · exact h.2.at e
/-- all that the head must give -/
structure GF (K : PySem.W.Frag) (mg : Str → Option Value) (g : MG) (t : TB) (fa : Str → Addr) : Prop where
  con : GCon mg fa g.G
  gok : gOk g.G t.T = true
  all : StandAll K g fa t.T
  alli : StandAllI K mg g t.I
  mk0 : ∀ c, c ∈ g.mk0 → MkV0 K mg c
  mkok : mkiOk g.mki t.I = true
  iso : ∀ c, c ∈ g.iso → IsV K mg t.cl c
  cls : ClsAll K fa t.cl
  mtok : mtOk t.cl t.T = true
  xtok : XtOk K mg (fun c x => t.xt.lookup (c, x))
  xiok : XisOk K mg (fun c x => t.xi.lookup (c, x))
  xcok : ∀ c, c ∈ g.xcs → ∃ Cc, mg c = some (.ref Cc) ∧ RzCls K Cc
  xnok : ∀ n, n ∈ g.xns → ∃ cv, ClsV mg n cv
theorem spV_stuck {K : PySem.W.Frag} {mg : Str → Option Value} {n : Nat} {Φ : List D → Res} {vs : List V} {H : Hp} {Q : VK} {E : XK} (hz : ∀ ds, Φ ds = .stuck) (h : spV K mg n Φ vs H Q E) : False := by
  obtain ⟨_, F, ds, _, _, h⟩ := h
  rw [hz] at h
  exact h
section
variable {P : Program} {w : World} {K : PySem.W.Frag} {mg : Str → Option Value} {base : Heap} {g : MG} {t : TB} {fa : Str → Addr}
/-- every def keeps its promise at every depth -/
structure AllOk (P : Program) (w : World) (K : PySem.W.Frag) (mg : Str → Option Value) (base : Heap) (t : TB) (fa : Str → Addr) (k : Nat) : Prop where
  fn : ∀ key d, t.T.lookup key = some d → ∃ fd, FnOk P w K mg base (CX1 P w) k (fa key) fd d.ps (spV K mg d.ps.length ((WT t k).Φ key)) ∧ Binds K fd d.ps [] ∧ PySem.W.keepIn K (.ref (fa key)) = true
  ini : ∀ key d Φ, t.I.lookup key = some d → (WT t k).I key = some Φ → ∃ j, j + 1 ≤ k ∧ InV P w K mg base (CX1 P w) j d.c (d.ps.length - 1) Φ
theorem sx_of (f : GF K mg g t fa) {k : Nat} (A : AllOk P w K mg base t fa k) {N : List Str} {sc : Scope} {C : Cw} {X : Cx} (hP : X.prog = P) (hw : X.w = w) (hK : X.K = K) (hmg : X.mg = mg) (hb : X.base = base) (hN : X.N = N) (hs : X.env.scope = sc) (cm : X.calm = true) (rm : Room k X.A) (hfn : ∀ x, X.fn x = true) (xo : XOk (CX1 X.prog X.w) (C.at X) X) :
    SX k (WT t k) ⟨N, sc, g, true, true, true⟩ C X := by
  subst hP hw hK hmg hb
  refine ⟨hN, hs, fun _ => cm, fun _ => rm, rm.units, fun _ => xo, ?_, ?_, f.xcok, f.xnok, fun y c l => ?_, fun y l => f.con.at l, fun c hc => f.mk0 c hc, fun c key n hm Φ e => ?_, fun c hc => by rw [WT_cl]; exact f.iso c hc, fun i f' hi hf => ?_, fun c m key n e => ?_, fun y n l => ?_, fun _ => hfn⟩
  · unfold WD.xf; rw [WT_xt]; exact f.xtok
  · unfold WD.xg; rw [WT_xi]; exact f.xiok
  · have := f.con.at l
    cases c <;> exact this
  · have h1 := List.all_eq_true.mp f.mkok (c, key, n) hm
    dsimp only at h1
    cases q : t.I.lookup key with
    | none => rw [q] at h1; cases h1
    | some d =>
      rw [q] at h1
      simp only [Bool.and_eq_true, beq_iff_eq] at h1
      obtain ⟨j, hj, M⟩ := A.ini key d Φ q e
      rw [h1.1, h1.2] at M
      exact ⟨j, hj, M⟩
  · rw [WT_cl] at hi
    obtain ⟨C', h1, h2, _, h4⟩ := f.cls.at hi
    exact ⟨C', h1, h2, h4.at hf⟩
  · rw [WT_cl] at e
    unfold CI.meth at e
    split at e
    · rename_i i ei
      have hi := List.mem_of_find?_eq_some ei
      have hn : i.name = c := by simpa using List.find?_some ei
      obtain ⟨C', h1, h2, h3, _⟩ := f.cls.at hi
      have hmo := List.all_eq_true.mp (List.all_eq_true.mp f.mtok i hi) (m, key, n) (PySem.mem_of_lookup e)
      dsimp only at hmo
      cases q : t.T.lookup key with
      | none => rw [q] at hmo; cases hmo
      | some d =>
        rw [q] at hmo
        rw [beq_iff_eq] at hmo
        obtain ⟨fd, FO, hb, _⟩ := A.fn key d q
        rw [hmo] at FO
        exact ⟨C', fa key, fd, d.ps, by rw [← hn]; exact h1, h2, h3.at e, FO, hb⟩
    · cases e
  · obtain ⟨d, e, rfl⟩ := gOk_at f.gok l
    obtain ⟨fd, FO, hb, hk⟩ := A.fn y d e
    exact ⟨fa y, fd, d.ps, FO, f.con.at l, hk, hb⟩
theorem fn_step (f : GF K mg g t fa) {k : Nat} (A : AllOk P w K mg base t fa k) {key : Str} {d : FD} {name : Str} {st : Stmt} {fd : FuncData} {a : Addr} (F : Fun K name key st a fd) (e : t.T.lookup key = some d) (ok : fdOk g st d = true) :
    FnOk P w K mg base (CX1 P w) (k + 1) a fd d.ps (spV K mg d.ps.length ((WT t (k + 1)).Φ key)) := by
  unfold fdOk at ok
  rw [Bool.and_eq_true] at ok
  have sc := scOk_of ok.1
  have : (WT t (k + 1)).Φ key = phi d.ps.length d.N.length (evB (WT t k) d.b) := by rw [WT_Φ]; unfold PhiF; rw [e]
  rw [this]
  exact fnok_phi (k := k) F sc fun C cdv A' outer s H En hE hr => sB (m := ⟨d.N, defScope st, g, true, true, true⟩) (X := cxOf (CX1 P w) P w K mg base d.N key (defScope st) a cdv A' outer s H En) ⟨sx_of f A rfl rfl rfl rfl rfl rfl rfl rfl hr (fun _ => rfl) (xok_fn (K := K) (H := H) (outer := outer) hE), sc.nd, PassesOwn.leaving, fun _ => ⟨rzok_fn (K := K) (H := H) (outer := outer) hE, fnCx⟩⟩ d.b ok.2
theorem init_step (f : GF K mg g t fa) {k : Nat} (A : AllOk P w K mg base t fa k) {key : Str} {d : ID} (e : t.I.lookup key = some d) : InV P w K mg base (CX1 P w) (k + 1) d.c (d.ps.length - 1) (phiI (WT t k) d) := by
  obtain ⟨name, st, C', a, fd, ns, hm, M, F, hb, ok⟩ := f.alli.at e
  refine ⟨C', a, fd, d.ps, ns, hm, M, ?_, hb⟩
  unfold idOk at ok
  rw [Bool.and_eq_true, Bool.and_eq_true, decide_eq_true_eq] at ok
  have sc := scOk_of ok.1.1
  obtain ⟨oc, od, kV, doc, pm, an, cdv, ct, osl, rfl, lk, hcd⟩ := F.ex
  refine fn_of lk hcd sc (fun vs H Q E h => ?_) fun A' outer s H vs Q E hr h => ?_
  · obtain ⟨x, us, dx, C, H1, F1, ds, rfl, hl, _⟩ := h
    rw [List.length_cons, hl]; have := ok.2; omega
  · obtain ⟨x, us, dx, C2, H1, F1, ds, rfl, hl, ns2, rfl, hx, hd, hne, sF, rl, h⟩ := h
    rw [ns] at ns2; cases ns2
    let Cw0 : Cw := ⟨K, F1, H1, eeOf mg E⟩
    have hN : 0 < d.N.length := by have := congrArg List.length sc.pre; rw [List.length_take] at this; omega
    refine ⟨_, sIB (m := ⟨d.N, defScope st, g, true, true, true⟩) (C := Cw0) ⟨sx_of f A rfl rfl rfl rfl rfl rfl rfl rfl hr (fun _ => rfl) (xok_fn rfl), sc.nd, PassesOwn.leaving, fun _ => ⟨rzok_fn rfl, fnCx⟩⟩ d.c d.ib ok.1.2, ?_⟩
    unfold phiI at h
    rw [if_pos (by have := rl.length; omega)] at h
    have low : ∀ (i : Nat) (m : Bool) (e : D), (none :: startR (d.N.length - 1) ds : Rho)[i]? = some (some (m, e)) → m = false ∧ ∃ v, (start d.N (.ref x :: us))[i]? = some (some v) ∧ RepV K F1 e v := fun i m e' ei => by
      cases i with
      | zero => cases ei
      | succ i =>
        rw [List.getElem?_cons_succ] at ei
        unfold startR at ei
        unfold L2.start
        by_cases hi : i < ds.length
        · rw [List.getElem?_append_left (by simpa using hi), List.getElem?_map, List.getElem?_eq_getElem hi] at ei
          cases ei
          obtain ⟨v, ev, rv⟩ := rl.get' (List.getElem?_eq_getElem hi)
          exact ⟨rfl, v, by rw [List.getElem?_append_left (by simpa [rl.length] using hi), List.getElem?_map, List.getElem?_cons_succ, ev]; rfl, rv⟩
        · rw [List.getElem?_append_right (by simpa using hi), List.getElem?_replicate] at ei
          split at ei <;> cases ei
    refine ⟨none :: startR (d.N.length - 1) ds, F1, [], x, dx, C', [], ⟨step_made sF hx hd hne, fun i m e' ei => ?_, fun i j d1 d2 a _ e1 _ _ _ => ?_, by simp [L2.start, startR, rl.length]; omega⟩, by simp [L2.start], fun i d' ei => ?_, hx, sF.free hx, upd_same, ns, by simp only [RepF], ?_⟩
    · obtain ⟨rfl, v, e1, rv⟩ := low i m e' ei
      exact ⟨v, e1, rv, by intro z; cases z⟩
    · have := (low i true d1 e1).1; cases this
    · have := (low i true d' ei).1; cases this
    · cases er : evIB (WT t k) d.c d.ib (none :: startR (d.N.length - 1) ds) [] with
      | stuck => rw [er] at h; exact h.elim
      | exc c' => rw [er] at h; exact fun σ' F' H' st' u hu => h F' H' u st' hu
      | ok fs =>
        rw [er] at h
        exact fun F' H' gs' st' hf hh rf => h F' H' st' ⟨x, rfl, hf, C', dx, gs', ns, hh, rf⟩
theorem all_ok (f : GF K mg g t fa) : ∀ k, AllOk P w K mg base t fa k ∧ AllOk P w K mg base t fa (k + 1)
  | 0 => by
    have A0 : AllOk P w K mg base t fa 0 := ⟨fun key d e => by
      obtain ⟨name, st, fd, F, hb, _⟩ := f.all.at e
      exact ⟨fd, ⟨fun vs H Q En h => (spV_stuck (fun _ => rfl) h).elim, fun A outer s H args us vs Q En _ _ _ _ h => (spV_stuck (fun _ => rfl) h).elim⟩, hb, F.kp⟩, fun key d Φ _ e => by cases e⟩
    refine ⟨A0, fun key d e => ?_, fun key d Φ _ e => by cases e⟩
    obtain ⟨name, st, fd, F, hb, ok⟩ := f.all.at e
    exact ⟨fd, fn_step f A0 F e ok, hb, F.kp⟩
  | k + 1 => by
    obtain ⟨A0, A1⟩ := all_ok f k
    refine ⟨A1, fun key d e => ?_, fun key d Φ e ei => ?_⟩
    · obtain ⟨name, st, fd, F, hb, ok⟩ := f.all.at e
      exact ⟨fd, fn_step f A1 F e ok, hb, F.kp⟩
    · have ei : (match t.I.lookup key with | some i => some (phiI (WT t k) i) | none => none) = some Φ := ei
      rw [e] at ei
      cases ei
      exact ⟨k + 1, Nat.le_refl _, init_step f A0 e⟩
end
/-- the law's promise, without the module's names -/
def spLw (K : PySem.W.Frag) (Φ : List D → Res) : Sp := fun vs H Q E => ∃ a ns, vs = [.ref a] ∧ SqL K H a (ns.map V.int) ∧ Φ (lawIn ns) = .ok .fz (.bl true) ∧ ∀ H', Q (.bl true) H'
theorem fnok_lw {P : Program} {w : World} {K : PySem.W.Frag} {mg : Str → Option Value} {base : Heap} {CX : CXT} {k : Nat} {f : Addr} {fd : FuncData} {ps : List Str} {Φ : List D → Res} (h : FnOk P w K mg base CX k f fd ps (spV K mg 1 Φ)) : FnOk P w K mg base CX k f fd ps (spLw K Φ) :=
  h.imp fun vs H Q E ⟨a, ns, e, hq, hp, q⟩ => by
    subst e
    refine ⟨rfl, H, lawIn ns, Same.refl _, RepL.cons ?_ RepL.nil, ?_⟩
    · simp only [RepV]
      exact ⟨a, _, rfl, hq, repL_ints ns⟩
    · rw [hp]
      exact ⟨by decide, fun v F' H' s rp _ => by rw [rp.bl]; exact q H'⟩
theorem fnok_law {P : Program} {w : World} {K : PySem.W.Frag} {mg : Str → Option Value} {base : Heap} {g : MG} {t : TB} {fa : Str → Addr} (f : GF K mg g t fa) (k : Nat) {a : Addr} {fd : FuncData} {d : FD} {st : Stmt} (F : Fun K "law" "law" st a fd) (e : t.T.lookup ("law" : Str) = some d) (ok : fdOk g st d = true) (hl : d.ps.length = 1) :
    FnOk P w K mg base (CX1 P w) (k + 1) a fd d.ps (spLw K ((WT t (k + 1)).Φ ("law" : Str))) := by
  have := fn_step (P := P) (w := w) (base := base) f (all_ok f k).1 F e ok
  rw [hl] at this
  exact fnok_lw this
end D3

namespace D3
open PySem L2
/-! ### values by what is written (for simp) -/
section
variable {W : WD} {ρ : Rho} {a b c : E} {es : List E}
@[simp] theorem e_var {i} : evE W (.var i) ρ = getS ρ i := by simp only [evE]
@[simp] theorem e_non : evE W .non ρ = .ok .fz .non := by simp only [evE]
@[simp] theorem e_bl {b} : evE W (.bl b) ρ = .ok .fz (.bl b) := by simp only [evE]
@[simp] theorem e_int {i} : evE W (.int i) ρ = .ok .fz (.int i) := by simp only [evE]
@[simp] theorem e_str {x} : evE W (.str x) ρ = .ok .fz (.str x) := by simp only [evE]
@[simp] theorem e_globS {x y} : evE W (.glob x (.s y)) ρ = .ok .fz (.str y) := by simp only [evE, KC.d]
@[simp] theorem e_globI {x y} : evE W (.glob x (.i y)) ρ = .ok .fz (.int y) := by simp only [evE, KC.d]
@[simp] theorem e_ty {t : Ty} : evE W (.ty t) ρ = .ok .fz (.ty t.id) := by simp only [evE]
@[simp] theorem e_bin {op} : evE W (.bin op a b) ρ = op2 (fBin op) (evE W a ρ) (evE W b ρ) := by simp only [evE]
@[simp] theorem e_cmp {op} : evE W (.cmp op a b) ρ = op2 (fCmp op) (evE W a ρ) (evE W b ρ) := by simp only [evE]
@[simp] theorem e_andL : evE W (.andL es) ρ = evA W es ρ := by simp only [evE]
@[simp] theorem e_orL : evE W (.orL es) ρ = evO' W es ρ := by simp only [evE]
@[simp] theorem e_not : evE W (.not a) ρ = notR (evE W a ρ) := by simp only [evE]
@[simp] theorem e_neg : evE W (.neg a) ρ = negR (evE W a ρ) := by simp only [evE]
@[simp] theorem e_tru : evE W (.tru a) ρ = truR (evE W a ρ) := by simp only [evE]
@[simp] theorem e_frz : evE W (.frz a) ρ = frzR (evE W a ρ) := by simp only [evE]
@[simp] theorem e_ix : evE W (.ix a b) ρ = op2 ixD (evE W a ρ) (evE W b ρ) := by simp only [evE]
@[simp] theorem e_tup : evE W (.tup es) ρ = tupR (evEs W es ρ) := by simp only [evE]
@[simp] theorem e_lst : evE W (.lst es) ρ = lstR (evEs W es ρ) := by simp only [evE]
@[simp] theorem e_call {f n} : evE W (.call f n es) ρ = callF n (W.Φ f) (evEs W es ρ) := by simp only [evE]
@[simp] theorem e_bcall {f : Bn} : evE W (.bcall f es) ρ = callR f.f (evEs W es ρ) := by simp only [evE]
@[simp] theorem e_items : evE W (.items a) ρ = itemsR (frzR (evE W a ρ)) := by simp only [evE]
@[simp] theorem e_enum1 : evE W (.enum1 a) ρ = enumR (consL (frzR (evE W a ρ)) (.ok [])) := by simp only [evE]
@[simp] theorem e_isx1 {n} : evE W (.isx1 a n) ρ = isx1R W.xg n (evE W a ρ) := by simp only [evE]
@[simp] theorem e_isxT {ns} : evE W (.isxT a ns) ρ = isxTR W.xg ns (evE W a ρ) := by simp only [evE]
@[simp] theorem el_nil : evL W [] = [] := by simp only [evL]
@[simp] theorem el_cons : evL W (a :: es) = evE W a :: evL W es := by simp only [evL]
@[simp] theorem sg_nm {i : Nat} {d : D} : setG (.nm i) d ρ = some (ρ.set i (some (false, d))) := by simp only [setG]
@[simp] theorem sg_tp {ts : List Tg} {ds : List D} : setG (.tp ts) (.tup ds) ρ = setGs ts ds ρ := by simp only [setG]
@[simp] theorem sgs_nil : setGs [] [] ρ = some ρ := by simp [setGs]
@[simp] theorem sgs_cons {t : Tg} {ts : List Tg} {d : D} {ds : List D} : setGs (t :: ts) (d :: ds) ρ = (setG t d ρ).bind (setGs ts ds) := by
  simp only [setGs]
  cases setG t d ρ <;> rfl
@[simp] theorem e_chain {op op'} : evE W (.chain op op' a b c) ρ = chainR (fCmp op) (fCmp op') (evE W a ρ) (evE W b ρ) (evE W c ρ) := by simp only [evE]
@[simp] theorem e_tcall {t : Ty} : evE W (.tcall t es) ρ = callR t.f (evEs W es ρ) := by simp only [evE]
@[simp] theorem e_isi {x} : evE W (.isi a x) ρ = isoR W.cl x (evE W a ρ) := by simp only [evE]
@[simp] theorem e_fld {x} : evE W (.fld a x) ρ = fldR W.cl x (evE W a ρ) := by simp only [evE]
@[simp] theorem e_meth {x} : evE W (.meth a x es) ρ = methR W.cl W.Φ x (evE W a ρ) (evEs W es ρ) := by simp only [evE]
theorem e_make {x key n Φ} (h : W.I key = some Φ) : evE W (.make x key n es) ρ = makeR n Φ (evEs W es ρ) := by simp only [evE, h]
@[simp] theorem es_nil : evEs W [] ρ = .ok [] := by simp only [evEs]
@[simp] theorem es_cons : evEs W (a :: es) ρ = consL (evE W a ρ) (evEs W es ρ) := by simp only [evEs]
@[simp] theorem ea_one : evA W [a] ρ = evE W a ρ := by simp only [evA]
@[simp] theorem ea_cons : evA W (a :: b :: es) ρ = andR (evE W a ρ) (evA W (b :: es) ρ) := by simp only [evA]
@[simp] theorem eo_one : evO' W [a] ρ = evE W a ρ := by simp only [evO']
@[simp] theorem eo_cons : evO' W (a :: b :: es) ρ = orR (evE W a ρ) (evO' W (b :: es) ρ) := by simp only [evO']
@[simp] theorem ef_nil : evF W [] ρ = .ok .fz (.bl true) := by simp only [evF]
@[simp] theorem ef_cons : evF W (a :: es) ρ = andR (evE W a ρ) (evF W es ρ) := by simp only [evF]
@[simp] theorem eo_none : evO W none = none := by simp only [evO]
@[simp] theorem eo_some : evO W (some a) = some (evE W a) := by simp only [evO]
@[simp] theorem s_ret : evS W (.ret a) ρ = retR (evE W a ρ) ρ := by simp only [evS]
@[simp] theorem s_retV {i} : evS W (.retV i) ρ = retS ρ i := by simp only [evS]
@[simp] theorem s_set {i} : evS W (.set i a) ρ = setS ρ i (evE W a ρ) := by simp only [evS]
@[simp] theorem s_ite {x y : List S} : evS W (.ite a x y) ρ = ifS (evE W a ρ) ρ (evB W x ρ) (evB W y ρ) := by simp only [evS]
@[simp] theorem s_for {t : Tg} {y : List S} : evS W (.for a t y) ρ = forR (evE W a ρ) ρ (setG t) (evB W y) := by simp only [evS]
@[simp] theorem s_expr : evS W (.expr a) ρ = (evE W a ρ).thS ρ fun _ _ => .nx ρ := by simp only [evS]
@[simp] theorem s_rz {c} : evS W (.rz c es) ρ = rzR c ρ (evEs W es ρ) := by simp only [evS]
@[simp] theorem s_tr {x : List S} {hs : List Hn} : evS W (.tr x hs) ρ = tryR W.xf (evHs W hs) (evB W x ρ) := by simp only [evS]
@[simp] theorem hs_nil : evHs W [] = [] := by simp only [evHs]
@[simp] theorem hs_cons {c : Str} {i : Option Nat} {x : List S} {hs : List Hn} : evHs W (.mk c i x :: hs) = ⟨c, i, evB W x⟩ :: evHs W hs := by simp only [evHs, evH]
@[simp] theorem b_nil : evB W [] ρ = .nx ρ := by simp only [evB]
@[simp] theorem b_cons {s : S} {r : List S} : evB W (s :: r) ρ = (evS W s ρ).thn (evB W r) := by simp only [evB]
end
section
variable {m n : Md} {i j : Int} {ρ : Rho} {d : D}
@[simp] theorem x_add : op2 (fBin .Add) (.ok m (.int i)) (.ok n (.int j)) = .ok .fz (.int (i + j)) := rfl
@[simp] theorem x_sub : op2 (fBin .Sub) (.ok m (.int i)) (.ok n (.int j)) = .ok .fz (.int (i - j)) := rfl
@[simp] theorem x_lt : op2 (fCmp .Lt) (.ok m (.int i)) (.ok n (.int j)) = .ok .fz (.bl (decide (i < j))) := rfl
@[simp] theorem x_le : op2 (fCmp .LtE) (.ok m (.int i)) (.ok n (.int j)) = .ok .fz (.bl (decide (i ≤ j))) := rfl
@[simp] theorem x_gt : op2 (fCmp .Gt) (.ok m (.int i)) (.ok n (.int j)) = .ok .fz (.bl (decide (j < i))) := rfl
@[simp] theorem x_ge : op2 (fCmp .GtE) (.ok m (.int i)) (.ok n (.int j)) = .ok .fz (.bl (decide (j ≤ i))) := rfl
@[simp] theorem x_mod (h : 0 < j) : op2 (fBin .Mod) (.ok m (.int i)) (.ok n (.int j)) = .ok .fz (.int (i % j)) := by
  show Res.of (if decide (0 < j) = true then _ else _) = _
  rw [if_pos (decide_eq_true h)]; rfl
theorem x_div (h : 0 < j) (hb : bits j = true) : op2 (fBin .FloorDiv) (.ok m (.int i)) (.ok n (.int j)) = .ok .fz (.int (i / j)) := by
  show Res.of (if (decide (0 < j) && bits j) = true then _ else _) = _
  rw [if_pos (by rw [hb, decide_eq_true h]; rfl)]; rfl
theorem bits_of (h : i.natAbs < 10 ^ 2000) : bits i = true := by
  unfold bits
  refine decide_eq_true ?_
  by_cases h0 : i.natAbs = 0
  · rw [h0]; decide
  · refine (Nat.log2_lt h0).mpr (Nat.lt_trans h ?_)
    decide +kernel
theorem bits_le {N : Nat} (h : i.natAbs ≤ N) (hN : N < 10 ^ 2000 := by decide +kernel) : bits i = true := bits_of (Nat.lt_of_le_of_lt h hN)
@[simp] theorem x_divS (h : 0 < j) (hb : j.natAbs ≤ 1000000000) : op2 (fBin .FloorDiv) (.ok m (.int i)) (.ok n (.int j)) = .ok .fz (.int (i / j)) := x_div h (bits_le hb)
theorem x_mulC (h : ((bits i && bits j) || (w64 i || w64 j)) = true) : op2 (fBin .Mult) (.ok m (.int i)) (.ok n (.int j)) = .ok .fz (.int (i * j)) := by
  show Res.of (((if ((bits i && bits j) || (w64 i || w64 j)) = true then _ else _ : Option (Md × D)).orElse _).orElse _) = _
  rw [if_pos h]; rfl
theorem x_mul (h1 : bits i = true) (h2 : bits j = true) : op2 (fBin .Mult) (.ok m (.int i)) (.ok n (.int j)) = .ok .fz (.int (i * j)) := x_mulC (by rw [h1, h2]; rfl)
theorem op2_of {φ : Md → D → Md → D → Option (Md × D)} {x y d : D} {k : Md} (h : φ m x n y = some (k, d)) : op2 φ (.ok m x) (.ok n y) = .ok k d := by
  show Res.of (φ m x n y) = _
  rw [h]; rfl
@[simp] theorem x_eqI : op2 (fCmp .Eq) (.ok m (.int i)) (.ok n (.int j)) = .ok .fz (.bl (i == j)) := op2_of rfl
@[simp] theorem x_neI : op2 (fCmp .NotEq) (.ok m (.int i)) (.ok n (.int j)) = .ok .fz (.bl (i != j)) := op2_of rfl
@[simp] theorem x_eqB {a b : Bool} : op2 (fCmp .Eq) (.ok m (.bl a)) (.ok n (.bl b)) = .ok .fz (.bl (a == b)) := op2_of rfl
@[simp] theorem x_neB {a b : Bool} : op2 (fCmp .NotEq) (.ok m (.bl a)) (.ok n (.bl b)) = .ok .fz (.bl (a != b)) := op2_of rfl
@[simp] theorem x_eqS {a b : Str} : op2 (fCmp .Eq) (.ok m (.str a)) (.ok n (.str b)) = .ok .fz (.bl (a == b)) := op2_of (by rfl)
@[simp] theorem x_neS {a b : Str} : op2 (fCmp .NotEq) (.ok m (.str a)) (.ok n (.str b)) = .ok .fz (.bl (a != b)) := op2_of (by rfl)
@[simp] theorem x_inS {a b : Str} : op2 (fCmp .In) (.ok m (.str a)) (.ok n (.str b)) = .ok .fz (.bl (isIn a b)) := op2_of rfl
@[simp] theorem x_notinS {a b : Str} : op2 (fCmp .NotIn) (.ok m (.str a)) (.ok n (.str b)) = .ok .fz (.bl (!isIn a b)) := op2_of rfl
@[simp] theorem x_addS {a b : Str} (h : a.length + b.length ≤ sizeLine) : op2 (fBin .Add) (.ok m (.str a)) (.ok n (.str b)) = .ok .fz (.str (a ++ b)) :=
  op2_of (by
    have : fS (fun i j => decide (i.length + j.length ≤ sizeLine)) (fun i j => D.str (i ++ j)) m (.str a) n (.str b) = some (Md.fz, D.str (a ++ b)) := by
      show (if decide (a.length + b.length ≤ sizeLine) = true then some (Md.fz, D.str (a ++ b)) else none) = _
      rw [if_pos (decide_eq_true h)]
    show orO (orO (fI (fun _ _ => true) fun i j => .int (i + j)) (fS (fun i j => decide (i.length + j.length ≤ sizeLine)) fun i j => .str (i ++ j))) noK m (.str a) n (.str b) = _
    simp only [orO, this]
    rfl)
@[simp] theorem x_isN {d : D} : op2 (fCmp .Is) (.ok m d) (.ok n .non) = .ok .fz (.bl (isNonD d)) := op2_of rfl
@[simp] theorem x_isnotN {d : D} : op2 (fCmp .IsNot) (.ok m d) (.ok n .non) = .ok .fz (.bl (!isNonD d)) := op2_of rfl
@[simp] theorem x_chain {φ ψ : Md → D → Md → D → Option (Md × D)} {x y z : D} {k k' k'' : Md} {t : Bool} (h : φ k x k' y = some (.fz, .bl t)) : chainR φ ψ (.ok k x) (.ok k' y) (.ok k'' z) = if t = true then Res.of (ψ k' y k'' z) else .ok .fz (.bl false) := by
  unfold chainR
  simp only [Res.thn_ok, h, Res.of_some]
  cases t <;> rfl
theorem x_chI {a b c : Int} {k k' k'' : Md} {op op' : CmpOp} {f f' : Int → Int → Bool} (h : ∀ k i k' j, fCmp op k (.int i) k' (.int j) = some (.fz, .bl (f i j))) (h' : ∀ k i k' j, fCmp op' k (.int i) k' (.int j) = some (.fz, .bl (f' i j))) :
    chainR (fCmp op) (fCmp op') (.ok k (.int a)) (.ok k' (.int b)) (.ok k'' (.int c)) = .ok .fz (.bl (f a b && f' b c)) := by
  rw [x_chain (t := f a b) (h k a k' b), h' k' b k'' c]
  cases f a b <;> rfl
@[simp] theorem x_leLe {a b c : Int} {k k' k'' : Md} : chainR (fCmp .LtE) (fCmp .LtE) (.ok k (.int a)) (.ok k' (.int b)) (.ok k'' (.int c)) = .ok .fz (.bl (decide (a ≤ b) && decide (b ≤ c))) := x_chI (f := fun i j => decide (i ≤ j)) (f' := fun i j => decide (i ≤ j)) (fun _ _ _ _ => rfl) (fun _ _ _ _ => rfl)
@[simp] theorem x_leLt {a b c : Int} {k k' k'' : Md} : chainR (fCmp .LtE) (fCmp .Lt) (.ok k (.int a)) (.ok k' (.int b)) (.ok k'' (.int c)) = .ok .fz (.bl (decide (a ≤ b) && decide (b < c))) := x_chI (f := fun i j => decide (i ≤ j)) (f' := fun i j => decide (i < j)) (fun _ _ _ _ => rfl) (fun _ _ _ _ => rfl)
@[simp] theorem isn_n : isNonD .non = true := rfl
@[simp] theorem isn_i {i : Int} : isNonD (.int i) = false := rfl
@[simp] theorem isn_b {i : Bool} : isNonD (.bl i) = false := rfl
@[simp] theorem isn_s {i : Str} : isNonD (.str i) = false := rfl
@[simp] theorem isn_t {i : List D} : isNonD (.tup i) = false := rfl
@[simp] theorem isn_l {i : List D} : isNonD (.lst i) = false := rfl
@[simp] theorem x_andT {y : Res} : andR (.ok m (.bl true)) y = y := rfl
@[simp] theorem x_andF {y : Res} : andR (.ok m (.bl false)) y = .ok .fz (.bl false) := rfl
@[simp] theorem x_orT {y : Res} : orR (.ok m (.bl true)) y = .ok .fz (.bl true) := rfl
@[simp] theorem x_orF {y : Res} : orR (.ok m (.bl false)) y = y := rfl
@[simp] theorem x_and {a b : Bool} : andR (.ok m (.bl a)) (.ok .fz (.bl b)) = .ok .fz (.bl (a && b)) := by cases a <;> rfl
@[simp] theorem x_or {a b : Bool} : orR (.ok m (.bl a)) (.ok .fz (.bl b)) = .ok .fz (.bl (a || b)) := by cases a <;> rfl
@[simp] theorem x_not {a : Bool} : notR (.ok m (.bl a)) = .ok .fz (.bl (!a)) := rfl
@[simp] theorem x_tru {a : Bool} : truR (.ok m (.bl a)) = .ok .fz (.bl a) := rfl
@[simp] theorem x_truI : truR (.ok m (.int i)) = .ok .fz (.bl (i != 0)) := rfl
@[simp] theorem x_neg : negR (.ok m (.int i)) = .ok .fz (.int (-i)) := rfl
@[simp] theorem x_ifT {x y : SRes} : ifS (.ok m (.bl true)) ρ x y = x := rfl
@[simp] theorem x_ifF {x y : SRes} : ifS (.ok m (.bl false)) ρ x y = y := rfl
@[simp] theorem x_frz : frzR (.ok .fz d) = .ok .fz d := rfl
@[simp] theorem x_frr : frzR (.ok .fr d) = .ok .fz d := rfl
@[simp] theorem x_set {k : Nat} : setS ρ k (.ok .fz d) = .nx (ρ.set k (some (false, d))) := rfl
@[simp] theorem x_setr {k : Nat} : setS ρ k (.ok .fr d) = .nx (ρ.set k (some (true, d))) := rfl
@[simp] theorem x_ret : retR (.ok .fz d) ρ = .rt .fz d := rfl
@[simp] theorem x_retr : retR (.ok .fr d) ρ = .rt .fr d := rfl
@[simp] theorem g_0 {r : Rho} : getS (some (false, d) :: r) 0 = .ok .fz d := rfl
@[simp] theorem g_0b {r : Rho} : getS (some (true, d) :: r) 0 = .ok .bo d := rfl
@[simp] theorem g_s {x : Option (Bool × D)} {r : Rho} {i : Nat} : getS (x :: r) (i + 1) = getS r i := rfl
@[simp] theorem g_1 {x : Option (Bool × D)} {r : Rho} : getS (x :: r) 1 = getS r 0 := rfl
@[simp] theorem rs_0 {r : Rho} : retS (some (false, d) :: r) 0 = .rt .fz d := rfl
@[simp] theorem rs_0b {r : Rho} : retS (some (true, d) :: r) 0 = .rt .fr d := rfl
@[simp] theorem rs_1 {x : Option (Bool × D)} {r : Rho} : retS (x :: r) 1 = retS r 0 := rfl
@[simp] theorem rs_s {x : Option (Bool × D)} {r : Rho} {i : Nat} : retS (x :: r) (i + 1) = retS r i := rfl
@[simp] theorem r_set0 {x y : Option (Bool × D)} {r : Rho} : (x :: r).set 0 y = y :: r := rfl
@[simp] theorem x_callR {f : List (Md × D) → Option (Md × D)} {xs : List (Md × D)} : callR f (.ok xs) = Res.of (f xs) := rfl
@[simp] theorem bn_len : Bn.f .len = lenD := rfl
@[simp] theorem bn_isi : Bn.f .isinstance = isiD := rfl
@[simp] theorem ty_int : Ty.f .int = tcInt2 := rfl
@[simp] theorem ty_str : Ty.f .str = tcStr := rfl
@[simp] theorem ty_tuple : Ty.f .tuple = tcTuple := rfl
@[simp] theorem ty_list : Ty.f .list = tcList := rfl
@[simp] theorem tci_i {i : Int} : tcInt2 [(m, .int i)] = some (.fz, .int i) := rfl
@[simp] theorem tci_b {i : Bool} : tcInt2 [(m, .bl i)] = some (.fz, .int (if i then 1 else 0)) := rfl
@[simp] theorem tct_l {i : List D} : tcTuple [(m, .lst i)] = some (.fz, .tup i) := rfl
@[simp] theorem tct_t {i : List D} : tcTuple [(.fz, .tup i)] = some (.fz, .tup i) := rfl
@[simp] theorem tcl_l {i : List D} : tcList [(m, .lst i)] = some (.fr, .lst i) := rfl
@[simp] theorem tcl_t {i : List D} : tcList [(m, .tup i)] = some (.fr, .lst i) := rfl
@[simp] theorem tcs_i {i : Int} (h : small i = true) : tcStr [(m, .int i)] = some (.fz, .str (numS i)) := by show (if small i = true then _ else _) = _; rw [if_pos h]
@[simp] theorem mt_ty : Mt.ty .join = "str" := rfl
@[simp] theorem mt_f : Mt.f .join = joinD := rfl
@[simp] theorem mt_tyS : Mt.ty .startswith = "str" := rfl
@[simp] theorem mt_fS : Mt.f .startswith = swD := rfl
@[simp] theorem mt_tyR : Mt.ty .removeprefix = "str" := rfl
@[simp] theorem mt_fR : Mt.f .removeprefix = rpD := rfl
@[simp] theorem len_s {z : Str} : lenD [(m, .str z)] = some (.fz, .int z.length) := rfl
@[simp] theorem len_l {z : List D} : lenD [(m, .lst z)] = some (.fz, .int z.length) := rfl
@[simp] theorem len_t {z : List D} : lenD [(m, .tup z)] = some (.fz, .int z.length) := rfl
@[simp] theorem itm_l {z : List D} : itemsR (.ok m (.lst z)) = .ok .fz (.lst z) := rfl
@[simp] theorem itm_t {z : List D} : itemsR (.ok m (.tup z)) = .ok .fz (.lst z) := rfl
@[simp] theorem itm_s {z : Str} : itemsR (.ok m (.str z)) = .ok .fz (.lst (charsD z)) := rfl
end
@[simp] theorem WT_xf {t : TB} {k : Nat} : (WT t k).xf = fun c x => t.xt.lookup (c, x) := by unfold WD.xf; rw [WT_xt]
@[simp] theorem WT_xg {t : TB} {k : Nat} : (WT t k).xg = fun c x => t.xi.lookup (c, x) := by unfold WD.xg; rw [WT_xi]
@[simp] theorem x_rz {c : Str} {ρ : Rho} {xs : List (Md × D)} (h : xs.length ≤ sizeLine) : rzR c ρ (.ok xs) = .exc c ρ := by
  show (if xs.length ≤ sizeLine then _ else _) = _
  rw [if_pos h]
section
variable {c x : Str} {ρ ρ' : Rho} {m : Md} {d : D} {xt : Str → Str → Option Bool} {hs : List HX} {g : Rho → SRes}
@[simp] theorem x_frx : frzR (.exc c) = .exc c := rfl
@[simp] theorem x_setx {k : Nat} : setS ρ k (.exc c) = .exc c ρ := rfl
@[simp] theorem x_retx : retR (.exc c) ρ = .exc c ρ := rfl
@[simp] theorem tr_nx : tryR xt hs (.nx ρ) = .nx ρ := rfl
@[simp] theorem tr_rt : tryR xt hs (.rt m d) = .rt m d := rfl
@[simp] theorem tr_exc : tryR xt hs (.exc c ρ) = hndR xt c ρ hs := rfl
theorem hn_t {i : Option Nat} (h : xt c x = some true) : hndR xt c ρ (⟨x, i, g⟩ :: hs) = unR i (g (inR i c ρ)) := by
  show (match xt c x with | some true => unR i (g (inR i c ρ)) | some false => hndR xt c ρ hs | none => .stuck) = _
  rw [h]
end
theorem kit_ty {K : PySem.W.Frag} {C : Addr} {T : String} {b : Bool} (h1 : PySem.W.kitMeta T = true) (h2 : PySem.W.subIn K (.ref C) (.type T) = some b) : PySem.W.kitOne K (.ref C) (.type T) = some b := by
  unfold PySem.W.kitOne
  rw [if_neg (by intro z; cases (beq_iff_eq.mp z))]
  show (if PySem.W.kitMeta T = true then PySem.W.subIn K (.ref C) (.type T) else none) = _
  rw [if_pos h1]; exact h2
theorem xt_nil {K : PySem.W.Frag} {mg : Str → Option Value} : XtOk K mg (fun c x => ([] : List ((Str × Str) × Bool)).lookup (c, x)) := fun c x b h => by cases h
theorem xt_cons {K : PySem.W.Frag} {mg : Str → Option Value} {c x : Str} {b : Bool} {r : List ((Str × Str) × Bool)} {C C2 : Addr} (h1 : PySem.W.nsIn K mainGlobals c = some (some (.ref C))) (h2 : mg c = some (.ref C)) (h3 : mg x = some (.ref C2)) (h4 : PySem.W.mroIn K C2 (.type "BaseException") = some true) (h5 : PySem.W.typeIn K (.ref C2) = some (.type "type")) (h6 : PySem.W.mroIn K C (.ref C2) = some b)
    (hr : XtOk K mg (fun c x => r.lookup (c, x))) : XtOk K mg (fun c' x' => (((c, x), b) :: r).lookup (c', x')) := fun c' x' b' h => by
  dsimp only at h
  rw [List.lookup_cons] at h
  split at h
  · rename_i q
    cases h
    have q := beq_iff_eq.mp q
    cases q
    exact ⟨C, C2, h1, h2, h3, h4, h5, h6⟩
  · exact hr c' x' b' h
theorem xi_nil {K : PySem.W.Frag} {mg : Str → Option Value} : XisOk K mg (fun c x => ([] : List ((Str × Str) × Bool)).lookup (c, x)) := fun c x b h => by cases h
theorem xi_cons {K : PySem.W.Frag} {mg : Str → Option Value} {c n : Str} {b : Bool} {r : List ((Str × Str) × Bool)} {C : Addr} {cv : V} (h1 : PySem.W.nsIn K mainGlobals c = some (some (.ref C))) (h2 : XCls K C) (h3 : ClsV mg n cv) (h4 : PySem.W.kitOne K (.ref C) (valV' cv) = some b)
    (hr : XisOk K mg (fun c x => r.lookup (c, x))) : XisOk K mg (fun c' x' => (((c, n), b) :: r).lookup (c', x')) := fun c' x' b' h => by
  dsimp only at h
  rw [List.lookup_cons] at h
  split at h
  · rename_i q
    cases h
    have q := beq_iff_eq.mp q
    cases q
    exact ⟨C, cv, h1, h2, h3, h4⟩
  · exact hr c' x' b' h
theorem bb_ValueError : bootBuiltins "ValueError" = some (.type "ValueError") := by decide +kernel
theorem phi_ok {n N : Nat} {g : Rho → SRes} {ds : List D} {m : Md} {d : D} (hl : ds.length = n) (h : g (startR N ds) = .rt m d) : phi n N g ds = .ok m d := by
  unfold phi
  rw [if_pos hl, h]; rfl
theorem callF_ok {n : Nat} {Φ : List D → Res} {xs : List (Md × D)} {ds : List D} {d : D} (hl : ds.length = n) (ha : allFz xs = some ds) (h : Φ ds = .ok .fz d) : callF n Φ (.ok xs) = .ok .fz d := by
  show (match allFz xs with | some ds => if ds.length = n then (match Φ ds with | .ok .bo _ => Res.stuck | r => r) else .stuck | none => .stuck) = _
  rw [ha]
  show (if ds.length = n then _ else _) = _
  rw [if_pos hl, h]
@[simp] theorem call1 {Φ : List D → Res} {a d : D} (h : Φ [a] = .ok .fz d) : callF 1 Φ (.ok [(.fz, a)]) = .ok .fz d := callF_ok (ds := [a]) rfl rfl h
@[simp] theorem call2 {Φ : List D → Res} {a b d : D} (h : Φ [a, b] = .ok .fz d) : callF 2 Φ (.ok [(.fz, a), (.fz, b)]) = .ok .fz d := callF_ok (ds := [a, b]) rfl rfl h
@[simp] theorem call3 {Φ : List D → Res} {a b c d : D} (h : Φ [a, b, c] = .ok .fz d) : callF 3 Φ (.ok [(.fz, a), (.fz, b), (.fz, c)]) = .ok .fz d := callF_ok (ds := [a, b, c]) rfl rfl h
def inCls (s : Stmt) (j : Nat) : Stmt := match s with
  | .ClassDef _ _ _ body _ _ _ _ _ _ _ => body.getD j (.Pass ⟨0, 0, 0, 0⟩)
  | _ => .Pass ⟨0, 0, 0, 0⟩
theorem mem_cons {α : Type} {P : α → Prop} {a : α} {l : List α} (h : P a) (r : ∀ c, c ∈ l → P c) : ∀ c, c ∈ a :: l → P c := fun c hc => by
  rcases List.mem_cons.mp hc with rfl | hc
  · exact h
  · exact r c hc
theorem kit_t {K : PySem.W.Frag} {C : Addr} {t : String} {b : Bool} (h1 : PySem.W.isClsIn K C = true) (h2 : PySem.W.typeIn K (.ref C) = some (.type "type")) (h3 : PySem.W.subIn K (.type t) (.ref C) = some b) : PySem.W.kitOne K (.type t) (.ref C) = some b := by
  unfold PySem.W.kitOne
  rw [if_neg (by intro z; cases (beq_iff_eq.mp z))]
  show (if ((PySem.W.clsIn K C).isSome && PySem.W.typeIn K (.ref C) == some (.type "type")) = true then PySem.W.subIn K (.type t) (.ref C) else none) = _
  rw [if_pos (by rw [h2, show (PySem.W.clsIn K C).isSome = true from h1]; rfl)]
  exact h3
theorem kit_s {K : PySem.W.Frag} {C : Addr} : PySem.W.kitOne K (.ref C) (.ref C) = some true := by
  unfold PySem.W.kitOne
  rw [if_pos (beq_self_eq_true _)]
theorem kit_r {K : PySem.W.Frag} {C C' : Addr} {b : Bool} (h1 : PySem.W.isClsIn K C = true) (h2 : PySem.W.typeIn K (.ref C) = some (.type "type")) (h3 : PySem.W.subIn K (.ref C') (.ref C) = some b) (hne : (C' == C) = false) : PySem.W.kitOne K (.ref C') (.ref C) = some b := by
  unfold PySem.W.kitOne
  rw [if_neg (by intro z; cases (beq_iff_eq.mp z); simp at hne)]
  show (if ((PySem.W.clsIn K C).isSome && PySem.W.typeIn K (.ref C) == some (.type "type")) = true then PySem.W.subIn K (.ref C') (.ref C) else none) = _
  rw [if_pos (by rw [h2, show (PySem.W.clsIn K C).isSome = true from h1]; rfl)]
  exact h3
theorem small_of {i : Int} (h : i.natAbs < 10 ^ 500) : small i = true := by
  unfold small
  refine decide_eq_true ?_
  by_cases h0 : i.natAbs = 0
  · rw [h0]; decide
  · refine (Nat.log2_lt h0).mpr (Nat.lt_trans h ?_)
    decide +kernel
@[simp] theorem x_meth {cl : List CI} {Φ : Str → List D → Res} {c m key : Str} {n : Nat} {fs : List (Str × D)} {as : ResL} (h : CI.meth cl c m = some (key, n)) (hl : fs.lookup m = none) : methR cl Φ m (.ok .fz (.ins c fs)) as = callF n (Φ key) (consL (.ok .fz (.ins c fs)) as) := by
  show (match CI.meth cl c m with | some (key, n) => if fs.lookup m = none then callF n (Φ key) (consL (.ok .fz (.ins c fs)) as) else .stuck | none => .stuck) = _
  rw [h]
  show (if fs.lookup m = none then _ else _) = _
  rw [if_pos hl]
@[simp] theorem wt_cl {t : TB} {k : Nat} : (WT t k).cl = t.cl := WT_cl t k
theorem wt_Φ {t : TB} {k : Nat} {f : Str} {d : FD} (h : t.T.lookup f = some d) : (WT t (k + 1)).Φ f = phi d.ps.length d.N.length (evB (WT t k) d.b) := by
  rw [WT_Φ]; unfold PhiF; rw [h]
@[simp] theorem call4 {Φ : List D → Res} {a b c e d : D} (h : Φ [a, b, c, e] = .ok .fz d) : callF 4 Φ (.ok [(.fz, a), (.fz, b), (.fz, c), (.fz, e)]) = .ok .fz d := callF_ok (ds := [a, b, c, e]) rfl rfl h
theorem b_app {W : WD} : ∀ {x y : List D3.S} {ρ : Rho}, evB W (x ++ y) ρ = (evB W x ρ).thn (evB W y)
  | [], y, ρ => by simp
  | s :: x, y, ρ => by
    show evB W (s :: (x ++ y)) ρ = _
    rw [b_cons, b_cons]
    cases evS W s ρ with
    | nx ρ' => exact b_app
    | _ => rfl
/-! ### loops -/
theorem forS_inv {k : D → Rho → Option Rho} {body : Rho → SRes} (I : Rho → Prop) : ∀ {ds : List D} {ρ : Rho}, (∀ d ∈ ds, ∀ ρ, I ρ → ∃ ρ1 ρ2, k d ρ = some ρ1 ∧ (body ρ1 = .nx ρ2 ∨ body ρ1 = .ct ρ2) ∧ I ρ2) → I ρ → ∃ ρ', forS k body ds ρ = .nx ρ' ∧ I ρ'
  | [], ρ, _, h => ⟨ρ, rfl, h⟩
  | d :: ds, ρ, hs, h => by
    obtain ⟨ρ1, ρ2, e1, e2, h2⟩ := hs d List.mem_cons_self ρ h
    obtain ⟨ρ', e3, h3⟩ := forS_inv I (fun d hd => hs d (List.mem_cons_of_mem _ hd)) h2
    refine ⟨ρ', ?_, h3⟩
    unfold forS
    rw [e1]
    dsimp only
    rcases e2 with e2 | e2 <;> rw [e2] <;> exact e3
theorem forR_inv {k : D → Rho → Option Rho} {body : Rho → SRes} {m : Md} {ds : List D} {ρ : Rho} (I : Rho → Prop) (hs : ∀ d ∈ ds, ∀ ρ, I ρ → ∃ ρ1 ρ2, k d ρ = some ρ1 ∧ (body ρ1 = .nx ρ2 ∨ body ρ1 = .ct ρ2) ∧ I ρ2) (h : I ρ) :
    ∃ ρ', forR (.ok m (.lst ds)) ρ k body = .nx ρ' ∧ I ρ' := forS_inv I hs h
/-! ### the greatest divisor -/
end D3

namespace K08
open PySem L2 D3
def b_law_L1 : List D3.S := [.set 4 (.ix (.var 0) (.bin .Mod (.bin .Add (.var 2) (.int 1)) (.bcall .len [(.var 0)]))),
      .set 5 (.frz (.bin .Add (.int 2) (.bin .Mod (.call "_law_mix" 2 [(.var 3), (.int 0)]) (.int 7)))),
      .ite (.cmp .Eq (.bin .Mod (.call "_law_mix" 2 [(.var 3), (.int 1)]) (.int 4)) (.int 0)) [.set 5 (.frz (.bin .Add (.int 2) (.bin .Mod (.var 3) (.bin .Pow (.int 10) (.int 58)))))] [],
      .set 6 (.frz (.bin .Add (.bin .Mod (.var 3) (.bin .Pow (.int 10) (.int 59))) (.call "_law_mix" 2 [(.var 3), (.int 2)]))),
      .set 7 (.frz (.bin .Add (.bin .Mod (.var 4) (.bin .Pow (.int 10) (.int 59))) (.call "_law_mix" 2 [(.var 4), (.int 3)]))),
      .ite (.orL [(.not (.tru (.call "_law_turns" 4 [(.frz (.make "Wheel" "Wheel.__init__" 1 [(.var 5)])), (.var 5), (.var 6), (.var 7)]))), (.not (.tru (.call "_law_turns" 4 [(.var 1), (.int 5), (.var 7), (.var 6)])))]) [.ret (.bl false)] [],
      .set 8 (.ix (.lst [(.int 1), (.int 0), (.neg (.var 5)), (.bl true), .non, (.frz (.tcall .str [(.var 5)])), (.frz (.lst [(.var 5)])), (.tup [(.var 5)]), (.bl false)]) (.bin .Mod (.call "_law_mix" 2 [(.var 3), (.int 5)]) (.int 9))),
      .ite (.not (.tru (.call "_law_refused" 1 [(.var 8)]))) [.ret (.bl false)] []]
def b_is_whole : List D3.S := [.ret (.andL [(.bcall .isinstance [(.var 0), (.ty .int)]), (.not (.bcall .isinstance [(.var 0), (.ty .bool)]))])]
def b__law_mix : List D3.S := [.set 2 (.frz (.bin .Mod (.bin .Mult (.bin .Add (.bin .Mod (.var 0) (.bin .Pow (.int 10) (.int 60))) (.int 1)) (.bin .Add (.int 48271) (.bin .Mult (.int 130) (.var 1)))) (.int 2147483647))),
      .ret (.bin .Mod (.bin .Mult (.var 2) (.var 2)) (.int 2147483629))]
def b__law_number : List D3.S := [.ret (.andL [(.bcall .isinstance [(.var 0), (.ty .int)]), (.not (.bcall .isinstance [(.var 0), (.ty .bool)])), (.cmp .Eq (.var 0) (.var 1))])]
def b__law_told : List D3.S := [.ret (.andL [(.bcall .isinstance [(.var 0), (.ty .bool)]), (.cmp .Eq (.var 0) (.var 1))])]
def b__law_refused : List D3.S := [.set 1 (.bl false),
      .tr [.expr (.make "Wheel" "Wheel.__init__" 1 [(.var 0)])] [.mk "NoKind" (some 2) [.set 3 (.isxT (.var 2) ["NoName", "NoNote", "Twice", "Misfit", "NoTable"]),
      .set 4 (.isxT (.var 2) ["NoColumn", "Unlike", "NotPlain", "NoText"]),
      .set 1 (.andL [(.isx1 (.var 2) "WhenceError"), (.isx1 (.var 2) "ValueError"), (.not (.var 3)), (.not (.var 4))])]],
      .retV 1]
def b__law_turns : List D3.S := [.set 4 (.frz (.bin .Mod (.var 2) (.var 1))),
      .set 5 (.frz (.bin .Mod (.var 3) (.var 1))),
      .ite (.orL [(.not (.tru (.call "_law_number" 2 [(.frz (.meth (.var 0) "nought" [])), (.int 0)]))), (.not (.tru (.call "_law_number" 2 [(.frz (.meth (.var 0) "one" [])), (.int 1)])))]) [.ret (.bl false)] [],
      .ite (.orL [(.not (.tru (.call "_law_number" 2 [(.frz (.meth (.var 0) "plus" [(.var 4), (.var 5)])), (.frz (.bin .Mod (.bin .Add (.var 4) (.var 5)) (.var 1)))]))), (.not (.tru (.call "_law_number" 2 [(.frz (.meth (.var 0) "times" [(.var 4), (.var 5)])), (.frz (.bin .Mod (.bin .Mult (.var 4) (.var 5)) (.var 1)))])))]) [.ret (.bl false)] [],
      .set 6 (.frz (.meth (.var 0) "shown" [(.var 4)])),
      .ite (.orL [(.not (.tru (.bcall .isinstance [(.var 6), (.ty .str)]))), (.cmp .NotEq (.var 6) (.tcall .str [(.var 4)]))]) [.ret (.bl false)] [],
      .set 7 (.ix (.lst [(.var 1), (.frz (.bin .Add (.var 1) (.var 4))), (.frz (.bin .Sub (.neg (.int 1)) (.var 4))), (.bl true), (.bl false), .non, (.frz (.tcall .str [(.var 4)])), (.tup [(.var 4)]), (.frz (.lst [(.var 4)]))]) (.bin .Mod (.call "_law_mix" 2 [(.var 2), (.int 4)]) (.int 9))),
      .ret (.andL [(.call "_law_told" 2 [(.frz (.meth (.var 0) "holds" [(.var 4)])), (.bl true)]), (.call "_law_told" 2 [(.frz (.meth (.var 0) "holds" [(.var 7)])), (.bl false)])])]
def b_law : List D3.S := [.set 1 (.frz (.make "Wheel" "Wheel.__init__" 1 [(.int 5)])),
      .ite (.orL [(.not (.tru (.isi (.var 1) "Kind"))), (.tru (.isi (.var 1) "Single"))]) [.ret (.bl false)] [],
      .for (.enum1 (.var 0)) (.tp [(.nm 2), (.nm 3)]) b_law_L1,
      .ret (.bl true)]
def b_Wheel_nought : List D3.S := [.ret (.int 0)]
def b_Wheel_one : List D3.S := [.ret (.int 1)]
def b_Wheel_plus : List D3.S := [.ret (.bin .Mod (.bin .Add (.var 1) (.var 2)) (.fld (.var 0) "size"))]
def b_Wheel_times : List D3.S := [.ret (.bin .Mod (.bin .Mult (.var 1) (.var 2)) (.fld (.var 0) "size"))]
def b_Wheel_holds : List D3.S := [.ret (.andL [(.call "is_whole" 1 [(.var 1)]), (.chain .LtE .Lt (.int 0) (.var 1) (.fld (.var 0) "size"))])]
def b_Wheel_shown : List D3.S := [.ret (.tcall .str [(.var 1)])]
def d_is_whole : FD := ⟨["thing"], ["thing"], b_is_whole⟩
def d__law_mix : FD := ⟨["_law_cell", "_law_place"], ["_law_cell", "_law_place", "_law_first"], b__law_mix⟩
def d__law_number : FD := ⟨["_law_found", "_law_due"], ["_law_found", "_law_due"], b__law_number⟩
def d__law_told : FD := ⟨["_law_found", "_law_due"], ["_law_found", "_law_due"], b__law_told⟩
def d__law_refused : FD := ⟨["_law_size"], ["_law_size", "_law_good", "e", "_law_some", "_law_others"], b__law_refused⟩
def d__law_turns : FD := ⟨["_law_wheel", "_law_size", "_law_one", "_law_other"], ["_law_wheel", "_law_size", "_law_one", "_law_other", "_law_a", "_law_b", "_law_text", "_law_odd"], b__law_turns⟩
def d_law : FD := ⟨["_law_script"], ["_law_script", "_law_stay", "_law_k", "_law_cell", "_law_beside", "_law_size", "_law_one", "_law_other", "_law_odd"], b_law⟩
def d_Wheel_nought : FD := ⟨["self"], ["self"], b_Wheel_nought⟩
def d_Wheel_one : FD := ⟨["self"], ["self"], b_Wheel_one⟩
def d_Wheel_plus : FD := ⟨["self", "a", "b"], ["self", "a", "b"], b_Wheel_plus⟩
def d_Wheel_times : FD := ⟨["self", "a", "b"], ["self", "a", "b"], b_Wheel_times⟩
def d_Wheel_holds : FD := ⟨["self", "thing"], ["self", "thing"], b_Wheel_holds⟩
def d_Wheel_shown : FD := ⟨["self", "a"], ["self", "a"], b_Wheel_shown⟩
def i_Wheel___init__ : ID := ⟨"Wheel", ["self", "size"], ["self", "size"], (.guard (.orL [(.not (.tru (.call "is_whole" 1 [(.var 1)]))), (.cmp .Lt (.var 1) (.int 2))]) [.rz "NoKind" [(.str "the size of a wheel is a whole number from 2 on")]] (.fset "size" (.var 1) .done))⟩
def c_Kind : CI := ⟨"Kind", ["Kind"], [], []⟩
def c_Single : CI := ⟨"Single", ["Single", "Kind"], [], []⟩
def c_Wheel : CI := ⟨"Wheel", ["Wheel", "Kind"], ["size"], [("nought", "Wheel.nought", 1), ("one", "Wheel.one", 1), ("plus", "Wheel.plus", 3), ("times", "Wheel.times", 3), ("holds", "Wheel.holds", 2), ("shown", "Wheel.shown", 2)]⟩
def T : List (Str × FD) := [(("is_whole" : Str), d_is_whole), (("_law_mix" : Str), d__law_mix), (("_law_number" : Str), d__law_number), (("_law_told" : Str), d__law_told), (("_law_refused" : Str), d__law_refused), (("_law_turns" : Str), d__law_turns), (("law" : Str), d_law), (("Wheel.nought" : Str), d_Wheel_nought), (("Wheel.one" : Str), d_Wheel_one), (("Wheel.plus" : Str), d_Wheel_plus), (("Wheel.times" : Str), d_Wheel_times), (("Wheel.holds" : Str), d_Wheel_holds), (("Wheel.shown" : Str), d_Wheel_shown)]
def TT : TB := ⟨T, [("Wheel.__init__", i_Wheel___init__)], [c_Kind, c_Single, c_Wheel], [((("NoKind" : Str), ("NoKind" : Str)), true)], [((("NoKind" : Str), ("NoName" : Str)), false), ((("NoKind" : Str), ("NoNote" : Str)), false), ((("NoKind" : Str), ("Twice" : Str)), false), ((("NoKind" : Str), ("Misfit" : Str)), false), ((("NoKind" : Str), ("NoTable" : Str)), false), ((("NoKind" : Str), ("NoColumn" : Str)), false), ((("NoKind" : Str), ("Unlike" : Str)), false), ((("NoKind" : Str), ("NotPlain" : Str)), false), ((("NoKind" : Str), ("NoText" : Str)), false), ((("NoKind" : Str), ("WhenceError" : Str)), true), ((("NoKind" : Str), ("ValueError" : Str)), true)]⟩
def GG : MG := ⟨[(("Kind" : Str), (GV.cls)), (("Misfit" : Str), (GV.cls)), (("NoColumn" : Str), (GV.cls)), (("NoKind" : Str), (GV.cls)), (("NoName" : Str), (GV.cls)), (("NoNote" : Str), (GV.cls)), (("NoTable" : Str), (GV.cls)), (("NoText" : Str), (GV.cls)), (("NotPlain" : Str), (GV.cls)), (("Single" : Str), (GV.cls)), (("Twice" : Str), (GV.cls)), (("Unlike" : Str), (GV.cls)), (("ValueError" : Str), (GV.no)), (("Wheel" : Str), (GV.cls)), (("WhenceError" : Str), (GV.cls)), (("_law_mix" : Str), (GV.fn 2)), (("_law_number" : Str), (GV.fn 2)), (("_law_refused" : Str), (GV.fn 1)), (("_law_told" : Str), (GV.fn 2)), (("_law_turns" : Str), (GV.fn 4)), (("bool" : Str), (GV.no)), (("enumerate" : Str), (GV.no)), (("int" : Str), (GV.no)), (("is_whole" : Str), (GV.fn 1)), (("isinstance" : Str), (GV.no)), (("len" : Str), (GV.no)), (("str" : Str), (GV.no))], [], [("Wheel", "Wheel.__init__", 1)], ["Kind", "Single"], ["NoKind"], ["NoName", "NoNote", "Twice", "Misfit", "NoTable", "NoColumn", "Unlike", "NotPlain", "NoText", "WhenceError", "ValueError"]⟩
def top (i : Nat) : Stmt := PySem.Challenge.pw_whencewise_k08_wheels.main.body.getD i (.Pass ⟨0, 0, 0, 0⟩)
abbrev s_is_whole : Stmt := top 13
abbrev s__law_mix : Stmt := top 19
abbrev s__law_number : Stmt := top 20
abbrev s__law_told : Stmt := top 21
abbrev s__law_refused : Stmt := top 22
abbrev s__law_turns : Stmt := top 23
abbrev s_law : Stmt := top 24
abbrev s_Wheel_nought : Stmt := inCls (top 17) 1
abbrev s_Wheel_one : Stmt := inCls (top 17) 2
abbrev s_Wheel_plus : Stmt := inCls (top 17) 3
abbrev s_Wheel_times : Stmt := inCls (top 17) 4
abbrev s_Wheel_holds : Stmt := inCls (top 17) 6
abbrev s_Wheel_shown : Stmt := inCls (top 17) 7
abbrev s_Wheel___init__ : Stmt := inCls (top 17) 0
theorem u_is_whole (k : Nat) : (WT TT (k + 1)).Φ "is_whole" = phi 1 1 (evB (WT TT k) b_is_whole) := wt_Φ (d := d_is_whole) rfl
theorem u__law_mix (k : Nat) : (WT TT (k + 1)).Φ "_law_mix" = phi 2 3 (evB (WT TT k) b__law_mix) := wt_Φ (d := d__law_mix) rfl
theorem u__law_number (k : Nat) : (WT TT (k + 1)).Φ "_law_number" = phi 2 2 (evB (WT TT k) b__law_number) := wt_Φ (d := d__law_number) rfl
theorem u__law_told (k : Nat) : (WT TT (k + 1)).Φ "_law_told" = phi 2 2 (evB (WT TT k) b__law_told) := wt_Φ (d := d__law_told) rfl
theorem u__law_refused (k : Nat) : (WT TT (k + 1)).Φ "_law_refused" = phi 1 5 (evB (WT TT k) b__law_refused) := wt_Φ (d := d__law_refused) rfl
theorem u__law_turns (k : Nat) : (WT TT (k + 1)).Φ "_law_turns" = phi 4 8 (evB (WT TT k) b__law_turns) := wt_Φ (d := d__law_turns) rfl
theorem u_law (k : Nat) : (WT TT (k + 1)).Φ "law" = phi 1 9 (evB (WT TT k) b_law) := wt_Φ (d := d_law) rfl
theorem u_Wheel_nought (k : Nat) : (WT TT (k + 1)).Φ "Wheel.nought" = phi 1 1 (evB (WT TT k) b_Wheel_nought) := wt_Φ (d := d_Wheel_nought) rfl
theorem u_Wheel_one (k : Nat) : (WT TT (k + 1)).Φ "Wheel.one" = phi 1 1 (evB (WT TT k) b_Wheel_one) := wt_Φ (d := d_Wheel_one) rfl
theorem u_Wheel_plus (k : Nat) : (WT TT (k + 1)).Φ "Wheel.plus" = phi 3 3 (evB (WT TT k) b_Wheel_plus) := wt_Φ (d := d_Wheel_plus) rfl
theorem u_Wheel_times (k : Nat) : (WT TT (k + 1)).Φ "Wheel.times" = phi 3 3 (evB (WT TT k) b_Wheel_times) := wt_Φ (d := d_Wheel_times) rfl
theorem u_Wheel_holds (k : Nat) : (WT TT (k + 1)).Φ "Wheel.holds" = phi 2 2 (evB (WT TT k) b_Wheel_holds) := wt_Φ (d := d_Wheel_holds) rfl
theorem u_Wheel_shown (k : Nat) : (WT TT (k + 1)).Φ "Wheel.shown" = phi 2 2 (evB (WT TT k) b_Wheel_shown) := wt_Φ (d := d_Wheel_shown) rfl
theorem m_Wheel_nought : CI.meth TT.cl "Wheel" "nought" = some (("Wheel.nought" : Str), 1) := rfl
theorem mm_Wheel_nought {Φ : Str → List D → Res} {as : ResL} {fs : List (Str × D)} (hl : fs.lookup ("nought" : Str) = none) : methR TT.cl Φ "nought" (.ok .fz (.ins "Wheel" fs)) as = callF 1 (Φ "Wheel.nought") (consL (.ok .fz (.ins "Wheel" fs)) as) := x_meth m_Wheel_nought hl
theorem mz_Wheel_nought {Φ : Str → List D → Res} {as : ResL} : methR TT.cl Φ "nought" (.ok .fz (.ins "Wheel" [])) as = callF 1 (Φ "Wheel.nought") (consL (.ok .fz (.ins "Wheel" [])) as) := x_meth m_Wheel_nought rfl
theorem m_Wheel_one : CI.meth TT.cl "Wheel" "one" = some (("Wheel.one" : Str), 1) := rfl
theorem mm_Wheel_one {Φ : Str → List D → Res} {as : ResL} {fs : List (Str × D)} (hl : fs.lookup ("one" : Str) = none) : methR TT.cl Φ "one" (.ok .fz (.ins "Wheel" fs)) as = callF 1 (Φ "Wheel.one") (consL (.ok .fz (.ins "Wheel" fs)) as) := x_meth m_Wheel_one hl
theorem mz_Wheel_one {Φ : Str → List D → Res} {as : ResL} : methR TT.cl Φ "one" (.ok .fz (.ins "Wheel" [])) as = callF 1 (Φ "Wheel.one") (consL (.ok .fz (.ins "Wheel" [])) as) := x_meth m_Wheel_one rfl
theorem m_Wheel_plus : CI.meth TT.cl "Wheel" "plus" = some (("Wheel.plus" : Str), 3) := rfl
theorem mm_Wheel_plus {Φ : Str → List D → Res} {as : ResL} {fs : List (Str × D)} (hl : fs.lookup ("plus" : Str) = none) : methR TT.cl Φ "plus" (.ok .fz (.ins "Wheel" fs)) as = callF 3 (Φ "Wheel.plus") (consL (.ok .fz (.ins "Wheel" fs)) as) := x_meth m_Wheel_plus hl
theorem mz_Wheel_plus {Φ : Str → List D → Res} {as : ResL} : methR TT.cl Φ "plus" (.ok .fz (.ins "Wheel" [])) as = callF 3 (Φ "Wheel.plus") (consL (.ok .fz (.ins "Wheel" [])) as) := x_meth m_Wheel_plus rfl
theorem m_Wheel_times : CI.meth TT.cl "Wheel" "times" = some (("Wheel.times" : Str), 3) := rfl
theorem mm_Wheel_times {Φ : Str → List D → Res} {as : ResL} {fs : List (Str × D)} (hl : fs.lookup ("times" : Str) = none) : methR TT.cl Φ "times" (.ok .fz (.ins "Wheel" fs)) as = callF 3 (Φ "Wheel.times") (consL (.ok .fz (.ins "Wheel" fs)) as) := x_meth m_Wheel_times hl
theorem mz_Wheel_times {Φ : Str → List D → Res} {as : ResL} : methR TT.cl Φ "times" (.ok .fz (.ins "Wheel" [])) as = callF 3 (Φ "Wheel.times") (consL (.ok .fz (.ins "Wheel" [])) as) := x_meth m_Wheel_times rfl
theorem m_Wheel_holds : CI.meth TT.cl "Wheel" "holds" = some (("Wheel.holds" : Str), 2) := rfl
theorem mm_Wheel_holds {Φ : Str → List D → Res} {as : ResL} {fs : List (Str × D)} (hl : fs.lookup ("holds" : Str) = none) : methR TT.cl Φ "holds" (.ok .fz (.ins "Wheel" fs)) as = callF 2 (Φ "Wheel.holds") (consL (.ok .fz (.ins "Wheel" fs)) as) := x_meth m_Wheel_holds hl
theorem mz_Wheel_holds {Φ : Str → List D → Res} {as : ResL} : methR TT.cl Φ "holds" (.ok .fz (.ins "Wheel" [])) as = callF 2 (Φ "Wheel.holds") (consL (.ok .fz (.ins "Wheel" [])) as) := x_meth m_Wheel_holds rfl
theorem m_Wheel_shown : CI.meth TT.cl "Wheel" "shown" = some (("Wheel.shown" : Str), 2) := rfl
theorem mm_Wheel_shown {Φ : Str → List D → Res} {as : ResL} {fs : List (Str × D)} (hl : fs.lookup ("shown" : Str) = none) : methR TT.cl Φ "shown" (.ok .fz (.ins "Wheel" fs)) as = callF 2 (Φ "Wheel.shown") (consL (.ok .fz (.ins "Wheel" fs)) as) := x_meth m_Wheel_shown hl
theorem mz_Wheel_shown {Φ : Str → List D → Res} {as : ResL} : methR TT.cl Φ "shown" (.ok .fz (.ins "Wheel" [])) as = callF 2 (Φ "Wheel.shown") (consL (.ok .fz (.ins "Wheel" [])) as) := x_meth m_Wheel_shown rfl
theorem is_Kind_Kind {m : Md} {fs : List (Str × D)} : isoR TT.cl "Kind" (.ok m (.ins "Kind" fs)) = .ok .fz (.bl true) := rfl
theorem is_Single_Kind {m : Md} {fs : List (Str × D)} : isoR TT.cl "Kind" (.ok m (.ins "Single" fs)) = .ok .fz (.bl true) := rfl
theorem is_Wheel_Kind {m : Md} {fs : List (Str × D)} : isoR TT.cl "Kind" (.ok m (.ins "Wheel" fs)) = .ok .fz (.bl true) := rfl
theorem is_Kind_Single {m : Md} {fs : List (Str × D)} : isoR TT.cl "Single" (.ok m (.ins "Kind" fs)) = .ok .fz (.bl false) := rfl
theorem is_Single_Single {m : Md} {fs : List (Str × D)} : isoR TT.cl "Single" (.ok m (.ins "Single" fs)) = .ok .fz (.bl true) := rfl
theorem is_Wheel_Single {m : Md} {fs : List (Str × D)} : isoR TT.cl "Single" (.ok m (.ins "Wheel" fs)) = .ok .fz (.bl false) := rfl
theorem ui_Wheel___init__ (k : Nat) : (WT TT (k + 2)).I "Wheel.__init__" = some (phiI (WT TT k) i_Wheel___init__) := rfl
theorem ok_g : gOk GG.G TT.T = true := by decide +kernel
theorem ok_mt : mtOk TT.cl TT.T = true := by decide +kernel
theorem ok_mk : mkiOk GG.mki TT.I = true := by decide +kernel
theorem ok_is_whole : fdOk GG s_is_whole d_is_whole = true := by decide +kernel
theorem ok__law_mix : fdOk GG s__law_mix d__law_mix = true := by decide +kernel
theorem ok__law_number : fdOk GG s__law_number d__law_number = true := by decide +kernel
theorem ok__law_told : fdOk GG s__law_told d__law_told = true := by decide +kernel
theorem ok__law_refused : fdOk GG s__law_refused d__law_refused = true := by decide +kernel
theorem ok__law_turns : fdOk GG s__law_turns d__law_turns = true := by decide +kernel
theorem ok_law : fdOk GG s_law d_law = true := by decide +kernel
theorem ok_Wheel_nought : fdOk GG s_Wheel_nought d_Wheel_nought = true := by decide +kernel
theorem ok_Wheel_one : fdOk GG s_Wheel_one d_Wheel_one = true := by decide +kernel
theorem ok_Wheel_plus : fdOk GG s_Wheel_plus d_Wheel_plus = true := by decide +kernel
theorem ok_Wheel_times : fdOk GG s_Wheel_times d_Wheel_times = true := by decide +kernel
theorem ok_Wheel_holds : fdOk GG s_Wheel_holds d_Wheel_holds = true := by decide +kernel
theorem ok_Wheel_shown : fdOk GG s_Wheel_shown d_Wheel_shown = true := by decide +kernel
theorem ok_Wheel___init__ : idOk GG s_Wheel___init__ i_Wheel___init__ = true := by decide +kernel
set_option maxHeartbeats 0 in
theorem all_mk {l : PySem.W.OpenLaw} {w : World} {K : PySem.W.Frag} {h : Heap} {mg : Str → Option Value} {fa : Addr} (k : Nat) (X : K.In h) (G : h.Ns mainGlobals mg) (hfa : mg "law" = some (.ref fa))
    {C_Kind : Addr} (aC_Kind : PySem.W.nsIn K mainGlobals "Kind" = some (some (.ref C_Kind)))
    {C_Single : Addr} (aC_Single : PySem.W.nsIn K mainGlobals "Single" = some (some (.ref C_Single)))
    {C_Wheel : Addr} (aC_Wheel : PySem.W.nsIn K mainGlobals "Wheel" = some (some (.ref C_Wheel)))
    {f0 : Addr} {od0 an0 : Option Addr} {sl0 : Array (Option Value)} {oc0 kV0 dc0 pm0 cd0 ct0 : Value} (a0 : PySem.W.nsIn K mainGlobals "is_whole" = some (some (.ref f0)))
    (l0 : K.lookup f0 = some ⟨oc0, od0, .func (PySem.W.fnOf "is_whole" "is_whole" (defArgs s_is_whole) (defBody s_is_whole) (defScope s_is_whole) .none kV0 dc0 pm0 an0 cd0 ct0), sl0⟩)
    (c0 : PySem.W.codeIn K cd0 "is_whole" = true)
    (k0 : PySem.W.keepIn K (.ref f0) = true)
    {f1 : Addr} {od1 an1 : Option Addr} {sl1 : Array (Option Value)} {oc1 kV1 dc1 pm1 cd1 ct1 : Value} (a1 : PySem.W.nsIn K mainGlobals "_law_mix" = some (some (.ref f1)))
    (l1 : K.lookup f1 = some ⟨oc1, od1, .func (PySem.W.fnOf "_law_mix" "_law_mix" (defArgs s__law_mix) (defBody s__law_mix) (defScope s__law_mix) .none kV1 dc1 pm1 an1 cd1 ct1), sl1⟩)
    (c1 : PySem.W.codeIn K cd1 "_law_mix" = true)
    (k1 : PySem.W.keepIn K (.ref f1) = true)
    {f2 : Addr} {od2 an2 : Option Addr} {sl2 : Array (Option Value)} {oc2 kV2 dc2 pm2 cd2 ct2 : Value} (a2 : PySem.W.nsIn K mainGlobals "_law_number" = some (some (.ref f2)))
    (l2 : K.lookup f2 = some ⟨oc2, od2, .func (PySem.W.fnOf "_law_number" "_law_number" (defArgs s__law_number) (defBody s__law_number) (defScope s__law_number) .none kV2 dc2 pm2 an2 cd2 ct2), sl2⟩)
    (c2 : PySem.W.codeIn K cd2 "_law_number" = true)
    (k2 : PySem.W.keepIn K (.ref f2) = true)
    {f3 : Addr} {od3 an3 : Option Addr} {sl3 : Array (Option Value)} {oc3 kV3 dc3 pm3 cd3 ct3 : Value} (a3 : PySem.W.nsIn K mainGlobals "_law_told" = some (some (.ref f3)))
    (l3 : K.lookup f3 = some ⟨oc3, od3, .func (PySem.W.fnOf "_law_told" "_law_told" (defArgs s__law_told) (defBody s__law_told) (defScope s__law_told) .none kV3 dc3 pm3 an3 cd3 ct3), sl3⟩)
    (c3 : PySem.W.codeIn K cd3 "_law_told" = true)
    (k3 : PySem.W.keepIn K (.ref f3) = true)
    {f4 : Addr} {od4 an4 : Option Addr} {sl4 : Array (Option Value)} {oc4 kV4 dc4 pm4 cd4 ct4 : Value} (a4 : PySem.W.nsIn K mainGlobals "_law_refused" = some (some (.ref f4)))
    (l4 : K.lookup f4 = some ⟨oc4, od4, .func (PySem.W.fnOf "_law_refused" "_law_refused" (defArgs s__law_refused) (defBody s__law_refused) (defScope s__law_refused) .none kV4 dc4 pm4 an4 cd4 ct4), sl4⟩)
    (c4 : PySem.W.codeIn K cd4 "_law_refused" = true)
    (k4 : PySem.W.keepIn K (.ref f4) = true)
    {f5 : Addr} {od5 an5 : Option Addr} {sl5 : Array (Option Value)} {oc5 kV5 dc5 pm5 cd5 ct5 : Value} (a5 : PySem.W.nsIn K mainGlobals "_law_turns" = some (some (.ref f5)))
    (l5 : K.lookup f5 = some ⟨oc5, od5, .func (PySem.W.fnOf "_law_turns" "_law_turns" (defArgs s__law_turns) (defBody s__law_turns) (defScope s__law_turns) .none kV5 dc5 pm5 an5 cd5 ct5), sl5⟩)
    (c5 : PySem.W.codeIn K cd5 "_law_turns" = true)
    (k5 : PySem.W.keepIn K (.ref f5) = true)
    {f6 : Addr} {od6 an6 : Option Addr} {sl6 : Array (Option Value)} {oc6 kV6 dc6 pm6 cd6 ct6 : Value} (a6 : PySem.W.nsIn K mainGlobals "law" = some (some (.ref f6)))
    (l6 : K.lookup f6 = some ⟨oc6, od6, .func (PySem.W.fnOf "law" "law" (defArgs s_law) (defBody s_law) (defScope s_law) .none kV6 dc6 pm6 an6 cd6 ct6), sl6⟩)
    (c6 : PySem.W.codeIn K cd6 "law" = true)
    (k6 : PySem.W.keepIn K (.ref f6) = true)
    {f7 : Addr} {od7 an7 : Option Addr} {sl7 : Array (Option Value)} {oc7 kV7 dc7 pm7 cd7 ct7 : Value} (a7 : PySem.W.findIn K (.ref C_Wheel) "nought" = some (some (.ref f7)))
    (j7 : PySem.W.isFn K (.ref f7) = true)
    (l7 : K.lookup f7 = some ⟨oc7, od7, .func (PySem.W.fnOf "nought" "Wheel.nought" (defArgs s_Wheel_nought) (defBody s_Wheel_nought) (defScope s_Wheel_nought) .none kV7 dc7 pm7 an7 cd7 ct7), sl7⟩)
    (c7 : PySem.W.codeIn K cd7 "Wheel.nought" = true)
    (k7 : PySem.W.keepIn K (.ref f7) = true)
    {f8 : Addr} {od8 an8 : Option Addr} {sl8 : Array (Option Value)} {oc8 kV8 dc8 pm8 cd8 ct8 : Value} (a8 : PySem.W.findIn K (.ref C_Wheel) "one" = some (some (.ref f8)))
    (j8 : PySem.W.isFn K (.ref f8) = true)
    (l8 : K.lookup f8 = some ⟨oc8, od8, .func (PySem.W.fnOf "one" "Wheel.one" (defArgs s_Wheel_one) (defBody s_Wheel_one) (defScope s_Wheel_one) .none kV8 dc8 pm8 an8 cd8 ct8), sl8⟩)
    (c8 : PySem.W.codeIn K cd8 "Wheel.one" = true)
    (k8 : PySem.W.keepIn K (.ref f8) = true)
    {f9 : Addr} {od9 an9 : Option Addr} {sl9 : Array (Option Value)} {oc9 kV9 dc9 pm9 cd9 ct9 : Value} (a9 : PySem.W.findIn K (.ref C_Wheel) "plus" = some (some (.ref f9)))
    (j9 : PySem.W.isFn K (.ref f9) = true)
    (l9 : K.lookup f9 = some ⟨oc9, od9, .func (PySem.W.fnOf "plus" "Wheel.plus" (defArgs s_Wheel_plus) (defBody s_Wheel_plus) (defScope s_Wheel_plus) .none kV9 dc9 pm9 an9 cd9 ct9), sl9⟩)
    (c9 : PySem.W.codeIn K cd9 "Wheel.plus" = true)
    (k9 : PySem.W.keepIn K (.ref f9) = true)
    {f10 : Addr} {od10 an10 : Option Addr} {sl10 : Array (Option Value)} {oc10 kV10 dc10 pm10 cd10 ct10 : Value} (a10 : PySem.W.findIn K (.ref C_Wheel) "times" = some (some (.ref f10)))
    (j10 : PySem.W.isFn K (.ref f10) = true)
    (l10 : K.lookup f10 = some ⟨oc10, od10, .func (PySem.W.fnOf "times" "Wheel.times" (defArgs s_Wheel_times) (defBody s_Wheel_times) (defScope s_Wheel_times) .none kV10 dc10 pm10 an10 cd10 ct10), sl10⟩)
    (c10 : PySem.W.codeIn K cd10 "Wheel.times" = true)
    (k10 : PySem.W.keepIn K (.ref f10) = true)
    {f11 : Addr} {od11 an11 : Option Addr} {sl11 : Array (Option Value)} {oc11 kV11 dc11 pm11 cd11 ct11 : Value} (a11 : PySem.W.findIn K (.ref C_Wheel) "holds" = some (some (.ref f11)))
    (j11 : PySem.W.isFn K (.ref f11) = true)
    (l11 : K.lookup f11 = some ⟨oc11, od11, .func (PySem.W.fnOf "holds" "Wheel.holds" (defArgs s_Wheel_holds) (defBody s_Wheel_holds) (defScope s_Wheel_holds) .none kV11 dc11 pm11 an11 cd11 ct11), sl11⟩)
    (c11 : PySem.W.codeIn K cd11 "Wheel.holds" = true)
    (k11 : PySem.W.keepIn K (.ref f11) = true)
    {f12 : Addr} {od12 an12 : Option Addr} {sl12 : Array (Option Value)} {oc12 kV12 dc12 pm12 cd12 ct12 : Value} (a12 : PySem.W.findIn K (.ref C_Wheel) "shown" = some (some (.ref f12)))
    (j12 : PySem.W.isFn K (.ref f12) = true)
    (l12 : K.lookup f12 = some ⟨oc12, od12, .func (PySem.W.fnOf "shown" "Wheel.shown" (defArgs s_Wheel_shown) (defBody s_Wheel_shown) (defScope s_Wheel_shown) .none kV12 dc12 pm12 an12 cd12 ct12), sl12⟩)
    (c12 : PySem.W.codeIn K cd12 "Wheel.shown" = true)
    (k12 : PySem.W.keepIn K (.ref f12) = true)
    {f13 : Addr} {od13 an13 : Option Addr} {sl13 : Array (Option Value)} {oc13 kV13 dc13 pm13 cd13 ct13 : Value} (a13 : PySem.W.findIn K (.ref C_Wheel) "__init__" = some (some (.ref f13)))
    (j13 : PySem.W.isFn K (.ref f13) = true)
    (l13 : K.lookup f13 = some ⟨oc13, od13, .func (PySem.W.fnOf "__init__" "Wheel.__init__" (defArgs s_Wheel___init__) (defBody s_Wheel___init__) (defScope s_Wheel___init__) .none kV13 dc13 pm13 an13 cd13 ct13), sl13⟩)
    (c13 : PySem.W.codeIn K cd13 "Wheel.__init__" = true)
    (k13 : PySem.W.keepIn K (.ref f13) = true)
    (u_ValueError : PySem.W.nsIn K mainGlobals "ValueError" = some none)
    (u_bool : PySem.W.nsIn K mainGlobals "bool" = some none)
    (u_enumerate : PySem.W.nsIn K mainGlobals "enumerate" = some none)
    (u_int : PySem.W.nsIn K mainGlobals "int" = some none)
    (u_isinstance : PySem.W.nsIn K mainGlobals "isinstance" = some none)
    (u_len : PySem.W.nsIn K mainGlobals "len" = some none)
    (u_str : PySem.W.nsIn K mainGlobals "str" = some none)
    (pg_Kind : PySem.W.plainGet K C_Kind Str.empty = true)
    (hd_Kind : PySem.W.hasDictIn K C_Kind = true)
    (po_Kind : PySem.W.plainOver K C_Kind = true)
    (sa_Kind : PySem.W.findIn K (.ref C_Kind) "__setattr__" = some (some (.builtin "object.__setattr__")))
    (pg_Single : PySem.W.plainGet K C_Single Str.empty = true)
    (hd_Single : PySem.W.hasDictIn K C_Single = true)
    (po_Single : PySem.W.plainOver K C_Single = true)
    (sa_Single : PySem.W.findIn K (.ref C_Single) "__setattr__" = some (some (.builtin "object.__setattr__")))
    (pg_Wheel : PySem.W.plainGet K C_Wheel Str.empty = true)
    (hd_Wheel : PySem.W.hasDictIn K C_Wheel = true)
    (po_Wheel : PySem.W.plainOver K C_Wheel = true)
    (sa_Wheel : PySem.W.findIn K (.ref C_Wheel) "__setattr__" = some (some (.builtin "object.__setattr__")))
    (n_Wheel_size : PySem.W.findIn K (.ref C_Wheel) "size" = some none)
    {C_WhenceError : Addr} (aC_WhenceError : PySem.W.nsIn K mainGlobals "WhenceError" = some (some (.ref C_WhenceError)))
    {C_NoName : Addr} (aC_NoName : PySem.W.nsIn K mainGlobals "NoName" = some (some (.ref C_NoName)))
    {C_NoNote : Addr} (aC_NoNote : PySem.W.nsIn K mainGlobals "NoNote" = some (some (.ref C_NoNote)))
    {C_NoKind : Addr} (aC_NoKind : PySem.W.nsIn K mainGlobals "NoKind" = some (some (.ref C_NoKind)))
    {C_Twice : Addr} (aC_Twice : PySem.W.nsIn K mainGlobals "Twice" = some (some (.ref C_Twice)))
    {C_Misfit : Addr} (aC_Misfit : PySem.W.nsIn K mainGlobals "Misfit" = some (some (.ref C_Misfit)))
    {C_NoTable : Addr} (aC_NoTable : PySem.W.nsIn K mainGlobals "NoTable" = some (some (.ref C_NoTable)))
    {C_NoColumn : Addr} (aC_NoColumn : PySem.W.nsIn K mainGlobals "NoColumn" = some (some (.ref C_NoColumn)))
    {C_Unlike : Addr} (aC_Unlike : PySem.W.nsIn K mainGlobals "Unlike" = some (some (.ref C_Unlike)))
    {C_NotPlain : Addr} (aC_NotPlain : PySem.W.nsIn K mainGlobals "NotPlain" = some (some (.ref C_NotPlain)))
    {C_NoText : Addr} (aC_NoText : PySem.W.nsIn K mainGlobals "NoText" = some (some (.ref C_NoText)))
    (rz_NoKind : PySem.W.excIn K C_NoKind [.type "ValueError", .type "Exception", .type "BaseException", .type "object"] "ValueError.__new__" = true)
    (ga_NoKind : PySem.W.findIn K (.ref C_NoKind) "__getattribute__" = some (some (.builtin "BaseException.__getattribute__")))
    (gn_NoKind : PySem.W.findIn K (.ref C_NoKind) "__getattr__" = some none)
    (xa_NoKind : PySem.W.findIn K (.ref C_NoKind) "__class__" = some (some (.builtin "object.__class__")))
    (xb_NoKind : PySem.W.mroIn K C_NoKind (.type "BaseException") = some true)
    (xo_NoKind : PySem.W.mroIn K C_NoKind (.type "object") = some true)
    (hb_NoKind : PySem.W.mroIn K C_NoKind (.type "BaseException") = some true)
    (ht_NoKind : PySem.W.typeIn K (.ref C_NoKind) = some (.type "type"))
    (hm_NoKind_NoKind : PySem.W.mroIn K C_NoKind (.ref C_NoKind) = some true)
    (ic_NoName : PySem.W.isClsIn K C_NoName = true)
    (it_NoName : PySem.W.typeIn K (.ref C_NoName) = some (.type "type"))
    (ic_NoNote : PySem.W.isClsIn K C_NoNote = true)
    (it_NoNote : PySem.W.typeIn K (.ref C_NoNote) = some (.type "type"))
    (ic_Twice : PySem.W.isClsIn K C_Twice = true)
    (it_Twice : PySem.W.typeIn K (.ref C_Twice) = some (.type "type"))
    (ic_Misfit : PySem.W.isClsIn K C_Misfit = true)
    (it_Misfit : PySem.W.typeIn K (.ref C_Misfit) = some (.type "type"))
    (ic_NoTable : PySem.W.isClsIn K C_NoTable = true)
    (it_NoTable : PySem.W.typeIn K (.ref C_NoTable) = some (.type "type"))
    (ic_NoColumn : PySem.W.isClsIn K C_NoColumn = true)
    (it_NoColumn : PySem.W.typeIn K (.ref C_NoColumn) = some (.type "type"))
    (ic_Unlike : PySem.W.isClsIn K C_Unlike = true)
    (it_Unlike : PySem.W.typeIn K (.ref C_Unlike) = some (.type "type"))
    (ic_NotPlain : PySem.W.isClsIn K C_NotPlain = true)
    (it_NotPlain : PySem.W.typeIn K (.ref C_NotPlain) = some (.type "type"))
    (ic_NoText : PySem.W.isClsIn K C_NoText = true)
    (it_NoText : PySem.W.typeIn K (.ref C_NoText) = some (.type "type"))
    (ic_WhenceError : PySem.W.isClsIn K C_WhenceError = true)
    (it_WhenceError : PySem.W.typeIn K (.ref C_WhenceError) = some (.type "type"))
    (is_NoKind_NoName : PySem.W.subIn K (.ref C_NoKind) (.ref C_NoName) = some false)
    (ne_NoKind_NoName : (C_NoKind == C_NoName) = false)
    (is_NoKind_NoNote : PySem.W.subIn K (.ref C_NoKind) (.ref C_NoNote) = some false)
    (ne_NoKind_NoNote : (C_NoKind == C_NoNote) = false)
    (is_NoKind_Twice : PySem.W.subIn K (.ref C_NoKind) (.ref C_Twice) = some false)
    (ne_NoKind_Twice : (C_NoKind == C_Twice) = false)
    (is_NoKind_Misfit : PySem.W.subIn K (.ref C_NoKind) (.ref C_Misfit) = some false)
    (ne_NoKind_Misfit : (C_NoKind == C_Misfit) = false)
    (is_NoKind_NoTable : PySem.W.subIn K (.ref C_NoKind) (.ref C_NoTable) = some false)
    (ne_NoKind_NoTable : (C_NoKind == C_NoTable) = false)
    (is_NoKind_NoColumn : PySem.W.subIn K (.ref C_NoKind) (.ref C_NoColumn) = some false)
    (ne_NoKind_NoColumn : (C_NoKind == C_NoColumn) = false)
    (is_NoKind_Unlike : PySem.W.subIn K (.ref C_NoKind) (.ref C_Unlike) = some false)
    (ne_NoKind_Unlike : (C_NoKind == C_Unlike) = false)
    (is_NoKind_NotPlain : PySem.W.subIn K (.ref C_NoKind) (.ref C_NotPlain) = some false)
    (ne_NoKind_NotPlain : (C_NoKind == C_NotPlain) = false)
    (is_NoKind_NoText : PySem.W.subIn K (.ref C_NoKind) (.ref C_NoText) = some false)
    (ne_NoKind_NoText : (C_NoKind == C_NoText) = false)
    (is_NoKind_WhenceError : PySem.W.subIn K (.ref C_NoKind) (.ref C_WhenceError) = some true)
    (ne_NoKind_WhenceError : (C_NoKind == C_WhenceError) = false)
    (is_NoKind_ValueError : PySem.W.subIn K (.ref C_NoKind) (.type "ValueError") = some true)
    (mk_Wheel : PySem.W.makesIn K C_Wheel = true)
    (kc_Wheel : PySem.W.keepIn K (.ref C_Wheel) = true)
    (og : PySem.W.specialIn K (.builtin "object.__class__") "__get__" = some (some (.builtin "getset_descriptor.__get__")))
    (ot : PySem.W.takesIn K (.builtin "object.__class__") = some true)
    (oc_Kind : PySem.W.findIn K (.ref C_Kind) "__class__" = some (some (.builtin "object.__class__")))
    (om_Kind : PySem.W.mroIn K C_Kind (.type "object") = some true)
    (oc_Single : PySem.W.findIn K (.ref C_Single) "__class__" = some (some (.builtin "object.__class__")))
    (om_Single : PySem.W.mroIn K C_Single (.type "object") = some true)
    (oc_Wheel : PySem.W.findIn K (.ref C_Wheel) "__class__" = some (some (.builtin "object.__class__")))
    (om_Wheel : PySem.W.mroIn K C_Wheel (.type "object") = some true)
    (ic_Kind : PySem.W.isClsIn K C_Kind = true)
    (ty_Kind : PySem.W.typeIn K (.ref C_Kind) = some (.type "type"))
    (t_Kind_NoneType : PySem.W.subIn K (.type "NoneType") (.ref C_Kind) = some false)
    (t_Kind_bool : PySem.W.subIn K (.type "bool") (.ref C_Kind) = some false)
    (t_Kind_int : PySem.W.subIn K (.type "int") (.ref C_Kind) = some false)
    (t_Kind_str : PySem.W.subIn K (.type "str") (.ref C_Kind) = some false)
    (t_Kind_tuple : PySem.W.subIn K (.type "tuple") (.ref C_Kind) = some false)
    (t_Kind_list : PySem.W.subIn K (.type "list") (.ref C_Kind) = some false)
    (t_Kind_dict : PySem.W.subIn K (.type "dict") (.ref C_Kind) = some false)
    (k_Single_Kind : PySem.W.subIn K (.ref C_Single) (.ref C_Kind) = some true)
    (ne_Single_Kind : (C_Single == C_Kind) = false)
    (k_Wheel_Kind : PySem.W.subIn K (.ref C_Wheel) (.ref C_Kind) = some true)
    (ne_Wheel_Kind : (C_Wheel == C_Kind) = false)
    (ic_Single : PySem.W.isClsIn K C_Single = true)
    (ty_Single : PySem.W.typeIn K (.ref C_Single) = some (.type "type"))
    (t_Single_NoneType : PySem.W.subIn K (.type "NoneType") (.ref C_Single) = some false)
    (t_Single_bool : PySem.W.subIn K (.type "bool") (.ref C_Single) = some false)
    (t_Single_int : PySem.W.subIn K (.type "int") (.ref C_Single) = some false)
    (t_Single_str : PySem.W.subIn K (.type "str") (.ref C_Single) = some false)
    (t_Single_tuple : PySem.W.subIn K (.type "tuple") (.ref C_Single) = some false)
    (t_Single_list : PySem.W.subIn K (.type "list") (.ref C_Single) = some false)
    (t_Single_dict : PySem.W.subIn K (.type "dict") (.ref C_Single) = some false)
    (k_Kind_Single : PySem.W.subIn K (.ref C_Kind) (.ref C_Single) = some false)
    (ne_Kind_Single : (C_Kind == C_Single) = false)
    (k_Wheel_Single : PySem.W.subIn K (.ref C_Wheel) (.ref C_Single) = some false)
    (ne_Wheel_Single : (C_Wheel == C_Single) = false)
    : ∃ fd : FuncData, (∀ (s : Shared) (v : Value), BindsTo s fd ⟨[v], []⟩ [("_law_script", v)]) ∧ ∀ base : Heap, K.In base → base.Ns mainGlobals mg → FnOk l.prog w K mg base (CX1 l.prog w) (k + 1) fa fd ["_law_script"] (spLw K ((WT TT (k + 1)).Φ ("law" : Str))) := by
  have e := hfa.symm.trans (PySem.W.mg_of X G a6)
  cases e
  have F0 := fun_mk (st := s_is_whole) l0 c0 k0
  have b0 := F0.binds (ps := ["thing"]) fun _ _ _ _ _ _ us hl => match us, hl with | [_], _ => rfl
  have F1 := fun_mk (st := s__law_mix) l1 c1 k1
  have b1 := F1.binds (ps := ["_law_cell", "_law_place"]) fun _ _ _ _ _ _ us hl => match us, hl with | [_, _], _ => rfl
  have F2 := fun_mk (st := s__law_number) l2 c2 k2
  have b2 := F2.binds (ps := ["_law_found", "_law_due"]) fun _ _ _ _ _ _ us hl => match us, hl with | [_, _], _ => rfl
  have F3 := fun_mk (st := s__law_told) l3 c3 k3
  have b3 := F3.binds (ps := ["_law_found", "_law_due"]) fun _ _ _ _ _ _ us hl => match us, hl with | [_, _], _ => rfl
  have F4 := fun_mk (st := s__law_refused) l4 c4 k4
  have b4 := F4.binds (ps := ["_law_size"]) fun _ _ _ _ _ _ us hl => match us, hl with | [_], _ => rfl
  have F5 := fun_mk (st := s__law_turns) l5 c5 k5
  have b5 := F5.binds (ps := ["_law_wheel", "_law_size", "_law_one", "_law_other"]) fun _ _ _ _ _ _ us hl => match us, hl with | [_, _, _, _], _ => rfl
  have F6 := fun_mk (st := s_law) l6 c6 k6
  have b6 := F6.binds (ps := ["_law_script"]) fun _ _ _ _ _ _ us hl => match us, hl with | [_], _ => rfl
  have F7 := fun_mk (st := s_Wheel_nought) l7 c7 k7
  have b7 := F7.binds (ps := ["self"]) fun _ _ _ _ _ _ us hl => match us, hl with | [_], _ => rfl
  have F8 := fun_mk (st := s_Wheel_one) l8 c8 k8
  have b8 := F8.binds (ps := ["self"]) fun _ _ _ _ _ _ us hl => match us, hl with | [_], _ => rfl
  have F9 := fun_mk (st := s_Wheel_plus) l9 c9 k9
  have b9 := F9.binds (ps := ["self", "a", "b"]) fun _ _ _ _ _ _ us hl => match us, hl with | [_, _, _], _ => rfl
  have F10 := fun_mk (st := s_Wheel_times) l10 c10 k10
  have b10 := F10.binds (ps := ["self", "a", "b"]) fun _ _ _ _ _ _ us hl => match us, hl with | [_, _, _], _ => rfl
  have F11 := fun_mk (st := s_Wheel_holds) l11 c11 k11
  have b11 := F11.binds (ps := ["self", "thing"]) fun _ _ _ _ _ _ us hl => match us, hl with | [_, _], _ => rfl
  have F12 := fun_mk (st := s_Wheel_shown) l12 c12 k12
  have b12 := F12.binds (ps := ["self", "a"]) fun _ _ _ _ _ _ us hl => match us, hl with | [_, _], _ => rfl
  have F13 := fun_mk (st := s_Wheel___init__) l13 c13 k13
  have b13 := F13.binds (ps := ["self", "size"]) fun _ _ _ _ _ _ us hl => match us, hl with | [_, _], _ => rfl
  let ff : Str → Addr := fun x => (([(("is_whole" : Str), f0), (("_law_mix" : Str), f1), (("_law_number" : Str), f2), (("_law_told" : Str), f3), (("_law_refused" : Str), f4), (("_law_turns" : Str), f5), (("law" : Str), fa), (("Wheel.nought" : Str), f7), (("Wheel.one" : Str), f8), (("Wheel.plus" : Str), f9), (("Wheel.times" : Str), f10), (("Wheel.holds" : Str), f11), (("Wheel.shown" : Str), f12)] : List (Str × Addr)).lookup x).getD 0
  have hc : GCon mg ff GG.G := ⟨True.intro, True.intro, True.intro, True.intro, True.intro, True.intro, True.intro, True.intro, True.intro, True.intro, True.intro, True.intro, PySem.W.mg_none_of X G u_ValueError, True.intro, True.intro, PySem.W.mg_of X G a1, PySem.W.mg_of X G a2, PySem.W.mg_of X G a4, PySem.W.mg_of X G a3, PySem.W.mg_of X G a5, PySem.W.mg_none_of X G u_bool, PySem.W.mg_none_of X G u_enumerate, PySem.W.mg_none_of X G u_int, PySem.W.mg_of X G a0, PySem.W.mg_none_of X G u_isinstance, PySem.W.mg_none_of X G u_len, PySem.W.mg_none_of X G u_str, True.intro⟩
  have hT : StandAll K GG ff T := ⟨⟨_, _, _, F0, b0, ok_is_whole⟩, ⟨_, _, _, F1, b1, ok__law_mix⟩, ⟨_, _, _, F2, b2, ok__law_number⟩, ⟨_, _, _, F3, b3, ok__law_told⟩, ⟨_, _, _, F4, b4, ok__law_refused⟩, ⟨_, _, _, F5, b5, ok__law_turns⟩, ⟨_, _, _, F6, b6, ok_law⟩, ⟨_, _, _, F7, b7, ok_Wheel_nought⟩, ⟨_, _, _, F8, b8, ok_Wheel_one⟩, ⟨_, _, _, F9, b9, ok_Wheel_plus⟩, ⟨_, _, _, F10, b10, ok_Wheel_times⟩, ⟨_, _, _, F11, b11, ok_Wheel_holds⟩, ⟨_, _, _, F12, b12, ok_Wheel_shown⟩, True.intro⟩
  have hI : StandAllI K mg GG TT.I := ⟨⟨_, _, C_Wheel, f13, _, aC_Wheel, PySem.W.mg_of X G aC_Wheel, ⟨mk_Wheel, a13, j13, kc_Wheel⟩, F13, b13, ok_Wheel___init__⟩, True.intro⟩
  have hC : ClsAll K ff TT.cl := ⟨⟨C_Kind, aC_Kind, ⟨pg_Kind, hd_Kind, po_Kind, sa_Kind⟩, True.intro, True.intro⟩, ⟨C_Single, aC_Single, ⟨pg_Single, hd_Single, po_Single, sa_Single⟩, True.intro, True.intro⟩, ⟨C_Wheel, aC_Wheel, ⟨pg_Wheel, hd_Wheel, po_Wheel, sa_Wheel⟩, ⟨⟨a7, j7, k7⟩, ⟨a8, j8, k8⟩, ⟨a9, j9, k9⟩, ⟨a10, j10, k10⟩, ⟨a11, j11, k11⟩, ⟨a12, j12, k12⟩, True.intro⟩, ⟨n_Wheel_size, True.intro⟩⟩, True.intro⟩
  have h0 : ∀ c, c ∈ GG.mk0 → MkV0 K mg c := fun _ h => nomatch h
  have h1 : ∀ c, c ∈ GG.iso → IsV K mg TT.cl c := mem_cons (⟨C_Kind, PySem.W.mg_of X G aC_Kind, mem_cons (kit_t ic_Kind ty_Kind t_Kind_NoneType) (mem_cons (kit_t ic_Kind ty_Kind t_Kind_bool) (mem_cons (kit_t ic_Kind ty_Kind t_Kind_int) (mem_cons (kit_t ic_Kind ty_Kind t_Kind_str) (mem_cons (kit_t ic_Kind ty_Kind t_Kind_tuple) (mem_cons (kit_t ic_Kind ty_Kind t_Kind_list) (mem_cons (kit_t ic_Kind ty_Kind t_Kind_dict) (fun _ h => nomatch h))))))), mem_cons (⟨C_Kind, aC_Kind, ⟨pg_Kind, hd_Kind, po_Kind, sa_Kind⟩, oc_Kind, og, ot, om_Kind, kit_s⟩) (mem_cons (⟨C_Single, aC_Single, ⟨pg_Single, hd_Single, po_Single, sa_Single⟩, oc_Single, og, ot, om_Single, kit_r ic_Kind ty_Kind k_Single_Kind ne_Single_Kind⟩) (mem_cons (⟨C_Wheel, aC_Wheel, ⟨pg_Wheel, hd_Wheel, po_Wheel, sa_Wheel⟩, oc_Wheel, og, ot, om_Wheel, kit_r ic_Kind ty_Kind k_Wheel_Kind ne_Wheel_Kind⟩) (fun _ h => nomatch h)))⟩) (mem_cons (⟨C_Single, PySem.W.mg_of X G aC_Single, mem_cons (kit_t ic_Single ty_Single t_Single_NoneType) (mem_cons (kit_t ic_Single ty_Single t_Single_bool) (mem_cons (kit_t ic_Single ty_Single t_Single_int) (mem_cons (kit_t ic_Single ty_Single t_Single_str) (mem_cons (kit_t ic_Single ty_Single t_Single_tuple) (mem_cons (kit_t ic_Single ty_Single t_Single_list) (mem_cons (kit_t ic_Single ty_Single t_Single_dict) (fun _ h => nomatch h))))))), mem_cons (⟨C_Kind, aC_Kind, ⟨pg_Kind, hd_Kind, po_Kind, sa_Kind⟩, oc_Kind, og, ot, om_Kind, kit_r ic_Single ty_Single k_Kind_Single ne_Kind_Single⟩) (mem_cons (⟨C_Single, aC_Single, ⟨pg_Single, hd_Single, po_Single, sa_Single⟩, oc_Single, og, ot, om_Single, kit_s⟩) (mem_cons (⟨C_Wheel, aC_Wheel, ⟨pg_Wheel, hd_Wheel, po_Wheel, sa_Wheel⟩, oc_Wheel, og, ot, om_Wheel, kit_r ic_Single ty_Single k_Wheel_Single ne_Wheel_Single⟩) (fun _ h => nomatch h)))⟩) (fun _ h => nomatch h))
  refine ⟨_, fun s v => .of_eq (by exact rfl : bindArgs (PySem.W.fnOf "law" "law" (defArgs s_law) (defBody s_law) (defScope s_law) .none kV6 dc6 pm6 an6 cd6 ct6) ⟨[v], []⟩ = _), fun base _ _ => ?_⟩
  have x1 : XtOk K mg (fun c x => TT.xt.lookup (c, x)) := xt_cons aC_NoKind (PySem.W.mg_of X G aC_NoKind) (PySem.W.mg_of X G aC_NoKind) hb_NoKind ht_NoKind hm_NoKind_NoKind (xt_nil)
  have x2 : XisOk K mg (fun c x => TT.xi.lookup (c, x)) := xi_cons (cv := .ref C_NoName) aC_NoKind ⟨ga_NoKind, gn_NoKind, xa_NoKind, xb_NoKind, xo_NoKind, og, ot⟩ (.inl ⟨C_NoName, PySem.W.mg_of X G aC_NoName, rfl⟩) (kit_r ic_NoName it_NoName is_NoKind_NoName ne_NoKind_NoName) (xi_cons (cv := .ref C_NoNote) aC_NoKind ⟨ga_NoKind, gn_NoKind, xa_NoKind, xb_NoKind, xo_NoKind, og, ot⟩ (.inl ⟨C_NoNote, PySem.W.mg_of X G aC_NoNote, rfl⟩) (kit_r ic_NoNote it_NoNote is_NoKind_NoNote ne_NoKind_NoNote) (xi_cons (cv := .ref C_Twice) aC_NoKind ⟨ga_NoKind, gn_NoKind, xa_NoKind, xb_NoKind, xo_NoKind, og, ot⟩ (.inl ⟨C_Twice, PySem.W.mg_of X G aC_Twice, rfl⟩) (kit_r ic_Twice it_Twice is_NoKind_Twice ne_NoKind_Twice) (xi_cons (cv := .ref C_Misfit) aC_NoKind ⟨ga_NoKind, gn_NoKind, xa_NoKind, xb_NoKind, xo_NoKind, og, ot⟩ (.inl ⟨C_Misfit, PySem.W.mg_of X G aC_Misfit, rfl⟩) (kit_r ic_Misfit it_Misfit is_NoKind_Misfit ne_NoKind_Misfit) (xi_cons (cv := .ref C_NoTable) aC_NoKind ⟨ga_NoKind, gn_NoKind, xa_NoKind, xb_NoKind, xo_NoKind, og, ot⟩ (.inl ⟨C_NoTable, PySem.W.mg_of X G aC_NoTable, rfl⟩) (kit_r ic_NoTable it_NoTable is_NoKind_NoTable ne_NoKind_NoTable) (xi_cons (cv := .ref C_NoColumn) aC_NoKind ⟨ga_NoKind, gn_NoKind, xa_NoKind, xb_NoKind, xo_NoKind, og, ot⟩ (.inl ⟨C_NoColumn, PySem.W.mg_of X G aC_NoColumn, rfl⟩) (kit_r ic_NoColumn it_NoColumn is_NoKind_NoColumn ne_NoKind_NoColumn) (xi_cons (cv := .ref C_Unlike) aC_NoKind ⟨ga_NoKind, gn_NoKind, xa_NoKind, xb_NoKind, xo_NoKind, og, ot⟩ (.inl ⟨C_Unlike, PySem.W.mg_of X G aC_Unlike, rfl⟩) (kit_r ic_Unlike it_Unlike is_NoKind_Unlike ne_NoKind_Unlike) (xi_cons (cv := .ref C_NotPlain) aC_NoKind ⟨ga_NoKind, gn_NoKind, xa_NoKind, xb_NoKind, xo_NoKind, og, ot⟩ (.inl ⟨C_NotPlain, PySem.W.mg_of X G aC_NotPlain, rfl⟩) (kit_r ic_NotPlain it_NotPlain is_NoKind_NotPlain ne_NoKind_NotPlain) (xi_cons (cv := .ref C_NoText) aC_NoKind ⟨ga_NoKind, gn_NoKind, xa_NoKind, xb_NoKind, xo_NoKind, og, ot⟩ (.inl ⟨C_NoText, PySem.W.mg_of X G aC_NoText, rfl⟩) (kit_r ic_NoText it_NoText is_NoKind_NoText ne_NoKind_NoText) (xi_cons (cv := .ref C_WhenceError) aC_NoKind ⟨ga_NoKind, gn_NoKind, xa_NoKind, xb_NoKind, xo_NoKind, og, ot⟩ (.inl ⟨C_WhenceError, PySem.W.mg_of X G aC_WhenceError, rfl⟩) (kit_r ic_WhenceError it_WhenceError is_NoKind_WhenceError ne_NoKind_WhenceError) (xi_cons (cv := .ty "ValueError") aC_NoKind ⟨ga_NoKind, gn_NoKind, xa_NoKind, xb_NoKind, xo_NoKind, og, ot⟩ (.inr ⟨PySem.W.mg_none_of X G u_ValueError, by decide, "ValueError", bb_ValueError, rfl⟩) (kit_ty (by decide +kernel) is_NoKind_ValueError) (xi_nil)))))))))))
  have x3 : ∀ c, c ∈ GG.xcs → ∃ Cc, mg c = some (.ref Cc) ∧ RzCls K Cc := mem_cons (⟨C_NoKind, PySem.W.mg_of X G aC_NoKind, rz_NoKind⟩) (fun _ h => nomatch h)
  have x4 : ∀ n, n ∈ GG.xns → ∃ cv, ClsV mg n cv := mem_cons (⟨_, (.inl ⟨C_NoName, PySem.W.mg_of X G aC_NoName, rfl⟩)⟩) (mem_cons (⟨_, (.inl ⟨C_NoNote, PySem.W.mg_of X G aC_NoNote, rfl⟩)⟩) (mem_cons (⟨_, (.inl ⟨C_Twice, PySem.W.mg_of X G aC_Twice, rfl⟩)⟩) (mem_cons (⟨_, (.inl ⟨C_Misfit, PySem.W.mg_of X G aC_Misfit, rfl⟩)⟩) (mem_cons (⟨_, (.inl ⟨C_NoTable, PySem.W.mg_of X G aC_NoTable, rfl⟩)⟩) (mem_cons (⟨_, (.inl ⟨C_NoColumn, PySem.W.mg_of X G aC_NoColumn, rfl⟩)⟩) (mem_cons (⟨_, (.inl ⟨C_Unlike, PySem.W.mg_of X G aC_Unlike, rfl⟩)⟩) (mem_cons (⟨_, (.inl ⟨C_NotPlain, PySem.W.mg_of X G aC_NotPlain, rfl⟩)⟩) (mem_cons (⟨_, (.inl ⟨C_NoText, PySem.W.mg_of X G aC_NoText, rfl⟩)⟩) (mem_cons (⟨_, (.inl ⟨C_WhenceError, PySem.W.mg_of X G aC_WhenceError, rfl⟩)⟩) (mem_cons (⟨_, (.inr ⟨PySem.W.mg_none_of X G u_ValueError, by decide, "ValueError", bb_ValueError, rfl⟩)⟩) (fun _ h => nomatch h)))))))))))
  exact fnok_law (d := d_law) ⟨hc, ok_g, hT, hI, h0, ok_mk, h1, hC, ok_mt, x1, x2, x3, x4⟩ k F6 rfl ok_law rfl
end K08

namespace K08
open PySem L2 D3
def ten60 : Int := 1000000000000000000000000000000000000000000000000000000000000
theorem pow60 : op2 (fBin .Pow) (.ok .fz (.int 10)) (.ok .fz (.int 60)) = .ok .fz (.int ten60) := by rfl
theorem z60 : (0 : Int) < ten60 := by decide
def mx (c p : Int) : Int := ((c % ten60 + 1) * (48271 + 130 * p) % 2147483647) * ((c % ten60 + 1) * (48271 + 130 * p) % 2147483647) % 2147483629
theorem mx0 (c p : Int) : 0 ≤ mx c p := Int.emod_nonneg _ (by decide)
theorem mix (k : Nat) {c p : Int} (h0 : 0 ≤ p) (h1 : p ≤ 100) : (WT TT (k + 1)).Φ "_law_mix" [.int c, .int p] = .ok .fz (.int (mx c p)) := by
  have hm := Int.emod_nonneg c (show ten60 ≠ 0 by decide)
  have hM := Int.emod_lt_of_pos c (show 0 < ten60 by decide)
  have b1 : bits (c % ten60 + 1) = true := bits_le (N := 1000000000000000000000000000000000000000000000000000000000001) (by unfold ten60 at *; omega)
  have b2 : bits (48271 + 130 * p) = true := bits_le (N := 1000000) (by omega)
  have b3 : bits p = true := bits_le (N := 100) (by omega)
  have b4 : bits 130 = true := by decide +kernel
  have f0 := Int.emod_nonneg ((c % ten60 + 1) * (48271 + 130 * p)) (show (2147483647 : Int) ≠ 0 by decide)
  have f1 := Int.emod_lt_of_pos ((c % ten60 + 1) * (48271 + 130 * p)) (show (0 : Int) < 2147483647 by decide)
  have b5 : bits ((c % ten60 + 1) * (48271 + 130 * p) % 2147483647) = true := bits_le (N := 2147483647) (by omega)
  rw [u__law_mix]
  refine phi_ok rfl ?_
  show evB _ b__law_mix [some (false, .int c), some (false, .int p), none] = _
  simp [b__law_mix, pow60, x_mul, b1, b2, b3, b4, b5, z60, mx]
theorem Mx (k : Nat) {c p : Int} (h0 : 0 ≤ p) (h1 : p ≤ 100) : callF 2 ((WT TT (k + 1)).Φ "_law_mix") (.ok [(.fz, .int c), (.fz, .int p)]) = .ok .fz (.int (mx c p)) := call2 (mix k h0 h1)
theorem ix_l {ds : List D} {m m' : Md} {i : Int} {d : D} (h : atI ds i = some d) : op2 ixD (.ok m (.lst ds)) (.ok m' (.int i)) = .ok .fz d := op2_of (by show (atI ds i).map _ = _; rw [h]; rfl)
theorem ix_t {ds : List D} {m m' : Md} {i : Int} {d : D} (h : atI ds i = some d) : op2 ixD (.ok m (.tup ds)) (.ok m' (.int i)) = .ok .fz d := op2_of (by show (atI ds i).map _ = _; rw [h]; rfl)
theorem atI_mod {α : Type} (xs : List α) (v : Int) (n : Int) (hn : n = xs.length) (h : 0 < n) : ∃ c, c ∈ xs ∧ atI xs (v % n) = some c := by
  have h0 := Int.emod_nonneg v (show n ≠ 0 by omega)
  have h1 := Int.emod_lt_of_pos v h
  obtain ⟨j, hj⟩ := Int.eq_ofNat_of_zero_le h0
  have hl : j < xs.length := by omega
  exact ⟨xs[j], List.getElem_mem hl, by rw [hj]; exact atI_nat (List.getElem?_eq_getElem hl)⟩
theorem mem_range {d : D} {n : Nat} (h : d ∈ rangeD 0 n) : ∃ i : Nat, i < n ∧ d = .int i := by
  simp only [rangeD, List.mem_map, List.mem_range] at h
  obtain ⟨i, hi, rfl⟩ := h
  exact ⟨i, by simpa using hi, by simp⟩
theorem rng_len {n : Nat} (h : n ≤ 63) : rng1R (.ok [(.fz, .int n)]) = .ok .fz (.lst (rangeD 0 n)) := by
  unfold rng1R
  rw [ResL.thn_ok]
  dsimp only
  rw [if_pos]
  simp only [Bool.and_eq_true, decide_eq_true_eq]
  omega
theorem script_at {ns : List Int} {i : Nat} (h : i < ns.length) {m m' : Md} : ∃ c, op2 ixD (.ok m (.lst (ns.map .int))) (.ok m' (.int i)) = .ok .fz (.int c) := by
  refine ⟨ns[i], ix_l ?_⟩
  exact atI_nat (by rw [List.getElem?_map, List.getElem?_eq_getElem h]; rfl)
theorem script_mod {ns : List Int} {i : Int} (h : 0 < ns.length) {m m' : Md} : ∃ c, op2 ixD (.ok m (.lst (ns.map .int))) (.ok m' (.int (i % ns.length))) = .ok .fz (.int c) := by
  obtain ⟨d, hd, e⟩ := atI_mod (ns.map D.int) i ns.length (by simp) (by omega)
  obtain ⟨c, _, rfl⟩ := List.mem_map.mp hd
  exact ⟨c, ix_l e⟩
theorem whole (k : Nat) {d : D} {a b : Bool} (h1 : isiD [(.fz, d), (.fz, .ty "int")] = some (.fz, .bl a)) (h2 : isiD [(.fz, d), (.fz, .ty "bool")] = some (.fz, .bl b)) : (WT TT (k + 1)).Φ "is_whole" [d] = .ok .fz (.bl (a && !b)) := by
  rw [u_is_whole]
  refine phi_ok rfl ?_
  show evB _ b_is_whole [some (false, d)] = _
  simp [b_is_whole, h1, h2, Ty.id]
theorem wholeI (k : Nat) (i : Int) : (WT TT (k + 1)).Φ "is_whole" [.int i] = .ok .fz (.bl true) := whole k (d := .int i) rfl rfl
theorem wholeB (k : Nat) (i : Bool) : (WT TT (k + 1)).Φ "is_whole" [.bl i] = .ok .fz (.bl false) := whole k (d := .bl i) rfl rfl
theorem told (k : Nat) (b : Bool) : (WT TT (k + 1)).Φ "_law_told" [.bl b, .bl b] = .ok .fz (.bl true) := by
  rw [u__law_told]
  refine phi_ok rfl ?_
  show evB _ b__law_told [some (false, .bl b), some (false, .bl b)] = _
  have ei : isiD [(.fz, .bl b), (.fz, .ty "bool")] = some (.fz, .bl true) := rfl
  simp [b__law_told, ei, Ty.id]
theorem told' (k : Nat) {a b : Bool} (h : a = b) : (WT TT (k + 1)).Φ "_law_told" [.bl a, .bl b] = .ok .fz (.bl true) := by subst h; exact told k a
theorem number (k : Nat) (i : Int) : (WT TT (k + 1)).Φ "_law_number" [.int i, .int i] = .ok .fz (.bl true) := by
  have h1 : isiD [(.fz, .int i), (.fz, .ty "int")] = some (.fz, .bl true) := rfl
  have h2 : isiD [(.fz, .int i), (.fz, .ty "bool")] = some (.fz, .bl false) := rfl
  rw [u__law_number]
  refine phi_ok rfl ?_
  show evB _ b__law_number [some (false, .int i), some (false, .int i)] = _
  simp [b__law_number, h1, h2, Ty.id]
def wh (s : Int) : D := .ins "Wheel" [("size", .int s)]
theorem wI (k : Nat) : (WT TT (k + 2)).I "Wheel.__init__" = some (phiI (WT TT k) i_Wheel___init__) := rfl
theorem mk_yes (k : Nat) {s : Int} (h : 2 ≤ s) : phiI (WT TT (k + 1)) i_Wheel___init__ [.int s] = .ok .fr (wh s) := by
  have w := wholeI k s
  have h' : ¬ s < 2 := by omega
  show (match evIB (WT TT (k + 1)) "Wheel" (.guard (.orL [(.not (.tru (.call "is_whole" 1 [(.var 1)]))), (.cmp .Lt (.var 1) (.int 2))]) [.rz "NoKind" [(.str "the size of a wheel is a whole number from 2 on")]] (.fset "size" (.var 1) .done)) [none, some (false, .int s)] [] with | .ok fs => Res.ok .fr (.ins "Wheel" fs) | .exc c => .exc c | .stuck => .stuck) = _
  simp [evIB, w, h']
  rfl
theorem mk_no (k : Nat) {d : D} (h : (∃ i, d = .int i ∧ i < 2) ∨ (WT TT (k + 1)).Φ "is_whole" [d] = .ok .fz (.bl false)) : phiI (WT TT (k + 1)) i_Wheel___init__ [d] = .exc "NoKind" := by
  have hs : (1 : Nat) ≤ sizeLine := by decide
  show (match evIB (WT TT (k + 1)) "Wheel" (.guard (.orL [(.not (.tru (.call "is_whole" 1 [(.var 1)]))), (.cmp .Lt (.var 1) (.int 2))]) [.rz "NoKind" [(.str "the size of a wheel is a whole number from 2 on")]] (.fset "size" (.var 1) .done)) [none, some (false, d)] [] with | .ok fs => Res.ok .fr (.ins "Wheel" fs) | .exc c => .exc c | .stuck => .stuck) = _
  rcases h with ⟨i, rfl, h⟩ | h
  · have w := wholeI k i
    simp [evIB, w, h, hs]
  · simp [evIB, h, hs]
theorem made (k : Nat) {s : Int} (h : 2 ≤ s) : makeR 1 (phiI (WT TT (k + 1)) i_Wheel___init__) (.ok [(.fz, .int s)]) = .ok .fr (wh s) := by
  show (match phiI (WT TT (k + 1)) i_Wheel___init__ [.int s] with | .ok _ d => Res.ok .fr d | r => r) = _
  rw [mk_yes k h]
theorem refused (k : Nat) {d : D} (h : (∃ i, d = .int i ∧ i < 2) ∨ (WT TT (k + 1)).Φ "is_whole" [d] = .ok .fz (.bl false)) : (WT TT (k + 4)).Φ "_law_refused" [d] = .ok .fz (.bl true) := by
  have e1 : makeR 1 (phiI (WT TT (k + 1)) i_Wheel___init__) (.ok [(.fz, d)]) = .exc "NoKind" := by
    show (match phiI (WT TT (k + 1)) i_Wheel___init__ [d] with | .ok _ d => Res.ok .fr d | r => r) = _
    rw [mk_no k h]
  have e5 : TT.xt.lookup ((("NoKind" : Str), ("NoKind" : Str)) : Str × Str) = some true := by rfl
  rw [u__law_refused]
  refine phi_ok rfl ?_
  show evB _ b__law_refused [some (false, d), none, none, none, none] = _
  have i1 : isxTR (fun c x => TT.xi.lookup (c, x)) ["NoName", "NoNote", "Twice", "Misfit", "NoTable"] (.ok .fz (.exn "NoKind")) = .ok .fz (.bl false) := by rfl
  have i2 : isxTR (fun c x => TT.xi.lookup (c, x)) ["NoColumn", "Unlike", "NotPlain", "NoText"] (.ok .fz (.exn "NoKind")) = .ok .fz (.bl false) := by rfl
  have i3 : isx1R (fun c x => TT.xi.lookup (c, x)) "WhenceError" (.ok .fz (.exn "NoKind")) = .ok .fz (.bl true) := by rfl
  have i4 : isx1R (fun c x => TT.xi.lookup (c, x)) "ValueError" (.ok .fz (.exn "NoKind")) = .ok .fz (.bl true) := by rfl
  simp [b__law_refused, e_make (wI (k + 1)), e1, hn_t (xt := fun c x => TT.xt.lookup (c, x)) e5, unR, inR, unS, i1, i2, i3, i4]
/-! ### the methods -/
theorem fld_size {m : Md} {s : Int} : fldR TT.cl "size" (.ok m (wh s)) = .ok .fz (.int s) := by rfl
theorem w_nought (k : Nat) (s : Int) : (WT TT (k + 1)).Φ "Wheel.nought" [wh s] = .ok .fz (.int 0) := by
  rw [u_Wheel_nought]
  refine phi_ok rfl ?_
  show evB _ b_Wheel_nought [some (false, wh s)] = _
  simp [b_Wheel_nought]
theorem w_one (k : Nat) (s : Int) : (WT TT (k + 1)).Φ "Wheel.one" [wh s] = .ok .fz (.int 1) := by
  rw [u_Wheel_one]
  refine phi_ok rfl ?_
  show evB _ b_Wheel_one [some (false, wh s)] = _
  simp [b_Wheel_one]
theorem w_plus (k : Nat) {s : Int} (h : 0 < s) (a b : Int) : (WT TT (k + 1)).Φ "Wheel.plus" [wh s, .int a, .int b] = .ok .fz (.int ((a + b) % s)) := by
  rw [u_Wheel_plus]
  refine phi_ok rfl ?_
  show evB _ b_Wheel_plus [some (false, wh s), some (false, .int a), some (false, .int b)] = _
  simp [b_Wheel_plus, fld_size, h]
theorem w_times (k : Nat) {s : Int} (h : 0 < s) {a b : Int} (ha : bits a = true) (hb : bits b = true) : (WT TT (k + 1)).Φ "Wheel.times" [wh s, .int a, .int b] = .ok .fz (.int ((a * b) % s)) := by
  rw [u_Wheel_times]
  refine phi_ok rfl ?_
  show evB _ b_Wheel_times [some (false, wh s), some (false, .int a), some (false, .int b)] = _
  simp [b_Wheel_times, fld_size, h, x_mul ha hb]
theorem w_holdsI (k : Nat) (s : Int) (a : Int) : (WT TT (k + 2)).Φ "Wheel.holds" [wh s, .int a] = .ok .fz (.bl (decide (0 ≤ a) && decide (a < s))) := by
  have w := wholeI k a
  rw [u_Wheel_holds]
  refine phi_ok rfl ?_
  show evB _ b_Wheel_holds [some (false, wh s), some (false, .int a)] = _
  simp [b_Wheel_holds, fld_size, w]
theorem w_holdsN (k : Nat) (s : Int) {d : D} (h : (WT TT (k + 1)).Φ "is_whole" [d] = .ok .fz (.bl false)) : (WT TT (k + 2)).Φ "Wheel.holds" [wh s, d] = .ok .fz (.bl false) := by
  rw [u_Wheel_holds]
  refine phi_ok rfl ?_
  show evB _ b_Wheel_holds [some (false, wh s), some (false, d)] = _
  simp [b_Wheel_holds, h]
theorem w_shown (k : Nat) (s : Int) {a : Int} (h : small a = true) : (WT TT (k + 1)).Φ "Wheel.shown" [wh s, .int a] = .ok .fz (.str (numS a)) := by
  rw [u_Wheel_shown]
  refine phi_ok rfl ?_
  show evB _ b_Wheel_shown [some (false, wh s), some (false, .int a)] = _
  simp [b_Wheel_shown, h]
theorem meth {m : Str} {key : Str} {n : Nat} {s : Int} {k : Nat} {as : ResL} (h : CI.meth TT.cl "Wheel" m = some (key, n)) (hl : ([(("size" : Str), D.int s)] : List (Str × D)).lookup m = none) : methR TT.cl (WT TT k).Φ m (.ok .fz (wh s)) as = callF n ((WT TT k).Φ key) (consL (.ok .fz (wh s)) as) := x_meth h hl
theorem turns (k : Nat) {s : Int} (h2 : 2 ≤ s) (hs : s < 10 ^ 60) (one other : Int) : (WT TT (k + 3)).Φ "_law_turns" [wh s, .int s, .int one, .int other] = .ok .fz (.bl true) := by
  have M : ∀ {c p : Int}, 0 ≤ p → p ≤ 100 → callF 2 ((WT TT (k + 2)).Φ "_law_mix") (.ok [(.fz, .int c), (.fz, .int p)]) = .ok .fz (.int (mx c p)) := fun h0 h1 => Mx (k + 1) h0 h1
  have p : (0 : Int) < s := by omega
  have a0 := Int.emod_nonneg one (show s ≠ 0 by omega)
  have a1 := Int.emod_lt_of_pos one p
  have b0 := Int.emod_nonneg other (show s ≠ 0 by omega)
  have b1 := Int.emod_lt_of_pos other p
  rw [u__law_turns]
  refine phi_ok rfl ?_
  show evB _ b__law_turns [some (false, wh s), some (false, .int s), some (false, .int one), some (false, .int other), none, none, none, none] = _
  have m1 : op2 (fBin .Mod) (.ok .fz (.int one)) (.ok .fz (.int s)) = .ok .fz (.int (one % s)) := x_mod p
  have m2 : op2 (fBin .Mod) (.ok .fz (.int other)) (.ok .fz (.int s)) = .ok .fz (.int (other % s)) := x_mod p
  have m3 : ∀ {i : Int}, op2 (fBin .Mod) (.ok .fz (.int i)) (.ok .fz (.int s)) = .ok .fz (.int (i % s)) := x_mod p
  simp only [b__law_turns, b_cons, s_set, e_frz, e_bin, e_var, g_0, g_s, g_1, m1, x_frz]
  generalize hA : one % s = a at *
  generalize hB : other % s = b at *
  have L : (10 : Nat) ^ 60 < 10 ^ 500 := by decide +kernel
  have ba : bits a = true := bits_le (N := 10 ^ 60) (by omega)
  have bb : bits b = true := bits_le (N := 10 ^ 60) (by omega)
  have sa : small a = true := small_of (by omega)
  have n := number (k + 1)
  have e1 := w_nought (k + 1) s
  have e2 := w_one (k + 1) s
  have e3 := w_plus (k + 1) p a b
  have e4 := w_times (k + 1) p ba bb
  have e5 := w_shown (k + 1) s sa
  have e6 := w_holdsI k s a
  have r1 : CI.meth TT.cl "Wheel" "nought" = some (("Wheel.nought" : Str), 1) := rfl
  have r2 : CI.meth TT.cl "Wheel" "one" = some (("Wheel.one" : Str), 1) := rfl
  have r3 : CI.meth TT.cl "Wheel" "plus" = some (("Wheel.plus" : Str), 3) := rfl
  have r4 : CI.meth TT.cl "Wheel" "times" = some (("Wheel.times" : Str), 3) := rfl
  have r5 : CI.meth TT.cl "Wheel" "shown" = some (("Wheel.shown" : Str), 2) := rfl
  have r6 : CI.meth TT.cl "Wheel" "holds" = some (("Wheel.holds" : Str), 2) := rfl
  have is1 : isiD [(.fz, .str (numS a)), (.fz, .ty "str")] = some (.fz, .bl true) := rfl
  have t1 : tupR (.ok [(.fz, .int a)]) = .ok .fz (.tup [.int a]) := by rfl
  have t2 : lstR (.ok [(.fz, .int a)]) = .ok .fr (.lst [.int a]) := by rfl
  let nine : List D := [.int s, .int (s + a), .int (-1 - a), .bl true, .bl false, .non, .str (numS a), .tup [.int a], .lst [.int a]]
  have t3 : lstR (.ok [(.fz, .int s), (.fz, .int (s + a)), (.fz, .int (-1 - a)), (.fz, .bl true), (.fz, .bl false), (.fz, .non), (.fz, .str (numS a)), (.fz, .tup [.int a]), (.fz, .lst [.int a])]) = .ok .fr (.lst nine) := by rfl
  obtain ⟨o, ho, eo⟩ := atI_mod nine (mx one 4) 9 rfl (by decide)
  have xo := ix_l (m := .fr) (m' := .fz) eo
  have e7 : (WT TT (k + 2)).Φ "Wheel.holds" [wh s, o] = .ok .fz (.bl false) := by
    simp only [nine, List.mem_cons, List.not_mem_nil, or_false] at ho
    rcases ho with rfl | rfl | rfl | rfl | rfl | rfl | rfl | rfl | rfl
    · rw [w_holdsI]; simp
    · rw [w_holdsI]; simp; omega
    · rw [w_holdsI]; simp; omega
    · exact w_holdsN k s (whole k (d := .bl true) rfl rfl)
    · exact w_holdsN k s (whole k (d := .bl false) rfl rfl)
    · exact w_holdsN k s (whole k (d := .non) (a := false) (b := false) rfl rfl)
    · exact w_holdsN k s (whole k (d := .str (numS a)) (a := false) (b := false) rfl rfl)
    · exact w_holdsN k s (whole k (d := .tup [.int a]) (a := false) (b := false) rfl rfl)
    · exact w_holdsN k s (whole k (d := .lst [.int a]) (a := false) (b := false) rfl rfl)
  have q1 : (decide (0 ≤ a) && decide (a < s)) = true := by simp; omega
  rw [q1] at e6
  have tt := told (k + 1) true
  have tf := told (k + 1) false
  simp [m2, m3, meth r1 rfl, meth r2 rfl, meth r3 rfl, meth r4 rfl, meth r5 rfl, meth r6 rfl, e1, e2, e3, e4, e5, e6, n, is1, Ty.id, sa, t1, t2, x_mul ba bb]
  rw [t3]
  simp [M, xo, e7, tt, tf, meth r6 rfl, e6]
end K08

namespace K08
open PySem L2 D3
def ten58 : Int := 10000000000000000000000000000000000000000000000000000000000
def ten59 : Int := 100000000000000000000000000000000000000000000000000000000000
theorem pow58 : op2 (fBin .Pow) (.ok .fz (.int 10)) (.ok .fz (.int 58)) = .ok .fz (.int ten58) := by rfl
theorem pow59 : op2 (fBin .Pow) (.ok .fz (.int 10)) (.ok .fz (.int 59)) = .ok .fz (.int ten59) := by rfl
theorem z58 : (0 : Int) < ten58 := by decide
theorem z59 : (0 : Int) < ten59 := by decide
theorem mem_enum : ∀ {ds : List D} {j : Nat} {d : D}, d ∈ enumD j ds → ∃ i x, x ∈ ds ∧ d = .tup [.int (i : Nat), x]
  | [], _, _, h => by cases h
  | x :: ds, j, d, h => by
    rcases List.mem_cons.mp h with rfl | h
    · exact ⟨j, x, List.mem_cons_self, rfl⟩
    · obtain ⟨i, y, hy, e⟩ := mem_enum h
      exact ⟨i, y, List.mem_cons_of_mem _ hy, e⟩
theorem body (k : Nat) (ns : List Int) (hn : 0 < ns.length) (i c : Int) (x4 x5 x6 x7 x8 : Option (Bool × D)) : ∃ y4 y5 y6 y7 y8, evB (WT TT (k + 4)) b_law_L1 [some (false, .lst (ns.map .int)), some (false, wh 5), some (false, .int i), some (false, .int c), x4, x5, x6, x7, x8] = .nx [some (false, .lst (ns.map .int)), some (false, wh 5), some (false, .int i), some (false, .int c), y4, y5, y6, y7, y8] := by
  have M : ∀ {c p : Int}, 0 ≤ p → p ≤ 100 → callF 2 ((WT TT (k + 4)).Φ "_law_mix") (.ok [(.fz, .int c), (.fz, .int p)]) = .ok .fz (.int (mx c p)) := fun h0 h1 => Mx (k + 3) h0 h1
  obtain ⟨b, eb⟩ := script_mod (ns := ns) (i := i + 1) hn (m := .fz) (m' := .fz)
  have hp' : ∀ {m n : Md} {i : Int}, op2 (fBin .Mod) (.ok m (.int i)) (.ok n (.int (ns.length : Int))) = .ok .fz (.int (i % (ns.length : Int))) := x_mod (by omega)
  have key : ∃ s : Int, 2 ≤ s ∧ s < 10 ^ 60 ∧ evB (WT TT (k + 4)) (b_law_L1.take 3) [some (false, .lst (ns.map .int)), some (false, wh 5), some (false, .int i), some (false, .int c), x4, x5, x6, x7, x8] = .nx [some (false, .lst (ns.map .int)), some (false, wh 5), some (false, .int i), some (false, .int c), some (false, .int b), some (false, .int s), x6, x7, x8] := by
    have a0 := Int.emod_nonneg (mx c 0) (show (7 : Int) ≠ 0 by decide)
    have a1 := Int.emod_lt_of_pos (mx c 0) (show (0 : Int) < 7 by decide)
    have b0 := Int.emod_nonneg c (show ten58 ≠ 0 by decide)
    have b1 := Int.emod_lt_of_pos c z58
    by_cases h : mx c 1 % 4 = 0
    · refine ⟨2 + c % ten58, by omega, by unfold ten58 at *; omega, ?_⟩
      simp [b_law_L1, M, h, hp', eb, pow58, z58]
    · have h' : (mx c 1 % 4 == 0) = false := by simpa using h
      refine ⟨2 + mx c 0 % 7, by omega, by omega, ?_⟩
      simp [b_law_L1, M, h', hp', eb]
  obtain ⟨s, s2, s60, e⟩ := key
  have L : (10 : Nat) ^ 60 < 10 ^ 500 := by decide +kernel
  have ss : small s = true := small_of (by omega)
  have t1 := turns (k + 1) s2 s60 (c % ten59 + mx c 2) (b % ten59 + mx b 3)
  have t2 := turns (k + 1) (s := 5) (by decide) (by decide) (b % ten59 + mx b 3) (c % ten59 + mx c 2)
  have md := made (k + 1) s2
  let nine : List D := [.int 1, .int 0, .int (-s), .bl true, .non, .str (numS s), .lst [.int s], .tup [.int s], .bl false]
  have l1 : tupR (.ok [(.fz, .int s)]) = .ok .fz (.tup [.int s]) := by rfl
  have l2 : lstR (.ok [(.fz, .int s)]) = .ok .fr (.lst [.int s]) := by rfl
  have l3 : lstR (.ok [(.fz, .int 1), (.fz, .int 0), (.fz, .int (-s)), (.fz, .bl true), (.fz, .non), (.fz, .str (numS s)), (.fz, .lst [.int s]), (.fz, .tup [.int s]), (.fz, .bl false)]) = .ok .fr (.lst nine) := by rfl
  obtain ⟨o, ho, eo⟩ := atI_mod nine (mx c 5) 9 rfl (by decide)
  have xo := ix_l (m := .fr) (m' := .fz) eo
  have rf : (WT TT (k + 4)).Φ "_law_refused" [o] = .ok .fz (.bl true) := by
    refine refused k ?_
    simp only [nine, List.mem_cons, List.not_mem_nil, or_false] at ho
    rcases ho with rfl | rfl | rfl | rfl | rfl | rfl | rfl | rfl | rfl
    · exact .inl ⟨_, rfl, by decide⟩
    · exact .inl ⟨_, rfl, by decide⟩
    · exact .inl ⟨_, rfl, by omega⟩
    · exact .inr (whole k (d := .bl true) rfl rfl)
    · exact .inr (whole k (d := .non) (a := false) (b := false) rfl rfl)
    · exact .inr (whole k (d := .str (numS s)) (a := false) (b := false) rfl rfl)
    · exact .inr (whole k (d := .lst [.int s]) (a := false) (b := false) rfl rfl)
    · exact .inr (whole k (d := .tup [.int s]) (a := false) (b := false) rfl rfl)
    · exact .inr (whole k (d := .bl false) rfl rfl)
  have e1 : b_law_L1 = b_law_L1.take 3 ++ b_law_L1.drop 3 := rfl
  rw [e1, b_app, e]
  show ∃ y4 y5 y6 y7 y8, evB (WT TT (k + 4)) (b_law_L1.drop 3) [some (false, .lst (ns.map .int)), some (false, wh 5), some (false, .int i), some (false, .int c), some (false, .int b), some (false, .int s), x6, x7, x8] = _
  refine ⟨some (false, .int b), some (false, .int s), some (false, .int (c % ten59 + mx c 2)), some (false, .int (b % ten59 + mx b 3)), some (false, o), ?_⟩
  simp [b_law_L1, M, pow59, z59, e_make (wI (k + 2)), md, t1, t2, ss, l1, l2]
  rw [l3]
  simp [M, xo, rf]
def kk : Nat := 4
theorem main (ns : List Int) (h : ns.length ≤ 63) : (WT TT (kk + 1)).Φ ("law" : Str) (lawIn ns) = .ok .fz (.bl true) := by
  rw [u_law]
  refine phi_ok rfl ?_
  show evB (WT TT 4) b_law [some (false, .lst (ns.map .int)), none, none, none, none, none, none, none, none] = _
  have md := made 1 (s := 5) (by decide)
  have i1 : isoR TT.cl "Kind" (.ok .fz (wh 5)) = .ok .fz (.bl true) := by rfl
  have i2 : isoR TT.cl "Single" (.ok .fz (wh 5)) = .ok .fz (.bl false) := by rfl
  have en : enumR (.ok [(.fz, .lst (ns.map .int))]) = .ok .fz (.lst (enumD 0 (ns.map .int))) := rfl
  obtain ⟨ρ', e, x2, x3, x4, x5, x6, x7, x8, rfl⟩ := forR_inv (m := .fz) (ds := enumD 0 (ns.map .int)) (k := setG (.tp [(.nm 2), (.nm 3)])) (body := evB (WT TT 4) b_law_L1) (ρ := [some (false, .lst (ns.map .int)), some (false, wh 5), none, none, none, none, none, none, none])
    (fun ρ => ∃ x2 x3 x4 x5 x6 x7 x8, ρ = [some (false, .lst (ns.map .int)), some (false, wh 5), x2, x3, x4, x5, x6, x7, x8]) (fun d hd ρ hρ => by
      obtain ⟨x2, x3, x4, x5, x6, x7, x8, rfl⟩ := hρ
      obtain ⟨i, x, hx, rfl⟩ := mem_enum hd
      obtain ⟨c, hc, rfl⟩ := List.mem_map.mp hx
      have hn : 0 < ns.length := List.length_pos_of_mem hc
      obtain ⟨y4, y5, y6, y7, y8, e⟩ := body 0 ns hn i c x4 x5 x6 x7 x8
      refine ⟨[some (false, .lst (ns.map .int)), some (false, wh 5), some (false, .int (i : Int)), some (false, .int c), x4, x5, x6, x7, x8], _, by simp, .inl e, _, _, _, _, _, _, _, rfl⟩) ⟨_, _, _, _, _, _, _, rfl⟩
  simp [b_law, e_make (wI 2), md, i1, i2, en, e]
end K08

namespace K08
open PySem L2 D3
theorem walk {l : PySem.W.OpenLaw} {q : Program} {loose : List Str} {XP : (Str → Option Value) → Heap → Prop} {YP : World → Heap → Prop} {d : DefRec} {K : Params → PySem.W.Frag} (hn : l.most = some 63) (hdf : d.params.defaults = [])
    (hY : ∀ (w : World) (h : Heap), YP w h → (K w.params).In h)
    (F : ∀ (w : World) (mg : Str → Option Value) (fa : Addr) (h : Heap), (K w.params).In h → h.Ns mainGlobals mg → mg d.name = some (.ref fa) →
      ∃ fd : FuncData, (∀ (s : Shared) (u : Value), BindsTo s fd ⟨[u], []⟩ [("_law_script", u)]) ∧ ∀ base : Heap, (K w.params).In base → base.Ns mainGlobals mg → FnOk l.prog w (K w.params) mg base (CX1 l.prog w) (kk + 1) fa fd ["_law_script"] (spLw (K w.params) ((WT TT (kk + 1)).Φ ("law" : Str)))) :
    PySem.W.WalkO q loose XP YP l.row.toRowW d [] (fun f vs => PySem.call f vs) :=
  L2.walk_of (n := 63) (k := kk + 1) (x := "_law_script") (CX := fun w => CX1 l.prog w) (sp := fun w => spLw (K w.params) ((WT TT (kk + 1)).Φ ("law" : Str))) hn (by decide) hdf ⟨rfl, by decide, by decide⟩ hY F (fun _ _ a ns hl _ hS => ⟨a, ns, rfl, hS, main ns hl, fun _ => rfl⟩) fun _ _ _ _ _ z => by obtain ⟨_, _, _, _, _, _, _, _, _, _, z⟩ := z; exact z
end K08
open PySem PySem.W PyProof.Rows
set_option maxRecDepth 100000 in
set_option maxHeartbeats 0 in
theorem PySem.Challenge.cw_whencewise_k08_wheels_holds : PySem.Challenge.rw_whencewise_k08_wheels.Holds := by
  w_on; o_law; k_head; (case hw => w_witness2)
  k_fill
  refine K08.walk (l := PySem.Challenge.rw_whencewise_k08_wheels) rfl rfl (fun w h Y => PySem.W.kIn_of Y) ?F
  case F =>
    intro w mg fa h KX G hmg
    refine' K08.all_mk K08.kk KX G hmg ?aC_Kind ?aC_Single ?aC_Wheel ?a0 ?l0 ?c0 ?k0 ?a1 ?l1 ?c1 ?k1 ?a2 ?l2 ?c2 ?k2 ?a3 ?l3 ?c3 ?k3 ?a4 ?l4 ?c4 ?k4 ?a5 ?l5 ?c5 ?k5 ?a6 ?l6 ?c6 ?k6 ?a7 ?j7 ?l7 ?c7 ?k7 ?a8 ?j8 ?l8 ?c8 ?k8 ?a9 ?j9 ?l9 ?c9 ?k9 ?a10 ?j10 ?l10 ?c10 ?k10 ?a11 ?j11 ?l11 ?c11 ?k11 ?a12 ?j12 ?l12 ?c12 ?k12 ?a13 ?j13 ?l13 ?c13 ?k13 ?u_ValueError ?u_bool ?u_enumerate ?u_int ?u_isinstance ?u_len ?u_str ?pg_Kind ?hd_Kind ?po_Kind ?sa_Kind ?pg_Single ?hd_Single ?po_Single ?sa_Single ?pg_Wheel ?hd_Wheel ?po_Wheel ?sa_Wheel ?n_Wheel_size ?aC_WhenceError ?aC_NoName ?aC_NoNote ?aC_NoKind ?aC_Twice ?aC_Misfit ?aC_NoTable ?aC_NoColumn ?aC_Unlike ?aC_NotPlain ?aC_NoText ?rz_NoKind ?ga_NoKind ?gn_NoKind ?xa_NoKind ?xb_NoKind ?xo_NoKind ?hb_NoKind ?ht_NoKind ?hm_NoKind_NoKind ?ic_NoName ?it_NoName ?ic_NoNote ?it_NoNote ?ic_Twice ?it_Twice ?ic_Misfit ?it_Misfit ?ic_NoTable ?it_NoTable ?ic_NoColumn ?it_NoColumn ?ic_Unlike ?it_Unlike ?ic_NotPlain ?it_NotPlain ?ic_NoText ?it_NoText ?ic_WhenceError ?it_WhenceError ?is_NoKind_NoName ?ne_NoKind_NoName ?is_NoKind_NoNote ?ne_NoKind_NoNote ?is_NoKind_Twice ?ne_NoKind_Twice ?is_NoKind_Misfit ?ne_NoKind_Misfit ?is_NoKind_NoTable ?ne_NoKind_NoTable ?is_NoKind_NoColumn ?ne_NoKind_NoColumn ?is_NoKind_Unlike ?ne_NoKind_Unlike ?is_NoKind_NotPlain ?ne_NoKind_NotPlain ?is_NoKind_NoText ?ne_NoKind_NoText ?is_NoKind_WhenceError ?ne_NoKind_WhenceError ?is_NoKind_ValueError ?mk_Wheel ?kc_Wheel ?og ?ot ?oc_Kind ?om_Kind ?oc_Single ?om_Single ?oc_Wheel ?om_Wheel ?ic_Kind ?ty_Kind ?t_Kind_NoneType ?t_Kind_bool ?t_Kind_int ?t_Kind_str ?t_Kind_tuple ?t_Kind_list ?t_Kind_dict ?k_Single_Kind ?ne_Single_Kind ?k_Wheel_Kind ?ne_Wheel_Kind ?ic_Single ?ty_Single ?t_Single_NoneType ?t_Single_bool ?t_Single_int ?t_Single_str ?t_Single_tuple ?t_Single_list ?t_Single_dict ?k_Kind_Single ?ne_Kind_Single ?k_Wheel_Single ?ne_Wheel_Single
    (case aC_Kind => k_is)
    (case aC_Single => k_is)
    (case aC_Wheel => k_is)
    (case a0 => k_is)
    (case l0 => k_is)
    (case c0 => k_is)
    (case k0 => k_is)
    (case a1 => k_is)
    (case l1 => k_is)
    (case c1 => k_is)
    (case k1 => k_is)
    (case a2 => k_is)
    (case l2 => k_is)
    (case c2 => k_is)
    (case k2 => k_is)
    (case a3 => k_is)
    (case l3 => k_is)
    (case c3 => k_is)
    (case k3 => k_is)
    (case a4 => k_is)
    (case l4 => k_is)
    (case c4 => k_is)
    (case k4 => k_is)
    (case a5 => k_is)
    (case l5 => k_is)
    (case c5 => k_is)
    (case k5 => k_is)
    (case a6 => k_is)
    (case l6 => k_is)
    (case c6 => k_is)
    (case k6 => k_is)
    (case a7 => k_is)
    (case j7 => k_is)
    (case l7 => k_is)
    (case c7 => k_is)
    (case k7 => k_is)
    (case a8 => k_is)
    (case j8 => k_is)
    (case l8 => k_is)
    (case c8 => k_is)
    (case k8 => k_is)
    (case a9 => k_is)
    (case j9 => k_is)
    (case l9 => k_is)
    (case c9 => k_is)
    (case k9 => k_is)
    (case a10 => k_is)
    (case j10 => k_is)
    (case l10 => k_is)
    (case c10 => k_is)
    (case k10 => k_is)
    (case a11 => k_is)
    (case j11 => k_is)
    (case l11 => k_is)
    (case c11 => k_is)
    (case k11 => k_is)
    (case a12 => k_is)
    (case j12 => k_is)
    (case l12 => k_is)
    (case c12 => k_is)
    (case k12 => k_is)
    (case a13 => k_is)
    (case j13 => k_is)
    (case l13 => k_is)
    (case c13 => k_is)
    (case k13 => k_is)
    (case u_ValueError => k_is)
    (case u_bool => k_is)
    (case u_enumerate => k_is)
    (case u_int => k_is)
    (case u_isinstance => k_is)
    (case u_len => k_is)
    (case u_str => k_is)
    (case pg_Kind => k_is)
    (case hd_Kind => k_is)
    (case po_Kind => k_is)
    (case sa_Kind => k_is)
    (case pg_Single => k_is)
    (case hd_Single => k_is)
    (case po_Single => k_is)
    (case sa_Single => k_is)
    (case pg_Wheel => k_is)
    (case hd_Wheel => k_is)
    (case po_Wheel => k_is)
    (case sa_Wheel => k_is)
    (case n_Wheel_size => k_is)
    (case aC_WhenceError => k_is)
    (case aC_NoName => k_is)
    (case aC_NoNote => k_is)
    (case aC_NoKind => k_is)
    (case aC_Twice => k_is)
    (case aC_Misfit => k_is)
    (case aC_NoTable => k_is)
    (case aC_NoColumn => k_is)
    (case aC_Unlike => k_is)
    (case aC_NotPlain => k_is)
    (case aC_NoText => k_is)
    (case rz_NoKind => k_exc)
    (case ga_NoKind => k_is)
    (case gn_NoKind => k_is)
    (case xa_NoKind => k_is)
    (case xb_NoKind => k_is)
    (case xo_NoKind => k_is)
    (case hb_NoKind => k_is)
    (case ht_NoKind => k_is)
    (case hm_NoKind_NoKind => k_is)
    (case ic_NoName => k_is)
    (case it_NoName => k_is)
    (case ic_NoNote => k_is)
    (case it_NoNote => k_is)
    (case ic_Twice => k_is)
    (case it_Twice => k_is)
    (case ic_Misfit => k_is)
    (case it_Misfit => k_is)
    (case ic_NoTable => k_is)
    (case it_NoTable => k_is)
    (case ic_NoColumn => k_is)
    (case it_NoColumn => k_is)
    (case ic_Unlike => k_is)
    (case it_Unlike => k_is)
    (case ic_NotPlain => k_is)
    (case it_NotPlain => k_is)
    (case ic_NoText => k_is)
    (case it_NoText => k_is)
    (case ic_WhenceError => k_is)
    (case it_WhenceError => k_is)
    (case is_NoKind_NoName => k_is)
    (case ne_NoKind_NoName => rfl)
    (case is_NoKind_NoNote => k_is)
    (case ne_NoKind_NoNote => rfl)
    (case is_NoKind_Twice => k_is)
    (case ne_NoKind_Twice => rfl)
    (case is_NoKind_Misfit => k_is)
    (case ne_NoKind_Misfit => rfl)
    (case is_NoKind_NoTable => k_is)
    (case ne_NoKind_NoTable => rfl)
    (case is_NoKind_NoColumn => k_is)
    (case ne_NoKind_NoColumn => rfl)
    (case is_NoKind_Unlike => k_is)
    (case ne_NoKind_Unlike => rfl)
    (case is_NoKind_NotPlain => k_is)
    (case ne_NoKind_NotPlain => rfl)
    (case is_NoKind_NoText => k_is)
    (case ne_NoKind_NoText => rfl)
    (case is_NoKind_WhenceError => k_is)
    (case ne_NoKind_WhenceError => rfl)
    (case is_NoKind_ValueError => k_is)
    (case mk_Wheel => k_is)
    (case kc_Wheel => k_is)
    (case og => k_is)
    (case ot => k_is)
    (case oc_Kind => k_is)
    (case om_Kind => k_is)
    (case oc_Single => k_is)
    (case om_Single => k_is)
    (case oc_Wheel => k_is)
    (case om_Wheel => k_is)
    (case ic_Kind => k_is)
    (case ty_Kind => k_is)
    (case t_Kind_NoneType => k_is)
    (case t_Kind_bool => k_is)
    (case t_Kind_int => k_is)
    (case t_Kind_str => k_is)
    (case t_Kind_tuple => k_is)
    (case t_Kind_list => k_is)
    (case t_Kind_dict => k_is)
    (case k_Single_Kind => k_is)
    (case ne_Single_Kind => rfl)
    (case k_Wheel_Kind => k_is)
    (case ne_Wheel_Kind => rfl)
    (case ic_Single => k_is)
    (case ty_Single => k_is)
    (case t_Single_NoneType => k_is)
    (case t_Single_bool => k_is)
    (case t_Single_int => k_is)
    (case t_Single_str => k_is)
    (case t_Single_tuple => k_is)
    (case t_Single_list => k_is)
    (case t_Single_dict => k_is)
    (case k_Kind_Single => k_is)
    (case ne_Kind_Single => rfl)
    (case k_Wheel_Single => k_is)
    (case ne_Wheel_Single => rfl)
